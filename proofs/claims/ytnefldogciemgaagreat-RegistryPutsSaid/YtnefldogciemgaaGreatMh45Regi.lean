/- Registries: the document's Find and Right. -/
import Derived.Test.YtnefldogciemgaaGreatMh39Regi
import Derived.Test.YtnefldogciemgaaGreatMh44Regi
set_option linter.unusedVariables false
set_option linter.unusedSimpArgs false
set_option maxRecDepth 100000
namespace Go.Proofs.YtnefldogciemgaaGreat
open Go.RowKit Go.Shelf
set_option maxHeartbeats 4000000 in
theorem refFind13_any (a:Option Addr) (cap:Nat) (l:List TemplM) (nm:ByteArray) (w:World) (hr:TemplRow w a cap l) :
  Calls Tryz.prog 13 #[.slice a l.length cap,.string nm] w fun e w'=>e=.returned (.int .i64 (Rg.ixJ (Rg.find l nm)))∧Below w.heap.size w w':=by
 have hcap:=hr.2.1
 have hlc:=hr.1
 unfold maxLen at hcap
 obtain ⟨n,hn⟩:∃ n,l.length=n:=⟨_,rfl⟩
 obtain ⟨R,hR⟩:∃ R,Rg.ixJ (Rg.find l nm)=R:=⟨_,rfl⟩
 have HR:=Lib.hid hr;have HN:=Lib.hid hn;have HRR:=Lib.hid hR
 rw [hn] at hlc ⊢
 rw [hR]
 clear hr hn hR
 go_enter Tryz.func13,Tryz.ntmps13
 go_wp2
 go_loopw [5] (fun i wr=>∃ k:Nat,k≤n∧i=.int .i64 k∧Below w.heap.size w wr∧Hid (∀ j t,j<k→l[j]? = some t→Sc.eqN t.nm nm=false)) (fun i _=>n-(intOf i).toNat)
 case atStart=>exact ⟨0,Nat.zero_le _,rfl,Below.refl _ _,Lib.hid (fun j y hj=>by omega)⟩
 case round=>
  obtain ⟨k,hk,rfl,hbw,HE⟩:=hrel
  rcases Nat.lt_or_ge k n with hlt | hge
  ·have hd:decide ((k:Int)<(n:Int))=true:=by simp;omega
   have hnl:=HN.out
   obtain ⟨y,hy⟩:∃ y,l[k]? = some y:=⟨l[k],List.getElem?_eq_getElem (by omega)⟩
   obtain ⟨sb,so,rfl,hrow⟩:∃ b off,a=some ⟨b,off,none⟩∧∀ i s,l[i]? = some s→TemplAt w b (off+i*3) s:=by
    rcases HR.out.2.2 with h | h
    ·subst h;simp at hnl;omega
    ·exact h
   obtain ⟨la,lc,oa,oc,⟨g0,g1,g2⟩,hsn,hst⟩:=templAt_form (hrow k y hy)
   have y0:=cell_below hbw g0
   obtain ⟨B,hB⟩:∃ B,Sc.eqN y.nm nm=B:=⟨_,rfl⟩
   have heq:(y.nm.toList == nm.toList)=B:=by
    rw [←hB]
    unfold Sc.eqN
    rw [Bool.eq_iff_iff,beq_iff_eq,decide_eq_true_eq,toList_data,toList_data]
   have HY:=Lib.hid hy;have HB:=Lib.hid hB
   clear hy hB hst hsn hrow hnl g0 g1 g2
   cases B with
   |true=>
    have hans:(k:Int)=R:=by
     rw [←HRR.out]
     unfold Rg.find
     rw [Rg.find_first HY.out HB.out (fun j z hj hz=>HE.out j z hj hz)]
     rfl
    have HA:=Lib.hid hans
    clear hans
    go_wp2
    go_ret
    exact ⟨ret_int HA.out,hbw⟩
   |false=>
    go_wp2
    go_roundw
    case rel=>exact ⟨k+1,by omega,by go_num,hbw,Lib.hid (fun j z hj hz=>by
     rcases Nat.lt_or_ge j k with h | h
     ·exact HE.out j z h hz
     ·obtain rfl:j=k:=by omega
      rw [HY.out] at hz
      cases hz
      exact HB.out)⟩
    case measure=>simp [intOf];omega
  ·obtain rfl:k=n:=by omega
   have hd:decide ((k:Int)<(k:Int))=false:=by simp
   have hans:(-1:Int)=R:=by
    rw [←HRR.out]
    unfold Rg.find
    rw [Rg.find_never (fun j z hj hz=>HE.out j z (by have:=HN.out;omega) hz)]
    rfl
   have HA:=Lib.hid hans
   clear hans
   go_wp2
   go_ret
   exact ⟨ret_int HA.out,hbw⟩
set_option maxHeartbeats 4000000 in
theorem refRight10_any (t:TemplM) (w:World) (X:Value) (hg:greatT t=false) (hi:IsTempl w t X):Calls Tryz.prog 26 #[X] w fun e w'=>e=.returned (.bool (Rg.rightT t))∧Below w.heap.size w w':=by
 have hi0:=hi
 obtain ⟨h1,sa,sc,ta,tc,rfl,hs,ht⟩:=hi
 have hB0:=(Below.refl _ w).alloc (Nat.le_refl _) (.cells #[.string t.nm,.slice sa t.slots.length sc,.slice ta t.steps.length tc] 45)
 have hV:=refVersions_any t w _ _ hB0 hg hi0
 have hV2:Calls Tryz.prog 56 #[.agg #[.string t.nm,.slice sa t.slots.length sc,.slice ta t.steps.length tc]] (w.alloc (.cells #[.string t.nm,.slice sa t.slots.length sc,.slice ta t.steps.length tc] 45)) fun e w'=>(∃ (a:Option Addr) (n c:Nat),e=.returned (.slice a n c)∧decide ((n:Int) > 0)=Rg.rightT t)∧Below (w.alloc (.cells #[.string t.nm,.slice sa t.slots.length sc,.slice ta t.steps.length tc] 45)).heap.size (w.alloc (.cells #[.string t.nm,.slice sa t.slots.length sc,.slice ta t.steps.length tc] 45)) w':=hV.mono fun e w' h=>by
  unfold VersR at h
  unfold Rg.rightT
  cases hv:Sc.vers t with
  |none=>rw [hv] at h;exact ⟨⟨none,0,0,h.1,rfl⟩,h.2⟩
  |some L=>
   rw [hv] at h
   obtain ⟨⟨ov,rfl,ho⟩,hb⟩:=h
   have hl:=(Sc.vers_length hv).1
   obtain ⟨cs,ho⟩:=ho
   obtain ⟨a,c,rfl⟩:=own_form9 ho.1
   exact ⟨⟨a,L.length,c,rfl,by simp;omega⟩,hb⟩
 obtain ⟨R,hR⟩:∃ R,Rg.rightT t=R:=⟨_,rfl⟩
 rw [hR] at hV2 ⊢
 have HV:=Lib.hid hV2
 clear hV hV2 hi0 hs ht hR
 go_enter Tryz.func26,Tryz.ntmps26
 go_wp2_with (go_at_call 56;(with_reducible refine (HV.out).mono ?_);rintro e w1 ⟨⟨a,n,c,rfl,hnn⟩,hB1⟩)
 go_ret
 exact ⟨ret_bool (by first | exact hnn | (rw [←hnn];simp)),hB0.trans (hB1.mono hB0.size)⟩
namespace Rg
def eqN' (a b:ByteArray):Bool:=Sc.eqN a b
theorem right_names {l:List TemplM} (h:right l=true) {i j:Nat} {t u:TemplM} (hi:l[i]? = some t) (hj:l[j]? = some u) (e:u.nm=t.nm):j=i:=by
 have hf:=((right_iff l).1 h).2
 have h1:=(hf i t hi).2
 have h2:=(hf j u hj).2
 rw [e] at h2
 have:=h2.symm.trans h1
 simp only [Option.some.injEq] at this
 exact this
theorem right_of {l:List TemplM} (h6:l.length≤6) (h:∀ (i:Nat) (t:TemplM),l[i]? = some t→rightT t=true∧∀ (j:Nat) (u:TemplM),j<i→l[j]? = some u→eqN' t.nm u.nm=false):right l=true:=by
 refine (right_iff l).2 ⟨h6,fun i t ht=>⟨(h i t ht).1,find_first ht ((Sc.eqN_iff _ _).2 rfl) fun j y hj hy=>?_⟩⟩
 have:=(h i t ht).2 j y hj hy
 cases hb:Sc.eqN y.nm t.nm with
 |false=>rfl
 |true=>
  have e:=(Sc.eqN_iff _ _).1 hb
  rw [e] at this
  have h9:eqN' t.nm t.nm=true:=(Sc.eqN_iff _ _).2 rfl
  rw [h9] at this
  cases this
end Rg
set_option maxHeartbeats 4000000 in
theorem refRight13_any (a:Option Addr) (cap:Nat) (l:List TemplM) (w:World) (hr:TemplRow w a cap l) (hg:∀ t∈l,greatT t=false) :
  Calls Tryz.prog 8 #[.slice a l.length cap] w fun e w'=>e=.returned (.bool (Rg.right l))∧Below w.heap.size w w':=by
 have hcap:=hr.2.1
 have hlc:=hr.1
 unfold maxLen at hcap
 have hri:=Rg.right_iff l
 have hrn:=fun (h:Rg.right l=true) (i j:Nat) (t u:TemplM) (hi:l[i]? = some t) (hj:l[j]? = some u) (e:u.nm=t.nm)=>Rg.right_names h hi hj e
 have hro:=fun h6 h=>Rg.right_of (l:=l) h6 h
 obtain ⟨B,hB⟩:∃ B,Rg.right l=B:=⟨_,rfl⟩
 rw [hB] at hri hrn hro ⊢
 obtain ⟨n,hn⟩:∃ n,l.length=n:=⟨_,rfl⟩
 have HR:=Lib.hid hr;have HN:=Lib.hid hn;have HRI:=Lib.hid hri;have HRN:=Lib.hid hrn;have HRO:=Lib.hid hro;have HG:=Lib.hid hg
 rw [hn] at hlc ⊢
 clear hr hn hri hrn hro hB hg
 go_enter Tryz.func8,Tryz.ntmps8
 go_wp2
 go_loopw [3] (fun i wr=>∃ k:Nat,k≤n∧i=.int .i64 k∧Below w.heap.size w wr∧Hid (∀ j t,j<k→l[j]? = some t→Rg.rightT t=true∧∀ (j':Nat) (u:TemplM),j'<j→l[j']? = some u→Rg.eqN' t.nm u.nm=false)) (fun i _=>n-(intOf i).toNat)
 case atStart=>exact ⟨0,Nat.zero_le _,rfl,Below.refl _ _,Lib.hid (fun j y hj=>by omega)⟩
 case round=>
  obtain ⟨k,hk,rfl,hbw,HE⟩:=hrel
  rcases Nat.lt_or_ge k n with hlt | hge
  ·have hd:decide ((k:Int)<(n:Int))=true:=by simp;omega
   have hnl:=HN.out
   obtain ⟨y,hy⟩:∃ y,l[k]? = some y:=⟨l[k],List.getElem?_eq_getElem (by omega)⟩
   obtain ⟨sb,so,rfl,hrow⟩:∃ b off,a=some ⟨b,off,none⟩∧∀ i s,l[i]? = some s→TemplAt w b (off+i*3) s:=by
    rcases HR.out.2.2 with h | h
    ·subst h;simp at hnl;omega
    ·exact h
   obtain ⟨la,lc,oa,oc,⟨g0,g1,g2⟩,hsn,hst⟩:=templAt_form (hrow k y hy)
   have y0:=cell_below hbw g0
   have y1:=cell_below hbw g1
   have y2:=cell_below hbw g2
   have HX:=Lib.hid (refRight10_any y wr _ (HG.out y (List.mem_of_getElem? hy)) (isTempl_below hbw hst))
   obtain ⟨R,hR⟩:∃ R,Rg.rightT y=R:=⟨_,rfl⟩
   rw [hR] at HX
   have HY:=Lib.hid hy;have HRR:=Lib.hid hR;have HROW:=Lib.hid hrow
   have G0:=Lib.hid g0
   clear hy hR hst hsn hrow hnl g0 g1 g2
   cases R with
   |false=>
    have hb0:B=false:=by
     cases B with
     |false=>rfl
     |true=>have:=((HRI.out.1 rfl).2 k y HY.out).1;rw [HRR.out] at this;cases this
    subst hb0
    go_wp2_with (go_at_call 26;(with_reducible refine (HX.out).mono ?_);rintro e w1 ⟨rfl,hB1⟩)
    go_ret
    exact ⟨rfl,hbw.trans (hB1.mono hbw.size)⟩
   |true=>
    go_wp2_with (go_at_call 26;(with_reducible refine (HX.out).mono ?_);rintro e w1 ⟨rfl,hB1⟩;have hb1:=hbw.trans (hB1.mono hbw.size))
    obtain ⟨wk,hwk⟩:∃ x,x=wr:=⟨_,rfl⟩
    subst hwk
    go_loopw [4] (fun i wr=>∃ q:Nat,q≤k∧i=.int .i64 q∧Below w.heap.size w wr∧Hid (∀ j u,j<q→l[j]? = some u→Rg.eqN' y.nm u.nm=false)) (fun i _=>k-(intOf i).toNat)
    case atStart=>exact ⟨0,Nat.zero_le _,rfl,hb1,Lib.hid (fun j y hj=>by omega)⟩
    case round=>
     obtain ⟨q,hq,rfl,hbq,HEQ⟩:=hrel
     rcases Nat.lt_or_ge q k with hqk | hqk
     ·have hd2:decide ((q:Int)<(k:Int))=true:=by simp;omega
      have hnl:=HN.out
      obtain ⟨z,hz⟩:∃ z,l[q]? = some z:=⟨l[q],List.getElem?_eq_getElem (by omega)⟩
      obtain ⟨lb,ld,ob,od,⟨k0,k1,k2⟩,ksn,kst⟩:=templAt_form (HROW.out q z hz)
      have x0:=cell_below hbq G0.out
      have z0:=cell_below hbq k0
      obtain ⟨E,hE⟩:∃ E,Rg.eqN' y.nm z.nm=E:=⟨_,rfl⟩
      have heq:(y.nm.toList == z.nm.toList)=E:=by
       rw [←hE]
       unfold Rg.eqN' Sc.eqN
       rw [Bool.eq_iff_iff,beq_iff_eq,decide_eq_true_eq,toList_data,toList_data]
      have HZ:=Lib.hid hz;have HEE:=Lib.hid hE
      obtain ⟨s1,hs1⟩:∃ s,y.nm=s:=⟨_,rfl⟩
      obtain ⟨s2,hs2⟩:∃ s,z.nm=s:=⟨_,rfl⟩
      rw [hs1] at x0 heq
      rw [hs2] at z0 heq
      have HS1:=Lib.hid hs1;have HS2:=Lib.hid hs2
      clear hz hE hnl k0 k1 k2 ksn kst y0 y1 y2 hs1 hs2
      cases E with
      |true=>
       have hb0:B=false:=by
        cases B with
        |false=>rfl
        |true=>
         have:=HRN.out rfl k q y z HY.out HZ.out ((Sc.eqN_iff _ _).1 HEE.out).symm
         omega
       subst hb0
       go_wp2
       go_region
       all_goals go_wp2
       all_goals go_ret
       all_goals exact ⟨rfl,below_drewN hbq _⟩
      |false=>
       go_wp2
       go_region
       all_goals go_wp2
       all_goals go_roundw
       all_goals (first
        |(case' rel=>exact ⟨q+1,by omega,by go_num,below_drewN hbq _,Lib.hid (fun j u hj hu=>by
          rcases Nat.lt_or_ge j q with h | h
          ·exact HEQ.out j u h hu
          ·obtain rfl:j=q:=by omega
           rw [HZ.out] at hu
           cases hu
           exact HEE.out)⟩)
        |(case' measure=>simp [intOf];omega))
     ·obtain rfl:q=k:=by omega
      have hd2:decide ((q:Int)<(q:Int))=false:=by simp
      clear y0 y1 y2
      go_wp2
      go_roundw
      case rel=>exact ⟨q+1,by omega,by go_num,hbq,Lib.hid (fun j t hj ht=>by
       rcases Nat.lt_or_ge j q with h | h
       ·exact HE.out j t h ht
       ·obtain rfl:j=q:=by omega
        rw [HY.out] at ht
        cases ht
        exact ⟨HRR.out,HEQ.out⟩)⟩
      case measure=>simp [intOf];omega
  ·obtain rfl:k=n:=by omega
   have hd:decide ((k:Int)<(k:Int))=false:=by simp
   have hall:=fun (i:Nat) (t:TemplM) (ht:l[i]? = some t)=>HE.out i t (by have h3:=(List.getElem?_eq_some_iff.1 ht).1;have h4:=HN.out;omega) ht
   have hb0:decide ((k:Int)≤6)=B:=by
    have h4:=HN.out
    by_cases h6:k≤6
    ·rw [decide_eq_true (by omega)]
     exact (HRO.out (by omega) hall).symm
    ·rw [decide_eq_false (by omega)]
     cases B with
     |false=>rfl
     |true=>have:=(HRI.out.1 rfl).1;omega
   have HB0:=Lib.hid hb0
   clear hb0 hall
   go_wp2
   go_ret
   exact ⟨ret_bool (by first | exact HB0.out | (rw [←HB0.out];simp)),hbw⟩
