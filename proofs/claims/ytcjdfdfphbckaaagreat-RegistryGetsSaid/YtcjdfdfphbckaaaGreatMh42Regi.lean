/- Registries: the document's Find and Right. -/
import Derived.Test.YtcjdfdfphbckaaaGreatMh38Regi
import Derived.Test.YtcjdfdfphbckaaaGreatMh2Regi
import Derived.Test.YtcjdfdfphbckaaaGreatMh41Regi
set_option linter.unusedVariables false
set_option linter.unusedSimpArgs false
set_option maxRecDepth 100000
set_option maxHeartbeats 64000000
open Go.Proofs.Tryz
namespace Go.Proofs.YtcjdfdfphbckaaaGreat
open Go.RowKit Go.Shelf
theorem ZFv (t:TemplM) (w:World) (X:Value) (hg:wideT t=false) (hi:ZA8 w t X):Calls Tryz.prog 49 #[X] w fun e w'=>e=.returned (.bool (Rg.rightT t))∧Below w.heap.size w w':=by
 have hi0:=hi
 obtain ⟨h1,sa,sc,ta,tc,rfl,hs,ht⟩:=hi
 have hB0:=(Below.refl _ w).alloc (Nat.le_refl _) (.cells #[.string t.nm,.slice sa t.slots.length sc,.slice ta t.steps.length tc] 40)
 have hV:=ZFI t w _ _ hB0 hg hi0
 have hV2:Calls Tryz.prog 79 #[.agg #[.string t.nm,.slice sa t.slots.length sc,.slice ta t.steps.length tc]] (w.alloc (.cells #[.string t.nm,.slice sa t.slots.length sc,.slice ta t.steps.length tc] 40)) fun e w'=>(∃ (a:Option Addr) (n c:Nat),e=.returned (.slice a n c)∧decide ((n:Int) > 0)=Rg.rightT t)∧Below (w.alloc (.cells #[.string t.nm,.slice sa t.slots.length sc,.slice ta t.steps.length tc] 40)).heap.size (w.alloc (.cells #[.string t.nm,.slice sa t.slots.length sc,.slice ta t.steps.length tc] 40)) w':=hV.mono fun e w' h=>by
  unfold ZNe at h
  unfold Rg.rightT
  cases hv:Sc.vers t with
  |none=>rw [hv] at h;exact ⟨⟨none,0,0,h.1,rfl⟩,h.2⟩
  |some L=>
   rw [hv] at h
   obtain ⟨⟨ov,rfl,ho⟩,hb⟩:=h
   have hl:=(Sc.vers_length hv).1
   obtain ⟨cs,ho⟩:=ho
   obtain ⟨a,c,rfl⟩:=ZAe ho.1
   exact ⟨⟨a,L.length,c,rfl,by simp;omega⟩,hb⟩
 obtain ⟨R,hR⟩:∃ R,Rg.rightT t=R:=⟨_,rfl⟩
 rw [hR] at hV2 ⊢
 have HV:=ZZY hV2
 clear hV hV2 hi0 hs ht hR
 go_enter func49,ntmps49
 go_wp2_with (go_at_call 79;(with_reducible refine (HV.out).mono ?_);rintro e w1 ⟨⟨a,n,c,rfl,hnn⟩,hB1⟩)
 go_ret
 exact ⟨ZAG (by first | exact hnn | (rw [←hnn];simp)),hB0.trans (hB1.mono hB0.size)⟩
namespace Rg
def eqN' (a b:ByteArray):Bool:=Sc.eqN a b
theorem right_names {l:List TemplM} (h:right l=true) {i j:Nat} {t u:TemplM} (hi:l[i]? = some t) (hj:l[j]? = some u) (e:u.nm=t.nm):j=i:=by
 have hf:=((right_iff l).1 h).2
 have h1:=(hf i t hi).2
 have h2:=(hf j u hj).2
 rw [e] at h2
 have:=h2.symm.trans h1
 simp only [Option.some.injEq] at this
 exact this
theorem right_of {l:List TemplM} (h6:l.length≤6) (h:∀ (i:Nat) (t:TemplM),l[i]? = some t→rightT t=true∧∀ (j:Nat) (u:TemplM),j<i→l[j]? = some u→eqN' t.nm u.nm=false):right l=true:=by
 refine (right_iff l).2 ⟨h6,fun i t ht=>⟨(h i t ht).1,find_first ht ((Sc.eqN_iff _ _).2 rfl) fun j y hj hy=>?_⟩⟩
 have:=(h i t ht).2 j y hj hy
 cases hb:Sc.eqN y.nm t.nm with
 |false=>rfl
 |true=>
  have e:=(Sc.eqN_iff _ _).1 hb
  rw [e] at this
  have h9:eqN' t.nm t.nm=true:=(Sc.eqN_iff _ _).2 rfl
  rw [h9] at this
  cases this
end Rg
theorem ZFw (a:Option Addr) (cap:Nat) (l:List TemplM) (w:World) (hr:ZAw w a cap l) (hg:∀ t∈l,wideT t=false) :
  Calls Tryz.prog 31 #[.slice a l.length cap] w fun e w'=>e=.returned (.bool (Rg.right l))∧Below w.heap.size w w':=by
 have hcap:=hr.2.1
 have hlc:=hr.1
 unfold maxLen at hcap
 have hri:=Rg.right_iff l
 have hrn:=fun (h:Rg.right l=true) (i j:Nat) (t u:TemplM) (hi:l[i]? = some t) (hj:l[j]? = some u) (e:u.nm=t.nm)=>Rg.right_names h hi hj e
 have hro:=fun h6 h=>Rg.right_of (l:=l) h6 h
 obtain ⟨B,hB⟩:∃ B,Rg.right l=B:=⟨_,rfl⟩
 rw [hB] at hri hrn hro ⊢
 obtain ⟨n,hn⟩:∃ n,l.length=n:=⟨_,rfl⟩
 have HR:=ZZY hr;have HN:=ZZY hn;have HRI:=ZZY hri;have HRN:=ZZY hrn;have HRO:=ZZY hro;have HG:=ZZY hg
 rw [hn] at hlc ⊢
 clear hr hn hri hrn hro hB hg
 go_enter func31,ntmps31
 go_wp2
 go_loopw [3] (fun i wr=>∃ k:Nat,k≤n∧i=.int .i64 k∧Below w.heap.size w wr∧Hid (∀ j t,j<k→l[j]? = some t→Rg.rightT t=true∧∀ (j':Nat) (u:TemplM),j'<j→l[j']? = some u→Rg.eqN' t.nm u.nm=false)) (fun i _=>n-(intOf i).toNat)
 case atStart=>exact ⟨0,Nat.zero_le _,rfl,Below.refl _ _,ZZY (fun j y hj=>by omega)⟩
 case round=>
  obtain ⟨k,hk,rfl,hbw,HE⟩:=hrel
  rcases Nat.lt_or_ge k n with hlt | hge
  ·have hd:decide ((k:Int)<(n:Int))=true:=by simp;omega
   have hnl:=HN.out
   obtain ⟨y,hy⟩:∃ y,l[k]? = some y:=⟨l[k],List.getElem?_eq_getElem (by omega)⟩
   obtain ⟨sb,so,rfl,hrow⟩:∃ b off,a=some ⟨b,off,none⟩∧∀ i s,l[i]? = some s→ZCe w b (off+i*3) s:=by
    rcases HR.out.2.2 with h | h
    ·subst h;simp at hnl;omega
    ·exact h
   obtain ⟨la,lc,oa,oc,⟨g0,g1,g2⟩,hsn,hst⟩:=ZB4 (hrow k y hy)
   have y0:=ZAA hbw g0
   have y1:=ZAA hbw g1
   have y2:=ZAA hbw g2
   have HX:=ZZY (ZFv y wr _ (HG.out y (List.mem_of_getElem? hy)) (ZBU hbw hst))
   obtain ⟨R,hR⟩:∃ R,Rg.rightT y=R:=⟨_,rfl⟩
   rw [hR] at HX
   have HY:=ZZY hy;have HRR:=ZZY hR;have HROW:=ZZY hrow
   have G0:=ZZY g0
   clear hy hR hst hsn hrow hnl g0 g1 g2
   cases R with
   |false=>
    have hb0:B=false:=by
     cases B with
     |false=>rfl
     |true=>have:=((HRI.out.1 rfl).2 k y HY.out).1;rw [HRR.out] at this;cases this
    subst hb0
    go_wp2_with (go_at_call 49;(with_reducible refine (HX.out).mono ?_);rintro e w1 ⟨rfl,hB1⟩)
    go_ret
    exact ⟨rfl,hbw.trans (hB1.mono hbw.size)⟩
   |true=>
    go_wp2_with (go_at_call 49;(with_reducible refine (HX.out).mono ?_);rintro e w1 ⟨rfl,hB1⟩;have hb1:=hbw.trans (hB1.mono hbw.size))
    obtain ⟨wk,hwk⟩:∃ x,x=wr:=⟨_,rfl⟩
    subst hwk
    go_loopw [4] (fun i wr=>∃ q:Nat,q≤k∧i=.int .i64 q∧Below w.heap.size w wr∧Hid (∀ j u,j<q→l[j]? = some u→Rg.eqN' y.nm u.nm=false)) (fun i _=>k-(intOf i).toNat)
    case atStart=>exact ⟨0,Nat.zero_le _,rfl,hb1,ZZY (fun j y hj=>by omega)⟩
    case round=>
     obtain ⟨q,hq,rfl,hbq,HEQ⟩:=hrel
     rcases Nat.lt_or_ge q k with hqk | hqk
     ·have hd2:decide ((q:Int)<(k:Int))=true:=by simp;omega
      have hnl:=HN.out
      obtain ⟨z,hz⟩:∃ z,l[q]? = some z:=⟨l[q],List.getElem?_eq_getElem (by omega)⟩
      obtain ⟨lb,ld,ob,od,⟨k0,k1,k2⟩,ksn,kst⟩:=ZB4 (HROW.out q z hz)
      have x0:=ZAA hbq G0.out
      have z0:=ZAA hbq k0
      obtain ⟨E,hE⟩:∃ E,Rg.eqN' y.nm z.nm=E:=⟨_,rfl⟩
      have heq:(y.nm.toList == z.nm.toList)=E:=by
       rw [←hE]
       unfold Rg.eqN' Sc.eqN
       rw [Bool.eq_iff_iff,beq_iff_eq,decide_eq_true_eq,ZAz,ZAz]
      have HZ:=ZZY hz;have HEE:=ZZY hE
      obtain ⟨s1,hs1⟩:∃ s,y.nm=s:=⟨_,rfl⟩
      obtain ⟨s2,hs2⟩:∃ s,z.nm=s:=⟨_,rfl⟩
      rw [hs1] at x0 heq
      rw [hs2] at z0 heq
      have HS1:=ZZY hs1;have HS2:=ZZY hs2
      clear hz hE hnl k0 k1 k2 ksn kst y0 y1 y2 hs1 hs2
      cases E with
      |true=>
       have hb0:B=false:=by
        cases B with
        |false=>rfl
        |true=>
         have:=HRN.out rfl k q y z HY.out HZ.out ((Sc.eqN_iff _ _).1 HEE.out).symm
         omega
       subst hb0
       go_wp2
       go_region
       all_goals go_wp2
       all_goals go_ret
       all_goals exact ⟨rfl,ZAh hbq _⟩
      |false=>
       go_wp2
       go_region
       all_goals go_wp2
       all_goals go_roundw
       all_goals (first
        |(case' rel=>exact ⟨q+1,by omega,by go_num,ZAh hbq _,ZZY (fun j u hj hu=>by
          rcases Nat.lt_or_ge j q with h | h
          ·exact HEQ.out j u h hu
          ·obtain rfl:j=q:=by omega
           rw [HZ.out] at hu
           cases hu
           exact HEE.out)⟩)
        |(case' measure=>simp [intOf];omega))
     ·obtain rfl:q=k:=by omega
      have hd2:decide ((q:Int)<(q:Int))=false:=by simp
      clear y0 y1 y2
      go_wp2
      go_roundw
      case rel=>exact ⟨q+1,by omega,by go_num,hbq,ZZY (fun j t hj ht=>by
       rcases Nat.lt_or_ge j q with h | h
       ·exact HE.out j t h ht
       ·obtain rfl:j=q:=by omega
        rw [HY.out] at ht
        cases ht
        exact ⟨HRR.out,HEQ.out⟩)⟩
      case measure=>simp [intOf];omega
  ·obtain rfl:k=n:=by omega
   have hd:decide ((k:Int)<(k:Int))=false:=by simp
   have hall:=fun (i:Nat) (t:TemplM) (ht:l[i]? = some t)=>HE.out i t (by have h3:=(List.getElem?_eq_some_iff.1 ht).1;have h4:=HN.out;omega) ht
   have hb0:decide ((k:Int)≤6)=B:=by
    have h4:=HN.out
    by_cases h6:k≤6
    ·rw [decide_eq_true (by omega)]
     exact (HRO.out (by omega) hall).symm
    ·rw [decide_eq_false (by omega)]
     cases B with
     |false=>rfl
     |true=>have:=(HRI.out.1 rfl).1;omega
   have HB0:=ZZY hb0
   clear hb0 hall
   go_wp2
   go_ret
   exact ⟨ZAG (by first | exact HB0.out | (rw [←HB0.out];simp)),hbw⟩
