/- Registries: whether a template is right (right$1, right$2, right), Find, Right. -/
import Derived.Test.YtcjdfdfphbckaaaGreatMh22Regi
import Derived.Test.YtcjdfdfphbckaaaGreatMh12Regi
import Derived.Laws.EntriesVeiled
import Derived.Test.YtcjdfdfphbckaaaGreatMh21Regi
import Derived.Test.YtcjdfdfphbckaaaGreatMh5Regi
import Derived.Test.YtcjdfdfphbckaaaGreatMh4Regi
import Derived.Test.YtcjdfdfphbckaaaGreatMh2Regi
set_option linter.unusedVariables false
set_option linter.unusedSimpArgs false
set_option maxRecDepth 100000
set_option maxHeartbeats 64000000
open Go.Proofs.Tryz
namespace Go.Proofs.YtcjdfdfphbckaaaGreat
open Go.RowKit Go.Shelf
theorem ZOO (v:PV):decide (((valB v).length:Int)=0) = !rightV v:=by
 unfold valB
 by_cases h:rightV v=true
 ·rw [if_pos h,h]
  cases v with
  |mk k n s l=>exact decide_eq_false (by simp only [putV,List.length_cons];omega)
 ·rw [if_neg h]
  simp only [Bool.not_eq_true] at h
  rw [h];rfl
def oddS (s:SlotM):Bool:=!rightV s.df
def oddP (t:StepM):Bool:=!rightV t.sl.df
theorem ZMn (s:SlotM) (w:World) (x:Value) (hs:ZBe w s x):Calls Tryz.prog 61 #[x] w fun e w'=>e=.returned (.bool (oddS s))∧Below w.heap.size w w':=by
 obtain ⟨k,n,t,a,len,cap,rfl,hI,hnm,hd⟩:=ZCF hs
 have hB0:=(Below.refl _ w).alloc (Nat.le_refl _) (.cells #[.string s.nm,.int .i64 s.ty,.bool s.rq,.int .i64 k,.int .i64 n,.string t,.slice a len cap] 51)
 have hV:=ZGs s.df _ _ (ZAf hB0 _ _ hd)
 have hl:=ZOO s.df
 unfold oddS
 rw [←hl]
 generalize valB s.df=L at *
 clear hs hd hl
 go_enter func61,ntmps61
 go_wp2_with (go_at_call 62;(with_reducible refine hV.mono ?_);rintro e w1 ⟨v,rfl,ho,hB1⟩;obtain ⟨a1,m1,c1,rfl,hr1⟩:=ZAW ho;have hm1:=hr1.1)
 go_ret
 exact ⟨ZAG (by rw [hm1];first | rfl | simp),hB0.trans (hB1.mono hB0.size)⟩
theorem ZH7 (args:Array Value) (w:World):(callFunc 61 args).run Tryz.prog w=.ok (.enter 61 args) w:=enters_of func61 (by kernel_rfl) rfl args w
theorem ZOP (s:StepM) (w:World) (x:Value) (b:Nat) (hs:ZA3 w s x) (hb:w.cell? ⟨b,0,none⟩=some (.func (.func 61) #[] #[])) :
  Calls Tryz.prog 65 #[x,.pointer (some ⟨b,0,none⟩)] w fun e w'=>e=.returned (.bool (oddP s))∧Below w.heap.size w w':=by
 have eg:=ZH7
 have hsl0:=hs
 obtain ⟨k,n,t,a,len,cap,oa,oc,rfl,hI,hI2,hI3,hnm,hd,hrow,hod⟩:=ZBF hs
 have hB0:=(Below.refl _ w).alloc (Nat.le_refl _) (.cells #[.int .i64 s.kd,.int .i64 s.col,.string s.sl.nm,.int .i64 s.sl.ty,.bool s.sl.rq,.int .i64 k,.int .i64 n,.string t,.slice a len cap,.slice oa s.od.length oc] 54)
 have hO:=ZMn s.sl _ _ (ZAn hB0 (ZBx hsl0))
 have c0:=ZAA hB0 hb
 have hoo:oddP s=oddS s.sl:=rfl
 rw [hoo]
 generalize oddS s.sl=B at *
 clear hs hsl0 hd hrow hod hb
 go_enter func65,ntmps65
 go_wp2_with (go_at_fn 61;(with_reducible refine hO.mono ?_);rintro e w1 ⟨rfl,hB1⟩)
 go_ret
 exact ⟨rfl,hB0.trans (hB1.mono hB0.size)⟩
theorem ZLd (args:Array Value) (w:World):(callFunc 65 args).run Tryz.prog w=.ok (.enter 65 args) w:=enters_of func65 (by kernel_rfl) rfl args w
def ZFj (t:TemplM):Prop:=∀ (W:World) (X:Value),ZA8 W t X→Calls Tryz.prog 66 #[X] W fun e w'=>e=.returned (.bool (Rg.rightT t))∧Below W.heap.size W w'
theorem ZLe {t:TemplM} (h:Rg.rightT t=true):t.slots.any oddS=false∧t.steps.any oddP=false:=by
 have ho:=Rg.rightT_ok h
 refine ⟨List.any_eq_false.2 fun s hs=>?_,List.any_eq_false.2 fun s hs=>?_⟩
 ·unfold oddS;rw [Rg.sound_right (ho.so s hs)];simp
 ·unfold oddP;rw [Rg.stepOk_right (ho.st s hs)];simp
theorem ZH8 {w W:World} {c0 c1 c2:Value} {t:TypeId} {o:Obj} (h:Below ((w.alloc (.cells #[c0,c1,c2] t)).alloc o).heap.size ((w.alloc (.cells #[c0,c1,c2] t)).alloc o) W) :
  W.cell? ⟨w.heap.size,0,none⟩=some c0∧W.cell? ⟨w.heap.size,1,none⟩=some c1∧W.cell? ⟨w.heap.size,2,none⟩=some c2:=
 ⟨ZAA h (by simp),ZAA h (by simp),ZAA h (by simp)⟩
theorem ZKb {w W:World} {c0 c1 c2:Value} {t:TypeId} {o:Obj} (h:Below ((w.alloc (.cells #[c0,c1,c2] t)).alloc o).heap.size ((w.alloc (.cells #[c0,c1,c2] t)).alloc o) W) :
  W.cell? ⟨w.heap.size,2,none⟩=some c2:=(ZH8 h).2.2
theorem ZKc {w W:World} {c0 c1 c2:Value} {t:TypeId} (h:Below (w.alloc (.cells #[c0,c1,c2] t)).heap.size (w.alloc (.cells #[c0,c1,c2] t)) W) :
  W.cell? ⟨w.heap.size,0,none⟩=some c0:=ZAA h (by simp)
theorem ZH9 (t:TemplM) (w:World) (x:Value) (hR:ZFj t) (h1:t.slots.length≤100000) (h2:t.steps.length≤100000) (hi:ZA8 w t x) :
  Calls Tryz.prog 37 #[x] w fun e w'=>e=.returned (.bool (Rg.rightT t))∧Below w.heap.size w w':=by
 have hev:=ZLe (t:=t)
 have hi0:=hi
 obtain ⟨hnm,sa,sc,ta,tc,rfl,hs,ht⟩:=hi
 have hB0:=((Below.refl _ w).alloc (Nat.le_refl _) (.cells #[.string t.nm,.slice sa t.slots.length sc,.slice ta t.steps.length tc] 40)).alloc (by simp) (.cells #[.func (.func 61) #[] #[]] 95)
 have hcf:((w.alloc (.cells #[.string t.nm,.slice sa t.slots.length sc,.slice ta t.steps.length tc] 40)).alloc (.cells #[.func (.func 61) #[] #[]] 95)).cell? ⟨w.heap.size+1,0,none⟩=some (.func (.func 61) #[] #[]):=by simp
 obtain ⟨W0,hW0⟩:∃ W0,W0=((w.alloc (.cells #[.string t.nm,.slice sa t.slots.length sc,.slice ta t.steps.length tc] 40)).alloc (.cells #[.func (.func 61) #[] #[]] 95)):=⟨_,rfl⟩
 rw [←hW0] at hB0 hcf
 have hS:=ZJf sa sc t.slots oddS 61 #[] W0 (ZAy hB0 hs) h1 ZH7 (fun i y W X _ _ hX=>ZMn y W X hX)
 have hP:=fun W1 (hb1:Below W0.heap.size W0 W1)=>ZJg ta tc t.steps oddP 65 #[.pointer (some ⟨w.heap.size+1,0,none⟩)] W1 (ZBf hb1 (ZBf hB0 ht)) h2 ZLd (fun i y W X _ hbW hX=>ZOP y W X _ hX (ZAA (hb1.trans (hbW.mono hb1.size)) hcf))
 obtain ⟨B1,hb1⟩:∃ B,t.slots.any oddS=B:=⟨_,rfl⟩
 obtain ⟨B2,hb2⟩:∃ B,t.steps.any oddP=B:=⟨_,rfl⟩
 obtain ⟨R,hRR⟩:∃ R,Rg.rightT t=R:=⟨_,rfl⟩
 rw [hb1] at hS hev
 rw [hb2] at hev
 simp only [hb2] at hP
 unfold ZFj at hR
 have HR:=ZZY hR;have HI:=ZZY (fun W hb=>ZBU (w:=w) (w':=W) hb hi0);have HRR:=ZZY hRR;have HS:=ZZY hS;have HP:=ZZY hP
 rw [hRR] at hev ⊢
 clear hR hi0 hRR hS hP hs ht hb1 hb2
 cases B1 with
 |true=>
  have hr0:R=false:=by
   cases R with
   |false=>rfl
   |true=>exact absurd (hev rfl).1 (by simp)
  subst hr0
  clear hev
  subst hW0
  go_enter func37,ntmps37
  go_wp2_with (go_at_call 63;(with_reducible refine (HS.out).mono ?_);rintro e w1 ⟨rfl,hB1⟩)
  go_ret
  exact ⟨rfl,hB0.trans (hB1.mono hB0.size)⟩
 |false=>
  cases B2 with
  |true=>
   have hr0:R=false:=by
    cases R with
    |false=>rfl
    |true=>exact absurd (hev rfl).2 (by simp)
   subst hr0
   clear hev
   subst hW0
   go_enter func37,ntmps37
   go_wp2_with (first
    |(go_at_call 63;(with_reducible refine (HS.out).mono ?_);rintro e w1 ⟨rfl,hB1⟩;have hbb:=hB0.trans (hB1.mono hB0.size);have x2:=ZKb hB1)
    |(go_at_call 64;(with_reducible refine (HP.out _ hB1).mono ?_);rintro e w2 ⟨rfl,hB2⟩))
   go_ret
   exact ⟨rfl,hbb.trans (hB2.mono hbb.size)⟩
  |false=>
   clear hev
   subst hW0
   go_enter func37,ntmps37
   go_wp2_with (first
    |(go_at_call 63;(with_reducible refine (HS.out).mono ?_);rintro e w1 ⟨rfl,hB1⟩;have hbb:=hB0.trans (hB1.mono hB0.size);have x2:=ZKb hB1)
    |(go_at_call 64;(with_reducible refine (HP.out _ hB1).mono ?_);rintro e w2 ⟨rfl,hB2⟩;have hbb2:=hbb.trans (hB2.mono hbb.size);obtain ⟨y0,y1,y2⟩:=ZH8 (hB1.trans (hB2.mono hB1.size)))
    |(go_at_call 66;(with_reducible refine ((HR.out) _ _ ((HI.out) _ hbb2)).mono ?_);rintro e w3 ⟨rfl,hB3⟩))
   go_ret
   rw [HRR.out]
   exact ⟨rfl,hbb2.trans (hB3.mono hbb2.size)⟩
theorem ZMo (t:TemplM) (nm:ByteArray) (w:World) (x:Value) (b:Nat) (hi:ZA8 w t x) (hb:w.cell? ⟨b,0,none⟩=some (.string nm)) :
  Calls Tryz.prog 39 #[x,.pointer (some ⟨b,0,none⟩)] w fun e w'=>e=.returned (.bool (Sc.eqN t.nm nm))∧Below w.heap.size w w':=by
 obtain ⟨hnm,sa,sc,ta,tc,rfl,hs,ht⟩:=hi
 have hB0:=(Below.refl _ w).alloc (Nat.le_refl _) (.cells #[.string t.nm,.slice sa t.slots.length sc,.slice ta t.steps.length tc] 40)
 have c0:=ZAA hB0 hb
 have heq:(t.nm.toList == nm.toList)=Sc.eqN t.nm nm:=by
  unfold Sc.eqN
  rw [Bool.eq_iff_iff,beq_iff_eq,decide_eq_true_eq,ZAz,ZAz]
 generalize Sc.eqN t.nm nm=B at *
 clear hs ht hb
 go_enter func39,ntmps39
 go_wp2
 go_ret
 exact ⟨ZAG (by first | exact heq | rfl | simp),hB0⟩
theorem ZJi (args:Array Value) (w:World):(callFunc 39 args).run Tryz.prog w=.ok (.enter 39 args) w:=enters_of func39 (by kernel_rfl) rfl args w
theorem ZEn (a:Option Addr) (cap:Nat) (l:List TemplM) (nm:ByteArray) (w:World) (hr:ZAw w a cap l) (hsm:l.length≤100000) :
  Calls Tryz.prog 17 #[.slice a l.length cap,.string nm] w fun e w'=>e=.returned (.int .i64 (Rg.ixJ (Rg.find l nm)))∧Below w.heap.size w w':=by
 have hB0:=(Below.refl _ w).alloc (Nat.le_refl _) (.cells #[.string nm] 9)
 have hcf:(w.alloc (.cells #[.string nm] 9)).cell? ⟨w.heap.size,0,none⟩=some (.string nm):=by simp
 have hI:=ZJh a cap l (fun t=>Sc.eqN t.nm nm) 39 #[.pointer (some ⟨w.heap.size,0,none⟩)] _ (ZBh hB0 hr) hsm ZJi (fun i y W X _ hbW hX=>ZMo y nm W X _ hX (ZAA hbW hcf))
 have he:l.findIdx? (fun t=>Sc.eqN t.nm nm)=Rg.find l nm:=rfl
 rw [he] at hI
 generalize Rg.ixJ (Rg.find l nm)=R at *
 have H:=ZZY hI
 clear hI he hr hcf
 go_enter func17,ntmps17
 go_wp2_with (go_at_call 38;(with_reducible refine (H.out).mono ?_);rintro e w1 ⟨rfl,hB1⟩)
 go_ret
 exact ⟨rfl,hB0.trans (hB1.mono hB0.size)⟩
def ZHB (l:List TemplM):Prop:=∀ t∈l,ZFj t∧t.slots.length≤100000∧t.steps.length≤100000
theorem ZEC (a:Option Addr) (cap:Nat) (l:List TemplM) (w:World) (hr:ZAw w a cap l) (hsm:l.length≤100000) (hR:ZHB l) :
  Calls Tryz.prog 16 #[.slice a l.length cap] w fun e w'=>e=.returned (.bool (Rg.right l))∧Below w.heap.size w w':=by
 have hri:=Rg.right_iff l
 obtain ⟨B,hB⟩:∃ B,Rg.right l=B:=⟨_,rfl⟩
 rw [hB] at hri ⊢
 clear hB
 by_cases h6:6<l.length
 ·have hb0:B=false:=by
   cases B with
   |false=>rfl
   |true=>have:=(hri.1 rfl).1;omega
  subst hb0
  obtain ⟨n,hn⟩:∃ n,l.length=n:=⟨_,rfl⟩
  rw [hn] at h6 hsm ⊢
  have d1:decide ((n:Int) > 6)=true:=by simp;omega
  have d2:decide ((6:Int)<(n:Int))=true:=by simp;omega
  clear hri hr hR hn
  go_enter func16,ntmps16
  go_wp2
  go_ret
  exact ⟨rfl,Below.refl _ _⟩
 ·have hF:=fun nm W hb=>ZEn a cap l nm W (ZBh (w:=w) hb hr) hsm
  obtain ⟨n,hn⟩:∃ n,l.length=n:=⟨_,rfl⟩
  have HR:=ZZY hr;have HN:=ZZY hn;have HA:=ZZY hR;have HRI:=ZZY hri;have HF:=ZZY hF
  rw [hn] at HF h6 ⊢
  have d1:decide ((n:Int) > 6)=false:=by simp;omega
  have d2:decide ((6:Int)<(n:Int))=false:=by simp;omega
  have hn6:n≤6:=by omega
  clear hr hn hR hri hF h6 hsm
  go_enter func16,ntmps16
  go_wp2
  go_loopw [10] (fun i wr=>∃ k:Nat,k≤n∧i=.int .i64 k∧Below w.heap.size w wr∧Hid (∀ j t,j<k→l[j]? = some t→Rg.rightT t=true∧Rg.find l t.nm=some j)) (fun i _=>n-(intOf i).toNat)
  case atStart=>exact ⟨0,Nat.zero_le _,rfl,Below.refl _ _,ZZY (fun j y hj=>by omega)⟩
  case round=>
   obtain ⟨k,hk,rfl,hbw,HE⟩:=hrel
   rcases Nat.lt_or_ge k n with hlt | hge
   ·have hd:decide ((k:Int)<(n:Int))=true:=by simp;omega
    have hnl:=HN.out
    obtain ⟨y,hy⟩:∃ y,l[k]? = some y:=⟨l[k],List.getElem?_eq_getElem (by omega)⟩
    obtain ⟨sb,so,rfl,hrow⟩:∃ b off,a=some ⟨b,off,none⟩∧∀ i s,l[i]? = some s→ZCe w b (off+i*3) s:=by
     rcases HR.out.2.2 with h | h
     ·subst h;simp at hnl;omega
     ·exact h
    obtain ⟨la,lc,oa,oc,⟨g0,g1,g2⟩,hsn,hst⟩:=ZB4 (hrow k y hy)
    have y0:=ZAA hbw g0
    have y1:=ZAA hbw g1
    have y2:=ZAA hbw g2
    have hA:=(Below.refl _ wr).alloc (Nat.le_refl _) (.cells #[.string y.nm,.slice la y.slots.length lc,.slice oa y.steps.length oc] 40)
    have hbA:=hbw.trans (hA.mono hbw.size)
    have hm:=(HA.out) y (List.mem_of_getElem? hy)
    have HX:=ZZY (ZH9 y _ _ hm.1 hm.2.1 hm.2.2 (ZBU hbA hst))
    have HF2:=ZZY (fun W hb=>(HF.out) y.nm W hb)
    obtain ⟨R,hR⟩:∃ R,Rg.rightT y=R:=⟨_,rfl⟩
    obtain ⟨J,hJ⟩:∃ J,Rg.ixJ (Rg.find l y.nm)=J:=⟨_,rfl⟩
    rw [hR] at HX
    rw [hJ] at HF2
    have HY:=ZZY hy;have HRR:=ZZY hR;have HJ:=ZZY hJ
    clear hy hR hJ hm hst hsn hrow hnl g0 g1 g2
    cases R with
    |false=>
     have hb0:B=false:=by
      cases B with
      |false=>rfl
      |true=>have:=(((HRI.out).1 rfl).2 k y HY.out).1;rw [HRR.out] at this;cases this
     subst hb0
     go_wp2_with (go_at_call 37;(with_reducible refine (HX.out).mono ?_);rintro e w1 ⟨rfl,hB1⟩)
     go_ret
     exact ⟨rfl,hbA.trans (hB1.mono hbA.size)⟩
    |true=>
     by_cases hJk:J=(k:Int)
     ·have hJ2:Rg.find l y.nm=some k:=by
       have e:=HJ.out
       rw [hJk] at e
       cases hf:Rg.find l y.nm with
       |none=>rw [hf] at e;simp only [Rg.ixJ] at e;omega
       |some q=>rw [hf] at e;simp only [Rg.ixJ] at e;congr 1;omega
      have HJ2:=ZZY hJ2
      subst hJk
      clear hJ2
      have hne:((k:Int) != (k:Int))=false:=by simp
      go_wp2_with (first
       |(go_at_call 37;(with_reducible refine (HX.out).mono ?_);rintro e w1 ⟨rfl,hB1⟩;have hb1:=hbA.trans (hB1.mono hbA.size);have x0:=ZKc hB1)
       |(go_at_call 17;(with_reducible refine ((HF2.out) _ hb1).mono ?_);rintro e w2 ⟨rfl,hB2⟩))
      go_roundw
      case rel=>exact ⟨k+1,by omega,by go_num,hb1.trans (hB2.mono hb1.size),ZZY (fun j z hj hz=>by
       rcases Nat.lt_or_ge j k with h | h
       ·exact HE.out j z h hz
       ·obtain rfl:j=k:=by omega
        rw [HY.out] at hz
        cases hz
        exact ⟨HRR.out,HJ2.out⟩)⟩
      case measure=>simp [intOf];omega
     ·have hb0:B=false:=by
       cases B with
       |false=>rfl
       |true=>
        have:=(((HRI.out).1 rfl).2 k y HY.out).2
        have e:=HJ.out
        rw [this] at e
        simp only [Rg.ixJ] at e
        omega
      subst hb0
      have hne:(J != (k:Int))=true:=by simp only [bne_iff_ne,ne_eq];exact hJk
      have HJK:=ZZY hJk
      clear hJk
      go_wp2_with (first
       |(go_at_call 37;(with_reducible refine (HX.out).mono ?_);rintro e w1 ⟨rfl,hB1⟩;have hb1:=hbA.trans (hB1.mono hbA.size);have x0:=ZKc hB1)
       |(go_at_call 17;(with_reducible refine ((HF2.out) _ hb1).mono ?_);rintro e w2 ⟨rfl,hB2⟩))
      go_ret
      exact ⟨rfl,hb1.trans (hB2.mono hb1.size)⟩
   ·obtain rfl:k=n:=by omega
    have hd:decide ((k:Int)<(k:Int))=false:=by simp
    have hbt:B=true:=(HRI.out).2 ⟨by have:=HN.out;omega,fun i t ht=>HE.out i t (by have h3:=(List.getElem?_eq_some_iff.1 ht).1;have h4:=HN.out;omega) ht⟩
    subst hbt
    go_wp2
    go_ret
    exact ⟨rfl,hbw⟩
open Go.RowKit Go.Shelf
theorem templ3n:(Tryz.prog.info? 40).map (·.size)=some 3:=by kernel_rfl
theorem ZOQ (w:World):(Instr.build 40 #[]).run Tryz.prog w=.ok (.agg #[.string ⟨#[]⟩,.slice none 0 0,.slice none 0 0]) w:=run_build w 40 _ _ (by kernel_rfl)
theorem box3 {W:World} {b:Nat} {t:TypeId} {c0 c1 c2:Value} (h:CA W b t #[c0,c1,c2]) :
  (W.cell? ⟨b,0,none⟩=some c0∧W.cell? ⟨b,1,none⟩=some c1∧W.cell? ⟨b,2,none⟩=some c2)∧(W.frozen? ⟨b,0,none⟩=false∧W.frozen? ⟨b,1,none⟩=false∧W.frozen? ⟨b,2,none⟩=false):=
 ⟨⟨ZAK h 0 _ rfl,ZAK h 1 _ rfl,ZAK h 2 _ rfl⟩,ZAM h 0,ZAM h 1,ZAM h 2⟩
theorem ZFH (p:Nat) (s:Bn.St) (w:World) (h:RD w p s):Calls Tryz.prog 25 #[.pointer (some ⟨p,0,none⟩)] w (ZKY p w (Rg.rTempl s)):=by
 have hpw:=ZCf h
 have hA0:=(Below.refl _ w).alloc (Nat.le_refl _) (.cells vz3 40)
 have hz0:=ZBO w 40 vz3
 have hR0:=ZAp h hA0
 have hT:=ZDN p s _ hR0
 have hnm:(Bn.rText s).1.size≤maxLen:=ZDP h
 unfold Rg.rTempl
 generalize Bn.rText s=r1 at *
 obtain ⟨nm,s1⟩:=r1
 simp only at hnm hT ⊢
 have hL:∀ W,RD W p s1→Calls Tryz.prog 43 #[.pointer (some ⟨p,0,none⟩),.int .i64 8,.func (.func 44) #[] #[]] W (ZDm ZBV p W (Rg.rList 8 Rg.rSlot s1)):=fun W h=>ZG0 8 (by omega) Rg.rSlot 44 p s1 W h ZJb (fun W s h=>ZE5 p s W h)
 generalize Rg.rList 8 Rg.rSlot s1=r2 at *
 obtain ⟨o,s2⟩:=r2
 have hG0:=ZAX (ZCC w (some p)) (.cells vz3 40)
 have HT:=ZZY hT;have HZ:=ZZY hz0;have HL:=ZZY hL
 clear hT hz0 hL h hR0
 cases o with
 |none=>
  simp only [Rg.rTempl1]
  have hbu:=fun W=>ZOQ W
  go_enter func25,ntmps25
  go_wp2_with (first
   |(go_at_call 42;(with_reducible refine (HT.out).mono ?_);rintro e w1 ⟨rfl,hR1,hg1⟩;have hz1:=ZAT HZ.out hg1 hpw;have hG1:=ZAC hG0 hg1)
   |(go_at_call 43;(with_reducible refine (HL.out _ hR1).mono ?_);rintro e w2 ⟨a,l,c,rfl,hF2,hR2,hg2⟩;have hz2:=ZAT hz1 hg2 hpw;have hG2:=ZAC hG1 hg2;obtain ⟨⟨r0,r1,r2⟩,f0,f1,f2⟩:=box3 hz2))
  obtain ⟨hzF,hgF⟩:=set3 (t:=40) (W:=w2) hz2 (.string ⟨#[]⟩) (.slice none 0 0) (.slice none 0 0)
  have hRF:=ZDk hR2 hz2 hgF (by decide) (by decide)
  have hGF:=ZBa hG2 hgF (Nat.le_refl _)
  refine bodyPost_ret (ZAt Tryz.results25 _ _ w.heap.size _ _ _ _ rfl hzF Tryz.underlying40 rfl templ3n) rfl ?_
  exact ⟨⟨#[]⟩,none,0,0,none,0,0,rfl,fun x hx=>(by cases hx),hRF,hGF⟩
 |some sl=>
  simp only [Rg.rTempl1]
  unfold Rg.rTempl2
  have hP:∀ W,RD W p s2→Calls Tryz.prog 45 #[.pointer (some ⟨p,0,none⟩),.int .i64 8,.func (.func 46) #[] #[]] W (ZDm ZCI p W (Rg.rList 8 Rg.rStep s2)):=fun W h=>ZG1 8 (by omega) Rg.rStep 46 p s2 W h ZJe (fun W s h=>ZH6 p s W h)
  generalize Rg.rList 8 Rg.rStep s2=r3 at *
  obtain ⟨o3,s3⟩:=r3
  simp only at hP ⊢
  obtain ⟨R,hRR⟩:∃ R:Option TemplM,Option.map (fun st=>(⟨nm,sl,st⟩:TemplM)) o3=R:=⟨_,rfl⟩
  have hos:o3.isSome=R.isSome:=by rw [←hRR];cases o3<;>rfl
  have hox:∀ x,R=some x→∃ st,o3=some st∧x=⟨nm,sl,st⟩:=by
   intro x hx
   rw [←hRR] at hx
   cases o3 with
   |none=>cases hx
   |some ys=>cases hx;exact ⟨ys,rfl,rfl⟩
  rw [hRR]
  have HOS:=ZZY hos;have HOX:=ZZY hox;have HP:=ZZY hP
  clear hRR hos hox hP
  go_enter func25,ntmps25
  go_wp2_with (first
   |(go_at_call 42;(with_reducible refine (HT.out).mono ?_);rintro e w1 ⟨rfl,hR1,hg1⟩;have hz1:=ZAT HZ.out hg1 hpw;have hG1:=ZAC hG0 hg1)
   |(go_at_call 43;(with_reducible refine (HL.out _ hR1).mono ?_);rintro e w2 ⟨a,l,c,rfl,hF2,hR2,hg2⟩;have hz2:=ZAT hz1 hg2 hpw;have hG2:=ZAC hG1 hg2;obtain ⟨rfl,hrow2⟩:=hF2 sl rfl;have HROW2:=ZZY hrow2;clear hF2 hrow2)
   |(go_at_call 45;(with_reducible refine (HP.out _ hR2).mono ?_);rintro e w3 ⟨a3,l3,c3,rfl,hF3,hR3,hg3⟩;have hz3:=ZAT hz2 hg3 hpw;have hG3:=ZAC hG2 hg3;have HF3:=ZZY hF3;clear hF3;obtain ⟨⟨r0,r1,r2⟩,f0,f1,f2⟩:=box3 hz3))
  obtain ⟨hzF,hgF⟩:=set3 (t:=40) (W:=w3) hz3 (.string nm) (.slice a sl.length c) (.slice a3 l3 c3)
  have hRF:=ZDk hR3 hz3 hgF (by decide) (by decide)
  have hGF:=ZBa hG3 hgF (Nat.le_refl _)
  refine bodyPost_ret (ZAt Tryz.results25 _ _ w.heap.size _ _ _ _ rfl hzF Tryz.underlying40 rfl templ3n) rfl ?_
  have hos:=HOS.out
  refine ⟨nm,a,sl.length,c,a3,l3,c3,(by simp only;rw [←hos];rfl),fun x hx W' hW'=>?_,hRF,hGF⟩
  obtain ⟨st,rfl,rfl⟩:=HOX.out x hx
  have hrow2:=HROW2.out
  obtain ⟨rfl,hrow3⟩:=HF3.out st rfl
  have hs1:=hg1.size
  have hs2:=hg2.size
  have hs3:=hg3.size
  have hsF:=hgF.size
  have hs0:(w.alloc (.cells vz3 40)).heap.size=w.heap.size+1:=World.size_alloc _ _
  refine ⟨hnm,a,c,a3,c3,rfl,hrow2 W' fun b9 k1 k2=>?_,hrow3 W' fun b9 k1 k2=>?_⟩
  ·rw [hW' b9 (by omega) (by omega),hgF.block b9 (by omega) (by simp;omega),hg3.block b9 (by omega) (by simp;omega)]
  ·rw [hW' b9 (by omega) (by omega),hgF.block b9 (by omega) (by simp;omega)]
theorem ZIA (args:Array Value) (w:World):(callFunc 25 args).run Tryz.prog w=.ok (.enter 25 args) w:=enters_of func25 (by kernel_rfl) rfl args w
def ZIB (p:Nat) (w:World) (s:Bn.St) (e:Ending) (w':World):Prop:=∃ (a:Option Addr) (l c:Nat) (s':Bn.St),
 e=.returned (.tuple #[.slice a l c,.bool (Rg.rRead s).isSome])∧(Rg.rRead s=none→a=none∧l=0)∧(∀ ys,Rg.rRead s=some ys→s'=(Rg.rReg s).2∧l=ys.length∧∀ W':World,(∀ b,w.heap.size≤b→b<w'.heap.size→W'.heap[b]? = w'.heap[b]?)→ZAw W' a c ys)∧RD w' p s'∧w.grownBy w' (some p)
theorem ZLf {s s':Bn.St} (h:Rg.rReg s=(none,s')):Rg.rRead s=none:=by unfold Rg.rRead;rw [h]
theorem ZGP {s s':Bn.St} {l:List TemplM} (h:Rg.rReg s=(some l,s')):Rg.rRead s=if s'.isNone=true then none else if Rg.right l=true then some l else none:=by unfold Rg.rRead;rw [h]
theorem ZGQ (p:Nat) (s:Bn.St) (w:World) (h:RD w p s) (hask:∀ l s',Rg.rReg s=(some l,s')→s'.isNone=false→l.length≤100000∧ZHB l) :
  Calls Tryz.prog 9 #[.pointer (some ⟨p,0,none⟩)] w (ZIB p w s):=by
 have hL:Calls Tryz.prog 24 #[.pointer (some ⟨p,0,none⟩),.int .i64 6,.func (.func 25) #[] #[]] w (ZDm ZAw p w (Rg.rReg s)):=ZGB 6 (by omega) Rg.rTempl 25 p s w h ZIA (fun W s h=>ZFH p s W h)
 have HL:=ZZY hL
 unfold ZIB
 obtain ⟨r,hr⟩:∃ r,Rg.rReg s=r:=⟨_,rfl⟩
 obtain ⟨o,s'⟩:=r
 rw [hr] at HL
 cases o with
 |none=>
  have hrr:=ZLf hr
  rw [hrr]
  clear hask hr hrr hL
  go_enter func9,ntmps9
  go_wp2_with (go_at_call 24;(with_reducible refine (HL.out).mono ?_);rintro e w1 ⟨a,l,c,rfl,hF1,hR1,hg1⟩)
  go_ret2
  exact ⟨none,0,0,s',rfl,fun _=>⟨rfl,rfl⟩,fun ys hy=>(by cases hy),hR1,hg1⟩
 |some l=>
  have hrr:=ZGP hr
  have hask':=hask l s' hr
  have hB:=fun W (h:RD W p s')=>ZB6 p s' W h
  obtain ⟨B,hBB⟩:∃ B,s'.isNone=B:=⟨_,rfl⟩
  rw [hBB] at hask'
  simp only [hBB] at hB hrr
  have HB:=ZZY hB
  clear hask hB hL
  cases B with
  |true=>
   rw [if_pos rfl] at hrr
   rw [hrr]
   clear hr hrr hask'
   go_enter func9,ntmps9
   go_wp2_with (first
    |(go_at_call 24;(with_reducible refine (HL.out).mono ?_);rintro e w1 ⟨a,n1,c,rfl,hF1,hR1,hg1⟩)
    |(go_at_call 26;(with_reducible refine (HB.out _ hR1).mono ?_);rintro e w2 ⟨rfl,rfl⟩))
   go_ret2
   exact ⟨none,0,0,s',rfl,fun _=>⟨rfl,rfl⟩,fun ys hy=>(by cases hy),hR1,hg1⟩
  |false=>
   rw [if_neg (by simp)] at hrr
   obtain ⟨h1,h2⟩:=hask' rfl
   have hRt:=fun W a c (hr:ZAw W a c l)=>ZEC a c l W hr h1 h2
   obtain ⟨R,hRR⟩:∃ R,Rg.right l=R:=⟨_,rfl⟩
   rw [hRR] at hrr
   simp only [hRR] at hRt
   have HRt:=ZZY hRt
   clear hask' hRt h1 h2
   have H9:=ZZY hr
   clear hr
   cases R with
   |true=>
    rw [if_pos rfl] at hrr
    rw [hrr]
    clear hrr
    go_enter func9,ntmps9
    go_wp2_with (first
     |(go_at_call 24;(with_reducible refine (HL.out).mono ?_);rintro e w1 ⟨a,n1,c,rfl,hF1,hR1,hg1⟩;obtain ⟨rfl,hrow⟩:=hF1 l rfl;have HROW:=ZZY hrow;clear hF1 hrow)
     |(go_at_call 26;(with_reducible refine (HB.out _ hR1).mono ?_);rintro e w2 ⟨rfl,rfl⟩)
     |(go_at_call 16;(with_reducible refine (HRt.out _ _ _ (HROW.out _ (fun _ _ _=>rfl))).mono ?_);rintro e w3 ⟨rfl,hB3⟩))
    go_ret2
    exact ⟨a,l.length,c,s',rfl,fun h=>(by cases h),fun ys hy=>(by cases hy;rw [H9.out];exact ⟨rfl,rfl,fun W' k=>HROW.out W' fun b b1 b2=>(k b b1 (by have:=hB3.size;omega)).trans (hB3.block b b2)⟩),ZAp hR1 hB3,ZAC hg1 (ZAZ hB3 _)⟩
   |false=>
    rw [if_neg (by simp)] at hrr
    rw [hrr]
    clear hrr
    go_enter func9,ntmps9
    go_wp2_with (first
     |(go_at_call 24;(with_reducible refine (HL.out).mono ?_);rintro e w1 ⟨a,n1,c,rfl,hF1,hR1,hg1⟩;obtain ⟨rfl,hrow⟩:=hF1 l rfl;have HROW:=ZZY hrow;clear hF1 hrow)
     |(go_at_call 26;(with_reducible refine (HB.out _ hR1).mono ?_);rintro e w2 ⟨rfl,rfl⟩)
     |(go_at_call 16;(with_reducible refine (HRt.out _ _ _ (HROW.out _ (fun _ _ _=>rfl))).mono ?_);rintro e w3 ⟨rfl,hB3⟩))
    go_ret2
    exact ⟨none,0,0,s',rfl,fun _=>⟨rfl,rfl⟩,fun ys hy=>(by cases hy),ZAp hR1 hB3,ZAC hg1 (ZAZ hB3 _)⟩
def getRg (l:List Int):Option (List TemplM):=match Rg.rRead (some l) with
 |none=>none
 |some ys=>if Bn.done (Rg.rReg (some l)).2=true then some ys else none
def ZKd (w:World) (o:Option (List TemplM)) (e:Ending) (w':World):Prop:=∃ (a:Option Addr) (l c:Nat),
 e=.returned (.tuple #[.slice a l c,.bool o.isSome])∧(o=none→a=none∧l=0)∧(∀ ys,o=some ys→l=ys.length∧∀ W':World,(∀ b,w.heap.size≤b→b<w'.heap.size→W'.heap[b]? = w'.heap[b]?)→ZAw W' a c ys)∧Below w.heap.size w w'
theorem ZEo {w W W':World} {p:Nat} (h:Below w.heap.size w W) (hg:W.grownBy W' (some p)) (hp:w.heap.size≤p):Below w.heap.size w W':=
 ⟨hg.os.trans h.os,hg.tape.trans h.tape,hg.output.trans h.output,Nat.le_trans h.size hg.size,fun k hk=>by rw [hg.block k (Nat.lt_of_lt_of_le hk h.size) (by simp;omega),h.block k hk]⟩
theorem ZFk (a:Option Addr) (n c:Nat) (l:List Int) (w:World) (h:Row w .u8 a n c l) (hb:ZCh l) (hn:n≤1000000000) (hask:∀ ts s',Rg.rReg (some l)=(some ts,s')→s'.isNone=false→ts.length≤100000∧ZHB ts) :
  Calls Tryz.prog 5 #[.slice a n c] w (ZKd w (getRg l)):=by
 have hRd:=ZGq a n c l w h hb hn
 have hRR:=fun p W (h:RD W p (some l))=>ZGQ p (some l) W h hask
 have HRd:=ZZY hRd;have HRR:=ZZY hRR
 unfold ZIB at HRR
 unfold ZKd getRg
 obtain ⟨o,ho⟩:∃ o,Rg.rRead (some l)=o:=⟨_,rfl⟩
 simp only [ho] at HRR
 rw [ho]
 clear hRd hRR h hb hask
 cases o with
 |none=>
  simp only at HRR ⊢
  clear ho
  go_enter func5,ntmps5
  go_wp2_with (first
   |(go_at_call 8;(with_reducible refine (HRd.out).mono ?_);rintro e w1 ⟨p,rfl,hp,hR1,hB1⟩)
   |(go_at_call 9;(with_reducible refine (HRR.out _ _ hR1).mono ?_);rintro e w2 ⟨a2,l2,c2,s2,rfl,hn2,hF2,hR2,hg2⟩))
  go_ret2
  exact ⟨none,0,0,rfl,fun _=>⟨rfl,rfl⟩,fun ys hy=>(by cases hy),ZEo hB1 hg2 hp⟩
 |some ys=>
  simp only
  have hs9:∀ s2,(∀ ys',some ys=some ys'→s2=(Rg.rReg (some l)).2∧True)→s2=(Rg.rReg (some l)).2:=fun s2 h=>(h ys rfl).1
  obtain ⟨S,hS⟩:∃ S,(Rg.rReg (some l)).2=S:=⟨_,rfl⟩
  simp only [hS] at HRR hs9
  rw [hS]
  have hD:=fun p W (h:RD W p S)=>ZMF p S W h
  obtain ⟨D,hDD⟩:∃ D,Bn.done S=D:=⟨_,rfl⟩
  simp only [hDD] at hD
  rw [hDD]
  have HD:=ZZY hD
  clear hD hs9 hS hDD ho
  cases D with
  |true=>
   rw [if_pos rfl]
   go_enter func5,ntmps5
   go_wp2_with (first
    |(go_at_call 8;(with_reducible refine (HRd.out).mono ?_);rintro e w1 ⟨p,rfl,hp,hR1,hB1⟩)
    |(go_at_call 9;(with_reducible refine (HRR.out _ _ hR1).mono ?_);rintro e w2 ⟨a2,l2,c2,s2,rfl,hn2,hF2,hR2,hg2⟩;obtain ⟨rfl,rfl,hrow⟩:=hF2 ys rfl;have HROW:=ZZY hrow;clear hF2 hrow hn2)
    |(go_at_call 19;(with_reducible refine (HD.out _ _ hR2).mono ?_);rintro e w3 ⟨rfl,rfl⟩))
   go_ret2
   exact ⟨a2,ys.length,c2,rfl,fun h=>(by cases h),fun zs hz=>(by cases hz;exact ⟨rfl,fun W' k=>HROW.out W' fun b b1 b2=>k b (Nat.le_trans hB1.size b1) b2⟩),ZEo hB1 hg2 hp⟩
  |false=>
   rw [if_neg (by simp)]
   go_enter func5,ntmps5
   go_wp2_with (first
    |(go_at_call 8;(with_reducible refine (HRd.out).mono ?_);rintro e w1 ⟨p,rfl,hp,hR1,hB1⟩)
    |(go_at_call 9;(with_reducible refine (HRR.out _ _ hR1).mono ?_);rintro e w2 ⟨a2,l2,c2,s2,rfl,hn2,hF2,hR2,hg2⟩;obtain ⟨rfl,rfl,hrow⟩:=hF2 ys rfl;clear hF2 hrow hn2)
    |(go_at_call 19;(with_reducible refine (HD.out _ _ hR2).mono ?_);rintro e w3 ⟨rfl,rfl⟩))
   go_ret2
   exact ⟨none,0,0,rfl,fun _=>⟨rfl,rfl⟩,fun ys hy=>(by cases hy),ZEo hB1 hg2 hp⟩
open Go.RowKit Go.Shelf
theorem ZJj (l r:List Int):Bn.num l.length (some (l++r))=(Bn.jn l,some r):=by
 simp [Bn.num]
theorem ZEp (x:Int) (r:List Int):Bn.rByte (some (x :: r))=(x.toNat,some r):=by
 have:=ZJj [x] r
 simpa [Bn.rByte,Bn.jn] using this
theorem ZHC (m:Nat) (hm:m≤2147483647) (r:List Int):Bn.rNum (some (Bn.spl m 4++r))=(m,some r):=by
 have h:=ZJj (Bn.spl m 4) r
 rw [Bn.spl_len,Bn.jn_spl,Nat.mod_eq_of_lt (by omega)] at h
 unfold Bn.rNum
 rw [h,if_neg (by show ¬2147483647<m;omega)]
theorem ZMp (n:Int) (hn:I64 n) (r:List Int):Bn.rLong (some (spl64 n++r))=(n,some r):=by
 have h:=ZJj (spl64 n) r
 unfold I64 at hn
 have hl:(spl64 n).length=8:=by simp [spl64,Bn.spl_len]
 rw [hl] at h
 unfold Bn.rLong
 rw [h]
 have hw:((IntKind.u64.wrap n).toNat:Int)=IntKind.u64.wrap n:=by rw [IntKind.wrap_u64];omega
 have hlt:(IntKind.u64.wrap n).toNat<256 ^ 8:=by
  have:IntKind.u64.wrap n<18446744073709551616:=by rw [IntKind.wrap_u64];omega
  have e:(256:Nat) ^ 8=18446744073709551616:=by decide
  omega
 simp only [spl64,Bn.jn_spl,Nat.mod_eq_of_lt hlt]
 rw [hw]
 have:IntKind.i64.wrap (IntKind.u64.wrap n)=n:=by rw [IntKind.wrap_u64,IntKind.wrap_i64];omega
 rw [this]
theorem ZIC (s:ByteArray) (hs:s.size≤2147483647) (r:List Int):Bn.rText (some (Bn.spl s.size 4++strB s++r))=(s,some r):=by
 unfold Bn.rText
 rw [List.append_assoc,ZHC _ hs]
 have hl:=ZBc s
 simp only [Bn.txt]
 rw [if_pos (by simp;omega),List.take_append_of_le_length (by omega),List.drop_append_of_le_length (by omega),←hl,List.take_length,List.drop_length,ZC9,List.nil_append]
theorem ZPf (g:Bn.St→PV × Bn.St) (l:List PV) (r:List Int) (hg:∀ y∈l,∀ r,g (some (putV y++r))=(y,some r)):∀ i,i≤l.length→Bn.rep g i (some (putL l++r))=(l.take i,some (putL (l.drop i)++r)):=by
 intro i
 induction i with
 |zero=>intro _;simp [Bn.rep]
 |succ i ih=>
  intro hi
  have h:=ih (by omega)
  have hy:l[i]? = some l[i]:=List.getElem?_eq_getElem hi
  have hd:l.drop i=l[i] :: l.drop (i+1):=List.drop_eq_getElem_cons hi
  simp only [Bn.rep]
  rw [h,hd]
  simp only [putL,List.append_assoc]
  rw [hg _ (List.getElem_mem hi)]
  simp only [List.take_add_one,hy,Option.toList_some]
theorem ZEO {s:ByteArray} (h:s.toList.isEmpty=true):s=⟨#[]⟩:=ZOa h (by rw [ZAz];rfl)
theorem ZKe (lst:Nat→Bn.St→List PV × Bn.St) (k n:Int) (s:ByteArray) (l:List PV) (r:List Int) (ho:okV (.mk k n s l)=true) (hn:I64 n) (hl:k=5→lst l.length (some (putL l++r))=(l,some r)) :
  Bn.node lst (some (putV (.mk k n s l)++r))=(.mk k n s l,some r):=by
 obtain ⟨⟨hk0,hk5⟩,hn1,hs,hl5,hl20,_,hse,hn0⟩:=ZC7 ho
 have hpv:putV (.mk k n s l)++r=k :: ((if k=1 then [n] else if k=2 then spl64 n else if k=3∨k=4 then Bn.spl s.size 4++strB s else if k=5 then Bn.spl l.length 4++putL l else [])++r):=by simp [putV]
 rw [hpv]
 unfold Bn.node
 rw [ZEp]
 dsimp only
 have hkn:((k.toNat:Nat):Int)=k:=by omega
 by_cases k1:k=1
 ·subst k1
  have e1:=hl5 (by omega)
  have e2:=ZEO (hse (by omega) (by omega))
  subst e1 e2
  have e3:(1:Int).toNat=1:=rfl
  rw [if_pos rfl,if_pos e3,List.cons_append,List.nil_append,ZEp]
  dsimp only
  have:((n.toNat:Nat):Int)=n:=by have:=hn1 rfl;omega
  rw [this]
 rw [if_neg (show k.toNat≠1 by omega),if_neg k1]
 by_cases k2:k=2
 ·subst k2
  have e1:=hl5 (by omega)
  have e2:=ZEO (hse (by omega) (by omega))
  subst e1 e2
  have e3:(2:Int).toNat=2:=rfl
  rw [if_pos rfl,if_pos e3,ZMp n hn]
 rw [if_neg (show k.toNat≠2 by omega),if_neg k2]
 by_cases k34:k=3∨k=4
 ·have e1:=hl5 (by omega)
  have e2:=hn0 (by omega) (by omega)
  subst e1 e2
  rw [if_pos k34,if_pos (show k.toNat=3∨k.toNat=4 by omega),ZIC s (by omega)]
  dsimp only
  rw [hkn]
 rw [if_neg k34,if_neg (show ¬(k.toNat=3∨k.toNat=4) by omega)]
 by_cases k5:k=5
 ·subst k5
  have e2:=ZEO (hse (by omega) (by omega))
  have e4:=hn0 (by omega) (by omega)
  subst e2 e4
  have e3:(5:Int).toNat=5:=rfl
  rw [if_pos rfl,if_pos e3,List.append_assoc,ZHC _ (by omega)]
  dsimp only
  rw [hl rfl]
 ·have e1:=hl5 k5
  have e2:=ZEO (hse (by omega) (by omega))
  have e4:=hn0 k1 k2
  subst e1 e2 e4
  rw [if_neg k5,if_neg (show k.toNat≠5 by omega),hkn]
  rfl
theorem ZMq {l:List PV} (h:numsV.numsL l):∀ y∈l,numsV y:=by
 induction l with
 |nil=>simp
 |cons x r ih=>
  intro y hy
  unfold numsV.numsL at h
  rcases List.mem_cons.1 hy with rfl | hy
  ·exact h.1
  ·exact ih h.2 y hy
theorem ZMr {l:List PV} {y:PV} (h:y∈l):deepV y≤deepL l:=by
 induction l with
 |nil=>simp at h
 |cons x r ih=>
  simp only [deepL]
  rcases List.mem_cons.1 h with rfl | h
  ·omega
  ·have:=ih h;omega
theorem ZPg:∀ (d:Nat) (v:PV),okV v=true→numsV v→deepV v≤d→∀ r,Bn.get d (some (putV v++r))=(v,some r):=by
 intro d
 induction d with
 |zero=>
  intro v ho hn hd r
  cases v with
  |mk k n s l=>
  unfold numsV at hn
  rw [Bn.get_node]
  refine ZKe _ k n s l r ho hn.1 fun h5=>?_
  simp only [deepV] at hd
  rw [if_pos h5] at hd
  omega
 |succ d ih=>
  intro v ho hn hd r
  cases v with
  |mk k n s l=>
  unfold numsV at hn
  rw [Bn.get_node]
  refine ZKe _ k n s l r ho hn.1 fun h5=>?_
  simp only [deepV] at hd
  rw [if_pos h5] at hd
  have hp:=ZC7 ho
  show (if 20<l.length then ([],none) else Bn.rep (Bn.get d) l.length (some (putL l++r)))=_
  rw [if_neg (by omega),ZPf (Bn.get d) l r (fun y hy r=>ih y (ZF7 hp.2.2.2.2.2.1 y hy) (ZMq hn.2 y hy) (by have:=ZMr hy;omega) r) l.length (Nat.le_refl _)]
  simp [putL]
theorem ZMs (d:Nat):(Bn.get d none).2=none:=by rw [Bn.get_node];rfl
open Go.RowKit Go.Shelf
theorem ZOR:∀ v:PV,okV v=true→∀ x∈putV v,0≤x∧x≤255:=by
 intro v
 induction v using ZB1 with
 |h k n s l ih=>
  intro h x hx
  obtain ⟨⟨hk0,hk5⟩,hn1,_,_,_,hol,_,_⟩:=ZC7 h
  have hL:∀ l:List PV,(∀ y∈l,okV y=true→∀ x∈putV y,0≤x∧x≤255)→(∀ y∈l,okV y=true)→∀ x∈putL l,0≤x∧x≤255:=by
   intro l
   induction l with
   |nil=>intro _ _ x hx;simp [putL] at hx
   |cons y r ih2=>
    intro h1 h2 x hx
    simp only [putL,List.mem_append] at hx
    rcases hx with hx | hx
    ·exact h1 y (by simp) (h2 y (by simp)) x hx
    ·exact ih2 (fun y hy=>h1 y (by simp [hy])) (fun y hy=>h2 y (by simp [hy])) x hx
  simp only [putV,List.mem_cons] at hx
  rcases hx with rfl | hx
  ·omega
  ·split at hx
   ·rename_i h1;have:=hn1 h1;simp at hx;omega
   ·split at hx
    ·exact Bn.spl_bd _ _ x hx
    ·split at hx
     ·rcases List.mem_append.1 hx with hx | hx
      ·exact Bn.spl_bd _ _ x hx
      ·exact ZC0 (ZCL s) x hx
     ·split at hx
      ·rcases List.mem_append.1 hx with hx | hx
       ·exact Bn.spl_bd _ _ x hx
       ·exact hL l ih (ZF7 hol) x hx
      ·simp at hx
namespace Rg
def BD (l:List Int):Prop:=∀ x∈l,0≤x∧x≤255
theorem bd_app {l r:List Int} (h1:BD l) (h2:BD r):BD (l++r):=fun x hx=>by
 rcases List.mem_append.1 hx with hx | hx
 ·exact h1 x hx
 ·exact h2 x hx
theorem bd_nil:BD []:=fun x hx=>by simp at hx
theorem ZHD {α : Type} {l:List α} {f : α→List Int} (h:∀ x∈l,BD (f x)):BD (l.flatMap f):=fun x hx=>by
 obtain ⟨y,hy,hx⟩:=List.mem_flatMap.1 hx
 exact h y hy x hx
theorem ZCg (n m:Int) (k:Nat):BD (spn n m k):=by
 unfold spn
 split
 ·exact bd_nil
 ·exact Bn.spl_bd _ _
theorem ZQO (v:PV):BD (valB v):=by
 unfold valB
 split
 ·rename_i h;exact ZOR v (ZEh h).1
 ·exact bd_nil
theorem ZMt (s:ByteArray):BD (txtB s):=bd_app (Bn.spl_bd _ _) (ZC0 (ZCL s))
theorem ZMu (s:SlotM):BD (slotB s):=bd_app (ZMt _) (bd_app (ZCg _ _ _) (bd_app (ZCg _ _ _) (ZQO _)))
theorem ZPh (s:StepM):BD (stepB s):=by
 unfold stepB
 split
 ·exact bd_app (ZCg _ _ _) (ZMu _)
 ·split
  ·exact bd_app (ZCg _ _ _) (bd_app (ZCg _ _ _) (ZMt _))
  ·split
   ·exact bd_app (ZCg _ _ _) (bd_app (ZCg _ _ _) bd_nil)
   ·split
    ·exact bd_app (ZCg _ _ _) (bd_app (ZCg _ _ _) (ZCg _ _ _))
    ·exact bd_app (ZCg _ _ _) (bd_app (ZCg _ _ _) (ZHD fun x _=>ZCg _ _ _))
theorem ZOS (t:TemplM):BD (templB t):=bd_app (ZMt _) (bd_app (bd_app (ZCg _ _ _) (ZHD fun x _=>ZMu x)) (bd_app (ZCg _ _ _) (ZHD fun x _=>ZPh x)))
theorem bd_putR (l:List TemplM):BD (putR l):=bd_app (ZCg _ _ _) (ZHD fun x _=>ZOS x)
theorem bd_bytes {l:List Int} (h:BD l):ZCh l:=fun i=>by
 rcases Nat.lt_or_ge i l.length with h1 | h1
 ·rw [List.getElem?_eq_getElem h1];exact h _ (List.getElem_mem h1)
 ·rw [List.getElem?_eq_none h1];simp
def NumsT (t:TemplM):Prop:=(∀ s∈t.slots,numsV s.df)∧∀ s∈t.steps,numsV s.sl.df
theorem ZOT {α : Type} (f:Bn.St→Option α × Bn.St) (g : α→List Int):∀ (l:List α) (r:List Int),(∀ x∈l,∀ r,f (some (g x++r))=(some x,some r))→rep f l.length (some (l.flatMap g++r))=(some l,some r):=by
 intro l
 induction l with
 |nil=>intro r _;rfl
 |cons a l ih=>
  intro r h
  have h1:=h a (List.mem_cons_self ..) (l.flatMap g++r)
  have h2:=ih r fun x hx=>h x (List.mem_cons_of_mem _ hx)
  rw [List.flatMap_cons,List.append_assoc,List.length_cons]
  simp only [rep,h1,h2]
  rfl
theorem ZD1 {α : Type} (most:Nat) (f:Bn.St→Option α × Bn.St) (g : α→List Int) (l:List α) (r:List Int) (hl:l.length≤most) (hm:most≤1000) (h:∀ x∈l,∀ r,f (some (g x++r))=(some x,some r)) :
  rList most f (some ((nuB l.length++l.flatMap g)++r))=(some l,some r):=by
 have hn:nuB l.length=Bn.spl l.length 4:=by
  unfold nuB
  rw [ZNz _ _ _ (by omega) (by omega),Int.toNat_natCast]
 have h1:=ZHC l.length (by omega) (l.flatMap g++r)
 unfold rList
 rw [hn,List.append_assoc,h1]
 simp only
 rw [if_neg (by omega)]
 exact ZOT f g l r h
theorem ZQP {n:Int} (h0:0≤n) (h1:n≤255):byB n = [n]:=ZHg n h0 h1
theorem ZCG {n:Int} (h0:0≤n) (h1:n≤255) (r:List Int):Bn.rByte (some (byB n++r))=(n.toNat,some r):=by
 rw [ZQP h0 h1];exact ZEp n r
theorem ZHE (s:ByteArray) (hs:s.size≤1000000) (r:List Int):Bn.rText (some (txtB s++r))=(s,some r):=ZIC s (by omega) r
theorem ZLg {v:PV} (h:rightV v=true):valB v=putV v:=by unfold valB;rw [if_pos h]
theorem ZLh {v:PV} (h:rightV v=true) (hn:numsV v) (r:List Int):rValue (some (valB v++r))=(v,some r):=by
 rw [ZLg h]
 obtain ⟨ho,_,hd⟩:=ZEh h
 unfold rValue
 rw [ZPg 4 v ho hn hd r]
 simp only [rFin]
 rw [if_pos h]
theorem ZDG {n:Int} (h:0≤n):((n.toNat:Nat):Int)=n:=by omega
def sound' (s:SlotM):Prop:=s.nm.size≤1000000∧0≤s.ty∧s.ty≤255∧rightV s.df=true
theorem ZE9 {s:SlotM} (h:Sc.sound s=true):sound' s:=by
 have h1:=ZCq (ZEl h)
 obtain ⟨h2,h3,h4⟩:=Sc.sound_ok h
 exact ⟨by omega,by omega,by omega,h4⟩
theorem ZGR (s:SlotM) (h:sound' s) (hn:numsV s.df) (r:List Int):rSlot (some (slotB s++r))=(some s,some r):=by
 obtain ⟨h1,h2,h3,h4⟩:=h
 unfold slotB
 rw [List.append_assoc,List.append_assoc,List.append_assoc]
 have e1:=ZHE s.nm h1 (byB s.ty++(byB (if s.rq then 1 else 0)++(valB s.df++r)))
 have e2:=ZCG h2 h3 (byB (if s.rq then 1 else 0)++(valB s.df++r))
 have e3:=ZCG (n:=if s.rq then 1 else 0) (by split<;>omega) (by split<;>omega) (valB s.df++r)
 have e4:=ZLh h4 hn r
 unfold rSlot
 simp only [e1,e2,e3,e4]
 rw [if_pos (by split<;>decide),ZDG h2]
 obtain ⟨nm,ty,rq,df⟩:=s
 cases rq<;>rfl
theorem ZMv (x:Int) (h:0≤x∧x≤7) (r:List Int):rOne (some (byB x++r))=(some x,some r):=by
 unfold rOne
 rw [ZCG h.1 (by omega)]
 simp only
 rw [ZDG h.1]
theorem ZDH {s:StepM} {kd col:Int} {sl:SlotM} {od:List Int} (h1:s.kd=kd) (h2:s.col=col) (h3:s.sl=sl) (h4:s.od=od):s=⟨kd,col,sl,od⟩:=by
 cases s;simp only at h1 h2 h3 h4;subst h1 h2 h3 h4;rfl
theorem ZLi (s:StepM) (h:ZC5 s) (hn:numsV s.sl.df) (r:List Int):rStep (some (stepB s++r))=(some s,some r):=by
 have hk:=h.kd
 have hc:=h.col
 unfold stepB
 by_cases k1:s.kd=1
 ·rw [if_pos k1,List.append_assoc]
  obtain ⟨g1,g2,g3,g4⟩:=h.k1 k1
  unfold rStep
  rw [ZCG (by omega) (by omega),k1]
  simp only
  unfold rStep1
  rw [if_pos (by decide),ZGR s.sl (ZE9 g1) hn r]
  simp only [Option.map_some]
  rw [←ZDH k1 g3 rfl g4]
 ·rw [if_neg k1]
  by_cases k3:s.kd=3
  ·rw [if_pos k3,List.append_assoc,List.append_assoc]
   obtain ⟨g1,g2,g3⟩:=h.k3 k3
   have hsz:=ZCq g1
   unfold rStep
   rw [ZCG (by omega) (by omega),k3]
   simp only
   unfold rStep1
   rw [if_neg (by decide),if_neg (by decide),if_pos (by decide),ZCG (by omega) (by omega),ZHE _ (by omega)]
   simp only
   rw [ZDG hc.1,←g2,←ZDH k3 rfl rfl g3]
  ·rw [if_neg k3]
   by_cases k2:s.kd=2
   ·rw [if_pos k2,List.append_nil,List.append_assoc]
    obtain ⟨g1,g2⟩:=h.k2 k2
    unfold rStep
    rw [ZCG (by omega) (by omega),k2]
    simp only
    unfold rStep1
    rw [if_neg (by decide),if_pos (by decide),ZCG (by omega) (by omega)]
    simp only
    rw [ZDG hc.1,←g1,←ZDH k2 rfl rfl g2]
   ·rw [if_neg k2]
    by_cases k4:s.kd=4
    ·rw [if_pos k4,List.append_assoc,List.append_assoc]
     obtain ⟨⟨g0,g0'⟩,g2,g3⟩:=h.k4 k4
     unfold rStep
     rw [ZCG (by omega) (by omega),k4]
     simp only
     unfold rStep1
     rw [if_neg (by decide),if_neg (by decide),if_neg (by decide),if_pos (by decide),ZCG (by omega) (by omega)]
     simp only
     rw [ZCG (by omega) (by omega)]
     simp only
     rw [ZDG hc.1,ZDG (by omega:0≤s.sl.ty),←g2,←ZDH k4 rfl rfl g3]
    ·rw [if_neg k4,List.append_assoc]
     have k5:s.kd=5:=by omega
     obtain ⟨g1,g2,g3,g4⟩:=h.k5 k5
     have hl:=ZD1 8 rOne byB s.od r g3 (by omega) fun x hx r=>ZMv x (g4 x hx) r
     unfold rStep
     rw [ZCG (by omega) (by omega),k5]
     simp only
     unfold rStep1
     rw [if_neg (by decide),if_neg (by decide),if_neg (by decide),if_neg (by decide),if_pos (by decide),hl]
     simp only [Option.map_some]
     rw [←g1,←ZDH k5 g2 rfl rfl]
theorem ZJk (t:TemplM) (h:TemplOk t) (hn:NumsT t) (r:List Int):rTempl (some (templB t++r))=(some t,some r):=by
 have hsz:=ZCq h.nm
 unfold templB
 rw [List.append_assoc,List.append_assoc]
 have e2:=ZD1 8 rSlot slotB t.slots ((nuB t.steps.length++t.steps.flatMap stepB)++r) h.n8 (by omega) fun s hs r=>ZGR s (ZE9 (h.so s hs)) (hn.1 s hs) r
 have e3:=ZD1 8 rStep stepB t.steps r h.m8 (by omega) fun s hs r=>ZLi s (h.st s hs) (hn.2 s hs) r
 unfold rTempl
 rw [ZHE _ (by omega)]
 simp only
 rw [e2]
 simp only [rTempl1]
 unfold rTempl2
 rw [e3]
 rfl
theorem rReg_back (l:List TemplM) (h:right l=true) (hn:∀ t∈l,NumsT t) (r:List Int):rReg (some (putR l++r))=(some l,some r):=by
 have h1:=(right_iff l).1 h
 refine ZD1 6 rTempl templB l r h1.1 (by omega) fun t ht r=>?_
 obtain ⟨i,hi⟩:=List.mem_iff_getElem?.1 ht
 exact ZJk t (rightT_ok (h1.2 i t hi).1) (hn t ht) r
theorem rRead_back (l:List TemplM) (h:right l=true) (hn:∀ t∈l,NumsT t) (r:List Int):rRead (some (putR l++r))=some l:=by
 rw [ZGP (rReg_back l h hn r),if_neg (by simp),if_pos h]
theorem get_back (l:List TemplM) (h:right l=true) (hn:∀ t∈l,NumsT t):getRg (putR l)=some l:=by
 have h1:=rReg_back l h hn []
 have h2:=rRead_back l h hn []
 rw [List.append_nil] at h1 h2
 unfold getRg
 rw [h2,h1]
 rfl
end Rg
