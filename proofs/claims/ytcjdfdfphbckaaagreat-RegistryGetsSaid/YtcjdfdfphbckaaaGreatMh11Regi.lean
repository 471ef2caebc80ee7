/- Registries: whether values, slots, steps, templates, registries are the same. (Made by gen_rgs.py.) -/
import Derived.Test.YtcjdfdfphbckaaaGreatMh10Regi
set_option linter.unusedVariables false
set_option linter.unusedSimpArgs false
set_option maxRecDepth 100000
set_option maxHeartbeats 64000000
open Go.Proofs.Tryz
namespace Go.Proofs.YtcjdfdfphbckaaaGreat
open Go.RowKit Go.Shelf
noncomputable def eqB {α : Type} (a b : α):Bool:=@decide (a=b) (Classical.propDecidable _)
theorem ZBo {α : Type} (a b : α):eqB a b=true ↔ a=b:=by
 unfold eqB
 exact @decide_eq_true_iff (a=b) (Classical.propDecidable _)
theorem ZDu {α : Type} (a : α):eqB a a=true:=(ZBo a a).2 rfl
theorem ZCV {α : Type} {a b : α} (h:a≠b):eqB a b=false:=by
 cases hb:eqB a b with
 |false=>rfl
 |true=>exact absurd ((ZBo a b).1 hb) h
theorem ZEJ {α β : Type} {a b : α} {c d : β} (h:a=b ↔ c=d):eqB a b=eqB c d:=by
 rw [Bool.eq_iff_iff,ZBo,ZBo];exact h
theorem ZDS {α : Type} (a b:List α):eqB a b=true ↔ a.length=b.length∧∀ (i:Nat) (x y : α),a[i]? = some x→b[i]? = some y→eqB x y=true:=by
 rw [ZBo]
 constructor
 ·rintro rfl
  refine ⟨rfl,fun i x y h1 h2=>?_⟩
  rw [h1] at h2;cases h2
  exact ZDu x
 ·rintro ⟨hl,h⟩
  refine List.ext_getElem? fun i=>?_
  rcases Nat.lt_or_ge i a.length with hi | hi
  ·have h1:a[i]? = some a[i]:=List.getElem?_eq_getElem hi
   have h2:b[i]? = some (b[i]'(by omega)):=List.getElem?_eq_getElem (by omega)
   have:=(ZBo _ _).1 (h i _ _ h1 h2)
   rw [h1,h2,this]
  ·rw [List.getElem?_eq_none hi,List.getElem?_eq_none (by omega)]
def ZMW (w:World) (a:Option Addr) (cap:Nat) (l:List PV):Prop:=l.length≤cap∧cap≤maxLen∧(l = []∨∃ b off,a=some ⟨b,off,none⟩∧IsL w b l off)
theorem ZGI {a b:ByteArray} (h:a≠b):(a.toList == b.toList)=false:=by
 rw [beq_eq_false_iff_ne]
 intro e
 exact h (ByteArray.ext (Array.toList_inj.1 (by rw [←ZAz,←ZAz];exact e)))
theorem ZGJ {a b:Int} (h:a≠b):(a == b)=false:=by rw [beq_eq_false_iff_ne];exact h
theorem ZHr {W:World} {a:Option Addr} {cap:Nat} {l:List PV} (h:ZMW W a cap l) {i:Nat} {v:PV} (hv:l[i]? = some v):∃ b off k n t la ll lc,a=some ⟨b,off,none⟩ ∧
  (W.cell? ⟨b,off+i*4,none⟩=some (.int .i64 k)∧W.cell? ⟨b,off+i*4+1,none⟩=some (.int .i64 n)∧W.cell? ⟨b,off+i*4+2,none⟩=some (.string t)∧W.cell? ⟨b,off+i*4+3,none⟩=some (.slice la ll lc)) ∧
  Is W v (.agg #[.int .i64 k,.int .i64 n,.string t,.slice la ll lc]):=by
 rcases h.2.2 with h3 | ⟨b,off,ha,hc⟩
 ·subst h3;simp at hv
 ·cases v with
  |mk k n t r=>
   obtain ⟨la,lc,hcs,hi⟩:=ZCT hc i k n t r hv
   exact ⟨b,off,k,n,t,la,_,lc,ha,hcs,hi⟩
theorem ZLG (a b:Option Addr) (c d:Nat) (ls ms:List PV) (gf:Nat) (w:World) (hl:ZMW w a c ls) (hm:ZMW w b d ms)
  (eg:∀ args w,(callFunc gf args).run Tryz.prog w=.ok (.enter gf args) w)
  (hG:∀ (i:Nat) (x y:PV) (W:World) (X Y:Value),ls[i]? = some x→ms[i]? = some y→Below w.heap.size w W→Is W x X→Is W y Y→Calls Tryz.prog gf #[X,Y] W fun e w'=>e=.returned (.bool (eqB x y))∧Below W.heap.size W w') :
  Calls Tryz.prog 105 #[.slice a ls.length c,.slice b ms.length d,.func (.func gf) #[] #[]] w fun e w'=>e=.returned (.bool (eqB ls ms))∧Below w.heap.size w w':=by
 have hcap:=hl.2.1
 have hlc:=hl.1
 unfold maxLen at hcap
 have hB:=ZDS ls ms
 obtain ⟨B,hBB⟩:∃ B,eqB ls ms=B:=⟨_,rfl⟩
 rw [hBB] at hB ⊢
 clear hBB
 by_cases hnm:ls.length=ms.length
 ·obtain ⟨n,hn⟩:∃ n,ls.length=n:=⟨_,rfl⟩
  have hmn:ms.length=n:=by rw [←hnm,hn]
  have HL:=ZZY hl;have HV:=ZZY hm;have HN:=ZZY hn;have HM:=ZZY hmn;have HB:=ZZY hB;have HG:=ZZY hG
  rw [hn] at hlc ⊢
  rw [hmn]
  have hb:((n:Int) != (n:Int))=false:=by simp
  clear hl hm hn hmn hB hnm hG
  go_enter func105,ntmps105
  go_wp2
  go_loopw [17] (fun i wr=>∃ q:Nat,q≤n∧i=.int .i64 (q:Int)∧Below w.heap.size w wr∧Hid (∀ (j:Nat) (s m:PV),j<q→ls[j]? = some s→ms[j]? = some m→eqB s m=true)) (fun i _=>n-(intOf i).toNat)
  case atStart=>exact ⟨0,Nat.zero_le _,rfl,Below.refl _ _,ZZY (fun j s v hj=>by omega)⟩
  case round=>
   obtain ⟨q,hq,rfl,hbw,HALL⟩:=hrel
   rcases Nat.lt_or_ge q n with hlt | hge
   ·have hd:decide ((q:Int)<(n:Int))=true:=by simp;omega
    have hnl:=HN.out
    have hvl:=HM.out
    obtain ⟨s,hs⟩:∃ s,ls[q]? = some s:=⟨ls[q],List.getElem?_eq_getElem (by omega)⟩
    obtain ⟨m,hm⟩:∃ m,ms[q]? = some m:=⟨ms[q],List.getElem?_eq_getElem (by omega)⟩
    obtain ⟨pb,po,pk,pn,pt,pa,pl,pc,rfl,⟨pg0,pg1,pg2,pg3⟩,pI⟩:=ZHr HL.out hs
    obtain ⟨rb,ro,rk,rn,rt,ra,rl,rc,rfl,⟨rg0,rg1,rg2,rg3⟩,rI⟩:=ZHr HV.out hm
    have y0:=ZAA hbw pg0
    have y1:=ZAA hbw pg1
    have y2:=ZAA hbw pg2
    have y3:=ZAA hbw pg3
    have hA1:=hbw.alloc hbw.size (.cells #[.int .i64 pk,.int .i64 pn,.string pt,.slice pa pl pc] 49)
    have z0:=ZAA hA1 rg0
    have z1:=ZAA hA1 rg1
    have z2:=ZAA hA1 rg2
    have z3:=ZAA hA1 rg3
    have hBv:=hA1.alloc hA1.size (.cells #[.int .i64 rk,.int .i64 rn,.string rt,.slice ra rl rc] 49)
    obtain ⟨bf,hbf⟩:∃ bf,eqB s m=bf:=⟨_,rfl⟩
    have HX:=ZZY (HG.out q s m _ _ _ hs hm hBv (ZAf hBv _ _ pI) (ZAf hBv _ _ rI))
    rw [hbf] at HX
    have hgood:bf=true→∀ (j:Nat) (s m:PV),j<q+1→ls[j]? = some s→ms[j]? = some m→eqB s m=true:=fun h1 j s' v' hj h2 h3=>by
     rcases Nat.lt_or_ge j q with h | h
     ·exact HALL.out j s' v' h h2 h3
     ·obtain rfl:j=q:=by omega
      rw [hs] at h2;rw [hm] at h3
      cases h2;cases h3
      rw [hbf];exact h1
    have hbad:bf=false→B=false:=fun h1=>by
     cases B with
     |false=>rfl
     |true=>
      have:=(HB.out.1 rfl).2 q s m hs hm
      rw [hbf,h1] at this
      exact this.symm
    have HGOOD:=ZZY hgood;have HBAD:=ZZY hbad
    clear hgood hbad hbf hs hm hnl hvl pg0 rg0 pg1 rg1 pg2 rg2 pg3 rg3 pI rI
    cases bf with
    |false=>
     have hB0:=HBAD.out rfl
     go_wp2_with (go_at_fn gf;(with_reducible refine (HX.out).mono ?_);rintro e w1 ⟨rfl,hB1⟩)
     go_ret
     exact ⟨ZAG hB0.symm,hBv.trans (hB1.mono hBv.size)⟩
    |true=>
     have hG0:=ZZY (HGOOD.out rfl)
     go_wp2_with (go_at_fn gf;(with_reducible refine (HX.out).mono ?_);rintro e w1 ⟨rfl,hB1⟩)
     go_roundw
     case rel=>exact ⟨q+1,by omega,by go_num,hBv.trans (hB1.mono hBv.size),hG0⟩
     case measure=>simp [intOf];omega
   ·obtain rfl:q=n:=by omega
    have hd:decide ((q:Int)<(q:Int))=false:=by simp
    have hBt:B=true:=HB.out.2 ⟨by rw [HN.out,HM.out],fun i s v h1 h2=>HALL.out i s v (by have h3:=(List.getElem?_eq_some_iff.1 h1).1;have h4:=HN.out;omega) h1 h2⟩
    go_wp2
    go_ret
    exact ⟨ZAG hBt.symm,hbw⟩
 ·have hB0:B=false:=by
   cases B with
   |false=>rfl
   |true=>exact absurd (hB.1 rfl).1 hnm
  have hb:((ls.length:Int) != (ms.length:Int))=true:=by simp only [bne_iff_ne,ne_eq];omega
  obtain ⟨n,hn⟩:∃ n,ls.length=n:=⟨_,rfl⟩
  obtain ⟨m,hmn⟩:∃ m,ms.length=m:=⟨_,rfl⟩
  rw [hn] at hb hlc ⊢
  rw [hmn] at hb ⊢
  clear hl hm hnm hB hn hmn hG
  go_enter func105,ntmps105
  go_wp2
  go_ret
  exact ⟨ZAG hB0.symm,Below.refl _ _⟩
theorem ZJH (a b:Option Addr) (c d:Nat) (ls ms:List SlotM) (gf:Nat) (w:World) (hl:ZBV w a c ls) (hm:ZBV w b d ms)
  (eg:∀ args w,(callFunc gf args).run Tryz.prog w=.ok (.enter gf args) w)
  (hG:∀ (i:Nat) (x y:SlotM) (W:World) (X Y:Value),ls[i]? = some x→ms[i]? = some y→Below w.heap.size w W→ZBe W x X→ZBe W y Y→Calls Tryz.prog gf #[X,Y] W fun e w'=>e=.returned (.bool (eqB x y))∧Below W.heap.size W w') :
  Calls Tryz.prog 57 #[.slice a ls.length c,.slice b ms.length d,.func (.func gf) #[] #[]] w fun e w'=>e=.returned (.bool (eqB ls ms))∧Below w.heap.size w w':=by
 have hcap:=hl.2.1
 have hlc:=hl.1
 unfold maxLen at hcap
 have hB:=ZDS ls ms
 obtain ⟨B,hBB⟩:∃ B,eqB ls ms=B:=⟨_,rfl⟩
 rw [hBB] at hB ⊢
 clear hBB
 by_cases hnm:ls.length=ms.length
 ·obtain ⟨n,hn⟩:∃ n,ls.length=n:=⟨_,rfl⟩
  have hmn:ms.length=n:=by rw [←hnm,hn]
  have HL:=ZZY hl;have HV:=ZZY hm;have HN:=ZZY hn;have HM:=ZZY hmn;have HB:=ZZY hB;have HG:=ZZY hG
  rw [hn] at hlc ⊢
  rw [hmn]
  have hb:((n:Int) != (n:Int))=false:=by simp
  clear hl hm hn hmn hB hnm hG
  go_enter func57,ntmps57
  go_wp2
  go_loopw [17] (fun i wr=>∃ q:Nat,q≤n∧i=.int .i64 (q:Int)∧Below w.heap.size w wr∧Hid (∀ (j:Nat) (s m:SlotM),j<q→ls[j]? = some s→ms[j]? = some m→eqB s m=true)) (fun i _=>n-(intOf i).toNat)
  case atStart=>exact ⟨0,Nat.zero_le _,rfl,Below.refl _ _,ZZY (fun j s v hj=>by omega)⟩
  case round=>
   obtain ⟨q,hq,rfl,hbw,HALL⟩:=hrel
   rcases Nat.lt_or_ge q n with hlt | hge
   ·have hd:decide ((q:Int)<(n:Int))=true:=by simp;omega
    have hnl:=HN.out
    have hvl:=HM.out
    obtain ⟨s,hs⟩:∃ s,ls[q]? = some s:=⟨ls[q],List.getElem?_eq_getElem (by omega)⟩
    obtain ⟨m,hm⟩:∃ m,ms[q]? = some m:=⟨ms[q],List.getElem?_eq_getElem (by omega)⟩
    obtain ⟨pb,po,rfl,prow⟩:∃ b9 off,a=some ⟨b9,off,none⟩∧∀ i s,ls[i]? = some s→ZCS w b9 (off+i*7) s:=by
     rcases HL.out.2.2 with h | h
     ·subst h;simp at hnl hvl;omega
     ·exact h
    obtain ⟨pk,pn,pt,pa,pl,pc,⟨pg0,pg1,pg2,pg3,pg4,pg5,pg6⟩,ph1,ph2,ph3⟩:=ZBR (prow q s hs)
    obtain ⟨rb,ro,rfl,rrow⟩:∃ b9 off,b=some ⟨b9,off,none⟩∧∀ i s,ms[i]? = some s→ZCS w b9 (off+i*7) s:=by
     rcases HV.out.2.2 with h | h
     ·subst h;simp at hnl hvl;omega
     ·exact h
    obtain ⟨rk,rn,rt,ra,rl,rc,⟨rg0,rg1,rg2,rg3,rg4,rg5,rg6⟩,rh1,rh2,rh3⟩:=ZBR (rrow q m hm)
    have y0:=ZAA hbw pg0
    have y1:=ZAA hbw pg1
    have y2:=ZAA hbw pg2
    have y3:=ZAA hbw pg3
    have y4:=ZAA hbw pg4
    have y5:=ZAA hbw pg5
    have y6:=ZAA hbw pg6
    have hA1:=hbw.alloc hbw.size (.cells #[.string s.nm,.int .i64 s.ty,.bool s.rq,.int .i64 pk,.int .i64 pn,.string pt,.slice pa pl pc] 51)
    have z0:=ZAA hA1 rg0
    have z1:=ZAA hA1 rg1
    have z2:=ZAA hA1 rg2
    have z3:=ZAA hA1 rg3
    have z4:=ZAA hA1 rg4
    have z5:=ZAA hA1 rg5
    have z6:=ZAA hA1 rg6
    have hBv:=hA1.alloc hA1.size (.cells #[.string m.nm,.int .i64 m.ty,.bool m.rq,.int .i64 rk,.int .i64 rn,.string rt,.slice ra rl rc] 51)
    obtain ⟨bf,hbf⟩:∃ bf,eqB s m=bf:=⟨_,rfl⟩
    have HX:=ZZY (HG.out q s m _ _ _ hs hm hBv (ZAn hBv ⟨_,_,_,_,_,_,_,rfl,ph2,ph1,rfl,rfl,rfl,ph3⟩) (ZAn hBv ⟨_,_,_,_,_,_,_,rfl,rh2,rh1,rfl,rfl,rfl,rh3⟩))
    rw [hbf] at HX
    have hgood:bf=true→∀ (j:Nat) (s m:SlotM),j<q+1→ls[j]? = some s→ms[j]? = some m→eqB s m=true:=fun h1 j s' v' hj h2 h3=>by
     rcases Nat.lt_or_ge j q with h | h
     ·exact HALL.out j s' v' h h2 h3
     ·obtain rfl:j=q:=by omega
      rw [hs] at h2;rw [hm] at h3
      cases h2;cases h3
      rw [hbf];exact h1
    have hbad:bf=false→B=false:=fun h1=>by
     cases B with
     |false=>rfl
     |true=>
      have:=(HB.out.1 rfl).2 q s m hs hm
      rw [hbf,h1] at this
      exact this.symm
    have HGOOD:=ZZY hgood;have HBAD:=ZZY hbad
    clear hgood hbad hbf hs hm hnl hvl pg0 rg0 pg1 rg1 pg2 rg2 pg3 rg3 pg4 rg4 pg5 rg5 pg6 rg6 prow rrow
    cases bf with
    |false=>
     have hB0:=HBAD.out rfl
     go_wp2_with (go_at_fn gf;(with_reducible refine (HX.out).mono ?_);rintro e w1 ⟨rfl,hB1⟩)
     go_ret
     exact ⟨ZAG hB0.symm,hBv.trans (hB1.mono hBv.size)⟩
    |true=>
     have hG0:=ZZY (HGOOD.out rfl)
     go_wp2_with (go_at_fn gf;(with_reducible refine (HX.out).mono ?_);rintro e w1 ⟨rfl,hB1⟩)
     go_roundw
     case rel=>exact ⟨q+1,by omega,by go_num,hBv.trans (hB1.mono hBv.size),hG0⟩
     case measure=>simp [intOf];omega
   ·obtain rfl:q=n:=by omega
    have hd:decide ((q:Int)<(q:Int))=false:=by simp
    have hBt:B=true:=HB.out.2 ⟨by rw [HN.out,HM.out],fun i s v h1 h2=>HALL.out i s v (by have h3:=(List.getElem?_eq_some_iff.1 h1).1;have h4:=HN.out;omega) h1 h2⟩
    go_wp2
    go_ret
    exact ⟨ZAG hBt.symm,hbw⟩
 ·have hB0:B=false:=by
   cases B with
   |false=>rfl
   |true=>exact absurd (hB.1 rfl).1 hnm
  have hb:((ls.length:Int) != (ms.length:Int))=true:=by simp only [bne_iff_ne,ne_eq];omega
  obtain ⟨n,hn⟩:∃ n,ls.length=n:=⟨_,rfl⟩
  obtain ⟨m,hmn⟩:∃ m,ms.length=m:=⟨_,rfl⟩
  rw [hn] at hb hlc ⊢
  rw [hmn] at hb ⊢
  clear hl hm hnm hB hn hmn hG
  go_enter func57,ntmps57
  go_wp2
  go_ret
  exact ⟨ZAG hB0.symm,Below.refl _ _⟩
theorem ZJI (a b:Option Addr) (c d:Nat) (ls ms:List StepM) (gf:Nat) (w:World) (hl:ZCI w a c ls) (hm:ZCI w b d ms)
  (eg:∀ args w,(callFunc gf args).run Tryz.prog w=.ok (.enter gf args) w)
  (hG:∀ (i:Nat) (x y:StepM) (W:World) (X Y:Value),ls[i]? = some x→ms[i]? = some y→Below w.heap.size w W→ZA3 W x X→ZA3 W y Y→Calls Tryz.prog gf #[X,Y] W fun e w'=>e=.returned (.bool (eqB x y))∧Below W.heap.size W w') :
  Calls Tryz.prog 59 #[.slice a ls.length c,.slice b ms.length d,.func (.func gf) #[] #[]] w fun e w'=>e=.returned (.bool (eqB ls ms))∧Below w.heap.size w w':=by
 have hcap:=hl.2.1
 have hlc:=hl.1
 unfold maxLen at hcap
 have hB:=ZDS ls ms
 obtain ⟨B,hBB⟩:∃ B,eqB ls ms=B:=⟨_,rfl⟩
 rw [hBB] at hB ⊢
 clear hBB
 by_cases hnm:ls.length=ms.length
 ·obtain ⟨n,hn⟩:∃ n,ls.length=n:=⟨_,rfl⟩
  have hmn:ms.length=n:=by rw [←hnm,hn]
  have HL:=ZZY hl;have HV:=ZZY hm;have HN:=ZZY hn;have HM:=ZZY hmn;have HB:=ZZY hB;have HG:=ZZY hG
  rw [hn] at hlc ⊢
  rw [hmn]
  have hb:((n:Int) != (n:Int))=false:=by simp
  clear hl hm hn hmn hB hnm hG
  go_enter func59,ntmps59
  go_wp2
  go_loopw [17] (fun i wr=>∃ q:Nat,q≤n∧i=.int .i64 (q:Int)∧Below w.heap.size w wr∧Hid (∀ (j:Nat) (s m:StepM),j<q→ls[j]? = some s→ms[j]? = some m→eqB s m=true)) (fun i _=>n-(intOf i).toNat)
  case atStart=>exact ⟨0,Nat.zero_le _,rfl,Below.refl _ _,ZZY (fun j s v hj=>by omega)⟩
  case round=>
   obtain ⟨q,hq,rfl,hbw,HALL⟩:=hrel
   rcases Nat.lt_or_ge q n with hlt | hge
   ·have hd:decide ((q:Int)<(n:Int))=true:=by simp;omega
    have hnl:=HN.out
    have hvl:=HM.out
    obtain ⟨s,hs⟩:∃ s,ls[q]? = some s:=⟨ls[q],List.getElem?_eq_getElem (by omega)⟩
    obtain ⟨m,hm⟩:∃ m,ms[q]? = some m:=⟨ms[q],List.getElem?_eq_getElem (by omega)⟩
    obtain ⟨pb,po,rfl,prow⟩:∃ b9 off,a=some ⟨b9,off,none⟩∧∀ i s,ls[i]? = some s→ZDc w b9 (off+i*10) s:=by
     rcases HL.out.2.2 with h | h
     ·subst h;simp at hnl hvl;omega
     ·exact h
    obtain ⟨pk,pn,pt,pa,pl,pc,poa,poc,⟨pg0,pg1,pg2,pg3,pg4,pg5,pg6,pg7,pg8,pg9⟩,ph1⟩:=ZCU (prow q s hs)
    obtain ⟨rb,ro,rfl,rrow⟩:∃ b9 off,b=some ⟨b9,off,none⟩∧∀ i s,ms[i]? = some s→ZDc w b9 (off+i*10) s:=by
     rcases HV.out.2.2 with h | h
     ·subst h;simp at hnl hvl;omega
     ·exact h
    obtain ⟨rk,rn,rt,ra,rl,rc,roa,roc,⟨rg0,rg1,rg2,rg3,rg4,rg5,rg6,rg7,rg8,rg9⟩,rh1⟩:=ZCU (rrow q m hm)
    have y0:=ZAA hbw pg0
    have y1:=ZAA hbw pg1
    have y2:=ZAA hbw pg2
    have y3:=ZAA hbw pg3
    have y4:=ZAA hbw pg4
    have y5:=ZAA hbw pg5
    have y6:=ZAA hbw pg6
    have y7:=ZAA hbw pg7
    have y8:=ZAA hbw pg8
    have y9:=ZAA hbw pg9
    have hA1:=hbw.alloc hbw.size (.cells #[.int .i64 s.kd,.int .i64 s.col,.string s.sl.nm,.int .i64 s.sl.ty,.bool s.sl.rq,.int .i64 pk,.int .i64 pn,.string pt,.slice pa pl pc,.slice poa s.od.length poc] 54)
    have z0:=ZAA hA1 rg0
    have z1:=ZAA hA1 rg1
    have z2:=ZAA hA1 rg2
    have z3:=ZAA hA1 rg3
    have z4:=ZAA hA1 rg4
    have z5:=ZAA hA1 rg5
    have z6:=ZAA hA1 rg6
    have z7:=ZAA hA1 rg7
    have z8:=ZAA hA1 rg8
    have z9:=ZAA hA1 rg9
    have hBv:=hA1.alloc hA1.size (.cells #[.int .i64 m.kd,.int .i64 m.col,.string m.sl.nm,.int .i64 m.sl.ty,.bool m.sl.rq,.int .i64 rk,.int .i64 rn,.string rt,.slice ra rl rc,.slice roa m.od.length roc] 54)
    obtain ⟨bf,hbf⟩:∃ bf,eqB s m=bf:=⟨_,rfl⟩
    have HX:=ZZY (HG.out q s m _ _ _ hs hm hBv (ZBB hBv ph1) (ZBB hBv rh1))
    rw [hbf] at HX
    have hgood:bf=true→∀ (j:Nat) (s m:StepM),j<q+1→ls[j]? = some s→ms[j]? = some m→eqB s m=true:=fun h1 j s' v' hj h2 h3=>by
     rcases Nat.lt_or_ge j q with h | h
     ·exact HALL.out j s' v' h h2 h3
     ·obtain rfl:j=q:=by omega
      rw [hs] at h2;rw [hm] at h3
      cases h2;cases h3
      rw [hbf];exact h1
    have hbad:bf=false→B=false:=fun h1=>by
     cases B with
     |false=>rfl
     |true=>
      have:=(HB.out.1 rfl).2 q s m hs hm
      rw [hbf,h1] at this
      exact this.symm
    have HGOOD:=ZZY hgood;have HBAD:=ZZY hbad
    clear hgood hbad hbf hs hm hnl hvl pg0 rg0 pg1 rg1 pg2 rg2 pg3 rg3 pg4 rg4 pg5 rg5 pg6 rg6 pg7 rg7 pg8 rg8 pg9 rg9 prow rrow
    cases bf with
    |false=>
     have hB0:=HBAD.out rfl
     go_wp2_with (go_at_fn gf;(with_reducible refine (HX.out).mono ?_);rintro e w1 ⟨rfl,hB1⟩)
     go_ret
     exact ⟨ZAG hB0.symm,hBv.trans (hB1.mono hBv.size)⟩
    |true=>
     have hG0:=ZZY (HGOOD.out rfl)
     go_wp2_with (go_at_fn gf;(with_reducible refine (HX.out).mono ?_);rintro e w1 ⟨rfl,hB1⟩)
     go_roundw
     case rel=>exact ⟨q+1,by omega,by go_num,hBv.trans (hB1.mono hBv.size),hG0⟩
     case measure=>simp [intOf];omega
   ·obtain rfl:q=n:=by omega
    have hd:decide ((q:Int)<(q:Int))=false:=by simp
    have hBt:B=true:=HB.out.2 ⟨by rw [HN.out,HM.out],fun i s v h1 h2=>HALL.out i s v (by have h3:=(List.getElem?_eq_some_iff.1 h1).1;have h4:=HN.out;omega) h1 h2⟩
    go_wp2
    go_ret
    exact ⟨ZAG hBt.symm,hbw⟩
 ·have hB0:B=false:=by
   cases B with
   |false=>rfl
   |true=>exact absurd (hB.1 rfl).1 hnm
  have hb:((ls.length:Int) != (ms.length:Int))=true:=by simp only [bne_iff_ne,ne_eq];omega
  obtain ⟨n,hn⟩:∃ n,ls.length=n:=⟨_,rfl⟩
  obtain ⟨m,hmn⟩:∃ m,ms.length=m:=⟨_,rfl⟩
  rw [hn] at hb hlc ⊢
  rw [hmn] at hb ⊢
  clear hl hm hnm hB hn hmn hG
  go_enter func59,ntmps59
  go_wp2
  go_ret
  exact ⟨ZAG hB0.symm,Below.refl _ _⟩
theorem ZHs (a b:Option Addr) (c d:Nat) (ls ms:List TemplM) (gf:Nat) (w:World) (hl:ZAw w a c ls) (hm:ZAw w b d ms)
  (eg:∀ args w,(callFunc gf args).run Tryz.prog w=.ok (.enter gf args) w)
  (hG:∀ (i:Nat) (x y:TemplM) (W:World) (X Y:Value),ls[i]? = some x→ms[i]? = some y→Below w.heap.size w W→ZA8 W x X→ZA8 W y Y→Calls Tryz.prog gf #[X,Y] W fun e w'=>e=.returned (.bool (eqB x y))∧Below W.heap.size W w') :
  Calls Tryz.prog 35 #[.slice a ls.length c,.slice b ms.length d,.func (.func gf) #[] #[]] w fun e w'=>e=.returned (.bool (eqB ls ms))∧Below w.heap.size w w':=by
 have hcap:=hl.2.1
 have hlc:=hl.1
 unfold maxLen at hcap
 have hB:=ZDS ls ms
 obtain ⟨B,hBB⟩:∃ B,eqB ls ms=B:=⟨_,rfl⟩
 rw [hBB] at hB ⊢
 clear hBB
 by_cases hnm:ls.length=ms.length
 ·obtain ⟨n,hn⟩:∃ n,ls.length=n:=⟨_,rfl⟩
  have hmn:ms.length=n:=by rw [←hnm,hn]
  have HL:=ZZY hl;have HV:=ZZY hm;have HN:=ZZY hn;have HM:=ZZY hmn;have HB:=ZZY hB;have HG:=ZZY hG
  rw [hn] at hlc ⊢
  rw [hmn]
  have hb:((n:Int) != (n:Int))=false:=by simp
  clear hl hm hn hmn hB hnm hG
  go_enter func35,ntmps35
  go_wp2
  go_loopw [17] (fun i wr=>∃ q:Nat,q≤n∧i=.int .i64 (q:Int)∧Below w.heap.size w wr∧Hid (∀ (j:Nat) (s m:TemplM),j<q→ls[j]? = some s→ms[j]? = some m→eqB s m=true)) (fun i _=>n-(intOf i).toNat)
  case atStart=>exact ⟨0,Nat.zero_le _,rfl,Below.refl _ _,ZZY (fun j s v hj=>by omega)⟩
  case round=>
   obtain ⟨q,hq,rfl,hbw,HALL⟩:=hrel
   rcases Nat.lt_or_ge q n with hlt | hge
   ·have hd:decide ((q:Int)<(n:Int))=true:=by simp;omega
    have hnl:=HN.out
    have hvl:=HM.out
    obtain ⟨s,hs⟩:∃ s,ls[q]? = some s:=⟨ls[q],List.getElem?_eq_getElem (by omega)⟩
    obtain ⟨m,hm⟩:∃ m,ms[q]? = some m:=⟨ms[q],List.getElem?_eq_getElem (by omega)⟩
    obtain ⟨pb,po,rfl,prow⟩:∃ b9 off,a=some ⟨b9,off,none⟩∧∀ i s,ls[i]? = some s→ZCe w b9 (off+i*3) s:=by
     rcases HL.out.2.2 with h | h
     ·subst h;simp at hnl hvl;omega
     ·exact h
    obtain ⟨pa,pc,poa,poc,⟨pg0,pg1,pg2⟩,ph2,ph1⟩:=ZB4 (prow q s hs)
    obtain ⟨rb,ro,rfl,rrow⟩:∃ b9 off,b=some ⟨b9,off,none⟩∧∀ i s,ms[i]? = some s→ZCe w b9 (off+i*3) s:=by
     rcases HV.out.2.2 with h | h
     ·subst h;simp at hnl hvl;omega
     ·exact h
    obtain ⟨ra,rc,roa,roc,⟨rg0,rg1,rg2⟩,rh2,rh1⟩:=ZB4 (rrow q m hm)
    have y0:=ZAA hbw pg0
    have y1:=ZAA hbw pg1
    have y2:=ZAA hbw pg2
    have hA1:=hbw.alloc hbw.size (.cells #[.string s.nm,.slice pa s.slots.length pc,.slice poa s.steps.length poc] 40)
    have z0:=ZAA hA1 rg0
    have z1:=ZAA hA1 rg1
    have z2:=ZAA hA1 rg2
    have hBv:=hA1.alloc hA1.size (.cells #[.string m.nm,.slice ra m.slots.length rc,.slice roa m.steps.length roc] 40)
    obtain ⟨bf,hbf⟩:∃ bf,eqB s m=bf:=⟨_,rfl⟩
    have HX:=ZZY (HG.out q s m _ _ _ hs hm hBv (ZBU hBv ph1) (ZBU hBv rh1))
    rw [hbf] at HX
    have hgood:bf=true→∀ (j:Nat) (s m:TemplM),j<q+1→ls[j]? = some s→ms[j]? = some m→eqB s m=true:=fun h1 j s' v' hj h2 h3=>by
     rcases Nat.lt_or_ge j q with h | h
     ·exact HALL.out j s' v' h h2 h3
     ·obtain rfl:j=q:=by omega
      rw [hs] at h2;rw [hm] at h3
      cases h2;cases h3
      rw [hbf];exact h1
    have hbad:bf=false→B=false:=fun h1=>by
     cases B with
     |false=>rfl
     |true=>
      have:=(HB.out.1 rfl).2 q s m hs hm
      rw [hbf,h1] at this
      exact this.symm
    have HGOOD:=ZZY hgood;have HBAD:=ZZY hbad
    clear hgood hbad hbf hs hm hnl hvl pg0 rg0 pg1 rg1 pg2 rg2 prow rrow
    cases bf with
    |false=>
     have hB0:=HBAD.out rfl
     go_wp2_with (go_at_fn gf;(with_reducible refine (HX.out).mono ?_);rintro e w1 ⟨rfl,hB1⟩)
     go_ret
     exact ⟨ZAG hB0.symm,hBv.trans (hB1.mono hBv.size)⟩
    |true=>
     have hG0:=ZZY (HGOOD.out rfl)
     go_wp2_with (go_at_fn gf;(with_reducible refine (HX.out).mono ?_);rintro e w1 ⟨rfl,hB1⟩)
     go_roundw
     case rel=>exact ⟨q+1,by omega,by go_num,hBv.trans (hB1.mono hBv.size),hG0⟩
     case measure=>simp [intOf];omega
   ·obtain rfl:q=n:=by omega
    have hd:decide ((q:Int)<(q:Int))=false:=by simp
    have hBt:B=true:=HB.out.2 ⟨by rw [HN.out,HM.out],fun i s v h1 h2=>HALL.out i s v (by have h3:=(List.getElem?_eq_some_iff.1 h1).1;have h4:=HN.out;omega) h1 h2⟩
    go_wp2
    go_ret
    exact ⟨ZAG hBt.symm,hbw⟩
 ·have hB0:B=false:=by
   cases B with
   |false=>rfl
   |true=>exact absurd (hB.1 rfl).1 hnm
  have hb:((ls.length:Int) != (ms.length:Int))=true:=by simp only [bne_iff_ne,ne_eq];omega
  obtain ⟨n,hn⟩:∃ n,ls.length=n:=⟨_,rfl⟩
  obtain ⟨m,hmn⟩:∃ m,ms.length=m:=⟨_,rfl⟩
  rw [hn] at hb hlc ⊢
  rw [hmn] at hb ⊢
  clear hl hm hnm hB hn hmn hG
  go_enter func35,ntmps35
  go_wp2
  go_ret
  exact ⟨ZAG hB0.symm,Below.refl _ _⟩
theorem ZOC {k k' n n':Int} {s s':ByteArray} {l l':List PV} : PV.mk k n s l=PV.mk k' n' s' l' ↔ k=k'∧n=n'∧s=s'∧l=l':=by
 constructor
 ·intro e;cases e;exact ⟨rfl,rfl,rfl,rfl⟩
 ·rintro ⟨rfl,rfl,rfl,rfl⟩;rfl
theorem ZJJ (args:Array Value) (w:World):(callFunc 84 args).run Tryz.prog w=.ok (.enter 84 args) w:=enters_of func84 (by kernel_rfl) rfl args w
theorem ZJK (v:PV):∀ (u:PV) (w:World) (x y:Value),Is w v x→Is w u y→Calls Tryz.prog 84 #[x,y] w fun e w'=>e=.returned (.bool (eqB v u))∧Below w.heap.size w w':=by
 induction v using ZB1 with
 |h k n s l ih=>
  intro u w x y hi hj
  obtain ⟨k',n',s',l'⟩:=u
  unfold Is at hi hj
  obtain ⟨I1,I2,I3,a,c,rfl,h4,h5,h6⟩:=hi
  obtain ⟨J1,J2,J3,a',c',rfl,g4,g5,g6⟩:=hj
  have hB0:=((Below.refl _ w).alloc (Nat.le_refl _) (.cells #[.int .i64 k,.int .i64 n,.string s,.slice a l.length c] 49)).alloc (by simp) (.cells #[.int .i64 k',.int .i64 n',.string s',.slice a' l'.length c'] 49)
  by_cases hk:k=k'
  ·by_cases hn:n=n'
   ·by_cases hs:s=s'
    ·subst hk hn hs
     rw [ZEJ (ZOC.trans (show _ ↔ l=l' from ⟨fun h=>h.2.2.2,fun h=>⟨rfl,rfl,rfl,h⟩⟩))]
     have hE:=ZLG a a' c c' l l' 84 _ ⟨h4,h5,h6.imp id fun ⟨b,off,ha,hc⟩=>⟨b,off,ha,ZA7 hB0 hc⟩⟩ ⟨g4,g5,g6.imp id fun ⟨b,off,ha,hc⟩=>⟨b,off,ha,ZA7 hB0 hc⟩⟩ ZJJ (fun i x y W X Y h1 h2 _ hx hy=>ih x (List.mem_of_getElem? h1) y W X Y hx hy)
     have HE:=ZZY hE
     clear hE ih h6 g6
     generalize eqB l l'=B at *
     go_enter func84,ntmps84
     go_wp2_with (go_at_call 105;(with_reducible refine (HE.out).mono ?_);rintro e w1 ⟨rfl,hB1⟩)
     go_ret
     exact ⟨rfl,hB0.trans (hB1.mono hB0.size)⟩
    ·rw [ZCV (fun e=>hs (ZOC.1 e).2.2.1)]
     subst hk hn
     have e3:=ZGI hs
     clear ih h6 g6
     go_enter func84,ntmps84
     go_wp2
     go_ret
     exact ⟨rfl,hB0⟩
   ·rw [ZCV (fun e=>hn (ZOC.1 e).2.1)]
    subst hk
    have e2:=ZGJ hn
    clear ih h6 g6
    go_enter func84,ntmps84
    go_wp2
    go_ret
    exact ⟨rfl,hB0⟩
  ·rw [ZCV (fun e=>hk (ZOC.1 e).1)]
   have e1:=ZGJ hk
   clear ih h6 g6
   go_enter func84,ntmps84
   go_wp2
   go_ret
   exact ⟨rfl,hB0⟩
theorem ZDj {nm nm':ByteArray} {ty ty':Int} {rq rq':Bool} {df df':PV} : (⟨nm,ty,rq,df⟩:SlotM)=⟨nm',ty',rq',df'⟩ ↔ nm=nm'∧ty=ty'∧rq=rq'∧df=df':=by
 constructor
 ·intro e;cases e;exact ⟨rfl,rfl,rfl,rfl⟩
 ·rintro ⟨rfl,rfl,rfl,rfl⟩;rfl
theorem ZMX {w W:World} {c0 c1 c2 c3 c4 c5 c6 c7 c8 c9 d0 d1 d2 d3 d4 d5 d6 d7 d8 d9:Value} {t:TypeId} (h:Below ((w.alloc (.cells #[c0,c1,c2,c3,c4,c5,c6,c7,c8,c9] t)).alloc (.cells #[d0,d1,d2,d3,d4,d5,d6,d7,d8,d9] t)).heap.size ((w.alloc (.cells #[c0,c1,c2,c3,c4,c5,c6,c7,c8,c9] t)).alloc (.cells #[d0,d1,d2,d3,d4,d5,d6,d7,d8,d9] t)) W) :
  W.cell? ⟨w.heap.size,9,none⟩=some c9∧W.cell? ⟨w.heap.size+1,9,none⟩=some d9:=⟨ZAA h (by simp),ZAA h (by simp)⟩
theorem ZLH {w W:World} {c0 c1 c2 d0 d1 d2:Value} {t:TypeId} (h:Below ((w.alloc (.cells #[c0,c1,c2] t)).alloc (.cells #[d0,d1,d2] t)).heap.size ((w.alloc (.cells #[c0,c1,c2] t)).alloc (.cells #[d0,d1,d2] t)) W) :
  W.cell? ⟨w.heap.size,2,none⟩=some c2∧W.cell? ⟨w.heap.size+1,2,none⟩=some d2:=⟨ZAA h (by simp),ZAA h (by simp)⟩
theorem ZJL (args:Array Value) (w:World):(callFunc 58 args).run Tryz.prog w=.ok (.enter 58 args) w:=enters_of func58 (by kernel_rfl) rfl args w
theorem ZE4 (s u:SlotM) (w:World) (x y:Value) (hi:ZBe w s x) (hj:ZBe w u y):Calls Tryz.prog 58 #[x,y] w fun e w'=>e=.returned (.bool (eqB s u))∧Below w.heap.size w w':=by
 obtain ⟨k,n,t,a,len,cap,rfl,I1,I2,hd⟩:=ZCF hi
 obtain ⟨k',n',t',a',len',cap',rfl,J1,J2,hd'⟩:=ZCF hj
 obtain ⟨nm,ty,rq,df⟩:=s
 obtain ⟨nm',ty',rq',df'⟩:=u
 simp only at *
 have hB0:=((Below.refl _ w).alloc (Nat.le_refl _) (.cells #[.string nm,.int .i64 ty,.bool rq,.int .i64 k,.int .i64 n,.string t,.slice a len cap] 51)).alloc (by simp) (.cells #[.string nm',.int .i64 ty',.bool rq',.int .i64 k',.int .i64 n',.string t',.slice a' len' cap'] 51)
 have hE:=ZJK df df' _ _ _ (ZAf hB0 _ _ hd) (ZAf hB0 _ _ hd')
 have HE:=ZZY hE
 clear hE hi hj hd hd' I1 J1
 by_cases hk:nm=nm'
 ·by_cases hn:ty=ty'
  ·by_cases hs:rq=rq'
   ·subst hk hn hs
    rw [ZEJ (ZDj.trans (show _ ↔ df=df' from ⟨fun h=>h.2.2.2,fun h=>⟨rfl,rfl,rfl,h⟩⟩))]
    generalize eqB df df'=B at *
    have e3:(rq == rq)=true:=by simp
    go_enter func58,ntmps58
    go_wp2_with (go_at_call 84;(with_reducible refine (HE.out).mono ?_);rintro e w1 ⟨rfl,hB1⟩)
    go_ret
    exact ⟨rfl,hB0.trans (hB1.mono hB0.size)⟩
   ·rw [ZCV (fun e=>hs (ZDj.1 e).2.2.1)]
    subst hk hn
    have e3:(rq == rq')=false:=by rw [beq_eq_false_iff_ne];exact hs
    go_enter func58,ntmps58
    go_wp2
    go_ret
    exact ⟨rfl,hB0⟩
  ·rw [ZCV (fun e=>hn (ZDj.1 e).2.1)]
   subst hk
   have e2:=ZGJ hn
   go_enter func58,ntmps58
   go_wp2
   go_ret
   exact ⟨rfl,hB0⟩
 ·rw [ZCV (fun e=>hk (ZDj.1 e).1)]
  have e1:=ZGI hk
  go_enter func58,ntmps58
  go_wp2
  go_ret
  exact ⟨rfl,hB0⟩
theorem ZJM {kd kd' col col':Int} {sl sl':SlotM} {od od':List Int} : (⟨kd,col,sl,od⟩:StepM)=⟨kd',col',sl',od'⟩ ↔ kd=kd'∧col=col'∧sl=sl'∧od=od':=by
 constructor
 ·intro e;cases e;exact ⟨rfl,rfl,rfl,rfl⟩
 ·rintro ⟨rfl,rfl,rfl,rfl⟩;rfl
theorem ZGx {nm nm':ByteArray} {sl sl':List SlotM} {st st':List StepM} : (⟨nm,sl,st⟩:TemplM)=⟨nm',sl',st'⟩ ↔ nm=nm'∧sl=sl'∧st=st':=by
 constructor
 ·intro e;cases e;exact ⟨rfl,rfl,rfl⟩
 ·rintro ⟨rfl,rfl,rfl⟩;rfl
theorem ZHt (args:Array Value) (w:World):(callFunc 60 args).run Tryz.prog w=.ok (.enter 60 args) w:=enters_of func60 (by kernel_rfl) rfl args w
theorem ZHu {l r:List Int} {w w':World} {e:Ending} (h:ZKt l r w e w'):e=.returned (.bool (eqB l r))∧Below w.heap.size w w':=by
 obtain ⟨rfl,n,rfl⟩:=h
 refine ⟨ZAG ?_,ZAh (Below.refl _ _) n⟩
 rw [Bool.eq_iff_iff,decide_eq_true_eq,ZBo]
theorem ZHv (s u:StepM) (w:World) (x y:Value) (hi:ZA3 w s x) (hj:ZA3 w u y):Calls Tryz.prog 60 #[x,y] w fun e w'=>e=.returned (.bool (eqB s u))∧Below w.heap.size w w':=by
 have hi0:=hi
 have hj0:=hj
 obtain ⟨k,n,t,a,len,cap,oa,oc,rfl,I1,I2,I3,I4,hd,hr,ho⟩:=ZBF hi
 obtain ⟨k',n',t',a',len',cap',oa',oc',rfl,J1,J2,J3,J4,hd',hr',ho'⟩:=ZBF hj
 have hB0:=((Below.refl _ w).alloc (Nat.le_refl _) (.cells #[.int .i64 s.kd,.int .i64 s.col,.string s.sl.nm,.int .i64 s.sl.ty,.bool s.sl.rq,.int .i64 k,.int .i64 n,.string t,.slice a len cap,.slice oa s.od.length oc] 54)).alloc (by simp) (.cells #[.int .i64 u.kd,.int .i64 u.col,.string u.sl.nm,.int .i64 u.sl.ty,.bool u.sl.rq,.int .i64 k',.int .i64 n',.string t',.slice a' len' cap',.slice oa' u.od.length oc'] 54)
 have hE:=ZE4 s.sl u.sl _ _ _ (ZAn hB0 (ZBx hi0)) (ZAn hB0 (ZBx hj0))
 have hO:=fun W (hb:Below w.heap.size w W)=>(ZGg oa oa' s.od.length u.od.length oc oc' s.od u.od W (ZAk hr hb rfl) (ZAk hr' hb rfl)).mono fun e w' h=>ZHu h
 have HE:=ZZY hE;have HO:=ZZY hO
 obtain ⟨kd,col,sl,od⟩:=s
 obtain ⟨kd',col',sl',od'⟩:=u
 simp only at *
 clear hE hO hi hj hi0 hj0 hd hd' hr hr' ho ho' I1 J1 I2 J2 I3 J3 I4 J4
 by_cases hk:kd=kd'
 ·by_cases hn:col=col'
  ·subst hk hn
   obtain ⟨B1,hb1⟩:∃ B,eqB sl sl'=B:=⟨_,rfl⟩
   obtain ⟨B2,hb2⟩:∃ B,eqB od od'=B:=⟨_,rfl⟩
   have hres:eqB (⟨kd,col,sl,od⟩:StepM) ⟨kd,col,sl',od'⟩=(B1 && B2):=by
    rw [←hb1,←hb2,Bool.eq_iff_iff,Bool.and_eq_true,ZBo,ZBo,ZBo,ZJM]
    exact ⟨fun h=>h.2.2,fun h=>⟨rfl,rfl,h⟩⟩
   rw [hres]
   rw [hb1] at HE
   simp only [hb2] at HO
   clear hres hb1 hb2
   cases B1 with
   |false=>
    go_enter func60,ntmps60
    go_wp2_with (go_at_call 58;(with_reducible refine (HE.out).mono ?_);rintro e w1 ⟨rfl,hB1⟩)
    go_ret
    exact ⟨rfl,hB0.trans (hB1.mono hB0.size)⟩
   |true=>
    rw [Bool.true_and]
    go_enter func60,ntmps60
    go_wp2_with (first
     |(go_at_call 58;(with_reducible refine (HE.out).mono ?_);rintro e w1 ⟨rfl,hB1⟩;have hbb:=hB0.trans (hB1.mono hB0.size);obtain ⟨x9,y9⟩:=ZMX hB1)
     |(go_at_call 85;(with_reducible refine (HO.out _ hbb).mono ?_);rintro e w2 ⟨rfl,hB2⟩))
    go_ret
    exact ⟨rfl,hbb.trans (hB2.mono hbb.size)⟩
  ·rw [ZCV (fun e=>hn (ZJM.1 e).2.1)]
   subst hk
   have e2:=ZGJ hn
   go_enter func60,ntmps60
   go_wp2
   go_ret
   exact ⟨rfl,hB0⟩
 ·rw [ZCV (fun e=>hk (ZJM.1 e).1)]
  have e1:=ZGJ hk
  go_enter func60,ntmps60
  go_wp2
  go_ret
  exact ⟨rfl,hB0⟩
theorem ZHw (args:Array Value) (w:World):(callFunc 36 args).run Tryz.prog w=.ok (.enter 36 args) w:=enters_of func36 (by kernel_rfl) rfl args w
theorem ZGy (s u:TemplM) (w:World) (x y:Value) (hi:ZA8 w s x) (hj:ZA8 w u y):Calls Tryz.prog 36 #[x,y] w fun e w'=>e=.returned (.bool (eqB s u))∧Below w.heap.size w w':=by
 obtain ⟨h1,sa,sc,ta,tc,rfl,hs,ht⟩:=hi
 obtain ⟨g1,sa',sc',ta',tc',rfl,hs',ht'⟩:=hj
 have hB0:=((Below.refl _ w).alloc (Nat.le_refl _) (.cells #[.string s.nm,.slice sa s.slots.length sc,.slice ta s.steps.length tc] 40)).alloc (by simp) (.cells #[.string u.nm,.slice sa' u.slots.length sc',.slice ta' u.steps.length tc'] 40)
 have hE:=ZJH sa sa' sc sc' s.slots u.slots 58 _ (ZAy hB0 hs) (ZAy hB0 hs') ZJL (fun i x y W X Y _ _ _ hx hy=>ZE4 x y W X Y hx hy)
 have hO:=fun W (hb:Below w.heap.size w W)=>ZJI ta ta' tc tc' s.steps u.steps 60 W (ZBf hb ht) (ZBf hb ht') ZHt (fun i x y W X Y _ _ _ hx hy=>ZHv x y W X Y hx hy)
 have HE:=ZZY hE;have HO:=ZZY hO
 obtain ⟨nm,sl,od⟩:=s
 obtain ⟨nm',sl',od'⟩:=u
 simp only at *
 clear hE hO hs hs' ht ht'
 by_cases hk:nm=nm'
 ·subst hk
  obtain ⟨B1,hb1⟩:∃ B,eqB sl sl'=B:=⟨_,rfl⟩
  obtain ⟨B2,hb2⟩:∃ B,eqB od od'=B:=⟨_,rfl⟩
  have hres:eqB (⟨nm,sl,od⟩:TemplM) ⟨nm,sl',od'⟩=(B1 && B2):=by
   rw [←hb1,←hb2,Bool.eq_iff_iff,Bool.and_eq_true,ZBo,ZBo,ZBo,ZGx]
   exact ⟨fun h=>h.2,fun h=>⟨rfl,h⟩⟩
  rw [hres]
  rw [hb1] at HE
  simp only [hb2] at HO
  clear hres hb1 hb2
  cases B1 with
  |false=>
   go_enter func36,ntmps36
   go_wp2_with (go_at_call 57;(with_reducible refine (HE.out).mono ?_);rintro e w1 ⟨rfl,hB1⟩)
   go_ret
   exact ⟨rfl,hB0.trans (hB1.mono hB0.size)⟩
  |true=>
   rw [Bool.true_and]
   go_enter func36,ntmps36
   go_wp2_with (first
    |(go_at_call 57;(with_reducible refine (HE.out).mono ?_);rintro e w1 ⟨rfl,hB1⟩;have hbb:=hB0.trans (hB1.mono hB0.size);obtain ⟨x9,y9⟩:=ZLH hB1)
    |(go_at_call 59;(with_reducible refine (HO.out _ hbb).mono ?_);rintro e w2 ⟨rfl,hB2⟩))
   go_ret
   exact ⟨rfl,hbb.trans (hB2.mono hbb.size)⟩
 ·rw [ZCV (fun e=>hk (ZGx.1 e).1)]
  have e1:=ZGI hk
  go_enter func36,ntmps36
  go_wp2
  go_ret
  exact ⟨rfl,hB0⟩
theorem ZLI (a b:Option Addr) (c d:Nat) (l m:List TemplM) (w:World) (hl:ZAw w a c l) (hm:ZAw w b d m) :
  Calls Tryz.prog 15 #[.slice a l.length c,.slice b m.length d] w fun e w'=>e=.returned (.bool (eqB l m))∧Below w.heap.size w w':=by
 have hE:=ZHs a b c d l m 36 w hl hm ZHw (fun i x y W X Y _ _ _ hx hy=>ZGy x y W X Y hx hy)
 generalize eqB l m=B at *
 have HE:=ZZY hE
 clear hE hl hm
 go_enter func15,ntmps15
 go_wp2_with (go_at_call 35;(with_reducible refine (HE.out).mono ?_);rintro e w1 ⟨rfl,hB1⟩)
 go_ret
 exact ⟨rfl,hB1⟩
