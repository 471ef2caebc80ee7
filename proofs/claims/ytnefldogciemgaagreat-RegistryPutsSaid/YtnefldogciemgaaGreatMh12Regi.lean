/- Registries: whether values, slots, steps, templates, registries are the same. (Made by gen_rgs.py.) -/
import Derived.Test.YtnefldogciemgaaGreatMh11Regi
set_option linter.unusedVariables false
set_option linter.unusedSimpArgs false
set_option maxRecDepth 100000
namespace Go.Proofs.YtnefldogciemgaaGreat
open Go.RowKit Go.Shelf
noncomputable def eqB {α : Type} (a b : α):Bool:=@decide (a=b) (Classical.propDecidable _)
theorem eqB_iff {α : Type} (a b : α):eqB a b=true ↔ a=b:=by
 unfold eqB
 exact @decide_eq_true_iff (a=b) (Classical.propDecidable _)
theorem eqB_self {α : Type} (a : α):eqB a a=true:=(eqB_iff a a).2 rfl
theorem eqB_not {α : Type} {a b : α} (h:a≠b):eqB a b=false:=by
 cases hb:eqB a b with
 |false=>rfl
 |true=>exact absurd ((eqB_iff a b).1 hb) h
theorem eqB_congr {α β : Type} {a b : α} {c d : β} (h:a=b ↔ c=d):eqB a b=eqB c d:=by
 rw [Bool.eq_iff_iff,eqB_iff,eqB_iff];exact h
theorem eqB_list {α : Type} (a b:List α):eqB a b=true ↔ a.length=b.length∧∀ (i:Nat) (x y : α),a[i]? = some x→b[i]? = some y→eqB x y=true:=by
 rw [eqB_iff]
 constructor
 ·rintro rfl
  refine ⟨rfl,fun i x y h1 h2=>?_⟩
  rw [h1] at h2;cases h2
  exact eqB_self x
 ·rintro ⟨hl,h⟩
  refine List.ext_getElem? fun i=>?_
  rcases Nat.lt_or_ge i a.length with hi | hi
  ·have h1:a[i]? = some a[i]:=List.getElem?_eq_getElem hi
   have h2:b[i]? = some (b[i]'(by omega)):=List.getElem?_eq_getElem (by omega)
   have:=(eqB_iff _ _).1 (h i _ _ h1 h2)
   rw [h1,h2,this]
  ·rw [List.getElem?_eq_none hi,List.getElem?_eq_none (by omega)]
def ValRow (w:World) (a:Option Addr) (cap:Nat) (l:List PV):Prop:=l.length≤cap∧cap≤maxLen∧(l = []∨∃ b off,a=some ⟨b,off,none⟩∧IsL w b l off)
theorem toL_ne {a b:ByteArray} (h:a≠b):(a.toList == b.toList)=false:=by
 rw [beq_eq_false_iff_ne]
 intro e
 exact h (ByteArray.ext (Array.toList_inj.1 (by rw [←toList_data,←toList_data];exact e)))
theorem int_ne {a b:Int} (h:a≠b):(a == b)=false:=by rw [beq_eq_false_iff_ne];exact h
theorem valRow_at {W:World} {a:Option Addr} {cap:Nat} {l:List PV} (h:ValRow W a cap l) {i:Nat} {v:PV} (hv:l[i]? = some v):∃ b off k n t la ll lc,a=some ⟨b,off,none⟩ ∧
  (W.cell? ⟨b,off+i*4,none⟩=some (.int .i64 k)∧W.cell? ⟨b,off+i*4+1,none⟩=some (.int .i64 n)∧W.cell? ⟨b,off+i*4+2,none⟩=some (.string t)∧W.cell? ⟨b,off+i*4+3,none⟩=some (.slice la ll lc)) ∧
  Is W v (.agg #[.int .i64 k,.int .i64 n,.string t,.slice la ll lc]):=by
 rcases h.2.2 with h3 | ⟨b,off,ha,hc⟩
 ·subst h3;simp at hv
 ·cases v with
  |mk k n t r=>
   obtain ⟨la,lc,hcs,hi⟩:=isL_val hc i k n t r hv
   exact ⟨b,off,k,n,t,la,_,lc,ha,hcs,hi⟩
set_option maxHeartbeats 4000000 in
theorem eqfVal_any (a b:Option Addr) (c d:Nat) (ls ms:List PV) (gf:Nat) (w:World) (hl:ValRow w a c ls) (hm:ValRow w b d ms)
  (eg:∀ args w,(callFunc gf args).run Tryz.prog w=.ok (.enter gf args) w)
  (hG:∀ (i:Nat) (x y:PV) (W:World) (X Y:Value),ls[i]? = some x→ms[i]? = some y→Below w.heap.size w W→Is W x X→Is W y Y→Calls Tryz.prog gf #[X,Y] W fun e w'=>e=.returned (.bool (eqB x y))∧Below W.heap.size W w') :
  Calls Tryz.prog 120 #[.slice a ls.length c,.slice b ms.length d,.func (.func gf) #[] #[]] w fun e w'=>e=.returned (.bool (eqB ls ms))∧Below w.heap.size w w':=by
 have hcap:=hl.2.1
 have hlc:=hl.1
 unfold maxLen at hcap
 have hB:=eqB_list ls ms
 obtain ⟨B,hBB⟩:∃ B,eqB ls ms=B:=⟨_,rfl⟩
 rw [hBB] at hB ⊢
 clear hBB
 by_cases hnm:ls.length=ms.length
 ·obtain ⟨n,hn⟩:∃ n,ls.length=n:=⟨_,rfl⟩
  have hmn:ms.length=n:=by rw [←hnm,hn]
  have HL:=Lib.hid hl;have HV:=Lib.hid hm;have HN:=Lib.hid hn;have HM:=Lib.hid hmn;have HB:=Lib.hid hB;have HG:=Lib.hid hG
  rw [hn] at hlc ⊢
  rw [hmn]
  have hb:((n:Int) != (n:Int))=false:=by simp
  clear hl hm hn hmn hB hnm hG
  go_enter Tryz.func120,Tryz.ntmps120
  go_wp2
  go_loopw [17] (fun i wr=>∃ q:Nat,q≤n∧i=.int .i64 (q:Int)∧Below w.heap.size w wr∧Hid (∀ (j:Nat) (s m:PV),j<q→ls[j]? = some s→ms[j]? = some m→eqB s m=true)) (fun i _=>n-(intOf i).toNat)
  case atStart=>exact ⟨0,Nat.zero_le _,rfl,Below.refl _ _,Lib.hid (fun j s v hj=>by omega)⟩
  case round=>
   obtain ⟨q,hq,rfl,hbw,HALL⟩:=hrel
   rcases Nat.lt_or_ge q n with hlt | hge
   ·have hd:decide ((q:Int)<(n:Int))=true:=by simp;omega
    have hnl:=HN.out
    have hvl:=HM.out
    obtain ⟨s,hs⟩:∃ s,ls[q]? = some s:=⟨ls[q],List.getElem?_eq_getElem (by omega)⟩
    obtain ⟨m,hm⟩:∃ m,ms[q]? = some m:=⟨ms[q],List.getElem?_eq_getElem (by omega)⟩
    obtain ⟨pb,po,pk,pn,pt,pa,pl,pc,rfl,⟨pg0,pg1,pg2,pg3⟩,pI⟩:=valRow_at HL.out hs
    obtain ⟨rb,ro,rk,rn,rt,ra,rl,rc,rfl,⟨rg0,rg1,rg2,rg3⟩,rI⟩:=valRow_at HV.out hm
    have y0:=cell_below hbw pg0
    have y1:=cell_below hbw pg1
    have y2:=cell_below hbw pg2
    have y3:=cell_below hbw pg3
    have hA1:=hbw.alloc hbw.size (.cells #[.int .i64 pk,.int .i64 pn,.string pt,.slice pa pl pc] 55)
    have z0:=cell_below hA1 rg0
    have z1:=cell_below hA1 rg1
    have z2:=cell_below hA1 rg2
    have z3:=cell_below hA1 rg3
    have hBv:=hA1.alloc hA1.size (.cells #[.int .i64 rk,.int .i64 rn,.string rt,.slice ra rl rc] 55)
    obtain ⟨bf,hbf⟩:∃ bf,eqB s m=bf:=⟨_,rfl⟩
    have HX:=Lib.hid (HG.out q s m _ _ _ hs hm hBv (is_below hBv _ _ pI) (is_below hBv _ _ rI))
    rw [hbf] at HX
    have hgood:bf=true→∀ (j:Nat) (s m:PV),j<q+1→ls[j]? = some s→ms[j]? = some m→eqB s m=true:=fun h1 j s' v' hj h2 h3=>by
     rcases Nat.lt_or_ge j q with h | h
     ·exact HALL.out j s' v' h h2 h3
     ·obtain rfl:j=q:=by omega
      rw [hs] at h2;rw [hm] at h3
      cases h2;cases h3
      rw [hbf];exact h1
    have hbad:bf=false→B=false:=fun h1=>by
     cases B with
     |false=>rfl
     |true=>
      have:=(HB.out.1 rfl).2 q s m hs hm
      rw [hbf,h1] at this
      exact this.symm
    have HGOOD:=Lib.hid hgood;have HBAD:=Lib.hid hbad
    clear hgood hbad hbf hs hm hnl hvl pg0 rg0 pg1 rg1 pg2 rg2 pg3 rg3 pI rI
    cases bf with
    |false=>
     have hB0:=HBAD.out rfl
     go_wp2_with (go_at_fn gf;(with_reducible refine (HX.out).mono ?_);rintro e w1 ⟨rfl,hB1⟩)
     go_ret
     exact ⟨ret_bool hB0.symm,hBv.trans (hB1.mono hBv.size)⟩
    |true=>
     have hG0:=Lib.hid (HGOOD.out rfl)
     go_wp2_with (go_at_fn gf;(with_reducible refine (HX.out).mono ?_);rintro e w1 ⟨rfl,hB1⟩)
     go_roundw
     case rel=>exact ⟨q+1,by omega,by go_num,hBv.trans (hB1.mono hBv.size),hG0⟩
     case measure=>simp [intOf];omega
   ·obtain rfl:q=n:=by omega
    have hd:decide ((q:Int)<(q:Int))=false:=by simp
    have hBt:B=true:=HB.out.2 ⟨by rw [HN.out,HM.out],fun i s v h1 h2=>HALL.out i s v (by have h3:=(List.getElem?_eq_some_iff.1 h1).1;have h4:=HN.out;omega) h1 h2⟩
    go_wp2
    go_ret
    exact ⟨ret_bool hBt.symm,hbw⟩
 ·have hB0:B=false:=by
   cases B with
   |false=>rfl
   |true=>exact absurd (hB.1 rfl).1 hnm
  have hb:((ls.length:Int) != (ms.length:Int))=true:=by simp only [bne_iff_ne,ne_eq];omega
  obtain ⟨n,hn⟩:∃ n,ls.length=n:=⟨_,rfl⟩
  obtain ⟨m,hmn⟩:∃ m,ms.length=m:=⟨_,rfl⟩
  rw [hn] at hb hlc ⊢
  rw [hmn] at hb ⊢
  clear hl hm hnm hB hn hmn hG
  go_enter Tryz.func120,Tryz.ntmps120
  go_wp2
  go_ret
  exact ⟨ret_bool hB0.symm,Below.refl _ _⟩
set_option maxHeartbeats 4000000 in
theorem eqfSlot_any (a b:Option Addr) (c d:Nat) (ls ms:List SlotM) (gf:Nat) (w:World) (hl:SlotRow w a c ls) (hm:SlotRow w b d ms)
  (eg:∀ args w,(callFunc gf args).run Tryz.prog w=.ok (.enter gf args) w)
  (hG:∀ (i:Nat) (x y:SlotM) (W:World) (X Y:Value),ls[i]? = some x→ms[i]? = some y→Below w.heap.size w W→IsSlot W x X→IsSlot W y Y→Calls Tryz.prog gf #[X,Y] W fun e w'=>e=.returned (.bool (eqB x y))∧Below W.heap.size W w') :
  Calls Tryz.prog 65 #[.slice a ls.length c,.slice b ms.length d,.func (.func gf) #[] #[]] w fun e w'=>e=.returned (.bool (eqB ls ms))∧Below w.heap.size w w':=by
 have hcap:=hl.2.1
 have hlc:=hl.1
 unfold maxLen at hcap
 have hB:=eqB_list ls ms
 obtain ⟨B,hBB⟩:∃ B,eqB ls ms=B:=⟨_,rfl⟩
 rw [hBB] at hB ⊢
 clear hBB
 by_cases hnm:ls.length=ms.length
 ·obtain ⟨n,hn⟩:∃ n,ls.length=n:=⟨_,rfl⟩
  have hmn:ms.length=n:=by rw [←hnm,hn]
  have HL:=Lib.hid hl;have HV:=Lib.hid hm;have HN:=Lib.hid hn;have HM:=Lib.hid hmn;have HB:=Lib.hid hB;have HG:=Lib.hid hG
  rw [hn] at hlc ⊢
  rw [hmn]
  have hb:((n:Int) != (n:Int))=false:=by simp
  clear hl hm hn hmn hB hnm hG
  go_enter Tryz.func65,Tryz.ntmps65
  go_wp2
  go_loopw [17] (fun i wr=>∃ q:Nat,q≤n∧i=.int .i64 (q:Int)∧Below w.heap.size w wr∧Hid (∀ (j:Nat) (s m:SlotM),j<q→ls[j]? = some s→ms[j]? = some m→eqB s m=true)) (fun i _=>n-(intOf i).toNat)
  case atStart=>exact ⟨0,Nat.zero_le _,rfl,Below.refl _ _,Lib.hid (fun j s v hj=>by omega)⟩
  case round=>
   obtain ⟨q,hq,rfl,hbw,HALL⟩:=hrel
   rcases Nat.lt_or_ge q n with hlt | hge
   ·have hd:decide ((q:Int)<(n:Int))=true:=by simp;omega
    have hnl:=HN.out
    have hvl:=HM.out
    obtain ⟨s,hs⟩:∃ s,ls[q]? = some s:=⟨ls[q],List.getElem?_eq_getElem (by omega)⟩
    obtain ⟨m,hm⟩:∃ m,ms[q]? = some m:=⟨ms[q],List.getElem?_eq_getElem (by omega)⟩
    obtain ⟨pb,po,rfl,prow⟩:∃ b9 off,a=some ⟨b9,off,none⟩∧∀ i s,ls[i]? = some s→SlotAt w b9 (off+i*7) s:=by
     rcases HL.out.2.2 with h | h
     ·subst h;simp at hnl hvl;omega
     ·exact h
    obtain ⟨pk,pn,pt,pa,pl,pc,⟨pg0,pg1,pg2,pg3,pg4,pg5,pg6⟩,ph1,ph2,ph3⟩:=slotAt_form (prow q s hs)
    obtain ⟨rb,ro,rfl,rrow⟩:∃ b9 off,b=some ⟨b9,off,none⟩∧∀ i s,ms[i]? = some s→SlotAt w b9 (off+i*7) s:=by
     rcases HV.out.2.2 with h | h
     ·subst h;simp at hnl hvl;omega
     ·exact h
    obtain ⟨rk,rn,rt,ra,rl,rc,⟨rg0,rg1,rg2,rg3,rg4,rg5,rg6⟩,rh1,rh2,rh3⟩:=slotAt_form (rrow q m hm)
    have y0:=cell_below hbw pg0
    have y1:=cell_below hbw pg1
    have y2:=cell_below hbw pg2
    have y3:=cell_below hbw pg3
    have y4:=cell_below hbw pg4
    have y5:=cell_below hbw pg5
    have y6:=cell_below hbw pg6
    have hA1:=hbw.alloc hbw.size (.cells #[.string s.nm,.int .i64 s.ty,.bool s.rq,.int .i64 pk,.int .i64 pn,.string pt,.slice pa pl pc] 57)
    have z0:=cell_below hA1 rg0
    have z1:=cell_below hA1 rg1
    have z2:=cell_below hA1 rg2
    have z3:=cell_below hA1 rg3
    have z4:=cell_below hA1 rg4
    have z5:=cell_below hA1 rg5
    have z6:=cell_below hA1 rg6
    have hBv:=hA1.alloc hA1.size (.cells #[.string m.nm,.int .i64 m.ty,.bool m.rq,.int .i64 rk,.int .i64 rn,.string rt,.slice ra rl rc] 57)
    obtain ⟨bf,hbf⟩:∃ bf,eqB s m=bf:=⟨_,rfl⟩
    have HX:=Lib.hid (HG.out q s m _ _ _ hs hm hBv (isSlot_below hBv ⟨_,_,_,_,_,_,_,rfl,ph2,ph1,rfl,rfl,rfl,ph3⟩) (isSlot_below hBv ⟨_,_,_,_,_,_,_,rfl,rh2,rh1,rfl,rfl,rfl,rh3⟩))
    rw [hbf] at HX
    have hgood:bf=true→∀ (j:Nat) (s m:SlotM),j<q+1→ls[j]? = some s→ms[j]? = some m→eqB s m=true:=fun h1 j s' v' hj h2 h3=>by
     rcases Nat.lt_or_ge j q with h | h
     ·exact HALL.out j s' v' h h2 h3
     ·obtain rfl:j=q:=by omega
      rw [hs] at h2;rw [hm] at h3
      cases h2;cases h3
      rw [hbf];exact h1
    have hbad:bf=false→B=false:=fun h1=>by
     cases B with
     |false=>rfl
     |true=>
      have:=(HB.out.1 rfl).2 q s m hs hm
      rw [hbf,h1] at this
      exact this.symm
    have HGOOD:=Lib.hid hgood;have HBAD:=Lib.hid hbad
    clear hgood hbad hbf hs hm hnl hvl pg0 rg0 pg1 rg1 pg2 rg2 pg3 rg3 pg4 rg4 pg5 rg5 pg6 rg6 prow rrow
    cases bf with
    |false=>
     have hB0:=HBAD.out rfl
     go_wp2_with (go_at_fn gf;(with_reducible refine (HX.out).mono ?_);rintro e w1 ⟨rfl,hB1⟩)
     go_ret
     exact ⟨ret_bool hB0.symm,hBv.trans (hB1.mono hBv.size)⟩
    |true=>
     have hG0:=Lib.hid (HGOOD.out rfl)
     go_wp2_with (go_at_fn gf;(with_reducible refine (HX.out).mono ?_);rintro e w1 ⟨rfl,hB1⟩)
     go_roundw
     case rel=>exact ⟨q+1,by omega,by go_num,hBv.trans (hB1.mono hBv.size),hG0⟩
     case measure=>simp [intOf];omega
   ·obtain rfl:q=n:=by omega
    have hd:decide ((q:Int)<(q:Int))=false:=by simp
    have hBt:B=true:=HB.out.2 ⟨by rw [HN.out,HM.out],fun i s v h1 h2=>HALL.out i s v (by have h3:=(List.getElem?_eq_some_iff.1 h1).1;have h4:=HN.out;omega) h1 h2⟩
    go_wp2
    go_ret
    exact ⟨ret_bool hBt.symm,hbw⟩
 ·have hB0:B=false:=by
   cases B with
   |false=>rfl
   |true=>exact absurd (hB.1 rfl).1 hnm
  have hb:((ls.length:Int) != (ms.length:Int))=true:=by simp only [bne_iff_ne,ne_eq];omega
  obtain ⟨n,hn⟩:∃ n,ls.length=n:=⟨_,rfl⟩
  obtain ⟨m,hmn⟩:∃ m,ms.length=m:=⟨_,rfl⟩
  rw [hn] at hb hlc ⊢
  rw [hmn] at hb ⊢
  clear hl hm hnm hB hn hmn hG
  go_enter Tryz.func65,Tryz.ntmps65
  go_wp2
  go_ret
  exact ⟨ret_bool hB0.symm,Below.refl _ _⟩
set_option maxHeartbeats 4000000 in
theorem eqfStep_any (a b:Option Addr) (c d:Nat) (ls ms:List StepM) (gf:Nat) (w:World) (hl:StepRow w a c ls) (hm:StepRow w b d ms)
  (eg:∀ args w,(callFunc gf args).run Tryz.prog w=.ok (.enter gf args) w)
  (hG:∀ (i:Nat) (x y:StepM) (W:World) (X Y:Value),ls[i]? = some x→ms[i]? = some y→Below w.heap.size w W→IsStep W x X→IsStep W y Y→Calls Tryz.prog gf #[X,Y] W fun e w'=>e=.returned (.bool (eqB x y))∧Below W.heap.size W w') :
  Calls Tryz.prog 67 #[.slice a ls.length c,.slice b ms.length d,.func (.func gf) #[] #[]] w fun e w'=>e=.returned (.bool (eqB ls ms))∧Below w.heap.size w w':=by
 have hcap:=hl.2.1
 have hlc:=hl.1
 unfold maxLen at hcap
 have hB:=eqB_list ls ms
 obtain ⟨B,hBB⟩:∃ B,eqB ls ms=B:=⟨_,rfl⟩
 rw [hBB] at hB ⊢
 clear hBB
 by_cases hnm:ls.length=ms.length
 ·obtain ⟨n,hn⟩:∃ n,ls.length=n:=⟨_,rfl⟩
  have hmn:ms.length=n:=by rw [←hnm,hn]
  have HL:=Lib.hid hl;have HV:=Lib.hid hm;have HN:=Lib.hid hn;have HM:=Lib.hid hmn;have HB:=Lib.hid hB;have HG:=Lib.hid hG
  rw [hn] at hlc ⊢
  rw [hmn]
  have hb:((n:Int) != (n:Int))=false:=by simp
  clear hl hm hn hmn hB hnm hG
  go_enter Tryz.func67,Tryz.ntmps67
  go_wp2
  go_loopw [17] (fun i wr=>∃ q:Nat,q≤n∧i=.int .i64 (q:Int)∧Below w.heap.size w wr∧Hid (∀ (j:Nat) (s m:StepM),j<q→ls[j]? = some s→ms[j]? = some m→eqB s m=true)) (fun i _=>n-(intOf i).toNat)
  case atStart=>exact ⟨0,Nat.zero_le _,rfl,Below.refl _ _,Lib.hid (fun j s v hj=>by omega)⟩
  case round=>
   obtain ⟨q,hq,rfl,hbw,HALL⟩:=hrel
   rcases Nat.lt_or_ge q n with hlt | hge
   ·have hd:decide ((q:Int)<(n:Int))=true:=by simp;omega
    have hnl:=HN.out
    have hvl:=HM.out
    obtain ⟨s,hs⟩:∃ s,ls[q]? = some s:=⟨ls[q],List.getElem?_eq_getElem (by omega)⟩
    obtain ⟨m,hm⟩:∃ m,ms[q]? = some m:=⟨ms[q],List.getElem?_eq_getElem (by omega)⟩
    obtain ⟨pb,po,rfl,prow⟩:∃ b9 off,a=some ⟨b9,off,none⟩∧∀ i s,ls[i]? = some s→StepAt w b9 (off+i*10) s:=by
     rcases HL.out.2.2 with h | h
     ·subst h;simp at hnl hvl;omega
     ·exact h
    obtain ⟨pk,pn,pt,pa,pl,pc,poa,poc,⟨pg0,pg1,pg2,pg3,pg4,pg5,pg6,pg7,pg8,pg9⟩,ph1⟩:=stepAt_form (prow q s hs)
    obtain ⟨rb,ro,rfl,rrow⟩:∃ b9 off,b=some ⟨b9,off,none⟩∧∀ i s,ms[i]? = some s→StepAt w b9 (off+i*10) s:=by
     rcases HV.out.2.2 with h | h
     ·subst h;simp at hnl hvl;omega
     ·exact h
    obtain ⟨rk,rn,rt,ra,rl,rc,roa,roc,⟨rg0,rg1,rg2,rg3,rg4,rg5,rg6,rg7,rg8,rg9⟩,rh1⟩:=stepAt_form (rrow q m hm)
    have y0:=cell_below hbw pg0
    have y1:=cell_below hbw pg1
    have y2:=cell_below hbw pg2
    have y3:=cell_below hbw pg3
    have y4:=cell_below hbw pg4
    have y5:=cell_below hbw pg5
    have y6:=cell_below hbw pg6
    have y7:=cell_below hbw pg7
    have y8:=cell_below hbw pg8
    have y9:=cell_below hbw pg9
    have hA1:=hbw.alloc hbw.size (.cells #[.int .i64 s.kd,.int .i64 s.col,.string s.sl.nm,.int .i64 s.sl.ty,.bool s.sl.rq,.int .i64 pk,.int .i64 pn,.string pt,.slice pa pl pc,.slice poa s.od.length poc] 60)
    have z0:=cell_below hA1 rg0
    have z1:=cell_below hA1 rg1
    have z2:=cell_below hA1 rg2
    have z3:=cell_below hA1 rg3
    have z4:=cell_below hA1 rg4
    have z5:=cell_below hA1 rg5
    have z6:=cell_below hA1 rg6
    have z7:=cell_below hA1 rg7
    have z8:=cell_below hA1 rg8
    have z9:=cell_below hA1 rg9
    have hBv:=hA1.alloc hA1.size (.cells #[.int .i64 m.kd,.int .i64 m.col,.string m.sl.nm,.int .i64 m.sl.ty,.bool m.sl.rq,.int .i64 rk,.int .i64 rn,.string rt,.slice ra rl rc,.slice roa m.od.length roc] 60)
    obtain ⟨bf,hbf⟩:∃ bf,eqB s m=bf:=⟨_,rfl⟩
    have HX:=Lib.hid (HG.out q s m _ _ _ hs hm hBv (isStep_below hBv ph1) (isStep_below hBv rh1))
    rw [hbf] at HX
    have hgood:bf=true→∀ (j:Nat) (s m:StepM),j<q+1→ls[j]? = some s→ms[j]? = some m→eqB s m=true:=fun h1 j s' v' hj h2 h3=>by
     rcases Nat.lt_or_ge j q with h | h
     ·exact HALL.out j s' v' h h2 h3
     ·obtain rfl:j=q:=by omega
      rw [hs] at h2;rw [hm] at h3
      cases h2;cases h3
      rw [hbf];exact h1
    have hbad:bf=false→B=false:=fun h1=>by
     cases B with
     |false=>rfl
     |true=>
      have:=(HB.out.1 rfl).2 q s m hs hm
      rw [hbf,h1] at this
      exact this.symm
    have HGOOD:=Lib.hid hgood;have HBAD:=Lib.hid hbad
    clear hgood hbad hbf hs hm hnl hvl pg0 rg0 pg1 rg1 pg2 rg2 pg3 rg3 pg4 rg4 pg5 rg5 pg6 rg6 pg7 rg7 pg8 rg8 pg9 rg9 prow rrow
    cases bf with
    |false=>
     have hB0:=HBAD.out rfl
     go_wp2_with (go_at_fn gf;(with_reducible refine (HX.out).mono ?_);rintro e w1 ⟨rfl,hB1⟩)
     go_ret
     exact ⟨ret_bool hB0.symm,hBv.trans (hB1.mono hBv.size)⟩
    |true=>
     have hG0:=Lib.hid (HGOOD.out rfl)
     go_wp2_with (go_at_fn gf;(with_reducible refine (HX.out).mono ?_);rintro e w1 ⟨rfl,hB1⟩)
     go_roundw
     case rel=>exact ⟨q+1,by omega,by go_num,hBv.trans (hB1.mono hBv.size),hG0⟩
     case measure=>simp [intOf];omega
   ·obtain rfl:q=n:=by omega
    have hd:decide ((q:Int)<(q:Int))=false:=by simp
    have hBt:B=true:=HB.out.2 ⟨by rw [HN.out,HM.out],fun i s v h1 h2=>HALL.out i s v (by have h3:=(List.getElem?_eq_some_iff.1 h1).1;have h4:=HN.out;omega) h1 h2⟩
    go_wp2
    go_ret
    exact ⟨ret_bool hBt.symm,hbw⟩
 ·have hB0:B=false:=by
   cases B with
   |false=>rfl
   |true=>exact absurd (hB.1 rfl).1 hnm
  have hb:((ls.length:Int) != (ms.length:Int))=true:=by simp only [bne_iff_ne,ne_eq];omega
  obtain ⟨n,hn⟩:∃ n,ls.length=n:=⟨_,rfl⟩
  obtain ⟨m,hmn⟩:∃ m,ms.length=m:=⟨_,rfl⟩
  rw [hn] at hb hlc ⊢
  rw [hmn] at hb ⊢
  clear hl hm hnm hB hn hmn hG
  go_enter Tryz.func67,Tryz.ntmps67
  go_wp2
  go_ret
  exact ⟨ret_bool hB0.symm,Below.refl _ _⟩
set_option maxHeartbeats 4000000 in
theorem eqfTempl_any (a b:Option Addr) (c d:Nat) (ls ms:List TemplM) (gf:Nat) (w:World) (hl:TemplRow w a c ls) (hm:TemplRow w b d ms)
  (eg:∀ args w,(callFunc gf args).run Tryz.prog w=.ok (.enter gf args) w)
  (hG:∀ (i:Nat) (x y:TemplM) (W:World) (X Y:Value),ls[i]? = some x→ms[i]? = some y→Below w.heap.size w W→IsTempl W x X→IsTempl W y Y→Calls Tryz.prog gf #[X,Y] W fun e w'=>e=.returned (.bool (eqB x y))∧Below W.heap.size W w') :
  Calls Tryz.prog 34 #[.slice a ls.length c,.slice b ms.length d,.func (.func gf) #[] #[]] w fun e w'=>e=.returned (.bool (eqB ls ms))∧Below w.heap.size w w':=by
 have hcap:=hl.2.1
 have hlc:=hl.1
 unfold maxLen at hcap
 have hB:=eqB_list ls ms
 obtain ⟨B,hBB⟩:∃ B,eqB ls ms=B:=⟨_,rfl⟩
 rw [hBB] at hB ⊢
 clear hBB
 by_cases hnm:ls.length=ms.length
 ·obtain ⟨n,hn⟩:∃ n,ls.length=n:=⟨_,rfl⟩
  have hmn:ms.length=n:=by rw [←hnm,hn]
  have HL:=Lib.hid hl;have HV:=Lib.hid hm;have HN:=Lib.hid hn;have HM:=Lib.hid hmn;have HB:=Lib.hid hB;have HG:=Lib.hid hG
  rw [hn] at hlc ⊢
  rw [hmn]
  have hb:((n:Int) != (n:Int))=false:=by simp
  clear hl hm hn hmn hB hnm hG
  go_enter Tryz.func34,Tryz.ntmps34
  go_wp2
  go_loopw [17] (fun i wr=>∃ q:Nat,q≤n∧i=.int .i64 (q:Int)∧Below w.heap.size w wr∧Hid (∀ (j:Nat) (s m:TemplM),j<q→ls[j]? = some s→ms[j]? = some m→eqB s m=true)) (fun i _=>n-(intOf i).toNat)
  case atStart=>exact ⟨0,Nat.zero_le _,rfl,Below.refl _ _,Lib.hid (fun j s v hj=>by omega)⟩
  case round=>
   obtain ⟨q,hq,rfl,hbw,HALL⟩:=hrel
   rcases Nat.lt_or_ge q n with hlt | hge
   ·have hd:decide ((q:Int)<(n:Int))=true:=by simp;omega
    have hnl:=HN.out
    have hvl:=HM.out
    obtain ⟨s,hs⟩:∃ s,ls[q]? = some s:=⟨ls[q],List.getElem?_eq_getElem (by omega)⟩
    obtain ⟨m,hm⟩:∃ m,ms[q]? = some m:=⟨ms[q],List.getElem?_eq_getElem (by omega)⟩
    obtain ⟨pb,po,rfl,prow⟩:∃ b9 off,a=some ⟨b9,off,none⟩∧∀ i s,ls[i]? = some s→TemplAt w b9 (off+i*3) s:=by
     rcases HL.out.2.2 with h | h
     ·subst h;simp at hnl hvl;omega
     ·exact h
    obtain ⟨pa,pc,poa,poc,⟨pg0,pg1,pg2⟩,ph2,ph1⟩:=templAt_form (prow q s hs)
    obtain ⟨rb,ro,rfl,rrow⟩:∃ b9 off,b=some ⟨b9,off,none⟩∧∀ i s,ms[i]? = some s→TemplAt w b9 (off+i*3) s:=by
     rcases HV.out.2.2 with h | h
     ·subst h;simp at hnl hvl;omega
     ·exact h
    obtain ⟨ra,rc,roa,roc,⟨rg0,rg1,rg2⟩,rh2,rh1⟩:=templAt_form (rrow q m hm)
    have y0:=cell_below hbw pg0
    have y1:=cell_below hbw pg1
    have y2:=cell_below hbw pg2
    have hA1:=hbw.alloc hbw.size (.cells #[.string s.nm,.slice pa s.slots.length pc,.slice poa s.steps.length poc] 45)
    have z0:=cell_below hA1 rg0
    have z1:=cell_below hA1 rg1
    have z2:=cell_below hA1 rg2
    have hBv:=hA1.alloc hA1.size (.cells #[.string m.nm,.slice ra m.slots.length rc,.slice roa m.steps.length roc] 45)
    obtain ⟨bf,hbf⟩:∃ bf,eqB s m=bf:=⟨_,rfl⟩
    have HX:=Lib.hid (HG.out q s m _ _ _ hs hm hBv (isTempl_below hBv ph1) (isTempl_below hBv rh1))
    rw [hbf] at HX
    have hgood:bf=true→∀ (j:Nat) (s m:TemplM),j<q+1→ls[j]? = some s→ms[j]? = some m→eqB s m=true:=fun h1 j s' v' hj h2 h3=>by
     rcases Nat.lt_or_ge j q with h | h
     ·exact HALL.out j s' v' h h2 h3
     ·obtain rfl:j=q:=by omega
      rw [hs] at h2;rw [hm] at h3
      cases h2;cases h3
      rw [hbf];exact h1
    have hbad:bf=false→B=false:=fun h1=>by
     cases B with
     |false=>rfl
     |true=>
      have:=(HB.out.1 rfl).2 q s m hs hm
      rw [hbf,h1] at this
      exact this.symm
    have HGOOD:=Lib.hid hgood;have HBAD:=Lib.hid hbad
    clear hgood hbad hbf hs hm hnl hvl pg0 rg0 pg1 rg1 pg2 rg2 prow rrow
    cases bf with
    |false=>
     have hB0:=HBAD.out rfl
     go_wp2_with (go_at_fn gf;(with_reducible refine (HX.out).mono ?_);rintro e w1 ⟨rfl,hB1⟩)
     go_ret
     exact ⟨ret_bool hB0.symm,hBv.trans (hB1.mono hBv.size)⟩
    |true=>
     have hG0:=Lib.hid (HGOOD.out rfl)
     go_wp2_with (go_at_fn gf;(with_reducible refine (HX.out).mono ?_);rintro e w1 ⟨rfl,hB1⟩)
     go_roundw
     case rel=>exact ⟨q+1,by omega,by go_num,hBv.trans (hB1.mono hBv.size),hG0⟩
     case measure=>simp [intOf];omega
   ·obtain rfl:q=n:=by omega
    have hd:decide ((q:Int)<(q:Int))=false:=by simp
    have hBt:B=true:=HB.out.2 ⟨by rw [HN.out,HM.out],fun i s v h1 h2=>HALL.out i s v (by have h3:=(List.getElem?_eq_some_iff.1 h1).1;have h4:=HN.out;omega) h1 h2⟩
    go_wp2
    go_ret
    exact ⟨ret_bool hBt.symm,hbw⟩
 ·have hB0:B=false:=by
   cases B with
   |false=>rfl
   |true=>exact absurd (hB.1 rfl).1 hnm
  have hb:((ls.length:Int) != (ms.length:Int))=true:=by simp only [bne_iff_ne,ne_eq];omega
  obtain ⟨n,hn⟩:∃ n,ls.length=n:=⟨_,rfl⟩
  obtain ⟨m,hmn⟩:∃ m,ms.length=m:=⟨_,rfl⟩
  rw [hn] at hb hlc ⊢
  rw [hmn] at hb ⊢
  clear hl hm hnm hB hn hmn hG
  go_enter Tryz.func34,Tryz.ntmps34
  go_wp2
  go_ret
  exact ⟨ret_bool hB0.symm,Below.refl _ _⟩
theorem pv_eq {k k' n n':Int} {s s':ByteArray} {l l':List PV} : PV.mk k n s l=PV.mk k' n' s' l' ↔ k=k'∧n=n'∧s=s'∧l=l':=by
 constructor
 ·intro e;cases e;exact ⟨rfl,rfl,rfl,rfl⟩
 ·rintro ⟨rfl,rfl,rfl,rfl⟩;rfl
theorem sameV_enter (args:Array Value) (w:World):(callFunc 95 args).run Tryz.prog w=.ok (.enter 95 args) w:=enters_of Tryz.func95 (by kernel_rfl) rfl args w
set_option maxHeartbeats 4000000 in
theorem sameVal_any (v:PV):∀ (u:PV) (w:World) (x y:Value),Is w v x→Is w u y→Calls Tryz.prog 95 #[x,y] w fun e w'=>e=.returned (.bool (eqB v u))∧Below w.heap.size w w':=by
 induction v using pv_ind with
 |h k n s l ih=>
  intro u w x y hi hj
  obtain ⟨k',n',s',l'⟩:=u
  unfold Is at hi hj
  obtain ⟨I1,I2,I3,a,c,rfl,h4,h5,h6⟩:=hi
  obtain ⟨J1,J2,J3,a',c',rfl,g4,g5,g6⟩:=hj
  have hB0:=((Below.refl _ w).alloc (Nat.le_refl _) (.cells #[.int .i64 k,.int .i64 n,.string s,.slice a l.length c] 55)).alloc (by simp) (.cells #[.int .i64 k',.int .i64 n',.string s',.slice a' l'.length c'] 55)
  by_cases hk:k=k'
  ·by_cases hn:n=n'
   ·by_cases hs:s=s'
    ·subst hk hn hs
     rw [eqB_congr (pv_eq.trans (show _ ↔ l=l' from ⟨fun h=>h.2.2.2,fun h=>⟨rfl,rfl,rfl,h⟩⟩))]
     have hE:=eqfVal_any a a' c c' l l' 95 _ ⟨h4,h5,h6.imp id fun ⟨b,off,ha,hc⟩=>⟨b,off,ha,isL_below hB0 hc⟩⟩ ⟨g4,g5,g6.imp id fun ⟨b,off,ha,hc⟩=>⟨b,off,ha,isL_below hB0 hc⟩⟩ sameV_enter (fun i x y W X Y h1 h2 _ hx hy=>ih x (List.mem_of_getElem? h1) y W X Y hx hy)
     have HE:=Lib.hid hE
     clear hE ih h6 g6
     generalize eqB l l'=B at *
     go_enter Tryz.func95,Tryz.ntmps95
     go_wp2_with (go_at_call 120;(with_reducible refine (HE.out).mono ?_);rintro e w1 ⟨rfl,hB1⟩)
     go_ret
     exact ⟨rfl,hB0.trans (hB1.mono hB0.size)⟩
    ·rw [eqB_not (fun e=>hs (pv_eq.1 e).2.2.1)]
     subst hk hn
     have e3:=toL_ne hs
     clear ih h6 g6
     go_enter Tryz.func95,Tryz.ntmps95
     go_wp2
     go_ret
     exact ⟨rfl,hB0⟩
   ·rw [eqB_not (fun e=>hn (pv_eq.1 e).2.1)]
    subst hk
    have e2:=int_ne hn
    clear ih h6 g6
    go_enter Tryz.func95,Tryz.ntmps95
    go_wp2
    go_ret
    exact ⟨rfl,hB0⟩
  ·rw [eqB_not (fun e=>hk (pv_eq.1 e).1)]
   have e1:=int_ne hk
   clear ih h6 g6
   go_enter Tryz.func95,Tryz.ntmps95
   go_wp2
   go_ret
   exact ⟨rfl,hB0⟩
theorem slot_eq {nm nm':ByteArray} {ty ty':Int} {rq rq':Bool} {df df':PV} : (⟨nm,ty,rq,df⟩:SlotM)=⟨nm',ty',rq',df'⟩ ↔ nm=nm'∧ty=ty'∧rq=rq'∧df=df':=by
 constructor
 ·intro e;cases e;exact ⟨rfl,rfl,rfl,rfl⟩
 ·rintro ⟨rfl,rfl,rfl,rfl⟩;rfl
theorem step_last {w W:World} {c0 c1 c2 c3 c4 c5 c6 c7 c8 c9 d0 d1 d2 d3 d4 d5 d6 d7 d8 d9:Value} {t:TypeId} (h:Below ((w.alloc (.cells #[c0,c1,c2,c3,c4,c5,c6,c7,c8,c9] t)).alloc (.cells #[d0,d1,d2,d3,d4,d5,d6,d7,d8,d9] t)).heap.size ((w.alloc (.cells #[c0,c1,c2,c3,c4,c5,c6,c7,c8,c9] t)).alloc (.cells #[d0,d1,d2,d3,d4,d5,d6,d7,d8,d9] t)) W) :
  W.cell? ⟨w.heap.size,9,none⟩=some c9∧W.cell? ⟨w.heap.size+1,9,none⟩=some d9:=⟨cell_below h (by simp),cell_below h (by simp)⟩
theorem templ_last {w W:World} {c0 c1 c2 d0 d1 d2:Value} {t:TypeId} (h:Below ((w.alloc (.cells #[c0,c1,c2] t)).alloc (.cells #[d0,d1,d2] t)).heap.size ((w.alloc (.cells #[c0,c1,c2] t)).alloc (.cells #[d0,d1,d2] t)) W) :
  W.cell? ⟨w.heap.size,2,none⟩=some c2∧W.cell? ⟨w.heap.size+1,2,none⟩=some d2:=⟨cell_below h (by simp),cell_below h (by simp)⟩
theorem sameS_enter (args:Array Value) (w:World):(callFunc 66 args).run Tryz.prog w=.ok (.enter 66 args) w:=enters_of Tryz.func66 (by kernel_rfl) rfl args w
set_option maxHeartbeats 4000000 in
theorem sameSlot_any (s u:SlotM) (w:World) (x y:Value) (hi:IsSlot w s x) (hj:IsSlot w u y):Calls Tryz.prog 66 #[x,y] w fun e w'=>e=.returned (.bool (eqB s u))∧Below w.heap.size w w':=by
 obtain ⟨k,n,t,a,len,cap,rfl,I1,I2,hd⟩:=slot7_form hi
 obtain ⟨k',n',t',a',len',cap',rfl,J1,J2,hd'⟩:=slot7_form hj
 obtain ⟨nm,ty,rq,df⟩:=s
 obtain ⟨nm',ty',rq',df'⟩:=u
 simp only at *
 have hB0:=((Below.refl _ w).alloc (Nat.le_refl _) (.cells #[.string nm,.int .i64 ty,.bool rq,.int .i64 k,.int .i64 n,.string t,.slice a len cap] 57)).alloc (by simp) (.cells #[.string nm',.int .i64 ty',.bool rq',.int .i64 k',.int .i64 n',.string t',.slice a' len' cap'] 57)
 have hE:=sameVal_any df df' _ _ _ (is_below hB0 _ _ hd) (is_below hB0 _ _ hd')
 have HE:=Lib.hid hE
 clear hE hi hj hd hd' I1 J1
 by_cases hk:nm=nm'
 ·by_cases hn:ty=ty'
  ·by_cases hs:rq=rq'
   ·subst hk hn hs
    rw [eqB_congr (slot_eq.trans (show _ ↔ df=df' from ⟨fun h=>h.2.2.2,fun h=>⟨rfl,rfl,rfl,h⟩⟩))]
    generalize eqB df df'=B at *
    have e3:(rq == rq)=true:=by simp
    go_enter Tryz.func66,Tryz.ntmps66
    go_wp2_with (go_at_call 95;(with_reducible refine (HE.out).mono ?_);rintro e w1 ⟨rfl,hB1⟩)
    go_ret
    exact ⟨rfl,hB0.trans (hB1.mono hB0.size)⟩
   ·rw [eqB_not (fun e=>hs (slot_eq.1 e).2.2.1)]
    subst hk hn
    have e3:(rq == rq')=false:=by rw [beq_eq_false_iff_ne];exact hs
    go_enter Tryz.func66,Tryz.ntmps66
    go_wp2
    go_ret
    exact ⟨rfl,hB0⟩
  ·rw [eqB_not (fun e=>hn (slot_eq.1 e).2.1)]
   subst hk
   have e2:=int_ne hn
   go_enter Tryz.func66,Tryz.ntmps66
   go_wp2
   go_ret
   exact ⟨rfl,hB0⟩
 ·rw [eqB_not (fun e=>hk (slot_eq.1 e).1)]
  have e1:=toL_ne hk
  go_enter Tryz.func66,Tryz.ntmps66
  go_wp2
  go_ret
  exact ⟨rfl,hB0⟩
theorem step_eq {kd kd' col col':Int} {sl sl':SlotM} {od od':List Int} : (⟨kd,col,sl,od⟩:StepM)=⟨kd',col',sl',od'⟩ ↔ kd=kd'∧col=col'∧sl=sl'∧od=od':=by
 constructor
 ·intro e;cases e;exact ⟨rfl,rfl,rfl,rfl⟩
 ·rintro ⟨rfl,rfl,rfl,rfl⟩;rfl
theorem templ_eq {nm nm':ByteArray} {sl sl':List SlotM} {st st':List StepM} : (⟨nm,sl,st⟩:TemplM)=⟨nm',sl',st'⟩ ↔ nm=nm'∧sl=sl'∧st=st':=by
 constructor
 ·intro e;cases e;exact ⟨rfl,rfl,rfl⟩
 ·rintro ⟨rfl,rfl,rfl⟩;rfl
theorem samePt_enter (args:Array Value) (w:World):(callFunc 68 args).run Tryz.prog w=.ok (.enter 68 args) w:=enters_of Tryz.func68 (by kernel_rfl) rfl args w
theorem rbytes_eq {l r:List Int} {w w':World} {e:Ending} (h:RBytes l r w e w'):e=.returned (.bool (eqB l r))∧Below w.heap.size w w':=by
 obtain ⟨rfl,n,rfl⟩:=h
 refine ⟨ret_bool ?_,below_drewN (Below.refl _ _) n⟩
 rw [Bool.eq_iff_iff,decide_eq_true_eq,eqB_iff]
set_option maxHeartbeats 4000000 in
theorem sameStep_any (s u:StepM) (w:World) (x y:Value) (hi:IsStep w s x) (hj:IsStep w u y):Calls Tryz.prog 68 #[x,y] w fun e w'=>e=.returned (.bool (eqB s u))∧Below w.heap.size w w':=by
 have hi0:=hi
 have hj0:=hj
 obtain ⟨k,n,t,a,len,cap,oa,oc,rfl,I1,I2,I3,I4,hd,hr,ho⟩:=isStep_form hi
 obtain ⟨k',n',t',a',len',cap',oa',oc',rfl,J1,J2,J3,J4,hd',hr',ho'⟩:=isStep_form hj
 have hB0:=((Below.refl _ w).alloc (Nat.le_refl _) (.cells #[.int .i64 s.kd,.int .i64 s.col,.string s.sl.nm,.int .i64 s.sl.ty,.bool s.sl.rq,.int .i64 k,.int .i64 n,.string t,.slice a len cap,.slice oa s.od.length oc] 60)).alloc (by simp) (.cells #[.int .i64 u.kd,.int .i64 u.col,.string u.sl.nm,.int .i64 u.sl.ty,.bool u.sl.rq,.int .i64 k',.int .i64 n',.string t',.slice a' len' cap',.slice oa' u.od.length oc'] 60)
 have hE:=sameSlot_any s.sl u.sl _ _ _ (isSlot_below hB0 (step_slot hi0)) (isSlot_below hB0 (step_slot hj0))
 have hO:=fun W (hb:Below w.heap.size w W)=>(equalI_any oa oa' s.od.length u.od.length oc oc' s.od u.od W (row_below hr hb rfl) (row_below hr' hb rfl)).mono fun e w' h=>rbytes_eq h
 have HE:=Lib.hid hE;have HO:=Lib.hid hO
 obtain ⟨kd,col,sl,od⟩:=s
 obtain ⟨kd',col',sl',od'⟩:=u
 simp only at *
 clear hE hO hi hj hi0 hj0 hd hd' hr hr' ho ho' I1 J1 I2 J2 I3 J3 I4 J4
 by_cases hk:kd=kd'
 ·by_cases hn:col=col'
  ·subst hk hn
   obtain ⟨B1,hb1⟩:∃ B,eqB sl sl'=B:=⟨_,rfl⟩
   obtain ⟨B2,hb2⟩:∃ B,eqB od od'=B:=⟨_,rfl⟩
   have hres:eqB (⟨kd,col,sl,od⟩:StepM) ⟨kd,col,sl',od'⟩=(B1 && B2):=by
    rw [←hb1,←hb2,Bool.eq_iff_iff,Bool.and_eq_true,eqB_iff,eqB_iff,eqB_iff,step_eq]
    exact ⟨fun h=>h.2.2,fun h=>⟨rfl,rfl,h⟩⟩
   rw [hres]
   rw [hb1] at HE
   simp only [hb2] at HO
   clear hres hb1 hb2
   cases B1 with
   |false=>
    go_enter Tryz.func68,Tryz.ntmps68
    go_wp2_with (go_at_call 66;(with_reducible refine (HE.out).mono ?_);rintro e w1 ⟨rfl,hB1⟩)
    go_ret
    exact ⟨rfl,hB0.trans (hB1.mono hB0.size)⟩
   |true=>
    rw [Bool.true_and]
    go_enter Tryz.func68,Tryz.ntmps68
    go_wp2_with (first
     |(go_at_call 66;(with_reducible refine (HE.out).mono ?_);rintro e w1 ⟨rfl,hB1⟩;have hbb:=hB0.trans (hB1.mono hB0.size);obtain ⟨x9,y9⟩:=step_last hB1)
     |(go_at_call 96;(with_reducible refine (HO.out _ hbb).mono ?_);rintro e w2 ⟨rfl,hB2⟩))
    go_ret
    exact ⟨rfl,hbb.trans (hB2.mono hbb.size)⟩
  ·rw [eqB_not (fun e=>hn (step_eq.1 e).2.1)]
   subst hk
   have e2:=int_ne hn
   go_enter Tryz.func68,Tryz.ntmps68
   go_wp2
   go_ret
   exact ⟨rfl,hB0⟩
 ·rw [eqB_not (fun e=>hk (step_eq.1 e).1)]
  have e1:=int_ne hk
  go_enter Tryz.func68,Tryz.ntmps68
  go_wp2
  go_ret
  exact ⟨rfl,hB0⟩
theorem samePl_enter (args:Array Value) (w:World):(callFunc 35 args).run Tryz.prog w=.ok (.enter 35 args) w:=enters_of Tryz.func35 (by kernel_rfl) rfl args w
set_option maxHeartbeats 4000000 in
theorem sameTempl_any (s u:TemplM) (w:World) (x y:Value) (hi:IsTempl w s x) (hj:IsTempl w u y):Calls Tryz.prog 35 #[x,y] w fun e w'=>e=.returned (.bool (eqB s u))∧Below w.heap.size w w':=by
 obtain ⟨h1,sa,sc,ta,tc,rfl,hs,ht⟩:=hi
 obtain ⟨g1,sa',sc',ta',tc',rfl,hs',ht'⟩:=hj
 have hB0:=((Below.refl _ w).alloc (Nat.le_refl _) (.cells #[.string s.nm,.slice sa s.slots.length sc,.slice ta s.steps.length tc] 45)).alloc (by simp) (.cells #[.string u.nm,.slice sa' u.slots.length sc',.slice ta' u.steps.length tc'] 45)
 have hE:=eqfSlot_any sa sa' sc sc' s.slots u.slots 66 _ (slotRow_below hB0 hs) (slotRow_below hB0 hs') sameS_enter (fun i x y W X Y _ _ _ hx hy=>sameSlot_any x y W X Y hx hy)
 have hO:=fun W (hb:Below w.heap.size w W)=>eqfStep_any ta ta' tc tc' s.steps u.steps 68 W (stepRow_below hb ht) (stepRow_below hb ht') samePt_enter (fun i x y W X Y _ _ _ hx hy=>sameStep_any x y W X Y hx hy)
 have HE:=Lib.hid hE;have HO:=Lib.hid hO
 obtain ⟨nm,sl,od⟩:=s
 obtain ⟨nm',sl',od'⟩:=u
 simp only at *
 clear hE hO hs hs' ht ht'
 by_cases hk:nm=nm'
 ·subst hk
  obtain ⟨B1,hb1⟩:∃ B,eqB sl sl'=B:=⟨_,rfl⟩
  obtain ⟨B2,hb2⟩:∃ B,eqB od od'=B:=⟨_,rfl⟩
  have hres:eqB (⟨nm,sl,od⟩:TemplM) ⟨nm,sl',od'⟩=(B1 && B2):=by
   rw [←hb1,←hb2,Bool.eq_iff_iff,Bool.and_eq_true,eqB_iff,eqB_iff,eqB_iff,templ_eq]
   exact ⟨fun h=>h.2,fun h=>⟨rfl,h⟩⟩
  rw [hres]
  rw [hb1] at HE
  simp only [hb2] at HO
  clear hres hb1 hb2
  cases B1 with
  |false=>
   go_enter Tryz.func35,Tryz.ntmps35
   go_wp2_with (go_at_call 65;(with_reducible refine (HE.out).mono ?_);rintro e w1 ⟨rfl,hB1⟩)
   go_ret
   exact ⟨rfl,hB0.trans (hB1.mono hB0.size)⟩
  |true=>
   rw [Bool.true_and]
   go_enter Tryz.func35,Tryz.ntmps35
   go_wp2_with (first
    |(go_at_call 65;(with_reducible refine (HE.out).mono ?_);rintro e w1 ⟨rfl,hB1⟩;have hbb:=hB0.trans (hB1.mono hB0.size);obtain ⟨x9,y9⟩:=templ_last hB1)
    |(go_at_call 67;(with_reducible refine (HO.out _ hbb).mono ?_);rintro e w2 ⟨rfl,hB2⟩))
   go_ret
   exact ⟨rfl,hbb.trans (hB2.mono hbb.size)⟩
 ·rw [eqB_not (fun e=>hk (templ_eq.1 e).1)]
  have e1:=toL_ne hk
  go_enter Tryz.func35,Tryz.ntmps35
  go_wp2
  go_ret
  exact ⟨rfl,hB0⟩
set_option maxHeartbeats 1000000 in
theorem rgSame_any (a b:Option Addr) (c d:Nat) (l m:List TemplM) (w:World) (hl:TemplRow w a c l) (hm:TemplRow w b d m) :
  Calls Tryz.prog 14 #[.slice a l.length c,.slice b m.length d] w fun e w'=>e=.returned (.bool (eqB l m))∧Below w.heap.size w w':=by
 have hE:=eqfTempl_any a b c d l m 35 w hl hm samePl_enter (fun i x y W X Y _ _ _ hx hy=>sameTempl_any x y W X Y hx hy)
 generalize eqB l m=B at *
 have HE:=Lib.hid hE
 clear hE hl hm
 go_enter Tryz.func14,Tryz.ntmps14
 go_wp2_with (go_at_call 34;(with_reducible refine (HE.out).mono ?_);rintro e w1 ⟨rfl,hB1⟩)
 go_ret
 exact ⟨rfl,hB1⟩
