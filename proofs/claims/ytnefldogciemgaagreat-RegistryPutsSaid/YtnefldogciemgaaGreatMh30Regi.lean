/- The program's schema: next (how a step is done, by its kind). (Made by gen_spx.py.) -/
import Derived.Test.YtnefldogciemgaaGreatMh27Regi
import Derived.Test.YtnefldogciemgaaGreatMh28Regi
import Derived.Test.YtnefldogciemgaaGreatMh29Regi
import Derived.Deep.RegionHeld3
import Derived.Laws.EntriesVeiled
set_option linter.unusedVariables false
set_option linter.unusedSimpArgs false
set_option maxRecDepth 100000
namespace Go.Proofs.YtnefldogciemgaaGreat
open Go.RowKit Go.Shelf
def how6:Array Value:=#[.nilFunc,.func (.func 158) #[] #[],.func (.func 159) #[] #[],.func (.func 160) #[] #[],.func (.func 161) #[] #[],.func (.func 162) #[] #[]]
theorem build_how (w:World):(Instr.build 167 #[(1,.func (.func 158) #[] #[]),(2,.func (.func 159) #[] #[]),(3,.func (.func 160) #[] #[]),(4,.func (.func 161) #[] #[]),(5,.func (.func 162) #[] #[])]).run Tryz.prog w=.ok (.agg how6) w:=run_build w 167 _ _ (by kernel_rfl)
set_option maxHeartbeats 4000000 in
theorem changes_any (w:World):Calls Tryz.prog 152 #[] w fun e w'=>e=.returned (.agg how6)∧Below w.heap.size w w':=by
 have hb:=fun W=>build_how W
 unfold how6 at hb ⊢
 go_enter Tryz.func152,Tryz.ntmps152
 go_wp2
 refine bodyPost_ret (results_cell_row Tryz.results152 _ _ w.heap.size _ _ _ _ rfl (heap_self9 w _) Tryz.underlying167 rfl (by kernel_rfl)) rfl ?_
 exact ⟨rfl,(Below.refl _ w).alloc (Nat.le_refl _) _⟩
def StepC (fn:Nat) (kd:Int):Prop:=∀ (x:Sc.Ver) (s:StepM) (sa:Option Addr) (sc:Nat) (ca:Option Addr) (cc:Nat) (cs:List Value) (w0 w:World) (X:Value),s.kd=kd→Sc.VerOk 16 x→StepIn w0 w x sa sc ca cc cs→IsStep w0 s X→szV s.sl.df≤1000000 →
 Calls Tryz.prog fn #[.agg #[.slice sa x.slots.length sc,.slice ca x.cols.length cc],X] w (StepPost (Sc.step x s) w0 w)
def StepOk (o:Option Sc.Ver) (w0 w':World) (bb:Bool) (sv cv:Value):Prop:=match o with
 |none=>bb=false
 |some y=>bb=true∧VerIn w0 w' y sv cv
theorem slots_slice {w0 W:World} {sv:Value} {l:List SlotM} (h:SlotsIn w0 W sv l):∃ a n c,sv=.slice a n c:=by
 rcases h with ⟨a,c,rfl,_⟩ | ⟨cs,h,_⟩
 ·exact ⟨_,_,_,rfl⟩
 ·obtain ⟨a,c,rfl⟩:=own_form9 h
  exact ⟨_,_,_,rfl⟩
theorem cols_slice {w0 W:World} {sv:Value} {l:List Nat} (h:ColsIn w0 W sv l):∃ a n c,sv=.slice a n c:=by
 rcases h with ⟨a,c,rfl,_⟩ | h
 ·exact ⟨_,_,_,rfl⟩
 ·obtain ⟨a,c,rfl⟩:=own_form9 h
  exact ⟨_,_,_,rfl⟩
theorem stepPost_form {o:Option Sc.Ver} {w0 w w':World} {e:Ending} (h:StepPost o w0 w e w'):∃ a n c a' n' c' bb,e=.returned (.tuple #[.agg #[.slice a n c,.slice a' n' c'],.bool bb])∧StepOk o w0 w' bb (.slice a n c) (.slice a' n' c')∧Below w.heap.size w w':=by
 obtain ⟨h1,h2⟩:=h
 cases o with
 |none=>
  obtain ⟨a,n,c,a',n',c',rfl⟩:=h1
  exact ⟨_,_,_,_,_,_,_,rfl,rfl,h2⟩
 |some y=>
  obtain ⟨sv,cv,rfl,hv⟩:=h1
  obtain ⟨a,n,c,rfl⟩:=slots_slice hv.1
  obtain ⟨a',n',c',rfl⟩:=cols_slice hv.2
  exact ⟨_,_,_,_,_,_,_,rfl,⟨rfl,hv⟩,h2⟩
theorem stepPost_of {o:Option Sc.Ver} {w0 w w':World} {a a':Option Addr} {n c n' c':Nat} {bb:Bool} (h:StepOk o w0 w' bb (.slice a n c) (.slice a' n' c')) (hb:Below w.heap.size w w'):StepPost o w0 w (.returned (.tuple #[.agg #[.slice a n c,.slice a' n' c'],.bool bb])) w':=by
 refine ⟨?_,hb⟩
 cases o with
 |none=>obtain rfl:bb=false:=h;exact ⟨_,_,_,_,_,_,rfl⟩
 |some y=>obtain ⟨rfl,h⟩:bb=true∧_:=h;exact ⟨_,_,rfl,h⟩
theorem stepOk_kept {o:Option Sc.Ver} {w0 W W':World} {bb:Bool} {sv cv:Value} (h:StepOk o w0 W bb sv cv) (k:KeptT w0 W W'):StepOk o w0 W' bb sv cv:=by
 cases o with
 |none=>exact h
 |some y=>exact ⟨h.1,verIn_kept h.2 k⟩
theorem step_kept2 {w0 V:World} {b:Nat} {z0 z1:Value} (u0 u1:Value) (hw0:Below w0.heap.size w0 V) (h:V.heap[b]? = some (.cells #[z0,z1] 145 (0,0))) (hle:w0.heap.size≤b):KeptT w0 V ((V.setCell ⟨b,0,none⟩ u0).setCell ⟨b,1,none⟩ u1):=by
 have k1:=keptT_set (i:=0) (u:=u0) hw0 hle h (by decide) (by decide)
 exact keptT_trans k1 (keptT_set (i:=1) (u:=u1) k1.1 hle (set_one9 h u0) (by decide) (by decide))
theorem stepIn_below {w0 w W:World} {x:Sc.Ver} {sa:Option Addr} {sc:Nat} {ca:Option Addr} {cc:Nat} {cs:List Value} (h:StepIn w0 w x sa sc ca cc cs) (hb:Below w.heap.size w W):StepIn w0 W x sa sc ca cc cs:=
 ⟨h.below.trans (hb.mono h.below.size),verIn_kept h.vin (keptT_below h.below hb),⟨slotRow_below hb h.ver.1,row_below h.ver.2 hb rfl⟩,h.sc,cells_below9 h.cells hb⟩
theorem k13 {p q h kd:Nat} {c0 c1 c2 c3 c4 c5 c6 c7 c8 c9 c10 c11 c12:Value} {W W':World} (g:W.cell? ⟨p,0,none⟩=some c0∧W.cell? ⟨p,1,none⟩=some c1∧W.cell? ⟨q,0,none⟩=some c2∧W.cell? ⟨q,1,none⟩=some c3∧W.cell? ⟨q,2,none⟩=some c4∧W.cell? ⟨q,3,none⟩=some c5∧W.cell? ⟨q,4,none⟩=some c6∧W.cell? ⟨q,5,none⟩=some c7∧W.cell? ⟨q,6,none⟩=some c8∧W.cell? ⟨q,7,none⟩=some c9∧W.cell? ⟨q,8,none⟩=some c10∧W.cell? ⟨q,9,none⟩=some c11∧W.cell? ⟨h,kd,none⟩=some c12) (hb:Below W.heap.size W W'):W'.cell? ⟨p,0,none⟩=some c0∧W'.cell? ⟨p,1,none⟩=some c1∧W'.cell? ⟨q,0,none⟩=some c2∧W'.cell? ⟨q,1,none⟩=some c3∧W'.cell? ⟨q,2,none⟩=some c4∧W'.cell? ⟨q,3,none⟩=some c5∧W'.cell? ⟨q,4,none⟩=some c6∧W'.cell? ⟨q,5,none⟩=some c7∧W'.cell? ⟨q,6,none⟩=some c8∧W'.cell? ⟨q,7,none⟩=some c9∧W'.cell? ⟨q,8,none⟩=some c10∧W'.cell? ⟨q,9,none⟩=some c11∧W'.cell? ⟨h,kd,none⟩=some c12:=
 ⟨cell_below hb g.1,cell_below hb g.2.1,cell_below hb g.2.2.1,cell_below hb g.2.2.2.1,cell_below hb g.2.2.2.2.1,cell_below hb g.2.2.2.2.2.1,cell_below hb g.2.2.2.2.2.2.1,cell_below hb g.2.2.2.2.2.2.2.1,cell_below hb g.2.2.2.2.2.2.2.2.1,cell_below hb g.2.2.2.2.2.2.2.2.2.1,cell_below hb g.2.2.2.2.2.2.2.2.2.2.1,cell_below hb g.2.2.2.2.2.2.2.2.2.2.2.1,cell_below hb g.2.2.2.2.2.2.2.2.2.2.2.2⟩
theorem k13s {p q h kd r:Nat} {c0 c1 c2 c3 c4 c5 c6 c7 c8 c9 c10 c11 c12 u v:Value} {W:World} (g:W.cell? ⟨p,0,none⟩=some c0∧W.cell? ⟨p,1,none⟩=some c1∧W.cell? ⟨q,0,none⟩=some c2∧W.cell? ⟨q,1,none⟩=some c3∧W.cell? ⟨q,2,none⟩=some c4∧W.cell? ⟨q,3,none⟩=some c5∧W.cell? ⟨q,4,none⟩=some c6∧W.cell? ⟨q,5,none⟩=some c7∧W.cell? ⟨q,6,none⟩=some c8∧W.cell? ⟨q,7,none⟩=some c9∧W.cell? ⟨q,8,none⟩=some c10∧W.cell? ⟨q,9,none⟩=some c11∧W.cell? ⟨h,kd,none⟩=some c12) (hp:p≠r) (hq:q≠r) (hh:h≠r):((W.setCell ⟨r,0,none⟩ u).setCell ⟨r,1,none⟩ v).cell? ⟨p,0,none⟩=some c0∧((W.setCell ⟨r,0,none⟩ u).setCell ⟨r,1,none⟩ v).cell? ⟨p,1,none⟩=some c1∧((W.setCell ⟨r,0,none⟩ u).setCell ⟨r,1,none⟩ v).cell? ⟨q,0,none⟩=some c2∧((W.setCell ⟨r,0,none⟩ u).setCell ⟨r,1,none⟩ v).cell? ⟨q,1,none⟩=some c3∧((W.setCell ⟨r,0,none⟩ u).setCell ⟨r,1,none⟩ v).cell? ⟨q,2,none⟩=some c4∧((W.setCell ⟨r,0,none⟩ u).setCell ⟨r,1,none⟩ v).cell? ⟨q,3,none⟩=some c5∧((W.setCell ⟨r,0,none⟩ u).setCell ⟨r,1,none⟩ v).cell? ⟨q,4,none⟩=some c6∧((W.setCell ⟨r,0,none⟩ u).setCell ⟨r,1,none⟩ v).cell? ⟨q,5,none⟩=some c7∧((W.setCell ⟨r,0,none⟩ u).setCell ⟨r,1,none⟩ v).cell? ⟨q,6,none⟩=some c8∧((W.setCell ⟨r,0,none⟩ u).setCell ⟨r,1,none⟩ v).cell? ⟨q,7,none⟩=some c9∧((W.setCell ⟨r,0,none⟩ u).setCell ⟨r,1,none⟩ v).cell? ⟨q,8,none⟩=some c10∧((W.setCell ⟨r,0,none⟩ u).setCell ⟨r,1,none⟩ v).cell? ⟨q,9,none⟩=some c11∧((W.setCell ⟨r,0,none⟩ u).setCell ⟨r,1,none⟩ v).cell? ⟨h,kd,none⟩=some c12:=
 ⟨cell_setS (k:=0) (cell_setS (k:=0) g.1 hp) hp,cell_setS (k:=0) (cell_setS (k:=0) g.2.1 hp) hp,cell_setS (k:=0) (cell_setS (k:=0) g.2.2.1 hq) hq,cell_setS (k:=0) (cell_setS (k:=0) g.2.2.2.1 hq) hq,cell_setS (k:=0) (cell_setS (k:=0) g.2.2.2.2.1 hq) hq,cell_setS (k:=0) (cell_setS (k:=0) g.2.2.2.2.2.1 hq) hq,cell_setS (k:=0) (cell_setS (k:=0) g.2.2.2.2.2.2.1 hq) hq,cell_setS (k:=0) (cell_setS (k:=0) g.2.2.2.2.2.2.2.1 hq) hq,cell_setS (k:=0) (cell_setS (k:=0) g.2.2.2.2.2.2.2.2.1 hq) hq,cell_setS (k:=0) (cell_setS (k:=0) g.2.2.2.2.2.2.2.2.2.1 hq) hq,cell_setS (k:=0) (cell_setS (k:=0) g.2.2.2.2.2.2.2.2.2.2.1 hq) hq,cell_setS (k:=0) (cell_setS (k:=0) g.2.2.2.2.2.2.2.2.2.2.2.1 hq) hq,cell_setS (k:=0) (cell_setS (k:=0) g.2.2.2.2.2.2.2.2.2.2.2.2 hh) hh⟩
set_option maxHeartbeats 8000000 in
theorem next_any (hA:StepC 158 1) (hR:StepC 162 5) (x:Sc.Ver) (s:StepM) (sa:Option Addr) (sc:Nat) (ca:Option Addr) (cc:Nat) (cs:List Value) (w0 w:World) (X:Value) (hok:Sc.VerOk 16 x) (hin:StepIn w0 w x sa sc ca cc cs) (hs:IsStep w0 s X) (hsz:szV s.sl.df≤1000000) :
  Calls Tryz.prog 143 #[.agg #[.slice sa x.slots.length sc,.slice ca x.cols.length cc],X] w (StepPost (Sc.step x s) w0 w):=by
 have hCh:=Lib.hid changes_any
 have h1:=fun W hb e=>hA x s sa sc ca cc cs w0 W X e hok (stepIn_below hin hb) hs hsz
 have h2:=fun W hb e=>lose_any x s sa sc ca cc cs w0 W X e hok (stepIn_below hin hb) (isStep_below (stepIn_below hin hb).below hs)
 have h3:=fun W hb e=>rename_any x s sa sc ca cc cs w0 W X e hok (stepIn_below hin hb) (isStep_below (stepIn_below hin hb).below hs)
 have h4:=fun W hb e=>widen_any x s sa sc ca cc cs w0 W X e hok (stepIn_below hin hb) (isStep_below (stepIn_below hin hb).below hs)
 have h5:=fun W hb e=>hR x s sa sc ca cc cs w0 W X e hok (stepIn_below hin hb) hs hsz
 obtain ⟨k,n,tx,a,len,cap,oa,oc,rfl,hI1,hI2,hI3,hnm,hi,hr,ho⟩:=isStep_form hs
 have hso:=Sc.step_other (x:=x) (s:=s)
 obtain ⟨O,hO⟩:∃ O,Sc.step x s=O:=⟨_,rfl⟩
 rw [hO] at h1 h2 h3 h4 h5 hso ⊢
 have HIN:=Lib.hid hin.below
 have hb0:=fun W=>build_ver0 W
 obtain ⟨kd,col,⟨nm,ty,rq,df⟩,od⟩:=s
 simp only at h1 h2 h3 h4 h5 hso ⊢
 obtain ⟨sn,hsn⟩:∃ sn,x.slots.length=sn:=⟨_,rfl⟩
 obtain ⟨cn,hcn⟩:∃ cn,x.cols.length=cn:=⟨_,rfl⟩
 obtain ⟨ol,hol⟩:∃ ol,od.length=ol:=⟨_,rfl⟩
 rw [hsn,hcn,hol] at h1 h2 h3 h4 h5
 rw [hsn,hcn,hol]
 have HO1:=Lib.hid h1;have HO2:=Lib.hid h2;have HO3:=Lib.hid h3;have HO4:=Lib.hid h4;have HO5:=Lib.hid h5
 have HSO:=Lib.hid hso
 clear hsz
 clear h1 h2 h3 h4 h5 hso hO hs hin hi hr ho hI1 hI2 hI3 hnm hok hA hR hsn hcn hol
 by_cases hlo:kd<1
 ·have hnone:=HSO.out (.inl hlo)
  have hd:decide (kd<1)=true:=by simpa using hlo
  have HL:=Lib.hid hlo
  clear hlo
  go_enter Tryz.func143,Tryz.ntmps143
  go_wp2_with (first
   |(go_at_call 152;(with_reducible refine (hCh.out _).mono ?_);rintro e w1 ⟨rfl,hB1⟩;obtain ⟨g0,g1,hH⟩:=heap3 hB1;have x0:=at_heap (i:=0) (v:=.slice sa sn sc) g0 rfl;have x1:=at_heap (i:=1) (v:=.slice ca cn cc) g0 rfl;have t0:=at_heap (i:=0) (v:=.int .i64 kd) g1 rfl;have t1:=at_heap (i:=1) (v:=.int .i64 col) g1 rfl;have t2:=at_heap (i:=2) (v:=.string nm) g1 rfl;have t3:=at_heap (i:=3) (v:=.int .i64 ty) g1 rfl;have t4:=at_heap (i:=4) (v:=.bool rq) g1 rfl;have t5:=at_heap (i:=5) (v:=.int .i64 k) g1 rfl;have t6:=at_heap (i:=6) (v:=.int .i64 n) g1 rfl;have t7:=at_heap (i:=7) (v:=.string tx) g1 rfl;have t8:=at_heap (i:=8) (v:=.slice a len cap) g1 rfl;have t9:=at_heap (i:=9) (v:=.slice oa ol oc) g1 rfl;clear g0 g1;obtain ⟨f0,f1,f2,f3⟩:=two_all hH;have hBw:=(below3 w _ _ _).trans (hB1.mono (below3 w _ _ _).size);unfold how6;have hA1:=(Below.refl _ w1).alloc (Nat.le_refl _) (.cells how6 167);have hH9:=(hA1.block _ (Array.getElem?_eq_some_iff.1 hH).1).trans hH;have hB9:=hBw.trans (hA1.mono hBw.size);unfold how6 at hA1 hH9 hB9;have x0:=cell_below hA1 x0;have x1:=cell_below hA1 x1;have t0:=cell_below hA1 t0;have t1:=cell_below hA1 t1;have t2:=cell_below hA1 t2;have t3:=cell_below hA1 t3;have t4:=cell_below hA1 t4;have t5:=cell_below hA1 t5;have t6:=cell_below hA1 t6;have t7:=cell_below hA1 t7;have t8:=cell_below hA1 t8;have t9:=cell_below hA1 t9;obtain ⟨f0,f1,f2,f3⟩:=two_all hH9))
  refine bodyPost_ret (results_cell_tmpS Tryz.results143 _ _ (w.heap.size+1+1) _ _ _ _ rfl (step_out _ _ hH9 hB9 (by omega)).1 Tryz.underlying145 rfl (by kernel_rfl)) rfl ?_
  exact step_no hnone hH9 hB9 (by omega) rfl
 by_cases hhi:6≤kd
 ·have hnone:=HSO.out (.inr (by omega))
  have hd:decide (kd<1)=false:=by simp;omega
  have hd2:decide (kd≥6)=true:=by simpa using hhi
  have HL:=Lib.hid hhi
  clear hhi hlo
  go_enter Tryz.func143,Tryz.ntmps143
  go_wp2_with (first
   |(go_at_call 152;(with_reducible refine (hCh.out _).mono ?_);rintro e w1 ⟨rfl,hB1⟩;obtain ⟨g0,g1,hH⟩:=heap3 hB1;have x0:=at_heap (i:=0) (v:=.slice sa sn sc) g0 rfl;have x1:=at_heap (i:=1) (v:=.slice ca cn cc) g0 rfl;have t0:=at_heap (i:=0) (v:=.int .i64 kd) g1 rfl;have t1:=at_heap (i:=1) (v:=.int .i64 col) g1 rfl;have t2:=at_heap (i:=2) (v:=.string nm) g1 rfl;have t3:=at_heap (i:=3) (v:=.int .i64 ty) g1 rfl;have t4:=at_heap (i:=4) (v:=.bool rq) g1 rfl;have t5:=at_heap (i:=5) (v:=.int .i64 k) g1 rfl;have t6:=at_heap (i:=6) (v:=.int .i64 n) g1 rfl;have t7:=at_heap (i:=7) (v:=.string tx) g1 rfl;have t8:=at_heap (i:=8) (v:=.slice a len cap) g1 rfl;have t9:=at_heap (i:=9) (v:=.slice oa ol oc) g1 rfl;clear g0 g1;obtain ⟨f0,f1,f2,f3⟩:=two_all hH;have hBw:=(below3 w _ _ _).trans (hB1.mono (below3 w _ _ _).size);unfold how6;have hA1:=(Below.refl _ w1).alloc (Nat.le_refl _) (.cells how6 167);have hH9:=(hA1.block _ (Array.getElem?_eq_some_iff.1 hH).1).trans hH;have hB9:=hBw.trans (hA1.mono hBw.size);unfold how6 at hA1 hH9 hB9;have x0:=cell_below hA1 x0;have x1:=cell_below hA1 x1;have t0:=cell_below hA1 t0;have t1:=cell_below hA1 t1;have t2:=cell_below hA1 t2;have t3:=cell_below hA1 t3;have t4:=cell_below hA1 t4;have t5:=cell_below hA1 t5;have t6:=cell_below hA1 t6;have t7:=cell_below hA1 t7;have t8:=cell_below hA1 t8;have t9:=cell_below hA1 t9;obtain ⟨f0,f1,f2,f3⟩:=two_all hH9))
  refine bodyPost_ret (results_cell_tmpS Tryz.results143 _ _ (w.heap.size+1+1) _ _ _ _ rfl (step_out _ _ hH9 hB9 (by omega)).1 Tryz.underlying145 rfl (by kernel_rfl)) rfl ?_
  exact step_no hnone hH9 hB9 (by omega) rfl
 have hk:kd=1∨kd=2∨kd=3∨kd=4∨kd=5:=by omega
 clear hlo hhi HSO
 rcases hk with rfl | rfl | rfl | rfl | rfl
 ·go_enter Tryz.func143,Tryz.ntmps143
  go_wp2_with (first
   |(go_at_call 152;(with_reducible refine (hCh.out _).mono ?_);rintro e w1 ⟨rfl,hB1⟩;obtain ⟨g0,g1,hH⟩:=heap3 hB1;have x0:=at_heap (i:=0) (v:=.slice sa sn sc) g0 rfl;have x1:=at_heap (i:=1) (v:=.slice ca cn cc) g0 rfl;have t0:=at_heap (i:=0) (v:=.int .i64 1) g1 rfl;have t1:=at_heap (i:=1) (v:=.int .i64 col) g1 rfl;have t2:=at_heap (i:=2) (v:=.string nm) g1 rfl;have t3:=at_heap (i:=3) (v:=.int .i64 ty) g1 rfl;have t4:=at_heap (i:=4) (v:=.bool rq) g1 rfl;have t5:=at_heap (i:=5) (v:=.int .i64 k) g1 rfl;have t6:=at_heap (i:=6) (v:=.int .i64 n) g1 rfl;have t7:=at_heap (i:=7) (v:=.string tx) g1 rfl;have t8:=at_heap (i:=8) (v:=.slice a len cap) g1 rfl;have t9:=at_heap (i:=9) (v:=.slice oa ol oc) g1 rfl;clear g0 g1;obtain ⟨f0,f1,f2,f3⟩:=two_all hH;have hBw:=(below3 w _ _ _).trans (hB1.mono (below3 w _ _ _).size);unfold how6;have hA1:=(Below.refl _ w1).alloc (Nat.le_refl _) (.cells how6 167);have hH9:=(hA1.block _ (Array.getElem?_eq_some_iff.1 hH).1).trans hH;have hB9:=hBw.trans (hA1.mono hBw.size);unfold how6 at hA1 hH9 hB9;have x0:=cell_below hA1 x0;have x1:=cell_below hA1 x1;have t0:=cell_below hA1 t0;have t1:=cell_below hA1 t1;have t2:=cell_below hA1 t2;have t3:=cell_below hA1 t3;have t4:=cell_below hA1 t4;have t5:=cell_below hA1 t5;have t6:=cell_below hA1 t6;have t7:=cell_below hA1 t7;have t8:=cell_below hA1 t8;have t9:=cell_below hA1 t9;obtain ⟨f0,f1,f2,f3⟩:=two_all hH9))
  have hhow:=at_heap (i:=1) (v:=.func (.func 158) #[] #[]) (heap_self9 w1 (.cells how6 167)) rfl
  unfold how6 at hhow
  obtain ⟨W2,hW2⟩:∃ W2,w1.alloc (.cells #[.nilFunc,.func (.func 158) #[] #[],.func (.func 159) #[] #[],.func (.func 160) #[] #[],.func (.func 161) #[] #[],.func (.func 162) #[] #[]] 167)=W2:=⟨_,rfl⟩
  obtain ⟨bh,hbh⟩:∃ b,w1.heap.size=b:=⟨_,rfl⟩
  have hw1s:=hBw.size
  have hlt1:=(Array.getElem?_eq_some_iff.1 hH).1
  rw [hW2] at hhow x0 x1 hH9 hB9 t0 t1 t2 t3 t4 t5 t6 t7 t8 t9 ⊢
  rw [hbh] at hhow hw1s hlt1 ⊢
  have hb13:=And.intro x0 (And.intro x1 (And.intro t0 (And.intro t1 (And.intro t2 (And.intro t3 (And.intro t4 (And.intro t5 (And.intro t6 (And.intro t7 (And.intro t8 (And.intro t9 hhow)))))))))))
  clear hA1 hH hBw hW2 hbh hB1
  have hpr:w.heap.size≠w.heap.size+1+1:=by omega
  have hqr:w.heap.size+1≠w.heap.size+1+1:=by omega
  have hhr:bh≠w.heap.size+1+1:=by omega
  have eg:∀ args w,(callFunc 158 args).run Tryz.prog w=.ok (.enter 158 args) w:=fun args w=>rfl
  go_region_held3 (fun W=>W.cell? ⟨w.heap.size,0,none⟩=some (.slice sa sn sc)∧W.cell? ⟨w.heap.size,1,none⟩=some (.slice ca cn cc)∧W.cell? ⟨w.heap.size+1,0,none⟩=some (.int .i64 1)∧W.cell? ⟨w.heap.size+1,1,none⟩=some (.int .i64 col)∧W.cell? ⟨w.heap.size+1,2,none⟩=some (.string nm)∧W.cell? ⟨w.heap.size+1,3,none⟩=some (.int .i64 ty)∧W.cell? ⟨w.heap.size+1,4,none⟩=some (.bool rq)∧W.cell? ⟨w.heap.size+1,5,none⟩=some (.int .i64 k)∧W.cell? ⟨w.heap.size+1,6,none⟩=some (.int .i64 n)∧W.cell? ⟨w.heap.size+1,7,none⟩=some (.string tx)∧W.cell? ⟨w.heap.size+1,8,none⟩=some (.slice a len cap)∧W.cell? ⟨w.heap.size+1,9,none⟩=some (.slice oa ol oc)∧W.cell? ⟨bh,1,none⟩=some (.func (.func 158) #[] #[])) (first | assumption | exact k13 hb13 (below_drew _) | exact k13 (by assumption) hb9 | exact k13s (k13 (k13 hb13 (below_drew _)) hb9) hpr hqr hhr) (first
   |(go_at_fn 158;(with_reducible refine (HO1.out _ hB9.drew (by trivial)).mono ?_);rintro e w9 hpost;obtain ⟨a9,n9,c9,a8,n8,c8,bb,rfl,hok9,hb9⟩:=stepPost_form hpost;have hH10:=(hb9.block _ (Array.getElem?_eq_some_iff.1 hH9).1).trans hH9;obtain ⟨f0,f1,f2,f3⟩:=two_all hH10))
  have hB10:=hB9.drew.trans (hb9.mono hB9.size)
  go_wp2
  refine bodyPost_ret (results_cell_tmpS Tryz.results143 _ _ (w.heap.size+1+1) _ _ _ _ rfl (step_out _ _ hH10 hB10 (by omega)).1 Tryz.underlying145 rfl (by kernel_rfl)) rfl ?_
  have hwz:=HIN.out.size
  exact stepPost_of (stepOk_kept hok9 (step_kept2 _ _ (HIN.out.trans (hB10.mono HIN.out.size)) hH10 (by omega))) (step_out _ _ hH10 hB10 (by omega)).2
 ·go_enter Tryz.func143,Tryz.ntmps143
  go_wp2_with (first
   |(go_at_call 152;(with_reducible refine (hCh.out _).mono ?_);rintro e w1 ⟨rfl,hB1⟩;obtain ⟨g0,g1,hH⟩:=heap3 hB1;have x0:=at_heap (i:=0) (v:=.slice sa sn sc) g0 rfl;have x1:=at_heap (i:=1) (v:=.slice ca cn cc) g0 rfl;have t0:=at_heap (i:=0) (v:=.int .i64 2) g1 rfl;have t1:=at_heap (i:=1) (v:=.int .i64 col) g1 rfl;have t2:=at_heap (i:=2) (v:=.string nm) g1 rfl;have t3:=at_heap (i:=3) (v:=.int .i64 ty) g1 rfl;have t4:=at_heap (i:=4) (v:=.bool rq) g1 rfl;have t5:=at_heap (i:=5) (v:=.int .i64 k) g1 rfl;have t6:=at_heap (i:=6) (v:=.int .i64 n) g1 rfl;have t7:=at_heap (i:=7) (v:=.string tx) g1 rfl;have t8:=at_heap (i:=8) (v:=.slice a len cap) g1 rfl;have t9:=at_heap (i:=9) (v:=.slice oa ol oc) g1 rfl;clear g0 g1;obtain ⟨f0,f1,f2,f3⟩:=two_all hH;have hBw:=(below3 w _ _ _).trans (hB1.mono (below3 w _ _ _).size);unfold how6;have hA1:=(Below.refl _ w1).alloc (Nat.le_refl _) (.cells how6 167);have hH9:=(hA1.block _ (Array.getElem?_eq_some_iff.1 hH).1).trans hH;have hB9:=hBw.trans (hA1.mono hBw.size);unfold how6 at hA1 hH9 hB9;have x0:=cell_below hA1 x0;have x1:=cell_below hA1 x1;have t0:=cell_below hA1 t0;have t1:=cell_below hA1 t1;have t2:=cell_below hA1 t2;have t3:=cell_below hA1 t3;have t4:=cell_below hA1 t4;have t5:=cell_below hA1 t5;have t6:=cell_below hA1 t6;have t7:=cell_below hA1 t7;have t8:=cell_below hA1 t8;have t9:=cell_below hA1 t9;obtain ⟨f0,f1,f2,f3⟩:=two_all hH9))
  have hhow:=at_heap (i:=2) (v:=.func (.func 159) #[] #[]) (heap_self9 w1 (.cells how6 167)) rfl
  unfold how6 at hhow
  obtain ⟨W2,hW2⟩:∃ W2,w1.alloc (.cells #[.nilFunc,.func (.func 158) #[] #[],.func (.func 159) #[] #[],.func (.func 160) #[] #[],.func (.func 161) #[] #[],.func (.func 162) #[] #[]] 167)=W2:=⟨_,rfl⟩
  obtain ⟨bh,hbh⟩:∃ b,w1.heap.size=b:=⟨_,rfl⟩
  have hw1s:=hBw.size
  have hlt1:=(Array.getElem?_eq_some_iff.1 hH).1
  rw [hW2] at hhow x0 x1 hH9 hB9 t0 t1 t2 t3 t4 t5 t6 t7 t8 t9 ⊢
  rw [hbh] at hhow hw1s hlt1 ⊢
  have hb13:=And.intro x0 (And.intro x1 (And.intro t0 (And.intro t1 (And.intro t2 (And.intro t3 (And.intro t4 (And.intro t5 (And.intro t6 (And.intro t7 (And.intro t8 (And.intro t9 hhow)))))))))))
  clear hA1 hH hBw hW2 hbh hB1
  have hpr:w.heap.size≠w.heap.size+1+1:=by omega
  have hqr:w.heap.size+1≠w.heap.size+1+1:=by omega
  have hhr:bh≠w.heap.size+1+1:=by omega
  have eg:∀ args w,(callFunc 159 args).run Tryz.prog w=.ok (.enter 159 args) w:=fun args w=>rfl
  go_region_held3 (fun W=>W.cell? ⟨w.heap.size,0,none⟩=some (.slice sa sn sc)∧W.cell? ⟨w.heap.size,1,none⟩=some (.slice ca cn cc)∧W.cell? ⟨w.heap.size+1,0,none⟩=some (.int .i64 2)∧W.cell? ⟨w.heap.size+1,1,none⟩=some (.int .i64 col)∧W.cell? ⟨w.heap.size+1,2,none⟩=some (.string nm)∧W.cell? ⟨w.heap.size+1,3,none⟩=some (.int .i64 ty)∧W.cell? ⟨w.heap.size+1,4,none⟩=some (.bool rq)∧W.cell? ⟨w.heap.size+1,5,none⟩=some (.int .i64 k)∧W.cell? ⟨w.heap.size+1,6,none⟩=some (.int .i64 n)∧W.cell? ⟨w.heap.size+1,7,none⟩=some (.string tx)∧W.cell? ⟨w.heap.size+1,8,none⟩=some (.slice a len cap)∧W.cell? ⟨w.heap.size+1,9,none⟩=some (.slice oa ol oc)∧W.cell? ⟨bh,2,none⟩=some (.func (.func 159) #[] #[])) (first | assumption | exact k13 hb13 (below_drew _) | exact k13 (by assumption) hb9 | exact k13s (k13 (k13 hb13 (below_drew _)) hb9) hpr hqr hhr) (first
   |(go_at_fn 159;(with_reducible refine (HO2.out _ hB9.drew (by trivial)).mono ?_);rintro e w9 hpost;obtain ⟨a9,n9,c9,a8,n8,c8,bb,rfl,hok9,hb9⟩:=stepPost_form hpost;have hH10:=(hb9.block _ (Array.getElem?_eq_some_iff.1 hH9).1).trans hH9;obtain ⟨f0,f1,f2,f3⟩:=two_all hH10))
  have hB10:=hB9.drew.trans (hb9.mono hB9.size)
  go_wp2
  refine bodyPost_ret (results_cell_tmpS Tryz.results143 _ _ (w.heap.size+1+1) _ _ _ _ rfl (step_out _ _ hH10 hB10 (by omega)).1 Tryz.underlying145 rfl (by kernel_rfl)) rfl ?_
  have hwz:=HIN.out.size
  exact stepPost_of (stepOk_kept hok9 (step_kept2 _ _ (HIN.out.trans (hB10.mono HIN.out.size)) hH10 (by omega))) (step_out _ _ hH10 hB10 (by omega)).2
 ·go_enter Tryz.func143,Tryz.ntmps143
  go_wp2_with (first
   |(go_at_call 152;(with_reducible refine (hCh.out _).mono ?_);rintro e w1 ⟨rfl,hB1⟩;obtain ⟨g0,g1,hH⟩:=heap3 hB1;have x0:=at_heap (i:=0) (v:=.slice sa sn sc) g0 rfl;have x1:=at_heap (i:=1) (v:=.slice ca cn cc) g0 rfl;have t0:=at_heap (i:=0) (v:=.int .i64 3) g1 rfl;have t1:=at_heap (i:=1) (v:=.int .i64 col) g1 rfl;have t2:=at_heap (i:=2) (v:=.string nm) g1 rfl;have t3:=at_heap (i:=3) (v:=.int .i64 ty) g1 rfl;have t4:=at_heap (i:=4) (v:=.bool rq) g1 rfl;have t5:=at_heap (i:=5) (v:=.int .i64 k) g1 rfl;have t6:=at_heap (i:=6) (v:=.int .i64 n) g1 rfl;have t7:=at_heap (i:=7) (v:=.string tx) g1 rfl;have t8:=at_heap (i:=8) (v:=.slice a len cap) g1 rfl;have t9:=at_heap (i:=9) (v:=.slice oa ol oc) g1 rfl;clear g0 g1;obtain ⟨f0,f1,f2,f3⟩:=two_all hH;have hBw:=(below3 w _ _ _).trans (hB1.mono (below3 w _ _ _).size);unfold how6;have hA1:=(Below.refl _ w1).alloc (Nat.le_refl _) (.cells how6 167);have hH9:=(hA1.block _ (Array.getElem?_eq_some_iff.1 hH).1).trans hH;have hB9:=hBw.trans (hA1.mono hBw.size);unfold how6 at hA1 hH9 hB9;have x0:=cell_below hA1 x0;have x1:=cell_below hA1 x1;have t0:=cell_below hA1 t0;have t1:=cell_below hA1 t1;have t2:=cell_below hA1 t2;have t3:=cell_below hA1 t3;have t4:=cell_below hA1 t4;have t5:=cell_below hA1 t5;have t6:=cell_below hA1 t6;have t7:=cell_below hA1 t7;have t8:=cell_below hA1 t8;have t9:=cell_below hA1 t9;obtain ⟨f0,f1,f2,f3⟩:=two_all hH9))
  have hhow:=at_heap (i:=3) (v:=.func (.func 160) #[] #[]) (heap_self9 w1 (.cells how6 167)) rfl
  unfold how6 at hhow
  obtain ⟨W2,hW2⟩:∃ W2,w1.alloc (.cells #[.nilFunc,.func (.func 158) #[] #[],.func (.func 159) #[] #[],.func (.func 160) #[] #[],.func (.func 161) #[] #[],.func (.func 162) #[] #[]] 167)=W2:=⟨_,rfl⟩
  obtain ⟨bh,hbh⟩:∃ b,w1.heap.size=b:=⟨_,rfl⟩
  have hw1s:=hBw.size
  have hlt1:=(Array.getElem?_eq_some_iff.1 hH).1
  rw [hW2] at hhow x0 x1 hH9 hB9 t0 t1 t2 t3 t4 t5 t6 t7 t8 t9 ⊢
  rw [hbh] at hhow hw1s hlt1 ⊢
  have hb13:=And.intro x0 (And.intro x1 (And.intro t0 (And.intro t1 (And.intro t2 (And.intro t3 (And.intro t4 (And.intro t5 (And.intro t6 (And.intro t7 (And.intro t8 (And.intro t9 hhow)))))))))))
  clear hA1 hH hBw hW2 hbh hB1
  have hpr:w.heap.size≠w.heap.size+1+1:=by omega
  have hqr:w.heap.size+1≠w.heap.size+1+1:=by omega
  have hhr:bh≠w.heap.size+1+1:=by omega
  have eg:∀ args w,(callFunc 160 args).run Tryz.prog w=.ok (.enter 160 args) w:=fun args w=>rfl
  go_region_held3 (fun W=>W.cell? ⟨w.heap.size,0,none⟩=some (.slice sa sn sc)∧W.cell? ⟨w.heap.size,1,none⟩=some (.slice ca cn cc)∧W.cell? ⟨w.heap.size+1,0,none⟩=some (.int .i64 3)∧W.cell? ⟨w.heap.size+1,1,none⟩=some (.int .i64 col)∧W.cell? ⟨w.heap.size+1,2,none⟩=some (.string nm)∧W.cell? ⟨w.heap.size+1,3,none⟩=some (.int .i64 ty)∧W.cell? ⟨w.heap.size+1,4,none⟩=some (.bool rq)∧W.cell? ⟨w.heap.size+1,5,none⟩=some (.int .i64 k)∧W.cell? ⟨w.heap.size+1,6,none⟩=some (.int .i64 n)∧W.cell? ⟨w.heap.size+1,7,none⟩=some (.string tx)∧W.cell? ⟨w.heap.size+1,8,none⟩=some (.slice a len cap)∧W.cell? ⟨w.heap.size+1,9,none⟩=some (.slice oa ol oc)∧W.cell? ⟨bh,3,none⟩=some (.func (.func 160) #[] #[])) (first | assumption | exact k13 hb13 (below_drew _) | exact k13 (by assumption) hb9 | exact k13s (k13 (k13 hb13 (below_drew _)) hb9) hpr hqr hhr) (first
   |(go_at_fn 160;(with_reducible refine (HO3.out _ hB9.drew (by trivial)).mono ?_);rintro e w9 hpost;obtain ⟨a9,n9,c9,a8,n8,c8,bb,rfl,hok9,hb9⟩:=stepPost_form hpost;have hH10:=(hb9.block _ (Array.getElem?_eq_some_iff.1 hH9).1).trans hH9;obtain ⟨f0,f1,f2,f3⟩:=two_all hH10))
  have hB10:=hB9.drew.trans (hb9.mono hB9.size)
  go_wp2
  refine bodyPost_ret (results_cell_tmpS Tryz.results143 _ _ (w.heap.size+1+1) _ _ _ _ rfl (step_out _ _ hH10 hB10 (by omega)).1 Tryz.underlying145 rfl (by kernel_rfl)) rfl ?_
  have hwz:=HIN.out.size
  exact stepPost_of (stepOk_kept hok9 (step_kept2 _ _ (HIN.out.trans (hB10.mono HIN.out.size)) hH10 (by omega))) (step_out _ _ hH10 hB10 (by omega)).2
 ·go_enter Tryz.func143,Tryz.ntmps143
  go_wp2_with (first
   |(go_at_call 152;(with_reducible refine (hCh.out _).mono ?_);rintro e w1 ⟨rfl,hB1⟩;obtain ⟨g0,g1,hH⟩:=heap3 hB1;have x0:=at_heap (i:=0) (v:=.slice sa sn sc) g0 rfl;have x1:=at_heap (i:=1) (v:=.slice ca cn cc) g0 rfl;have t0:=at_heap (i:=0) (v:=.int .i64 4) g1 rfl;have t1:=at_heap (i:=1) (v:=.int .i64 col) g1 rfl;have t2:=at_heap (i:=2) (v:=.string nm) g1 rfl;have t3:=at_heap (i:=3) (v:=.int .i64 ty) g1 rfl;have t4:=at_heap (i:=4) (v:=.bool rq) g1 rfl;have t5:=at_heap (i:=5) (v:=.int .i64 k) g1 rfl;have t6:=at_heap (i:=6) (v:=.int .i64 n) g1 rfl;have t7:=at_heap (i:=7) (v:=.string tx) g1 rfl;have t8:=at_heap (i:=8) (v:=.slice a len cap) g1 rfl;have t9:=at_heap (i:=9) (v:=.slice oa ol oc) g1 rfl;clear g0 g1;obtain ⟨f0,f1,f2,f3⟩:=two_all hH;have hBw:=(below3 w _ _ _).trans (hB1.mono (below3 w _ _ _).size);unfold how6;have hA1:=(Below.refl _ w1).alloc (Nat.le_refl _) (.cells how6 167);have hH9:=(hA1.block _ (Array.getElem?_eq_some_iff.1 hH).1).trans hH;have hB9:=hBw.trans (hA1.mono hBw.size);unfold how6 at hA1 hH9 hB9;have x0:=cell_below hA1 x0;have x1:=cell_below hA1 x1;have t0:=cell_below hA1 t0;have t1:=cell_below hA1 t1;have t2:=cell_below hA1 t2;have t3:=cell_below hA1 t3;have t4:=cell_below hA1 t4;have t5:=cell_below hA1 t5;have t6:=cell_below hA1 t6;have t7:=cell_below hA1 t7;have t8:=cell_below hA1 t8;have t9:=cell_below hA1 t9;obtain ⟨f0,f1,f2,f3⟩:=two_all hH9))
  have hhow:=at_heap (i:=4) (v:=.func (.func 161) #[] #[]) (heap_self9 w1 (.cells how6 167)) rfl
  unfold how6 at hhow
  obtain ⟨W2,hW2⟩:∃ W2,w1.alloc (.cells #[.nilFunc,.func (.func 158) #[] #[],.func (.func 159) #[] #[],.func (.func 160) #[] #[],.func (.func 161) #[] #[],.func (.func 162) #[] #[]] 167)=W2:=⟨_,rfl⟩
  obtain ⟨bh,hbh⟩:∃ b,w1.heap.size=b:=⟨_,rfl⟩
  have hw1s:=hBw.size
  have hlt1:=(Array.getElem?_eq_some_iff.1 hH).1
  rw [hW2] at hhow x0 x1 hH9 hB9 t0 t1 t2 t3 t4 t5 t6 t7 t8 t9 ⊢
  rw [hbh] at hhow hw1s hlt1 ⊢
  have hb13:=And.intro x0 (And.intro x1 (And.intro t0 (And.intro t1 (And.intro t2 (And.intro t3 (And.intro t4 (And.intro t5 (And.intro t6 (And.intro t7 (And.intro t8 (And.intro t9 hhow)))))))))))
  clear hA1 hH hBw hW2 hbh hB1
  have hpr:w.heap.size≠w.heap.size+1+1:=by omega
  have hqr:w.heap.size+1≠w.heap.size+1+1:=by omega
  have hhr:bh≠w.heap.size+1+1:=by omega
  have eg:∀ args w,(callFunc 161 args).run Tryz.prog w=.ok (.enter 161 args) w:=fun args w=>rfl
  go_region_held3 (fun W=>W.cell? ⟨w.heap.size,0,none⟩=some (.slice sa sn sc)∧W.cell? ⟨w.heap.size,1,none⟩=some (.slice ca cn cc)∧W.cell? ⟨w.heap.size+1,0,none⟩=some (.int .i64 4)∧W.cell? ⟨w.heap.size+1,1,none⟩=some (.int .i64 col)∧W.cell? ⟨w.heap.size+1,2,none⟩=some (.string nm)∧W.cell? ⟨w.heap.size+1,3,none⟩=some (.int .i64 ty)∧W.cell? ⟨w.heap.size+1,4,none⟩=some (.bool rq)∧W.cell? ⟨w.heap.size+1,5,none⟩=some (.int .i64 k)∧W.cell? ⟨w.heap.size+1,6,none⟩=some (.int .i64 n)∧W.cell? ⟨w.heap.size+1,7,none⟩=some (.string tx)∧W.cell? ⟨w.heap.size+1,8,none⟩=some (.slice a len cap)∧W.cell? ⟨w.heap.size+1,9,none⟩=some (.slice oa ol oc)∧W.cell? ⟨bh,4,none⟩=some (.func (.func 161) #[] #[])) (first | assumption | exact k13 hb13 (below_drew _) | exact k13 (by assumption) hb9 | exact k13s (k13 (k13 hb13 (below_drew _)) hb9) hpr hqr hhr) (first
   |(go_at_fn 161;(with_reducible refine (HO4.out _ hB9.drew (by trivial)).mono ?_);rintro e w9 hpost;obtain ⟨a9,n9,c9,a8,n8,c8,bb,rfl,hok9,hb9⟩:=stepPost_form hpost;have hH10:=(hb9.block _ (Array.getElem?_eq_some_iff.1 hH9).1).trans hH9;obtain ⟨f0,f1,f2,f3⟩:=two_all hH10))
  have hB10:=hB9.drew.trans (hb9.mono hB9.size)
  go_wp2
  refine bodyPost_ret (results_cell_tmpS Tryz.results143 _ _ (w.heap.size+1+1) _ _ _ _ rfl (step_out _ _ hH10 hB10 (by omega)).1 Tryz.underlying145 rfl (by kernel_rfl)) rfl ?_
  have hwz:=HIN.out.size
  exact stepPost_of (stepOk_kept hok9 (step_kept2 _ _ (HIN.out.trans (hB10.mono HIN.out.size)) hH10 (by omega))) (step_out _ _ hH10 hB10 (by omega)).2
 ·go_enter Tryz.func143,Tryz.ntmps143
  go_wp2_with (first
   |(go_at_call 152;(with_reducible refine (hCh.out _).mono ?_);rintro e w1 ⟨rfl,hB1⟩;obtain ⟨g0,g1,hH⟩:=heap3 hB1;have x0:=at_heap (i:=0) (v:=.slice sa sn sc) g0 rfl;have x1:=at_heap (i:=1) (v:=.slice ca cn cc) g0 rfl;have t0:=at_heap (i:=0) (v:=.int .i64 5) g1 rfl;have t1:=at_heap (i:=1) (v:=.int .i64 col) g1 rfl;have t2:=at_heap (i:=2) (v:=.string nm) g1 rfl;have t3:=at_heap (i:=3) (v:=.int .i64 ty) g1 rfl;have t4:=at_heap (i:=4) (v:=.bool rq) g1 rfl;have t5:=at_heap (i:=5) (v:=.int .i64 k) g1 rfl;have t6:=at_heap (i:=6) (v:=.int .i64 n) g1 rfl;have t7:=at_heap (i:=7) (v:=.string tx) g1 rfl;have t8:=at_heap (i:=8) (v:=.slice a len cap) g1 rfl;have t9:=at_heap (i:=9) (v:=.slice oa ol oc) g1 rfl;clear g0 g1;obtain ⟨f0,f1,f2,f3⟩:=two_all hH;have hBw:=(below3 w _ _ _).trans (hB1.mono (below3 w _ _ _).size);unfold how6;have hA1:=(Below.refl _ w1).alloc (Nat.le_refl _) (.cells how6 167);have hH9:=(hA1.block _ (Array.getElem?_eq_some_iff.1 hH).1).trans hH;have hB9:=hBw.trans (hA1.mono hBw.size);unfold how6 at hA1 hH9 hB9;have x0:=cell_below hA1 x0;have x1:=cell_below hA1 x1;have t0:=cell_below hA1 t0;have t1:=cell_below hA1 t1;have t2:=cell_below hA1 t2;have t3:=cell_below hA1 t3;have t4:=cell_below hA1 t4;have t5:=cell_below hA1 t5;have t6:=cell_below hA1 t6;have t7:=cell_below hA1 t7;have t8:=cell_below hA1 t8;have t9:=cell_below hA1 t9;obtain ⟨f0,f1,f2,f3⟩:=two_all hH9))
  have hhow:=at_heap (i:=5) (v:=.func (.func 162) #[] #[]) (heap_self9 w1 (.cells how6 167)) rfl
  unfold how6 at hhow
  obtain ⟨W2,hW2⟩:∃ W2,w1.alloc (.cells #[.nilFunc,.func (.func 158) #[] #[],.func (.func 159) #[] #[],.func (.func 160) #[] #[],.func (.func 161) #[] #[],.func (.func 162) #[] #[]] 167)=W2:=⟨_,rfl⟩
  obtain ⟨bh,hbh⟩:∃ b,w1.heap.size=b:=⟨_,rfl⟩
  have hw1s:=hBw.size
  have hlt1:=(Array.getElem?_eq_some_iff.1 hH).1
  rw [hW2] at hhow x0 x1 hH9 hB9 t0 t1 t2 t3 t4 t5 t6 t7 t8 t9 ⊢
  rw [hbh] at hhow hw1s hlt1 ⊢
  have hb13:=And.intro x0 (And.intro x1 (And.intro t0 (And.intro t1 (And.intro t2 (And.intro t3 (And.intro t4 (And.intro t5 (And.intro t6 (And.intro t7 (And.intro t8 (And.intro t9 hhow)))))))))))
  clear hA1 hH hBw hW2 hbh hB1
  have hpr:w.heap.size≠w.heap.size+1+1:=by omega
  have hqr:w.heap.size+1≠w.heap.size+1+1:=by omega
  have hhr:bh≠w.heap.size+1+1:=by omega
  have eg:∀ args w,(callFunc 162 args).run Tryz.prog w=.ok (.enter 162 args) w:=fun args w=>rfl
  go_region_held3 (fun W=>W.cell? ⟨w.heap.size,0,none⟩=some (.slice sa sn sc)∧W.cell? ⟨w.heap.size,1,none⟩=some (.slice ca cn cc)∧W.cell? ⟨w.heap.size+1,0,none⟩=some (.int .i64 5)∧W.cell? ⟨w.heap.size+1,1,none⟩=some (.int .i64 col)∧W.cell? ⟨w.heap.size+1,2,none⟩=some (.string nm)∧W.cell? ⟨w.heap.size+1,3,none⟩=some (.int .i64 ty)∧W.cell? ⟨w.heap.size+1,4,none⟩=some (.bool rq)∧W.cell? ⟨w.heap.size+1,5,none⟩=some (.int .i64 k)∧W.cell? ⟨w.heap.size+1,6,none⟩=some (.int .i64 n)∧W.cell? ⟨w.heap.size+1,7,none⟩=some (.string tx)∧W.cell? ⟨w.heap.size+1,8,none⟩=some (.slice a len cap)∧W.cell? ⟨w.heap.size+1,9,none⟩=some (.slice oa ol oc)∧W.cell? ⟨bh,5,none⟩=some (.func (.func 162) #[] #[])) (first | assumption | exact k13 hb13 (below_drew _) | exact k13 (by assumption) hb9 | exact k13s (k13 (k13 hb13 (below_drew _)) hb9) hpr hqr hhr) (first
   |(go_at_fn 162;(with_reducible refine (HO5.out _ hB9.drew (by trivial)).mono ?_);rintro e w9 hpost;obtain ⟨a9,n9,c9,a8,n8,c8,bb,rfl,hok9,hb9⟩:=stepPost_form hpost;have hH10:=(hb9.block _ (Array.getElem?_eq_some_iff.1 hH9).1).trans hH9;obtain ⟨f0,f1,f2,f3⟩:=two_all hH10))
  have hB10:=hB9.drew.trans (hb9.mono hB9.size)
  go_wp2
  refine bodyPost_ret (results_cell_tmpS Tryz.results143 _ _ (w.heap.size+1+1) _ _ _ _ rfl (step_out _ _ hH10 hB10 (by omega)).1 Tryz.underlying145 rfl (by kernel_rfl)) rfl ?_
  have hwz:=HIN.out.size
  exact stepPost_of (stepOk_kept hok9 (step_kept2 _ _ (HIN.out.trans (hB10.mono HIN.out.size)) hH10 (by omega))) (step_out _ _ hH10 hB10 (by omega)).2
