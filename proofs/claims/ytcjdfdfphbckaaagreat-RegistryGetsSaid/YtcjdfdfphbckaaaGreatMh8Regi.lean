/- The program's schema: a step as a value, and whether it tells what one of its kind tells, and nothing else. (Made by gen_spd.py.) -/
import Derived.Test.YtcjdfdfphbckaaaGreatMh3Regi
import Derived.Test.YtcjdfdfphbckaaaGreatMh2Regi
import Derived.Test.YtcjdfdfphbckaaaGreatMh7Regi
import Derived.RegionTactic
set_option linter.unusedVariables false
set_option linter.unusedSimpArgs false
set_option maxRecDepth 100000
set_option maxHeartbeats 64000000
open Go.Proofs.Tryz
namespace Go.Proofs.YtcjdfdfphbckaaaGreat
open Go.RowKit Go.Shelf
def ZA3 (w:World) (t:StepM) (x:Value):Prop:=∃ c2 c3 c4 c5 c6 c7 c8 oa oc,x=.agg #[.int .i64 t.kd,.int .i64 t.col,c2,c3,c4,c5,c6,c7,c8,.slice oa t.od.length oc]∧I64 t.kd∧I64 t.col∧ZDi w t.sl c2 c3 c4 c5 c6 c7 c8∧Row w .i64 oa t.od.length oc t.od∧∀ y∈t.od,I64 y
theorem ZBB {w w':World} (hb:Below w.heap.size w w') {t:StepM} {x:Value} (h:ZA3 w t x):ZA3 w' t x:=by
 obtain ⟨c2,c3,c4,c5,c6,c7,c8,oa,oc,rfl,h1,h2,h3,h4,h5⟩:=h
 exact ⟨c2,c3,c4,c5,c6,c7,c8,oa,oc,rfl,h1,h2,ZB3 hb h3,ZAk h4 hb rfl,h5⟩
theorem ZBF {w:World} {t:StepM} {x:Value} (h:ZA3 w t x):∃ k n tx a len cap oa oc,x=.agg #[.int .i64 t.kd,.int .i64 t.col,.string t.sl.nm,.int .i64 t.sl.ty,.bool t.sl.rq,.int .i64 k,.int .i64 n,.string tx,.slice a len cap,.slice oa t.od.length oc] ∧
  I64 t.kd∧I64 t.col∧I64 t.sl.ty∧t.sl.nm.size≤maxLen∧Is w t.sl.df (.agg #[.int .i64 k,.int .i64 n,.string tx,.slice a len cap])∧Row w .i64 oa t.od.length oc t.od∧∀ y∈t.od,I64 y:=by
 obtain ⟨c2,c3,c4,c5,c6,c7,c8,oa,oc,rfl,h1,h2,h3,h4,h5⟩:=h
 obtain ⟨k,n,tx,a,len,cap,e,g1,g2,g3⟩:=ZCF (s:=t.sl) ⟨c2,c3,c4,c5,c6,c7,c8,rfl,h3⟩
 simp only [Value.agg.injEq,Array.mk.injEq,List.cons.injEq,and_true] at e
 obtain ⟨rfl,rfl,rfl,rfl,rfl,rfl,rfl⟩:=e
 exact ⟨k,n,tx,a,len,cap,oa,oc,rfl,h1,h2,g1,g2,g3,h4,h5⟩
theorem ZBx {w:World} {t:StepM} {kd col ty k n:Int} {nm tx:ByteArray} {rq:Bool} {a oa:Option Addr} {len cap ol oc:Nat} (h:ZA3 w t (.agg #[.int .i64 kd,.int .i64 col,.string nm,.int .i64 ty,.bool rq,.int .i64 k,.int .i64 n,.string tx,.slice a len cap,.slice oa ol oc])) :
  ZBe w t.sl (.agg #[.string nm,.int .i64 ty,.bool rq,.int .i64 k,.int .i64 n,.string tx,.slice a len cap]):=by
 obtain ⟨c2,c3,c4,c5,c6,c7,c8,oa',oc',e,h1,h2,h3,h4,h5⟩:=h
 simp only [Value.agg.injEq,Array.mk.injEq,List.cons.injEq,and_true] at e
 obtain ⟨_,_,rfl,rfl,rfl,rfl,rfl,rfl,rfl,_⟩:=e
 exact ⟨_,_,_,_,_,_,_,rfl,h3⟩
theorem ZBL {w V:World} {o1 o2:Obj} (h:Below w.heap.size w V):Below w.heap.size w ((V.alloc o1).alloc o2).drew∧w.heap.size≤(((V.alloc o1).alloc o2).drew).heap.size:=by
 have h2:=((h.alloc h.size o1).alloc (Nat.le_trans h.size (by simp)) o2).drew
 exact ⟨h2,h2.size⟩
theorem ZCp {w w1:World} {o1 o2:Obj} {c0 c1 c2 c3 c4 c5 c6 d0 d1 d2 d3 d4 d5 d6:Value} {t:TypeId} (h:Below ((((w.alloc o1).alloc o2).alloc (.cells #[c0,c1,c2,c3,c4,c5,c6] t)).alloc (.cells #[d0,d1,d2,d3,d4,d5,d6] t)).drew.heap.size ((((w.alloc o1).alloc o2).alloc (.cells #[c0,c1,c2,c3,c4,c5,c6] t)).alloc (.cells #[d0,d1,d2,d3,d4,d5,d6] t)).drew w1) :
  (w1.cell? ⟨w.heap.size+1+1,0,none⟩=some c0∧w1.cell? ⟨w.heap.size+1+1,1,none⟩=some c1∧w1.cell? ⟨w.heap.size+1+1,2,none⟩=some c2∧w1.cell? ⟨w.heap.size+1+1,3,none⟩=some c3∧w1.cell? ⟨w.heap.size+1+1,4,none⟩=some c4∧w1.cell? ⟨w.heap.size+1+1,5,none⟩=some c5∧w1.cell? ⟨w.heap.size+1+1,6,none⟩=some c6)∧(w1.cell? ⟨w.heap.size+1+1+1,0,none⟩=some d0∧w1.cell? ⟨w.heap.size+1+1+1,1,none⟩=some d1∧w1.cell? ⟨w.heap.size+1+1+1,2,none⟩=some d2∧w1.cell? ⟨w.heap.size+1+1+1,3,none⟩=some d3∧w1.cell? ⟨w.heap.size+1+1+1,4,none⟩=some d4∧w1.cell? ⟨w.heap.size+1+1+1,5,none⟩=some d5∧w1.cell? ⟨w.heap.size+1+1+1,6,none⟩=some d6):=by
 have hA:((((w.alloc o1).alloc o2).alloc (.cells #[c0,c1,c2,c3,c4,c5,c6] t)).alloc (.cells #[d0,d1,d2,d3,d4,d5,d6] t)).drew.heap[w.heap.size+1+1]? = some (.cells #[c0,c1,c2,c3,c4,c5,c6] t (0,0)):=by
  have e:=World.alloc_heap_new ((w.alloc o1).alloc o2) (.cells #[c0,c1,c2,c3,c4,c5,c6] t)
  rw [World.size_alloc,World.size_alloc] at e
  exact (Below.heap_alloc _ _ _ (by simp)).trans e
 have hB:((((w.alloc o1).alloc o2).alloc (.cells #[c0,c1,c2,c3,c4,c5,c6] t)).alloc (.cells #[d0,d1,d2,d3,d4,d5,d6] t)).drew.heap[w.heap.size+1+1+1]? = some (.cells #[d0,d1,d2,d3,d4,d5,d6] t (0,0)):=by
  have e:=World.alloc_heap_new (((w.alloc o1).alloc o2).alloc (.cells #[c0,c1,c2,c3,c4,c5,c6] t)) (.cells #[d0,d1,d2,d3,d4,d5,d6] t)
  rw [World.size_alloc,World.size_alloc,World.size_alloc] at e
  exact e
 refine ⟨⟨?_, ?_, ?_, ?_, ?_, ?_, ?_⟩, ?_, ?_, ?_, ?_, ?_, ?_, ?_⟩
 all_goals (refine ZAA h ?_)
 all_goals first
  |(simp only [World.cell?,hA];rfl)
  |(simp only [World.cell?,hB];rfl)
def onlyB (s t:StepM):Bool:=decide (s.col=t.col) && (decide (s.od=t.od) && (Sc.eqN s.sl.nm t.sl.nm && (decide (s.sl.ty=t.sl.ty) && ((s.sl.rq == t.sl.rq) && (cmpV s.sl.df t.sl.df == 0)))))
theorem ZKS (a b:Int):(a == b)=decide (a=b):=rfl
theorem ZML (a b:ByteArray):(a.toList == b.toList)=Sc.eqN a b:=by
 unfold Sc.eqN
 rw [Bool.eq_iff_iff,beq_iff_eq,decide_eq_true_eq,ZAz,ZAz]
theorem ZQg (w:World) (kd col ty k n kd' col' ty' k' n':Int) (nm tx nm' tx':ByteArray) (rq rq':Bool) (a oa a' oa':Option Addr) (len cap ol oc len' cap' ol' oc':Nat) (h0:(col == col')=false) :
  Calls Tryz.prog 155 #[.agg #[.int .i64 kd,.int .i64 col,.string nm,.int .i64 ty,.bool rq,.int .i64 k,.int .i64 n,.string tx,.slice a len cap,.slice oa ol oc],.agg #[.int .i64 kd',.int .i64 col',.string nm',.int .i64 ty',.bool rq',.int .i64 k',.int .i64 n',.string tx',.slice a' len' cap',.slice oa' ol' oc']] w fun e w'=>e=.returned (.bool false)∧Below w.heap.size w w':=by
 have hb1:=(Below.refl _ w).alloc (Nat.le_refl _) (.cells #[.int .i64 kd,.int .i64 col,.string nm,.int .i64 ty,.bool rq,.int .i64 k,.int .i64 n,.string tx,.slice a len cap,.slice oa ol oc] 54)
 have hb2:=hb1.alloc hb1.size (.cells #[.int .i64 kd',.int .i64 col',.string nm',.int .i64 ty',.bool rq',.int .i64 k',.int .i64 n',.string tx',.slice a' len' cap',.slice oa' ol' oc'] 54)
 go_enter func155,ntmps155
 go_wp2
 go_region
 all_goals (
  go_wp2
  go_ret
  exact ⟨rfl,(ZBL hb2).1⟩)
theorem ZQh (w:World) (kd col ty k n kd' col' ty' k' n':Int) (nm tx nm' tx':ByteArray) (rq rq':Bool) (a oa a' oa':Option Addr) (len cap ol oc len' cap' ol' oc':Nat) (h0:(col == col')=true) (hE:∀ W,Below w.heap.size w W→Calls Tryz.prog 85 #[.slice oa ol oc,.slice oa' ol' oc'] W fun e w'=>e=.returned (.bool false)∧Below W.heap.size W w') :
  Calls Tryz.prog 155 #[.agg #[.int .i64 kd,.int .i64 col,.string nm,.int .i64 ty,.bool rq,.int .i64 k,.int .i64 n,.string tx,.slice a len cap,.slice oa ol oc],.agg #[.int .i64 kd',.int .i64 col',.string nm',.int .i64 ty',.bool rq',.int .i64 k',.int .i64 n',.string tx',.slice a' len' cap',.slice oa' ol' oc']] w fun e w'=>e=.returned (.bool false)∧Below w.heap.size w w':=by
 have HE:=ZZY hE
 clear hE
 have hb1:=(Below.refl _ w).alloc (Nat.le_refl _) (.cells #[.int .i64 kd,.int .i64 col,.string nm,.int .i64 ty,.bool rq,.int .i64 k,.int .i64 n,.string tx,.slice a len cap,.slice oa ol oc] 54)
 have hb2:=hb1.alloc hb1.size (.cells #[.int .i64 kd',.int .i64 col',.string nm',.int .i64 ty',.bool rq',.int .i64 k',.int .i64 n',.string tx',.slice a' len' cap',.slice oa' ol' oc'] 54)
 go_enter func155,ntmps155
 go_wp2
 go_region
 all_goals (
  go_wp2_with (first
   |(go_at_call 85;(with_reducible refine (HE.out _ (ZBL hb2).1).mono ?_);rintro e w1 ⟨rfl,hB1⟩;have hB5:=(ZBL hb2).1.trans (hB1.mono (ZBL hb2).2);obtain ⟨⟨y0,y1,y2,y3,y4,y5,y6⟩,z0,z1,z2,z3,z4,z5,z6⟩:=ZCp hB1))
  go_ret
  exact ⟨rfl,hB5⟩)
theorem ZQi (w:World) (kd col ty k n kd' col' ty' k' n':Int) (nm tx nm' tx':ByteArray) (rq rq':Bool) (a oa a' oa':Option Addr) (len cap ol oc len' cap' ol' oc':Nat) (h0:(col == col')=true) (hE:∀ W,Below w.heap.size w W→Calls Tryz.prog 85 #[.slice oa ol oc,.slice oa' ol' oc'] W fun e w'=>e=.returned (.bool true)∧Below W.heap.size W w') (h2:(nm.toList == nm'.toList)=false) :
  Calls Tryz.prog 155 #[.agg #[.int .i64 kd,.int .i64 col,.string nm,.int .i64 ty,.bool rq,.int .i64 k,.int .i64 n,.string tx,.slice a len cap,.slice oa ol oc],.agg #[.int .i64 kd',.int .i64 col',.string nm',.int .i64 ty',.bool rq',.int .i64 k',.int .i64 n',.string tx',.slice a' len' cap',.slice oa' ol' oc']] w fun e w'=>e=.returned (.bool false)∧Below w.heap.size w w':=by
 have HE:=ZZY hE
 clear hE
 have hb1:=(Below.refl _ w).alloc (Nat.le_refl _) (.cells #[.int .i64 kd,.int .i64 col,.string nm,.int .i64 ty,.bool rq,.int .i64 k,.int .i64 n,.string tx,.slice a len cap,.slice oa ol oc] 54)
 have hb2:=hb1.alloc hb1.size (.cells #[.int .i64 kd',.int .i64 col',.string nm',.int .i64 ty',.bool rq',.int .i64 k',.int .i64 n',.string tx',.slice a' len' cap',.slice oa' ol' oc'] 54)
 go_enter func155,ntmps155
 go_wp2
 go_region
 all_goals (
  go_wp2_with (first
   |(go_at_call 85;(with_reducible refine (HE.out _ (ZBL hb2).1).mono ?_);rintro e w1 ⟨rfl,hB1⟩;have hB5:=(ZBL hb2).1.trans (hB1.mono (ZBL hb2).2);obtain ⟨⟨y0,y1,y2,y3,y4,y5,y6⟩,z0,z1,z2,z3,z4,z5,z6⟩:=ZCp hB1))
  go_ret
  exact ⟨rfl,hB5⟩)
theorem ZQj (w:World) (kd col ty k n kd' col' ty' k' n':Int) (nm tx nm' tx':ByteArray) (rq rq':Bool) (a oa a' oa':Option Addr) (len cap ol oc len' cap' ol' oc':Nat) (h0:(col == col')=true) (hE:∀ W,Below w.heap.size w W→Calls Tryz.prog 85 #[.slice oa ol oc,.slice oa' ol' oc'] W fun e w'=>e=.returned (.bool true)∧Below W.heap.size W w') (h2:(nm.toList == nm'.toList)=true) (h3:(ty == ty')=false) :
  Calls Tryz.prog 155 #[.agg #[.int .i64 kd,.int .i64 col,.string nm,.int .i64 ty,.bool rq,.int .i64 k,.int .i64 n,.string tx,.slice a len cap,.slice oa ol oc],.agg #[.int .i64 kd',.int .i64 col',.string nm',.int .i64 ty',.bool rq',.int .i64 k',.int .i64 n',.string tx',.slice a' len' cap',.slice oa' ol' oc']] w fun e w'=>e=.returned (.bool false)∧Below w.heap.size w w':=by
 have HE:=ZZY hE
 clear hE
 have hb1:=(Below.refl _ w).alloc (Nat.le_refl _) (.cells #[.int .i64 kd,.int .i64 col,.string nm,.int .i64 ty,.bool rq,.int .i64 k,.int .i64 n,.string tx,.slice a len cap,.slice oa ol oc] 54)
 have hb2:=hb1.alloc hb1.size (.cells #[.int .i64 kd',.int .i64 col',.string nm',.int .i64 ty',.bool rq',.int .i64 k',.int .i64 n',.string tx',.slice a' len' cap',.slice oa' ol' oc'] 54)
 go_enter func155,ntmps155
 go_wp2
 go_region
 all_goals (
  go_wp2_with (first
   |(go_at_call 85;(with_reducible refine (HE.out _ (ZBL hb2).1).mono ?_);rintro e w1 ⟨rfl,hB1⟩;have hB5:=(ZBL hb2).1.trans (hB1.mono (ZBL hb2).2);obtain ⟨⟨y0,y1,y2,y3,y4,y5,y6⟩,z0,z1,z2,z3,z4,z5,z6⟩:=ZCp hB1))
  go_ret
  exact ⟨rfl,hB5⟩)
theorem ZQk (w:World) (kd col ty k n kd' col' ty' k' n':Int) (nm tx nm' tx':ByteArray) (rq rq':Bool) (a oa a' oa':Option Addr) (len cap ol oc len' cap' ol' oc':Nat) (h0:(col == col')=true) (hE:∀ W,Below w.heap.size w W→Calls Tryz.prog 85 #[.slice oa ol oc,.slice oa' ol' oc'] W fun e w'=>e=.returned (.bool true)∧Below W.heap.size W w') (h2:(nm.toList == nm'.toList)=true) (h3:(ty == ty')=true) (h4:(rq == rq')=false) :
  Calls Tryz.prog 155 #[.agg #[.int .i64 kd,.int .i64 col,.string nm,.int .i64 ty,.bool rq,.int .i64 k,.int .i64 n,.string tx,.slice a len cap,.slice oa ol oc],.agg #[.int .i64 kd',.int .i64 col',.string nm',.int .i64 ty',.bool rq',.int .i64 k',.int .i64 n',.string tx',.slice a' len' cap',.slice oa' ol' oc']] w fun e w'=>e=.returned (.bool false)∧Below w.heap.size w w':=by
 have HE:=ZZY hE
 clear hE
 have hb1:=(Below.refl _ w).alloc (Nat.le_refl _) (.cells #[.int .i64 kd,.int .i64 col,.string nm,.int .i64 ty,.bool rq,.int .i64 k,.int .i64 n,.string tx,.slice a len cap,.slice oa ol oc] 54)
 have hb2:=hb1.alloc hb1.size (.cells #[.int .i64 kd',.int .i64 col',.string nm',.int .i64 ty',.bool rq',.int .i64 k',.int .i64 n',.string tx',.slice a' len' cap',.slice oa' ol' oc'] 54)
 go_enter func155,ntmps155
 go_wp2
 go_region
 all_goals (
  go_wp2_with (first
   |(go_at_call 85;(with_reducible refine (HE.out _ (ZBL hb2).1).mono ?_);rintro e w1 ⟨rfl,hB1⟩;have hB5:=(ZBL hb2).1.trans (hB1.mono (ZBL hb2).2);obtain ⟨⟨y0,y1,y2,y3,y4,y5,y6⟩,z0,z1,z2,z3,z4,z5,z6⟩:=ZCp hB1))
  go_ret
  exact ⟨rfl,hB5⟩)
theorem ZQl (w:World) (kd col ty k n kd' col' ty' k' n':Int) (nm tx nm' tx':ByteArray) (rq rq':Bool) (a oa a' oa':Option Addr) (len cap ol oc len' cap' ol' oc':Nat) (h0:(col == col')=true) (hE:∀ W,Below w.heap.size w W→Calls Tryz.prog 85 #[.slice oa ol oc,.slice oa' ol' oc'] W fun e w'=>e=.returned (.bool true)∧Below W.heap.size W w') (h2:(nm.toList == nm'.toList)=true) (h3:(ty == ty')=true) (h4:(rq == rq')=true) (hS:∀ W,Below w.heap.size w W→Calls Tryz.prog 163 #[.agg #[.int .i64 k,.int .i64 n,.string tx,.slice a len cap],.agg #[.int .i64 k',.int .i64 n',.string tx',.slice a' len' cap']] W fun e w'=>e=.returned (.bool false)∧Below W.heap.size W w') :
  Calls Tryz.prog 155 #[.agg #[.int .i64 kd,.int .i64 col,.string nm,.int .i64 ty,.bool rq,.int .i64 k,.int .i64 n,.string tx,.slice a len cap,.slice oa ol oc],.agg #[.int .i64 kd',.int .i64 col',.string nm',.int .i64 ty',.bool rq',.int .i64 k',.int .i64 n',.string tx',.slice a' len' cap',.slice oa' ol' oc']] w fun e w'=>e=.returned (.bool false)∧Below w.heap.size w w':=by
 have HE:=ZZY hE
 clear hE
 have HS:=ZZY hS
 clear hS
 have hb1:=(Below.refl _ w).alloc (Nat.le_refl _) (.cells #[.int .i64 kd,.int .i64 col,.string nm,.int .i64 ty,.bool rq,.int .i64 k,.int .i64 n,.string tx,.slice a len cap,.slice oa ol oc] 54)
 have hb2:=hb1.alloc hb1.size (.cells #[.int .i64 kd',.int .i64 col',.string nm',.int .i64 ty',.bool rq',.int .i64 k',.int .i64 n',.string tx',.slice a' len' cap',.slice oa' ol' oc'] 54)
 go_enter func155,ntmps155
 go_wp2
 go_region
 all_goals (
  go_wp2_with (first
   |(go_at_call 85;(with_reducible refine (HE.out _ (ZBL hb2).1).mono ?_);rintro e w1 ⟨rfl,hB1⟩;have hB5:=(ZBL hb2).1.trans (hB1.mono (ZBL hb2).2);obtain ⟨⟨y0,y1,y2,y3,y4,y5,y6⟩,z0,z1,z2,z3,z4,z5,z6⟩:=ZCp hB1)
   |(go_at_call 163;(with_reducible refine (HS.out _ hB5).mono ?_);rintro e w2 ⟨rfl,hB2⟩;have hB6:=hB5.trans (hB2.mono hB5.size)))
  go_ret
  exact ⟨rfl,hB6⟩)
theorem ZQm (w:World) (kd col ty k n kd' col' ty' k' n':Int) (nm tx nm' tx':ByteArray) (rq rq':Bool) (a oa a' oa':Option Addr) (len cap ol oc len' cap' ol' oc':Nat) (h0:(col == col')=true) (hE:∀ W,Below w.heap.size w W→Calls Tryz.prog 85 #[.slice oa ol oc,.slice oa' ol' oc'] W fun e w'=>e=.returned (.bool true)∧Below W.heap.size W w') (h2:(nm.toList == nm'.toList)=true) (h3:(ty == ty')=true) (h4:(rq == rq')=true) (hS:∀ W,Below w.heap.size w W→Calls Tryz.prog 163 #[.agg #[.int .i64 k,.int .i64 n,.string tx,.slice a len cap],.agg #[.int .i64 k',.int .i64 n',.string tx',.slice a' len' cap']] W fun e w'=>e=.returned (.bool true)∧Below W.heap.size W w') :
  Calls Tryz.prog 155 #[.agg #[.int .i64 kd,.int .i64 col,.string nm,.int .i64 ty,.bool rq,.int .i64 k,.int .i64 n,.string tx,.slice a len cap,.slice oa ol oc],.agg #[.int .i64 kd',.int .i64 col',.string nm',.int .i64 ty',.bool rq',.int .i64 k',.int .i64 n',.string tx',.slice a' len' cap',.slice oa' ol' oc']] w fun e w'=>e=.returned (.bool true)∧Below w.heap.size w w':=by
 have HE:=ZZY hE
 clear hE
 have HS:=ZZY hS
 clear hS
 have hb1:=(Below.refl _ w).alloc (Nat.le_refl _) (.cells #[.int .i64 kd,.int .i64 col,.string nm,.int .i64 ty,.bool rq,.int .i64 k,.int .i64 n,.string tx,.slice a len cap,.slice oa ol oc] 54)
 have hb2:=hb1.alloc hb1.size (.cells #[.int .i64 kd',.int .i64 col',.string nm',.int .i64 ty',.bool rq',.int .i64 k',.int .i64 n',.string tx',.slice a' len' cap',.slice oa' ol' oc'] 54)
 go_enter func155,ntmps155
 go_wp2
 go_region
 all_goals (
  go_wp2_with (first
   |(go_at_call 85;(with_reducible refine (HE.out _ (ZBL hb2).1).mono ?_);rintro e w1 ⟨rfl,hB1⟩;have hB5:=(ZBL hb2).1.trans (hB1.mono (ZBL hb2).2);obtain ⟨⟨y0,y1,y2,y3,y4,y5,y6⟩,z0,z1,z2,z3,z4,z5,z6⟩:=ZCp hB1)
   |(go_at_call 163;(with_reducible refine (HS.out _ hB5).mono ?_);rintro e w2 ⟨rfl,hB2⟩;have hB6:=hB5.trans (hB2.mono hB5.size)))
  go_ret
  exact ⟨rfl,hB6⟩)
theorem ZEg (s t:StepM) (w:World) (x y:Value) (hs:ZA3 w s x) (ht:ZA3 w t y):Calls Tryz.prog 155 #[x,y] w fun e w'=>e=.returned (.bool (onlyB s t))∧Below w.heap.size w w':=by
 obtain ⟨k,n,tx,a,len,cap,oa,oc,rfl,_,_,_,_,hi,hr,_⟩:=ZBF hs
 obtain ⟨k',n',tx',a',len',cap',oa',oc',rfl,_,_,_,_,hi',hr',_⟩:=ZBF ht
 have hE:∀ W,Below w.heap.size w W→Calls Tryz.prog 85 #[.slice oa s.od.length oc,.slice oa' t.od.length oc'] W fun e w'=>e=.returned (.bool (decide (s.od=t.od)))∧Below W.heap.size W w':=fun W hb=>
  (ZGg _ _ _ _ _ _ _ _ W (ZAk hr hb rfl) (ZAk hr' hb rfl)).mono fun e w' h=>by
   obtain ⟨h1,q,h2⟩:=h
   exact ⟨h1,by rw [h2];exact ZAh (Below.refl _ _) q⟩
 have hS:=fun W (hb:Below w.heap.size w W)=>ZOZ s.sl.df t.sl.df W _ _ (ZAf hb _ _ hi) (ZAf hb _ _ hi')
 have h0:=ZKS s.col t.col
 have h2:=ZML s.sl.nm t.sl.nm
 have h3:=ZKS s.sl.ty t.sl.ty
 unfold onlyB
 obtain ⟨b0,e0⟩:∃ b,decide (s.col=t.col)=b:=⟨_,rfl⟩
 obtain ⟨b1,e1⟩:∃ b,decide (s.od=t.od)=b:=⟨_,rfl⟩
 obtain ⟨b2,e2⟩:∃ b,Sc.eqN s.sl.nm t.sl.nm=b:=⟨_,rfl⟩
 obtain ⟨b3,e3⟩:∃ b,decide (s.sl.ty=t.sl.ty)=b:=⟨_,rfl⟩
 obtain ⟨b4,e4⟩:∃ b,(s.sl.rq == t.sl.rq)=b:=⟨_,rfl⟩
 obtain ⟨b5,e5⟩:∃ b,(cmpV s.sl.df t.sl.df == 0)=b:=⟨_,rfl⟩
 rw [e0] at h0 ⊢
 rw [e1] at hE ⊢
 rw [e2] at h2 ⊢
 rw [e3] at h3 ⊢
 rw [e4]
 rw [e5] at hS ⊢
 cases b0 with
 |false=>exact ZQg _ _ _ _ _ _ _ _ _ _ _ _ _ _ _ _ _ _ _ _ _ _ _ _ _ _ _ _ _ h0
 |true=>
 cases b1 with
 |false=>exact ZQh _ _ _ _ _ _ _ _ _ _ _ _ _ _ _ _ _ _ _ _ _ _ _ _ _ _ _ _ _ h0 hE
 |true=>
 cases b2 with
 |false=>exact ZQi _ _ _ _ _ _ _ _ _ _ _ _ _ _ _ _ _ _ _ _ _ _ _ _ _ _ _ _ _ h0 hE h2
 |true=>
 cases b3 with
 |false=>exact ZQj _ _ _ _ _ _ _ _ _ _ _ _ _ _ _ _ _ _ _ _ _ _ _ _ _ _ _ _ _ h0 hE h2 h3
 |true=>
 cases b4 with
 |false=>exact ZQk _ _ _ _ _ _ _ _ _ _ _ _ _ _ _ _ _ _ _ _ _ _ _ _ _ _ _ _ _ h0 hE h2 h3 e4
 |true=>
 cases b5 with
 |false=>exact ZQl _ _ _ _ _ _ _ _ _ _ _ _ _ _ _ _ _ _ _ _ _ _ _ _ _ _ _ _ _ h0 hE h2 h3 e4 hS
 |true=>exact ZQm _ _ _ _ _ _ _ _ _ _ _ _ _ _ _ _ _ _ _ _ _ _ _ _ _ _ _ _ _ h0 hE h2 h3 e4 hS
