/- The document's template of the example: Two. -/
import Derived.Test.YtcjdfdfphbckaaaGreatMh2Regi
import Derived.Laws.ResultCell
import Derived.Laws.Rows
import Derived.Test.YtcjdfdfphbckaaaGreatMh17Regi
import Derived.Test.YtcjdfdfphbckaaaGreatMh18Regi
import Derived.Test.YtcjdfdfphbckaaaGreatMh19Regi
set_option linter.unusedVariables false
set_option linter.unusedSimpArgs false
set_option maxRecDepth 100000
set_option maxHeartbeats 64000000
open Go.Proofs.Tryz
namespace Go.Proofs.YtcjdfdfphbckaaaGreat
open Go.RowKit Go.Shelf
def intV (n:Int):PV:=.mk 2 n ⟨#[]⟩ []
def twoT:TemplM:=⟨⟨#[116]⟩,[⟨⟨#[97]⟩,4,false,intV 0⟩,⟨⟨#[98]⟩,4,true,intV 0⟩],[⟨2,0,⟨⟨#[]⟩,0,false,Sc.nilV⟩,[]⟩,⟨1,0,⟨⟨#[99]⟩,5,false,Sc.nilV⟩,[]⟩]⟩
theorem ZMl:(Tryz.prog.info? 49).map (·.size)=some 4:=by kernel_rfl
theorem ZJY:(Tryz.prog.info? 40).map (·.size)=some 3:=by kernel_rfl
theorem ZH4 (n:Int) (w:World):Calls Tryz.prog 32 #[.int .i64 n] w fun e w'=>e=.returned (.agg #[.int .i64 2,.int .i64 n,.string ⟨#[]⟩,.slice none 0 0])∧Below w.heap.size w w':=by
 have hB:∀ c,Below w.heap.size w (w.alloc (.cells c 49)):=fun c=>(Below.refl _ w).alloc (Nat.le_refl _) _
 go_enter func32,ntmps32
 go_wp2
 exact bodyPost_ret (results_cell_row Tryz.results32 _ _ w.heap.size _ _ _ _ rfl (World.alloc_heap_new w _) Tryz.underlying49 rfl ZMl) rfl ⟨rfl,hB _⟩
theorem ZCk (W:World) (b' i:Nat) (v:Value) (b:Nat) (h:b≠b'):(W.setCell ⟨b',i,none⟩ v).heap[b]? = W.heap[b]?:=Below.heap_setCell W ⟨b',i,none⟩ v b h
def TAtS (W:World) (b:Nat) (cs:Array Value):Prop:=W.heap[b]? = some (.cells cs 40 (0,0))
theorem ZOL {W:World} {b:Nat} {c0 c1 c2:Value} (h:TAtS W b #[c0,c1,c2]) (d0 d1 d2:Value):TAtS (((W.setCell ⟨b,0,none⟩ d0).setCell ⟨b,1,none⟩ d1).setCell ⟨b,2,none⟩ d2) b #[d0,d1,d2]:=by
 have st:∀ (W:World) (cs:Array Value) (i:Nat) (c:Value),TAtS W b cs→TAtS (W.setCell ⟨b,i,none⟩ c) b (cs.setIfInBounds i c):=fun W cs i c h=>by
  obtain ⟨hlt,hk⟩:=ZZZ h
  show (W.heap.modify b _)[b]? = _
  rw [Array.getElem?_eq_getElem (by rw [Array.size_modify];exact hlt),Array.getElem_modify_self,hk]
  rfl
 exact st _ _ 2 _ (st _ _ 1 _ (st _ _ 0 _ h))
theorem ZPG {w1 W:World} {b:Nat} {c0 c1 c2:Value} (hz:w1.heap[b]? = some (.cells #[c0,c1,c2] 40 (0,0))) (hb:Below w1.heap.size w1 W):TAtS W b #[c0,c1,c2]:=(hb.block b (ZZZ hz).1).trans hz
theorem ZLU {w1 W:World} {b:Nat} {c0 c1 c2:Value} (hz:w1.heap[b]? = some (.cells #[c0,c1,c2] 40 (0,0))) (hb:Below w1.heap.size w1 W):W.cell? ⟨b,0,none⟩=some c0∧W.cell? ⟨b,1,none⟩=some c1∧W.cell? ⟨b,2,none⟩=some c2∧W.frozen? ⟨b,0,none⟩=false∧W.frozen? ⟨b,1,none⟩=false∧W.frozen? ⟨b,2,none⟩=false:=by
 have h:=ZPG hz hb
 unfold TAtS at h
 refine ⟨?_, ?_, ?_, ?_, ?_, ?_⟩<;>simp [World.cell?,World.frozen?,h]
theorem ZH5 (W:World):Is W Sc.nilV (.agg #[.int .i64 0,.int .i64 0,.string ⟨#[]⟩,.slice none 0 0]):=by
 unfold Sc.nilV Is
 exact ⟨by unfold I64;omega,by unfold I64;omega,Nat.zero_le _,none,0,rfl,Nat.le_refl _,Nat.zero_le _,.inl rfl⟩
theorem ZPH (W:World):Is W (intV 0) (.agg #[.int .i64 2,.int .i64 0,.string ⟨#[]⟩,.slice none 0 0]):=by
 unfold intV Is
 exact ⟨by unfold I64;omega,by unfold I64;omega,Nat.zero_le _,none,0,rfl,Nat.le_refl _,Nat.zero_le _,.inl rfl⟩
theorem ZQN (W:World) (b1 b2:Nat) (h1:W.heap[b1]? = some (.cells #[.string ⟨#[97]⟩,.int .i64 4,.bool false,.int .i64 2,.int .i64 0,.string ⟨#[]⟩,.slice none 0 0,.string ⟨#[98]⟩,.int .i64 4,.bool true,.int .i64 2,.int .i64 0,.string ⟨#[]⟩,.slice none 0 0] 51 (0,0))) (h2:W.heap[b2]? = some (.cells #[.int .i64 2,.int .i64 0,.string ⟨#[]⟩,.int .i64 0,.bool false,.int .i64 0,.int .i64 0,.string ⟨#[]⟩,.slice none 0 0,.slice none 0 0,.int .i64 1,.int .i64 0,.string ⟨#[99]⟩,.int .i64 5,.bool false,.int .i64 0,.int .i64 0,.string ⟨#[]⟩,.slice none 0 0,.slice none 0 0] 54 (0,0))) :
  ZA8 W twoT (.agg #[.string ⟨#[116]⟩,.slice (some ⟨b1,0,none⟩) 2 2,.slice (some ⟨b2,0,none⟩) 2 2]):=by
 have c1:∀ i,W.cell? ⟨b1,i,none⟩=(#[.string ⟨#[97]⟩,.int .i64 4,.bool false,.int .i64 2,.int .i64 0,.string ⟨#[]⟩,.slice none 0 0,.string ⟨#[98]⟩,.int .i64 4,.bool true,.int .i64 2,.int .i64 0,.string ⟨#[]⟩,.slice none 0 0]:Array Value)[i]?:=fun i=>by simp [World.cell?,h1]
 have c2:∀ i,W.cell? ⟨b2,i,none⟩=(#[.int .i64 2,.int .i64 0,.string ⟨#[]⟩,.int .i64 0,.bool false,.int .i64 0,.int .i64 0,.string ⟨#[]⟩,.slice none 0 0,.slice none 0 0,.int .i64 1,.int .i64 0,.string ⟨#[99]⟩,.int .i64 5,.bool false,.int .i64 0,.int .i64 0,.string ⟨#[]⟩,.slice none 0 0,.slice none 0 0]:Array Value)[i]?:=fun i=>by simp [World.cell?,h2]
 have i64s:∀ n:Int,0≤n→n≤9→I64 n:=fun n h h'=>by unfold I64;omega
 refine ⟨by decide,some ⟨b1,0,none⟩,2,some ⟨b2,0,none⟩,2,rfl,⟨Nat.le_refl _,by decide,.inr ⟨b1,0,rfl,fun i s hs=>?_⟩⟩,⟨Nat.le_refl _,by decide,.inr ⟨b2,0,rfl,fun i s hs=>?_⟩⟩⟩
 ·match i,hs with
  | 0,hs=>
   simp only [twoT,List.getElem?_cons_zero,Option.some.injEq] at hs
   subst hs
   exact ⟨_,_,_,_,_,_,_,⟨c1 0,c1 1,c1 2,c1 3,c1 4,c1 5,c1 6⟩,Nat.le_of_lt (by decide),i64s 4 (by omega) (by omega),rfl,rfl,rfl,ZPH W⟩
  | 1,hs=>
   simp only [twoT,List.getElem?_cons_succ,List.getElem?_cons_zero,Option.some.injEq] at hs
   subst hs
   exact ⟨_,_,_,_,_,_,_,⟨c1 7,c1 8,c1 9,c1 10,c1 11,c1 12,c1 13⟩,Nat.le_of_lt (by decide),i64s 4 (by omega) (by omega),rfl,rfl,rfl,ZPH W⟩
  |i+2,hs=>simp [twoT] at hs
 ·have hrow:Row W .i64 none 0 0 []:=⟨rfl,Nat.le_refl _,by unfold maxLen;omega,.inl rfl⟩
  match i,hs with
  | 0,hs=>
   simp only [twoT,List.getElem?_cons_zero,Option.some.injEq] at hs
   subst hs
   exact ⟨none,0,⟨c2 0,c2 1,c2 9⟩,i64s 2 (by omega) (by omega),i64s 0 (by omega) (by omega),⟨_,_,_,_,_,_,_,⟨c2 2,c2 3,c2 4,c2 5,c2 6,c2 7,c2 8⟩,Nat.zero_le _,i64s 0 (by omega) (by omega),rfl,rfl,rfl,ZH5 W⟩,hrow,by simp⟩
  | 1,hs=>
   simp only [twoT,List.getElem?_cons_succ,List.getElem?_cons_zero,Option.some.injEq] at hs
   subst hs
   exact ⟨none,0,⟨c2 10,c2 11,c2 19⟩,i64s 1 (by omega) (by omega),i64s 0 (by omega) (by omega),⟨_,_,_,_,_,_,_,⟨c2 12,c2 13,c2 14,c2 15,c2 16,c2 17,c2 18⟩,Nat.le_of_lt (by decide),i64s 5 (by omega) (by omega),rfl,rfl,rfl,ZH5 W⟩,hrow,by simp⟩
  |i+2,hs=>simp [twoT] at hs
theorem ZLV (w:World):Calls Tryz.prog 13 #[] w fun e w'=>(∃ X,e=.returned X∧ZA8 w' twoT X)∧Below w.heap.size w w':=by
 have hA0:=(Below.refl _ w).alloc (Nat.le_refl _) (.cells #[.string ⟨#[]⟩,.slice none 0 0,.slice none 0 0] 40)
 have hI:=ZH4 0 (w.alloc (.cells #[.string ⟨#[]⟩,.slice none 0 0,.slice none 0 0] 40))
 go_enter func13,ntmps13
 go_wp2_with (go_at_call 32;(with_reducible refine hI.mono ?_);rintro e w1 ⟨rfl,hB1⟩;have hz:w1.heap[w.heap.size]? = some (.cells #[.string ⟨#[]⟩,.slice none 0 0,.slice none 0 0] 40 (0,0)):=(hB1.block _ (by simp)).trans (World.alloc_heap_new w _);have hA3:=(((Below.refl _ w1).alloc (Nat.le_refl _) (.cells #[.int .i64 2,.int .i64 0,.string ⟨#[]⟩,.slice none 0 0] 49)).alloc (by simp) (.cells #[.string ⟨#[97]⟩,.int .i64 4,.bool false,.int .i64 2,.int .i64 0,.string ⟨#[]⟩,.slice none 0 0,.string ⟨#[98]⟩,.int .i64 4,.bool true,.int .i64 2,.int .i64 0,.string ⟨#[]⟩,.slice none 0 0] 51)).alloc (by simp;omega) (.cells #[.int .i64 2,.int .i64 0,.string ⟨#[]⟩,.int .i64 0,.bool false,.int .i64 0,.int .i64 0,.string ⟨#[]⟩,.slice none 0 0,.slice none 0 0,.int .i64 1,.int .i64 0,.string ⟨#[99]⟩,.int .i64 5,.bool false,.int .i64 0,.int .i64 0,.string ⟨#[]⟩,.slice none 0 0,.slice none 0 0] 54);obtain ⟨z0,z1,z2,f0,f1,f2⟩:=ZLU hz hA3)
 have hC1:=hA0.trans (hB1.mono hA0.size)
 have hA4:=(Below.refl _ w1).alloc (Nat.le_refl _) (.cells #[.int .i64 2,.int .i64 0,.string ⟨#[]⟩,.slice none 0 0] 49)
 have hB5:=World.alloc_heap_new (w1.alloc (.cells #[.int .i64 2,.int .i64 0,.string ⟨#[]⟩,.slice none 0 0] 49)) (.cells #[.string ⟨#[97]⟩,.int .i64 4,.bool false,.int .i64 2,.int .i64 0,.string ⟨#[]⟩,.slice none 0 0,.string ⟨#[98]⟩,.int .i64 4,.bool true,.int .i64 2,.int .i64 0,.string ⟨#[]⟩,.slice none 0 0] 51)
 have hC5:=World.alloc_heap_new ((w1.alloc (.cells #[.int .i64 2,.int .i64 0,.string ⟨#[]⟩,.slice none 0 0] 49)).alloc (.cells #[.string ⟨#[97]⟩,.int .i64 4,.bool false,.int .i64 2,.int .i64 0,.string ⟨#[]⟩,.slice none 0 0,.string ⟨#[98]⟩,.int .i64 4,.bool true,.int .i64 2,.int .i64 0,.string ⟨#[]⟩,.slice none 0 0] 51)) (.cells #[.int .i64 2,.int .i64 0,.string ⟨#[]⟩,.int .i64 0,.bool false,.int .i64 0,.int .i64 0,.string ⟨#[]⟩,.slice none 0 0,.slice none 0 0,.int .i64 1,.int .i64 0,.string ⟨#[99]⟩,.int .i64 5,.bool false,.int .i64 0,.int .i64 0,.string ⟨#[]⟩,.slice none 0 0,.slice none 0 0] 54)
 have hlt:w.heap.size<w1.heap.size:=by have:=hB1.size;simp at this;omega
 refine bodyPost_ret (results_cell_row Tryz.results13 _ _ w.heap.size _ _ _ _ rfl (ZOL (ZPG hz hA3) _ _ _) Tryz.underlying40 rfl ZJY) rfl ?_
 refine ⟨⟨_,rfl,ZQN _ (w1.heap.size+1) (w1.heap.size+1+1) ?_ ?_⟩, ?_⟩
 ·rw [ZCk _ _ _ _ _ (by omega),ZCk _ _ _ _ _ (by omega),ZCk _ _ _ _ _ (by omega)]
  rw [World.size_alloc] at hB5
  exact (((Below.refl _ _).alloc (Nat.le_refl _) _).block _ (by simp)).trans hB5
 ·rw [ZCk _ _ _ _ _ (by omega),ZCk _ _ _ _ _ (by omega),ZCk _ _ _ _ _ (by omega)]
  rw [World.size_alloc,World.size_alloc] at hC5
  exact hC5
 ·exact ((((hC1.trans (hA3.mono hC1.size)).setCell (p:=⟨w.heap.size,0,none⟩) (Nat.le_refl _) _).setCell (p:=⟨w.heap.size,1,none⟩) (Nat.le_refl _) _).setCell (p:=⟨w.heap.size,2,none⟩) (Nat.le_refl _) _)
open Go.RowKit Go.Shelf
theorem ZAF {P:Program} {fn:Func} {p u:Tmp} {ty:TypeId} (h:fn.results=#[.cell p ty,.tmp u]) (tmps:Array Value) (w:World) (g:Nat) (t:TypeId) (cs:Array Value) (fr:Nat × Nat) (d:TypeDesc)
  (hp:tmps.getD p undef=.pointer (some ⟨g,0,none⟩)) (hg:w.heap[g]? = some (.cells cs t fr))
  (hu:P.underlying ty=some d) (hd:(match d with | .struct _ | .array _ _=>true | _=>false)=true) (hi:(P.info? ty).map (·.size)=some cs.size) :
  (results fn tmps).run P w=.ok (.tuple #[.agg cs,tmps.getD u undef]) w:=by
 rw [results_cell_tmp h,hp]
 simp [asAddr,run_loadVar_row w g t ty cs fr d hg hu hd hi,Result.andThen]
def ZCQ (o:Option Sc.Ver) (w0 w:World) (e:Ending) (w':World):Prop:=(match o with
 |none=>∃ sa n sc ca m cc,e=.returned (.tuple #[.agg #[.slice sa n sc,.slice ca m cc],.bool false])
 |some y=>∃ sv cv,e=.returned (.tuple #[.agg #[sv,cv],.bool true])∧ZD9 w0 w' y sv cv)∧Below w.heap.size w w'
structure StepIn (w0 w:World) (x:Sc.Ver) (sa:Option Addr) (sc:Nat) (ca:Option Addr) (cc:Nat) (cs:List Value):Prop where
 below:Below w0.heap.size w0 w
 vin:ZD9 w0 w x (.slice sa x.slots.length sc) (.slice ca x.cols.length cc)
 ver:ZL4 w x sa sc ca cc
 sc:ZBw w0 x.slots cs
 cells:ZB7 w 7 sa x.slots.length cs
theorem ZLW (ty:Int) (w:World):(Instr.build 51 #[(1,.int .i64 ty)]).run Tryz.prog w=.ok (.agg #[.string ⟨#[]⟩,.int .i64 ty,.bool false,.int .i64 0,.int .i64 0,.string ⟨#[]⟩,.slice none 0 0]) w:=run_build w 51 _ _ (by kernel_rfl)
theorem ZLX (col ty:Int) (w:World):(Instr.build 54 #[(1,.int .i64 col),(2,.agg #[.string ⟨#[]⟩,.int .i64 ty,.bool false,.int .i64 0,.int .i64 0,.string ⟨#[]⟩,.slice none 0 0])]).run Tryz.prog w=.ok (.agg #[.int .i64 0,.int .i64 col,.string ⟨#[]⟩,.int .i64 ty,.bool false,.int .i64 0,.int .i64 0,.string ⟨#[]⟩,.slice none 0 0,.slice none 0 0]) w:=run_build w 54 _ _ (by kernel_rfl)
theorem ZLY (col:Int) (w:World):(Instr.build 54 #[(1,.int .i64 col)]).run Tryz.prog w=.ok (.agg #[.int .i64 0,.int .i64 col,.string ⟨#[]⟩,.int .i64 0,.bool false,.int .i64 0,.int .i64 0,.string ⟨#[]⟩,.slice none 0 0,.slice none 0 0]) w:=run_build w 54 _ _ (by kernel_rfl)
theorem ZLZ (c0:ByteArray) (c1 c3 c4:Int) (c2:Bool) (c5:ByteArray) (a:Option Addr) (len cap:Nat) (w:World):(Instr.build 54 #[(2,.agg #[.string c0,.int .i64 c1,.bool c2,.int .i64 c3,.int .i64 c4,.string c5,.slice a len cap])]).run Tryz.prog w=.ok (.agg #[.int .i64 0,.int .i64 0,.string c0,.int .i64 c1,.bool c2,.int .i64 c3,.int .i64 c4,.string c5,.slice a len cap,.slice none 0 0]) w:=run_build w 54 _ _ (by kernel_rfl)
theorem ZLa (a:Option Addr) (len cap:Nat) (w:World):(Instr.build 54 #[(3,.slice a len cap)]).run Tryz.prog w=.ok (.agg #[.int .i64 0,.int .i64 0,.string ⟨#[]⟩,.int .i64 0,.bool false,.int .i64 0,.int .i64 0,.string ⟨#[]⟩,.slice none 0 0,.slice a len cap]) w:=run_build w 54 _ _ (by kernel_rfl)
theorem ZDz (w:World):(Instr.build 146 #[]).run Tryz.prog w=.ok (.agg #[.slice none 0 0,.slice none 0 0]) w:=run_build w 146 _ _ (by kernel_rfl)
theorem ZJZ (w:World):Row w .i64 none 0 0 []:=⟨rfl,Nat.le_refl _,Nat.zero_le _,.inl rfl⟩
theorem ZB8:I64 0:=⟨by omega,by omega⟩
theorem ZCJ (w:World) (kd col ty:Int) (nm:ByteArray) (rq:Bool) (h1:I64 kd) (h2:I64 col) (h3:I64 ty) (h4:nm.size≤maxLen):ZA3 w ⟨kd,col,⟨nm,ty,rq,Sc.nilV⟩,[]⟩ (.agg #[.int .i64 kd,.int .i64 col,.string nm,.int .i64 ty,.bool rq,.int .i64 0,.int .i64 0,.string ⟨#[]⟩,.slice none 0 0,.slice none 0 0]):=
 ⟨_,_,_,_,_,_,_,none,0,rfl,h1,h2,⟨h4,h3,rfl,rfl,rfl,ZH5 w⟩,ZJZ w,by simp⟩
theorem ZAB {W:World} {b i:Nat} {cs:Array Value} {t:TypeId} {fr:Nat × Nat} {v:Value} (h:W.heap[b]? = some (.cells cs t fr)) (hi:cs[i]? = some v):W.cell? ⟨b,i,none⟩=some v:=by
 simp [World.cell?,h,hi]
theorem heap4 {w w1:World} {o1 o2 o3 o4:Obj} (h:Below ((((w.alloc o1).alloc o2).alloc o3).alloc o4).heap.size ((((w.alloc o1).alloc o2).alloc o3).alloc o4) w1):w1.heap[w.heap.size]? = some o1∧w1.heap[w.heap.size+1]? = some o2∧w1.heap[w.heap.size+1+1]? = some o3∧w1.heap[w.heap.size+1+1+1]? = some o4:=by
 have e1:=ZAQ w o1
 have e2:=ZAQ (w.alloc o1) o2
 have e3:=ZAQ ((w.alloc o1).alloc o2) o3
 have e4:=ZAQ (((w.alloc o1).alloc o2).alloc o3) o4
 rw [World.size_alloc] at e2 e3 e4
 rw [World.size_alloc] at e3 e4
 rw [World.size_alloc] at e4
 refine ⟨(h.block _ (by simp<;>omega)).trans ?_,(h.block _ (by simp<;>omega)).trans ?_,(h.block _ (by simp<;>omega)).trans ?_,(h.block _ (by simp<;>omega)).trans e4⟩
 ·exact (Below.heap_alloc _ _ _ (by simp<;>omega)).trans ((Below.heap_alloc _ _ _ (by simp<;>omega)).trans ((Below.heap_alloc _ _ _ (by simp)).trans e1))
 ·exact (Below.heap_alloc _ _ _ (by simp<;>omega)).trans ((Below.heap_alloc _ _ _ (by simp<;>omega)).trans e2)
 ·exact (Below.heap_alloc _ _ _ (by simp<;>omega)).trans e3
theorem heap3 {w w1:World} {o1 o2 o3:Obj} (h:Below (((w.alloc o1).alloc o2).alloc o3).heap.size (((w.alloc o1).alloc o2).alloc o3) w1):w1.heap[w.heap.size]? = some o1∧w1.heap[w.heap.size+1]? = some o2∧w1.heap[w.heap.size+1+1]? = some o3:=by
 have e1:=ZAQ w o1
 have e2:=ZAQ (w.alloc o1) o2
 have e3:=ZAQ ((w.alloc o1).alloc o2) o3
 rw [World.size_alloc] at e2 e3
 rw [World.size_alloc] at e3
 refine ⟨(h.block _ (by simp<;>omega)).trans ?_,(h.block _ (by simp<;>omega)).trans ?_,(h.block _ (by simp<;>omega)).trans e3⟩
 ·exact (Below.heap_alloc _ _ _ (by simp<;>omega)).trans ((Below.heap_alloc _ _ _ (by simp<;>omega)).trans e1)
 ·exact (Below.heap_alloc _ _ _ (by simp<;>omega)).trans e2
theorem below4 (w:World) (o1 o2 o3 o4:Obj):Below w.heap.size w ((((w.alloc o1).alloc o2).alloc o3).alloc o4):=
 (((((Below.refl _ w).alloc (Nat.le_refl _) o1).alloc (by simp) o2).alloc (by simp<;>omega) o3).alloc (by simp<;>omega) o4)
theorem below3 (w:World) (o1 o2 o3:Obj):Below w.heap.size w (((w.alloc o1).alloc o2).alloc o3):=
 ((((Below.refl _ w).alloc (Nat.le_refl _) o1).alloc (by simp) o2).alloc (by simp<;>omega) o3)
theorem ZAd {w V:World} {b:Nat} {z0 z1:Value} (u0 u1:Value) (h:V.heap[b]? = some (.cells #[z0,z1] 146 (0,0))) (hB:Below w.heap.size w V) (hb:w.heap.size≤b) :
  ((V.setCell ⟨b,0,none⟩ u0).setCell ⟨b,1,none⟩ u1).heap[b]? = some (.cells #[u0,u1] 146 (0,0))∧Below w.heap.size w ((V.setCell ⟨b,0,none⟩ u0).setCell ⟨b,1,none⟩ u1):=by
 have hk1:=ZAJ V b 0 u0
 have hk2:=ZAJ (V.setCell ⟨b,0,none⟩ u0) b 1 u1
 exact ⟨ZB2 h _ _,ZAE (ZAE hB hk1 (fun c e=>by cases e;omega) hB.size) hk2 (fun c e=>by cases e;omega) (Nat.le_trans hB.size hk1.size)⟩
theorem ZBY {w0 w V:World} {b:Nat} {z0 z1:Value} {o:Option Sc.Ver} {e:Ending} (ho:o=none) (h:V.heap[b]? = some (.cells #[z0,z1] 146 (0,0))) (hB:Below w.heap.size w V) (hb:w.heap.size≤b) (he:e=.returned (.tuple #[.agg #[.slice none 0 0,.slice none 0 0],.bool false])) :
  ZCQ o w0 w e ((V.setCell ⟨b,0,none⟩ (.slice none 0 0)).setCell ⟨b,1,none⟩ (.slice none 0 0)):=by
 subst ho
 exact ⟨⟨_,_,_,_,_,_,he⟩,(ZAd _ _ h hB hb).2⟩
theorem ZG4 {W:World} {b:Nat} {u0 u1:Value} {t:TypeId} (h:W.heap[b]? = some (.cells #[u0,u1] t (0,0))) (v0:Value):(W.setCell ⟨b,0,none⟩ v0).heap[b]? = some (.cells #[v0,u1] t (0,0)):=by
 obtain ⟨hlt,hk⟩:=ZZZ h
 show (W.heap.modify b _)[b]? = _
 rw [Array.getElem?_eq_getElem (by rw [Array.size_modify];exact hlt),Array.getElem_modify_self,hk]
 rfl
theorem ZEN {w0 w V:World} {b:Nat} {z0 z1:Value} (u0 u1:Value) (hw0:Below w0.heap.size w0 w) (h:V.heap[b]? = some (.cells #[z0,z1] 146 (0,0))) (hB:Below w.heap.size w V) (hb:w.heap.size≤b):ZFG w0 w ((V.setCell ⟨b,0,none⟩ u0).setCell ⟨b,1,none⟩ u1):=by
 have k0:=ZCW hw0 hB
 have hle:w0.heap.size≤b:=Nat.le_trans hw0.size hb
 have k1:=ZEM (i:=0) (u:=u0) k0.1 hle h (by decide) (by decide)
 exact ZCX k0 (ZCX k1 (ZEM (i:=1) (u:=u1) k1.1 hle (ZG4 h u0) (by decide) (by decide)))
