/- What a reader reads, without a walk. -/
import Derived.Test.YtcjdfdfphbckaaaGreatMh4Regi
import Derived.Test.YtcjdfdfphbckaaaGreatMh0Regi
import Derived.RegionTactic
import Derived.Lib.UnsafeStr
import Derived.Lib.Strings
import Derived.Lib.BufferWrite
import Derived.Laws.MakeOwn
import Derived.Deep.RegionHeld3
import Derived.Deep.DeepCutAuto
set_option linter.unusedVariables false
set_option linter.unusedSimpArgs false
set_option maxRecDepth 100000
set_option maxHeartbeats 64000000
open Go.Proofs.Tryz
namespace Go.Proofs.YtcjdfdfphbckaaaGreat
namespace Bn
abbrev St:=Option (List Int)
def lf:St→List Int
 |none=>[]
 |some l=>l
def num (n:Nat):St→Nat × St
 |none=>(0,none)
 |some l=>if n≤l.length then (jn (l.take n),some (l.drop n)) else (0,none)
def rByte (s:St):Nat × St:=num 1 s
def rNum (s:St):Nat × St:=if 2147483647<(num 4 s).1 then (0,none) else num 4 s
def rLong (s:St):Int × St:=(IntKind.i64.wrap ((num 8 s).1:Int),(num 8 s).2)
def txt (n:Nat):St→ByteArray × St
 |none=>(⟨#[]⟩,none)
 |some l=>if n≤l.length then (strOfNums (l.take n),some (l.drop n)) else (⟨#[]⟩,none)
def rText (s:St):ByteArray × St:=txt (rNum s).1 (rNum s).2
def rep (g:St→PV × St):Nat→St→List PV × St
 | 0,s=>([],s)
 |n+1,s=>((rep g n s).1 ++ [(g (rep g n s).2).1],(g (rep g n s).2).2)
def node (lst:Nat→St→List PV × St) (s:St):PV × St:=
 if (rByte s).1=1 then (.mk 1 (rByte (rByte s).2).1 ⟨#[]⟩ [],(rByte (rByte s).2).2)
 else if (rByte s).1=2 then (.mk 2 (rLong (rByte s).2).1 ⟨#[]⟩ [],(rLong (rByte s).2).2)
 else if (rByte s).1=3∨(rByte s).1=4 then (.mk (rByte s).1 0 (rText (rByte s).2).1 [],(rText (rByte s).2).2)
 else if (rByte s).1=5 then (.mk 5 0 ⟨#[]⟩ (lst (rNum (rByte s).2).1 (rNum (rByte s).2).2).1,(lst (rNum (rByte s).2).1 (rNum (rByte s).2).2).2)
 else (.mk (rByte s).1 0 ⟨#[]⟩ [],(rByte s).2)
def lst (g:Option (St→PV × St)) (n:Nat) (s:St):List PV × St:=
 match g with
 |none=>([],none)
 |some g=>if 20<n then ([],none) else rep g n s
def get:Nat→St→PV × St
 | 0=>node (lst none)
 |d+1=>node (lst (some (get d)))
def getL:Nat→Option (St→PV × St)
 | 0=>none
 |d+1=>some (get d)
theorem get_node (d:Nat):get d=node (lst (getL d)):=by cases d<;>rfl
theorem num_lt (n:Nat) (s:St) (h:∀ x∈lf s,0≤x∧x≤255):(num n s).1<256 ^ n:=by
 cases s with
 |none=>exact Nat.pow_pos (by omega)
 |some l=>
  simp only [num]
  split
  ·rename_i hn
   have:=jn_lt (l.take n) fun x hx=>h x (List.mem_of_mem_take hx)
   rwa [List.length_take,Nat.min_eq_left hn] at this
  ·exact Nat.pow_pos (by omega)
theorem num_none (n:Nat):num n none=(0,none):=rfl
end Bn
open Go.RowKit Go.Shelf
theorem ZKL (w:World):(sizeOf (Tryz.prog.elem 22)).run Tryz.prog w=.ok 1 w:=by kernel_rfl
theorem ZN0 {W:World} {a:Option Addr} {n c:Nat} {l:List Int} (h:Row W .u8 a n c l) (q k m:Nat) (hk:q+k≤n) (hm:q+k≤m) (hc:m≤c):Row W .u8 (if m=q then a else a.map (·.add (q*1))) k (m-q) ((l.drop q).take k):=by
 obtain ⟨h1,h2,h3,h4⟩:=h
 refine ⟨by simp;omega,by omega,by omega, ?_⟩
 rcases h4 with h0 | ⟨b,off,rfl,hcl⟩
 ·exact .inl (by omega)
 ·by_cases hmq:m=q
  ·exact .inl (by omega)
  ·rw [if_neg hmq]
   refine .inr ⟨b,off+q,by simp [Addr.add],fun i hi=>?_⟩
   have:=hcl (q+i) (by omega)
   rw [←Nat.add_assoc] at this
   rw [this,List.getElem?_take,if_pos hi,List.getElem?_drop]
theorem ZFW (a:Option Addr) (n c q:Nat) (hq:q≤n):∃ a',(∀ W,(Instr.slice 22 (.slice a n c) (some (.int .i64 (q:Int))) none none).run Tryz.prog W=.ok (.slice a' (n-q) (c-q)) W) ∧
  (∀ W l,Row W .u8 a n c l→Row W .u8 a' (n-q) (c-q) (l.drop q))∧∀ ad',a'=some ad'→∃ ad,a=some ad∧ad'.block=ad.block:=by
 refine ⟨if c=q then a else a.map (·.add (q*1)),fun W=>?_,fun W l h=>?_,fun ad' e=>?_⟩
 ·have h1:=run_slice_l (P:=Tryz.prog) W 22 a n c Tryz.underlying22 .i64 (q:Int) (by omega) (by omega)
  rw [ZKL W] at h1
  simpa [Result.andThen,sliced] using h1
 ·have:=ZN0 h q (n-q) c (by omega) (by have:=h.2.1;omega) (Nat.le_refl _)
  rwa [List.take_of_length_le (by have:=h.1;simp;omega)] at this
 ·split at e
  ·exact ⟨ad',e,rfl⟩
  ·cases a with
   |none=>simp at e
   |some ad=>
    simp at e
    exact ⟨ad,rfl,by rw [←e];unfold Addr.add;split<;>rfl⟩
theorem ZFX (a:Option Addr) (n c q:Nat) (hq:q≤n) (hnc:n≤c):∃ a',(∀ W,(Instr.slice 22 (.slice a n c) none (some (.int .i64 (q:Int))) none).run Tryz.prog W=.ok (.slice a' q c) W) ∧
  ∀ W l,Row W .u8 a n c l→Row W .u8 a' q c (l.take q):=by
 refine ⟨if c=0 then a else a.map (·.add (0*1)),fun W=>?_,fun W l h=>?_⟩
 ·have h1:=run_slice_h (P:=Tryz.prog) W 22 a n c Tryz.underlying22 .i64 (q:Int) (by omega) (by omega)
  rw [ZKL W] at h1
  simpa [Result.andThen,sliced] using h1
 ·have:=ZN0 h 0 q c (by omega) (by omega) (Nat.le_refl _)
  simpa using this
theorem ZO6 (a:Option Addr) (n c q r:Nat) (hq:q≤r) (hr:r≤n) (hnc:n≤c):∃ a',(∀ W,(Instr.slice 22 (.slice a n c) (some (.int .i64 (q:Int))) (some (.int .i64 (r:Int))) none).run Tryz.prog W=.ok (.slice a' (r-q) (c-q)) W) ∧
  ∀ W l,Row W .u8 a n c l→Row W .u8 a' (r-q) (c-q) ((l.drop q).take (r-q)):=by
 refine ⟨if c=q then a else a.map (·.add (q*1)),fun W=>?_,fun W l h=>?_⟩
 ·have h1:=run_slice_lh (P:=Tryz.prog) W 22 a n c Tryz.underlying22 .i64 .i64 (q:Int) (r:Int) (by omega) (by omega) (by omega)
  rw [ZKL W] at h1
  simpa [Result.andThen,sliced] using h1
 ·exact ZN0 h q (r-q) c (by omega) (by omega) (Nat.le_refl _)
theorem ZK1 {w:World} {a:Option Addr} {n c:Nat} {l:List Int} (h:Row w .u8 a n c l):(convert 22 9 (.slice a n c)).run Tryz.prog w=.ok (.string (strOfNums l)) w:=by
 obtain ⟨h1,_,_,h4⟩:=h
 cases a with
 |none=>
  obtain rfl:n=0:=by rcases h4 with h | ⟨_,_,h,_⟩<;>first | exact h | cases h
  obtain rfl:l = []:=List.length_eq_zero_iff.1 h1
  exact run_convert_bytes_nil w _ _ Tryz.underlying22 Tryz.underlying5 0 c _ Tryz.underlying9
 |some ad=>
  rcases h4 with rfl | ⟨b,off,e,hc⟩
  ·obtain rfl:l = []:=List.length_eq_zero_iff.1 h1
   obtain ⟨b,off,sp⟩:=ad
   rw [run_convert_bytes_string w 22 9 5 _ 0 c Tryz.underlying22 Tryz.underlying5 Tryz.underlying9,
    run_bytesToString w ⟨b,off,sp⟩ 0 c [] (run_loadCells_list (P:=Tryz.prog) w ⟨b,off,sp⟩ [] (by simp))]
   rfl
  ·cases e
   exact run_convert_bytes_arg w _ _ Tryz.underlying22 Tryz.underlying5 b off n c l h1 (fun i hi=>by simpa [List.getD] using hc i hi) _ Tryz.underlying9
open Go.RowKit Go.Shelf
attribute [local go_sem] Oper.semAt_some
def RdAt (W:World) (p:Nat) (v:Value) (bad:Bool):Prop:=W.heap[p]? = some (.cells #[v,.bool bad] 58 (0,0))
theorem ZCB {W:World} {p:Nat} {v:Value} {bad:Bool} (h:RdAt W p v bad):(W.cell? ⟨p,0,none⟩=some v∧W.cell? ⟨p,1,none⟩=some (.bool bad))∧(W.frozen? ⟨p,0,none⟩=false∧W.frozen? ⟨p,1,none⟩=false):=by
 simp [World.cell?,World.frozen?,show W.heap[p]? = _ from h]
theorem ZKM {W:World} {p:Nat} {v:Value} {bad:Bool} (h:RdAt W p v bad):p<W.heap.size:=(ZZZ h).1
theorem ZI6 {W:World} {p:Nat} {v:Value} {bad:Bool} (h:RdAt W p v bad) (v':Value):RdAt (W.setCell ⟨p,0,none⟩ v') p v' bad:=by
 obtain ⟨hlt,hk⟩:=ZZZ h
 show (W.heap.modify p _)[p]? = _
 rw [Array.getElem?_eq_getElem (by rw [Array.size_modify];exact hlt),Array.getElem_modify_self,hk]
 rfl
theorem ZO7 {W:World} {p:Nat} {v:Value} {bad:Bool} (h:RdAt W p v bad) (b:Bool):RdAt (W.setCell ⟨p,1,none⟩ (.bool b)) p v b:=by
 obtain ⟨hlt,hk⟩:=ZZZ h
 show (W.heap.modify p _)[p]? = _
 rw [Array.getElem?_eq_getElem (by rw [Array.size_modify];exact hlt),Array.getElem_modify_self,hk]
 rfl
theorem ZCC (W:World) (row:Option Nat):W.grownBy W row:=⟨rfl,rfl,rfl,Nat.le_refl _,fun _ _ _=>rfl⟩
theorem ZAY {W:World} (b i:Nat) (v:Value):W.grownBy (W.setCell ⟨b,i,none⟩ v) (some b):=
 ⟨rfl,rfl,rfl,(KeepsWalks.setCell W _ v).size,fun k _ hk=>Below.heap_setCell _ _ _ k (fun e=>hk (by rw [e]))⟩
theorem ZAC {A C D:World} {row:Option Nat} (h:A.grownBy C row) (k:C.grownBy D row):A.grownBy D row:=
 ⟨k.os.trans h.os,k.tape.trans h.tape,k.output.trans h.output,Nat.le_trans h.size k.size,fun i hi hne=>by rw [k.block i (Nat.lt_of_lt_of_le hi h.size) hne,h.block i hi hne]⟩
theorem ZAZ {W W':World} (h:Below W.heap.size W W') (row:Option Nat):W.grownBy W' row:=⟨h.os,h.tape,h.output,h.size,fun k hk _=>h.block k hk⟩
theorem ZO8 {W W':World} {p:Nat} {v:Value} {bad:Bool} (h:RdAt W p v bad) (hv:∀ k x,v≠.int k x) (hg:W.grownBy W' (some p)) {a:Option Addr} {n c:Nat} {l:List Int} (hr:Row W .u8 a n c l):Row W' .u8 a n c l:=by
 obtain ⟨h1,h2,h3,h4⟩:=hr
 refine ⟨h1,h2,h3, ?_⟩
 rcases h4 with h4 | ⟨b,off,rfl,hc⟩
 ·exact .inl h4
 ·refine .inr ⟨b,off,rfl,fun i hi=>?_⟩
  have h0:=hc i hi
  have hbk:b<W.heap.size:=by
   simp only [World.cell?] at h0
   rcases Nat.lt_or_ge b W.heap.size with h | h
   ·exact h
   ·rw [Array.getElem?_eq_none h] at h0;cases h0
  have hne:b≠p:=by
   rintro rfl
   simp only [World.cell?,show W.heap[b]? = _ from h] at h0
   rcases hx:off+i with _ | _ | x
   ·rw [hx] at h0;simp at h0;exact hv _ _ h0
   ·rw [hx] at h0;simp at h0
   ·rw [hx] at h0;simp at h0
  rw [←h0]
  simp only [World.cell?,hg.block b hbk (by simpa using hne)]
def U8 (W:World) (a:Option Addr):Prop:=∀ ad,a=some ad→∃ cs fr,W.heap[ad.block]? = some (.cells cs 5 fr)
theorem ZHh {W W':World} {a:Option Addr} (h:U8 W a) (hb:Below W.heap.size W W'):U8 W' a:=fun ad e=>by
 obtain ⟨cs,fr,h1⟩:=h ad e
 exact ⟨cs,fr,(hb.block _ (ZZZ h1).1).trans h1⟩
def RD (W:World) (p:Nat) (s:Bn.St):Prop:=∃ a cap,RdAt W p (.slice a (Bn.lf s).length cap) s.isNone∧Row W .u8 a (Bn.lf s).length cap (Bn.lf s)∧ZCh (Bn.lf s)∧U8 W a
theorem ZHi {W W':World} {p:Nat} {s:Bn.St} (h:RD W p s) (hp:W'.heap[p]? = W.heap[p]?) (hu:∀ (b:Nat) (cs:Array Value) (fr:Nat × Nat),W.heap[b]? = some (Obj.cells cs 5 fr)→W'.heap[b]? = W.heap[b]?):RD W' p s:=by
 obtain ⟨a,cap,h1,h2,h3,h4⟩:=h
 refine ⟨a,cap,hp.trans h1, ?_,h3,fun ad e=>?_⟩
 ·obtain ⟨r1,r2,r3,r4⟩:=h2
  refine ⟨r1,r2,r3, ?_⟩
  rcases r4 with r4 | ⟨b,off,rfl,hc⟩
  ·exact .inl r4
  ·refine .inr ⟨b,off,rfl,fun i hi=>?_⟩
   obtain ⟨cs,fr,h5⟩:=h4 _ rfl
   rw [←hc i hi]
   simp only [World.cell?,hu b cs fr h5]
 ·obtain ⟨cs,fr,h5⟩:=h4 ad e
  exact ⟨cs,fr,(hu _ cs fr h5).trans h5⟩
theorem ZCf {W:World} {p:Nat} {s:Bn.St} (h:RD W p s):p<W.heap.size:=by
 obtain ⟨a,cap,h1,_⟩:=h
 exact ZKM h1
theorem ZAp {W W':World} {p:Nat} {s:Bn.St} (h:RD W p s) (hb:Below W.heap.size W W'):RD W' p s:=by
 obtain ⟨a,cap,h1,h2,h3,h4⟩:=h
 exact ⟨a,cap,(hb.block p (ZKM h1)).trans h1,ZAk h2 hb rfl,h3,ZHh h4 hb⟩
theorem ZQC {W:World} {p:Nat} (h:RdAt W p (.slice none 0 0) true):RD W p none:=⟨none,0,h,⟨rfl,Nat.le_refl _,by unfold maxLen;omega,.inl rfl⟩,fun i=>by simp [Bn.lf],fun _ e=>by cases e⟩
theorem ZB6 (p:Nat) (s:Bn.St) (w:World) (h:RD w p s):Calls Tryz.prog 26 #[.pointer (some ⟨p,0,none⟩)] w fun e w'=>e=.returned (.bool s.isNone)∧w=w':=by
 obtain ⟨a,cap,h1,_⟩:=h
 obtain ⟨⟨c0,c1⟩,_⟩:=ZCB h1
 generalize s.isNone=b at *
 clear h1
 go_enter func26,ntmps26
 go_wp2
 all_goals (go_ret;exact ⟨rfl,rfl⟩)
theorem ZB0 (p:Nat) (s:Bn.St) (w:World) (h:RD w p s):Calls Tryz.prog 11 #[.pointer (some ⟨p,0,none⟩)] w fun e w'=>e=.returned (.int .i64 ((Bn.lf s).length:Int))∧w=w':=by
 have hB:=ZB6 p s w h
 obtain ⟨a,cap,h1,_⟩:=h
 obtain ⟨⟨c0,c1⟩,_⟩:=ZCB h1
 clear h1
 cases s with
 |none=>
  simp only [Option.isNone_none,Bn.lf] at *
  go_enter func11,ntmps11
  go_wp2_with (first | (go_at_call 26;(with_reducible refine hB.mono ?_);rintro e w' ⟨rfl,rfl⟩))
  all_goals (go_ret;exact ⟨rfl,rfl⟩)
 |some l=>
  simp only [Option.isNone_some,Bn.lf] at *
  go_enter func11,ntmps11
  go_wp2_with (first | (go_at_call 26;(with_reducible refine hB.mono ?_);rintro e w' ⟨rfl,rfl⟩))
  all_goals (go_ret;exact ⟨rfl,rfl⟩)
def Bn.done (s:Bn.St):Bool:=match s with
 |some []=>true
 | _=>false
theorem ZMF (p:Nat) (s:Bn.St) (w:World) (h:RD w p s):Calls Tryz.prog 19 #[.pointer (some ⟨p,0,none⟩)] w fun e w'=>e=.returned (.bool (Bn.done s))∧w=w':=by
 have hB:=ZB6 p s w h
 have hL:=ZB0 p s w h
 clear h
 cases s with
 |none=>
  simp only [Option.isNone_none,Bn.lf] at *
  go_enter func19,ntmps19
  go_wp2_with (first | (go_at_call 26;(with_reducible refine hB.mono ?_);rintro e w' ⟨rfl,rfl⟩) | (go_at_call 11;(with_reducible refine hL.mono ?_);rintro e w' ⟨rfl,rfl⟩))
  all_goals (go_ret;exact ⟨rfl,rfl⟩)
 |some l=>
  simp only [Option.isNone_some,Bn.lf] at *
  have hd:Bn.done (some l)=decide (l.length=0):=by cases l<;>simp [Bn.done]
  rw [hd]
  have HD:=ZZY hd;clear hd
  go_enter func19,ntmps19
  go_wp2_with (first | (go_at_call 26;(with_reducible refine hB.mono ?_);rintro e w' ⟨rfl,rfl⟩) | (go_at_call 11;(with_reducible refine hL.mono ?_);rintro e w' ⟨rfl,rfl⟩))
  all_goals (go_ret;exact ⟨ZAG (by simp [Bool.beq_eq_decide_eq]),rfl⟩)
theorem ZCD (p:Nat) (s:Bn.St) (w:World) (h:RD w p s):Calls Tryz.prog 91 #[.pointer (some ⟨p,0,none⟩)] w fun e w'=>(∃ v,e=.returned v)∧RD w' p none∧w.grownBy w' (some p):=by
 obtain ⟨a,cap,h1,_⟩:=h
 obtain ⟨⟨c0,c1⟩,f0,f1⟩:=ZCB h1
 have h2:=ZI6 h1 (.slice none 0 0)
 obtain ⟨⟨d0,d1⟩,g0,g1⟩:=ZCB h2
 have hE:=ZO7 h2 true
 have hG:=ZAC (ZAY (W:=w) p 0 (.slice none 0 0)) (ZAY p 1 (.bool true))
 generalize s.isNone=b at *
 clear h1 h2
 go_enter func91,ntmps91
 go_wp2
 refine bodyPost_end (results_none rfl _ _ _) rfl ?_
 exact ⟨⟨_,rfl⟩,ZQC hE,hG⟩
open Go.RowKit Go.Shelf
attribute [local go_sem] Oper.semAt_some
theorem ZFY {W:World} {p:Nat} {l:List Int} {n:Nat} {a a':Option Addr} {cap c':Nat} (h1:RdAt W p (.slice a l.length cap) false) (hr:Row W .u8 a' (l.length-n) c' (l.drop n)) (hb:ZCh l) (hu:U8 W a) (ha:∀ ad',a'=some ad'→∃ ad,a=some ad∧ad'.block=ad.block) :
  RD (W.setCell ⟨p,0,none⟩ (.slice a' (l.length-n) c')) p (some (l.drop n)):=by
 refine ⟨a',c', ?_, ?_, ?_, ?_⟩
 ·simpa [Bn.lf] using ZI6 h1 (.slice a' (l.length-n) c')
 ·have:=ZO8 h1 (by intro k x e;cases e) (ZAY p 0 (.slice a' (l.length-n) c')) hr
  simpa [Bn.lf] using this
 ·intro i
  simp only [Bn.lf,List.getElem?_drop]
  exact hb (n+i)
 ·intro ad' e
  obtain ⟨ad,e2,e3⟩:=ha ad' e
  obtain ⟨cs,fr,h5⟩:=hu ad e2
  refine ⟨cs,fr, ?_⟩
  rw [e3,Below.heap_setCell _ _ _ ad.block (fun e4=>?_)]
  ·exact h5
  ·rw [e4,show W.heap[p]? = _ from h1] at h5
   cases h5
theorem ZGp (f:Nat) (hf:f=92∨f=69) (n:Nat) (x:Int) (ok:Bool) (p:Nat) (l:List Int) (w:World) (h:RD w p (some l)) (hn:n≤l.length)
  (hr:∀ W a c,Row W .u8 a n c (l.take n)→Calls Tryz.prog f #[.slice a n c] W fun e w'=>e=.returned (.tuple #[.int .i64 x,.bool ok])∧W=w') :
  Calls Tryz.prog 68 #[.pointer (some ⟨p,0,none⟩),.int .i64 (n:Int),.func (.func f) #[] #[]] w fun e w'=>e=.returned (if ok=true then Value.int .i64 x else Value.int .i64 0)∧RD w' p (if ok=true then some (l.drop n) else none)∧w.grownBy w' (some p):=by
 have hB:=ZB6 p _ w h
 have hL:=ZB0 p _ w h
 have hF:=ZCD p _ w h
 obtain ⟨a,cap,h1,h2,h3,h4⟩:=h
 obtain ⟨⟨c0,c1⟩,f0,f1⟩:=ZCB h1
 simp only [Option.isNone_some,Bn.lf] at *
 obtain ⟨a1,hs1,hr1⟩:=ZFX a l.length cap n hn h2.2.1
 obtain ⟨a2,hs2,hr2,ha2⟩:=ZFW a l.length cap n hn
 have hcall:=hr w a1 cap (hr1 w l h2)
 have hE:=ZFY h1 (hr2 w l h2) h3 h4 ha2
 have hm:=h2.2.2.1
 have hcp:=h2.2.1
 unfold maxLen at hm
 clear hr hr1 hr2 h1 h2 h3 h4 ha2
 cases ok with
 |true=>
  simp only [if_true]
  rcases hf with rfl | rfl
  all_goals (
   go_enter func68,ntmps68
   go_wp2_with (first
    |(go_at_call 11;(with_reducible refine hL.mono ?_);rintro e w' ⟨rfl,rfl⟩)
    |(go_at_call 26;(with_reducible refine hB.mono ?_);rintro e w' ⟨rfl,rfl⟩)
    |(go_at_call 92;(with_reducible refine hcall.mono ?_);rintro e w' ⟨rfl,rfl⟩)
    |(go_at_call 69;(with_reducible refine hcall.mono ?_);rintro e w' ⟨rfl,rfl⟩))
   all_goals (go_ret;exact ⟨rfl,hE,ZAY p 0 _⟩))
 |false=>
  simp only [Bool.false_eq_true,if_false]
  rcases hf with rfl | rfl
  all_goals (
   go_enter func68,ntmps68
   go_wp2_with (first
    |(go_at_call 11;(with_reducible refine hL.mono ?_);rintro e w' ⟨rfl,rfl⟩)
    |(go_at_call 26;(with_reducible refine hB.mono ?_);rintro e w' ⟨rfl,rfl⟩)
    |(go_at_call 91;(with_reducible refine hF.mono ?_);rintro e w' ⟨⟨v,rfl⟩,hN,hG⟩)
    |(go_at_call 92;(with_reducible refine hcall.mono ?_);rintro e w' ⟨rfl,rfl⟩)
    |(go_at_call 69;(with_reducible refine hcall.mono ?_);rintro e w' ⟨rfl,rfl⟩))
   all_goals (go_ret;exact ⟨rfl,hN,hG⟩))
theorem ZEe (f:Value) (n:Nat) (p:Nat) (s:Bn.St) (w:World) (h:RD w p s) (hn:s=none∨(Bn.lf s).length<n) :
  Calls Tryz.prog 68 #[.pointer (some ⟨p,0,none⟩),.int .i64 (n:Int),f] w fun e w'=>e=.returned (.int .i64 0)∧RD w' p none∧w.grownBy w' (some p):=by
 have hB:=ZB6 p _ w h
 have hL:=ZB0 p _ w h
 have hF:=ZCD p _ w h
 clear h
 cases s with
 |none=>
  simp only [Option.isNone_none,Bn.lf,List.length_nil] at *
  rcases Nat.eq_zero_or_pos n with rfl | h0
  all_goals (
   go_enter func68,ntmps68
   go_wp2_with (first
    |(go_at_call 11;(with_reducible refine hL.mono ?_);rintro e w' ⟨rfl,rfl⟩)
    |(go_at_call 26;(with_reducible refine hB.mono ?_);rintro e w' ⟨rfl,rfl⟩)
    |(go_at_call 91;(with_reducible refine hF.mono ?_);rintro e w' ⟨⟨v,rfl⟩,hN,hG⟩))
   all_goals (go_ret;exact ⟨rfl,hN,hG⟩))
 |some l=>
  simp only [Option.isNone_some,Bn.lf] at *
  have hlt:l.length<n:=by
   rcases hn with h | h
   ·cases h
   ·exact h
  clear hn
  go_enter func68,ntmps68
  go_wp2_with (first
   |(go_at_call 11;(with_reducible refine hL.mono ?_);rintro e w' ⟨rfl,rfl⟩)
   |(go_at_call 91;(with_reducible refine hF.mono ?_);rintro e w' ⟨⟨v,rfl⟩,hN,hG⟩))
  all_goals (go_ret;exact ⟨rfl,hN,hG⟩)
theorem ZKN (f:Nat) (hf:f=123) (n:Nat) (x:Int) (ok:Bool) (p:Nat) (l:List Int) (w:World) (h:RD w p (some l)) (hn:n≤l.length)
  (hr:∀ W a c,Row W .u8 a n c (l.take n)→Calls Tryz.prog f #[.slice a n c] W fun e w'=>e=.returned (.tuple #[.int .i64 x,.bool ok])∧W=w') :
  Calls Tryz.prog 122 #[.pointer (some ⟨p,0,none⟩),.int .i64 (n:Int),.func (.func f) #[] #[]] w fun e w'=>e=.returned (if ok=true then Value.int .i64 x else Value.int .i64 0)∧RD w' p (if ok=true then some (l.drop n) else none)∧w.grownBy w' (some p):=by
 have hB:=ZB6 p _ w h
 have hL:=ZB0 p _ w h
 have hF:=ZCD p _ w h
 obtain ⟨a,cap,h1,h2,h3,h4⟩:=h
 obtain ⟨⟨c0,c1⟩,f0,f1⟩:=ZCB h1
 simp only [Option.isNone_some,Bn.lf] at *
 obtain ⟨a1,hs1,hr1⟩:=ZFX a l.length cap n hn h2.2.1
 obtain ⟨a2,hs2,hr2,ha2⟩:=ZFW a l.length cap n hn
 have hcall:=hr w a1 cap (hr1 w l h2)
 have hE:=ZFY h1 (hr2 w l h2) h3 h4 ha2
 have hm:=h2.2.2.1
 have hcp:=h2.2.1
 unfold maxLen at hm
 clear hr hr1 hr2 h1 h2 h3 h4 ha2
 cases ok with
 |true=>
  simp only [if_true]
  subst hf
  all_goals (
   go_enter func122,ntmps122
   go_wp2_with (first
    |(go_at_call 11;(with_reducible refine hL.mono ?_);rintro e w' ⟨rfl,rfl⟩)
    |(go_at_call 26;(with_reducible refine hB.mono ?_);rintro e w' ⟨rfl,rfl⟩)
    |(go_at_call 123;(with_reducible refine hcall.mono ?_);rintro e w' ⟨rfl,rfl⟩))
   all_goals (go_ret;exact ⟨rfl,hE,ZAY p 0 _⟩))
 |false=>
  simp only [Bool.false_eq_true,if_false]
  subst hf
  all_goals (
   go_enter func122,ntmps122
   go_wp2_with (first
    |(go_at_call 11;(with_reducible refine hL.mono ?_);rintro e w' ⟨rfl,rfl⟩)
    |(go_at_call 26;(with_reducible refine hB.mono ?_);rintro e w' ⟨rfl,rfl⟩)
    |(go_at_call 91;(with_reducible refine hF.mono ?_);rintro e w' ⟨⟨v,rfl⟩,hN,hG⟩)
    |(go_at_call 123;(with_reducible refine hcall.mono ?_);rintro e w' ⟨rfl,rfl⟩))
   all_goals (go_ret;exact ⟨rfl,hN,hG⟩))
theorem ZGF (f:Value) (n:Nat) (p:Nat) (s:Bn.St) (w:World) (h:RD w p s) (hn:s=none∨(Bn.lf s).length<n) :
  Calls Tryz.prog 122 #[.pointer (some ⟨p,0,none⟩),.int .i64 (n:Int),f] w fun e w'=>e=.returned (.int .i64 0)∧RD w' p none∧w.grownBy w' (some p):=by
 have hB:=ZB6 p _ w h
 have hL:=ZB0 p _ w h
 have hF:=ZCD p _ w h
 clear h
 cases s with
 |none=>
  simp only [Option.isNone_none,Bn.lf,List.length_nil] at *
  rcases Nat.eq_zero_or_pos n with rfl | h0
  all_goals (
   go_enter func122,ntmps122
   go_wp2_with (first
    |(go_at_call 11;(with_reducible refine hL.mono ?_);rintro e w' ⟨rfl,rfl⟩)
    |(go_at_call 26;(with_reducible refine hB.mono ?_);rintro e w' ⟨rfl,rfl⟩)
    |(go_at_call 91;(with_reducible refine hF.mono ?_);rintro e w' ⟨⟨v,rfl⟩,hN,hG⟩))
   all_goals (go_ret;exact ⟨rfl,hN,hG⟩))
 |some l=>
  simp only [Option.isNone_some,Bn.lf] at *
  have hlt:l.length<n:=by
   rcases hn with h | h
   ·cases h
   ·exact h
  clear hn
  go_enter func122,ntmps122
  go_wp2_with (first
   |(go_at_call 11;(with_reducible refine hL.mono ?_);rintro e w' ⟨rfl,rfl⟩)
   |(go_at_call 91;(with_reducible refine hF.mono ?_);rintro e w' ⟨⟨v,rfl⟩,hN,hG⟩))
  all_goals (go_ret;exact ⟨rfl,hN,hG⟩)
theorem ZMG (f:Nat) (hf:f=72) (n:Nat) (x:ByteArray) (ok:Bool) (p:Nat) (l:List Int) (w:World) (h:RD w p (some l)) (hn:n≤l.length)
  (hr:∀ W a c,Row W .u8 a n c (l.take n)→Calls Tryz.prog f #[.slice a n c] W fun e w'=>e=.returned (.tuple #[.string x,.bool ok])∧W=w') :
  Calls Tryz.prog 71 #[.pointer (some ⟨p,0,none⟩),.int .i64 (n:Int),.func (.func f) #[] #[]] w fun e w'=>e=.returned (if ok=true then Value.string x else Value.string ⟨#[]⟩)∧RD w' p (if ok=true then some (l.drop n) else none)∧w.grownBy w' (some p):=by
 have hB:=ZB6 p _ w h
 have hL:=ZB0 p _ w h
 have hF:=ZCD p _ w h
 obtain ⟨a,cap,h1,h2,h3,h4⟩:=h
 obtain ⟨⟨c0,c1⟩,f0,f1⟩:=ZCB h1
 simp only [Option.isNone_some,Bn.lf] at *
 obtain ⟨a1,hs1,hr1⟩:=ZFX a l.length cap n hn h2.2.1
 obtain ⟨a2,hs2,hr2,ha2⟩:=ZFW a l.length cap n hn
 have hcall:=hr w a1 cap (hr1 w l h2)
 have hE:=ZFY h1 (hr2 w l h2) h3 h4 ha2
 have hm:=h2.2.2.1
 have hcp:=h2.2.1
 unfold maxLen at hm
 clear hr hr1 hr2 h1 h2 h3 h4 ha2
 cases ok with
 |true=>
  simp only [if_true]
  subst hf
  all_goals (
   go_enter func71,ntmps71
   go_wp2_with (first
    |(go_at_call 11;(with_reducible refine hL.mono ?_);rintro e w' ⟨rfl,rfl⟩)
    |(go_at_call 26;(with_reducible refine hB.mono ?_);rintro e w' ⟨rfl,rfl⟩)
    |(go_at_call 72;(with_reducible refine hcall.mono ?_);rintro e w' ⟨rfl,rfl⟩))
   all_goals (go_ret;exact ⟨rfl,hE,ZAY p 0 _⟩))
 |false=>
  simp only [Bool.false_eq_true,if_false]
  subst hf
  all_goals (
   go_enter func71,ntmps71
   go_wp2_with (first
    |(go_at_call 11;(with_reducible refine hL.mono ?_);rintro e w' ⟨rfl,rfl⟩)
    |(go_at_call 26;(with_reducible refine hB.mono ?_);rintro e w' ⟨rfl,rfl⟩)
    |(go_at_call 91;(with_reducible refine hF.mono ?_);rintro e w' ⟨⟨v,rfl⟩,hN,hG⟩)
    |(go_at_call 72;(with_reducible refine hcall.mono ?_);rintro e w' ⟨rfl,rfl⟩))
   all_goals (go_ret;exact ⟨rfl,hN,hG⟩))
theorem ZHj (f:Value) (n:Nat) (p:Nat) (s:Bn.St) (w:World) (h:RD w p s) (hn:s=none∨(Bn.lf s).length<n) :
  Calls Tryz.prog 71 #[.pointer (some ⟨p,0,none⟩),.int .i64 (n:Int),f] w fun e w'=>e=.returned (.string ⟨#[]⟩)∧RD w' p none∧w.grownBy w' (some p):=by
 have hB:=ZB6 p _ w h
 have hL:=ZB0 p _ w h
 have hF:=ZCD p _ w h
 clear h
 cases s with
 |none=>
  simp only [Option.isNone_none,Bn.lf,List.length_nil] at *
  rcases Nat.eq_zero_or_pos n with rfl | h0
  all_goals (
   go_enter func71,ntmps71
   go_wp2_with (first
    |(go_at_call 11;(with_reducible refine hL.mono ?_);rintro e w' ⟨rfl,rfl⟩)
    |(go_at_call 26;(with_reducible refine hB.mono ?_);rintro e w' ⟨rfl,rfl⟩)
    |(go_at_call 91;(with_reducible refine hF.mono ?_);rintro e w' ⟨⟨v,rfl⟩,hN,hG⟩))
   all_goals (go_ret;exact ⟨rfl,hN,hG⟩))
 |some l=>
  simp only [Option.isNone_some,Bn.lf] at *
  have hlt:l.length<n:=by
   rcases hn with h | h
   ·cases h
   ·exact h
  clear hn
  go_enter func71,ntmps71
  go_wp2_with (first
   |(go_at_call 11;(with_reducible refine hL.mono ?_);rintro e w' ⟨rfl,rfl⟩)
   |(go_at_call 91;(with_reducible refine hF.mono ?_);rintro e w' ⟨⟨v,rfl⟩,hN,hG⟩))
  all_goals (go_ret;exact ⟨rfl,hN,hG⟩)
open Go.RowKit Go.Shelf
attribute [local go_sem] Oper.semAt_some
theorem ZE0 {l:List Int} (h:ZCh l) (n:Nat):ZCh (l.take n):=by
 intro i
 rw [List.getElem?_take]
 split
 ·exact h i
 ·simp
theorem ZK2 {l:List Int} (h:ZCh l) (n:Nat) (hn:n≤l.length):Bn.jn (l.take n)<256 ^ n:=by
 have:=Bn.jn_lt (l.take n) fun x hx=>ZC0 h x (List.mem_of_mem_take hx)
 rwa [List.length_take,Nat.min_eq_left hn] at this
theorem ZN1 (a:Option Addr) (c:Nat) (t:List Int) (w:World) (h:Row w .u8 a 1 c t) (hb:ZCh t) (hj:Bn.jn t<256) :
  Calls Tryz.prog 92 #[.slice a 1 c] w fun e w'=>e=.returned (.tuple #[.int .i64 (Bn.jn t:Nat),.bool true])∧w=w':=by
 have hJ:=ZHb a 1 c t w h hb (by omega)
 generalize Bn.jn t=m at *
 go_enter func92,ntmps92
 go_wp2_with (first | (go_at_call 70;(with_reducible refine hJ.mono ?_);rintro e w' ⟨rfl,rfl⟩))
 go_ret2
 exact ⟨rfl,rfl⟩
theorem ZO9 (a:Option Addr) (c:Nat) (t:List Int) (w:World) (h:Row w .u8 a 4 c t) (hb:ZCh t) (hj:Bn.jn t<4294967296) :
  Calls Tryz.prog 69 #[.slice a 4 c] w fun e w'=>e=.returned (.tuple #[.int .i64 (Bn.jn t:Nat),.bool (decide (Bn.jn t≤2147483647))])∧w=w':=by
 have hJ:=ZHb a 4 c t w h hb (by omega)
 generalize Bn.jn t=m at *
 by_cases hm:m≤2147483647
 ·have hd:decide ((m:Int)≤2147483647)=true:=by simp;omega
  rw [decide_eq_true hm]
  go_enter func69,ntmps69
  go_wp2_with (first | (go_at_call 70;(with_reducible refine hJ.mono ?_);rintro e w' ⟨rfl,rfl⟩))
  go_ret2
  exact ⟨rfl,rfl⟩
 ·have hd:decide ((m:Int)≤2147483647)=false:=by simp;omega
  rw [decide_eq_false hm]
  go_enter func69,ntmps69
  go_wp2_with (first | (go_at_call 70;(with_reducible refine hJ.mono ?_);rintro e w' ⟨rfl,rfl⟩))
  go_ret2
  exact ⟨rfl,rfl⟩
theorem ZN2 (a:Option Addr) (c:Nat) (t:List Int) (w:World) (h:Row w .u8 a 8 c t) (hb:ZCh t) :
  Calls Tryz.prog 123 #[.slice a 8 c] w fun e w'=>e=.returned (.tuple #[.int .i64 (IntKind.i64.wrap (Bn.jn t:Nat)),.bool true])∧w=w':=by
 have hJ:=ZHb a 8 c t w h hb (by omega)
 generalize Bn.jn t=m at *
 go_enter func123,ntmps123
 go_wp2_with (first | (go_at_call 70;(with_reducible refine hJ.mono ?_);rintro e w' ⟨rfl,rfl⟩))
 go_ret2
 exact ⟨by rw [show IntKind.i64.wrap (m:Int)=wrap64 (m:Int) by rw [IntKind.wrap_i64];unfold wrap64;omega];rfl,rfl⟩
theorem ZN3 (a:Option Addr) (n c:Nat) (t:List Int) (w:World) (h:Row w .u8 a n c t) :
  Calls Tryz.prog 72 #[.slice a n c] w fun e w'=>e=.returned (.tuple #[.string (strOfNums t),.bool true])∧w=w':=by
 have hC:=ZK1 h
 generalize strOfNums t=s at *
 go_enter func72,ntmps72
 go_wp2_with fail
 go_ret2
 exact ⟨rfl,rfl⟩
def ZF8 (p:Nat) (w:World) (x:Int) (s:Bn.St) (e:Ending) (w':World):Prop:=e=.returned (.int .i64 x)∧RD w' p s∧w.grownBy w' (some p)
theorem ZBT (p:Nat) (s:Bn.St) (w:World) (h:RD w p s):Calls Tryz.prog 73 #[.pointer (some ⟨p,0,none⟩)] w (ZF8 p w (Bn.rByte s).1 (Bn.rByte s).2):=by
 have key:Calls Tryz.prog 68 #[.pointer (some ⟨p,0,none⟩),.int .i64 1,.func (.func 92) #[] #[]] w (ZF8 p w (Bn.rByte s).1 (Bn.rByte s).2):=by
  by_cases hs:s=none∨(Bn.lf s).length<1
  ·have:=ZEe (.func (.func 92) #[] #[]) 1 p s w h hs
   have e:Bn.rByte s=(0,none):=by
    rcases hs with rfl | hs
    ·rfl
    ·cases s with
     |none=>rfl
     |some l=>simp only [Bn.rByte,Bn.num];rw [if_neg (by simp only [Bn.lf] at hs;omega)]
   rw [e];exact this
  ·obtain ⟨l,rfl⟩:∃ l,s=some l:=by
    cases s with
    |none=>exact absurd (.inl rfl) hs
    |some l=>exact ⟨l,rfl⟩
   have hl:1≤l.length:=by
    rcases Nat.lt_or_ge l.length 1 with h1 | h1
    ·exact absurd (.inr h1) hs
    ·exact h1
   obtain ⟨_,_,_,_,hb,_⟩:=id h
   simp only [Bn.lf] at hb
   have hj:=ZK2 hb 1 hl
   have e:Bn.rByte (some l)=(Bn.jn (l.take 1),some (l.drop 1)):=by simp only [Bn.rByte,Bn.num];rw [if_pos hl]
   rw [e]
   exact ZGp 92 (.inl rfl) 1 (Bn.jn (l.take 1):Nat) true p l w h hl fun W a c hr=>ZN1 a c _ W hr (ZE0 hb 1) hj
 generalize Bn.rByte s=r at *
 clear h
 go_enter func73,ntmps73
 go_wp2_with (first | (go_at_call 68;(with_reducible refine key.mono ?_);rintro e w' ⟨rfl,hR,hG⟩))
 go_ret
 exact ⟨rfl,hR,hG⟩
theorem ZC1 (p:Nat) (s:Bn.St) (w:World) (h:RD w p s):Calls Tryz.prog 41 #[.pointer (some ⟨p,0,none⟩)] w (ZF8 p w (Bn.rNum s).1 (Bn.rNum s).2):=by
 have key:Calls Tryz.prog 68 #[.pointer (some ⟨p,0,none⟩),.int .i64 4,.func (.func 69) #[] #[]] w (ZF8 p w (Bn.rNum s).1 (Bn.rNum s).2):=by
  by_cases hs:s=none∨(Bn.lf s).length<4
  ·have:=ZEe (.func (.func 69) #[] #[]) 4 p s w h hs
   have e:Bn.rNum s=(0,none):=by
    have e1:Bn.num 4 s=(0,none):=by
     rcases hs with rfl | hs
     ·rfl
     ·cases s with
      |none=>rfl
      |some l=>simp only [Bn.num];rw [if_neg (by simp only [Bn.lf] at hs;omega)]
    unfold Bn.rNum;rw [e1];rfl
   rw [e];exact this
  ·obtain ⟨l,rfl⟩:∃ l,s=some l:=by
    cases s with
    |none=>exact absurd (.inl rfl) hs
    |some l=>exact ⟨l,rfl⟩
   have hl:4≤l.length:=by
    rcases Nat.lt_or_ge l.length 4 with h1 | h1
    ·exact absurd (.inr h1) hs
    ·exact h1
   obtain ⟨_,_,_,_,hb,_⟩:=id h
   simp only [Bn.lf] at hb
   have hj:=ZK2 hb 4 hl
   have e1:Bn.num 4 (some l)=(Bn.jn (l.take 4),some (l.drop 4)):=by simp only [Bn.num];rw [if_pos hl]
   have hk:=ZGp 69 (.inr rfl) 4 (Bn.jn (l.take 4):Nat) (decide (Bn.jn (l.take 4)≤2147483647)) p l w h hl fun W a c hr=>ZO9 a c _ W hr (ZE0 hb 4) (by omega)
   refine hk.mono ?_
   rintro e w' ⟨rfl,hR,hG⟩
   unfold Bn.rNum
   rw [e1]
   by_cases hm:Bn.jn (l.take 4)≤2147483647
   ·rw [if_neg (by show ¬2147483647<Bn.jn (l.take 4);omega)]
    simp only [hm,decide_true,if_true] at hR ⊢
    exact ⟨rfl,hR,hG⟩
   ·rw [if_pos (by show 2147483647<Bn.jn (l.take 4);omega)]
    simp only [hm,decide_false,Bool.false_eq_true,if_false] at hR ⊢
    exact ⟨rfl,hR,hG⟩
 generalize Bn.rNum s=r at *
 clear h
 go_enter func41,ntmps41
 go_wp2_with (first | (go_at_call 68;(with_reducible refine key.mono ?_);rintro e w' ⟨rfl,hR,hG⟩))
 go_ret
 exact ⟨rfl,hR,hG⟩
theorem ZMH (p:Nat) (s:Bn.St) (w:World) (h:RD w p s):Calls Tryz.prog 110 #[.pointer (some ⟨p,0,none⟩)] w (ZF8 p w (Bn.rLong s).1 (Bn.rLong s).2):=by
 have key:Calls Tryz.prog 122 #[.pointer (some ⟨p,0,none⟩),.int .i64 8,.func (.func 123) #[] #[]] w (ZF8 p w (Bn.rLong s).1 (Bn.rLong s).2):=by
  by_cases hs:s=none∨(Bn.lf s).length<8
  ·have:=ZGF (.func (.func 123) #[] #[]) 8 p s w h hs
   have e:Bn.rLong s=(0,none):=by
    have e1:Bn.num 8 s=(0,none):=by
     rcases hs with rfl | hs
     ·rfl
     ·cases s with
      |none=>rfl
      |some l=>simp only [Bn.num];rw [if_neg (by simp only [Bn.lf] at hs;omega)]
    unfold Bn.rLong;rw [e1];rfl
   rw [e];exact this
  ·obtain ⟨l,rfl⟩:∃ l,s=some l:=by
    cases s with
    |none=>exact absurd (.inl rfl) hs
    |some l=>exact ⟨l,rfl⟩
   have hl:8≤l.length:=by
    rcases Nat.lt_or_ge l.length 8 with h1 | h1
    ·exact absurd (.inr h1) hs
    ·exact h1
   obtain ⟨_,_,_,_,hb,_⟩:=id h
   simp only [Bn.lf] at hb
   have e:Bn.rLong (some l)=(IntKind.i64.wrap (Bn.jn (l.take 8):Nat),some (l.drop 8)):=by simp only [Bn.rLong,Bn.num];rw [if_pos hl]
   rw [e]
   exact ZKN 123 rfl 8 _ true p l w h hl fun W a c hr=>ZN2 a c _ W hr (ZE0 hb 8)
 generalize Bn.rLong s=r at *
 clear h
 go_enter func110,ntmps110
 go_wp2_with (first | (go_at_call 122;(with_reducible refine key.mono ?_);rintro e w' ⟨rfl,hR,hG⟩))
 go_ret
 exact ⟨rfl,hR,hG⟩
theorem ZDN (p:Nat) (s:Bn.St) (w:World) (h:RD w p s):Calls Tryz.prog 42 #[.pointer (some ⟨p,0,none⟩)] w fun e w'=>e=.returned (.string (Bn.rText s).1)∧RD w' p (Bn.rText s).2∧w.grownBy w' (some p):=by
 have hN:=ZC1 p s w h
 have key:∀ W,RD W p (Bn.rNum s).2→Calls Tryz.prog 71 #[.pointer (some ⟨p,0,none⟩),.int .i64 ((Bn.rNum s).1:Nat),.func (.func 72) #[] #[]] W fun e w'=>e=.returned (.string (Bn.rText s).1)∧RD w' p (Bn.rText s).2∧W.grownBy w' (some p):=by
  intro W hW
  unfold Bn.rText
  generalize (Bn.rNum s).1=n
  generalize (Bn.rNum s).2=s1 at *
  by_cases hs:s1=none∨(Bn.lf s1).length<n
  ·have:=ZHj (.func (.func 72) #[] #[]) n p s1 W hW hs
   have e:Bn.txt n s1=(⟨#[]⟩,none):=by
    rcases hs with rfl | hs
    ·rfl
    ·cases s1 with
     |none=>rfl
     |some l=>simp only [Bn.txt];rw [if_neg (by simp only [Bn.lf] at hs;omega)]
   rw [e];exact this
  ·obtain ⟨l,rfl⟩:∃ l,s1=some l:=by
    cases s1 with
    |none=>exact absurd (.inl rfl) hs
    |some l=>exact ⟨l,rfl⟩
   have hl:n≤l.length:=by
    rcases Nat.lt_or_ge l.length n with h1 | h1
    ·exact absurd (.inr h1) hs
    ·exact h1
   have e:Bn.txt n (some l)=(strOfNums (l.take n),some (l.drop n)):=by simp only [Bn.txt];rw [if_pos hl]
   rw [e]
   exact ZMG 72 rfl n _ true p l W hW hl fun W a c hr=>ZN3 a n c _ W hr
 generalize Bn.rNum s=r at *
 generalize Bn.rText s=t at *
 have HK:=ZZY key
 clear h key
 go_enter func42,ntmps42
 go_wp2_with (first | (go_at_call 41;(with_reducible refine hN.mono ?_);rintro e w1 ⟨rfl,hR1,hG1⟩) | (go_at_call 71;(with_reducible refine (HK.out _ hR1).mono ?_);rintro e w' ⟨rfl,hR,hG⟩))
 go_ret
 exact ⟨rfl,hR,ZAC hG1 hG⟩
open Go.RowKit Go.Shelf
attribute [local go_sem] Oper.semAt_some
theorem ZMI (a:Option Addr) (n c:Nat) (l:List Int) (w:World) (h:Row w .u8 a n c l) (hn:n≤1000000000):Calls Tryz.prog 23 #[.slice a n c] w (Got w l):=by
 obtain ⟨i0,hi,hz0,hz1,hz2⟩:=info_parts ZFZ
 have hnil:=fun w a n c=>Lib.run_eql_slice_nil (P:=Tryz.prog) w 22 5 a n c 0 0 Tryz.underlying22
 have hlen:=h.1
 cases a with
 |none=>
  obtain rfl:n=0:=by rcases h.2.2.2 with h | ⟨_,_,h,_⟩<;>first | exact h | cases h
  obtain rfl:l = []:=List.length_eq_zero_iff.1 hlen
  clear hi
  go_enter func23,ntmps23
  go_wp2
  go_ret
  exact ⟨_,rfl,World.ownsRow_nil _ _ _ _,Below.refl _ _⟩
 |some ad=>
  have hA:=(Below.refl _ w).alloc (Nat.le_refl _) (.cells #[] 5)
  have hr:=ZAk h hA rfl
  have ho:=ZBy w [] 5 0 rfl (by unfold maxLen;omega)
  have HR:=ZZY hr;have HL:=ZZY hlen
  clear h hr hlen
  go_enter func23,ntmps23
  go_wp2_with (first
   |(at_builtin;refine ZAr _ rfl _ _ 22 rfl w.heap.size 5 i0 (.int .u8 0) 1 1 Tryz.underlying22 hi hz0 hz1 hz2 rfl (by decide) (.slice (some ⟨w.heap.size,0,none⟩) 0 0) 0 [] rfl ho (some ad) n c (u8s l) rfl (ZCK HR.out) (by simp [u8s,Value.oneCell']) (by unfold maxLen;omega) (by omega) (by simp) ?_;intro v1 w1 hown1 hg1))
  go_ret
  exact ⟨_,rfl,ZBQ hown1 (by rw [HL.out];omega) rfl,hA.trans ((ZBX hg1 ho (by simp)))⟩
theorem ZQe {w:World} {base:Nat} {a:Option Addr} {n m c:Nat} {xs:List Value} (h:w.ownsRow base 5 1 (.slice a m c) n xs):U8 w a:=fun ad e=>by
 subst e
 rcases h.2 with ⟨h1,_⟩ | ⟨g,cap,cur,h1,_,hg,_⟩
 ·cases h1
 ·cases h1;exact ⟨_,_,hg⟩
theorem ZGq (a:Option Addr) (n c:Nat) (l:List Int) (w:World) (h:Row w .u8 a n c l) (hb:ZCh l) (hn:n≤1000000000) :
  Calls Tryz.prog 8 #[.slice a n c] w fun e w'=>∃ p,e=.returned (.pointer (some ⟨p,0,none⟩))∧w.heap.size≤p∧RD w' p (some l)∧Below w.heap.size w w':=by
 have hC:=ZMI a n c l w h hn
 have HB:=ZZY hb
 clear h hb
 go_enter func8,ntmps8
 go_wp2_with (first | (go_at_call 23;(with_reducible refine hC.mono ?_);rintro e w1 ⟨v1,rfl,ho1,hb1⟩;obtain ⟨a1,cap1,rfl,hr1⟩:=ZHd ho1 rfl;have hu1:=ZQe ho1))
 go_ret
 have hA:=(Below.refl _ w1).alloc (Nat.le_refl _) (.cells #[.slice a1 l.length cap1,.bool false] 58)
 exact ⟨_,rfl,hb1.size,⟨a1,cap1,World.alloc_heap_new w1 _,ZAk hr1 hA rfl,HB.out,ZHh hu1 hA⟩,hb1.trans (hA.mono hb1.size)⟩
open Go.RowKit Go.Shelf
def ZDg (B:Nat) (w:World) (v:PV) (x:Value):Prop:=∀ w',(∀ b,B≤b→b<w.heap.size→w'.heap[b]? = w.heap[b]?)→Is w' v x
theorem ZC8 {B:Nat} {w:World} {v:PV} {x:Value} (h:ZDg B w v x):Is w v x:=h w fun _ _ _=>rfl
theorem ZD8 {B B':Nat} {w:World} {v:PV} {x:Value} (h:ZDg B w v x) (hb:B'≤B):ZDg B' w v x:=fun w' h'=>h w' fun b h1 h2=>h' b (Nat.le_trans hb h1) h2
theorem ZBk {B:Nat} {w w1:World} {v:PV} {x:Value} (h:ZDg B w v x) (hs:w.heap.size≤w1.heap.size) (hb:∀ b,B≤b→b<w.heap.size→w1.heap[b]? = w.heap[b]?):ZDg B w1 v x:=
 fun w' h'=>h w' fun b h1 h2=>(h' b h1 (by omega)).trans (hb b h1 h2)
def small:PV→Prop
 | .mk _ _ s l=>s.size≤140737488355328∧l.length≤1000∧smallL l
where smallL:List PV→Prop
 | []=>True
 |x :: r=>small x∧smallL r
def VAt (W:World) (b:Nat) (cs:Array Value):Prop:=W.heap[b]? = some (.cells cs 49 (0,0))
theorem ZDO {W:World} {b:Nat} {cs:Array Value} (h:VAt W b cs):b<W.heap.size:=(ZZZ h).1
theorem ZBn {W:World} {b:Nat} {cs:Array Value} (h:VAt W b cs) (i:Nat) (c:Value) (hc:cs[i]? = some c):W.cell? ⟨b,i,none⟩=some c:=by
 simp [World.cell?,show W.heap[b]? = _ from h,hc]
theorem ZCO {W:World} {b:Nat} {cs:Array Value} (h:VAt W b cs) (i:Nat):W.frozen? ⟨b,i,none⟩=false:=by simp [World.frozen?,show W.heap[b]? = _ from h]
theorem ZA9 {W W':World} {b:Nat} {cs:Array Value} (hb:Below W.heap.size W W') (h:VAt W b cs):VAt W' b cs:=(hb.block b (ZDO h)).trans h
theorem ZBI (W:World) (cs:Array Value):VAt (W.alloc (.cells cs 49)) W.heap.size cs:=World.alloc_heap_new W _
theorem ZBl {W:World} {b:Nat} {cs:Array Value} (h:VAt W b cs) (i:Nat) (c:Value):VAt (W.setCell ⟨b,i,none⟩ c) b (cs.setIfInBounds i c):=by
 obtain ⟨hlt,hk⟩:=ZZZ h
 show (W.heap.modify b _)[b]? = _
 rw [Array.getElem?_eq_getElem (by rw [Array.size_modify];exact hlt),Array.getElem_modify_self,hk]
 rfl
theorem ZBA {W:World} {b b':Nat} {cs:Array Value} (h:VAt W b cs) (hne:b≠b') (i:Nat) (c:Value):VAt (W.setCell ⟨b',i,none⟩ c) b cs:=(Below.heap_setCell W ⟨b',i,none⟩ c b hne).trans h
theorem box4 {W:World} {b:Nat} {c0 c1 c2 c3:Value} (h:VAt W b #[c0,c1,c2,c3]):(W.cell? ⟨b,0,none⟩=some c0∧W.cell? ⟨b,1,none⟩=some c1∧W.cell? ⟨b,2,none⟩=some c2∧W.cell? ⟨b,3,none⟩=some c3) ∧
  (W.frozen? ⟨b,0,none⟩=false∧W.frozen? ⟨b,1,none⟩=false∧W.frozen? ⟨b,2,none⟩=false∧W.frozen? ⟨b,3,none⟩=false):=
 ⟨⟨ZBn h 0 _ rfl,ZBn h 1 _ rfl,ZBn h 2 _ rfl,ZBn h 3 _ rfl⟩,ZCO h 0,ZCO h 1,ZCO h 2,ZCO h 3⟩
theorem ZBJ {W:World} {b:Nat} {c0 c1 c2 c3:Value} (h:VAt W b #[c0,c1,c2,c3]) (d0 d1 d2 d3:Value) :
  VAt ((((W.setCell ⟨b,0,none⟩ d0).setCell ⟨b,1,none⟩ d1).setCell ⟨b,2,none⟩ d2).setCell ⟨b,3,none⟩ d3) b #[d0,d1,d2,d3]:=
 ZBl (ZBl (ZBl (ZBl h 0 d0) 1 d1) 2 d2) 3 d3
theorem ZMJ {B:Nat} {w W:World} (h:Below B w W) {b:Nat} (hb:B≤b) (i0 i1 i2 i3:Nat) (d0 d1 d2 d3:Value) :
  Below B w ((((W.setCell ⟨b,i0,none⟩ d0).setCell ⟨b,i1,none⟩ d1).setCell ⟨b,i2,none⟩ d2).setCell ⟨b,i3,none⟩ d3):=
 (((h.setCell (p:=⟨b,i0,none⟩) hb d0).setCell (p:=⟨b,i1,none⟩) hb d1).setCell (p:=⟨b,i2,none⟩) hb d2).setCell (p:=⟨b,i3,none⟩) hb d3
theorem ZI7 {W:World} {p:Addr} {c:Value} {b:Nat} {i0 i1 i2 i3:Nat} {d0 d1 d2 d3:Value} (h:W.cell? p=some c) (hne:p.block≠b) :
  ((((W.setCell ⟨b,i0,none⟩ d0).setCell ⟨b,i1,none⟩ d1).setCell ⟨b,i2,none⟩ d2).setCell ⟨b,i3,none⟩ d3).cell? p=some c:=by
 have h1:∀ (W:World) (i:Nat) (d:Value),(W.setCell ⟨b,i,none⟩ d).cell? p=W.cell? p:=fun W i d=>by
  simp only [World.cell?,Below.heap_setCell W ⟨b,i,none⟩ d p.block hne]
 rw [h1,h1,h1,h1,h]
abbrev vzero:Array Value:=#[.int .i64 0,.int .i64 0,.string ⟨#[]⟩,.slice none 0 0]
theorem ZHk:(Tryz.prog.info? 49).map (fun i=>(i.zero,i.size,i.bytes))=some (some (.agg vzero),4,56):=by kernel_rfl
