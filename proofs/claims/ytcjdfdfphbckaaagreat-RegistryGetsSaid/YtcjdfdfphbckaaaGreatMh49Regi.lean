/- Registries that are read: the document's Get. -/
import Derived.Test.YtcjdfdfphbckaaaGreatMh47Regi
set_option linter.unusedVariables false
set_option linter.unusedSimpArgs false
set_option maxRecDepth 100000
set_option maxHeartbeats 64000000
open Go.Proofs.Tryz
namespace Go.Proofs.YtcjdfdfphbckaaaGreat
open Go.RowKit Go.Shelf
def Rg.gGet (l:List Int):Option (List TemplM):=if Bn.done (Rg.gReg (some l)).2=true then Rg.gRead (some l) else none
def ZF1 (w:World) (l:List Int) (e:Ending) (w':World):Prop:=∃ (a:Option Addr) (n c:Nat),e=.returned (.tuple #[.slice a n c,.bool (Rg.gGet l).isSome])∧(Rg.gGet l=none→a=none∧n=0) ∧
 (∀ ys,Rg.gGet l=some ys→n=ys.length∧∀ W':World,(∀ b,w.heap.size≤b→b<w'.heap.size→W'.heap[b]? = w'.heap[b]?)→ZAw W' a c ys)∧Below w.heap.size w w'
theorem ZQc {w:World} {a:Option Addr} {n c:Nat} {l:List Int} (hr:Row w .u8 a n c l) (hb:ZCh l) (hn:n≤1000000) :
  RT ⟨w,a,n,c,l,hr,hb,hn⟩ (w.alloc (.cells #[.slice a n c,.int .i64 0,.bool false] 32)) w.heap.size (some l):=
 ⟨Nat.le_refl _,(Below.refl _ w).alloc (Nat.le_refl _) _,0,Nat.zero_le _,World.alloc_heap_new w _,fun x hx=>by cases hx;rfl⟩
theorem ZF2 {w W V:World} {p:Nat} (h:Below w.heap.size w W) (k:W.grownBy V (some p)) (hp:w.heap.size≤p):Below w.heap.size w V:=by
 obtain ⟨a1,a2,a3,a4,a5⟩:=h
 obtain ⟨b1,b2,b3,b4,b5⟩:=k
 exact ⟨b1.trans a1,b2.trans a2,b3.trans a3,Nat.le_trans a4 b4,fun j hj=>(b5 j (by omega) (fun e=>by injection e with e;omega)).trans (a5 j hj)⟩
theorem ZI1 (hRead:∀ (S:Src) (p:Nat) (s:Bn.St) (w:World),RT S w p s→Calls Tryz.prog 10 #[.pointer (some ⟨p,0,none⟩)] w (ZEI S p w s))
  (a:Option Addr) (n c:Nat) (l:List Int) (w:World) (hr:Row w .u8 a n c l) (hb:ZCh l) (hn:n≤1000000):Calls Tryz.prog 6 #[.slice a n c] w (ZF1 w l):=by
 have hR0:=ZQc hr hb hn
 have hRd:=hRead _ _ _ _ hR0
 have hA1:=(Below.refl _ w).alloc (Nat.le_refl _) (.cells #[.slice a n c,.int .i64 0,.bool false] 32)
 unfold ZEI at hRd
 have hDn:=fun V s (h:RT ⟨w,a,n,c,l,hr,hb,hn⟩ V w.heap.size s)=>ZL8 _ w.heap.size s V h
 clear hRead hR0
 cases hG:Rg.gRead (some l) with
 |none=>
  have hg:Rg.gGet l=none:=by unfold Rg.gGet;rw [hG];split<;>rfl
  rw [hG] at hRd
  have HRD:=ZZY hRd
  clear hRd
  go_enter func6,ntmps6
  go_wp2_with (go_at_call 10;(with_reducible refine HRD.out.mono ?_);rintro e w2 ⟨ra,rl,rc,rfl,hno,hys,hR2,hg2⟩)
  refine bodyPost_ret (results_tmp2 rfl _ _ _) rfl ?_
  unfold ZF1
  rw [hg]
  exact ⟨none,0,0,rfl,fun _=>⟨rfl,rfl⟩,fun ys h=>(by cases h),ZF2 hA1 hg2 (Nat.le_refl _)⟩
 |some ys=>
  rw [hG] at hRd
  obtain ⟨st,hst⟩:∃ st,(Rg.gReg (some l)).2=st:=⟨_,rfl⟩
  rw [hst] at hRd
  have HRD:=ZZY hRd
  have hDn2:=fun V h=>hDn V st h
  cases hd:Bn.done st with
  |false=>
   have hg:Rg.gGet l=none:=by unfold Rg.gGet;rw [hst,hd];rfl
   rw [hd] at hDn2
   have HD:=ZZY hDn2
   clear hRd hDn hDn2
   go_enter func6,ntmps6
   go_wp2_with (first
    |(go_at_call 10;(with_reducible refine HRD.out.mono ?_);rintro e w2 ⟨ra,rl,rc,rfl,hno,hys,hR2,hg2⟩)
    |(go_at_call 20;(with_reducible refine (HD.out _ hR2).mono ?_);rintro e w3 ⟨rfl,k3,rfl⟩))
   refine bodyPost_ret (results_tmp2 rfl _ _ _) rfl ?_
   unfold ZF1
   rw [hg]
   exact ⟨none,0,0,rfl,fun _=>⟨rfl,rfl⟩,fun ys h=>(by cases h),ZAh (ZF2 hA1 hg2 (Nat.le_refl _)) k3⟩
  |true=>
   have hg:Rg.gGet l=some ys:=by unfold Rg.gGet;rw [hst,hd,hG];rfl
   rw [hd] at hDn2
   have HD:=ZZY hDn2
   clear hRd hDn hDn2
   go_enter func6,ntmps6
   go_wp2_with (first
    |(go_at_call 10;(with_reducible refine HRD.out.mono ?_);rintro e w2 ⟨ra,rl,rc,rfl,hno,hys,hR2,hg2⟩)
    |(go_at_call 20;(with_reducible refine (HD.out _ hR2).mono ?_);rintro e w3 ⟨rfl,k3,rfl⟩))
   refine bodyPost_ret (results_tmp2 rfl _ _ _) rfl ?_
   obtain ⟨h1,h2⟩:=hys ys rfl
   unfold ZF1
   rw [hg]
   exact ⟨ra,ys.length,rc,rfl,fun h=>(by cases h),fun zs h=>(by
    cases h
    exact ⟨rfl,fun W' hW=>h2 W' (fun b b1 b2=>hW b (by rw [World.size_alloc] at b1;omega) b2)⟩),ZAh (ZF2 hA1 hg2 (Nat.le_refl _)) k3⟩
