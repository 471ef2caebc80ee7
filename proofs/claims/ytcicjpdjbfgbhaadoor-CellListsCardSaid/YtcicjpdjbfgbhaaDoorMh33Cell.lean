/- Layer 14: whole$1 (recovers). -/
import Derived.Test.YtcicjpdjbfgbhaaDoorMh32Cell
import Derived.Defers
import Derived.Recover
set_option linter.unusedVariables false
namespace Go.Proofs.YtcicjpdjbfgbhaaDoor
open Go.RowKit Go.Shelf
set_option maxRecDepth 100000 in
set_option maxHeartbeats 4000000 in
theorem vwhole1_idle (p1 p2 p3 : Addr) (w : World) :
    CallsD Tryd.prog 77 #[.pointer (some p1), .pointer (some p2), .pointer (some p3)] .returning w fun e u' w' => (∃ v, e = .returned v) ∧ u' = .returning ∧ w' = w := by
  refine callsD_of_wpS Tryd.func77 rfl fun c₀ cs hu => ?_
  apply wpS_seq
  apply wpS_region
  simp [wpOpsS, go_sem, recoverD, hu, Tryd.ntmps77, Exit.thenS]
  refine wpS_of_wp ?_
  go_wp2
  cases c₀
  simp_all [bodyPostS, results, Tryd.results77]
theorem heapT_set (W : World) (b' i : Nat) (v : Value) (b : Nat) (h : b ≠ b') : (W.setCell ⟨b', i, none⟩ v).heap[b]? = W.heap[b]? := Below.heap_setCell W ⟨b', i, none⟩ v b h
theorem heapT_set4 (W : World) (g : Nat) (d0 d1 d2 d3 : Value) (b : Nat) (h : b ≠ g) : ((((W.setCell ⟨g, 0, none⟩ d0).setCell ⟨g, 1, none⟩ d1).setCell ⟨g, 2, none⟩ d2).setCell ⟨g, 3, none⟩ d3).heap[b]? = W.heap[b]? := by
  rw [heapT_set _ _ _ _ b h, heapT_set _ _ _ _ b h, heapT_set _ _ _ _ b h, heapT_set _ _ _ _ b h]
theorem vwhole1_fin {b1 b2 b3 : Nat} {x er : Int} {w W1 V : World} {c0 c1 c2 c3 : Value} (h1 : VAt w b1 #[c0, c1, c2, c3]) (h2 : Boxed w b2 3 (.int .i64 0)) (h3 : Boxed w b3 32 (.int .i64 0)) (h12 : b1 ≠ b2) (h13 : b1 ≠ b3) (h23 : b2 ≠ b3) (hB1 : Below w.heap.size w W1)
    (hV : V = ((((((W1.setCell ⟨b1, 0, none⟩ (.int .i64 0)).setCell ⟨b1, 1, none⟩ (.int .i64 0)).setCell ⟨b1, 2, none⟩ (.string ⟨#[]⟩)).setCell ⟨b1, 3, none⟩ (.slice none 0 0)).setCell ⟨b2, 0, none⟩ (.int .i64 x)).setCell ⟨b3, 0, none⟩ (.int .i64 er)).drew) :
    (∃ v, Ending.returned (.tuple #[]) = .returned v) ∧ FrameMode.panicking [{ v := .iface 119 (.agg #[.int .i64 x, .int .i64 er]), recovered := true }] = .panicking [{ v := .iface 119 (.agg #[.int .i64 x, .int .i64 er]), recovered := true }] ∧
      VAt V b1 vzero ∧ Boxed V b2 3 (.int .i64 x) ∧ Boxed V b3 32 (.int .i64 er) ∧ (∀ B, B ≤ b1 → B ≤ b2 → B ≤ b3 → B ≤ w.heap.size → Below B w V) := by
  have k1 := heapT_set4 W1 b1 (.int .i64 0) (.int .i64 0) (.string ⟨#[]⟩) (.slice none 0 0)
  have z1 := vat_set4 (vat_below hB1 h1) (.int .i64 0) (.int .i64 0) (.string ⟨#[]⟩) (.slice none 0 0)
  have hb9 : ∀ B, B ≤ b1 → B ≤ b2 → B ≤ b3 → B ≤ w.heap.size → Below B w V := fun B q1 q2 q3 q4 => by
    rw [hV]
    exact (((below_set4 (hB1.mono q4) q1 0 1 2 3 (.int .i64 0) (.int .i64 0) (.string ⟨#[]⟩) (.slice none 0 0)).setCell (p := ⟨b2, 0, none⟩) q2 (.int .i64 x)).setCell (p := ⟨b3, 0, none⟩) q3 (.int .i64 er)).drew
  obtain ⟨A, hA⟩ : ∃ A, (((W1.setCell ⟨b1, 0, none⟩ (.int .i64 0)).setCell ⟨b1, 1, none⟩ (.int .i64 0)).setCell ⟨b1, 2, none⟩ (.string ⟨#[]⟩)).setCell ⟨b1, 3, none⟩ (.slice none 0 0) = A := ⟨_, rfl⟩
  rw [hA] at k1 z1 hV
  have h2' : Boxed A b2 _ _ := (k1 b2 (fun e => h12 e.symm)).trans ((hB1.block _ h2.lt).trans h2)
  have h3' : Boxed A b3 _ _ := (k1 b3 (fun e => h13 e.symm)).trans ((hB1.block _ h3.lt).trans h3)
  have e : V.heap = ((A.setCell ⟨b2, 0, none⟩ (.int .i64 x)).setCell ⟨b3, 0, none⟩ (.int .i64 er)).heap := by rw [hV]; rfl
  have y1 := vat_other (vat_other z1 h12 0 (.int .i64 x)) h13 0 (.int .i64 er)
  have y2 : Boxed ((A.setCell ⟨b2, 0, none⟩ (.int .i64 x)).setCell ⟨b3, 0, none⟩ (.int .i64 er)) b2 3 (.int .i64 x) := (heapT_set _ _ _ _ b2 h23).trans (Boxed.set (.int .i64 x) h2')
  have y3 : Boxed ((A.setCell ⟨b2, 0, none⟩ (.int .i64 x)).setCell ⟨b3, 0, none⟩ (.int .i64 er)) b3 32 (.int .i64 er) := Boxed.set (.int .i64 er) (show Boxed (A.setCell ⟨b2, 0, none⟩ (.int .i64 x)) b3 _ _ from (heapT_set _ _ _ _ b3 (fun e => h23 e.symm)).trans h3')
  unfold VAt at y1 ⊢
  unfold Boxed at y2 y3 ⊢
  rw [e]
  exact ⟨⟨_, rfl⟩, rfl, y1, y2, y3, fun B q1 q2 q3 q4 => hb9 B q1 q2 q3 q4⟩
theorem vwhole1_end {c₀ : Frame} {cs : List Frame} {R : Ending → FrameMode → World → Prop} {u' : FrameMode} {tmps : Array Value} {F W : World} (h : R (.returned (.tuple #[])) u' F) (hF : W = F) :
    Exit.inBlock 0 (fun e a' w' => bodyPostS Tryd.prog Tryd.f77 c₀ cs R e a' ({ c₀ with mode := u' } :: cs) w') Exit.normal { tmps := tmps, defers := [] } W :=
  hF ▸ ⟨rfl, u', rfl, _, results_none rfl _ _ _, h⟩
set_option maxRecDepth 100000 in
set_option maxHeartbeats 4000000 in
theorem vwhole1_wrong (b1 b2 b3 : Nat) (x er : Int) (w : World) (c0 c1 c2 c3 : Value) (h1 : VAt w b1 #[c0, c1, c2, c3]) (h2 : Boxed w b2 3 (.int .i64 0)) (h3 : Boxed w b3 32 (.int .i64 0)) (h12 : b1 ≠ b2) (h13 : b1 ≠ b3) (h23 : b2 ≠ b3) :
    CallsD Tryd.prog 77 #[.pointer (some ⟨b1, 0, none⟩), .pointer (some ⟨b2, 0, none⟩), .pointer (some ⟨b3, 0, none⟩)] (.panicking (wrongT x er)) w fun e u' w' => (∃ v, e = .returned v) ∧ u' = .panicking [{ v := .iface 119 (.agg #[.int .i64 x, .int .i64 er]), recovered := true }] ∧
      VAt w' b1 vzero ∧ Boxed w' b2 3 (.int .i64 x) ∧ Boxed w' b3 32 (.int .i64 er) ∧ (∀ B, B ≤ b1 → B ≤ b2 → B ≤ b3 → B ≤ w.heap.size → Below B w w') := by
  have hta : ∀ (v : Value) (w : World), (Instr.typeAssert (.iface 119 v) 20 119 true).run Tryd.prog w = .ok (.tuple #[v, .bool true]) w := fun v w => by kernel_rfl
  unfold wrongT
  refine callsD_of_wpS Tryd.func77 rfl fun c₀ cs hu => ?_
  apply wpS_seq
  apply wpS_region
  simp [wpOpsS, go_sem, recoverD, hu, Tryd.ntmps77, Exit.thenS]
  refine wpS_of_wp ?_
  have hfr : (#[Value.pointer (some ⟨b1, 0, none⟩), .pointer (some ⟨b2, 0, none⟩), .pointer (some ⟨b3, 0, none⟩)] ++ (Array.replicate 14 undef).setIfInBounds 3 (Value.iface 119 (.agg #[.int .i64 x, .int .i64 er]))) =
    #[.pointer (some ⟨b1, 0, none⟩), .pointer (some ⟨b2, 0, none⟩), .pointer (some ⟨b3, 0, none⟩), undef, undef, undef, .iface 119 (.agg #[.int .i64 x, .int .i64 er]), undef, undef, undef, undef, undef, undef, undef, undef, undef, undef] := rfl
  rw [hfr]
  go_wp2
  obtain ⟨W1, hW1⟩ : ∃ W1, w.alloc (.cells #[.int .i64 x, .int .i64 er] 119) = W1 := ⟨_, rfl⟩
  have hB1 := (Below.refl _ w).alloc (Nat.le_refl _) (.cells #[.int .i64 x, .int .i64 er] 119)
  have e0 : W1.cell? ⟨w.heap.size, 0, none⟩ = some (.int .i64 x) := by rw [← hW1]; simp
  have e1 : W1.cell? ⟨w.heap.size, 1, none⟩ = some (.int .i64 er) := by rw [← hW1]; simp
  rw [hW1] at hB1 ⊢
  clear hW1
  obtain ⟨⟨t0, t1, t2, t3⟩, f0, f1, f2, f3⟩ := box4 (vat_below hB1 h1)
  have h2' : Boxed W1 b2 _ _ := (hB1.block _ h2.lt).trans h2
  have h3' : Boxed W1 b3 _ _ := (hB1.block _ h3.lt).trans h3
  have u0 := h2'.cell
  have u1 := h2'.frozen
  have v0 := h3'.cell
  have v1 := h3'.frozen
  have n1 : w.heap.size ≠ b1 := by have := vat_lt h1; omega
  have n2 : w.heap.size ≠ b2 := by have := h2.lt; omega
  have n3 : w.heap.size ≠ b3 := by have := h3.lt; omega
  obtain ⟨b4, hb4⟩ : ∃ b4, w.heap.size = b4 := ⟨_, rfl⟩
  rw [hb4] at e0 e1 n1 n2 n3 ⊢
  go_region
  refine vwhole1_end (c₀ := c₀) (vwhole1_fin h1 h2 h3 h12 h13 h23 hB1 rfl) rfl
end Go.Proofs.YtcicjpdjbfgbhaaDoor
