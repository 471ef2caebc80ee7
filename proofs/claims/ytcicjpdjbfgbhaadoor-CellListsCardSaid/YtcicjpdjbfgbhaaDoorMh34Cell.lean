/- Layer 14: whole. -/
import Derived.Test.YtcicjpdjbfgbhaaDoorMh33Cell
set_option linter.unusedVariables false
set_option linter.unusedSimpArgs false
namespace Go.Proofs.YtcicjpdjbfgbhaaDoor
open Go.RowKit Go.Shelf
attribute [local go_sem] Oper.semAt_some
theorem grownV_belowB {w W V : World} {row : Option Nat} (h : w.grownBy W row) (k : Below w.heap.size W V) : w.grownBy V row := by
  obtain ⟨a1, a2, a3, a4, a5⟩ := h
  obtain ⟨b1, b2, b3, b4, b5⟩ := k
  exact ⟨b1.trans a1, b2.trans a2, b3.trans a3, Nat.le_trans a4 b4, fun j hj hne => (b5 j hj).trans (a5 j hj hne)⟩
theorem vloadInt (w : World) (b : Nat) (v : Value) (h : w.cell? ⟨b, 0, none⟩ = some v) : (loadVar 3 ⟨b, 0, none⟩).run Tryd.prog w = .ok v w := by
  simp [loadVar, isAgg, Sem.run_bind, run_underlying Tryd.underlying3, go_sem, h]
theorem vloadErrno (w : World) (b : Nat) (v : Value) (h : w.cell? ⟨b, 0, none⟩ = some v) : (loadVar 32 ⟨b, 0, none⟩).run Tryd.prog w = .ok v w := by
  simp [loadVar, isAgg, Sem.run_bind, run_underlying Tryd.underlying32, go_sem, h]
theorem vresults3 {tmps : Array Value} {w : World} {b1 b2 b3 : Nat} {x er : Int} {c0 c1 c2 c3 : Value} (h1 : tmps[2]?.getD undef = .pointer (some ⟨b1, 0, none⟩)) (h2 : tmps[3]?.getD undef = .pointer (some ⟨b2, 0, none⟩)) (h3 : tmps[4]?.getD undef = .pointer (some ⟨b3, 0, none⟩))
    (hj : VAt w b1 #[c0, c1, c2, c3]) (hb2 : Boxed w b2 3 (.int .i64 x)) (hb3 : Boxed w b3 32 (.int .i64 er)) :
    (results Tryd.f74 tmps).run Tryd.prog w = .ok (.tuple #[.agg #[c0, c1, c2, c3], .int .i64 x, .int .i64 er]) w := by
  have e1 := run_loadVar_row (P := Tryd.prog) w b1 24 24 #[c0, c1, c2, c3] (0, 0) _ hj Tryd.underlying24 rfl val4
  simp [results, Tryd.results74, h1, h2, h3, asAddr, e1, vloadInt w b2 _ hb2.cell, vloadErrno w b3 _ hb3.cell, Result.andThen]
/-- the three results' variables -/
theorem whole_vars (W : World) : Below W.heap.size W (((W.alloc (.cells vzero 24)).alloc (.cells #[.int .i64 0] 3)).alloc (.cells #[.int .i64 0] 32)) ∧
    VAt (((W.alloc (.cells vzero 24)).alloc (.cells #[.int .i64 0] 3)).alloc (.cells #[.int .i64 0] 32)) W.heap.size vzero ∧
    Boxed (((W.alloc (.cells vzero 24)).alloc (.cells #[.int .i64 0] 3)).alloc (.cells #[.int .i64 0] 32)) (W.heap.size + 1) 3 (.int .i64 0) ∧
    Boxed (((W.alloc (.cells vzero 24)).alloc (.cells #[.int .i64 0] 3)).alloc (.cells #[.int .i64 0] 32)) (W.heap.size + 1 + 1) 32 (.int .i64 0) := by
  have hA1 := (Below.refl _ W).alloc (Nat.le_refl _) (.cells vzero 24)
  have hA2 := hA1.alloc hA1.size (.cells #[.int .i64 0] 3)
  have hA3 := hA2.alloc hA2.size (.cells #[.int .i64 0] 32)
  refine ⟨hA3, vat_below ((Below.refl _ _).alloc (Nat.le_refl _) _) (vat_below ((Below.refl _ _).alloc (Nat.le_refl _) _) (vat_alloc W vzero)), ?_, ?_⟩
  · have := (Boxed.new (W.alloc (.cells vzero 24)) 3 (.int .i64 0)).alloc (.cells #[.int .i64 0] 32)
    rwa [World.size_alloc] at this
  · have := Boxed.new ((W.alloc (.cells vzero 24)).alloc (.cells #[.int .i64 0] 3)) 32 (.int .i64 0)
    rwa [World.size_alloc, World.size_alloc] at this
set_option maxRecDepth 100000 in
set_option maxHeartbeats 4000000 in
theorem vwhole_bad (s : ByteArray) (p q : Nat) (W : World) (hr : RV W p s q 0 0) (a : Nat) (er : Int)
    (hV : ∀ V, RV V p s q 0 0 → Calls Tryd.prog 78 #[.pointer (some ⟨p, 0, none⟩)] V (VtR p s 0 1 V (.inl (a, er)))) :
    Calls Tryd.prog 74 #[.pointer (some ⟨p, 0, none⟩)] W fun e w' => e = .returned (.tuple #[.agg vzero, .int .i64 a, .int .i64 er]) ∧ W.grownBy w' (some p) := by
  have hmf : ∀ (fn : Fn) (first cap : Array Value) (w : World), (Instr.makeFunc fn first cap).run Tryd.prog w = .ok (.func fn first cap) w := fun _ _ _ _ => rfl
  have hpW := rv_lt hr
  obtain ⟨hA3, hz1, hz2, hz3⟩ := whole_vars W
  have hr3 := rv_below hr hA3
  have hV' := vtR_l (hV _ hr3)
  obtain ⟨⟨c0, c1, c2, c3⟩, f1, f2, f3⟩ := rv_cells hr3
  go_enter_defers Tryd.func74, Tryd.ntmps74
  go_wp2_with (go_at_call 78; (with_reducible refine hV'.mono ?_); rintro e w2 ⟨rfl, hg2⟩)
  have z1 : VAt w2 W.heap.size vzero := (hg2.block _ (vat_lt hz1) (fun e => by cases e; omega)).trans hz1
  have z2 : Boxed w2 (W.heap.size + 1) _ _ := (hg2.block _ hz2.lt (fun e => by cases e; omega)).trans hz2
  have z3 : Boxed w2 (W.heap.size + 1 + 1) _ _ := (hg2.block _ hz3.lt (fun e => by cases e; omega)).trans hz3
  have hW2 : W.grownBy w2 (some p) := grownV_two (grownV_of_below hA3 (some p)) hg2
  refine leaves_cons (f := 77) (args := #[.pointer (some ⟨W.heap.size, 0, none⟩), .pointer (some ⟨W.heap.size + 1, 0, none⟩), .pointer (some ⟨W.heap.size + 1 + 1, 0, none⟩)]) (by simp) (by simp [go_sem]) ?_
  refine (vwhole1_wrong _ _ _ a er w2 _ _ _ _ z1 z2 z3 (by omega) (by omega) (by omega)).mono ?_
  rintro e u' w3 ⟨⟨v, rfl⟩, rfl, hj, hb2, hb3, hBel⟩
  exact ⟨_, vresults3 (tmps := _) rfl rfl rfl hj hb2 hb3, rfl, grownV_belowB hW2 (hBel W.heap.size (by omega) (by omega) (by omega) hW2.size)⟩
/-- what value leaves, the result's variable set -/
theorem whole_set {W w2 : World} {p : Nat} {v : PV} {d0 d1 : Int} {d2 : ByteArray} {a9 : Option Addr} {len9 cap9 : Nat} {s : ByteArray} {q2 n : Nat} (hpW : p < W.heap.size)
    (hg2 : (((W.alloc (.cells vzero 24)).alloc (.cells #[.int .i64 0] 3)).alloc (.cells #[.int .i64 0] 32)).grownBy w2 (some p)) (hr2 : RV w2 p s q2 0 n)
    (hF : Fresh (((W.alloc (.cells vzero 24)).alloc (.cells #[.int .i64 0] 3)).alloc (.cells #[.int .i64 0] 32)).heap.size w2 v (.agg #[.int .i64 d0, .int .i64 d1, .string d2, .slice a9 len9 cap9]))
    (w3 : World) (hw3 : w3 = (((w2.setCell ⟨W.heap.size, 0, none⟩ (.int .i64 d0)).setCell ⟨W.heap.size, 1, none⟩ (.int .i64 d1)).setCell ⟨W.heap.size, 2, none⟩ (.string d2)).setCell ⟨W.heap.size, 3, none⟩ (.slice a9 len9 cap9)) :
    VAt w3 W.heap.size #[.int .i64 d0, .int .i64 d1, .string d2, .slice a9 len9 cap9] ∧ Boxed w3 (W.heap.size + 1) 3 (.int .i64 0) ∧ Boxed w3 (W.heap.size + 1 + 1) 32 (.int .i64 0) ∧ RV w3 p s q2 0 n ∧ W.grownBy w3 (some p) ∧ Fresh (W.heap.size + 3) w3 v (.agg #[.int .i64 d0, .int .i64 d1, .string d2, .slice a9 len9 cap9]) := by
  obtain ⟨hA3, hz1, hz2, hz3⟩ := whole_vars W
  have z1 : VAt w2 W.heap.size vzero := (hg2.block _ (vat_lt hz1) (fun e => by cases e; omega)).trans hz1
  have z2 : Boxed w2 (W.heap.size + 1) _ _ := (hg2.block _ hz2.lt (fun e => by cases e; omega)).trans hz2
  have z3 : Boxed w2 (W.heap.size + 1 + 1) _ _ := (hg2.block _ hz3.lt (fun e => by cases e; omega)).trans hz3
  have hk : ∀ b, b ≠ W.heap.size → w3.heap[b]? = w2.heap[b]? := fun b hb => by rw [hw3]; exact heapT_set4 _ _ _ _ _ _ b hb
  have hs : w3.heap.size = w2.heap.size := by rw [hw3]; simp
  refine ⟨by rw [hw3]; exact vat_set4 z1 _ _ _ _, (hk _ (by omega)).trans z2, (hk _ (by omega)).trans z3, (hk _ (by omega)).trans hr2, ?_, ?_⟩
  · rw [hw3]; exact grown_new4 (grownV_two (grownV_of_below hA3 (some p)) hg2) (Nat.le_refl _) _ _ _ _ _ _ _ _
  · refine fresh_later (fresh_mono hF (by simp)) (by omega) (fun b b1 _ => hk b (by omega))
set_option maxRecDepth 100000 in
set_option maxHeartbeats 4000000 in
theorem vwhole_long (s : ByteArray) (p q : Nat) (hsm : s.size ≤ 1000000) (hq : q ≤ s.size) (W : World) (hr : RV W p s q 0 0) (v : PV) (q2 : Nat) (hq2 : szV v ≤ s.size) (hR : rightV v = false)
    (hV : ∀ V, RV V p s q 0 0 → Calls Tryd.prog 78 #[.pointer (some ⟨p, 0, none⟩)] V (VtR p s 0 1 V (.inr (v, q2)))) :
    Calls Tryd.prog 74 #[.pointer (some ⟨p, 0, none⟩)] W fun e w' => e = .returned (.tuple #[.agg vzero, .int .i64 q, .int .i64 4]) ∧ W.grownBy w' (some p) := by
  have hmf : ∀ (fn : Fn) (first cap : Array Value) (w : World), (Instr.makeFunc fn first cap).run Tryd.prog w = .ok (.func fn first cap) w := fun _ _ _ _ => rfl
  have hpW := rv_lt hr
  obtain ⟨hA3, hz1, hz2, hz3⟩ := whole_vars W
  have hr3 := rv_below hr hA3
  have hV' := vtR_r (hV _ hr3)
  obtain ⟨⟨c0, c1, c2, c3⟩, f1, f2, f3⟩ := rv_cells hr3
  rw [show 1 + szV v - 1 = szV v by omega] at hV'
  by_cases h100 : szV v ≤ 100
  · have e1 : decide ((100 : Int) < (szV v : Int)) = false := by simp; omega
    go_enter_defers Tryd.func74, Tryd.ntmps74
    go_wp2_with (first
      | (go_at_call 78; (with_reducible refine hV'.mono ?_); rintro e w2 ⟨⟨v', d0, d1, d2, a9, len9, cap9, rfl, hF9, hv9⟩, hr4, hg2⟩; obtain ⟨⟨y0, y1, y2, y3⟩, x0, x1, x2, x3⟩ := box4 (show VAt w2 W.heap.size vzero from (hg2.block _ (vat_lt hz1) (fun e => by cases e; omega)).trans hz1); obtain rfl := hv9 (by omega); obtain ⟨z1, z2, z3, z4, z5, z6⟩ := whole_set hpW hg2 hr4 hF9 _ rfl; obtain ⟨⟨m0, m1, m2, m3⟩, _⟩ := rv_cells z4; obtain ⟨⟨n0, n1, n2, n3⟩, _⟩ := box4 z1)
      | (go_at_call 6; (with_reducible refine (right_any _ (by omega) _ _ (fresh_is z6)).mono ?_); rw [hR]; rintro e w4 ⟨rfl, hB4⟩))
    have y1 := vat_below hB4 z1
    have y2 : Boxed w4 (W.heap.size + 1) 3 _ := (hB4.block _ z2.lt).trans z2
    have y3 : Boxed w4 (W.heap.size + 1 + 1) 32 _ := (hB4.block _ z3.lt).trans z3
    have hW4 : W.grownBy w4 (some p) := grownV_two z5 (grownV_of_below hB4 _)
    refine leaves_cons (f := 77) (args := #[.pointer (some ⟨W.heap.size, 0, none⟩), .pointer (some ⟨W.heap.size + 1, 0, none⟩), .pointer (some ⟨W.heap.size + 1 + 1, 0, none⟩)]) (by simp) (by simp [go_sem]) ?_
    refine (vwhole1_wrong _ _ _ (q : Int) 4 w4 _ _ _ _ y1 y2 y3 (by omega) (by omega) (by omega)).mono ?_
    rintro e u' w5 ⟨⟨v, rfl⟩, rfl, hj, hb2, hb3, hBel⟩
    exact ⟨_, vresults3 (tmps := _) rfl rfl rfl hj hb2 hb3, rfl, grownV_belowB hW4 (hBel W.heap.size (by omega) (by omega) (by omega) hW4.size)⟩
  · have e1 : decide ((100 : Int) < (szV v : Int)) = true := by simp; omega
    go_enter_defers Tryd.func74, Tryd.ntmps74
    go_wp2_with (first
      | (go_at_call 78; (with_reducible refine hV'.mono ?_); rintro e w2 ⟨⟨v', d0, d1, d2, a9, len9, cap9, rfl, hF9, hv9⟩, hr4, hg2⟩; obtain ⟨⟨y0, y1, y2, y3⟩, x0, x1, x2, x3⟩ := box4 (show VAt w2 W.heap.size vzero from (hg2.block _ (vat_lt hz1) (fun e => by cases e; omega)).trans hz1); obtain ⟨z1, z2, z3, z4, z5, z6⟩ := whole_set hpW hg2 hr4 hF9 _ rfl; obtain ⟨⟨m0, m1, m2, m3⟩, _⟩ := rv_cells z4; obtain ⟨⟨n0, n1, n2, n3⟩, _⟩ := box4 z1))
    refine leaves_cons (f := 77) (args := #[.pointer (some ⟨W.heap.size, 0, none⟩), .pointer (some ⟨W.heap.size + 1, 0, none⟩), .pointer (some ⟨W.heap.size + 1 + 1, 0, none⟩)]) (by simp) (by simp [go_sem]) ?_
    refine (vwhole1_wrong _ _ _ (q : Int) 4 _ _ _ _ _ z1 z2 z3 (by omega) (by omega) (by omega)).mono ?_
    rintro e u' w5 ⟨⟨v, rfl⟩, rfl, hj, hb2, hb3, hBel⟩
    exact ⟨_, vresults3 (tmps := _) rfl rfl rfl hj hb2 hb3, rfl, grownV_belowB z5 (hBel W.heap.size (by omega) (by omega) (by omega) z5.size)⟩
theorem whole_fin {W w4 F : World} {p q2 : Nat} {v : PV} {d0 d1 : Int} {d2 : ByteArray} {a9 : Option Addr} {len9 cap9 : Nat} (hg : W.grownBy w4 (some p)) (hpW : p < W.heap.size)
    (z1 : VAt w4 W.heap.size #[.int .i64 d0, .int .i64 d1, .string d2, .slice a9 len9 cap9]) (z2 : Boxed w4 (W.heap.size + 1) 3 (.int .i64 0)) (z3 : Boxed w4 (W.heap.size + 1 + 1) 32 (.int .i64 0)) (z6 : Fresh (W.heap.size + 3) w4 v (.agg #[.int .i64 d0, .int .i64 d1, .string d2, .slice a9 len9 cap9]))
    (hF : F = ((((((w4.setCell ⟨W.heap.size, 0, none⟩ (.int .i64 d0)).setCell ⟨W.heap.size, 1, none⟩ (.int .i64 d1)).setCell ⟨W.heap.size, 2, none⟩ (.string d2)).setCell ⟨W.heap.size, 3, none⟩ (.slice a9 len9 cap9)).setCell ⟨W.heap.size + 1, 0, none⟩ (.int .i64 (q2 : Int))).setCell ⟨W.heap.size + 1 + 1, 0, none⟩ (.int .i64 0)).drew) :
    VAt F W.heap.size #[.int .i64 d0, .int .i64 d1, .string d2, .slice a9 len9 cap9] ∧ Boxed F (W.heap.size + 1) 3 (.int .i64 (q2 : Int)) ∧ Boxed F (W.heap.size + 1 + 1) 32 (.int .i64 0) ∧ Fresh W.heap.size F v (.agg #[.int .i64 d0, .int .i64 d1, .string d2, .slice a9 len9 cap9]) ∧ W.grownBy F (some p) := by
  subst hF
  have k1 := vat_set4 z1 (.int .i64 d0) (.int .i64 d1) (.string d2) (.slice a9 len9 cap9)
  obtain ⟨A, hA⟩ : ∃ A, (((w4.setCell ⟨W.heap.size, 0, none⟩ (.int .i64 d0)).setCell ⟨W.heap.size, 1, none⟩ (.int .i64 d1)).setCell ⟨W.heap.size, 2, none⟩ (.string d2)).setCell ⟨W.heap.size, 3, none⟩ (.slice a9 len9 cap9) = A := ⟨_, rfl⟩
  have hk : ∀ b, b ≠ W.heap.size → A.heap[b]? = w4.heap[b]? := fun b hb => by rw [← hA]; exact heapT_set4 _ _ _ _ _ _ b hb
  have hgA : W.grownBy A (some p) := by rw [← hA]; exact grown_new4 hg (Nat.le_refl _) _ _ _ _ _ _ _ _
  have hsA : A.heap.size = w4.heap.size := by rw [← hA]; simp
  rw [hA] at k1 ⊢
  clear hA
  have h2 : Boxed A (W.heap.size + 1) 3 (.int .i64 0) := (hk _ (by omega)).trans z2
  have h3 : Boxed A (W.heap.size + 1 + 1) 32 (.int .i64 0) := (hk _ (by omega)).trans z3
  refine ⟨vat_other (vat_other k1 (by omega) 0 _) (by omega) 0 _, (heapT_set _ _ _ _ _ (by omega)).trans (Boxed.set (.int .i64 (q2 : Int)) h2), Boxed.set (.int .i64 0) (show Boxed (A.setCell ⟨W.heap.size + 1, 0, none⟩ (.int .i64 (q2 : Int))) _ _ _ from (heapT_set _ _ _ _ _ (by omega)).trans h3), ?_, ?_⟩
  · refine fresh_mono (fresh_later z6 (by show w4.heap.size ≤ _; simp; omega) (fun b b1 _ => ?_)) (show W.heap.size ≤ W.heap.size + 3 by omega)
    exact (heapT_set _ _ _ _ b (by omega)).trans ((heapT_set _ _ _ _ b (by omega)).trans (hk b (by omega)))
  · exact grownV_two (grown_new (grown_new hgA (show W.heap.size ≤ W.heap.size + 1 by omega) 0 _) (show W.heap.size ≤ W.heap.size + 1 + 1 by omega) 0 _) (grownV_drew _ 1 _)
set_option maxRecDepth 100000 in
set_option maxHeartbeats 4000000 in
theorem vwhole_good (s : ByteArray) (p q : Nat) (hsm : s.size ≤ 1000000) (hq : q ≤ s.size) (W : World) (hr : RV W p s q 0 0) (v : PV) (q2 : Nat) (hq2 : szV v ≤ s.size) (hR : rightV v = true)
    (hV : ∀ V, RV V p s q 0 0 → Calls Tryd.prog 78 #[.pointer (some ⟨p, 0, none⟩)] V (VtR p s 0 1 V (.inr (v, q2)))) :
    Calls Tryd.prog 74 #[.pointer (some ⟨p, 0, none⟩)] W fun e w' => (∃ d0 d1 d2 a9 len9 cap9, e = .returned (.tuple #[.agg #[.int .i64 d0, .int .i64 d1, .string d2, .slice a9 len9 cap9], .int .i64 q2, .int .i64 0]) ∧ Fresh W.heap.size w' v (.agg #[.int .i64 d0, .int .i64 d1, .string d2, .slice a9 len9 cap9])) ∧ W.grownBy w' (some p) := by
  have hmf : ∀ (fn : Fn) (first cap : Array Value) (w : World), (Instr.makeFunc fn first cap).run Tryd.prog w = .ok (.func fn first cap) w := fun _ _ _ _ => rfl
  have hpW := rv_lt hr
  obtain ⟨hA3, hz1, hz2, hz3⟩ := whole_vars W
  have hr3 := rv_below hr hA3
  have hV' := vtR_r (hV _ hr3)
  obtain ⟨⟨c0, c1, c2, c3⟩, f1, f2, f3⟩ := rv_cells hr3
  rw [show 1 + szV v - 1 = szV v by omega] at hV'
  have h100 : szV v ≤ 100 := by
    unfold rightV at hR
    simp only [Bool.and_eq_true, decide_eq_true_eq] at hR
    exact hR.1.2
  have e1 : decide ((100 : Int) < (szV v : Int)) = false := by simp; omega
  go_enter_defers Tryd.func74, Tryd.ntmps74
  go_wp2_with (first
    | (go_at_call 78; (with_reducible refine hV'.mono ?_); rintro e w2 ⟨⟨v', d0, d1, d2, a9, len9, cap9, rfl, hF9, hv9⟩, hr4, hg2⟩; obtain ⟨⟨y0, y1, y2, y3⟩, x0, x1, x2, x3⟩ := box4 (show VAt w2 W.heap.size vzero from (hg2.block _ (vat_lt hz1) (fun e => by cases e; omega)).trans hz1); obtain rfl := hv9 (by omega); obtain ⟨z1, z2, z3, z4, z5, z6⟩ := whole_set hpW hg2 hr4 hF9 _ rfl; obtain ⟨⟨m0, m1, m2, m3⟩, _⟩ := rv_cells z4; obtain ⟨⟨n0, n1, n2, n3⟩, _⟩ := box4 z1)
    | (go_at_call 6; (with_reducible refine (right_any _ (by omega) _ _ (fresh_is z6)).mono ?_); rw [hR]; rintro e w4 ⟨rfl, hB4⟩))
  have y1' := vat_below hB4 z1
  have y2' : Boxed w4 (W.heap.size + 1) 3 _ := (hB4.block _ z2.lt).trans z2
  have y3' : Boxed w4 (W.heap.size + 1 + 1) 32 _ := (hB4.block _ z3.lt).trans z3
  have hW4 : W.grownBy w4 (some p) := grownV_two z5 (grownV_of_below hB4 _)
  have hr5 := rv_below z4 hB4
  have hF5 := fresh_later z6 hB4.size (fun b b1 b2 => hB4.block b b2)
  obtain ⟨⟨p0, p1, p2, p3⟩, g1, g2, g3⟩ := rv_cells hr5
  obtain ⟨⟨v0, v1, v2, v3⟩, j0, j1, j2, j3⟩ := box4 y1'
  have t2 := y2'.cell
  have t2' := y2'.frozen
  have t3 := y3'.cell
  have t3' := y3'.frozen
  clear hz1 hz2 hz3 hr3 hV' c0 c1 c2 c3 f1 f2 f3 y0 y1 y2 y3 x0 x1 x2 x3 z1 z2 z3 z4 z5 z6 m0 m1 m2 m3 n0 n1 n2 n3 hA3 hr4 hg2 hF9 hv9 hB4 hr
  go_region
  obtain ⟨F, hF⟩ : ∃ F, ((((((w4.setCell ⟨W.heap.size, 0, none⟩ (.int .i64 d0)).setCell ⟨W.heap.size, 1, none⟩ (.int .i64 d1)).setCell ⟨W.heap.size, 2, none⟩ (.string d2)).setCell ⟨W.heap.size, 3, none⟩ (.slice a9 len9 cap9)).setCell ⟨W.heap.size + 1, 0, none⟩ (.int .i64 (q2 : Int))).setCell ⟨W.heap.size + 1 + 1, 0, none⟩ (.int .i64 0)).drew = F := ⟨_, rfl⟩
  obtain ⟨q1, q2', q3, q4, q5⟩ := whole_fin hW4 hpW y1' y2' y3' hF5 hF.symm
  rw [hF]
  clear hF p0 p1 p2 p3 g1 g2 g3 v0 v1 v2 v3 j0 j1 j2 j3 t2 t2' t3 t3' y1' y2' y3' hW4 hr5 hF5
  go_wp2
  refine leaves_cons (f := 77) (args := #[.pointer (some ⟨W.heap.size, 0, none⟩), .pointer (some ⟨W.heap.size + 1, 0, none⟩), .pointer (some ⟨W.heap.size + 1 + 1, 0, none⟩)]) (by simp) (by simp [go_sem]) ?_
  refine (vwhole1_idle _ _ _ F).mono ?_
  rintro e u' w9 ⟨⟨v9, rfl⟩, rfl, rfl⟩
  exact ⟨_, vresults3 (tmps := _) rfl rfl rfl q1 q2' q3, ⟨_, _, _, _, _, _, rfl, q4⟩, q5⟩
end Go.Proofs.YtcicjpdjbfgbhaaDoor
