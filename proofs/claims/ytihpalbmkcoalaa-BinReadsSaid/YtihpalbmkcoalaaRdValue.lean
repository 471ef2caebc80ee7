/- The document's reader for layer 6: Value. -/
import Derived.Test.YtihpalbmkcoalaaRdList
import Derived.Test.YtihpalbmkcoalaaBinValue2
import Derived.Test.YtihpalbmkcoalaaRefRight2
namespace Go.Proofs.Ytihpalbmkcoalaa
open Go.RowKit Go.Shelf
attribute [local go_sem] Oper.semAt_some
theorem rep_sz (g : Bn.St → PV × Bn.St) (B : Nat) (hg : ∀ s, szV (g s).1 ≤ B) (s : Bn.St) : ∀ n, szL (Bn.rep g n s).1 ≤ n * B := by
  intro n
  induction n with
  | zero => simp [Bn.rep, szL]
  | succ n ih =>
    simp only [Bn.rep, szL_append, szL]
    have := hg (Bn.rep g n s).2
    rw [Nat.succ_mul]; omega
theorem node_sz (lst : Nat → Bn.St → List PV × Bn.St) (B : Nat) (hl : ∀ n s, szL (lst n s).1 ≤ B) (s : Bn.St) : szV (Bn.node lst s).1 ≤ B + 1 := by
  unfold Bn.node
  split
  · simp [szV, szL]
  · split
    · simp [szV, szL]
    · split
      · simp [szV, szL]
      · split
        · simp only [szV]; have := hl (Bn.rNum (Bn.rByte s).2).1 (Bn.rNum (Bn.rByte s).2).2; omega
        · simp [szV, szL]
theorem get_sz_succ (d B : Nat) (h : ∀ s, szV (Bn.get d s).1 ≤ B) : ∀ s, szV (Bn.get (d + 1) s).1 ≤ 20 * B + 1 := by
  intro s
  refine node_sz (Bn.lst (some (Bn.get d))) (20 * B) (fun n s => ?_) s
  simp only [Bn.lst]
  split
  · simp [szL]
  · exact Nat.le_trans (rep_sz _ B h s n) (Nat.mul_le_mul_right B (by omega))
theorem get_sz (s : Bn.St) : szV (Bn.get 4 s).1 ≤ 168421 := by
  have h0 : ∀ s, szV (Bn.get 0 s).1 ≤ 1 := fun s => node_sz (Bn.lst none) 0 (fun n s => by simp [Bn.lst, szL]) s
  have h1 := get_sz_succ 0 1 h0
  have h2 := get_sz_succ 1 _ h1
  have h3 := get_sz_succ 2 _ h2
  have h4 := get_sz_succ 3 _ h3 s
  exact Nat.le_trans h4 (by decide)
/-- a value that the call has made, the document's reader as it is then -/
def RtVal (S : Src) (p : Nat) (w : World) (v : PV) (s : Bn.St) (e : Ending) (w' : World) : Prop := ∃ x, e = .returned x ∧ Fresh w.heap.size w' v x ∧ RT S w' p s ∧ w.grownBy w' (some p)
theorem rtval_end {S : Src} {w W : World} {p : Nat} {s : Bn.St} {v : PV} {d0 d1 d2 d3 : Value} (hpw : p < w.heap.size) (hR : RT S W p s) (hG : w.grownBy W (some p)) (hF : Fresh (w.heap.size + 1) W v (.agg #[d0, d1, d2, d3])) :
    RtVal S p w v s (.returned (.agg #[d0, d1, d2, d3])) ((((W.setCell ⟨w.heap.size, 0, none⟩ d0).setCell ⟨w.heap.size, 1, none⟩ d1).setCell ⟨w.heap.size, 2, none⟩ d2).setCell ⟨w.heap.size, 3, none⟩ d3) := by
  refine ⟨_, rfl, fresh_mono (fresh_later hF (by simp) fun b h1 _ => ?_) (Nat.le_succ _), rt_set4 hR hpw _ _ _ _ _ _ _ _, grown_new4 hG (Nat.le_refl _) _ _ _ _ _ _ _ _⟩
  rw [Below.heap_setCell _ _ _ b (by show b ≠ w.heap.size; omega), Below.heap_setCell _ _ _ b (by show b ≠ w.heap.size; omega), Below.heap_setCell _ _ _ b (by show b ≠ w.heap.size; omega), Below.heap_setCell _ _ _ b (by show b ≠ w.heap.size; omega)]
set_option maxRecDepth 100000 in
set_option maxHeartbeats 4000000 in
theorem rtValue_any (S : Src) (p : Nat) (s : Bn.St) (w : World) (h : RT S w p s) : Calls Try.prog 34 #[.pointer (some ⟨p, 0, none⟩)] w (RtVal S p w (rValue s).1 (rValue s).2) := by
  have hA0 := (Below.refl _ w).alloc (Nat.le_refl _) (.cells vzero 24)
  have hz0 := vat_alloc w vzero
  have hpw := rt_lt h
  have hRA := rt_below h hA0
  have hN : Calls Try.prog 60 #[.pointer (some ⟨p, 0, none⟩), .int .i64 4] (w.alloc (.cells vzero 24)) (GRet S p (w.alloc (.cells vzero 24)) (Bn.get 4 s).1 (Bn.get 4 s).2) := rget_any S 4 (by omega) p s _ hRA
  have hG0 := grown_of_below hA0 (some p)
  obtain ⟨_, _, k0, hk0, hA, hx0⟩ := id hRA
  obtain ⟨⟨c0, c1, c2⟩, f0, f1, f2⟩ := tAt_cells hA
  obtain ⟨⟨r0, r1, r2, r3⟩, t0, t1, t2, t3⟩ := box4 hz0
  cases s with
  | none =>
    have e : rValue none = (zv, none) := by
      have := get_bad 4
      unfold rValue rFin
      rw [this]
    rw [e]
    simp only [Option.isNone_none] at c2
    clear h hA hN hx0 e
    go_enter Try.func34, Try.ntmps34
    go_wp2_with fail
    refine bodyPost_ret (results_cell_row Try.results34 _ _ w.heap.size _ _ _ _ rfl hz0 Try.underlying24 rfl val4) rfl ?_
    exact ⟨_, rfl, fresh_zero _ _, hRA, hG0⟩
  | some l =>
    have hsz := get_sz (some l)
    simp only [Option.isNone_some] at c2
    unfold rValue
    generalize Bn.get 4 (some l) = r at *
    obtain ⟨v, s2⟩ := r
    dsimp only at hN hsz
    have hRt := fun W x hi => refRight_any v (by omega) W x hi
    obtain ⟨b, hb⟩ : ∃ b, rightV v = b := ⟨_, rfl⟩
    rw [hb] at hRt
    have HRT := Lib.hid hRt
    clear h hA hx0 hRA hRt hA0
    cases s2 with
    | none =>
      have e : rFin (v, none) = (zv, none) := rfl
      rw [e]; clear e
      go_enter Try.func34, Try.ntmps34
      go_wp2_with (first
        | (go_at_call 60; (with_reducible refine hN.mono ?_); rintro e w4 ⟨d0, d1, d2, _, rfl, ⟨a3, n3, c3, rfl⟩, hF4, hR4, hg4⟩; have hz4 := vat_grown hz0 hg4 (by omega); have hA4 := (Below.refl _ w4).alloc (Nat.le_refl _) (.cells #[.int .i64 d0, .int .i64 d1, .string d2, .slice a3 n3 c3] 24); have hz5 := vat_below hA4 hz4; have hR5 := rt_below hR4 hA4; have hG5 := grown_alloc (grown_then hG0 hg4) (.cells #[.int .i64 d0, .int .i64 d1, .string d2, .slice a3 n3 c3] 24); obtain ⟨_, _, k5, hk5, hA5, hx5⟩ := id hR5; obtain ⟨⟨m0, m1, m2⟩, n0, n1, n2⟩ := tAt_cells hA5; simp only [Option.isNone_none] at m2; have hz6 := vat_other hz5 (show w.heap.size ≠ p by omega) 2 (.bool true); obtain ⟨⟨p0, p1, p2, p3⟩, q0, q1, q2, q3⟩ := box4 hz6))
      refine bodyPost_ret (results_cell_row Try.results34 _ _ w.heap.size _ _ _ _ rfl (vat_set4 hz6 _ _ _ _) Try.underlying24 rfl val4) rfl ?_
      exact rtval_end hpw (rt_bad hR5) (grown_then hG5 (grown_set1 p 2 _)) (fresh_zero _ _)
    | some l2 =>
      cases b with
      | false =>
        have e : rFin (v, some l2) = (zv, none) := by show (if rightV v = true then _ else _) = _; rw [hb]; rfl
        rw [e]; clear e hb
        go_enter Try.func34, Try.ntmps34
        go_wp2_with (first
          | (go_at_call 60; (with_reducible refine hN.mono ?_); rintro e w4 ⟨d0, d1, d2, _, rfl, ⟨a3, n3, c3, rfl⟩, hF4, hR4, hg4⟩; have hz4 := vat_grown hz0 hg4 (by omega); have hA4 := (Below.refl _ w4).alloc (Nat.le_refl _) (.cells #[.int .i64 d0, .int .i64 d1, .string d2, .slice a3 n3 c3] 24); have hz5 := vat_below hA4 hz4; have hR5 := rt_below hR4 hA4; have hG5 := grown_alloc (grown_then hG0 hg4) (.cells #[.int .i64 d0, .int .i64 d1, .string d2, .slice a3 n3 c3] 24); have hi5 := is_below hA4 _ _ (fresh_is (hF4 (by simp))); have hv5 := vat_alloc w4 #[.int .i64 d0, .int .i64 d1, .string d2, .slice a3 n3 c3]; obtain ⟨⟨x0, x1, x2, x3⟩, _⟩ := box4 hv5; obtain ⟨_, _, k5, hk5, hA5, hx5⟩ := id hR5; obtain ⟨⟨m0, m1, m2⟩, n0, n1, n2⟩ := tAt_cells hA5; simp only [Option.isNone_some] at m2)
          | (go_at_call 44; (with_reducible refine (HRT.out _ _ hi5).mono ?_); rintro e w6 ⟨rfl, hb6⟩; have hz6 := vat_below hb6 hz5; have hR6 := rt_below hR5 hb6; have hG6 := grown_then hG5 (grown_of_below hb6 _); obtain ⟨_, _, k6, hk6, hA6, hx6⟩ := id hR6; obtain ⟨⟨u0, u1, u2⟩, z0, z1, z2⟩ := tAt_cells hA6; have hz7 := vat_other hz6 (show w.heap.size ≠ p by omega) 2 (.bool true); obtain ⟨⟨p0, p1, p2, p3⟩, q0, q1, q2, q3⟩ := box4 hz7))
        refine bodyPost_ret (results_cell_row Try.results34 _ _ w.heap.size _ _ _ _ rfl (vat_set4 hz7 _ _ _ _) Try.underlying24 rfl val4) rfl ?_
        exact rtval_end hpw (rt_bad hR6) (grown_then hG6 (grown_set1 p 2 _)) (fresh_zero _ _)
      | true =>
        have e : rFin (v, some l2) = (v, some l2) := by show (if rightV v = true then _ else _) = _; rw [hb]; rfl
        rw [e]; clear e hb
        go_enter Try.func34, Try.ntmps34
        go_wp2_with (first
          | (go_at_call 60; (with_reducible refine hN.mono ?_); rintro e w4 ⟨d0, d1, d2, _, rfl, ⟨a3, n3, c3, rfl⟩, hF4, hR4, hg4⟩; have hz4 := vat_grown hz0 hg4 (by omega); have hA4 := (Below.refl _ w4).alloc (Nat.le_refl _) (.cells #[.int .i64 d0, .int .i64 d1, .string d2, .slice a3 n3 c3] 24); have hz5 := vat_below hA4 hz4; have hR5 := rt_below hR4 hA4; have hG5 := grown_alloc (grown_then hG0 hg4) (.cells #[.int .i64 d0, .int .i64 d1, .string d2, .slice a3 n3 c3] 24); have hF := hF4 (by simp); have hi5 := is_below hA4 _ _ (fresh_is hF); have hv5 := vat_alloc w4 #[.int .i64 d0, .int .i64 d1, .string d2, .slice a3 n3 c3]; obtain ⟨⟨x0, x1, x2, x3⟩, _⟩ := box4 hv5; obtain ⟨_, _, k5, hk5, hA5, hx5⟩ := id hR5; obtain ⟨⟨m0, m1, m2⟩, n0, n1, n2⟩ := tAt_cells hA5; simp only [Option.isNone_some] at m2)
          | (go_at_call 44; (with_reducible refine (HRT.out _ _ hi5).mono ?_); rintro e w6 ⟨rfl, hb6⟩; have hz6 := vat_below hb6 hz5; have hR6 := rt_below hR5 hb6; have hG6 := grown_then hG5 (grown_of_below hb6 _); have hv6 := vat_below hb6 hv5; obtain ⟨⟨y0, y1, y2, y3⟩, _⟩ := box4 hv6; obtain ⟨⟨p0, p1, p2, p3⟩, q0, q1, q2, q3⟩ := box4 hz6))
        refine bodyPost_ret (results_cell_row Try.results34 _ _ w.heap.size _ _ _ _ rfl (vat_set4 hz6 _ _ _ _) Try.underlying24 rfl val4) rfl ?_
        have hF6 := fresh_later (fresh_later hF hA4.size fun b _ hb => hA4.block b hb) hb6.size fun b _ hb => hb6.block b hb
        exact rtval_end hpw hR6 hG6 (by rw [World.size_alloc] at hF6; exact hF6)
end Go.Proofs.Ytihpalbmkcoalaa
