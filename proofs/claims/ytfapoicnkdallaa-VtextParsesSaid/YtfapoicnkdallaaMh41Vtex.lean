/- The document's Nodes and Right. -/
import Derived.Test.YtfapoicnkdallaaMh40Vtex
namespace Go.Proofs.Ytfapoicnkdallaa
open Go.RowKit Go.Shelf
theorem rd_ok : ∀ v : PV, okV v = true → rdV v = deepV v := by
  intro v
  induction v using pv_ind with
  | h k m s l ih =>
    intro ho
    obtain ⟨_, _, _, hl5, _, hol, _, _⟩ := ok_parts ho
    simp only [rdV, deepV]
    by_cases hk : k = 5
    · rw [if_pos hk, if_pos hk]
      have key : ∀ (l : List PV), (∀ y ∈ l, rdV y = deepV y) → ∀ z : Nat, rdL (z : Int) l = ((max z (deepL l) : Nat) : Int) := by
        intro l
        induction l with
        | nil => intro _ z; simp [rdL, deepL]
        | cons x r ih2 =>
          intro h z
          simp only [rdL, deepL]
          have hx := h x (by simp)
          have h2 := ih2 (fun y hy => h y (by simp [hy]))
          by_cases hz : (z : Int) < rdV x
          · rw [if_pos hz, hx, h2]; congr 1; omega
          · rw [if_neg hz, h2]; congr 1; omega
      have := key l (fun y hy => ih y hy (okL_mem hol y hy)) 0
      simp only [Int.natCast_zero] at this
      rw [this]; omega
    · have hl := hl5 hk
      subst hl
      rw [if_neg hk, if_neg hk]
      simp [rdL, deepL]
theorem cnt_ok : ∀ v : PV, okV v = true → ∀ d n : Nat, deepV v ≤ d → szV v ≤ n → cntV v n d = (n : Int) - szV v := by
  intro v
  induction v using pv_ind with
  | h k m s l ih =>
    intro ho d n hd hn
    obtain ⟨_, _, _, hl5, _, hol, _, _⟩ := ok_parts ho
    simp only [cntV, szV, deepV] at *
    rw [if_neg (by omega)]
    by_cases hk : k = 5
    · rw [if_pos hk] at hd
      have key : ∀ (l : List PV), (∀ y ∈ l, okV y = true → ∀ d n : Nat, deepV y ≤ d → szV y ≤ n → cntV y n d = (n : Int) - szV y) → (∀ y ∈ l, okV y = true) → ∀ d n : Nat, deepL l ≤ d → szL l ≤ n → cntL l n d = (n : Int) - szL l := by
        intro l
        induction l with
        | nil => intro _ _ d n _ _; simp [cntL, szL]
        | cons x r ih2 =>
          intro h ho d n hd hn
          simp only [cntL, szL, deepL] at *
          have h1 := h x (by simp) (ho x (by simp)) d n (by omega) (by omega)
          rw [if_neg (by rw [h1]; omega), h1]
          have h2 := ih2 (fun y hy => h y (by simp [hy])) (fun y hy => ho y (by simp [hy])) d (n - szV x) (by omega) (by omega)
          rw [show ((n - szV x : Nat) : Int) = (n : Int) - szV x by omega] at h2
          rw [h2]; omega
      have h3 := key l (fun y hy => ih y hy) (okL_mem hol) (d - 1) (n - 1) (by omega) (by omega)
      rw [show ((n - 1 : Nat) : Int) = (n : Int) - 1 by omega, show ((d - 1 : Nat) : Int) = (d : Int) - 1 by omega] at h3
      rw [h3]; omega
    · have hl := hl5 hk
      subst hl
      simp [cntL, szL]
set_option maxHeartbeats 1000000 in
theorem refNodes_any (v : PV) (w : World) (x : Value) (hi : Is w v x) : Calls Try.prog 37 #[x] w fun e w' => e = .returned (.int .i64 (1001 - cntV v 1001 1000)) ∧ Below w.heap.size w w' := by
  have hC := fun w x hi => refCount_any v 1001 1000 (by omega) (by omega) (by omega) (by omega) w x hi
  have hbd := cnt_bd v 1001 1000 (by omega)
  generalize cntV v 1001 1000 = c at *
  have hi2 := Lib.hid hi
  obtain ⟨k, m, s, a, len, cap, rfl⟩ := is_form hi
  have hB0 := (Below.refl _ w).alloc (Nat.le_refl _) (vobj k m s a len cap)
  clear hi
  go_enter Try.func37, Try.ntmps37
  go_wp2_with (first | (go_at_call 22; (with_reducible refine (hC _ _ (is_below hB0 _ _ hi2.out)).mono ?_); rintro e w' ⟨rfl, hb⟩))
  go_ret
  exact ⟨ret_int (by go_num), hB0.trans (hb.mono hB0.size)⟩
theorem right_eq (v : PV) : rightV v = (okV v && decide (rdV v ≤ 4) && decide (1001 - cntV v 1001 1000 ≤ 100)) := by
  unfold rightV
  cases ho : okV v with
  | false => simp
  | true =>
    rw [rd_ok v ho]
    by_cases hd : deepV v ≤ 4
    · have hd2 : decide ((deepV v : Int) ≤ 4) = true := by simp; omega
      rw [decide_eq_true hd, hd2]
      simp only [Bool.true_and, Bool.and_true]
      by_cases hs : szV v ≤ 1001
      · have h := cnt_ok v ho 1000 1001 (by omega) hs
        rw [show ((1001 : Nat) : Int) = 1001 from rfl, show ((1000 : Nat) : Int) = 1000 from rfl] at h
        rw [h, Bool.eq_iff_iff]
        simp only [decide_eq_true_eq]; omega
      · have h := cnt_bd v 1001 1000 (by omega)
        rw [Bool.eq_iff_iff]
        simp only [decide_eq_true_eq]; omega
    · have hd2 : decide ((deepV v : Int) ≤ 4) = false := by simp; omega
      rw [decide_eq_false hd, hd2]
      simp
set_option maxHeartbeats 1000000 in
theorem refRight_any (v : PV) (hsz : szV v ≤ 1000000) (w : World) (x : Value) (hi : Is w v x) : Calls Try.prog 20 #[x] w fun e w' => e = .returned (.bool (rightV v)) ∧ Below w.heap.size w w' := by
  have hE := fun w x hi => refEach_any v w x hi
  have hD := fun w x hi => refDeep_any v hsz w x hi
  have hN := fun w x hi => refNodes_any v w x hi
  rw [right_eq v]
  obtain ⟨b1, e1⟩ : ∃ b, okV v = b := ⟨_, rfl⟩
  obtain ⟨d, e2⟩ : ∃ d, rdV v = d := ⟨_, rfl⟩
  obtain ⟨c, e3⟩ : ∃ c, 1001 - cntV v 1001 1000 = c := ⟨_, rfl⟩
  rw [e1] at hE ⊢
  rw [e2] at hD ⊢
  rw [e3] at hN ⊢
  have hi2 := Lib.hid hi
  obtain ⟨k, m, s, a, len, cap, rfl⟩ := is_form hi
  have hB0 := (Below.refl _ w).alloc (Nat.le_refl _) (vobj k m s a len cap)
  clear hi e1 e2 e3
  obtain ⟨bd, ebd⟩ : ∃ b, decide (d ≤ 4) = b := ⟨_, rfl⟩
  obtain ⟨bc, ebc⟩ : ∃ b, decide (c ≤ 100) = b := ⟨_, rfl⟩
  rw [ebd, ebc]
  cases b1 <;> cases bd <;> cases bc
  all_goals (
    go_enter Try.func20, Try.ntmps20
    go_wp2_with (first
      | (go_at_call 36; (with_reducible refine (hE _ _ (is_below hB0 _ _ hi2.out)).mono ?_); rintro e w1 ⟨rfl, hb1⟩; have hB1 := hB0.trans (hb1.mono hB0.size); obtain ⟨x0, x1, x2, x3⟩ := box_cells hb1)
      | (go_at_call 23; (with_reducible refine (hD _ _ (is_below hB1 _ _ hi2.out)).mono ?_); rintro e w2 ⟨rfl, hb2⟩; have hB2 := hB1.trans (hb2.mono hB1.size); have hb12 := hb1.trans (hb2.mono hb1.size); obtain ⟨y0, y1, y2, y3⟩ := box_cells hb12)
      | (go_at_call 37; (with_reducible refine (hN _ _ (is_below hB2 _ _ hi2.out)).mono ?_); rintro e w3 ⟨rfl, hb3⟩; have hB3 := hB2.trans (hb3.mono hB2.size)))
    go_ret
    exact ⟨ret_bool (by simp), by first | exact hB3 | exact hB2 | exact hB1⟩)
end Go.Proofs.Ytfapoicnkdallaa
