/- The walk of UtfJoins: two valid texts together are valid, with the codes of both; a text with one that isn't ahead isn't. -/
import Derived.Test.YtjkdmflpfaolaaaUtfLaw
namespace Go.Proofs.Ytjkdmflpfaolaaa.utfJoinsWalk
open Go.RowKit Go.Shelf
theorem countS_bd (s : ByteArray) (h : s.size ≤ 600) : -1 ≤ U.countS s ∧ U.countS s ≤ 600 := by
  rw [U.count_eq]
  split
  · refine ⟨by omega, ?_⟩
    have h1 := U.end_le s
    have h2 := (U.codes_parse s).2
    have h3 : ∀ l : List Int, U.okAll l = true → l.length ≤ (l.flatMap U.put).length := by
      intro l
      induction l with
      | nil => simp
      | cons c l ih =>
        intro hc
        rw [U.okAll_cons] at hc
        have := (U.at_of_size c [] hc.1).1
        have := ih hc.2
        simp only [List.flatMap_cons, List.length_append, List.length_cons]; omega
    have h4 := h3 _ (U.codes_parse s).1.1
    omega
  · omega
set_option maxRecDepth 100000 in
set_option maxHeartbeats 1000000 in
theorem walk (a0 : ByteArray) (a1 : ByteArray) (w : World) (w0 : a0.size ≤ maxLen) (w1 : a1.size ≤ maxLen) :
    Calls Try.prog 6 #[.string a0, .string a1] w fun e w' => e = .returned (.bool true) ∧ Below w.heap.size w w' := by
  have hal := alive_any w
  have hc0 := fun w => count_any a0 w w0
  have hc1 := fun w => count_any a1 w w1
  by_cases h0 : 300 < a0.size
  · have d0 : decide (300 < a0.size) = true := by simpa using h0
    go_enter Try.func6, Try.ntmps6
    go_wp2_with (first | (go_at_call 8; (with_reducible refine hal.mono ?_); rintro e w' ⟨rfl, hb⟩))
    go_ret
    exact ⟨rfl, hb⟩
  have d0 : decide (300 < a0.size) = false := by simpa using h0
  by_cases h1 : 300 < a1.size
  · have d1 : decide (300 < a1.size) = true := by simpa using h1
    go_enter Try.func6, Try.ntmps6
    go_wp2_with (first | (go_at_call 8; (with_reducible refine hal.mono ?_); rintro e w' ⟨rfl, hb⟩))
    go_ret
    exact ⟨rfl, hb⟩
  have d1 : decide (300 < a1.size) = false := by simpa using h1
  have hs : (a0 ++ a1).size = a0.size + a1.size := by simp
  have hc2 := fun w => count_any (a0 ++ a1) w (by unfold maxLen; omega)
  have hj := U.joins a0 a1
  have b0 := countS_bd a0 (by omega)
  have b1 := countS_bd a1 (by omega)
  have b2 := countS_bd (a0 ++ a1) (by omega)
  generalize U.countS a0 = A at *
  generalize U.countS a1 = B at *
  generalize U.countS (a0 ++ a1) = C at *
  have hcase : (decide (0 ≤ A) = true ∧ decide (0 ≤ B) = true ∧ C = A + B) ∨ (decide (0 ≤ A) = true ∧ decide (0 ≤ B) = false ∧ decide (A < 0) = false ∧ decide (C < 0) = true) ∨ (decide (0 ≤ A) = false ∧ decide (A < 0) = true) := by
    by_cases ha : 0 ≤ A
    · by_cases hb : 0 ≤ B
      · left; exact ⟨by simpa, by simpa, (hj ha).1 hb⟩
      · right; left; have := (hj ha).2 (by omega); refine ⟨by simpa, by simp; omega, by simp; omega, by simpa⟩
    · right; right; exact ⟨by simp; omega, by simp; omega⟩
  clear hs hj
  rcases hcase with ⟨e1, e2, rfl⟩ | ⟨e1, e2, e3, e4⟩ | ⟨e1, e2⟩
  all_goals
    go_enter Try.func6, Try.ntmps6
    go_wp2_with (first
      | (go_at_call 8; (with_reducible refine hal.mono ?_); rintro e w' ⟨rfl, hb⟩)
      | (go_at_call 19; (with_reducible refine (hc0 _).mono ?_); rintro e w2 ⟨rfl, hb2⟩)
      | (go_at_call 19; (with_reducible refine (hc1 _).mono ?_); rintro e w3 ⟨rfl, hb3⟩)
      | (go_at_call 19; (with_reducible refine (hc2 _).mono ?_); rintro e w4 ⟨rfl, hb4⟩))
    go_ret
    refine ⟨?_, ((hb.trans (hb2.mono hb.size)).trans (hb3.mono (Nat.le_trans hb.size hb2.size))).trans (hb4.mono (Nat.le_trans (Nat.le_trans hb.size hb2.size) hb3.size))⟩
    first | rfl | exact ret_bool (by simp)
end Go.Proofs.Ytjkdmflpfaolaaa.utfJoinsWalk
