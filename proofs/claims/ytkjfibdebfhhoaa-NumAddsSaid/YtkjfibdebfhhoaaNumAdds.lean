/- The walk of NumAdds: sums are the same either way, and a sum less the one is the other. -/
import Derived.Test.YtkjfibdebfhhoaaNumAlive
namespace Go.Proofs.Ytkjfibdebfhhoaa.numAddsWalk
open Go.RowKit Go.Shelf
theorem add_comm (a b : Int) : M.add b a = M.add a b := by unfold M.add; rw [Int.add_comm]
set_option maxHeartbeats 1000000 in
theorem walk (a0 : Int) (a1 : Int) (w : World) (w0 : (Lit.int .i64 a0).wf = true) (w1 : (Lit.int .i64 a1).wf = true) :
    Calls Try.prog 6 #[.int .i64 a0, .int .i64 a1] w fun e w' => e = .returned (.bool true) ∧ Below w.heap.size w w' := by
  obtain ⟨l0, u0⟩ := wf_i64 w0
  obtain ⟨l1, u1⟩ := wf_i64 w1
  have hal := numAlive_any w
  have ha := fun w => numAdd_any a0 a1 w l0 u0 l1 u1
  have hb := fun w => numAdd_any a1 a0 w l1 u1 l0 u0
  rw [add_comm] at hb
  by_cases hin : -9223372036854775808 ≤ a0 + a1 ∧ a0 + a1 ≤ 9223372036854775807
  · have hg : M.add a0 a1 = (a0 + a1, true) := by unfold M.add; rw [if_pos hin]
    simp only [hg] at ha hb
    clear hg
    go_enter Try.func6, Try.ntmps6
    go_wp2_with (first
      | (go_at_call 8; (with_reducible refine hal.mono ?_); rintro e w' ⟨rfl, hbl⟩)
      | (go_at_call 9; (first | with_reducible refine (ha _).mono ?_ | with_reducible refine (hb _).mono ?_); rintro e w' ⟨rfl, rfl⟩))
    go_ret
    exact ⟨ret_bool (by rw [beq_iff_eq]; omega), hbl⟩
  · have hg : M.add a0 a1 = (0, false) := by unfold M.add; rw [if_neg hin]
    simp only [hg] at ha hb
    clear hg
    have hs : (0 < a0 ∧ 0 < a1) ∨ (a0 < 0 ∧ a1 < 0) := by omega
    clear hin
    rcases hs with ⟨h1, h2⟩ | ⟨h1, h2⟩
    all_goals
      have d1 : (a0 != 0) = true := by simp; omega
      have d2 : (a1 != 0) = true := by simp; omega
      go_enter Try.func6, Try.ntmps6
      go_wp2_with (first
        | (go_at_call 8; (with_reducible refine hal.mono ?_); rintro e w' ⟨rfl, hbl⟩)
        | (go_at_call 9; (first | with_reducible refine (ha _).mono ?_ | with_reducible refine (hb _).mono ?_); rintro e w' ⟨rfl, rfl⟩))
      go_ret
      exact ⟨ret_bool (by simp), hbl⟩
end Go.Proofs.Ytkjfibdebfhhoaa.numAddsWalk
