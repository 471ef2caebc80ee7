/- Layer 2: what the statements ask first (alive). -/
import Derived.Test.YtkjfibdebfhhoaaNumOut
namespace Go.Proofs.Ytkjfibdebfhhoaa
open Go.RowKit Go.Shelf
theorem M.prt_120 : M.prt (-120) = [45, 49, 50, 48] := by
  unfold M.prt
  rw [if_pos (by omega), show (-120 : Int).natAbs = 120 from rfl, M.D_ge 120 (by omega), M.D_ge 12 (by omega), M.D_lt 1 (by omega)]
  rfl
set_option maxRecDepth 100000 in
set_option maxHeartbeats 2000000 in
theorem numAlive_any (w : World) : Calls Try.prog 8 #[] w fun e w' => e = .returned (.bool true) ∧ Below w.heap.size w w' := by
  have h1 := fun w => numParse_any ⟨#[45, 49, 50, 48]⟩ w (by unfold maxLen; decide)
  rw [show M.parse (strB ⟨#[45, 49, 50, 48]⟩) = (-120, 0) by decide +kernel] at h1
  have h2 := fun w => numParse_any ⟨#[48, 48, 55]⟩ w (by unfold maxLen; decide)
  rw [show M.parse (strB ⟨#[48, 48, 55]⟩) = (0, 2) by decide +kernel] at h2
  have h3 := fun w => numParse_any ⟨#[57, 50, 50, 51, 51, 55, 50, 48, 51, 54, 56, 53, 52, 55, 55, 53, 56, 48, 56]⟩ w (by unfold maxLen; decide)
  rw [show M.parse (strB ⟨#[57, 50, 50, 51, 51, 55, 50, 48, 51, 54, 56, 53, 52, 55, 55, 53, 56, 48, 56]⟩) = (0, 5) by decide +kernel] at h3
  have h4 := fun w => numScan_any ⟨#[97, 49, 50, 98]⟩ 1 w (by unfold maxLen; decide) (by omega) (by omega)
  rw [show M.scan (strB ⟨#[97, 49, 50, 98]⟩) 1 = (12, 3, 0) by decide +kernel] at h4
  have h5 := fun w => numAdd_any 2 3 w (by omega) (by omega) (by omega) (by omega)
  rw [show M.add 2 3 = (5, true) by decide +kernel] at h5
  have h6 := fun w => numPrint_any (-120) w (by omega) (by omega)
  unfold Prt at h6
  rw [M.prt_120, show strOfNums [45, 49, 50, 48] = ⟨#[45, 49, 50, 48]⟩ from rfl] at h6
  simp only at h1 h2 h3 h4 h5
  go_enter Try.func8, Try.ntmps8
  go_wp2_with (first
    | (go_at_call 13; (first | with_reducible refine (h1 _).mono ?_ | with_reducible refine (h2 _).mono ?_ | with_reducible refine (h3 _).mono ?_); rintro e w' ⟨rfl, rfl⟩)
    | (go_at_call 15; (with_reducible refine (h4 _).mono ?_); rintro e w' ⟨rfl, rfl⟩)
    | (go_at_call 9; (with_reducible refine (h5 _).mono ?_); rintro e w' ⟨rfl, rfl⟩)
    | (go_at_call 11; (with_reducible refine (h6 _).mono ?_); rintro e w' ⟨rfl, hb⟩))
  go_ret
  exact ⟨rfl, hb⟩
end Go.Proofs.Ytkjfibdebfhhoaa
