/- The document's answer for layer 4. -/
import Derived.Test.YtdnijiehfokagaaSumMake
import Derived.Test.YtdnijiehfokagaaSumMore
namespace Go.Proofs.Ytdnijiehfokagaa
open Go.RowKit Go.Shelf
set_option maxHeartbeats 1000000 in
theorem ref04Row_any (p x : Nat) (w : World) (hp : p < 4294967296) (hx : x < 4294967296) :
    Calls Try.prog 28 #[.int .i64 p, .int .i64 x] w fun e w' => e = .returned (.int .i64 (S.row p x : Nat)) ∧ w = w' := by
  go_enter Try.func28, Try.ntmps28
  go_wp2
  go_loop [1, 5] (fun y i => ∃ k : Nat, k ≤ 8 ∧ i = .int .i64 k ∧ y = .int .i64 (S.itn p x k : Nat)) (fun _ i => 8 - (intOf i).toNat)
  case atStart => exact ⟨0, by omega, rfl, rfl⟩
  case round =>
    obtain ⟨k, hk, rfl, rfl⟩ := hrel
    have hlt := S.itn_lt hp hx k
    have hnx : S.itn p x (k + 1) = S.stp p (S.itn p x k) := rfl
    have hz : k = 8 → S.itn p x k = S.row p x := fun h => by rw [h]; rfl
    generalize S.itn p x k = y at hlt hnx hz
    by_cases h8 : k < 8
    · have HN := Lib.hid hnx; clear hnx hz
      have hxor : bits .xor .i64 ((y : Int) / 2) (p : Int) = (((y / 2) ^^^ p : Nat) : Int) := by
        have := S.xorI64 (y / 2) p (by omega) hp
        rwa [show ((y / 2 : Nat) : Int) = (y : Int) / 2 by omega] at this
      by_cases ho : y % 2 = 1
      · have hd : ((y : Int) % 2 == 1) = true := by simp; omega
        have HS : Hid (S.itn p x (k + 1) = (y / 2) ^^^ p) := Lib.hid (by rw [HN.out]; unfold S.stp; rw [if_pos ho])
        have HO := Lib.hid ho; clear ho
        go_wp2
        go_round
        case rel => exact ⟨k + 1, by omega, by go_num, by rw [HS.out]⟩
        case measure => simp [intOf]; omega
      · have hd : ((y : Int) % 2 == 1) = false := by simp; omega
        have HS : Hid (S.itn p x (k + 1) = y / 2) := Lib.hid (by rw [HN.out]; unfold S.stp; rw [if_neg ho])
        have HO := Lib.hid ho; clear ho hxor
        go_wp2
        go_round
        case rel => exact ⟨k + 1, by omega, by go_num, by rw [HS.out]; simp⟩
        case measure => simp [intOf]; omega
    · have HZ := Lib.hid (hz (by omega)); clear hz hnx
      obtain rfl : k = 8 := by omega
      go_wp2
      go_ret
      exact ⟨ret_int (by rw [HZ.out]), rfl⟩
end Go.Proofs.Ytdnijiehfokagaa
