/- Package sum: what its functions answer. -/
import Derived.Test.YtdnijiehfokagaaStr
import Derived.Test.YtdnijiehfokagaaSumMath
import Derived.Deep.QuietTactic
import Derived.BigQuiet
namespace Go.Proofs.Ytdnijiehfokagaa
open Go.RowKit Go.Shelf
attribute [local go_sem] Oper.semAt_some
set_option maxHeartbeats 400000 in
theorem fits_any (n : Int) (w : World) : Calls Try.prog 33 #[.int .i64 n] w fun e w' => e = .returned (.bool (S.num n)) ∧ w = w' := by
  by_cases h0 : 0 ≤ n
  · by_cases h1 : n ≤ 4294967295
    · have hg : S.num n = true := (S.num_iff n).2 ⟨h0, h1⟩
      rw [hg]
      have HG := Lib.hid hg; clear hg
      have d0 : decide (0 ≤ n) = true := by simpa using h0
      have d1 : decide (n ≤ 4294967295) = true := by simpa using h1
      go_enter Try.func33, Try.ntmps33
      go_wp2
      go_ret
      exact ⟨rfl, rfl⟩
    · have hg : S.num n = false := by rw [Bool.eq_false_iff]; intro h; exact h1 ((S.num_iff n).1 h).2
      rw [hg]
      have HG := Lib.hid hg; clear hg
      have d0 : decide (0 ≤ n) = true := by simpa using h0
      have d1 : decide (n ≤ 4294967295) = false := by simpa using h1
      go_enter Try.func33, Try.ntmps33
      go_wp2
      go_ret
      exact ⟨rfl, rfl⟩
  · have hg : S.num n = false := by rw [Bool.eq_false_iff]; intro h; exact h0 ((S.num_iff n).1 h).1
    rw [hg]
    have HG := Lib.hid hg; clear hg
    have d0 : decide (0 ≤ n) = false := by simpa using h0
    go_enter Try.func33, Try.ntmps33
    go_wp2
    go_ret
    exact ⟨rfl, rfl⟩
set_option maxRecDepth 100000 in
set_option maxHeartbeats 1000000 in
theorem isTable_any (a : Option Addr) (len cap : Nat) (t : List Int) (w : World) (h : Row w .i64 a len cap t) :
    Calls Try.prog 38 #[.slice a len cap] w fun e w' => e = .returned (.bool (S.isT t)) ∧ w = w' := by
  obtain ⟨h1, h2, h3, h4⟩ := h
  by_cases hl : len = 256
  · subst hl
    rcases h4 with h0 | ⟨b, off, rfl, hc⟩
    · omega
    obtain ⟨r, hr⟩ : ∃ r, S.isT t = r := ⟨_, rfl⟩
    rw [hr]
    have HR := Lib.hid hr; clear hr
    have H1 := Lib.hid h1; clear h1
    have HC := Lib.hid hc; clear hc
    go_enter Try.func38, Try.ntmps38
    go_wp2
    go_loop [10] (fun i => ∃ k : Nat, k ≤ 256 ∧ i = .int .i64 k ∧ ∀ j, j < k → S.num (t[j]?.getD 0) = true) (fun i => 256 - (intOf i).toNat)
    case atStart => exact ⟨0, by omega, rfl, fun j hj => by omega⟩
    case round =>
      obtain ⟨k, hk, rfl, hall⟩ := hrel
      have HA := Lib.hid hall; clear hall
      by_cases hlt : k < 256
      · have hc := HC.out k hlt
        have hf := fun w => fits_any (t[k]?.getD 0) w
        by_cases hx : S.num (t[k]?.getD 0) = true
        · rw [hx] at hf
          have HX := Lib.hid hx; clear hx
          go_wp2_with (first | (go_at_call 33; (with_reducible refine (hf _).mono ?_); rintro e w' ⟨rfl, rfl⟩))
          go_round
          case rel => exact ⟨k + 1, by omega, by go_num, fun j hj => by
            rcases Nat.lt_or_ge j k with h | h
            · exact HA.out j h
            · obtain rfl : j = k := by omega
              exact HX.out⟩
          case measure => simp [intOf]; omega
        · have hx' : S.num (t[k]?.getD 0) = false := by simpa using hx
          rw [hx'] at hf
          have HX := Lib.hid hx; clear hx hx'
          go_wp2_with (first | (go_at_call 33; (with_reducible refine (hf _).mono ?_); rintro e w' ⟨rfl, rfl⟩))
          go_ret
          refine ⟨ret_bool ?_, rfl⟩
          rw [← HR.out, eq_comm, Bool.eq_false_iff]
          intro h
          simp only [S.isT, Bool.and_eq_true, List.all_eq_true] at h
          have hlen := H1.out
          refine HX.out (h.2 _ ?_)
          rw [List.getElem?_eq_getElem (by omega)]
          exact List.getElem_mem _
      · obtain rfl : k = 256 := by omega
        go_wp2
        go_ret
        refine ⟨ret_bool ?_, rfl⟩
        rw [← HR.out, eq_comm]
        simp only [S.isT, Bool.and_eq_true, List.all_eq_true, decide_eq_true_eq]
        refine ⟨H1.out, fun x hx => ?_⟩
        obtain ⟨i, hi, rfl⟩ := List.getElem_of_mem hx
        have := HA.out i (by have := H1.out; omega)
        rwa [List.getElem?_eq_getElem hi] at this
  · have hg : S.isT t = false := by rw [Bool.eq_false_iff]; intro h; exact hl (by rw [← h1]; exact S.isT_len h)
    rw [hg]
    have HG := Lib.hid hg; clear hg
    have hd : ((len : Int) != 256) = true := by simp; omega
    have hd2 : ((len : Int) == 256) = false := by simp; omega
    clear h1 h4
    go_enter Try.func38, Try.ntmps38
    go_wp2
    go_ret
    exact ⟨rfl, rfl⟩
set_option maxHeartbeats 1000000 in
theorem divided_any (x p : Nat) (w : World) (hx : x < 4294967296) (hp : p < 4294967296) :
    Calls Try.prog 40 #[.int .u32 x, .int .u32 p] w fun e w' => e = .returned (.int .u32 (S.row p x : Nat)) ∧ w = w' := by
  go_enter Try.func40, Try.ntmps40
  go_wp2
  go_loop [0, 6] (fun y i => ∃ k : Nat, k ≤ 8 ∧ i = .int .i64 k ∧ y = .int .u32 (S.itn p x k : Nat)) (fun _ i => 8 - (intOf i).toNat)
  case atStart => exact ⟨0, by omega, rfl, rfl⟩
  case round =>
    obtain ⟨k, hk, rfl, rfl⟩ := hrel
    have hlt := S.itn_lt hp hx k
    have hnx : S.itn p x (k + 1) = S.stp p (S.itn p x k) := rfl
    have hz : k = 8 → S.itn p x k = S.row p x := fun h => by rw [h]; rfl
    generalize S.itn p x k = y at hlt hnx hz
    by_cases h8 : k < 8
    · have HN := Lib.hid hnx; clear hnx hz
      have hand : bits .and .u32 (y : Int) 1 = ((y % 2 : Nat) : Int) := by
        have := u32_and_nat y 1 hlt (by omega)
        rw [Nat.and_one_is_mod] at this
        exact this
      have hhalf : ((y : Int) / 2) = ((y / 2 : Nat) : Int) := by omega
      have hxor : bits .xor .u32 ((y / 2 : Nat) : Int) (p : Int) = (((y / 2) ^^^ p : Nat) : Int) := u32_xor_nat _ _ (by omega) hp
      rw [← hhalf] at hxor
      by_cases ho : y % 2 = 1
      · have hd : (((y % 2 : Nat) : Int) == 1) = true := by simp; omega
        have HS : Hid (S.itn p x (k + 1) = (y / 2) ^^^ p) := Lib.hid (by rw [HN.out]; unfold S.stp; rw [if_pos ho])
        have HO := Lib.hid ho; clear ho hhalf
        go_wp2
        go_round
        case rel => exact ⟨k + 1, by omega, by go_num, by rw [HS.out]⟩
        case measure => simp [intOf]; omega
      · have hd : (((y % 2 : Nat) : Int) == 1) = false := by simp; omega
        have HS : Hid (S.itn p x (k + 1) = y / 2) := Lib.hid (by rw [HN.out]; unfold S.stp; rw [if_neg ho])
        have HO := Lib.hid ho; clear ho hxor
        have HH := Lib.hid hhalf; clear hhalf
        go_wp2
        go_round
        case rel => exact ⟨k + 1, by omega, by go_num, by rw [HS.out, HH.out]⟩
        case measure => simp [intOf]; omega
    · have HZ := Lib.hid (hz (by omega)); clear hz hnx
      obtain rfl : k = 8 := by omega
      go_wp2
      go_ret
      exact ⟨ret_int (by rw [HZ.out]), rfl⟩
end Go.Proofs.Ytdnijiehfokagaa
