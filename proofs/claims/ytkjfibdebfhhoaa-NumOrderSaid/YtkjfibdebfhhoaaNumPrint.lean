/- Printing: the document's answer, and package num's. -/
import Derived.Test.YtkjfibdebfhhoaaNumRefScan
import Derived.Deep.QuietTactic
import Derived.BigQuiet
import Derived.Deep.RegionWith
namespace Go.Proofs.Ytkjfibdebfhhoaa
open Go.RowKit Go.Shelf
theorem M.prt_small (n : Int) (h : 0 ≤ n) (h' : n < 10) : M.prt n = [48 + n] := by
  unfold M.prt; rw [if_neg (by omega), M.D_lt _ (by omega)]; simp; omega
theorem M.prt_big (n : Int) (h : 10 ≤ n) : M.prt n = M.prt (n.tdiv 10) ++ [48 + n.tmod 10] := by
  obtain ⟨m, rfl⟩ := Int.eq_ofNat_of_zero_le (by omega : 0 ≤ n)
  have h1 : (m : Int).tdiv 10 = ((m / 10 : Nat) : Int) := by rw [Int.tdiv_eq_ediv_of_nonneg (by omega)]; omega
  have h2 : (m : Int).tmod 10 = ((m % 10 : Nat) : Int) := by rw [Int.tmod_eq_emod_of_nonneg (by omega)]; omega
  rw [h1, h2]
  unfold M.prt
  rw [if_neg (by omega), if_neg (by omega), Int.natAbs_natCast, Int.natAbs_natCast, M.D_ge m (by omega)]
  rfl
theorem M.prt_low (n : Int) (h : n < 0) (h' : -10 < n) : M.prt n = [45, 48 - n] := by
  unfold M.prt; rw [if_pos (by omega), M.D_lt _ (by omega)]; simp; omega
theorem M.prt_deep (n : Int) (h : n ≤ -10) : M.prt n = M.prt (n.tdiv 10) ++ [48 - n.tmod 10] := by
  obtain ⟨m, hm⟩ : ∃ m : Nat, n = -(m : Int) := ⟨n.natAbs, by omega⟩
  subst hm
  have h1 : (-(m : Int)).tdiv 10 = -((m / 10 : Nat) : Int) := by rw [Int.neg_tdiv, Int.tdiv_eq_ediv_of_nonneg (by omega)]; omega
  have h2 : (-(m : Int)).tmod 10 = -((m % 10 : Nat) : Int) := by rw [Int.neg_tmod, Int.tmod_eq_emod_of_nonneg (by omega)]; omega
  rw [h1, h2]
  unfold M.prt
  rw [if_pos (by omega), if_pos (by omega), show (-(m : Int)).natAbs = m by omega, show (-((m / 10 : Nat) : Int)).natAbs = m / 10 by omega, M.D_ge m (by omega)]
  simp
theorem tdiv10 (n : Int) : (n.tdiv 10).natAbs = n.natAbs / 10 ∧ (10 ≤ n → n.tdiv 10 = n / 10) ∧ (n ≤ -10 → n.tdiv 10 = -(-n / 10)) := by
  refine ⟨by rw [Int.natAbs_tdiv]; rfl, fun h => Int.tdiv_eq_ediv_of_nonneg (by omega), fun h => ?_⟩
  rw [show n.tdiv 10 = (-(-n)).tdiv 10 by rw [Int.neg_neg], Int.neg_tdiv, Int.tdiv_eq_ediv_of_nonneg (by omega)]
/-- a slice of one byte as text -/
theorem conv_one (W : World) (b : Nat) (x : Int) (h : W.cell? ⟨b, 0, none⟩ = some (.int .u8 x)) :
    (convert 44 9 (.slice (some ⟨b, 0, none⟩) 1 1)).run Try.prog W = .ok (.string (strOfNums [x])) W :=
  run_convert_bytes_arg W _ _ Try.underlying44 Try.underlying5 b 0 1 1 [x] rfl (fun i hi => by rw [show i = 0 by omega]; exact h) _ Try.underlying9
theorem cell_one (W : World) (x : Int) : (W.alloc (.cells #[.int .u8 x] 5)).cell? ⟨W.heap.size, 0, none⟩ = some (.int .u8 x) := by simp
theorem conv_later (w w1 : World) (x : Int) (t : TypeId) (hb : Below ((w.alloc (.cells #[.int .u8 x] t)).drew).heap.size ((w.alloc (.cells #[.int .u8 x] t)).drew) w1) :
    (convert 44 9 (.slice (some ⟨w.heap.size, 0, none⟩) 1 1)).run Try.prog w1 = .ok (.string (strOfNums [x])) w1 :=
  conv_one w1 w.heap.size x ((hb.cell (p := ⟨w.heap.size, 0, none⟩) (by simp)).trans (by simp))
theorem conv_drew (w : World) (x : Int) :
    (convert 44 9 (.slice (some ⟨w.heap.size, 0, none⟩) 1 1)).run Try.prog (w.alloc (.cells #[.int .u8 x] 5)).drew = .ok (.string (strOfNums [x])) (w.alloc (.cells #[.int .u8 x] 5)).drew :=
  conv_one _ w.heap.size x (by simp)
theorem below_a {w w1 : World} {o : Obj} (hb : Below w.drew.heap.size w.drew w1) : Below w.heap.size w (w1.alloc o) := by
  have h1 : Below w.heap.size w w.drew := ⟨rfl, rfl, rfl, Nat.le_refl _, fun _ _ => rfl⟩
  have h2 := h1.trans hb
  exact h2.alloc h2.size o
theorem below_b {w w1 : World} {o : Obj} (hb : Below ((w.alloc o).drew).heap.size ((w.alloc o).drew) w1) : Below w.heap.size w w1 :=
  ((Below.refl _ w).alloc (Nat.le_refl _) o).drew.trans (hb.mono (by simp))
theorem tmod10 (n : Int) : (0 ≤ n → 0 ≤ n.tmod 10 ∧ n.tmod 10 ≤ 9) ∧ (n ≤ 0 → -9 ≤ n.tmod 10 ∧ n.tmod 10 ≤ 0) := by
  constructor
  · intro h; rw [Int.tmod_eq_emod_of_nonneg h]; omega
  · intro h; rw [show n.tmod 10 = (-(-n)).tmod 10 by rw [Int.neg_neg], Int.neg_tmod, Int.tmod_eq_emod_of_nonneg (by omega)]; omega
theorem ret_str {a b : ByteArray} (h : a = b) : Ending.returned (.string a) = .returned (.string b) := by rw [h]
def Prt (w : World) (n : Int) (e : Ending) (w' : World) : Prop := e = .returned (.string (strOfNums (M.prt n))) ∧ Below w.heap.size w w'
set_option maxHeartbeats 2000000 in
theorem refPrint_any (k : Nat) : ∀ (n : Int) (w : World), n.natAbs ≤ k → -9223372036854775808 ≤ n → n ≤ 9223372036854775807 →
    Calls Try.prog 12 #[.int .i64 n] w (Prt w n) := by
  induction k using Nat.strongRecOn with
  | _ k ih =>
    intro n w hk h h'
    by_cases h1 : n < 0 ∧ -10 < n
    · have hp := M.prt_low n h1.1 h1.2
      unfold Prt
      rw [hp]; clear hp
      have hd1 : decide (n < 0) = true := by simp; omega
      have hd2 : decide (-10 < n) = true := by simp; omega
      go_enter Try.func12, Try.ntmps12
      have hcv := conv_one _ _ _ (cell_one w (48 - n))
      go_wp2
      go_ret
      exact ⟨ret_str (strOfNums_append [45] [48 - n]), (Below.refl _ w).alloc (Nat.le_refl _) _⟩
    by_cases h2 : n < 0
    · have hp := M.prt_deep n (by omega)
      unfold Prt
      rw [hp]; clear hp
      have hd1 : decide (n < 0) = true := by simp; omega
      have hd2 : decide (-10 < n) = false := by simp; omega
      have hq := tdiv10 n
      have hrb := tmod10 n
      have hih := fun w => ih (n.tdiv 10).natAbs (by omega) (n.tdiv 10) w (Nat.le_refl _) (by omega) (by omega)
      obtain ⟨q, hqe⟩ : ∃ q, n.tdiv 10 = q := ⟨_, rfl⟩
      obtain ⟨r, hre⟩ : ∃ r, n.tmod 10 = r := ⟨_, rfl⟩
      rw [hqe] at hq hih
      rw [hre] at hrb
      rw [hqe, hre]
      have hwq : IntKind.i64.wrap q = q := IntWalk.i64_in _ (by omega)
      have hwr : IntKind.i64.wrap r = r := IntWalk.i64_in _ (by omega)
      have hws : IntKind.i64.wrap (48 - r) = 48 - r := IntWalk.i64_in _ (by omega)
      have hwu : IntKind.u8.wrap (48 - r) = 48 - r := IntWalk.u8_in _ (by omega)
      have hcv := fun W => conv_one _ _ _ (cell_one W (48 - r))
      have hcd := fun W => conv_drew W (48 - r)
      have hsz : (strOfNums (M.prt q)).size ≤ 20 := by rw [strOfNums_size]; exact (M.prt_len q (by omega) (by omega)).2
      have hs1 : (strOfNums [48 - r]).size = 1 := by rw [strOfNums_size]; rfl
      have hln : ¬ 9223372036854775807 < (strOfNums (M.prt q)).size + (strOfNums [48 - r]).size := by omega
      have hlm : ¬ maxLen < (strOfNums (M.prt q)).size + (strOfNums [48 - r]).size := by unfold maxLen; omega
      clear hq hrb
      go_enter Try.func12, Try.ntmps12
      go_wp2
      go_region_with (first | (go_at_call 12; (with_reducible refine (hih _).mono ?_); rintro e w1 ⟨rfl, hb⟩; (first | (have hcw := conv_later _ _ _ _ hb) | skip)))
      all_goals go_wp2
      all_goals go_ret
      all_goals refine ⟨ret_str (strOfNums_append _ _), ?_⟩
      all_goals (first | exact below_a hb | exact below_b hb)
    have hd0 : decide (n < 0) = false := by simp; omega
    by_cases h3 : n < 10
    · have hp := M.prt_small n (by omega) h3
      unfold Prt
      rw [hp]; clear hp
      have hd2 : decide (n < 10) = true := by simp; omega
      have hcv := conv_one _ _ _ (cell_one w (48 + n))
      go_enter Try.func12, Try.ntmps12
      go_wp2
      go_ret
      exact ⟨rfl, (Below.refl _ w).alloc (Nat.le_refl _) _⟩
    · have hp := M.prt_big n (by omega)
      unfold Prt
      rw [hp]; clear hp
      have hd2 : decide (n < 10) = false := by simp; omega
      have hq := tdiv10 n
      have hrb := tmod10 n
      have hih := fun w => ih (n.tdiv 10).natAbs (by omega) (n.tdiv 10) w (Nat.le_refl _) (by omega) (by omega)
      obtain ⟨q, hqe⟩ : ∃ q, n.tdiv 10 = q := ⟨_, rfl⟩
      obtain ⟨r, hre⟩ : ∃ r, n.tmod 10 = r := ⟨_, rfl⟩
      rw [hqe] at hq hih
      rw [hre] at hrb
      rw [hqe, hre]
      have hwq : IntKind.i64.wrap q = q := IntWalk.i64_in _ (by omega)
      have hwr : IntKind.i64.wrap r = r := IntWalk.i64_in _ (by omega)
      have hws : IntKind.i64.wrap (48 + r) = 48 + r := IntWalk.i64_in _ (by omega)
      have hwu : IntKind.u8.wrap (48 + r) = 48 + r := IntWalk.u8_in _ (by omega)
      have hcv := fun W => conv_one _ _ _ (cell_one W (48 + r))
      have hcd := fun W => conv_drew W (48 + r)
      have hsz : (strOfNums (M.prt q)).size ≤ 20 := by rw [strOfNums_size]; exact (M.prt_len q (by omega) (by omega)).2
      have hs1 : (strOfNums [48 + r]).size = 1 := by rw [strOfNums_size]; rfl
      have hln : ¬ 9223372036854775807 < (strOfNums (M.prt q)).size + (strOfNums [48 + r]).size := by omega
      have hlm : ¬ maxLen < (strOfNums (M.prt q)).size + (strOfNums [48 + r]).size := by unfold maxLen; omega
      clear hq hrb
      go_enter Try.func12, Try.ntmps12
      go_wp2
      go_region_with (first | (go_at_call 12; (with_reducible refine (hih _).mono ?_); rintro e w1 ⟨rfl, hb⟩; (first | (have hcw := conv_later _ _ _ _ hb) | skip)))
      all_goals go_wp2
      all_goals go_ret
      all_goals refine ⟨ret_str (strOfNums_append _ _), ?_⟩
      all_goals (first | exact below_a hb | exact below_b hb)
end Go.Proofs.Ytkjfibdebfhhoaa
