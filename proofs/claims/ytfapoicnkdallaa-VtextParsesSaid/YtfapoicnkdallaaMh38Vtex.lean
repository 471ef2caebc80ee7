/- The document's answer for layer 1: Codes and Text. -/
import Derived.Test.YtfapoicnkdallaaMh37Vtex
import Derived.Lib.ConvBytes
namespace Go.Proofs.Ytfapoicnkdallaa
open Go.RowKit Go.Shelf
set_option maxRecDepth 100000 in
set_option maxHeartbeats 2000000 in
theorem refCodes_any (s : ByteArray) (w : World) (hsm : s.size ≤ 1099511627776) :
    Calls Try.prog 71 #[.string s] w (Cds w s) := by
  obtain ⟨i0, hi, hz0, hz1, hz2⟩ := info_parts info_int
  have hmx : s.size ≤ maxLen := by unfold maxLen; omega
  go_enter Try.func71, Try.ntmps71
  go_wp2
  go_loopw [4, 5, 6, 7, 8] (fun o i _ _ _ wr => ∃ (p f : Nat) (pre : List (Int × Nat)) (v : Value), p ≤ s.size ∧ i = .int .i64 p ∧ v = o ∧ wr.ownsRow w.heap.size 3 1 v pre.length (i64s (pre.map (·.1))) ∧ Below w.heap.size w wr ∧
      pre ++ U.cds f (strB s) p = U.cds s.size (strB s) 0 ∧ s.size ≤ p + f ∧ pre.length ≤ p ∧ U.lastEnd pre = p)
    (fun _ i _ _ _ _ => s.size - (intOf i).toNat)
  case atStart => exact ⟨0, s.size, [], _, Nat.zero_le _, rfl, rfl, World.ownsRow_nil _ _ _ _, Below.refl _ _, rfl, by omega, by simp, rfl⟩
  case round =>
    obtain ⟨p, f, pre, v, hp, rfl, rfl, hown, hB, hcd, hpf, hpl, hle⟩ := hrel
    have HC := Lib.hid hcd; clear hcd
    have HE := Lib.hid hle; clear hle
    by_cases hlt : p < s.size
    · obtain ⟨cap, w1, hcv, hrow, hb1⟩ := conv_bytes wr s hmx
      have hget := refGet_any _ _ _ _ (p : Int) w1 hrow (strB_bytes s) (by omega) (by omega)
      have hle := U.getAt_le (strB s) p (by rw [strB_len]; exact hp)
      rw [strB_len] at hle
      have hcs := cds_step (f - 1) (strB s) p
      have hcn := cds_stop (f - 1) (strB s) p
      obtain ⟨c, m, hcm⟩ := pair_eta (getAt (strB s) (p : Int))
      simp only [hcm] at hle hget hcs hcn
      have HM := Lib.hid hcm; clear hcm
      have hf : f = f - 1 + 1 := by omega
      have hown1 := ownsRow_below hown hb1
      by_cases hm : 0 < m
      · have HD : Hid ((pre ++ [(c, p + m)]) ++ U.cds (f - 1) (strB s) (p + m) = U.cds s.size (strB s) 0) := Lib.hid (by
          rw [← HC.out, hf, hcs hm]; simp)
        clear hcs hcn
        have HF := Lib.hid hf; clear hf
        have hd : decide (0 < m) = true := by simpa using hm
        go_wp2_with (first
          | (go_at_call 81; refine hget.mono ?_; rintro e w2 ⟨rfl, hb2⟩; have hown2 := (ownsRow_below hown1 hb2).alloc (.cells #[.int .i64 c] 3))
          | (at_builtin; refine wpList_append_own _ rfl _ _ 83 rfl w.heap.size 3 i0 (.int .i64 0) 1 8 Try.underlying83 hi hz0 hz1 hz2 rfl (by decide) v _ _ rfl hown2 ⟨w2.heap.size, 0, none⟩ 1 1 [.int .i64 c] rfl rfl (cells_new _ [_] _) (by simp [Value.oneCell']) ?b1 ?b2 ?b3 ?_))
        case b1 => unfold maxLen; omega
        case b2 => omega
        case b3 => have := hB.size; have := hb1.size; have := hb2.size; simp; omega
        intro v' w3 hown3 hg _
        have hbl : Below w.heap.size w w3 := (((hB.trans (hb1.mono hB.size)).trans (hb2.mono (Nat.le_trans hB.size hb1.size))).alloc (by have := hB.size; have := hb1.size; have := hb2.size; omega) _).trans (below_grown hg hown2 (by have := hB.size; have := hb1.size; have := hb2.size; simp; omega))
        have HV := Lib.hid hown3; clear hown3 hown2 hown1 hown hcv
        go_wp2
        go_roundw
        case rel => exact ⟨p + m, f - 1, pre ++ [(c, p + m)], v', hle.1, by go_num, rfl, ownsRow_nth HV.out (by simp) (by simp [i64s]), hbl, HD.out, by omega, by simp; omega, U.lastEnd_snoc _ _⟩
        case measure => simp [intOf]; omega
      · have hm0 : m = 0 := by omega
        subst hm0
        have HD : Hid (pre = U.cds s.size (strB s) 0) := Lib.hid (by rw [← HC.out, hf, hcn hm, List.append_nil])
        clear hcs hcn hf
        have hd : decide (0 < 0) = false := by simp
        go_wp2_with (first
          | (go_at_call 81; refine hget.mono ?_; rintro e w2 ⟨rfl, hb2⟩; have hown2 := ownsRow_below hown1 hb2))
        go_ret2
        exact ⟨v, by rw [← HD.out, HE.out]; rfl, by rw [← HD.out]; exact hown2, (hB.trans (hb1.mono hB.size)).trans (hb2.mono (Nat.le_trans hB.size hb1.size))⟩
    · obtain rfl : p = s.size := by omega
      have HD : Hid (pre = U.cds s.size (strB s) 0) := Lib.hid (by
        rw [← HC.out]
        cases f with
        | zero => simp [U.cds]
        | succ f => rw [cds_stop f _ _ (by unfold getAt; rw [if_neg (by rw [strB_len]; omega)]; simp), List.append_nil])
      go_wp2
      go_ret2
      exact ⟨v, by rw [← HD.out, HE.out]; rfl, by rw [← HD.out]; exact hown, hB⟩
end Go.Proofs.Ytfapoicnkdallaa
