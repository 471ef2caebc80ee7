/- The walk of NumOrder: a number's digits tell its sign, and longer ones the greater magnitude. -/
import Derived.Test.YtkjfibdebfhhoaaNumAlive
namespace Go.Proofs.Ytkjfibdebfhhoaa.numOrderWalk
open Go.RowKit Go.Shelf
theorem less_at (p r s : List UInt8) (x y : UInt8) (h : x < y) : Op.bytesLess (p ++ x :: r) (p ++ y :: s) = true := by
  induction p with
  | nil => simp [Op.bytesLess, h]
  | cons a p ih => simp [Op.bytesLess, ih]
theorem first_sign (n : Int) (h : 0 < (strOfNums (M.prt n)).size) : (((strOfNums (M.prt n))[0].toNat : Int) == 45) = decide (n < 0) := by
  have hb : strB (strOfNums (M.prt n)) = M.prt n := strB_strOfNums _ (fun x hx => by
    unfold M.prt at hx
    rw [List.mem_append] at hx
    rcases hx with hx | hx
    · split at hx <;> simp at hx; omega
    · have := M.D_digits _ x hx
      simp [M.isD] at this; omega)
  have h1 := strB_at _ 0 h
  rw [hb] at h1
  rw [← h1, Bool.eq_iff_iff, beq_iff_eq, decide_eq_true_iff]
  by_cases hn : n < 0
  · simp [M.prt, hn]
  · have h2 := M.sgn_fm (M.D n.natAbs) [] (M.fm_D _)
    rw [List.append_nil] at h2
    unfold M.sgn at h2
    simp only [M.prt, hn, if_false, List.nil_append, iff_false]
    intro h3
    rw [if_pos h3] at h2
    omega
set_option maxRecDepth 100000 in
set_option maxHeartbeats 2000000 in
theorem walk (a0 : Int) (a1 : Int) (w : World) (w0 : (Lit.int .i64 a0).wf = true) (w1 : (Lit.int .i64 a1).wf = true) :
    Calls Try.prog 7 #[.int .i64 a0, .int .i64 a1] w fun e w' => e = .returned (.bool true) ∧ Below w.heap.size w w' := by
  obtain ⟨l0, u0⟩ := wf_i64 w0
  obtain ⟨l1, u1⟩ := wf_i64 w1
  have hal := numAlive_any w
  have hp := fun w => numPrint_any a0 w l0 u0
  have hq := fun w => numPrint_any a1 w l1 u1
  unfold Prt at hp hq
  have hl := M.prt_len a0 l0 u0
  have hs := first_sign a0
  rw [← strOfNums_size] at hl
  obtain ⟨t, ht⟩ : ∃ t, strOfNums (M.prt a0) = t := ⟨_, rfl⟩
  obtain ⟨u, hu⟩ : ∃ u, strOfNums (M.prt a1) = u := ⟨_, rfl⟩
  simp only [ht] at hp hl hs
  simp only [hu] at hq
  have hs := hs hl.1
  have hne : ¬ t = ByteArray.empty := fun h => by rw [h] at hl; exact absurd hl.1 (by decide)
  have hz : ((t.size : Int) == 0) = false := by have := hl.1; simp; exact hne
  have hd20 : decide (20 < (t.size : Int)) = false := by simp; omega
  obtain ⟨b1, b2, b3, e1, e2, e3, hb⟩ : ∃ b1 b2 b3, decide (a0 < 0) = b1 ∧ decide (a1 < 0) = b2 ∧ decide (a1 < a0) = b3 ∧ (b1 = true ∨ (b1 = false ∧ b2 = true) ∨ (b1 = false ∧ b2 = false ∧ b3 = true) ∨ (0 ≤ a0 ∧ a0 ≤ a1 ∧ b1 = false ∧ b2 = false ∧ b3 = false)) := by
    refine ⟨_, _, _, rfl, rfl, rfl, ?_⟩
    simp only [decide_eq_true_iff, decide_eq_false_iff_not]; omega
  rcases hb with rfl | ⟨rfl, rfl⟩ | ⟨rfl, rfl, rfl⟩ | ⟨hn0, hn1, rfl, rfl, rfl⟩
  rotate_right
  · rcases Int.lt_or_eq_of_le hn1 with hlt | rfl
    · have hm := M.D_mono a0.natAbs a1.natAbs (by omega)
      have hs0 : (M.D a0.natAbs).length = t.size := by rw [← ht, strOfNums_size]; simp [M.prt, show ¬ a0 < 0 by omega]
      have hs1 : (M.D a1.natAbs).length = u.size := by rw [← hu, strOfNums_size]; simp [M.prt, show ¬ a1 < 0 by omega]
      rw [hs0, hs1] at hm
      have hul := M.prt_len a1 l1 u1
      rw [← strOfNums_size, hu] at hul
      rcases hm with hm | ⟨hm, p, x, y, r, s, ex, ey, hxy⟩
      · have hd : decide (t.size < u.size) = true := by simpa using hm
        go_enter Try.func7, Try.ntmps7
        go_wp2_with (first
          | (go_at_call 8; (with_reducible refine hal.mono ?_); rintro e w2 ⟨rfl, hB⟩)
          | (go_at_call 11; (first | with_reducible refine (hp _).mono ?_ | with_reducible refine (hq _).mono ?_); rintro e w3 ⟨rfl, hbq⟩; have hB := hB.trans (hbq.mono hB.size)))
        go_ret
        exact ⟨rfl, hB⟩
      · have hd : decide (t.size < u.size) = false := by simp; omega
        have hd2 : ((t.size : Int) == (u.size : Int)) = true := by simp; omega
        have hne2 : ¬ u = ByteArray.empty := fun h => by rw [h] at hul; exact absurd hul.1 (by decide)
        have hz2 : ((u.size : Int) == 0) = false := by simp; exact hne2
        have hd22 : decide (20 < (u.size : Int)) = false := by simp; omega
        have hls : Op.bytesLess t.toList u.toList = true := by
          rw [← ht, ← hu, toList_data, toList_data, strOfNums_data, strOfNums_data]
          unfold M.prt
          rw [if_neg (by omega), if_neg (by omega), ex, ey]
          simp only [List.nil_append, List.map_append, List.map_cons]
          have hdx := M.D_digits a0.natAbs x (by rw [ex]; simp)
          have hdy := M.D_digits a1.natAbs y (by rw [ey]; simp)
          simp [M.isD] at hdx hdy
          exact less_at _ _ _ _ _ (by rw [UInt8.lt_iff_toNat_lt, UInt8.toNat_ofNat', UInt8.toNat_ofNat']; omega)
        go_enter Try.func7, Try.ntmps7
        go_wp2_with (first
          | (go_at_call 8; (with_reducible refine hal.mono ?_); rintro e w2 ⟨rfl, hB⟩)
          | (go_at_call 11; (first | with_reducible refine (hp _).mono ?_ | with_reducible refine (hq _).mono ?_); rintro e w3 ⟨rfl, hbq⟩; have hB := hB.trans (hbq.mono hB.size)))
        go_ret
        exact ⟨rfl, hB⟩
    · obtain rfl : t = u := by rw [← ht, hu]
      clear hq
      go_enter Try.func7, Try.ntmps7
      go_wp2_with (first
        | (go_at_call 8; (with_reducible refine hal.mono ?_); rintro e w2 ⟨rfl, hB⟩)
        | (go_at_call 11; (with_reducible refine (hp _).mono ?_); rintro e w3 ⟨rfl, hbq⟩; have hB := hB.trans (hbq.mono hB.size)))
      go_ret
      exact ⟨rfl, hB⟩
  all_goals
    go_enter Try.func7, Try.ntmps7
    go_wp2_with (first
      | (go_at_call 8; (with_reducible refine hal.mono ?_); rintro e w2 ⟨rfl, hB⟩)
      | (go_at_call 11; (first | with_reducible refine (hp _).mono ?_ | with_reducible refine (hq _).mono ?_); rintro e w3 ⟨rfl, hbq⟩; have hB := hB.trans (hbq.mono hB.size)))
    go_ret
    exact ⟨rfl, hB⟩
end Go.Proofs.Ytkjfibdebfhhoaa.numOrderWalk
