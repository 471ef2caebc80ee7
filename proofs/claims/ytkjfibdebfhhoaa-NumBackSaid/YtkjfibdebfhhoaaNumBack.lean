/- The walk of NumBack: what is printed is read again, and what is read is what would be printed. -/
import Derived.Test.YtkjfibdebfhhoaaNumAlive
namespace Go.Proofs.Ytkjfibdebfhhoaa.numBackWalk
open Go.RowKit Go.Shelf
theorem parse_bd (l : List Int) : -9223372036854775808 ≤ (M.parse l).1 ∧ (M.parse l).1 ≤ 9223372036854775807 := by
  unfold M.parse M.sg
  repeat' split
  all_goals (simp; try omega)
theorem prt_bytes (n : Int) : ∀ x ∈ M.prt n, 0 ≤ x ∧ x ≤ 255 := by
  intro x hx
  unfold M.prt at hx
  rw [List.mem_append] at hx
  rcases hx with hx | hx
  · split at hx <;> simp at hx; omega
  · have := M.D_digits _ x hx
    simp [M.isD] at this; omega
set_option maxRecDepth 100000 in
set_option maxHeartbeats 2000000 in
theorem walk (a0 : Int) (a1 : ByteArray) (w : World) (w0 : (Lit.int .i64 a0).wf = true) (w1 : a1.size ≤ maxLen) :
    Calls Try.prog 5 #[.int .i64 a0, .string a1] w fun e w' => e = .returned (.bool true) ∧ Below w.heap.size w w' := by
  obtain ⟨l0, u0⟩ := wf_i64 w0
  have hal := numAlive_any w
  by_cases h0 : 300 < a1.size
  · have d0 : decide (300 < a1.size) = true := by simpa using h0
    unfold maxLen at w1
    go_enter Try.func5, Try.ntmps5
    go_wp2_with (first
      | (go_at_call 8; (with_reducible refine hal.mono ?_); rintro e w2 ⟨rfl, hB⟩))
    go_ret
    exact ⟨rfl, hB⟩
  have d0 : decide (300 < a1.size) = false := by simpa using h0
  have hpr := fun w => numPrint_any a0 w l0 u0
  unfold Prt at hpr
  have htl := (M.prt_len a0 l0 u0).2
  have htb := strB_strOfNums _ (prt_bytes a0)
  have hpp := M.parse_prt a0 l0 u0
  have hsp := M.scan_prt a0 (strB a1) l0 u0
  rw [← strOfNums_size] at htl hsp
  obtain ⟨t, ht⟩ : ∃ t, strOfNums (M.prt a0) = t := ⟨_, rfl⟩
  simp only [ht] at hpr htl htb hsp
  have h1 := fun w => numParse_any t w (by unfold maxLen; omega)
  rw [htb, hpp] at h1
  have h2 := fun w => numParse_any a1 w w1
  have h3 := fun w => numScan_any (t ++ ByteArray.mk #[120] ++ a1) 0 w (by simp only [ByteArray.size_append]; unfold maxLen; have : (ByteArray.mk #[120]).size = 1 := rfl; omega) (by omega) (by omega)
  rw [strB_append, strB_append, htb, show strB (ByteArray.mk #[120]) = [120] from rfl, List.append_assoc, show [120] ++ strB a1 = 120 :: strB a1 from rfl, hsp] at h3
  have hb := parse_bd (strB a1)
  have hx := M.prt_parse (strB a1)
  have hy := M.parse_err (strB a1)
  obtain ⟨⟨x, f⟩, hg⟩ : ∃ g, M.parse (strB a1) = g := ⟨_, rfl⟩
  simp only [hg] at h1 h2 h3 hb hx hy
  clear hg hpp hsp htb ht
  unfold maxLen at w1
  by_cases hf : f = 0
  · subst hf
    have hx := congrArg strOfNums (hx rfl)
    rw [strOfNums_strB] at hx
    have h4 := fun w => numPrint_any x w hb.1 hb.2
    unfold Prt at h4
    rw [hx] at h4
    clear hx hy
    go_enter Try.func5, Try.ntmps5
    go_wp2_with (first
      | (go_at_call 8; (with_reducible refine hal.mono ?_); rintro e w2 ⟨rfl, hB⟩)
      | (go_at_call 11; (first | with_reducible refine (hpr _).mono ?_ | with_reducible refine (h4 _).mono ?_); rintro e w3 ⟨rfl, hbq⟩; have hB := hB.trans (hbq.mono hB.size))
      | (go_at_call 13; (first | with_reducible refine (h1 _).mono ?_ | with_reducible refine (h2 _).mono ?_); rintro e w' ⟨rfl, rfl⟩)
      | (go_at_call 15; (with_reducible refine (h3 _).mono ?_); rintro e w' ⟨rfl, rfl⟩))
    go_ret
    exact ⟨rfl, hB⟩
  · have hx0 := hy hf
    subst hx0
    have df : (f != 0) = true := by simpa using hf
    clear hx hy
    go_enter Try.func5, Try.ntmps5
    go_wp2_with (first
      | (go_at_call 8; (with_reducible refine hal.mono ?_); rintro e w2 ⟨rfl, hB⟩)
      | (go_at_call 11; (with_reducible refine (hpr _).mono ?_); rintro e w3 ⟨rfl, hbq⟩; have hB := hB.trans (hbq.mono hB.size))
      | (go_at_call 13; (first | with_reducible refine (h1 _).mono ?_ | with_reducible refine (h2 _).mono ?_); rintro e w' ⟨rfl, rfl⟩)
      | (go_at_call 15; (with_reducible refine (h3 _).mono ?_); rintro e w' ⟨rfl, rfl⟩))
    go_ret
    exact ⟨rfl, hB⟩
end Go.Proofs.Ytkjfibdebfhhoaa.numBackWalk
