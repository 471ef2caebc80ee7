/- The walk of NumParses: the number of every text, and at every place of it, or the error, is the document's. -/
import Derived.Test.YtkjfibdebfhhoaaNumAlive
namespace Go.Proofs.Ytkjfibdebfhhoaa.numParsesWalk
open Go.RowKit Go.Shelf
set_option maxHeartbeats 1000000 in
theorem walk (a0 : ByteArray) (a1 : Int) (w : World) (w0 : a0.size ≤ maxLen) (w1 : (Lit.int .i64 a1).wf = true) :
    Calls Try.prog 4 #[.string a0, .int .i64 a1] w fun e w' => e = .returned (.bool true) ∧ Below w.heap.size w w' := by
  obtain ⟨l1, u1⟩ := wf_i64 w1
  have hal := numAlive_any w
  have hp := fun w => numParse_any a0 w w0
  have hq := fun w => refParse_any a0 w w0
  have hs := fun w => numScan_any a0 a1 w w0 l1 u1
  have ht := fun w => refScan_any a0 a1 w w0 l1 u1
  obtain ⟨⟨p1, p2⟩, hpe⟩ : ∃ g, M.parse (strB a0) = g := ⟨_, rfl⟩
  obtain ⟨⟨s1, s2, s3⟩, hse⟩ : ∃ g, M.scan (strB a0) a1 = g := ⟨_, rfl⟩
  simp only [hpe] at hp hq
  simp only [hse] at hs ht
  clear hpe hse
  unfold maxLen at w0
  by_cases h0 : 300 < a0.size
  · have d0 : decide (300 < a0.size) = true := by simpa using h0
    go_enter Try.func4, Try.ntmps4
    go_wp2_with (first
      | (go_at_call 8; (with_reducible refine hal.mono ?_); rintro e w1 ⟨rfl, hb1⟩))
    go_ret
    exact ⟨rfl, hb1⟩
  · have d0 : decide (300 < a0.size) = false := by simpa using h0
    go_enter Try.func4, Try.ntmps4
    go_wp2_with (first
      | (go_at_call 8; (with_reducible refine hal.mono ?_); rintro e w1 ⟨rfl, hb1⟩)
      | (go_at_call 13; (with_reducible refine (hp _).mono ?_); rintro e w' ⟨rfl, rfl⟩)
      | (go_at_call 14; (with_reducible refine (hq _).mono ?_); rintro e w' ⟨rfl, rfl⟩)
      | (go_at_call 15; (with_reducible refine (hs _).mono ?_); rintro e w' ⟨rfl, rfl⟩)
      | (go_at_call 16; (with_reducible refine (ht _).mono ?_); rintro e w' ⟨rfl, rfl⟩))
    go_ret
    exact ⟨rfl, hb1⟩
end Go.Proofs.Ytkjfibdebfhhoaa.numParsesWalk
