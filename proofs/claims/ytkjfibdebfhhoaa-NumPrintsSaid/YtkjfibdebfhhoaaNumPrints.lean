/- The walk of NumPrints: every number's digits, and every sum, are the document's. -/
import Derived.Test.YtkjfibdebfhhoaaNumAlive
namespace Go.Proofs.Ytkjfibdebfhhoaa.numPrintsWalk
open Go.RowKit Go.Shelf
set_option maxHeartbeats 1000000 in
theorem walk (a0 : Int) (a1 : Int) (w : World) (w0 : (Lit.int .i64 a0).wf = true) (w1 : (Lit.int .i64 a1).wf = true) :
    Calls Try.prog 3 #[.int .i64 a0, .int .i64 a1] w fun e w' => e = .returned (.bool true) ∧ Below w.heap.size w w' := by
  obtain ⟨l0, u0⟩ := wf_i64 w0
  obtain ⟨l1, u1⟩ := wf_i64 w1
  have hal := numAlive_any w
  have ha := fun w => numAdd_any a0 a1 w l0 u0 l1 u1
  have hb := fun w => refAdd_any a0 a1 w l0 u0 l1 u1
  have hp := fun w => numPrint_any a0 w l0 u0
  have hr := fun w => refPrint_any a0.natAbs a0 w (Nat.le_refl _) l0 u0
  unfold Prt at hp hr
  obtain ⟨g, hg⟩ : ∃ g, M.add a0 a1 = g := ⟨_, rfl⟩
  obtain ⟨t, ht⟩ : ∃ t, strOfNums (M.prt a0) = t := ⟨_, rfl⟩
  simp only [hg] at ha hb
  simp only [ht] at hp hr
  clear hg ht
  obtain ⟨g1, g2⟩ := g
  go_enter Try.func3, Try.ntmps3
  go_wp2_with (first
    | (go_at_call 8; (with_reducible refine hal.mono ?_); rintro e w1 ⟨rfl, hb1⟩)
    | (go_at_call 9; (with_reducible refine (ha _).mono ?_); rintro e w' ⟨rfl, rfl⟩)
    | (go_at_call 10; (with_reducible refine (hb _).mono ?_); rintro e w' ⟨rfl, rfl⟩)
    | (go_at_call 11; (with_reducible refine (hp _).mono ?_); rintro e w2 ⟨rfl, hb2⟩)
    | (go_at_call 12; (with_reducible refine (hr _).mono ?_); rintro e w3 ⟨rfl, hb3⟩))
  go_ret
  exact ⟨rfl, hb1.trans ((hb2.trans (hb3.mono hb2.size)).mono hb1.size)⟩
end Go.Proofs.Ytkjfibdebfhhoaa.numPrintsWalk
