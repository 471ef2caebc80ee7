/- The walk of SumLinear: a table's number at two places put together is the two numbers put together. -/
import Derived.Test.YtchjipkfdnfgpaaSumAlive
import Derived.Deep.QuietTactic
import Derived.BigQuiet
namespace Go.Proofs.Ytchjipkfdnfgpaa.sumLinearWalk
open Go.RowKit Go.Shelf
theorem wf_u8' {n : Int} (h : (Lit.int .u8 n).wf = true) : ∃ k : Nat, n = (k : Int) ∧ k < 256 := by
  obtain ⟨h0, h1⟩ := wf_u8 h
  exact ⟨n.toNat, by omega, by omega⟩
set_option maxRecDepth 100000 in
set_option maxHeartbeats 2000000 in
theorem walk (a0 : Int) (a1 : Int) (a2 : Int) (w : World) (w0 : (Lit.int .i64 a0).wf = true) (w1 : (Lit.int .u8 a1).wf = true) (w2 : (Lit.int .u8 a2).wf = true) :
    Calls Try.prog 7 #[.int .i64 a0, .int .u8 a1, .int .u8 a2] w fun e w' => e = .returned (.bool true) ∧ Below w.heap.size w w' := by
  obtain ⟨l0, u0⟩ := wf_i64 w0
  obtain ⟨x, rfl, hx⟩ := wf_u8' w1
  obtain ⟨y, rfl, hy⟩ := wf_u8' w2
  clear w0 w1 w2
  have hal := fun W => sumAlive_any W
  by_cases hn : S.num a0 = true
  · obtain ⟨h0, h1⟩ := (S.num_iff a0).1 hn
    obtain ⟨p, rfl⟩ := Int.eq_ofNat_of_zero_le h0
    have hp : p < 4294967296 := by omega
    have hmk : ∀ W, Calls Try.prog 9 #[.int .i64 (p : Int)] W fun e w' => ∃ a cap, e = .returned (.slice a 256 cap) ∧ Row w' .i64 a 256 cap (S.mk p) ∧ Below W.heap.size W w' := fun W =>
      (make_any p W l0 u0).mono fun e w' h => by
        obtain ⟨a, cap, h1, h2, h3⟩ := made_row h
        have e1 : S.make (p : Int) = S.mk p := by unfold S.make; rw [if_pos hn, Int.toNat_natCast]
        rw [e1] at h1 h2
        rw [S.mk_len] at h1 h2
        exact ⟨a, cap, h1, h2, h3⟩
    have ex : bits .xor .u8 (x : Int) (y : Int) = ((x ^^^ y : Nat) : Int) := u8_xor_nat x y hx hy
    have hz : x ^^^ y < 256 := S.xor_lt8 hx hy
    have e0 := S.mk_at p 0 (by omega)
    rw [S.row_zero] at e0
    have e1 := S.mk_at p x hx
    have e2 := S.mk_at p y hy
    have e3 := S.mk_at p (x ^^^ y) hz
    rw [S.row_xor] at e3
    have r1 := S.row_lt (p := p) (x := x) hp (by omega)
    have r2 := S.row_lt (p := p) (x := y) hp (by omega)
    have ei := S.xorI64 _ _ r1 r2
    generalize x ^^^ y = z at *
    generalize S.row p x = rx at *
    generalize S.row p y = ry at *
    have E0 := Lib.hid e0; have E1 := Lib.hid e1; have E2 := Lib.hid e2; have E3 := Lib.hid e3
    clear e0 e1 e2 e3 hn
    go_enter Try.func7, Try.ntmps7
    go_wp2_with (first
      | (go_at_call 8; (with_reducible refine (hal _).mono ?_); rintro e wA ⟨rfl, hA⟩)
      | (go_at_call 9; (with_reducible refine (hmk _).mono ?_); rintro e wu ⟨a, cap, rfl, hu, hbu⟩; have hU := hA.trans (hbu.mono hA.size)))
    obtain ⟨h1, h2, h3, h4⟩ := hu
    rcases h4 with h0 | ⟨b, off, rfl, hc⟩
    · omega
    have c0 : wu.cell? ⟨b, off, none⟩ = some (.int .i64 0) := by have := hc 0 (by omega); rw [E0.out] at this; exact this
    have c1 := hc x hx
    rw [E1.out] at c1
    have c2 := hc y hy
    rw [E2.out] at c2
    have c3 := hc z hz
    rw [E3.out] at c3
    clear hc h1
    go_quiet (fail)
    go_wp2
    go_ret
    exact ⟨rfl, below_drewN hU _⟩
  · have hmk : ∀ W, Calls Try.prog 9 #[.int .i64 a0] W fun e w' => ∃ a cap, e = .returned (.slice a 0 cap) ∧ Below W.heap.size W w' := fun W =>
      (make_any a0 W l0 u0).mono fun e w' h => by
        obtain ⟨a, cap, h1, h2, h3⟩ := made_row h
        have e1 : S.make a0 = [] := by unfold S.make; rw [if_neg hn]
        rw [e1] at h1
        exact ⟨a, cap, h1, h3⟩
    rw [S.num_iff] at hn
    by_cases h0 : a0 < 0
    · have d0 : decide (a0 < 0) = true := by simpa using h0
      clear hn
      go_enter Try.func7, Try.ntmps7
      go_wp2_with (first
        | (go_at_call 8; (with_reducible refine (hal _).mono ?_); rintro e wA ⟨rfl, hA⟩)
        | (go_at_call 9; (with_reducible refine (hmk _).mono ?_); rintro e wu ⟨a, cap, rfl, hbu⟩; have hU := hA.trans (hbu.mono hA.size)))
      go_ret
      exact ⟨rfl, hU⟩
    · have d0 : decide (a0 < 0) = false := by simpa using h0
      have d1 : decide (4294967295 < a0) = true := by simp; omega
      clear hn
      go_enter Try.func7, Try.ntmps7
      go_wp2_with (first
        | (go_at_call 8; (with_reducible refine (hal _).mono ?_); rintro e wA ⟨rfl, hA⟩)
        | (go_at_call 9; (with_reducible refine (hmk _).mono ?_); rintro e wu ⟨a, cap, rfl, hbu⟩; have hU := hA.trans (hbu.mono hA.size)))
      go_ret
      exact ⟨rfl, hU⟩
end Go.Proofs.Ytchjipkfdnfgpaa.sumLinearWalk
