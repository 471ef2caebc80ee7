/- Package bin: Read (bytes.Clone). -/
import Derived.Test.YtihpalbmkcoalaaBinRead
import Derived.Test.YtihpalbmkcoalaaBinPut
namespace Go.Proofs.Ytihpalbmkcoalaa
open Go.RowKit Go.Shelf
attribute [local go_sem] Oper.semAt_some
set_option maxRecDepth 100000 in
set_option maxHeartbeats 1000000 in
theorem bclone_any (a : Option Addr) (n c : Nat) (l : List Int) (w : World) (h : Row w .u8 a n c l) (hn : n ≤ 1000000000) : Calls Try.prog 57 #[.slice a n c] w (Got w l) := by
  obtain ⟨i0, hi, hz0, hz1, hz2⟩ := info_parts info_u8
  have hnil := fun w a n c => Lib.run_eql_slice_nil (P := Try.prog) w 27 5 a n c 0 0 Try.underlying27
  have hlen := h.1
  cases a with
  | none =>
    obtain rfl : n = 0 := by rcases h.2.2.2 with h | ⟨_, _, h, _⟩ <;> first | exact h | cases h
    obtain rfl : l = [] := List.length_eq_zero_iff.1 hlen
    clear hi
    go_enter Try.func57, Try.ntmps57
    go_wp2
    go_ret
    exact ⟨_, rfl, World.ownsRow_nil _ _ _ _, Below.refl _ _⟩
  | some ad =>
    have hA := (Below.refl _ w).alloc (Nat.le_refl _) (.cells #[] 5)
    have hr := row_below h hA rfl
    have ho := owns_built w [] 5 0 rfl (by unfold maxLen; omega)
    have HR := Lib.hid hr; have HL := Lib.hid hlen
    clear h hr hlen
    go_enter Try.func57, Try.ntmps57
    go_wp2_with (first
      | (at_builtin; refine wpList_append_cells _ rfl _ _ 27 rfl w.heap.size 5 i0 (.int .u8 0) 1 1 Try.underlying27 hi hz0 hz1 hz2 rfl (by decide) (.slice (some ⟨w.heap.size, 0, none⟩) 0 0) 0 [] rfl ho (some ad) n c (u8s l) rfl (cells_of_row HR.out) (by simp [u8s, Value.oneCell']) (by unfold maxLen; omega) (by omega) (by simp) ?_; intro v1 w1 hown1 hg1))
    go_ret
    exact ⟨_, rfl, ownsRow_nth hown1 (by rw [HL.out]; omega) rfl, hA.trans ((below_grown hg1 ho (by simp)))⟩
theorem u8_own {w : World} {base : Nat} {a : Option Addr} {n m c : Nat} {xs : List Value} (h : w.ownsRow base 5 1 (.slice a m c) n xs) : U8 w a := fun ad e => by
  subst e
  rcases h.2 with ⟨h1, _⟩ | ⟨g, cap, cur, h1, _, hg, _⟩
  · cases h1
  · cases h1; exact ⟨_, _, hg⟩
set_option maxHeartbeats 1000000 in
theorem rdRead_any (a : Option Addr) (n c : Nat) (l : List Int) (w : World) (h : Row w .u8 a n c l) (hb : Bytes l) (hn : n ≤ 1000000000) :
    Calls Try.prog 28 #[.slice a n c] w fun e w' => ∃ p, e = .returned (.pointer (some ⟨p, 0, none⟩)) ∧ w.heap.size ≤ p ∧ RD w' p (some l) ∧ Below w.heap.size w w' := by
  have hC := bclone_any a n c l w h hn
  have HB := Lib.hid hb
  clear h hb
  go_enter Try.func28, Try.ntmps28
  go_wp2_with (first | (go_at_call 57; (with_reducible refine hC.mono ?_); rintro e w1 ⟨v1, rfl, ho1, hb1⟩; obtain ⟨a1, cap1, rfl, hr1⟩ := got_row ho1 rfl; have hu1 := u8_own ho1))
  go_ret
  have hA := (Below.refl _ w1).alloc (Nat.le_refl _) (.cells #[.slice a1 l.length cap1, .bool false] 53)
  exact ⟨_, rfl, hb1.size, ⟨a1, cap1, World.alloc_heap_new w1 _, row_below hr1 hA rfl, HB.out, u8_below hu1 hA⟩, hb1.trans (hA.mono hb1.size)⟩
end Go.Proofs.Ytihpalbmkcoalaa
