/- The document's order of values: Compare, Same. -/
import Derived.Test.YtfapoicnkdallaaMh41Thre
import Derived.Test.YtfapoicnkdallaaMh13Thre
import Derived.Deep.RegionHeld3
import Derived.Test.YtfapoicnkdallaaMh36Thre
namespace Go.Proofs.Ytfapoicnkdallaa
open Go.RowKit Go.Shelf
attribute [local go_sem] Oper.semAt_some
theorem same_bool (v v' : PV) : (cmpV v v' == 0) = true ↔ v = v' := by
  rw [beq_iff_eq]; exact cmpV_zero v v'
end Go.Proofs.Ytfapoicnkdallaa

/- Layer 14: the document's examples (alive); a value's shape. -/
set_option linter.unusedVariables false
set_option linter.unusedSimpArgs false
namespace Go.Proofs.Ytfapoicnkdallaa
open Go.RowKit Go.Shelf
theorem is_shape {w : World} {k n : Int} {s : ByteArray} {l : List PV} {d0 d1 : Int} {d2 : ByteArray} {a : Option Addr} {len cap : Nat} (h : Is w (.mk k n s l) (.agg #[.int .i64 d0, .int .i64 d1, .string d2, .slice a len cap])) : d0 = k ∧ d1 = n ∧ d2 = s ∧ len = l.length ∧ (l = [] ∨ ∃ b off, a = some ⟨b, off, none⟩ ∧ IsL w b l off) := by
  unfold Is at h
  obtain ⟨_, _, _, a', cap', e, _, _, h6⟩ := h
  simp only [Value.agg.injEq, Array.mk.injEq, List.cons.injEq, and_true, Value.int.injEq, Value.string.injEq, Value.slice.injEq, true_and] at e
  obtain ⟨rfl, rfl, rfl, rfl, rfl, rfl⟩ := e
  exact ⟨rfl, rfl, rfl, rfl, h6⟩
theorem ex14a : Vt.parse (strB ⟨#[91, 49, 32, 39, 97, 93]⟩) = (.mk 5 0 ⟨#[]⟩ [.mk 2 1 ⟨#[]⟩ [], .mk 3 0 ⟨#[97]⟩ []], 6, 0) := by kernel_rfl
theorem ex14b : Vt.parse (strB ⟨#[91, 49, 32, 32, 50, 93]⟩) = (.mk 0 0 ⟨#[]⟩ [], 3, 2) := by kernel_rfl
theorem ex14c : Vt.scan (strB ⟨#[97, 34, 98, 34, 99]⟩) 1 = (.mk 4 0 ⟨#[98]⟩ [], 4, 0) := by kernel_rfl
set_option maxRecDepth 100000 in
set_option maxHeartbeats 4000000 in
theorem vtAlive_any (w : World) : Calls Try.prog 8 #[] w fun e w' => e = .returned (.bool true) ∧ Below w.heap.size w w' := by
  have hA := fun W => vparse_any ⟨#[91, 49, 32, 39, 97, 93]⟩ (by decide) W
  have hB := fun W => vparse_any ⟨#[91, 49, 32, 32, 50, 93]⟩ (by decide) W
  have hC := fun W => vscan_any ⟨#[97, 34, 98, 34, 99]⟩ 1 (by decide) W
  simp only [ex14a] at hA
  simp only [ex14b] at hB
  simp only [ex14c] at hC
  go_enter Try.func8, Try.ntmps8
  go_wp2_with (first
    | (go_at_call 12; (with_reducible refine (hA _).mono ?_); rintro e w1 ⟨d0, d1, d2, a1, len1, cap1, rfl, hF1, hB1⟩; obtain ⟨rfl, rfl, rfl, rfl, hh⟩ := is_shape (fresh_is hF1); obtain ⟨b1, o1, rfl, hL1⟩ := hh.resolve_left (by simp))
    | (go_at_call 12; (with_reducible refine (hB _).mono ?_); rintro e w2 ⟨v0, v1, v2, a2, len2, cap2, rfl, hF2, hB2⟩)
    | (go_at_call 9; (with_reducible refine (hC _).mono ?_); rintro e w3 ⟨u0, u1, u2, a3, len3, cap3, rfl, hF3, hB3⟩; obtain ⟨rfl, rfl, rfl, rfl, hh3⟩ := is_shape (fresh_is hF3);
            have k1 := (Below.refl _ w1).alloc (Nat.le_refl _) (.cells #[.int .i64 5, .int .i64 0, .string ⟨#[]⟩, .slice (some ⟨b1, o1, none⟩) 2 cap1] 25);
            have k2 := hB2.trans (((Below.refl _ w2).alloc (Nat.le_refl _) (.cells #[.int .i64 v0, .int .i64 v1, .string v2, .slice a2 len2 cap2] 25)).mono hB2.size);
            have k3 := k2.trans ((hB3.trans (((Below.refl _ w3).alloc (Nat.le_refl _) (.cells #[.int .i64 4, .int .i64 0, .string ⟨#[98]⟩, .slice a3 0 cap3] 25)).mono hB3.size)).mono k2.size);
            have k4 := k1.trans (k3.mono k1.size);
            obtain ⟨⟨y0, y1, y2, y3⟩, _⟩ := box4 (vat_below k3 (vat_alloc w1 _));
            obtain ⟨a9, cap9, ⟨_, _, z2, _⟩, _⟩ := isL_val hL1 1 3 0 ⟨#[97]⟩ [] rfl;
            have z3 := cell_below k4 z2;
            have k5 := hB1.trans (k4.mono hB1.size)))
  go_ret
  exact ⟨rfl, k5⟩
end Go.Proofs.Ytfapoicnkdallaa
