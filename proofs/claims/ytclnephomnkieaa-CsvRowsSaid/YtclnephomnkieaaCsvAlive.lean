/- Layer 9: what the statements ask first (alive). -/
import Derived.Test.YtclnephomnkieaaCsvProg
set_option linter.unusedVariables false
namespace Go.Proofs.Ytclnephomnkieaa
open Go.RowKit Go.Shelf
namespace V
def ex1 : List Int := [97, 44, 34, 34, 34, 98, 34, 34, 34, 13, 10]
theorem ex1_parse : parse ex1 = (some [[[97], [34, 98, 34]]], []) := by decide +kernel
theorem ex2_parse : parse [97, 34, 98] = (none, [34, 98]) := by decide +kernel
theorem ex3_print : prt [[[], [120]]] = ([34, 34, 44, 120, 13, 10], 0) := by decide +kernel
theorem ex4_field : ftext [97] = [97] := by decide +kernel
end V
set_option maxRecDepth 100000 in
set_option maxHeartbeats 4000000 in
theorem csvAlive_any (w : World) : Calls Try.prog 9 #[] w fun e w' => e = .returned (.bool true) ∧ Below w.heap.size w w' := by
  have hA : ∀ w, Calls Try.prog 10 #[.string ⟨#[97, 44, 34, 34, 34, 98, 34, 34, 34, 13, 10]⟩] w fun e w' => ∃ g o c r p k, e = .returned (.tuple #[.slice (some ⟨g, o, none⟩) 1 c, .int .i64 11, .int .i64 0]) ∧ 1 ≤ c ∧
      (w'.cell? ⟨g, o, none⟩ = some (.slice (some ⟨r, p, none⟩) 2 k) ∧ 2 ≤ k ∧ w'.cell? ⟨r, p + 1, none⟩ = some (.string ⟨#[34, 98, 34]⟩)) ∧ Below w.heap.size w w' := fun w => by
    refine (csvParse_any _ w (by decide)).mono ?_
    rintro e w' ⟨v, rfl, ⟨C, hf⟩, hb⟩
    rw [show strB ⟨#[97, 44, 34, 34, 34, 98, 34, 34, 34, 13, 10]⟩ = V.ex1 by decide, V.ex1_parse] at hf ⊢
    obtain ⟨a, c, rfl, h1, h2, h3⟩ := srows_of hf
    obtain ⟨g, o, rfl, hc⟩ := h3.resolve_left (by simp)
    obtain ⟨u, hu, a', c', rfl, k1, k2, k3⟩ := hc 0 (by simp)
    obtain ⟨r, p, rfl, hc2⟩ := k3.resolve_left (by simp)
    have h5 := hc2 1 (by simp)
    exact ⟨g, o, c, r, p, c', rfl, h1, ⟨hu, k1, h5⟩, hb⟩
  have hB : ∀ w, Calls Try.prog 10 #[.string ⟨#[97, 34, 98]⟩] w fun e w' => ∃ v, e = .returned (.tuple #[v, .int .i64 1, .int .i64 2]) ∧ Below w.heap.size w w' := fun w => by
    refine (csvParse_any _ w (by decide)).mono ?_
    rintro e w' ⟨v, rfl, _, hb⟩
    rw [show strB ⟨#[97, 34, 98]⟩ = [97, 34, 98] by decide, V.ex2_parse]
    exact ⟨v, rfl, hb⟩
  have hP : ∀ u w, SRows w u [[[], [120]]] → Calls Try.prog 14 #[u] w fun e w' => e = .returned (.tuple #[.string ⟨#[34, 34, 44, 120, 13, 10]⟩, .int .i64 0]) ∧ Below w.heap.size w w' := fun u w hu => by
    have h := csvPrint_any u _ w hu (by decide) (by intro r hr f hf x hx; simp at hr; subst hr; simp at hf; rcases hf with rfl | rfl; simp at hx; simp at hx; omega)
    rw [V.ex3_print] at h
    exact h
  have hF : ∀ w, Calls Try.prog 16 #[.string ⟨#[97]⟩] w fun e w' => e = .returned (.string ⟨#[97]⟩) ∧ Below w.heap.size w w' := fun w => by
    have h := csvField_any ⟨#[97]⟩ w (by decide)
    rw [show strB ⟨#[97]⟩ = [97] by decide, V.ex4_field] at h
    exact h
  have hlit : ∀ w : World, SRows ((w.alloc (.cells #[.string ⟨#[]⟩, .string ⟨#[120]⟩] 9)).alloc (.cells #[.slice (some ⟨w.heap.size, 0, none⟩) 2 2] 38)) (.slice (some ⟨w.heap.size + 1, 0, none⟩) 1 1) [[[], [120]]] := fun w => by
    have hn := fun (W : World) (l : List Value) (t : TypeId) (j : Nat) (u : Value) (h : l[j]? = some u) => cells_new W l t j u h
    simp only [Addr.add_lit, Nat.zero_add] at hn
    have h0 := hn (w.alloc (.cells #[.string ⟨#[]⟩, .string ⟨#[120]⟩] 9)) [.slice (some ⟨w.heap.size, 0, none⟩) 2 2] 38 0 _ rfl
    rw [World.size_alloc] at h0
    have hk := fun (j : Nat) (u : Value) (h : ([.string ⟨#[]⟩, .string ⟨#[120]⟩] : List Value)[j]? = some u) => cell_kept ((Below.refl (w.alloc (.cells #[.string ⟨#[]⟩, .string ⟨#[120]⟩] 9)).heap.size _).alloc (Nat.le_refl _) (.cells #[.slice (some ⟨w.heap.size, 0, none⟩) 2 2] 38)) (hn w [.string ⟨#[]⟩, .string ⟨#[120]⟩] 9 j u h)
    refine ⟨_, 1, rfl, Nat.le_refl _, by unfold maxLen; omega, .inr ⟨_, 0, rfl, fun i hi => ?_⟩⟩
    obtain rfl : i = 0 := by simp at hi; exact hi
    refine ⟨_, h0, _, 2, rfl, Nat.le_refl _, by unfold maxLen; omega, .inr ⟨_, 0, rfl, fun j hj => ?_⟩⟩
    have : j = 0 ∨ j = 1 := by simp at hj; omega
    rcases this with rfl | rfl
    · exact hk 0 _ rfl
    · exact hk 1 _ rfl
  go_enter Try.func9, Try.ntmps9
  go_wp2_with (first
    | (go_at_call 10; (first | ((with_reducible refine (hA _).mono ?_); rintro e w1 ⟨g, o, c, r, p, k, rfl, hc1, ⟨x0, hk2, x1⟩, hB1⟩) | ((with_reducible refine (hB _).mono ?_); rintro e w2 ⟨v, rfl, hB2⟩; have y0 := cell_kept hB2 x0; have y1 := cell_kept hB2 x1)))
    | (go_at_call 14; (with_reducible refine (hP _ _ (hlit _)).mono ?_); rintro e w3 ⟨rfl, hB3⟩; have hA2 := ((Below.refl w2.heap.size w2).alloc (Nat.le_refl _) (.cells #[.string ⟨#[]⟩, .string ⟨#[120]⟩] 9)).alloc (by simp) (.cells #[.slice (some ⟨w2.heap.size, 0, none⟩) 2 2] 38); have hA3 := hA2.trans (hB3.mono hA2.size); have z0 := cell_kept hA3 y0; have z1 := cell_kept hA3 y1)
    | (go_at_call 16; (with_reducible refine (hF _).mono ?_); rintro e w4 ⟨rfl, hB4⟩))
  go_ret
  have h2 := hB1.trans (hB2.mono hB1.size)
  have h3 := h2.trans (hA3.mono h2.size)
  exact ⟨rfl, h3.trans (hB4.mono h3.size)⟩
end Go.Proofs.Ytclnephomnkieaa
