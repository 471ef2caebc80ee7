/- A slice of byte slices that came in: what a walk is told of it. -/
import Derived.Test.YtdnijiehfokagaaStr
import Derived.Deep.Matrix
namespace Go.Proofs.Ytdnijiehfokagaa
open Go.RowKit Go.Shelf Go.ChangeShapes Go.WideShapes
/-- a slice of byte slices: its elements are slices, and theirs these bytes -/
def IsRows (W : World) (a : Option Addr) (len cap : Nat) (A : Nat → Option Addr) (L C : Nat → Nat) (T : Nat → List Int) : Prop :=
  len ≤ cap ∧ cap ≤ maxLen ∧ (len = 0 ∨ ∃ b off, a = some ⟨b, off, none⟩ ∧ ∀ r, r < len → W.cell? ⟨b, off + r, none⟩ = some (.slice (A r) (L r) (C r))) ∧ ∀ r, r < len → Row W .u8 (A r) (L r) (C r) (T r) ∧ Bytes (T r)
theorem open_rows {H : Type} {enc : TypeId × Value → H} {W : World} {fuel : Nat} {a : Option Addr} {len cap : Nat} {x : DataW H × List MemPlace} (hf : DataW.trod enc Try.prog W 0 (fun _ => true) true fuel 31 (Value.slice a len cap).cells.toList = some x) :
    ∃ A L C T, IsRows W a len cap A L C T := by
  rcases Go.Deep.open_int_rows Try.underlying31 Try.underlying22 Try.underlying5 (by kernel_rfl) (by kernel_rfl) hf with ⟨hcs, _⟩ | ⟨ad, l, c, A, L, C, Z, hcs, _, hl, hm, _, hr⟩
  · simp [Value.cells] at hcs
    obtain ⟨rfl, rfl, rfl⟩ := hcs
    exact ⟨fun _ => none, fun _ => 0, fun _ => 0, fun _ => [], Nat.le_refl _, by unfold maxLen; omega, .inl rfl, fun r h => by omega⟩
  · simp [Value.cells] at hcs
    obtain ⟨rfl, rfl, rfl⟩ := hcs
    refine ⟨A, L, C, fun r => (Z r).take (L r), hl, hm, ?_, fun r hlt => ?_⟩
    · rcases Nat.eq_zero_or_pos len with h0 | h0
      · exact .inl h0
      · obtain ⟨b, off, spot⟩ := ad
        have h1 := (hr 0 (by omega)).1
        have hs : spot = none := by simpa [Addr.add] using World.cell?_spot h1
        subst hs
        exact .inr ⟨b, off, rfl, fun r hlt => by have := (hr r (by omega)).1; rwa [Addr.add_lit] at this⟩
    · obtain ⟨_, h1, h2, h3, h4, h5, h6⟩ := hr r (by omega)
      have hI : IsRow .u8 W (A r) (L r) (C r) (Z r) := by
        cases hA : A r with
        | none =>
          have h7 := h5 hA
          exact .inl ⟨rfl, by omega, h7, List.length_eq_zero_iff.1 (by omega)⟩
        | some a' => exact .inr ⟨a', rfl, h1, h2, h3, fun i hi => (h6 a' hA).2 i (by omega), h4⟩
      obtain ⟨q1, q2⟩ := row_of_isRow hI
      exact ⟨q1, bytes_of q2⟩
theorem isRows_row {W W' : World} {a : Option Addr} {len cap : Nat} {A : Nat → Option Addr} {L C : Nat → Nat} {T : Nat → List Int} (h : IsRows W a len cap A L C T) (hb : Below W.heap.size W W') : IsRows W' a len cap A L C T := by
  obtain ⟨h1, h2, h3, h4⟩ := h
  refine ⟨h1, h2, ?_, fun r hr => ⟨row_below (h4 r hr).1 hb rfl, (h4 r hr).2⟩⟩
  rcases h3 with h0 | ⟨b, off, rfl, hc⟩
  · exact .inl h0
  · refine .inr ⟨b, off, rfl, fun r hr => ?_⟩
    have h0 := hc r hr
    have hbk : b < W.heap.size := by
      simp only [World.cell?] at h0
      rcases Nat.lt_or_ge b W.heap.size with h | h
      · exact h
      · rw [Array.getElem?_eq_none h] at h0; cases h0
    exact (hb.cell (p := ⟨b, off + r, none⟩) hbk).trans h0
end Go.Proofs.Ytdnijiehfokagaa
