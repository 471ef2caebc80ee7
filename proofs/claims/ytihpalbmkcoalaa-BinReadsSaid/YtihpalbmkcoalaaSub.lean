/- Slices of bytes: their parts, as run equations. -/
import Derived.Test.YtihpalbmkcoalaaStr
namespace Go.Proofs.Ytihpalbmkcoalaa
open Go.RowKit Go.Shelf
theorem size_u8 (w : World) : (sizeOf (Try.prog.elem 27)).run Try.prog w = .ok 1 w := by kernel_rfl
theorem row_at {W : World} {a : Option Addr} {n c : Nat} {l : List Int} (h : Row W .u8 a n c l) (q k m : Nat) (hk : q + k ≤ n) (hm : q + k ≤ m) (hc : m ≤ c) : Row W .u8 (if m = q then a else a.map (·.add (q * 1))) k (m - q) ((l.drop q).take k) := by
  obtain ⟨h1, h2, h3, h4⟩ := h
  refine ⟨by simp; omega, by omega, by omega, ?_⟩
  rcases h4 with h0 | ⟨b, off, rfl, hcl⟩
  · exact .inl (by omega)
  · by_cases hmq : m = q
    · exact .inl (by omega)
    · rw [if_neg hmq]
      refine .inr ⟨b, off + q, by simp [Addr.add], fun i hi => ?_⟩
      have := hcl (q + i) (by omega)
      rw [← Nat.add_assoc] at this
      rw [this, List.getElem?_take, if_pos hi, List.getElem?_drop]
/-- b[q:] -/
theorem sub_low (a : Option Addr) (n c q : Nat) (hq : q ≤ n) : ∃ a', (∀ W, (Instr.slice 27 (.slice a n c) (some (.int .i64 (q : Int))) none none).run Try.prog W = .ok (.slice a' (n - q) (c - q)) W) ∧
    ∀ W l, Row W .u8 a n c l → Row W .u8 a' (n - q) (c - q) (l.drop q) := by
  refine ⟨if c = q then a else a.map (·.add (q * 1)), fun W => ?_, fun W l h => ?_⟩
  · have h1 := run_slice_l (P := Try.prog) W 27 a n c Try.underlying27 .i64 (q : Int) (by omega) (by omega)
    rw [size_u8 W] at h1
    simpa [Result.andThen, sliced] using h1
  · have := row_at h q (n - q) c (by omega) (by have := h.2.1; omega) (Nat.le_refl _)
    rwa [List.take_of_length_le (by have := h.1; simp; omega)] at this
/-- .. in the same block -/
theorem sub_low' (a : Option Addr) (n c q : Nat) (hq : q ≤ n) : ∃ a', (∀ W, (Instr.slice 27 (.slice a n c) (some (.int .i64 (q : Int))) none none).run Try.prog W = .ok (.slice a' (n - q) (c - q)) W) ∧
    (∀ W l, Row W .u8 a n c l → Row W .u8 a' (n - q) (c - q) (l.drop q)) ∧ ∀ ad', a' = some ad' → ∃ ad, a = some ad ∧ ad'.block = ad.block := by
  refine ⟨if c = q then a else a.map (·.add (q * 1)), fun W => ?_, fun W l h => ?_, fun ad' e => ?_⟩
  · have h1 := run_slice_l (P := Try.prog) W 27 a n c Try.underlying27 .i64 (q : Int) (by omega) (by omega)
    rw [size_u8 W] at h1
    simpa [Result.andThen, sliced] using h1
  · have := row_at h q (n - q) c (by omega) (by have := h.2.1; omega) (Nat.le_refl _)
    rwa [List.take_of_length_le (by have := h.1; simp; omega)] at this
  · split at e
    · exact ⟨ad', e, rfl⟩
    · cases a with
      | none => simp at e
      | some ad =>
        simp at e
        exact ⟨ad, rfl, by rw [← e]; unfold Addr.add; split <;> rfl⟩
/-- b[:q] -/
theorem sub_high (a : Option Addr) (n c q : Nat) (hq : q ≤ n) (hnc : n ≤ c) : ∃ a', (∀ W, (Instr.slice 27 (.slice a n c) none (some (.int .i64 (q : Int))) none).run Try.prog W = .ok (.slice a' q c) W) ∧
    ∀ W l, Row W .u8 a n c l → Row W .u8 a' q c (l.take q) := by
  refine ⟨if c = 0 then a else a.map (·.add (0 * 1)), fun W => ?_, fun W l h => ?_⟩
  · have h1 := run_slice_h (P := Try.prog) W 27 a n c Try.underlying27 .i64 (q : Int) (by omega) (by omega)
    rw [size_u8 W] at h1
    simpa [Result.andThen, sliced] using h1
  · have := row_at h 0 q c (by omega) (by omega) (Nat.le_refl _)
    simpa using this
/-- b[q:r] -/
theorem sub_both (a : Option Addr) (n c q r : Nat) (hq : q ≤ r) (hr : r ≤ n) (hnc : n ≤ c) : ∃ a', (∀ W, (Instr.slice 27 (.slice a n c) (some (.int .i64 (q : Int))) (some (.int .i64 (r : Int))) none).run Try.prog W = .ok (.slice a' (r - q) (c - q)) W) ∧
    ∀ W l, Row W .u8 a n c l → Row W .u8 a' (r - q) (c - q) ((l.drop q).take (r - q)) := by
  refine ⟨if c = q then a else a.map (·.add (q * 1)), fun W => ?_, fun W l h => ?_⟩
  · have h1 := run_slice_lh (P := Try.prog) W 27 a n c Try.underlying27 .i64 .i64 (q : Int) (r : Int) (by omega) (by omega) (by omega)
    rw [size_u8 W] at h1
    simpa [Result.andThen, sliced] using h1
  · exact row_at h q (r - q) c (by omega) (by omega) (Nat.le_refl _)
theorem conv_row {w : World} {a : Option Addr} {n c : Nat} {l : List Int} (h : Row w .u8 a n c l) : (convert 27 9 (.slice a n c)).run Try.prog w = .ok (.string (strOfNums l)) w := by
  obtain ⟨h1, _, _, h4⟩ := h
  cases a with
  | none =>
    obtain rfl : n = 0 := by rcases h4 with h | ⟨_, _, h, _⟩ <;> first | exact h | cases h
    obtain rfl : l = [] := List.length_eq_zero_iff.1 h1
    exact run_convert_bytes_nil w _ _ Try.underlying27 Try.underlying5 0 c _ Try.underlying9
  | some ad =>
    rcases h4 with rfl | ⟨b, off, e, hc⟩
    · obtain rfl : l = [] := List.length_eq_zero_iff.1 h1
      obtain ⟨b, off, sp⟩ := ad
      rw [run_convert_bytes_string w 27 9 5 _ 0 c Try.underlying27 Try.underlying5 Try.underlying9,
        run_bytesToString w ⟨b, off, sp⟩ 0 c [] (run_loadCells_list (P := Try.prog) w ⟨b, off, sp⟩ [] (by simp))]
      rfl
    · cases e
      exact run_convert_bytes_arg w _ _ Try.underlying27 Try.underlying5 b off n c l h1 (fun i hi => by simpa [List.getD] using hc i hi) _ Try.underlying9
theorem strOf_inj {l r : List Int} (hl : Bytes l) (hr : Bytes r) : (strOfNums l = strOfNums r) ↔ l = r := by
  constructor
  · intro h
    have := congrArg strB h
    have f : ∀ l, Bytes l → ∀ x ∈ l, 0 ≤ x ∧ x ≤ 255 := fun l hl x hx => by
      obtain ⟨i, hi, rfl⟩ := List.getElem_of_mem hx
      have := hl i
      rwa [List.getElem?_eq_getElem hi] at this
    rwa [strB_strOfNums l (f l hl), strB_strOfNums r (f r hr)] at this
  · intro h; rw [h]
end Go.Proofs.Ytihpalbmkcoalaa
