/- A slice of slices of texts that came in: what a walk is told of it; the machine's own reach pays its bounds. -/
import Derived.Test.YtclnephomnkieaaCsvRefW
import Derived.Deep.Strs
import Derived.SizedLaws
namespace Go.Proofs.Ytclnephomnkieaa
open Go.RowKit Go.Shelf Go.ChangeShapes Go.WideShapes Go.Deep
theorem weights_all {H : Type} {P : Program} {e : TypeId} : ∀ {l : List (DataW H)} {d : DataW H}, d ∈ l → ∀ n ∈ d.weights P e, n ∈ DataW.weightsAll P e l
  | d0 :: l, d, h, n, hn => by
    simp only [DataW.weightsAll, List.mem_append]
    rcases List.mem_cons.1 h with rfl | h
    · exact .inl hn
    · exact .inr (weights_all h n hn)
theorem strB_range (s : ByteArray) : ∀ x ∈ strB s, 0 ≤ x ∧ x ≤ 255 := by
  intro x hx
  unfold strB at hx
  obtain ⟨b, _, rfl⟩ := List.mem_map.1 hx
  exact u8_bd b
theorem bytes_strs : 1 ≤ Try.prog.bytesOf 38 ∧ 1 ≤ Try.prog.bytesOf 9 := by
  have h1 : Try.prog.bytesOf 38 = 24 := by kernel_rfl
  have h2 : Try.prog.bytesOf 9 = 16 := by kernel_rfl
  omega
/-- one row -/
theorem open_srow {H : Type} {enc : TypeId × Value → H} {W : World} {fuel : Nat} {v : Value} {x : DataW H × List MemPlace} (hf : DataW.trod enc Try.prog W 0 (fun _ => true) true fuel 38 [v] = some x)
    (hw : ∀ n ∈ x.1.weights Try.prog 38, n ≤ reachBytes) : ∃ l : Fs, SRow W v l ∧ l.length ≤ 140737488355328 ∧ ∀ f ∈ l, f.length ≤ 140737488355328 ∧ ∀ y ∈ f, 0 ≤ y ∧ y ≤ 255 := by
  have hrb : reachBytes = 140737488351232 := rfl
  rcases open_strs Try.underlying38 Try.underlying9 (by kernel_rfl) hf with ⟨hcs, _⟩ | ⟨ad, l, c, m, Sx, hcs, _, hl, hm, hmm, rfl, hc⟩
  · injection hcs with hcs
    subst hcs
    exact ⟨[], ⟨none, 0, rfl, Nat.le_refl _, by unfold maxLen; omega, .inl rfl⟩, by simp, by simp⟩
  · injection hcs with hcs
    subst hcs
    simp only [if_true] at hmm
    subst hmm
    simp only [DataW.weights, Try.underlying38, List.length_map, List.length_range] at hw
    have h0 := hw _ (List.mem_cons_self ..)
    have hlen : l ≤ 140737488355328 := by
      have h1 := Nat.mul_le_mul_left (l + (m - l)) bytes_strs.2
      rw [Nat.mul_one] at h1
      omega
    refine ⟨(List.range l).map fun i => strB (Sx i), ⟨some ad, m, by simp, by simpa using hl, hm, ?_⟩, by simpa using hlen, fun f hfm => ?_⟩
    · rcases Nat.eq_zero_or_pos l with h1 | h1
      · subst h1; exact .inl rfl
      · obtain ⟨b, off, spot⟩ := ad
        have h2 := (hc 0 (by omega)).1
        have hs : spot = none := by simpa [Addr.add] using World.cell?_spot h2
        subst hs
        refine .inr ⟨b, off, rfl, fun i hi => ?_⟩
        have hi' : i < l := by simpa using hi
        have h3 := (hc i (by omega)).1
        rw [Addr.add_lit] at h3
        rw [h3, List.getElem?_map, List.getElem?_range hi']
        simp [strOfNums_strB]
    · obtain ⟨i, hi, rfl⟩ := List.mem_map.1 hfm
      have hi' := List.mem_range.1 hi
      have h4 := hw (Sx i).data.toList.length (List.mem_cons_of_mem _ (List.mem_append_left _ (weights_all (d := .lit (.string (Sx i).data.toList)) (List.mem_map.2 ⟨i, hi, rfl⟩) _ (by simp [DataW.weights]))))
      refine ⟨?_, strB_range _⟩
      have h5 : (strB (Sx i)).length = (Sx i).data.toList.length := by simp [strB]
      omega
theorem open_srows {H : Type} {enc : TypeId × Value → H} {W : World} {fuel : Nat} {a : Option Addr} {len cap : Nat} {x : DataW H × List MemPlace} (hf : DataW.trod enc Try.prog W 0 (fun _ => true) true fuel 23 (Value.slice a len cap).cells.toList = some x)
    (hw : ∀ n ∈ x.1.weights Try.prog 23, n ≤ reachBytes) : ∃ L : Rws, SRows W (.slice a len cap) L ∧ Big L ∧ BytesR L := by
  have hrb : reachBytes = 140737488351232 := rfl
  rcases open_slice1 Try.underlying23 (by kernel_rfl) hf with ⟨hcs, _⟩ | ⟨ad, l, c, m, n, V, D, Pl, hcs, _, hl, hm, hmm, rfl, hx⟩
  · simp [Value.cells] at hcs
    obtain ⟨rfl, rfl, rfl⟩ := hcs
    exact ⟨[], srows_nil W, ⟨by simp, by simp⟩, by simp [BytesR]⟩
  · simp [Value.cells] at hcs
    obtain ⟨rfl, rfl, rfl⟩ := hcs
    simp only [if_true] at hmm
    subst hmm
    simp only [DataW.weights, Try.underlying23, List.length_map, List.length_range] at hw
    have h0 := hw _ (List.mem_cons_self ..)
    have hlen : len ≤ 140737488355328 := by
      have h1 := Nat.mul_le_mul_left (len + (m - len)) bytes_strs.1
      rw [Nat.mul_one] at h1
      omega
    have each : ∀ i, i < len → ∃ l : Fs, SRow W (V i) l ∧ l.length ≤ 140737488355328 ∧ ∀ f ∈ l, f.length ≤ 140737488355328 ∧ ∀ y ∈ f, 0 ≤ y ∧ y ≤ 255 := fun i hi =>
      open_srow (hx i (by omega)).2 fun n hn => hw n (List.mem_cons_of_mem _ (List.mem_append_left _ (weights_all (List.mem_map.2 ⟨i, List.mem_range.2 hi, rfl⟩) _ hn)))
    obtain ⟨R, hR⟩ := choose_lt each
    have hmem : ∀ r ∈ (List.range len).map R, ∃ i, i < len ∧ r = R i := fun r hr => by
      obtain ⟨i, hi, rfl⟩ := List.mem_map.1 hr
      exact ⟨i, List.mem_range.1 hi, rfl⟩
    refine ⟨(List.range len).map R, ⟨some ad, m, by simp, by simpa using hl, hm, ?_⟩, ⟨by simpa using hlen, fun r hr => ?_⟩, fun r hr => ?_⟩
    · rcases Nat.eq_zero_or_pos len with h1 | h1
      · subst h1; exact .inl rfl
      · obtain ⟨b, off, spot⟩ := ad
        have h2 := (hx 0 (by omega)).1
        have hs : spot = none := by simpa [Addr.add] using World.cell?_spot h2
        subst hs
        refine .inr ⟨b, off, rfl, fun i hi => ?_⟩
        have hi' : i < len := by simpa using hi
        have h3 := (hx i (by omega)).1
        rw [Addr.add_lit] at h3
        refine ⟨V i, h3, ?_⟩
        rw [List.getElem?_map, List.getElem?_range hi']
        exact (hR i hi').1
    · obtain ⟨i, hi, rfl⟩ := hmem r hr
      exact ⟨(hR i hi).2.1, fun f hf => ((hR i hi).2.2 f hf).1⟩
    · obtain ⟨i, hi, rfl⟩ := hmem r hr
      exact fun f hf => ((hR i hi).2.2 f hf).2
end Go.Proofs.Ytclnephomnkieaa
