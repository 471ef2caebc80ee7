/- Plain mathematics: tokens stand in order. -/
import Derived.Test.YtiflnciapboccaaDoorTokSeq
namespace Go.Proofs.YtiflnciapboccaaDoor
namespace K
theorem tok_ord (l : List Int) (p : Nat) (hp : p ≤ l.length) (h : (tok l p).2.2 = 0) : (tok l p).1.a = p ∧ (tok l p).1.e = (tok l p).2.1 ∧ ((tok l p).1.kind = 0 → (tok l p).2.1 = p ∧ p = l.length) ∧ 0 ≤ (tok l p).1.kind := by
  unfold tok at h ⊢
  by_cases h1 : l.length ≤ p
  · rw [if_pos h1]; exact ⟨rfl, rfl, fun _ => ⟨rfl, by omega⟩, Int.le_refl _⟩
  rw [if_neg h1] at h ⊢
  by_cases h2 : l[p]?.getD 0 = 34
  · rw [if_pos h2] at h ⊢
    cases hT : text l (p + 1) with
    | mk o q =>
      rw [hT] at h
      cases o with
      | none => cases h
      | some o => exact ⟨rfl, rfl, (fun x => (by simp at x)), (by simp)⟩
  rw [if_neg h2] at h ⊢
  by_cases h3 : l[p]?.getD 0 = 45 ∨ dg.contains (l[p]?.getD 0) = true
  · rw [if_pos h3] at h ⊢
    by_cases h4 : (number (row l p (runTo nb l p))).2 = 0
    · rw [if_pos h4]; exact ⟨rfl, rfl, (fun x => (by simp at x)), (by simp)⟩
    · rw [if_neg h4] at h; exact absurd h h4
  rw [if_neg h3] at h ⊢
  by_cases h4 : lt.contains (l[p]?.getD 0) = true
  · rw [if_pos h4] at h ⊢
    by_cases h5 : isWord (row l p (runTo lt l p)) = true
    · rw [if_pos h5]; exact ⟨rfl, rfl, (fun x => (by simp at x)), (by simp)⟩
    · rw [if_neg h5] at h; cases h
  rw [if_neg h4] at h ⊢
  by_cases h5 : mk.contains (l[p]?.getD 0) = true
  · rw [if_pos h5]; exact ⟨rfl, rfl, (fun x => (by simp only at x; omega)), (by simp only; omega)⟩
  · rw [if_neg h5] at h; cases h
/-- of what stands behind a place without an error -/
theorem next_ord (l : List Int) (p : Nat) (hp : p ≤ l.length) (h : (next l p).2.2 = 0) : (p : Int) ≤ (next l p).1.a ∧ (next l p).1.a ≤ (next l p).1.e ∧ (next l p).1.e = (next l p).2.1 ∧ (next l p).2.1 ≤ l.length ∧
    ((next l p).1.kind = 0 ↔ (next l p).1.e = (next l p).1.a) ∧ ((next l p).1.kind = 0 → (next l p).2.1 = l.length) := by
  have hr := runTo_le bl l p hp
  unfold next at h ⊢
  obtain ⟨o1, o2, o3, _⟩ := tok_ord l _ hr.2 h
  have hpl := tok_place l _ hr.2
  refine ⟨by rw [o1]; omega, by rw [o1, o2]; omega, o2, hpl.2.1, ⟨fun hk => ?_, fun he => ?_⟩, fun hk => ?_⟩
  · rw [o1, o2, (o3 hk).1]
  · by_cases hk : (tok l (runTo bl l p)).1.kind = 0
    · exact hk
    · have := hpl.2.2 h hk
      rw [o1, o2] at he; omega
  · have := o3 hk; omega
def prevE (p : Int) (L : List Tok) : Nat → Int
  | 0 => p
  | i + 1 => (L[i]?.getD zero).e
def Ord (len : Nat) (p : Int) (L : List Tok) : Prop := ∀ i, i < L.length → prevE p L i ≤ (L[i]?.getD zero).a ∧ (L[i]?.getD zero).a ≤ (L[i]?.getD zero).e ∧ (L[i]?.getD zero).e ≤ len ∧
  ((L[i]?.getD zero).kind = 0 ↔ (L[i]?.getD zero).e = (L[i]?.getD zero).a) ∧ ((L[i]?.getD zero).kind = 0 → i + 1 = L.length)
theorem toks_cons (x : Tok × Nat × Int) (L : List (Tok × Nat × Int)) : toks (x :: L) = (if x.2.2 = 0 then [x.1] else []) ++ toks L := by
  unfold toks
  by_cases h : x.2.2 = 0 <;> simp [h]
theorem items_ne (f : Nat) (l : List Int) (p : Nat) (h : 0 < f) : items f l p ≠ [] := by
  cases f with
  | zero => omega
  | succ f => simp only [items]; split <;> simp
theorem items_ord (f : Nat) : ∀ (l : List Int) (p : Nat), p ≤ l.length → l.length < f + p →
    Ord l.length p (toks (items f l p)) ∧ prevE p (toks (items f l p)) (toks (items f l p)).length ≤ lastAt (items f l p) ∧ lastAt (items f l p) ≤ l.length ∧ p ≤ lastAt (items f l p) ∧
    (lastErr (items f l p) = 0 → toks (items f l p) ≠ [] ∧ ((toks (items f l p))[(toks (items f l p)).length - 1]?.getD zero).kind = 0 ∧ lastAt (items f l p) = l.length) := by
  induction f with
  | zero => intro l p h1 h2; omega
  | succ f ih =>
    intro l p hp hf
    have hpl := next_place l p hp
    simp only [items]
    by_cases hs : (next l p).2.2 ≠ 0 ∨ (next l p).1.kind = 0
    · rw [if_pos hs]
      by_cases he : (next l p).2.2 = 0
      · have ho := next_ord l p hp he
        have hk : (next l p).1.kind = 0 := hs.resolve_left (fun x => x he)
        have ht : toks [next l p] = [(next l p).1] := by unfold toks; simp [he]
        rw [ht]
        refine ⟨fun i hi => ?_, ?_, ?_, ?_, fun _ => ⟨by simp, by simpa using hk, by simpa [lastAt] using ho.2.2.2.2.2 hk⟩⟩
        · obtain rfl : i = 0 := by simpa using hi
          simp only [prevE, List.getElem?_cons_zero, Option.getD_some]
          exact ⟨ho.1, ho.2.1, by rw [ho.2.2.1]; omega, ho.2.2.2.2.1, fun _ => rfl⟩
        · simp only [List.length_singleton, prevE, List.getElem?_cons_zero, Option.getD_some, lastAt, List.getLast?_singleton]; rw [ho.2.2.1]; exact Int.le_refl _
        · simpa [lastAt] using hpl.2.1
        · simpa [lastAt] using hpl.1
      · have ht : toks [next l p] = [] := by unfold toks; simp [he]
        rw [ht]
        refine ⟨fun i hi => by simp at hi, ?_, by simpa [lastAt] using hpl.2.1, by simpa [lastAt] using hpl.1, fun h => ?_⟩
        · simp only [List.length_nil, prevE, lastAt, List.getLast?_singleton]; have := hpl.1; omega
        · simp [lastErr] at h; exact absurd h he
    · rw [if_neg hs]
      have he : (next l p).2.2 = 0 := Decidable.not_not.1 fun x => hs (.inl x)
      have hk : (next l p).1.kind ≠ 0 := fun x => hs (.inr x)
      have ho := next_ord l p hp he
      have hgt := hpl.2.2 he hk
      obtain ⟨i1, i2, i3, i4, i5⟩ := ih l (next l p).2.1 hpl.2.1 (by omega)
      have hne := items_ne f l (next l p).2.1 (by omega)
      obtain ⟨L, hL⟩ : ∃ L, items f l (next l p).2.1 = L := ⟨_, rfl⟩
      rw [hL] at i1 i2 i3 i4 i5 hne ⊢
      have hla : lastAt (next l p :: L) = lastAt L := by unfold lastAt; cases L with | nil => exact absurd rfl hne | cons y r => rw [List.getLast?_cons_cons]
      have hle : lastErr (next l p :: L) = lastErr L := by unfold lastErr; cases L with | nil => exact absurd rfl hne | cons y r => rw [List.getLast?_cons_cons]
      have ht : toks (next l p :: L) = (next l p).1 :: toks L := by rw [toks_cons, if_pos he]; rfl
      rw [hla, hle, ht]
      have hprev : ∀ i, prevE p ((next l p).1 :: toks L) (i + 1) = prevE ((next l p).2.1 : Nat) (toks L) i := fun i => by
        cases i with
        | zero => simp only [prevE, List.getElem?_cons_zero, Option.getD_some]; exact ho.2.2.1
        | succ i => simp only [prevE, List.getElem?_cons_succ]
      refine ⟨fun i hi => ?_, ?_, i3, by omega, fun h => ?_⟩
      · cases i with
        | zero =>
          simp only [prevE, List.getElem?_cons_zero, Option.getD_some]
          exact ⟨ho.1, ho.2.1, by rw [ho.2.2.1]; omega, ho.2.2.2.2.1, fun x => absurd x hk⟩
        | succ i =>
          have := i1 i (by simpa using hi)
          rw [hprev, List.getElem?_cons_succ, List.length_cons]
          exact ⟨this.1, this.2.1, this.2.2.1, this.2.2.2.1, fun x => by rw [this.2.2.2.2 x]⟩
      · rw [List.length_cons, hprev]; exact i2
      · obtain ⟨j1, j2, j3⟩ := i5 h
        refine ⟨by simp, ?_, j3⟩
        rw [List.length_cons, Nat.add_sub_cancel]
        have hpos : 0 < (toks L).length := List.length_pos_iff.2 j1
        rw [show (toks L).length = (toks L).length - 1 + 1 by omega, List.getElem?_cons_succ]
        simpa using j2
/-- all of a text's tokens -/
theorem its_ord (l : List Int) : Ord l.length 0 (toks (its l)) ∧ prevE 0 (toks (its l)) (toks (its l)).length ≤ lastAt (its l) ∧ lastAt (its l) ≤ l.length ∧
    (lastErr (its l) = 0 → toks (its l) ≠ [] ∧ ((toks (its l))[(toks (its l)).length - 1]?.getD zero).kind = 0 ∧ lastAt (its l) = l.length) := by
  obtain ⟨h1, h2, h3, _, h5⟩ := items_ord (l.length + 1) l 0 (Nat.zero_le _) (by omega)
  exact ⟨h1, h2, h3, h5⟩
end K
end Go.Proofs.YtiflnciapboccaaDoor
