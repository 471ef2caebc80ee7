/- Plain mathematics: what stands ahead of a text moves its tokens, and turns nothing else. -/
import Derived.Test.YtiflnciapboccaaDoorTokSeq
namespace Go.Proofs.YtiflnciapboccaaDoor
namespace K
variable (h l : List Int)
theorem sh_drop (p : Nat) : (h ++ l).drop (h.length + p) = l.drop p := by
  rw [List.drop_append, List.drop_eq_nil_of_le (by omega), List.nil_append]; congr 1; omega
theorem sh_at (p : Nat) : (h ++ l)[h.length + p]?.getD 0 = l[p]?.getD 0 := by
  rw [List.getElem?_append_right (by omega)]; congr 2; omega
theorem sh_runTo (c : List Int) (p : Nat) : runTo c (h ++ l) (h.length + p) = h.length + runTo c l p := by
  unfold runTo; rw [sh_drop]; omega
theorem sh_get (p : Nat) : getAt (h ++ l) ((h.length + p : Nat) : Int) = getAt l (p : Nat) := by
  unfold getAt
  by_cases hp : p < l.length
  · rw [if_pos (by simp; omega), if_pos (by omega), Int.toNat_natCast, Int.toNat_natCast, sh_drop]
  · rw [if_neg (by simp; omega), if_neg (by omega)]
theorem sh_unit (p : Nat) : unit (h ++ l) (h.length + p) = unit l p := by
  unfold unit
  rw [List.length_append, sh_at]
  have e : ∀ k, (h ++ l)[h.length + p + k]?.getD 0 = l[p + k]?.getD 0 := fun k => by rw [Nat.add_assoc, sh_at]
  rw [e, e, e, e, e]
  by_cases hp : p + 6 ≤ l.length ∧ l[p]?.getD 0 = 92 ∧ l[p + 1]?.getD 0 = 117
  · rw [if_pos hp, if_pos ⟨by omega, hp.2⟩]
  · rw [if_neg hp, if_neg (fun x => hp ⟨by omega, x.2⟩)]
theorem sh_escU (p : Nat) : escU (h ++ l) (h.length + p) = escU l p := by
  unfold escU
  rw [sh_unit, Nat.add_assoc, sh_unit]
theorem sh_esc (p : Nat) : esc (h ++ l) (h.length + p) = esc l p := by
  unfold esc
  rw [List.length_append, sh_escU, Nat.add_assoc, sh_at]
  by_cases hp : p + 1 < l.length
  · rw [if_pos hp, if_pos (by omega)]
  · rw [if_neg hp, if_neg (by omega)]
def mv (k : Nat) (x : Option (List Int) × Nat) : Option (List Int) × Nat := (x.1, k + x.2)
theorem mv_pre (k : Nat) (b : List Int) (x : Option (List Int) × Nat) : mv k (pre b x) = pre b (mv k x) := by
  rcases x with ⟨_ | o, q⟩ <;> rfl
theorem sh_tx (f : Nat) : ∀ p, tx f (h ++ l) (h.length + p) = mv h.length (tx f l p) := by
  induction f with
  | zero => intro p; rfl
  | succ f ih =>
    intro p
    simp only [tx]
    rw [sh_at, sh_esc, sh_get, sh_drop, List.length_append]
    by_cases h1 : l.length ≤ p
    · rw [if_pos h1, if_pos (by omega)]; rfl
    rw [if_neg h1, if_neg (by omega)]
    by_cases h2 : l[p]?.getD 0 = 34
    · rw [if_pos h2, if_pos h2]; rfl
    rw [if_neg h2, if_neg h2]
    by_cases h3 : l[p]?.getD 0 = 92
    · rw [if_pos h3, if_pos h3]
      by_cases h4 : (esc l p).2 = 0
      · rw [if_pos h4, if_pos h4]; rfl
      · rw [if_neg h4, if_neg h4, Nat.add_assoc, ih, mv_pre]
    · rw [if_neg h3, if_neg h3]
      by_cases h4 : (getAt l p).2 = 0 ∨ (getAt l p).1 < 32
      · rw [if_pos h4, if_pos h4]; rfl
      · rw [if_neg h4, if_neg h4, Nat.add_assoc, ih, mv_pre]
theorem sh_text (p : Nat) : text (h ++ l) (h.length + p) = mv h.length (text l p) := by
  unfold text
  rw [sh_tx]
  congr 1
  exact tx_fuel _ _ l p (by rw [List.length_append]; omega) (by omega)
theorem sh_row (p q : Nat) : row (h ++ l) (h.length + p) (h.length + q) = row l p q := by
  unfold row
  rw [List.take_append, List.take_of_length_le (by omega), show h.length + q - h.length = q by omega, sh_drop]
def mvT (k : Nat) (t : Tok) : Tok := ⟨t.kind, t.a + k, t.e + k, t.s, t.n⟩
/-- what stands there, moved; where it is wrong, the place is moved -/
def mvR (k : Nat) (x : Tok × Nat × Int) : Tok × Nat × Int := (if x.2.2 = 0 then mvT k x.1 else x.1, k + x.2.1, x.2.2)
theorem sh_tok (p : Nat) : tok (h ++ l) (h.length + p) = mvR h.length (tok l p) := by
  unfold tok
  rw [sh_at, List.length_append, sh_runTo, sh_runTo, sh_row, sh_row, Nat.add_assoc, sh_text]
  by_cases h1 : l.length ≤ p
  · rw [if_pos h1, if_pos (by omega)]; simp [mvR, mvT]; omega
  rw [if_neg h1, if_neg (by omega)]
  by_cases h2 : l[p]?.getD 0 = 34
  · rw [if_pos h2, if_pos h2]
    rcases text l (p + 1) with ⟨_ | o, q⟩
    · simp [mv, mvR]
    · simp [mv, mvR, mvT]; omega
  rw [if_neg h2, if_neg h2]
  by_cases h3 : l[p]?.getD 0 = 45 ∨ dg.contains (l[p]?.getD 0) = true
  · rw [if_pos h3, if_pos h3]
    by_cases h4 : (number (row l p (runTo nb l p))).2 = 0
    · rw [if_pos h4, if_pos h4]; simp [mvR, mvT]; omega
    · rw [if_neg h4, if_neg h4]; simp [mvR, h4]
  rw [if_neg h3, if_neg h3]
  by_cases h4 : lt.contains (l[p]?.getD 0) = true
  · rw [if_pos h4, if_pos h4]
    by_cases h5 : isWord (row l p (runTo lt l p)) = true
    · rw [if_pos h5, if_pos h5]; simp [mvR, mvT]; omega
    · rw [if_neg h5, if_neg h5]; simp [mvR]
  rw [if_neg h4, if_neg h4]
  by_cases h5 : mk.contains (l[p]?.getD 0) = true
  · rw [if_pos h5, if_pos h5]; simp [mvR, mvT]; omega
  · rw [if_neg h5, if_neg h5]; simp [mvR]
theorem sh_next (p : Nat) : next (h ++ l) (h.length + p) = mvR h.length (next l p) := by
  unfold next; rw [sh_runTo, sh_tok]
theorem sh_items (f : Nat) : ∀ p, items f (h ++ l) (h.length + p) = (items f l p).map (mvR h.length) := by
  induction f with
  | zero => intro p; rfl
  | succ f ih =>
    intro p
    simp only [items]
    rw [sh_next]
    by_cases hs : (next l p).2.2 ≠ 0 ∨ (next l p).1.kind = 0
    · rw [if_pos hs, if_pos]
      · rfl
      · rcases hs with hs | hs
        · exact .inl hs
        · right; simp only [mvR]; split
          · exact hs
          · exact hs
    · rw [if_neg hs, if_neg]
      · rw [List.map_cons, ← ih]; rfl
      · rintro (hx | hx)
        · exact hs (.inl hx)
        · simp only [mvR] at hx
          split at hx
          · exact hs (.inr hx)
          · exact hs (.inr hx)
/-- fuel -/
theorem items_fuel (f : Nat) : ∀ (g : Nat) (l : List Int) (p : Nat), p ≤ l.length → l.length < f + p → l.length < g + p → items f l p = items g l p := by
  induction f with
  | zero => intro g l p hp hf _; omega
  | succ f ih =>
    intro g l p hp hf hg
    cases g with
    | zero => omega
    | succ g =>
      simp only [items]
      split
      · rfl
      · rename_i hs
        have hn := next_place l p hp
        have h0 : (next l p).2.2 = 0 := Decidable.not_not.1 fun x => hs (.inl x)
        have hk : (next l p).1.kind ≠ 0 := fun x => hs (.inr x)
        have := hn.2.2 h0 hk
        rw [ih g l _ hn.2.1 (by omega) (by omega)]
/-- blanks ahead of a text move all that it comes to -/
theorem its_blanks (hb : ∀ x ∈ h, bl.contains x = true) : its (h ++ l) = (its l).map (mvR h.length) := by
  have hrun : runTo bl (h ++ l) 0 = h.length + runTo bl l 0 := by
    unfold runTo
    rw [List.drop_zero, List.drop_zero, List.takeWhile_append_of_pos hb, List.length_append]; omega
  have hnext : next (h ++ l) 0 = mvR h.length (next l 0) := by
    unfold next; rw [hrun, sh_tok]
  have hlen : (h ++ l).length = h.length + l.length := List.length_append
  unfold its
  have e1 : items ((h ++ l).length + 1) (h ++ l) 0 = items ((h ++ l).length + 1) (h ++ l) (h.length + 0) := by
    simp only [items]
    rw [sh_next, hnext]
  rw [e1, sh_items]
  congr 1
  exact items_fuel _ _ l 0 (Nat.zero_le _) (by omega) (by omega)
end K
end Go.Proofs.YtiflnciapboccaaDoor
