/- Layer 1: what the statements need of UTF-8 itself: a text's codes are the one way to take it apart. -/
import Derived.Test.YtiflnciapboccaaDoorUtfRefText
namespace Go.Proofs.YtiflnciapboccaaDoor
open Go.RowKit Go.Shelf
namespace U
/-- these are the codes at the beginning, as far as they go -/
def Parse (l : List Int) (cs : List Int) : Prop := okAll cs = true ∧ ∃ t, l = cs.flatMap put ++ t ∧ (get t).2 = 0
theorem at_of_size (c : Int) (t : List Int) (h : size c ≠ 0) : At (put c ++ t) c (put c).length := by
  refine ⟨?_, ?_, t, rfl⟩
  all_goals rcases size_cases c with ⟨q, hp⟩ | ⟨q, _, _, hp⟩ | ⟨q, _, _, hp⟩ | ⟨q, _, _, _, hp⟩ | ⟨q, _, _, hp⟩ <;> first | exact absurd q h | (rw [hp]; simp [q])
theorem get_put (c : Int) (t : List Int) (h : size c ≠ 0) : get (put c ++ t) = (c, (put c).length) := get_of _ _ _ (at_of_size c t h)
theorem okAll_cons (c : Int) (cs : List Int) : okAll (c :: cs) = true ↔ size c ≠ 0 ∧ okAll cs = true := by simp [okAll]
theorem parse_unique (l cs ds : List Int) (h : Parse l cs) (k : Parse l ds) : cs = ds := by
  induction cs generalizing l ds with
  | nil =>
    obtain ⟨_, t, rfl, h0⟩ := h
    obtain ⟨hk, u, e, _⟩ := k
    cases ds with
    | nil => rfl
    | cons d ds =>
      rw [okAll_cons] at hk
      simp only [List.flatMap_cons, List.append_assoc] at e
      rw [show l = _ from e, get_put d _ hk.1] at h0
      have := (at_of_size d [] hk.1).1
      simp at h0; simp [h0] at this
  | cons c cs ih =>
    obtain ⟨hc, t, rfl, h0⟩ := h
    rw [okAll_cons] at hc
    obtain ⟨hk, u, e, k0⟩ := k
    simp only [List.flatMap_cons, List.append_assoc] at e
    cases ds with
    | nil =>
      simp only [List.flatMap_nil, List.nil_append] at e
      rw [← e, get_put c _ hc.1] at k0
      have := (at_of_size c [] hc.1).1
      simp at k0; simp [k0] at this
    | cons d ds =>
      rw [okAll_cons] at hk
      simp only [List.flatMap_cons, List.append_assoc] at e
      have e1 := get_put c (cs.flatMap put ++ t) hc.1
      rw [e, get_put d _ hk.1] at e1
      have hcd : d = c := (Prod.mk.inj e1).1
      subst hcd
      rw [ih (cs.flatMap put ++ t) ds ⟨hc.2, t, rfl, h0⟩ ⟨hk.2, u, List.append_cancel_left e, k0⟩]
/-- the codes of a list of bytes -/
theorem cds_parse (f : Nat) (l : List Int) (p : Nat) (hb : Bytes l) (hp : p ≤ l.length) (hf : l.length ≤ p + f) :
    Parse (l.drop p) ((cds f l p).map (·.1)) ∧ (cds f l p ≠ [] → lastEnd (cds f l p) = p + (((cds f l p).map (·.1)).flatMap put).length) := by
  induction f generalizing p with
  | zero =>
    have : l.drop p = [] := by rw [List.drop_eq_nil_iff]; omega
    rw [this]
    exact ⟨⟨rfl, [], rfl, rfl⟩, fun h => absurd rfl h⟩
  | succ f ih =>
    have hga : getAt l p = if p < l.length then get (l.drop p) else (0, 0) := by
      unfold getAt
      by_cases h : p < l.length
      · rw [if_pos (by omega), if_pos h, Int.toNat_natCast]
      · rw [if_neg (by omega), if_neg h]
    by_cases h : 0 < (getAt l p).2
    · have hpl : p < l.length := by
        rcases Nat.lt_or_ge p l.length with h1 | h1
        · exact h1
        · rw [hga, if_neg (by omega)] at h; simp at h
      rw [if_pos hpl] at hga
      rw [cds_step f l p h]
      rw [hga] at h ⊢
      have hx : ∀ x ∈ l.drop p, 0 ≤ x := fun x hx => by
        obtain ⟨i, hi, rfl⟩ := List.getElem_of_mem hx
        rw [List.length_drop] at hi
        have := (hb (p + i)).1
        rw [List.getElem?_eq_getElem (by omega)] at this
        simpa using this
      obtain ⟨h0, hs, t, ht⟩ := at_of_get (l.drop p) hx h
      have hn : (put (get (l.drop p)).1).length = (get (l.drop p)).2 := by rw [put_len, hs]; rfl
      have hpn : p + (get (l.drop p)).2 ≤ l.length := by
        have := congrArg List.length ht
        rw [List.length_drop, List.length_append, hn] at this
        omega
      have hdr : l.drop (p + (get (l.drop p)).2) = t := by
        rw [← List.drop_drop]
        exact (congrArg (List.drop (get (l.drop p)).2) ht).trans (by rw [← hn, List.drop_left])
      obtain ⟨⟨k1, u, k2, k3⟩, k4⟩ := ih (p + (get (l.drop p)).2) hpn (by omega)
      rw [hdr] at k2
      refine ⟨⟨?_, u, ?_, k3⟩, fun _ => ?_⟩
      · rw [List.map_cons, okAll_cons]; exact ⟨by rw [hs]; simp; omega, k1⟩
      · rw [List.map_cons, List.flatMap_cons, List.append_assoc, ← k2]; exact ht
      · cases hc : cds f l (p + (get (l.drop p)).2) with
        | nil => simp [lastEnd, hn]
        | cons y ys =>
          have := k4 (by rw [hc]; simp)
          rw [hc] at this
          rw [List.map_cons, List.flatMap_cons, List.length_append, hn, ← Nat.add_assoc, ← this]
          simp [lastEnd]
    · rw [cds_stop f l p h]
      refine ⟨⟨rfl, l.drop p, rfl, ?_⟩, fun h => absurd rfl h⟩
      rcases Nat.lt_or_ge p l.length with h1 | h1
      · rw [hga, if_pos h1] at h; omega
      · rw [List.drop_eq_nil_iff.2 h1]; rfl
def codesOf (s : ByteArray) : List Int := (cds s.size (strB s) 0).map (·.1)
def endOf (s : ByteArray) : Nat := lastEnd (cds s.size (strB s) 0)
theorem codes_parse (s : ByteArray) : Parse (strB s) (codesOf s) ∧ endOf s = ((codesOf s).flatMap put).length := by
  have h := cds_parse s.size (strB s) 0 (strB_bytes s) (Nat.zero_le _) (by rw [strB_len]; omega)
  refine ⟨h.1, ?_⟩
  unfold endOf codesOf
  cases hc : cds s.size (strB s) 0 with
  | nil => rfl
  | cons y ys => rw [← hc, h.2 (by rw [hc]; simp), Nat.zero_add]
theorem end_le (s : ByteArray) : endOf s ≤ s.size := by
  obtain ⟨⟨_, t, h, _⟩, he⟩ := codes_parse s
  have := congrArg List.length h
  rw [strB_len, List.length_append] at this
  omega
theorem valid_iff (s : ByteArray) : validS s = true ↔ strB s = (codesOf s).flatMap put := by
  obtain ⟨⟨_, t, h, _⟩, he⟩ := codes_parse s
  have hl := congrArg List.length h
  rw [strB_len, List.length_append] at hl
  simp only [validS, decide_eq_true_eq]
  show endOf s = s.size ↔ _
  constructor
  · intro h1
    have : t = [] := List.length_eq_zero_iff.1 (by omega)
    rw [h, this, List.append_nil]
  · intro h1
    have := congrArg List.length h1
    rw [strB_len] at this
    omega
theorem count_eq (s : ByteArray) : countS s = if validS s then ((codesOf s).length : Int) else -1 := by
  have h1 := end_le s
  have h2 : validS s = decide (endOf s = s.size) := rfl
  simp only [countS, codesOf, List.length_map]
  show (if endOf s < s.size then _ else _) = _
  rw [h2]
  by_cases h : endOf s < s.size
  · rw [if_pos h, if_neg (by simp; omega)]
  · rw [if_neg h, if_pos (by simp; omega)]
theorem okAll_append (a b : List Int) : okAll (a ++ b) = true ↔ okAll a = true ∧ okAll b = true := by simp [okAll]
/-- behind a valid text the codes are those of what stands there -/
theorem codes_append (s t : ByteArray) (h : validS s = true) : codesOf (s ++ t) = codesOf s ++ codesOf t ∧ validS (s ++ t) = validS t := by
  rw [valid_iff] at h
  obtain ⟨⟨a1, _⟩, _⟩ := codes_parse s
  obtain ⟨⟨b1, u, b2, b3⟩, _⟩ := codes_parse t
  have hp : Parse (strB (s ++ t)) (codesOf s ++ codesOf t) :=
    ⟨(okAll_append _ _).2 ⟨a1, b1⟩, u, by rw [strB_append, List.flatMap_append, List.append_assoc, ← b2, ← h], b3⟩
  have hc := parse_unique _ _ _ (codes_parse (s ++ t)).1 hp
  refine ⟨hc, ?_⟩
  rw [Bool.eq_iff_iff, valid_iff, valid_iff, hc, strB_append, List.flatMap_append]
  constructor
  · intro e; rw [h] at e; exact List.append_cancel_left e
  · intro e; rw [e, ← h]
theorem joins (s t : ByteArray) (h : 0 ≤ countS s) : (0 ≤ countS t → countS (s ++ t) = countS s + countS t) ∧ (countS t < 0 → countS (s ++ t) < 0) := by
  have hs : validS s = true := by
    rw [count_eq] at h
    by_cases hv : validS s = true
    · exact hv
    · rw [if_neg hv] at h; omega
  obtain ⟨c1, c2⟩ := codes_append s t hs
  rw [count_eq, count_eq, count_eq, c1, c2, if_pos hs]
  by_cases ht : validS t = true
  · simp [ht]; omega
  · simp [ht]
/-- no beginning of a code's bytes is a code's -/
theorem get_short (r : List Int) (hr : ∀ x ∈ r, 0 ≤ x) (k : Nat) (hk : k < (get r).2) : (get (r.take k)).2 = 0 := by
  rcases Nat.eq_zero_or_pos (get (r.take k)).2 with h | h
  · exact h
  · obtain ⟨h0, h1, t, h2⟩ := at_of_get (r.take k) (fun x hx => hr x (List.mem_of_mem_take hx)) h
    have h3 : At r (get (r.take k)).1 (get (r.take k)).2 := ⟨h0, h1, t ++ r.drop k, by rw [← List.append_assoc, ← h2, List.take_append_drop]⟩
    have h4 := get_of _ _ _ h3
    have h5 := (refC_of _ _ _ ⟨h0, h1, t, h2⟩).2.2.2
    rw [List.length_take] at h5
    rw [h4] at hk
    have := Nat.min_le_left k r.length
    simp only at hk; omega
end U
def CdsOf (w : World) (s : ByteArray) (e : Ending) (w' : World) : Prop :=
  ∃ v, e = .returned (.tuple #[v, .int .i64 (U.endOf s : Int)]) ∧ w'.ownsRow w.heap.size 3 1 v (U.codesOf s).length (i64s (U.codesOf s)) ∧ Below w.heap.size w w'
theorem cdsOf {w : World} {s : ByteArray} {e : Ending} {w' : World} (h : Cds w s e w') : CdsOf w s e w' := by
  obtain ⟨v, rfl, h, hb⟩ := h
  exact ⟨v, rfl, ownsRow_nth h (by simp [U.codesOf]) rfl, hb⟩
theorem put_bytes (c : Int) : ∀ x ∈ U.put c, 0 ≤ x ∧ x ≤ 255 := by
  rcases U.size_cases c with ⟨_, hp⟩ | ⟨_, _, _, hp⟩ | ⟨_, _, _, hp⟩ | ⟨_, _, _, _, hp⟩ | ⟨_, _, _, hp⟩ <;> rw [hp] <;> simp <;> omega
theorem text_codes (s : ByteArray) : U.text (U.codesOf s) = (s.extract 0 (U.endOf s), true) ∧ U.validS (s.extract 0 (U.endOf s)) = true := by
  obtain ⟨⟨h1, t, h2, h3⟩, h4⟩ := U.codes_parse s
  have e1 : strB (s.extract 0 (U.endOf s)) = (U.codesOf s).flatMap U.put := by
    rw [strB_extract, h2, h4, List.take_left]
  refine ⟨?_, ?_⟩
  · simp only [U.text, h1, if_true]
    rw [← e1, strOfNums_strB]
  · rw [U.valid_iff, e1]
    have : U.Parse (strB (s.extract 0 (U.endOf s))) (U.codesOf s) := ⟨h1, [], by rw [e1, List.append_nil], rfl⟩
    rw [U.parse_unique _ _ _ (U.codes_parse _).1 this]
end Go.Proofs.YtiflnciapboccaaDoor
