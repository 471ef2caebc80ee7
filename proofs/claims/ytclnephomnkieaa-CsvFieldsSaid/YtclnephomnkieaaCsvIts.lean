/- Layer 9 of the program: the fields as the iterator hands them on, and what Parse makes of them (no walk). -/
import Derived.Test.YtclnephomnkieaaCsvBeg
import Derived.Test.YtclnephomnkieaaCsvRefW
set_option linter.unusedVariables false
namespace Go.Proofs.Ytclnephomnkieaa
open Go.RowKit Go.Shelf
/-- what is handed on: a field as it was read, its mark -/
abbrev Fld := List Int × (Int × Nat)
namespace V
theorem mk_kinds (n : Nat) (b : List Int) (h : endOK b = true) : (mk n b = (2, n) ∧ b = []) ∨ (∃ t, b = 44 :: t ∧ mk n b = (1, n - t.length)) ∨ (∃ t, b = 13 :: 10 :: t ∧ mk n b = (2, n - t.length)) := by
  unfold endOK at h
  split at h
  · exact .inl ⟨rfl, rfl⟩
  · exact .inr (.inl ⟨_, rfl, rfl⟩)
  · exact .inr (.inr ⟨_, rfl, rfl⟩)
  · cases h
theorem mk_bad (n : Nat) (b : List Int) (h : endOK b = false) : mk n b = (0, n - b.length) := by
  unfold endOK at h
  split at h
  · cases h
  · cases h
  · cases h
  · rename_i h1 h2 h3
    unfold mk
    split
    · exact absurd rfl h1
    · exact absurd rfl (h2 _)
    · exact absurd rfl (h3 _)
    · rfl
/-- the mark of a field's reading, by the grammar -/
theorem fres_bad (s : ByteArray) (r b : List Int) (h : field r = (none, b)) : (FRes s r).2 = (0, s.size - b.length) := by
  unfold field at h
  split at h
  · show (QRes s (quoted _)).2 = _
    split at h
    · rename_i hq
      injection h with _ h
      rw [hq, ← h]; rfl
    · rename_i f c hq
      rw [hq]
      split at h
      · cases h
      · rename_i hc
        injection h with _ h
        rw [← h]
        exact mk_bad _ _ (by simpa using hc)
  · rename_i hne
    rw [fres_plain s r hne]
    split at h
    · cases h
    · rename_i hc
      injection h with _ h
      rw [← h]
      exact mk_bad _ _ (by simpa using hc)
theorem fres_good (s : ByteArray) (r f b : List Int) (h : field r = (some f, b)) : FRes s r = (f, mk s.size b) := by
  unfold field at h
  split at h
  · show QRes s (quoted _) = _
    split at h
    · cases h
    · rename_i g c hq
      rw [hq]
      split at h
      · injection h with h1 h
        injection h1 with h1
        rw [← h, ← h1]; rfl
      · cases h
  · rename_i hne
    rw [fres_plain s r hne]
    split at h
    · injection h with h1 h
      injection h1 with h1
      rw [← h, ← h1]
    · cases h
/-- the fields from a place on -/
def items (s : ByteArray) : Nat → Nat → List Fld
  | 0, _ => []
  | f + 1, p => FRes s ((strB s).drop p) :: (if (FRes s ((strB s).drop p)).2.1 = 1 ∨ ((FRes s ((strB s).drop p)).2.1 = 2 ∧ (FRes s ((strB s).drop p)).2.2 < s.size) then items s f (FRes s ((strB s).drop p)).2.2 else [])
def its (s : ByteArray) : List Fld := if 0 < s.size then items s (s.size + 1) 0 else []
/-- what Parse makes of a field -/
def stepF (a : Rws × Fs) (x : Fld) : Rws × Fs := if x.2.1 = 1 then (a.1, a.2 ++ [x.1]) else if x.2.1 = 2 then (a.1 ++ [a.2 ++ [x.1]], []) else a
def sofar (l : List Fld) : Rws × Fs := l.foldl stepF ([], [])
theorem sofar_snoc (l : List Fld) (x : Fld) : sofar (l ++ [x]) = stepF (sofar l) x := by simp [sofar]
theorem sofar_len (l : List Fld) : (sofar l).1.length ≤ l.length ∧ (sofar l).2.length ≤ l.length := by
  have key : ∀ (l : List Fld) (a : Rws × Fs), (l.foldl stepF a).1.length ≤ a.1.length + l.length ∧ (l.foldl stepF a).2.length ≤ a.2.length + l.length := by
    intro l
    induction l with
    | nil => intro a; simp
    | cons x l ih =>
      intro a
      have h := ih (stepF a x)
      have h2 : (stepF a x).1.length ≤ a.1.length + 1 ∧ (stepF a x).2.length ≤ a.2.length + 1 := by
        unfold stepF
        split
        · simp
        · split
          · simp
          · simp
      simp only [List.foldl_cons, List.length_cons]
      omega
  have h := key l ([], [])
  simpa [sofar] using h
theorem fres_place (s : ByteArray) (p : Nat) (hp : p ≤ s.size) : (FRes s ((strB s).drop p)).2.2 ≤ s.size ∧ ((FRes s ((strB s).drop p)).2.1 = 1 → p < (FRes s ((strB s).drop p)).2.2) ∧ ((FRes s ((strB s).drop p)).2.1 = 2 → p < s.size → p < (FRes s ((strB s).drop p)).2.2) ∧
    p ≤ (FRes s ((strB s).drop p)).2.2 := by
  have hl : ((strB s).drop p).length = s.size - p := by rw [List.length_drop, strB_len]
  have hfl := field_len ((strB s).drop p)
  cases hf : field ((strB s).drop p) with
  | mk o b =>
    rw [hf] at hfl
    simp only at hfl
    cases o with
    | none =>
      have h := fres_bad s _ b hf
      rw [h]
      refine ⟨(by simp), fun h => (by cases h), fun h => (by cases h), (by simp only; omega)⟩
    | some f =>
      have h := fres_good s _ f b hf
      have he := field_end _ f b hf
      rw [h]
      rcases mk_kinds s.size b he with ⟨h1, rfl⟩ | ⟨t, rfl, h1⟩ | ⟨t, rfl, h1⟩
      · rw [h1]; exact ⟨Nat.le_refl _, fun h => (by cases h), fun _ h => h, hp⟩
      · rw [h1]
        simp only [List.length_cons] at hfl
        exact ⟨(by simp), fun _ => (by simp only; omega), fun h => (by cases h), (by simp only; omega)⟩
      · rw [h1]
        simp only [List.length_cons] at hfl
        exact ⟨(by simp), fun h => (by cases h), fun _ _ => (by simp only; omega), (by simp only; omega)⟩
/-- what is to come -/
def rest (s : ByteArray) (L : Rws) (R : Fs) (k : Int) (p : Nat) : Res := if k = 1 then glueRow L R (row (((strB s).drop p).length + 1) ((strB s).drop p)) else glue L (parse ((strB s).drop p))
theorem drop_back (s : ByteArray) (p : Nat) (t : List Int) (k : Nat) (hp : p ≤ s.size) (h : ∃ c, (strB s).drop p = c ++ t) : (strB s).drop (s.size - t.length) = t := by
  obtain ⟨c, hc⟩ := h
  have hl : ((strB s).drop p).length = s.size - p := by rw [List.length_drop, strB_len]
  rw [hc, List.length_append] at hl
  have : s.size - t.length = p + c.length := by omega
  rw [this, ← List.drop_drop, hc, List.drop_left]
theorem field_rest (r : List Int) : ∃ c, r = c ++ (field r).2 := by
  unfold field
  split
  · rename_i t
    split
    · exact ⟨34 :: t, by simp⟩
    · rename_i f b hq
      obtain ⟨k, hk⟩ := quoted_rest _ t (Nat.le_refl _) f b hq
      have : (34 :: t : List Int) = (34 :: t.take k) ++ b := by rw [hk]; simp
      split <;> exact ⟨_, this⟩
  · split <;> exact ⟨bare r, (bare_behind r).symm⟩
/-- one field further -/
theorem rest_step (s : ByteArray) (L : Rws) (R : Fs) (k : Int) (p : Nat) (hp : p ≤ s.size) (hk : k = 1 ∨ (k = 2 ∧ R = [] ∧ p < s.size)) :
    ((FRes s ((strB s).drop p)).2.1 = 0 → (rest s L R k p).1 = none ∧ s.size - (rest s L R k p).2.length = (FRes s ((strB s).drop p)).2.2) ∧
    ((FRes s ((strB s).drop p)).2.1 = 1 → rest s L R k p = rest s (stepF (L, R) (FRes s ((strB s).drop p))).1 (stepF (L, R) (FRes s ((strB s).drop p))).2 1 (FRes s ((strB s).drop p)).2.2) ∧
    ((FRes s ((strB s).drop p)).2.1 = 2 → rest s L R k p = rest s (stepF (L, R) (FRes s ((strB s).drop p))).1 (stepF (L, R) (FRes s ((strB s).drop p))).2 2 (FRes s ((strB s).drop p)).2.2 ∧ (stepF (L, R) (FRes s ((strB s).drop p))).2 = []) ∧
    ((FRes s ((strB s).drop p)).2.1 = 0 ∨ (FRes s ((strB s).drop p)).2.1 = 1 ∨ (FRes s ((strB s).drop p)).2.1 = 2) := by
  have ha : rest s L R k p = after L R (field ((strB s).drop p)) := by
    unfold rest
    rcases hk with rfl | ⟨rfl, rfl, hlt⟩
    · rw [if_pos rfl, row_after]
    · rw [if_neg (by decide), parse_after L _ (by
        rw [drop_at s p hlt]; simp)]
  rw [ha]
  cases hf : field ((strB s).drop p) with
  | mk o b =>
    have hbk := drop_back s p
    obtain ⟨c, hc⟩ := field_rest ((strB s).drop p)
    rw [hf] at hc
    simp only at hc
    cases o with
    | none =>
      have h := fres_bad s _ b hf
      rw [h]
      exact ⟨fun _ => ⟨rfl, rfl⟩, fun h => (by cases h), fun h => (by cases h), .inl rfl⟩
    | some f =>
      have h := fres_good s _ f b hf
      have he := field_end _ f b hf
      rw [h]
      rcases mk_kinds s.size b he with ⟨h1, rfl⟩ | ⟨t, rfl, h1⟩ | ⟨t, rfl, h1⟩
      · rw [h1]
        refine ⟨fun h => (by cases h), fun h => (by cases h), fun _ => ⟨?_, rfl⟩, .inr (.inr rfl)⟩
        unfold rest
        rw [if_neg (by decide)]
        have hn : (strB s).drop s.size = [] := List.drop_eq_nil_of_le (by rw [strB_len]; exact Nat.le_refl _)
        show (some (L ++ [R ++ [f]]), ([] : List Int)) = glue (L ++ [R ++ [f]]) (parse ((strB s).drop s.size))
        rw [hn, parse_nil]
        simp [glue]
      · rw [h1]
        have hd := hbk t 0 hp ⟨c ++ [44], by rw [hc]; simp⟩
        refine ⟨fun h => (by cases h), fun _ => ?_, fun h => (by cases h), .inr (.inl rfl)⟩
        show glueRow L (R ++ [f]) (row (t.length + 1) t) = rest s L (R ++ [f]) 1 (s.size - t.length)
        unfold rest
        rw [if_pos rfl, hd]
      · rw [h1]
        have hd := hbk t 0 hp ⟨c ++ [13, 10], by rw [hc]; simp⟩
        refine ⟨fun h => (by cases h), fun h => (by cases h), fun _ => ⟨?_, rfl⟩, .inr (.inr rfl)⟩
        show glue (L ++ [R ++ [f]]) (parse t) = rest s (L ++ [R ++ [f]]) [] 2 (s.size - t.length)
        unfold rest
        rw [if_neg (by decide), hd]
theorem items_rest (s : ByteArray) (P : Res) : ∀ (f p : Nat) (a : Rws × Fs) (k : Int), s.size - p < f → p ≤ s.size → (k = 1 ∨ (k = 2 ∧ a.2 = [] ∧ p < s.size)) → rest s a.1 a.2 k p = P →
    ((∀ x ∈ items s f p, x.2.1 ≠ 0) → P = (some ((items s f p).foldl stepF a).1, [])) ∧ (∀ pre x t, items s f p = pre ++ x :: t → x.2.1 = 0 → P.1 = none ∧ s.size - P.2.length = x.2.2) := by
  intro f
  induction f with
  | zero => intro p a k h; omega
  | succ f ih =>
    intro p a k hfu hp hk hP
    obtain ⟨h0, h1, h2, h3⟩ := rest_step s a.1 a.2 k p hp hk
    have hpl := fres_place s p hp
    simp only [items]
    obtain ⟨y, hy⟩ : ∃ y, FRes s ((strB s).drop p) = y := ⟨_, rfl⟩
    rw [hy] at h0 h1 h2 h3 hpl ⊢
    rw [hP] at h0 h1 h2
    rcases h3 with h3 | h3 | h3
    · rw [if_neg (by omega)]
      refine ⟨fun h => absurd h3 (h y (by simp)), fun pre x t he hx => ?_⟩
      have : pre = [] ∧ y = x := by
        cases pre with
        | nil => simp at he; exact ⟨rfl, he.1⟩
        | cons z pre => simp at he
      rw [← this.2]
      exact h0 h3
    · rw [if_pos (.inl h3)]
      have hlt := hpl.2.1 h3
      have hr := ih y.2.2 (stepF a y) 1 (by omega) hpl.1 (.inl rfl) (h1 h3).symm
      refine ⟨fun h => hr.1 (fun x hx => h x (List.mem_cons_of_mem _ hx)), fun pre x t he hx => ?_⟩
      cases pre with
      | nil =>
        simp only [List.nil_append, List.cons.injEq] at he
        rw [← he.1, h3] at hx; cases hx
      | cons z pre =>
        simp only [List.cons_append, List.cons.injEq] at he
        exact hr.2 pre x t he.2 hx
    · by_cases hlt : y.2.2 < s.size
      · rw [if_pos (.inr ⟨h3, hlt⟩)]
        have hpp : p < y.2.2 := hpl.2.2.1 h3 (by omega)
        have hr := ih y.2.2 (stepF a y) 2 (by omega) hpl.1 (.inr ⟨rfl, (h2 h3).2, hlt⟩) (h2 h3).1.symm
        refine ⟨fun h => hr.1 (fun x hx => h x (List.mem_cons_of_mem _ hx)), fun pre x t he hx => ?_⟩
        cases pre with
        | nil =>
          simp only [List.nil_append, List.cons.injEq] at he
          rw [← he.1, h3] at hx; cases hx
        | cons z pre =>
          simp only [List.cons_append, List.cons.injEq] at he
          exact hr.2 pre x t he.2 hx
      · rw [if_neg (by omega)]
        refine ⟨fun _ => ?_, fun pre x t he hx => ?_⟩
        · rw [(h2 h3).1]
          unfold rest
          rw [if_neg (by decide), List.drop_eq_nil_of_le (by rw [strB_len]; omega), parse_nil]
          simp [glue]
        · have : pre = [] ∧ y = x := by
            cases pre with
            | nil => simp at he; exact ⟨rfl, he.1⟩
            | cons z pre => simp at he
          rw [← this.2, h3] at hx; cases hx
/-- all fields came, none wrong: the rows -/
theorem its_all (s : ByteArray) (h : ∀ x ∈ its s, x.2.1 ≠ 0) : parse (strB s) = (some (sofar (its s)).1, []) := by
  unfold its at h ⊢
  by_cases h0 : 0 < s.size
  · rw [if_pos h0] at h ⊢
    refine (items_rest s _ (s.size + 1) 0 ([], []) 2 (by omega) (Nat.zero_le _) (.inr ⟨rfl, rfl, h0⟩) ?_).1 h
    unfold rest
    rw [if_neg (by decide)]
    simp [glue_nil]
  · rw [if_neg h0]
    have : strB s = [] := List.length_eq_zero_iff.1 (by rw [strB_len]; omega)
    rw [this, parse_nil]; rfl
/-- a field came that is wrong: the place -/
theorem its_wrong (s : ByteArray) (pre t : List Fld) (x : Fld) (h : its s = pre ++ x :: t) (hx : x.2.1 = 0) : (parse (strB s)).1 = none ∧ s.size - (parse (strB s)).2.length = x.2.2 := by
  unfold its at h
  by_cases h0 : 0 < s.size
  · rw [if_pos h0] at h
    refine (items_rest s _ (s.size + 1) 0 ([], []) 2 (by omega) (Nat.zero_le _) (.inr ⟨rfl, rfl, h0⟩) ?_).2 pre x t h hx
    unfold rest
    rw [if_neg (by decide)]
    simp [glue_nil]
  · rw [if_neg h0] at h
    cases pre <;> simp at h
end V
end Go.Proofs.Ytclnephomnkieaa
