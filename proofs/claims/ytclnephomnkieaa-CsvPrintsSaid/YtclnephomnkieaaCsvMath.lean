/- Plain mathematics of CSV: rows of fields, read and printed (no program is mentioned here). -/
import Derived.Test.YtclnephomnkieaaStr
namespace Go.Proofs.Ytclnephomnkieaa
namespace V
def sp (x : Int) : Bool := decide (x = 34 ∨ x = 44 ∨ x = 13 ∨ x = 10)
/-- what may stand behind a field -/
def endOK : List Int → Bool
  | [] => true
  | 44 :: _ => true
  | 13 :: 10 :: _ => true
  | _ => false
/-- the content of a quoted field from behind its quote on, and what stands behind the closing one; none: the text ends -/
def quoted : List Int → Option (List Int × List Int)
  | [] => none
  | x :: r => if x = 34 then (match r with
      | 34 :: t => (quoted t).map fun p => (34 :: p.1, p.2)
      | _ => some ([], r)) else (quoted r).map fun p => (x :: p.1, p.2)
def bare (r : List Int) : List Int := r.takeWhile (fun x => !sp x)
def behind (r : List Int) : List Int := r.dropWhile (fun x => !sp x)
/-- a field, and what stands behind it; none: what is left from where it is wrong -/
def field (r : List Int) : Option (List Int) × List Int :=
  match r with
  | 34 :: t => (match quoted t with
    | none => (none, [])
    | some (f, b) => if endOK b then (some f, b) else (none, b))
  | _ => if endOK (behind r) then (some (bare r), behind r) else (none, behind r)
/-- a row's fields, and what stands behind its end -/
def row : Nat → List Int → Option (List (List Int)) × List Int
  | 0, r => (none, r)
  | n + 1, r => match field r with
    | (none, b) => (none, b)
    | (some f, 44 :: b) => (match row n b with
      | (none, c) => (none, c)
      | (some fs, c) => (some (f :: fs), c))
    | (some f, 13 :: 10 :: b) => (some [f], b)
    | (some f, _) => (some [f], [])
def rows : Nat → List Int → Option (List (List (List Int))) × List Int
  | 0, r => (none, r)
  | n + 1, r => if r = [] then (some [], []) else match row (r.length + 1) r with
    | (none, b) => (none, b)
    | (some x, b) => (match rows n b with
      | (none, c) => (none, c)
      | (some xs, c) => (some (x :: xs), c))
def parse (r : List Int) : Option (List (List (List Int))) × List Int := rows (r.length + 1) r
/-- a field's text -/
def dbl (f : List Int) : List Int := f.flatMap fun x => if x = 34 then [34, 34] else [x]
def ftext (f : List Int) : List Int := if f ≠ [] ∧ f.all (fun x => !sp x) = true then f else 34 :: dbl f ++ [34]
def rtext : List (List Int) → List Int
  | [] => []
  | [f] => ftext f
  | f :: g :: r => ftext f ++ 44 :: rtext (g :: r)
def text (L : List (List (List Int))) : List Int := L.flatMap fun r => rtext r ++ [13, 10]
theorem quoted_dbl (f b : List Int) (hb : ∀ t, b ≠ 34 :: t) : quoted (dbl f ++ 34 :: b) = some (f, b) := by
  induction f with
  | nil =>
    show quoted (34 :: b) = some ([], b)
    unfold quoted
    rw [if_pos rfl]
    cases b with
    | nil => rfl
    | cons y t =>
      by_cases hy : y = 34
      · exact absurd (by rw [hy]) (hb t)
      · split
        · rename_i heq; injection heq with h1 _; exact absurd h1 hy
        · rfl
  | cons x f ih =>
    by_cases hx : x = 34
    · subst hx
      show quoted (34 :: 34 :: (dbl f ++ 34 :: b)) = _
      rw [quoted, if_pos rfl]
      simp only [ih, Option.map_some]
    · have : dbl (x :: f) ++ 34 :: b = x :: (dbl f ++ 34 :: b) := by simp [dbl, hx]
      rw [this]
      conv => lhs; unfold quoted
      rw [if_neg hx, ih]; rfl
theorem endOK_sp (b : List Int) (h : endOK b = true) : b = [] ∨ ∃ x t, b = x :: t ∧ sp x = true ∧ x ≠ 34 := by
  unfold endOK at h
  split at h
  · exact .inl rfl
  · exact .inr ⟨44, _, rfl, rfl, by decide⟩
  · exact .inr ⟨13, _, rfl, rfl, by decide⟩
  · cases h
theorem bare_append (f b : List Int) (hf : f.all (fun x => !sp x) = true) (hb : b = [] ∨ ∃ x t, b = x :: t ∧ sp x = true ∧ x ≠ 34) : bare (f ++ b) = f ∧ behind (f ++ b) = b := by
  unfold bare behind
  have h1 : ∀ x ∈ f, (fun x => !sp x) x = true := by rwa [List.all_eq_true] at hf
  rw [List.takeWhile_append_of_pos h1, List.dropWhile_append_of_pos h1]
  rcases hb with rfl | ⟨x, t, rfl, hx, _⟩
  · simp
  · rw [List.takeWhile_cons_of_neg (by simp [hx]), List.dropWhile_cons_of_neg (by simp [hx])]
    simp
/-- a field's text is read as it -/
theorem field_ftext (f b : List Int) (hb : endOK b = true) : field (ftext f ++ b) = (some f, b) := by
  have hb' := endOK_sp b hb
  unfold ftext
  by_cases h : f ≠ [] ∧ f.all (fun x => !sp x) = true
  · rw [if_pos h]
    obtain ⟨h1, h2⟩ := bare_append f b h.2 hb'
    obtain ⟨x, t, rfl⟩ := List.exists_cons_of_ne_nil h.1
    have hx : x ≠ 34 := fun e => by
      have := List.all_eq_true.1 h.2 x (List.mem_cons_self ..)
      rw [e] at this
      revert this; decide
    unfold field
    split
    · rename_i heq; injection heq with h3 _; exact absurd h3 hx
    · rw [h1, h2, if_pos hb]
  · rw [if_neg h]
    show field (34 :: (dbl f ++ [34] ++ b)) = _
    unfold field
    rw [List.append_assoc]
    show (match quoted (dbl f ++ 34 :: b) with | none => (none, []) | some (f, b) => if endOK b then (some f, b) else (none, b)) = _
    rw [quoted_dbl f b (fun t e => by rcases hb' with h | ⟨y, u, h, _, hy⟩; rw [e] at h; cases h; rw [e] at h; injection h with h _; exact hy h.symm)]
    simp only [hb, if_true]
/-- what a list of bytes leaves is not longer -/
theorem quoted_len : ∀ (n : Nat) (r : List Int), r.length ≤ n → ∀ f b, quoted r = some (f, b) → b.length < r.length := by
  intro n
  induction n with
  | zero =>
    intro r h f b hq
    have : r = [] := List.length_eq_zero_iff.1 (by omega)
    subst this; unfold quoted at hq; cases hq
  | succ n ih =>
    intro r h f b hq
    cases r with
    | nil => unfold quoted at hq; cases hq
    | cons x r =>
      unfold quoted at hq
      by_cases hx : x = 34
      · rw [if_pos hx] at hq
        split at hq
        · rename_i t
          cases ht : quoted t with
          | none => rw [ht] at hq; cases hq
          | some p =>
            rw [ht] at hq
            simp only [Option.map_some, Option.some.injEq, Prod.mk.injEq] at hq
            have := ih t (by simp at h; omega) p.1 p.2 ht
            rw [← hq.2]; simp; omega
        · simp only [Option.some.injEq, Prod.mk.injEq] at hq
          rw [← hq.2]; simp
      · rw [if_neg hx] at hq
        cases ht : quoted r with
        | none => rw [ht] at hq; cases hq
        | some p =>
          rw [ht] at hq
          simp only [Option.map_some, Option.some.injEq, Prod.mk.injEq] at hq
          have := ih r (by simp at h; omega) p.1 p.2 ht
          rw [← hq.2]; simp; omega
theorem field_len (r : List Int) : (field r).2.length ≤ r.length := by
  unfold field
  split
  · rename_i t
    split
    · simp
    · rename_i f b hq
      have := quoted_len t.length t (Nat.le_refl _) f b hq
      split <;> (simp; omega)
  · have : (behind r).length ≤ r.length := (List.dropWhile_suffix _).length_le
    split <;> exact this
theorem field_end (r : List Int) (f : List Int) (b : List Int) (h : field r = (some f, b)) : endOK b = true := by
  unfold field at h
  split at h
  · split at h
    · cases h
    · split at h
      · rename_i hb; injection h with _ h; rw [← h]; exact hb
      · cases h
  · split at h
    · rename_i hb; injection h with _ h; rw [← h]; exact hb
    · cases h
theorem row_len (n : Nat) : ∀ r : List Int, (row n r).2.length ≤ r.length := by
  induction n with
  | zero => intro r; exact Nat.le_refl _
  | succ n ih =>
    intro r
    have hf := field_len r
    unfold row
    split
    · rename_i b heq; rw [heq] at hf; exact hf
    · rename_i f b heq
      rw [heq] at hf
      have := ih b
      simp only [List.length_cons] at hf
      split <;> (rename_i c hc; rw [hc] at this; simp only at this ⊢; omega)
    · rename_i f b heq
      rw [heq] at hf
      simp only [List.length_cons] at hf ⊢
      omega
    · simp
theorem row_fuel (n : Nat) : ∀ (m : Nat) (r : List Int), r.length < n → r.length < m → row n r = row m r := by
  induction n with
  | zero => intro m r h _; omega
  | succ n ih =>
    intro m r h1 h2
    cases m with
    | zero => omega
    | succ m =>
      have hf := field_len r
      unfold row
      split
      · rfl
      · rename_i f b heq
        rw [heq] at hf
        simp only [List.length_cons] at hf
        rw [ih m b (by omega) (by omega)]
      · rfl
      · rfl
/-- a row's text, its end behind it, is read as the row -/
theorem row_rtext (fs : List (List Int)) : fs ≠ [] → ∀ (n : Nat) (b : List Int), fs.length ≤ n → row n (rtext fs ++ 13 :: 10 :: b) = (some fs, b) := by
  induction fs with
  | nil => intro h; exact absurd rfl h
  | cons f fs ih =>
    intro _ n b hn
    cases n with
    | zero => simp at hn
    | succ n =>
      cases fs with
      | nil =>
        show row (n + 1) (ftext f ++ 13 :: 10 :: b) = _
        unfold row
        rw [field_ftext f _ rfl]; rfl
      | cons g fs =>
        have h := ih (by simp) n b (by simpa using hn)
        show row (n + 1) ((ftext f ++ 44 :: rtext (g :: fs)) ++ 13 :: 10 :: b) = _
        rw [List.append_assoc]
        unfold row
        rw [show 44 :: rtext (g :: fs) ++ 13 :: 10 :: b = 44 :: (rtext (g :: fs) ++ 13 :: 10 :: b) from rfl, field_ftext f _ rfl]
        simp only [h]
/-- .. where the text ends too -/
theorem row_rtext_end (fs : List (List Int)) : fs ≠ [] → ∀ (n : Nat), fs.length ≤ n → row n (rtext fs) = (some fs, []) := by
  induction fs with
  | nil => intro h; exact absurd rfl h
  | cons f fs ih =>
    intro _ n hn
    cases n with
    | zero => simp at hn
    | succ n =>
      cases fs with
      | nil =>
        show row (n + 1) (ftext f) = _
        unfold row
        have := field_ftext f [] rfl
        rw [List.append_nil] at this
        rw [this]
      | cons g fs =>
        have h := ih (by simp) n (by simpa using hn)
        show row (n + 1) (ftext f ++ 44 :: rtext (g :: fs)) = _
        unfold row
        rw [field_ftext f _ rfl]
        simp only [h]
theorem ftext_pos (f : List Int) : 0 < (ftext f).length := by
  unfold ftext
  split
  · rename_i h; exact List.length_pos_iff.2 h.1
  · simp
theorem rtext_len (fs : List (List Int)) : fs.length ≤ (rtext fs).length := by
  induction fs with
  | nil => simp
  | cons f fs ih =>
    have := ftext_pos f
    cases fs with
    | nil => simp only [rtext, List.length_cons, List.length_nil]; omega
    | cons g fs =>
      simp only [rtext, List.length_append, List.length_cons] at ih ⊢
      omega
theorem row_lt (n : Nat) : ∀ (r : List Int) (x : List (List Int)) (b : List Int), row n r = (some x, b) → r ≠ [] → b.length < r.length := by
  induction n with
  | zero => intro r x b h _; cases h
  | succ n ih =>
    intro r x b h hr
    have hf := field_len r
    have hp : 0 < r.length := List.length_pos_iff.2 hr
    unfold row at h
    split at h
    · cases h
    · rename_i f c heq
      rw [heq] at hf
      simp only [List.length_cons] at hf
      have h2 := row_len n c
      split at h
      · cases h
      · rename_i fs d hd
        rw [hd] at h2
        injection h with _ h
        rw [← h]; simp only at h2; omega
    · rename_i f c heq
      rw [heq] at hf
      simp only [List.length_cons] at hf
      injection h with _ h
      rw [← h]; omega
    · injection h with _ h
      rw [← h]; exact hp
theorem row_ne (n : Nat) (r : List Int) (x : List (List Int)) (b : List Int) (h : row n r = (some x, b)) : x ≠ [] := by
  cases n with
  | zero => cases h
  | succ n =>
    unfold row at h
    split at h
    · cases h
    · split at h
      · cases h
      · injection h with h _; injection h with h; rw [← h]; simp
    · injection h with h _; injection h with h; rw [← h]; simp
    · injection h with h _; injection h with h; rw [← h]; simp
theorem rows_fuel (n : Nat) : ∀ (m : Nat) (r : List Int), r.length < n → r.length < m → rows n r = rows m r := by
  induction n with
  | zero => intro m r h _; omega
  | succ n ih =>
    intro m r h1 h2
    cases m with
    | zero => omega
    | succ m =>
      unfold rows
      by_cases hr : r = []
      · rw [if_pos hr, if_pos hr]
      · rw [if_neg hr, if_neg hr]
        split
        · rfl
        · rename_i x b heq
          have hb := row_lt _ r x b heq hr
          rw [ih m b (by omega) (by omega)]
/-- rows put ahead -/
def glue (L : List (List (List Int))) : Option (List (List (List Int))) × List Int → Option (List (List (List Int))) × List Int
  | (none, c) => (none, c)
  | (some xs, c) => (some (L ++ xs), c)
theorem rows_text (L : List (List (List Int))) (hL : ∀ r ∈ L, r ≠ []) (s : List Int) : ∀ n, (text L ++ s).length < n → rows n (text L ++ s) = glue L (parse s) := by
  induction L with
  | nil =>
    intro n hn
    show rows n s = _
    rw [rows_fuel n (s.length + 1) s hn (by omega)]
    unfold glue parse
    split <;> simp_all
  | cons r L ih =>
    intro n hn
    have hr := hL r (List.mem_cons_self ..)
    have he : text (r :: L) ++ s = rtext r ++ 13 :: 10 :: (text L ++ s) := by simp [text]
    rw [he] at hn ⊢
    cases n with
    | zero => simp at hn
    | succ n =>
      unfold rows
      have hne : rtext r ++ 13 :: 10 :: (text L ++ s) ≠ [] := by simp
      rw [if_neg hne, row_rtext r hr _ _ (by have := rtext_len r; simp; omega)]
      simp only
      rw [ih (fun x hx => hL x (List.mem_cons_of_mem _ hx)) n (by simp at hn ⊢; omega)]
      unfold glue
      cases parse s with
      | mk o c => cases o <;> rfl
/-- what is printed, ahead of a text, is read as the rows, ahead of that text's -/
theorem parse_text (L : List (List (List Int))) (hL : ∀ r ∈ L, r ≠ []) (s : List Int) : parse (text L ++ s) = glue L (parse s) := rows_text L hL s _ (Nat.lt_succ_self _)
theorem rows_ok (n : Nat) : ∀ (r : List Int) (x : List (List (List Int))) (c : List Int), rows n r = (some x, c) → c = [] ∧ ∀ y ∈ x, y ≠ [] := by
  induction n with
  | zero => intro r x c h; cases h
  | succ n ih =>
    intro r x c h
    unfold rows at h
    split at h
    · injection h with h1 h2; injection h1 with h1; rw [← h1, ← h2]; exact ⟨rfl, by simp⟩
    · split at h
      · cases h
      · rename_i y b heq
        split at h
        · cases h
        · rename_i xs d hd
          injection h with h1 h2; injection h1 with h1
          have h3 := ih b xs d hd
          rw [← h2, ← h1]
          refine ⟨h3.1, fun z hz => ?_⟩
          rcases List.mem_cons.1 hz with rfl | hz
          · exact row_ne _ _ _ _ heq
          · exact h3.2 z hz
theorem parse_nil : parse [] = (some [], []) := rfl
theorem parse_ok (r : List Int) (x : List (List (List Int))) (c : List Int) (h : parse r = (some x, c)) : c = [] ∧ ∀ y ∈ x, y ≠ [] := rows_ok _ r x c h
theorem parse_len (r : List Int) : (parse r).2.length ≤ r.length := by
  have : ∀ (n : Nat) (r : List Int), (rows n r).2.length ≤ r.length := by
    intro n
    induction n with
    | zero => intro r; exact Nat.le_refl _
    | succ n ih =>
      intro r
      unfold rows
      split
      · simp
      · have hl := row_len (r.length + 1) r
        split
        · rename_i b heq; rw [heq] at hl; exact hl
        · rename_i x b heq
          rw [heq] at hl
          have := ih b
          simp only at hl
          split <;> (rename_i c hc; rw [hc] at this; simp only at this ⊢; omega)
  exact this _ r
/-- what is printed is read again -/
theorem parse_back (L : List (List (List Int))) (hL : ∀ r ∈ L, r ≠ []) : parse (text L) = (some L, []) := by
  have h := parse_text L hL []
  rw [List.append_nil, parse_nil] at h
  rw [h]; simp [glue]
/-- a row's text without its end -/
theorem parse_row (fs : List (List Int)) (h : fs ≠ []) : parse (rtext fs) = (some [fs], []) := by
  have hl := rtext_len fs
  have hp : 0 < fs.length := List.length_pos_iff.2 h
  have hne : rtext fs ≠ [] := fun e => by rw [e] at hl; simp only [List.length_nil] at hl; omega
  have hr := row_rtext_end fs h ((rtext fs).length + 1) (by omega)
  have h1 : 0 < (rtext fs).length := List.length_pos_iff.2 hne
  unfold parse
  rw [show (rtext fs).length + 1 = ((rtext fs).length - 1 + 1) + 1 by omega]
  conv => lhs; unfold rows
  rw [if_neg hne, hr]
  rfl
theorem text_append (a b : List (List (List Int))) : text (a ++ b) = text a ++ text b := by unfold text; rw [List.flatMap_append]
end V
end Go.Proofs.Ytclnephomnkieaa
