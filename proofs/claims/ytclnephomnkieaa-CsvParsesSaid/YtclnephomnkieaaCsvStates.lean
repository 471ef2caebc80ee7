/- CSV read byte by byte, by states: what is still to come (no program is mentioned here). -/
import Derived.Test.YtclnephomnkieaaCsvMath
namespace Go.Proofs.Ytclnephomnkieaa
namespace V
abbrev Res := Option (List (List (List Int))) × List Int
def glueRow (L : List (List (List Int))) (R : List (List Int)) : Option (List (List Int)) × List Int → Res
  | (none, c) => (none, c)
  | (some fs, c) => glue (L ++ [R ++ fs]) (parse c)
/-- behind a field -/
def after (L : List (List (List Int))) (R : List (List Int)) : Option (List Int) × List Int → Res
  | (none, b) => (none, b)
  | (some f, 44 :: b) => glueRow L (R ++ [f]) (row (b.length + 1) b)
  | (some f, 13 :: 10 :: b) => glue (L ++ [R ++ [f]]) (parse b)
  | (some f, _) => (some (L ++ [R ++ [f]]), [])
def plainOn (F r : List Int) : Option (List Int) × List Int := if endOK (behind r) then (some (F ++ bare r), behind r) else (none, behind r)
def quotedOn (F r : List Int) : Option (List Int) × List Int := match quoted r with
  | none => (none, [])
  | some (f, b) => if endOK b then (some (F ++ f), b) else (none, b)
def closed (F r : List Int) : Option (List Int) × List Int := match r with
  | 34 :: t => quotedOn (F ++ [34]) t
  | _ => if endOK r then (some F, r) else (none, r)
def cont (st : Nat) (bg : Bool) (L : List (List (List Int))) (R : List (List Int)) (F r : List Int) : Res :=
  if st = 0 then (if bg then glueRow L R (row (r.length + 1) r) else glue L (parse r))
  else if st = 1 then after L R (plainOn F r) else if st = 2 then after L R (quotedOn F r) else after L R (closed F r)
theorem glue_glue (A B : List (List (List Int))) (x : Res) : glue A (glue B x) = glue (A ++ B) x := by
  rcases x with ⟨_ | o, c⟩ <;> simp [glue]
theorem glue_nil (x : Res) : glue [] x = x := by rcases x with ⟨_ | o, c⟩ <;> simp [glue]
theorem row_after (L : List (List (List Int))) (R : List (List Int)) (r : List Int) : glueRow L R (row (r.length + 1) r) = after L R (field r) := by
  have hf := field_len r
  rw [row]
  split
  · rename_i b heq; rw [heq]; rfl
  · rename_i f b heq
    rw [heq] at hf ⊢
    simp only [List.length_cons] at hf
    show _ = glueRow L (R ++ [f]) (row (b.length + 1) b)
    rw [row_fuel r.length (b.length + 1) b (by omega) (by omega)]
    cases row (b.length + 1) b with
    | mk o c => cases o <;> simp [glueRow]
  · rename_i f b heq; rw [heq]; rfl
  · rename_i f c h1 h2 heq
    rw [heq]
    show glue (L ++ [R ++ [f]]) (parse []) = after L R (some f, c)
    have he := field_end r f c heq
    unfold after
    split
    · rename_i heq2; cases heq2
    · rename_i heq2; injection heq2 with _ heq2; exact (h1 _ heq2).elim
    · rename_i heq2; injection heq2 with _ heq2; exact (h2 _ heq2).elim
    · rename_i heq2; injection heq2 with heq2 _; injection heq2 with heq2; rw [heq2]; simp [glue, parse_nil]
theorem parse_after (L : List (List (List Int))) (r : List Int) (hr : r ≠ []) : glue L (parse r) = after L [] (field r) := by
  rw [← row_after]
  unfold parse
  rw [rows, if_neg hr]
  cases hrow : row (r.length + 1) r with
  | mk o b =>
    cases o with
    | none => rfl
    | some x =>
      have hb := row_lt _ r x b hrow hr
      simp only
      rw [rows_fuel r.length (b.length + 1) b (by omega) (by omega)]
      show _ = glue (L ++ [[] ++ x]) (rows (b.length + 1) b)
      cases rows (b.length + 1) b with
      | mk o c => cases o <;> simp [glue]
theorem cont_zero (bg : Bool) (L : List (List (List Int))) (R : List (List Int)) (F r : List Int) (h : bg = true ∨ (R = [] ∧ r ≠ [])) : cont 0 bg L R F r = after L R (field r) := by
  unfold cont
  rw [if_pos rfl]
  cases bg with
  | true => exact row_after L R r
  | false =>
    rcases h with h | ⟨rfl, h⟩
    · cases h
    · exact parse_after L r h
theorem field_plain (r : List Int) (h : ∀ t, r ≠ 34 :: t) : field r = plainOn [] r := by
  unfold field plainOn
  split
  · exact absurd rfl (h _)
  · rfl
theorem behind_sp (x : Int) (t : List Int) (h : sp x = true) : behind (x :: t) = x :: t ∧ bare (x :: t) = [] := by
  unfold behind bare
  rw [List.dropWhile_cons_of_neg (by simp [h]), List.takeWhile_cons_of_neg (by simp [h])]
  exact ⟨rfl, rfl⟩
theorem behind_go (x : Int) (t : List Int) (h : sp x = false) : behind (x :: t) = behind t ∧ bare (x :: t) = x :: bare t := by
  unfold behind bare
  rw [List.dropWhile_cons_of_pos (by simp [h]), List.takeWhile_cons_of_pos (by simp [h])]
  exact ⟨rfl, rfl⟩
theorem plainOn_go (F : List Int) (x : Int) (t : List Int) (h : sp x = false) : plainOn F (x :: t) = plainOn (F ++ [x]) t := by
  unfold plainOn
  rw [(behind_go x t h).1, (behind_go x t h).2, List.append_assoc]; rfl
theorem plainOn_sp (F : List Int) (x : Int) (t : List Int) (h : sp x = true) : plainOn F (x :: t) = if endOK (x :: t) then (some F, x :: t) else (none, x :: t) := by
  unfold plainOn
  rw [(behind_sp x t h).1, (behind_sp x t h).2, List.append_nil]
/-- the field so far, and what stands at the place is none of its bytes -/
def Ends (st : Nat) (bg : Bool) (R : List (List Int)) (F r : List Int) : Prop := (st = 0 ∧ F = [] ∧ (bg = true ∨ (R = [] ∧ r ≠ []))) ∨ st = 1 ∨ st = 3
theorem cont_sp (st : Nat) (bg : Bool) (L : List (List (List Int))) (R : List (List Int)) (F : List Int) (x : Int) (t : List Int) (h : Ends st bg R F (x :: t)) (h34 : x ≠ 34) (hs : sp x = true ∨ st = 3) :
    cont st bg L R F (x :: t) = after L R (if endOK (x :: t) then (some F, x :: t) else (none, x :: t)) := by
  rcases h with ⟨rfl, rfl, h⟩ | rfl | rfl
  · rw [cont_zero bg L R [] _ h, field_plain _ (fun u e => h34 (by injection e)), plainOn_sp [] x t (by rcases hs with h | h; exact h; cases h)]
  · unfold cont
    rw [if_neg (by decide), if_pos rfl, plainOn_sp F x t (by rcases hs with h | h; exact h; cases h)]
  · unfold cont
    rw [if_neg (by decide), if_neg (by decide), if_neg (by decide)]
    unfold closed
    split
    · rename_i heq; injection heq with heq _; exact absurd heq h34
    · rfl
theorem cont_comma (st : Nat) (bg : Bool) (L : List (List (List Int))) (R : List (List Int)) (F t : List Int) (h : Ends st bg R F (44 :: t)) :
    cont st bg L R F (44 :: t) = cont 0 true L (R ++ [F]) [] t := by
  rw [cont_sp st bg L R F 44 t h (by decide) (.inl rfl)]
  rfl
theorem cont_crlf (st : Nat) (bg : Bool) (L : List (List (List Int))) (R : List (List Int)) (F t : List Int) (h : Ends st bg R F (13 :: 10 :: t)) :
    cont st bg L R F (13 :: 10 :: t) = cont 0 false (L ++ [R ++ [F]]) [] [] t := by
  rw [cont_sp st bg L R F 13 _ h (by decide) (.inl rfl)]
  rfl
theorem cont_bad (st : Nat) (bg : Bool) (L : List (List (List Int))) (R : List (List Int)) (F : List Int) (x : Int) (t : List Int) (h : Ends st bg R F (x :: t)) (h34 : x ≠ 34) (hs : sp x = true ∨ st = 3) (he : endOK (x :: t) = false) :
    cont st bg L R F (x :: t) = (none, x :: t) := by
  rw [cont_sp st bg L R F x t h h34 hs, he]; rfl
/-- a quote in a field that didn't begin with one -/
theorem cont_quote1 (bg : Bool) (L : List (List (List Int))) (R : List (List Int)) (F t : List Int) : cont 1 bg L R F (34 :: t) = (none, 34 :: t) := by
  unfold cont
  rw [if_neg (by decide), if_pos rfl, plainOn_sp F 34 t rfl]
  rfl
theorem field_quote (t : List Int) : field (34 :: t) = quotedOn [] t := by
  show (match quoted t with | none => (none, []) | some (f, b) => if endOK b then (some f, b) else (none, b)) = _
  unfold quotedOn
  cases quoted t <;> rfl
theorem quoted_one (t : List Int) (h : ∀ u, t ≠ 34 :: u) : quoted (34 :: t) = some ([], t) := by
  conv => lhs; unfold quoted
  rw [if_pos rfl]
  split
  · exact absurd rfl (h _)
  · rfl
theorem quoted_two (u : List Int) : quoted (34 :: 34 :: u) = (quoted u).map fun p => (34 :: p.1, p.2) := by
  conv => lhs; unfold quoted
  rw [if_pos rfl]; rfl
theorem closed_ne (F r : List Int) (h : ∀ u, r ≠ 34 :: u) : closed F r = if endOK r then (some F, r) else (none, r) := by
  unfold closed
  split
  · exact absurd rfl (h _)
  · rfl
theorem cont_two (bg : Bool) (L : List (List (List Int))) (R : List (List Int)) (F r : List Int) : cont 2 bg L R F r = after L R (quotedOn F r) := by
  unfold cont
  rw [if_neg (by decide), if_neg (by decide), if_pos rfl]
theorem cont_three (bg : Bool) (L : List (List (List Int))) (R : List (List Int)) (F r : List Int) : cont 3 bg L R F r = after L R (closed F r) := by
  unfold cont
  rw [if_neg (by decide), if_neg (by decide), if_neg (by decide)]
theorem cont_quote0 (bg : Bool) (L : List (List (List Int))) (R : List (List Int)) (t : List Int) (h : bg = true ∨ (R = [] ∧ (34 :: t : List Int) ≠ [])) : cont 0 bg L R [] (34 :: t) = cont 2 true L R [] t := by
  rw [cont_zero bg L R [] _ h, field_quote, cont_two]
theorem cont_quote3 (bg : Bool) (L : List (List (List Int))) (R : List (List Int)) (F t : List Int) : cont 3 bg L R F (34 :: t) = cont 2 bg L R (F ++ [34]) t := by
  rw [cont_three, cont_two]; rfl
theorem cont_quote2 (bg : Bool) (L : List (List (List Int))) (R : List (List Int)) (F t : List Int) : cont 2 bg L R F (34 :: t) = cont 3 bg L R F t := by
  rw [cont_three, cont_two]
  congr 1
  unfold quotedOn
  by_cases h : ∃ u, t = 34 :: u
  · obtain ⟨u, rfl⟩ := h
    rw [quoted_two]
    show _ = quotedOn (F ++ [34]) u
    unfold quotedOn
    cases hq : quoted u with
    | none => rfl
    | some p => simp
  · rw [quoted_one t (fun u e => h ⟨u, e⟩)]
    show (if endOK t then (some (F ++ []), t) else (none, t)) = closed F t
    rw [List.append_nil, closed_ne F t (fun u e => h ⟨u, e⟩)]
theorem cont_in2 (bg : Bool) (L : List (List (List Int))) (R : List (List Int)) (F : List Int) (x : Int) (t : List Int) (h : x ≠ 34) : cont 2 bg L R F (x :: t) = cont 2 bg L R (F ++ [x]) t := by
  rw [cont_two, cont_two]
  congr 1
  unfold quotedOn
  have hx : quoted (x :: t) = (quoted t).map (fun p => (x :: p.1, p.2)) := by
    conv => lhs; unfold quoted
    rw [if_neg h]
  rw [hx]
  cases hq : quoted t with
  | none => rfl
  | some p => simp
theorem cont_plain (st : Nat) (bg : Bool) (L : List (List (List Int))) (R : List (List Int)) (F : List Int) (x : Int) (t : List Int) (h : Ends st bg R F (x :: t)) (h3 : st ≠ 3) (hx : sp x = false) : cont st bg L R F (x :: t) = cont 1 true L R (F ++ [x]) t := by
  have h34 : x ≠ 34 := fun e => by rw [e] at hx; revert hx; decide
  rcases h with ⟨rfl, rfl, h⟩ | rfl | rfl
  · rw [cont_zero bg L R [] _ h, field_plain _ (fun u e => h34 (by injection e)), plainOn_go [] x t hx]
    unfold cont
    rw [if_neg (by decide), if_pos rfl]
  · unfold cont
    rw [if_neg (by decide), if_pos rfl, if_neg (by decide), if_pos rfl, plainOn_go F x t hx]
  · exact absurd rfl h3
theorem cont_end2 (bg : Bool) (L : List (List (List Int))) (R : List (List Int)) (F : List Int) : cont 2 bg L R F [] = (none, []) := rfl
theorem cont_end0 (L : List (List (List Int))) (F : List Int) : cont 0 false L [] F [] = (some L, []) := by
  show glue L (parse []) = _
  simp [glue, parse_nil]
theorem cont_end (st : Nat) (L : List (List (List Int))) (R : List (List Int)) (F : List Int) (h : (st = 0 ∧ F = []) ∨ st = 1 ∨ st = 3) : cont st true L R F [] = (some (L ++ [R ++ [F]]), []) := by
  rcases h with ⟨rfl, rfl⟩ | rfl | rfl
  · rw [cont_zero true L R [] [] (.inl rfl)]; rfl
  · show after L R (plainOn F []) = _
    have : plainOn F [] = (some F, []) := by simp [plainOn, behind, bare, endOK]
    rw [this]; rfl
  · rfl
end V
end Go.Proofs.Ytclnephomnkieaa
