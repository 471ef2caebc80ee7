/- Plain mathematics of JSON's tokens, as the program's layer 7 reads them: no program is mentioned here. -/
import Derived.Test.YtpiajoffddjjfaaGreatDoorUtfSeqq
import Derived.Test.YtpiajoffddjjfaaGreatDoorNumMath
import Derived.Test.YtpiajoffddjjfaaGreatDoorStr
import Derived.Lib.AppendStr
import Derived.Deep.RegionWith
import Derived.Deep.RegionLaw
namespace Go.Proofs.YtpiajoffddjjfaaGreatDoor
namespace K
def bl : List Int := [32, 9, 10, 13]
def dg : List Int := [48, 49, 50, 51, 52, 53, 54, 55, 56, 57]
def nb : List Int := dg ++ [45, 43, 46, 101, 69]
def lt : List Int := [65, 66, 67, 68, 69, 70, 71, 72, 73, 74, 75, 76, 77, 78, 79, 80, 81, 82, 83, 84, 85, 86, 87, 88, 89, 90, 97, 98, 99, 100, 101, 102, 103, 104, 105, 106, 107, 108, 109, 110, 111, 112, 113, 114, 115, 116, 117, 118, 119, 120, 121, 122]
def mk : List Int := [91, 93, 123, 125, 58, 44]
/-- the place behind the longest row of some bytes that begins at a place -/
def runTo (c l : List Int) (p : Nat) : Nat := p + ((l.drop p).takeWhile (List.contains c)).length
/-- the place behind a byte of some, if one stands at a place -/
def one (c l : List Int) (p : Nat) : Nat := if p < l.length ∧ c.contains (l[p]?.getD 0) = true then p + 1 else p
theorem runTo_step (c l : List Int) (p : Nat) (h : p < l.length) (hc : c.contains (l[p]?.getD 0) = true) : runTo c l p = runTo c l (p + 1) := by
  unfold runTo
  rw [List.drop_eq_getElem_cons h]
  rw [List.getElem?_eq_getElem h] at hc
  simp only [Option.getD_some] at hc
  rw [List.takeWhile_cons_of_pos hc]
  simp only [List.length_cons]; omega
theorem runTo_stop (c l : List Int) (p : Nat) (h : p < l.length → c.contains (l[p]?.getD 0) = false) : runTo c l p = p := by
  unfold runTo
  rcases Nat.lt_or_ge p l.length with hp | hp
  · have h := h hp
    rw [List.getElem?_eq_getElem hp] at h
    simp only [Option.getD_some] at h
    rw [List.drop_eq_getElem_cons hp, List.takeWhile_cons_of_neg (by show ¬ c.contains l[p] = true; rw [h]; exact Bool.false_ne_true)]; rfl
  · rw [List.drop_eq_nil_of_le hp]; simp
theorem tw_le (f : Int → Bool) (l : List Int) : (l.takeWhile f).length ≤ l.length := (List.takeWhile_prefix f).length_le
theorem runTo_le (c l : List Int) (p : Nat) (h : p ≤ l.length) : p ≤ runTo c l p ∧ runTo c l p ≤ l.length := by
  unfold runTo
  have := tw_le (List.contains c) (l.drop p)
  rw [List.length_drop] at this
  omega
/-- all bytes of the row are of some -/
theorem runTo_in (c l : List Int) (p q : Nat) (h1 : p ≤ q) (h2 : q < runTo c l p) : c.contains (l[q]?.getD 0) = true := by
  unfold runTo at h2
  have hq : q - p < ((l.drop p).takeWhile (List.contains c)).length := by omega
  have hl := List.getElem_mem hq
  have hm := List.all_eq_true.1 (List.all_takeWhile (p := List.contains c) (l := l.drop p)) _ hl
  have hpre := (List.takeWhile_prefix (p := List.contains c) (l := l.drop p))
  have he := List.IsPrefix.getElem hpre hq
  rw [he] at hm
  have hlt : q < l.length := by
    have := tw_le (List.contains c) (l.drop p)
    rw [List.length_drop] at this; omega
  rw [List.getElem_drop] at hm
  rw [List.getElem?_eq_getElem hlt, Option.getD_some]
  rw [← hm]; congr 2; omega
/-- what stands behind the row is none of some -/
theorem runTo_out (c l : List Int) (p : Nat) (h : runTo c l p < l.length) : c.contains (l[runTo c l p]?.getD 0) = false := by
  generalize hn : l.length - p = n
  induction n generalizing p with
  | zero => unfold runTo at h; omega
  | succ n ih =>
    by_cases hc : c.contains (l[p]?.getD 0) = true
    · rw [runTo_step c l p (by omega) hc] at h ⊢
      exact ih (p + 1) h (by omega)
    · have hs := runTo_stop c l p (fun _ => by simpa using hc)
      rw [hs]; simpa using hc
theorem one_le (c l : List Int) (p : Nat) (h : p ≤ l.length) : p ≤ one c l p ∧ one c l p ≤ l.length ∧ one c l p ≤ p + 1 := by unfold one; split <;> omega
/-- numbers of JSON: behind a fraction, if one stands there; none if it is broken -/
def frac (r : List Int) (a : Nat) : Option Nat := if one [46] r a = a then some a else if runTo dg r (a + 1) = a + 1 then none else some (runTo dg r (a + 1))
def expo (r : List Int) (b : Nat) : Option Nat := if one [101, 69] r b = b then some b else if runTo dg r (one [43, 45] r (b + 1)) = one [43, 45] r (b + 1) then none else some (runTo dg r (one [43, 45] r (b + 1)))
/-- where the whole part ends -/
def whole (r : List Int) : Nat := runTo dg r (one [45] r 0)
def isNum (r : List Int) : Bool :=
  if whole r = one [45] r 0 ∨ (r[one [45] r 0]?.getD 0 = 48 ∧ one [45] r 0 + 1 < whole r) then false
  else match frac r (whole r) with
    | none => false
    | some b => match expo r b with
      | none => false
      | some e => decide (e = r.length)
def number (r : List Int) : Int × Int :=
  if isNum r = false then (0, 2) else if whole r < r.length then (0, 5) else if r = [45, 48] then (0, 0) else M.parse r
/-- a digit in sixteen; -1: it is none -/
def hexv (x : Int) : Int := if 48 ≤ x ∧ x ≤ 57 then x - 48 else if 97 ≤ x ∧ x ≤ 102 then x - 87 else if 65 ≤ x ∧ x ≤ 70 then x - 55 else -1
def hex4 (a b c d : Int) : Int := if hexv a < 0 ∨ hexv b < 0 ∨ hexv c < 0 ∨ hexv d < 0 then -1 else ((hexv a * 16 + hexv b) * 16 + hexv c) * 16 + hexv d
/-- the number of the escape of four digits at a place; -1: there is none -/
def unit (l : List Int) (p : Nat) : Int :=
  if p + 6 ≤ l.length ∧ l[p]?.getD 0 = 92 ∧ l[p + 1]?.getD 0 = 117 then hex4 (l[p + 2]?.getD 0) (l[p + 3]?.getD 0) (l[p + 4]?.getD 0) (l[p + 5]?.getD 0) else -1
def esc1 (x : Int) : Option Int := if x = 34 ∨ x = 92 ∨ x = 47 then some x else if x = 98 then some 8 else if x = 102 then some 12 else if x = 110 then some 10 else if x = 114 then some 13 else if x = 116 then some 9 else none
/-- what the escape at a place means, and how many bytes it has; 0: it is none -/
def escU (l : List Int) (p : Nat) : List Int × Nat :=
  if unit l p < 0 then ([], 0) else if U.size (unit l p) ≠ 0 then (U.put (unit l p), 6) else
  if 56320 ≤ unit l p ∨ unit l (p + 6) < 56320 ∨ 57343 < unit l (p + 6) then ([], 0) else (U.put (65536 + (unit l p - 55296) * 1024 + unit l (p + 6) - 56320), 12)
def esc (l : List Int) (p : Nat) : List Int × Nat :=
  if p + 1 < l.length then match esc1 (l[p + 1]?.getD 0) with
    | some m => ([m], 2)
    | none => escU l p
  else escU l p
def pre (b : List Int) : Option (List Int) × Nat → Option (List Int) × Nat
  | (none, q) => (none, q)
  | (some o, q) => (some (b ++ o), q)
theorem pre_pre (a b : List Int) (x : Option (List Int) × Nat) : pre a (pre b x) = pre (a ++ b) x := by
  rcases x with ⟨_ | o, q⟩ <;> simp [pre]
theorem pre_nil (x : Option (List Int) × Nat) : pre [] x = x := by
  rcases x with ⟨_ | o, q⟩ <;> simp [pre]
/-- a Text from behind its quotes on: what it means, and the place behind it; none: where it is wrong -/
def tx : Nat → List Int → Nat → Option (List Int) × Nat
  | 0, _, p => (none, p)
  | f + 1, l, p =>
    if l.length ≤ p then (none, p) else if l[p]?.getD 0 = 34 then (some [], p + 1) else
    if l[p]?.getD 0 = 92 then (if (esc l p).2 = 0 then (none, p) else pre (esc l p).1 (tx f l (p + (esc l p).2)))
    else if (getAt l p).2 = 0 ∨ (getAt l p).1 < 32 then (none, p) else pre ((l.drop p).take (getAt l p).2) (tx f l (p + (getAt l p).2))
theorem tx_fuel (f : Nat) : ∀ (g : Nat) (l : List Int) (p : Nat), l.length < f + p → l.length < g + p → tx f l p = tx g l p := by
  induction f with
  | zero =>
    intro g l p hf hg
    cases g with
    | zero => rfl
    | succ g => simp only [tx]; rw [if_pos (by omega)]
  | succ f ih =>
    intro g l p hf hg
    cases g with
    | zero => simp only [tx]; rw [if_pos (by omega)]
    | succ g =>
      simp only [tx]
      split
      · rfl
      · split
        · rfl
        · split
          · split
            · rfl
            · rw [ih g l _ (by omega) (by omega)]
          · split
            · rfl
            · rename_i h
              rw [ih g l _ (by omega) (by omega)]
def text (l : List Int) (p : Nat) : Option (List Int) × Nat := tx (l.length + 1) l p
theorem text_eq (l : List Int) (p : Nat) : text l p =
    if l.length ≤ p then (none, p) else if l[p]?.getD 0 = 34 then (some [], p + 1) else
    if l[p]?.getD 0 = 92 then (if (esc l p).2 = 0 then (none, p) else pre (esc l p).1 (text l (p + (esc l p).2)))
    else if (getAt l p).2 = 0 ∨ (getAt l p).1 < 32 then (none, p) else pre ((l.drop p).take (getAt l p).2) (text l (p + (getAt l p).2)) := by
  conv => lhs; unfold text; simp only [tx]
  split
  · rfl
  · split
    · rfl
    · split
      · split
        · rfl
        · unfold text; rw [tx_fuel l.length (l.length + 1) l _ (by omega) (by omega)]
      · split
        · rfl
        · unfold text; rw [tx_fuel l.length (l.length + 1) l _ (by omega) (by omega)]
structure Tok where
  kind : Int
  a : Int
  e : Int
  s : List Int
  n : Int
deriving DecidableEq
def zero : Tok := ⟨0, 0, 0, [], 0⟩
def isWord (r : List Int) : Bool := decide (r = [116, 114, 117, 101] ∨ r = [102, 97, 108, 115, 101] ∨ r = [110, 117, 108, 108])
def row (l : List Int) (p q : Nat) : List Int := (l.take q).drop p
/-- the token that begins at a place, the place behind it, OK; a zero one, where it is wrong, and the error -/
def tok (l : List Int) (p : Nat) : Tok × Nat × Int :=
  if l.length ≤ p then (⟨0, p, p, [], 0⟩, p, 0)
  else if l[p]?.getD 0 = 34 then (match text l (p + 1) with | (none, q) => (zero, q, 2) | (some o, q) => (⟨7, p, q, o, 0⟩, q, 0))
  else if l[p]?.getD 0 = 45 ∨ dg.contains (l[p]?.getD 0) = true then
    (if (number (row l p (runTo nb l p))).2 = 0 then (⟨8, p, runTo nb l p, [], (number (row l p (runTo nb l p))).1⟩, runTo nb l p, 0) else (zero, p, (number (row l p (runTo nb l p))).2))
  else if lt.contains (l[p]?.getD 0) = true then
    (if isWord (row l p (runTo lt l p)) = true then (⟨9, p, runTo lt l p, row l p (runTo lt l p), 0⟩, runTo lt l p, 0) else (zero, p, 2))
  else if mk.contains (l[p]?.getD 0) = true then (⟨1 + (mk.idxOf (l[p]?.getD 0) : Nat), p, (p + 1 : Nat), [], 0⟩, p + 1, 0)
  else (zero, p, 2)
def next (l : List Int) (p : Nat) : Tok × Nat × Int := tok l (runTo bl l p)
/-- all that Next answers, one behind the other, the last one End or an error -/
def items : Nat → List Int → Nat → List (Tok × Nat × Int)
  | 0, _, _ => []
  | f + 1, l, p => if (next l p).2.2 ≠ 0 ∨ (next l p).1.kind = 0 then [next l p] else next l p :: items f l (next l p).2.1
def its (l : List Int) : List (Tok × Nat × Int) := items (l.length + 1) l 0
def toks (L : List (Tok × Nat × Int)) : List Tok := (L.filter (fun x => decide (x.2.2 = 0))).map (·.1)
def lastAt (L : List (Tok × Nat × Int)) : Nat := match L.getLast? with | some x => x.2.1 | none => 0
def lastErr (L : List (Tok × Nat × Int)) : Int := match L.getLast? with | some x => x.2.2 | none => 0
def hexd (x : Int) : Int := if x < 10 then 48 + x else 87 + x
def q1 (x : Int) : List Int := if x = 34 ∨ x = 92 then [92, x] else if x < 32 then [92, 117, 48, 48, hexd (x / 16), hexd (x % 16)] else [x]
def quote (l : List Int) : List Int := if U.lastEnd (U.cds l.length l 0) = l.length then [34] ++ l.flatMap q1 ++ [34] else []
end K
end Go.Proofs.YtpiajoffddjjfaaGreatDoor

/- A slice of bytes of the call's own: what append makes of it. (Moved out of ValText in round 7.) -/
namespace Go.Proofs.YtpiajoffddjjfaaGreatDoor
open Go.RowKit Go.Shelf
/-- a slice of bytes of the call's own, all else that was there as it was -/
def Owns (w0 w : World) (v : Value) (xs : List Int) : Prop := w.ownsRow w0.heap.size 5 1 v xs.length (u8s xs) ∧ Below w0.heap.size w0 w
theorem owns_congr {w0 w : World} {v : Value} {xs ys : List Int} (h : Owns w0 w v xs) (e : xs = ys) : Owns w0 w v ys := e ▸ h
theorem owns_below {w0 w w' : World} {v : Value} {xs : List Int} (h : Owns w0 w v xs) (hb : Below w.heap.size w w') : Owns w0 w' v xs :=
  ⟨ownsRow_below h.1 hb, h.2.trans (hb.mono h.2.size)⟩
theorem owns_nil (w : World) : Owns w w (.slice none 0 0) [] := ⟨⟨rfl, .inl ⟨rfl, rfl⟩⟩, Below.refl _ _⟩
theorem owns_lt {w0 w : World} {v : Value} {xs : List Int} (h : Owns w0 w v xs) {g : Nat} (hg : w.heap.size ≤ g) : some g ≠ v.ownBlock := fun e => by
  have := (h.1.lt g e.symm).2; omega
theorem cell_grown {w w' : World} {v : Value} (hg : w.grownBy w' v.ownBlock) {p : Addr} {c : Value} (h : w.cell? p = some c) (hne : some p.block ≠ v.ownBlock) : w'.cell? p = some c := by
  have hbk : p.block < w.heap.size := by
    simp only [World.cell?] at h
    rcases Nat.lt_or_ge p.block w.heap.size with h' | h'
    · exact h'
    · rw [Array.getElem?_eq_none h'] at h; cases h
  rw [← h]
  simp only [World.cell?, hg.block p.block hbk hne]
theorem strCells_u8s (s : ByteArray) : Lib.strCells s = u8s (strB s) := by simp [Lib.strCells, u8s, strB, List.map_map, Function.comp_def]
theorem wpList_owns_str {ops : Array Oper} {rest : List Oper} {o : Oper} {a : Act} {w : World} {Q : Exit → Act → World → Prop} (hgd : o.guard = none) (sl x : Operand)
    (ho : o.op = .call { callee := .builtin .append, args := #[sl, x], argTypes := #[49, 9] }) (w0 : World) (v : Value) (xs : List Int) (hs : a.eval sl = v) (hown : Owns w0 w v xs) (s : ByteArray) (hx : a.eval x = .string s)
    (hlen : xs.length + s.size ≤ 70368744177664)
    (h : ∀ v' w', Owns w0 w' v' (xs ++ strB s) → w.grownBy w' v.ownBlock → wpList Tryz.prog ops Q rest (a.put o.dst v') w') : wpList Tryz.prog ops Q (o :: rest) a w := by
  obtain ⟨i0, hi, hz0, hz1, hz2⟩ := info_parts info_u8
  refine Lib.wpList_append_own_string w hgd sl x 49 9 ho w0.heap.size 5 i0 Tryz.underlying49 Tryz.underlying9 hi hz0 hz1 hz2 v xs.length (u8s xs) hs hown.1 s hx (by unfold maxLen; omega) (by omega) hown.2.size fun v' w' h1 h2 _ => h v' w' ⟨ownsRow_nth h1 (by rw [List.length_append, strB_len]) (by rw [strCells_u8s, u8s_append]), hown.2.trans (below_grown h2 hown.1 hown.2.size |>.mono (Nat.le_refl _))⟩ h2
theorem wpList_owns_one {ops : Array Oper} {rest : List Oper} {o : Oper} {a : Act} {w : World} {Q : Exit → Act → World → Prop} (hgd : o.guard = none) (sl x : Operand)
    (ho : o.op = .call { callee := .builtin .append, args := #[sl, x], argTypes := #[49, 49] }) (w0 : World) (v : Value) (xs : List Int) (hs : a.eval sl = v) (hown : Owns w0 w v xs) (g : Nat) (c : Int) (hx : a.eval x = .slice (some ⟨g, 0, none⟩) 1 1)
    (hc : w.cell? ⟨g, 0, none⟩ = some (.int .u8 c)) (hlen : xs.length ≤ 70368744177664)
    (h : ∀ v' w', Owns w0 w' v' (xs ++ [c]) → w.grownBy w' v.ownBlock → wpList Tryz.prog ops Q rest (a.put o.dst v') w') : wpList Tryz.prog ops Q (o :: rest) a w := by
  obtain ⟨i0, hi, hz0, hz1, hz2⟩ := info_parts info_u8
  refine wpList_append_own w hgd sl x 49 ho w0.heap.size 5 i0 (.int .u8 0) 1 1 Tryz.underlying49 hi hz0 hz1 hz2 rfl (by decide) v xs.length (u8s xs) hs hown.1 ⟨g, 0, none⟩ 1 1 [.int .u8 c] hx rfl (fun j u hu => ?_) (by simp [Value.oneCell']) (by unfold maxLen; omega) (by omega) hown.2.size
    fun v' w' h1 h2 _ => h v' w' ⟨ownsRow_nth h1 (by simp) (by rw [u8s_append]; rfl), hown.2.trans (below_grown h2 hown.1 hown.2.size |>.mono (Nat.le_refl _))⟩ h2
  match j, hu with
  | 0, hu => simp at hu; subst hu; exact hc
  | j + 1, hu => simp at hu
theorem step_owns_one {ops : Array Oper} {o : Oper} {a : Act} {w : World} {K : Act → World → Prop} {Q : Exit → Act → World → Prop} {E : Prop} (hg : o.guard = none) (sl x : Operand)
    (ho : o.op = Op.call { callee := Callee.builtin Builtin.append, args := #[sl, x], argTypes := #[49, 49] }) (w0 : World) (v : Value) (xs : List Int) (hs : a.eval sl = v) (hown : Owns w0 w v xs) (g : Nat) (c : Int) (hx : a.eval x = .slice (some ⟨g, 0, none⟩) 1 1)
    (hc : w.cell? ⟨g, 0, none⟩ = some (.int .u8 c)) (hlen : xs.length ≤ 70368744177664)
    (h : ∀ v' w', Owns w0 w' v' (xs ++ [c]) → w.grownBy w' v.ownBlock → K (a.put o.dst v') w') : if Region.wanted o (yielded ops a.tmps) = true then Oper.wp Tryz.prog o a w K Q else E := by
  have hw : Region.wanted o (yielded ops a.tmps) = true := by simp [Region.wanted, hg]
  rw [if_pos hw]
  obtain ⟨i0, hi, hz0, hz1, hz2⟩ := info_parts info_u8
  obtain ⟨v', w', hrun, h1, h2, _⟩ := run_append_own (P := Tryz.prog) w w0.heap.size 49 o.type 5 i0 (.int .u8 0) 1 1 Tryz.underlying49 hi hz0 hz1 hz2 rfl (by decide) v xs.length (u8s xs) hown.1 ⟨g, 0, none⟩ 1 1 [.int .u8 c] rfl (fun j u hu => by
    match j, hu with
    | 0, hu => simp at hu; subst hu; exact hc
    | j + 1, hu => simp at hu) (by simp [Value.oneCell']) (by unfold maxLen; omega) (by omega) hown.2.size
  unfold Oper.wp
  simp [execOp, ho, resolve, invoke, builtin, hs, hx, hrun, Result.andThen]
  exact h v' w' ⟨ownsRow_nth h1 (by simp) (by rw [u8s_append]; rfl), hown.2.trans (below_grown h2 hown.1 hown.2.size |>.mono (Nat.le_refl _))⟩ h2
theorem step_owns_str {ops : Array Oper} {o : Oper} {a : Act} {w : World} {K : Act → World → Prop} {Q : Exit → Act → World → Prop} {E : Prop} (hg : o.guard = none) (sl x : Operand)
    (ho : o.op = Op.call { callee := Callee.builtin Builtin.append, args := #[sl, x], argTypes := #[49, 9] }) (w0 : World) (v : Value) (xs : List Int) (hs : a.eval sl = v) (hown : Owns w0 w v xs) (s : ByteArray) (hx : a.eval x = .string s)
    (hlen : xs.length + s.size ≤ 70368744177664)
    (h : ∀ v' w', Owns w0 w' v' (xs ++ strB s) → w.grownBy w' v.ownBlock → K (a.put o.dst v') w') : if Region.wanted o (yielded ops a.tmps) = true then Oper.wp Tryz.prog o a w K Q else E := by
  have hw : Region.wanted o (yielded ops a.tmps) = true := by simp [Region.wanted, hg]
  rw [if_pos hw]
  obtain ⟨i0, hi, hz0, hz1, hz2⟩ := info_parts info_u8
  obtain ⟨v', w', hrun, h1, h2, _⟩ := Lib.run_append_own_string (P := Tryz.prog) w w0.heap.size 49 9 o.type 5 i0 Tryz.underlying49 Tryz.underlying9 hi hz0 hz1 hz2 v xs.length (u8s xs) hown.1 s (by unfold maxLen; omega) (by omega) hown.2.size
  unfold Oper.wp
  simp [execOp, ho, resolve, invoke, builtin, hs, hx, hrun, Result.andThen]
  exact h v' w' ⟨ownsRow_nth h1 (by rw [List.length_append, strB_len]) (by rw [strCells_u8s, u8s_append]), hown.2.trans (below_grown h2 hown.1 hown.2.size |>.mono (Nat.le_refl _))⟩ h2
end Go.Proofs.YtpiajoffddjjfaaGreatDoor
