/- A slice of bytes of the call's own: what append makes of it. (Moved out of ValText in round 7.) -/
import Derived.Test.YtbkmhigbplgpmaaMg0Rec
import Derived.Lib.AppendStr
import Derived.Deep.RegionWith
import Derived.Deep.RegionLaw
import Derived.Test.YtbkmhigbplgpmaaMg1Rec
import Derived.Test.YtbkmhigbplgpmaaMg5Rec
namespace Go.Proofs.Ytbkmhigbplgpmaa
open Go.RowKit Go.Shelf
/-- a slice of bytes of the call's own, all else that was there as it was -/
def Owns (w0 w : World) (v : Value) (xs : List Int) : Prop := w.ownsRow w0.heap.size 5 1 v xs.length (u8s xs) ∧ Below w0.heap.size w0 w
theorem owns_congr {w0 w : World} {v : Value} {xs ys : List Int} (h : Owns w0 w v xs) (e : xs = ys) : Owns w0 w v ys := e ▸ h
theorem owns_below {w0 w w' : World} {v : Value} {xs : List Int} (h : Owns w0 w v xs) (hb : Below w.heap.size w w') : Owns w0 w' v xs :=
  ⟨ownsRow_below h.1 hb, h.2.trans (hb.mono h.2.size)⟩
theorem owns_nil (w : World) : Owns w w (.slice none 0 0) [] := ⟨⟨rfl, .inl ⟨rfl, rfl⟩⟩, Below.refl _ _⟩
theorem owns_lt {w0 w : World} {v : Value} {xs : List Int} (h : Owns w0 w v xs) {g : Nat} (hg : w.heap.size ≤ g) : some g ≠ v.ownBlock := fun e => by
  have := (h.1.lt g e.symm).2; omega
theorem cell_grown {w w' : World} {v : Value} (hg : w.grownBy w' v.ownBlock) {p : Addr} {c : Value} (h : w.cell? p = some c) (hne : some p.block ≠ v.ownBlock) : w'.cell? p = some c := by
  have hbk : p.block < w.heap.size := by
    simp only [World.cell?] at h
    rcases Nat.lt_or_ge p.block w.heap.size with h' | h'
    · exact h'
    · rw [Array.getElem?_eq_none h'] at h; cases h
  rw [← h]
  simp only [World.cell?, hg.block p.block hbk hne]
theorem strCells_u8s (s : ByteArray) : Lib.strCells s = u8s (strB s) := by simp [Lib.strCells, u8s, strB, List.map_map, Function.comp_def]
theorem wpList_owns_str {ops : Array Oper} {rest : List Oper} {o : Oper} {a : Act} {w : World} {Q : Exit → Act → World → Prop} (hgd : o.guard = none) (sl x : Operand)
    (ho : o.op = .call { callee := .builtin .append, args := #[sl, x], argTypes := #[94, 9] }) (w0 : World) (v : Value) (xs : List Int) (hs : a.eval sl = v) (hown : Owns w0 w v xs) (s : ByteArray) (hx : a.eval x = .string s)
    (hlen : xs.length + s.size ≤ 70368744177664)
    (h : ∀ v' w', Owns w0 w' v' (xs ++ strB s) → w.grownBy w' v.ownBlock → wpList Try.prog ops Q rest (a.put o.dst v') w') : wpList Try.prog ops Q (o :: rest) a w := by
  obtain ⟨i0, hi, hz0, hz1, hz2⟩ := info_parts info_u8
  refine Lib.wpList_append_own_string w hgd sl x 94 9 ho w0.heap.size 5 i0 Try.underlying94 Try.underlying9 hi hz0 hz1 hz2 v xs.length (u8s xs) hs hown.1 s hx (by unfold maxLen; omega) (by omega) hown.2.size fun v' w' h1 h2 _ => h v' w' ⟨ownsRow_nth h1 (by rw [List.length_append, strB_len]) (by rw [strCells_u8s, u8s_append]), hown.2.trans (below_grown h2 hown.1 hown.2.size |>.mono (Nat.le_refl _))⟩ h2
theorem wpList_owns_one {ops : Array Oper} {rest : List Oper} {o : Oper} {a : Act} {w : World} {Q : Exit → Act → World → Prop} (hgd : o.guard = none) (sl x : Operand)
    (ho : o.op = .call { callee := .builtin .append, args := #[sl, x], argTypes := #[94, 94] }) (w0 : World) (v : Value) (xs : List Int) (hs : a.eval sl = v) (hown : Owns w0 w v xs) (g : Nat) (c : Int) (hx : a.eval x = .slice (some ⟨g, 0, none⟩) 1 1)
    (hc : w.cell? ⟨g, 0, none⟩ = some (.int .u8 c)) (hlen : xs.length ≤ 70368744177664)
    (h : ∀ v' w', Owns w0 w' v' (xs ++ [c]) → w.grownBy w' v.ownBlock → wpList Try.prog ops Q rest (a.put o.dst v') w') : wpList Try.prog ops Q (o :: rest) a w := by
  obtain ⟨i0, hi, hz0, hz1, hz2⟩ := info_parts info_u8
  refine wpList_append_own w hgd sl x 94 ho w0.heap.size 5 i0 (.int .u8 0) 1 1 Try.underlying94 hi hz0 hz1 hz2 rfl (by decide) v xs.length (u8s xs) hs hown.1 ⟨g, 0, none⟩ 1 1 [.int .u8 c] hx rfl (fun j u hu => ?_) (by simp [Value.oneCell']) (by unfold maxLen; omega) (by omega) hown.2.size
    fun v' w' h1 h2 _ => h v' w' ⟨ownsRow_nth h1 (by simp) (by rw [u8s_append]; rfl), hown.2.trans (below_grown h2 hown.1 hown.2.size |>.mono (Nat.le_refl _))⟩ h2
  match j, hu with
  | 0, hu => simp at hu; subst hu; exact hc
  | j + 1, hu => simp at hu
theorem step_owns_one {ops : Array Oper} {o : Oper} {a : Act} {w : World} {K : Act → World → Prop} {Q : Exit → Act → World → Prop} {E : Prop} (hg : o.guard = none) (sl x : Operand)
    (ho : o.op = Op.call { callee := Callee.builtin Builtin.append, args := #[sl, x], argTypes := #[94, 94] }) (w0 : World) (v : Value) (xs : List Int) (hs : a.eval sl = v) (hown : Owns w0 w v xs) (g : Nat) (c : Int) (hx : a.eval x = .slice (some ⟨g, 0, none⟩) 1 1)
    (hc : w.cell? ⟨g, 0, none⟩ = some (.int .u8 c)) (hlen : xs.length ≤ 70368744177664)
    (h : ∀ v' w', Owns w0 w' v' (xs ++ [c]) → w.grownBy w' v.ownBlock → K (a.put o.dst v') w') : if Region.wanted o (yielded ops a.tmps) = true then Oper.wp Try.prog o a w K Q else E := by
  have hw : Region.wanted o (yielded ops a.tmps) = true := by simp [Region.wanted, hg]
  rw [if_pos hw]
  obtain ⟨i0, hi, hz0, hz1, hz2⟩ := info_parts info_u8
  obtain ⟨v', w', hrun, h1, h2, _⟩ := run_append_own (P := Try.prog) w w0.heap.size 94 o.type 5 i0 (.int .u8 0) 1 1 Try.underlying94 hi hz0 hz1 hz2 rfl (by decide) v xs.length (u8s xs) hown.1 ⟨g, 0, none⟩ 1 1 [.int .u8 c] rfl (fun j u hu => by
    match j, hu with
    | 0, hu => simp at hu; subst hu; exact hc
    | j + 1, hu => simp at hu) (by simp [Value.oneCell']) (by unfold maxLen; omega) (by omega) hown.2.size
  unfold Oper.wp
  simp [execOp, ho, resolve, invoke, builtin, hs, hx, hrun, Result.andThen]
  exact h v' w' ⟨ownsRow_nth h1 (by simp) (by rw [u8s_append]; rfl), hown.2.trans (below_grown h2 hown.1 hown.2.size |>.mono (Nat.le_refl _))⟩ h2
theorem step_owns_str {ops : Array Oper} {o : Oper} {a : Act} {w : World} {K : Act → World → Prop} {Q : Exit → Act → World → Prop} {E : Prop} (hg : o.guard = none) (sl x : Operand)
    (ho : o.op = Op.call { callee := Callee.builtin Builtin.append, args := #[sl, x], argTypes := #[94, 9] }) (w0 : World) (v : Value) (xs : List Int) (hs : a.eval sl = v) (hown : Owns w0 w v xs) (s : ByteArray) (hx : a.eval x = .string s)
    (hlen : xs.length + s.size ≤ 70368744177664)
    (h : ∀ v' w', Owns w0 w' v' (xs ++ strB s) → w.grownBy w' v.ownBlock → K (a.put o.dst v') w') : if Region.wanted o (yielded ops a.tmps) = true then Oper.wp Try.prog o a w K Q else E := by
  have hw : Region.wanted o (yielded ops a.tmps) = true := by simp [Region.wanted, hg]
  rw [if_pos hw]
  obtain ⟨i0, hi, hz0, hz1, hz2⟩ := info_parts info_u8
  obtain ⟨v', w', hrun, h1, h2, _⟩ := Lib.run_append_own_string (P := Try.prog) w w0.heap.size 94 9 o.type 5 i0 Try.underlying94 Try.underlying9 hi hz0 hz1 hz2 v xs.length (u8s xs) hown.1 s (by unfold maxLen; omega) (by omega) hown.2.size
  unfold Oper.wp
  simp [execOp, ho, resolve, invoke, builtin, hs, hx, hrun, Result.andThen]
  exact h v' w' ⟨ownsRow_nth h1 (by rw [List.length_append, strB_len]) (by rw [strCells_u8s, u8s_append]), hown.2.trans (below_grown h2 hown.1 hown.2.size |>.mono (Nat.le_refl _))⟩ h2
end Go.Proofs.Ytbkmhigbplgpmaa

/- The texts of values: add, quoted, bracketed, Text. -/
namespace Go.Proofs.Ytbkmhigbplgpmaa
open Go.RowKit Go.Shelf
def quoteB : List Int → List Int
  | [] => []
  | x :: r => (if x = 34 ∨ x = 92 then [92, x] else [x]) ++ quoteB r
theorem quote_append (l r : List Int) : quoteB (l ++ r) = quoteB l ++ quoteB r := by
  induction l with
  | nil => rfl
  | cons x l ih => simp only [List.cons_append, quoteB, ih, List.append_assoc]
mutual
/-- a value's text -/
def textV : PV → List Int
  | .mk k n s l =>
    if k = 0 then [110, 117, 108, 108]
    else if k = 1 then (if n = 0 then [102, 97, 108, 115, 101] else [116, 114, 117, 101])
    else if k = 2 then M.prt n
    else if k = 3 then 39 :: strB s
    else if k = 4 then [34] ++ quoteB (strB s) ++ [34]
    else if k = 5 then [91] ++ textL l ++ [93]
    else []
/-- values' texts, a blank between two -/
def textL : List PV → List Int
  | [] => []
  | x :: r => textV x ++ textM r
/-- .. a blank ahead of each -/
def textM : List PV → List Int
  | [] => []
  | x :: r => 32 :: (textV x ++ textM r)
end
theorem quote_len (l : List Int) : l.length ≤ (quoteB l).length ∧ (quoteB l).length ≤ 2 * l.length := by
  induction l with
  | nil => simp [quoteB]
  | cons x r ih =>
    simp only [quoteB, List.length_append, List.length_cons]
    split <;> simp <;> omega
theorem quote_take (l : List Int) (q : Nat) (h : q < l.length) : quoteB (l.take (q + 1)) = quoteB (l.take q) ++ (if l[q]?.getD 0 = 34 ∨ l[q]?.getD 0 = 92 then [92, l[q]?.getD 0] else [l[q]?.getD 0]) := by
  rw [take_succ_getD l q h, quote_append]
  simp only [quoteB, List.append_nil]
theorem quote_take_len (l : List Int) (q : Nat) : (quoteB (l.take q)).length ≤ (quoteB l).length := by
  have : quoteB l = quoteB (l.take q) ++ quoteB (l.drop q) := by
    rw [← quote_append, List.take_append_drop]
  rw [this, List.length_append]; omega
theorem textM_append (l r : List PV) : textM (l ++ r) = textM l ++ textM r := by
  induction l with
  | nil => simp [textM]
  | cons x l ih => simp only [List.cons_append, textM, ih, List.append_assoc]
theorem textL_take (l : List PV) (q : Nat) (y : PV) (h : l[q]? = some y) : textL (l.take (q + 1)) = textL (l.take q) ++ (if q = 0 then [] else [32]) ++ textV y := by
  obtain ⟨hl, rfl⟩ := List.getElem?_eq_some_iff.1 h
  cases l with
  | nil => simp at hl
  | cons x r =>
    cases q with
    | zero => simp [textL, textM]
    | succ q =>
      have hl' : q < r.length := by simpa using hl
      have h2 : r.take (q + 1) = r.take q ++ [r[q]] := by rw [List.take_add_one, List.getElem?_eq_getElem hl']; rfl
      simp only [List.take_succ_cons, textL, List.getElem_cons_succ]
      rw [h2, textM_append]
      simp [textM, List.append_assoc]
theorem textL_take_len (l : List PV) (q : Nat) : (textL (l.take q)).length ≤ (textL l).length := by
  cases l with
  | nil => simp
  | cons x r =>
    cases q with
    | zero => simp [textL]
    | succ q =>
      simp only [List.take_succ_cons, textL, List.length_append]
      have h : textM r = textM (r.take q) ++ textM (r.drop q) := by rw [← textM_append, List.take_append_drop]
      rw [h, List.length_append]; omega
theorem vbox_grown {W w' : World} {v : Value} (hg : W.grownBy w' v.ownBlock) {b : Nat} (hne : some b ≠ v.ownBlock) {c0 c1 c2 c3 : Value}
    (h : W.cell? ⟨b, 0, none⟩ = some c0 ∧ W.cell? ⟨b, 1, none⟩ = some c1 ∧ W.cell? ⟨b, 2, none⟩ = some c2 ∧ W.cell? ⟨b, 3, none⟩ = some c3) :
    w'.cell? ⟨b, 0, none⟩ = some c0 ∧ w'.cell? ⟨b, 1, none⟩ = some c1 ∧ w'.cell? ⟨b, 2, none⟩ = some c2 ∧ w'.cell? ⟨b, 3, none⟩ = some c3 :=
  ⟨cell_grown hg h.1 hne, cell_grown hg h.2.1 hne, cell_grown hg h.2.2.1 hne, cell_grown hg h.2.2.2 hne⟩
abbrev vobj' (k n : Int) (s : ByteArray) (a : Option Addr) (len cap : Nat) : Obj := Obj.cells #[.int .i64 k, .int .i64 n, .string s, .slice a len cap] 31
theorem boxed_new {w W : World} {k n : Int} {s : ByteArray} {a : Option Addr} {len cap : Nat} (hb : Below (w.alloc (vobj' k n s a len cap)).heap.size (w.alloc (vobj' k n s a len cap)) W) :
    W.cell? ⟨w.heap.size, 0, none⟩ = some (.int .i64 k) ∧ W.cell? ⟨w.heap.size, 1, none⟩ = some (.int .i64 n) ∧ W.cell? ⟨w.heap.size, 2, none⟩ = some (.string s) ∧ W.cell? ⟨w.heap.size, 3, none⟩ = some (.slice a len cap) :=
  ⟨cell_below hb (by simp), cell_below hb (by simp), cell_below hb (by simp), cell_below hb (by simp)⟩
theorem text0 (n : Int) (s : ByteArray) (l : List PV) : textV (.mk 0 n s l) = [110, 117, 108, 108] := by simp [textV]
theorem text1 (n : Int) (s : ByteArray) (l : List PV) : textV (.mk 1 n s l) = if n = 0 then [102, 97, 108, 115, 101] else [116, 114, 117, 101] := by simp [textV]
theorem text2 (n : Int) (s : ByteArray) (l : List PV) : textV (.mk 2 n s l) = M.prt n := by simp [textV]
theorem text3 (n : Int) (s : ByteArray) (l : List PV) : textV (.mk 3 n s l) = 39 :: strB s := by simp [textV]
theorem text4 (n : Int) (s : ByteArray) (l : List PV) : textV (.mk 4 n s l) = [34] ++ quoteB (strB s) ++ [34] := by simp [textV]
theorem text5 (n : Int) (s : ByteArray) (l : List PV) : textV (.mk 5 n s l) = [91] ++ textL l ++ [93] := by simp [textV]
theorem text6 (k n : Int) (s : ByteArray) (l : List PV) (h0 : k ≠ 0) (h1 : k ≠ 1) (h2 : k ≠ 2) (h3 : k ≠ 3) (h4 : k ≠ 4) (h5 : k ≠ 5) : textV (.mk k n s l) = [] := by simp [textV, *]
end Go.Proofs.Ytbkmhigbplgpmaa
