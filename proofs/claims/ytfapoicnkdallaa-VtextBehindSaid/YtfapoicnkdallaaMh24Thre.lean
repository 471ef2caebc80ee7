/- A slice of bytes of the call's own: what append makes of it. (Moved out of ValText in round 7.) -/
import Derived.Test.YtfapoicnkdallaaMh1Thre
import Derived.Lib.AppendStr
import Derived.Deep.RegionWith
import Derived.Deep.RegionLaw
namespace Go.Proofs.Ytfapoicnkdallaa
open Go.RowKit Go.Shelf
/-- a slice of bytes of the call's own, all else that was there as it was -/
def Owns (w0 w : World) (v : Value) (xs : List Int) : Prop := w.ownsRow w0.heap.size 5 1 v xs.length (u8s xs) ∧ Below w0.heap.size w0 w
theorem owns_congr {w0 w : World} {v : Value} {xs ys : List Int} (h : Owns w0 w v xs) (e : xs = ys) : Owns w0 w v ys := e ▸ h
theorem owns_below {w0 w w' : World} {v : Value} {xs : List Int} (h : Owns w0 w v xs) (hb : Below w.heap.size w w') : Owns w0 w' v xs :=
  ⟨ownsRow_below h.1 hb, h.2.trans (hb.mono h.2.size)⟩
theorem owns_nil (w : World) : Owns w w (.slice none 0 0) [] := ⟨⟨rfl, .inl ⟨rfl, rfl⟩⟩, Below.refl _ _⟩
theorem owns_lt {w0 w : World} {v : Value} {xs : List Int} (h : Owns w0 w v xs) {g : Nat} (hg : w.heap.size ≤ g) : some g ≠ v.ownBlock := fun e => by
  have := (h.1.lt g e.symm).2; omega
theorem cell_grown {w w' : World} {v : Value} (hg : w.grownBy w' v.ownBlock) {p : Addr} {c : Value} (h : w.cell? p = some c) (hne : some p.block ≠ v.ownBlock) : w'.cell? p = some c := by
  have hbk : p.block < w.heap.size := by
    simp only [World.cell?] at h
    rcases Nat.lt_or_ge p.block w.heap.size with h' | h'
    · exact h'
    · rw [Array.getElem?_eq_none h'] at h; cases h
  rw [← h]
  simp only [World.cell?, hg.block p.block hbk hne]
theorem strCells_u8s (s : ByteArray) : Lib.strCells s = u8s (strB s) := by simp [Lib.strCells, u8s, strB, List.map_map, Function.comp_def]
theorem wpList_owns_str {ops : Array Oper} {rest : List Oper} {o : Oper} {a : Act} {w : World} {Q : Exit → Act → World → Prop} (hgd : o.guard = none) (sl x : Operand)
    (ho : o.op = .call { callee := .builtin .append, args := #[sl, x], argTypes := #[47, 9] }) (w0 : World) (v : Value) (xs : List Int) (hs : a.eval sl = v) (hown : Owns w0 w v xs) (s : ByteArray) (hx : a.eval x = .string s)
    (hlen : xs.length + s.size ≤ 70368744177664)
    (h : ∀ v' w', Owns w0 w' v' (xs ++ strB s) → w.grownBy w' v.ownBlock → wpList Try.prog ops Q rest (a.put o.dst v') w') : wpList Try.prog ops Q (o :: rest) a w := by
  obtain ⟨i0, hi, hz0, hz1, hz2⟩ := info_parts info_u8
  refine Lib.wpList_append_own_string w hgd sl x 47 9 ho w0.heap.size 5 i0 Try.underlying47 Try.underlying9 hi hz0 hz1 hz2 v xs.length (u8s xs) hs hown.1 s hx (by unfold maxLen; omega) (by omega) hown.2.size fun v' w' h1 h2 _ => h v' w' ⟨ownsRow_nth h1 (by rw [List.length_append, strB_len]) (by rw [strCells_u8s, u8s_append]), hown.2.trans (below_grown h2 hown.1 hown.2.size |>.mono (Nat.le_refl _))⟩ h2
theorem wpList_owns_one {ops : Array Oper} {rest : List Oper} {o : Oper} {a : Act} {w : World} {Q : Exit → Act → World → Prop} (hgd : o.guard = none) (sl x : Operand)
    (ho : o.op = .call { callee := .builtin .append, args := #[sl, x], argTypes := #[47, 47] }) (w0 : World) (v : Value) (xs : List Int) (hs : a.eval sl = v) (hown : Owns w0 w v xs) (g : Nat) (c : Int) (hx : a.eval x = .slice (some ⟨g, 0, none⟩) 1 1)
    (hc : w.cell? ⟨g, 0, none⟩ = some (.int .u8 c)) (hlen : xs.length ≤ 70368744177664)
    (h : ∀ v' w', Owns w0 w' v' (xs ++ [c]) → w.grownBy w' v.ownBlock → wpList Try.prog ops Q rest (a.put o.dst v') w') : wpList Try.prog ops Q (o :: rest) a w := by
  obtain ⟨i0, hi, hz0, hz1, hz2⟩ := info_parts info_u8
  refine wpList_append_own w hgd sl x 47 ho w0.heap.size 5 i0 (.int .u8 0) 1 1 Try.underlying47 hi hz0 hz1 hz2 rfl (by decide) v xs.length (u8s xs) hs hown.1 ⟨g, 0, none⟩ 1 1 [.int .u8 c] hx rfl (fun j u hu => ?_) (by simp [Value.oneCell']) (by unfold maxLen; omega) (by omega) hown.2.size
    fun v' w' h1 h2 _ => h v' w' ⟨ownsRow_nth h1 (by simp) (by rw [u8s_append]; rfl), hown.2.trans (below_grown h2 hown.1 hown.2.size |>.mono (Nat.le_refl _))⟩ h2
  match j, hu with
  | 0, hu => simp at hu; subst hu; exact hc
  | j + 1, hu => simp at hu
theorem step_owns_one {ops : Array Oper} {o : Oper} {a : Act} {w : World} {K : Act → World → Prop} {Q : Exit → Act → World → Prop} {E : Prop} (hg : o.guard = none) (sl x : Operand)
    (ho : o.op = Op.call { callee := Callee.builtin Builtin.append, args := #[sl, x], argTypes := #[47, 47] }) (w0 : World) (v : Value) (xs : List Int) (hs : a.eval sl = v) (hown : Owns w0 w v xs) (g : Nat) (c : Int) (hx : a.eval x = .slice (some ⟨g, 0, none⟩) 1 1)
    (hc : w.cell? ⟨g, 0, none⟩ = some (.int .u8 c)) (hlen : xs.length ≤ 70368744177664)
    (h : ∀ v' w', Owns w0 w' v' (xs ++ [c]) → w.grownBy w' v.ownBlock → K (a.put o.dst v') w') : if Region.wanted o (yielded ops a.tmps) = true then Oper.wp Try.prog o a w K Q else E := by
  have hw : Region.wanted o (yielded ops a.tmps) = true := by simp [Region.wanted, hg]
  rw [if_pos hw]
  obtain ⟨i0, hi, hz0, hz1, hz2⟩ := info_parts info_u8
  obtain ⟨v', w', hrun, h1, h2, _⟩ := run_append_own (P := Try.prog) w w0.heap.size 47 o.type 5 i0 (.int .u8 0) 1 1 Try.underlying47 hi hz0 hz1 hz2 rfl (by decide) v xs.length (u8s xs) hown.1 ⟨g, 0, none⟩ 1 1 [.int .u8 c] rfl (fun j u hu => by
    match j, hu with
    | 0, hu => simp at hu; subst hu; exact hc
    | j + 1, hu => simp at hu) (by simp [Value.oneCell']) (by unfold maxLen; omega) (by omega) hown.2.size
  unfold Oper.wp
  simp [execOp, ho, resolve, invoke, builtin, hs, hx, hrun, Result.andThen]
  exact h v' w' ⟨ownsRow_nth h1 (by simp) (by rw [u8s_append]; rfl), hown.2.trans (below_grown h2 hown.1 hown.2.size |>.mono (Nat.le_refl _))⟩ h2
theorem step_owns_str {ops : Array Oper} {o : Oper} {a : Act} {w : World} {K : Act → World → Prop} {Q : Exit → Act → World → Prop} {E : Prop} (hg : o.guard = none) (sl x : Operand)
    (ho : o.op = Op.call { callee := Callee.builtin Builtin.append, args := #[sl, x], argTypes := #[47, 9] }) (w0 : World) (v : Value) (xs : List Int) (hs : a.eval sl = v) (hown : Owns w0 w v xs) (s : ByteArray) (hx : a.eval x = .string s)
    (hlen : xs.length + s.size ≤ 70368744177664)
    (h : ∀ v' w', Owns w0 w' v' (xs ++ strB s) → w.grownBy w' v.ownBlock → K (a.put o.dst v') w') : if Region.wanted o (yielded ops a.tmps) = true then Oper.wp Try.prog o a w K Q else E := by
  have hw : Region.wanted o (yielded ops a.tmps) = true := by simp [Region.wanted, hg]
  rw [if_pos hw]
  obtain ⟨i0, hi, hz0, hz1, hz2⟩ := info_parts info_u8
  obtain ⟨v', w', hrun, h1, h2, _⟩ := Lib.run_append_own_string (P := Try.prog) w w0.heap.size 47 9 o.type 5 i0 Try.underlying47 Try.underlying9 hi hz0 hz1 hz2 v xs.length (u8s xs) hown.1 s (by unfold maxLen; omega) (by omega) hown.2.size
  unfold Oper.wp
  simp [execOp, ho, resolve, invoke, builtin, hs, hx, hrun, Result.andThen]
  exact h v' w' ⟨ownsRow_nth h1 (by rw [List.length_append, strB_len]) (by rw [strCells_u8s, u8s_append]), hown.2.trans (below_grown h2 hown.1 hown.2.size |>.mono (Nat.le_refl _))⟩ h2
end Go.Proofs.Ytfapoicnkdallaa
