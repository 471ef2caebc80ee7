/- Layer 9 of the program: a field's text. -/
import Derived.Test.YtclnephomnkieaaCsvBeg
set_option linter.unusedVariables false
namespace Go.Proofs.Ytclnephomnkieaa
open Go.RowKit Go.Shelf
theorem bytes_ne : 45 ≠ 5 := by decide
/-- a variable of bytes, boxed, and its bytes, the call's own -/
def PutS (w0 : World) (B : Nat) (l : List Int) (W : World) : Prop := ∃ a n c, Boxed W B 45 (.slice a n c) ∧ Owns w0 W (.slice a n c) l
theorem mat_cell_new (W : World) (x : Int) (t : TypeId) : (W.alloc (.cells #[.int .u8 x] t)).cell? ⟨W.heap.size, 0, none⟩ = some (.int .u8 x) := by simp
theorem cell_new1 (W : World) (p : Addr) (v : Value) (x : Int) (t : TypeId) : ((W.setCell p v).alloc (.cells #[.int .u8 x] t)).cell? ⟨W.heap.size, 0, none⟩ = some (.int .u8 x) := by
  have hs : (W.setCell p v).heap.size = W.heap.size := by simp [World.setCell]
  have h := mat_cell_new (W.setCell p v) x t
  rwa [hs] at h
/-- behind an append, and the variable's store -/
theorem puts_next {w0 : World} {B : Nat} {W w2 : World} {v v' : Value} {l l' : List Int} {o : Obj} (hB : w0.heap.size ≤ B) (hb : Boxed W B 45 v) (ho : Owns w0 W v l) (hg : (W.alloc o).grownBy w2 v.ownBlock) (ho2 : Owns w0 w2 v' l') :
    Boxed w2 B 45 v ∧ Boxed (w2.setCell ⟨B, 0, none⟩ v') B 45 v' ∧ Owns w0 (w2.setCell ⟨B, 0, none⟩ v') v' l' := by
  have h2 : Boxed w2 B 45 v := (hb.alloc o).kept hg (hb.not_row bytes_ne ho.1)
  exact ⟨h2, h2.set _, ownsRow_setCell_other ho2.1 (fun e => h2.not_row bytes_ne ho2.1 e.symm) _, ho2.2.setCell (p := ⟨B, 0, none⟩) hB _⟩
set_option maxRecDepth 100000 in
set_option maxHeartbeats 4000000 in
theorem put_any (w0 : World) (x : Int) (B : Nat) (l : List Int) (W : World) (hp : PutS w0 B l W) (hB : w0.heap.size ≤ B) (hl : l.length ≤ 1000000000000) :
    Calls Try.prog 20 #[.int .u8 x, .pointer (some ⟨B, 0, none⟩)] W fun e w' => (∃ u, e = .returned u) ∧ PutS w0 B (l ++ if x = 34 then [34, 34] else [x]) w' := by
  obtain ⟨a, n, c, hb, ho⟩ := hp
  have hc := hb.cell
  have hf := hb.frozen
  by_cases h34 : x = 34
  · subst h34
    rw [if_pos rfl]
    have ho1 := owns_below ho ((Below.refl _ W).alloc (Nat.le_refl _) (.cells #[.int .u8 34] 5))
    go_enter Try.func20, Try.ntmps20
    go_wp2_with (first
      | (at_builtin; refine wpList_owns_one rfl _ _ rfl w0 (.slice a n c) l rfl ho1 W.heap.size 34 rfl (by simp) (by omega) ?_; intro v' w2 ho2 hg2; obtain ⟨hb2, hb3, ho3⟩ := puts_next hB hb ho hg2 ho2; obtain ⟨a2, n2, c2, rfl⟩ := own_shape ho2.1; have x1 := hb2.cell; have x2 := hb2.frozen; have x3 := hb3.cell; have x4 := hb3.frozen; have ho4 := owns_below ho3 ((Below.refl _ _).alloc (Nat.le_refl _) (.cells #[.int .u8 34] 5)))
      | (at_builtin; refine wpList_owns_one rfl _ _ rfl w0 (.slice a2 n2 c2) (l ++ [34]) rfl ho4 w2.heap.size 34 rfl (cell_new1 _ _ _ _ _) (by simp; omega) ?_; intro v' w5 ho5 hg5; obtain ⟨hb5, hb6, ho6⟩ := puts_next hB hb3 ho3 hg5 ho5; obtain ⟨a5, n5, c5, rfl⟩ := own_shape ho5.1; have x5 := hb5.cell; have x6 := hb5.frozen))
    refine bodyPost_end (results_none rfl _ _ _) rfl ?_
    exact ⟨⟨_, rfl⟩, _, _, _, hb6, owns_congr ho6 (by simp)⟩
  · have e1 : (x == 34) = false := by simpa using h34
    rw [if_neg h34]
    clear h34
    have ho1 := owns_below ho ((Below.refl _ W).alloc (Nat.le_refl _) (.cells #[.int .u8 x] 5))
    go_enter Try.func20, Try.ntmps20
    go_wp2_with (at_builtin; refine wpList_owns_one rfl _ _ rfl w0 (.slice a n c) l rfl ho1 W.heap.size x rfl (by simp) (by omega) ?_; intro v' w2 ho2 hg2; obtain ⟨hb2, hb3, ho3⟩ := puts_next hB hb ho hg2 ho2; obtain ⟨a2, n2, c2, rfl⟩ := own_shape ho2.1; have x1 := hb2.cell; have x2 := hb2.frozen)
    refine bodyPost_end (results_none rfl _ _ _) rfl ?_
    exact ⟨⟨_, rfl⟩, _, _, _, hb3, ho3⟩
end Go.Proofs.Ytclnephomnkieaa
