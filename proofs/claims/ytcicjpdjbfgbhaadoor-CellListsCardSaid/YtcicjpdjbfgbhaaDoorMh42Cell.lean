/- Printing JSON: one byte more, and where it lies; what lies beside it (no walk). -/
import Derived.Test.YtcicjpdjbfgbhaaDoorMh41Cell
set_option linter.unusedVariables false
namespace Go.Proofs.YtcicjpdjbfgbhaaDoor
open Go.RowKit Go.Shelf
theorem step_owns_at {ops : Array Oper} {o : Oper} {a : Act} {w : World} {K : Act → World → Prop} {Q : Exit → Act → World → Prop} {E : Prop} (hgd : o.guard = none) (sl x : Operand)
    (ho : o.op = .call { callee := .builtin .append, args := #[sl, x], argTypes := #[58, 58] }) (w0 : World) (v : Value) (xs : List Int) (hs : a.eval sl = v) (hown : Owns w0 w v xs) (g : Nat) (c : Int) (hx : a.eval x = .slice (some ⟨g, 0, none⟩) 1 1)
    (hc : w.heap[g]? = some (.cells #[.int .u8 c] 5 (0, 0))) (hlen : xs.length ≤ 70368744177664)
    (h : ∀ v' w', Owns w0 w' v' (xs ++ [c]) → w.grownBy w' v.ownBlock → (v'.ownBlock = v.ownBlock ∨ v'.ownBlock = some w.heap.size) → K (a.put o.dst v') w') : if Region.wanted o (yielded ops a.tmps) = true then Oper.wp Tryd.prog o a w K Q else E := by
  obtain ⟨i0, hi, hz0, hz1, hz2⟩ := info_parts info_u8
  refine step_append_at w hgd sl x 58 ho w0.heap.size 5 i0 (.int .u8 0) 1 1 Tryd.underlying58 hi hz0 hz1 hz2 rfl (by decide) v xs.length (u8s xs) hs hown.1 (some ⟨g, 0, none⟩) 1 1 [.int .u8 c] hx ⟨rfl, .inr ⟨_, rfl, fun j u hj => ?_⟩⟩ (by simp [Value.oneCell']) (by unfold maxLen; omega) (by omega) hown.2.size
    fun v' w' h1 h2 h3 => h v' w' ⟨ownsRow_nth h1 (by simp) (by rw [u8s_append]; rfl), hown.2.trans (below_grown h2 hown.1 hown.2.size |>.mono (Nat.le_refl _))⟩ h2 h3
  match j, hj with
  | 0, hj => simp at hj; subst hj; rw [Addr.add_lit]; simp [World.cell?, hc]
  | j + 1, hj => simp at hj
theorem apart_at2 {w wB : World} {v v' : Value} (hb : w.heap.size ≤ wB.heap.size) (h : v'.ownBlock = v.ownBlock ∨ v'.ownBlock = some wB.heap.size) : Apart w v v' := fun z o hz hs hne => by
  rcases h with h | h
  · rw [h]; exact hne
  · rw [h]
    intro e
    have := (Array.getElem?_eq_some_iff.1 hz).1
    injection e with e
    omega
/-- a block of one byte -/
abbrev BAtP (w : World) (g : Nat) (c : Int) : Prop := w.heap[g]? = some (.cells #[.int .u8 c] 5 (0, 0))
theorem bat_new (w : World) (c : Int) : BAtP (w.alloc (.cells #[.int .u8 c] 5)) w.heap.size c := World.alloc_heap_new w _
theorem bat_lt {w : World} {g : Nat} {c : Int} (h : BAtP w g c) : g < w.heap.size := (Array.getElem?_eq_some_iff.1 h).1
theorem bat_below {w w' : World} {g : Nat} {c : Int} (h : BAtP w g c) (hb : Below w.heap.size w w') : BAtP w' g c := (hb.block g (bat_lt h)).trans h
theorem bat_grown {w w' : World} {g : Nat} {c : Int} {row : Option Nat} (h : BAtP w g c) (hg : w.grownBy w' row) (hne : some g ≠ row) : BAtP w' g c := (hg.block g (bat_lt h) hne).trans h
theorem bat_kz {w w' : World} {v : Value} {g : Nat} {c : Int} (h : BAtP w g c) (hk : KZ w v w') (hne : some g ≠ v.ownBlock) : BAtP w' g c := hk g _ h (small_one _ _ _) hne
theorem some_ne9 {a b : Nat} (h : a ≠ b) : some a ≠ some b := fun e => h (by injection e)
theorem cell_kept8 {W W' : World} {row : Option Nat} {b i : Nat} {v : Value} (h : W.cell? ⟨b, i, none⟩ = some v) (hg : W.grownBy W' row) (hne : some b ≠ row) : W'.cell? ⟨b, i, none⟩ = some v := by
  have hlt : b < W.heap.size := by
    simp only [World.cell?] at h
    rcases Nat.lt_or_ge b W.heap.size with h' | h'
    · exact h'
    · rw [Array.getElem?_eq_none h'] at h; cases h
  rw [← h]
  simp only [World.cell?, hg.block b hlt hne]
theorem ne_at {wB : World} {v v' : Value} {z : Nat} (hat : v'.ownBlock = v.ownBlock ∨ v'.ownBlock = some wB.heap.size) (h1 : some z ≠ v.ownBlock) (h2 : z < wB.heap.size) : some z ≠ v'.ownBlock := by
  rcases hat with h | h
  · rw [h]; exact h1
  · rw [h]; exact some_ne9 (by omega)
/-- the box of a thing in a region -/
theorem s5_kept {W W' : World} {row : Option Nat} {b : Nat} {c0 c1 c2 c3 c4 : Value} (h : W.cell? ⟨b, 0, none⟩ = some c0 ∧ ((W.cell? ⟨b, 1, none⟩ = some c1 ∧ W.cell? ⟨b, 2, none⟩ = some c2) ∧ (W.cell? ⟨b, 3, none⟩ = some c3 ∧ W.cell? ⟨b, 4, none⟩ = some c4))) (hg : W.grownBy W' row) (h1 : some b ≠ row) :
    W'.cell? ⟨b, 0, none⟩ = some c0 ∧ ((W'.cell? ⟨b, 1, none⟩ = some c1 ∧ W'.cell? ⟨b, 2, none⟩ = some c2) ∧ (W'.cell? ⟨b, 3, none⟩ = some c3 ∧ W'.cell? ⟨b, 4, none⟩ = some c4)) := by
  obtain ⟨q0, ⟨q1, q2⟩, ⟨q3, q4⟩⟩ := h
  exact ⟨cell_kept8 q0 hg h1, ⟨cell_kept8 q1 hg h1, cell_kept8 q2 hg h1⟩, ⟨cell_kept8 q3 hg h1, cell_kept8 q4 hg h1⟩⟩
theorem s5_jat {W : World} {b : Nat} {c0 c1 c2 c3 c4 : Value} (h : JAt W b #[c0, c1, c2, c3, c4]) : W.cell? ⟨b, 0, none⟩ = some c0 ∧ ((W.cell? ⟨b, 1, none⟩ = some c1 ∧ W.cell? ⟨b, 2, none⟩ = some c2) ∧ (W.cell? ⟨b, 3, none⟩ = some c3 ∧ W.cell? ⟨b, 4, none⟩ = some c4)) := by
  obtain ⟨⟨q0, q1, q2, q3, q4⟩, _⟩ := jbox5 h
  exact ⟨q0, ⟨q1, q2⟩, ⟨q3, q4⟩⟩
end Go.Proofs.YtcicjpdjbfgbhaaDoor
