/- The order of values: Compare, Same. -/
import Derived.Test.YtihpalbmkcoalaaValLists
import Derived.Deep.RegionHeld3
namespace Go.Proofs.Ytihpalbmkcoalaa
open Go.RowKit Go.Shelf
theorem box2_cells {w W : World} {k n k' n' : Int} {s s' : ByteArray} {a a' : Option Addr} {len cap len' cap' : Nat}
    (hb : Below ((w.alloc (vobj k n s a len cap)).alloc (vobj k' n' s' a' len' cap')).heap.size ((w.alloc (vobj k n s a len cap)).alloc (vobj k' n' s' a' len' cap')) W) :
    (W.cell? ⟨w.heap.size, 0, none⟩ = some (.int .i64 k) ∧ W.cell? ⟨w.heap.size, 1, none⟩ = some (.int .i64 n) ∧ W.cell? ⟨w.heap.size, 2, none⟩ = some (.string s) ∧ W.cell? ⟨w.heap.size, 3, none⟩ = some (.slice a len cap)) ∧
    (W.cell? ⟨w.heap.size + 1, 0, none⟩ = some (.int .i64 k') ∧ W.cell? ⟨w.heap.size + 1, 1, none⟩ = some (.int .i64 n') ∧ W.cell? ⟨w.heap.size + 1, 2, none⟩ = some (.string s') ∧ W.cell? ⟨w.heap.size + 1, 3, none⟩ = some (.slice a' len' cap')) := by
  have h1 := (Below.refl _ (w.alloc (vobj k n s a len cap))).alloc (Nat.le_refl _) (vobj k' n' s' a' len' cap')
  have h2 := box_cells hb
  rw [World.size_alloc] at h2
  exact ⟨box_cells (h1.trans (hb.mono h1.size)), h2⟩
theorem strB_inj {s t : ByteArray} (h : strB s = strB t) : s = t := by
  rw [← strOfNums_strB s, h, strOfNums_strB]
theorem new2 (W : World) (x y : Value) (t : TypeId) (g : Nat) (hg : g = W.heap.size) : (W.alloc (.cells #[x, y] t)).cell? ⟨g, 0, none⟩ = some x ∧ (W.alloc (.cells #[x, y] t)).cell? ⟨g, 1, none⟩ = some y := by
  subst hg; exact ⟨by simp, by simp⟩
end Go.Proofs.Ytihpalbmkcoalaa
