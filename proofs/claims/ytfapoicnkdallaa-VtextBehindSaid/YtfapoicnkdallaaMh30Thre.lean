/- Layer 14: a list takes a value more (no walk). -/
import Derived.Test.YtfapoicnkdallaaMh29Thre
set_option linter.unusedVariables false
namespace Go.Proofs.Ytfapoicnkdallaa
open Go.RowKit Go.Shelf
/-- the worlds behind the region: the value's cells first, or the list's -/
def FT1 (w6 : World) (g6 b3 m c6 : Nat) (d0 d1 d2 d3 : Value) : World := ((((w6.setCell ⟨g6, m * 4, none⟩ d0).setCell ⟨g6, m * 4 + 1, none⟩ d1).setCell ⟨g6, m * 4 + 2, none⟩ d2).setCell ⟨g6, m * 4 + 3, none⟩ d3).setCell ⟨b3, 3, none⟩ (.slice (some ⟨g6, 0, none⟩) (m + 1) c6)
def FT2 (w6 : World) (g6 b3 m c6 : Nat) (d0 d1 d2 d3 : Value) : World := ((((w6.setCell ⟨b3, 3, none⟩ (.slice (some ⟨g6, 0, none⟩) (m + 1) c6)).setCell ⟨g6, m * 4, none⟩ d0).setCell ⟨g6, m * 4 + 1, none⟩ d1).setCell ⟨g6, m * 4 + 2, none⟩ d2).setCell ⟨g6, m * 4 + 3, none⟩ d3
theorem vat_o4 {W : World} {b b' : Nat} {cs : Array Value} (h : VAt W b cs) (hne : b ≠ b') (i0 i1 i2 i3 : Nat) (d0 d1 d2 d3 : Value) : VAt ((((W.setCell ⟨b', i0, none⟩ d0).setCell ⟨b', i1, none⟩ d1).setCell ⟨b', i2, none⟩ d2).setCell ⟨b', i3, none⟩ d3) b cs :=
  vat_other (vat_other (vat_other (vat_other h hne i0 d0) hne i1 d1) hne i2 d2) hne i3 d3
theorem grownT_set4 (W : World) (g i0 i1 i2 i3 : Nat) (d0 d1 d2 d3 : Value) : W.grownBy ((((W.setCell ⟨g, i0, none⟩ d0).setCell ⟨g, i1, none⟩ d1).setCell ⟨g, i2, none⟩ d2).setCell ⟨g, i3, none⟩ d3) (some g) :=
  grownV_two (grownV_two (grownV_two (grownV_set W g i0 d0) (grownV_set _ g i1 d1)) (grownV_set _ g i2 d2)) (grownV_set _ g i3 d3)
theorem ft_heap {w6 F : World} {g6 b3 m c6 : Nat} {d0 d1 d2 d3 : Value} (hFF : F = FT1 w6 g6 b3 m c6 d0 d1 d2 d3 ∨ F = FT2 w6 g6 b3 m c6 d0 d1 d2 d3) : F.heap.size = w6.heap.size ∧ (∀ b, b ≠ g6 → b ≠ b3 → F.heap[b]? = w6.heap[b]?) ∧ KeepsOthers w6 F := by
  rcases hFF with rfl | rfl
  · unfold FT1
    refine ⟨by simp, fun b q1 q2 => ?_, ?_⟩
    · rw [Below.heap_setCell _ _ _ b q2, Below.heap_setCell _ _ _ b q1, Below.heap_setCell _ _ _ b q1, Below.heap_setCell _ _ _ b q1, Below.heap_setCell _ _ _ b q1]
    · exact ((((KeepsOthers.setCell _ _ _).trans (KeepsOthers.setCell _ _ _)).trans (KeepsOthers.setCell _ _ _)).trans (KeepsOthers.setCell _ _ _)).trans (KeepsOthers.setCell _ _ _)
  · unfold FT2
    refine ⟨by simp, fun b q1 q2 => ?_, ?_⟩
    · rw [Below.heap_setCell _ _ _ b q1, Below.heap_setCell _ _ _ b q1, Below.heap_setCell _ _ _ b q1, Below.heap_setCell _ _ _ b q1, Below.heap_setCell _ _ _ b q2]
    · exact ((((KeepsOthers.setCell _ _ _).trans (KeepsOthers.setCell _ _ _)).trans (KeepsOthers.setCell _ _ _)).trans (KeepsOthers.setCell _ _ _)).trans (KeepsOthers.setCell _ _ _)
theorem li_push {p N b1 b2 b3 B B0 g6 c6 : Nat} {w0 W0 V W2 w6 F : World} {pre : List IV} {v v' : PV} {k0 k1 : Int} {k2 : ByteArray} {a9 : Option Addr} {len9 cap9 : Nat} {ys : List PV} {a : Option Addr} {cap : Nat} {cs : List Value} {o : Obj} {z0 z1 z2 z3 : Value}
    (hFF : F = FT1 w6 g6 b3 ys.length c6 (.int .i64 k0) (.int .i64 k1) (.string k2) (.slice a9 len9 cap9) ∨ F = FT2 w6 g6 b3 ys.length c6 (.int .i64 k0) (.int .i64 k1) (.string k2) (.slice a9 len9 cap9))
    (hb1 : Boxed W2 b1 39 (.pointer (some ⟨p, 0, none⟩))) (hb2 : VAt W2 b2 vzero) (hb3 : VAt W2 b3 #[.int .i64 5, .int .i64 0, .string ⟨#[]⟩, .slice a ys.length cap])
    (hown0 : W0.ownsRow B 25 4 (.slice a ys.length cap) ys.length cs) (hel0 : VElT B W0 (.slice a ys.length cap) ys cs) (hown2 : W2.ownsRow B 25 4 (.slice a ys.length cap) ys.length cs) (hp : p < b1) (h12 : b1 < b2) (h23 : b2 < b3) (h3B : b3 < B) (hB : B ≤ W0.heap.size) (hw0 : w0.heap.size ≤ b1) (hpW : p < W2.heap.size)
    (hg2 : w0.grownBy W2 (some p)) (hgT : W0.grownBy V (some p)) (hF : Fresh W0.heap.size V v' (.agg #[.int .i64 k0, .int .i64 k1, .string k2, .slice a9 len9 cap9])) (hsV : V.heap.size ≤ W2.heap.size) (hV : ∀ b, B ≤ b → b < V.heap.size → W2.heap[b]? = V.heap[b]?)
    (hown6 : w6.ownsRow B 25 4 (.slice (some ⟨g6, 0, none⟩) (ys.length + 1) c6) (ys.length + 1) (cs ++ [z0, z1, z2, z3])) (hgr6 : (W2.drew.alloc o).grownBy w6 (Value.slice a ys.length cap).ownBlock)
    (hat6 : (Value.slice (some ⟨g6, 0, none⟩) (ys.length + 1) c6).ownBlock = (Value.slice a ys.length cap).ownBlock ∨ (Value.slice (some ⟨g6, 0, none⟩) (ys.length + 1) c6).ownBlock = some (W2.drew.alloc o).heap.size)
    (hys : N + szL (ivs pre) ≤ 100 → ys = ivs pre) (hv : N + szL (ivs pre) + szV v ≤ 100 → v' = v) (hsn : szL (ivs (pre ++ [(v, v', k0, k1, k2, a9, len9, cap9)])) = szL (ivs pre) + szV v) (hsi : ivs (pre ++ [(v, v', k0, k1, k2, a9, len9, cap9)]) = ivs pre ++ [v]) :
    KeepsFrom B0 W2 F ∧ F.heap[p]? = W2.heap[p]? ∧ LI p N b1 b2 b3 B w0 (pre ++ [(v, v', k0, k1, k2, a9, len9, cap9)]) F := by
  have hlen : cs.length = ys.length * 4 := hown0.1
  have hgb := (ownT_blk hown6 g6 rfl).2
  have hg6s := (ownT_blk hown6 g6 rfl).1
  have hub := fun b e => (ownT_blk hown2 b e).2
  have hA := (Below.refl _ W2.drew).alloc (Nat.le_refl _) o
  have hnb : ∀ b, b < B → some b ≠ (Value.slice a ys.length cap).ownBlock := fun b hb e => by have := hub b e.symm; omega
  obtain ⟨e1, e2, e3⟩ := ft_heap hFF
  have hs6 : W2.heap.size + 1 ≤ w6.heap.size := by have := hgr6.size; rw [World.size_alloc] at this; exact this
  have hk6 : ∀ b, b < B → b < W2.heap.size → w6.heap[b]? = W2.heap[b]? := fun b q1 q2 => (hgr6.block b (by rw [World.size_alloc]; show b < W2.heap.size + 1; omega) (hnb b q1)).trans (hA.block b q2)
  have hkF : ∀ b, b < b3 → b < W2.heap.size → F.heap[b]? = W2.heap[b]? := fun b q1 q2 => (e2 b (by omega) (by omega)).trans (hk6 b (by omega) q2)
  have hb3lt := vat_lt hb3
  have hb36 : VAt w6 b3 #[.int .i64 5, .int .i64 0, .string ⟨#[]⟩, .slice a ys.length cap] := (hk6 b3 h3B hb3lt).trans hb3
  have hrow : (W2.drew.alloc o).ownsRow B 25 4 (.slice a ys.length cap) ys.length cs := ownsRow_below (show W2.drew.ownsRow B _ _ _ _ _ from hown2) hA
  have hla : (ys ++ [v']).length = ys.length + 1 := by simp
  have hgF : w6.grownBy F (some g6) ∨ True := .inr trivial
  refine ⟨(((KeepsOthers.drew W2).trans ((KeepsOthers.alloc _ _).trans (keepsOthers_grown hgr6 hrow))).trans e3).from _, hkF p (by omega) hpW, ⟨?_, ?_⟩, ⟨?_, ?_⟩, ys ++ [v'], some ⟨g6, 0, none⟩, c6, cs ++ [.int .i64 k0, .int .i64 k1, .string k2, .slice a9 len9 cap9], ?_, ?_, ?_, ?_⟩
  · exact (hkF b1 (by omega) hb1.lt).trans hb1
  · exact (hkF b2 (by omega) (vat_lt hb2)).trans hb2
  · have h3 : w0.grownBy w6 (some p) := grownV_then (grownV_two (grownV_two hg2 (grownV_drew W2 1 _)) (grownV_of_below hA _)) hgr6 (fun b e => .inl (by have := hub b e; omega))
    have hn6 : ∀ b', some g6 = some b' → w0.heap.size ≤ b' ∨ some p = some b' := fun b' e => .inl (by cases e; omega)
    have hnx : ∀ b', some b3 = some b' → w0.heap.size ≤ b' ∨ some p = some b' := fun b' e => .inl (by cases e; omega)
    rcases hFF with rfl | rfl
    · exact grownV_then (grownV_then h3 (grownT_set4 w6 g6 _ _ _ _ _ _ _ _) hn6) (grownV_set _ b3 3 _) hnx
    · exact grownV_then (grownV_then h3 (grownV_set _ b3 3 _) hnx) (grownT_set4 _ g6 _ _ _ _ _ _ _ _) hn6
  · have := hgT.size; omega
  · rw [hla]
    rcases hFF with rfl | rfl
    · exact vat_set (vat_o4 hb36 (show b3 ≠ g6 by omega) _ _ _ _ _ _ _ _) 3 _
    · exact vat_o4 (vat_set hb36 3 _) (show b3 ≠ g6 by omega) _ _ _ _ _ _ _ _
  · rw [hla]
    rcases hFF with rfl | rfl
    · exact ownT_kept (ownT_sets4 hown6 hlen rfl _ _ _ _) (fun b q1 _ => Below.heap_setCell _ _ _ b (by show b ≠ b3; omega))
    · exact ownT_sets4 (ownT_kept hown6 (fun b q1 _ => Below.heap_setCell _ _ _ b (by show b ≠ b3; omega))) hlen rfl _ _ _ _
  · rw [hla]
    exact velT_push hown0 hel0 (by omega) hB hgT hF (by rw [World.size_alloc]; show _ ≤ W2.heap.size + 1; omega) (fun b q1 q2 => (hA.block b (by show b < W2.heap.size; omega)).trans (hV b q1 q2)) hgr6 hat6 rfl (by omega) (fun b q1 q2 q3 => e2 b q3 (by omega))
  · intro h
    rw [hsn] at h
    rw [hsi, hys (by omega), hv (by omega)]
end Go.Proofs.Ytfapoicnkdallaa
