/- Layer 14: values in a growing row of one's own (no walk). -/
import Derived.Test.YtcicjpdjbfgbhaaDoorMh29Cell
set_option linter.unusedVariables false
namespace Go.Proofs.YtcicjpdjbfgbhaaDoor
open Go.RowKit Go.Shelf
/-- the row's values: each in blocks of its own -/
def VElT (B : Nat) (W : World) (u : Value) (ys : List PV) (cs : List Value) : Prop :=
  ∀ (i : Nat) (y : PV), ys[i]? = some y → ∃ c0 c1 c2 c3 E F, (cs[i * 4]? = some c0 ∧ cs[i * 4 + 1]? = some c1 ∧ cs[i * 4 + 2]? = some c2 ∧ cs[i * 4 + 3]? = some c3) ∧
    (B ≤ E ∧ F ≤ W.heap.size ∧ ∀ g, u.ownBlock = some g → g < E ∨ F ≤ g) ∧ ∀ W' : World, (∀ b, E ≤ b → b < F → W'.heap[b]? = W.heap[b]?) → Is W' y (.agg #[c0, c1, c2, c3])
theorem velT_keep {B : Nat} {W W' : World} {u : Value} {ys : List PV} {cs : List Value} (h2 : VElT B W u ys cs) (hs : W.heap.size ≤ W'.heap.size) (hb : ∀ b, B ≤ b → b < W.heap.size → W'.heap[b]? = W.heap[b]?) : VElT B W' u ys cs := fun i y hy => by
  obtain ⟨c0, c1, c2, c3, E, F, hc, ⟨q1, q2, q3⟩, hi⟩ := h2 i y hy
  exact ⟨c0, c1, c2, c3, E, F, hc, ⟨q1, Nat.le_trans q2 hs, q3⟩, fun W2 h => hi W2 fun b b1 b2 => (h b b1 b2).trans (hb b (by omega) (by omega))⟩
theorem ownT_kept {B : Nat} {W W' : World} {e : TypeId} {size n : Nat} {v : Value} {xs : List Value} (h : W.ownsRow B e size v n xs) (hb : ∀ b, B ≤ b → b < W.heap.size → W'.heap[b]? = W.heap[b]?) : W'.ownsRow B e size v n xs := by
  refine ⟨h.1, ?_⟩
  rcases h.2 with hn | ⟨g, cap, cur, rfl, hg, hh, r⟩
  · exact .inl hn
  · exact .inr ⟨g, cap, cur, rfl, hg, (hb g hg (Array.getElem?_eq_some_iff.1 hh).1).trans hh, r⟩
theorem ownT_blk {w : World} {base : Nat} {e : TypeId} {size : Nat} {v : Value} {n : Nat} {xs : List Value} (h : w.ownsRow base e size v n xs) : ∀ b, v.ownBlock = some b → b < w.heap.size ∧ base ≤ b := by
  intro b hb
  rcases h.2 with ⟨rfl, _⟩ | ⟨g, cap, cur, rfl, h1, hg, _⟩
  · simp [Value.ownBlock] at hb
  · obtain rfl : g = b := by simpa [Value.ownBlock] using hb
    exact ⟨(Array.getElem?_eq_some_iff.1 hg).1, h1⟩
theorem ownT_set {B n j : Nat} {W : World} {e : TypeId} {size : Nat} {v c : Value} {xs : List Value} {g : Nat} (h : W.ownsRow B e size v n xs) (hg : v.ownBlock = some g) (hj : j < n * size) : (W.setCell ⟨g, j, none⟩ c).ownsRow B e size v n (xs.set j c) := by
  obtain ⟨hl, h2⟩ := h
  rcases h2 with ⟨rfl, _⟩ | ⟨g', cap, cur, rfl, hb, hh, hn, hm, hs, ht⟩
  · simp [Value.ownBlock] at hg
  · obtain rfl : g' = g := by simpa [Value.ownBlock] using hg
    refine ⟨by simpa using hl, .inr ⟨g', cap, cur.setIfInBounds j c, rfl, hb, ?_, hn, hm, by simpa using hs, ?_⟩⟩
    · obtain ⟨hlt, hk⟩ := Array.getElem?_eq_some_iff.1 hh
      show (W.heap.modify g' _)[g']? = _
      rw [Array.getElem?_eq_getElem (by rw [Array.size_modify]; exact hlt), Array.getElem_modify_self, hk]
      rfl
    · rw [← ht]
      simp [Array.toList_setIfInBounds, List.take_set]
theorem setsT4 (cs : List Value) (n : Nat) (hn : cs.length = n * 4) (z0 z1 z2 z3 d0 d1 d2 d3 : Value) :
    ((((cs ++ [z0, z1, z2, z3]).set (n * 4) d0).set (n * 4 + 1) d1).set (n * 4 + 2) d2).set (n * 4 + 3) d3 = cs ++ [d0, d1, d2, d3] := by
  rw [List.set_append_right _ _ (by omega), List.set_append_right _ _ (by omega), List.set_append_right _ _ (by omega), List.set_append_right _ _ (by omega)]
  rw [← hn]
  have e0 : cs.length - cs.length = 0 := by omega
  have e1 : cs.length + 1 - cs.length = 1 := by omega
  have e2 : cs.length + 2 - cs.length = 2 := by omega
  have e3 : cs.length + 3 - cs.length = 3 := by omega
  rw [e0, e1, e2, e3]
  rfl
theorem ownT_sets4 {W : World} {B n g' : Nat} {v' z0 z1 z2 z3 : Value} {cs : List Value} (hown : W.ownsRow B 24 4 v' (n + 1) (cs ++ [z0, z1, z2, z3])) (hlen : cs.length = n * 4) (hg' : v'.ownBlock = some g') (d0 d1 d2 d3 : Value) :
    ((((W.setCell ⟨g', n * 4, none⟩ d0).setCell ⟨g', n * 4 + 1, none⟩ d1).setCell ⟨g', n * 4 + 2, none⟩ d2).setCell ⟨g', n * 4 + 3, none⟩ d3).ownsRow B 24 4 v' (n + 1) (cs ++ [d0, d1, d2, d3]) := by
  have k0 := ownT_set (c := d0) hown hg' (show n * 4 < (n + 1) * 4 by omega)
  have k1 := ownT_set (c := d1) k0 hg' (show n * 4 + 1 < (n + 1) * 4 by omega)
  have k2 := ownT_set (c := d2) k1 hg' (show n * 4 + 2 < (n + 1) * 4 by omega)
  have h := ownT_set (c := d3) k2 hg' (show n * 4 + 3 < (n + 1) * 4 by omega)
  rw [setsT4 cs n hlen] at h
  exact h
theorem ownT_last {W : World} {B n g cap : Nat} {cs : List Value} {z0 z1 z2 z3 : Value} (h : W.ownsRow B 24 4 (.slice (some ⟨g, 0, none⟩) (n + 1) cap) (n + 1) (cs ++ [z0, z1, z2, z3])) :
    (W.cell? ⟨g, n * 4, none⟩ = some z0 ∧ W.cell? ⟨g, n * 4 + 1, none⟩ = some z1 ∧ W.cell? ⟨g, n * 4 + 2, none⟩ = some z2 ∧ W.cell? ⟨g, n * 4 + 3, none⟩ = some z3) ∧
    (W.frozen? ⟨g, n * 4, none⟩ = false ∧ W.frozen? ⟨g, n * 4 + 1, none⟩ = false ∧ W.frozen? ⟨g, n * 4 + 2, none⟩ = false ∧ W.frozen? ⟨g, n * 4 + 3, none⟩ = false) := by
  have hl : cs.length = n * 4 := by have := h.1; simp at this; omega
  rcases h.2 with ⟨hn, _⟩ | ⟨g', cap', cur, he, _, hh, h1, _, _, ht⟩
  · cases hn
  · simp only [Value.slice.injEq, Option.some.injEq, Addr.mk.injEq, and_true, true_and] at he
    obtain ⟨rfl, rfl⟩ := he
    have at_ : ∀ j u, j < (n + 1) * 4 → (cs ++ [z0, z1, z2, z3])[j]? = some u → W.cell? ⟨g, j, none⟩ = some u := fun j u hj hu => by
      rw [← ht, List.getElem?_take, if_pos hj] at hu
      simp only [World.cell?, hh]
      simpa using hu
    refine ⟨⟨at_ _ _ (by omega) ?_, at_ _ _ (by omega) ?_, at_ _ _ (by omega) ?_, at_ _ _ (by omega) ?_⟩, ?_, ?_, ?_, ?_⟩
    · rw [List.getElem?_append_right (by omega), show n * 4 - cs.length = 0 by omega]; rfl
    · rw [List.getElem?_append_right (by omega), show n * 4 + 1 - cs.length = 1 by omega]; rfl
    · rw [List.getElem?_append_right (by omega), show n * 4 + 2 - cs.length = 2 by omega]; rfl
    · rw [List.getElem?_append_right (by omega), show n * 4 + 3 - cs.length = 3 by omega]; rfl
    all_goals simp [World.frozen?, hh]
theorem ownT_succ {W : World} {B n : Nat} {v : Value} {xs : List Value} (h : W.ownsRow B 24 4 v (n + 1) xs) : ∃ g c, v = .slice (some ⟨g, 0, none⟩) (n + 1) c := by
  rcases h.2 with ⟨rfl, hn⟩ | ⟨g, cap, cur, rfl, _⟩
  · cases hn
  · exact ⟨g, cap, rfl⟩
/-- a value more: F is the world behind all stores; W4 the world of the yield, V the one ahead of the append -/
theorem velT_push {B p : Nat} {W0 W4 V w6 F : World} {u v' : Value} {ys : List PV} {cs : List Value} {y : PV} {d0 d1 d2 d3 : Value} {g' : Nat} (hown : W0.ownsRow B 24 4 u ys.length cs) (hel : VElT B W0 u ys cs) (hp : p < B) (hB : B ≤ W0.heap.size)
    (hg : W0.grownBy W4 (some p)) (hF : Fresh W0.heap.size W4 y (.agg #[d0, d1, d2, d3])) (hV0 : W4.heap.size ≤ V.heap.size) (hV : ∀ b, B ≤ b → b < W4.heap.size → V.heap[b]? = W4.heap[b]?) (hg6 : V.grownBy w6 u.ownBlock)
    (hv : v'.ownBlock = u.ownBlock ∨ v'.ownBlock = some V.heap.size) (hg' : v'.ownBlock = some g') (hs7 : w6.heap.size ≤ F.heap.size) (hF7 : ∀ b, B ≤ b → b < w6.heap.size → b ≠ g' → F.heap[b]? = w6.heap[b]?) : VElT B F v' (ys ++ [y]) (cs ++ [d0, d1, d2, d3]) := by
  have hlen : cs.length = ys.length * 4 := hown.1
  have hub := ownT_blk hown
  have hs1 := hg.size
  have hs3 := hg6.size
  have h7 : ∀ b, B ≤ b → b < W4.heap.size → some b ≠ u.ownBlock → b ≠ g' → F.heap[b]? = W4.heap[b]? := fun b hb0 hb hne h3 =>
    (hF7 b hb0 (by omega) h3).trans ((hg6.block b (by omega) hne).trans (hV b hb0 hb))
  intro i z hz
  rcases Nat.lt_or_ge i ys.length with hlt | hge
  · rw [List.getElem?_append_left hlt] at hz
    obtain ⟨c0, c1, c2, c3, E, F', ⟨u0, u1, u2, u3⟩, ⟨q1, q2, q3⟩, hi⟩ := hel i z hz
    refine ⟨c0, c1, c2, c3, E, F', ⟨?_, ?_, ?_, ?_⟩, ⟨q1, by omega, fun g hg => ?_⟩, fun W' h' => hi W' fun b b1 b2 => ?_⟩
    · rw [List.getElem?_append_left (by omega), u0]
    · rw [List.getElem?_append_left (by omega), u1]
    · rw [List.getElem?_append_left (by omega), u2]
    · rw [List.getElem?_append_left (by omega), u3]
    · rcases hv with hv | hv
      · exact q3 g (hv ▸ hg)
      · rw [hv] at hg; cases hg; exact .inr (by omega)
    · have hbg : b ≠ g' := fun e => by
        subst e
        rcases hv with hv | hv
        · rcases q3 b (by rw [← hv]; exact hg') with h | h <;> omega
        · rw [hv] at hg'; cases hg'; omega
      have e : F.heap[b]? = W0.heap[b]? := by rw [h7 b (by omega) (by omega) (fun e => by rcases q3 b e.symm with h | h <;> omega) hbg, hg.block b (by omega) (by simp; omega)]
      exact (h' b b1 b2).trans e
  · have hil : i < (ys ++ [y]).length := (List.getElem?_eq_some_iff.1 hz).1
    rw [List.length_append] at hil
    simp only [List.length_cons, List.length_nil] at hil
    obtain rfl : i = ys.length := by omega
    rw [List.getElem?_append_right (by omega), Nat.sub_self] at hz
    simp at hz
    subst hz
    refine ⟨d0, d1, d2, d3, W0.heap.size, W4.heap.size, ⟨?_, ?_, ?_, ?_⟩, ⟨hB, by omega, fun g hg => ?_⟩, fun W' h' => hF W' fun b b1 b2 => ?_⟩
    · rw [List.getElem?_append_right (by omega), show ys.length * 4 - cs.length = 0 by omega]; rfl
    · rw [List.getElem?_append_right (by omega), show ys.length * 4 + 1 - cs.length = 1 by omega]; rfl
    · rw [List.getElem?_append_right (by omega), show ys.length * 4 + 2 - cs.length = 2 by omega]; rfl
    · rw [List.getElem?_append_right (by omega), show ys.length * 4 + 3 - cs.length = 3 by omega]; rfl
    · rcases hv with hv | hv
      · exact .inl (hub g (hv ▸ hg)).1
      · rw [hv] at hg; cases hg; exact .inr (by omega)
    · have hbg : b ≠ g' := fun e => by
        subst e
        rcases hv with hv | hv
        · have := (hub b (by rw [← hv]; exact hg')).1; omega
        · rw [hv] at hg'; cases hg'; omega
      have e : F.heap[b]? = W4.heap[b]? := h7 b (by omega) b2 (fun e => by have := (hub b e.symm).1; omega) hbg
      exact (h' b b1 b2).trans e
/-- such a row is the list of a value -/
theorem velT_is {B : Nat} {W : World} {a : Option Addr} {cap : Nat} {ys : List PV} {cs : List Value} (h1 : W.ownsRow B 24 4 (.slice a ys.length cap) ys.length cs) (h2 : VElT B W (.slice a ys.length cap) ys cs) {W' : World} (hb : ∀ b, B ≤ b → b < W.heap.size → W'.heap[b]? = W.heap[b]?) :
    ys.length ≤ cap ∧ cap ≤ maxLen ∧ (ys = [] ∨ ∃ b off, a = some ⟨b, off, none⟩ ∧ IsL W' b ys off) := by
  rcases h1.2 with ⟨he, hn⟩ | ⟨g, cap', cur, he, hg, hh, hc1, hc2, hc3, hc4⟩
  · simp only [Value.slice.injEq] at he
    obtain ⟨rfl, _, rfl⟩ := he
    exact ⟨by omega, by unfold maxLen; omega, .inl (List.length_eq_zero_iff.1 hn)⟩
  · simp only [Value.slice.injEq, true_and] at he
    obtain ⟨rfl, rfl⟩ := he
    refine ⟨hc1, hc2, .inr ⟨g, 0, rfl, isL_of fun i y hy => ?_⟩⟩
    obtain ⟨c0, c1, c2, c3, E, F, ⟨u0, u1, u2, u3⟩, ⟨q1, q2, q3⟩, hi⟩ := h2 i y hy
    have hv : VAt W' g cur := (hb g hg (Array.getElem?_eq_some_iff.1 hh).1).trans hh
    have hil : i < ys.length := (List.getElem?_eq_some_iff.1 hy).1
    have at_ : ∀ j c, j < ys.length * 4 → cs[j]? = some c → cur[j]? = some c := fun j c hj hjc => by
      rw [← hc4, List.getElem?_take, if_pos hj] at hjc
      simpa using hjc
    rw [Nat.zero_add]
    exact ⟨c0, c1, c2, c3, ⟨vat_cell hv _ _ (at_ _ _ (by omega) u0), vat_cell hv _ _ (at_ _ _ (by omega) u1), vat_cell hv _ _ (at_ _ _ (by omega) u2), vat_cell hv _ _ (at_ _ _ (by omega) u3)⟩, hi W' fun b b1 b2 => hb b (by omega) (by omega)⟩
theorem szL_len (l : List PV) : l.length ≤ szL l := by
  induction l with
  | nil => simp [szL]
  | cons x r ih => have := szV_pos x; simp only [szL, List.length_cons]; omega
/-- a list's state: the reader's box, the result, the value, whose row is one's own -/
def LI (p N0 b1 b2 b3 B : Nat) (w0 : World) (pre : List IV) (W : World) : Prop :=
  (Boxed W b1 111 (.pointer (some ⟨p, 0, none⟩)) ∧ VAt W b2 vzero) ∧ (w0.grownBy W (some p) ∧ B ≤ W.heap.size) ∧
    ∃ ys a cap cs, VAt W b3 #[.int .i64 5, .int .i64 0, .string ⟨#[]⟩, .slice a ys.length cap] ∧ W.ownsRow B 24 4 (.slice a ys.length cap) ys.length cs ∧ VElT B W (.slice a ys.length cap) ys cs ∧ (N0 + szL (ivs pre) ≤ 100 → ys = ivs pre)
theorem li_kept {p N0 b1 b2 b3 B : Nat} {w0 : World} {pre : List IV} {W W' : World} {r : Nat} (h : LI p N0 b1 b2 b3 B w0 pre W) (hg : W.grownBy W' (some r)) (hr : w0.heap.size ≤ r ∨ r = p) (h1 : r ≠ b1) (h2 : r ≠ b2) (h3 : r ≠ b3) (hB : r < B) : LI p N0 b1 b2 b3 B w0 pre W' := by
  obtain ⟨⟨k1, k2⟩, ⟨k3, k4⟩, ys, a, cap, cs, k5, k6, k7, k8⟩ := h
  have hb : ∀ b, B ≤ b → b < W.heap.size → W'.heap[b]? = W.heap[b]? := fun b q1 q2 => hg.block b q2 (fun e => by cases e; omega)
  exact ⟨⟨k1.kept hg (fun e => h1 (by cases e; rfl)), vat_kept k2 hg (fun e => h2 (by cases e; rfl))⟩, ⟨grownV_then k3 hg (fun b e => by cases e; exact hr.imp id (fun h => by rw [h])), Nat.le_trans k4 hg.size⟩, ys, a, cap, cs, vat_kept k5 hg (fun e => h3 (by cases e; rfl)), ownT_kept k6 hb, velT_keep k7 hg.size hb, k8⟩
end Go.Proofs.YtcicjpdjbfgbhaaDoor

/- Layer 14: a list takes a value more (no walk). -/
set_option linter.unusedVariables false
namespace Go.Proofs.YtcicjpdjbfgbhaaDoor
open Go.RowKit Go.Shelf
/-- the worlds behind the region: the value's cells first, or the list's -/
def FT1 (w6 : World) (g6 b3 m c6 : Nat) (d0 d1 d2 d3 : Value) : World := ((((w6.setCell ⟨g6, m * 4, none⟩ d0).setCell ⟨g6, m * 4 + 1, none⟩ d1).setCell ⟨g6, m * 4 + 2, none⟩ d2).setCell ⟨g6, m * 4 + 3, none⟩ d3).setCell ⟨b3, 3, none⟩ (.slice (some ⟨g6, 0, none⟩) (m + 1) c6)
def FT2 (w6 : World) (g6 b3 m c6 : Nat) (d0 d1 d2 d3 : Value) : World := ((((w6.setCell ⟨b3, 3, none⟩ (.slice (some ⟨g6, 0, none⟩) (m + 1) c6)).setCell ⟨g6, m * 4, none⟩ d0).setCell ⟨g6, m * 4 + 1, none⟩ d1).setCell ⟨g6, m * 4 + 2, none⟩ d2).setCell ⟨g6, m * 4 + 3, none⟩ d3
theorem vat_o4 {W : World} {b b' : Nat} {cs : Array Value} (h : VAt W b cs) (hne : b ≠ b') (i0 i1 i2 i3 : Nat) (d0 d1 d2 d3 : Value) : VAt ((((W.setCell ⟨b', i0, none⟩ d0).setCell ⟨b', i1, none⟩ d1).setCell ⟨b', i2, none⟩ d2).setCell ⟨b', i3, none⟩ d3) b cs :=
  vat_other (vat_other (vat_other (vat_other h hne i0 d0) hne i1 d1) hne i2 d2) hne i3 d3
theorem grownT_set4 (W : World) (g i0 i1 i2 i3 : Nat) (d0 d1 d2 d3 : Value) : W.grownBy ((((W.setCell ⟨g, i0, none⟩ d0).setCell ⟨g, i1, none⟩ d1).setCell ⟨g, i2, none⟩ d2).setCell ⟨g, i3, none⟩ d3) (some g) :=
  grownV_two (grownV_two (grownV_two (grownV_set W g i0 d0) (grownV_set _ g i1 d1)) (grownV_set _ g i2 d2)) (grownV_set _ g i3 d3)
theorem ft_heap {w6 F : World} {g6 b3 m c6 : Nat} {d0 d1 d2 d3 : Value} (hFF : F = FT1 w6 g6 b3 m c6 d0 d1 d2 d3 ∨ F = FT2 w6 g6 b3 m c6 d0 d1 d2 d3) : F.heap.size = w6.heap.size ∧ (∀ b, b ≠ g6 → b ≠ b3 → F.heap[b]? = w6.heap[b]?) ∧ KeepsOthers w6 F := by
  rcases hFF with rfl | rfl
  · unfold FT1
    refine ⟨by simp, fun b q1 q2 => ?_, ?_⟩
    · rw [Below.heap_setCell _ _ _ b q2, Below.heap_setCell _ _ _ b q1, Below.heap_setCell _ _ _ b q1, Below.heap_setCell _ _ _ b q1, Below.heap_setCell _ _ _ b q1]
    · exact ((((KeepsOthers.setCell _ _ _).trans (KeepsOthers.setCell _ _ _)).trans (KeepsOthers.setCell _ _ _)).trans (KeepsOthers.setCell _ _ _)).trans (KeepsOthers.setCell _ _ _)
  · unfold FT2
    refine ⟨by simp, fun b q1 q2 => ?_, ?_⟩
    · rw [Below.heap_setCell _ _ _ b q1, Below.heap_setCell _ _ _ b q1, Below.heap_setCell _ _ _ b q1, Below.heap_setCell _ _ _ b q1, Below.heap_setCell _ _ _ b q2]
    · exact ((((KeepsOthers.setCell _ _ _).trans (KeepsOthers.setCell _ _ _)).trans (KeepsOthers.setCell _ _ _)).trans (KeepsOthers.setCell _ _ _)).trans (KeepsOthers.setCell _ _ _)
theorem li_push {p N b1 b2 b3 B B0 g6 c6 : Nat} {w0 W0 V W2 w6 F : World} {pre : List IV} {v v' : PV} {k0 k1 : Int} {k2 : ByteArray} {a9 : Option Addr} {len9 cap9 : Nat} {ys : List PV} {a : Option Addr} {cap : Nat} {cs : List Value} {o : Obj} {z0 z1 z2 z3 : Value}
    (hFF : F = FT1 w6 g6 b3 ys.length c6 (.int .i64 k0) (.int .i64 k1) (.string k2) (.slice a9 len9 cap9) ∨ F = FT2 w6 g6 b3 ys.length c6 (.int .i64 k0) (.int .i64 k1) (.string k2) (.slice a9 len9 cap9))
    (hb1 : Boxed W2 b1 111 (.pointer (some ⟨p, 0, none⟩))) (hb2 : VAt W2 b2 vzero) (hb3 : VAt W2 b3 #[.int .i64 5, .int .i64 0, .string ⟨#[]⟩, .slice a ys.length cap])
    (hown0 : W0.ownsRow B 24 4 (.slice a ys.length cap) ys.length cs) (hel0 : VElT B W0 (.slice a ys.length cap) ys cs) (hown2 : W2.ownsRow B 24 4 (.slice a ys.length cap) ys.length cs) (hp : p < b1) (h12 : b1 < b2) (h23 : b2 < b3) (h3B : b3 < B) (hB : B ≤ W0.heap.size) (hw0 : w0.heap.size ≤ b1) (hpW : p < W2.heap.size)
    (hg2 : w0.grownBy W2 (some p)) (hgT : W0.grownBy V (some p)) (hF : Fresh W0.heap.size V v' (.agg #[.int .i64 k0, .int .i64 k1, .string k2, .slice a9 len9 cap9])) (hsV : V.heap.size ≤ W2.heap.size) (hV : ∀ b, B ≤ b → b < V.heap.size → W2.heap[b]? = V.heap[b]?)
    (hown6 : w6.ownsRow B 24 4 (.slice (some ⟨g6, 0, none⟩) (ys.length + 1) c6) (ys.length + 1) (cs ++ [z0, z1, z2, z3])) (hgr6 : (W2.drew.alloc o).grownBy w6 (Value.slice a ys.length cap).ownBlock)
    (hat6 : (Value.slice (some ⟨g6, 0, none⟩) (ys.length + 1) c6).ownBlock = (Value.slice a ys.length cap).ownBlock ∨ (Value.slice (some ⟨g6, 0, none⟩) (ys.length + 1) c6).ownBlock = some (W2.drew.alloc o).heap.size)
    (hys : N + szL (ivs pre) ≤ 100 → ys = ivs pre) (hv : N + szL (ivs pre) + szV v ≤ 100 → v' = v) (hsn : szL (ivs (pre ++ [(v, v', k0, k1, k2, a9, len9, cap9)])) = szL (ivs pre) + szV v) (hsi : ivs (pre ++ [(v, v', k0, k1, k2, a9, len9, cap9)]) = ivs pre ++ [v]) :
    KeepsFrom B0 W2 F ∧ F.heap[p]? = W2.heap[p]? ∧ LI p N b1 b2 b3 B w0 (pre ++ [(v, v', k0, k1, k2, a9, len9, cap9)]) F := by
  have hlen : cs.length = ys.length * 4 := hown0.1
  have hgb := (ownT_blk hown6 g6 rfl).2
  have hg6s := (ownT_blk hown6 g6 rfl).1
  have hub := fun b e => (ownT_blk hown2 b e).2
  have hA := (Below.refl _ W2.drew).alloc (Nat.le_refl _) o
  have hnb : ∀ b, b < B → some b ≠ (Value.slice a ys.length cap).ownBlock := fun b hb e => by have := hub b e.symm; omega
  obtain ⟨e1, e2, e3⟩ := ft_heap hFF
  have hs6 : W2.heap.size + 1 ≤ w6.heap.size := by have := hgr6.size; rw [World.size_alloc] at this; exact this
  have hk6 : ∀ b, b < B → b < W2.heap.size → w6.heap[b]? = W2.heap[b]? := fun b q1 q2 => (hgr6.block b (by rw [World.size_alloc]; show b < W2.heap.size + 1; omega) (hnb b q1)).trans (hA.block b q2)
  have hkF : ∀ b, b < b3 → b < W2.heap.size → F.heap[b]? = W2.heap[b]? := fun b q1 q2 => (e2 b (by omega) (by omega)).trans (hk6 b (by omega) q2)
  have hb3lt := vat_lt hb3
  have hb36 : VAt w6 b3 #[.int .i64 5, .int .i64 0, .string ⟨#[]⟩, .slice a ys.length cap] := (hk6 b3 h3B hb3lt).trans hb3
  have hrow : (W2.drew.alloc o).ownsRow B 24 4 (.slice a ys.length cap) ys.length cs := ownsRow_below (show W2.drew.ownsRow B _ _ _ _ _ from hown2) hA
  have hla : (ys ++ [v']).length = ys.length + 1 := by simp
  have hgF : w6.grownBy F (some g6) ∨ True := .inr trivial
  refine ⟨(((KeepsOthers.drew W2).trans ((KeepsOthers.alloc _ _).trans (keepsOthers_grown hgr6 hrow))).trans e3).from _, hkF p (by omega) hpW, ⟨?_, ?_⟩, ⟨?_, ?_⟩, ys ++ [v'], some ⟨g6, 0, none⟩, c6, cs ++ [.int .i64 k0, .int .i64 k1, .string k2, .slice a9 len9 cap9], ?_, ?_, ?_, ?_⟩
  · exact (hkF b1 (by omega) hb1.lt).trans hb1
  · exact (hkF b2 (by omega) (vat_lt hb2)).trans hb2
  · have h3 : w0.grownBy w6 (some p) := grownV_then (grownV_two (grownV_two hg2 (grownV_drew W2 1 _)) (grownV_of_below hA _)) hgr6 (fun b e => .inl (by have := hub b e; omega))
    have hn6 : ∀ b', some g6 = some b' → w0.heap.size ≤ b' ∨ some p = some b' := fun b' e => .inl (by cases e; omega)
    have hnx : ∀ b', some b3 = some b' → w0.heap.size ≤ b' ∨ some p = some b' := fun b' e => .inl (by cases e; omega)
    rcases hFF with rfl | rfl
    · exact grownV_then (grownV_then h3 (grownT_set4 w6 g6 _ _ _ _ _ _ _ _) hn6) (grownV_set _ b3 3 _) hnx
    · exact grownV_then (grownV_then h3 (grownV_set _ b3 3 _) hnx) (grownT_set4 _ g6 _ _ _ _ _ _ _ _) hn6
  · have := hgT.size; omega
  · rw [hla]
    rcases hFF with rfl | rfl
    · exact vat_set (vat_o4 hb36 (show b3 ≠ g6 by omega) _ _ _ _ _ _ _ _) 3 _
    · exact vat_o4 (vat_set hb36 3 _) (show b3 ≠ g6 by omega) _ _ _ _ _ _ _ _
  · rw [hla]
    rcases hFF with rfl | rfl
    · exact ownT_kept (ownT_sets4 hown6 hlen rfl _ _ _ _) (fun b q1 _ => Below.heap_setCell _ _ _ b (by show b ≠ b3; omega))
    · exact ownT_sets4 (ownT_kept hown6 (fun b q1 _ => Below.heap_setCell _ _ _ b (by show b ≠ b3; omega))) hlen rfl _ _ _ _
  · rw [hla]
    exact velT_push hown0 hel0 (by omega) hB hgT hF (by rw [World.size_alloc]; show _ ≤ W2.heap.size + 1; omega) (fun b q1 q2 => (hA.block b (by show b < W2.heap.size; omega)).trans (hV b q1 q2)) hgr6 hat6 rfl (by omega) (fun b q1 q2 q3 => e2 b q3 (by omega))
  · intro h
    rw [hsn] at h
    rw [hsi, hys (by omega), hv (by omega)]
end Go.Proofs.YtcicjpdjbfgbhaaDoor
