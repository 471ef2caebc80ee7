/- Reading JSON: an Obj's part (no walk). -/
import Derived.Test.YtpiajoffddjjfaaGreatDoorJrListq
set_option linter.unusedVariables false
namespace Go.Proofs.YtpiajoffddjjfaaGreatDoor
open Go.RowKit Go.Shelf
/-- the things of a row, each in blocks of its own, none of which is one of G's -/
def JEl2 (B : Nat) (W : World) (G : Nat → Prop) (ys : List JV) (cs : List Value) : Prop :=
  ∀ (i : Nat) (y : JV), ys[i]? = some y → ∃ c0 c1 c2 c3 c4 E F, (cs[i * 5]? = some c0 ∧ cs[i * 5 + 1]? = some c1 ∧ cs[i * 5 + 2]? = some c2 ∧ cs[i * 5 + 3]? = some c3 ∧ cs[i * 5 + 4]? = some c4) ∧
    (B ≤ E ∧ F ≤ W.heap.size ∧ ∀ g, G g → g < E ∨ F ≤ g) ∧ ∀ W' : World, (∀ b, E ≤ b → b < F → NT W b → W'.heap[b]? = W.heap[b]?) → IsJ W' y (.agg #[c0, c1, c2, c3, c4])
theorem jel2_nil (B : Nat) (W : World) (G : Nat → Prop) : JEl2 B W G [] [] := fun i y h => by simp at h
theorem jel_of2 {B : Nat} {W : World} {G : Nat → Prop} {u : Value} {ys : List JV} {cs : List Value} (h : JEl2 B W G ys cs) (hu : ∀ g, u.ownBlock = some g → G g) : JEl B W u ys cs := fun i y hy => by
  obtain ⟨c0, c1, c2, c3, c4, E, F, hc, ⟨q1, q2, q3⟩, hi⟩ := h i y hy
  exact ⟨c0, c1, c2, c3, c4, E, F, hc, ⟨q1, q2, fun g hg => q3 g (hu g hg)⟩, hi⟩
theorem jel2_keep {B : Nat} {W W' : World} {G G' : Nat → Prop} {ys : List JV} {cs : List Value} (h2 : JEl2 B W G ys cs) (hs : W.heap.size ≤ W'.heap.size) (hb : ∀ b, B ≤ b → b < W.heap.size → NT W b → ¬ G b → W'.heap[b]? = W.heap[b]?) (hG : ∀ g, G' g → G g ∨ W.heap.size ≤ g) : JEl2 B W' G' ys cs := fun i y hy => by
  obtain ⟨c0, c1, c2, c3, c4, E, F, hc, ⟨q1, q2, q3⟩, hi⟩ := h2 i y hy
  have hb' : ∀ b, E ≤ b → b < F → NT W b → W'.heap[b]? = W.heap[b]? := fun b b1 b2 b3 => hb b (by omega) (by omega) b3 (fun hg => by rcases q3 b hg with h | h <;> omega)
  exact ⟨c0, c1, c2, c3, c4, E, F, hc, ⟨q1, Nat.le_trans q2 hs, fun g hg => by
    rcases hG g hg with h | h
    · exact q3 g h
    · exact .inr (by omega)⟩, fun W2 h => hi W2 fun b b1 b2 b3 => (h b b1 b2 (nt_eq b3 (hb' b b1 b2 b3))).trans (hb' b b1 b2 b3)⟩
/-- an Obj's state: the reader's box, the set's box and the set, the thing's names and things -/
def OStt (B p rb bx sb sv : Nat) (acc : Js.OSt) (W : World) : Prop :=
  Boxed W rb 45 (.pointer (some ⟨p, 0, none⟩)) ∧ Boxed W sb 55 (.map (some sv)) ∧ (∃ hs, NSet W sv acc.1.length hs ∧ ∀ t, hasN hs t = hasN acc.1 t) ∧ (∀ t ∈ acc.1, t.size ≤ maxLen) ∧ acc.1.length = acc.2.length ∧
  ∃ na nc a c cs, JAt W bx #[.int .i64 6, .int .i64 0, .string ⟨#[]⟩, .slice na acc.1.length nc, .slice a acc.2.length c] ∧ W.ownsRow B 9 1 (.slice na acc.1.length nc) acc.1.length (acc.1.map Value.string) ∧
    W.ownsRow B 25 5 (.slice a acc.2.length c) acc.2.length cs ∧ JEl2 B W (fun g => (Value.slice a acc.2.length c).ownBlock = some g ∨ (Value.slice na acc.1.length nc).ownBlock = some g) acc.2 cs
theorem own_keepS {B : Nat} {W W' : World} {n : Nat} {v : Value} {xs : List Value} (h : W.ownsRow B 9 1 v n xs) (hb : ∀ b, B ≤ b → b < W.heap.size → NT W b → W'.heap[b]? = W.heap[b]?) : W'.ownsRow B 9 1 v n xs :=
  own_keptJ h (fun b b1 b2 e => by
    obtain ⟨_, _, cs, hc⟩ := own_blkJ h b e
    exact hb b b1 b2 (nt_cells hc (by decide)))
theorem nset_ne {w : World} {b n : Nat} {hs : List ByteArray} (h : NSet w b n hs) {cs : Array Value} {t : TypeId} {f : Nat × Nat} {b' : Nat} (hb : w.heap[b']? = some (.cells cs t f)) : b ≠ b' := by
  rintro rfl
  obtain ⟨D, ⟨es, clock, hk, _⟩, _⟩ := h
  rw [hk] at hb
  cases hb
theorem tk_nset {p : Nat} {W : World} {row : Option Nat} (ht : Tk p W row) {b n : Nat} {hs : List ByteArray} (h : NSet W b n hs) (hbp : b ≠ p) : some b ≠ row := fun e => by
  rcases ht _ e.symm with h' | ⟨cs', f', h'⟩
  · exact hbp h'
  · exact nset_ne h h' rfl
theorem ostt_kept {B p rb bx sb sv : Nat} {acc : Js.OSt} {W W' : World} {row : Option Nat} (hp : p < rb) (hrb : rb < B) (hbx : bx < B) (hpx : p ≠ bx) (hps : p ≠ sb) (hpv : p ≠ sv) (h : OStt B p rb bx sb sv acc W) (hg : W.grownBy W' row) (ht : Tk p W row) : OStt B p rb bx sb sv acc W' := by
  obtain ⟨h1, h5, ⟨hs, h6, h7⟩, h8, h9, na, nc, a, c, cs, h2, hn, h3, h4⟩ := h
  have hkb := tk_from (B := B) (by omega) hg ht
  exact ⟨(hg.block rb h1.lt (tk_ne ht h1 (by decide) (by omega))).trans h1, (hg.block sb h5.lt (tk_ne ht h5 (by decide) (fun e => hps e.symm))).trans h5, ⟨hs, nset_kept h6 hg (tk_nset ht h6 (fun e => hpv e.symm)), h7⟩, h8, h9,
    na, nc, a, c, cs, (hg.block bx (jat_lt h2) (tk_ne ht h2 (by decide) (fun e => hpx e.symm))).trans h2, own_keepS hn hkb, own_keepJ h3 hkb, jel2_keep h4 hg.size (fun b b1 b2 b3 _ => hkb b b1 b2 b3) (fun g h => .inl h)⟩
/-- a thing more: F is the world behind all stores -/
theorem jel_push2 {B p : Nat} {W0 W4 V w6 F : World} {G G' : Nat → Prop} {u v' : Value} {ys : List JV} {cs : List Value} {y : JV} {d0 d1 d2 d3 d4 : Value} {g' : Nat} (hown : W0.ownsRow B 25 5 u ys.length cs) (hel : JEl2 B W0 G ys cs) (hGu : ∀ g, u.ownBlock = some g → G g) (hGl : ∀ g, G g → g < W0.heap.size) (hG9 : ∀ g, G' g → G g ∨ W4.heap.size ≤ g) (hp : p < B) (hB : B ≤ W0.heap.size)
    (hg : W0.grownBy W4 (some p)) (hF : FreshJ W0.heap.size W4 y (.agg #[d0, d1, d2, d3, d4])) (hV : Below W4.heap.size W4 V) (hg6 : V.grownBy w6 u.ownBlock)
    (hv : v'.ownBlock = u.ownBlock ∨ v'.ownBlock = some V.heap.size) (hg' : v'.ownBlock = some g') (hs7 : w6.heap.size ≤ F.heap.size) (hF7 : ∀ b, B ≤ b → b < w6.heap.size → b ≠ g' → F.heap[b]? = w6.heap[b]?) : JEl2 B F G' (ys ++ [y]) (cs ++ [d0, d1, d2, d3, d4]) := by
  have hlen : cs.length = ys.length * 5 := hown.1
  have hub := own_blkJ hown
  have hs1 := hg.size
  have hs2 := hV.size
  have hs3 := hg6.size
  have h7 : ∀ b, B ≤ b → b < W4.heap.size → some b ≠ u.ownBlock → b ≠ g' → F.heap[b]? = W4.heap[b]? := fun b hb0 hb hne h3 =>
    (hF7 b hb0 (by omega) h3).trans ((hg6.block b (by omega) hne).trans (hV.block b hb))
  intro i z hz
  rcases Nat.lt_or_ge i ys.length with hlt | hge
  · rw [List.getElem?_append_left hlt] at hz
    obtain ⟨c0, c1, c2, c3, c4, E, F', ⟨u0, u1, u2, u3, u4⟩, ⟨q1, q2, q3⟩, hi⟩ := hel i z hz
    refine ⟨c0, c1, c2, c3, c4, E, F', ⟨?_, ?_, ?_, ?_, ?_⟩, ⟨q1, by omega, fun g hg => ?_⟩, fun W' h' => hi W' fun b b1 b2 b3 => ?_⟩
    · rw [List.getElem?_append_left (by omega), u0]
    · rw [List.getElem?_append_left (by omega), u1]
    · rw [List.getElem?_append_left (by omega), u2]
    · rw [List.getElem?_append_left (by omega), u3]
    · rw [List.getElem?_append_left (by omega), u4]
    · rcases hG9 g hg with h | h
      · exact q3 g h
      · exact .inr (by omega)
    · have hbg : b ≠ g' := fun e => by
        subst e
        rcases hv with hv | hv
        · rcases q3 b (hGu b (by rw [← hv]; exact hg')) with h | h <;> omega
        · rw [hv] at hg'; cases hg'; omega
      have e : F.heap[b]? = W0.heap[b]? := by rw [h7 b (by omega) (by omega) (fun e => by rcases q3 b (hGu b e.symm) with h | h <;> omega) hbg, hg.block b (by omega) (by simp; omega)]
      exact (h' b b1 b2 (nt_eq b3 e)).trans e
  · have hil : i < (ys ++ [y]).length := (List.getElem?_eq_some_iff.1 hz).1
    rw [List.length_append] at hil
    simp only [List.length_cons, List.length_nil] at hil
    obtain rfl : i = ys.length := by omega
    rw [List.getElem?_append_right (by omega), Nat.sub_self] at hz
    simp at hz
    subst hz
    refine ⟨d0, d1, d2, d3, d4, W0.heap.size, W4.heap.size, ⟨?_, ?_, ?_, ?_, ?_⟩, ⟨hB, by omega, fun g hg => ?_⟩, fun W' h' => hF W' fun b b1 b2 b3 => ?_⟩
    · rw [List.getElem?_append_right (by omega), show ys.length * 5 - cs.length = 0 by omega]; rfl
    · rw [List.getElem?_append_right (by omega), show ys.length * 5 + 1 - cs.length = 1 by omega]; rfl
    · rw [List.getElem?_append_right (by omega), show ys.length * 5 + 2 - cs.length = 2 by omega]; rfl
    · rw [List.getElem?_append_right (by omega), show ys.length * 5 + 3 - cs.length = 3 by omega]; rfl
    · rw [List.getElem?_append_right (by omega), show ys.length * 5 + 4 - cs.length = 4 by omega]; rfl
    · rcases hG9 g hg with h | h
      · exact .inl (hGl g h)
      · exact .inr h
    · have hbg : b ≠ g' := fun e => by
        subst e
        rcases hv with hv | hv
        · have := (hub b (by rw [← hv]; exact hg')).1; omega
        · rw [hv] at hg'; cases hg'; omega
      have e : F.heap[b]? = W4.heap[b]? := h7 b (by omega) b2 (fun e => by have := (hub b e.symm).1; omega) hbg
      exact (h' b b1 b2 (nt_eq b3 e)).trans e
/-- what the call of thing leaves, for the rest of the region -/
def L1A2 (x0 x1 x2 x3 : Value) (s : ByteArray) (room B p rb bx : Nat) (a : Option Addr) (c : Nat) (acc : List JV) (cs : List Value) (v : JV) (q' : Nat) (W1 V : World) (e : Ending) (w4 : World) : Prop :=
  ∃ k n t na nl nc a' len cap, e = .returned (.agg #[.int .i64 k, .int .i64 n, .string t, .slice na nl nc, .slice a' len cap]) ∧ FreshJ W1.heap.size w4 v (.agg #[.int .i64 k, .int .i64 n, .string t, .slice na nl nc, .slice a' len cap]) ∧
    JAt w4 bx #[x0, x1, x2, x3, .slice a acc.length c] ∧ w4.ownsRow B 25 5 (.slice a acc.length c) acc.length cs ∧ RJ w4 p s q' room ∧ Boxed w4 rb 45 (.pointer (some ⟨p, 0, none⟩)) ∧ W1.grownBy w4 (some p) ∧ V.grownBy w4 (some p)
theorem l1_of2 {x0 x1 x2 x3 : Value} {s : ByteArray} {room B p rb bx : Nat} {a : Option Addr} {c : Nat} {acc : List JV} {cs : List Value} {v : JV} {q' : Nat} {W1 V : World} {e : Ending} {w4 : World} (hV : W1.grownBy V (some p)) (hx : JAt W1 bx #[x0, x1, x2, x3, .slice a acc.length c])
    (hown : W1.ownsRow B 25 5 (.slice a acc.length c) acc.length cs) (hbr : Boxed W1 rb 45 (.pointer (some ⟨p, 0, none⟩))) (hpx : p ≠ bx) (hpr : p ≠ rb) (hpB : p < B) (h : ThR p s room V (.inr (v, q')) e w4) : L1A2 x0 x1 x2 x3 s room B p rb bx a c acc cs v q' W1 V e w4 := by
  obtain ⟨⟨k, n, t, na, nl, nc, a', len, cap, h1, h2⟩, h3, h4⟩ := h
  have h5 := h4.size
  have h6 := hV.size
  have hg : W1.grownBy w4 (some p) := grownJ_then hV h4 (fun b e => .inr e)
  refine ⟨k, n, t, na, nl, nc, a', len, cap, h1, freshJ_mono h2 hV.size, (hg.block bx (jat_lt hx) (fun e => hpx (by cases e; rfl))).trans hx, hown.kept hg ?_, h3, hbr.kept hg (fun e => hpr (by cases e; rfl)), hg, h4⟩
  cases hb : (Value.slice a acc.length c).ownBlock with
  | none => exact .inl rfl
  | some b => exact .inr fun e => by have := (own_blkJ hown b hb).2.1; cases e; omega
theorem l1_end2 {G G' : Nat → Prop} {x0 x1 x2 x3 : Value} {s : ByteArray} {room B p rb bx : Nat} {a : Option Addr} {c : Nat} {acc : List JV} {cs : List Value} {v : JV} {q' : Nat} {w0 W1 w4 V w6 F : World} {d0 d1 d2 d3 d4 z0 z1 z2 z3 z4 : Value} {g6 c6 : Nat}
    (hFF : F = F1 w6 g6 bx acc.length c6 d0 d1 d2 d3 d4 ∨ F = F2 w6 g6 bx acc.length c6 d0 d1 d2 d3 d4)
    (hown1 : W1.ownsRow B 25 5 (.slice a acc.length c) acc.length cs) (hel1 : JEl2 B W1 G acc cs) (hGu : ∀ g, (Value.slice a acc.length c).ownBlock = some g → G g) (hGl : ∀ g, G g → g < W1.heap.size) (hG9 : ∀ g, G' g → G g ∨ g = g6) (hp : p < rb) (hrb : rb < B) (hbx : bx < B) (hpx : p ≠ bx) (hrx : rb ≠ bx) (hBW : B ≤ W1.heap.size) (hxb : w0.heap.size ≤ bx) (hG : w0.grownBy W1 (some p))
    (hF4 : FreshJ W1.heap.size w4 v (.agg #[d0, d1, d2, d3, d4])) (hx4 : JAt w4 bx #[x0, x1, x2, x3, .slice a acc.length c]) (hR4 : RJ w4 p s q' room) (hb4 : Boxed w4 rb 45 (.pointer (some ⟨p, 0, none⟩))) (hg4 : W1.grownBy w4 (some p))
    (hV : Below w4.heap.size w4 V) (hg6 : V.grownBy w6 (Value.slice a acc.length c).ownBlock) (hown6 : w6.ownsRow B 25 5 (.slice (some ⟨g6, 0, none⟩) (acc.length + 1) c6) (acc.length + 1) (cs ++ [z0, z1, z2, z3, z4]))
    (hv : (Value.slice (some ⟨g6, 0, none⟩) (acc.length + 1) c6).ownBlock = (Value.slice a acc.length c).ownBlock ∨ (Value.slice (some ⟨g6, 0, none⟩) (acc.length + 1) c6).ownBlock = some V.heap.size) :
    (Boxed F rb 45 (.pointer (some ⟨p, 0, none⟩)) ∧ JAt F bx #[x0, x1, x2, x3, .slice (some ⟨g6, 0, none⟩) (acc ++ [v]).length c6] ∧ F.ownsRow B 25 5 (.slice (some ⟨g6, 0, none⟩) (acc ++ [v]).length c6) (acc ++ [v]).length (cs ++ [d0, d1, d2, d3, d4]) ∧
      JEl2 B F G' (acc ++ [v]) (cs ++ [d0, d1, d2, d3, d4])) ∧ RJ F p s q' room ∧ w0.grownBy F (some p) ∧
    ∀ b, b < W1.heap.size → b ≠ p → b ≠ bx → some b ≠ (Value.slice a acc.length c).ownBlock → F.heap[b]? = W1.heap[b]? := by
  have hlen : cs.length = acc.length * 5 := hown1.1
  have hgb := (own_blkJ hown6 g6 rfl).2.1
  have hub := fun b e => (own_blkJ hown1 b e).2.1
  have hnb : ∀ b, b < B → some b ≠ (Value.slice a acc.length c).ownBlock := fun b hb e => by have := hub b e.symm; omega
  have hs0 := hG.size
  have hg1 : w0.grownBy w4 (some p) := grownJ_then hG hg4 (fun b e => .inr e)
  have hg2 : w0.grownBy V (some p) := grownJ_then hg1 (grownJ_of_below hV none) (fun b e => by cases e)
  have hg3 : w0.grownBy w6 (some p) := grownJ_then hg2 hg6 (fun b e => .inl (by have := hub b e; omega))
  have hR6 : RJ w6 p s q' room := rj_kept (rj_below hR4 hV) hg6 (hnb p (by omega))
  have hb6 : Boxed w6 rb 45 (.pointer (some ⟨p, 0, none⟩)) := (show Boxed V rb _ _ from (hV.block rb hb4.lt).trans hb4).kept hg6 (hnb rb hrb)
  have hx6 : JAt w6 bx #[x0, x1, x2, x3, .slice a acc.length c] := (hg6.block bx (by have := jat_lt hx4; have := hV.size; omega) (hnb bx hbx)).trans (jat_below hV hx4)
  have hbn : bx ≠ g6 := by omega
  have hpn : p ≠ g6 := by omega
  have hrn : rb ≠ g6 := by omega
  have hn6 : ∀ b', some g6 = some b' → w0.heap.size ≤ b' ∨ some p = some b' := fun b' e => .inl (by cases e; omega)
  have hnx : ∀ b', some bx = some b' → w0.heap.size ≤ b' ∨ some p = some b' := fun b' e => .inl (by cases e; omega)
  have hla : (acc ++ [v]).length = acc.length + 1 := by simp
  have hs4 := hg4.size
  have hsV := hV.size
  have hk6 : ∀ b, b < W1.heap.size → b ≠ p → some b ≠ (Value.slice a acc.length c).ownBlock → w6.heap[b]? = W1.heap[b]? ∧ b ≠ g6 := fun b b1 b2 b4 => by
    refine ⟨by rw [hg6.block b (by omega) b4, hV.block b (by omega), hg4.block b b1 (fun e => b2 (by cases e; rfl))], ?_⟩
    rintro rfl
    rcases hv with hv | hv
    · exact b4 hv
    · simp only [Value.ownBlock, Option.some.injEq] at hv
      omega
  have hG8 : ∀ g, G' g → G g ∨ w4.heap.size ≤ g := fun g hg => by
    rcases hG9 g hg with h | rfl
    · exact .inl h
    · rcases hv with hv | hv
      · exact .inl (hGu g hv.symm)
      · simp only [Value.ownBlock, Option.some.injEq] at hv
        exact .inr (by omega)
  rcases hFF with rfl | rfl
  · have ho := own_sets5 hown6 hlen rfl d0 d1 d2 d3 d4
    have ho2 := ownsRow_setCell_below (a := ⟨bx, 4, none⟩) ho hbx (.slice (some ⟨g6, 0, none⟩) (acc.length + 1) c6)
    have hj := jel_push2 (F := F1 w6 g6 bx acc.length c6 d0 d1 d2 d3 d4) hown1 hel1 hGu hGl hG8 (by omega) hBW hg4 hF4 hV hg6 hv rfl (by simp [F1]) (fun b b1 _ b3 => by
      unfold F1
      rw [heap_set9 _ _ _ _ b (by show b ≠ bx; omega), heap_set9 _ _ _ _ b b3, heap_set9 _ _ _ _ b b3, heap_set9 _ _ _ _ b b3, heap_set9 _ _ _ _ b b3, heap_set9 _ _ _ _ b b3])
    refine ⟨⟨?_, ?_, by rw [hla]; exact ho2, hj⟩, ?_, ?_, fun b b1 b2 b3 b4 => ?_⟩
    · show Boxed (F1 _ _ _ _ _ _ _ _ _ _) rb _ _
      unfold F1
      exact (heap_set9 _ _ _ _ rb (by show rb ≠ bx; exact hrx)).trans ((heap_set9 _ _ _ _ rb hrn).trans ((heap_set9 _ _ _ _ rb hrn).trans ((heap_set9 _ _ _ _ rb hrn).trans ((heap_set9 _ _ _ _ rb hrn).trans ((heap_set9 _ _ _ _ rb hrn).trans hb6)))))
    · rw [hla]
      exact jat_set (jat_other (jat_other (jat_other (jat_other (jat_other hx6 hbn _ _) hbn _ _) hbn _ _) hbn _ _) hbn _ _) 4 _
    · exact rj_other9 (rj_other9 (rj_other9 (rj_other9 (rj_other9 (rj_other9 hR6 hpn _ _) hpn _ _) hpn _ _) hpn _ _) hpn _ _) hpx _ _
    · exact grownJ_then (grownJ_then (grownJ_then (grownJ_then (grownJ_then (grownJ_then hg3 (grownJ_set _ g6 _ _) hn6) (grownJ_set _ g6 _ _) hn6) (grownJ_set _ g6 _ _) hn6) (grownJ_set _ g6 _ _) hn6) (grownJ_set _ g6 _ _) hn6) (grownJ_set _ bx 4 _) hnx
    · obtain ⟨k1, k2⟩ := hk6 b b1 b2 b4
      unfold F1
      rw [heap_set9 _ _ _ _ b b3, heap_set9 _ _ _ _ b k2, heap_set9 _ _ _ _ b k2, heap_set9 _ _ _ _ b k2, heap_set9 _ _ _ _ b k2, heap_set9 _ _ _ _ b k2, k1]
  · have ho2 := own_sets5 (ownsRow_setCell_below (a := ⟨bx, 4, none⟩) hown6 hbx (.slice (some ⟨g6, 0, none⟩) (acc.length + 1) c6)) hlen rfl d0 d1 d2 d3 d4
    have hj := jel_push2 (F := F2 w6 g6 bx acc.length c6 d0 d1 d2 d3 d4) hown1 hel1 hGu hGl hG8 (by omega) hBW hg4 hF4 hV hg6 hv rfl (by simp [F2]) (fun b b1 _ b3 => by
      unfold F2
      rw [heap_set9 _ _ _ _ b b3, heap_set9 _ _ _ _ b b3, heap_set9 _ _ _ _ b b3, heap_set9 _ _ _ _ b b3, heap_set9 _ _ _ _ b b3, heap_set9 _ _ _ _ b (by show b ≠ bx; omega)])
    refine ⟨⟨?_, ?_, by rw [hla]; exact ho2, hj⟩, ?_, ?_, fun b b1 b2 b3 b4 => ?_⟩
    · show Boxed (F2 _ _ _ _ _ _ _ _ _ _) rb _ _
      unfold F2
      exact (heap_set9 _ _ _ _ rb hrn).trans ((heap_set9 _ _ _ _ rb hrn).trans ((heap_set9 _ _ _ _ rb hrn).trans ((heap_set9 _ _ _ _ rb hrn).trans ((heap_set9 _ _ _ _ rb hrn).trans ((heap_set9 _ _ _ _ rb (by show rb ≠ bx; exact hrx)).trans hb6)))))
    · rw [hla]
      exact jat_other (jat_other (jat_other (jat_other (jat_other (jat_set hx6 4 _) hbn _ _) hbn _ _) hbn _ _) hbn _ _) hbn _ _
    · exact rj_other9 (rj_other9 (rj_other9 (rj_other9 (rj_other9 (rj_other9 hR6 hpx _ _) hpn _ _) hpn _ _) hpn _ _) hpn _ _) hpn _ _
    · exact grownJ_then (grownJ_then (grownJ_then (grownJ_then (grownJ_then (grownJ_then hg3 (grownJ_set _ bx 4 _) hnx) (grownJ_set _ g6 _ _) hn6) (grownJ_set _ g6 _ _) hn6) (grownJ_set _ g6 _ _) hn6) (grownJ_set _ g6 _ _) hn6) (grownJ_set _ g6 _ _) hn6
    · obtain ⟨k1, k2⟩ := hk6 b b1 b2 b4
      unfold F2
      rw [heap_set9 _ _ _ _ b k2, heap_set9 _ _ _ _ b k2, heap_set9 _ _ _ _ b k2, heap_set9 _ _ _ _ b k2, heap_set9 _ _ _ _ b k2, heap_set9 _ _ _ _ b b3, k1]
end Go.Proofs.YtpiajoffddjjfaaGreatDoor
