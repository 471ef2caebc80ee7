/- Reading JSON: a List's part. -/
import Derived.Test.YtpiajoffddjjfaaGreatDoorMg20Jso
import Derived.Test.YtpiajoffddjjfaaGreatDoorMg30Jso
import Derived.Deep.RegionWith
import Derived.Deep.RegionLaw
set_option linter.unusedVariables false
namespace Go.Proofs.YtpiajoffddjjfaaGreatDoor
open Go.RowKit Go.Shelf
def wrongJ (a e : Int) : List PanicEntry := [{ v := .iface 57 (.agg #[.int .i64 a, .int .i64 e]), recovered := false }]
/-- what thing comes to -/
def ThR (p : Nat) (s : ByteArray) (room : Nat) (w : World) (x : Js.Out (JV × Nat)) (e : Ending) (w' : World) : Prop := match x with
  | .inl (a, er) => e = .panicked (wrongJ a er) ∧ w.grownBy w' (some p)
  | .inr (v, q) => (∃ k n t na nl nc a len cap, e = .returned (.agg #[.int .i64 k, .int .i64 n, .string t, .slice na nl nc, .slice a len cap]) ∧ FreshJ w.heap.size w' v (.agg #[.int .i64 k, .int .i64 n, .string t, .slice na nl nc, .slice a len cap])) ∧ RJ w' p s q room ∧ w.grownBy w' (some p)
/-- a List's state -/
def LStt (B p rb bx : Nat) (acc : List JV) (W : World) : Prop := Boxed W rb 45 (.pointer (some ⟨p, 0, none⟩)) ∧
  ∃ a c cs, JAt W bx #[.int .i64 5, .int .i64 0, .string ⟨#[]⟩, .slice none 0 0, .slice a acc.length c] ∧ W.ownsRow B 25 5 (.slice a acc.length c) acc.length cs ∧ JEl B W (.slice a acc.length c) acc cs
/-- what a part comes to, anchored at w0 -/
def PaR {σ : Type} (St : σ → World → Prop) (p : Nat) (s : ByteArray) (room : Nat) (w0 : World) (x : Js.Out (σ × Nat)) (e : Ending) (w' : World) : Prop := match x with
  | .inl (a, er) => e = .panicked (wrongJ a er) ∧ w0.grownBy w' (some p)
  | .inr (a, q) => (∃ u, e = .returned u) ∧ St a w' ∧ RJ w' p s q room ∧ w0.grownBy w' (some p)
theorem tok_cells {W : World} (tk ta te tn : Int) (ts : List Int) : GAt (W.alloc (.cells #[.int .i64 tk, .int .i64 ta, .int .i64 te, .string (strOfNums ts), .int .i64 tn] 60)) W.heap.size #[.int .i64 tk, .int .i64 ta, .int .i64 te, .string (strOfNums ts), .int .i64 tn] := gat_alloc W _
theorem info_json : (Tryz.prog.info? 25).map (fun i => (i.zero, i.size, i.bytes)) = some (some (.agg jzero), 5, 80) := by kernel_rfl
/-- what the call of thing leaves, for the rest of the region -/
def L1A (s : ByteArray) (room B p rb bx : Nat) (a : Option Addr) (c : Nat) (acc : List JV) (cs : List Value) (v : JV) (q' : Nat) (w0 W1 : World) (e : Ending) (w4 : World) : Prop :=
  ∃ k n t na nl nc a' len cap, e = .returned (.agg #[.int .i64 k, .int .i64 n, .string t, .slice na nl nc, .slice a' len cap]) ∧ FreshJ W1.heap.size w4 v (.agg #[.int .i64 k, .int .i64 n, .string t, .slice na nl nc, .slice a' len cap]) ∧
    JAt w4 bx #[.int .i64 5, .int .i64 0, .string ⟨#[]⟩, .slice none 0 0, .slice a acc.length c] ∧ w4.ownsRow B 25 5 (.slice a acc.length c) acc.length cs ∧ RJ w4 p s q' room ∧ Boxed w4 rb 45 (.pointer (some ⟨p, 0, none⟩)) ∧ W1.grownBy w4 (some p)
theorem l1_of {s : ByteArray} {room B p rb bx : Nat} {a : Option Addr} {c : Nat} {acc : List JV} {cs : List Value} {v : JV} {q' : Nat} {w0 W1 V : World} {e : Ending} {w4 : World} (hV : Below W1.heap.size W1 V) (hx : JAt W1 bx #[.int .i64 5, .int .i64 0, .string ⟨#[]⟩, .slice none 0 0, .slice a acc.length c])
    (hown : W1.ownsRow B 25 5 (.slice a acc.length c) acc.length cs) (hbr : Boxed W1 rb 45 (.pointer (some ⟨p, 0, none⟩))) (hpx : p ≠ bx) (hpr : p ≠ rb) (hpB : p < B) (h : ThR p s room V (.inr (v, q')) e w4) : L1A s room B p rb bx a c acc cs v q' w0 W1 e w4 := by
  obtain ⟨⟨k, n, t, na, nl, nc, a', len, cap, h1, h2⟩, h3, h4⟩ := h
  have h5 := h4.size
  have h6 := hV.size
  have hg : W1.grownBy w4 (some p) := grownJ_then (grownJ_of_below hV (some p)) h4 (fun b e => .inr e)
  refine ⟨k, n, t, na, nl, nc, a', len, cap, h1, freshJ_mono h2 hV.size, (hg.block bx (jat_lt hx) (fun e => hpx (by cases e; rfl))).trans hx, hown.kept hg ?_, h3, hbr.kept hg (fun e => hpr (by cases e; rfl)), hg⟩
  cases hb : (Value.slice a acc.length c).ownBlock with
  | none => exact .inl rfl
  | some b => exact .inr fun e => by have := (own_blkJ hown b hb).2.1; cases e; omega
/-- the last thing's cells -/
theorem own_last {W : World} {B n g cap : Nat} {cs : List Value} {z0 z1 z2 z3 z4 : Value} (h : W.ownsRow B 25 5 (.slice (some ⟨g, 0, none⟩) (n + 1) cap) (n + 1) (cs ++ [z0, z1, z2, z3, z4])) :
    (W.cell? ⟨g, n * 5, none⟩ = some z0 ∧ W.cell? ⟨g, n * 5 + 1, none⟩ = some z1 ∧ W.cell? ⟨g, n * 5 + 2, none⟩ = some z2 ∧ W.cell? ⟨g, n * 5 + 3, none⟩ = some z3 ∧ W.cell? ⟨g, n * 5 + 4, none⟩ = some z4) ∧
    (W.frozen? ⟨g, n * 5, none⟩ = false ∧ W.frozen? ⟨g, n * 5 + 1, none⟩ = false ∧ W.frozen? ⟨g, n * 5 + 2, none⟩ = false ∧ W.frozen? ⟨g, n * 5 + 3, none⟩ = false ∧ W.frozen? ⟨g, n * 5 + 4, none⟩ = false) := by
  have hl : cs.length = n * 5 := by have := h.1; simp at this; omega
  rcases h.2 with ⟨hn, _⟩ | ⟨g', cap', cur, he, _, hh, h1, _, _, ht⟩
  · cases hn
  · simp only [Value.slice.injEq, Option.some.injEq, Addr.mk.injEq, and_true, true_and] at he
    obtain ⟨rfl, rfl⟩ := he
    have at_ : ∀ j u, j < (n + 1) * 5 → (cs ++ [z0, z1, z2, z3, z4])[j]? = some u → W.cell? ⟨g, j, none⟩ = some u := fun j u hj hu => by
      rw [← ht, List.getElem?_take, if_pos hj] at hu
      simp only [World.cell?, hh]
      simpa using hu
    refine ⟨⟨at_ _ _ (by omega) ?_, at_ _ _ (by omega) ?_, at_ _ _ (by omega) ?_, at_ _ _ (by omega) ?_, at_ _ _ (by omega) ?_⟩, ?_, ?_, ?_, ?_, ?_⟩
    · rw [List.getElem?_append_right (by omega), show n * 5 - cs.length = 0 by omega]; rfl
    · rw [List.getElem?_append_right (by omega), show n * 5 + 1 - cs.length = 1 by omega]; rfl
    · rw [List.getElem?_append_right (by omega), show n * 5 + 2 - cs.length = 2 by omega]; rfl
    · rw [List.getElem?_append_right (by omega), show n * 5 + 3 - cs.length = 3 by omega]; rfl
    · rw [List.getElem?_append_right (by omega), show n * 5 + 4 - cs.length = 4 by omega]; rfl
    all_goals simp [World.frozen?, hh]
theorem jat_own {W w6 : World} {B bx m : Nat} {cs0 : Array Value} {v : Value} {ys : List Value} (hx : JAt W bx cs0) (hg : W.grownBy w6 v.ownBlock) (hv : W.ownsRow B 25 5 v m ys) (hbx : bx < B) : JAt w6 bx cs0 :=
  (hg.block bx (jat_lt hx) (fun e => by have := (own_blkJ hv bx e.symm).2.1; omega)).trans hx
theorem jat_past5 {w6 : World} {B bx n' g m c6 : Nat} {cs0 : Array Value} {ys : List Value} (hx : JAt w6 bx cs0) (hv : w6.ownsRow B 25 5 (.slice (some ⟨g, 0, none⟩) (n' + 1) c6) m ys) (hbx : bx < B) (k n : Int) (t : ByteArray) (na : Option Addr) (nl nc : Nat) (a' : Option Addr) (len cap : Nat) :
    JAt (((((w6.setCell ⟨g, n' * 5, none⟩ (.int .i64 k)).setCell ⟨g, n' * 5 + 1, none⟩ (.int .i64 n)).setCell ⟨g, n' * 5 + 2, none⟩ (.string t)).setCell ⟨g, n' * 5 + 3, none⟩ (.slice na nl nc)).setCell ⟨g, n' * 5 + 4, none⟩ (.slice a' len cap)) bx cs0 := by
  have hne : bx ≠ g := by have := (own_blkJ hv g rfl).2.1; omega
  exact jat_other (jat_other (jat_other (jat_other (jat_other hx hne _ _) hne _ _) hne _ _) hne _ _) hne _ _
theorem rj_other9 {W : World} {p b : Nat} {s : ByteArray} {a r : Nat} (h : RJ W p s a r) (hne : p ≠ b) (i : Nat) (c : Value) : RJ (W.setCell ⟨b, i, none⟩ c) p s a r := (Below.heap_setCell W ⟨b, i, none⟩ c p hne).trans h
/-- the worlds behind the region: the thing's cells first, or the variable's -/
def F1 (w6 : World) (g6 bx m c6 : Nat) (d0 d1 d2 d3 d4 : Value) : World := (((((w6.setCell ⟨g6, m * 5, none⟩ d0).setCell ⟨g6, m * 5 + 1, none⟩ d1).setCell ⟨g6, m * 5 + 2, none⟩ d2).setCell ⟨g6, m * 5 + 3, none⟩ d3).setCell ⟨g6, m * 5 + 4, none⟩ d4).setCell ⟨bx, 4, none⟩ (.slice (some ⟨g6, 0, none⟩) (m + 1) c6)
def F2 (w6 : World) (g6 bx m c6 : Nat) (d0 d1 d2 d3 d4 : Value) : World := (((((w6.setCell ⟨bx, 4, none⟩ (.slice (some ⟨g6, 0, none⟩) (m + 1) c6)).setCell ⟨g6, m * 5, none⟩ d0).setCell ⟨g6, m * 5 + 1, none⟩ d1).setCell ⟨g6, m * 5 + 2, none⟩ d2).setCell ⟨g6, m * 5 + 3, none⟩ d3).setCell ⟨g6, m * 5 + 4, none⟩ d4
theorem heap_set9 (W : World) (b' i : Nat) (v : Value) (b : Nat) (h : b ≠ b') : (W.setCell ⟨b', i, none⟩ v).heap[b]? = W.heap[b]? := Below.heap_setCell W ⟨b', i, none⟩ v b h
theorem l1_end {s : ByteArray} {room B p rb bx : Nat} {a : Option Addr} {c : Nat} {acc : List JV} {cs : List Value} {v : JV} {q' : Nat} {w0 W1 w4 V w6 F : World} {d0 d1 d2 d3 d4 z0 z1 z2 z3 z4 : Value} {g6 c6 : Nat}
    (hFF : F = F1 w6 g6 bx acc.length c6 d0 d1 d2 d3 d4 ∨ F = F2 w6 g6 bx acc.length c6 d0 d1 d2 d3 d4)
    (hown1 : W1.ownsRow B 25 5 (.slice a acc.length c) acc.length cs) (hel1 : JEl B W1 (.slice a acc.length c) acc cs) (hp : p < rb) (hrb : rb < B) (hbx : bx < B) (hpx : p ≠ bx) (hrx : rb ≠ bx) (hBW : B ≤ W1.heap.size) (hxb : w0.heap.size ≤ bx) (hG : w0.grownBy W1 (some p))
    (hF4 : FreshJ W1.heap.size w4 v (.agg #[d0, d1, d2, d3, d4])) (hx4 : JAt w4 bx #[.int .i64 5, .int .i64 0, .string ⟨#[]⟩, .slice none 0 0, .slice a acc.length c]) (hR4 : RJ w4 p s q' room) (hb4 : Boxed w4 rb 45 (.pointer (some ⟨p, 0, none⟩))) (hg4 : W1.grownBy w4 (some p))
    (hV : Below w4.heap.size w4 V) (hg6 : V.grownBy w6 (Value.slice a acc.length c).ownBlock) (hown6 : w6.ownsRow B 25 5 (.slice (some ⟨g6, 0, none⟩) (acc.length + 1) c6) (acc.length + 1) (cs ++ [z0, z1, z2, z3, z4]))
    (hv : (Value.slice (some ⟨g6, 0, none⟩) (acc.length + 1) c6).ownBlock = (Value.slice a acc.length c).ownBlock ∨ (Value.slice (some ⟨g6, 0, none⟩) (acc.length + 1) c6).ownBlock = some V.heap.size) :
    LStt B p rb bx (acc ++ [v]) F ∧ RJ F p s q' room ∧ w0.grownBy F (some p) := by
  have hlen : cs.length = acc.length * 5 := hown1.1
  have hgb := (own_blkJ hown6 g6 rfl).2.1
  have hub := fun b e => (own_blkJ hown1 b e).2.1
  have hnb : ∀ b, b < B → some b ≠ (Value.slice a acc.length c).ownBlock := fun b hb e => by have := hub b e.symm; omega
  have hs0 := hG.size
  have hg1 : w0.grownBy w4 (some p) := grownJ_then hG hg4 (fun b e => .inr e)
  have hg2 : w0.grownBy V (some p) := grownJ_then hg1 (grownJ_of_below hV none) (fun b e => by cases e)
  have hg3 : w0.grownBy w6 (some p) := grownJ_then hg2 hg6 (fun b e => .inl (by have := hub b e; omega))
  have hR6 : RJ w6 p s q' room := rj_kept (rj_below hR4 hV) hg6 (hnb p (by omega))
  have hb6 : Boxed w6 rb 45 (.pointer (some ⟨p, 0, none⟩)) := (show Boxed V rb _ _ from (hV.block rb hb4.lt).trans hb4).kept hg6 (hnb rb hrb)
  have hx6 : JAt w6 bx #[.int .i64 5, .int .i64 0, .string ⟨#[]⟩, .slice none 0 0, .slice a acc.length c] := (hg6.block bx (by have := jat_lt hx4; have := hV.size; omega) (hnb bx hbx)).trans (jat_below hV hx4)
  have hbn : bx ≠ g6 := by omega
  have hpn : p ≠ g6 := by omega
  have hrn : rb ≠ g6 := by omega
  have hn6 : ∀ b', some g6 = some b' → w0.heap.size ≤ b' ∨ some p = some b' := fun b' e => .inl (by cases e; omega)
  have hnx : ∀ b', some bx = some b' → w0.heap.size ≤ b' ∨ some p = some b' := fun b' e => .inl (by cases e; omega)
  have hla : (acc ++ [v]).length = acc.length + 1 := by simp
  rcases hFF with rfl | rfl
  · have ho := own_sets5 hown6 hlen rfl d0 d1 d2 d3 d4
    have ho2 := ownsRow_setCell_below (a := ⟨bx, 4, none⟩) ho hbx (.slice (some ⟨g6, 0, none⟩) (acc.length + 1) c6)
    have hj := jel_push (F := F1 w6 g6 bx acc.length c6 d0 d1 d2 d3 d4) hown1 hel1 (by omega) hBW hg4 hF4 hV hg6 hv rfl (by simp [F1]) (fun b b1 _ b3 => by
      unfold F1
      rw [heap_set9 _ _ _ _ b (by show b ≠ bx; omega), heap_set9 _ _ _ _ b b3, heap_set9 _ _ _ _ b b3, heap_set9 _ _ _ _ b b3, heap_set9 _ _ _ _ b b3, heap_set9 _ _ _ _ b b3])
    refine ⟨⟨?_, _, c6, _, ?_, by rw [hla]; exact ho2, by rw [hla]; exact hj⟩, ?_, ?_⟩
    · show Boxed (F1 _ _ _ _ _ _ _ _ _ _) rb _ _
      unfold F1
      exact (heap_set9 _ _ _ _ rb (by show rb ≠ bx; exact hrx)).trans ((heap_set9 _ _ _ _ rb hrn).trans ((heap_set9 _ _ _ _ rb hrn).trans ((heap_set9 _ _ _ _ rb hrn).trans ((heap_set9 _ _ _ _ rb hrn).trans ((heap_set9 _ _ _ _ rb hrn).trans hb6)))))
    · rw [hla]
      exact jat_set (jat_other (jat_other (jat_other (jat_other (jat_other hx6 hbn _ _) hbn _ _) hbn _ _) hbn _ _) hbn _ _) 4 _
    · exact rj_other9 (rj_other9 (rj_other9 (rj_other9 (rj_other9 (rj_other9 hR6 hpn _ _) hpn _ _) hpn _ _) hpn _ _) hpn _ _) hpx _ _
    · exact grownJ_then (grownJ_then (grownJ_then (grownJ_then (grownJ_then (grownJ_then hg3 (grownJ_set _ g6 _ _) hn6) (grownJ_set _ g6 _ _) hn6) (grownJ_set _ g6 _ _) hn6) (grownJ_set _ g6 _ _) hn6) (grownJ_set _ g6 _ _) hn6) (grownJ_set _ bx 4 _) hnx
  · have ho2 := own_sets5 (ownsRow_setCell_below (a := ⟨bx, 4, none⟩) hown6 hbx (.slice (some ⟨g6, 0, none⟩) (acc.length + 1) c6)) hlen rfl d0 d1 d2 d3 d4
    have hj := jel_push (F := F2 w6 g6 bx acc.length c6 d0 d1 d2 d3 d4) hown1 hel1 (by omega) hBW hg4 hF4 hV hg6 hv rfl (by simp [F2]) (fun b b1 _ b3 => by
      unfold F2
      rw [heap_set9 _ _ _ _ b b3, heap_set9 _ _ _ _ b b3, heap_set9 _ _ _ _ b b3, heap_set9 _ _ _ _ b b3, heap_set9 _ _ _ _ b b3, heap_set9 _ _ _ _ b (by show b ≠ bx; omega)])
    refine ⟨⟨?_, _, c6, _, ?_, by rw [hla]; exact ho2, by rw [hla]; exact hj⟩, ?_, ?_⟩
    · show Boxed (F2 _ _ _ _ _ _ _ _ _ _) rb _ _
      unfold F2
      exact (heap_set9 _ _ _ _ rb hrn).trans ((heap_set9 _ _ _ _ rb hrn).trans ((heap_set9 _ _ _ _ rb hrn).trans ((heap_set9 _ _ _ _ rb hrn).trans ((heap_set9 _ _ _ _ rb hrn).trans ((heap_set9 _ _ _ _ rb (by show rb ≠ bx; exact hrx)).trans hb6)))))
    · rw [hla]
      exact jat_other (jat_other (jat_other (jat_other (jat_other (jat_set hx6 4 _) hbn _ _) hbn _ _) hbn _ _) hbn _ _) hbn _ _
    · exact rj_other9 (rj_other9 (rj_other9 (rj_other9 (rj_other9 (rj_other9 hR6 hpx _ _) hpn _ _) hpn _ _) hpn _ _) hpn _ _) hpn _ _
    · exact grownJ_then (grownJ_then (grownJ_then (grownJ_then (grownJ_then (grownJ_then hg3 (grownJ_set _ bx 4 _) hnx) (grownJ_set _ g6 _ _) hn6) (grownJ_set _ g6 _ _) hn6) (grownJ_set _ g6 _ _) hn6) (grownJ_set _ g6 _ _) hn6) (grownJ_set _ g6 _ _) hn6
/-- all tokens in variables are as they were -/
def KeepT (W W' : World) : Prop := ∀ (b : Nat) (cs : Array Value) (f : Nat × Nat), W.heap[b]? = some (Obj.cells cs 60 f) → W'.heap[b]? = some (Obj.cells cs 60 f)
theorem keepT_trans {A C D : World} (h : KeepT A C) (k : KeepT C D) : KeepT A D := fun b cs f hb => k b cs f (h b cs f hb)
theorem keepT_grown {A C : World} {row : Option Nat} (hg : A.grownBy C row) (hn : ∀ (b : Nat) (cs : Array Value) (f : Nat × Nat), row = some b → A.heap[b]? = some (Obj.cells cs 60 f) → False) : KeepT A C := fun b cs f hb =>
  (hg.block b (Array.getElem?_eq_some_iff.1 hb).1 (fun e => hn b cs f e.symm hb)).trans hb
theorem keepT_below {A C : World} (h : Below A.heap.size A C) : KeepT A C := keepT_grown (grownJ_of_below h none) (fun b cs f e => by cases e)
theorem keepT_own {A C : World} {B m : Nat} {u : Value} {xs : List Value} (h : A.ownsRow B 25 5 u m xs) (hg : A.grownBy C u.ownBlock) : KeepT A C := keepT_grown hg (fun b cs f e hb => by
  obtain ⟨_, _, cs', hc⟩ := own_blkJ h b e
  rw [hb] at hc
  injection hc with hc
  injection hc with _ hc _
  exact absurd hc (by decide))
theorem keepT_cells {A : World} {b i : Nat} {cs0 : Array Value} {t : TypeId} {f0 : Nat × Nat} (h : A.heap[b]? = some (Obj.cells cs0 t f0)) (ht : t ≠ 60) (v : Value) : KeepT A (A.setCell ⟨b, i, none⟩ v) := keepT_grown (grownJ_set A b i v) (fun b' cs f e hb => by
  cases e
  rw [h] at hb
  injection hb with hb
  injection hb with _ hb _
  exact ht hb)
theorem keepT_row5 {A : World} {B m g n c : Nat} {xs : List Value} (h : A.ownsRow B 25 5 (.slice (some ⟨g, 0, none⟩) n c) m xs) (m' : Nat) (d0 d1 d2 d3 d4 : Value) :
    KeepT A (((((A.setCell ⟨g, m' * 5, none⟩ d0).setCell ⟨g, m' * 5 + 1, none⟩ d1).setCell ⟨g, m' * 5 + 2, none⟩ d2).setCell ⟨g, m' * 5 + 3, none⟩ d3).setCell ⟨g, m' * 5 + 4, none⟩ d4) := by
  refine keepT_grown (row := some g) (grownJ_two (grownJ_two (grownJ_two (grownJ_two (grownJ_set A g _ _) (grownJ_set _ g _ _)) (grownJ_set _ g _ _)) (grownJ_set _ g _ _)) (grownJ_set _ g _ _)) (fun b cs f e hb => ?_)
  cases e
  obtain ⟨_, _, cs', hc⟩ := own_blkJ h g rfl
  rw [hb] at hc
  injection hc with hc
  injection hc with _ hc _
  exact absurd hc (by decide)
theorem l1_keep {s : ByteArray} {room B p bx q m m2 g6 c6 n6 : Nat} {u : Value} {xs xs6 : List Value} {cs0 : Array Value} {W1 w4 V w6 F : World} {d0 d1 d2 d3 d4 : Value} (hFF : F = F1 w6 g6 bx m c6 d0 d1 d2 d3 d4 ∨ F = F2 w6 g6 bx m c6 d0 d1 d2 d3 d4) (hr : RJ W1 p s q room)
    (hg4 : W1.grownBy w4 (some p)) (hV : Below w4.heap.size w4 V) (hownV : V.ownsRow B 25 5 u m2 xs) (hg6 : V.grownBy w6 u.ownBlock) (hown6 : w6.ownsRow B 25 5 (.slice (some ⟨g6, 0, none⟩) (m + 1) c6) n6 xs6) (hx6 : JAt w6 bx cs0) (hbx : bx < B) : KeepT W1 F := by
  have h1 : KeepT W1 w6 := keepT_trans (keepT_grown hg4 (fun b cs f e hb => by
    cases e
    have h : W1.heap[p]? = some (.cells #[.string s, .int .i64 (q : Int), .int .i64 (room : Int)] 47 (0, 0)) := hr
    rw [h] at hb
    injection hb with hb
    injection hb with _ hb _
    exact absurd hb (by decide))) (keepT_trans (keepT_below hV) (keepT_own hownV hg6))
  have hgb := (own_blkJ hown6 g6 rfl).2.1
  rcases hFF with rfl | rfl
  · refine keepT_trans h1 (keepT_trans (keepT_row5 hown6 m d0 d1 d2 d3 d4) (keepT_cells (cs0 := cs0) (t := 25) (f0 := (0, 0)) ?_ (by decide) _))
    have hne : bx ≠ g6 := by omega
    exact jat_other (jat_other (jat_other (jat_other (jat_other hx6 hne _ _) hne _ _) hne _ _) hne _ _) hne _ _
  · exact keepT_trans h1 (keepT_trans (keepT_cells (cs0 := cs0) (t := 25) (f0 := (0, 0)) hx6 (by decide) _) (keepT_row5 (ownsRow_setCell_below (a := ⟨bx, 4, none⟩) hown6 hbx _) m d0 d1 d2 d3 d4))
theorem cells_jat {W : World} {b : Nat} {c0 c1 c2 c3 c4 : Value} (h : JAt W b #[c0, c1, c2, c3, c4]) : Cells W 5 (some ⟨b, 0, none⟩) 1 [c0, c1, c2, c3, c4] := by
  refine ⟨rfl, .inr ⟨_, rfl, fun j u hj => ?_⟩⟩
  have h2 := jat_cell h j u (by simpa using hj)
  simp only [Addr.add_lit, Nat.zero_add]
  exact h2
end Go.Proofs.YtpiajoffddjjfaaGreatDoor
