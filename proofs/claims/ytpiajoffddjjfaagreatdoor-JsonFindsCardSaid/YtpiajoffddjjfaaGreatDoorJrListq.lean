/- Reading JSON: list. -/
import Derived.Test.YtpiajoffddjjfaaGreatDoorMg19Jso
import Derived.Test.YtpiajoffddjjfaaGreatDoorJrL1Wq
import Derived.Test.YtpiajoffddjjfaaGreatDoorJrPartsq
set_option linter.unusedVariables false
namespace Go.Proofs.YtpiajoffddjjfaaGreatDoor
open Go.RowKit Go.Shelf
/-- what thing comes to in every world, as far as is said -/
def ThC (s : ByteArray) (p r : Nat) : Prop := ∀ (t : K.Tok) (q : Nat) (W : World), q ≤ s.size → RJ W p s q r → Err W → Js.thing2 (strB s) r t q ≠ .inl (0, 0) → Calls Tryz.prog 25 #[.pointer (some ⟨p, 0, none⟩), tokV t] W (ThR p s r W (Js.thing2 (strB s) r t q))
theorem tk_ne {p : Nat} {W : World} {row : Option Nat} (ht : Tk p W row) {b : Nat} {cs : Array Value} {t : TypeId} {f : Nat × Nat} (hb : W.heap[b]? = some (.cells cs t f)) (htt : t ≠ 60) (hbp : b ≠ p) : some b ≠ row := fun e => by
  rcases ht _ e.symm with h | ⟨cs', f', h⟩
  · exact hbp h
  · rw [hb] at h
    injection h with h
    injection h with _ h _
    exact htt h
theorem tk_from {p B : Nat} {W W' : World} {row : Option Nat} (hp : p < B) (hg : W.grownBy W' row) (ht : Tk p W row) : ∀ b, B ≤ b → b < W.heap.size → NT W b → W'.heap[b]? = W.heap[b]? := fun b hB hb hn => hg.block b hb fun e => by
  rcases ht _ e.symm with h | ⟨cs', f', h⟩
  · omega
  · exact hn _ _ h
theorem lstt_kept {B p rb bx : Nat} {acc : List JV} {W W' : World} {row : Option Nat} (hp : p < rb) (hrb : rb < B) (hbx : bx < B) (hpx : p ≠ bx) (h : LStt B p rb bx acc W) (hg : W.grownBy W' row) (ht : Tk p W row) : LStt B p rb bx acc W' := by
  obtain ⟨h1, a, c, cs, h2, h3, h4⟩ := h
  have hkb := tk_from (B := B) (by omega) hg ht
  exact ⟨(hg.block rb h1.lt (tk_ne ht h1 (by decide) (by omega))).trans h1, a, c, cs, (hg.block bx (jat_lt h2) (tk_ne ht h2 (by decide) (fun e => hpx e.symm))).trans h2, own_keepJ h3 hkb, jel_keep h4 hg.size hkb⟩
/-- the row is the things of a List or an Obj, in every world that has kept it -/
theorem jrow_is2 {B : Nat} {W : World} {a : Option Addr} {c : Nat} {ys : List JV} {cs : List Value} (h1 : W.ownsRow B 25 5 (.slice a ys.length c) ys.length cs) (h2 : JEl B W (.slice a ys.length c) ys cs) {W' : World} (hb : ∀ b, B ≤ b → b < W.heap.size → NT W b → W'.heap[b]? = W.heap[b]?) :
    ys.length ≤ c ∧ c ≤ maxLen ∧ (ys = [] ∨ ∃ b off, a = some ⟨b, off, none⟩ ∧ IsJL W' b ys off) := by
  rcases h1.2 with ⟨he, hn⟩ | ⟨g, cap, cur, he, hg, hh, hc1, hc2, hc3, hc4⟩
  · simp only [Value.slice.injEq] at he
    obtain ⟨rfl, _, rfl⟩ := he
    exact ⟨by omega, by unfold maxLen; omega, .inl (List.length_eq_zero_iff.1 hn)⟩
  · simp only [Value.slice.injEq, true_and] at he
    obtain ⟨rfl, rfl⟩ := he
    refine ⟨hc1, hc2, .inr ⟨g, 0, rfl, isJL_of fun i y hy => ?_⟩⟩
    obtain ⟨c0, c1, c2, c3, c4, E, F, ⟨u0, u1, u2, u3, u4⟩, ⟨q1, q2, q3⟩, hi⟩ := h2 i y hy
    have hv : W'.heap[g]? = some (.cells cur 25 (0, 0)) := (hb g hg (Array.getElem?_eq_some_iff.1 hh).1 (nt_cells hh (by decide))).trans hh
    have hil : i < ys.length := (List.getElem?_eq_some_iff.1 hy).1
    have at_ : ∀ j c, j < ys.length * 5 → cs[j]? = some c → W'.cell? ⟨g, j, none⟩ = some c := fun j c hj hjc => by
      rw [← hc4, List.getElem?_take, if_pos hj] at hjc
      simp only [World.cell?, hv]
      simpa using hjc
    rw [Nat.zero_add]
    exact ⟨c0, c1, c2, c3, c4, ⟨at_ _ _ (by omega) u0, at_ _ _ (by omega) u1, at_ _ _ (by omega) u2, at_ _ _ (by omega) u3, at_ _ _ (by omega) u4⟩, hi W' fun b b1 b2 b3 => hb b (by omega) (by omega) b3⟩
theorem grownJ_set5 (W : World) (g : Nat) (d0 d1 d2 d3 d4 : Value) : W.grownBy (((((W.setCell ⟨g, 0, none⟩ d0).setCell ⟨g, 1, none⟩ d1).setCell ⟨g, 2, none⟩ d2).setCell ⟨g, 3, none⟩ d3).setCell ⟨g, 4, none⟩ d4) (some g) :=
  grownJ_two (grownJ_two (grownJ_two (grownJ_two (grownJ_set W g 0 d0) (grownJ_set _ g 1 d1)) (grownJ_set _ g 2 d2)) (grownJ_set _ g 3 d3)) (grownJ_set _ g 4 d4)
theorem heapJ_set5 (W : World) (g : Nat) (d0 d1 d2 d3 d4 : Value) (b : Nat) (h : b ≠ g) : (((((W.setCell ⟨g, 0, none⟩ d0).setCell ⟨g, 1, none⟩ d1).setCell ⟨g, 2, none⟩ d2).setCell ⟨g, 3, none⟩ d3).setCell ⟨g, 4, none⟩ d4).heap[b]? = W.heap[b]? := by
  rw [heap_set9 _ _ _ _ b h, heap_set9 _ _ _ _ b h, heap_set9 _ _ _ _ b h, heap_set9 _ _ _ _ b h, heap_set9 _ _ _ _ b h]
/-- a thing whose rows are one's own, read out of the result's variable -/
theorem freshJ_obj {W w1 : World} {B g : Nat} {k n : Int} {a : Option Addr} {c : Nat} {ys : List JV} {cs : List Value} {na : Option Addr} {nc : Nat} {ns : List ByteArray} (hk : J64 k) (hn : J64 n) (hWB : W.heap.size ≤ B) (hgB : g < B)
    (h1 : w1.ownsRow B 25 5 (.slice a ys.length c) ys.length cs) (h2 : JEl B w1 (.slice a ys.length c) ys cs) (hns : ∀ W' : World, (∀ b, B ≤ b → b < w1.heap.size → NT w1 b → W'.heap[b]? = w1.heap[b]?) → NRow W' na nc ns) (d0 d1 d2 d3 d4 : Value) :
    FreshJ W.heap.size (((((w1.setCell ⟨g, 0, none⟩ d0).setCell ⟨g, 1, none⟩ d1).setCell ⟨g, 2, none⟩ d2).setCell ⟨g, 3, none⟩ d3).setCell ⟨g, 4, none⟩ d4) (.mk k n ⟨#[]⟩ ns ys) (.agg #[.int .i64 k, .int .i64 n, .string ⟨#[]⟩, .slice na ns.length nc, .slice a ys.length c]) := by
  intro W' hW'
  have hb : ∀ b, B ≤ b → b < w1.heap.size → NT w1 b → W'.heap[b]? = w1.heap[b]? := fun b b1 b2 b3 => by
    have e := heapJ_set5 w1 g d0 d1 d2 d3 d4 b (by omega)
    rw [← e]
    refine hW' b (by omega) ?_ (nt_eq b3 e)
    have := (grownJ_set5 w1 g d0 d1 d2 d3 d4).size
    omega
  obtain ⟨z1, z2, z3⟩ := jrow_is2 h1 h2 hb
  unfold IsJ
  exact ⟨hk, hn, Nat.zero_le _, na, nc, a, c, rfl, hns W' hb, z1, z2, z3⟩
set_option maxRecDepth 100000 in
set_option maxHeartbeats 4000000 in
theorem list_ok (s : ByteArray) (p r : Nat) (hsm : s.size ≤ 100000) (hpl : ∀ q, q ≤ s.size → (K.next (strB s) q).2.1 ≤ s.size) (hr1 : r ≤ 1000) (hpe : p ≠ 1) (ih : ThC s p r) (q : Nat) (W : World) (hq : q ≤ s.size) (hr : RJ W p s q (r + 1)) (hE : Err W)
    (R : Js.Out (List JV × Nat)) (hR : Js.partsP (Js.partL2 (Js.thing2 (strB s) r) (strB s)) (strB s) r 2 q [] = R) (hR0 : R ≠ .inl (0, 0)) :
    Calls Tryz.prog 34 #[.pointer (some ⟨p, 0, none⟩)] W (ThR p s (r + 1) W (Js.andThen R fun (vs, q) => .inr (.mk 5 0 ⟨#[]⟩ [] vs, q))) := by
  have hmf : ∀ (fn : Fn) (first cap : Array Value) (w : World), (Instr.makeFunc fn first cap).run Tryz.prog w = .ok (.func fn first cap) w := fun _ _ _ _ => rfl
  have hpW := rj_lt hr
  have hA1 := (Below.refl _ W).alloc (Nat.le_refl _) (.cells #[.pointer (some ⟨p, 0, none⟩)] 45)
  have hA2 := hA1.alloc hA1.size (.cells jzero 25)
  have hA3 := hA2.alloc hA2.size (.cells #[.int .i64 5, .int .i64 0, .string ⟨#[]⟩, .slice none 0 0, .slice none 0 0] 25)
  have hbr : Boxed (((W.alloc (.cells #[.pointer (some ⟨p, 0, none⟩)] 45)).alloc (.cells jzero 25)).alloc (.cells #[.int .i64 5, .int .i64 0, .string ⟨#[]⟩, .slice none 0 0, .slice none 0 0] 25)) W.heap.size 45 (.pointer (some ⟨p, 0, none⟩)) := ((Boxed.new W _ _).alloc _).alloc _
  have hz2 : JAt ((W.alloc (.cells #[.pointer (some ⟨p, 0, none⟩)] 45)).alloc (.cells jzero 25)) (W.heap.size + 1) jzero := by
    have := jat_alloc (W.alloc (.cells #[.pointer (some ⟨p, 0, none⟩)] 45)) jzero
    rwa [World.size_alloc] at this
  have hx3 := jat_alloc ((W.alloc (.cells #[.pointer (some ⟨p, 0, none⟩)] 45)).alloc (.cells jzero 25)) #[.int .i64 5, .int .i64 0, .string ⟨#[]⟩, .slice none 0 0, .slice none 0 0]
  rw [World.size_alloc, World.size_alloc] at hx3
  have hP := parts_any (LStt (W.heap.size + 3) p W.heap.size (W.heap.size + 1 + 1)) (Js.partL2 (Js.thing2 (strB s) r) (strB s)) s p r 2 44 #[.pointer (some ⟨W.heap.size + 1 + 1, 0, none⟩), .pointer (some ⟨W.heap.size, 0, none⟩)] ((W.alloc (.cells #[.pointer (some ⟨p, 0, none⟩)] 45)).alloc (.cells jzero 25))
    (fun a W W' row h hg ht => lstt_kept (by omega) (by omega) (by omega) (by omega) h hg ht) hsm hpl (fun t q a a' q' _ h => by have := Js.partL2_place h; rwa [strB_len] at this) (fun _ _ => rfl) R
    (fun t q a W1 hq1 hne ha hr1 hE1 hG1 => by
      obtain ⟨X, hX⟩ : ∃ X, Js.thing2 (strB s) r t q = X := ⟨_, rfl⟩
      have hth : X ≠ .inl (0, 0) → ∀ W', Below W1.heap.size W1 W' → Calls Tryz.prog 25 #[.pointer (some ⟨p, 0, none⟩), tokV t] W' (ThR p s r W' X) := fun h W' hb => by
        have := ih t q W' hq1 (rj_below hr1 hb) (err_below hE1 hb) (by rw [hX]; exact h)
        rwa [hX] at this
      unfold Js.partL2 at hne ⊢
      rw [hX] at hne ⊢
      cases X with
      | inl e => exact absurd (hne _ rfl) hR0
      | inr vq =>
        obtain ⟨v, q'⟩ := vq
        simp only at hne ⊢
        by_cases hc : a.length ≤ 100000 ∧ q' ≤ (strB s).length
        · rw [if_pos hc]
          have hxl := jat_lt ha.2.choose_spec.choose_spec.choose_spec.1
          exact list1_ok s r (W.heap.size + 3) p W.heap.size (W.heap.size + 1 + 1) t q a _ W1 (v, q') (hth (by simp)) ha hr1 (by omega) (by omega) (by omega) (by omega) (by omega) (by omega) (by simp) hG1 (by omega)
        · rw [if_neg hc] at hne
          exact absurd (hne _ rfl) hR0)
    q [] _ hq ⟨hbr, none, 0, [], hx3, World.ownsRow_nil _ _ _ _, fun i y h => by simp at h⟩ (rj_below hr hA3) (err_below hE hA3) (err_below hE hA2) hpe (World.grownBy_alloc _ _ _) hR hR0 (by omega)
  clear hR hR0 ih hx3 hbr
  have hG2 := grownJ_of_below hA2 (some p)
  have hr2 := rj_below hr hA2
  have hs2 : ((W.alloc (.cells #[.pointer (some ⟨p, 0, none⟩)] 45)).alloc (.cells jzero 25)).heap.size = W.heap.size + 1 + 1 := by rw [World.size_alloc, World.size_alloc]
  cases R with
  | inl ae =>
    obtain ⟨ea, er⟩ := ae
    go_enter Tryz.func34, Tryz.ntmps34
    go_wp2_with (go_at_call 43; (with_reducible refine hP.mono ?_); rintro e w1 ⟨rfl, hg⟩)
    exact ⟨rfl, rfl, grownJ_then hG2 hg (fun b e => .inr e)⟩
  | inr vq =>
    obtain ⟨vs, q'⟩ := vq
    go_enter Tryz.func34, Tryz.ntmps34
    go_wp2_with (go_at_call 43; (with_reducible refine hP.mono ?_); rintro e w1 ⟨⟨u, rfl⟩, ⟨hb1, a, c, cs, hx1, hown1, hel1⟩, hr1, hg⟩; have hz1 : JAt w1 (W.heap.size + 1) jzero := (hg.block (W.heap.size + 1) (jat_lt hz2) (fun e => by cases e; omega)).trans hz2; obtain ⟨⟨x0, x1, x2, x3, x4⟩, _⟩ := jbox5 hx1; obtain ⟨⟨y0, y1, y2, y3, y4⟩, z0, z1, z2, z3, z4⟩ := jbox5 hz1)
    refine bodyPost_ret (results_cell_row Tryz.results34 _ _ (W.heap.size + 1) _ _ _ _ rfl (jat_set5 hz1 _ _ _ _ _) Tryz.underlying25 rfl json_info) rfl ?_
    refine ⟨⟨_, _, _, _, _, _, _, _, _, rfl, freshJ_obj (B := W.heap.size + 3) (ns := []) (by unfold J64; omega) (by unfold J64; omega) (by omega) (by omega) hown1 hel1 (fun _ _ => ⟨Nat.le_refl _, Nat.zero_le _, by simp, .inl rfl⟩) _ _ _ _ _⟩, rj_set5o hr1 (by omega) _ _ _ _ _, ?_⟩
    exact grownJ_then (grownJ_then hG2 hg (fun b e => .inr e)) (grownJ_set5 w1 (W.heap.size + 1) _ _ _ _ _) (fun b e => .inl (by cases e; omega))
end Go.Proofs.YtpiajoffddjjfaaGreatDoor
