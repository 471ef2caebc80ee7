/- The walk of CellLists: the thing of a list is the list of its values' things, and a value's field of many kinds is its text. -/
import Derived.Test.YtcicjpdjbfgbhaaDoorMh45Cell
import Derived.Test.YtcicjpdjbfgbhaaDoorMh11Cell
import Derived.Deep.DeepCutAuto
import Derived.Deep.RegionHeld3
import Derived.Deep.RegionHeldLaw
import Derived.BigQuiet
set_option linter.unusedVariables false
set_option linter.unusedSimpArgs false
namespace Go.Proofs.YtcicjpdjbfgbhaaDoor.cellListsWalk
open Go.RowKit Go.Shelf
theorem keep8 {b b' : Nat} {c0 c1 c2 c3 d0 d1 d2 d3 : Value} {W0 W W' : World}
    (h : (((W.cell? ⟨b, 0, none⟩ = some c0 ∧ W.cell? ⟨b, 1, none⟩ = some c1) ∧ (W.cell? ⟨b, 2, none⟩ = some c2 ∧ W.cell? ⟨b, 3, none⟩ = some c3)) ∧ ((W.cell? ⟨b', 0, none⟩ = some d0 ∧ W.cell? ⟨b', 1, none⟩ = some d1) ∧ (W.cell? ⟨b', 2, none⟩ = some d2 ∧ W.cell? ⟨b', 3, none⟩ = some d3))) ∧ Below W0.heap.size W0 W) (hb : Below W.heap.size W W') :
    (((W'.cell? ⟨b, 0, none⟩ = some c0 ∧ W'.cell? ⟨b, 1, none⟩ = some c1) ∧ (W'.cell? ⟨b, 2, none⟩ = some c2 ∧ W'.cell? ⟨b, 3, none⟩ = some c3)) ∧ ((W'.cell? ⟨b', 0, none⟩ = some d0 ∧ W'.cell? ⟨b', 1, none⟩ = some d1) ∧ (W'.cell? ⟨b', 2, none⟩ = some d2 ∧ W'.cell? ⟨b', 3, none⟩ = some d3))) ∧ Below W0.heap.size W0 W' :=
  ⟨⟨⟨⟨cell_below hb h.1.1.1.1, cell_below hb h.1.1.1.2⟩, cell_below hb h.1.1.2.1, cell_below hb h.1.1.2.2⟩, ⟨cell_below hb h.1.2.1.1, cell_below hb h.1.2.1.2⟩, cell_below hb h.1.2.2.1, cell_below hb h.1.2.2.2⟩, h.2.trans (hb.mono h.2.size)⟩
theorem i64_lit14 (n : Int) (h : (decide (-9223372036854775808 ≤ n) && decide (n ≤ 9223372036854775807)) = true) : I64 n := by simpa [I64] using h
theorem vat_new' {W : World} {b : Nat} {cs : Array Value} (h : b = W.heap.size) : VAt (W.alloc (.cells cs 24)) b cs := by subst h; exact vat_alloc _ _
theorem vat_up {W : World} {b : Nat} {cs : Array Value} {o : Obj} (h : VAt W b cs) : VAt (W.alloc o) b cs := vat_below ((Below.refl _ W).alloc (Nat.le_refl _) o) h
theorem two_is {W : World} {g : Nat} {c0 c1 c2 c3 d0 d1 d2 d3 : Value} (h : VAt W g #[c0, c1, c2, c3, d0, d1, d2, d3]) {a b : PV} (ha : Is W a (.agg #[c0, c1, c2, c3])) (hb : Is W b (.agg #[d0, d1, d2, d3])) :
    Is W (two a b) (.agg #[.int .i64 5, .int .i64 0, .string ⟨#[]⟩, .slice (some ⟨g, 0, none⟩) 2 2]) := by
  unfold two Is
  refine ⟨i64_lit14 _ rfl, i64_lit14 _ rfl, by unfold maxLen; decide, some ⟨g, 0, none⟩, 2, rfl, by simp, by unfold maxLen; decide, .inr ⟨g, 0, rfl, ?_⟩⟩
  unfold IsL IsL IsL
  exact ⟨⟨c0, c1, c2, c3, ⟨vat_cell h 0 _ rfl, vat_cell h 1 _ rfl, vat_cell h 2 _ rfl, vat_cell h 3 _ rfl⟩, ha⟩, ⟨d0, d1, d2, d3, ⟨vat_cell h 4 _ rfl, vat_cell h 5 _ rfl, vat_cell h 6 _ rfl, vat_cell h 7 _ rfl⟩, hb⟩, trivial⟩
theorem two_ok (a b : PV) (ha : rightV a = true) (hb : rightV b = true) : okV (two a b) = true := by
  obtain ⟨_, _, h1⟩ := Vt.right_ok ha
  obtain ⟨_, _, h2⟩ := Vt.right_ok hb
  unfold two
  rw [okV5]
  simp [okL, h1, h2]
theorem two_nums {a b : PV} (ha : numsV a) (hb : numsV b) : numsV (two a b) := by
  unfold two numsV numsV.numsL numsV.numsL numsV.numsL
  exact ⟨i64_lit14 _ rfl, ha, hb, trivial⟩
theorem wp_region_held_n {P : Program} {ops : Array Oper} {Q : Exit → Act → World → Prop} {S : World → Prop} {id : Nat} {a : Act} {w : World} (n : Nat) (L : Array Bool) (hn : ops.size = n) (hL : L = Array.replicate n false) (hm : P.follows .mixedOrders = true) (hS : S w.drew)
    (h : S w.drew → wpAnyH P .any ops Q S n L a w.drew) : (Code.region id ops true).wp P Q a w := by
  subst hL; subst hn
  exact wp_region_held_drew hm hS h
theorem quiet_run {P : Program} {o : Oper} {a : Act} {C : World → Prop} {K : Act → Prop} {v : Value} (h1 : ∀ w, C w → o.quietAt P a C w v) (h2 : K (a.put o.dst v)) : o.quiet P a C K := ⟨v, h1, h2⟩
theorem same_boolC (v v' : PV) : (cmpV v v' == 0) = true ↔ v = v' := by
  rw [beq_iff_eq]; exact cmpV_zero v v'
/-- what lies between two places is as it was -/
def agr (lo hi : Nat) (A W : World) : Prop := hi ≤ W.heap.size ∧ ∀ b, lo ≤ b → b < hi → W.heap[b]? = A.heap[b]?
theorem agr_refl (lo : Nat) (A : World) : agr lo A.heap.size A A := ⟨Nat.le_refl _, fun _ _ _ => rfl⟩
theorem agr_drew {lo hi : Nat} {A W : World} (h : agr lo hi A W) : agr lo hi A W.drew := h
theorem agr_alloc {lo hi : Nat} {A W : World} (h : agr lo hi A W) (o : Obj) : agr lo hi A (W.alloc o) := ⟨by rw [World.size_alloc]; have := h.1; omega, fun b b1 b2 => (Below.heap_alloc W o b (by have := h.1; omega)).trans (h.2 b b1 b2)⟩
theorem agr_below {lo hi : Nat} {A V W : World} (k : Below V.heap.size V W) (h : agr lo hi A V) : agr lo hi A W := ⟨Nat.le_trans h.1 k.size, fun b b1 b2 => (k.block b (by have := h.1; omega)).trans (h.2 b b1 b2)⟩
theorem agr_set {lo hi : Nat} {A W : World} (h : agr lo hi A W) {g i : Nat} {v : Value} (hg : g < lo ∨ hi ≤ g) : agr lo hi A (W.setCell ⟨g, i, none⟩ v) := ⟨by simpa using h.1, fun b b1 b2 => (Below.heap_setCell W ⟨g, i, none⟩ v b (by show b ≠ g; omega)).trans (h.2 b b1 b2)⟩
theorem agr_is {lo : Nat} {A W : World} {y : JV} {x : Value} (h : FreshC IsJ lo A y x) (k : agr lo A.heap.size A W) : IsJ W y x := h W k.2
theorem bl_alloc {n : Nat} {A W : World} (h : Below n A W) (hn : n ≤ A.heap.size) (o : Obj) : Below n A (W.alloc o) := h.alloc (Nat.le_trans hn h.size) o
theorem bl_drew {n : Nat} {A W : World} (h : Below n A W) : Below n A W.drew := h.drew
theorem bl_set {n : Nat} {A W : World} (h : Below n A W) {g i : Nat} {v : Value} (hg : n ≤ g) : Below n A (W.setCell ⟨g, i, none⟩ v) := h.setCell (p := ⟨g, i, none⟩) hg v
theorem bl_call {n : Nat} {A V W : World} (k : Below V.heap.size V W) (h : Below n A V) (hn : n ≤ A.heap.size) : Below n A W := h.trans (k.mono (Nat.le_trans hn h.size))
theorem fits63 (v : PV) (h : rightV v = true) : Sc.fits (tySlot 63).ty v = true := by
  unfold Sc.fits
  rw [h, Bool.true_and]
  obtain ⟨_, _, ho⟩ := right_okC h
  cases v with
  | mk k n s l =>
    show Sc.has (Int.toNat 63) k.toNat = true
    rcases okV_kind ho with rfl | rfl | rfl | rfl | rfl | rfl <;> decide
theorem two_isJ {W : World} {g : Nat} {c0 c1 c2 c3 c4 d0 d1 d2 d3 d4 : Value} (h : JAt W g #[c0, c1, c2, c3, c4, d0, d1, d2, d3, d4]) {a b : PV} (ha : IsJ W (jOf a) (.agg #[c0, c1, c2, c3, c4])) (hb : IsJ W (jOf b) (.agg #[d0, d1, d2, d3, d4])) :
    IsJ W (jOf (two a b)) (.agg #[.int .i64 5, .int .i64 0, .string ⟨#[]⟩, .slice none 0 0, .slice (some ⟨g, 0, none⟩) 2 2]) := by
  unfold two
  rw [jOfE _ _ _ _ (by decide)]
  unfold jOfL jOfL jOfL IsJ
  refine ⟨i64_lit14 _ rfl, i64_lit14 _ rfl, by unfold maxLen; decide, none, 0, some ⟨g, 0, none⟩, 2, rfl, ⟨Nat.le_refl _, by unfold maxLen; omega, by simp, .inl rfl⟩, by simp, by unfold maxLen; decide, .inr ⟨g, 0, rfl, ?_⟩⟩
  unfold IsJL IsJL IsJL
  exact ⟨⟨c0, c1, c2, c3, c4, ⟨jat_cell h 0 _ rfl, jat_cell h 1 _ rfl, jat_cell h 2 _ rfl, jat_cell h 3 _ rfl, jat_cell h 4 _ rfl⟩, ha⟩, ⟨d0, d1, d2, d3, d4, ⟨jat_cell h 5 _ rfl, jat_cell h 6 _ rfl, jat_cell h 7 _ rfl, jat_cell h 8 _ rfl, jat_cell h 9 _ rfl⟩, hb⟩, trivial⟩
set_option maxRecDepth 100000 in
set_option maxHeartbeats 8000000 in
theorem walk (t0 : PV) (v0 : Value) (t1 : PV) (v1 : Value) (w : World) (w0 : Is w t0 v0) (w1 : Is w t1 v1) (hK : KindsAt w) (hBr : BareAt w) :
    Calls Tryd.prog 3 #[v0, v1] w fun e w' => e = .returned (.bool true) ∧ Below w.heap.size w w' := by
  have hga := fun W h => great_any t0 W v0 h
  have hgb := fun W h => great_any t1 W v1 h
  have hza := great_sz t0
  have hzb := great_sz t1
  have hna := nums_is t0 v0 w0
  have hnb := nums_is t1 v1 w1
  have hra := fun h W hi => right_any t0 h W v0 hi
  have hrb := fun h W hi => right_any t1 h W v1 hi
  obtain ⟨ga, ega⟩ : ∃ g, greatV t0 = g := ⟨_, rfl⟩
  obtain ⟨gb, egb⟩ : ∃ g, greatV t1 = g := ⟨_, rfl⟩
  obtain ⟨ra, era⟩ : ∃ g, rightV t0 = g := ⟨_, rfl⟩
  obtain ⟨rb, erb⟩ : ∃ g, rightV t1 = g := ⟨_, rfl⟩
  rw [ega] at hga hza
  rw [egb] at hgb hzb
  rw [era] at hra
  rw [erb] at hrb
  have hv0 : ∃ k n s l a c, v0 = .agg #[.int .i64 k, .int .i64 n, .string s, .slice a l c] := by
    cases t0 with | mk k n s l => unfold Is at w0; obtain ⟨_, _, _, a, c, e, _⟩ := w0; exact ⟨_, _, _, _, _, _, e⟩
  have hv1 : ∃ k n s l a c, v1 = .agg #[.int .i64 k, .int .i64 n, .string s, .slice a l c] := by
    cases t1 with | mk k n s l => unfold Is at w1; obtain ⟨_, _, _, a, c, e, _⟩ := w1; exact ⟨_, _, _, _, _, _, e⟩
  obtain ⟨k0, n0, s0, l0, b0, p0, rfl⟩ := hv0
  obtain ⟨k1, n1, s1, l1, b1, p1, rfl⟩ := hv1
  have hW0 := Lib.hid (is_below ((Below.refl _ w).alloc (Nat.le_refl _) (vobj k0 n0 s0 b0 l0 p0)) _ _ w0)
  have hB1 := (Below.refl _ w).alloc (Nat.le_refl _) (vobj k0 n0 s0 b0 l0 p0)
  have hB2 := hB1.alloc hB1.size (vobj k1 n1 s1 b1 l1 p1)
  have hi0 : ∀ W, Below ((w.alloc (vobj k0 n0 s0 b0 l0 p0)).alloc (vobj k1 n1 s1 b1 l1 p1)).heap.size ((w.alloc (vobj k0 n0 s0 b0 l0 p0)).alloc (vobj k1 n1 s1 b1 l1 p1)) W → Is W t0 (.agg #[.int .i64 k0, .int .i64 n0, .string s0, .slice b0 l0 p0]) := fun W h => is_below h _ _ (is_below hB2 _ _ w0)
  have hi1 : ∀ W, Below ((w.alloc (vobj k0 n0 s0 b0 l0 p0)).alloc (vobj k1 n1 s1 b1 l1 p1)).heap.size ((w.alloc (vobj k0 n0 s0 b0 l0 p0)).alloc (vobj k1 n1 s1 b1 l1 p1)) W → Is W t1 (.agg #[.int .i64 k1, .int .i64 n1, .string s1, .slice b1 l1 p1]) := fun W h => is_below h _ _ (is_below hB2 _ _ w1)
  have I0 := Lib.hid hi0; have I1 := Lib.hid hi1
  clear hi0 hi1 hW0
  have hal := ceAlive_any _ (kinds_below hK hB2) (bare_below hBr hB2)
  have hR0 := Below.refl ((w.alloc (vobj k0 n0 s0 b0 l0 p0)).alloc (vobj k1 n1 s1 b1 l1 p1)).heap.size ((w.alloc (vobj k0 n0 s0 b0 l0 p0)).alloc (vobj k1 n1 s1 b1 l1 p1))
  cases ga with
  | true =>
    clear hra hrb hgb
    go_enter Tryd.func3, Tryd.ntmps3
    go_wp2_with (first
      | (go_at_call 4; (with_reducible refine hal.mono ?_); rintro e w3 ⟨rfl, hq⟩; have hR := hR0.trans (hq.mono hR0.size); clear hq; obtain ⟨⟨c0, c1, c2, c3⟩, d0, d1, d2, d3⟩ := box2_cells hR)
      | (go_at_call 5; (with_reducible refine (hga _ (I0.out _ hR)).mono ?_); rintro e w3 ⟨rfl, hq⟩; have hR := hR.trans (hq.mono hR.size)))
    go_ret
    exact ⟨rfl, hB2.trans (hR.mono hB2.size)⟩
  | false =>
  replace hza := hza rfl
  cases gb with
  | true =>
    clear hra hrb
    go_enter Tryd.func3, Tryd.ntmps3
    go_wp2_with (first
      | (go_at_call 4; (with_reducible refine hal.mono ?_); rintro e w3 ⟨rfl, hq⟩; have hR := hR0.trans (hq.mono hR0.size); clear hq; obtain ⟨⟨c0, c1, c2, c3⟩, d0, d1, d2, d3⟩ := box2_cells hR)
      | (go_at_call 5; (first | with_reducible refine (hga _ (I0.out _ hR)).mono ?_ | with_reducible refine (hgb _ (I1.out _ hR)).mono ?_); rintro e w3 ⟨rfl, hq⟩; have hR9 := hR.trans (hq.mono hR.size); clear hR hq c0 c1 c2 c3 d0 d1 d2 d3; have hR := hR9; clear hR9; obtain ⟨⟨c0, c1, c2, c3⟩, d0, d1, d2, d3⟩ := box2_cells hR))
    go_ret
    exact ⟨rfl, hB2.trans (hR.mono hB2.size)⟩
  | false =>
  replace hzb := hzb rfl
  replace hra := hra (by omega)
  replace hrb := hrb (by omega)
  cases ra with
  | false =>
    go_enter Tryd.func3, Tryd.ntmps3
    go_wp2_with (first
      | (go_at_call 4; (with_reducible refine hal.mono ?_); rintro e w3 ⟨rfl, hq⟩; have hR := hR0.trans (hq.mono hR0.size); clear hq; obtain ⟨⟨c0, c1, c2, c3⟩, d0, d1, d2, d3⟩ := box2_cells hR)
      | (go_at_call 5; (first | with_reducible refine (hga _ (I0.out _ hR)).mono ?_ | with_reducible refine (hgb _ (I1.out _ hR)).mono ?_); rintro e w3 ⟨rfl, hq⟩; have hR9 := hR.trans (hq.mono hR.size); clear hR hq c0 c1 c2 c3 d0 d1 d2 d3; have hR := hR9; clear hR9; obtain ⟨⟨c0, c1, c2, c3⟩, d0, d1, d2, d3⟩ := box2_cells hR)
      | (go_at_call 6; (with_reducible refine (hra _ (I0.out _ hR)).mono ?_); rintro e w3 ⟨rfl, hq⟩; have hR9 := hR.trans (hq.mono hR.size); clear hR hq c0 c1 c2 c3 d0 d1 d2 d3; have hR := hR9; clear hR9; obtain ⟨⟨c0, c1, c2, c3⟩, d0, d1, d2, d3⟩ := box2_cells hR))
    go_ret
    exact ⟨rfl, hB2.trans (hR.mono hB2.size)⟩
  | true =>
  cases rb with
  | false =>
    go_enter Tryd.func3, Tryd.ntmps3
    go_wp2_with (first
      | (go_at_call 4; (with_reducible refine hal.mono ?_); rintro e w3 ⟨rfl, hq⟩; have hR := hR0.trans (hq.mono hR0.size); clear hq; obtain ⟨⟨c0, c1, c2, c3⟩, d0, d1, d2, d3⟩ := box2_cells hR)
      | (go_at_call 5; (first | with_reducible refine (hga _ (I0.out _ hR)).mono ?_ | with_reducible refine (hgb _ (I1.out _ hR)).mono ?_); rintro e w3 ⟨rfl, hq⟩; have hR9 := hR.trans (hq.mono hR.size); clear hR hq c0 c1 c2 c3 d0 d1 d2 d3; have hR := hR9; clear hR9; obtain ⟨⟨c0, c1, c2, c3⟩, d0, d1, d2, d3⟩ := box2_cells hR)
      | (go_at_call 6; (first | with_reducible refine (hra _ (I0.out _ hR)).mono ?_ | with_reducible refine (hrb _ (I1.out _ hR)).mono ?_); rintro e w3 ⟨rfl, hq⟩; have hR9 := hR.trans (hq.mono hR.size); clear hR hq c0 c1 c2 c3 d0 d1 d2 d3; have hR := hR9; clear hR9; obtain ⟨⟨c0, c1, c2, c3⟩, d0, d1, d2, d3⟩ := box2_cells hR))
    go_ret
    exact ⟨rfl, hB2.trans (hR.mono hB2.size)⟩
  | true =>
  go_enter Tryd.func3, Tryd.ntmps3
  go_upto_region 6 with (first
      | (go_at_call 4; (with_reducible refine hal.mono ?_); rintro e w3 ⟨rfl, hq⟩; have hR := hR0.trans (hq.mono hR0.size); clear hq; obtain ⟨⟨c0, c1, c2, c3⟩, d0, d1, d2, d3⟩ := box2_cells hR)
      | (go_at_call 5; (first | with_reducible refine (hga _ (I0.out _ hR)).mono ?_ | with_reducible refine (hgb _ (I1.out _ hR)).mono ?_); rintro e w3 ⟨rfl, hq⟩; have hR9 := hR.trans (hq.mono hR.size); clear hR hq c0 c1 c2 c3 d0 d1 d2 d3; have hR := hR9; clear hR9; obtain ⟨⟨c0, c1, c2, c3⟩, d0, d1, d2, d3⟩ := box2_cells hR)
      | (go_at_call 6; (first | with_reducible refine (hra _ (I0.out _ hR)).mono ?_ | with_reducible refine (hrb _ (I1.out _ hR)).mono ?_); rintro e w3 ⟨rfl, hq⟩; have hR9 := hR.trans (hq.mono hR.size); clear hR hq c0 c1 c2 c3 d0 d1 d2 d3; have hR := hR9; clear hR9; obtain ⟨⟨c0, c1, c2, c3⟩, d0, d1, d2, d3⟩ := box2_cells hR))
  obtain ⟨W5, hW5⟩ : ∃ V, V = (w3.alloc (.cells #[.int .i64 k0, .int .i64 n0, .string s0, .slice b0 l0 p0, .int .i64 k1, .int .i64 n1, .string s1, .slice b1 l1 p1] 24)).alloc (.cells #[.int .i64 5, .int .i64 0, .string ⟨#[]⟩, .slice (some ⟨w3.heap.size, 0, none⟩) 2 2] 24) := ⟨_, rfl⟩
  have hR5 := (hR.alloc hR.size (.cells #[.int .i64 k0, .int .i64 n0, .string s0, .slice b0 l0 p0, .int .i64 k1, .int .i64 n1, .string s1, .slice b1 l1 p1] 24)).alloc (hR.alloc hR.size (.cells #[.int .i64 k0, .int .i64 n0, .string s0, .slice b0 l0 p0, .int .i64 k1, .int .i64 n1, .string s1, .slice b1 l1 p1] 24)).size (.cells #[.int .i64 5, .int .i64 0, .string ⟨#[]⟩, .slice (some ⟨w3.heap.size, 0, none⟩) 2 2] 24)
  rw [← hW5] at hR5
  have hX5 : VAt W5 (w3.heap.size + 1) #[.int .i64 5, .int .i64 0, .string ⟨#[]⟩, .slice (some ⟨w3.heap.size, 0, none⟩) 2 2] := by
    rw [hW5]
    exact vat_new' (by simp)
  have hXr : VAt W5 w3.heap.size #[.int .i64 k0, .int .i64 n0, .string s0, .slice b0 l0 p0, .int .i64 k1, .int .i64 n1, .string s1, .slice b1 l1 p1] := by rw [hW5]; exact vat_up (vat_alloc w3 _)
  rw [← hW5]
  clear c0 c1 c2 c3 d0 d1 d2 d3 hW5
  obtain ⟨⟨c0, c1, c2, c3⟩, d0, d1, d2, d3⟩ := box2_cells hR5
  have HTA := Lib.hid (fun W (hb : Below W5.heap.size W5 W) => toJson_any t0 era W _ (I0.out W (hR5.trans (hb.mono hR5.size))))
  have HTB := Lib.hid (fun W (hb : Below W5.heap.size W5 W) => toJson_any t1 erb W _ (I1.out W (hR5.trans (hb.mono hR5.size))))
  go_cut [6] (fun s6 W => ∃ b6 g, s6 = .pointer (some ⟨b6, 0, none⟩) ∧ JAt W b6 #[.int .i64 5, .int .i64 0, .string ⟨#[]⟩, .slice none 0 0, .slice (some ⟨g, 0, none⟩) 2 2] ∧ IsJ W (jOf (two t0 t1)) (.agg #[.int .i64 5, .int .i64 0, .string ⟨#[]⟩, .slice none 0 0, .slice (some ⟨g, 0, none⟩) 2 2]) ∧ Below W5.heap.size W5 W)
  case first =>
    clear hal hga hgb hra hrb hza hzb hB1 hR0 I0 I1 w0 w1 hna hnb ega egb hR hB2 hX5 hXr hK hBr
    have HBX := Lib.hid (fun W (hb : Below W5.heap.size W5 W) => keep8 ⟨⟨⟨⟨c0, c1⟩, c2, c3⟩, ⟨d0, d1⟩, d2, d3⟩, Below.refl _ _⟩ hb)
    clear c0 c1 c2 c3 d0 d1 d2 d3
    refine wp_region_held_drew (S := fun W => (((W.cell? ⟨w.heap.size, 0, none⟩ = some (.int .i64 k0) ∧ W.cell? ⟨w.heap.size, 1, none⟩ = some (.int .i64 n0)) ∧ (W.cell? ⟨w.heap.size, 2, none⟩ = some (.string s0) ∧ W.cell? ⟨w.heap.size, 3, none⟩ = some (.slice b0 l0 p0))) ∧ ((W.cell? ⟨w.heap.size + 1, 0, none⟩ = some (.int .i64 k1) ∧ W.cell? ⟨w.heap.size + 1, 1, none⟩ = some (.int .i64 n1)) ∧ (W.cell? ⟨w.heap.size + 1, 2, none⟩ = some (.string s1) ∧ W.cell? ⟨w.heap.size + 1, 3, none⟩ = some (.slice b1 l1 p1)))) ∧ Below W5.heap.size W5 W) (by kernel_rfl) (HBX.out _ (below_drew _)) (fun hHeld => ?_)
    refine wpAnyH_take (i := 0) (v := ?_) rfl (by kernel_rfl) (by kernel_rfl) (by kernel_rfl) (fun _ _ _ h => h) (Or.inl ⟨by rfl, ?_⟩) (by assumption) ?_
    rotate_left
    · intro w hSw; go_simp; (try with_reducible rfl)
    (try simp only [Act.put, List.setIfInBounds_toArray, List.set_cons_zero, List.set_cons_succ])
    refine wpAnyH_take (i := 2) (v := ?_) rfl (by kernel_rfl) (by kernel_rfl) (by kernel_rfl) (fun _ _ _ h => h) (Or.inl ⟨by rfl, ?_⟩) (by assumption) ?_
    rotate_left
    · intro w hSw; go_simp; (try with_reducible rfl)
    (try simp only [Act.put, List.setIfInBounds_toArray, List.set_cons_zero, List.set_cons_succ])
    refine wpAnyH_ready (rs := [1, 6]) (by kernel_rfl) (by simp) (AllReadyH.cons rfl (fun K hK => ?_) (AllReadyH.cons rfl (fun K hK => ?_) AllReadyH.nil))
    · go_simp; (with_reducible refine (HTA.out _ (by (repeat (first | with_reducible exact Below.refl _ _ | with_reducible refine bl_drew ?_ | with_reducible refine bl_alloc ?_ (Nat.le_refl _) _ | with_reducible refine bl_set ?_ (by first | (simp; done) | (have h1 := hbA.size; have h2 := hbB.size; simp at h1 h2 ⊢; omega)) | with_reducible refine bl_call hbB ?_ (Nat.le_refl _) | with_reducible refine bl_call hbA ?_ (Nat.le_refl _))))).mono ?_); rintro e wA ⟨ca0, ca1, ca2, ca3, ca4, ca5, ca6, ca7, ca8, rfl, hbA, hFA⟩
      refine hK.out _ _ (HBX.out _ (by (repeat (first | with_reducible exact Below.refl _ _ | with_reducible refine bl_drew ?_ | with_reducible refine bl_alloc ?_ (Nat.le_refl _) _ | with_reducible refine bl_set ?_ (by first | (simp; done) | (have h1 := hbA.size; have h2 := hbB.size; simp at h1 h2 ⊢; omega)) | with_reducible refine bl_call hbB ?_ (Nat.le_refl _) | with_reducible refine bl_call hbA ?_ (Nat.le_refl _))))) (fun hHeld => ?_)
      clear hK K
      refine wpAnyH_ready (rs := [3, 6]) (by kernel_rfl) (by simp) (AllReadyH.cons rfl (fun K hK => ?_) (AllReadyH.cons rfl (fun K hK => ?_) AllReadyH.nil))
      · go_simp; (with_reducible refine (HTB.out _ (by (repeat (first | with_reducible exact Below.refl _ _ | with_reducible refine bl_drew ?_ | with_reducible refine bl_alloc ?_ (Nat.le_refl _) _ | with_reducible refine bl_set ?_ (by first | (simp; done) | (have h1 := hbA.size; have h2 := hbB.size; simp at h1 h2 ⊢; omega)) | with_reducible refine bl_call hbB ?_ (Nat.le_refl _) | with_reducible refine bl_call hbA ?_ (Nat.le_refl _))))).mono ?_); rintro e wB ⟨cb0, cb1, cb2, cb3, cb4, cb5, cb6, cb7, cb8, rfl, hbB, hFB⟩
        refine hK.out _ _ (HBX.out _ (by (repeat (first | with_reducible exact Below.refl _ _ | with_reducible refine bl_drew ?_ | with_reducible refine bl_alloc ?_ (Nat.le_refl _) _ | with_reducible refine bl_set ?_ (by first | (simp; done) | (have h1 := hbA.size; have h2 := hbB.size; simp at h1 h2 ⊢; omega)) | with_reducible refine bl_call hbB ?_ (Nat.le_refl _) | with_reducible refine bl_call hbA ?_ (Nat.le_refl _))))) (fun hHeld => ?_)
        clear hK K
        refine wpAnyH_ready (rs := [4, 6]) (by kernel_rfl) (by simp) (AllReadyH.cons rfl (fun K hK => ?_) (AllReadyH.cons rfl (fun K hK => ?_) AllReadyH.nil))
        · go_simp
          refine hK.out _ _ (HBX.out _ (by (repeat (first | with_reducible exact Below.refl _ _ | with_reducible refine bl_drew ?_ | with_reducible refine bl_alloc ?_ (Nat.le_refl _) _ | with_reducible refine bl_set ?_ (by first | (simp; done) | (have h1 := hbA.size; have h2 := hbB.size; simp at h1 h2 ⊢; omega)) | with_reducible refine bl_call hbB ?_ (Nat.le_refl _) | with_reducible refine bl_call hbA ?_ (Nat.le_refl _))))) (fun hHeld => ?_)
          clear hK K
          refine wpAnyH_ready (rs := [5, 6]) (by kernel_rfl) (by simp) (AllReadyH.cons rfl (fun K hK => ?_) (AllReadyH.cons rfl (fun K hK => ?_) AllReadyH.nil))
          · go_simp
            refine hK.out _ _ (HBX.out _ (by (repeat (first | with_reducible exact Below.refl _ _ | with_reducible refine bl_drew ?_ | with_reducible refine bl_alloc ?_ (Nat.le_refl _) _ | with_reducible refine bl_set ?_ (by first | (simp; done) | (have h1 := hbA.size; have h2 := hbB.size; simp at h1 h2 ⊢; omega)) | with_reducible refine bl_call hbB ?_ (Nat.le_refl _) | with_reducible refine bl_call hbA ?_ (Nat.le_refl _))))) (fun hHeld => ?_)
            clear hK K
            refine wpAnyH_ready (rs := [6]) (by kernel_rfl) (by simp) (AllReadyH.cons rfl (fun K hK => ?_) AllReadyH.nil)
            · go_simp
              refine hK.out _ _ (HBX.out _ (by (repeat (first | with_reducible exact Below.refl _ _ | with_reducible refine bl_drew ?_ | with_reducible refine bl_alloc ?_ (Nat.le_refl _) _ | with_reducible refine bl_set ?_ (by first | (simp; done) | (have h1 := hbA.size; have h2 := hbB.size; simp at h1 h2 ⊢; omega)) | with_reducible refine bl_call hbB ?_ (Nat.le_refl _) | with_reducible refine bl_call hbA ?_ (Nat.le_refl _))))) (fun hHeld => ?_)
              clear hK K
              refine wpAnyH_ready (rs := [7]) (by kernel_rfl) (by simp) (AllReadyH.cons rfl (fun K hK => ?_) AllReadyH.nil)
              · go_simp
                refine hK.out _ _ (HBX.out _ (by (repeat (first | with_reducible exact Below.refl _ _ | with_reducible refine bl_drew ?_ | with_reducible refine bl_alloc ?_ (Nat.le_refl _) _ | with_reducible refine bl_set ?_ (by first | (simp; done) | (have h1 := hbA.size; have h2 := hbB.size; simp at h1 h2 ⊢; omega)) | with_reducible refine bl_call hbB ?_ (Nat.le_refl _) | with_reducible refine bl_call hbA ?_ (Nat.le_refl _))))) (fun hHeld => ?_)
                clear hK K
                refine wpAnyH_done (by kernel_rfl) ?_ _
                go_wp2_with fail
                go_meet
                exact ⟨(wB.heap.size + 1), wB.heap.size, rfl, (by have h := jat_alloc (wB.alloc (.cells #[.int .i64 ca0, .int .i64 ca1, .string ca2, .slice ca3 ca4 ca5, .slice ca6 ca7 ca8, .int .i64 cb0, .int .i64 cb1, .string cb2, .slice cb3 cb4 cb5, .slice cb6 cb7 cb8] 30)) #[.int .i64 5, .int .i64 0, .string ⟨#[]⟩, .slice none 0 0, .slice (some ⟨wB.heap.size, 0, none⟩) 2 2]; rwa [World.size_alloc] at h), two_isJ (jat_old (jat_alloc wB #[.int .i64 ca0, .int .i64 ca1, .string ca2, .slice ca3 ca4 ca5, .slice ca6 ca7 ca8, .int .i64 cb0, .int .i64 cb1, .string cb2, .slice cb3 cb4 cb5, .slice cb6 cb7 cb8]) _) (agr_is hFA (by (repeat (first | with_reducible exact agr_refl _ _ | with_reducible refine agr_drew ?_ | with_reducible refine agr_alloc ?_ _ | with_reducible refine agr_set ?_ (by first | (simp; done) | (have h1 := hbA.size; have h2 := hbB.size; simp at h1 h2 ⊢; omega)) | with_reducible refine agr_below hbB ?_ )))) (agr_is hFB (by (repeat (first | with_reducible exact agr_refl _ _ | with_reducible refine agr_drew ?_ | with_reducible refine agr_alloc ?_ _ | with_reducible refine agr_set ?_ (by first | (simp; done) | (have h1 := hbA.size; have h2 := hbB.size; simp at h1 h2 ⊢; omega)) | with_reducible refine agr_below hbB ?_ )))), by (repeat (first | with_reducible exact Below.refl _ _ | with_reducible refine bl_drew ?_ | with_reducible refine bl_alloc ?_ (Nat.le_refl _) _ | with_reducible refine bl_set ?_ (by first | (simp; done) | (have h1 := hbA.size; have h2 := hbB.size; simp at h1 h2 ⊢; omega)) | with_reducible refine bl_call hbB ?_ (Nat.le_refl _) | with_reducible refine bl_call hbA ?_ (Nat.le_refl _)))⟩
          · go_simp
            refine hK.out _ _ (HBX.out _ (by (repeat (first | with_reducible exact Below.refl _ _ | with_reducible refine bl_drew ?_ | with_reducible refine bl_alloc ?_ (Nat.le_refl _) _ | with_reducible refine bl_set ?_ (by first | (simp; done) | (have h1 := hbA.size; have h2 := hbB.size; simp at h1 h2 ⊢; omega)) | with_reducible refine bl_call hbB ?_ (Nat.le_refl _) | with_reducible refine bl_call hbA ?_ (Nat.le_refl _))))) (fun hHeld => ?_)
            clear hK K
            refine wpAnyH_ready (rs := [5]) (by kernel_rfl) (by simp) (AllReadyH.cons rfl (fun K hK => ?_) AllReadyH.nil)
            · go_simp
              refine hK.out _ _ (HBX.out _ (by (repeat (first | with_reducible exact Below.refl _ _ | with_reducible refine bl_drew ?_ | with_reducible refine bl_alloc ?_ (Nat.le_refl _) _ | with_reducible refine bl_set ?_ (by first | (simp; done) | (have h1 := hbA.size; have h2 := hbB.size; simp at h1 h2 ⊢; omega)) | with_reducible refine bl_call hbB ?_ (Nat.le_refl _) | with_reducible refine bl_call hbA ?_ (Nat.le_refl _))))) (fun hHeld => ?_)
              clear hK K
              refine wpAnyH_ready (rs := [7]) (by kernel_rfl) (by simp) (AllReadyH.cons rfl (fun K hK => ?_) AllReadyH.nil)
              · go_simp
                refine hK.out _ _ (HBX.out _ (by (repeat (first | with_reducible exact Below.refl _ _ | with_reducible refine bl_drew ?_ | with_reducible refine bl_alloc ?_ (Nat.le_refl _) _ | with_reducible refine bl_set ?_ (by first | (simp; done) | (have h1 := hbA.size; have h2 := hbB.size; simp at h1 h2 ⊢; omega)) | with_reducible refine bl_call hbB ?_ (Nat.le_refl _) | with_reducible refine bl_call hbA ?_ (Nat.le_refl _))))) (fun hHeld => ?_)
                clear hK K
                refine wpAnyH_done (by kernel_rfl) ?_ _
                go_wp2_with fail
                go_meet
                exact ⟨(wB.heap.size + 1), wB.heap.size, rfl, (by have h := jat_alloc (wB.alloc (.cells #[.int .i64 ca0, .int .i64 ca1, .string ca2, .slice ca3 ca4 ca5, .slice ca6 ca7 ca8, .int .i64 cb0, .int .i64 cb1, .string cb2, .slice cb3 cb4 cb5, .slice cb6 cb7 cb8] 30)) #[.int .i64 5, .int .i64 0, .string ⟨#[]⟩, .slice none 0 0, .slice (some ⟨wB.heap.size, 0, none⟩) 2 2]; rwa [World.size_alloc] at h), two_isJ (jat_old (jat_alloc wB #[.int .i64 ca0, .int .i64 ca1, .string ca2, .slice ca3 ca4 ca5, .slice ca6 ca7 ca8, .int .i64 cb0, .int .i64 cb1, .string cb2, .slice cb3 cb4 cb5, .slice cb6 cb7 cb8]) _) (agr_is hFA (by (repeat (first | with_reducible exact agr_refl _ _ | with_reducible refine agr_drew ?_ | with_reducible refine agr_alloc ?_ _ | with_reducible refine agr_set ?_ (by first | (simp; done) | (have h1 := hbA.size; have h2 := hbB.size; simp at h1 h2 ⊢; omega)) | with_reducible refine agr_below hbB ?_ )))) (agr_is hFB (by (repeat (first | with_reducible exact agr_refl _ _ | with_reducible refine agr_drew ?_ | with_reducible refine agr_alloc ?_ _ | with_reducible refine agr_set ?_ (by first | (simp; done) | (have h1 := hbA.size; have h2 := hbB.size; simp at h1 h2 ⊢; omega)) | with_reducible refine agr_below hbB ?_ )))), by (repeat (first | with_reducible exact Below.refl _ _ | with_reducible refine bl_drew ?_ | with_reducible refine bl_alloc ?_ (Nat.le_refl _) _ | with_reducible refine bl_set ?_ (by first | (simp; done) | (have h1 := hbA.size; have h2 := hbB.size; simp at h1 h2 ⊢; omega)) | with_reducible refine bl_call hbB ?_ (Nat.le_refl _) | with_reducible refine bl_call hbA ?_ (Nat.le_refl _)))⟩
        · go_simp
          refine hK.out _ _ (HBX.out _ (by (repeat (first | with_reducible exact Below.refl _ _ | with_reducible refine bl_drew ?_ | with_reducible refine bl_alloc ?_ (Nat.le_refl _) _ | with_reducible refine bl_set ?_ (by first | (simp; done) | (have h1 := hbA.size; have h2 := hbB.size; simp at h1 h2 ⊢; omega)) | with_reducible refine bl_call hbB ?_ (Nat.le_refl _) | with_reducible refine bl_call hbA ?_ (Nat.le_refl _))))) (fun hHeld => ?_)
          clear hK K
          refine wpAnyH_ready (rs := [4]) (by kernel_rfl) (by simp) (AllReadyH.cons rfl (fun K hK => ?_) AllReadyH.nil)
          · go_simp
            refine hK.out _ _ (HBX.out _ (by (repeat (first | with_reducible exact Below.refl _ _ | with_reducible refine bl_drew ?_ | with_reducible refine bl_alloc ?_ (Nat.le_refl _) _ | with_reducible refine bl_set ?_ (by first | (simp; done) | (have h1 := hbA.size; have h2 := hbB.size; simp at h1 h2 ⊢; omega)) | with_reducible refine bl_call hbB ?_ (Nat.le_refl _) | with_reducible refine bl_call hbA ?_ (Nat.le_refl _))))) (fun hHeld => ?_)
            clear hK K
            refine wpAnyH_ready (rs := [5]) (by kernel_rfl) (by simp) (AllReadyH.cons rfl (fun K hK => ?_) AllReadyH.nil)
            · go_simp
              refine hK.out _ _ (HBX.out _ (by (repeat (first | with_reducible exact Below.refl _ _ | with_reducible refine bl_drew ?_ | with_reducible refine bl_alloc ?_ (Nat.le_refl _) _ | with_reducible refine bl_set ?_ (by first | (simp; done) | (have h1 := hbA.size; have h2 := hbB.size; simp at h1 h2 ⊢; omega)) | with_reducible refine bl_call hbB ?_ (Nat.le_refl _) | with_reducible refine bl_call hbA ?_ (Nat.le_refl _))))) (fun hHeld => ?_)
              clear hK K
              refine wpAnyH_ready (rs := [7]) (by kernel_rfl) (by simp) (AllReadyH.cons rfl (fun K hK => ?_) AllReadyH.nil)
              · go_simp
                refine hK.out _ _ (HBX.out _ (by (repeat (first | with_reducible exact Below.refl _ _ | with_reducible refine bl_drew ?_ | with_reducible refine bl_alloc ?_ (Nat.le_refl _) _ | with_reducible refine bl_set ?_ (by first | (simp; done) | (have h1 := hbA.size; have h2 := hbB.size; simp at h1 h2 ⊢; omega)) | with_reducible refine bl_call hbB ?_ (Nat.le_refl _) | with_reducible refine bl_call hbA ?_ (Nat.le_refl _))))) (fun hHeld => ?_)
                clear hK K
                refine wpAnyH_done (by kernel_rfl) ?_ _
                go_wp2_with fail
                go_meet
                exact ⟨wB.heap.size, (wB.heap.size + 1), rfl, jat_old (jat_alloc wB #[.int .i64 5, .int .i64 0, .string ⟨#[]⟩, .slice none 0 0, .slice (some ⟨wB.heap.size + 1, 0, none⟩) 2 2]) _, two_isJ ((by have h := jat_alloc (wB.alloc (.cells #[.int .i64 5, .int .i64 0, .string ⟨#[]⟩, .slice none 0 0, .slice (some ⟨wB.heap.size + 1, 0, none⟩) 2 2] 30)) #[.int .i64 ca0, .int .i64 ca1, .string ca2, .slice ca3 ca4 ca5, .slice ca6 ca7 ca8, .int .i64 cb0, .int .i64 cb1, .string cb2, .slice cb3 cb4 cb5, .slice cb6 cb7 cb8]; rwa [World.size_alloc] at h)) (agr_is hFA (by (repeat (first | with_reducible exact agr_refl _ _ | with_reducible refine agr_drew ?_ | with_reducible refine agr_alloc ?_ _ | with_reducible refine agr_set ?_ (by first | (simp; done) | (have h1 := hbA.size; have h2 := hbB.size; simp at h1 h2 ⊢; omega)) | with_reducible refine agr_below hbB ?_ )))) (agr_is hFB (by (repeat (first | with_reducible exact agr_refl _ _ | with_reducible refine agr_drew ?_ | with_reducible refine agr_alloc ?_ _ | with_reducible refine agr_set ?_ (by first | (simp; done) | (have h1 := hbA.size; have h2 := hbB.size; simp at h1 h2 ⊢; omega)) | with_reducible refine agr_below hbB ?_ )))), by (repeat (first | with_reducible exact Below.refl _ _ | with_reducible refine bl_drew ?_ | with_reducible refine bl_alloc ?_ (Nat.le_refl _) _ | with_reducible refine bl_set ?_ (by first | (simp; done) | (have h1 := hbA.size; have h2 := hbB.size; simp at h1 h2 ⊢; omega)) | with_reducible refine bl_call hbB ?_ (Nat.le_refl _) | with_reducible refine bl_call hbA ?_ (Nat.le_refl _)))⟩
      · go_simp
        refine hK.out _ _ (HBX.out _ (by (repeat (first | with_reducible exact Below.refl _ _ | with_reducible refine bl_drew ?_ | with_reducible refine bl_alloc ?_ (Nat.le_refl _) _ | with_reducible refine bl_set ?_ (by first | (simp; done) | (have h1 := hbA.size; have h2 := hbB.size; simp at h1 h2 ⊢; omega)) | with_reducible refine bl_call hbB ?_ (Nat.le_refl _) | with_reducible refine bl_call hbA ?_ (Nat.le_refl _))))) (fun hHeld => ?_)
        clear hK K
        refine wpAnyH_ready (rs := [3]) (by kernel_rfl) (by simp) (AllReadyH.cons rfl (fun K hK => ?_) AllReadyH.nil)
        · go_simp; (with_reducible refine (HTB.out _ (by (repeat (first | with_reducible exact Below.refl _ _ | with_reducible refine bl_drew ?_ | with_reducible refine bl_alloc ?_ (Nat.le_refl _) _ | with_reducible refine bl_set ?_ (by first | (simp; done) | (have h1 := hbA.size; have h2 := hbB.size; simp at h1 h2 ⊢; omega)) | with_reducible refine bl_call hbB ?_ (Nat.le_refl _) | with_reducible refine bl_call hbA ?_ (Nat.le_refl _))))).mono ?_); rintro e wB ⟨cb0, cb1, cb2, cb3, cb4, cb5, cb6, cb7, cb8, rfl, hbB, hFB⟩; have hqB : JAt wB wA.heap.size #[.int .i64 0, .int .i64 0, .string ⟨#[]⟩, .slice none 0 0, .slice none 0 0] := jat_below hbB (by first | exact jat_alloc _ _ | exact jat_alloc_drew _ _); have hqC := jat_old hqB (.cells #[.int .i64 ca0, .int .i64 ca1, .string ca2, .slice ca3 ca4 ca5, .slice ca6 ca7 ca8, .int .i64 cb0, .int .i64 cb1, .string cb2, .slice cb3 cb4 cb5, .slice cb6 cb7 cb8] 30); obtain ⟨⟨z0, z1, z2, z3, z4⟩, g0, g1, g2, g3, g4⟩ := jbox5 hqC
          refine hK.out _ _ (HBX.out _ (by (repeat (first | with_reducible exact Below.refl _ _ | with_reducible refine bl_drew ?_ | with_reducible refine bl_alloc ?_ (Nat.le_refl _) _ | with_reducible refine bl_set ?_ (by first | (simp; done) | (have h1 := hbA.size; have h2 := hbB.size; simp at h1 h2 ⊢; omega)) | with_reducible refine bl_call hbB ?_ (Nat.le_refl _) | with_reducible refine bl_call hbA ?_ (Nat.le_refl _))))) (fun hHeld => ?_)
          clear hK K
          refine wpAnyH_ready (rs := [4]) (by kernel_rfl) (by simp) (AllReadyH.cons rfl (fun K hK => ?_) AllReadyH.nil)
          · go_simp
            refine hK.out _ _ (HBX.out _ (by (repeat (first | with_reducible exact Below.refl _ _ | with_reducible refine bl_drew ?_ | with_reducible refine bl_alloc ?_ (Nat.le_refl _) _ | with_reducible refine bl_set ?_ (by first | (simp; done) | (have h1 := hbA.size; have h2 := hbB.size; simp at h1 h2 ⊢; omega)) | with_reducible refine bl_call hbB ?_ (Nat.le_refl _) | with_reducible refine bl_call hbA ?_ (Nat.le_refl _))))) (fun hHeld => ?_)
            clear hK K
            refine wpAnyH_ready (rs := [5]) (by kernel_rfl) (by simp) (AllReadyH.cons rfl (fun K hK => ?_) AllReadyH.nil)
            · go_simp
              refine hK.out _ _ (HBX.out _ (by (repeat (first | with_reducible exact Below.refl _ _ | with_reducible refine bl_drew ?_ | with_reducible refine bl_alloc ?_ (Nat.le_refl _) _ | with_reducible refine bl_set ?_ (by first | (simp; done) | (have h1 := hbA.size; have h2 := hbB.size; simp at h1 h2 ⊢; omega)) | with_reducible refine bl_call hbB ?_ (Nat.le_refl _) | with_reducible refine bl_call hbA ?_ (Nat.le_refl _))))) (fun hHeld => ?_)
              clear hK K
              refine wpAnyH_ready (rs := [7]) (by kernel_rfl) (by simp) (AllReadyH.cons rfl (fun K hK => ?_) AllReadyH.nil)
              · go_simp
                refine hK.out _ _ (HBX.out _ (by (repeat (first | with_reducible exact Below.refl _ _ | with_reducible refine bl_drew ?_ | with_reducible refine bl_alloc ?_ (Nat.le_refl _) _ | with_reducible refine bl_set ?_ (by first | (simp; done) | (have h1 := hbA.size; have h2 := hbB.size; simp at h1 h2 ⊢; omega)) | with_reducible refine bl_call hbB ?_ (Nat.le_refl _) | with_reducible refine bl_call hbA ?_ (Nat.le_refl _))))) (fun hHeld => ?_)
                clear hK K
                refine wpAnyH_done (by kernel_rfl) ?_ _
                go_wp2_with fail
                go_meet
                exact ⟨wA.heap.size, wB.heap.size, rfl, jat_set5 hqC _ _ _ _ _, two_isJ (jat_other5 (jat_alloc wB #[.int .i64 ca0, .int .i64 ca1, .string ca2, .slice ca3 ca4 ca5, .slice ca6 ca7 ca8, .int .i64 cb0, .int .i64 cb1, .string cb2, .slice cb3 cb4 cb5, .slice cb6 cb7 cb8]) (by have h1 := hbA.size; have h2 := hbB.size; simp at h1 h2; omega) _ _ _ _ _) (agr_is hFA (by (repeat (first | with_reducible exact agr_refl _ _ | with_reducible refine agr_drew ?_ | with_reducible refine agr_alloc ?_ _ | with_reducible refine agr_set ?_ (by first | (simp; done) | (have h1 := hbA.size; have h2 := hbB.size; simp at h1 h2 ⊢; omega)) | with_reducible refine agr_below hbB ?_ )))) (agr_is hFB (by (repeat (first | with_reducible exact agr_refl _ _ | with_reducible refine agr_drew ?_ | with_reducible refine agr_alloc ?_ _ | with_reducible refine agr_set ?_ (by first | (simp; done) | (have h1 := hbA.size; have h2 := hbB.size; simp at h1 h2 ⊢; omega)) | with_reducible refine agr_below hbB ?_ )))), by (repeat (first | with_reducible exact Below.refl _ _ | with_reducible refine bl_drew ?_ | with_reducible refine bl_alloc ?_ (Nat.le_refl _) _ | with_reducible refine bl_set ?_ (by first | (simp; done) | (have h1 := hbA.size; have h2 := hbB.size; simp at h1 h2 ⊢; omega)) | with_reducible refine bl_call hbB ?_ (Nat.le_refl _) | with_reducible refine bl_call hbA ?_ (Nat.le_refl _)))⟩
    · go_simp
      refine hK.out _ _ (HBX.out _ (by (repeat (first | with_reducible exact Below.refl _ _ | with_reducible refine bl_drew ?_ | with_reducible refine bl_alloc ?_ (Nat.le_refl _) _ | with_reducible refine bl_set ?_ (by first | (simp; done) | (have h1 := hbA.size; have h2 := hbB.size; simp at h1 h2 ⊢; omega)) | with_reducible refine bl_call hbB ?_ (Nat.le_refl _) | with_reducible refine bl_call hbA ?_ (Nat.le_refl _))))) (fun hHeld => ?_)
      clear hK K
      refine wpAnyH_ready (rs := [1]) (by kernel_rfl) (by simp) (AllReadyH.cons rfl (fun K hK => ?_) AllReadyH.nil)
      · go_simp; (with_reducible refine (HTA.out _ (by (repeat (first | with_reducible exact Below.refl _ _ | with_reducible refine bl_drew ?_ | with_reducible refine bl_alloc ?_ (Nat.le_refl _) _ | with_reducible refine bl_set ?_ (by first | (simp; done) | (have h1 := hbA.size; have h2 := hbB.size; simp at h1 h2 ⊢; omega)) | with_reducible refine bl_call hbB ?_ (Nat.le_refl _) | with_reducible refine bl_call hbA ?_ (Nat.le_refl _))))).mono ?_); rintro e wA ⟨ca0, ca1, ca2, ca3, ca4, ca5, ca6, ca7, ca8, rfl, hbA, hFA⟩; have hqA : JAt wA W5.heap.size #[.int .i64 0, .int .i64 0, .string ⟨#[]⟩, .slice none 0 0, .slice none 0 0] := jat_below hbA (by first | exact jat_alloc _ _ | exact jat_alloc_drew _ _)
        refine hK.out _ _ (HBX.out _ (by (repeat (first | with_reducible exact Below.refl _ _ | with_reducible refine bl_drew ?_ | with_reducible refine bl_alloc ?_ (Nat.le_refl _) _ | with_reducible refine bl_set ?_ (by first | (simp; done) | (have h1 := hbA.size; have h2 := hbB.size; simp at h1 h2 ⊢; omega)) | with_reducible refine bl_call hbB ?_ (Nat.le_refl _) | with_reducible refine bl_call hbA ?_ (Nat.le_refl _))))) (fun hHeld => ?_)
        clear hK K
        refine wpAnyH_ready (rs := [3]) (by kernel_rfl) (by simp) (AllReadyH.cons rfl (fun K hK => ?_) AllReadyH.nil)
        · go_simp; (with_reducible refine (HTB.out _ (by (repeat (first | with_reducible exact Below.refl _ _ | with_reducible refine bl_drew ?_ | with_reducible refine bl_alloc ?_ (Nat.le_refl _) _ | with_reducible refine bl_set ?_ (by first | (simp; done) | (have h1 := hbA.size; have h2 := hbB.size; simp at h1 h2 ⊢; omega)) | with_reducible refine bl_call hbB ?_ (Nat.le_refl _) | with_reducible refine bl_call hbA ?_ (Nat.le_refl _))))).mono ?_); rintro e wB ⟨cb0, cb1, cb2, cb3, cb4, cb5, cb6, cb7, cb8, rfl, hbB, hFB⟩; have hqB : JAt wB W5.heap.size #[.int .i64 0, .int .i64 0, .string ⟨#[]⟩, .slice none 0 0, .slice none 0 0] := jat_below hbB (by first | exact hqA | exact (show JAt (World.drew _) _ _ from hqA)); have hqC := jat_old hqB (.cells #[.int .i64 ca0, .int .i64 ca1, .string ca2, .slice ca3 ca4 ca5, .slice ca6 ca7 ca8, .int .i64 cb0, .int .i64 cb1, .string cb2, .slice cb3 cb4 cb5, .slice cb6 cb7 cb8] 30); obtain ⟨⟨z0, z1, z2, z3, z4⟩, g0, g1, g2, g3, g4⟩ := jbox5 hqC
          refine hK.out _ _ (HBX.out _ (by (repeat (first | with_reducible exact Below.refl _ _ | with_reducible refine bl_drew ?_ | with_reducible refine bl_alloc ?_ (Nat.le_refl _) _ | with_reducible refine bl_set ?_ (by first | (simp; done) | (have h1 := hbA.size; have h2 := hbB.size; simp at h1 h2 ⊢; omega)) | with_reducible refine bl_call hbB ?_ (Nat.le_refl _) | with_reducible refine bl_call hbA ?_ (Nat.le_refl _))))) (fun hHeld => ?_)
          clear hK K
          refine wpAnyH_ready (rs := [4]) (by kernel_rfl) (by simp) (AllReadyH.cons rfl (fun K hK => ?_) AllReadyH.nil)
          · go_simp
            refine hK.out _ _ (HBX.out _ (by (repeat (first | with_reducible exact Below.refl _ _ | with_reducible refine bl_drew ?_ | with_reducible refine bl_alloc ?_ (Nat.le_refl _) _ | with_reducible refine bl_set ?_ (by first | (simp; done) | (have h1 := hbA.size; have h2 := hbB.size; simp at h1 h2 ⊢; omega)) | with_reducible refine bl_call hbB ?_ (Nat.le_refl _) | with_reducible refine bl_call hbA ?_ (Nat.le_refl _))))) (fun hHeld => ?_)
            clear hK K
            refine wpAnyH_ready (rs := [5]) (by kernel_rfl) (by simp) (AllReadyH.cons rfl (fun K hK => ?_) AllReadyH.nil)
            · go_simp
              refine hK.out _ _ (HBX.out _ (by (repeat (first | with_reducible exact Below.refl _ _ | with_reducible refine bl_drew ?_ | with_reducible refine bl_alloc ?_ (Nat.le_refl _) _ | with_reducible refine bl_set ?_ (by first | (simp; done) | (have h1 := hbA.size; have h2 := hbB.size; simp at h1 h2 ⊢; omega)) | with_reducible refine bl_call hbB ?_ (Nat.le_refl _) | with_reducible refine bl_call hbA ?_ (Nat.le_refl _))))) (fun hHeld => ?_)
              clear hK K
              refine wpAnyH_ready (rs := [7]) (by kernel_rfl) (by simp) (AllReadyH.cons rfl (fun K hK => ?_) AllReadyH.nil)
              · go_simp
                refine hK.out _ _ (HBX.out _ (by (repeat (first | with_reducible exact Below.refl _ _ | with_reducible refine bl_drew ?_ | with_reducible refine bl_alloc ?_ (Nat.le_refl _) _ | with_reducible refine bl_set ?_ (by first | (simp; done) | (have h1 := hbA.size; have h2 := hbB.size; simp at h1 h2 ⊢; omega)) | with_reducible refine bl_call hbB ?_ (Nat.le_refl _) | with_reducible refine bl_call hbA ?_ (Nat.le_refl _))))) (fun hHeld => ?_)
                clear hK K
                refine wpAnyH_done (by kernel_rfl) ?_ _
                go_wp2_with fail
                go_meet
                exact ⟨W5.heap.size, wB.heap.size, rfl, jat_set5 hqC _ _ _ _ _, two_isJ (jat_other5 (jat_alloc wB #[.int .i64 ca0, .int .i64 ca1, .string ca2, .slice ca3 ca4 ca5, .slice ca6 ca7 ca8, .int .i64 cb0, .int .i64 cb1, .string cb2, .slice cb3 cb4 cb5, .slice cb6 cb7 cb8]) (by have h1 := hbA.size; have h2 := hbB.size; simp at h1 h2; omega) _ _ _ _ _) (agr_is hFA (by (repeat (first | with_reducible exact agr_refl _ _ | with_reducible refine agr_drew ?_ | with_reducible refine agr_alloc ?_ _ | with_reducible refine agr_set ?_ (by first | (simp; done) | (have h1 := hbA.size; have h2 := hbB.size; simp at h1 h2 ⊢; omega)) | with_reducible refine agr_below hbB ?_ )))) (agr_is hFB (by (repeat (first | with_reducible exact agr_refl _ _ | with_reducible refine agr_drew ?_ | with_reducible refine agr_alloc ?_ _ | with_reducible refine agr_set ?_ (by first | (simp; done) | (have h1 := hbA.size; have h2 := hbB.size; simp at h1 h2 ⊢; omega)) | with_reducible refine agr_below hbB ?_ )))), by (repeat (first | with_reducible exact Below.refl _ _ | with_reducible refine bl_drew ?_ | with_reducible refine bl_alloc ?_ (Nat.le_refl _) _ | with_reducible refine bl_set ?_ (by first | (simp; done) | (have h1 := hbA.size; have h2 := hbB.size; simp at h1 h2 ⊢; omega)) | with_reducible refine bl_call hbB ?_ (Nat.le_refl _) | with_reducible refine bl_call hbA ?_ (Nat.le_refl _)))⟩
  case rest =>
    obtain ⟨b6, g, rfl, hY, hIJ, hB6⟩ := hcut
    have HX2 := Lib.hid (fun W (hb : Below W5.heap.size W5 W) => two_is (vat_below hb hXr) (I0.out W (hR5.trans (hb.mono hR5.size))) (I1.out W (hR5.trans (hb.mono hR5.size))))
    have hnn := two_nums hna hnb
    have hok := two_ok t0 t1 era erb
    have hsz2 : szV (two t0 t1) ≤ 201 := by rw [two_sz]; have := (right_okC era).2.1; have := (right_okC erb).2.1; omega
    have hR6 := hR5.trans (hB6.mono hR5.size)
    have hKc := kinds_below hK (hB2.trans (hR6.mono hB2.size))
    have hBc := bare_below hBr (hB2.trans (hR6.mono hB2.size))
    have hOF := Lib.hid (ofJson_any (two t0 t1) hok (by omega) wc _ hKc hIJ)
    have hX6 := vat_below hB6 hX5
    have HSL := Lib.hid (fun W (hb : Below wc.heap.size wc W) => toField_any (tySlot 63) t0 (by decide) (by omega) (fun _ => by have := text_short14 t0 (right_okC era).2.2 hna; omega) W _ _ (bare_below hBc hb) (tySlot_is W 63 (by unfold I64; omega)) (I0.out W (hR6.trans (hb.mono hR6.size))))
    have HTX := Lib.hid (fun W (hb : Below wc.heap.size wc W) => text_any t0 (by have := text_short14 t0 (right_okC era).2.2 hna; omega) W _ (I0.out W (hR6.trans (hb.mono hR6.size))))
    have hff : fieldT (tySlot 63).ty t0 = strOfNums (textV t0) := by
      unfold fieldT
      rw [if_pos (fits63 t0 era), if_neg (by decide)]
    rw [hff] at HSL
    obtain ⟨TX, hTX⟩ : ∃ T, strOfNums (textV t0) = T := ⟨_, rfl⟩
    rw [hTX] at HSL HTX
    have hQ := Lib.hid (fun W hi => right_any (two t0 t1) (by omega) W (.agg #[.int .i64 5, .int .i64 0, .string ⟨#[]⟩, .slice (some ⟨w3.heap.size, 0, none⟩) 2 2]) hi)
    obtain ⟨c0, c1, c2, c3, d0, d1, d2, d3⟩ : True ∧ True ∧ True ∧ True ∧ True ∧ True ∧ True ∧ True := by simp
    obtain ⟨⟨y0, y1, y2, y3, y4⟩, -⟩ := jbox5 hY
    have hE := @ofE_right (two t0 t1)
    unfold OfC at hOF
    clear hal hga hgb hra hrb hza hzb hB1 hR0 w0 w1 hna hnb ega egb hR hX5 hXr hK hBr hff hTX c0 c1 c2 c3 d0 d1 d2 d3 I1 I0 HTA HTB
    obtain ⟨er, her⟩ : ∃ er, ofE (two t0 t1) = er := ⟨_, rfl⟩
    rw [her] at hE hOF
    cases hq : rightV (two t0 t1) with
    | false =>
      rw [hq] at hQ hE
      have hne : er ≠ 0 := fun h => by have := hE.1 h; cases this
      have de : (er == 0) = false := by simpa using hne
      go_upto_region 8 with (go_at_call 8; (with_reducible refine hOF.out.mono ?_); rintro e w6 ⟨k9, n9, s9, a9, len9, cap9, rfl, hb6, -⟩)
      have hA6 := (Below.refl _ w6).alloc (Nat.le_refl _) (.cells #[.int .i64 k9, .int .i64 n9, .string s9, .slice a9 len9 cap9] 24)
      have hB7 := hb6.trans (hA6.mono hb6.size)
      have hv7 := vat_alloc w6 #[.int .i64 k9, .int .i64 n9, .string s9, .slice a9 len9 cap9]
      obtain ⟨W7, hW7⟩ : ∃ V, V = w6.alloc (.cells #[.int .i64 k9, .int .i64 n9, .string s9, .slice a9 len9 cap9] 24) := ⟨_, rfl⟩
      rw [← hW7] at hB7 hA6 hv7
      rw [← hW7]
      have HSQ := Lib.hid (fun W (hb : Below W7.heap.size W7 W) => (⟨(box4 (vat_below hb (vat_below hB7 hX6))).1, hb⟩ : (W.cell? ⟨w3.heap.size + 1, 0, none⟩ = some (.int .i64 5) ∧ W.cell? ⟨w3.heap.size + 1, 1, none⟩ = some (.int .i64 0) ∧ W.cell? ⟨w3.heap.size + 1, 2, none⟩ = some (.string ⟨#[]⟩) ∧ W.cell? ⟨w3.heap.size + 1, 3, none⟩ = some (.slice (some ⟨w3.heap.size, 0, none⟩) 2 2)) ∧ Below W7.heap.size W7 W))
      have HS8 := Lib.hid (fun W (hb : Below W7.heap.size W7 W) => (⟨(box4 (vat_below hb (vat_below hB7 hX6))).1, (jbox5 (jat_below hb (jat_below hB7 hY))).1, (box4 (vat_below hb hv7)).1, hb⟩ : (W.cell? ⟨w3.heap.size + 1, 0, none⟩ = some (.int .i64 5) ∧ W.cell? ⟨w3.heap.size + 1, 1, none⟩ = some (.int .i64 0) ∧ W.cell? ⟨w3.heap.size + 1, 2, none⟩ = some (.string ⟨#[]⟩) ∧ W.cell? ⟨w3.heap.size + 1, 3, none⟩ = some (.slice (some ⟨w3.heap.size, 0, none⟩) 2 2)) ∧ (W.cell? ⟨b6, 0, none⟩ = some (.int .i64 5) ∧ W.cell? ⟨b6, 1, none⟩ = some (.int .i64 0) ∧ W.cell? ⟨b6, 2, none⟩ = some (.string ⟨#[]⟩) ∧ W.cell? ⟨b6, 3, none⟩ = some (.slice none 0 0) ∧ W.cell? ⟨b6, 4, none⟩ = some (.slice (some ⟨g, 0, none⟩) 2 2)) ∧ (W.cell? ⟨w6.heap.size, 0, none⟩ = some (.int .i64 k9) ∧ W.cell? ⟨w6.heap.size, 1, none⟩ = some (.int .i64 n9) ∧ W.cell? ⟨w6.heap.size, 2, none⟩ = some (.string s9) ∧ W.cell? ⟨w6.heap.size, 3, none⟩ = some (.slice a9 len9 cap9)) ∧ Below W7.heap.size W7 W))
      have HA7 := Lib.hid (fun W (hb : Below W7.heap.size W7 W) => (box2_cells (hR6.trans ((hB7.trans (hb.mono hB7.size)).mono hR6.size))).1)
      have HX7 := Lib.hid (fun W (hb : Below W7.heap.size W7 W) => HX2.out _ (hB6.trans ((hB7.trans (hb.mono hB7.size)).mono hB6.size)))
      have HY7 := Lib.hid (fun W (hb : Below W7.heap.size W7 W) => isJ_below (hB7.trans (hb.mono hB7.size)) _ _ hIJ)
      have HSL7 := Lib.hid (fun W (hb : Below W7.heap.size W7 W) => HSL.out W (hB7.trans (hb.mono hB7.size)))
      have HTX7 := Lib.hid (fun W (hb : Below W7.heap.size W7 W) => HTX.out W (hB7.trans (hb.mono hB7.size)))
      have hend := hB2.trans ((hR6.trans (hB7.mono hR6.size)).mono hB2.size)
      go_cut [63] (fun s63 W => s63 = .bool false ∧ Below W7.heap.size W7 W)
      case first =>
        clear hOF hX6 hY hIJ hW7 hA6 hv7 hB7 hend HSL HTX HX2 hR6 hB6 hR5 hB2 HSL7 HTX7 HA7 y0 y1 y2 y3 y4 hKc hBc HS8 HY7
        refine wp_region_quiet (C := fun W => (W.cell? ⟨w3.heap.size + 1, 0, none⟩ = some (.int .i64 5) ∧ W.cell? ⟨w3.heap.size + 1, 1, none⟩ = some (.int .i64 0) ∧ W.cell? ⟨w3.heap.size + 1, 2, none⟩ = some (.string ⟨#[]⟩) ∧ W.cell? ⟨w3.heap.size + 1, 3, none⟩ = some (.slice (some ⟨w3.heap.size, 0, none⟩) 2 2)) ∧ Below W7.heap.size W7 W) (by kernel_rfl) (by kernel_rfl) (HSQ.out _ (below_drew _)) ?_
        iterate 22 (first
          | (with_reducible refine BigFrame.wpQuiet_skip ?_ ?_
             · rfl
             simp only [Act.put, List.setIfInBounds_toArray, List.set_cons_zero, List.set_cons_succ])
          | (with_reducible refine BigFrame.wpQuiet_want ?_ (fun K hK => ?_)
             · rfl
             with_reducible apply quiet_run
             · intro W hC
               unfold Oper.quietAt
               have HC := Lib.hid hC
               obtain ⟨⟨x0, x1, x2, x3⟩, _⟩ := hC
               go_simp
               first
                 | done
                 | with_reducible rfl
                 | ((with_reducible refine (hQ.out _ (HX7.out _ HC.out.2)).mono ?_); exact fun e w' ⟨he, hb⟩ => ⟨he, HSQ.out _ (bl_call hb HC.out.2 (Nat.le_refl _))⟩)
             with_reducible refine hK _ ?_
             clear hK K
             simp only [Act.put, List.setIfInBounds_toArray, List.set_cons_zero, List.set_cons_succ]))
        with_reducible refine wpQuiet_nil ?_
        intro W9 hC9
        go_wp2_with fail
        go_meet
        exact ⟨rfl, hC9.2⟩
      case rest =>
        obtain ⟨W9, hW9⟩ : ∃ V, V = wc := ⟨_, rfl⟩
        subst hW9
        obtain ⟨rfl, hb63⟩ := hcut
        have hend9 := hend.trans (hb63.mono hend.size)
        have HS9 := Lib.hid (fun W (hb : Below _ _ W) => (⟨HA7.out W (hb63.trans (hb.mono hb63.size)), hb⟩ : (W.cell? ⟨w.heap.size, 0, none⟩ = some (.int .i64 k0) ∧ W.cell? ⟨w.heap.size, 1, none⟩ = some (.int .i64 n0) ∧ W.cell? ⟨w.heap.size, 2, none⟩ = some (.string s0) ∧ W.cell? ⟨w.heap.size, 3, none⟩ = some (.slice b0 l0 p0)) ∧ Below W9.heap.size W9 W))
        have HSL9 := Lib.hid (fun W (hb : Below _ _ W) => HSL7.out W (hb63.trans (hb.mono hb63.size)))
        have HTX9 := Lib.hid (fun W (hb : Below _ _ W) => HTX7.out W (hb63.trans (hb.mono hb63.size)))
        clear HA7 HSL7 HTX7 HX7 HY7 HSQ HS8 hOF hX6 hY hIJ hA6 hv7 hB7 HSL HTX HX2 hR6 hB6 hR5 hB2 y0 y1 y2 y3 y4 hKc hBc hQ hend
        go_upto_region 10 with fail
        refine wp_region_quiet (C := fun W => (W.cell? ⟨w.heap.size, 0, none⟩ = some (.int .i64 k0) ∧ W.cell? ⟨w.heap.size, 1, none⟩ = some (.int .i64 n0) ∧ W.cell? ⟨w.heap.size, 2, none⟩ = some (.string s0) ∧ W.cell? ⟨w.heap.size, 3, none⟩ = some (.slice b0 l0 p0)) ∧ Below W9.heap.size W9 W) (by kernel_rfl) (by kernel_rfl) (HS9.out _ (below_drew _)) ?_
        iterate 7 (first
          | (with_reducible refine BigFrame.wpQuiet_skip ?_ ?_
             · rfl
             simp only [Act.put, List.setIfInBounds_toArray, List.set_cons_zero, List.set_cons_succ])
          | (with_reducible refine BigFrame.wpQuiet_want ?_ (fun K hK => ?_)
             · rfl
             with_reducible apply quiet_run
             · intro W hC
               unfold Oper.quietAt
               have HC := Lib.hid hC
               obtain ⟨⟨x0, x1, x2, x3⟩, _⟩ := hC
               go_simp
               first
                 | done
                 | with_reducible rfl
                 | ((with_reducible refine (HSL9.out _ HC.out.2).mono ?_); exact fun e w' ⟨he, hb⟩ => ⟨he, HS9.out _ (bl_call hb HC.out.2 (Nat.le_refl _))⟩)
                 | ((with_reducible refine (HTX9.out _ HC.out.2).mono ?_); exact fun e w' ⟨he, hb⟩ => ⟨he, HS9.out _ (bl_call hb HC.out.2 (Nat.le_refl _))⟩)
             with_reducible refine hK _ ?_
             clear hK K
             simp only [Act.put, List.setIfInBounds_toArray, List.set_cons_zero, List.set_cons_succ]))
        with_reducible refine wpQuiet_nil ?_
        intro W10 hC10
        go_wp2_with fail
        go_ret
        exact ⟨ret_bool (by simp), hend9.trans (hC10.2.mono hend9.size)⟩
    | true =>
      rw [hq] at hQ hE
      have he0 : er = 0 := hE.2 rfl
      subst he0
      go_upto_region 8 with (go_at_call 8; (with_reducible refine hOF.out.mono ?_); rintro e w6 ⟨k9, n9, s9, a9, len9, cap9, rfl, hb6, hF6⟩)
      have hA6 := (Below.refl _ w6).alloc (Nat.le_refl _) (.cells #[.int .i64 k9, .int .i64 n9, .string s9, .slice a9 len9 cap9] 24)
      have hB7 := hb6.trans (hA6.mono hb6.size)
      have hv7 := vat_alloc w6 #[.int .i64 k9, .int .i64 n9, .string s9, .slice a9 len9 cap9]
      obtain ⟨W7, hW7⟩ : ∃ V, V = w6.alloc (.cells #[.int .i64 k9, .int .i64 n9, .string s9, .slice a9 len9 cap9] 24) := ⟨_, rfl⟩
      rw [← hW7] at hB7 hA6 hv7
      rw [← hW7]
      have HSQ := Lib.hid (fun W (hb : Below W7.heap.size W7 W) => (⟨(box4 (vat_below hb (vat_below hB7 hX6))).1, hb⟩ : (W.cell? ⟨w3.heap.size + 1, 0, none⟩ = some (.int .i64 5) ∧ W.cell? ⟨w3.heap.size + 1, 1, none⟩ = some (.int .i64 0) ∧ W.cell? ⟨w3.heap.size + 1, 2, none⟩ = some (.string ⟨#[]⟩) ∧ W.cell? ⟨w3.heap.size + 1, 3, none⟩ = some (.slice (some ⟨w3.heap.size, 0, none⟩) 2 2)) ∧ Below W7.heap.size W7 W))
      have HS8 := Lib.hid (fun W (hb : Below W7.heap.size W7 W) => (⟨(box4 (vat_below hb (vat_below hB7 hX6))).1, (jbox5 (jat_below hb (jat_below hB7 hY))).1, (box4 (vat_below hb hv7)).1, hb⟩ : (W.cell? ⟨w3.heap.size + 1, 0, none⟩ = some (.int .i64 5) ∧ W.cell? ⟨w3.heap.size + 1, 1, none⟩ = some (.int .i64 0) ∧ W.cell? ⟨w3.heap.size + 1, 2, none⟩ = some (.string ⟨#[]⟩) ∧ W.cell? ⟨w3.heap.size + 1, 3, none⟩ = some (.slice (some ⟨w3.heap.size, 0, none⟩) 2 2)) ∧ (W.cell? ⟨b6, 0, none⟩ = some (.int .i64 5) ∧ W.cell? ⟨b6, 1, none⟩ = some (.int .i64 0) ∧ W.cell? ⟨b6, 2, none⟩ = some (.string ⟨#[]⟩) ∧ W.cell? ⟨b6, 3, none⟩ = some (.slice none 0 0) ∧ W.cell? ⟨b6, 4, none⟩ = some (.slice (some ⟨g, 0, none⟩) 2 2)) ∧ (W.cell? ⟨w6.heap.size, 0, none⟩ = some (.int .i64 k9) ∧ W.cell? ⟨w6.heap.size, 1, none⟩ = some (.int .i64 n9) ∧ W.cell? ⟨w6.heap.size, 2, none⟩ = some (.string s9) ∧ W.cell? ⟨w6.heap.size, 3, none⟩ = some (.slice a9 len9 cap9)) ∧ Below W7.heap.size W7 W))
      have HA7 := Lib.hid (fun W (hb : Below W7.heap.size W7 W) => (box2_cells (hR6.trans ((hB7.trans (hb.mono hB7.size)).mono hR6.size))).1)
      have HX7 := Lib.hid (fun W (hb : Below W7.heap.size W7 W) => HX2.out _ (hB6.trans ((hB7.trans (hb.mono hB7.size)).mono hB6.size)))
      have HY7 := Lib.hid (fun W (hb : Below W7.heap.size W7 W) => isJ_below (hB7.trans (hb.mono hB7.size)) _ _ hIJ)
      have HSL7 := Lib.hid (fun W (hb : Below W7.heap.size W7 W) => HSL.out W (hB7.trans (hb.mono hB7.size)))
      have HTX7 := Lib.hid (fun W (hb : Below W7.heap.size W7 W) => HTX.out W (hB7.trans (hb.mono hB7.size)))
      have hend := hB2.trans ((hR6.trans (hB7.mono hR6.size)).mono hB2.size)
      have HV7 := Lib.hid (fun W (hb : Below W7.heap.size W7 W) => is_below hb _ _ (hF6 (by trivial) W7 (fun b b1 b2 => hA6.block b b2)))
      have hSM0 := same_any (two t0 t1) (two t0 t1)
      rw [(same_boolC (two t0 t1) (two t0 t1)).2 rfl] at hSM0
      have hSM := Lib.hid hSM0
      have hTJ := Lib.hid (fun W hi => toJson_any (two t0 t1) hq W (.agg #[.int .i64 5, .int .i64 0, .string ⟨#[]⟩, .slice (some ⟨w3.heap.size, 0, none⟩) 2 2]) hi)
      have hSJ := Lib.hid (fun W x y hx hy => same8_refl (jOf (two t0 t1)) W x y hx hy)
      clear hSM0
      go_cut [63] (fun s63 W => s63 = .bool false ∧ Below W7.heap.size W7 W)
      case first =>
        clear hOF hX6 hY hIJ hW7 hA6 hv7 hB7 hend HSL HTX HX2 hR6 hB6 hR5 hB2 HSL7 HTX7 HA7 y0 y1 y2 y3 y4 hKc hBc HSQ
        refine wp_region_held_n (S := fun W => (W.cell? ⟨w3.heap.size + 1, 0, none⟩ = some (.int .i64 5) ∧ W.cell? ⟨w3.heap.size + 1, 1, none⟩ = some (.int .i64 0) ∧ W.cell? ⟨w3.heap.size + 1, 2, none⟩ = some (.string ⟨#[]⟩) ∧ W.cell? ⟨w3.heap.size + 1, 3, none⟩ = some (.slice (some ⟨w3.heap.size, 0, none⟩) 2 2)) ∧ (W.cell? ⟨b6, 0, none⟩ = some (.int .i64 5) ∧ W.cell? ⟨b6, 1, none⟩ = some (.int .i64 0) ∧ W.cell? ⟨b6, 2, none⟩ = some (.string ⟨#[]⟩) ∧ W.cell? ⟨b6, 3, none⟩ = some (.slice none 0 0) ∧ W.cell? ⟨b6, 4, none⟩ = some (.slice (some ⟨g, 0, none⟩) 2 2)) ∧ (W.cell? ⟨w6.heap.size, 0, none⟩ = some (.int .i64 k9) ∧ W.cell? ⟨w6.heap.size, 1, none⟩ = some (.int .i64 n9) ∧ W.cell? ⟨w6.heap.size, 2, none⟩ = some (.string s9) ∧ W.cell? ⟨w6.heap.size, 3, none⟩ = some (.slice a9 len9 cap9)) ∧ Below W7.heap.size W7 W) 22 #[false, false, false, false, false, false, false, false, false, false, false, false, false, false, false, false, false, false, false, false, false, false] (by kernel_rfl) (by kernel_rfl) (by kernel_rfl) (HS8.out _ (below_drew _)) (fun hHeld => ?_)
        refine wpAnyH_take (i := 0) (v := ?_) rfl (by kernel_rfl) (by kernel_rfl) (by kernel_rfl) (fun _ _ _ h => h) (Or.inl ⟨by rfl, ?_⟩) (by assumption) ?_
        rotate_left
        · intro w hSw; go_simp; (try with_reducible rfl)
        (try simp only [Act.put, List.setIfInBounds_toArray, List.set_cons_zero, List.set_cons_succ])
        refine wpAnyH_take (i := 2) (v := ?_) rfl (by kernel_rfl) (by kernel_rfl) (by kernel_rfl) (fun _ _ _ h => h) (Or.inl ⟨by rfl, ?_⟩) (by assumption) ?_
        rotate_left
        · intro w hSw; go_simp; (try with_reducible rfl)
        (try simp only [Act.put, List.setIfInBounds_toArray, List.set_cons_zero, List.set_cons_succ])
        refine wpAnyH_take (i := 3) (v := ?_) rfl (by kernel_rfl) (by kernel_rfl) (by kernel_rfl) (fun _ _ _ h => h) (Or.inl ⟨by rfl, ?_⟩) (by assumption) ?_
        rotate_left
        · intro w hSw; go_simp; (try with_reducible rfl)
        (try simp only [Act.put, List.setIfInBounds_toArray, List.set_cons_zero, List.set_cons_succ])
        with_reducible refine wpAnyH_ready (rs := [1]) ?hr1 ?hn1 ?ha1
        case hr1 => kernel_rfl
        case hn1 => simp
        with_reducible refine AllReadyH.cons (o := ?ob1) ?ho1 (fun K hK => ?st1) ?nx1
        case ho1 => exact rfl
        case nx1 => exact AllReadyH.nil
        go_simp
        (with_reducible refine (hQ.out _ (HX7.out _ hHeld.2.2.2)).mono ?_)
        rintro e w8 ⟨rfl, hb⟩
        have hH1 := HS8.out _ (bl_call hb hHeld.2.2.2 (Nat.le_refl _))
        clear hHeld
        with_reducible refine hK.out _ _ hH1 (fun hHeld => ?_)
        clear hK K hH1 hb
        refine wpAnyH_take (i := 4) (v := ?_) rfl (by kernel_rfl) (by kernel_rfl) (by kernel_rfl) (fun _ _ _ h => h) (Or.inl ⟨by rfl, ?_⟩) (by assumption) ?_
        rotate_left
        · intro w hSw; go_simp; (try with_reducible rfl)
        (try simp only [Act.put, List.setIfInBounds_toArray, List.set_cons_zero, List.set_cons_succ])
        refine wpAnyH_take (i := 5) (v := ?_) rfl (by kernel_rfl) (by kernel_rfl) (by kernel_rfl) (fun _ _ _ h => h) (Or.inl ⟨by rfl, ?_⟩) (by assumption) ?_
        rotate_left
        · intro w hSw; go_simp; (try with_reducible rfl)
        (try simp only [Act.put, List.setIfInBounds_toArray, List.set_cons_zero, List.set_cons_succ])
        with_reducible refine wpAnyH_ready (rs := [6]) ?hr6 ?hn6 ?ha6
        case hr6 => kernel_rfl
        case hn6 => simp
        with_reducible refine AllReadyH.cons (o := ?ob6) ?ho6 (fun K hK => ?st6) ?nx6
        case ho6 => exact rfl
        case nx6 => exact AllReadyH.nil
        go_simp
        with_reducible refine hK.out _ _ hHeld (fun hHeld => ?_)
        clear hK K
        with_reducible refine wpAnyH_ready (rs := [7]) ?hr7 ?hn7 ?ha7
        case hr7 => kernel_rfl
        case hn7 => simp
        with_reducible refine AllReadyH.cons (o := ?ob7) ?ho7 (fun K hK => ?st7) ?nx7
        case ho7 => exact rfl
        case nx7 => exact AllReadyH.nil
        go_simp
        with_reducible refine hK.out _ _ hHeld (fun hHeld => ?_)
        clear hK K
        with_reducible refine wpAnyH_ready (rs := [8]) ?hr8 ?hn8 ?ha8
        case hr8 => kernel_rfl
        case hn8 => simp
        with_reducible refine AllReadyH.cons (o := ?ob8) ?ho8 (fun K hK => ?st8) ?nx8
        case ho8 => exact rfl
        case nx8 => exact AllReadyH.nil
        go_simp
        with_reducible refine hK.out _ _ hHeld (fun hHeld => ?_)
        clear hK K
        refine wpAnyH_take (i := 9) (v := ?_) rfl (by kernel_rfl) (by kernel_rfl) (by kernel_rfl) (fun _ _ _ h => h) (Or.inl ⟨by rfl, ?_⟩) (by assumption) ?_
        rotate_left
        · intro w hSw; go_simp; (try with_reducible rfl)
        (try simp only [Act.put, List.setIfInBounds_toArray, List.set_cons_zero, List.set_cons_succ])
        refine wpAnyH_take (i := 10) (v := ?_) rfl (by kernel_rfl) (by kernel_rfl) (by kernel_rfl) (fun _ _ _ h => h) (Or.inl ⟨by rfl, ?_⟩) (by assumption) ?_
        rotate_left
        · intro w hSw; go_simp; (try with_reducible rfl)
        (try simp only [Act.put, List.setIfInBounds_toArray, List.set_cons_zero, List.set_cons_succ])
        with_reducible refine wpAnyH_ready (rs := [11]) ?hr11 ?hn11 ?ha11
        case hr11 => kernel_rfl
        case hn11 => simp
        with_reducible refine AllReadyH.cons (o := ?ob11) ?ho11 (fun K hK => ?st11) ?nx11
        case ho11 => exact rfl
        case nx11 => exact AllReadyH.nil
        go_simp
        (with_reducible refine (hSM.out _ _ _ (HV7.out _ hHeld.2.2.2) (HX7.out _ hHeld.2.2.2)).mono ?_)
        rintro e w9 ⟨rfl, hb⟩
        have hH11 := HS8.out _ (bl_call hb hHeld.2.2.2 (Nat.le_refl _))
        clear hHeld
        with_reducible refine hK.out _ _ hH11 (fun hHeld => ?_)
        clear hK K hH11 hb
        with_reducible refine wpAnyH_ready (rs := [12]) ?hr12 ?hn12 ?ha12
        case hr12 => kernel_rfl
        case hn12 => simp
        with_reducible refine AllReadyH.cons (o := ?ob12) ?ho12 (fun K hK => ?st12) ?nx12
        case ho12 => exact rfl
        case nx12 => exact AllReadyH.nil
        go_simp
        with_reducible refine hK.out _ _ hHeld (fun hHeld => ?_)
        clear hK K
        with_reducible refine wpAnyH_ready (rs := [13]) ?hr13 ?hn13 ?ha13
        case hr13 => kernel_rfl
        case hn13 => simp
        with_reducible refine AllReadyH.cons (o := ?ob13) ?ho13 (fun K hK => ?st13) ?nx13
        case ho13 => exact rfl
        case nx13 => exact AllReadyH.nil
        go_simp
        with_reducible refine hK.out _ _ hHeld (fun hHeld => ?_)
        clear hK K
        refine wpAnyH_take (i := 14) (v := ?_) rfl (by kernel_rfl) (by kernel_rfl) (by kernel_rfl) (fun _ _ _ h => h) (Or.inl ⟨by rfl, ?_⟩) (by assumption) ?_
        rotate_left
        · intro w hSw; go_simp; (try with_reducible rfl)
        (try simp only [Act.put, List.setIfInBounds_toArray, List.set_cons_zero, List.set_cons_succ])
        refine wpAnyH_take (i := 16) (v := ?_) rfl (by kernel_rfl) (by kernel_rfl) (by kernel_rfl) (fun _ _ _ h => h) (Or.inl ⟨by rfl, ?_⟩) (by assumption) ?_
        rotate_left
        · intro w hSw; go_simp; (try with_reducible rfl)
        (try simp only [Act.put, List.setIfInBounds_toArray, List.set_cons_zero, List.set_cons_succ])
        with_reducible refine wpAnyH_ready (rs := [15]) ?hr15 ?hn15 ?ha15
        case hr15 => kernel_rfl
        case hn15 => simp
        with_reducible refine AllReadyH.cons (o := ?ob15) ?ho15 (fun K hK => ?st15) ?nx15
        case ho15 => exact rfl
        case nx15 => exact AllReadyH.nil
        go_simp
        (with_reducible refine (hTJ.out _ (HX7.out _ hHeld.2.2.2)).mono ?_)
        rintro e w10 ⟨z0, z1, z2, z3, z4, z5, z6, z7, z8, rfl, hb, hF10⟩
        have hJ10 : IsJ w10 (jOf (two t0 t1)) (.agg #[.int .i64 z0, .int .i64 z1, .string z2, .slice z3 z4 z5, .slice z6 z7 z8]) := hF10 w10 (fun _ _ _ => rfl)
        have hH15 := HS8.out _ (bl_call hb hHeld.2.2.2 (Nat.le_refl _))
        clear hHeld
        with_reducible refine hK.out _ _ hH15 (fun hHeld => ?_)
        clear hK K hH15 hb
        with_reducible refine wpAnyH_ready (rs := [17]) ?hr17 ?hn17 ?ha17
        case hr17 => kernel_rfl
        case hn17 => simp
        with_reducible refine AllReadyH.cons (o := ?ob17) ?ho17 (fun K hK => ?st17) ?nx17
        case ho17 => exact rfl
        case nx17 => exact AllReadyH.nil
        go_simp
        (with_reducible refine (hSJ.out _ _ _ hJ10 (HY7.out _ hHeld.2.2.2)).mono ?_)
        rintro e w11 ⟨rfl, hb⟩
        have hH17 := HS8.out _ (bl_call hb hHeld.2.2.2 (Nat.le_refl _))
        clear hHeld
        with_reducible refine hK.out _ _ hH17 (fun hHeld => ?_)
        clear hK K hH17 hb
        with_reducible refine wpAnyH_ready (rs := [18]) ?hr18 ?hn18 ?ha18
        case hr18 => kernel_rfl
        case hn18 => simp
        with_reducible refine AllReadyH.cons (o := ?ob18) ?ho18 (fun K hK => ?st18) ?nx18
        case ho18 => exact rfl
        case nx18 => exact AllReadyH.nil
        go_simp
        with_reducible refine hK.out _ _ hHeld (fun hHeld => ?_)
        clear hK K
        with_reducible refine wpAnyH_ready (rs := [19]) ?hr19 ?hn19 ?ha19
        case hr19 => kernel_rfl
        case hn19 => simp
        with_reducible refine AllReadyH.cons (o := ?ob19) ?ho19 (fun K hK => ?st19) ?nx19
        case ho19 => exact rfl
        case nx19 => exact AllReadyH.nil
        go_simp
        with_reducible refine hK.out _ _ hHeld (fun hHeld => ?_)
        clear hK K
        with_reducible refine wpAnyH_ready (rs := [20]) ?hr20 ?hn20 ?ha20
        case hr20 => kernel_rfl
        case hn20 => simp
        with_reducible refine AllReadyH.cons (o := ?ob20) ?ho20 (fun K hK => ?st20) ?nx20
        case ho20 => exact rfl
        case nx20 => exact AllReadyH.nil
        go_simp
        with_reducible refine hK.out _ _ hHeld (fun hHeld => ?_)
        clear hK K
        with_reducible refine wpAnyH_ready (rs := [21]) ?hr21 ?hn21 ?ha21
        case hr21 => kernel_rfl
        case hn21 => simp
        with_reducible refine AllReadyH.cons (o := ?ob21) ?ho21 (fun K hK => ?st21) ?nx21
        case ho21 => exact rfl
        case nx21 => exact AllReadyH.nil
        go_simp
        with_reducible refine hK.out _ _ hHeld (fun hHeld => ?_)
        clear hK K
        refine wpAnyH_done (by kernel_rfl) ?_ _
        go_wp2_with fail
        go_meet
        exact ⟨rfl, hHeld.2.2.2⟩
      case rest =>
        obtain ⟨W9, hW9⟩ : ∃ V, V = wc := ⟨_, rfl⟩
        subst hW9
        obtain ⟨rfl, hb63⟩ := hcut
        have hend9 := hend.trans (hb63.mono hend.size)
        have HS9 := Lib.hid (fun W (hb : Below _ _ W) => (⟨HA7.out W (hb63.trans (hb.mono hb63.size)), hb⟩ : (W.cell? ⟨w.heap.size, 0, none⟩ = some (.int .i64 k0) ∧ W.cell? ⟨w.heap.size, 1, none⟩ = some (.int .i64 n0) ∧ W.cell? ⟨w.heap.size, 2, none⟩ = some (.string s0) ∧ W.cell? ⟨w.heap.size, 3, none⟩ = some (.slice b0 l0 p0)) ∧ Below W9.heap.size W9 W))
        have HSL9 := Lib.hid (fun W (hb : Below _ _ W) => HSL7.out W (hb63.trans (hb.mono hb63.size)))
        have HTX9 := Lib.hid (fun W (hb : Below _ _ W) => HTX7.out W (hb63.trans (hb.mono hb63.size)))
        clear HA7 HSL7 HTX7 HX7 HY7 HSQ HS8 hOF hX6 hY hIJ hA6 hv7 hB7 HSL HTX HX2 hR6 hB6 hR5 hB2 y0 y1 y2 y3 y4 hKc hBc hQ hend
        go_upto_region 10 with fail
        refine wp_region_quiet (C := fun W => (W.cell? ⟨w.heap.size, 0, none⟩ = some (.int .i64 k0) ∧ W.cell? ⟨w.heap.size, 1, none⟩ = some (.int .i64 n0) ∧ W.cell? ⟨w.heap.size, 2, none⟩ = some (.string s0) ∧ W.cell? ⟨w.heap.size, 3, none⟩ = some (.slice b0 l0 p0)) ∧ Below W9.heap.size W9 W) (by kernel_rfl) (by kernel_rfl) (HS9.out _ (below_drew _)) ?_
        iterate 7 (first
          | (with_reducible refine BigFrame.wpQuiet_skip ?_ ?_
             · rfl
             simp only [Act.put, List.setIfInBounds_toArray, List.set_cons_zero, List.set_cons_succ])
          | (with_reducible refine BigFrame.wpQuiet_want ?_ (fun K hK => ?_)
             · rfl
             with_reducible apply quiet_run
             · intro W hC
               unfold Oper.quietAt
               have HC := Lib.hid hC
               obtain ⟨⟨x0, x1, x2, x3⟩, _⟩ := hC
               go_simp
               first
                 | done
                 | with_reducible rfl
                 | ((with_reducible refine (HSL9.out _ HC.out.2).mono ?_); exact fun e w' ⟨he, hb⟩ => ⟨he, HS9.out _ (bl_call hb HC.out.2 (Nat.le_refl _))⟩)
                 | ((with_reducible refine (HTX9.out _ HC.out.2).mono ?_); exact fun e w' ⟨he, hb⟩ => ⟨he, HS9.out _ (bl_call hb HC.out.2 (Nat.le_refl _))⟩)
             with_reducible refine hK _ ?_
             clear hK K
             simp only [Act.put, List.setIfInBounds_toArray, List.set_cons_zero, List.set_cons_succ]))
        with_reducible refine wpQuiet_nil ?_
        intro W10 hC10
        go_wp2_with fail
        go_ret
        exact ⟨ret_bool (by simp), hend9.trans (hC10.2.mono hend9.size)⟩
end Go.Proofs.YtcicjpdjbfgbhaaDoor.cellListsWalk
