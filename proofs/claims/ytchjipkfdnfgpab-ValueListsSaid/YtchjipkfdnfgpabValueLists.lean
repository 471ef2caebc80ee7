/- The walk of ValueLists: a list of two values is one deeper than the deeper one, has one node more than both, and stands by its first one that differs. -/
import Derived.Test.YtchjipkfdnfgpabValLaws
import Derived.Deep.DeepCutAuto
import Derived.BigQuiet
namespace Go.Proofs.Ytchjipkfdnfgpab.valueListsWalk
open Go.RowKit Go.Shelf
theorem boxb {b : Nat} {c0 c1 c2 c3 : Value} {W W' : World} (h : (W.cell? ⟨b, 0, none⟩ = some c0 ∧ W.cell? ⟨b, 1, none⟩ = some c1) ∧ (W.cell? ⟨b, 2, none⟩ = some c2 ∧ W.cell? ⟨b, 3, none⟩ = some c3)) (hb : Below W.heap.size W W') :
    (W'.cell? ⟨b, 0, none⟩ = some c0 ∧ W'.cell? ⟨b, 1, none⟩ = some c1) ∧ (W'.cell? ⟨b, 2, none⟩ = some c2 ∧ W'.cell? ⟨b, 3, none⟩ = some c3) :=
  ⟨⟨cell_below hb h.1.1, cell_below hb h.1.2⟩, cell_below hb h.2.1, cell_below hb h.2.2⟩
theorem keep16 {p q r s : Nat} {a0 a1 a2 a3 b0 b1 b2 b3 c0 c1 c2 c3 d0 d1 d2 d3 : Value} {W0 W W' : World} (h : ((((W.cell? ⟨p, 0, none⟩ = some a0 ∧ W.cell? ⟨p, 1, none⟩ = some a1) ∧ (W.cell? ⟨p, 2, none⟩ = some a2 ∧ W.cell? ⟨p, 3, none⟩ = some a3)) ∧ ((W.cell? ⟨q, 0, none⟩ = some b0 ∧ W.cell? ⟨q, 1, none⟩ = some b1) ∧ (W.cell? ⟨q, 2, none⟩ = some b2 ∧ W.cell? ⟨q, 3, none⟩ = some b3))) ∧ (((W.cell? ⟨r, 0, none⟩ = some c0 ∧ W.cell? ⟨r, 1, none⟩ = some c1) ∧ (W.cell? ⟨r, 2, none⟩ = some c2 ∧ W.cell? ⟨r, 3, none⟩ = some c3)) ∧ ((W.cell? ⟨s, 0, none⟩ = some d0 ∧ W.cell? ⟨s, 1, none⟩ = some d1) ∧ (W.cell? ⟨s, 2, none⟩ = some d2 ∧ W.cell? ⟨s, 3, none⟩ = some d3)))) ∧ Below W0.heap.size W0 W) (hb : Below W.heap.size W W') : ((((W'.cell? ⟨p, 0, none⟩ = some a0 ∧ W'.cell? ⟨p, 1, none⟩ = some a1) ∧ (W'.cell? ⟨p, 2, none⟩ = some a2 ∧ W'.cell? ⟨p, 3, none⟩ = some a3)) ∧ ((W'.cell? ⟨q, 0, none⟩ = some b0 ∧ W'.cell? ⟨q, 1, none⟩ = some b1) ∧ (W'.cell? ⟨q, 2, none⟩ = some b2 ∧ W'.cell? ⟨q, 3, none⟩ = some b3))) ∧ (((W'.cell? ⟨r, 0, none⟩ = some c0 ∧ W'.cell? ⟨r, 1, none⟩ = some c1) ∧ (W'.cell? ⟨r, 2, none⟩ = some c2 ∧ W'.cell? ⟨r, 3, none⟩ = some c3)) ∧ ((W'.cell? ⟨s, 0, none⟩ = some d0 ∧ W'.cell? ⟨s, 1, none⟩ = some d1) ∧ (W'.cell? ⟨s, 2, none⟩ = some d2 ∧ W'.cell? ⟨s, 3, none⟩ = some d3)))) ∧ Below W0.heap.size W0 W' :=
  ⟨⟨⟨boxb h.1.1.1 hb, boxb h.1.1.2 hb⟩, boxb h.1.2.1 hb, boxb h.1.2.2 hb⟩, h.2.trans (hb.mono h.2.size)⟩
theorem keepB16 {p q r s : Nat} {a0 a1 a2 a3 b0 b1 b2 b3 c0 c1 c2 c3 d0 d1 d2 d3 : Value} {W0 W : World} (h : ((((W.cell? ⟨p, 0, none⟩ = some a0 ∧ W.cell? ⟨p, 1, none⟩ = some a1) ∧ (W.cell? ⟨p, 2, none⟩ = some a2 ∧ W.cell? ⟨p, 3, none⟩ = some a3)) ∧ ((W.cell? ⟨q, 0, none⟩ = some b0 ∧ W.cell? ⟨q, 1, none⟩ = some b1) ∧ (W.cell? ⟨q, 2, none⟩ = some b2 ∧ W.cell? ⟨q, 3, none⟩ = some b3))) ∧ (((W.cell? ⟨r, 0, none⟩ = some c0 ∧ W.cell? ⟨r, 1, none⟩ = some c1) ∧ (W.cell? ⟨r, 2, none⟩ = some c2 ∧ W.cell? ⟨r, 3, none⟩ = some c3)) ∧ ((W.cell? ⟨s, 0, none⟩ = some d0 ∧ W.cell? ⟨s, 1, none⟩ = some d1) ∧ (W.cell? ⟨s, 2, none⟩ = some d2 ∧ W.cell? ⟨s, 3, none⟩ = some d3)))) ∧ Below W0.heap.size W0 W) : Below W0.heap.size W0 W := h.2
theorem keep12 {p q s : Nat} {a0 a1 a2 a3 b0 b1 b2 b3 d0 d1 d2 d3 : Value} {W0 W W' : World} (h : ((((W.cell? ⟨p, 0, none⟩ = some a0 ∧ W.cell? ⟨p, 1, none⟩ = some a1) ∧ (W.cell? ⟨p, 2, none⟩ = some a2 ∧ W.cell? ⟨p, 3, none⟩ = some a3)) ∧ ((W.cell? ⟨q, 0, none⟩ = some b0 ∧ W.cell? ⟨q, 1, none⟩ = some b1) ∧ (W.cell? ⟨q, 2, none⟩ = some b2 ∧ W.cell? ⟨q, 3, none⟩ = some b3))) ∧ ((W.cell? ⟨s, 0, none⟩ = some d0 ∧ W.cell? ⟨s, 1, none⟩ = some d1) ∧ (W.cell? ⟨s, 2, none⟩ = some d2 ∧ W.cell? ⟨s, 3, none⟩ = some d3))) ∧ Below W0.heap.size W0 W) (hb : Below W.heap.size W W') : ((((W'.cell? ⟨p, 0, none⟩ = some a0 ∧ W'.cell? ⟨p, 1, none⟩ = some a1) ∧ (W'.cell? ⟨p, 2, none⟩ = some a2 ∧ W'.cell? ⟨p, 3, none⟩ = some a3)) ∧ ((W'.cell? ⟨q, 0, none⟩ = some b0 ∧ W'.cell? ⟨q, 1, none⟩ = some b1) ∧ (W'.cell? ⟨q, 2, none⟩ = some b2 ∧ W'.cell? ⟨q, 3, none⟩ = some b3))) ∧ ((W'.cell? ⟨s, 0, none⟩ = some d0 ∧ W'.cell? ⟨s, 1, none⟩ = some d1) ∧ (W'.cell? ⟨s, 2, none⟩ = some d2 ∧ W'.cell? ⟨s, 3, none⟩ = some d3))) ∧ Below W0.heap.size W0 W' :=
  ⟨⟨⟨boxb h.1.1.1 hb, boxb h.1.1.2 hb⟩, boxb h.1.2 hb⟩, h.2.trans (hb.mono h.2.size)⟩
theorem keepB12 {p q s : Nat} {a0 a1 a2 a3 b0 b1 b2 b3 d0 d1 d2 d3 : Value} {W0 W : World} (h : ((((W.cell? ⟨p, 0, none⟩ = some a0 ∧ W.cell? ⟨p, 1, none⟩ = some a1) ∧ (W.cell? ⟨p, 2, none⟩ = some a2 ∧ W.cell? ⟨p, 3, none⟩ = some a3)) ∧ ((W.cell? ⟨q, 0, none⟩ = some b0 ∧ W.cell? ⟨q, 1, none⟩ = some b1) ∧ (W.cell? ⟨q, 2, none⟩ = some b2 ∧ W.cell? ⟨q, 3, none⟩ = some b3))) ∧ ((W.cell? ⟨s, 0, none⟩ = some d0 ∧ W.cell? ⟨s, 1, none⟩ = some d1) ∧ (W.cell? ⟨s, 2, none⟩ = some d2 ∧ W.cell? ⟨s, 3, none⟩ = some d3))) ∧ Below W0.heap.size W0 W) : Below W0.heap.size W0 W := h.2
theorem boxb' {b : Nat} {c0 c1 c2 c3 : Value} {W W' : World} (hb : Below W.heap.size W W') (h : (W.cell? ⟨b, 0, none⟩ = some c0 ∧ W.cell? ⟨b, 1, none⟩ = some c1) ∧ (W.cell? ⟨b, 2, none⟩ = some c2 ∧ W.cell? ⟨b, 3, none⟩ = some c3)) :
    (W'.cell? ⟨b, 0, none⟩ = some c0 ∧ W'.cell? ⟨b, 1, none⟩ = some c1) ∧ (W'.cell? ⟨b, 2, none⟩ = some c2 ∧ W'.cell? ⟨b, 3, none⟩ = some c3) := boxb h hb
theorem box_of {W : World} {b : Nat} {c0 c1 c2 c3 : Value} (h : VAt W b #[c0, c1, c2, c3]) : (W.cell? ⟨b, 0, none⟩ = some c0 ∧ W.cell? ⟨b, 1, none⟩ = some c1) ∧ (W.cell? ⟨b, 2, none⟩ = some c2 ∧ W.cell? ⟨b, 3, none⟩ = some c3) :=
  ⟨⟨vat_cell h 0 _ rfl, vat_cell h 1 _ rfl⟩, vat_cell h 2 _ rfl, vat_cell h 3 _ rfl⟩
theorem ab_refl (w : World) : Below w.heap.size w w := Below.refl _ _
theorem ab_alloc {w W : World} {o : Obj} (h : Below w.heap.size w W) : Below w.heap.size w (W.alloc o) := h.alloc h.size o
theorem ab_drew {w W : World} (h : Below w.heap.size w W) : Below w.heap.size w W.drew := h.drew
theorem vat_new' {W : World} {b : Nat} {cs : Array Value} (h : b = W.heap.size) : VAt (W.alloc (.cells cs 24)) b cs := by subst h; exact vat_alloc _ _
theorem vat_up {W : World} {b : Nat} {cs : Array Value} {o : Obj} (h : VAt W b cs) : VAt (W.alloc o) b cs := vat_below ((Below.refl _ W).alloc (Nat.le_refl _) o) h
theorem vat_dr {W : World} {b : Nat} {cs : Array Value} (h : VAt W b cs) : VAt W.drew b cs := h
theorem two_is {W : World} {g : Nat} {c0 c1 c2 c3 d0 d1 d2 d3 : Value} (h : VAt W g #[c0, c1, c2, c3, d0, d1, d2, d3]) {a b : PV} (ha : Is W a (.agg #[c0, c1, c2, c3])) (hb : Is W b (.agg #[d0, d1, d2, d3])) :
    Is W (two a b) (.agg #[.int .i64 5, .int .i64 0, .string ⟨#[]⟩, .slice (some ⟨g, 0, none⟩) 2 2]) := by
  unfold two Is
  refine ⟨i64_lit _ rfl, i64_lit _ rfl, by unfold maxLen; decide, some ⟨g, 0, none⟩, 2, rfl, by simp, by unfold maxLen; decide, .inr ⟨g, 0, rfl, ?_⟩⟩
  unfold IsL IsL IsL
  exact ⟨⟨c0, c1, c2, c3, ⟨vat_cell h 0 _ rfl, vat_cell h 1 _ rfl, vat_cell h 2 _ rfl, vat_cell h 3 _ rfl⟩, ha⟩, ⟨d0, d1, d2, d3, ⟨vat_cell h 4 _ rfl, vat_cell h 5 _ rfl, vat_cell h 6 _ rfl, vat_cell h 7 _ rfl⟩, hb⟩, trivial⟩
theorem quiet_run {P : Program} {o : Oper} {a : Act} {C : World → Prop} {K : Act → Prop} {v : Value} (h1 : ∀ w, C w → o.quietAt P a C w v) (h2 : K (a.put o.dst v)) : o.quiet P a C K := ⟨v, h1, h2⟩
set_option maxRecDepth 100000 in
set_option maxHeartbeats 8000000 in
theorem walk (t0 : PV) (v0 : Value) (t1 : PV) (v1 : Value) (w : World) (w0 : Is w t0 v0) (w1 : Is w t1 v1) :
    Calls Try.prog 3 #[v0, v1] w fun e w' => e = .returned (.bool true) ∧ Below w.heap.size w w' := by
  have hal := fun W => alive_any W
  have hga := fun W h => great_any t0 W v0 h
  have hgb := fun W h => great_any t1 W v1 h
  have hza := great_sz t0
  have hzb := great_sz t1
  have hna := nums_is t0 v0 w0
  have hnb := nums_is t1 v1 w1
  have hra := fun h W hi => right_any t0 h W v0 hi
  have hrb := fun h W hi => right_any t1 h W v1 hi
  obtain ⟨ga, ega⟩ : ∃ g, greatV t0 = g := ⟨_, rfl⟩
  obtain ⟨gb, egb⟩ : ∃ g, greatV t1 = g := ⟨_, rfl⟩
  obtain ⟨ra, era⟩ : ∃ g, rightV t0 = g := ⟨_, rfl⟩
  obtain ⟨rb, erb⟩ : ∃ g, rightV t1 = g := ⟨_, rfl⟩
  rw [ega] at hga hza
  rw [egb] at hgb hzb
  rw [era] at hra
  rw [erb] at hrb
  have hv0 : ∃ k n s l a c, v0 = .agg #[.int .i64 k, .int .i64 n, .string s, .slice a l c] := by
    cases t0 with | mk k n s l => unfold Is at w0; obtain ⟨_, _, _, a, c, e, _⟩ := w0; exact ⟨_, _, _, _, _, _, e⟩
  have hv1 : ∃ k n s l a c, v1 = .agg #[.int .i64 k, .int .i64 n, .string s, .slice a l c] := by
    cases t1 with | mk k n s l => unfold Is at w1; obtain ⟨_, _, _, a, c, e, _⟩ := w1; exact ⟨_, _, _, _, _, _, e⟩
  obtain ⟨k0, n0, s0, l0, b0, p0, rfl⟩ := hv0
  obtain ⟨k1, n1, s1, l1, b1, p1, rfl⟩ := hv1
  have hW0 := Lib.hid (is_below ((Below.refl _ w).alloc (Nat.le_refl _) (vobj k0 n0 s0 b0 l0 p0)) _ _ w0)
  have hB1 := (Below.refl _ w).alloc (Nat.le_refl _) (vobj k0 n0 s0 b0 l0 p0)
  have hB2 := hB1.alloc hB1.size (vobj k1 n1 s1 b1 l1 p1)
  have hi0 : ∀ W, Below ((w.alloc (vobj k0 n0 s0 b0 l0 p0)).alloc (vobj k1 n1 s1 b1 l1 p1)).heap.size ((w.alloc (vobj k0 n0 s0 b0 l0 p0)).alloc (vobj k1 n1 s1 b1 l1 p1)) W → Is W t0 (.agg #[.int .i64 k0, .int .i64 n0, .string s0, .slice b0 l0 p0]) := fun W h => is_below h _ _ (is_below hB2 _ _ w0)
  have hi1 : ∀ W, Below ((w.alloc (vobj k0 n0 s0 b0 l0 p0)).alloc (vobj k1 n1 s1 b1 l1 p1)).heap.size ((w.alloc (vobj k0 n0 s0 b0 l0 p0)).alloc (vobj k1 n1 s1 b1 l1 p1)) W → Is W t1 (.agg #[.int .i64 k1, .int .i64 n1, .string s1, .slice b1 l1 p1]) := fun W h => is_below h _ _ (is_below hB2 _ _ w1)
  have I0 := Lib.hid hi0; have I1 := Lib.hid hi1
  clear hi0 hi1 hW0
  have hR0 := Below.refl ((w.alloc (vobj k0 n0 s0 b0 l0 p0)).alloc (vobj k1 n1 s1 b1 l1 p1)).heap.size ((w.alloc (vobj k0 n0 s0 b0 l0 p0)).alloc (vobj k1 n1 s1 b1 l1 p1))
  cases ga with
  | true =>
    clear hra hrb hgb
    go_enter Try.func3, Try.ntmps3
    go_wp2_with (first
      | (go_at_call 4; (with_reducible refine (hal _).mono ?_); rintro e w3 ⟨rfl, hq⟩; have hR := hR0.trans (hq.mono hR0.size); clear hq; obtain ⟨⟨c0, c1, c2, c3⟩, d0, d1, d2, d3⟩ := box2_cells hR)
      | (go_at_call 5; (with_reducible refine (hga _ (I0.out _ hR)).mono ?_); rintro e w3 ⟨rfl, hq⟩; have hR := hR.trans (hq.mono hR.size)))
    go_ret
    exact ⟨rfl, hB2.trans (hR.mono hB2.size)⟩
  | false =>
  replace hza := hza rfl
  cases gb with
  | true =>
    clear hra hrb
    go_enter Try.func3, Try.ntmps3
    go_wp2_with (first
      | (go_at_call 4; (with_reducible refine (hal _).mono ?_); rintro e w3 ⟨rfl, hq⟩; have hR := hR0.trans (hq.mono hR0.size); clear hq; obtain ⟨⟨c0, c1, c2, c3⟩, d0, d1, d2, d3⟩ := box2_cells hR)
      | (go_at_call 5; (first | with_reducible refine (hga _ (I0.out _ hR)).mono ?_ | with_reducible refine (hgb _ (I1.out _ hR)).mono ?_); rintro e w3 ⟨rfl, hq⟩; have hR9 := hR.trans (hq.mono hR.size); clear hR hq c0 c1 c2 c3 d0 d1 d2 d3; have hR := hR9; clear hR9; obtain ⟨⟨c0, c1, c2, c3⟩, d0, d1, d2, d3⟩ := box2_cells hR))
    go_ret
    exact ⟨rfl, hB2.trans (hR.mono hB2.size)⟩
  | false =>
  replace hzb := hzb rfl
  replace hra := hra (by omega)
  replace hrb := hrb (by omega)
  cases ra with
  | false =>
    go_enter Try.func3, Try.ntmps3
    go_wp2_with (first
      | (go_at_call 4; (with_reducible refine (hal _).mono ?_); rintro e w3 ⟨rfl, hq⟩; have hR := hR0.trans (hq.mono hR0.size); clear hq; obtain ⟨⟨c0, c1, c2, c3⟩, d0, d1, d2, d3⟩ := box2_cells hR)
      | (go_at_call 5; (first | with_reducible refine (hga _ (I0.out _ hR)).mono ?_ | with_reducible refine (hgb _ (I1.out _ hR)).mono ?_); rintro e w3 ⟨rfl, hq⟩; have hR9 := hR.trans (hq.mono hR.size); clear hR hq c0 c1 c2 c3 d0 d1 d2 d3; have hR := hR9; clear hR9; obtain ⟨⟨c0, c1, c2, c3⟩, d0, d1, d2, d3⟩ := box2_cells hR)
      | (go_at_call 6; (with_reducible refine (hra _ (I0.out _ hR)).mono ?_); rintro e w3 ⟨rfl, hq⟩; have hR9 := hR.trans (hq.mono hR.size); clear hR hq c0 c1 c2 c3 d0 d1 d2 d3; have hR := hR9; clear hR9; obtain ⟨⟨c0, c1, c2, c3⟩, d0, d1, d2, d3⟩ := box2_cells hR))
    go_ret
    exact ⟨rfl, hB2.trans (hR.mono hB2.size)⟩
  | true =>
  cases rb with
  | false =>
    go_enter Try.func3, Try.ntmps3
    go_wp2_with (first
      | (go_at_call 4; (with_reducible refine (hal _).mono ?_); rintro e w3 ⟨rfl, hq⟩; have hR := hR0.trans (hq.mono hR0.size); clear hq; obtain ⟨⟨c0, c1, c2, c3⟩, d0, d1, d2, d3⟩ := box2_cells hR)
      | (go_at_call 5; (first | with_reducible refine (hga _ (I0.out _ hR)).mono ?_ | with_reducible refine (hgb _ (I1.out _ hR)).mono ?_); rintro e w3 ⟨rfl, hq⟩; have hR9 := hR.trans (hq.mono hR.size); clear hR hq c0 c1 c2 c3 d0 d1 d2 d3; have hR := hR9; clear hR9; obtain ⟨⟨c0, c1, c2, c3⟩, d0, d1, d2, d3⟩ := box2_cells hR)
      | (go_at_call 6; (first | with_reducible refine (hra _ (I0.out _ hR)).mono ?_ | with_reducible refine (hrb _ (I1.out _ hR)).mono ?_); rintro e w3 ⟨rfl, hq⟩; have hR9 := hR.trans (hq.mono hR.size); clear hR hq c0 c1 c2 c3 d0 d1 d2 d3; have hR := hR9; clear hR9; obtain ⟨⟨c0, c1, c2, c3⟩, d0, d1, d2, d3⟩ := box2_cells hR))
    go_ret
    exact ⟨rfl, hB2.trans (hR.mono hB2.size)⟩
  | true =>
  go_enter Try.func3, Try.ntmps3
  go_upto_region 5 with (first
      | (go_at_call 4; (with_reducible refine (hal _).mono ?_); rintro e w3 ⟨rfl, hq⟩; have hR := hR0.trans (hq.mono hR0.size); clear hq; obtain ⟨⟨c0, c1, c2, c3⟩, d0, d1, d2, d3⟩ := box2_cells hR)
      | (go_at_call 5; (first | with_reducible refine (hga _ (I0.out _ hR)).mono ?_ | with_reducible refine (hgb _ (I1.out _ hR)).mono ?_); rintro e w3 ⟨rfl, hq⟩; have hR9 := hR.trans (hq.mono hR.size); clear hR hq c0 c1 c2 c3 d0 d1 d2 d3; have hR := hR9; clear hR9; obtain ⟨⟨c0, c1, c2, c3⟩, d0, d1, d2, d3⟩ := box2_cells hR)
      | (go_at_call 6; (first | with_reducible refine (hra _ (I0.out _ hR)).mono ?_ | with_reducible refine (hrb _ (I1.out _ hR)).mono ?_); rintro e w3 ⟨rfl, hq⟩; have hR9 := hR.trans (hq.mono hR.size); clear hR hq c0 c1 c2 c3 d0 d1 d2 d3; have hR := hR9; clear hR9; obtain ⟨⟨c0, c1, c2, c3⟩, d0, d1, d2, d3⟩ := box2_cells hR))
  go_cut [5, 6] (fun s5 s6 W => ∃ b5 b6 g5 g6, s5 = .pointer (some ⟨b5, 0, none⟩) ∧ s6 = .pointer (some ⟨b6, 0, none⟩) ∧ (VAt W b5 #[.int .i64 5, .int .i64 0, .string ⟨#[]⟩, .slice (some ⟨g5, 0, none⟩) 2 2] ∧ VAt W b6 #[.int .i64 5, .int .i64 0, .string ⟨#[]⟩, .slice (some ⟨g6, 0, none⟩) 2 2]) ∧
      (VAt W g5 #[.int .i64 k0, .int .i64 n0, .string s0, .slice b0 l0 p0, .int .i64 k1, .int .i64 n1, .string s1, .slice b1 l1 p1] ∧ VAt W g6 #[.int .i64 k1, .int .i64 n1, .string s1, .slice b1 l1 p1, .int .i64 k0, .int .i64 n0, .string s0, .slice b0 l0 p0]) ∧ Below w3.heap.size w3 W)
  case first =>
    clear hal hga hgb hra hrb hza hzb hB1 hR0 I0 I1 w0 w1 hna hnb ega egb era erb hR hB2
    go_region_held3 (fun W => (((W.cell? ⟨w.heap.size, 0, none⟩ = some (.int .i64 k0) ∧ W.cell? ⟨w.heap.size, 1, none⟩ = some (.int .i64 n0)) ∧ (W.cell? ⟨w.heap.size, 2, none⟩ = some (.string s0) ∧ W.cell? ⟨w.heap.size, 3, none⟩ = some (.slice b0 l0 p0))) ∧
        ((W.cell? ⟨w.heap.size + 1, 0, none⟩ = some (.int .i64 k1) ∧ W.cell? ⟨w.heap.size + 1, 1, none⟩ = some (.int .i64 n1)) ∧ (W.cell? ⟨w.heap.size + 1, 2, none⟩ = some (.string s1) ∧ W.cell? ⟨w.heap.size + 1, 3, none⟩ = some (.slice b1 l1 p1)))) ∧ Below w3.heap.size w3 W)
      (exact keep8 ⟨⟨⟨⟨c0, c1⟩, c2, c3⟩, ⟨d0, d1⟩, d2, d3⟩, Below.refl _ _⟩ (by with_reducible (repeat first | exact ab_refl _ | refine ab_alloc ?_ | refine ab_drew ?_))) (fail)
    all_goals (
      go_wp2_with fail
      go_meet
      apply Exists.intro
      apply Exists.intro
      apply Exists.intro
      apply Exists.intro
      refine ⟨rfl, rfl, ⟨?_, ?_⟩, ⟨?_, ?_⟩, ?_⟩
      all_goals (first
        | (with_reducible (repeat first | exact ab_refl _ | refine ab_alloc ?_ | refine ab_drew ?_); done)
        | (with_reducible refine vat_dr ?_; repeat (first | (with_reducible refine vat_new' ?_; simp; done) | with_reducible refine vat_up ?_))))
  case rest =>
    obtain ⟨b5, b6, g5, g6, rfl, rfl, ⟨v5, v6⟩, ⟨u5, u6⟩, hB5⟩ := hcut
    obtain ⟨W5, hW5⟩ : ∃ W, W = wc := ⟨_, rfl⟩
    subst hW5
    have hR5 := hR.trans (hB5.mono hR.size)
    clear c0 c1 c2 c3 d0 d1 d2 d3 hB5 hR hal hga hgb hra hrb hza hzb hB1 hR0
    have hB6 := hB2.trans (hR5.mono hB2.size)
    have hsa : szV t0 ≤ 100 ∧ deepV t0 ≤ 4 := by have h := era; simp [rightV] at h; omega
    have hsb : szV t1 ≤ 100 ∧ deepV t1 ≤ 4 := by have h := erb; simp [rightV] at h; omega
    have jx : ∀ W, Below W5.heap.size W5 W → Is W (two t0 t1) (.agg #[.int .i64 5, .int .i64 0, .string ⟨#[]⟩, .slice (some ⟨g5, 0, none⟩) 2 2]) := fun W h => two_is (vat_below h u5) (I0.out W (hR5.trans (h.mono hR5.size))) (I1.out W (hR5.trans (h.mono hR5.size)))
    have jy : ∀ W, Below W5.heap.size W5 W → Is W (two t1 t0) (.agg #[.int .i64 5, .int .i64 0, .string ⟨#[]⟩, .slice (some ⟨g6, 0, none⟩) 2 2]) := fun W h => two_is (vat_below h u6) (I1.out W (hR5.trans (h.mono hR5.size))) (I0.out W (hR5.trans (h.mono hR5.size)))
    have hDa : ∀ W, Below W5.heap.size W5 W → Calls Try.prog 7 #[.agg #[.int .i64 k0, .int .i64 n0, .string s0, .slice b0 l0 p0]] W fun e w' => e = .returned (.int .i64 (deepV t0)) ∧ Below W.heap.size W w' := fun W h => deep_any t0 (by omega) W _ (I0.out W (hR5.trans (h.mono hR5.size)))
    have hDb : ∀ W, Below W5.heap.size W5 W → Calls Try.prog 7 #[.agg #[.int .i64 k1, .int .i64 n1, .string s1, .slice b1 l1 p1]] W fun e w' => e = .returned (.int .i64 (deepV t1)) ∧ Below W.heap.size W w' := fun W h => deep_any t1 (by omega) W _ (I1.out W (hR5.trans (h.mono hR5.size)))
    have hNa : ∀ W, Below W5.heap.size W5 W → Calls Try.prog 8 #[.agg #[.int .i64 k0, .int .i64 n0, .string s0, .slice b0 l0 p0]] W fun e w' => e = .returned (.int .i64 (szV t0)) ∧ Below W.heap.size W w' := fun W h => nodes_any t0 (by omega) W _ (I0.out W (hR5.trans (h.mono hR5.size)))
    have hNb : ∀ W, Below W5.heap.size W5 W → Calls Try.prog 8 #[.agg #[.int .i64 k1, .int .i64 n1, .string s1, .slice b1 l1 p1]] W fun e w' => e = .returned (.int .i64 (szV t1)) ∧ Below W.heap.size W w' := fun W h => nodes_any t1 (by omega) W _ (I1.out W (hR5.trans (h.mono hR5.size)))
    have hDx : ∀ W, Below W5.heap.size W5 W → Calls Try.prog 7 #[.agg #[.int .i64 5, .int .i64 0, .string ⟨#[]⟩, .slice (some ⟨g5, 0, none⟩) 2 2]] W fun e w' => e = .returned (.int .i64 (((max (deepV t0) (deepV t1) : Nat) : Int) + 1)) ∧ Below W.heap.size W w' := fun W h => by
      have := deep_any (two t0 t1) (by rw [two_sz]; omega) W _ (jx W h); rwa [two_deep, Int.natCast_add] at this
    have hNx : ∀ W, Below W5.heap.size W5 W → Calls Try.prog 8 #[.agg #[.int .i64 5, .int .i64 0, .string ⟨#[]⟩, .slice (some ⟨g5, 0, none⟩) 2 2]] W fun e w' => e = .returned (.int .i64 ((szV t0 : Int) + (szV t1 : Int) + 1)) ∧ Below W.heap.size W w' := fun W h => by
      have := nodes_any (two t0 t1) (by rw [two_sz]; omega) W _ (jx W h); rwa [two_sz, Int.natCast_add, Int.natCast_add] at this
    have hCx : ∀ W, Below W5.heap.size W5 W → Calls Try.prog 9 #[.agg #[.int .i64 5, .int .i64 0, .string ⟨#[]⟩, .slice (some ⟨g5, 0, none⟩) 2 2], .agg #[.int .i64 5, .int .i64 0, .string ⟨#[]⟩, .slice (some ⟨g6, 0, none⟩) 2 2]] W fun e w' => e = .returned (.int .i64 (cmpV t0 t1)) ∧ Below W.heap.size W w' := fun W h => by
      have := compare_any (two t0 t1) (two t1 t0) W _ _ (jx W h) (jy W h); rwa [two_cmp] at this
    have hCab : ∀ W, Below W5.heap.size W5 W → Calls Try.prog 9 #[.agg #[.int .i64 k0, .int .i64 n0, .string s0, .slice b0 l0 p0], .agg #[.int .i64 k1, .int .i64 n1, .string s1, .slice b1 l1 p1]] W fun e w' => e = .returned (.int .i64 (cmpV t0 t1)) ∧ Below W.heap.size W w' := fun W h => compare_any t0 t1 W _ _ (I0.out W (hR5.trans (h.mono hR5.size))) (I1.out W (hR5.trans (h.mono hR5.size)))
    have hRx : ∀ W, Below W5.heap.size W5 W → Calls Try.prog 6 #[.agg #[.int .i64 5, .int .i64 0, .string ⟨#[]⟩, .slice (some ⟨g5, 0, none⟩) 2 2]] W fun e w' => e = .returned (.bool (decide (max (deepV t0) (deepV t1) < 4) && decide (szV t0 + szV t1 + 1 ≤ 100))) ∧ Below W.heap.size W w' := fun W h => by
      have := right_any (two t0 t1) (by rw [two_sz]; omega) W _ (jx W h); rwa [two_right t0 t1 era erb] at this
    generalize hd : max (deepV t0) (deepV t1) = d at *
    generalize deepV t0 = da at *
    generalize deepV t1 = db at *
    generalize szV t0 = sa at *
    generalize szV t1 = sb at *
    generalize cmpV t0 t1 = c at *
    have HDa := Lib.hid hDa; have HDb := Lib.hid hDb; have HNa := Lib.hid hNa; have HNb := Lib.hid hNb; have HDx := Lib.hid hDx; have HNx := Lib.hid hNx; have HCx := Lib.hid hCx; have HCab := Lib.hid hCab; have HRx := Lib.hid hRx
    clear hDa hDb hNa hNb hDx hNx hCx hCab hRx jx jy I0 I1 w0 w1 hna hnb ega egb era erb u5 u6 hB2
    obtain ⟨⟨c0, c1, c2, c3⟩, d0, d1, d2, d3⟩ := box2_cells hR5
    have hB := Below.refl W5.heap.size W5
    go_upto_if 39 with (first
      | (go_at_call 7; (first | with_reducible refine (HDa.out _ hB).mono ?_ | with_reducible refine (HDb.out _ hB).mono ?_); rintro e w4 ⟨rfl, hq⟩; have hB := hB.trans (hq.mono hB.size); obtain ⟨⟨c0, c1, c2, c3⟩, d0, d1, d2, d3⟩ := box2_cells (hR5.trans (hB.mono hR5.size))))
    go_cut [7] (fun s7 W => s7 = .int .i64 (d : Int) ∧ Below W5.heap.size W5 W)
    case first =>
      rcases Nat.lt_or_ge da db with hlt | hge
      · have hdl : decide (da < db) = true := by simpa using hlt
        obtain rfl : d = db := by omega
        go_wp2_with (first
          | (go_at_call 7; (first | with_reducible refine (HDa.out _ hB).mono ?_ | with_reducible refine (HDb.out _ hB).mono ?_); rintro e w4 ⟨rfl, hq⟩; have hB := hB.trans (hq.mono hB.size)))
        all_goals (first | (exfalso; omega) | (go_meet; exact ⟨rfl, hB⟩))
      · have hdl : decide (da < db) = false := by simpa using hge
        obtain rfl : d = da := by omega
        go_wp2_with fail
        all_goals (first | (exfalso; omega) | (go_meet; exact ⟨rfl, hB⟩))
    case rest =>
      obtain ⟨rfl, hB9⟩ := hcut
      clear hB c0 c1 c2 c3 d0 d1 d2 d3
      have hbb := box2_cells (hR5.trans (hB9.mono hR5.size))
      have hbase := Lib.hid (show ((((wc.cell? ⟨w.heap.size, 0, none⟩ = some (.int .i64 k0) ∧ wc.cell? ⟨w.heap.size, 1, none⟩ = some (.int .i64 n0)) ∧ (wc.cell? ⟨w.heap.size, 2, none⟩ = some (.string s0) ∧ wc.cell? ⟨w.heap.size, 3, none⟩ = some (.slice b0 l0 p0))) ∧ ((wc.cell? ⟨w.heap.size + 1, 0, none⟩ = some (.int .i64 k1) ∧ wc.cell? ⟨w.heap.size + 1, 1, none⟩ = some (.int .i64 n1)) ∧ (wc.cell? ⟨w.heap.size + 1, 2, none⟩ = some (.string s1) ∧ wc.cell? ⟨w.heap.size + 1, 3, none⟩ = some (.slice b1 l1 p1)))) ∧ (((wc.cell? ⟨b5, 0, none⟩ = some (.int .i64 5) ∧ wc.cell? ⟨b5, 1, none⟩ = some (.int .i64 0)) ∧ (wc.cell? ⟨b5, 2, none⟩ = some (.string ⟨#[]⟩) ∧ wc.cell? ⟨b5, 3, none⟩ = some (.slice (some ⟨g5, 0, none⟩) 2 2))) ∧ ((wc.cell? ⟨b6, 0, none⟩ = some (.int .i64 5) ∧ wc.cell? ⟨b6, 1, none⟩ = some (.int .i64 0)) ∧ (wc.cell? ⟨b6, 2, none⟩ = some (.string ⟨#[]⟩) ∧ wc.cell? ⟨b6, 3, none⟩ = some (.slice (some ⟨g6, 0, none⟩) 2 2))))) ∧ Below W5.heap.size W5 wc from
        ⟨⟨⟨⟨⟨hbb.1.1, hbb.1.2.1⟩, hbb.1.2.2.1, hbb.1.2.2.2⟩, ⟨hbb.2.1, hbb.2.2.1⟩, hbb.2.2.2.1, hbb.2.2.2.2⟩, box_of (vat_below hB9 v5), box_of (vat_below hB9 v6)⟩, hB9⟩)
      have hw1 : IntKind.i64.wrap ((d : Int) + 1) = (d : Int) + 1 := IntWalk.i64_in _ (by omega)
      have hw2 : IntKind.i64.wrap ((sa : Int) + (sb : Int)) = (sa : Int) + (sb : Int) := IntWalk.i64_in _ (by omega)
      have hw3 : IntKind.i64.wrap ((sa : Int) + (sb : Int) + 1) = (sa : Int) + (sb : Int) + 1 := IntWalk.i64_in _ (by omega)
      clear hbb hR5 hd v5 v6 HDa HDb hB9
      by_cases h4 : d < 4
      · have hbase2 := hbase.out
        have hd4 : decide ((d : Int) < 4) = true := by simp; omega
        have hs4 : decide (sa + sb + 1 ≤ 100) = decide ((sa : Int) + (sb : Int) + 1 ≤ 100) := by
          by_cases h : sa + sb + 1 ≤ 100
          · rw [decide_eq_true h, decide_eq_true (by omega)]
          · rw [decide_eq_false h, decide_eq_false (by omega)]
        obtain ⟨P, hP⟩ : ∃ P, decide ((sa : Int) + (sb : Int) + 1 ≤ 100) = P := ⟨_, rfl⟩
        have HR : Hid (∀ W, Below W5.heap.size W5 W → Calls Try.prog 6 #[.agg #[.int .i64 5, .int .i64 0, .string ⟨#[]⟩, .slice (some ⟨g5, 0, none⟩) 2 2]] W fun e w' => e = .returned (.bool P) ∧ Below W.heap.size W w') := fun W h => by
          have := HRx.out W h; rwa [decide_eq_true h4, Bool.true_and, hs4, hP] at this
        clear HRx
        go_wp2_with fail
        go_region_held3 (fun W => ((((W.cell? ⟨w.heap.size, 0, none⟩ = some (.int .i64 k0) ∧ W.cell? ⟨w.heap.size, 1, none⟩ = some (.int .i64 n0)) ∧ (W.cell? ⟨w.heap.size, 2, none⟩ = some (.string s0) ∧ W.cell? ⟨w.heap.size, 3, none⟩ = some (.slice b0 l0 p0))) ∧ ((W.cell? ⟨w.heap.size + 1, 0, none⟩ = some (.int .i64 k1) ∧ W.cell? ⟨w.heap.size + 1, 1, none⟩ = some (.int .i64 n1)) ∧ (W.cell? ⟨w.heap.size + 1, 2, none⟩ = some (.string s1) ∧ W.cell? ⟨w.heap.size + 1, 3, none⟩ = some (.slice b1 l1 p1)))) ∧ (((W.cell? ⟨b5, 0, none⟩ = some (.int .i64 5) ∧ W.cell? ⟨b5, 1, none⟩ = some (.int .i64 0)) ∧ (W.cell? ⟨b5, 2, none⟩ = some (.string ⟨#[]⟩) ∧ W.cell? ⟨b5, 3, none⟩ = some (.slice (some ⟨g5, 0, none⟩) 2 2))) ∧ ((W.cell? ⟨b6, 0, none⟩ = some (.int .i64 5) ∧ W.cell? ⟨b6, 1, none⟩ = some (.int .i64 0)) ∧ (W.cell? ⟨b6, 2, none⟩ = some (.string ⟨#[]⟩) ∧ W.cell? ⟨b6, 3, none⟩ = some (.slice (some ⟨g6, 0, none⟩) 2 2))))) ∧ Below W5.heap.size W5 W)
          (first | assumption | exact keep16 (by assumption) hb | exact keep16 hbase.out (below_drew _)) (first
          | (go_at_call 7; (with_reducible refine (HDx.out _ (keepB16 (by assumption))).mono ?_); rintro e w' ⟨rfl, hb⟩)
          | (go_at_call 8; (first | with_reducible refine (HNx.out _ (keepB16 (by assumption))).mono ?_ | with_reducible refine (HNa.out _ (keepB16 (by assumption))).mono ?_ | with_reducible refine (HNb.out _ (keepB16 (by assumption))).mono ?_); rintro e w' ⟨rfl, hb⟩)
          | (go_at_call 9; (first | with_reducible refine (HCx.out _ (keepB16 (by assumption))).mono ?_ | with_reducible refine (HCab.out _ (keepB16 (by assumption))).mono ?_); rintro e w' ⟨rfl, hb⟩)
          | (go_at_call 6; (with_reducible refine (HR.out _ (keepB16 (by assumption))).mono ?_); rintro e w' ⟨rfl, hb⟩))
        all_goals (
          go_wp2_with fail
          go_ret
          exact ⟨rfl, hB6.trans ((keepB16 (by assumption)).mono hB6.size)⟩)
      · have hd4 : decide ((d : Int) < 4) = false := by simp; omega
        have hd4n : decide (d < 4) = false := by simp; omega
        have HR : Hid (∀ W, Below W5.heap.size W5 W → Calls Try.prog 6 #[.agg #[.int .i64 5, .int .i64 0, .string ⟨#[]⟩, .slice (some ⟨g5, 0, none⟩) 2 2]] W fun e w' => e = .returned (.bool false) ∧ Below W.heap.size W w') := fun W h => by
          have := HRx.out W h; rwa [decide_eq_false h4, Bool.false_and] at this
        clear HRx
        go_wp2_with fail
        have hbase2 := hbase.out
        refine wp_region_quiet (C := fun W => ((((W.cell? ⟨w.heap.size, 0, none⟩ = some (.int .i64 k0) ∧ W.cell? ⟨w.heap.size, 1, none⟩ = some (.int .i64 n0)) ∧ (W.cell? ⟨w.heap.size, 2, none⟩ = some (.string s0) ∧ W.cell? ⟨w.heap.size, 3, none⟩ = some (.slice b0 l0 p0))) ∧ ((W.cell? ⟨w.heap.size + 1, 0, none⟩ = some (.int .i64 k1) ∧ W.cell? ⟨w.heap.size + 1, 1, none⟩ = some (.int .i64 n1)) ∧ (W.cell? ⟨w.heap.size + 1, 2, none⟩ = some (.string s1) ∧ W.cell? ⟨w.heap.size + 1, 3, none⟩ = some (.slice b1 l1 p1)))) ∧ (((W.cell? ⟨b5, 0, none⟩ = some (.int .i64 5) ∧ W.cell? ⟨b5, 1, none⟩ = some (.int .i64 0)) ∧ (W.cell? ⟨b5, 2, none⟩ = some (.string ⟨#[]⟩) ∧ W.cell? ⟨b5, 3, none⟩ = some (.slice (some ⟨g5, 0, none⟩) 2 2))) ∧ ((W.cell? ⟨b6, 0, none⟩ = some (.int .i64 5) ∧ W.cell? ⟨b6, 1, none⟩ = some (.int .i64 0)) ∧ (W.cell? ⟨b6, 2, none⟩ = some (.string ⟨#[]⟩) ∧ W.cell? ⟨b6, 3, none⟩ = some (.slice (some ⟨g6, 0, none⟩) 2 2))))) ∧ Below W5.heap.size W5 W) (by kernel_rfl) (by kernel_rfl) (keep16 hbase2 (below_drew wc)) ?_
        clear hbase2
        iterate 38 (first
          | (refine BigFrame.wpQuiet_skip (by rfl) ?_; simp only [Act.put, List.setIfInBounds_toArray, List.set_cons_zero, List.set_cons_succ])
          | (refine BigFrame.wpQuiet_want (by rfl) (fun K hK => ?_)
             apply quiet_run
             · intro W hC
               unfold Oper.quietAt
               have HC := Lib.hid hC
               obtain ⟨⟨⟨⟨⟨x0, x1⟩, x2, x3⟩, ⟨x4, x5⟩, x6, x7⟩, ⟨⟨x8, x9⟩, x10, x11⟩, ⟨x12, x13⟩, x14, x15⟩, _⟩ := hC
               go_simp
               first
                 | done
                 | with_reducible rfl
                 | ((with_reducible refine (HDx.out _ HC.out.2).mono ?_); exact fun e w' ⟨he, hb⟩ => ⟨he, keep16 HC.out hb⟩)
                 | ((with_reducible refine (HNx.out _ HC.out.2).mono ?_); exact fun e w' ⟨he, hb⟩ => ⟨he, keep16 HC.out hb⟩)
                 | ((with_reducible refine (HNa.out _ HC.out.2).mono ?_); exact fun e w' ⟨he, hb⟩ => ⟨he, keep16 HC.out hb⟩)
                 | ((with_reducible refine (HNb.out _ HC.out.2).mono ?_); exact fun e w' ⟨he, hb⟩ => ⟨he, keep16 HC.out hb⟩)
                 | ((with_reducible refine (HCx.out _ HC.out.2).mono ?_); exact fun e w' ⟨he, hb⟩ => ⟨he, keep16 HC.out hb⟩)
                 | ((with_reducible refine (HCab.out _ HC.out.2).mono ?_); exact fun e w' ⟨he, hb⟩ => ⟨he, keep16 HC.out hb⟩)
                 | ((with_reducible refine (HR.out _ HC.out.2).mono ?_); exact fun e w' ⟨he, hb⟩ => ⟨he, keep16 HC.out hb⟩)
             refine hK _ ?_; clear hK K; simp only [Act.put, List.setIfInBounds_toArray, List.set_cons_zero, List.set_cons_succ]))
        refine wpQuiet_nil ?_
        intro W9 hC9
        go_wp2_with fail
        go_ret
        exact ⟨rfl, hB6.trans (hC9.2.mono hB6.size)⟩
end Go.Proofs.Ytchjipkfdnfgpab.valueListsWalk
