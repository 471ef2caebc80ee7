/- Proved: the statement VtextLists: the text of a list is its values' texts between brackets, and is read as the list, if that is right; for every input, without any condition. (Out of its walk: the frame alone, the arguments are opened, and shut again as they were.) -/
import Derived.Test.YtfapoicnkdallaaMh39Thre
import Derived.Test.YtfapoicnkdallaaMh41Thre
import Derived.Test.YtfapoicnkdallaaMh42Thre
import Derived.Test.YtfapoicnkdallaaMh45Thre
import Derived.Test.YtfapoicnkdallaaMh47Thre
import Derived.Deep.DeepCutAuto
import Derived.Deep.RegionHeld3
import Derived.ProofKit
import Derived.OpenShut
import Derived.ShutString
import Derived.ChangeOld
import Derived.Below
set_option linter.unusedVariables false
set_option linter.unusedSimpArgs false
namespace Go.Proofs.Ytfapoicnkdallaa.vtextListsWalk
open Go.RowKit Go.Shelf
theorem size_of (l : List Int) : (strOfNums l).size = l.length := by unfold strOfNums; simp [ByteArray.size]
theorem keep8 {b b' : Nat} {c0 c1 c2 c3 d0 d1 d2 d3 : Value} {W0 W W' : World}
    (h : (((W.cell? ⟨b, 0, none⟩ = some c0 ∧ W.cell? ⟨b, 1, none⟩ = some c1) ∧ (W.cell? ⟨b, 2, none⟩ = some c2 ∧ W.cell? ⟨b, 3, none⟩ = some c3)) ∧ ((W.cell? ⟨b', 0, none⟩ = some d0 ∧ W.cell? ⟨b', 1, none⟩ = some d1) ∧ (W.cell? ⟨b', 2, none⟩ = some d2 ∧ W.cell? ⟨b', 3, none⟩ = some d3))) ∧ Below W0.heap.size W0 W) (hb : Below W.heap.size W W') :
    (((W'.cell? ⟨b, 0, none⟩ = some c0 ∧ W'.cell? ⟨b, 1, none⟩ = some c1) ∧ (W'.cell? ⟨b, 2, none⟩ = some c2 ∧ W'.cell? ⟨b, 3, none⟩ = some c3)) ∧ ((W'.cell? ⟨b', 0, none⟩ = some d0 ∧ W'.cell? ⟨b', 1, none⟩ = some d1) ∧ (W'.cell? ⟨b', 2, none⟩ = some d2 ∧ W'.cell? ⟨b', 3, none⟩ = some d3))) ∧ Below W0.heap.size W0 W' :=
  ⟨⟨⟨⟨cell_below hb h.1.1.1.1, cell_below hb h.1.1.1.2⟩, cell_below hb h.1.1.2.1, cell_below hb h.1.1.2.2⟩, ⟨cell_below hb h.1.2.1.1, cell_below hb h.1.2.1.2⟩, cell_below hb h.1.2.2.1, cell_below hb h.1.2.2.2⟩, h.2.trans (hb.mono h.2.size)⟩
theorem keepB8 {b b' : Nat} {c0 c1 c2 c3 d0 d1 d2 d3 : Value} {W0 W : World}
    (h : (((W.cell? ⟨b, 0, none⟩ = some c0 ∧ W.cell? ⟨b, 1, none⟩ = some c1) ∧ (W.cell? ⟨b, 2, none⟩ = some c2 ∧ W.cell? ⟨b, 3, none⟩ = some c3)) ∧ ((W.cell? ⟨b', 0, none⟩ = some d0 ∧ W.cell? ⟨b', 1, none⟩ = some d1) ∧ (W.cell? ⟨b', 2, none⟩ = some d2 ∧ W.cell? ⟨b', 3, none⟩ = some d3))) ∧ Below W0.heap.size W0 W) : Below W0.heap.size W0 W := h.2
theorem i64_lit14 (n : Int) (h : (decide (-9223372036854775808 ≤ n) && decide (n ≤ 9223372036854775807)) = true) : I64 n := by simpa [I64] using h
theorem vat_new' {W : World} {b : Nat} {cs : Array Value} (h : b = W.heap.size) : VAt (W.alloc (.cells cs 25)) b cs := by subst h; exact vat_alloc _ _
theorem vat_up {W : World} {b : Nat} {cs : Array Value} {o : Obj} (h : VAt W b cs) : VAt (W.alloc o) b cs := vat_below ((Below.refl _ W).alloc (Nat.le_refl _) o) h
theorem ab_refl (w : World) : Below w.heap.size w w := Below.refl _ _
theorem two_is {W : World} {g : Nat} {c0 c1 c2 c3 d0 d1 d2 d3 : Value} (h : VAt W g #[c0, c1, c2, c3, d0, d1, d2, d3]) {a b : PV} (ha : Is W a (.agg #[c0, c1, c2, c3])) (hb : Is W b (.agg #[d0, d1, d2, d3])) :
    Is W (two a b) (.agg #[.int .i64 5, .int .i64 0, .string ⟨#[]⟩, .slice (some ⟨g, 0, none⟩) 2 2]) := by
  unfold two Is
  refine ⟨i64_lit14 _ rfl, i64_lit14 _ rfl, by unfold maxLen; decide, some ⟨g, 0, none⟩, 2, rfl, by simp, by unfold maxLen; decide, .inr ⟨g, 0, rfl, ?_⟩⟩
  unfold IsL IsL IsL
  exact ⟨⟨c0, c1, c2, c3, ⟨vat_cell h 0 _ rfl, vat_cell h 1 _ rfl, vat_cell h 2 _ rfl, vat_cell h 3 _ rfl⟩, ha⟩, ⟨d0, d1, d2, d3, ⟨vat_cell h 4 _ rfl, vat_cell h 5 _ rfl, vat_cell h 6 _ rfl, vat_cell h 7 _ rfl⟩, hb⟩, trivial⟩
theorem str_two (a b : PV) : strOfNums (textV (two a b)) = (⟨#[91]⟩ ++ strOfNums (textV a) ++ ⟨#[32]⟩ ++ strOfNums (textV b)) ++ (⟨#[93]⟩ : ByteArray) := by
  unfold two
  rw [text5]
  simp only [textL, textM]
  apply ByteArray.ext
  simp [strOfNums]
theorem two_ok (a b : PV) (ha : rightV a = true) (hb : rightV b = true) : okV (two a b) = true := by
  obtain ⟨_, _, h1⟩ := Vt.right_ok ha
  obtain ⟨_, _, h2⟩ := Vt.right_ok hb
  unfold two
  rw [okV5]
  simp [okL, h1, h2]
theorem two_nums {a b : PV} (ha : numsV a) (hb : numsV b) : numsV (two a b) := by
  unfold two numsV numsV.numsL numsV.numsL numsV.numsL
  exact ⟨i64_lit14 _ rfl, ha, hb, trivial⟩
set_option maxRecDepth 100000 in
set_option maxHeartbeats 8000000 in
theorem walk (t0 : PV) (v0 : Value) (t1 : PV) (v1 : Value) (w : World) (w0 : Is w t0 v0) (w1 : Is w t1 v1) :
    Calls Try.prog 7 #[v0, v1] w fun e w' => e = .returned (.bool true) ∧ Below w.heap.size w w' := by
  have hal := fun W => vtAlive_any W
  have hga := fun W h => great_any t0 W v0 h
  have hgb := fun W h => great_any t1 W v1 h
  have hza := great_sz t0
  have hzb := great_sz t1
  have hna := nums_is t0 v0 w0
  have hnb := nums_is t1 v1 w1
  have hra := fun h W hi => right_any t0 h W v0 hi
  have hrb := fun h W hi => right_any t1 h W v1 hi
  obtain ⟨ga, ega⟩ : ∃ g, greatV t0 = g := ⟨_, rfl⟩
  obtain ⟨gb, egb⟩ : ∃ g, greatV t1 = g := ⟨_, rfl⟩
  obtain ⟨ra, era⟩ : ∃ g, rightV t0 = g := ⟨_, rfl⟩
  obtain ⟨rb, erb⟩ : ∃ g, rightV t1 = g := ⟨_, rfl⟩
  rw [ega] at hga hza
  rw [egb] at hgb hzb
  rw [era] at hra
  rw [erb] at hrb
  have hv0 : ∃ k n s l a c, v0 = .agg #[.int .i64 k, .int .i64 n, .string s, .slice a l c] := by
    cases t0 with | mk k n s l => unfold Is at w0; obtain ⟨_, _, _, a, c, e, _⟩ := w0; exact ⟨_, _, _, _, _, _, e⟩
  have hv1 : ∃ k n s l a c, v1 = .agg #[.int .i64 k, .int .i64 n, .string s, .slice a l c] := by
    cases t1 with | mk k n s l => unfold Is at w1; obtain ⟨_, _, _, a, c, e, _⟩ := w1; exact ⟨_, _, _, _, _, _, e⟩
  obtain ⟨k0, n0, s0, l0, b0, p0, rfl⟩ := hv0
  obtain ⟨k1, n1, s1, l1, b1, p1, rfl⟩ := hv1
  have hW0 := Lib.hid (is_below ((Below.refl _ w).alloc (Nat.le_refl _) (vobj k0 n0 s0 b0 l0 p0)) _ _ w0)
  have hB1 := (Below.refl _ w).alloc (Nat.le_refl _) (vobj k0 n0 s0 b0 l0 p0)
  have hB2 := hB1.alloc hB1.size (vobj k1 n1 s1 b1 l1 p1)
  have hi0 : ∀ W, Below ((w.alloc (vobj k0 n0 s0 b0 l0 p0)).alloc (vobj k1 n1 s1 b1 l1 p1)).heap.size ((w.alloc (vobj k0 n0 s0 b0 l0 p0)).alloc (vobj k1 n1 s1 b1 l1 p1)) W → Is W t0 (.agg #[.int .i64 k0, .int .i64 n0, .string s0, .slice b0 l0 p0]) := fun W h => is_below h _ _ (is_below hB2 _ _ w0)
  have hi1 : ∀ W, Below ((w.alloc (vobj k0 n0 s0 b0 l0 p0)).alloc (vobj k1 n1 s1 b1 l1 p1)).heap.size ((w.alloc (vobj k0 n0 s0 b0 l0 p0)).alloc (vobj k1 n1 s1 b1 l1 p1)) W → Is W t1 (.agg #[.int .i64 k1, .int .i64 n1, .string s1, .slice b1 l1 p1]) := fun W h => is_below h _ _ (is_below hB2 _ _ w1)
  have I0 := Lib.hid hi0; have I1 := Lib.hid hi1
  clear hi0 hi1 hW0
  have hR0 := Below.refl ((w.alloc (vobj k0 n0 s0 b0 l0 p0)).alloc (vobj k1 n1 s1 b1 l1 p1)).heap.size ((w.alloc (vobj k0 n0 s0 b0 l0 p0)).alloc (vobj k1 n1 s1 b1 l1 p1))
  cases ga with
  | true =>
    clear hra hrb hgb
    go_enter Try.func7, Try.ntmps7
    go_wp2_with (first
      | (go_at_call 8; (with_reducible refine (hal _).mono ?_); rintro e w3 ⟨rfl, hq⟩; have hR := hR0.trans (hq.mono hR0.size); clear hq; obtain ⟨⟨c0, c1, c2, c3⟩, d0, d1, d2, d3⟩ := box2_cells hR)
      | (go_at_call 14; (with_reducible refine (hga _ (I0.out _ hR)).mono ?_); rintro e w3 ⟨rfl, hq⟩; have hR := hR.trans (hq.mono hR.size)))
    go_ret
    exact ⟨rfl, hB2.trans (hR.mono hB2.size)⟩
  | false =>
  replace hza := hza rfl
  cases gb with
  | true =>
    clear hra hrb
    go_enter Try.func7, Try.ntmps7
    go_wp2_with (first
      | (go_at_call 8; (with_reducible refine (hal _).mono ?_); rintro e w3 ⟨rfl, hq⟩; have hR := hR0.trans (hq.mono hR0.size); clear hq; obtain ⟨⟨c0, c1, c2, c3⟩, d0, d1, d2, d3⟩ := box2_cells hR)
      | (go_at_call 14; (first | with_reducible refine (hga _ (I0.out _ hR)).mono ?_ | with_reducible refine (hgb _ (I1.out _ hR)).mono ?_); rintro e w3 ⟨rfl, hq⟩; have hR9 := hR.trans (hq.mono hR.size); clear hR hq c0 c1 c2 c3 d0 d1 d2 d3; have hR := hR9; clear hR9; obtain ⟨⟨c0, c1, c2, c3⟩, d0, d1, d2, d3⟩ := box2_cells hR))
    go_ret
    exact ⟨rfl, hB2.trans (hR.mono hB2.size)⟩
  | false =>
  replace hzb := hzb rfl
  replace hra := hra (by omega)
  replace hrb := hrb (by omega)
  cases ra with
  | false =>
    go_enter Try.func7, Try.ntmps7
    go_wp2_with (first
      | (go_at_call 8; (with_reducible refine (hal _).mono ?_); rintro e w3 ⟨rfl, hq⟩; have hR := hR0.trans (hq.mono hR0.size); clear hq; obtain ⟨⟨c0, c1, c2, c3⟩, d0, d1, d2, d3⟩ := box2_cells hR)
      | (go_at_call 14; (first | with_reducible refine (hga _ (I0.out _ hR)).mono ?_ | with_reducible refine (hgb _ (I1.out _ hR)).mono ?_); rintro e w3 ⟨rfl, hq⟩; have hR9 := hR.trans (hq.mono hR.size); clear hR hq c0 c1 c2 c3 d0 d1 d2 d3; have hR := hR9; clear hR9; obtain ⟨⟨c0, c1, c2, c3⟩, d0, d1, d2, d3⟩ := box2_cells hR)
      | (go_at_call 15; (with_reducible refine (hra _ (I0.out _ hR)).mono ?_); rintro e w3 ⟨rfl, hq⟩; have hR9 := hR.trans (hq.mono hR.size); clear hR hq c0 c1 c2 c3 d0 d1 d2 d3; have hR := hR9; clear hR9; obtain ⟨⟨c0, c1, c2, c3⟩, d0, d1, d2, d3⟩ := box2_cells hR))
    go_ret
    exact ⟨rfl, hB2.trans (hR.mono hB2.size)⟩
  | true =>
  cases rb with
  | false =>
    go_enter Try.func7, Try.ntmps7
    go_wp2_with (first
      | (go_at_call 8; (with_reducible refine (hal _).mono ?_); rintro e w3 ⟨rfl, hq⟩; have hR := hR0.trans (hq.mono hR0.size); clear hq; obtain ⟨⟨c0, c1, c2, c3⟩, d0, d1, d2, d3⟩ := box2_cells hR)
      | (go_at_call 14; (first | with_reducible refine (hga _ (I0.out _ hR)).mono ?_ | with_reducible refine (hgb _ (I1.out _ hR)).mono ?_); rintro e w3 ⟨rfl, hq⟩; have hR9 := hR.trans (hq.mono hR.size); clear hR hq c0 c1 c2 c3 d0 d1 d2 d3; have hR := hR9; clear hR9; obtain ⟨⟨c0, c1, c2, c3⟩, d0, d1, d2, d3⟩ := box2_cells hR)
      | (go_at_call 15; (first | with_reducible refine (hra _ (I0.out _ hR)).mono ?_ | with_reducible refine (hrb _ (I1.out _ hR)).mono ?_); rintro e w3 ⟨rfl, hq⟩; have hR9 := hR.trans (hq.mono hR.size); clear hR hq c0 c1 c2 c3 d0 d1 d2 d3; have hR := hR9; clear hR9; obtain ⟨⟨c0, c1, c2, c3⟩, d0, d1, d2, d3⟩ := box2_cells hR))
    go_ret
    exact ⟨rfl, hB2.trans (hR.mono hB2.size)⟩
  | true =>
  go_enter Try.func7, Try.ntmps7
  go_upto_region 5 with (first
      | (go_at_call 8; (with_reducible refine (hal _).mono ?_); rintro e w3 ⟨rfl, hq⟩; have hR := hR0.trans (hq.mono hR0.size); clear hq; obtain ⟨⟨c0, c1, c2, c3⟩, d0, d1, d2, d3⟩ := box2_cells hR)
      | (go_at_call 14; (first | with_reducible refine (hga _ (I0.out _ hR)).mono ?_ | with_reducible refine (hgb _ (I1.out _ hR)).mono ?_); rintro e w3 ⟨rfl, hq⟩; have hR9 := hR.trans (hq.mono hR.size); clear hR hq c0 c1 c2 c3 d0 d1 d2 d3; have hR := hR9; clear hR9; obtain ⟨⟨c0, c1, c2, c3⟩, d0, d1, d2, d3⟩ := box2_cells hR)
      | (go_at_call 15; (first | with_reducible refine (hra _ (I0.out _ hR)).mono ?_ | with_reducible refine (hrb _ (I1.out _ hR)).mono ?_); rintro e w3 ⟨rfl, hq⟩; have hR9 := hR.trans (hq.mono hR.size); clear hR hq c0 c1 c2 c3 d0 d1 d2 d3; have hR := hR9; clear hR9; obtain ⟨⟨c0, c1, c2, c3⟩, d0, d1, d2, d3⟩ := box2_cells hR))
  have hoa := (Vt.right_ok era).2.2
  have hob := (Vt.right_ok erb).2.2
  have hta := text_short14 t0 hoa hna
  have htb := text_short14 t1 hob hnb
  have hT0 := fun W (h : Below w3.heap.size w3 W) => text_any t0 (by omega) W _ (I0.out W (hR.trans (h.mono hR.size)))
  have hT1 := fun W (h : Below w3.heap.size w3 W) => text_any t1 (by omega) W _ (I1.out W (hR.trans (h.mono hR.size)))
  obtain ⟨X0, hX0⟩ : ∃ X, strOfNums (textV t0) = X := ⟨_, rfl⟩
  obtain ⟨X1, hX1⟩ : ∃ X, strOfNums (textV t1) = X := ⟨_, rfl⟩
  have hz0 : X0.size ≤ 410000 := by rw [← hX0, size_of]; omega
  have hz1 : X1.size ≤ 410000 := by rw [← hX1, size_of]; omega
  have hss := str_two t0 t1
  rw [hX0] at hT0 hss
  rw [hX1] at hT1 hss
  have HT0 := Lib.hid hT0; have HT1 := Lib.hid hT1
  clear hT0 hT1
  have hc1 : ¬ 9223372036854775807 < 1 + X0.size := by omega
  have hc2 : ¬ 9223372036854775807 < 1 + X0.size + 1 := by omega
  have hc3 : ¬ 9223372036854775807 < 1 + X0.size + 1 + X1.size := by omega
  have hc4 : ¬ 9223372036854775807 < 1 + X0.size + 1 + X1.size + 1 := by omega
  go_cut [5] (fun s5 W => s5 = .string (strOfNums (textV (two t0 t1))) ∧ Below w3.heap.size w3 W)
  case first =>
    clear hal hga hgb hra hrb hza hzb hB1 hR0 I0 I1 w0 w1 hna hnb ega egb era erb hR hB2
    go_region_held3 (fun W => (((W.cell? ⟨w.heap.size, 0, none⟩ = some (.int .i64 k0) ∧ W.cell? ⟨w.heap.size, 1, none⟩ = some (.int .i64 n0)) ∧ (W.cell? ⟨w.heap.size, 2, none⟩ = some (.string s0) ∧ W.cell? ⟨w.heap.size, 3, none⟩ = some (.slice b0 l0 p0))) ∧
        ((W.cell? ⟨w.heap.size + 1, 0, none⟩ = some (.int .i64 k1) ∧ W.cell? ⟨w.heap.size + 1, 1, none⟩ = some (.int .i64 n1)) ∧ (W.cell? ⟨w.heap.size + 1, 2, none⟩ = some (.string s1) ∧ W.cell? ⟨w.heap.size + 1, 3, none⟩ = some (.slice b1 l1 p1)))) ∧ Below w3.heap.size w3 W)
      (first | assumption | exact keep8 (by assumption) hb | exact keep8 ⟨⟨⟨⟨c0, c1⟩, c2, c3⟩, ⟨d0, d1⟩, d2, d3⟩, Below.refl _ _⟩ (below_drew _)) (first
      | (go_at_call 16; (first | with_reducible refine (HT0.out _ (keepB8 (by assumption))).mono ?_ | with_reducible refine (HT1.out _ (keepB8 (by assumption))).mono ?_); rintro e w' ⟨rfl, hb⟩))
    all_goals (
      go_wp2_with fail
      go_meet
      exact ⟨by rw [hss], keepB8 (by assumption)⟩)
  case rest =>
    obtain ⟨rfl, hB5⟩ := hcut
    have hR5 := hR.trans (hB5.mono hR.size)
    have hnn := two_nums hna hnb
    have hok := two_ok t0 t1 era erb
    have hsz2 : szV (two t0 t1) ≤ 201 := by rw [two_sz]; have := (Vt.right_ok era).2.1; have := (Vt.right_ok erb).2.1; omega
    have hln := text_short14 _ hok hnn
    have hQ := right_any (two t0 t1) (by omega)
    have hTX := text_any (two t0 t1) (by omega)
    have hS := same_any (two t0 t1) (two t0 t1)
    rw [(same_bool (two t0 t1) (two t0 t1)).2 rfl] at hS
    have hP := fun W => vparse_any (strOfNums (textV (two t0 t1))) (by rw [size_of]; omega) W
    rw [strB_strOfNums _ (text_bytes14 _ hnn)] at hP
    clear c0 c1 c2 c3 d0 d1 d2 d3 HT0 HT1 hal hga hgb hra hrb hza hzb hB1 hR0 hss hta htb
    obtain ⟨q, hq⟩ : ∃ q, rightV (two t0 t1) = q := ⟨_, rfl⟩
    rw [hq] at hQ
    cases q with
    | false =>
      obtain ⟨e1, e2⟩ := Vt.parse_deep hok hnn hq
      obtain ⟨⟨pv, px, pe⟩, hT⟩ : ∃ T, Vt.parse (textV (two t0 t1)) = T := ⟨_, rfl⟩
      simp only [hT] at hP e1 e2
      clear hT hln hsz2
      generalize strOfNums (textV (two t0 t1)) = S at *
      rcases e2 with rfl | rfl
      ·
        go_wp2_with (first
          | (go_at_call 12; (with_reducible refine (hP _).mono ?_); rintro e w6 ⟨d0', d1', d2', a6, l6, c6, rfl, hF6, hB6⟩; have K6 := hR5.trans (hB6.mono hR5.size); have k6 := K6.alloc K6.size (.cells #[.int .i64 d0', .int .i64 d1', .string d2', .slice a6 l6 c6] 25); obtain ⟨⟨c0, c1, c2, c3⟩, d0, d1, d2, d3⟩ := box2_cells k6; have K7 := (k6.alloc k6.size (.cells #[.int .i64 k0, .int .i64 n0, .string s0, .slice b0 l0 p0, .int .i64 k1, .int .i64 n1, .string s1, .slice b1 l1 p1] 25)).alloc (k6.alloc k6.size (.cells #[.int .i64 k0, .int .i64 n0, .string s0, .slice b0 l0 p0, .int .i64 k1, .int .i64 n1, .string s1, .slice b1 l1 p1] 25)).size (.cells #[.int .i64 5, .int .i64 0, .string ⟨#[]⟩, .slice (some ⟨w6.heap.size + 1, 0, none⟩) 2 2] 25); have u9 : VAt (((w6.alloc (.cells #[.int .i64 d0', .int .i64 d1', .string d2', .slice a6 l6 c6] 25)).alloc (.cells #[.int .i64 k0, .int .i64 n0, .string s0, .slice b0 l0 p0, .int .i64 k1, .int .i64 n1, .string s1, .slice b1 l1 p1] 25)).alloc (.cells #[.int .i64 5, .int .i64 0, .string ⟨#[]⟩, .slice (some ⟨w6.heap.size + 1, 0, none⟩) 2 2] 25)) (w6.heap.size + 2) _ := vat_new' (by simp); have u6 : VAt (((w6.alloc (.cells #[.int .i64 d0', .int .i64 d1', .string d2', .slice a6 l6 c6] 25)).alloc (.cells #[.int .i64 k0, .int .i64 n0, .string s0, .slice b0 l0 p0, .int .i64 k1, .int .i64 n1, .string s1, .slice b1 l1 p1] 25)).alloc (.cells #[.int .i64 5, .int .i64 0, .string ⟨#[]⟩, .slice (some ⟨w6.heap.size + 1, 0, none⟩) 2 2] 25)) w6.heap.size _ := vat_up (vat_up (vat_alloc w6 _)); have ur : VAt (((w6.alloc (.cells #[.int .i64 d0', .int .i64 d1', .string d2', .slice a6 l6 c6] 25)).alloc (.cells #[.int .i64 k0, .int .i64 n0, .string s0, .slice b0 l0 p0, .int .i64 k1, .int .i64 n1, .string s1, .slice b1 l1 p1] 25)).alloc (.cells #[.int .i64 5, .int .i64 0, .string ⟨#[]⟩, .slice (some ⟨w6.heap.size + 1, 0, none⟩) 2 2] 25)) (w6.heap.size + 1) _ := vat_up (vat_new' (by simp)); have hX7 := two_is ur (I0.out _ K7) (I1.out _ K7); have hV7 := is_below (((ab_refl w6).alloc (Nat.le_refl _) (.cells #[.int .i64 d0', .int .i64 d1', .string d2', .slice a6 l6 c6] 25)).alloc ((ab_refl w6).alloc (Nat.le_refl _) (.cells #[.int .i64 d0', .int .i64 d1', .string d2', .slice a6 l6 c6] 25)).size (.cells #[.int .i64 k0, .int .i64 n0, .string s0, .slice b0 l0 p0, .int .i64 k1, .int .i64 n1, .string s1, .slice b1 l1 p1] 25) |> fun h => h.alloc h.size (.cells #[.int .i64 5, .int .i64 0, .string ⟨#[]⟩, .slice (some ⟨w6.heap.size + 1, 0, none⟩) 2 2] 25)) _ _ (fresh_is hF6); obtain ⟨⟨x0, x1, x2, x3⟩, _⟩ := box4 u9)
          | (go_at_call 15; (with_reducible refine (hQ _ _ hX7).mono ?_); rintro e w8 ⟨rfl, hB8⟩; have K8 := K7.trans (hB8.mono K7.size); have hX8 := is_below hB8 _ _ hX7; have hV8 := is_below hB8 _ _ hV7; have u98 := vat_below hB8 u9; obtain ⟨⟨x0, x1, x2, x3⟩, _⟩ := box4 u98; obtain ⟨⟨y0, y1, y2, y3⟩, _⟩ := box4 (vat_below hB8 u6)))
        go_ret
        exact ⟨rfl, hB2.trans (K8.mono hB2.size)⟩
      ·
        go_wp2_with (first
          | (go_at_call 12; (with_reducible refine (hP _).mono ?_); rintro e w6 ⟨d0', d1', d2', a6, l6, c6, rfl, hF6, hB6⟩; have K6 := hR5.trans (hB6.mono hR5.size); have k6 := K6.alloc K6.size (.cells #[.int .i64 d0', .int .i64 d1', .string d2', .slice a6 l6 c6] 25); obtain ⟨⟨c0, c1, c2, c3⟩, d0, d1, d2, d3⟩ := box2_cells k6; have K7 := (k6.alloc k6.size (.cells #[.int .i64 k0, .int .i64 n0, .string s0, .slice b0 l0 p0, .int .i64 k1, .int .i64 n1, .string s1, .slice b1 l1 p1] 25)).alloc (k6.alloc k6.size (.cells #[.int .i64 k0, .int .i64 n0, .string s0, .slice b0 l0 p0, .int .i64 k1, .int .i64 n1, .string s1, .slice b1 l1 p1] 25)).size (.cells #[.int .i64 5, .int .i64 0, .string ⟨#[]⟩, .slice (some ⟨w6.heap.size + 1, 0, none⟩) 2 2] 25); have u9 : VAt (((w6.alloc (.cells #[.int .i64 d0', .int .i64 d1', .string d2', .slice a6 l6 c6] 25)).alloc (.cells #[.int .i64 k0, .int .i64 n0, .string s0, .slice b0 l0 p0, .int .i64 k1, .int .i64 n1, .string s1, .slice b1 l1 p1] 25)).alloc (.cells #[.int .i64 5, .int .i64 0, .string ⟨#[]⟩, .slice (some ⟨w6.heap.size + 1, 0, none⟩) 2 2] 25)) (w6.heap.size + 2) _ := vat_new' (by simp); have u6 : VAt (((w6.alloc (.cells #[.int .i64 d0', .int .i64 d1', .string d2', .slice a6 l6 c6] 25)).alloc (.cells #[.int .i64 k0, .int .i64 n0, .string s0, .slice b0 l0 p0, .int .i64 k1, .int .i64 n1, .string s1, .slice b1 l1 p1] 25)).alloc (.cells #[.int .i64 5, .int .i64 0, .string ⟨#[]⟩, .slice (some ⟨w6.heap.size + 1, 0, none⟩) 2 2] 25)) w6.heap.size _ := vat_up (vat_up (vat_alloc w6 _)); have ur : VAt (((w6.alloc (.cells #[.int .i64 d0', .int .i64 d1', .string d2', .slice a6 l6 c6] 25)).alloc (.cells #[.int .i64 k0, .int .i64 n0, .string s0, .slice b0 l0 p0, .int .i64 k1, .int .i64 n1, .string s1, .slice b1 l1 p1] 25)).alloc (.cells #[.int .i64 5, .int .i64 0, .string ⟨#[]⟩, .slice (some ⟨w6.heap.size + 1, 0, none⟩) 2 2] 25)) (w6.heap.size + 1) _ := vat_up (vat_new' (by simp)); have hX7 := two_is ur (I0.out _ K7) (I1.out _ K7); have hV7 := is_below (((ab_refl w6).alloc (Nat.le_refl _) (.cells #[.int .i64 d0', .int .i64 d1', .string d2', .slice a6 l6 c6] 25)).alloc ((ab_refl w6).alloc (Nat.le_refl _) (.cells #[.int .i64 d0', .int .i64 d1', .string d2', .slice a6 l6 c6] 25)).size (.cells #[.int .i64 k0, .int .i64 n0, .string s0, .slice b0 l0 p0, .int .i64 k1, .int .i64 n1, .string s1, .slice b1 l1 p1] 25) |> fun h => h.alloc h.size (.cells #[.int .i64 5, .int .i64 0, .string ⟨#[]⟩, .slice (some ⟨w6.heap.size + 1, 0, none⟩) 2 2] 25)) _ _ (fresh_is hF6); obtain ⟨⟨x0, x1, x2, x3⟩, _⟩ := box4 u9)
          | (go_at_call 15; (with_reducible refine (hQ _ _ hX7).mono ?_); rintro e w8 ⟨rfl, hB8⟩; have K8 := K7.trans (hB8.mono K7.size); have hX8 := is_below hB8 _ _ hX7; have hV8 := is_below hB8 _ _ hV7; have u98 := vat_below hB8 u9; obtain ⟨⟨x0, x1, x2, x3⟩, _⟩ := box4 u98; obtain ⟨⟨y0, y1, y2, y3⟩, _⟩ := box4 (vat_below hB8 u6)))
        go_ret
        exact ⟨rfl, hB2.trans (K8.mono hB2.size)⟩
    | true =>
      rw [Vt.parse_text hq hnn, ← size_of] at hP
      clear hln hsz2
      generalize strOfNums (textV (two t0 t1)) = S at *
      go_wp2_with (first
        | (go_at_call 12; (with_reducible refine (hP _).mono ?_); rintro e w6 ⟨d0', d1', d2', a6, l6, c6, rfl, hF6, hB6⟩; have K6 := hR5.trans (hB6.mono hR5.size); have k6 := K6.alloc K6.size (.cells #[.int .i64 d0', .int .i64 d1', .string d2', .slice a6 l6 c6] 25); obtain ⟨⟨c0, c1, c2, c3⟩, d0, d1, d2, d3⟩ := box2_cells k6; have K7 := (k6.alloc k6.size (.cells #[.int .i64 k0, .int .i64 n0, .string s0, .slice b0 l0 p0, .int .i64 k1, .int .i64 n1, .string s1, .slice b1 l1 p1] 25)).alloc (k6.alloc k6.size (.cells #[.int .i64 k0, .int .i64 n0, .string s0, .slice b0 l0 p0, .int .i64 k1, .int .i64 n1, .string s1, .slice b1 l1 p1] 25)).size (.cells #[.int .i64 5, .int .i64 0, .string ⟨#[]⟩, .slice (some ⟨w6.heap.size + 1, 0, none⟩) 2 2] 25); have u9 : VAt (((w6.alloc (.cells #[.int .i64 d0', .int .i64 d1', .string d2', .slice a6 l6 c6] 25)).alloc (.cells #[.int .i64 k0, .int .i64 n0, .string s0, .slice b0 l0 p0, .int .i64 k1, .int .i64 n1, .string s1, .slice b1 l1 p1] 25)).alloc (.cells #[.int .i64 5, .int .i64 0, .string ⟨#[]⟩, .slice (some ⟨w6.heap.size + 1, 0, none⟩) 2 2] 25)) (w6.heap.size + 2) _ := vat_new' (by simp); have u6 : VAt (((w6.alloc (.cells #[.int .i64 d0', .int .i64 d1', .string d2', .slice a6 l6 c6] 25)).alloc (.cells #[.int .i64 k0, .int .i64 n0, .string s0, .slice b0 l0 p0, .int .i64 k1, .int .i64 n1, .string s1, .slice b1 l1 p1] 25)).alloc (.cells #[.int .i64 5, .int .i64 0, .string ⟨#[]⟩, .slice (some ⟨w6.heap.size + 1, 0, none⟩) 2 2] 25)) w6.heap.size _ := vat_up (vat_up (vat_alloc w6 _)); have ur : VAt (((w6.alloc (.cells #[.int .i64 d0', .int .i64 d1', .string d2', .slice a6 l6 c6] 25)).alloc (.cells #[.int .i64 k0, .int .i64 n0, .string s0, .slice b0 l0 p0, .int .i64 k1, .int .i64 n1, .string s1, .slice b1 l1 p1] 25)).alloc (.cells #[.int .i64 5, .int .i64 0, .string ⟨#[]⟩, .slice (some ⟨w6.heap.size + 1, 0, none⟩) 2 2] 25)) (w6.heap.size + 1) _ := vat_up (vat_new' (by simp)); have hX7 := two_is ur (I0.out _ K7) (I1.out _ K7); have hV7 := is_below (((ab_refl w6).alloc (Nat.le_refl _) (.cells #[.int .i64 d0', .int .i64 d1', .string d2', .slice a6 l6 c6] 25)).alloc ((ab_refl w6).alloc (Nat.le_refl _) (.cells #[.int .i64 d0', .int .i64 d1', .string d2', .slice a6 l6 c6] 25)).size (.cells #[.int .i64 k0, .int .i64 n0, .string s0, .slice b0 l0 p0, .int .i64 k1, .int .i64 n1, .string s1, .slice b1 l1 p1] 25) |> fun h => h.alloc h.size (.cells #[.int .i64 5, .int .i64 0, .string ⟨#[]⟩, .slice (some ⟨w6.heap.size + 1, 0, none⟩) 2 2] 25)) _ _ (fresh_is hF6); obtain ⟨⟨x0, x1, x2, x3⟩, _⟩ := box4 u9)
        | (go_at_call 15; (with_reducible refine (hQ _ _ hX7).mono ?_); rintro e w8 ⟨rfl, hB8⟩; have K8 := K7.trans (hB8.mono K7.size); have hX8 := is_below hB8 _ _ hX7; have hV8 := is_below hB8 _ _ hV7; have u98 := vat_below hB8 u9; obtain ⟨⟨x0, x1, x2, x3⟩, _⟩ := box4 u98; obtain ⟨⟨y0, y1, y2, y3⟩, _⟩ := box4 (vat_below hB8 u6))
        | (go_at_call 17; (with_reducible refine (hS _ _ _ hV8 hX8).mono ?_); rintro e w9 ⟨rfl, hB9⟩; have K9 := K8.trans (hB9.mono K8.size); have hX9 := is_below hB9 _ _ hX8; obtain ⟨⟨x0, x1, x2, x3⟩, _⟩ := box4 (vat_below hB9 u98))
        | (go_at_call 16; (with_reducible refine (hTX _ _ hX9).mono ?_); rintro e w10 ⟨rfl, hB10⟩; have K10 := K9.trans (hB10.mono K9.size)))
      go_ret
      exact ⟨rfl, hB2.trans (K10.mono hB2.size)⟩
end Go.Proofs.Ytfapoicnkdallaa.vtextListsWalk

/- Proved: the statement VtextLists: the text of a list is its values' texts between brackets, and is read as the list, if that is right; for every input, without any condition. (Out of its walk: the frame alone, the arguments are opened, and shut again as they were.) -/
namespace Go.Proofs.Ytfapoicnkdallaa.vtextListsSaid
open Go.ChangeShapes Go.WideShapes Go.ChangeAt Go.RowKit
open Go.ChangeMaps (open_string shut_string)
set_option linter.unusedVariables false

theorem own : ownKnob Try.prog.godebug = none := by kernel_rfl
theorem laidOut : laidOutB Try.prog = true := by kernel_rfl

set_option maxRecDepth 100000 in
theorem lifted (os : Os) (started : os.Started) (H : Type) (enc : TypeId × Value → H) :
    ReturnsInHanded {} Try.checked os 7 .any (Rows.vtextListsSpec.pre6 enc Try.prog Try.f7 Rows.vtextListsRow.domain false) (Rows.vtextListsSpec.post enc Try.prog Try.f7 false true false false) := by
  refine returnsInHanded_of_change (C := Try.checked) own started (by kernel_rfl) Try.func7
    (ChangeSpec.witness6 (enc := enc) (C := Try.checked) false ⟨#[], #[.agg #[.int .i64 0, .int .i64 0, .string ByteArray.empty, .slice none 0 0], .agg #[.int .i64 0, .int .i64 0, .string ByteArray.empty, .slice none 0 0]], []⟩ 8 (by kernel_rfl) (by kernel_rfl) (by kernel_rfl) (by kernel_rfl)) ?_
  intro W base args ds gs before hval0 hW hcnd _
  have hval : ∀ (j : Nat) t v, Try.f7.params[j]? = some t → args[j]? = some v → Value.okWide Try.prog W .any base t v := hval0
  have hW' := hW
  obtain ⟨p, q, hA0, hV, rfl, hfz, hnd⟩ := hW
  have hA : DataW.TrodAll enc Try.prog W 0 (fun _ => true) true Try.f7.params.toList args.toList ds p := hA0
  rw [Try.params7] at hA hval
  obtain ⟨v0, vs0, d0, ds0, p0, q0, hargs, rfl, rfl, h0, r0⟩ := trodAll_cons hA
  obtain ⟨v1, vs1, d1, ds1, p1, q1, rfl, rfl, rfl, h1, r1⟩ := trodAll_cons r0
  obtain ⟨rfl, rfl, rfl⟩ := trodAll_nil r1
  obtain rfl : args = #[v0, v1] := by cases args; simp_all
  obtain ⟨rfl, rfl⟩ := trodVars_none hV
  have k0 := h0
  have lt0 : ∀ x ∈ p0, x.block < W.heap.size := by obtain ⟨m, hm⟩ := k0; exact DataW.trod_lt m _ _ _ hm
  obtain ⟨c00, c01, c02, c03, rfl, t0, w0⟩ := open_arg h0
  have k1 := h1
  have lt1 : ∀ x ∈ p1, x.block < W.heap.size := by obtain ⟨m, hm⟩ := k1; exact DataW.trod_lt m _ _ _ hm
  obtain ⟨c10, c11, c12, c13, rfl, t1, w1⟩ := open_arg h1
  clear hA0 hval0
  refine (vtextListsWalk.walk t0 _ t1 _ W w0 w1).mono fun e W' ⟨he, bel⟩ => ?_
  subst he
  exact ⟨_, rfl, _, _, _, [], _, [], hW', trodAll_mk1 (shut_bool Try.underlying4 _), (trodAll_cons_mk (Below.trod laidOut (by kernel_rfl) (of_decide_eq_true (by kernel_rfl)) k0 bel lt0) (trodAll_cons_mk (Below.trod laidOut (by kernel_rfl) (of_decide_eq_true (by kernel_rfl)) k1 bel lt1) trodAll_mk0)), rfl, bel.frame _, fun h => by cases h⟩

theorem over : Rows.vtextListsRow.holds Try.pinned (OpenSpec.ofChange Rows.vtextListsSpec) :=
  OpenClaim.holds_of_wide 7 Try.f7 rfl rfl rfl rfl rfl rfl rfl ⟨rfl, rfl, rfl, rfl, rfl⟩ rfl rfl rfl rfl rfl (by kernel_rfl) Try.func7 (by kernel_rfl)
    (of_decide_eq_true (by kernel_rfl)) (by unfold Func.isWrapper; first | (rw [if_pos (by decide +kernel)]; kernel_rfl) | (rw [if_neg (by decide +kernel)]; exact ⟨rfl, rfl⟩))
    (fun os started H enc _ => lifted os started H enc)

theorem proved : Rows.VtextListsSaid := over
end Go.Proofs.Ytfapoicnkdallaa.vtextListsSaid
