/- The walk of ValueTexts: right values have the same text just if they are the same, and a copy is the same, in new memory. -/
import Derived.Test.YtdflbhcljgnjiaaValLaws
import Derived.Deep.DeepCutAuto
namespace Go.Proofs.Ytdflbhcljgnjiaa.valueTextsWalk
open Go.RowKit Go.Shelf
theorem wrap_i64 (n : Int) : I64 (IntKind.i64.wrap n) := by
  unfold I64
  rw [IntKind.wrap_i64]
  omega
theorem wrap_ne (n : Int) (h : I64 n) : IntKind.i64.wrap (n + 1) ≠ n := by
  unfold I64 at h
  rcases Int.lt_or_le n 9223372036854775807 with h1 | h1
  · rw [show IntKind.i64.wrap (n + 1) = n + 1 from IntWalk.i64_in _ (by omega)]; omega
  · obtain rfl : n = 9223372036854775807 := by omega
    decide
theorem cell_set1 {W : World} {p : Addr} {c : Value} {b i : Nat} {d : Value} (h : W.cell? p = some c) (hne : p.block ≠ b) : (W.setCell ⟨b, i, none⟩ d).cell? p = some c := by
  rw [← h]
  simp only [World.cell?, Below.heap_setCell W ⟨b, i, none⟩ d p.block hne]
theorem set1_box {W : World} {o : Obj} {b g j : Nat} {v c0 c1 c2 c3 : Value} (hne : b ≠ g) (h0 : W.cell? ⟨b, 0, none⟩ = some c0) (h1 : W.cell? ⟨b, 1, none⟩ = some c1) (h2 : W.cell? ⟨b, 2, none⟩ = some c2) (h3 : W.cell? ⟨b, 3, none⟩ = some c3) :
    ((((W.alloc o).setCell ⟨g, j, none⟩ v).drew).cell? ⟨b, 0, none⟩ = some c0 ∧ (((W.alloc o).setCell ⟨g, j, none⟩ v).drew).cell? ⟨b, 1, none⟩ = some c1) ∧ ((((W.alloc o).setCell ⟨g, j, none⟩ v).drew).cell? ⟨b, 2, none⟩ = some c2 ∧ (((W.alloc o).setCell ⟨g, j, none⟩ v).drew).cell? ⟨b, 3, none⟩ = some c3) :=
  ⟨⟨cell_set1 (cell_alloc h0) hne, cell_set1 (cell_alloc h1) hne⟩, cell_set1 (cell_alloc h2) hne, cell_set1 (cell_alloc h3) hne⟩
theorem set1_new {W : World} {b j : Nat} {v : Value} (hne : W.heap.size ≠ b) (c0 c1 c2 c3 : Value) :
    ((((W.alloc (.cells #[c0, c1, c2, c3] 24)).setCell ⟨b, j, none⟩ v).drew).cell? ⟨W.heap.size, 0, none⟩ = some c0 ∧ (((W.alloc (.cells #[c0, c1, c2, c3] 24)).setCell ⟨b, j, none⟩ v).drew).cell? ⟨W.heap.size, 1, none⟩ = some c1) ∧
    ((((W.alloc (.cells #[c0, c1, c2, c3] 24)).setCell ⟨b, j, none⟩ v).drew).cell? ⟨W.heap.size, 2, none⟩ = some c2 ∧ (((W.alloc (.cells #[c0, c1, c2, c3] 24)).setCell ⟨b, j, none⟩ v).drew).cell? ⟨W.heap.size, 3, none⟩ = some c3) :=
  ⟨⟨cell_set1 (vat_cell (vat_alloc _ _) 0 _ rfl) hne, cell_set1 (vat_cell (vat_alloc _ _) 1 _ rfl) hne⟩, cell_set1 (vat_cell (vat_alloc _ _) 2 _ rfl) hne, cell_set1 (vat_cell (vat_alloc _ _) 3 _ rfl) hne⟩
theorem xa_none {l : List PV} {xa : Option Addr} {p : Prop} (h : l = [] ∧ xa = none ∨ l ≠ [] ∧ p) (hl : l = []) : xa = none := by
  rcases h with h | h
  · exact h.2
  · exact absurd hl h.1
set_option maxRecDepth 100000 in
set_option maxHeartbeats 8000000 in
theorem walk (t0 : PV) (v0 : Value) (t1 : PV) (v1 : Value) (a2 : Int) (w : World) (w0 : Is w t0 v0) (w1 : Is w t1 v1) (w2 : (Lit.int .u8 a2).wf = true) :
    Calls Try.prog 3 #[v0, v1, .int .u8 a2] w fun e w' => e = .returned (.bool true) ∧ Below w.heap.size w w' := by
  have hal := fun W => alive_any W
  have hga := fun W h => great_any t0 W v0 h
  have hgb := fun W h => great_any t1 W v1 h
  have hza := great_sz t0
  have hzb := great_sz t1
  have hna := nums_is t0 v0 w0
  have hnb := nums_is t1 v1 w1
  have hra := fun h W hi => right_any t0 h W v0 hi
  have hrb := fun h W hi => right_any t1 h W v1 hi
  obtain ⟨ga, ega⟩ : ∃ g, greatV t0 = g := ⟨_, rfl⟩
  obtain ⟨gb, egb⟩ : ∃ g, greatV t1 = g := ⟨_, rfl⟩
  obtain ⟨ra, era⟩ : ∃ g, rightV t0 = g := ⟨_, rfl⟩
  obtain ⟨rb, erb⟩ : ∃ g, rightV t1 = g := ⟨_, rfl⟩
  rw [ega] at hga hza
  rw [egb] at hgb hzb
  rw [era] at hra
  rw [erb] at hrb
  have hv0 : ∃ k n s l a c, v0 = .agg #[.int .i64 k, .int .i64 n, .string s, .slice a l c] := by
    cases t0 with | mk k n s l => unfold Is at w0; obtain ⟨_, _, _, a, c, e, _⟩ := w0; exact ⟨_, _, _, _, _, _, e⟩
  have hv1 : ∃ k n s l a c, v1 = .agg #[.int .i64 k, .int .i64 n, .string s, .slice a l c] := by
    cases t1 with | mk k n s l => unfold Is at w1; obtain ⟨_, _, _, a, c, e, _⟩ := w1; exact ⟨_, _, _, _, _, _, e⟩
  obtain ⟨k0, n0, s0, l0, b0, p0, rfl⟩ := hv0
  obtain ⟨k1, n1, s1, l1, b1, p1, rfl⟩ := hv1
  have hW0 := Lib.hid (is_below ((Below.refl _ w).alloc (Nat.le_refl _) (vobj k0 n0 s0 b0 l0 p0)) _ _ w0)
  have hB1 := (Below.refl _ w).alloc (Nat.le_refl _) (vobj k0 n0 s0 b0 l0 p0)
  have hB2 := hB1.alloc hB1.size (vobj k1 n1 s1 b1 l1 p1)
  have hi0 : ∀ W, Below ((w.alloc (vobj k0 n0 s0 b0 l0 p0)).alloc (vobj k1 n1 s1 b1 l1 p1)).heap.size ((w.alloc (vobj k0 n0 s0 b0 l0 p0)).alloc (vobj k1 n1 s1 b1 l1 p1)) W → Is W t0 (.agg #[.int .i64 k0, .int .i64 n0, .string s0, .slice b0 l0 p0]) := fun W h => is_below h _ _ (is_below hB2 _ _ w0)
  have hi1 : ∀ W, Below ((w.alloc (vobj k0 n0 s0 b0 l0 p0)).alloc (vobj k1 n1 s1 b1 l1 p1)).heap.size ((w.alloc (vobj k0 n0 s0 b0 l0 p0)).alloc (vobj k1 n1 s1 b1 l1 p1)) W → Is W t1 (.agg #[.int .i64 k1, .int .i64 n1, .string s1, .slice b1 l1 p1]) := fun W h => is_below h _ _ (is_below hB2 _ _ w1)
  have I0 := Lib.hid hi0; have I1 := Lib.hid hi1
  clear hi0 hi1 hW0
  have hR0 := Below.refl ((w.alloc (vobj k0 n0 s0 b0 l0 p0)).alloc (vobj k1 n1 s1 b1 l1 p1)).heap.size ((w.alloc (vobj k0 n0 s0 b0 l0 p0)).alloc (vobj k1 n1 s1 b1 l1 p1))
  cases ga with
  | true =>
    clear hra hrb hgb
    go_enter Try.func3, Try.ntmps3
    go_wp2_with (first
      | (go_at_call 6; (with_reducible refine (hal _).mono ?_); rintro e w3 ⟨rfl, hq⟩; have hR := hR0.trans (hq.mono hR0.size); obtain ⟨⟨c0, c1, c2, c3⟩, d0, d1, d2, d3⟩ := box2_cells hR)
      | (go_at_call 7; (with_reducible refine (hga _ (I0.out _ hR)).mono ?_); rintro e w3 ⟨rfl, hq⟩; have hR := hR.trans (hq.mono hR.size)))
    go_ret
    exact ⟨rfl, hB2.trans (hR.mono hB2.size)⟩
  | false =>
  replace hza := hza rfl
  cases gb with
  | true =>
    clear hra hrb
    go_enter Try.func3, Try.ntmps3
    go_wp2_with (first
      | (go_at_call 6; (with_reducible refine (hal _).mono ?_); rintro e w3 ⟨rfl, hq⟩; have hR := hR0.trans (hq.mono hR0.size); obtain ⟨⟨c0, c1, c2, c3⟩, d0, d1, d2, d3⟩ := box2_cells hR)
      | (go_at_call 7; (first | with_reducible refine (hga _ (I0.out _ hR)).mono ?_ | with_reducible refine (hgb _ (I1.out _ hR)).mono ?_); rintro e w3 ⟨rfl, hq⟩; have hR := hR.trans (hq.mono hR.size); obtain ⟨⟨c0, c1, c2, c3⟩, d0, d1, d2, d3⟩ := box2_cells hR))
    go_ret
    exact ⟨rfl, hB2.trans (hR.mono hB2.size)⟩
  | false =>
  replace hzb := hzb rfl
  replace hra := hra (by omega)
  replace hrb := hrb (by omega)
  cases ra with
  | false =>
    go_enter Try.func3, Try.ntmps3
    go_wp2_with (first
      | (go_at_call 6; (with_reducible refine (hal _).mono ?_); rintro e w3 ⟨rfl, hq⟩; have hR := hR0.trans (hq.mono hR0.size); obtain ⟨⟨c0, c1, c2, c3⟩, d0, d1, d2, d3⟩ := box2_cells hR)
      | (go_at_call 7; (first | with_reducible refine (hga _ (I0.out _ hR)).mono ?_ | with_reducible refine (hgb _ (I1.out _ hR)).mono ?_); rintro e w3 ⟨rfl, hq⟩; have hR := hR.trans (hq.mono hR.size); obtain ⟨⟨c0, c1, c2, c3⟩, d0, d1, d2, d3⟩ := box2_cells hR)
      | (go_at_call 8; (with_reducible refine (hra _ (I0.out _ hR)).mono ?_); rintro e w3 ⟨rfl, hq⟩; have hR := hR.trans (hq.mono hR.size); obtain ⟨⟨c0, c1, c2, c3⟩, d0, d1, d2, d3⟩ := box2_cells hR))
    go_ret
    exact ⟨rfl, hB2.trans (hR.mono hB2.size)⟩
  | true =>
  cases rb with
  | false =>
    go_enter Try.func3, Try.ntmps3
    go_wp2_with (first
      | (go_at_call 6; (with_reducible refine (hal _).mono ?_); rintro e w3 ⟨rfl, hq⟩; have hR := hR0.trans (hq.mono hR0.size); obtain ⟨⟨c0, c1, c2, c3⟩, d0, d1, d2, d3⟩ := box2_cells hR)
      | (go_at_call 7; (first | with_reducible refine (hga _ (I0.out _ hR)).mono ?_ | with_reducible refine (hgb _ (I1.out _ hR)).mono ?_); rintro e w3 ⟨rfl, hq⟩; have hR := hR.trans (hq.mono hR.size); obtain ⟨⟨c0, c1, c2, c3⟩, d0, d1, d2, d3⟩ := box2_cells hR)
      | (go_at_call 8; (first | with_reducible refine (hra _ (I0.out _ hR)).mono ?_ | with_reducible refine (hrb _ (I1.out _ hR)).mono ?_); rintro e w3 ⟨rfl, hq⟩; have hR := hR.trans (hq.mono hR.size); obtain ⟨⟨c0, c1, c2, c3⟩, d0, d1, d2, d3⟩ := box2_cells hR))
    go_ret
    exact ⟨rfl, hB2.trans (hR.mono hB2.size)⟩
  | true =>
  go_enter Try.func3, Try.ntmps3
  go_upto_region 5 with (first
      | (go_at_call 6; (with_reducible refine (hal _).mono ?_); rintro e w3 ⟨rfl, hq⟩; have hR := hR0.trans (hq.mono hR0.size); obtain ⟨⟨c0, c1, c2, c3⟩, d0, d1, d2, d3⟩ := box2_cells hR)
      | (go_at_call 7; (first | with_reducible refine (hga _ (I0.out _ hR)).mono ?_ | with_reducible refine (hgb _ (I1.out _ hR)).mono ?_); rintro e w3 ⟨rfl, hq⟩; have hR := hR.trans (hq.mono hR.size); obtain ⟨⟨c0, c1, c2, c3⟩, d0, d1, d2, d3⟩ := box2_cells hR)
      | (go_at_call 8; (first | with_reducible refine (hra _ (I0.out _ hR)).mono ?_ | with_reducible refine (hrb _ (I1.out _ hR)).mono ?_); rintro e w3 ⟨rfl, hq⟩; have hR := hR.trans (hq.mono hR.size); obtain ⟨⟨c0, c1, c2, c3⟩, d0, d1, d2, d3⟩ := box2_cells hR))
  have hoa : okV t0 = true := by simp [rightV] at era; exact era.2
  have hob : okV t1 = true := by simp [rightV] at erb; exact erb.2
  have hta := text_short t0 hoa hna
  have htb := text_short t1 hob hnb
  have hT0 := fun W (h : Below w3.heap.size w3 W) => text_any t0 (by omega) W _ (I0.out W (hR.trans (h.mono hR.size)))
  have hT1 := fun W (h : Below w3.heap.size w3 W) => text_any t1 (by omega) W _ (I1.out W (hR.trans (h.mono hR.size)))
  have hS := fun W (h : Below w3.heap.size w3 W) => same_any t0 t1 W _ _ (I0.out W (hR.trans (h.mono hR.size))) (I1.out W (hR.trans (h.mono hR.size)))
  have hsm : ((strOfNums (textV t0)).toList == (strOfNums (textV t1)).toList) = (cmpV t0 t1 == 0) := by
    rw [toList_data, toList_data]
    have hts := text_same t0 t1 hoa hob hna hnb
    by_cases h : t0 = t1
    · subst h
      have h0 : (cmpV t0 t0 == 0) = true := by rw [(cmpV_zero t0 t0).2 rfl]; rfl
      rw [h0]; simp
    · have hc : (cmpV t0 t1 == 0) = false := by
        simp only [beq_eq_false_iff_ne, ne_eq]; exact fun e => h ((cmpV_zero _ _).1 e)
      rw [hc]
      simp only [beq_eq_false_iff_ne, ne_eq]
      intro e
      have e2 : strOfNums (textV t0) = strOfNums (textV t1) := ByteArray.ext (Array.toList_inj.1 e)
      have e3 := congrArg strB e2
      rw [strB_strOfNums _ (text_bytes t0 hna), strB_strOfNums _ (text_bytes t1 hnb)] at e3
      exact h (hts.1 e3)
  generalize hX0 : strOfNums (textV t0) = X0 at hT0 hsm
  generalize hX1 : strOfNums (textV t1) = X1 at hT1 hsm
  generalize hsmv : (cmpV t0 t1 == 0) = sm at hS hsm
  clear hX0 hX1 hsmv hta htb
  have HT0 := Lib.hid hT0; have HT1 := Lib.hid hT1; have HS := Lib.hid hS
  clear hT0 hT1 hS hal hga hgb hra hrb hza hzb hB1 hR0
  go_cut [34] (fun s34 W => s34 = .bool false ∧ Below w3.heap.size w3 W)
  case first =>
    go_region_held3 (fun W => (((W.cell? ⟨w.heap.size, 0, none⟩ = some (.int .i64 k0) ∧ W.cell? ⟨w.heap.size, 1, none⟩ = some (.int .i64 n0)) ∧ (W.cell? ⟨w.heap.size, 2, none⟩ = some (.string s0) ∧ W.cell? ⟨w.heap.size, 3, none⟩ = some (.slice b0 l0 p0))) ∧
        ((W.cell? ⟨w.heap.size + 1, 0, none⟩ = some (.int .i64 k1) ∧ W.cell? ⟨w.heap.size + 1, 1, none⟩ = some (.int .i64 n1)) ∧ (W.cell? ⟨w.heap.size + 1, 2, none⟩ = some (.string s1) ∧ W.cell? ⟨w.heap.size + 1, 3, none⟩ = some (.slice b1 l1 p1)))) ∧ Below w3.heap.size w3 W)
      (first | assumption | exact keep8 (by assumption) hb | exact keep8 ⟨⟨⟨⟨c0, c1⟩, c2, c3⟩, ⟨d0, d1⟩, d2, d3⟩, Below.refl _ _⟩ (below_drew _)) (first
      | (go_at_call 9; (first | with_reducible refine (HT0.out _ (keepB8 (by assumption))).mono ?_ | with_reducible refine (HT1.out _ (keepB8 (by assumption))).mono ?_); rintro e w' ⟨rfl, hb⟩)
      | (go_at_call 10; (with_reducible refine (HS.out _ (keepB8 (by assumption))).mono ?_); rintro e w' ⟨rfl, hb⟩))
    all_goals (
      go_wp2_with fail
      go_meet
      exact ⟨by simp, keepB8 (by assumption)⟩)
  case rest =>
    obtain ⟨rfl, hB5⟩ := hcut
    have hR5 := hR.trans (hB5.mono hR.size)
    clear c0 c1 c2 c3 d0 d1 d2 d3 HT0 HT1 HS hsm hR
    obtain ⟨⟨c0, c1, c2, c3⟩, -, -, -, -⟩ := box2_cells hR5
    have hB6 := hB2.trans (hR5.mono hB2.size)
    have hw2 := wf_u8 w2
    cases t0 with
    | mk kk nn ss ll =>
    unfold Is at w0
    obtain ⟨q1, q2, q3, a', cap', e, q4, q5, q6⟩ := w0
    simp only [Value.agg.injEq, Array.mk.injEq, List.cons.injEq, and_true, Value.int.injEq, Value.string.injEq, Value.slice.injEq, true_and] at e
    obtain ⟨rfl, rfl, rfl, rfl, rfl, rfl⟩ := e
    have hcp : ∀ W, Below wc.heap.size wc W → _ := fun W (h : Below wc.heap.size wc W) => copy_any _ (small_of _ hoa) W _ (I0.out W (hR5.trans (h.mono hR5.size)))
    have hsame := fun W t' x (h : Below wc.heap.size wc W) (hx : Is W t' x) => same_any (.mk k0 n0 s0 ll) t' W _ x (I0.out W (hR5.trans (h.mono hR5.size))) hx
    have hsame2 := fun W x (h : Below wc.heap.size wc W) (hx : Is W (.mk k0 n0 s0 ll) x) => same_any (.mk k0 n0 s0 ll) (.mk k0 n0 s0 ll) W x _ hx (I0.out W (hR5.trans (h.mono hR5.size)))
    have hself : (cmpV (.mk k0 n0 s0 ll) (.mk k0 n0 s0 ll) == 0) = true := by rw [(cmpV_zero _ _).2 rfl]; rfl
    rw [hself] at hsame2
    have HCP := Lib.hid hcp
    have HSM := Lib.hid hsame
    have HSM2 := Lib.hid hsame2
    have hll : ll.length ≤ 1000 := by
      have := small_of _ hoa
      unfold small at this
      exact this.2.1
    generalize hnl : ll.length = nl at *
    clear hcp hsame hsame2 hB2 hB5 I1 w1 hna hnb hob ega egb era erb q6 q4 q5
    by_cases hl0 : ll = []
    · subst hl0
      obtain rfl : nl = 0 := hnl.symm
      clear hnl
      go_wp2_with (first
        | (go_at_call 11; (with_reducible refine (HCP.out _ (Below.refl _ _)).mono ?_); rintro e w' ⟨x', rfl, hbc, hfr, xa, rfl, hxa⟩; obtain rfl := xa_none hxa rfl; have hfr : Fresh _ _ _ (.agg #[.int .i64 k0, .int .i64 n0, .string s0, .slice none 0 0]) := hfr; obtain ⟨⟨c0, c1, c2, c3⟩, -, -, -, -⟩ := box2_cells (hR5.trans (hbc.mono hR5.size)); have a0' := fun o => cell_alloc (o := o) c0; have a1' := fun o => cell_alloc (o := o) c1; have a2' := fun o => cell_alloc (o := o) c2; have a3' := fun o => cell_alloc (o := o) c3)
        | (go_at_call 10; (with_reducible refine (HSM.out _ (.mk k0 n0 s0 []) _ (hbc.alloc hbc.size _) (is_below ((Below.refl _ _).alloc (Nat.le_refl _) _) _ _ (fresh_is hfr))).mono ?_); rintro e w4 ⟨rfl, hq4⟩))
      all_goals go_ret
      all_goals exact ⟨ret_bool (by first | rfl | exact hself), hB6.trans (((hbc.alloc hbc.size _).trans (hq4.mono (hbc.alloc hbc.size _).size)).mono hB6.size)⟩
    · have hlp : 0 < nl := by cases ll with | nil => exact absurd rfl hl0 | cons x r => simp at hnl; omega
      have hdp : decide (0 < (nl : Int)) = true := by simp; omega
      go_wp2_with (first
        | (go_at_call 11; (with_reducible refine (HCP.out _ (Below.refl _ _)).mono ?_); rintro e w' ⟨x', rfl, hbc, hfr, xa, rfl, hxa⟩; rw [hnl] at hfr hxa; obtain ⟨⟨c0, c1, c2, c3⟩, -, -, -, -⟩ := box2_cells (hR5.trans (hbc.mono hR5.size)); have a0' := fun o => cell_alloc (o := o) c0; have a1' := fun o => cell_alloc (o := o) c1; have a2' := fun o => cell_alloc (o := o) c2; have a3' := fun o => cell_alloc (o := o) c3))
      rcases hxa with ⟨h, _⟩ | ⟨_, g, C, rfl, hgw, hC, hCs, hel⟩
      · exact absurd h hl0
      obtain ⟨i, hi⟩ : ∃ i : Nat, Int.tmod a2 (nl : Int) = (i : Int) ∧ i < nl := by
        refine ⟨(Int.tmod a2 nl).toNat, ?_, ?_⟩
        · rw [Int.tmod_eq_emod_of_nonneg hw2.1, Int.toNat_of_nonneg (Int.emod_nonneg _ (by omega))]
        · rw [Int.tmod_eq_emod_of_nonneg hw2.1]
          have := Int.emod_lt_of_pos a2 (show (0 : Int) < nl by omega)
          have := Int.emod_nonneg a2 (show (nl : Int) ≠ 0 by omega)
          omega
      obtain ⟨y, hy⟩ : ∃ y, ll[i]? = some y := ⟨ll[i]'(by omega), List.getElem?_eq_getElem (by omega)⟩
      cases y with
      | mk yk yn ys yl =>
      obtain ⟨e0, e1, e2, e3, x0, x1, x2, x3, hyf⟩ := hel i _ hy
      have hyi := fresh_is hyf
      unfold Is at hyi
      obtain ⟨yq1, yq2, _, ya', ycap, ye, _⟩ := hyi
      simp only [Value.agg.injEq, Array.mk.injEq, List.cons.injEq, and_true] at ye
      obtain ⟨rfl, rfl, rfl, rfl⟩ := ye
      obtain ⟨m, hm⟩ : ∃ m, IntKind.i64.wrap (yn + 1) = m := ⟨_, rfl⟩
      have hmI : I64 m := by rw [← hm]; exact wrap_i64 _
      have hmne : m ≠ yn := by rw [← hm]; exact wrap_ne _ yq2
      have hvc : ∀ o, VAt ((w'.alloc o).drew) g C := fun o => vat_below (((Below.refl _ w').alloc (Nat.le_refl _) o).drew) hC
      have z1 := fun o => vat_cell (hvc o) (i * 4 + 1) _ x1
      have y1 := fun o => vat_frozen (hvc o) (i * 4 + 1)
      have hi1 := hi.1
      have hlt := hi.2
      have hltI : (i : Int) < (nl : Int) := by omega
      have hbump := fun o => is_bumped (o := o) hC (by rw [hCs, hnl]) hel q1 q2 q3 (by unfold maxLen; omega) i yk yn ys yl hy m hmI
      have hEL := Lib.hid hel; have HBU := Lib.hid hbump
      clear hel hbump hvc hi hyf
      go_region
      have hsz2 : w.heap.size + 2 ≤ wc.heap.size := by have := hR5.size; simp at this; omega
      have hgl := vat_lt hC
      have hBm := HBU.out (.cells #[.int .i64 k0, .int .i64 n0, .string s0, .slice (some ⟨g, 0, none⟩) nl nl] 24)
      rw [hnl] at hBm
      have hB8 := ((hbc.alloc hbc.size (.cells #[.int .i64 k0, .int .i64 n0, .string s0, .slice (some ⟨g, 0, none⟩) nl nl] 24)).setCell (p := ⟨g, i * 4 + 1, none⟩) hgw (.int .i64 m)).drew
      have hA8 := set1_box (W := w') (o := .cells #[.int .i64 k0, .int .i64 n0, .string s0, .slice (some ⟨g, 0, none⟩) nl nl] 24) (b := w.heap.size) (g := g) (j := i * 4 + 1) (v := .int .i64 m) (by omega) c0 c1 c2 c3
      have hC8 := set1_new (W := w') (b := g) (j := i * 4 + 1) (v := .int .i64 m) (by omega) (.int .i64 k0) (.int .i64 n0) (.string s0) (.slice (some ⟨g, 0, none⟩) nl nl)
      have hBm2 : Is (((w'.alloc (.cells #[.int .i64 k0, .int .i64 n0, .string s0, .slice (some ⟨g, 0, none⟩) nl nl] 24)).setCell ⟨g, i * 4 + 1, none⟩ (.int .i64 m)).drew) (.mk k0 n0 s0 (ll.set i (.mk yk m ys yl))) (.agg #[.int .i64 k0, .int .i64 n0, .string s0, .slice (some ⟨g, 0, none⟩) nl nl]) := hBm
      obtain ⟨b7, hb7⟩ : ∃ b, w'.heap.size = b := ⟨_, rfl⟩
      rw [hb7] at hC8
      clear hBm a0' a1' a2' a3' z1 y1 hm c0 c1 c2 c3 HBU hEL
      generalize ((w'.alloc (.cells #[.int .i64 k0, .int .i64 n0, .string s0, .slice (some ⟨g, 0, none⟩) nl nl] 24)).setCell ⟨g, i * 4 + 1, none⟩ (.int .i64 m)).drew = W8 at *
      obtain ⟨⟨c0, c1⟩, c2, c3⟩ := hA8
      obtain ⟨⟨d0, d1⟩, d2, d3⟩ := hC8
      have hneq : (cmpV (.mk k0 n0 s0 ll) (.mk k0 n0 s0 (ll.set i (.mk yk m ys yl))) == 0) = false := by
        simp only [beq_eq_false_iff_ne, ne_eq]
        intro e
        have e2 := (cmpV_zero _ _).1 e
        simp only [PV.mk.injEq, true_and] at e2
        have e3 := congrArg (fun l : List PV => l[i]?) e2
        simp only [hy] at e3
        rw [List.getElem?_set_self (by omega)] at e3
        simp only [Option.some.injEq, PV.mk.injEq, true_and, and_true] at e3
        exact hmne e3.symm
      have hs1 : ∀ W, Below W8.heap.size W8 W → Calls Try.prog 10 #[.agg #[.int .i64 k0, .int .i64 n0, .string s0, .slice b0 nl p0], .agg #[.int .i64 k0, .int .i64 n0, .string s0, .slice (some ⟨g, 0, none⟩) nl nl]] W fun e w' => e = .returned (.bool false) ∧ Below W.heap.size W w' := fun W h => by
        have := HSM.out W _ _ (hB8.trans (h.mono hB8.size)) (is_below h _ _ hBm2)
        rwa [hneq] at this
      have hc1 := fun W (h : Below W8.heap.size W8 W) => HCP.out W (hB8.trans (h.mono hB8.size))
      have HS1 := Lib.hid hs1
      have HC1 := Lib.hid hc1
      clear hs1 hc1 hBm2 hneq hdp hi1 hlt hltI hC
      go_wp2_with fail
      go_region_held3 (fun W => (((W.cell? ⟨w.heap.size, 0, none⟩ = some (.int .i64 k0) ∧ W.cell? ⟨w.heap.size, 1, none⟩ = some (.int .i64 n0)) ∧ (W.cell? ⟨w.heap.size, 2, none⟩ = some (.string s0) ∧ W.cell? ⟨w.heap.size, 3, none⟩ = some (.slice b0 nl p0))) ∧
          ((W.cell? ⟨b7, 0, none⟩ = some (.int .i64 k0) ∧ W.cell? ⟨b7, 1, none⟩ = some (.int .i64 n0)) ∧ (W.cell? ⟨b7, 2, none⟩ = some (.string s0) ∧ W.cell? ⟨b7, 3, none⟩ = some (.slice (some ⟨g, 0, none⟩) nl nl)))) ∧ Below W8.heap.size W8 W)
        (first | assumption | exact keep8 (by assumption) hb | exact keep8 ⟨⟨⟨⟨c0, c1⟩, c2, c3⟩, ⟨d0, d1⟩, d2, d3⟩, Below.refl _ _⟩ (below_drew _)) (first
        | (go_at_call 11; (with_reducible refine (HC1.out _ (keepB8 (by assumption))).mono ?_); rintro e w' ⟨x', rfl, hb, hfr2, xa, rfl, hxa⟩)
        | (go_at_call 10; (first | with_reducible refine (HS1.out _ (keepB8 (by assumption))).mono ?_ | (rw [hnl] at hfr2; with_reducible refine (HSM2.out _ _ (hB8.trans ((keepB8 (by assumption)).mono hB8.size)) (fresh_is hfr2)).mono ?_)); rintro e w' ⟨rfl, hb⟩))
      all_goals (
        go_wp2_with fail
        go_ret
        exact ⟨rfl, hB6.trans ((hB8.trans ((keepB8 (by assumption)).mono hB8.size)).mono hB6.size)⟩)
end Go.Proofs.Ytdflbhcljgnjiaa.valueTextsWalk
