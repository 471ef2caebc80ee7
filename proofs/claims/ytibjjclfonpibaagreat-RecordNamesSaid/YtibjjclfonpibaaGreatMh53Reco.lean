/- The walk of RecordNames: a row told by all its columns' names, in whichever order, is the row. (Made by gen_recnames.py.) -/
import Derived.Test.YtibjjclfonpibaaGreatMh38Reco
import Derived.Test.YtibjjclfonpibaaGreatMh50Reco
import Derived.Test.YtibjjclfonpibaaGreatMh43Reco
import Derived.Test.YtibjjclfonpibaaGreatMh52Reco
import Derived.Test.YtibjjclfonpibaaGreatMh10Reco
set_option linter.unusedVariables false
set_option linter.unusedSimpArgs false
set_option maxRecDepth 100000
namespace Go.Proofs.YtibjjclfonpibaaGreat
open Go.RowKit Go.Shelf
theorem info_strN : (Tryz.prog.info? 9).map (fun i => (i.zero, i.size, i.bytes)) = some (some (.string ⟨#[]⟩), 1, 16) := by kernel_rfl
theorem vCells_nil (w : World) : VCells w [] [] := ⟨rfl, by simp, fun i v h => by simp at h⟩
theorem vCells_snoc {w : World} {l : List PV} {cs : List Value} {v : PV} {c0 c1 c2 c3 : Value} (h : VCells w l cs) (hv : Is w v (.agg #[c0, c1, c2, c3])) : VCells w (l ++ [v]) (cs ++ [c0, c1, c2, c3]) := by
  obtain ⟨h1, h2, h3⟩ := h
  have ho := is_one hv
  refine ⟨by simp [h1]; omega, fun u hu => ?_, fun i y hy => ?_⟩
  · rcases List.mem_append.1 hu with hu | hu
    · exact h2 u hu
    · simp only [List.mem_cons, List.not_mem_nil, or_false] at hu
      rcases hu with rfl | rfl | rfl | rfl
      · exact ho.1
      · exact ho.2.1
      · exact ho.2.2.1
      · exact ho.2.2.2
  · rcases Nat.lt_or_ge i l.length with hi | hi
    · rw [List.getElem?_append_left hi] at hy
      obtain ⟨d0, d1, d2, d3, ⟨e0, e1, e2, e3⟩, hd⟩ := h3 i y hy
      exact ⟨d0, d1, d2, d3, ⟨by rw [List.getElem?_append_left (by omega)]; exact e0, by rw [List.getElem?_append_left (by omega)]; exact e1, by rw [List.getElem?_append_left (by omega)]; exact e2, by rw [List.getElem?_append_left (by omega)]; exact e3⟩, hd⟩
    · have hlt := (List.getElem?_eq_some_iff.1 hy).1
      simp only [List.length_append, List.length_cons, List.length_nil] at hlt
      obtain rfl : i = l.length := by omega
      rw [List.getElem?_append_right (Nat.le_refl _)] at hy
      simp only [Nat.sub_self, List.getElem?_cons_zero, Option.some.injEq] at hy
      subst hy
      exact ⟨c0, c1, c2, c3, ⟨by rw [List.getElem?_append_right (by omega), show l.length * 4 - cs.length = 0 by omega]; rfl, by rw [List.getElem?_append_right (by omega), show l.length * 4 + 1 - cs.length = 1 by omega]; rfl, by rw [List.getElem?_append_right (by omega), show l.length * 4 + 2 - cs.length = 2 by omega]; rfl, by rw [List.getElem?_append_right (by omega), show l.length * 4 + 3 - cs.length = 3 by omega]; rfl⟩, hv⟩
theorem nRow_own {W : World} {base : Nat} {v : Value} {l : List ByteArray} (h : W.ownsRow base 9 1 v l.length (l.map Value.string)) : ∃ a cap, v = .slice a l.length cap ∧ NRow W a cap l := by
  obtain ⟨h1, h2⟩ := h
  rcases h2 with ⟨rfl, h0⟩ | ⟨g, cap, cur, rfl, hg, hh, hn, hm, hsz, ht⟩
  · exact ⟨none, 0, by rw [h0], by omega, by unfold maxLen; omega, .inl (List.eq_nil_of_length_eq_zero h0)⟩
  · refine ⟨_, cap, rfl, hn, hm, .inr ⟨g, 0, rfl, fun i s hs => ?_⟩⟩
    have hlt := (List.getElem?_eq_some_iff.1 hs).1
    have e : (l.map Value.string)[i]? = some (.string s) := by rw [List.getElem?_map, hs]; rfl
    rw [← ht, List.getElem?_take] at e
    split at e
    · rw [Nat.zero_add]
      rw [Array.getElem?_toList] at e
      simp [World.cell?, hh, e]
    · cases e
/-- the loop of RecordNames: names and values told so far -/
def RN (w2 W : World) (x : Sc.Ver) (row : List PV) (d q : Nat) (nv vv : Value) : Prop := Below w2.heap.size w2 W ∧ W.ownsRow w2.heap.size 9 1 nv q ((Rc.namesT x d q).map Value.string) ∧ ∃ cs, W.ownsRow w2.heap.size 42 4 vv q cs ∧ VCells w2 (Rc.valsT row.length row d q) cs
theorem namesT_succ (x : Sc.Ver) (d q : Nat) : Rc.namesT x d (q + 1) = Rc.namesT x d q ++ [Rc.colNm x (Rc.turnK x.cols.length d q)] := by unfold Rc.namesT; rw [List.range_succ, List.map_append]; rfl
theorem valsT_succ (n : Nat) (row : List PV) (d q : Nat) : Rc.valsT n row d (q + 1) = Rc.valsT n row d q ++ [row[Rc.turnK n d q]?.getD Sc.nilV] := by unfold Rc.valsT; rw [List.range_succ, List.map_append]; rfl
theorem rn_below {w2 W W' : World} {x : Sc.Ver} {row : List PV} {d q : Nat} {nv vv : Value} (h : RN w2 W x row d q nv vv) (hb : Below W.heap.size W W') : RN w2 W' x row d q nv vv := by
  obtain ⟨h1, h2, cs, h3, h4⟩ := h
  exact ⟨h1.trans (hb.mono h1.size), ownsRow_below h2 hb, cs, ownsRow_below h3 hb, h4⟩
namespace recordNamesWalk
set_option maxHeartbeats 16000000 in
theorem walk (t : TemplM) (v : Int) (row : List PV) (X : Value) (ra : Option Addr) (rc : Nat) (u : Int) (w : World) (hI : I64 v) (hu : 0 ≤ u ∧ u ≤ 255) (hi : IsTempl w t X) (hr : PRow w ra rc row) (htx : ∀ y ∈ row, txtV y) :
    Calls Tryz.prog 3 #[X, .int .i64 v, .slice ra row.length rc, .int .u8 u] w fun e w' => e = .returned (.bool true) ∧ Below w.heap.size w w' := by
  have h0 := hi
  obtain ⟨h1, sa, sc, ta, tc, rfl, hsl, hst⟩ := hi
  have hA1 := (Below.refl _ w).alloc (Nat.le_refl _) (.cells #[.string t.nm, .slice sa t.slots.length sc, .slice ta t.steps.length tc] 25)
  have hTB := heap_self9 w (.cells #[.string t.nm, .slice sa t.slots.length sc, .slice ta t.steps.length tc] 25)
  have hal := fun W => recAlive_any W
  have hG10 := fun W (hb : Below w.heap.size w W) => refGreat10_any t W _ (isTempl_below hb h0)
  have hG11 := fun W (hb : Below w.heap.size w W) => refGreat11_any ra rc row W (pRow_below hb hr)
  obtain ⟨n, hn⟩ : ∃ n, row.length = n := ⟨_, rfl⟩
  obtain ⟨g1, hg1⟩ : ∃ g, greatT t = g := ⟨_, rfl⟩
  obtain ⟨g2, hg2⟩ : ∃ g, greatL row = g := ⟨_, rfl⟩
  rw [hg1] at hG10
  rw [hg2, hn] at hG11
  rw [hn]
  have HAL := Lib.hid hal; have HG10 := Lib.hid hG10; have HG11 := Lib.hid hG11
  clear hal hG10 hG11 hsl hst
  cases g1 with
  | true =>
    clear hg1 hg2 hn htx hI h0 hr
    go_enter Tryz.func3, Tryz.ntmps3
    go_wp2_with (first
      | (go_at_call 9; (with_reducible refine (HAL.out _).mono ?_); rintro e w1 ⟨rfl, hB1⟩; have hw1 := hA1.trans (hB1.mono hA1.size); have hT1 := (hB1.block _ (Array.getElem?_eq_some_iff.1 hTB).1).trans hTB; have x0 := at_heap (i := 0) (v := .string t.nm) hT1 rfl; have x1 := at_heap (i := 1) (v := .slice sa t.slots.length sc) hT1 rfl; have x2 := at_heap (i := 2) (v := .slice ta t.steps.length tc) hT1 rfl)
      | (go_at_call 10; (with_reducible refine (HG10.out _ hw1).mono ?_); rintro e w2 ⟨rfl, hB2⟩; have hw2 := hw1.trans (hB2.mono hw1.size)))
    go_ret
    exact ⟨rfl, hw2⟩
  | false =>
    cases g2 with
    | true =>
      clear hg1 hg2 hn htx hI h0 hr
      go_enter Tryz.func3, Tryz.ntmps3
      go_wp2_with (first
        | (go_at_call 9; (with_reducible refine (HAL.out _).mono ?_); rintro e w1 ⟨rfl, hB1⟩; have hw1 := hA1.trans (hB1.mono hA1.size); have hT1 := (hB1.block _ (Array.getElem?_eq_some_iff.1 hTB).1).trans hTB; have x0 := at_heap (i := 0) (v := .string t.nm) hT1 rfl; have x1 := at_heap (i := 1) (v := .slice sa t.slots.length sc) hT1 rfl; have x2 := at_heap (i := 2) (v := .slice ta t.steps.length tc) hT1 rfl)
        | (go_at_call 10; (with_reducible refine (HG10.out _ hw1).mono ?_); rintro e w2 ⟨rfl, hB2⟩; have hw2 := hw1.trans (hB2.mono hw1.size))
        | (go_at_call 11; (with_reducible refine (HG11.out _ hw2).mono ?_); rintro e w3 ⟨rfl, hB3⟩; have hw3 := hw2.trans (hB3.mono hw2.size); have hT3 := ((hB2.trans (hB3.mono hB2.size)).block _ (Array.getElem?_eq_some_iff.1 hT1).1).trans hT1; have x0' := at_heap (i := 0) (v := .string t.nm) hT3 rfl; have x1' := at_heap (i := 1) (v := .slice sa t.slots.length sc) hT3 rfl; have x2' := at_heap (i := 2) (v := .slice ta t.steps.length tc) hT3 rfl))
      go_ret
      exact ⟨rfl, hw3⟩
    | false =>
      obtain ⟨hn40, hgr⟩ := greatL_sz hg2
      have hsz : ∀ y ∈ row, szV y ≤ 1000 := fun y hy => great_sz y (hgr y hy)
      have hsm : ∀ y ∈ row, small y := fun y hy => txt_small y (htx y hy) (hsz y hy)
      have hsz6 : ∀ y ∈ row, szV y ≤ 1000000 := fun y hy => Nat.le_trans (hsz y hy) (by omega)
      have hMk := fun W (hb : Below w.heap.size w W) => rMake_any t v row W _ ra rc hg1 hI (isTempl_below hb h0) (pRow_below hb hr) hsz6 hsm (by omega)
      rw [hn] at hn40 hMk
      have hSl0 : ∀ (W : World), Calls Tryz.prog 9 #[] W fun e w' => e = .returned (.bool true) ∧ Below W.heap.size W w' := HAL.out
      by_cases hE : (Rc.make t v row).2 = 0
      · obtain ⟨x, hx, hl, hf, hm⟩ := make_ok hE
        rw [hm] at hMk
        have hMk2 : ∀ W, Below w.heap.size w W → Calls Tryz.prog 12 #[.agg #[.string t.nm, .slice sa t.slots.length sc, .slice ta t.steps.length tc], .int .i64 v, .slice ra n rc] W fun e w' => (∃ a c, ∃ k : Nat, e = .returned (.tuple #[.agg #[.int .i64 v, .slice a k c], .int .i64 0])) ∧ Below W.heap.size W w' := fun W hb => (hMk W hb).mono fun e w' h => by
          obtain ⟨⟨S, he, hM, _⟩, hb'⟩ := h
          obtain ⟨g, C, rfl, _⟩ := hM rfl
          exact ⟨⟨_, _, _, he⟩, hb'⟩
        have hAt := fun W (hb : Below w.heap.size w W) => refAt_any t v W _ hg1 hI (isTempl_below hb h0)
        have hAt2 : ∀ W, Below w.heap.size w W → Calls Tryz.prog 13 #[.agg #[.string t.nm, .slice sa t.slots.length sc, .slice ta t.steps.length tc], .int .i64 v] W fun e w' => (∃ sa sc ca cc, e = .returned (.tuple #[.agg #[.slice sa x.slots.length sc, .slice ca x.cols.length cc], .bool true]) ∧ VerAt w' x sa sc ca cc) ∧ Below W.heap.size W w' := fun W hb => (hAt W hb).mono fun e w' h => by
          unfold AtD at h; rw [hx] at h; exact h
        obtain ⟨d, rfl⟩ : ∃ d : Nat, u = (d : Int) := ⟨u.toNat, by omega⟩
        have hd255 : d ≤ 255 := by omega
        have hcv : IntKind.i64.wrap (d : Int) = (d : Int) := by rw [IntKind.wrap_i64]; omega
        have hfill := Rc.fill_turned d hx hl hf
        have hok := verOf_ok hx
        have hcol8 := hok.len
        have hslN := hok.num
        have HMK := Lib.hid hMk2; have HAT := Lib.hid hAt2; have HFILL := Lib.hid hfill; have HOK := Lib.hid hok; have HN := Lib.hid hn; have HL := Lib.hid hl; have HSZ := Lib.hid hsz6; have HSM := Lib.hid hsm; have HG1 := Lib.hid hg1; have HT := Lib.hid h0; have HR := Lib.hid hr; have HI := Lib.hid hI
        rw [hn] at hl
        have HL2 := Lib.hid hl
        obtain ⟨i0, hi0, hz0, hz1, hz2⟩ := info_parts info_val
        obtain ⟨j0, hj0, hj1, hj2, hj3⟩ := info_parts info_strN
        clear hMk hMk2 hAt hAt2 hfill hok hl hf hm hE hx hg1 hg2 hn htx hI h0 hr hgr hsz hsm hsz6 hSl0 hu
        go_enter Tryz.func3, Tryz.ntmps3
        go_wp2_with (first
          | (go_at_call 9; (with_reducible refine (HAL.out _).mono ?_); rintro e w1 ⟨rfl, hB1⟩; have hw1 := hA1.trans (hB1.mono hA1.size); have hT1 := (hB1.block _ (Array.getElem?_eq_some_iff.1 hTB).1).trans hTB; have x0 := at_heap (i := 0) (v := .string t.nm) hT1 rfl; have x1 := at_heap (i := 1) (v := .slice sa t.slots.length sc) hT1 rfl; have x2 := at_heap (i := 2) (v := .slice ta t.steps.length tc) hT1 rfl)
          | (go_at_call 10; (with_reducible refine (HG10.out _ hw1).mono ?_); rintro e w2 ⟨rfl, hB2⟩; have hw2 := hw1.trans (hB2.mono hw1.size))
          | (go_at_call 11; (with_reducible refine (HG11.out _ hw2).mono ?_); rintro e w3 ⟨rfl, hB3⟩; have hw3 := hw2.trans (hB3.mono hw2.size); have hT3 := ((hB2.trans (hB3.mono hB2.size)).block _ (Array.getElem?_eq_some_iff.1 hT1).1).trans hT1; have x0' := at_heap (i := 0) (v := .string t.nm) hT3 rfl; have x1' := at_heap (i := 1) (v := .slice sa t.slots.length sc) hT3 rfl; have x2' := at_heap (i := 2) (v := .slice ta t.steps.length tc) hT3 rfl)
          | (go_at_call 12; (with_reducible refine (HMK.out _ hw3).mono ?_); rintro e w4 ⟨⟨ma, mc, mk, rfl⟩, hB4⟩; have hA4 := (Below.refl _ w4).alloc (Nat.le_refl _) (.cells #[.int .i64 v, .slice ma mk mc] 31); have hw5 := (hw3.trans (hB4.mono hw3.size)).trans (hA4.mono (Nat.le_trans hw3.size hB4.size)); have hT5 := ((hB4.trans (hA4.mono hB4.size)).block _ (Array.getElem?_eq_some_iff.1 hT3).1).trans hT3; have x0a := at_heap (i := 0) (v := .string t.nm) hT5 rfl; have x1a := at_heap (i := 1) (v := .slice sa t.slots.length sc) hT5 rfl; have x2a := at_heap (i := 2) (v := .slice ta t.steps.length tc) hT5 rfl)
          | (go_at_call 13; (with_reducible refine (HAT.out _ hw5).mono ?_); rintro e w6 ⟨⟨sa6, sc6, ca6, cc6, rfl, hV6⟩, hB6⟩; have hw6 := hw5.trans (hB6.mono hw5.size); have hT6 := (hB6.block _ (Array.getElem?_eq_some_iff.1 hT5).1).trans hT5; have HV6 := Lib.hid hV6; clear hV6))
        have hA7 := (Below.refl _ w6).alloc (Nat.le_refl _) (.cells #[.slice sa6 x.slots.length sc6, .slice ca6 x.cols.length cc6] 37)
        have hw7 := hw6.trans (hA7.mono hw6.size)
        have hT7 := (hA7.block _ (Array.getElem?_eq_some_iff.1 hT6).1).trans hT6
        have hX7 := heap_self9 w6 (.cells #[.slice sa6 x.slots.length sc6, .slice ca6 x.cols.length cc6] 37)
        have hV7 := verAt_below HV6.out hA7
        obtain ⟨bx, hbx⟩ : ∃ b, w6.heap.size = b := ⟨_, rfl⟩
        obtain ⟨w7, hw7e⟩ : ∃ U, w6.alloc (.cells #[.slice sa6 x.slots.length sc6, .slice ca6 x.cols.length cc6] 37) = U := ⟨_, rfl⟩
        rw [hw7e] at hw7 hT7 hX7 hV7 ⊢
        rw [hbx] at hX7 ⊢
        have HV7 := Lib.hid hV7
        clear hbx hw7e hA7 hT6 hw6 hV7 hB6 hT5 x0a x1a x2a hw5 hA4 hB4 x0 x1 x2 x0' x1' x2' hT3 hT1 hw3 hw2 hw1 hB1 hB2 hB3 HV6
        obtain ⟨z0, z1, _, _⟩ := two_all hX7
        obtain ⟨y0, y1, y2⟩ := three_cells hT7
        go_loopw [13, 14, 15, 16] (fun nv vv i kk wr => ∃ q : Nat, q ≤ n ∧ i = .int .i64 (q : Int) ∧ RN w7 wr x row d q nv vv) (fun _ _ i _ _ => n - (intOf i).toNat)
        case atStart => exact ⟨0, Nat.zero_le _, rfl, Below.refl _ _, World.ownsRow_nil _ _ _ _, [], World.ownsRow_nil _ _ _ _, vCells_nil _⟩
        case round =>
          obtain ⟨q, hq, rfl, hRN⟩ := hrel
          obtain ⟨wj, hwj⟩ : ∃ x, x = wr := ⟨_, rfl⟩
          subst hwj
          have hbj := hRN.1
          rcases Nat.lt_or_ge q n with hlt | hge
          · have hd : decide ((q : Int) < (n : Int)) = true := by simp; omega
            have hnn := HN.out
            have hll := HL2.out
            have hw1' : IntKind.i64.wrap ((q : Int) + (d : Int)) = ((q + d : Nat) : Int) := by rw [IntKind.wrap_i64]; omega
            obtain ⟨k, hk⟩ : ∃ k, Rc.turnK n d q = k := ⟨_, rfl⟩
            have hkn : k < n := by rw [← hk]; exact Nat.mod_lt _ (by omega)
            have hrem : (((q + d : Nat) : Int)).tmod (n : Int) = (k : Int) := by
              rw [← hk, Int.tmod_eq_emod_of_nonneg (by omega)]; unfold Rc.turnK; omega
            have hrem2 : ((q : Int) + (d : Int)) % (n : Int) = (k : Int) := by
              rw [show ((q : Int) + (d : Int)) = ((q + d : Nat) : Int) by omega, ← Int.tmod_eq_emod_of_nonneg (by omega)]; exact hrem
            have hwk : IntKind.i64.wrap (k : Int) = (k : Int) := by rw [IntKind.wrap_i64]; omega
            have hn0 : ((n : Int) == 0) = false := by simp; omega
            have hnz : ¬ (n : Int) = 0 := by omega
            obtain ⟨c, hc⟩ : ∃ c, x.cols[k]? = some c := ⟨x.cols[k], List.getElem?_eq_getElem (by omega)⟩
            have hcl := HOK.out.lt c (List.mem_of_getElem? hc)
            obtain ⟨s, hs⟩ : ∃ s, x.slots[c]? = some s := ⟨x.slots[c], List.getElem?_eq_getElem hcl⟩
            obtain ⟨cb, co, rfl, hcc⟩ := row_nth HV7.out.2 k (by omega)
            have e0 : (x.cols.map Int.ofNat)[k]?.getD 0 = (c : Int) := by rw [List.getElem?_map, hc]; rfl
            rw [e0] at hcc
            obtain ⟨sb, so, rfl, hss⟩ := slotRow_nth HV7.out.1 hs
            obtain ⟨c0, c1, c2, c3, c4, c5, c6, ⟨g0, _⟩, hs7⟩ := hss
            obtain ⟨hsn, _, rfl, _⟩ := hs7
            obtain ⟨y, hy⟩ : ∃ y, row[k]? = some y := ⟨row[k], List.getElem?_eq_getElem (by omega)⟩
            obtain ⟨rb, ro, kk0, kn, kt, kla, kll, klc, rfl, ⟨p0, p1, p2, p3⟩, hyI⟩ := pRow_val (pRow_below hw7 HR.out) hy
            have hcol : Rc.colNm x k = s.nm := by unfold Rc.colNm; rw [hc]; show (Sc.slotOf x c).nm = _; rw [Sc.slotOf_some hs]
            have hnmS := namesT_succ x d q
            rw [hll.symm, hk, hcol] at hnmS
            have hvlS := valsT_succ row.length row d q
            rw [show Rc.turnK row.length d q = k by rw [hnn]; exact hk, hy] at hvlS
            simp only [Option.getD_some] at hvlS
            have hki : (k : Int) < (x.cols.length : Int) := by omega
            have hci : (c : Int) < (x.slots.length : Int) := by omega
            have hkr : (k : Int) < (n : Int) := by omega
            have hsnl := hsn
            unfold maxLen at hsnl
            have HNS := Lib.hid hnmS; have HVS := Lib.hid hvlS; have HYI := Lib.hid hyI; have HSN := Lib.hid hsn
            clear hnmS hvlS hyI hsn hk hc hs e0 hy hnn hll hcol hsnl hn0
            go_wp2_with fail
            refine wp_regionZ (S := fun W => Below w7.heap.size w7 W) 99 14 #[false, false, false, false, false, false, false, false, false, false, false, false, false, false] (by kernel_rfl) (by kernel_rfl) (by kernel_rfl) ?_
            have hR0 := rn_below hRN (below_drew9 wj)
            have hS0 := hR0.1
            obtain ⟨V0, hV0⟩ : ∃ V0, wj.drew = V0 := ⟨_, rfl⟩
            rw [hV0] at hR0 hS0 ⊢
            clear hV0
            refine lastZ_take (i := 0) (v := ?_) rfl (by kernel_rfl) (by kernel_rfl) (by kernel_rfl) (by kernel_rfl) (fun _ _ _ h => h) (Or.inl ⟨by rfl, ?_⟩) (by assumption) ?_
            rotate_left
            · intro w8 hSw; have t0 := cell_below hSw z0; have t1 := cell_below hSw z1; have t2 := cell_below hSw hcc; have t3 := cell_below hSw g0; clear hSw; go_simp; (try with_reducible rfl)
            (try simp only [Act.put, List.setIfInBounds_toArray, List.set_cons_zero, List.set_cons_succ])
            refine lastZ_take (i := 1) (v := ?_) rfl (by kernel_rfl) (by kernel_rfl) (by kernel_rfl) (by kernel_rfl) (fun _ _ _ h => h) (Or.inl ⟨by rfl, ?_⟩) (by assumption) ?_
            rotate_left
            · intro w8 hSw; have t0 := cell_below hSw z0; have t1 := cell_below hSw z1; have t2 := cell_below hSw hcc; have t3 := cell_below hSw g0; clear hSw; go_simp; (try with_reducible rfl)
            (try simp only [Act.put, List.setIfInBounds_toArray, List.set_cons_zero, List.set_cons_succ])
            refine lastZ_take (i := 2) (v := ?_) rfl (by kernel_rfl) (by kernel_rfl) (by kernel_rfl) (by kernel_rfl) (fun _ _ _ h => h) (Or.inl ⟨by rfl, ?_⟩) (by assumption) ?_
            rotate_left
            · intro w8 hSw; have t0 := cell_below hSw z0; have t1 := cell_below hSw z1; have t2 := cell_below hSw hcc; have t3 := cell_below hSw g0; clear hSw; go_simp; (try with_reducible rfl)
            (try simp only [Act.put, List.setIfInBounds_toArray, List.set_cons_zero, List.set_cons_succ])
            refine lastZ_take (i := 3) (v := ?_) rfl (by kernel_rfl) (by kernel_rfl) (by kernel_rfl) (by kernel_rfl) (fun _ _ _ h => h) (Or.inl ⟨by rfl, ?_⟩) (by assumption) ?_
            rotate_left
            · intro w8 hSw; have t0 := cell_below hSw z0; have t1 := cell_below hSw z1; have t2 := cell_below hSw hcc; have t3 := cell_below hSw g0; clear hSw; go_simp; (try with_reducible rfl)
            (try simp only [Act.put, List.setIfInBounds_toArray, List.set_cons_zero, List.set_cons_succ])
            refine lastZ_take (i := 4) (v := ?_) rfl (by kernel_rfl) (by kernel_rfl) (by kernel_rfl) (by kernel_rfl) (fun _ _ _ h => h) (Or.inl ⟨by rfl, ?_⟩) (by assumption) ?_
            rotate_left
            · intro w8 hSw; have t0 := cell_below hSw z0; have t1 := cell_below hSw z1; have t2 := cell_below hSw hcc; have t3 := cell_below hSw g0; clear hSw; go_simp; (try with_reducible rfl)
            (try simp only [Act.put, List.setIfInBounds_toArray, List.set_cons_zero, List.set_cons_succ])
            refine lastZ_take (i := 5) (v := ?_) rfl (by kernel_rfl) (by kernel_rfl) (by kernel_rfl) (by kernel_rfl) (fun _ _ _ h => h) (Or.inl ⟨by rfl, ?_⟩) (by assumption) ?_
            rotate_left
            · intro w8 hSw; have t0 := cell_below hSw z0; have t1 := cell_below hSw z1; have t2 := cell_below hSw hcc; have t3 := cell_below hSw g0; clear hSw; go_simp; (try with_reducible rfl)
            (try simp only [Act.put, List.setIfInBounds_toArray, List.set_cons_zero, List.set_cons_succ])
            refine lastZ_take (i := 6) (v := ?_) rfl (by kernel_rfl) (by kernel_rfl) (by kernel_rfl) (by kernel_rfl) (fun _ _ _ h => h) (Or.inl ⟨by rfl, ?_⟩) (by assumption) ?_
            rotate_left
            · intro w8 hSw; have t0 := cell_below hSw z0; have t1 := cell_below hSw z1; have t2 := cell_below hSw hcc; have t3 := cell_below hSw g0; clear hSw; go_simp; (try with_reducible rfl)
            (try simp only [Act.put, List.setIfInBounds_toArray, List.set_cons_zero, List.set_cons_succ])
            refine lastZ_take (i := 7) (v := ?_) rfl (by kernel_rfl) (by kernel_rfl) (by kernel_rfl) (by kernel_rfl) (fun _ _ _ h => h) (Or.inl ⟨by rfl, ?_⟩) (by assumption) ?_
            rotate_left
            · intro w8 hSw; have t0 := cell_below hSw z0; have t1 := cell_below hSw z1; have t2 := cell_below hSw hcc; have t3 := cell_below hSw g0; clear hSw; go_simp; (try with_reducible rfl)
            (try simp only [Act.put, List.setIfInBounds_toArray, List.set_cons_zero, List.set_cons_succ])
            refine lastZ_take (i := 8) (v := ?_) rfl (by kernel_rfl) (by kernel_rfl) (by kernel_rfl) (by kernel_rfl) (fun _ _ _ h => h) (Or.inl ⟨by rfl, ?_⟩) (by assumption) ?_
            rotate_left
            · intro w8 hSw; have t0 := cell_below hSw z0; have t1 := cell_below hSw z1; have t2 := cell_below hSw hcc; have t3 := cell_below hSw g0; clear hSw; go_simp; (try with_reducible rfl)
            (try simp only [Act.put, List.setIfInBounds_toArray, List.set_cons_zero, List.set_cons_succ])
            refine lastZ_take (i := 9) (v := ?_) rfl (by kernel_rfl) (by kernel_rfl) (by kernel_rfl) (by kernel_rfl) (fun _ _ _ h => h) (Or.inl ⟨by rfl, ?_⟩) (by assumption) ?_
            rotate_left
            · intro w8 hSw; have t0 := cell_below hSw z0; have t1 := cell_below hSw z1; have t2 := cell_below hSw hcc; have t3 := cell_below hSw g0; clear hSw; go_simp; (try with_reducible rfl)
            (try simp only [Act.put, List.setIfInBounds_toArray, List.set_cons_zero, List.set_cons_succ])
            refine lastZ_take (i := 10) (v := ?_) rfl (by kernel_rfl) (by kernel_rfl) (by kernel_rfl) (by kernel_rfl) (fun _ _ _ h => h) (Or.inl ⟨by rfl, ?_⟩) (by assumption) ?_
            rotate_left
            · intro w8 hSw; have t0 := cell_below hSw z0; have t1 := cell_below hSw z1; have t2 := cell_below hSw hcc; have t3 := cell_below hSw g0; clear hSw; go_simp; (try with_reducible rfl)
            (try simp only [Act.put, List.setIfInBounds_toArray, List.set_cons_zero, List.set_cons_succ])
            (with_reducible refine lastZ_one (i := 11) (o := ?ob11) (by kernel_rfl) ?ho11 (fun K hK => ?st11))
            case ho11 => exact rfl
            go_simp
            have hA1' := Below.heapsize9 V0 (.cells #[.string s.nm] 9)
            have hR1 := rn_below hR0 hA1'
            have hcn : Cells (V0.alloc (.cells #[.string s.nm] 9)) 1 (some ⟨V0.heap.size, 0, none⟩) 1 [.string s.nm] := one_cell9 V0 _ _
            obtain ⟨V1, hU⟩ : ∃ U, V0.alloc (.cells #[.string s.nm] 9) = U := ⟨_, rfl⟩
            obtain ⟨gn, hgn⟩ : ∃ g, V0.heap.size = g := ⟨_, rfl⟩
            rw [hU] at hR1 hcn ⊢
            rw [hgn] at hcn ⊢
            clear hR0 hS0 hA1' hU hgn
            have hS0 := hR1.1
            refine hK.out _ _ (.inr hS0) ?_
            clear hK K
            (with_reducible refine lastZ_one (i := 12) (o := ?ob12) (by kernel_rfl) ?ho12 (fun K hK => ?st12))
            case ho12 => exact rfl
            obtain ⟨hS1, hN1, cs3, hC1, hVC⟩ := hR1
            refine step_append_at _ rfl _ _ 40 rfl w7.heap.size 9 j0 _ 1 16 Tryz.underlying40 hj0 hj1 hj2 hj3 rfl (by decide) u13 q _ (by first | rfl | simp [Act.eval]) hN1 (some ⟨gn, 0, none⟩) 1 1 [.string s.nm] (by first | rfl | simp [Act.eval]) hcn (by simp [Value.oneCell']) (by unfold maxLen; omega) (by omega) hS1.size ?_
            intro nv4 V2 ho4 hg4 _
            have hS2 := below_grown9 hS1 hg4 (fun b e => (own_blk9 hN1 b e).2) hS1.size
            have hC2 := own_kept9 hC1 hg4 (fun b e1 e2 => own_apart9 hC1 hN1 (by decide) b e2 e1)
            clear hS0 hcn hg4 hN1 hC1 hS1
            refine hK.out _ _ (.inr hS2) ?_
            clear hK K
            refine lastZ_take (i := 13) (v := ?_) rfl (by kernel_rfl) (by kernel_rfl) (by kernel_rfl) (by kernel_rfl) (fun _ _ _ h => h) (Or.inl ⟨by rfl, ?_⟩) (by assumption) ?_
            rotate_left
            · intro w8 hSw; have t0 := cell_below hSw z0; have t1 := cell_below hSw z1; have t2 := cell_below hSw hcc; have t3 := cell_below hSw g0; clear hSw; go_simp; (try with_reducible rfl)
            (try simp only [Act.put, List.setIfInBounds_toArray, List.set_cons_zero, List.set_cons_succ])
            refine lastZ_done (by kernel_rfl) ?_ _
            have q0 := cell_below hS2 p0
            have q1 := cell_below hS2 p1
            have q2 := cell_below hS2 p2
            have q3 := cell_below hS2 p3
            have hA3 := Below.heapsize9 V2 (.cells #[.int .i64 kk0, .int .i64 kn, .string kt, .slice kla kll klc] 42)
            have HS3 := Lib.hid (hS2.trans (hA3.mono hS2.size))
            have HC3 := Lib.hid (ownsRow_below hC2 hA3)
            have HN3 := Lib.hid (ownsRow_below ho4 hA3)
            have hsz4 : w7.heap.size ≤ (V2.alloc (.cells #[.int .i64 kk0, .int .i64 kn, .string kt, .slice kla kll klc] 42)).heap.size := HS3.out.size
            have HVC := Lib.hid hVC
            obtain ⟨V3, hV3⟩ : ∃ V, V = V2 := ⟨_, rfl⟩
            rw [← hV3] at HS3 HC3 HN3 hsz4 q0 q1 q2 q3 ⊢
            clear hV3 hA3 hC2 ho4 hS2 hVC p0 p1 p2 p3
            go_wp2_with (first
              | (at_builtin; refine wpList_append_at _ rfl _ _ 26 rfl w7.heap.size 42 i0 _ 4 56 Tryz.underlying26 hi0 hz0 hz1 hz2 rfl (by decide) u14 q cs3 rfl HC3.out (some ⟨V3.heap.size, 0, none⟩) 1 1 [.int .i64 kk0, .int .i64 kn, .string kt, .slice kla kll klc] rfl ⟨rfl, .inr ⟨_, rfl, cells_new V3 [_, _, _, _] _⟩⟩ (by simp [Value.oneCell']) (by unfold maxLen; omega) (by omega) hsz4 ?_; intro vv5 V5 ho5 hg5 _; have hN5 := own_kept9 HN3.out hg5 (fun b e1 e2 => own_apart9 HC3.out HN3.out (by decide) b e1 e2); have hS5 := below_grown9 HS3.out hg5 (fun b e => (own_blk9 HC3.out b e).2) HS3.out.size; have HR5 := Lib.hid (show RN w7 V5 x row d (q + 1) nv4 vv5 from ⟨hS5, by rw [HNS.out, List.map_append]; exact hN5, _, ho5, by rw [HVS.out]; exact vCells_snoc HVC.out HYI.out⟩); clear ho5 hg5 hN5 hS5))
            go_roundw
            case rel => exact ⟨q + 1, by omega, by go_num, HR5.out⟩
            case measure => simp [intOf]; omega
          · obtain rfl : q = n := by omega
            have hd : decide ((q : Int) < (q : Int)) = false := by simp
            obtain ⟨_, hN9, cs9, hC9, hVC9⟩ := hRN
            have hnn := HN.out
            have hlN : (Rc.namesT x d q).length = q := by unfold Rc.namesT; simp
            have hlV : (Rc.valsT row.length row d q).length = q := by unfold Rc.valsT; simp
            obtain ⟨na, nc, rfl, hNR⟩ := nRow_own (l := Rc.namesT x d q) (by rw [hlN]; exact hN9)
            obtain ⟨va, vc, rfl, hVR⟩ := own_isL (l := Rc.valsT row.length row d q) (by rw [hlV]; exact hC9) hVC9 hbj
            have hbw := hw7.trans (hbj.mono hw7.size)
            have hmem : ∀ y ∈ Rc.valsT row.length row d q, y ∈ row := fun y hy => by
              unfold Rc.valsT at hy
              obtain ⟨i, hi, rfl⟩ := List.mem_map.1 hy
              have hi' := List.mem_range.1 hi
              have hlt : Rc.turnK row.length d i < row.length := Nat.mod_lt _ (by omega)
              rw [List.getElem?_eq_getElem hlt, Option.getD_some]
              exact List.getElem_mem _
            have hnms : ∀ s ∈ Rc.namesT x d q, s.size ≤ maxLen := fun s hs => by
              unfold Rc.namesT at hs
              obtain ⟨i, hi, rfl⟩ := List.mem_map.1 hs
              have hi' := List.mem_range.1 hi
              have hll := HL2.out
              have hlt : Rc.turnK x.cols.length d i < x.cols.length := Nat.mod_lt _ (by omega)
              unfold Rc.colNm
              rw [List.getElem?_eq_getElem hlt, Option.getD_some]
              have hcl := HOK.out.lt _ (List.getElem_mem hlt)
              rw [Sc.slotOf_some (List.getElem?_eq_getElem hcl)]
              obtain ⟨_, _, _, hss⟩ := slotRow_nth HV7.out.1 (List.getElem?_eq_getElem hcl)
              obtain ⟨c0, c1, c2, c3, c4, c5, c6, _, hs7⟩ := hss
              exact hs7.1
            have hF := rFill_any t v (Rc.namesT x d q) (Rc.valsT row.length row d q) wj _ na nc va vc HG1.out HI.out (isTempl_below hbw HT.out) hNR hnms hVR (fun y hy => HSZ.out y (hmem y hy)) (fun y hy => HSM.out y (hmem y hy)) (by rw [hlV]; omega) (by rw [hlN]; omega)
            have hfl := HFILL.out
            rw [hnn] at hfl
            rw [hlN, hlV] at hF ⊢
            rw [show Rc.valsT row.length row d q = Rc.valsT q row d q by rw [hnn], hfl] at hF
            have hF2 : Calls Tryz.prog 14 #[.agg #[.string t.nm, .slice sa t.slots.length sc, .slice ta t.steps.length tc], .int .i64 v, .slice na q nc, .slice va q vc] wj fun e w' => (∃ g, e = .returned (.tuple #[.slice (some ⟨g, 0, none⟩) q q, .int .i64 0]) ∧ PRow w' (some ⟨g, 0, none⟩) q row) ∧ Below wj.heap.size wj w' := hF.mono fun e w' h => by
              obtain ⟨⟨S, he, hM⟩, hb'⟩ := h
              obtain ⟨g, eS, _, hp⟩ := made_row (hM rfl) (by show row.length ≤ 1000000; omega) (fun _ _ _ => rfl)
              subst eS
              simp only [hnn] at he hp
              exact ⟨⟨g, he, hp⟩, hb'⟩
            have HF2 := Lib.hid hF2
            have hTj := (hbj.block _ (Array.getElem?_eq_some_iff.1 hT7).1).trans hT7
            obtain ⟨y0', y1', y2'⟩ := three_cells hTj
            clear hF hF2 hfl hmem hnms hNR hVR hN9 hC9 hVC9 hlN hlV hnn hTj
            go_wp2_with (first
              | (go_at_call 14; (with_reducible refine HF2.out.mono ?_); rintro e w8 ⟨⟨g8, rfl, hP8⟩, hB8⟩; have hb8 := hbw.trans (hB8.mono hbw.size); have hAll := refAll_any (some ⟨g8, 0, none⟩) ra q rc row row w8 hP8 (pRow_below hb8 HR.out) (by have := HN.out; omega) (by have := HN.out; omega) true (by simp); rw [HN.out] at hAll; have HALL := Lib.hid hAll; clear hAll hP8)
              | (go_at_call 15; (with_reducible refine HALL.out.mono ?_); rintro e w9 ⟨rfl, hB9⟩))
            go_ret
            exact ⟨rfl, hb8.trans (hB9.mono hb8.size)⟩
      · have hMk2 : ∀ W, Below w.heap.size w W → Calls Tryz.prog 12 #[.agg #[.string t.nm, .slice sa t.slots.length sc, .slice ta t.steps.length tc], .int .i64 v, .slice ra n rc] W fun e w' => e = .returned (.tuple #[.agg #[.int .i64 (Rc.make t v row).1.v, .slice none 0 0], .int .i64 (Rc.make t v row).2]) ∧ Below W.heap.size W w' := fun W hb => (hMk W hb).mono fun e w' h => by
          obtain ⟨⟨S, he, _, hM⟩, hb'⟩ := h
          rw [hM hE] at he
          exact ⟨he, hb'⟩
        obtain ⟨E, hEe⟩ : ∃ E, (Rc.make t v row).2 = E := ⟨_, rfl⟩
        obtain ⟨V, hVe⟩ : ∃ E, (Rc.make t v row).1.v = E := ⟨_, rfl⟩
        rw [hEe] at hE
        rw [hEe, hVe] at hMk2
        have hne : (E != 0) = true := by rw [bne_iff_ne]; exact hE
        have HMK := Lib.hid hMk2
        clear hMk hMk2 hEe hVe hg1 hg2 hn htx hI h0 hr hgr hsz hsm hsz6 hSl0 hE
        go_enter Tryz.func3, Tryz.ntmps3
        go_wp2_with (first
          | (go_at_call 9; (with_reducible refine (HAL.out _).mono ?_); rintro e w1 ⟨rfl, hB1⟩; have hw1 := hA1.trans (hB1.mono hA1.size); have hT1 := (hB1.block _ (Array.getElem?_eq_some_iff.1 hTB).1).trans hTB; have x0 := at_heap (i := 0) (v := .string t.nm) hT1 rfl; have x1 := at_heap (i := 1) (v := .slice sa t.slots.length sc) hT1 rfl; have x2 := at_heap (i := 2) (v := .slice ta t.steps.length tc) hT1 rfl)
          | (go_at_call 10; (with_reducible refine (HG10.out _ hw1).mono ?_); rintro e w2 ⟨rfl, hB2⟩; have hw2 := hw1.trans (hB2.mono hw1.size))
          | (go_at_call 11; (with_reducible refine (HG11.out _ hw2).mono ?_); rintro e w3 ⟨rfl, hB3⟩; have hw3 := hw2.trans (hB3.mono hw2.size); have hT3 := ((hB2.trans (hB3.mono hB2.size)).block _ (Array.getElem?_eq_some_iff.1 hT1).1).trans hT1; have x0' := at_heap (i := 0) (v := .string t.nm) hT3 rfl; have x1' := at_heap (i := 1) (v := .slice sa t.slots.length sc) hT3 rfl; have x2' := at_heap (i := 2) (v := .slice ta t.steps.length tc) hT3 rfl)
          | (go_at_call 12; (with_reducible refine (HMK.out _ hw3).mono ?_); rintro e w4 ⟨rfl, hB4⟩))
        go_ret
        exact ⟨rfl, ((hw3.trans (hB4.mono hw3.size))).alloc (Nat.le_trans hw3.size hB4.size) _⟩
end recordNamesWalk
end Go.Proofs.YtibjjclfonpibaaGreat
