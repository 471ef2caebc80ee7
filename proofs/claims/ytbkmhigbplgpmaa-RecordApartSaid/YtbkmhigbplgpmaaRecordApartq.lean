/- The walk of RecordApart: a record is new memory. -/
import Derived.Test.YtbkmhigbplgpmaaMg48Rec
import Derived.Test.YtbkmhigbplgpmaaRcWq
import Derived.Test.YtbkmhigbplgpmaaMg16Rec
set_option linter.unusedVariables false
set_option linter.unusedSimpArgs false
set_option maxRecDepth 100000
namespace Go.Proofs.Ytbkmhigbplgpmaa
open Go.RowKit Go.Shelf
/-- texts that a machine can hold, wherever in a value -/
def txtV : PV → Prop
  | .mk _ _ s l => s.size ≤ 140737488355328 ∧ txtL l
where txtL : List PV → Prop
  | [] => True
  | x :: r => txtV x ∧ txtL r
theorem txt_small : ∀ v : PV, txtV v → szV v ≤ 1000 → small v := by
  refine pv_ind fun k n s l ih h hz => ?_
  unfold txtV at h
  simp only [szV] at hz
  unfold small
  have hl : ∀ r : List PV, szL r ≤ 1000 → r.length ≤ szL r := by
    intro r
    induction r with
    | nil => intro _; simp [szL]
    | cons x r ihr => intro h; simp only [szL] at h ⊢; have := ihr (by omega); have := szV_pos x; simp; omega
  refine ⟨h.1, by have := hl l (by omega); omega, ?_⟩
  have h2 := h.2
  have hz2 : szL l ≤ 1000 := by omega
  clear h hz
  induction l with
  | nil => trivial
  | cons x r ihr =>
    unfold txtV.txtL at h2
    simp only [szL] at hz2
    unfold small.smallL
    exact ⟨ih x (List.mem_cons_self ..) h2.1 (by omega), ihr (fun y hy => ih y (List.mem_cons_of_mem _ hy)) h2.2 (by omega)⟩
theorem cells_at9 {W : World} {g : Nat} (h : W.heap.size = g) (l : List Value) : Cells (W.alloc (.cells l.toArray 31)) 4 (some ⟨g, 0, none⟩) 1 l ∨ l.length ≠ 4 := by
  by_cases hl : l.length = 4
  · left
    subst h
    exact ⟨by omega, .inr ⟨_, rfl, cells_new W l _⟩⟩
  · exact .inr hl
theorem cells4_at {W : World} {g : Nat} (h : W.heap.size = g) (c0 c1 c2 c3 : Value) : Cells (W.alloc (.cells #[c0, c1, c2, c3] 31)) 4 (some ⟨g, 0, none⟩) 1 [c0, c1, c2, c3] := by
  subst h
  exact ⟨rfl, .inr ⟨_, rfl, cells_new W [c0, c1, c2, c3] _⟩⟩
theorem two_allocs9 (W : World) (o o' : Obj) : Below W.heap.size W ((W.alloc o).alloc o') := ((Below.refl _ W).alloc (Nat.le_refl _) o).alloc (by simp) o'
theorem make_ok {t : TemplM} {v : Int} {row : List PV} (h : (Rc.make t v row).2 = 0) : ∃ x, Rc.verOf t v = some x ∧ row.length = x.cols.length ∧ Rc.fitL x.slots (Rc.made x row) = true ∧ Rc.make t v row = (⟨v, Rc.made x row⟩, 0) := by
  unfold Rc.make at h ⊢
  cases hv : Rc.verOf t v with
  | none =>
    rw [hv] at h
    simp only at h
    split at h <;> cases h
  | some x =>
    rw [hv] at h
    simp only at h ⊢
    by_cases hl : row.length = x.cols.length
    · rw [if_neg (by simpa using hl)] at h ⊢
      split at h
      · rename_i hf
        exact ⟨x, rfl, hl, hf, by rw [if_pos hf]⟩
      · cases h
    · rw [if_pos hl] at h
      cases h
theorem own_facts {W : World} {base n oc : Nat} {oa : Option Addr} {cs : List Value} (h : W.ownsRow base 31 4 (.slice oa n oc) n cs) (hn : 0 < n) : ∃ ob, ∃ cur : Array Value, oa = some ⟨ob, 0, none⟩ ∧ base ≤ ob ∧ ob < W.heap.size ∧ W.heap[ob]? = some (.cells cur 31 (0, 0)) ∧ n * 4 ≤ cur.size ∧ ∀ (j : Nat) (u : Value), cs[j]? = some u → cur[j]? = some u := by
  obtain ⟨h1, h2⟩ := h
  rcases h2 with ⟨_, h0⟩ | ⟨g, cap, cur, e, hg, hh, hnc, hm, hsz, ht⟩
  · omega
  · injection e with e1 e2 e3
    subst e1
    refine ⟨g, cur, rfl, hg, vlt hh, hh, by omega, fun j u hu => ?_⟩
    rw [← ht, List.getElem?_take] at hu
    split at hu
    · rwa [Array.getElem?_toList] at hu
    · cases hu
/-- an own value's list -/
theorem oe_list {base : Nat} {ob : Option Nat} {w0 W : World} {k n : Int} {s : ByteArray} {l : List PV} {c0 c1 c2 c3 : Value} (h : OE base ob w0 W (.mk k n s l) c0 c1 c2 c3) : ∃ a cap, c3 = .slice a l.length cap ∧ (0 < l.length → ∃ lb, ∃ cur : Array Value, a = some ⟨lb, 0, none⟩ ∧ base ≤ lb ∧ lb < W.heap.size ∧ some lb ≠ ob ∧ W.heap[lb]? = some (.cells cur 31 (0, 0)) ∧ l.length * 4 ≤ cur.size) := by
  obtain ⟨_, _, _, xs, ho, _, hne⟩ := h
  obtain ⟨a, cap, rfl⟩ := own_form9 ho
  refine ⟨a, cap, rfl, fun hl => ?_⟩
  obtain ⟨lb, cur, rfl, h1, h2, h3, h4, _⟩ := own_facts ho hl
  exact ⟨lb, cur, rfl, h1, h2, hne lb rfl, h3, h4⟩
/-- a copy's list -/
theorem copied_list {B : Nat} {W : World} {k n : Int} {s : ByteArray} {l : List PV} {c0 c1 c2 c3 : Value} (h : Copied B W (.mk k n s l) (.agg #[c0, c1, c2, c3])) : ∃ a, c3 = .slice a l.length l.length ∧ (0 < l.length → ∃ lb, ∃ cur : Array Value, a = some ⟨lb, 0, none⟩ ∧ B ≤ lb ∧ W.heap[lb]? = some (.cells cur 31 (0, 0)) ∧ l.length * 4 ≤ cur.size) := by
  obtain ⟨_, a, e, h2⟩ := h
  simp only [Value.agg.injEq, Array.mk.injEq, List.cons.injEq, and_true] at e
  obtain ⟨rfl, rfl, rfl, rfl⟩ := e
  refine ⟨a, rfl, fun hl => ?_⟩
  rcases h2 with ⟨rfl, _⟩ | ⟨_, g, C, rfl, hg, hh, hC, _⟩
  · simp at hl
  · exact ⟨g, C, rfl, hg, hh, by omega⟩
theorem build_val0 (w : World) : (Instr.build 31 #[]).run Try.prog w = .ok (.agg #[.int .i64 0, .int .i64 0, .string ⟨#[]⟩, .slice none 0 0]) w := run_build w 31 _ _ (by kernel_rfl)
theorem build_valT (w : World) : (Instr.build 31 #[(0, .int .i64 3), (2, .string ⟨#[116, 117, 114, 110, 101, 100]⟩)]).run Try.prog w = .ok (.agg #[.int .i64 3, .int .i64 0, .string ⟨#[116, 117, 114, 110, 101, 100]⟩, .slice none 0 0]) w := run_build w 31 _ _ (by kernel_rfl)
namespace recordApartWalk
set_option maxHeartbeats 16000000 in
theorem walkA (t : TemplM) (v : Int) (row : List PV) (X : Value) (ra : Option Addr) (rc : Nat) (w : World) (hI : I64 v) (hi : IsTempl w t X) (hr : PRow w ra rc row) (htx : ∀ y ∈ row, txtV y) :
    Calls Try.prog 3 #[X, .int .i64 v, .slice ra row.length rc] w fun e w' => e = .returned (.bool true) ∧ Below w.heap.size w w' := by
  have h0 := hi
  obtain ⟨h1, sa, sc, ta, tc, rfl, hsl, hst⟩ := hi
  have hA1 := (Below.refl _ w).alloc (Nat.le_refl _) (.cells #[.string t.nm, .slice sa t.slots.length sc, .slice ta t.steps.length tc] 25)
  have hTB := heap_self9 w (.cells #[.string t.nm, .slice sa t.slots.length sc, .slice ta t.steps.length tc] 25)
  have hal := fun W => recAlive_any W
  have hG10 := fun W (hb : Below w.heap.size w W) => refGreat10_any t W _ (isTempl_below hb h0)
  have hG11 := fun W (hb : Below w.heap.size w W) => refGreat11_any ra rc row W (pRow_below hb hr)
  obtain ⟨n, hn⟩ : ∃ n, row.length = n := ⟨_, rfl⟩
  obtain ⟨g1, hg1⟩ : ∃ g, greatT t = g := ⟨_, rfl⟩
  obtain ⟨g2, hg2⟩ : ∃ g, greatL row = g := ⟨_, rfl⟩
  rw [hg1] at hG10
  rw [hg2, hn] at hG11
  rw [hn]
  have HAL := Lib.hid hal; have HG10 := Lib.hid hG10; have HG11 := Lib.hid hG11
  clear hal hG10 hG11 hsl hst
  cases g1 with
  | true =>
    clear hg1 hg2 hn htx hI h0 hr
    go_enter Try.func3, Try.ntmps3
    go_wp2_with (first
      | (go_at_call 4; (with_reducible refine (HAL.out _).mono ?_); rintro e w1 ⟨rfl, hB1⟩; have hw1 := hA1.trans (hB1.mono hA1.size); have hT1 := (hB1.block _ (Array.getElem?_eq_some_iff.1 hTB).1).trans hTB; have x0 := at_heap (i := 0) (v := .string t.nm) hT1 rfl; have x1 := at_heap (i := 1) (v := .slice sa t.slots.length sc) hT1 rfl; have x2 := at_heap (i := 2) (v := .slice ta t.steps.length tc) hT1 rfl)
      | (go_at_call 5; (with_reducible refine (HG10.out _ hw1).mono ?_); rintro e w2 ⟨rfl, hB2⟩))
    go_ret
    exact ⟨rfl, hw1.trans (hB2.mono hw1.size)⟩
  | false =>
    cases g2 with
    | true =>
      clear hg1 hg2 hn htx hI h0 hr
      go_enter Try.func3, Try.ntmps3
      go_wp2_with (first
        | (go_at_call 4; (with_reducible refine (HAL.out _).mono ?_); rintro e w1 ⟨rfl, hB1⟩; have hw1 := hA1.trans (hB1.mono hA1.size); have hT1 := (hB1.block _ (Array.getElem?_eq_some_iff.1 hTB).1).trans hTB; have x0 := at_heap (i := 0) (v := .string t.nm) hT1 rfl; have x1 := at_heap (i := 1) (v := .slice sa t.slots.length sc) hT1 rfl; have x2 := at_heap (i := 2) (v := .slice ta t.steps.length tc) hT1 rfl)
        | (go_at_call 5; (with_reducible refine (HG10.out _ hw1).mono ?_); rintro e w2 ⟨rfl, hB2⟩; have hw2 := hw1.trans (hB2.mono hw1.size))
        | (go_at_call 6; (with_reducible refine (HG11.out _ hw2).mono ?_); rintro e w3 ⟨rfl, hB3⟩))
      go_ret
      exact ⟨rfl, hw2.trans (hB3.mono hw2.size)⟩
    | false =>
      obtain ⟨hn40, hgr⟩ := greatL_sz hg2
      have hsz : ∀ y ∈ row, szV y ≤ 1000 := fun y hy => great_sz y (hgr y hy)
      have hsm : ∀ y ∈ row, small y := fun y hy => txt_small y (htx y hy) (hsz y hy)
      rw [hn] at hn40
      have HGT := Lib.hid hg1; have HSZ := Lib.hid hsz; have HSM := Lib.hid hsm; have HN := Lib.hid hn; have HR := Lib.hid hr; have HT := Lib.hid h0; have HI := Lib.hid hI
      obtain ⟨i0, hi0, hz0, hz1, hz2⟩ := info_parts info_val
      clear hg1 hg2 hn htx hI h0 hr hgr hsz hsm
      go_enter Try.func3, Try.ntmps3
      go_wp2_with (first
        | (go_at_call 4; (with_reducible refine (HAL.out _).mono ?_); rintro e w1 ⟨rfl, hB1⟩; have hw1 := hA1.trans (hB1.mono hA1.size); have hT1 := (hB1.block _ (Array.getElem?_eq_some_iff.1 hTB).1).trans hTB; have x0 := at_heap (i := 0) (v := .string t.nm) hT1 rfl; have x1 := at_heap (i := 1) (v := .slice sa t.slots.length sc) hT1 rfl; have x2 := at_heap (i := 2) (v := .slice ta t.steps.length tc) hT1 rfl)
        | (go_at_call 5; (with_reducible refine (HG10.out _ hw1).mono ?_); rintro e w2 ⟨rfl, hB2⟩; have hw2 := hw1.trans (hB2.mono hw1.size))
        | (go_at_call 6; (with_reducible refine (HG11.out _ hw2).mono ?_); rintro e w3 ⟨rfl, hB3⟩))
      have hw3 := hw2.trans (hB3.mono hw2.size)
      have hT3 := (hB3.block _ (Nat.lt_of_lt_of_le (vlt hT1) hB2.size)).trans ((hB2.block _ (vlt hT1)).trans hT1)
      have htb3 := vlt hT3
      clear x0 x1 x2 hT1 hTB hw1 hw2 hB1 hB2 hB3 hA1 HAL HG10 HG11
      go_loopw [7, 8] (fun o i wr => ∃ (q : Nat) (cs : List Value), q ≤ n ∧ i = .int .i64 (q : Int) ∧ OwnC w3.heap.size w wr o row q cs ∧ Below w3.heap.size w3 wr) (fun _ i _ => n - (intOf i).toNat)
      case atStart => exact ⟨0, [], Nat.zero_le _, rfl, ⟨World.ownsRow_nil _ _ _ _, fun j v hj => by omega⟩, Below.refl _ _⟩
      case round =>
        obtain ⟨q, cs, hq, rfl, hOwn, hbw⟩ := hrel
        obtain ⟨oa, oc, rfl⟩ := own_form9 hOwn.1
        rcases Nat.lt_or_ge q n with hlt | hge
        · have hd : decide ((q : Int) < (n : Int)) = true := by simp; omega
          have hnl := HN.out
          obtain ⟨y, hy⟩ : ∃ y, row[q]? = some y := ⟨row[q], List.getElem?_eq_getElem (by omega)⟩
          have hwr := hw3.trans (hbw.mono hw3.size)
          obtain ⟨rb, ro, k, nn, tx, la, ll, lc, rfl, ⟨g0, g1, g2, g3⟩, hIy⟩ := pRow_val HR.out hy
          obtain ⟨yk, yn, ys, yl⟩ := y
          have hIs := hIy
          unfold Is at hIy
          obtain ⟨j1, j2, j3, la', lc', e, hP⟩ := hIy
          simp only [Value.agg.injEq, Array.mk.injEq, List.cons.injEq, and_true, Value.int.injEq, true_and, Value.string.injEq, Value.slice.injEq] at e
          obtain ⟨rfl, rfl, rfl, rfl, rfl, rfl⟩ := e
          obtain ⟨xs, hxs, hcs⟩ := vCells_row (show PRow w la lc yl from hP)
          have hyl : yl.length ≤ 1000 := by
            have h1 := HSZ.out _ (List.mem_of_getElem? hy)
            simp only [szV] at h1
            have hl : ∀ r : List PV, r.length ≤ szL r := by
              intro r
              induction r with
              | nil => simp
              | cons x r ihr => simp only [szL]; have := szV_pos x; simp; omega
            have := hl yl
            omega
          have z0 := cell_below hwr g0
          have z1 := cell_below hwr g1
          have z2 := cell_below hwr g2
          have z3 := cell_below hwr g3
          have HOWN := Lib.hid hOwn; have HXS := Lib.hid hxs; have HCS := Lib.hid hcs; have HY := Lib.hid hy
          obtain ⟨ln, hln⟩ : ∃ ln, yl.length = ln := ⟨_, rfl⟩
          rw [hln] at HCS z3 hyl
          have HLN := Lib.hid hln
          clear g0 g1 g2 g3 hP hIs hOwn hxs hcs hy hnl hln j1 j2 j3
          have hbX := two_allocs9 wr (.cells #[.int .i64 k, .int .i64 nn, .string tx, .slice la ln lc] 31) (.cells #[] 31)
          have ho0 : ((wr.alloc (.cells #[.int .i64 k, .int .i64 nn, .string tx, .slice la ln lc] 31)).alloc (.cells #[] 31)).ownsRow (wr.heap.size + 1) 31 4 (.slice (some ⟨wr.heap.size + 1, 0, none⟩) 0 0) 0 [] := by
            have h := own_empty (wr.alloc (.cells #[.int .i64 k, .int .i64 nn, .string tx, .slice la ln lc] 31)) (wr.heap.size + 1) 31 4 (by simp)
            rwa [World.size_alloc] at h
          have hX0 : VAt ((wr.alloc (.cells #[.int .i64 k, .int .i64 nn, .string tx, .slice la ln lc] 31)).alloc (.cells #[] 31)) wr.heap.size #[.int .i64 k, .int .i64 nn, .string tx, .slice la ln lc] := next_block (heap_self9 wr _)
          have hcX := cells_below9 HCS.out (hwr.trans (hbX.mono hwr.size))
          have hs3 := hbw.size
          have z3' := cell_below hbX z3
          have hbig : wr.heap.size + 1 ≤ ((wr.alloc (.cells #[.int .i64 k, .int .i64 nn, .string tx, .slice la ln lc] 31)).alloc (.cells #[] 31)).heap.size := by simp
          go_wp2_with (first
            | (at_builtin; refine wpList_append_at _ rfl _ _ 26 rfl (wr.heap.size + 1) 31 i0 (.agg vzero) 4 56 Try.underlying26 hi0 hz0 hz1 hz2 rfl (by decide) (.slice (some ⟨wr.heap.size + 1, 0, none⟩) 0 0) 0 [] rfl ho0 la ln lc xs rfl hcX HXS.out.2.1 (by unfold maxLen; omega) (by omega) hbig ?_; intro v6 w6 ho6 hg6 ha6; rw [Nat.zero_add, List.nil_append] at ho6; obtain ⟨a6, c6, rfl⟩ := own_form9 ho6; have hX6 : VAt w6 wr.heap.size #[.int .i64 k, .int .i64 nn, .string tx, .slice la ln lc] := (hg6.block _ (by simp; omega) (fun e => by simp [Value.ownBlock] at e)).trans hX0; obtain ⟨⟨p0, p1, p2, p3⟩, f0, f1, f2, f3⟩ := box4 hX6; have hb6 := below_grown9 hbX hg6 (fun b e => by simp [Value.ownBlock] at e; omega) (Nat.le_trans (Nat.le_succ _) hbig); have hX7 : VAt (w6.setCell ⟨wr.heap.size, 3, none⟩ (.slice a6 ln c6)) wr.heap.size #[.int .i64 k, .int .i64 nn, .string tx, .slice a6 ln c6] := vat_set hX6 3 _; obtain ⟨⟨r0, r1, r2, r3⟩, _⟩ := box4 hX7; have hs6 := hb6.size; have hb7 := below_set1 (g := wr.heap.size) (i := 3) (u := (.slice a6 ln c6)) hb6 (Nat.le_refl _); have hb8 := hb7.alloc hb7.size (.cells #[.int .i64 k, .int .i64 nn, .string tx, .slice a6 ln c6] 31); have hO8 := ownC_below HOWN.out hb8; have HO8 := Lib.hid hO8; have h78 : (w6.setCell ⟨wr.heap.size, 3, none⟩ (.slice a6 ln c6)).heap.size = w6.heap.size := (by simp))
            | (at_builtin; refine wpList_append_at _ rfl _ _ 26 rfl w3.heap.size 31 i0 (.agg vzero) 4 56 Try.underlying26 hi0 hz0 hz1 hz2 rfl (by decide) (.slice oa q oc) q cs rfl HO8.out.1 (some ⟨w6.heap.size, 0, none⟩) 1 1 [.int .i64 k, .int .i64 nn, .string tx, .slice a6 ln c6] rfl (cells4_at h78 _ _ _ _) (by simp [Value.oneCell']) (by unfold maxLen; omega) (by omega) (Nat.le_trans hs3 hb8.size) ?_; intro v9 w9 ho9 hg9 ha9))
          have hoe : OE w3.heap.size (Value.ownBlock (.slice oa q oc)) w ((w6.setCell ⟨wr.heap.size, 3, none⟩ (.slice a6 ln c6)).alloc (.cells #[.int .i64 k, .int .i64 nn, .string tx, .slice a6 ln c6] 31)) (.mk k nn tx yl) (.int .i64 k) (.int .i64 nn) (.string tx) (.slice a6 ln c6) := by
            refine ⟨rfl, rfl, rfl, xs, ?_, HXS.out, fun b hb e => ?_⟩
            · rw [HLN.out]
              exact ownsRow_mono (ownsRow_below (own_kept9 ho6 (grown_set9 w6 wr.heap.size 3 _) (fun b e1 e2 => by cases e1; have := (own_blk9 ho6 _ e2).2; omega)) ((Below.refl _ _).alloc (Nat.le_refl _) _)) (by omega)
            · have e1 := (own_blk9 ho6 b hb).2
              have e2 := (own_blk9 HOWN.out.1 b e.symm).1
              omega
          have hO9 := ownC_step HO8.out HY.out hoe ho9 hg9 ha9
          have hb9 := below_grown9 (hbw.trans (hb8.mono hs3)) hg9 (fun b e => (own_blk9 HOWN.out.1 b e).2) (Nat.le_trans hs3 hb8.size)
          go_roundw
          case rel => exact ⟨q + 1, _, by omega, by go_num, hO9, hb9⟩
          case measure => simp [intOf]; omega
        · obtain rfl : q = n := by omega
          have hd : decide ((q : Int) < (q : Int)) = false := by simp
          have hwr := hw3.trans (hbw.mono hw3.size)
          have hTr := (hbw.block _ htb3).trans hT3
          have x0 := at_heap (i := 0) (v := .string t.nm) hTr rfl
          have x1 := at_heap (i := 1) (v := .slice sa t.slots.length sc) hTr rfl
          have x2 := at_heap (i := 2) (v := .slice ta t.steps.length tc) hTr rfl
          have hOr : OwnC w3.heap.size w wr (.slice oa q oc) row row.length cs := by rw [HN.out]; exact hOwn
          obtain ⟨a', c', e', hPo⟩ := ownC_row hOr hwr HR.out
          injection e' with e1 e2 e3
          subst e1 e3
          clear e2
          have hM := rMake_any t v row wr _ oa oc HGT.out HI.out (isTempl_below hwr HT.out) hPo (fun y hy => Nat.le_trans (HSZ.out y hy) (by omega)) HSM.out (by rw [HN.out]; omega)
          rw [HN.out] at hM
          unfold MakeR at hM
          have HOWN := Lib.hid hOwn
          have hs3 := hbw.size
          by_cases hE : (Rc.make t v row).2 = 0
          · obtain ⟨x, hx, hxl, hfit, hmk⟩ := make_ok hE
            rw [hmk] at hM
            simp only at hM
            have hok := verOf_ok hx
            obtain ⟨S9, hS9⟩ : ∃ S9, Rc.made x row = S9 := ⟨_, rfl⟩
            have hvr : Rc.verR t ⟨v, S9⟩ = some x := by unfold Rc.verR; simp only; rw [hx]; simp only; rw [← hS9, if_pos hfit]
            have hro : Rc.rowOf x S9 = row := by rw [← hS9]; exact Rc.row_made hok hxl
            have hsl9 : S9.length ≤ 100 := by rw [← hS9, Rc.made_length]; exact Nat.le_trans hok.num (by omega)
            have hsz9 : ∀ y ∈ S9, szV y ≤ 1000000 := fun y hy => right_sz (Rc.fitL_right hfit y (by rw [hS9]; exact hy))
            rw [hS9] at hM
            obtain ⟨sl, hsl⟩ : ∃ sl, S9.length = sl := ⟨_, rfl⟩
            have hM2 := hM.mono (R' := fun e w' => (∃ gS, e = .returned (.tuple #[.agg #[.int .i64 v, .slice (some ⟨gS, 0, none⟩) sl sl], .int .i64 0]) ∧ Made wr.heap.size w' S9 (.slice (some ⟨gS, 0, none⟩) sl sl)) ∧ Below wr.heap.size wr w') fun e w' h => by
              obtain ⟨⟨S, he, hMd, _⟩, hB⟩ := h
              obtain ⟨gS, C, rfl, r⟩ := hMd (by simp)
              rw [hsl] at he
              exact ⟨⟨gS, he, gS, C, by rw [hsl], r⟩, hB⟩
            have HM := Lib.hid hM2; have HSL := Lib.hid hsl; have HVR := Lib.hid hvr; have HRO := Lib.hid hro; have HS9 := Lib.hid hsl9; have HZ9 := Lib.hid hsz9
            clear hM hM2 hE hx hxl hfit hmk hok hS9 hvr hro hsl9 hsz9 hsl hOr hPo hOwn
            have hR9 := fun W b (hb : Below w.heap.size w W) (hP : PRow W b sl S9) => rRow_any t ⟨v, S9⟩ W _ b sl HGT.out HI.out (isTempl_below hb HT.out) hP HZ9.out (by have := HS9.out; simp only; omega)
            have hR8 : ∀ W b, Below w.heap.size w W → PRow W b sl S9 → Calls Try.prog 8 #[.agg #[.string t.nm, .slice sa t.slots.length sc, .slice ta t.steps.length tc], .agg #[.int .i64 v, .slice b sl sl]] W fun e w' => (∃ ga, e = .returned (.slice (some ⟨ga, 0, none⟩) q q) ∧ Made W.heap.size w' row (.slice (some ⟨ga, 0, none⟩) q q)) ∧ Below W.heap.size W w' := fun W b hb hP => by
              have h := hR9 W b hb hP
              rw [show (RecM.s ⟨v, S9⟩).length = sl from HSL.out] at h
              refine h.mono fun e w' h => ?_
              unfold RowR at h
              rw [HVR.out] at h
              simp only [HRO.out] at h
              obtain ⟨⟨S, he, ga, C, rfl, r⟩, hB⟩ := h
              rw [HN.out] at he
              exact ⟨⟨ga, he, ga, C, by rw [HN.out], r⟩, hB⟩
            have HR8 := Lib.hid hR8
            clear hR9 hR8
            go_upto_region 16 with (first
              | (go_at_call 7; (with_reducible refine HM.out.mono ?_); rintro e w4 ⟨⟨gS, rfl, hMd⟩, hB4⟩; have hA5 := (Below.refl _ w4).alloc (Nat.le_refl _) (.cells #[.int .i64 v, .slice (some ⟨gS, 0, none⟩) sl sl] 33); have hB5 := hB4.trans (hA5.mono hB4.size); have hw5 := hwr.trans (hB5.mono hwr.size); have hT5 := (hB5.block _ (vlt hTr)).trans hTr; have z0 := at_heap (i := 0) (v := .string t.nm) hT5 rfl; have z1 := at_heap (i := 1) (v := .slice sa t.slots.length sc) hT5 rfl; have z2 := at_heap (i := 2) (v := .slice ta t.steps.length tc) hT5 rfl; obtain ⟨gS', eS, _, hPS⟩ := made_row hMd (by have := HS9.out; omega) (fun b _ hb => hA5.block b hb); rw [HSL.out] at eS hPS)
              | (go_at_call 8; (with_reducible refine (HR8.out _ _ hw5 hPS).mono ?_); rintro e w6 ⟨⟨ga, rfl, hMa⟩, hB6⟩))
            obtain ⟨hi9, hhi⟩ : ∃ hi9, (w4.alloc (.cells #[.int .i64 v, .slice (some ⟨gS, 0, none⟩) sl sl] 33)).heap.size = hi9 := ⟨_, rfl⟩
            obtain ⟨rb, hrb⟩ : ∃ rb, w4.heap.size = rb := ⟨_, rfl⟩
            have HRB := Lib.hid hrb
            have hrhi : rb < hi9 := by rw [← hrb, ← hhi, World.size_alloc]; omega
            have hlr : wr.heap.size ≤ rb := by rw [← hrb]; exact hB4.size
            have hw6 := hw5.trans (hB6.mono hw5.size)
            have hT6 := (hB6.block _ (vlt hT5)).trans hT5
            have hR6 : w6.heap[rb]? = some (.cells #[.int .i64 v, .slice (some ⟨gS, 0, none⟩) sl sl] 33 (0, 0)) := by
              rw [← hrb]
              exact (hB6.block _ (by simp)).trans (heap_self9 w4 _)
            have hmid : ∀ b, wr.heap.size ≤ b → b < rb → w6.heap[b]? = w4.heap[b]? := fun b _ hb => by
              rw [← hrb] at hb
              exact (hB6.block b (by simp; omega)).trans (hA5.block b hb)
            have hB06 := hB5.trans (hB6.mono hB5.size)
            have hO6 := ownC_below HOWN.out hB06
            rw [hhi] at hMa
            obtain ⟨_, _, hga, _⟩ := made_rowN hMa (by rw [HN.out]; omega)
            have hMd4 := hMd
            rw [hrb]
            have hOf := fun (h : 0 < q) => own_facts HOWN.out.1 h
            have hTS0 : ∀ ob, TS w w6 wr.heap.size hi9 w.heap.size ob ga 0 w6 := fun ob => ts_start hw6
            obtain ⟨ob, hob⟩ : ∃ ob, 0 < q → ∃ cur : Array Value, oa = some ⟨ob, 0, none⟩ ∧ w3.heap.size ≤ ob ∧ ob < wr.heap.size ∧ wr.heap[ob]? = some (.cells cur 31 (0, 0)) ∧ q * 4 ≤ cur.size ∧ ∀ (j : Nat) (u : Value), cs[j]? = some u → cur[j]? = some u := by
              rcases Nat.eq_zero_or_pos q with h | h
              · exact ⟨0, fun h2 => by omega⟩
              · obtain ⟨ob, cur, r⟩ := hOf h
                exact ⟨ob, fun _ => ⟨cur, r⟩⟩
            have hTS1 := hTS0 ob
            have HMa := Lib.hid hMa; have HMd := Lib.hid hMd4; have HOB := Lib.hid hob; have HMID := Lib.hid hmid; have HT6 := Lib.hid hT6; have HR6 := Lib.hid hR6; have HB06 := Lib.hid hB06; have HO6 := Lib.hid hO6
            have hb0v := build_val0
            have hbtv := build_valT
            obtain ⟨wo, hwo⟩ : ∃ x, x = wr := ⟨_, rfl⟩
            subst hwo
            obtain ⟨lo, hlo⟩ : ∃ lo, wo.heap.size = lo := ⟨_, rfl⟩
            have HLO := Lib.hid hlo
            rw [hlo] at hlr hTS1
            clear hMa hMd hMd4 hob hmid hT6 hR6 hB06 hO6 hOf hTS0 hT5 hB5 hA5 hB6 hPS hB4 hhi hTr x0 x1 x2 z0 z1 z2 hwr hw5 hbw hlo HM
            go_wp2_with fail
            go_loopw [13] (fun i wi => ∃ j : Nat, j ≤ q ∧ i = .int .i64 (j : Int) ∧ TS w w6 lo hi9 w.heap.size ob ga (j * 4) wi) (fun i _ => q - (intOf i).toNat)
            case atStart => exact ⟨0, Nat.zero_le _, rfl, by rw [Nat.zero_mul]; exact hTS1⟩
            case round =>
              obtain ⟨j, hj, rfl, hTS⟩ := hrel
              clear hTS1
              rcases Nat.lt_or_ge j q with hjl | hjg
              · have hdj : decide ((j : Int) < (q : Int)) = true := by simp; omega
                obtain ⟨cur, rfl, hob1, hob2, hob3, hob4, hob5⟩ := HOB.out (by omega)
                have hnl := HN.out
                obtain ⟨y, hy⟩ : ∃ y, row[j]? = some y := ⟨row[j], List.getElem?_eq_getElem (by omega)⟩
                obtain ⟨c0, c1, c2, c3, ⟨e0, e1, e2, e3⟩, hoe⟩ := HOWN.out.2 j y hjl hy
                obtain ⟨gA, CA, eA, hgA, hVA, hCA, hEl⟩ := HMa.out
                injection eA with eA eA2 eA3
                injection eA with eA
                injection eA with eA eA4 eA5
                subst eA
                clear eA2 eA3 eA4 eA5
                obtain ⟨d0, d1, d2, d3, f0, f1, f2, f3, hcp⟩ := hEl j y hy
                obtain ⟨yk, yn, ys, yl⟩ := y
                obtain ⟨al, cl, rfl, hal⟩ := oe_list hoe
                obtain ⟨aL, rfl, haL⟩ := copied_list hcp
                obtain ⟨ln, hln⟩ : ∃ ln, yl.length = ln := ⟨_, rfl⟩
                rw [hln] at hal haL e3 f3
                have hO6b : w6.heap[ob]? = some (.cells cur 31 (0, 0)) := (HB06.out.block _ (by rw [HLO.out]; rw [HLO.out] at hob2; exact hob2)).trans hob3
                have hoc : w6.cell? ⟨ob, j * 4 + 3, none⟩ = some (.slice al ln cl) := at_heap hO6b (hob5 _ _ e3)
                have hac : w6.cell? ⟨ga, j * 4 + 3, none⟩ = some (.slice aL ln ln) := vat_cell hVA _ _ f3
                have hln1 : ln ≤ 1000 := by
                  have h1 := HSZ.out _ (List.mem_of_getElem? hy)
                  simp only [szV] at h1
                  have hl : ∀ r : List PV, r.length ≤ szL r := by
                    intro r
                    induction r with
                    | nil => simp
                    | cons x r ihr => simp only [szL]; have := szV_pos x; simp; omega
                  have := hl yl
                  omega
                rw [HLO.out] at hob2
                have HOC := Lib.hid hoc; have HAC := Lib.hid hac; have HO6b := Lib.hid hO6b; have HVA := Lib.hid hVA; have HAL := Lib.hid hal; have HaL := Lib.hid haL
                have hcur : j * 4 + 3 < cur.size := by omega
                have hcas : j * 4 + 3 < CA.size := by rw [hCA, HN.out]; omega
                clear hoc hac hO6b hVA hal haL hoe hcp hEl e0 e1 e2 e3 f0 f1 f2 f3 hob3 hob5 hy hnl hln hCA
                obtain ⟨wj, hwj⟩ : ∃ x, x = wr := ⟨_, rfl⟩
                subst hwj
                have hob9 : ob ≠ w.heap.size := by have := hob1; omega
                have hga9 : ga ≠ w.heap.size := by omega
                have hobga : ob ≠ ga := by omega
                have hc0 : wj.cell? ⟨ob, j * 4 + 3, none⟩ = some (.slice al ln cl) := (hTS.cells _ (by omega)).1.trans HOC.out
                have HTS := Lib.hid hTS
                clear hTS
                go_upto_region 19 with fail
                go_wp2_with fail
                go_loopw [14] (fun i wi => ∃ m : Nat, m ≤ ln ∧ i = .int .i64 (m : Int) ∧ TS w w6 lo hi9 w.heap.size ob ga (j * 4) wi) (fun i _ => ln - (intOf i).toNat)
                case atStart => exact ⟨0, Nat.zero_le _, rfl, HTS.out⟩
                case round =>
                  obtain ⟨m, hm, rfl, hTS⟩ := hrel
                  have hc1 : wr.cell? ⟨ob, j * 4 + 3, none⟩ = some (.slice al ln cl) := (hTS.cells _ (by omega)).1.trans HOC.out
                  rcases Nat.lt_or_ge m ln with hml | hmg
                  · have hdm : decide ((m : Int) < (ln : Int)) = true := by simp; omega
                    obtain ⟨lb, cur2, rfl, hlb1, hlb2, hlb3, hlb4, hlb5⟩ := HAL.out (by omega)
                    obtain ⟨La, cur3, rfl, hLa1, hLa2, hLa3⟩ := HaL.out (by omega)
                    have hlbo : lb ≠ ob := fun e => hlb3 (by rw [e]; rfl)
                    rw [HLO.out] at hlb2
                    have hlb6 : w6.heap[lb]? = some (.cells cur2 31 (0, 0)) := (HB06.out.block _ (by rw [HLO.out]; exact hlb2)).trans hlb4
                    obtain ⟨⟨x0, x1, x2, x3, p0, p1, p2, p3⟩, q0, q1, q2, q3⟩ := ts_four hTS hlb6 (show m * 4 + 3 < cur2.size by omega)
                    have hT2 : TS w w6 lo hi9 w.heap.size ob ga (j * 4) ((((wr.setCell ⟨lb, m * 4, none⟩ (.int .i64 3)).setCell ⟨lb, m * 4 + 1, none⟩ (.int .i64 0)).setCell ⟨lb, m * 4 + 2, none⟩ (.string ⟨#[116, 117, 114, 110, 101, 100]⟩)).setCell ⟨lb, m * 4 + 3, none⟩ (.slice none 0 0)) := ts_set4 hTS (by omega) (.inl hlb2) (by omega) (fun e => absurd e hlbo) (fun e => by omega)
                    obtain ⟨⟨y0, y1, y2, y3, r0, r1, r2, r3⟩, s0, s1, s2, s3⟩ := ts_four hT2 hLa2 (show m * 4 + 3 < cur3.size by omega)
                    have hc2 := (hT2.cells (j * 4 + 3) (by omega)).2.trans HAC.out
                    have HT2 := Lib.hid hT2
                    clear hT2 hTS hlb3 hlb4 hlb6 hLa2 HAL HaL
                    go_wp2_with fail
                    go_roundw
                    case rel => exact ⟨m + 1, by omega, by go_num, ts_set4 HT2.out (by omega) (.inr (by omega)) (by omega) (fun e => by omega) (fun e => by omega)⟩
                    case measure => simp [intOf]; omega
                  · obtain rfl : m = ln := by omega
                    have hdm : decide ((m : Int) < (m : Int)) = false := by simp
                    obtain ⟨⟨x0, x1, x2, x3, p0, p1, p2, p3⟩, q0, q1, q2, q3⟩ := ts_four hTS HO6b.out hcur
                    have hT1 : TS w w6 lo hi9 w.heap.size ob ga (j * 4 + 4) ((((wr.setCell ⟨ob, j * 4, none⟩ (.int .i64 0)).setCell ⟨ob, j * 4 + 1, none⟩ (.int .i64 0)).setCell ⟨ob, j * 4 + 2, none⟩ (.string ⟨#[]⟩)).setCell ⟨ob, j * 4 + 3, none⟩ (.slice none 0 0)) := ts_set4 (ts_mono hTS (by omega)) (by omega) (.inl hob2) hob9 (fun e => by omega) (fun e => absurd e hobga)
                    obtain ⟨⟨y0, y1, y2, y3, r0, r1, r2, r3⟩, s0, s1, s2, s3⟩ := ts_four hT1 HVA.out hcas
                    have HT1 := Lib.hid hT1
                    have e3 := hc1.symm.trans p3
                    injection e3 with e3
                    subst e3
                    clear hT1 hTS hc1 hc0
                    go_wp2_with fail
                    go_roundw
                    case rel => exact ⟨j + 1, by omega, by go_num, by
                      have h := ts_set4 (i := j * 4) (b := ga) (d0 := .int .i64 0) (d1 := .int .i64 0) (d2 := .string ⟨#[]⟩) (d3 := .slice none 0 0) HT1.out (by omega) (.inr (by omega)) hga9 (fun e => absurd e.symm hobga) (fun e => by omega)
                      rwa [show j * 4 + 4 = (j + 1) * 4 by omega] at h⟩
                    case measure => simp [intOf]; omega
              · obtain rfl : j = q := by omega
                have hdj : decide ((j : Int) < (j : Int)) = false := by simp
                obtain ⟨wj, hwj⟩ : ∃ x, x = wr := ⟨_, rfl⟩
                subst hwj
                have hkT := (hTS.kept w.heap.size (.inr rfl)).trans HT6.out
                have hkR := (hTS.kept rb (.inl ⟨hlr, hrhi⟩)).trans HR6.out
                have x0 := at_heap (i := 0) (v := .string t.nm) hkT rfl
                have x1 := at_heap (i := 1) (v := .slice sa t.slots.length sc) hkT rfl
                have x2 := at_heap (i := 2) (v := .slice ta t.steps.length tc) hkT rfl
                have r0 := at_heap (i := 0) (v := .int .i64 v) hkR rfl
                have r1 := at_heap (i := 1) (v := .slice (some ⟨gS, 0, none⟩) sl sl) hkR rfl
                obtain ⟨gS', eS, _, hPS⟩ := made_row (w1 := wj) HMd.out (by have := HS9.out; omega) (fun b hb1 hb2 => by
                  rw [HLO.out] at hb1
                  have hb3 : b < rb := by rw [← HRB.out]; exact hb2
                  exact (hTS.kept b (.inl ⟨hb1, by omega⟩)).trans (HMID.out b (by rw [HLO.out]; exact hb1) hb3))
                rw [HSL.out] at eS hPS
                injection eS with eS _ _
                injection eS with eS
                injection eS with eS _ _
                subst eS
                have hRw := HR8.out wj _ hTS.below hPS
                have hAll := fun (W : World) (g : Nat) (hb : Below w.heap.size w W) (hP : PRow W (some ⟨g, 0, none⟩) j row) => refAll_any (some ⟨g, 0, none⟩) ra j rc row row W hP (pRow_below hb HR.out) (by rw [HN.out]; omega) (by rw [HN.out]; omega) true (by simp)
                rw [HN.out] at hAll
                have HRw := Lib.hid hRw; have HAll := Lib.hid hAll; have hbel := hTS.below
                clear hRw hAll hTS hPS hkT hkR
                go_wp2_with (first
                  | (go_at_call 8; (with_reducible refine HRw.out.mono ?_); rintro e w8 ⟨⟨g8, rfl, hM8⟩, hB8⟩; have hw8 := hbel.trans (hB8.mono hbel.size); have hP8 := (made_rowN hM8 (by rw [HN.out]; omega)).2.2.2)
                  | (go_at_call 9; (with_reducible refine (HAll.out _ _ hw8 hP8).mono ?_); rintro e w9 ⟨rfl, hB9⟩))
                go_ret
                exact ⟨rfl, hw8.trans (hB9.mono hw8.size)⟩
          · have hd9 : ((Rc.make t v row).2 != 0) = true := by simpa using hE
            obtain ⟨m, hm⟩ : ∃ m, Rc.make t v row = m := ⟨_, rfl⟩
            rw [hm] at hM hd9 hE
            obtain ⟨⟨mv, ms⟩, mE⟩ := m
            simp only at hM hd9 hE
            have HM := Lib.hid hM; have HE := Lib.hid hE
            clear hM hE hOr hPo hm hOwn
            go_wp2_with (first
              | (go_at_call 7; (with_reducible refine HM.out.mono ?_); rintro e w4 ⟨⟨S, rfl, _, hS⟩, hB4⟩; obtain rfl := hS HE.out))
            go_ret
            exact ⟨rfl, (hwr.trans (hB4.mono hwr.size)).alloc (Nat.le_trans hwr.size hB4.size) _⟩
end recordApartWalk
end Go.Proofs.Ytbkmhigbplgpmaa
