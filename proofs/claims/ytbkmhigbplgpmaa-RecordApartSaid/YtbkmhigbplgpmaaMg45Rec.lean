/- The program's records: version. -/
import Derived.Test.YtbkmhigbplgpmaaMg44Rec
import Derived.Test.YtbkmhigbplgpmaaMg21Rec
import Derived.Test.YtbkmhigbplgpmaaRcGq
set_option linter.unusedVariables false
set_option linter.unusedSimpArgs false
set_option maxRecDepth 100000
namespace Go.Proofs.Ytbkmhigbplgpmaa
open Go.RowKit Go.Shelf
/-- what version comes to -/
def VerR (w0 : World) (t : TemplM) (r : RecM) (e : Ending) (w' : World) : Prop := (match Rc.verR t r with
    | some x => ∃ sa sc ca cc, e = .returned (.tuple #[.agg #[.slice sa x.slots.length sc, .slice ca x.cols.length cc], .bool true]) ∧ VerFresh w0.heap.size w' x sa sc ca cc
    | none => ∃ sa n sc ca m cc, e = .returned (.tuple #[.agg #[.slice sa n sc, .slice ca m cc], .bool false])) ∧ Below w0.heap.size w0 w'
set_option maxHeartbeats 4000000 in
theorem version_any (t : TemplM) (r : RecM) (w : World) (X : Value) (b : Option Addr) (d : Nat) (hg : greatT t = false) (hI : I64 r.v) (hi : IsTempl w t X) (hr : PRow w b d r.s) (hsz : ∀ v ∈ r.s, szV v ≤ 1000000) (hsv : r.s.length ≤ 100000) :
    Calls Try.prog 22 #[X, .agg #[.int .i64 r.v, .slice b r.s.length d]] w (VerR w t r) := by
  have h0 := hi
  obtain ⟨h1, sa, sc, ta, tc, rfl, hsl, hst⟩ := hi
  obtain ⟨rv, rs⟩ := r
  simp only at hI hr hsz hsv ⊢
  have hBT := below3 w (.cells #[.string t.nm, .slice sa t.slots.length sc, .slice ta t.steps.length tc] 25) (.cells #[.int .i64 rv, .slice b rs.length d] 33) (.cells #[.slice none 0 0, .slice none 0 0] 55)
  have hb0 := fun W => build_ver0 W
  obtain ⟨m, hm⟩ : ∃ m, rs.length = m := ⟨_, rfl⟩
  cases hx : Rc.verOf t rv with
  | none =>
    have hno : Rc.verR t ⟨rv, rs⟩ = none := by unfold Rc.verR; simp only; rw [hx]
    have hA := atNo t rv _ _ hg (verOf_none hx) hI (isTempl_below hBT h0)
    rw [hm] at hA hBT ⊢
    have H := Lib.hid hA; have HX := Lib.hid hno
    clear hA hx h0 hsl hst hI hr hsz hsv hno hm
    go_enter Try.func22, Try.ntmps22
    go_wp2_with (first
      | (go_at_call 37; (with_reducible refine H.out.mono ?_); rintro e w1 ⟨⟨sa1, n1, sc1, ca1, m1, cc1, rfl⟩, hB1⟩; have hH := next_block (o' := .cells #[.slice sa1 n1 sc1, .slice ca1 m1 cc1] 55) (heap3 hB1).2.2; obtain ⟨f0, f1, f2, f3⟩ := two_all hH; have hBw := (hBT.trans (hB1.mono hBT.size)).alloc (Nat.le_trans hBT.size hB1.size) (.cells #[.slice sa1 n1 sc1, .slice ca1 m1 cc1] 55)))
    refine bodyPost_ret (results_cell_tmpS Try.results22 _ _ (w.heap.size + 1 + 1) _ _ _ _ rfl (step_out _ _ hH hBw (by omega)).1 Try.underlying55 rfl (by kernel_rfl)) rfl ?_
    unfold VerR
    rw [HX.out]
    exact ⟨⟨_, _, _, _, _, _, rfl⟩, (step_out _ _ hH hBw (by omega)).2⟩
  | some x =>
    obtain ⟨L, n, hv, hLn, rfl, hn9⟩ := verOf_some hx
    have hok := verOf_ok hx
    have hA := atF t L n x _ _ hg hv hLn (isTempl_below hBT h0)
    have hF := fun W sa sc ca cc hva (hb : Below w.heap.size w W) => fitR_any x sa sc ca cc rs b d W hva (pRow_below hb hr) (fun s hs => by have := (hok.ok s hs).1; omega) hsz (Nat.le_trans hok.num (by omega)) hsv
    obtain ⟨B, hB⟩ : ∃ B, Rc.fitL x.slots rs = B := ⟨_, rfl⟩
    have hans : Rc.verR t ⟨((n + 1 : Nat) : Int), rs⟩ = if B = true then some x else none := by unfold Rc.verR; simp only; rw [hx]; simp only; rw [hB]
    obtain ⟨N, hN⟩ : ∃ N, ((n + 1 : Nat) : Int) = N := ⟨_, rfl⟩
    rw [hB] at hF
    rw [hm] at hF hBT hA ⊢
    rw [hN] at hA hBT hans ⊢
    have H := Lib.hid hA; have HF := Lib.hid hF; have HX := Lib.hid hans
    clear hA hx h0 hsl hst hv hLn hN hI hF hr hsz hsv hok hB hans hm
    cases B with
    | true =>
      go_enter Try.func22, Try.ntmps22
      go_wp2_with (first
        | (go_at_call 37; (with_reducible refine H.out.mono ?_); rintro e w1 ⟨⟨sa1, sc1, ca1, cc1, rfl, hva⟩, hB1⟩; have hlt := Lib.hid hB1.size; have hVF := verFresh_later (w1 := w1.alloc (.cells #[.slice sa1 x.slots.length sc1, .slice ca1 x.cols.length cc1] 55)) hva (by simp) (fun c _ hl => ((Below.refl _ w1).alloc (Nat.le_refl _) _).block c hl); have hva2 := verFresh_at hVF; have hBw := (hBT.trans (hB1.mono hBT.size)).alloc (Nat.le_trans hBT.size hB1.size) (.cells #[.slice sa1 x.slots.length sc1, .slice ca1 x.cols.length cc1] 55); have hR := next_block (o' := .cells #[.slice sa1 x.slots.length sc1, .slice ca1 x.cols.length cc1] 55) (heap3 hB1).2.1; have r1 := at_heap (i := 1) hR rfl; have hH := next_block (o' := .cells #[.slice sa1 x.slots.length sc1, .slice ca1 x.cols.length cc1] 55) (heap3 hB1).2.2; have HV := heap_self9 w1 (.cells #[.slice sa1 x.slots.length sc1, .slice ca1 x.cols.length cc1] 55))
        | (go_at_call 21; (with_reducible refine (HF.out _ _ _ _ _ hva2 hBw).mono ?_); rintro e w2 ⟨rfl, hB2⟩; have hH2 := (hB2.block _ (Array.getElem?_eq_some_iff.1 hH).1).trans hH; obtain ⟨f0, f1, f2, f3⟩ := two_all hH2; have hBw2 := hBw.trans (hB2.mono hBw.size); have HV2 := (hB2.block _ (Array.getElem?_eq_some_iff.1 HV).1).trans HV; have v0 := at_heap (i := 0) HV2 rfl; have v1 := at_heap (i := 1) HV2 rfl))
      refine bodyPost_ret (results_cell_tmpS Try.results22 _ _ (w.heap.size + 1 + 1) _ _ _ _ rfl (step_out _ _ hH2 hBw2 (by omega)).1 Try.underlying55 rfl (by kernel_rfl)) rfl ?_
      unfold VerR
      rw [HX.out]
      refine ⟨⟨sa1, sc1, ca1, cc1, rfl, verFresh_mono (verFresh_set2' (verFresh_later hVF hB2.size fun c _ hl => hB2.block c hl) (by simp) _ _) (by simp; omega)⟩, (step_out _ _ hH2 hBw2 (by omega)).2⟩
    | false =>
      go_enter Try.func22, Try.ntmps22
      go_wp2_with (first
        | (go_at_call 37; (with_reducible refine H.out.mono ?_); rintro e w1 ⟨⟨sa1, sc1, ca1, cc1, rfl, hva⟩, hB1⟩; have hlt := Lib.hid hB1.size; have hVF := verFresh_later (w1 := w1.alloc (.cells #[.slice sa1 x.slots.length sc1, .slice ca1 x.cols.length cc1] 55)) hva (by simp) (fun c _ hl => ((Below.refl _ w1).alloc (Nat.le_refl _) _).block c hl); have hva2 := verFresh_at hVF; have hBw := (hBT.trans (hB1.mono hBT.size)).alloc (Nat.le_trans hBT.size hB1.size) (.cells #[.slice sa1 x.slots.length sc1, .slice ca1 x.cols.length cc1] 55); have hR := next_block (o' := .cells #[.slice sa1 x.slots.length sc1, .slice ca1 x.cols.length cc1] 55) (heap3 hB1).2.1; have r1 := at_heap (i := 1) hR rfl; have hH := next_block (o' := .cells #[.slice sa1 x.slots.length sc1, .slice ca1 x.cols.length cc1] 55) (heap3 hB1).2.2; have HV := heap_self9 w1 (.cells #[.slice sa1 x.slots.length sc1, .slice ca1 x.cols.length cc1] 55))
        | (go_at_call 21; (with_reducible refine (HF.out _ _ _ _ _ hva2 hBw).mono ?_); rintro e w2 ⟨rfl, hB2⟩; have hH2 := (hB2.block _ (Array.getElem?_eq_some_iff.1 hH).1).trans hH; obtain ⟨f0, f1, f2, f3⟩ := two_all hH2; have hBw2 := hBw.trans (hB2.mono hBw.size)))
      refine bodyPost_ret (results_cell_tmpS Try.results22 _ _ (w.heap.size + 1 + 1) _ _ _ _ rfl (step_out _ _ hH2 hBw2 (by omega)).1 Try.underlying55 rfl (by kernel_rfl)) rfl ?_
      unfold VerR
      rw [HX.out]
      exact ⟨⟨_, _, _, _, _, _, rfl⟩, (step_out _ _ hH2 hBw2 (by omega)).2⟩
end Go.Proofs.Ytbkmhigbplgpmaa

/- The program's records: what gather is handed by Make, Row and Set. -/
set_option linter.unusedVariables false
set_option linter.unusedSimpArgs false
set_option maxRecDepth 100000
namespace Go.Proofs.Ytbkmhigbplgpmaa
open Go.RowKit Go.Shelf
/-- the result's box behind two news and a reading call -/
theorem vat_two (W : World) (o : Obj) (k : Nat) : VAt (((W.alloc o).alloc (.cells vzero 31)).drewN k) (W.heap.size + 1) vzero := by
  have h := vat_below (below_drewN (Below.refl _ _) k) (vat_alloc (W.alloc o) vzero)
  rwa [World.size_alloc] at h
theorem is_set4 {W V : World} {b : Nat} {v : PV} {X : Value} (d0 d1 d2 d3 : Value) (h : Is W v X) (hV : Below W.heap.size W V) (hb : W.heap.size ≤ b) : Is ((((V.setCell ⟨b, 0, none⟩ d0).setCell ⟨b, 1, none⟩ d1).setCell ⟨b, 2, none⟩ d2).setCell ⟨b, 3, none⟩ d3) v X :=
  is_below (below_set4 hV hb _ _ _ _ _ _ _ _) _ _ h
set_option maxHeartbeats 4000000 in
/-- of each column the row's value, of slots that are no columns their default -/
theorem make1_any (x : Sc.Ver) (row : List PV) (n : Nat) (s : SlotM) (E : Value) (xb rb : Nat) (sa : Option Addr) (sc : Nat) (ca : Option Addr) (cc : Nat) (b : Option Addr) (d : Nat) (W : World) (v : PV) (hs : IsSlot W s E)
    (c1 : W.cell? ⟨xb, 1, none⟩ = some (.slice ca x.cols.length cc)) (c2 : W.cell? ⟨rb, 0, none⟩ = some (.slice b row.length d)) (hR : Row W .i64 ca x.cols.length cc (x.cols.map Int.ofNat)) (hP : PRow W b d row) (hlen : row.length = x.cols.length) (hsm : x.cols.length ≤ 1000)
    (hv : v = match Rc.ix x.cols n with | none => s.df | some c => row[c]?.getD Sc.nilV) :
    Calls Try.prog 19 #[.int .i64 (n : Int), E, .pointer (some ⟨xb, 0, none⟩), .pointer (some ⟨rb, 0, none⟩)] W fun e w' => (∃ X, e = .returned X ∧ Is w' v X) ∧ Below W.heap.size W w' := by
  obtain ⟨e0, e1, e2, e3, e4, e5, e6, rfl, h7⟩ := hs
  obtain ⟨k1, k2, rfl, rfl, rfl, hdf⟩ := h7
  obtain ⟨q3, q4, q5, ql, qn, qc, hq⟩ := is_form9 hdf
  simp only [Value.agg.injEq, Array.mk.injEq, List.cons.injEq, and_true] at hq
  obtain ⟨rfl, rfl, rfl, rfl⟩ := hq
  have hB1 := (Below.refl _ W).alloc (Nat.le_refl _) (.cells #[.string s.nm, .int .i64 s.ty, .bool s.rq, .int .i64 q3, .int .i64 q4, .string q5, .slice ql qn qc] 50)
  have hB2 := hB1.alloc hB1.size (.cells vzero 31)
  have hIx := indexI_any ca cc x.cols n _ (row_below hR hB2 rfl)
  have y1 := cell_below hB2 c1
  have y2 := cell_below hB2 c2
  have hVt := fun k => vat_two W (.cells #[.string s.nm, .int .i64 s.ty, .bool s.rq, .int .i64 q3, .int .i64 q4, .string q5, .slice ql qn qc] 50) k
  obtain ⟨m, hm⟩ : ∃ m, x.cols.length = m := ⟨_, rfl⟩
  rw [hm] at hIx y1 hsm
  rw [hlen, hm] at y2
  cases hx : Rc.ix x.cols n with
  | some c =>
    have hc := Rc.ix_lt hx
    rw [hm] at hc
    obtain ⟨y, hy⟩ : ∃ y, row[c]? = some y := ⟨row[c], List.getElem?_eq_getElem (by omega)⟩
    rw [hx] at hIx hv
    simp only [hy, Option.getD_some] at hv
    subst hv
    obtain ⟨pb, po, k, nn, tx, la, ll, lc, rfl, ⟨g0, g1, g2, g3⟩, hIs⟩ := pRow_val hP hy
    have z0 := cell_below hB2 g0
    have z1 := cell_below hB2 g1
    have z2 := cell_below hB2 g2
    have z3 := cell_below hB2 g3
    have hd : decide ((c : Int) ≥ 0) = true := by simp
    have hIs2 := is_below hB2 _ _ hIs
    have H := Lib.hid hIx; have HI := Lib.hid hIs; have HV := Lib.hid hVt
    clear hIx hIs hVt hR hP hlen hx hy g0 g1 g2 g3 hdf c1 c2 hm hIs2
    simp only [Rc.ixJ] at H
    go_enter Try.func19, Try.ntmps19
    go_wp2_with (go_at_call 20; (with_reducible refine H.out.mono ?_); rintro e w1 ⟨rfl, kk, rfl⟩; obtain ⟨⟨p0, p1, p2, p3⟩, f0, f1, f2, f3⟩ := box4 (HV.out kk))
    refine bodyPost_ret (results_cell_row Try.results19 _ _ (W.heap.size + 1) _ _ _ _ rfl (vat_set4 (HV.out kk) _ _ _ _) Try.underlying31 rfl val4) rfl ?_
    have hBk := below_drewN hB2 kk
    exact ⟨⟨_, rfl, is_set4 _ _ _ _ HI.out hBk (Nat.le_succ _)⟩, below_set4 hBk (Nat.le_succ _) _ _ _ _ _ _ _ _⟩
  | none =>
    rw [hx] at hIx hv
    subst hv
    have hd : decide ((-1 : Int) ≥ 0) = false := by decide
    have H := Lib.hid hIx; have HI := Lib.hid hdf; have HV := Lib.hid hVt
    clear hIx hVt hR hP hlen hx hdf c1 c2 hm
    simp only [Rc.ixJ] at H
    go_enter Try.func19, Try.ntmps19
    go_wp2_with (go_at_call 20; (with_reducible refine H.out.mono ?_); rintro e w1 ⟨rfl, kk, rfl⟩; obtain ⟨⟨p0, p1, p2, p3⟩, f0, f1, f2, f3⟩ := box4 (HV.out kk))
    refine bodyPost_ret (results_cell_row Try.results19 _ _ (W.heap.size + 1) _ _ _ _ rfl (vat_set4 (HV.out kk) _ _ _ _) Try.underlying31 rfl val4) rfl ?_
    have hBk := below_drewN hB2 kk
    exact ⟨⟨_, rfl, is_set4 _ _ _ _ HI.out hBk (Nat.le_succ _)⟩, below_set4 hBk (Nat.le_succ _) _ _ _ _ _ _ _ _⟩
set_option maxHeartbeats 4000000 in
theorem row1_any (l : List PV) (i n : Nat) (rb : Nat) (rv : Int) (b : Option Addr) (d : Nat) (W : World) (v : PV) (c1 : W.cell? ⟨rb, 1, none⟩ = some (.slice b l.length d)) (hP : PRow W b d l) (hl : l.length ≤ 100000) (hn : l[n]? = some v) :
    Calls Try.prog 24 #[.int .i64 (i : Int), .int .i64 (n : Int), .pointer (some ⟨rb, 0, none⟩)] W fun e w' => (∃ X, e = .returned X ∧ Is w' v X) ∧ Below W.heap.size W w' := by
  have hB1 := (Below.refl _ W).alloc (Nat.le_refl _) (.cells vzero 31)
  obtain ⟨pb, po, k, nn, tx, la, ll, lc, rfl, ⟨g0, g1, g2, g3⟩, hIs⟩ := pRow_val hP hn
  have hlt := (List.getElem?_eq_some_iff.1 hn).1
  obtain ⟨m, hm⟩ : ∃ m, l.length = m := ⟨_, rfl⟩
  rw [hm] at c1 hl hlt
  have hVt := vat_alloc W vzero
  obtain ⟨⟨p0, p1, p2, p3⟩, f0, f1, f2, f3⟩ := box4 hVt
  have y1 := cell_below hB1 c1
  have z0 := cell_below hB1 g0
  have z1 := cell_below hB1 g1
  have z2 := cell_below hB1 g2
  have z3 := cell_below hB1 g3
  have HI := Lib.hid hIs; have HV := Lib.hid hVt
  clear hIs hVt hP hn g0 g1 g2 g3 c1 hm
  go_enter Try.func24, Try.ntmps24
  go_wp2
  refine bodyPost_ret (results_cell_row Try.results24 _ _ W.heap.size _ _ _ _ rfl (vat_alloc W _) Try.underlying31 rfl val4) rfl ?_
  have hBz := (Below.refl _ W).alloc (Nat.le_refl _) (.cells #[.int .i64 k, .int .i64 nn, .string tx, .slice la ll lc] 31)
  exact ⟨⟨_, rfl, is_below hBz _ _ HI.out⟩, hBz⟩
set_option maxHeartbeats 4000000 in
theorem set1_any (slot n : Int) (had : PV) (new : PV) (E : Value) (sb vb : Nat) (Y0 Y1 Y2 Y3 : Value) (W : World) (v : PV) (hh : Is W had E) (hY : Is W new (.agg #[Y0, Y1, Y2, Y3]))
    (c0 : W.cell? ⟨sb, 0, none⟩ = some (.int .i64 slot)) (y0 : W.cell? ⟨vb, 0, none⟩ = some Y0) (y1 : W.cell? ⟨vb, 1, none⟩ = some Y1) (y2 : W.cell? ⟨vb, 2, none⟩ = some Y2) (y3 : W.cell? ⟨vb, 3, none⟩ = some Y3) (hv : v = if n = slot then new else had) :
    Calls Try.prog 28 #[.int .i64 n, E, .pointer (some ⟨sb, 0, none⟩), .pointer (some ⟨vb, 0, none⟩)] W fun e w' => (∃ X, e = .returned X ∧ Is w' v X) ∧ Below W.heap.size W w' := by
  obtain ⟨k, nn, tx, la, ll, lc, rfl⟩ := is_form9 hh
  obtain ⟨k', nn', tx', la', ll', lc', he⟩ := is_form9 hY
  simp only [Value.agg.injEq, Array.mk.injEq, List.cons.injEq, and_true] at he
  obtain ⟨rfl, rfl, rfl, rfl⟩ := he
  have hB1 := (Below.refl _ W).alloc (Nat.le_refl _) (.cells #[.int .i64 k, .int .i64 nn, .string tx, .slice la ll lc] 31)
  have hB2 := hB1.alloc hB1.size (.cells vzero 31)
  have hVt : VAt ((W.alloc (.cells #[.int .i64 k, .int .i64 nn, .string tx, .slice la ll lc] 31)).alloc (.cells vzero 31)) (W.heap.size + 1) vzero := by
    have h := vat_alloc (W.alloc (.cells #[.int .i64 k, .int .i64 nn, .string tx, .slice la ll lc] 31)) vzero
    rwa [World.size_alloc] at h
  obtain ⟨⟨p0, p1, p2, p3⟩, f0, f1, f2, f3⟩ := box4 hVt
  have hVc : ∀ cs, VAt ((W.alloc (.cells #[.int .i64 k, .int .i64 nn, .string tx, .slice la ll lc] 31)).alloc (.cells cs 31)) (W.heap.size + 1) cs := fun cs => by
    have h := vat_alloc (W.alloc (.cells #[.int .i64 k, .int .i64 nn, .string tx, .slice la ll lc] 31)) cs
    rwa [World.size_alloc] at h
  have hBc := fun cs => hB1.alloc hB1.size (.cells cs 31)
  have z := cell_below hB2 c0
  have z0 := cell_below hB2 y0
  have z1 := cell_below hB2 y1
  have z2 := cell_below hB2 y2
  have z3 := cell_below hB2 y3
  by_cases hs : n = slot
  · have hd : (n == slot) = true := by simpa using hs
    rw [if_pos hs] at hv
    subst hv
    have HI := Lib.hid hY; have HV := Lib.hid hVc; have HBc := Lib.hid hBc
    clear hY hh hVt hVc hBc c0 y0 y1 y2 y3 hs
    go_enter Try.func28, Try.ntmps28
    go_wp2
    refine bodyPost_ret (results_cell_row Try.results28 _ _ (W.heap.size + 1) _ _ _ _ rfl (HV.out _) Try.underlying31 rfl val4) rfl ?_
    exact ⟨⟨_, rfl, is_below (HBc.out _) _ _ HI.out⟩, HBc.out _⟩
  · have hd : (n == slot) = false := by simpa using hs
    rw [if_neg hs] at hv
    subst hv
    have HI := Lib.hid hh; have HV := Lib.hid hVc; have HBc := Lib.hid hBc; have HS := Lib.hid hs
    clear hY hh hVt hVc hBc c0 y0 y1 y2 y3 hs
    go_enter Try.func28, Try.ntmps28
    go_wp2
    refine bodyPost_ret (results_cell_row Try.results28 _ _ (W.heap.size + 1) _ _ _ _ rfl (HV.out _) Try.underlying31 rfl val4) rfl ?_
    exact ⟨⟨_, rfl, is_below (HBc.out _) _ _ HI.out⟩, HBc.out _⟩
end Go.Proofs.Ytbkmhigbplgpmaa
