/- The program's contracts of stage 10. -/
import Derived.Test.YtibjjclfonpibaaGreatMh30Reco
import Derived.Test.YtibjjclfonpibaaGreatMh31Reco
import Derived.Test.YtibjjclfonpibaaGreatMh32Reco
import Derived.Test.YtibjjclfonpibaaGreatMh16Reco
import Derived.Test.YtibjjclfonpibaaGreatMh13Reco
import Derived.Test.YtibjjclfonpibaaGreatMh14Reco
set_option linter.unusedVariables false
namespace Go.Proofs.YtibjjclfonpibaaGreat
open Go.RowKit Go.Shelf
theorem allC : AllC := spAll_any spAdd_any reorder_any
theorem rightC : RightC := rightA allC
end Go.Proofs.YtibjjclfonpibaaGreat

/- The program's records: at, version, fit; schema.At of every number. -/
set_option linter.unusedVariables false
set_option linter.unusedSimpArgs false
set_option maxRecDepth 100000
namespace Go.Proofs.YtibjjclfonpibaaGreat
open Go.RowKit Go.Shelf
theorem res2' {w w1 : World} {o1 o2 : Obj} (h : Below ((w.alloc o1).alloc o2).heap.size ((w.alloc o1).alloc o2) w1) : w1.heap[w.heap.size]? = some o1 := by
  have e := heap_self9 w o1
  have e2 : ((w.alloc o1).alloc o2).heap[w.heap.size]? = some o1 := (((Below.refl _ (w.alloc o1)).alloc (Nat.le_refl _) o2).block _ (by simp)).trans e
  exact (h.block _ (by simp; omega)).trans e2
theorem allN (t : TemplM) (w : World) (X : Value) (hg : greatT t = false) (hi : IsTempl w t X) : Calls Tryz.prog 78 #[X] w fun e w' => (∃ a c, e = .returned (.slice a (lastN t) c)) ∧ Below w.heap.size w w' :=
  (allC t w X hg hi).mono fun e w' h => by
    refine ⟨?_, h.2⟩
    have h2 := h.1
    unfold lastN
    cases hv : Sc.vers t with
    | none => rw [hv] at h2; exact h2
    | some L => rw [hv] at h2; obtain ⟨a, c, e, _⟩ := h2; exact ⟨a, c, e⟩
theorem verOf_none {t : TemplM} {v : Int} (h : Rc.verOf t v = none) : v < 1 ∨ (lastN t : Int) < v := by
  unfold Rc.verOf at h
  split at h
  · rename_i hlt; exact .inl hlt
  · rename_i hlt
    right
    unfold lastN
    cases hv : Sc.vers t with
    | none => simp only; omega
    | some L =>
      rw [hv] at h
      simp only [Option.bind_some, List.getElem?_eq_none_iff] at h
      simp only
      omega
theorem verOf_some {t : TemplM} {v : Int} {x : Sc.Ver} (h : Rc.verOf t v = some x) : ∃ (L : List Sc.Ver) (n : Nat), Sc.vers t = some L ∧ L[n]? = some x ∧ v = ((n + 1 : Nat) : Int) ∧ n + 1 ≤ 9 := by
  unfold Rc.verOf at h
  split at h
  · cases h
  · rename_i hlt
    cases hv : Sc.vers t with
    | none => rw [hv] at h; cases h
    | some L =>
      rw [hv] at h
      simp only [Option.bind_some] at h
      have := (List.getElem?_eq_some_iff.1 h).1
      have h9 := Sc.vers_length hv
      exact ⟨L, (v - 1).toNat, rfl, h, by omega, by omega⟩
theorem verOf_ok {t : TemplM} {v : Int} {x : Sc.Ver} (h : Rc.verOf t v = some x) : Sc.VerOk 16 x := by
  obtain ⟨L, n, hv, hx, _⟩ := verOf_some h
  exact vers_ok hv x (List.mem_of_getElem? hx)
set_option maxHeartbeats 4000000 in
theorem atNo (t : TemplM) (v : Int) (w : World) (X : Value) (hg : greatT t = false) (hv : v < 1 ∨ (lastN t : Int) < v) (hI : I64 v) (hi : IsTempl w t X) : Calls Tryz.prog 62 #[X, .int .i64 v] w fun e w' =>
    (∃ sa n sc ca m cc, e = .returned (.tuple #[.agg #[.slice sa n sc, .slice ca m cc], .bool false])) ∧ Below w.heap.size w w' := by
  have h0 := hi
  obtain ⟨h1, sa, sc, ta, tc, rfl, hsl, hst⟩ := hi
  have hBT := belowTwo w (.cells #[.string t.nm, .slice sa t.slots.length sc, .slice ta t.steps.length tc] 25) (.cells #[.slice none 0 0, .slice none 0 0] 67)
  have hA := allN t _ _ hg (isTempl_below hBT h0)
  have hb0 := fun W => build_ver0 W
  obtain ⟨n, hn⟩ : ∃ n, lastN t = n := ⟨_, rfl⟩
  rw [hn] at hA hv
  have H := Lib.hid hA
  unfold I64 at hI
  by_cases hlo : v < 1
  · have d1 : decide (v < 1) = true := by simpa using hlo
    have HLO := Lib.hid hlo
    clear hA h0 hsl hst hn hv hlo
    go_enter Tryz.func62, Tryz.ntmps62
    go_wp2_with (first
      | (go_at_call 78; (with_reducible refine H.out.mono ?_); rintro e w1 ⟨⟨a, c, rfl⟩, hB1⟩; have hH := res2 hB1; obtain ⟨f0, f1, f2, f3⟩ := two_all hH; have hBw := hBT.trans (hB1.mono hBT.size)))
    refine bodyPost_ret (results_cell_tmpS Tryz.results62 _ _ (w.heap.size + 1) _ _ _ _ rfl (step_out _ _ hH hBw (by omega)).1 Tryz.underlying67 rfl (by kernel_rfl)) rfl ?_
    exact ⟨⟨_, _, _, _, _, _, rfl⟩, (step_out _ _ hH hBw (by omega)).2⟩
  · have d1 : decide (v < 1) = false := by simpa using hlo
    have d2 : decide (v > (n : Int)) = true := by simp; omega
    have HLO := Lib.hid hlo
    clear hA h0 hsl hst hn hv hlo
    go_enter Tryz.func62, Tryz.ntmps62
    go_wp2_with (first
      | (go_at_call 78; (with_reducible refine H.out.mono ?_); rintro e w1 ⟨⟨a, c, rfl⟩, hB1⟩; have hH := res2 hB1; obtain ⟨f0, f1, f2, f3⟩ := two_all hH; have hBw := hBT.trans (hB1.mono hBT.size)))
    refine bodyPost_ret (results_cell_tmpS Tryz.results62 _ _ (w.heap.size + 1) _ _ _ _ rfl (step_out _ _ hH hBw (by omega)).1 Tryz.underlying67 rfl (by kernel_rfl)) rfl ?_
    exact ⟨⟨_, _, _, _, _, _, rfl⟩, (step_out _ _ hH hBw (by omega)).2⟩
/-- fit -/
theorem fitR_any (x : Sc.Ver) (sa : Option Addr) (sc : Nat) (ca : Option Addr) (cc : Nat) (vs : List PV) (b : Option Addr) (d : Nat) (w : World) (hv : VerAt w x sa sc ca cc) (hr : PRow w b d vs) (hty : ∀ s ∈ x.slots, 0 ≤ s.ty) (hsz : ∀ v ∈ vs, szV v ≤ 1000000) (hsm : x.slots.length ≤ 100000) (hsv : vs.length ≤ 100000) :
    Calls Tryz.prog 41 #[.agg #[.slice sa x.slots.length sc, .slice ca x.cols.length cc], .slice b vs.length d] w fun e w' => e = .returned (.bool (Rc.fitL x.slots vs)) ∧ Below w.heap.size w w' := by
  have hA1 := (Below.refl _ w).alloc (Nat.le_refl _) (.cells #[.slice sa x.slots.length sc, .slice ca x.cols.length cc] 67)
  have hE := equalF_any sa b sc d x.slots vs _ (slotRow_below hA1 hv.1) (pRow_below hA1 hr) hty hsz hsm hsv (Rc.fitL x.slots vs) (Rc.fitL_iff _ _)
  obtain ⟨B, hB⟩ : ∃ B, Rc.fitL x.slots vs = B := ⟨_, rfl⟩
  obtain ⟨n, hn⟩ : ∃ n, x.slots.length = n := ⟨_, rfl⟩
  obtain ⟨m, hm⟩ : ∃ m, vs.length = m := ⟨_, rfl⟩
  obtain ⟨k, hk⟩ : ∃ k, x.cols.length = k := ⟨_, rfl⟩
  rw [hB, hn, hm, hk] at hE
  rw [hB, hn, hm, hk]
  rw [hn, hk] at hA1
  have H := Lib.hid hE
  clear hE hB hv hr hty hsz hsm hsv hn hm hk
  go_enter Tryz.func41, Tryz.ntmps41
  go_wp2_with (go_at_call 65; (with_reducible refine H.out.mono ?_); rintro e w1 ⟨rfl, hB1⟩)
  go_ret
  exact ⟨rfl, hA1.trans (hB1.mono hA1.size)⟩
/-- a version that reads so wherever what lies from B on is as it is -/
def VerFresh (B : Nat) (w : World) (x : Sc.Ver) (sa : Option Addr) (sc : Nat) (ca : Option Addr) (cc : Nat) : Prop := ∀ W' : World, (∀ b, B ≤ b → b < w.heap.size → W'.heap[b]? = w.heap[b]?) → VerAt W' x sa sc ca cc
theorem verFresh_at {B : Nat} {w : World} {x : Sc.Ver} {sa : Option Addr} {sc : Nat} {ca : Option Addr} {cc : Nat} (h : VerFresh B w x sa sc ca cc) : VerAt w x sa sc ca cc := h w fun _ _ _ => rfl
theorem verFresh_later {B : Nat} {w w1 : World} {x : Sc.Ver} {sa : Option Addr} {sc : Nat} {ca : Option Addr} {cc : Nat} (h : VerFresh B w x sa sc ca cc) (hs : w.heap.size ≤ w1.heap.size) (hb : ∀ b, B ≤ b → b < w.heap.size → w1.heap[b]? = w.heap[b]?) : VerFresh B w1 x sa sc ca cc :=
  fun w' h' => h w' fun b h1 h2 => (h' b h1 (by omega)).trans (hb b h1 h2)
theorem verFresh_mono {B B' : Nat} {w : World} {x : Sc.Ver} {sa : Option Addr} {sc : Nat} {ca : Option Addr} {cc : Nat} (h : VerFresh B w x sa sc ca cc) (hb : B' ≤ B) : VerFresh B' w x sa sc ca cc := fun w' h' => h w' fun b h1 h2 => h' b (Nat.le_trans hb h1) h2
theorem verAt_below {w w1 : World} {x : Sc.Ver} {sa : Option Addr} {sc : Nat} {ca : Option Addr} {cc : Nat} (h : VerAt w x sa sc ca cc) (hb : Below w.heap.size w w1) : VerAt w1 x sa sc ca cc := ⟨slotRow_below hb h.1, row_below h.2 hb rfl⟩
/-- two stores into an older block -/
theorem verFresh_set2 {B b : Nat} {w : World} {x : Sc.Ver} {sa : Option Addr} {sc : Nat} {ca : Option Addr} {cc : Nat} {o : Obj} (h : VerFresh B w x sa sc ca cc) (hb : b < B) (u0 u1 : Value) : VerFresh B (((w.alloc o).setCell ⟨b, 0, none⟩ u0).setCell ⟨b, 1, none⟩ u1) x sa sc ca cc := by
  have h1 := fun (W : World) (i : Nat) (u : Value) => (grown_set9 W b i u).size
  refine verFresh_later h (Nat.le_trans (by simp) (Nat.le_trans (h1 _ 0 u0) (h1 _ 1 u1))) fun c hc hl => ?_
  rw [Below.heap_setCell _ ⟨b, 1, none⟩ u1 c (by show c ≠ b; omega), Below.heap_setCell _ ⟨b, 0, none⟩ u0 c (by show c ≠ b; omega)]
  exact ((Below.refl _ w).alloc (Nat.le_refl _) o).block c hl
theorem verFresh_set2' {B b : Nat} {w : World} {x : Sc.Ver} {sa : Option Addr} {sc : Nat} {ca : Option Addr} {cc : Nat} (h : VerFresh B w x sa sc ca cc) (hb : b < B) (u0 u1 : Value) : VerFresh B ((w.setCell ⟨b, 0, none⟩ u0).setCell ⟨b, 1, none⟩ u1) x sa sc ca cc := by
  have h1 := fun (W : World) (i : Nat) (u : Value) => (grown_set9 W b i u).size
  refine verFresh_later h (Nat.le_trans (h1 _ 0 u0) (h1 _ 1 u1)) fun c hc hl => ?_
  rw [Below.heap_setCell _ ⟨b, 1, none⟩ u1 c (by show c ≠ b; omega), Below.heap_setCell _ ⟨b, 0, none⟩ u0 c (by show c ≠ b; omega)]
set_option maxHeartbeats 4000000 in
theorem atF (t : TemplM) (L : List Sc.Ver) (v : Nat) (x : Sc.Ver) (w : World) (X : Value) (hg : greatT t = false) (hv : Sc.vers t = some L) (hx : L[v]? = some x) (hi : IsTempl w t X) : Calls Tryz.prog 62 #[X, .int .i64 ((v + 1 : Nat) : Int)] w fun e w' =>
    (∃ sa sc ca cc, e = .returned (.tuple #[.agg #[.slice sa x.slots.length sc, .slice ca x.cols.length cc], .bool true]) ∧ VerFresh w.heap.size w' x sa sc ca cc) ∧ Below w.heap.size w w' := by
  have h0 := hi
  obtain ⟨h1, sa, sc, ta, tc, rfl, hsl, hst⟩ := hi
  have hBT := belowTwo w (.cells #[.string t.nm, .slice sa t.slots.length sc, .slice ta t.steps.length tc] 25) (.cells #[.slice none 0 0, .slice none 0 0] 67)
  have hA := allC t _ _ hg (isTempl_below hBT h0)
  rw [hv] at hA
  simp only at hA
  have hlen := Sc.vers_length hv
  have hvl := (List.getElem?_eq_some_iff.1 hx).1
  have hok := vers_ok hv x (List.mem_of_getElem? hx)
  have hF := fun sa sc ca cc W hV => fresh_any x sa sc ca cc W hok.num (Nat.le_trans hok.len (by omega)) (fun s hs => (hok.ok s hs).2.2) hV
  obtain ⟨n, hn⟩ : ∃ n, L.length = n := ⟨_, rfl⟩
  rw [hn] at hA hvl hlen
  have HX := Lib.hid hx; have HF := Lib.hid hF; have H := Lib.hid hA
  have hn9 : n ≤ 9 := by omega
  have d1 : decide ((v : Int) + 1 < 1) = false := by simp; omega
  have d2 : decide ((v : Int) + 1 > (n : Int)) = false := by simp; omega
  have d3 : decide ((v : Int) < (n : Int)) = true := by simp; omega
  have hw1 : IntKind.i64.wrap ((v : Int) + 1 - 1) = (v : Int) := by
    have := Sc.wrapI v (by omega)
    rwa [show (v : Int) + 1 - 1 = (v : Int) by omega]
  rw [show ((v + 1 : Nat) : Int) = (v : Int) + 1 by omega]
  clear hA hF hx hv h0 hsl hst hok hlen hn
  go_enter Tryz.func62, Tryz.ntmps62
  go_wp2_with (first
    | (go_at_call 78; (with_reducible refine H.out.mono ?_); rintro e w1 ⟨⟨a, c, rfl, hc1, hc2, hrow⟩, hB1⟩; obtain ⟨b, off, sv, cv, rfl, q0, q1, hvi⟩ := hrow v x HX.out; obtain ⟨sa1, sc1, ca1, cc1, cs1, rfl, rfl, hva, _, _⟩ := verIn_at hvi hB1; have hH := res2 hB1; obtain ⟨f0, f1, f2, f3⟩ := two_all hH; have HVA := Lib.hid hva; have hlt1 := (Array.getElem?_eq_some_iff.1 hH).1; have hBw := hBT.trans (hB1.mono hBT.size))
    | (go_at_call 83; (with_reducible refine (HF.out _ _ _ _ _ HVA.out).mono ?_); rintro e w2 ⟨⟨sa2, sc2, ca2, cc2, rfl, hag⟩, hB2⟩; have hH := (hB2.block _ hlt1).trans hH; obtain ⟨f0, f1, f2, f3⟩ := two_all hH; have hBw2 := hBw.trans (hB2.mono hBw.size)))
  refine bodyPost_ret (results_cell_tmpS Tryz.results62 _ _ (w.heap.size + 1) _ _ _ _ rfl (step_out _ _ hH hBw2 (by omega)).1 Tryz.underlying67 rfl (by kernel_rfl)) rfl ?_
  exact ⟨⟨sa2, sc2, ca2, cc2, rfl, verFresh_mono (verFresh_set2' (B := w1.heap.size) hag hlt1 _ _) hBw.size⟩, (step_out _ _ hH hBw2 (by omega)).2⟩
/-- what at comes to -/
def AtR (w0 : World) (t : TemplM) (v : Int) (e : Ending) (w' : World) : Prop := (match Rc.verOf t v with
    | some x => ∃ sa sc ca cc, e = .returned (.tuple #[.agg #[.slice sa x.slots.length sc, .slice ca x.cols.length cc], .int .i64 0]) ∧ VerFresh w0.heap.size w' x sa sc ca cc
    | none => ∃ sa n sc ca m cc, e = .returned (.tuple #[.agg #[.slice sa n sc, .slice ca m cc], .int .i64 (if (Sc.vers t).isSome then 7 else 1)])) ∧ Below w0.heap.size w0 w'
/-- what lay in w1 lies behind a new block, too -/
theorem next_block {w1 : World} {b : Nat} {o o' : Obj} (h : w1.heap[b]? = some o) : (w1.alloc o').heap[b]? = some o := (((Below.refl _ w1).alloc (Nat.le_refl _) o').block b (Array.getElem?_eq_some_iff.1 h).1).trans h
set_option maxHeartbeats 4000000 in
theorem rAt_any (t : TemplM) (v : Int) (w : World) (X : Value) (hg : greatT t = false) (hI : I64 v) (hi : IsTempl w t X) : Calls Tryz.prog 37 #[X, .int .i64 v] w (AtR w t v) := by
  have h0 := hi
  obtain ⟨h1, sa, sc, ta, tc, rfl, hsl, hst⟩ := hi
  have hBT := belowTwo w (.cells #[.string t.nm, .slice sa t.slots.length sc, .slice ta t.steps.length tc] 25) (.cells #[.slice none 0 0, .slice none 0 0] 67)
  have hb0 := fun W => build_ver0 W
  cases hx : Rc.verOf t v with
  | some x =>
    obtain ⟨L, n, hv, hLn, rfl, hn9⟩ := verOf_some hx
    have hA := atF t L n x _ _ hg hv hLn (isTempl_below hBT h0)
    have H := Lib.hid hA; have HX := Lib.hid hx
    obtain ⟨N, hN⟩ : ∃ N, ((n + 1 : Nat) : Int) = N := ⟨_, rfl⟩
    rw [hN] at H HX ⊢
    clear hA hx h0 hsl hst hv hLn hN hI
    go_enter Tryz.func37, Tryz.ntmps37
    go_wp2_with (first
      | (go_at_call 62; (with_reducible refine H.out.mono ?_); rintro e w1 ⟨⟨sa1, sc1, ca1, cc1, rfl, hva⟩, hB1⟩; have hH := next_block (o' := .cells #[.slice sa1 x.slots.length sc1, .slice ca1 x.cols.length cc1] 67) (res2 hB1); obtain ⟨f0, f1, f2, f3⟩ := two_all hH; have hBw := (hBT.trans (hB1.mono hBT.size)).alloc (Nat.le_trans hBT.size hB1.size) (.cells #[.slice sa1 x.slots.length sc1, .slice ca1 x.cols.length cc1] 67)))
    refine bodyPost_ret (results_cell_tmpS Tryz.results37 _ _ (w.heap.size + 1) _ _ _ _ rfl (step_out _ _ hH hBw (by omega)).1 Tryz.underlying67 rfl (by kernel_rfl)) rfl ?_
    unfold AtR
    rw [HX.out]
    exact ⟨⟨sa1, sc1, ca1, cc1, rfl, verFresh_mono (verFresh_set2 hva (by simp) _ _) (by simp; omega)⟩, (step_out _ _ hH hBw (by omega)).2⟩
  | none =>
    have hA := atNo t v _ _ hg (verOf_none hx) hI (isTempl_below hBT h0)
    have hR := fun W (hb : Below w.heap.size w W) => rightC t W _ hg (isTempl_below hb h0)
    obtain ⟨S, hS⟩ : ∃ S, (Sc.vers t).isSome = S := ⟨_, rfl⟩
    rw [hS] at hR
    have H := Lib.hid hA; have HX := Lib.hid hx; have HR := Lib.hid hR; have HS := Lib.hid hS
    clear hA hx h0 hsl hst hI hR hS
    cases S with
    | true =>
      go_enter Tryz.func37, Tryz.ntmps37
      go_wp2_with (first
        | (go_at_call 62; (with_reducible refine H.out.mono ?_); rintro e w1 ⟨⟨sa1, n1, sc1, ca1, m1, cc1, rfl⟩, hB1⟩; have hH := next_block (o' := .cells #[.slice sa1 n1 sc1, .slice ca1 m1 cc1] 67) (res2 hB1); have hBw := (hBT.trans (hB1.mono hBT.size)).alloc (Nat.le_trans hBT.size hB1.size) (.cells #[.slice sa1 n1 sc1, .slice ca1 m1 cc1] 67); have hT := next_block (o' := .cells #[.slice sa1 n1 sc1, .slice ca1 m1 cc1] 67) (res2' hB1); have g0 := at_heap (i := 0) hT rfl; have g1 := at_heap (i := 1) hT rfl; have g2 := at_heap (i := 2) hT rfl)
        | (go_at_call 63; (with_reducible refine (HR.out _ hBw).mono ?_); rintro e w2 ⟨rfl, hB2⟩; have hH2 := (hB2.block _ (Array.getElem?_eq_some_iff.1 hH).1).trans hH; obtain ⟨f0, f1, f2, f3⟩ := two_all hH2; have hBw2 := hBw.trans (hB2.mono hBw.size)))
      refine bodyPost_ret (results_cell_tmpS Tryz.results37 _ _ (w.heap.size + 1) _ _ _ _ rfl (step_out _ _ hH2 hBw2 (by omega)).1 Tryz.underlying67 rfl (by kernel_rfl)) rfl ?_
      unfold AtR
      rw [HX.out, HS.out]
      exact ⟨⟨_, _, _, _, _, _, rfl⟩, (step_out _ _ hH2 hBw2 (by omega)).2⟩
    | false =>
      go_enter Tryz.func37, Tryz.ntmps37
      go_wp2_with (first
        | (go_at_call 62; (with_reducible refine H.out.mono ?_); rintro e w1 ⟨⟨sa1, n1, sc1, ca1, m1, cc1, rfl⟩, hB1⟩; have hH := next_block (o' := .cells #[.slice sa1 n1 sc1, .slice ca1 m1 cc1] 67) (res2 hB1); have hBw := (hBT.trans (hB1.mono hBT.size)).alloc (Nat.le_trans hBT.size hB1.size) (.cells #[.slice sa1 n1 sc1, .slice ca1 m1 cc1] 67); have hT := next_block (o' := .cells #[.slice sa1 n1 sc1, .slice ca1 m1 cc1] 67) (res2' hB1); have g0 := at_heap (i := 0) hT rfl; have g1 := at_heap (i := 1) hT rfl; have g2 := at_heap (i := 2) hT rfl)
        | (go_at_call 63; (with_reducible refine (HR.out _ hBw).mono ?_); rintro e w2 ⟨rfl, hB2⟩; have hH2 := (hB2.block _ (Array.getElem?_eq_some_iff.1 hH).1).trans hH; obtain ⟨f0, f1, f2, f3⟩ := two_all hH2; have hBw2 := hBw.trans (hB2.mono hBw.size)))
      refine bodyPost_ret (results_cell_tmpS Tryz.results37 _ _ (w.heap.size + 1) _ _ _ _ rfl (step_out _ _ hH2 hBw2 (by omega)).1 Tryz.underlying67 rfl (by kernel_rfl)) rfl ?_
      unfold AtR
      rw [HX.out, HS.out]
      exact ⟨⟨_, _, _, _, _, _, rfl⟩, (step_out _ _ hH2 hBw2 (by omega)).2⟩
end Go.Proofs.YtibjjclfonpibaaGreat

/- The program's records: version. -/
set_option linter.unusedVariables false
set_option linter.unusedSimpArgs false
set_option maxRecDepth 100000
namespace Go.Proofs.YtibjjclfonpibaaGreat
open Go.RowKit Go.Shelf
/-- what version comes to -/
def VerR (w0 : World) (t : TemplM) (r : RecM) (e : Ending) (w' : World) : Prop := (match Rc.verR t r with
    | some x => ∃ sa sc ca cc, e = .returned (.tuple #[.agg #[.slice sa x.slots.length sc, .slice ca x.cols.length cc], .bool true]) ∧ VerFresh w0.heap.size w' x sa sc ca cc
    | none => ∃ sa n sc ca m cc, e = .returned (.tuple #[.agg #[.slice sa n sc, .slice ca m cc], .bool false])) ∧ Below w0.heap.size w0 w'
set_option maxHeartbeats 4000000 in
theorem version_any (t : TemplM) (r : RecM) (w : World) (X : Value) (b : Option Addr) (d : Nat) (hg : greatT t = false) (hI : I64 r.v) (hi : IsTempl w t X) (hr : PRow w b d r.s) (hsz : ∀ v ∈ r.s, szV v ≤ 1000000) (hsv : r.s.length ≤ 100000) :
    Calls Tryz.prog 53 #[X, .agg #[.int .i64 r.v, .slice b r.s.length d]] w (VerR w t r) := by
  have h0 := hi
  obtain ⟨h1, sa, sc, ta, tc, rfl, hsl, hst⟩ := hi
  obtain ⟨rv, rs⟩ := r
  simp only at hI hr hsz hsv ⊢
  have hBT := below3 w (.cells #[.string t.nm, .slice sa t.slots.length sc, .slice ta t.steps.length tc] 25) (.cells #[.int .i64 rv, .slice b rs.length d] 31) (.cells #[.slice none 0 0, .slice none 0 0] 67)
  have hb0 := fun W => build_ver0 W
  obtain ⟨m, hm⟩ : ∃ m, rs.length = m := ⟨_, rfl⟩
  cases hx : Rc.verOf t rv with
  | none =>
    have hno : Rc.verR t ⟨rv, rs⟩ = none := by unfold Rc.verR; simp only; rw [hx]
    have hA := atNo t rv _ _ hg (verOf_none hx) hI (isTempl_below hBT h0)
    rw [hm] at hA hBT ⊢
    have H := Lib.hid hA; have HX := Lib.hid hno
    clear hA hx h0 hsl hst hI hr hsz hsv hno hm
    go_enter Tryz.func53, Tryz.ntmps53
    go_wp2_with (first
      | (go_at_call 62; (with_reducible refine H.out.mono ?_); rintro e w1 ⟨⟨sa1, n1, sc1, ca1, m1, cc1, rfl⟩, hB1⟩; have hH := next_block (o' := .cells #[.slice sa1 n1 sc1, .slice ca1 m1 cc1] 67) (heap3 hB1).2.2; obtain ⟨f0, f1, f2, f3⟩ := two_all hH; have hBw := (hBT.trans (hB1.mono hBT.size)).alloc (Nat.le_trans hBT.size hB1.size) (.cells #[.slice sa1 n1 sc1, .slice ca1 m1 cc1] 67)))
    refine bodyPost_ret (results_cell_tmpS Tryz.results53 _ _ (w.heap.size + 1 + 1) _ _ _ _ rfl (step_out _ _ hH hBw (by omega)).1 Tryz.underlying67 rfl (by kernel_rfl)) rfl ?_
    unfold VerR
    rw [HX.out]
    exact ⟨⟨_, _, _, _, _, _, rfl⟩, (step_out _ _ hH hBw (by omega)).2⟩
  | some x =>
    obtain ⟨L, n, hv, hLn, rfl, hn9⟩ := verOf_some hx
    have hok := verOf_ok hx
    have hA := atF t L n x _ _ hg hv hLn (isTempl_below hBT h0)
    have hF := fun W sa sc ca cc hva (hb : Below w.heap.size w W) => fitR_any x sa sc ca cc rs b d W hva (pRow_below hb hr) (fun s hs => by have := (hok.ok s hs).1; omega) hsz (Nat.le_trans hok.num (by omega)) hsv
    obtain ⟨B, hB⟩ : ∃ B, Rc.fitL x.slots rs = B := ⟨_, rfl⟩
    have hans : Rc.verR t ⟨((n + 1 : Nat) : Int), rs⟩ = if B = true then some x else none := by unfold Rc.verR; simp only; rw [hx]; simp only; rw [hB]
    obtain ⟨N, hN⟩ : ∃ N, ((n + 1 : Nat) : Int) = N := ⟨_, rfl⟩
    rw [hB] at hF
    rw [hm] at hF hBT hA ⊢
    rw [hN] at hA hBT hans ⊢
    have H := Lib.hid hA; have HF := Lib.hid hF; have HX := Lib.hid hans
    clear hA hx h0 hsl hst hv hLn hN hI hF hr hsz hsv hok hB hans hm
    cases B with
    | true =>
      go_enter Tryz.func53, Tryz.ntmps53
      go_wp2_with (first
        | (go_at_call 62; (with_reducible refine H.out.mono ?_); rintro e w1 ⟨⟨sa1, sc1, ca1, cc1, rfl, hva⟩, hB1⟩; have hlt := Lib.hid hB1.size; have hVF := verFresh_later (w1 := w1.alloc (.cells #[.slice sa1 x.slots.length sc1, .slice ca1 x.cols.length cc1] 67)) hva (by simp) (fun c _ hl => ((Below.refl _ w1).alloc (Nat.le_refl _) _).block c hl); have hva2 := verFresh_at hVF; have hBw := (hBT.trans (hB1.mono hBT.size)).alloc (Nat.le_trans hBT.size hB1.size) (.cells #[.slice sa1 x.slots.length sc1, .slice ca1 x.cols.length cc1] 67); have hR := next_block (o' := .cells #[.slice sa1 x.slots.length sc1, .slice ca1 x.cols.length cc1] 67) (heap3 hB1).2.1; have r1 := at_heap (i := 1) hR rfl; have hH := next_block (o' := .cells #[.slice sa1 x.slots.length sc1, .slice ca1 x.cols.length cc1] 67) (heap3 hB1).2.2; have HV := heap_self9 w1 (.cells #[.slice sa1 x.slots.length sc1, .slice ca1 x.cols.length cc1] 67))
        | (go_at_call 41; (with_reducible refine (HF.out _ _ _ _ _ hva2 hBw).mono ?_); rintro e w2 ⟨rfl, hB2⟩; have hH2 := (hB2.block _ (Array.getElem?_eq_some_iff.1 hH).1).trans hH; obtain ⟨f0, f1, f2, f3⟩ := two_all hH2; have hBw2 := hBw.trans (hB2.mono hBw.size); have HV2 := (hB2.block _ (Array.getElem?_eq_some_iff.1 HV).1).trans HV; have v0 := at_heap (i := 0) HV2 rfl; have v1 := at_heap (i := 1) HV2 rfl))
      refine bodyPost_ret (results_cell_tmpS Tryz.results53 _ _ (w.heap.size + 1 + 1) _ _ _ _ rfl (step_out _ _ hH2 hBw2 (by omega)).1 Tryz.underlying67 rfl (by kernel_rfl)) rfl ?_
      unfold VerR
      rw [HX.out]
      refine ⟨⟨sa1, sc1, ca1, cc1, rfl, verFresh_mono (verFresh_set2' (verFresh_later hVF hB2.size fun c _ hl => hB2.block c hl) (by simp) _ _) (by simp; omega)⟩, (step_out _ _ hH2 hBw2 (by omega)).2⟩
    | false =>
      go_enter Tryz.func53, Tryz.ntmps53
      go_wp2_with (first
        | (go_at_call 62; (with_reducible refine H.out.mono ?_); rintro e w1 ⟨⟨sa1, sc1, ca1, cc1, rfl, hva⟩, hB1⟩; have hlt := Lib.hid hB1.size; have hVF := verFresh_later (w1 := w1.alloc (.cells #[.slice sa1 x.slots.length sc1, .slice ca1 x.cols.length cc1] 67)) hva (by simp) (fun c _ hl => ((Below.refl _ w1).alloc (Nat.le_refl _) _).block c hl); have hva2 := verFresh_at hVF; have hBw := (hBT.trans (hB1.mono hBT.size)).alloc (Nat.le_trans hBT.size hB1.size) (.cells #[.slice sa1 x.slots.length sc1, .slice ca1 x.cols.length cc1] 67); have hR := next_block (o' := .cells #[.slice sa1 x.slots.length sc1, .slice ca1 x.cols.length cc1] 67) (heap3 hB1).2.1; have r1 := at_heap (i := 1) hR rfl; have hH := next_block (o' := .cells #[.slice sa1 x.slots.length sc1, .slice ca1 x.cols.length cc1] 67) (heap3 hB1).2.2; have HV := heap_self9 w1 (.cells #[.slice sa1 x.slots.length sc1, .slice ca1 x.cols.length cc1] 67))
        | (go_at_call 41; (with_reducible refine (HF.out _ _ _ _ _ hva2 hBw).mono ?_); rintro e w2 ⟨rfl, hB2⟩; have hH2 := (hB2.block _ (Array.getElem?_eq_some_iff.1 hH).1).trans hH; obtain ⟨f0, f1, f2, f3⟩ := two_all hH2; have hBw2 := hBw.trans (hB2.mono hBw.size)))
      refine bodyPost_ret (results_cell_tmpS Tryz.results53 _ _ (w.heap.size + 1 + 1) _ _ _ _ rfl (step_out _ _ hH2 hBw2 (by omega)).1 Tryz.underlying67 rfl (by kernel_rfl)) rfl ?_
      unfold VerR
      rw [HX.out]
      exact ⟨⟨_, _, _, _, _, _, rfl⟩, (step_out _ _ hH2 hBw2 (by omega)).2⟩
end Go.Proofs.YtibjjclfonpibaaGreat

/- The program's records: what gather is handed by Make, Row and Set. -/
set_option linter.unusedVariables false
set_option linter.unusedSimpArgs false
set_option maxRecDepth 100000
namespace Go.Proofs.YtibjjclfonpibaaGreat
open Go.RowKit Go.Shelf
/-- the result's box behind two news and a reading call -/
theorem vat_two (W : World) (o : Obj) (k : Nat) : VAt (((W.alloc o).alloc (.cells vzero 42)).drewN k) (W.heap.size + 1) vzero := by
  have h := vat_below (below_drewN (Below.refl _ _) k) (vat_alloc (W.alloc o) vzero)
  rwa [World.size_alloc] at h
theorem is_set4 {W V : World} {b : Nat} {v : PV} {X : Value} (d0 d1 d2 d3 : Value) (h : Is W v X) (hV : Below W.heap.size W V) (hb : W.heap.size ≤ b) : Is ((((V.setCell ⟨b, 0, none⟩ d0).setCell ⟨b, 1, none⟩ d1).setCell ⟨b, 2, none⟩ d2).setCell ⟨b, 3, none⟩ d3) v X :=
  is_below (below_set4 hV hb _ _ _ _ _ _ _ _) _ _ h
set_option maxHeartbeats 4000000 in
/-- of each column the row's value, of slots that are no columns their default -/
theorem make1_any (x : Sc.Ver) (row : List PV) (n : Nat) (s : SlotM) (E : Value) (xb rb : Nat) (sa : Option Addr) (sc : Nat) (ca : Option Addr) (cc : Nat) (b : Option Addr) (d : Nat) (W : World) (v : PV) (hs : IsSlot W s E)
    (c1 : W.cell? ⟨xb, 1, none⟩ = some (.slice ca x.cols.length cc)) (c2 : W.cell? ⟨rb, 0, none⟩ = some (.slice b row.length d)) (hR : Row W .i64 ca x.cols.length cc (x.cols.map Int.ofNat)) (hP : PRow W b d row) (hlen : row.length = x.cols.length) (hsm : x.cols.length ≤ 1000)
    (hv : v = match Rc.ix x.cols n with | none => s.df | some c => row[c]?.getD Sc.nilV) :
    Calls Tryz.prog 39 #[.int .i64 (n : Int), E, .pointer (some ⟨xb, 0, none⟩), .pointer (some ⟨rb, 0, none⟩)] W fun e w' => (∃ X, e = .returned X ∧ Is w' v X) ∧ Below W.heap.size W w' := by
  obtain ⟨e0, e1, e2, e3, e4, e5, e6, rfl, h7⟩ := hs
  obtain ⟨k1, k2, rfl, rfl, rfl, hdf⟩ := h7
  obtain ⟨q3, q4, q5, ql, qn, qc, hq⟩ := is_form9 hdf
  simp only [Value.agg.injEq, Array.mk.injEq, List.cons.injEq, and_true] at hq
  obtain ⟨rfl, rfl, rfl, rfl⟩ := hq
  have hB1 := (Below.refl _ W).alloc (Nat.le_refl _) (.cells #[.string s.nm, .int .i64 s.ty, .bool s.rq, .int .i64 q3, .int .i64 q4, .string q5, .slice ql qn qc] 44)
  have hB2 := hB1.alloc hB1.size (.cells vzero 42)
  have hIx := indexI_any ca cc x.cols n _ (row_below hR hB2 rfl)
  have y1 := cell_below hB2 c1
  have y2 := cell_below hB2 c2
  have hVt := fun k => vat_two W (.cells #[.string s.nm, .int .i64 s.ty, .bool s.rq, .int .i64 q3, .int .i64 q4, .string q5, .slice ql qn qc] 44) k
  obtain ⟨m, hm⟩ : ∃ m, x.cols.length = m := ⟨_, rfl⟩
  rw [hm] at hIx y1 hsm
  rw [hlen, hm] at y2
  cases hx : Rc.ix x.cols n with
  | some c =>
    have hc := Rc.ix_lt hx
    rw [hm] at hc
    obtain ⟨y, hy⟩ : ∃ y, row[c]? = some y := ⟨row[c], List.getElem?_eq_getElem (by omega)⟩
    rw [hx] at hIx hv
    simp only [hy, Option.getD_some] at hv
    subst hv
    obtain ⟨pb, po, k, nn, tx, la, ll, lc, rfl, ⟨g0, g1, g2, g3⟩, hIs⟩ := pRow_val hP hy
    have z0 := cell_below hB2 g0
    have z1 := cell_below hB2 g1
    have z2 := cell_below hB2 g2
    have z3 := cell_below hB2 g3
    have hd : decide ((c : Int) ≥ 0) = true := by simp
    have hIs2 := is_below hB2 _ _ hIs
    have H := Lib.hid hIx; have HI := Lib.hid hIs; have HV := Lib.hid hVt
    clear hIx hIs hVt hR hP hlen hx hy g0 g1 g2 g3 hdf c1 c2 hm hIs2
    simp only [Rc.ixJ] at H
    go_enter Tryz.func39, Tryz.ntmps39
    go_wp2_with (go_at_call 40; (with_reducible refine H.out.mono ?_); rintro e w1 ⟨rfl, kk, rfl⟩; obtain ⟨⟨p0, p1, p2, p3⟩, f0, f1, f2, f3⟩ := box4 (HV.out kk))
    refine bodyPost_ret (results_cell_row Tryz.results39 _ _ (W.heap.size + 1) _ _ _ _ rfl (vat_set4 (HV.out kk) _ _ _ _) Tryz.underlying42 rfl val4) rfl ?_
    have hBk := below_drewN hB2 kk
    exact ⟨⟨_, rfl, is_set4 _ _ _ _ HI.out hBk (Nat.le_succ _)⟩, below_set4 hBk (Nat.le_succ _) _ _ _ _ _ _ _ _⟩
  | none =>
    rw [hx] at hIx hv
    subst hv
    have hd : decide ((-1 : Int) ≥ 0) = false := by decide
    have H := Lib.hid hIx; have HI := Lib.hid hdf; have HV := Lib.hid hVt
    clear hIx hVt hR hP hlen hx hdf c1 c2 hm
    simp only [Rc.ixJ] at H
    go_enter Tryz.func39, Tryz.ntmps39
    go_wp2_with (go_at_call 40; (with_reducible refine H.out.mono ?_); rintro e w1 ⟨rfl, kk, rfl⟩; obtain ⟨⟨p0, p1, p2, p3⟩, f0, f1, f2, f3⟩ := box4 (HV.out kk))
    refine bodyPost_ret (results_cell_row Tryz.results39 _ _ (W.heap.size + 1) _ _ _ _ rfl (vat_set4 (HV.out kk) _ _ _ _) Tryz.underlying42 rfl val4) rfl ?_
    have hBk := below_drewN hB2 kk
    exact ⟨⟨_, rfl, is_set4 _ _ _ _ HI.out hBk (Nat.le_succ _)⟩, below_set4 hBk (Nat.le_succ _) _ _ _ _ _ _ _ _⟩
set_option maxHeartbeats 4000000 in
theorem row1_any (l : List PV) (i n : Nat) (rb : Nat) (rv : Int) (b : Option Addr) (d : Nat) (W : World) (v : PV) (c1 : W.cell? ⟨rb, 1, none⟩ = some (.slice b l.length d)) (hP : PRow W b d l) (hl : l.length ≤ 100000) (hn : l[n]? = some v) :
    Calls Tryz.prog 57 #[.int .i64 (i : Int), .int .i64 (n : Int), .pointer (some ⟨rb, 0, none⟩)] W fun e w' => (∃ X, e = .returned X ∧ Is w' v X) ∧ Below W.heap.size W w' := by
  have hB1 := (Below.refl _ W).alloc (Nat.le_refl _) (.cells vzero 42)
  obtain ⟨pb, po, k, nn, tx, la, ll, lc, rfl, ⟨g0, g1, g2, g3⟩, hIs⟩ := pRow_val hP hn
  have hlt := (List.getElem?_eq_some_iff.1 hn).1
  obtain ⟨m, hm⟩ : ∃ m, l.length = m := ⟨_, rfl⟩
  rw [hm] at c1 hl hlt
  have hVt := vat_alloc W vzero
  obtain ⟨⟨p0, p1, p2, p3⟩, f0, f1, f2, f3⟩ := box4 hVt
  have y1 := cell_below hB1 c1
  have z0 := cell_below hB1 g0
  have z1 := cell_below hB1 g1
  have z2 := cell_below hB1 g2
  have z3 := cell_below hB1 g3
  have HI := Lib.hid hIs; have HV := Lib.hid hVt
  clear hIs hVt hP hn g0 g1 g2 g3 c1 hm
  go_enter Tryz.func57, Tryz.ntmps57
  go_wp2
  refine bodyPost_ret (results_cell_row Tryz.results57 _ _ W.heap.size _ _ _ _ rfl (vat_alloc W _) Tryz.underlying42 rfl val4) rfl ?_
  have hBz := (Below.refl _ W).alloc (Nat.le_refl _) (.cells #[.int .i64 k, .int .i64 nn, .string tx, .slice la ll lc] 42)
  exact ⟨⟨_, rfl, is_below hBz _ _ HI.out⟩, hBz⟩
set_option maxHeartbeats 4000000 in
theorem set1_any (slot n : Int) (had : PV) (new : PV) (E : Value) (sb vb : Nat) (Y0 Y1 Y2 Y3 : Value) (W : World) (v : PV) (hh : Is W had E) (hY : Is W new (.agg #[Y0, Y1, Y2, Y3]))
    (c0 : W.cell? ⟨sb, 0, none⟩ = some (.int .i64 slot)) (y0 : W.cell? ⟨vb, 0, none⟩ = some Y0) (y1 : W.cell? ⟨vb, 1, none⟩ = some Y1) (y2 : W.cell? ⟨vb, 2, none⟩ = some Y2) (y3 : W.cell? ⟨vb, 3, none⟩ = some Y3) (hv : v = if n = slot then new else had) :
    Calls Tryz.prog 56 #[.int .i64 n, E, .pointer (some ⟨sb, 0, none⟩), .pointer (some ⟨vb, 0, none⟩)] W fun e w' => (∃ X, e = .returned X ∧ Is w' v X) ∧ Below W.heap.size W w' := by
  obtain ⟨k, nn, tx, la, ll, lc, rfl⟩ := is_form9 hh
  obtain ⟨k', nn', tx', la', ll', lc', he⟩ := is_form9 hY
  simp only [Value.agg.injEq, Array.mk.injEq, List.cons.injEq, and_true] at he
  obtain ⟨rfl, rfl, rfl, rfl⟩ := he
  have hB1 := (Below.refl _ W).alloc (Nat.le_refl _) (.cells #[.int .i64 k, .int .i64 nn, .string tx, .slice la ll lc] 42)
  have hB2 := hB1.alloc hB1.size (.cells vzero 42)
  have hVt : VAt ((W.alloc (.cells #[.int .i64 k, .int .i64 nn, .string tx, .slice la ll lc] 42)).alloc (.cells vzero 42)) (W.heap.size + 1) vzero := by
    have h := vat_alloc (W.alloc (.cells #[.int .i64 k, .int .i64 nn, .string tx, .slice la ll lc] 42)) vzero
    rwa [World.size_alloc] at h
  obtain ⟨⟨p0, p1, p2, p3⟩, f0, f1, f2, f3⟩ := box4 hVt
  have hVc : ∀ cs, VAt ((W.alloc (.cells #[.int .i64 k, .int .i64 nn, .string tx, .slice la ll lc] 42)).alloc (.cells cs 42)) (W.heap.size + 1) cs := fun cs => by
    have h := vat_alloc (W.alloc (.cells #[.int .i64 k, .int .i64 nn, .string tx, .slice la ll lc] 42)) cs
    rwa [World.size_alloc] at h
  have hBc := fun cs => hB1.alloc hB1.size (.cells cs 42)
  have z := cell_below hB2 c0
  have z0 := cell_below hB2 y0
  have z1 := cell_below hB2 y1
  have z2 := cell_below hB2 y2
  have z3 := cell_below hB2 y3
  by_cases hs : n = slot
  · have hd : (n == slot) = true := by simpa using hs
    rw [if_pos hs] at hv
    subst hv
    have HI := Lib.hid hY; have HV := Lib.hid hVc; have HBc := Lib.hid hBc
    clear hY hh hVt hVc hBc c0 y0 y1 y2 y3 hs
    go_enter Tryz.func56, Tryz.ntmps56
    go_wp2
    refine bodyPost_ret (results_cell_row Tryz.results56 _ _ (W.heap.size + 1) _ _ _ _ rfl (HV.out _) Tryz.underlying42 rfl val4) rfl ?_
    exact ⟨⟨_, rfl, is_below (HBc.out _) _ _ HI.out⟩, HBc.out _⟩
  · have hd : (n == slot) = false := by simpa using hs
    rw [if_neg hs] at hv
    subst hv
    have HI := Lib.hid hh; have HV := Lib.hid hVc; have HBc := Lib.hid hBc; have HS := Lib.hid hs
    clear hY hh hVt hVc hBc c0 y0 y1 y2 y3 hs
    go_enter Tryz.func56, Tryz.ntmps56
    go_wp2
    refine bodyPost_ret (results_cell_row Tryz.results56 _ _ (W.heap.size + 1) _ _ _ _ rfl (HV.out _) Tryz.underlying42 rfl val4) rfl ?_
    exact ⟨⟨_, rfl, is_below (HBc.out _) _ _ HI.out⟩, HBc.out _⟩
end Go.Proofs.YtibjjclfonpibaaGreat
