/- The program's records: version. -/
import Derived.Test.YtibjjclfonpibaaGreatMh31Cast
import Derived.Test.YtibjjclfonpibaaGreatMh11Cast
import Derived.Test.YtibjjclfonpibaaGreatMh16Cast
import Derived.Test.YtibjjclfonpibaaGreatMh32Cast
set_option linter.unusedVariables false
set_option linter.unusedSimpArgs false
set_option maxRecDepth 100000
namespace Go.Proofs.YtibjjclfonpibaaGreat
open Go.RowKit Go.Shelf
/-- what version comes to -/
def VerR (w0 : World) (t : TemplM) (r : RecM) (e : Ending) (w' : World) : Prop := (match Rc.verR t r with
    | some x => ∃ sa sc ca cc, e = .returned (.tuple #[.agg #[.slice sa x.slots.length sc, .slice ca x.cols.length cc], .bool true]) ∧ VerFresh w0.heap.size w' x sa sc ca cc
    | none => ∃ sa n sc ca m cc, e = .returned (.tuple #[.agg #[.slice sa n sc, .slice ca m cc], .bool false])) ∧ Below w0.heap.size w0 w'
set_option maxHeartbeats 4000000 in
theorem version_any (t : TemplM) (r : RecM) (w : World) (X : Value) (b : Option Addr) (d : Nat) (hg : greatT t = false) (hI : I64 r.v) (hi : IsTempl w t X) (hr : PRow w b d r.s) (hsz : ∀ v ∈ r.s, szV v ≤ 1000000) (hsv : r.s.length ≤ 100000) :
    Calls Tryz.prog 53 #[X, .agg #[.int .i64 r.v, .slice b r.s.length d]] w (VerR w t r) := by
  have h0 := hi
  obtain ⟨h1, sa, sc, ta, tc, rfl, hsl, hst⟩ := hi
  obtain ⟨rv, rs⟩ := r
  simp only at hI hr hsz hsv ⊢
  have hBT := below3 w (.cells #[.string t.nm, .slice sa t.slots.length sc, .slice ta t.steps.length tc] 25) (.cells #[.int .i64 rv, .slice b rs.length d] 31) (.cells #[.slice none 0 0, .slice none 0 0] 67)
  have hb0 := fun W => build_ver0 W
  obtain ⟨m, hm⟩ : ∃ m, rs.length = m := ⟨_, rfl⟩
  cases hx : Rc.verOf t rv with
  | none =>
    have hno : Rc.verR t ⟨rv, rs⟩ = none := by unfold Rc.verR; simp only; rw [hx]
    have hA := atNo t rv _ _ hg (verOf_none hx) hI (isTempl_below hBT h0)
    rw [hm] at hA hBT ⊢
    have H := Lib.hid hA; have HX := Lib.hid hno
    clear hA hx h0 hsl hst hI hr hsz hsv hno hm
    go_enter Tryz.func53, Tryz.ntmps53
    go_wp2_with (first
      | (go_at_call 62; (with_reducible refine H.out.mono ?_); rintro e w1 ⟨⟨sa1, n1, sc1, ca1, m1, cc1, rfl⟩, hB1⟩; have hH := next_block (o' := .cells #[.slice sa1 n1 sc1, .slice ca1 m1 cc1] 67) (heap3 hB1).2.2; obtain ⟨f0, f1, f2, f3⟩ := two_all hH; have hBw := (hBT.trans (hB1.mono hBT.size)).alloc (Nat.le_trans hBT.size hB1.size) (.cells #[.slice sa1 n1 sc1, .slice ca1 m1 cc1] 67)))
    refine bodyPost_ret (results_cell_tmpS Tryz.results53 _ _ (w.heap.size + 1 + 1) _ _ _ _ rfl (step_out _ _ hH hBw (by omega)).1 Tryz.underlying67 rfl (by kernel_rfl)) rfl ?_
    unfold VerR
    rw [HX.out]
    exact ⟨⟨_, _, _, _, _, _, rfl⟩, (step_out _ _ hH hBw (by omega)).2⟩
  | some x =>
    obtain ⟨L, n, hv, hLn, rfl, hn9⟩ := verOf_some hx
    have hok := verOf_ok hx
    have hA := atF t L n x _ _ hg hv hLn (isTempl_below hBT h0)
    have hF := fun W sa sc ca cc hva (hb : Below w.heap.size w W) => fitR_any x sa sc ca cc rs b d W hva (pRow_below hb hr) (fun s hs => by have := (hok.ok s hs).1; omega) hsz (Nat.le_trans hok.num (by omega)) hsv
    obtain ⟨B, hB⟩ : ∃ B, Rc.fitL x.slots rs = B := ⟨_, rfl⟩
    have hans : Rc.verR t ⟨((n + 1 : Nat) : Int), rs⟩ = if B = true then some x else none := by unfold Rc.verR; simp only; rw [hx]; simp only; rw [hB]
    obtain ⟨N, hN⟩ : ∃ N, ((n + 1 : Nat) : Int) = N := ⟨_, rfl⟩
    rw [hB] at hF
    rw [hm] at hF hBT hA ⊢
    rw [hN] at hA hBT hans ⊢
    have H := Lib.hid hA; have HF := Lib.hid hF; have HX := Lib.hid hans
    clear hA hx h0 hsl hst hv hLn hN hI hF hr hsz hsv hok hB hans hm
    cases B with
    | true =>
      go_enter Tryz.func53, Tryz.ntmps53
      go_wp2_with (first
        | (go_at_call 62; (with_reducible refine H.out.mono ?_); rintro e w1 ⟨⟨sa1, sc1, ca1, cc1, rfl, hva⟩, hB1⟩; have hlt := Lib.hid hB1.size; have hVF := verFresh_later (w1 := w1.alloc (.cells #[.slice sa1 x.slots.length sc1, .slice ca1 x.cols.length cc1] 67)) hva (by simp) (fun c _ hl => ((Below.refl _ w1).alloc (Nat.le_refl _) _).block c hl); have hva2 := verFresh_at hVF; have hBw := (hBT.trans (hB1.mono hBT.size)).alloc (Nat.le_trans hBT.size hB1.size) (.cells #[.slice sa1 x.slots.length sc1, .slice ca1 x.cols.length cc1] 67); have hR := next_block (o' := .cells #[.slice sa1 x.slots.length sc1, .slice ca1 x.cols.length cc1] 67) (heap3 hB1).2.1; have r1 := at_heap (i := 1) hR rfl; have hH := next_block (o' := .cells #[.slice sa1 x.slots.length sc1, .slice ca1 x.cols.length cc1] 67) (heap3 hB1).2.2; have HV := heap_self9 w1 (.cells #[.slice sa1 x.slots.length sc1, .slice ca1 x.cols.length cc1] 67))
        | (go_at_call 41; (with_reducible refine (HF.out _ _ _ _ _ hva2 hBw).mono ?_); rintro e w2 ⟨rfl, hB2⟩; have hH2 := (hB2.block _ (Array.getElem?_eq_some_iff.1 hH).1).trans hH; obtain ⟨f0, f1, f2, f3⟩ := two_all hH2; have hBw2 := hBw.trans (hB2.mono hBw.size); have HV2 := (hB2.block _ (Array.getElem?_eq_some_iff.1 HV).1).trans HV; have v0 := at_heap (i := 0) HV2 rfl; have v1 := at_heap (i := 1) HV2 rfl))
      refine bodyPost_ret (results_cell_tmpS Tryz.results53 _ _ (w.heap.size + 1 + 1) _ _ _ _ rfl (step_out _ _ hH2 hBw2 (by omega)).1 Tryz.underlying67 rfl (by kernel_rfl)) rfl ?_
      unfold VerR
      rw [HX.out]
      refine ⟨⟨sa1, sc1, ca1, cc1, rfl, verFresh_mono (verFresh_set2' (verFresh_later hVF hB2.size fun c _ hl => hB2.block c hl) (by simp) _ _) (by simp; omega)⟩, (step_out _ _ hH2 hBw2 (by omega)).2⟩
    | false =>
      go_enter Tryz.func53, Tryz.ntmps53
      go_wp2_with (first
        | (go_at_call 62; (with_reducible refine H.out.mono ?_); rintro e w1 ⟨⟨sa1, sc1, ca1, cc1, rfl, hva⟩, hB1⟩; have hlt := Lib.hid hB1.size; have hVF := verFresh_later (w1 := w1.alloc (.cells #[.slice sa1 x.slots.length sc1, .slice ca1 x.cols.length cc1] 67)) hva (by simp) (fun c _ hl => ((Below.refl _ w1).alloc (Nat.le_refl _) _).block c hl); have hva2 := verFresh_at hVF; have hBw := (hBT.trans (hB1.mono hBT.size)).alloc (Nat.le_trans hBT.size hB1.size) (.cells #[.slice sa1 x.slots.length sc1, .slice ca1 x.cols.length cc1] 67); have hR := next_block (o' := .cells #[.slice sa1 x.slots.length sc1, .slice ca1 x.cols.length cc1] 67) (heap3 hB1).2.1; have r1 := at_heap (i := 1) hR rfl; have hH := next_block (o' := .cells #[.slice sa1 x.slots.length sc1, .slice ca1 x.cols.length cc1] 67) (heap3 hB1).2.2; have HV := heap_self9 w1 (.cells #[.slice sa1 x.slots.length sc1, .slice ca1 x.cols.length cc1] 67))
        | (go_at_call 41; (with_reducible refine (HF.out _ _ _ _ _ hva2 hBw).mono ?_); rintro e w2 ⟨rfl, hB2⟩; have hH2 := (hB2.block _ (Array.getElem?_eq_some_iff.1 hH).1).trans hH; obtain ⟨f0, f1, f2, f3⟩ := two_all hH2; have hBw2 := hBw.trans (hB2.mono hBw.size)))
      refine bodyPost_ret (results_cell_tmpS Tryz.results53 _ _ (w.heap.size + 1 + 1) _ _ _ _ rfl (step_out _ _ hH2 hBw2 (by omega)).1 Tryz.underlying67 rfl (by kernel_rfl)) rfl ?_
      unfold VerR
      rw [HX.out]
      exact ⟨⟨_, _, _, _, _, _, rfl⟩, (step_out _ _ hH2 hBw2 (by omega)).2⟩
end Go.Proofs.YtibjjclfonpibaaGreat

/- The program's records: Make. -/
set_option linter.unusedVariables false
set_option linter.unusedSimpArgs false
set_option maxRecDepth 100000
namespace Go.Proofs.YtibjjclfonpibaaGreat
open Go.RowKit Go.Shelf
theorem build_rec0 (w : World) : (Instr.build 31 #[]).run Tryz.prog w = .ok (.agg #[.int .i64 0, .slice none 0 0]) w := run_build w 31 _ _ (by kernel_rfl)
theorem build_rec2 (v : Int) (a : Option Addr) (n c : Nat) (w : World) : (Instr.build 31 #[(0, .int .i64 v), (1, .slice a n c)]).run Tryz.prog w = .ok (.agg #[.int .i64 v, .slice a n c]) w := run_build w 31 _ _ (by kernel_rfl)
theorem right_sz {v : PV} (h : rightV v = true) : szV v ≤ 1000000 := by
  unfold rightV at h
  simp only [Bool.and_eq_true, decide_eq_true_eq] at h
  omega
theorem step_outT {w V : World} {b : Nat} {z0 z1 : Value} {t : TypeId} (u0 u1 : Value) (h : V.heap[b]? = some (.cells #[z0, z1] t (0, 0))) (hB : Below w.heap.size w V) (hb : w.heap.size ≤ b) :
    ((V.setCell ⟨b, 0, none⟩ u0).setCell ⟨b, 1, none⟩ u1).heap[b]? = some (.cells #[u0, u1] t (0, 0)) ∧ Below w.heap.size w ((V.setCell ⟨b, 0, none⟩ u0).setCell ⟨b, 1, none⟩ u1) := by
  have hk1 := grown_set9 V b 0 u0
  have hk2 := grown_set9 (V.setCell ⟨b, 0, none⟩ u0) b 1 u1
  exact ⟨set_two9 h _ _, below_grown9 (below_grown9 hB hk1 (fun c e => by cases e; omega) hB.size) hk2 (fun c e => by cases e; omega) (Nat.le_trans hB.size hk1.size)⟩
end Go.Proofs.YtibjjclfonpibaaGreat

/- The program's records: Row, Valid, Same. -/
set_option linter.unusedVariables false
set_option linter.unusedSimpArgs false
set_option maxRecDepth 100000
namespace Go.Proofs.YtibjjclfonpibaaGreat
open Go.RowKit Go.Shelf
set_option maxHeartbeats 4000000 in
theorem rValid_any (t : TemplM) (r : RecM) (w : World) (X : Value) (b : Option Addr) (d : Nat) (hg : greatT t = false) (hI : I64 r.v) (hi : IsTempl w t X) (hr : PRow w b d r.s) (hsz : ∀ v ∈ r.s, szV v ≤ 1000000) (hsv : r.s.length ≤ 100000) :
    Calls Tryz.prog 33 #[X, .agg #[.int .i64 r.v, .slice b r.s.length d]] w fun e w' => e = .returned (.bool (Rc.verR t r).isSome) ∧ Below w.heap.size w w' := by
  have h0 := hi
  obtain ⟨h1, sa, sc, ta, tc, rfl, hsl, hst⟩ := hi
  have hBT := belowTwo w (.cells #[.string t.nm, .slice sa t.slots.length sc, .slice ta t.steps.length tc] 25) (.cells #[.int .i64 r.v, .slice b r.s.length d] 31)
  have hA := version_any t r _ _ b d hg hI (isTempl_below hBT h0) (pRow_below hBT hr) hsz hsv
  have hA2 : Calls Tryz.prog 53 #[.agg #[.string t.nm, .slice sa t.slots.length sc, .slice ta t.steps.length tc], .agg #[.int .i64 r.v, .slice b r.s.length d]] ((w.alloc (.cells #[.string t.nm, .slice sa t.slots.length sc, .slice ta t.steps.length tc] 25)).alloc (.cells #[.int .i64 r.v, .slice b r.s.length d] 31))
      fun e w' => (∃ sa n sc ca m cc, e = .returned (.tuple #[.agg #[.slice sa n sc, .slice ca m cc], .bool (Rc.verR t r).isSome])) ∧ Below ((w.alloc (.cells #[.string t.nm, .slice sa t.slots.length sc, .slice ta t.steps.length tc] 25)).alloc (.cells #[.int .i64 r.v, .slice b r.s.length d] 31)).heap.size ((w.alloc (.cells #[.string t.nm, .slice sa t.slots.length sc, .slice ta t.steps.length tc] 25)).alloc (.cells #[.int .i64 r.v, .slice b r.s.length d] 31)) w' := hA.mono fun e w' h => by
    unfold VerR at h
    refine ⟨?_, h.2⟩
    have h2 := h.1
    cases hx : Rc.verR t r with
    | none => rw [hx] at h2; exact h2
    | some x => rw [hx] at h2; obtain ⟨a, b, c, d, e, _⟩ := h2; exact ⟨_, _, _, _, _, _, e⟩
  obtain ⟨S, hS⟩ : ∃ S, (Rc.verR t r).isSome = S := ⟨_, rfl⟩
  rw [hS] at hA2 ⊢
  obtain ⟨rv, rs⟩ := r
  simp only at hA2 hBT ⊢
  obtain ⟨m, hm⟩ : ∃ m, rs.length = m := ⟨_, rfl⟩
  rw [hm] at hA2 hBT ⊢
  have H := Lib.hid hA2
  clear hA hA2 h0 hsl hst hI hr hsz hsv hm hS
  go_enter Tryz.func33, Tryz.ntmps33
  go_wp2_with (first
    | (go_at_call 53; (with_reducible refine H.out.mono ?_); rintro e w1 ⟨⟨sa1, n1, sc1, ca1, m1, cc1, rfl⟩, hB1⟩))
  go_ret
  first
    | exact ⟨rfl, hBT.trans (hB1.mono hBT.size)⟩
    | exact ⟨rfl, ((hBT.trans (hB1.mono hBT.size)).alloc (Nat.le_trans hBT.size hB1.size) _)⟩
end Go.Proofs.YtibjjclfonpibaaGreat
