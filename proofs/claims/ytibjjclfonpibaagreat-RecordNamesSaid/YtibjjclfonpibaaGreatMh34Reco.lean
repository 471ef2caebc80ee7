/- The program's records: Make. -/
import Derived.Test.YtibjjclfonpibaaGreatMh33Reco
set_option linter.unusedVariables false
set_option linter.unusedSimpArgs false
set_option maxRecDepth 100000
namespace Go.Proofs.YtibjjclfonpibaaGreat
open Go.RowKit Go.Shelf
theorem build_rec0 (w : World) : (Instr.build 31 #[]).run Tryz.prog w = .ok (.agg #[.int .i64 0, .slice none 0 0]) w := run_build w 31 _ _ (by kernel_rfl)
theorem build_rec2 (v : Int) (a : Option Addr) (n c : Nat) (w : World) : (Instr.build 31 #[(0, .int .i64 v), (1, .slice a n c)]).run Tryz.prog w = .ok (.agg #[.int .i64 v, .slice a n c]) w := run_build w 31 _ _ (by kernel_rfl)
theorem right_sz {v : PV} (h : rightV v = true) : szV v ≤ 1000000 := by
  unfold rightV at h
  simp only [Bool.and_eq_true, decide_eq_true_eq] at h
  omega
theorem step_outT {w V : World} {b : Nat} {z0 z1 : Value} {t : TypeId} (u0 u1 : Value) (h : V.heap[b]? = some (.cells #[z0, z1] t (0, 0))) (hB : Below w.heap.size w V) (hb : w.heap.size ≤ b) :
    ((V.setCell ⟨b, 0, none⟩ u0).setCell ⟨b, 1, none⟩ u1).heap[b]? = some (.cells #[u0, u1] t (0, 0)) ∧ Below w.heap.size w ((V.setCell ⟨b, 0, none⟩ u0).setCell ⟨b, 1, none⟩ u1) := by
  have hk1 := grown_set9 V b 0 u0
  have hk2 := grown_set9 (V.setCell ⟨b, 0, none⟩ u0) b 1 u1
  exact ⟨set_two9 h _ _, below_grown9 (below_grown9 hB hk1 (fun c e => by cases e; omega) hB.size) hk2 (fun c e => by cases e; omega) (Nat.le_trans hB.size hk1.size)⟩
theorem made_mono {B B' : Nat} {w : World} {vs : List PV} {X : Value} (h : Made B w vs X) (hb : B' ≤ B) : Made B' w vs X := by
  obtain ⟨g, C, e, hg, r⟩ := h
  exact ⟨g, C, e, Nat.le_trans hb hg, r⟩
theorem made_set2 {B b : Nat} {w : World} {vs : List PV} {X : Value} (h : Made B w vs X) (hb : b < B) (u0 u1 : Value) : Made B ((w.setCell ⟨b, 0, none⟩ u0).setCell ⟨b, 1, none⟩ u1) vs X := by
  have h1 := fun (W : World) (i : Nat) (u : Value) => (grown_set9 W b i u).size
  refine made_later h (Nat.le_trans (h1 _ 0 u0) (h1 _ 1 u1)) fun c hc hl => ?_
  rw [Below.heap_setCell _ ⟨b, 1, none⟩ u1 c (by show c ≠ b; omega), Below.heap_setCell _ ⟨b, 0, none⟩ u0 c (by show c ≠ b; omega)]
/-- what Make comes to -/
def MakeR (w0 : World) (m : RecM × Int) (e : Ending) (w' : World) : Prop := (∃ S, e = .returned (.tuple #[.agg #[.int .i64 m.1.v, S], .int .i64 m.2]) ∧ (m.2 = 0 → Made w0.heap.size w' m.1.s S) ∧ (m.2 ≠ 0 → S = .slice none 0 0)) ∧ Below w0.heap.size w0 w'
theorem makeR_no {w V : World} {b : Nat} {z0 z1 : Value} {e : Ending} {E : Int} {m : RecM × Int} (hm : m = (⟨0, []⟩, E)) (hE : E ≠ 0) (h : V.heap[b]? = some (.cells #[z0, z1] 31 (0, 0))) (hB : Below w.heap.size w V) (hb : w.heap.size ≤ b) (he : e = .returned (.tuple #[.agg #[.int .i64 0, .slice none 0 0], .int .i64 E])) :
    MakeR w m e ((V.setCell ⟨b, 0, none⟩ (.int .i64 0)).setCell ⟨b, 1, none⟩ (.slice none 0 0)) := by
  subst hm
  exact ⟨⟨_, he, fun h => absurd h hE, fun _ => rfl⟩, (step_outT _ _ h hB hb).2⟩
set_option maxHeartbeats 8000000 in
theorem rMake_any (t : TemplM) (v : Int) (row : List PV) (w : World) (X : Value) (b : Option Addr) (d : Nat) (hg : greatT t = false) (hI : I64 v) (hi : IsTempl w t X) (hr : PRow w b d row) (hsz : ∀ v ∈ row, szV v ≤ 1000000) (hsm : ∀ v ∈ row, small v) (hsv : row.length ≤ 100000) :
    Calls Tryz.prog 12 #[X, .int .i64 v, .slice b row.length d] w (MakeR w (Rc.make t v row)) := by
  have h0 := hi
  obtain ⟨h1, sa, sc, ta, tc, rfl, hsl, hst⟩ := hi
  have hb0 := build_rec0
  have hb2 := build_rec2
  have hmf : ∀ (fn : Fn) (first cap : Array Value) (w : World), (Instr.makeFunc fn first cap).run Tryz.prog w = .ok (.func fn first cap) w := fun _ _ _ _ => rfl
  obtain ⟨rl, hrl⟩ : ∃ rl, row.length = rl := ⟨_, rfl⟩
  have hBT := below3 w (.cells #[.string t.nm, .slice sa t.slots.length sc, .slice ta t.steps.length tc] 25) (.cells #[.slice b rl d] 26) (.cells #[.int .i64 0, .slice none 0 0] 31)
  have hA := rAt_any t v _ _ hg hI (isTempl_below hBT h0)
  have HRL := Lib.hid hrl
  unfold AtR at hA
  cases hx : Rc.verOf t v with
  | none =>
    have hans : Rc.make t v row = (⟨0, []⟩, if (Sc.vers t).isSome then 7 else 1) := by unfold Rc.make; rw [hx]
    rw [hx] at hA
    rw [hrl]
    simp only at hA
    obtain ⟨S, hS⟩ : ∃ S, (Sc.vers t).isSome = S := ⟨_, rfl⟩
    rw [hS] at hA hans
    have H := Lib.hid hA; have HX := Lib.hid hans
    clear hA hx h0 hsl hst hI hr hsz hsv hsm hans hS hrl
    cases S with
    | true =>
      simp only [if_true] at H HX
      go_enter Tryz.func12, Tryz.ntmps12
      go_wp2_with (first
        | (go_at_call 37; (with_reducible refine H.out.mono ?_); rintro e w1 ⟨⟨sa1, n1, sc1, ca1, m1, cc1, rfl⟩, hB1⟩; have hH := next_block (o' := .cells #[.slice sa1 n1 sc1, .slice ca1 m1 cc1] 67) (heap3 hB1).2.2; obtain ⟨f0, f1, f2, f3⟩ := two_all hH; have hBw := (hBT.trans (hB1.mono hBT.size)).alloc (Nat.le_trans hBT.size hB1.size) (.cells #[.slice sa1 n1 sc1, .slice ca1 m1 cc1] 67)))
      refine bodyPost_ret (results_cell_tmpS Tryz.results12 _ _ (w.heap.size + 1 + 1) _ _ _ _ rfl (step_outT _ _ hH hBw (by omega)).1 Tryz.underlying31 rfl (by kernel_rfl)) rfl ?_
      exact makeR_no HX.out (by decide) hH hBw (by omega) rfl
    | false =>
      simp only [Bool.false_eq_true, if_false] at H HX
      go_enter Tryz.func12, Tryz.ntmps12
      go_wp2_with (first
        | (go_at_call 37; (with_reducible refine H.out.mono ?_); rintro e w1 ⟨⟨sa1, n1, sc1, ca1, m1, cc1, rfl⟩, hB1⟩; have hH := next_block (o' := .cells #[.slice sa1 n1 sc1, .slice ca1 m1 cc1] 67) (heap3 hB1).2.2; obtain ⟨f0, f1, f2, f3⟩ := two_all hH; have hBw := (hBT.trans (hB1.mono hBT.size)).alloc (Nat.le_trans hBT.size hB1.size) (.cells #[.slice sa1 n1 sc1, .slice ca1 m1 cc1] 67)))
      refine bodyPost_ret (results_cell_tmpS Tryz.results12 _ _ (w.heap.size + 1 + 1) _ _ _ _ rfl (step_outT _ _ hH hBw (by omega)).1 Tryz.underlying31 rfl (by kernel_rfl)) rfl ?_
      exact makeR_no HX.out (by decide) hH hBw (by omega) rfl
  | some x =>
    have hok := verOf_ok hx
    rw [hx] at hA
    simp only at hA
    by_cases hlen : row.length = x.cols.length
    · obtain ⟨B, hB⟩ : ∃ B, Rc.fitL x.slots (Rc.made x row) = B := ⟨_, rfl⟩
      have hans : Rc.make t v row = if B = true then (⟨v, Rc.made x row⟩, 0) else (⟨0, []⟩, 8) := by unfold Rc.make; rw [hx]; simp only; rw [if_neg (by simpa using hlen), hB]
      have hel : ∀ y ∈ Rc.made x row, small y ∧ szV y ≤ 1000000 := fun y hy => by
        obtain ⟨i, hi⟩ := List.mem_iff_getElem?.1 hy
        have hlt := (List.getElem?_eq_some_iff.1 hi).1
        rw [Rc.made_length] at hlt
        rw [Rc.made_at hlt] at hi
        simp only [Option.some.injEq] at hi
        subst hi
        cases hix : Rc.ix x.cols i with
        | none =>
          simp only
          have := (hok.ok (Sc.slotOf x i) (by unfold Sc.slotOf; rw [List.getElem?_eq_getElem hlt]; exact List.getElem_mem _)).2.2
          exact ⟨right_small this, right_sz this⟩
        | some c =>
          simp only
          have hc := Rc.ix_lt hix
          rw [List.getElem?_eq_getElem (by omega)]
          exact ⟨hsm _ (List.getElem_mem _), hsz _ (List.getElem_mem _)⟩
      have hG := fun (xb : Nat) (sa1 : Option Addr) (sc1 : Nat) (ca1 : Option Addr) (cc1 : Nat) (W2 : World) (hw : Below w.heap.size w W2) (hva : VerAt W2 x sa1 sc1 ca1 cc1) (k1 : W2.cell? ⟨xb, 1, none⟩ = some (.slice ca1 x.cols.length cc1)) (k2 : W2.cell? ⟨w.heap.size + 1, 0, none⟩ = some (.slice b row.length d)) =>
        gatherS_any sa1 sc1 x.slots (Rc.made x row) 39 #[.pointer (some ⟨xb, 0, none⟩), .pointer (some ⟨w.heap.size + 1, 0, none⟩)] W2 hva.1 (Rc.made_length x row) (Nat.le_trans hok.num (by omega)) (fun y hy => (hel y hy).1) (enters_of Tryz.func39 (by kernel_rfl) rfl)
          (fun i s y E W hs hy hb hE => make1_any x row i s E xb (w.heap.size + 1) sa1 sc1 ca1 cc1 b d W y hE (cell_below hb k1) (cell_below hb k2) (row_below hva.2 hb rfl) (pRow_below (hw.trans (hb.mono hw.size)) hr) hlen (Nat.le_trans hok.len (by omega)) (by
            have hlt := (List.getElem?_eq_some_iff.1 hs).1
            rw [Rc.made_at hlt] at hy
            simp only [Option.some.injEq] at hy
            rw [← hy]
            unfold Sc.slotOf
            rw [hs]
            rfl))
      have hF := fun W sa sc ca cc bb (hva : VerAt W x sa sc ca cc) (hp : PRow W bb (Rc.made x row).length (Rc.made x row)) => fitR_any x sa sc ca cc (Rc.made x row) bb _ W hva hp (fun s hs => by have := (hok.ok s hs).1; omega) (fun y hy => (hel y hy).2) (Nat.le_trans hok.num (by omega)) (by rw [Rc.made_length]; exact Nat.le_trans hok.num (by omega))
      have hml : (Rc.made x row).length ≤ 1000000 := by rw [Rc.made_length]; exact Nat.le_trans hok.num (by omega)
      obtain ⟨vs, hvs⟩ : ∃ vs, Rc.made x row = vs := ⟨_, rfl⟩
      rw [hvs] at hG hF hans hml hB
      rw [hB] at hF
      obtain ⟨m, hm⟩ : ∃ m, vs.length = m := ⟨_, rfl⟩
      obtain ⟨cl, hcl⟩ : ∃ cl, x.cols.length = cl := ⟨_, rfl⟩
      have hrc : rl = cl := by rw [← hrl, hlen, hcl]
      rw [hcl] at hA hG hF
      rw [hlen, hcl] at hG
      rw [hrl]
      rw [hrc] at hBT hA ⊢
      have hne : ((cl : Int) != (cl : Int)) = false := by simp
      rw [hm] at hF
      have H := Lib.hid hA; have HX := Lib.hid hans; have HG := Lib.hid hG; have HF := Lib.hid hF; have HM := Lib.hid hm; have HML := Lib.hid hml
      clear hA hx h0 hsl hst hI hr hsz hsv hsm hans hrl hlen hok hel hG hF hvs hB hm hml hcl hrc HRL
      cases B with
      | true =>
        simp only [if_true] at HX
        go_enter Tryz.func12, Tryz.ntmps12
        go_wp2_with (first
          | (go_at_call 37; (with_reducible refine H.out.mono ?_); rintro e w1 ⟨⟨sa1, sc1, ca1, cc1, rfl, hva⟩, hB1⟩; have hlt := Lib.hid hB1.size; have hVF := verFresh_later (w1 := w1.alloc (.cells #[.slice sa1 x.slots.length sc1, .slice ca1 cl cc1] 67)) hva (by simp) (fun c _ hl => ((Below.refl _ w1).alloc (Nat.le_refl _) _).block c hl); have hva2 := verFresh_at hVF; have hBw := (hBT.trans (hB1.mono hBT.size)).alloc (Nat.le_trans hBT.size hB1.size) (.cells #[.slice sa1 x.slots.length sc1, .slice ca1 cl cc1] 67); have hR := next_block (o' := .cells #[.slice sa1 x.slots.length sc1, .slice ca1 cl cc1] 67) (heap3 hB1).2.1; have r1 := at_heap (i := 0) (v := .slice b cl d) hR rfl; have hH := next_block (o' := .cells #[.slice sa1 x.slots.length sc1, .slice ca1 cl cc1] 67) (heap3 hB1).2.2; have HV := heap_self9 w1 (.cells #[.slice sa1 x.slots.length sc1, .slice ca1 cl cc1] 67); have k1 := at_heap (i := 1) (v := .slice ca1 cl cc1) HV rfl)
          | (go_at_call 38; (with_reducible refine (HG.out _ _ _ _ _ _ hBw hva2 k1 r1).mono ?_); rintro e w2 ⟨⟨S, rfl, hMd⟩, hB2⟩; obtain ⟨gg, rfl, hgg, hpr⟩ := made_row hMd HML.out (fun _ _ _ => rfl); rw [HM.out] at hpr ⊢; have hBw2 := hBw.trans (hB2.mono hBw.size); have hva3 := verAt_below hva2 hB2; have HV2 := (hB2.block _ (Array.getElem?_eq_some_iff.1 HV).1).trans HV; have v0 := at_heap (i := 0) HV2 rfl; have v1 := at_heap (i := 1) HV2 rfl)
          | (go_at_call 41; (with_reducible refine (HF.out _ _ _ _ _ _ hva3 hpr).mono ?_); rintro e w3 ⟨rfl, hB3⟩; have hH3 := (hB3.block _ (Nat.lt_of_lt_of_le (Array.getElem?_eq_some_iff.1 hH).1 hB2.size)).trans ((hB2.block _ (Array.getElem?_eq_some_iff.1 hH).1).trans hH); obtain ⟨f0, f1, f2, f3⟩ := two_all hH3; have hBw3 := hBw2.trans (hB3.mono hBw2.size)))
        refine bodyPost_ret (results_cell_tmpS Tryz.results12 _ _ (w.heap.size + 1 + 1) _ _ _ _ rfl (step_outT _ _ hH3 hBw3 (by omega)).1 Tryz.underlying31 rfl (by kernel_rfl)) rfl ?_
        rw [HX.out]
        refine ⟨⟨_, rfl, fun _ => ?_, fun h => absurd rfl h⟩, (step_outT _ _ hH3 hBw3 (by omega)).2⟩
        have hMd3 := made_set2 (b := w.heap.size + 1 + 1) (made_below hMd hB3) (by have := (Array.getElem?_eq_some_iff.1 hH).1; exact this) (.int .i64 v) (.slice (some ⟨gg, 0, none⟩) m m)
        rw [HM.out] at hMd3
        exact made_mono hMd3 hBw.size
      | false =>
        simp only [Bool.false_eq_true, if_false] at HX
        go_enter Tryz.func12, Tryz.ntmps12
        go_wp2_with (first
          | (go_at_call 37; (with_reducible refine H.out.mono ?_); rintro e w1 ⟨⟨sa1, sc1, ca1, cc1, rfl, hva⟩, hB1⟩; have hlt := Lib.hid hB1.size; have hVF := verFresh_later (w1 := w1.alloc (.cells #[.slice sa1 x.slots.length sc1, .slice ca1 cl cc1] 67)) hva (by simp) (fun c _ hl => ((Below.refl _ w1).alloc (Nat.le_refl _) _).block c hl); have hva2 := verFresh_at hVF; have hBw := (hBT.trans (hB1.mono hBT.size)).alloc (Nat.le_trans hBT.size hB1.size) (.cells #[.slice sa1 x.slots.length sc1, .slice ca1 cl cc1] 67); have hR := next_block (o' := .cells #[.slice sa1 x.slots.length sc1, .slice ca1 cl cc1] 67) (heap3 hB1).2.1; have r1 := at_heap (i := 0) (v := .slice b cl d) hR rfl; have hH := next_block (o' := .cells #[.slice sa1 x.slots.length sc1, .slice ca1 cl cc1] 67) (heap3 hB1).2.2; have HV := heap_self9 w1 (.cells #[.slice sa1 x.slots.length sc1, .slice ca1 cl cc1] 67); have k1 := at_heap (i := 1) (v := .slice ca1 cl cc1) HV rfl)
          | (go_at_call 38; (with_reducible refine (HG.out _ _ _ _ _ _ hBw hva2 k1 r1).mono ?_); rintro e w2 ⟨⟨S, rfl, hMd⟩, hB2⟩; obtain ⟨gg, rfl, hgg, hpr⟩ := made_row hMd HML.out (fun _ _ _ => rfl); rw [HM.out] at hpr ⊢; have hBw2 := hBw.trans (hB2.mono hBw.size); have hva3 := verAt_below hva2 hB2; have HV2 := (hB2.block _ (Array.getElem?_eq_some_iff.1 HV).1).trans HV; have v0 := at_heap (i := 0) HV2 rfl; have v1 := at_heap (i := 1) HV2 rfl)
          | (go_at_call 41; (with_reducible refine (HF.out _ _ _ _ _ _ hva3 hpr).mono ?_); rintro e w3 ⟨rfl, hB3⟩; have hH3 := (hB3.block _ (Nat.lt_of_lt_of_le (Array.getElem?_eq_some_iff.1 hH).1 hB2.size)).trans ((hB2.block _ (Array.getElem?_eq_some_iff.1 hH).1).trans hH); obtain ⟨f0, f1, f2, f3⟩ := two_all hH3; have hBw3 := hBw2.trans (hB3.mono hBw2.size)))
        refine bodyPost_ret (results_cell_tmpS Tryz.results12 _ _ (w.heap.size + 1 + 1) _ _ _ _ rfl (step_outT _ _ hH3 hBw3 (by omega)).1 Tryz.underlying31 rfl (by kernel_rfl)) rfl ?_
        exact makeR_no HX.out (by decide) hH3 hBw3 (by omega) rfl
    · have hans : Rc.make t v row = (⟨0, []⟩, 1) := by unfold Rc.make; rw [hx]; simp only; rw [if_pos hlen]
      obtain ⟨cl, hcl⟩ : ∃ cl, x.cols.length = cl := ⟨_, rfl⟩
      have hne : ((rl : Int) != (cl : Int)) = true := by simp only [bne_iff_ne, ne_eq]; omega
      rw [hcl] at hA
      rw [hrl]
      have H := Lib.hid hA; have HX := Lib.hid hans
      clear hA hx h0 hsl hst hI hr hsz hsv hsm hans hrl hlen hok hcl
      go_enter Tryz.func12, Tryz.ntmps12
      go_wp2_with (first
        | (go_at_call 37; (with_reducible refine H.out.mono ?_); rintro e w1 ⟨⟨sa1, sc1, ca1, cc1, rfl, hva⟩, hB1⟩; have hH := next_block (o' := .cells #[.slice sa1 x.slots.length sc1, .slice ca1 cl cc1] 67) (heap3 hB1).2.2; obtain ⟨f0, f1, f2, f3⟩ := two_all hH; have hBw := (hBT.trans (hB1.mono hBT.size)).alloc (Nat.le_trans hBT.size hB1.size) (.cells #[.slice sa1 x.slots.length sc1, .slice ca1 cl cc1] 67); have hR := next_block (o' := .cells #[.slice sa1 x.slots.length sc1, .slice ca1 cl cc1] 67) (heap3 hB1).2.1; have r1 := at_heap (i := 0) (v := .slice b rl d) hR rfl))
      refine bodyPost_ret (results_cell_tmpS Tryz.results12 _ _ (w.heap.size + 1 + 1) _ _ _ _ rfl (step_outT _ _ hH hBw (by omega)).1 Tryz.underlying31 rfl (by kernel_rfl)) rfl ?_
      exact makeR_no HX.out (by decide) hH hBw (by omega) rfl
end Go.Proofs.YtibjjclfonpibaaGreat

/- The program's records: Row, Valid, Same. -/
set_option linter.unusedVariables false
set_option linter.unusedSimpArgs false
set_option maxRecDepth 100000
namespace Go.Proofs.YtibjjclfonpibaaGreat
open Go.RowKit Go.Shelf
/-- what Row comes to -/
def RowR (w0 : World) (t : TemplM) (r : RecM) (e : Ending) (w' : World) : Prop := (match Rc.verR t r with
    | some x => ∃ S, e = .returned S ∧ Made w0.heap.size w' (Rc.rowOf x r.s) S
    | none => e = .returned (.slice none 0 0)) ∧ Below w0.heap.size w0 w'
theorem verR_some {t : TemplM} {r : RecM} {x : Sc.Ver} (h : Rc.verR t r = some x) : Rc.verOf t r.v = some x ∧ Rc.fitL x.slots r.s = true := by
  unfold Rc.verR at h
  cases hv : Rc.verOf t r.v with
  | none => rw [hv] at h; cases h
  | some y =>
    rw [hv] at h
    simp only at h
    split at h
    · rename_i hf
      cases h
      exact ⟨rfl, hf⟩
    · cases h
set_option maxHeartbeats 8000000 in
theorem rRow_any (t : TemplM) (r : RecM) (w : World) (X : Value) (b : Option Addr) (d : Nat) (hg : greatT t = false) (hI : I64 r.v) (hi : IsTempl w t X) (hr : PRow w b d r.s) (hsz : ∀ v ∈ r.s, szV v ≤ 1000000) (hsv : r.s.length ≤ 100000) :
    Calls Tryz.prog 34 #[X, .agg #[.int .i64 r.v, .slice b r.s.length d]] w (RowR w t r) := by
  have h0 := hi
  obtain ⟨h1, sa, sc, ta, tc, rfl, hsl, hst⟩ := hi
  have hmf : ∀ (fn : Fn) (first cap : Array Value) (w : World), (Instr.makeFunc fn first cap).run Tryz.prog w = .ok (.func fn first cap) w := fun _ _ _ _ => rfl
  have hBT := belowTwo w (.cells #[.string t.nm, .slice sa t.slots.length sc, .slice ta t.steps.length tc] 25) (.cells #[.int .i64 r.v, .slice b r.s.length d] 31)
  have hA := version_any t r _ _ b d hg hI (isTempl_below hBT h0) (pRow_below hBT hr) hsz hsv
  unfold VerR at hA
  unfold RowR
  cases hx : Rc.verR t r with
  | none =>
    rw [hx] at hA
    simp only at hA ⊢
    obtain ⟨rv, rs⟩ := r
    simp only at hA hBT ⊢
    obtain ⟨m, hm⟩ : ∃ m, rs.length = m := ⟨_, rfl⟩
    rw [hm] at hA hBT ⊢
    have H := Lib.hid hA
    clear hA hx h0 hsl hst hI hr hsz hsv hm
    go_enter Tryz.func34, Tryz.ntmps34
    go_wp2_with (first
      | (go_at_call 53; (with_reducible refine H.out.mono ?_); rintro e w1 ⟨⟨sa1, n1, sc1, ca1, m1, cc1, rfl⟩, hB1⟩; have hBw := (hBT.trans (hB1.mono hBT.size)).alloc (Nat.le_trans hBT.size hB1.size) (.cells #[.slice sa1 n1 sc1, .slice ca1 m1 cc1] 67)))
    go_ret
    exact ⟨rfl, hBw⟩
  | some x =>
    obtain ⟨hxo, hfit⟩ := verR_some hx
    have hok := verOf_ok hxo
    rw [hx] at hA
    simp only at hA ⊢
    have hfl := Rc.fitL_len hfit
    have hG := fun (sa1 : Option Addr) (sc1 : Nat) (ca1 : Option Addr) (cc1 : Nat) (W2 : World) (hw : Below w.heap.size w W2) (hva : VerAt W2 x sa1 sc1 ca1 cc1) (k2 : W2.cell? ⟨w.heap.size + 1, 1, none⟩ = some (.slice b r.s.length d)) =>
      gatherI_any ca1 cc1 x.cols (Rc.rowOf x r.s) 57 #[.pointer (some ⟨w.heap.size + 1, 0, none⟩)] W2 hva.2 (Rc.rowOf_length x r.s) (Nat.le_trans hok.len (by omega)) (fun y hy => by
          unfold Rc.rowOf at hy
          obtain ⟨c, hc, rfl⟩ := List.mem_map.1 hy
          have := hok.lt c hc
          rw [List.getElem?_eq_getElem (by omega)]
          exact right_small (Rc.fitL_right hfit _ (List.getElem_mem _))) (enters_of Tryz.func57 (by kernel_rfl) rfl)
        (fun i c y W hs hy hb => row1_any r.s i c (w.heap.size + 1) 0 b d W y (cell_below hb k2) (pRow_below (hw.trans (hb.mono hw.size)) hr) hsv (by
          unfold Rc.rowOf at hy
          rw [List.getElem?_map, hs] at hy
          simp only [Option.map_some, Option.some.injEq] at hy
          rw [← hy]
          have := hok.lt c (List.mem_of_getElem? hs)
          rw [List.getElem?_eq_getElem (by omega)]
          rfl))
    obtain ⟨rv, rs⟩ := r
    simp only at hA hBT hG ⊢
    obtain ⟨m, hm⟩ : ∃ m, rs.length = m := ⟨_, rfl⟩
    obtain ⟨vs, hvs⟩ : ∃ vs, Rc.rowOf x rs = vs := ⟨_, rfl⟩
    obtain ⟨cl, hcl⟩ : ∃ cl, x.cols.length = cl := ⟨_, rfl⟩
    rw [hm] at hA hBT hG ⊢
    rw [hvs] at hG ⊢
    rw [hcl] at hA hG
    have H := Lib.hid hA; have HG := Lib.hid hG
    clear hA hx h0 hsl hst hI hr hsz hsv hm hG hvs hcl hfl hok hfit hxo
    go_enter Tryz.func34, Tryz.ntmps34
    go_wp2_with (first
      | (go_at_call 53; (with_reducible refine H.out.mono ?_); rintro e w1 ⟨⟨sa1, sc1, ca1, cc1, rfl, hva⟩, hB1⟩; have hVF := verFresh_later (w1 := w1.alloc (.cells #[.slice sa1 x.slots.length sc1, .slice ca1 cl cc1] 67)) hva (by simp) (fun c _ hl => ((Below.refl _ w1).alloc (Nat.le_refl _) _).block c hl); have hva2 := verFresh_at hVF; have hBw := (hBT.trans (hB1.mono hBT.size)).alloc (Nat.le_trans hBT.size hB1.size) (.cells #[.slice sa1 x.slots.length sc1, .slice ca1 cl cc1] 67); have hR := next_block (o' := .cells #[.slice sa1 x.slots.length sc1, .slice ca1 cl cc1] 67) (res2 hB1); have r1 := at_heap (i := 1) (v := .slice b m d) hR rfl)
      | (go_at_call 45; (with_reducible refine (HG.out _ _ _ _ _ hBw hva2 r1).mono ?_); rintro e w2 ⟨⟨S, rfl, hMd⟩, hB2⟩))
    go_ret
    exact ⟨⟨_, rfl, made_mono hMd hBw.size⟩, hBw.trans (hB2.mono hBw.size)⟩
set_option maxHeartbeats 4000000 in
theorem rValid_any (t : TemplM) (r : RecM) (w : World) (X : Value) (b : Option Addr) (d : Nat) (hg : greatT t = false) (hI : I64 r.v) (hi : IsTempl w t X) (hr : PRow w b d r.s) (hsz : ∀ v ∈ r.s, szV v ≤ 1000000) (hsv : r.s.length ≤ 100000) :
    Calls Tryz.prog 33 #[X, .agg #[.int .i64 r.v, .slice b r.s.length d]] w fun e w' => e = .returned (.bool (Rc.verR t r).isSome) ∧ Below w.heap.size w w' := by
  have h0 := hi
  obtain ⟨h1, sa, sc, ta, tc, rfl, hsl, hst⟩ := hi
  have hBT := belowTwo w (.cells #[.string t.nm, .slice sa t.slots.length sc, .slice ta t.steps.length tc] 25) (.cells #[.int .i64 r.v, .slice b r.s.length d] 31)
  have hA := version_any t r _ _ b d hg hI (isTempl_below hBT h0) (pRow_below hBT hr) hsz hsv
  have hA2 : Calls Tryz.prog 53 #[.agg #[.string t.nm, .slice sa t.slots.length sc, .slice ta t.steps.length tc], .agg #[.int .i64 r.v, .slice b r.s.length d]] ((w.alloc (.cells #[.string t.nm, .slice sa t.slots.length sc, .slice ta t.steps.length tc] 25)).alloc (.cells #[.int .i64 r.v, .slice b r.s.length d] 31))
      fun e w' => (∃ sa n sc ca m cc, e = .returned (.tuple #[.agg #[.slice sa n sc, .slice ca m cc], .bool (Rc.verR t r).isSome])) ∧ Below ((w.alloc (.cells #[.string t.nm, .slice sa t.slots.length sc, .slice ta t.steps.length tc] 25)).alloc (.cells #[.int .i64 r.v, .slice b r.s.length d] 31)).heap.size ((w.alloc (.cells #[.string t.nm, .slice sa t.slots.length sc, .slice ta t.steps.length tc] 25)).alloc (.cells #[.int .i64 r.v, .slice b r.s.length d] 31)) w' := hA.mono fun e w' h => by
    unfold VerR at h
    refine ⟨?_, h.2⟩
    have h2 := h.1
    cases hx : Rc.verR t r with
    | none => rw [hx] at h2; exact h2
    | some x => rw [hx] at h2; obtain ⟨a, b, c, d, e, _⟩ := h2; exact ⟨_, _, _, _, _, _, e⟩
  obtain ⟨S, hS⟩ : ∃ S, (Rc.verR t r).isSome = S := ⟨_, rfl⟩
  rw [hS] at hA2 ⊢
  obtain ⟨rv, rs⟩ := r
  simp only at hA2 hBT ⊢
  obtain ⟨m, hm⟩ : ∃ m, rs.length = m := ⟨_, rfl⟩
  rw [hm] at hA2 hBT ⊢
  have H := Lib.hid hA2
  clear hA hA2 h0 hsl hst hI hr hsz hsv hm hS
  go_enter Tryz.func33, Tryz.ntmps33
  go_wp2_with (first
    | (go_at_call 53; (with_reducible refine H.out.mono ?_); rintro e w1 ⟨⟨sa1, n1, sc1, ca1, m1, cc1, rfl⟩, hB1⟩))
  go_ret
  first
    | exact ⟨rfl, hBT.trans (hB1.mono hBT.size)⟩
    | exact ⟨rfl, ((hBT.trans (hB1.mono hBT.size)).alloc (Nat.le_trans hBT.size hB1.size) _)⟩
end Go.Proofs.YtibjjclfonpibaaGreat
