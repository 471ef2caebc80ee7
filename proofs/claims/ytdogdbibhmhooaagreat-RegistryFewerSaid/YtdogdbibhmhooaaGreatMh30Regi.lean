/- Registries: whether a template is right (right$1, right$2, right), Find, Right. -/
import Derived.Test.YtdogdbibhmhooaaGreatMh29Regi
import Derived.Test.YtdogdbibhmhooaaGreatMh18Regi
import Derived.Laws.EntriesVeiled
import Derived.Test.YtdogdbibhmhooaaGreatMh28Regi
import Derived.Test.YtdogdbibhmhooaaGreatMh11Regi
set_option linter.unusedVariables false
set_option linter.unusedSimpArgs false
set_option maxRecDepth 100000
namespace Go.Proofs.YtdogdbibhmhooaaGreat
open Go.RowKit Go.Shelf
theorem valB_len (v : PV) : decide (((valB v).length : Int) = 0) = !rightV v := by
  unfold valB
  by_cases h : rightV v = true
  · rw [if_pos h, h]
    cases v with
    | mk k n s l => exact decide_eq_false (by simp only [putV, List.length_cons]; omega)
  · rw [if_neg h]
    simp only [Bool.not_eq_true] at h
    rw [h]; rfl
/-- has a slot no bytes? -/
def oddS (s : SlotM) : Bool := !rightV s.df
def oddP (t : StepM) : Bool := !rightV t.sl.df
set_option maxHeartbeats 1000000 in
theorem odd_any (s : SlotM) (w : World) (x : Value) (hs : IsSlot w s x) : Calls Tryz.prog 53 #[x] w fun e w' => e = .returned (.bool (oddS s)) ∧ Below w.heap.size w w' := by
  obtain ⟨k, n, t, a, len, cap, rfl, hI, hnm, hd⟩ := slot7_form hs
  have hB0 := (Below.refl _ w).alloc (Nat.le_refl _) (.cells #[.string s.nm, .int .i64 s.ty, .bool s.rq, .int .i64 k, .int .i64 n, .string t, .slice a len cap] 58)
  have hV := bvalue_any s.df _ _ (is_below hB0 _ _ hd)
  have hl := valB_len s.df
  unfold oddS
  rw [← hl]
  generalize valB s.df = L at *
  clear hs hd hl
  go_enter Tryz.func53, Tryz.ntmps53
  go_wp2_with (go_at_call 54; (with_reducible refine hV.mono ?_); rintro e w1 ⟨v, rfl, ho, hB1⟩; obtain ⟨a1, m1, c1, rfl, hr1⟩ := isSl_own ho; have hm1 := hr1.1)
  go_ret
  exact ⟨ret_bool (by rw [hm1]; first | rfl | simp), hB0.trans (hB1.mono hB0.size)⟩
theorem odd_enter (args : Array Value) (w : World) : (callFunc 53 args).run Tryz.prog w = .ok (.enter 53 args) w := enters_of Tryz.func53 (by kernel_rfl) rfl args w
set_option maxHeartbeats 1000000 in
theorem oddP_any (s : StepM) (w : World) (x : Value) (b : Nat) (hs : IsStep w s x) (hb : w.cell? ⟨b, 0, none⟩ = some (.func (.func 53) #[] #[])) :
    Calls Tryz.prog 57 #[x, .pointer (some ⟨b, 0, none⟩)] w fun e w' => e = .returned (.bool (oddP s)) ∧ Below w.heap.size w w' := by
  have eg := odd_enter
  have hsl0 := hs
  obtain ⟨k, n, t, a, len, cap, oa, oc, rfl, hI, hI2, hI3, hnm, hd, hrow, hod⟩ := isStep_form hs
  have hB0 := (Below.refl _ w).alloc (Nat.le_refl _) (.cells #[.int .i64 s.kd, .int .i64 s.col, .string s.sl.nm, .int .i64 s.sl.ty, .bool s.sl.rq, .int .i64 k, .int .i64 n, .string t, .slice a len cap, .slice oa s.od.length oc] 61)
  have hO := odd_any s.sl _ _ (isSlot_below hB0 (step_slot hsl0))
  have c0 := cell_below hB0 hb
  have hoo : oddP s = oddS s.sl := rfl
  rw [hoo]
  generalize oddS s.sl = B at *
  clear hs hsl0 hd hrow hod hb
  go_enter Tryz.func57, Tryz.ntmps57
  go_wp2_with (go_at_fn 53; (with_reducible refine hO.mono ?_); rintro e w1 ⟨rfl, hB1⟩)
  go_ret
  exact ⟨rfl, hB0.trans (hB1.mono hB0.size)⟩
theorem oddP_enter (args : Array Value) (w : World) : (callFunc 57 args).run Tryz.prog w = .ok (.enter 57 args) w := enters_of Tryz.func57 (by kernel_rfl) rfl args w
/-- what schema says of a template, wherever it lies -/
def RightOf (t : TemplM) : Prop := ∀ (W : World) (X : Value), IsTempl W t X → Calls Tryz.prog 58 #[X] W fun e w' => e = .returned (.bool (Rg.rightT t)) ∧ Below W.heap.size W w'
/-- a right template has no odd slot, and no odd step -/
theorem right_even {t : TemplM} (h : Rg.rightT t = true) : t.slots.any oddS = false ∧ t.steps.any oddP = false := by
  have ho := Rg.rightT_ok h
  refine ⟨List.any_eq_false.2 fun s hs => ?_, List.any_eq_false.2 fun s hs => ?_⟩
  · unfold oddS; rw [Rg.sound_right (ho.so s hs)]; simp
  · unfold oddP; rw [Rg.stepOk_right (ho.st s hs)]; simp
theorem rg_cells3 {w W : World} {c0 c1 c2 : Value} {t : TypeId} {o : Obj} (h : Below ((w.alloc (.cells #[c0, c1, c2] t)).alloc o).heap.size ((w.alloc (.cells #[c0, c1, c2] t)).alloc o) W) :
    W.cell? ⟨w.heap.size, 0, none⟩ = some c0 ∧ W.cell? ⟨w.heap.size, 1, none⟩ = some c1 ∧ W.cell? ⟨w.heap.size, 2, none⟩ = some c2 :=
  ⟨cell_below h (by simp), cell_below h (by simp), cell_below h (by simp)⟩
theorem rg_cell2 {w W : World} {c0 c1 c2 : Value} {t : TypeId} {o : Obj} (h : Below ((w.alloc (.cells #[c0, c1, c2] t)).alloc o).heap.size ((w.alloc (.cells #[c0, c1, c2] t)).alloc o) W) :
    W.cell? ⟨w.heap.size, 2, none⟩ = some c2 := (rg_cells3 h).2.2
theorem rg_cellA {w W : World} {c0 c1 c2 : Value} {t : TypeId} (h : Below (w.alloc (.cells #[c0, c1, c2] t)).heap.size (w.alloc (.cells #[c0, c1, c2] t)) W) :
    W.cell? ⟨w.heap.size, 0, none⟩ = some c0 := cell_below h (by simp)
set_option maxHeartbeats 2000000 in
theorem rgRight1_any (t : TemplM) (w : World) (x : Value) (hR : RightOf t) (h1 : t.slots.length ≤ 100000) (h2 : t.steps.length ≤ 100000) (hi : IsTempl w t x) :
    Calls Tryz.prog 28 #[x] w fun e w' => e = .returned (.bool (Rg.rightT t)) ∧ Below w.heap.size w w' := by
  have hev := right_even (t := t)
  have hi0 := hi
  obtain ⟨hnm, sa, sc, ta, tc, rfl, hs, ht⟩ := hi
  have hB0 := ((Below.refl _ w).alloc (Nat.le_refl _) (.cells #[.string t.nm, .slice sa t.slots.length sc, .slice ta t.steps.length tc] 45)).alloc (by simp) (.cells #[.func (.func 53) #[] #[]] 77)
  have hcf : ((w.alloc (.cells #[.string t.nm, .slice sa t.slots.length sc, .slice ta t.steps.length tc] 45)).alloc (.cells #[.func (.func 53) #[] #[]] 77)).cell? ⟨w.heap.size + 1, 0, none⟩ = some (.func (.func 53) #[] #[]) := by simp
  obtain ⟨W0, hW0⟩ : ∃ W0, W0 = ((w.alloc (.cells #[.string t.nm, .slice sa t.slots.length sc, .slice ta t.steps.length tc] 45)).alloc (.cells #[.func (.func 53) #[] #[]] 77)) := ⟨_, rfl⟩
  rw [← hW0] at hB0 hcf
  have hS := hasSlot_any sa sc t.slots oddS 53 #[] W0 (slotRow_below hB0 hs) h1 odd_enter (fun i y W X _ _ hX => odd_any y W X hX)
  have hP := fun W1 (hb1 : Below W0.heap.size W0 W1) => hasStep_any ta tc t.steps oddP 57 #[.pointer (some ⟨w.heap.size + 1, 0, none⟩)] W1 (stepRow_below hb1 (stepRow_below hB0 ht)) h2 oddP_enter (fun i y W X _ hbW hX => oddP_any y W X _ hX (cell_below (hb1.trans (hbW.mono hb1.size)) hcf))
  obtain ⟨B1, hb1⟩ : ∃ B, t.slots.any oddS = B := ⟨_, rfl⟩
  obtain ⟨B2, hb2⟩ : ∃ B, t.steps.any oddP = B := ⟨_, rfl⟩
  obtain ⟨R, hRR⟩ : ∃ R, Rg.rightT t = R := ⟨_, rfl⟩
  rw [hb1] at hS hev
  rw [hb2] at hev
  simp only [hb2] at hP
  unfold RightOf at hR
  have HR := Lib.hid hR; have HI := Lib.hid (fun W hb => isTempl_below (w := w) (w' := W) hb hi0); have HRR := Lib.hid hRR; have HS := Lib.hid hS; have HP := Lib.hid hP
  rw [hRR] at hev ⊢
  clear hR hi0 hRR hS hP hs ht hb1 hb2
  cases B1 with
  | true =>
    have hr0 : R = false := by
      cases R with
      | false => rfl
      | true => exact absurd (hev rfl).1 (by simp)
    subst hr0
    clear hev
    subst hW0
    go_enter Tryz.func28, Tryz.ntmps28
    go_wp2_with (go_at_call 55; (with_reducible refine (HS.out).mono ?_); rintro e w1 ⟨rfl, hB1⟩)
    go_ret
    exact ⟨rfl, hB0.trans (hB1.mono hB0.size)⟩
  | false =>
    cases B2 with
    | true =>
      have hr0 : R = false := by
        cases R with
        | false => rfl
        | true => exact absurd (hev rfl).2 (by simp)
      subst hr0
      clear hev
      subst hW0
      go_enter Tryz.func28, Tryz.ntmps28
      go_wp2_with (first
        | (go_at_call 55; (with_reducible refine (HS.out).mono ?_); rintro e w1 ⟨rfl, hB1⟩; have hbb := hB0.trans (hB1.mono hB0.size); have x2 := rg_cell2 hB1)
        | (go_at_call 56; (with_reducible refine (HP.out _ hB1).mono ?_); rintro e w2 ⟨rfl, hB2⟩))
      go_ret
      exact ⟨rfl, hbb.trans (hB2.mono hbb.size)⟩
    | false =>
      clear hev
      subst hW0
      go_enter Tryz.func28, Tryz.ntmps28
      go_wp2_with (first
        | (go_at_call 55; (with_reducible refine (HS.out).mono ?_); rintro e w1 ⟨rfl, hB1⟩; have hbb := hB0.trans (hB1.mono hB0.size); have x2 := rg_cell2 hB1)
        | (go_at_call 56; (with_reducible refine (HP.out _ hB1).mono ?_); rintro e w2 ⟨rfl, hB2⟩; have hbb2 := hbb.trans (hB2.mono hbb.size); obtain ⟨y0, y1, y2⟩ := rg_cells3 (hB1.trans (hB2.mono hB1.size)))
        | (go_at_call 58; (with_reducible refine ((HR.out) _ _ ((HI.out) _ hbb2)).mono ?_); rintro e w3 ⟨rfl, hB3⟩))
      go_ret
      rw [HRR.out]
      exact ⟨rfl, hbb2.trans (hB3.mono hbb2.size)⟩
set_option maxHeartbeats 1000000 in
theorem find1_any (t : TemplM) (nm : ByteArray) (w : World) (x : Value) (b : Nat) (hi : IsTempl w t x) (hb : w.cell? ⟨b, 0, none⟩ = some (.string nm)) :
    Calls Tryz.prog 36 #[x, .pointer (some ⟨b, 0, none⟩)] w fun e w' => e = .returned (.bool (Sc.eqN t.nm nm)) ∧ Below w.heap.size w w' := by
  obtain ⟨hnm, sa, sc, ta, tc, rfl, hs, ht⟩ := hi
  have hB0 := (Below.refl _ w).alloc (Nat.le_refl _) (.cells #[.string t.nm, .slice sa t.slots.length sc, .slice ta t.steps.length tc] 45)
  have c0 := cell_below hB0 hb
  have heq : (t.nm.toList == nm.toList) = Sc.eqN t.nm nm := by
    unfold Sc.eqN
    rw [Bool.eq_iff_iff, beq_iff_eq, decide_eq_true_eq, toList_data, toList_data]
  generalize Sc.eqN t.nm nm = B at *
  clear hs ht hb
  go_enter Tryz.func36, Tryz.ntmps36
  go_wp2
  go_ret
  exact ⟨ret_bool (by first | exact heq | rfl | simp), hB0⟩
theorem find1_enter (args : Array Value) (w : World) : (callFunc 36 args).run Tryz.prog w = .ok (.enter 36 args) w := enters_of Tryz.func36 (by kernel_rfl) rfl args w
set_option maxHeartbeats 1000000 in
theorem rgFind_any (a : Option Addr) (cap : Nat) (l : List TemplM) (nm : ByteArray) (w : World) (hr : TemplRow w a cap l) (hsm : l.length ≤ 100000) :
    Calls Tryz.prog 15 #[.slice a l.length cap, .string nm] w fun e w' => e = .returned (.int .i64 (Rg.ixJ (Rg.find l nm))) ∧ Below w.heap.size w w' := by
  have hB0 := (Below.refl _ w).alloc (Nat.le_refl _) (.cells #[.string nm] 9)
  have hcf : (w.alloc (.cells #[.string nm] 9)).cell? ⟨w.heap.size, 0, none⟩ = some (.string nm) := by simp
  have hI := ixTempl_any a cap l (fun t => Sc.eqN t.nm nm) 36 #[.pointer (some ⟨w.heap.size, 0, none⟩)] _ (templRow_below hB0 hr) hsm find1_enter (fun i y W X _ hbW hX => find1_any y nm W X _ hX (cell_below hbW hcf))
  have he : l.findIdx? (fun t => Sc.eqN t.nm nm) = Rg.find l nm := rfl
  rw [he] at hI
  generalize Rg.ixJ (Rg.find l nm) = R at *
  have H := Lib.hid hI
  clear hI he hr hcf
  go_enter Tryz.func15, Tryz.ntmps15
  go_wp2_with (go_at_call 35; (with_reducible refine (H.out).mono ?_); rintro e w1 ⟨rfl, hB1⟩)
  go_ret
  exact ⟨rfl, hB0.trans (hB1.mono hB0.size)⟩
/-- a list of templates of which schema can be asked -/
def Asked (l : List TemplM) : Prop := ∀ t ∈ l, RightOf t ∧ t.slots.length ≤ 100000 ∧ t.steps.length ≤ 100000
set_option maxHeartbeats 4000000 in
theorem rgRight_any (a : Option Addr) (cap : Nat) (l : List TemplM) (w : World) (hr : TemplRow w a cap l) (hsm : l.length ≤ 100000) (hR : Asked l) :
    Calls Tryz.prog 10 #[.slice a l.length cap] w fun e w' => e = .returned (.bool (Rg.right l)) ∧ Below w.heap.size w w' := by
  have hri := Rg.right_iff l
  obtain ⟨B, hB⟩ : ∃ B, Rg.right l = B := ⟨_, rfl⟩
  rw [hB] at hri ⊢
  clear hB
  by_cases h6 : 6 < l.length
  · have hb0 : B = false := by
      cases B with
      | false => rfl
      | true => have := (hri.1 rfl).1; omega
    subst hb0
    obtain ⟨n, hn⟩ : ∃ n, l.length = n := ⟨_, rfl⟩
    rw [hn] at h6 hsm ⊢
    have d1 : decide ((n : Int) > 6) = true := by simp; omega
    have d2 : decide ((6 : Int) < (n : Int)) = true := by simp; omega
    clear hri hr hR hn
    go_enter Tryz.func10, Tryz.ntmps10
    go_wp2
    go_ret
    exact ⟨rfl, Below.refl _ _⟩
  · have hF := fun nm W hb => rgFind_any a cap l nm W (templRow_below (w := w) hb hr) hsm
    obtain ⟨n, hn⟩ : ∃ n, l.length = n := ⟨_, rfl⟩
    have HR := Lib.hid hr; have HN := Lib.hid hn; have HA := Lib.hid hR; have HRI := Lib.hid hri; have HF := Lib.hid hF
    rw [hn] at HF h6 ⊢
    have d1 : decide ((n : Int) > 6) = false := by simp; omega
    have d2 : decide ((6 : Int) < (n : Int)) = false := by simp; omega
    have hn6 : n ≤ 6 := by omega
    clear hr hn hR hri hF h6 hsm
    go_enter Tryz.func10, Tryz.ntmps10
    go_wp2
    go_loopw [10] (fun i wr => ∃ k : Nat, k ≤ n ∧ i = .int .i64 k ∧ Below w.heap.size w wr ∧ Hid (∀ j t, j < k → l[j]? = some t → Rg.rightT t = true ∧ Rg.find l t.nm = some j)) (fun i _ => n - (intOf i).toNat)
    case atStart => exact ⟨0, Nat.zero_le _, rfl, Below.refl _ _, Lib.hid (fun j y hj => by omega)⟩
    case round =>
      obtain ⟨k, hk, rfl, hbw, HE⟩ := hrel
      rcases Nat.lt_or_ge k n with hlt | hge
      · have hd : decide ((k : Int) < (n : Int)) = true := by simp; omega
        have hnl := HN.out
        obtain ⟨y, hy⟩ : ∃ y, l[k]? = some y := ⟨l[k], List.getElem?_eq_getElem (by omega)⟩
        obtain ⟨sb, so, rfl, hrow⟩ : ∃ b off, a = some ⟨b, off, none⟩ ∧ ∀ i s, l[i]? = some s → TemplAt w b (off + i * 3) s := by
          rcases HR.out.2.2 with h | h
          · subst h; simp at hnl; omega
          · exact h
        obtain ⟨la, lc, oa, oc, ⟨g0, g1, g2⟩, hsn, hst⟩ := templAt_form (hrow k y hy)
        have y0 := cell_below hbw g0
        have y1 := cell_below hbw g1
        have y2 := cell_below hbw g2
        have hA := (Below.refl _ wr).alloc (Nat.le_refl _) (.cells #[.string y.nm, .slice la y.slots.length lc, .slice oa y.steps.length oc] 45)
        have hbA := hbw.trans (hA.mono hbw.size)
        have hm := (HA.out) y (List.mem_of_getElem? hy)
        have HX := Lib.hid (rgRight1_any y _ _ hm.1 hm.2.1 hm.2.2 (isTempl_below hbA hst))
        have HF2 := Lib.hid (fun W hb => (HF.out) y.nm W hb)
        obtain ⟨R, hR⟩ : ∃ R, Rg.rightT y = R := ⟨_, rfl⟩
        obtain ⟨J, hJ⟩ : ∃ J, Rg.ixJ (Rg.find l y.nm) = J := ⟨_, rfl⟩
        rw [hR] at HX
        rw [hJ] at HF2
        have HY := Lib.hid hy; have HRR := Lib.hid hR; have HJ := Lib.hid hJ
        clear hy hR hJ hm hst hsn hrow hnl g0 g1 g2
        cases R with
        | false =>
          have hb0 : B = false := by
            cases B with
            | false => rfl
            | true => have := (((HRI.out).1 rfl).2 k y HY.out).1; rw [HRR.out] at this; cases this
          subst hb0
          go_wp2_with (go_at_call 28; (with_reducible refine (HX.out).mono ?_); rintro e w1 ⟨rfl, hB1⟩)
          go_ret
          exact ⟨rfl, hbA.trans (hB1.mono hbA.size)⟩
        | true =>
          by_cases hJk : J = (k : Int)
          · have hJ2 : Rg.find l y.nm = some k := by
              have e := HJ.out
              rw [hJk] at e
              cases hf : Rg.find l y.nm with
              | none => rw [hf] at e; simp only [Rg.ixJ] at e; omega
              | some q => rw [hf] at e; simp only [Rg.ixJ] at e; congr 1; omega
            have HJ2 := Lib.hid hJ2
            subst hJk
            clear hJ2
            have hne : ((k : Int) != (k : Int)) = false := by simp
            go_wp2_with (first
              | (go_at_call 28; (with_reducible refine (HX.out).mono ?_); rintro e w1 ⟨rfl, hB1⟩; have hb1 := hbA.trans (hB1.mono hbA.size); have x0 := rg_cellA hB1)
              | (go_at_call 15; (with_reducible refine ((HF2.out) _ hb1).mono ?_); rintro e w2 ⟨rfl, hB2⟩))
            go_roundw
            case rel => exact ⟨k + 1, by omega, by go_num, hb1.trans (hB2.mono hb1.size), Lib.hid (fun j z hj hz => by
              rcases Nat.lt_or_ge j k with h | h
              · exact HE.out j z h hz
              · obtain rfl : j = k := by omega
                rw [HY.out] at hz
                cases hz
                exact ⟨HRR.out, HJ2.out⟩)⟩
            case measure => simp [intOf]; omega
          · have hb0 : B = false := by
              cases B with
              | false => rfl
              | true =>
                have := (((HRI.out).1 rfl).2 k y HY.out).2
                have e := HJ.out
                rw [this] at e
                simp only [Rg.ixJ] at e
                omega
            subst hb0
            have hne : (J != (k : Int)) = true := by simp only [bne_iff_ne, ne_eq]; exact hJk
            have HJK := Lib.hid hJk
            clear hJk
            go_wp2_with (first
              | (go_at_call 28; (with_reducible refine (HX.out).mono ?_); rintro e w1 ⟨rfl, hB1⟩; have hb1 := hbA.trans (hB1.mono hbA.size); have x0 := rg_cellA hB1)
              | (go_at_call 15; (with_reducible refine ((HF2.out) _ hb1).mono ?_); rintro e w2 ⟨rfl, hB2⟩))
            go_ret
            exact ⟨rfl, hb1.trans (hB2.mono hb1.size)⟩
      · obtain rfl : k = n := by omega
        have hd : decide ((k : Int) < (k : Int)) = false := by simp
        have hbt : B = true := (HRI.out).2 ⟨by have := HN.out; omega, fun i t ht => HE.out i t (by have h3 := (List.getElem?_eq_some_iff.1 ht).1; have h4 := HN.out; omega) ht⟩
        subst hbt
        go_wp2
        go_ret
        exact ⟨rfl, hbw⟩
end Go.Proofs.YtdogdbibhmhooaaGreat

/- Registries that are read: a template, Read, Get. -/
set_option linter.unusedVariables false
set_option linter.unusedSimpArgs false
set_option maxRecDepth 100000
namespace Go.Proofs.YtdogdbibhmhooaaGreat
open Go.RowKit Go.Shelf
theorem templ3n : (Tryz.prog.info? 45).map (·.size) = some 3 := by kernel_rfl
theorem build_t0 (w : World) : (Instr.build 45 #[]).run Tryz.prog w = .ok (.agg #[.string ⟨#[]⟩, .slice none 0 0, .slice none 0 0]) w := run_build w 45 _ _ (by kernel_rfl)
theorem box3 {W : World} {b : Nat} {t : TypeId} {c0 c1 c2 : Value} (h : CA W b t #[c0, c1, c2]) :
    (W.cell? ⟨b, 0, none⟩ = some c0 ∧ W.cell? ⟨b, 1, none⟩ = some c1 ∧ W.cell? ⟨b, 2, none⟩ = some c2) ∧ (W.frozen? ⟨b, 0, none⟩ = false ∧ W.frozen? ⟨b, 1, none⟩ = false ∧ W.frozen? ⟨b, 2, none⟩ = false) :=
  ⟨⟨ca_cell h 0 _ rfl, ca_cell h 1 _ rfl, ca_cell h 2 _ rfl⟩, ca_frozen h 0, ca_frozen h 1, ca_frozen h 2⟩
set_option maxHeartbeats 4000000 in
theorem readTemplate_any (p : Nat) (s : Bn.St) (w : World) (h : RD w p s) : Calls Tryz.prog 45 #[.pointer (some ⟨p, 0, none⟩)] w (TemplRet p w (Rg.rTempl s)) := by
  have hpw := rd_lt h
  have hA0 := (Below.refl _ w).alloc (Nat.le_refl _) (.cells vz3 45)
  have hz0 := ca_alloc w 45 vz3
  have hR0 := rd_below h hA0
  have hT := rdText_any p s _ hR0
  have hnm : (Bn.rText s).1.size ≤ maxLen := rText_size h
  unfold Rg.rTempl
  generalize Bn.rText s = r1 at *
  obtain ⟨nm, s1⟩ := r1
  simp only at hnm hT ⊢
  have hL : ∀ W, RD W p s1 → Calls Tryz.prog 75 #[.pointer (some ⟨p, 0, none⟩), .int .i64 8, .func (.func 76) #[] #[]] W (ListRet SlotRow p W (Rg.rList 8 Rg.rSlot s1)) := fun W h => readLSlot_any 8 (by omega) Rg.rSlot 76 p s1 W h rSlot_enter (fun W s h => readSlot_any p s W h)
  generalize Rg.rList 8 Rg.rSlot s1 = r2 at *
  obtain ⟨o, s2⟩ := r2
  have hG0 := grown_alloc (grown_refl w (some p)) (.cells vz3 45)
  have HT := Lib.hid hT; have HZ := Lib.hid hz0; have HL := Lib.hid hL
  clear hT hz0 hL h hR0
  cases o with
  | none =>
    simp only [Rg.rTempl1]
    have hbu := fun W => build_t0 W
    go_enter Tryz.func45, Tryz.ntmps45
    go_wp2_with (first
      | (go_at_call 74; (with_reducible refine (HT.out).mono ?_); rintro e w1 ⟨rfl, hR1, hg1⟩; have hz1 := ca_grown HZ.out hg1 hpw; have hG1 := grown_then hG0 hg1)
      | (go_at_call 75; (with_reducible refine (HL.out _ hR1).mono ?_); rintro e w2 ⟨a, l, c, rfl, hF2, hR2, hg2⟩; have hz2 := ca_grown hz1 hg2 hpw; have hG2 := grown_then hG1 hg2; obtain ⟨⟨r0, r1, r2⟩, f0, f1, f2⟩ := box3 hz2))
    obtain ⟨hzF, hgF⟩ := set3 (t := 45) (W := w2) hz2 (.string ⟨#[]⟩) (.slice none 0 0) (.slice none 0 0)
    have hRF := rd_blk hR2 hz2 hgF (by decide) (by decide)
    have hGF := grown_own9 hG2 hgF (Nat.le_refl _)
    refine bodyPost_ret (results_cell_tmp_row Tryz.results45 _ _ w.heap.size _ _ _ _ rfl hzF Tryz.underlying45 rfl templ3n) rfl ?_
    exact ⟨⟨#[]⟩, none, 0, 0, none, 0, 0, rfl, fun x hx => (by cases hx), hRF, hGF⟩
  | some sl =>
    simp only [Rg.rTempl1]
    unfold Rg.rTempl2
    have hP : ∀ W, RD W p s2 → Calls Tryz.prog 77 #[.pointer (some ⟨p, 0, none⟩), .int .i64 8, .func (.func 78) #[] #[]] W (ListRet StepRow p W (Rg.rList 8 Rg.rStep s2)) := fun W h => readLStep_any 8 (by omega) Rg.rStep 78 p s2 W h rStep_enter (fun W s h => readStep_any p s W h)
    generalize Rg.rList 8 Rg.rStep s2 = r3 at *
    obtain ⟨o3, s3⟩ := r3
    simp only at hP ⊢
    obtain ⟨R, hRR⟩ : ∃ R : Option TemplM, Option.map (fun st => (⟨nm, sl, st⟩ : TemplM)) o3 = R := ⟨_, rfl⟩
    have hos : o3.isSome = R.isSome := by rw [← hRR]; cases o3 <;> rfl
    have hox : ∀ x, R = some x → ∃ st, o3 = some st ∧ x = ⟨nm, sl, st⟩ := by
      intro x hx
      rw [← hRR] at hx
      cases o3 with
      | none => cases hx
      | some ys => cases hx; exact ⟨ys, rfl, rfl⟩
    rw [hRR]
    have HOS := Lib.hid hos; have HOX := Lib.hid hox; have HP := Lib.hid hP
    clear hRR hos hox hP
    go_enter Tryz.func45, Tryz.ntmps45
    go_wp2_with (first
      | (go_at_call 74; (with_reducible refine (HT.out).mono ?_); rintro e w1 ⟨rfl, hR1, hg1⟩; have hz1 := ca_grown HZ.out hg1 hpw; have hG1 := grown_then hG0 hg1)
      | (go_at_call 75; (with_reducible refine (HL.out _ hR1).mono ?_); rintro e w2 ⟨a, l, c, rfl, hF2, hR2, hg2⟩; have hz2 := ca_grown hz1 hg2 hpw; have hG2 := grown_then hG1 hg2; obtain ⟨rfl, hrow2⟩ := hF2 sl rfl; have HROW2 := Lib.hid hrow2; clear hF2 hrow2)
      | (go_at_call 77; (with_reducible refine (HP.out _ hR2).mono ?_); rintro e w3 ⟨a3, l3, c3, rfl, hF3, hR3, hg3⟩; have hz3 := ca_grown hz2 hg3 hpw; have hG3 := grown_then hG2 hg3; have HF3 := Lib.hid hF3; clear hF3; obtain ⟨⟨r0, r1, r2⟩, f0, f1, f2⟩ := box3 hz3))
    obtain ⟨hzF, hgF⟩ := set3 (t := 45) (W := w3) hz3 (.string nm) (.slice a sl.length c) (.slice a3 l3 c3)
    have hRF := rd_blk hR3 hz3 hgF (by decide) (by decide)
    have hGF := grown_own9 hG3 hgF (Nat.le_refl _)
    refine bodyPost_ret (results_cell_tmp_row Tryz.results45 _ _ w.heap.size _ _ _ _ rfl hzF Tryz.underlying45 rfl templ3n) rfl ?_
    have hos := HOS.out
    refine ⟨nm, a, sl.length, c, a3, l3, c3, (by simp only; rw [← hos]; rfl), fun x hx W' hW' => ?_, hRF, hGF⟩
    obtain ⟨st, rfl, rfl⟩ := HOX.out x hx
    have hrow2 := HROW2.out
    obtain ⟨rfl, hrow3⟩ := HF3.out st rfl
    have hs1 := hg1.size
    have hs2 := hg2.size
    have hs3 := hg3.size
    have hsF := hgF.size
    have hs0 : (w.alloc (.cells vz3 45)).heap.size = w.heap.size + 1 := World.size_alloc _ _
    refine ⟨hnm, a, c, a3, c3, rfl, hrow2 W' fun b9 k1 k2 => ?_, hrow3 W' fun b9 k1 k2 => ?_⟩
    · rw [hW' b9 (by omega) (by omega), hgF.block b9 (by omega) (by simp; omega), hg3.block b9 (by omega) (by simp; omega)]
    · rw [hW' b9 (by omega) (by omega), hgF.block b9 (by omega) (by simp; omega)]
theorem rTempl_enter (args : Array Value) (w : World) : (callFunc 45 args).run Tryz.prog w = .ok (.enter 45 args) w := enters_of Tryz.func45 (by kernel_rfl) rfl args w
/-- the registry that the call has made, if a right one stands there, and the reader behind it then -/
def RegRet (p : Nat) (w : World) (s : Bn.St) (e : Ending) (w' : World) : Prop := ∃ (a : Option Addr) (l c : Nat) (s' : Bn.St),
  e = .returned (.tuple #[.slice a l c, .bool (Rg.rRead s).isSome]) ∧ (Rg.rRead s = none → a = none ∧ l = 0) ∧ (∀ ys, Rg.rRead s = some ys → s' = (Rg.rReg s).2 ∧ l = ys.length ∧ ∀ W' : World, (∀ b, w.heap.size ≤ b → b < w'.heap.size → W'.heap[b]? = w'.heap[b]?) → TemplRow W' a c ys) ∧ RD w' p s' ∧ w.grownBy w' (some p)
theorem rRead_none {s s' : Bn.St} (h : Rg.rReg s = (none, s')) : Rg.rRead s = none := by unfold Rg.rRead; rw [h]
theorem rRead_some {s s' : Bn.St} {l : List TemplM} (h : Rg.rReg s = (some l, s')) : Rg.rRead s = if s'.isNone = true then none else if Rg.right l = true then some l else none := by unfold Rg.rRead; rw [h]
set_option maxHeartbeats 4000000 in
theorem rgRead_any (p : Nat) (s : Bn.St) (w : World) (h : RD w p s) (hask : ∀ l s', Rg.rReg s = (some l, s') → s'.isNone = false → l.length ≤ 100000 ∧ Asked l) :
    Calls Tryz.prog 22 #[.pointer (some ⟨p, 0, none⟩)] w (RegRet p w s) := by
  have hL : Calls Tryz.prog 44 #[.pointer (some ⟨p, 0, none⟩), .int .i64 6, .func (.func 45) #[] #[]] w (ListRet TemplRow p w (Rg.rReg s)) := readLTempl_any 6 (by omega) Rg.rTempl 45 p s w h rTempl_enter (fun W s h => readTemplate_any p s W h)
  have HL := Lib.hid hL
  unfold RegRet
  obtain ⟨r, hr⟩ : ∃ r, Rg.rReg s = r := ⟨_, rfl⟩
  obtain ⟨o, s'⟩ := r
  rw [hr] at HL
  cases o with
  | none =>
    have hrr := rRead_none hr
    rw [hrr]
    clear hask hr hrr hL
    go_enter Tryz.func22, Tryz.ntmps22
    go_wp2_with (go_at_call 44; (with_reducible refine (HL.out).mono ?_); rintro e w1 ⟨a, l, c, rfl, hF1, hR1, hg1⟩)
    go_ret2
    exact ⟨none, 0, 0, s', rfl, fun _ => ⟨rfl, rfl⟩, fun ys hy => (by cases hy), hR1, hg1⟩
  | some l =>
    have hrr := rRead_some hr
    have hask' := hask l s' hr
    have hB := fun W (h : RD W p s') => rdBad_any p s' W h
    obtain ⟨B, hBB⟩ : ∃ B, s'.isNone = B := ⟨_, rfl⟩
    rw [hBB] at hask'
    simp only [hBB] at hB hrr
    have HB := Lib.hid hB
    clear hask hB hL
    cases B with
    | true =>
      rw [if_pos rfl] at hrr
      rw [hrr]
      clear hr hrr hask'
      go_enter Tryz.func22, Tryz.ntmps22
      go_wp2_with (first
        | (go_at_call 44; (with_reducible refine (HL.out).mono ?_); rintro e w1 ⟨a, n1, c, rfl, hF1, hR1, hg1⟩)
        | (go_at_call 46; (with_reducible refine (HB.out _ hR1).mono ?_); rintro e w2 ⟨rfl, rfl⟩))
      go_ret2
      exact ⟨none, 0, 0, s', rfl, fun _ => ⟨rfl, rfl⟩, fun ys hy => (by cases hy), hR1, hg1⟩
    | false =>
      rw [if_neg (by simp)] at hrr
      obtain ⟨h1, h2⟩ := hask' rfl
      have hRt := fun W a c (hr : TemplRow W a c l) => rgRight_any a c l W hr h1 h2
      obtain ⟨R, hRR⟩ : ∃ R, Rg.right l = R := ⟨_, rfl⟩
      rw [hRR] at hrr
      simp only [hRR] at hRt
      have HRt := Lib.hid hRt
      clear hask' hRt h1 h2
      have H9 := Lib.hid hr
      clear hr
      cases R with
      | true =>
        rw [if_pos rfl] at hrr
        rw [hrr]
        clear hrr
        go_enter Tryz.func22, Tryz.ntmps22
        go_wp2_with (first
          | (go_at_call 44; (with_reducible refine (HL.out).mono ?_); rintro e w1 ⟨a, n1, c, rfl, hF1, hR1, hg1⟩; obtain ⟨rfl, hrow⟩ := hF1 l rfl; have HROW := Lib.hid hrow; clear hF1 hrow)
          | (go_at_call 46; (with_reducible refine (HB.out _ hR1).mono ?_); rintro e w2 ⟨rfl, rfl⟩)
          | (go_at_call 10; (with_reducible refine (HRt.out _ _ _ (HROW.out _ (fun _ _ _ => rfl))).mono ?_); rintro e w3 ⟨rfl, hB3⟩))
        go_ret2
        exact ⟨a, l.length, c, s', rfl, fun h => (by cases h), fun ys hy => (by cases hy; rw [H9.out]; exact ⟨rfl, rfl, fun W' k => HROW.out W' fun b b1 b2 => (k b b1 (by have := hB3.size; omega)).trans (hB3.block b b2)⟩), rd_below hR1 hB3, grown_then hg1 (grown_of_below hB3 _)⟩
      | false =>
        rw [if_neg (by simp)] at hrr
        rw [hrr]
        clear hrr
        go_enter Tryz.func22, Tryz.ntmps22
        go_wp2_with (first
          | (go_at_call 44; (with_reducible refine (HL.out).mono ?_); rintro e w1 ⟨a, n1, c, rfl, hF1, hR1, hg1⟩; obtain ⟨rfl, hrow⟩ := hF1 l rfl; have HROW := Lib.hid hrow; clear hF1 hrow)
          | (go_at_call 46; (with_reducible refine (HB.out _ hR1).mono ?_); rintro e w2 ⟨rfl, rfl⟩)
          | (go_at_call 10; (with_reducible refine (HRt.out _ _ _ (HROW.out _ (fun _ _ _ => rfl))).mono ?_); rintro e w3 ⟨rfl, hB3⟩))
        go_ret2
        exact ⟨none, 0, 0, s', rfl, fun _ => ⟨rfl, rfl⟩, fun ys hy => (by cases hy), rd_below hR1 hB3, grown_then hg1 (grown_of_below hB3 _)⟩
/-- the registry of bytes -/
def getRg (l : List Int) : Option (List TemplM) := match Rg.rRead (some l) with
  | none => none
  | some ys => if Bn.done (Rg.rReg (some l)).2 = true then some ys else none
def GetRet (w : World) (o : Option (List TemplM)) (e : Ending) (w' : World) : Prop := ∃ (a : Option Addr) (l c : Nat),
  e = .returned (.tuple #[.slice a l c, .bool o.isSome]) ∧ (o = none → a = none ∧ l = 0) ∧ (∀ ys, o = some ys → l = ys.length ∧ ∀ W' : World, (∀ b, w.heap.size ≤ b → b < w'.heap.size → W'.heap[b]? = w'.heap[b]?) → TemplRow W' a c ys) ∧ Below w.heap.size w w'
/-- what lies below stays where a block turns that is made behind it -/
theorem grown_new9 {w W W' : World} {p : Nat} (h : Below w.heap.size w W) (hg : W.grownBy W' (some p)) (hp : w.heap.size ≤ p) : Below w.heap.size w W' :=
  ⟨hg.os.trans h.os, hg.tape.trans h.tape, hg.output.trans h.output, Nat.le_trans h.size hg.size, fun k hk => by rw [hg.block k (Nat.lt_of_lt_of_le hk h.size) (by simp; omega), h.block k hk]⟩
set_option maxHeartbeats 4000000 in
theorem rgGet_any (a : Option Addr) (n c : Nat) (l : List Int) (w : World) (h : Row w .u8 a n c l) (hb : Bytes l) (hn : n ≤ 1000000000) (hask : ∀ ts s', Rg.rReg (some l) = (some ts, s') → s'.isNone = false → ts.length ≤ 100000 ∧ Asked ts) :
    Calls Tryz.prog 19 #[.slice a n c] w (GetRet w (getRg l)) := by
  have hRd := rdRead_any a n c l w h hb hn
  have hRR := fun p W (h : RD W p (some l)) => rgRead_any p (some l) W h hask
  have HRd := Lib.hid hRd; have HRR := Lib.hid hRR
  unfold RegRet at HRR
  unfold GetRet getRg
  obtain ⟨o, ho⟩ : ∃ o, Rg.rRead (some l) = o := ⟨_, rfl⟩
  simp only [ho] at HRR
  rw [ho]
  clear hRd hRR h hb hask
  cases o with
  | none =>
    simp only at HRR ⊢
    clear ho
    go_enter Tryz.func19, Tryz.ntmps19
    go_wp2_with (first
      | (go_at_call 21; (with_reducible refine (HRd.out).mono ?_); rintro e w1 ⟨p, rfl, hp, hR1, hB1⟩)
      | (go_at_call 22; (with_reducible refine (HRR.out _ _ hR1).mono ?_); rintro e w2 ⟨a2, l2, c2, s2, rfl, hn2, hF2, hR2, hg2⟩))
    go_ret2
    exact ⟨none, 0, 0, rfl, fun _ => ⟨rfl, rfl⟩, fun ys hy => (by cases hy), grown_new9 hB1 hg2 hp⟩
  | some ys =>
    simp only
    have hs9 : ∀ s2, (∀ ys', some ys = some ys' → s2 = (Rg.rReg (some l)).2 ∧ True) → s2 = (Rg.rReg (some l)).2 := fun s2 h => (h ys rfl).1
    obtain ⟨S, hS⟩ : ∃ S, (Rg.rReg (some l)).2 = S := ⟨_, rfl⟩
    simp only [hS] at HRR hs9
    rw [hS]
    have hD := fun p W (h : RD W p S) => rdDone_any p S W h
    obtain ⟨D, hDD⟩ : ∃ D, Bn.done S = D := ⟨_, rfl⟩
    simp only [hDD] at hD
    rw [hDD]
    have HD := Lib.hid hD
    clear hD hs9 hS hDD ho
    cases D with
    | true =>
      rw [if_pos rfl]
      go_enter Tryz.func19, Tryz.ntmps19
      go_wp2_with (first
        | (go_at_call 21; (with_reducible refine (HRd.out).mono ?_); rintro e w1 ⟨p, rfl, hp, hR1, hB1⟩)
        | (go_at_call 22; (with_reducible refine (HRR.out _ _ hR1).mono ?_); rintro e w2 ⟨a2, l2, c2, s2, rfl, hn2, hF2, hR2, hg2⟩; obtain ⟨rfl, rfl, hrow⟩ := hF2 ys rfl; have HROW := Lib.hid hrow; clear hF2 hrow hn2)
        | (go_at_call 41; (with_reducible refine (HD.out _ _ hR2).mono ?_); rintro e w3 ⟨rfl, rfl⟩))
      go_ret2
      exact ⟨a2, ys.length, c2, rfl, fun h => (by cases h), fun zs hz => (by cases hz; exact ⟨rfl, fun W' k => HROW.out W' fun b b1 b2 => k b (Nat.le_trans hB1.size b1) b2⟩), grown_new9 hB1 hg2 hp⟩
    | false =>
      rw [if_neg (by simp)]
      go_enter Tryz.func19, Tryz.ntmps19
      go_wp2_with (first
        | (go_at_call 21; (with_reducible refine (HRd.out).mono ?_); rintro e w1 ⟨p, rfl, hp, hR1, hB1⟩)
        | (go_at_call 22; (with_reducible refine (HRR.out _ _ hR1).mono ?_); rintro e w2 ⟨a2, l2, c2, s2, rfl, hn2, hF2, hR2, hg2⟩; obtain ⟨rfl, rfl, hrow⟩ := hF2 ys rfl; clear hF2 hrow hn2)
        | (go_at_call 41; (with_reducible refine (HD.out _ _ hR2).mono ?_); rintro e w3 ⟨rfl, rfl⟩))
      go_ret2
      exact ⟨none, 0, 0, rfl, fun _ => ⟨rfl, rfl⟩, fun ys hy => (by cases hy), grown_new9 hB1 hg2 hp⟩
end Go.Proofs.YtdogdbibhmhooaaGreat
