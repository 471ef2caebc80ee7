/- The document's Has, Fits of layer 10. -/
import Derived.Test.YtibjjclfonpibaaMh10Cast
import Derived.Test.YtibjjclfonpibaaMh7Cast
import Derived.Test.YtibjjclfonpibaaMh4Cast
import Derived.Deep.RegionWith
import Derived.Lib.ConvBytes
import Derived.Deep.RegionHeld3
import Derived.Deep.DeepCutAuto
import Derived.Test.YtibjjclfonpibaaMh0Cast
import Derived.Laws.MakeOwn
import Derived.Lib.AppendZeros
import Derived.RegionTactic
import Derived.Lib.SliceRun
import Derived.Test.YtibjjclfonpibaaMh11Cast
set_option linter.unusedVariables false
set_option maxRecDepth 100000
namespace Go.Proofs.Ytibjjclfonpibaa
open Go.RowKit Go.Shelf
theorem slot7_form {w : World} {s : SlotM} {x : Value} (h : IsSlot w s x) : ∃ k n t a len cap, x = .agg #[.string s.nm, .int .i64 s.ty, .bool s.rq, .int .i64 k, .int .i64 n, .string t, .slice a len cap] ∧ I64 s.ty ∧ s.nm.size ≤ maxLen ∧ Is w s.df (.agg #[.int .i64 k, .int .i64 n, .string t, .slice a len cap]) := by
  obtain ⟨c0, c1, c2, c3, c4, c5, c6, rfl, h1, h2, rfl, rfl, rfl, h3⟩ := h
  have h4 := h3
  cases hd : s.df with
  | mk k n t l =>
    rw [hd] at h4
    unfold Is at h4
    obtain ⟨_, _, _, a, cap, e, _⟩ := h4
    simp only [Value.agg.injEq, Array.mk.injEq, List.cons.injEq, and_true] at e
    obtain ⟨rfl, rfl, rfl, rfl⟩ := e
    rw [hd] at h3
    exact ⟨_, _, _, _, _, _, rfl, h2, h1, h3⟩
theorem right_kind {k n : Int} {s : ByteArray} {l : List PV} (h : rightV (.mk k n s l) = true) : 0 ≤ k ∧ k ≤ 5 := by
  unfold rightV at h
  simp only [Bool.and_eq_true] at h
  have h2 := h.2
  refine Decidable.byContradiction fun hn => ?_
  have e : okV (.mk k n s l) = false := by
    unfold okV
    rw [if_neg (by omega), if_neg (by omega), if_neg (by omega), if_neg (by omega), if_neg (by omega), if_neg (by omega)]
  rw [e] at h2
  cases h2
end Go.Proofs.Ytibjjclfonpibaa

/- The document's Great of layer 10. -/
set_option linter.unusedVariables false
set_option maxRecDepth 100000
namespace Go.Proofs.Ytibjjclfonpibaa
open Go.RowKit Go.Shelf
def greatS (s : SlotM) : Bool := greatV s.df || decide (300 < s.nm.size)
def greatP (t : StepM) : Bool := greatV t.sl.df || decide (300 < t.sl.nm.size) || decide (30 < t.od.length)
def greatT (t : TemplM) : Bool := (decide (30 < t.slots.length) || decide (30 < t.steps.length) || decide (300 < t.nm.size)) || (t.slots.any greatS || t.steps.any greatP)
theorem slotAt_form {w : World} {b o : Nat} {s : SlotM} (h : SlotAt w b o s) : ∃ k n t a len cap,
    (w.cell? ⟨b, o, none⟩ = some (.string s.nm) ∧ w.cell? ⟨b, o + 1, none⟩ = some (.int .i64 s.ty) ∧ w.cell? ⟨b, o + 2, none⟩ = some (.bool s.rq) ∧ w.cell? ⟨b, o + 3, none⟩ = some (.int .i64 k) ∧ w.cell? ⟨b, o + 4, none⟩ = some (.int .i64 n) ∧ w.cell? ⟨b, o + 5, none⟩ = some (.string t) ∧ w.cell? ⟨b, o + 6, none⟩ = some (.slice a len cap)) ∧
    I64 s.ty ∧ s.nm.size ≤ maxLen ∧ Is w s.df (.agg #[.int .i64 k, .int .i64 n, .string t, .slice a len cap]) := by
  obtain ⟨c0, c1, c2, c3, c4, c5, c6, ⟨g0, g1, g2, g3, g4, g5, g6⟩, h1, h2, rfl, rfl, rfl, h3⟩ := h
  have h4 := h3
  cases hd : s.df with
  | mk k n t l =>
    rw [hd] at h4
    unfold Is at h4
    obtain ⟨_, _, _, a, cap, e, _⟩ := h4
    simp only [Value.agg.injEq, Array.mk.injEq, List.cons.injEq, and_true] at e
    obtain ⟨rfl, rfl, rfl, rfl⟩ := e
    rw [hd] at h3
    exact ⟨_, _, _, _, _, _, ⟨g0, g1, g2, g3, g4, g5, g6⟩, h2, h1, h3⟩
theorem any_take {α : Type} (p : α → Bool) (l : List α) (h : ∀ (q : Nat) (x : α), l[q]? = some x → p x = false) : l.any p = false := by
  rw [List.any_eq_false]
  intro x hx
  obtain ⟨i, hi⟩ := List.mem_iff_getElem?.1 hx
  simp [h i x hi]
theorem any_at {α : Type} (p : α → Bool) (l : List α) (q : Nat) (x : α) (h : l[q]? = some x) (hp : p x = true) : l.any p = true := List.any_eq_true.2 ⟨x, List.mem_of_getElem? h, hp⟩
set_option maxRecDepth 100000 in
set_option maxHeartbeats 4000000 in
theorem refGreat10_any (t : TemplM) (w : World) (x : Value) (hi : IsTempl w t x) : Calls Try.prog 14 #[x] w fun e w' => e = .returned (.bool (greatT t)) ∧ Below w.heap.size w w' := by
  obtain ⟨nm, slots, steps⟩ := t
  obtain ⟨hnm, sa, sc, ta, tc, rfl, ⟨hs1, hs2, hs3⟩, ⟨ht1, ht2, ht3⟩⟩ := hi
  simp only at hnm hs1 ht1 hs3 ht3 ⊢
  have hB0 := (Below.refl _ w).alloc (Nat.le_refl _) (.cells #[.string nm, .slice sa slots.length sc, .slice ta steps.length tc] 25)
  have hcx : ∀ W, Below (w.alloc (.cells #[.string nm, .slice sa slots.length sc, .slice ta steps.length tc] 25)).heap.size (w.alloc (.cells #[.string nm, .slice sa slots.length sc, .slice ta steps.length tc] 25)) W → W.cell? ⟨w.heap.size, 0, none⟩ = some (.string nm) ∧ W.cell? ⟨w.heap.size, 1, none⟩ = some (.slice sa slots.length sc) ∧ W.cell? ⟨w.heap.size, 2, none⟩ = some (.slice ta steps.length tc) := fun W hb =>
    ⟨cell_below hb (by simp), cell_below hb (by simp), cell_below hb (by simp)⟩
  obtain ⟨x0, x1, x2⟩ := hcx _ (Below.refl _ _)
  unfold maxLen at hnm hs2 ht2
  have HCX := Lib.hid hcx
  clear hcx
  unfold greatT
  by_cases h1 : (decide (30 < slots.length) || decide (30 < steps.length) || decide (300 < nm.size)) = true
  · simp only [h1, Bool.true_or]
    simp only [Bool.or_eq_true, decide_eq_true_eq] at h1
    by_cases k1 : 30 < slots.length
    · have d1 : decide ((30 : Int) < (slots.length : Int)) = true := by simp; omega
      clear hs3 ht3
      go_enter Try.func14, Try.ntmps14
      go_wp2
      go_ret
      exact ⟨rfl, hB0⟩
    · have d1 : decide ((30 : Int) < (slots.length : Int)) = false := by simp; omega
      by_cases k2 : 30 < steps.length
      · have d2 : decide ((30 : Int) < (steps.length : Int)) = true := by simp; omega
        clear hs3 ht3
        go_enter Try.func14, Try.ntmps14
        go_wp2
        go_ret
        exact ⟨rfl, hB0⟩
      · have d2 : decide ((30 : Int) < (steps.length : Int)) = false := by simp; omega
        have d3 : decide ((300 : Int) < (nm.size : Int)) = true := by simp; omega
        clear hs3 ht3
        go_enter Try.func14, Try.ntmps14
        go_wp2
        go_ret
        exact ⟨rfl, hB0⟩
  · simp only [Bool.not_eq_true] at h1
    rw [h1, Bool.false_or]
    simp only [Bool.or_eq_false_iff, decide_eq_false_iff_not] at h1
    have d1 : decide ((30 : Int) < (slots.length : Int)) = false := by simp; omega
    have d2 : decide ((30 : Int) < (steps.length : Int)) = false := by simp; omega
    have d3 : decide ((300 : Int) < (nm.size : Int)) = false := by simp; omega
    have HS3 := Lib.hid hs3; have HT3 := Lib.hid ht3
    clear hs3 ht3
    have hl30 : slots.length ≤ 30 := by omega
    have hp30 : steps.length ≤ 30 := by omega
    clear h1
    obtain ⟨G, hG⟩ : ∃ G, (slots.any greatS || steps.any greatP) = G := ⟨_, rfl⟩
    rw [hG]
    have HGG := Lib.hid hG
    clear hG
    go_enter Try.func14, Try.ntmps14
    go_wp2
    obtain ⟨W1, hW1⟩ : ∃ W1, w.alloc (.cells #[.string nm, .slice sa slots.length sc, .slice ta steps.length tc] 25) = W1 := ⟨_, rfl⟩
    rw [hW1] at HCX hB0 ⊢
    obtain ⟨bT, hbT⟩ : ∃ bT, w.heap.size = bT := ⟨_, rfl⟩
    have HB0 := Lib.hid hB0
    rw [hbT] at HCX ⊢
    clear x0 x1 x2 hW1 hB0
    go_loopw [3] (fun i wr => ∃ q : Nat, q ≤ slots.length ∧ i = .int .i64 (q : Int) ∧ Below W1.heap.size W1 wr ∧ ∀ j s, j < q → slots[j]? = some s → greatS s = false) (fun i _ => slots.length - (intOf i).toNat)
    case atStart => exact ⟨0, Nat.zero_le _, rfl, Below.refl _ _, fun j s h => by omega⟩
    case round =>
      obtain ⟨q, hq, rfl, hbl, hno⟩ := hrel
      obtain ⟨x0, x1, x2⟩ := HCX.out _ hbl
      have HNO := Lib.hid hno
      clear hno
      rcases Nat.lt_or_ge q slots.length with hlt | hge
      · have hd : decide ((q : Int) < (slots.length : Int)) = true := by simp; omega
        obtain ⟨s, hs⟩ : ∃ s, slots[q]? = some s := ⟨slots[q], List.getElem?_eq_getElem hlt⟩
        obtain ⟨b, off, rfl, hrow⟩ : ∃ b off, sa = some ⟨b, off, none⟩ ∧ ∀ i s, slots[i]? = some s → SlotAt w b (off + i * 7) s := by
          rcases HS3.out with h | h
          · subst h; simp at hlt
          · exact h
        obtain ⟨k, n, t, a, len, cap, ⟨g0, g1, g2, g3, g4, g5, g6⟩, hI, hsn, hdf⟩ := slotAt_form (slotAt_below (HB0.out.trans (hbl.mono HB0.out.size)) (hrow q s hs))
        have hGr := great_any s.df wr _ hdf
        have HS := Lib.hid hs; have HR := Lib.hid hrow
        unfold maxLen at hsn
        clear hs hrow hdf
        obtain ⟨gv, hgv⟩ : ∃ gv, greatV s.df = gv := ⟨_, rfl⟩
        rw [hgv] at hGr
        have HG := Lib.hid hgv
        clear hgv
        cases gv with
        | true =>
          have hcon : slots.any greatS = true := any_at _ _ q s HS.out (by simp [greatS, HG.out])
          go_wp2_with (go_at_call 19; (with_reducible refine hGr.mono ?_); rintro e w2 ⟨rfl, hB2⟩; obtain ⟨y0, y1, y2⟩ := HCX.out _ (hbl.trans (hB2.mono hbl.size)))
          go_ret
          exact ⟨ret_bool (by rw [← HGG.out, hcon]; rfl), HB0.out.trans ((hbl.trans (hB2.mono hbl.size)).mono HB0.out.size)⟩
        | false =>
          by_cases hb : 300 < s.nm.size
          · have hcon : slots.any greatS = true := any_at _ _ q s HS.out (by simp [greatS, hb])
            have d4 : decide ((300 : Int) < (s.nm.size : Int)) = true := by simp; omega
            go_wp2_with (go_at_call 19; (with_reducible refine hGr.mono ?_); rintro e w2 ⟨rfl, hB2⟩; obtain ⟨y0, y1, y2⟩ := HCX.out _ (hbl.trans (hB2.mono hbl.size)); have f0 := cell_below hB2 g0)
            go_ret
            exact ⟨ret_bool (by rw [← HGG.out, hcon]; rfl), HB0.out.trans ((hbl.trans (hB2.mono hbl.size)).mono HB0.out.size)⟩
          · have d4 : decide ((300 : Int) < (s.nm.size : Int)) = false := by simp; omega
            go_wp2_with (go_at_call 19; (with_reducible refine hGr.mono ?_); rintro e w2 ⟨rfl, hB2⟩; obtain ⟨y0, y1, y2⟩ := HCX.out _ (hbl.trans (hB2.mono hbl.size)); have f0 := cell_below hB2 g0)
            go_roundw
            case rel => exact ⟨q + 1, by omega, by go_num, hbl.trans (hB2.mono hbl.size), fun j s' hj hs' => by
              rcases Nat.lt_or_ge j q with h | h
              · exact HNO.out j s' h hs'
              · obtain rfl : j = q := by omega
                rw [HS.out] at hs'
                cases hs'
                simp [greatS, HG.out, hb]⟩
            case measure => simp [intOf]; omega
      · obtain rfl : q = slots.length := by omega
        have hd : decide ((slots.length : Int) < (slots.length : Int)) = false := by simp
        have hcon : slots.any greatS = false := any_take _ _ (fun j s h => HNO.out j s ((List.getElem?_eq_some_iff.1 h).1) h)
        have HF1 := Lib.hid hcon
        go_wp2
        obtain ⟨W2, hW2⟩ : ∃ W2, wr = W2 := ⟨_, rfl⟩
        rw [hW2] at hbl ⊢
        clear hW2 x0 x1 x2 HNO hcon
        go_loopw [4] (fun i wr => ∃ q : Nat, q ≤ steps.length ∧ i = .int .i64 (q : Int) ∧ Below W1.heap.size W1 wr ∧ ∀ j s, j < q → steps[j]? = some s → greatP s = false) (fun i _ => steps.length - (intOf i).toNat)
        case atStart => exact ⟨0, Nat.zero_le _, rfl, hbl, fun j s h => by omega⟩
        case round =>
          clear hbl
          obtain ⟨q, hq, rfl, hbl, hno⟩ := hrel
          obtain ⟨x0, x1, x2⟩ := HCX.out _ hbl
          have HNO := Lib.hid hno
          clear hno
          rcases Nat.lt_or_ge q steps.length with hlt | hge
          · have hd : decide ((q : Int) < (steps.length : Int)) = true := by simp; omega
            obtain ⟨s, hs⟩ : ∃ s, steps[q]? = some s := ⟨steps[q], List.getElem?_eq_getElem hlt⟩
            obtain ⟨b, off, rfl, hrow⟩ : ∃ b off, ta = some ⟨b, off, none⟩ ∧ ∀ i s, steps[i]? = some s → StepAt w b (off + i * 10) s := by
              rcases HT3.out with h | h
              · subst h; simp at hlt
              · exact h
            obtain ⟨oa, oc, ⟨e0, e1, e9⟩, _, _, hsl, hod, _⟩ := stepAt_below (HB0.out.trans (hbl.mono HB0.out.size)) (hrow q s hs)
            obtain ⟨k, n, t, a, len, cap, ⟨g0, g1, g2, g3, g4, g5, g6⟩, hI, hsn, hdf⟩ := slotAt_form hsl
            have hGr := great_any s.sl.df wr _ hdf
            have hoc := hod.2.1
            have hoc2 := hod.2.2.1
            have HS := Lib.hid hs; have HR := Lib.hid hrow
            unfold maxLen at hsn hoc2
            clear hs hrow hdf hsl hod
            obtain ⟨gv, hgv⟩ : ∃ gv, greatV s.sl.df = gv := ⟨_, rfl⟩
            rw [hgv] at hGr
            have HG := Lib.hid hgv
            clear hgv
            cases gv with
            | true =>
              have hcon : steps.any greatP = true := any_at _ _ q s HS.out (by simp [greatP, HG.out])
              go_wp2_with (go_at_call 19; (with_reducible refine hGr.mono ?_); rintro e w2 ⟨rfl, hB2⟩; obtain ⟨y0, y1, y2⟩ := HCX.out _ (hbl.trans (hB2.mono hbl.size)))
              go_ret
              exact ⟨ret_bool (by rw [← HGG.out, HF1.out, hcon]; rfl), HB0.out.trans ((hbl.trans (hB2.mono hbl.size)).mono HB0.out.size)⟩
            | false =>
              by_cases hb : 300 < s.sl.nm.size
              · have hcon : steps.any greatP = true := any_at _ _ q s HS.out (by simp [greatP, hb])
                have d4 : decide ((300 : Int) < (s.sl.nm.size : Int)) = true := by simp; omega
                go_wp2_with (go_at_call 19; (with_reducible refine hGr.mono ?_); rintro e w2 ⟨rfl, hB2⟩; obtain ⟨y0, y1, y2⟩ := HCX.out _ (hbl.trans (hB2.mono hbl.size)); have f0 := cell_below hB2 g0)
                go_ret
                exact ⟨ret_bool (by rw [← HGG.out, HF1.out, hcon]; rfl), HB0.out.trans ((hbl.trans (hB2.mono hbl.size)).mono HB0.out.size)⟩
              · have d4 : decide ((300 : Int) < (s.sl.nm.size : Int)) = false := by simp; omega
                by_cases hbo : 30 < s.od.length
                · have hcon : steps.any greatP = true := any_at _ _ q s HS.out (by simp [greatP, hbo])
                  have d5 : decide ((30 : Int) < (s.od.length : Int)) = true := by simp; omega
                  go_wp2_with (go_at_call 19; (with_reducible refine hGr.mono ?_); rintro e w2 ⟨rfl, hB2⟩; obtain ⟨y0, y1, y2⟩ := HCX.out _ (hbl.trans (hB2.mono hbl.size)); have f0 := cell_below hB2 g0; have f9 := cell_below hB2 e9)
                  go_ret
                  exact ⟨ret_bool (by rw [← HGG.out, HF1.out, hcon]; rfl), HB0.out.trans ((hbl.trans (hB2.mono hbl.size)).mono HB0.out.size)⟩
                · have d5 : decide ((30 : Int) < (s.od.length : Int)) = false := by simp; omega
                  go_wp2_with (go_at_call 19; (with_reducible refine hGr.mono ?_); rintro e w2 ⟨rfl, hB2⟩; obtain ⟨y0, y1, y2⟩ := HCX.out _ (hbl.trans (hB2.mono hbl.size)); have f0 := cell_below hB2 g0; have f9 := cell_below hB2 e9)
                  go_roundw
                  case rel => exact ⟨q + 1, by omega, by go_num, hbl.trans (hB2.mono hbl.size), fun j s' hj hs' => by
                    rcases Nat.lt_or_ge j q with h | h
                    · exact HNO.out j s' h hs'
                    · obtain rfl : j = q := by omega
                      rw [HS.out] at hs'
                      cases hs'
                      simp [greatP, HG.out, hb, hbo]⟩
                  case measure => simp [intOf]; omega
          · obtain rfl : q = steps.length := by omega
            have hd : decide ((steps.length : Int) < (steps.length : Int)) = false := by simp
            have hcon : steps.any greatP = false := any_take _ _ (fun j s h => HNO.out j s ((List.getElem?_eq_some_iff.1 h).1) h)
            go_wp2
            go_ret
            exact ⟨ret_bool (by rw [← HGG.out, HF1.out, hcon]; rfl), HB0.out.trans (hbl.mono HB0.out.size)⟩
end Go.Proofs.Ytibjjclfonpibaa
