/- The document's Great of layer 10. -/
import Derived.Test.YtdogdbibhmhooaaGreatMh6Regi
import Derived.Test.YtdogdbibhmhooaaGreatMh2Regi
import Derived.Test.YtdogdbibhmhooaaGreatMh4Regi
import Derived.Deep.RegionHeld3
import Derived.Test.YtdogdbibhmhooaaGreatMh0Regi
import Derived.Deep.QuietTactic
import Derived.BigQuiet
import Derived.Deep.DeepCutAuto
set_option linter.unusedVariables false
set_option maxRecDepth 100000
namespace Go.Proofs.YtdogdbibhmhooaaGreat
open Go.RowKit Go.Shelf
def greatS (s : SlotM) : Bool := greatV s.df || decide (300 < s.nm.size)
def greatP (t : StepM) : Bool := greatV t.sl.df || decide (300 < t.sl.nm.size) || decide (30 < t.od.length)
def greatT (t : TemplM) : Bool := (decide (30 < t.slots.length) || decide (30 < t.steps.length) || decide (300 < t.nm.size)) || (t.slots.any greatS || t.steps.any greatP)
theorem slotAt_form {w : World} {b o : Nat} {s : SlotM} (h : SlotAt w b o s) : ∃ k n t a len cap,
    (w.cell? ⟨b, o, none⟩ = some (.string s.nm) ∧ w.cell? ⟨b, o + 1, none⟩ = some (.int .i64 s.ty) ∧ w.cell? ⟨b, o + 2, none⟩ = some (.bool s.rq) ∧ w.cell? ⟨b, o + 3, none⟩ = some (.int .i64 k) ∧ w.cell? ⟨b, o + 4, none⟩ = some (.int .i64 n) ∧ w.cell? ⟨b, o + 5, none⟩ = some (.string t) ∧ w.cell? ⟨b, o + 6, none⟩ = some (.slice a len cap)) ∧
    I64 s.ty ∧ s.nm.size ≤ maxLen ∧ Is w s.df (.agg #[.int .i64 k, .int .i64 n, .string t, .slice a len cap]) := by
  obtain ⟨c0, c1, c2, c3, c4, c5, c6, ⟨g0, g1, g2, g3, g4, g5, g6⟩, h1, h2, rfl, rfl, rfl, h3⟩ := h
  have h4 := h3
  cases hd : s.df with
  | mk k n t l =>
    rw [hd] at h4
    unfold Is at h4
    obtain ⟨_, _, _, a, cap, e, _⟩ := h4
    simp only [Value.agg.injEq, Array.mk.injEq, List.cons.injEq, and_true] at e
    obtain ⟨rfl, rfl, rfl, rfl⟩ := e
    rw [hd] at h3
    exact ⟨_, _, _, _, _, _, ⟨g0, g1, g2, g3, g4, g5, g6⟩, h2, h1, h3⟩
theorem any_take {α : Type} (p : α → Bool) (l : List α) (h : ∀ (q : Nat) (x : α), l[q]? = some x → p x = false) : l.any p = false := by
  rw [List.any_eq_false]
  intro x hx
  obtain ⟨i, hi⟩ := List.mem_iff_getElem?.1 hx
  simp [h i x hi]
theorem any_at {α : Type} (p : α → Bool) (l : List α) (q : Nat) (x : α) (h : l[q]? = some x) (hp : p x = true) : l.any p = true := List.any_eq_true.2 ⟨x, List.mem_of_getElem? h, hp⟩
set_option maxRecDepth 100000 in
set_option maxHeartbeats 4000000 in
theorem refGreat10_any (t : TemplM) (w : World) (x : Value) (hi : IsTempl w t x) : Calls Tryz.prog 27 #[x] w fun e w' => e = .returned (.bool (greatT t)) ∧ Below w.heap.size w w' := by
  obtain ⟨nm, slots, steps⟩ := t
  obtain ⟨hnm, sa, sc, ta, tc, rfl, ⟨hs1, hs2, hs3⟩, ⟨ht1, ht2, ht3⟩⟩ := hi
  simp only at hnm hs1 ht1 hs3 ht3 ⊢
  have hB0 := (Below.refl _ w).alloc (Nat.le_refl _) (.cells #[.string nm, .slice sa slots.length sc, .slice ta steps.length tc] 45)
  have hcx : ∀ W, Below (w.alloc (.cells #[.string nm, .slice sa slots.length sc, .slice ta steps.length tc] 45)).heap.size (w.alloc (.cells #[.string nm, .slice sa slots.length sc, .slice ta steps.length tc] 45)) W → W.cell? ⟨w.heap.size, 0, none⟩ = some (.string nm) ∧ W.cell? ⟨w.heap.size, 1, none⟩ = some (.slice sa slots.length sc) ∧ W.cell? ⟨w.heap.size, 2, none⟩ = some (.slice ta steps.length tc) := fun W hb =>
    ⟨cell_below hb (by simp), cell_below hb (by simp), cell_below hb (by simp)⟩
  obtain ⟨x0, x1, x2⟩ := hcx _ (Below.refl _ _)
  unfold maxLen at hnm hs2 ht2
  have HCX := Lib.hid hcx
  clear hcx
  unfold greatT
  by_cases h1 : (decide (30 < slots.length) || decide (30 < steps.length) || decide (300 < nm.size)) = true
  · simp only [h1, Bool.true_or]
    simp only [Bool.or_eq_true, decide_eq_true_eq] at h1
    by_cases k1 : 30 < slots.length
    · have d1 : decide ((30 : Int) < (slots.length : Int)) = true := by simp; omega
      clear hs3 ht3
      go_enter Tryz.func27, Tryz.ntmps27
      go_wp2
      go_ret
      exact ⟨rfl, hB0⟩
    · have d1 : decide ((30 : Int) < (slots.length : Int)) = false := by simp; omega
      by_cases k2 : 30 < steps.length
      · have d2 : decide ((30 : Int) < (steps.length : Int)) = true := by simp; omega
        clear hs3 ht3
        go_enter Tryz.func27, Tryz.ntmps27
        go_wp2
        go_ret
        exact ⟨rfl, hB0⟩
      · have d2 : decide ((30 : Int) < (steps.length : Int)) = false := by simp; omega
        have d3 : decide ((300 : Int) < (nm.size : Int)) = true := by simp; omega
        clear hs3 ht3
        go_enter Tryz.func27, Tryz.ntmps27
        go_wp2
        go_ret
        exact ⟨rfl, hB0⟩
  · simp only [Bool.not_eq_true] at h1
    rw [h1, Bool.false_or]
    simp only [Bool.or_eq_false_iff, decide_eq_false_iff_not] at h1
    have d1 : decide ((30 : Int) < (slots.length : Int)) = false := by simp; omega
    have d2 : decide ((30 : Int) < (steps.length : Int)) = false := by simp; omega
    have d3 : decide ((300 : Int) < (nm.size : Int)) = false := by simp; omega
    have HS3 := Lib.hid hs3; have HT3 := Lib.hid ht3
    clear hs3 ht3
    have hl30 : slots.length ≤ 30 := by omega
    have hp30 : steps.length ≤ 30 := by omega
    clear h1
    obtain ⟨G, hG⟩ : ∃ G, (slots.any greatS || steps.any greatP) = G := ⟨_, rfl⟩
    rw [hG]
    have HGG := Lib.hid hG
    clear hG
    go_enter Tryz.func27, Tryz.ntmps27
    go_wp2
    obtain ⟨W1, hW1⟩ : ∃ W1, w.alloc (.cells #[.string nm, .slice sa slots.length sc, .slice ta steps.length tc] 45) = W1 := ⟨_, rfl⟩
    rw [hW1] at HCX hB0 ⊢
    obtain ⟨bT, hbT⟩ : ∃ bT, w.heap.size = bT := ⟨_, rfl⟩
    have HB0 := Lib.hid hB0
    rw [hbT] at HCX ⊢
    clear x0 x1 x2 hW1 hB0
    go_loopw [3] (fun i wr => ∃ q : Nat, q ≤ slots.length ∧ i = .int .i64 (q : Int) ∧ Below W1.heap.size W1 wr ∧ ∀ j s, j < q → slots[j]? = some s → greatS s = false) (fun i _ => slots.length - (intOf i).toNat)
    case atStart => exact ⟨0, Nat.zero_le _, rfl, Below.refl _ _, fun j s h => by omega⟩
    case round =>
      obtain ⟨q, hq, rfl, hbl, hno⟩ := hrel
      obtain ⟨x0, x1, x2⟩ := HCX.out _ hbl
      have HNO := Lib.hid hno
      clear hno
      rcases Nat.lt_or_ge q slots.length with hlt | hge
      · have hd : decide ((q : Int) < (slots.length : Int)) = true := by simp; omega
        obtain ⟨s, hs⟩ : ∃ s, slots[q]? = some s := ⟨slots[q], List.getElem?_eq_getElem hlt⟩
        obtain ⟨b, off, rfl, hrow⟩ : ∃ b off, sa = some ⟨b, off, none⟩ ∧ ∀ i s, slots[i]? = some s → SlotAt w b (off + i * 7) s := by
          rcases HS3.out with h | h
          · subst h; simp at hlt
          · exact h
        obtain ⟨k, n, t, a, len, cap, ⟨g0, g1, g2, g3, g4, g5, g6⟩, hI, hsn, hdf⟩ := slotAt_form (slotAt_below (HB0.out.trans (hbl.mono HB0.out.size)) (hrow q s hs))
        have hGr := great_any s.df wr _ hdf
        have HS := Lib.hid hs; have HR := Lib.hid hrow
        unfold maxLen at hsn
        clear hs hrow hdf
        obtain ⟨gv, hgv⟩ : ∃ gv, greatV s.df = gv := ⟨_, rfl⟩
        rw [hgv] at hGr
        have HG := Lib.hid hgv
        clear hgv
        cases gv with
        | true =>
          have hcon : slots.any greatS = true := any_at _ _ q s HS.out (by simp [greatS, HG.out])
          go_wp2_with (go_at_call 52; (with_reducible refine hGr.mono ?_); rintro e w2 ⟨rfl, hB2⟩; obtain ⟨y0, y1, y2⟩ := HCX.out _ (hbl.trans (hB2.mono hbl.size)))
          go_ret
          exact ⟨ret_bool (by rw [← HGG.out, hcon]; rfl), HB0.out.trans ((hbl.trans (hB2.mono hbl.size)).mono HB0.out.size)⟩
        | false =>
          by_cases hb : 300 < s.nm.size
          · have hcon : slots.any greatS = true := any_at _ _ q s HS.out (by simp [greatS, hb])
            have d4 : decide ((300 : Int) < (s.nm.size : Int)) = true := by simp; omega
            go_wp2_with (go_at_call 52; (with_reducible refine hGr.mono ?_); rintro e w2 ⟨rfl, hB2⟩; obtain ⟨y0, y1, y2⟩ := HCX.out _ (hbl.trans (hB2.mono hbl.size)); have f0 := cell_below hB2 g0)
            go_ret
            exact ⟨ret_bool (by rw [← HGG.out, hcon]; rfl), HB0.out.trans ((hbl.trans (hB2.mono hbl.size)).mono HB0.out.size)⟩
          · have d4 : decide ((300 : Int) < (s.nm.size : Int)) = false := by simp; omega
            go_wp2_with (go_at_call 52; (with_reducible refine hGr.mono ?_); rintro e w2 ⟨rfl, hB2⟩; obtain ⟨y0, y1, y2⟩ := HCX.out _ (hbl.trans (hB2.mono hbl.size)); have f0 := cell_below hB2 g0)
            go_roundw
            case rel => exact ⟨q + 1, by omega, by go_num, hbl.trans (hB2.mono hbl.size), fun j s' hj hs' => by
              rcases Nat.lt_or_ge j q with h | h
              · exact HNO.out j s' h hs'
              · obtain rfl : j = q := by omega
                rw [HS.out] at hs'
                cases hs'
                simp [greatS, HG.out, hb]⟩
            case measure => simp [intOf]; omega
      · obtain rfl : q = slots.length := by omega
        have hd : decide ((slots.length : Int) < (slots.length : Int)) = false := by simp
        have hcon : slots.any greatS = false := any_take _ _ (fun j s h => HNO.out j s ((List.getElem?_eq_some_iff.1 h).1) h)
        have HF1 := Lib.hid hcon
        go_wp2
        obtain ⟨W2, hW2⟩ : ∃ W2, wr = W2 := ⟨_, rfl⟩
        rw [hW2] at hbl ⊢
        clear hW2 x0 x1 x2 HNO hcon
        go_loopw [4] (fun i wr => ∃ q : Nat, q ≤ steps.length ∧ i = .int .i64 (q : Int) ∧ Below W1.heap.size W1 wr ∧ ∀ j s, j < q → steps[j]? = some s → greatP s = false) (fun i _ => steps.length - (intOf i).toNat)
        case atStart => exact ⟨0, Nat.zero_le _, rfl, hbl, fun j s h => by omega⟩
        case round =>
          clear hbl
          obtain ⟨q, hq, rfl, hbl, hno⟩ := hrel
          obtain ⟨x0, x1, x2⟩ := HCX.out _ hbl
          have HNO := Lib.hid hno
          clear hno
          rcases Nat.lt_or_ge q steps.length with hlt | hge
          · have hd : decide ((q : Int) < (steps.length : Int)) = true := by simp; omega
            obtain ⟨s, hs⟩ : ∃ s, steps[q]? = some s := ⟨steps[q], List.getElem?_eq_getElem hlt⟩
            obtain ⟨b, off, rfl, hrow⟩ : ∃ b off, ta = some ⟨b, off, none⟩ ∧ ∀ i s, steps[i]? = some s → StepAt w b (off + i * 10) s := by
              rcases HT3.out with h | h
              · subst h; simp at hlt
              · exact h
            obtain ⟨oa, oc, ⟨e0, e1, e9⟩, _, _, hsl, hod, _⟩ := stepAt_below (HB0.out.trans (hbl.mono HB0.out.size)) (hrow q s hs)
            obtain ⟨k, n, t, a, len, cap, ⟨g0, g1, g2, g3, g4, g5, g6⟩, hI, hsn, hdf⟩ := slotAt_form hsl
            have hGr := great_any s.sl.df wr _ hdf
            have hoc := hod.2.1
            have hoc2 := hod.2.2.1
            have HS := Lib.hid hs; have HR := Lib.hid hrow
            unfold maxLen at hsn hoc2
            clear hs hrow hdf hsl hod
            obtain ⟨gv, hgv⟩ : ∃ gv, greatV s.sl.df = gv := ⟨_, rfl⟩
            rw [hgv] at hGr
            have HG := Lib.hid hgv
            clear hgv
            cases gv with
            | true =>
              have hcon : steps.any greatP = true := any_at _ _ q s HS.out (by simp [greatP, HG.out])
              go_wp2_with (go_at_call 52; (with_reducible refine hGr.mono ?_); rintro e w2 ⟨rfl, hB2⟩; obtain ⟨y0, y1, y2⟩ := HCX.out _ (hbl.trans (hB2.mono hbl.size)))
              go_ret
              exact ⟨ret_bool (by rw [← HGG.out, HF1.out, hcon]; rfl), HB0.out.trans ((hbl.trans (hB2.mono hbl.size)).mono HB0.out.size)⟩
            | false =>
              by_cases hb : 300 < s.sl.nm.size
              · have hcon : steps.any greatP = true := any_at _ _ q s HS.out (by simp [greatP, hb])
                have d4 : decide ((300 : Int) < (s.sl.nm.size : Int)) = true := by simp; omega
                go_wp2_with (go_at_call 52; (with_reducible refine hGr.mono ?_); rintro e w2 ⟨rfl, hB2⟩; obtain ⟨y0, y1, y2⟩ := HCX.out _ (hbl.trans (hB2.mono hbl.size)); have f0 := cell_below hB2 g0)
                go_ret
                exact ⟨ret_bool (by rw [← HGG.out, HF1.out, hcon]; rfl), HB0.out.trans ((hbl.trans (hB2.mono hbl.size)).mono HB0.out.size)⟩
              · have d4 : decide ((300 : Int) < (s.sl.nm.size : Int)) = false := by simp; omega
                by_cases hbo : 30 < s.od.length
                · have hcon : steps.any greatP = true := any_at _ _ q s HS.out (by simp [greatP, hbo])
                  have d5 : decide ((30 : Int) < (s.od.length : Int)) = true := by simp; omega
                  go_wp2_with (go_at_call 52; (with_reducible refine hGr.mono ?_); rintro e w2 ⟨rfl, hB2⟩; obtain ⟨y0, y1, y2⟩ := HCX.out _ (hbl.trans (hB2.mono hbl.size)); have f0 := cell_below hB2 g0; have f9 := cell_below hB2 e9)
                  go_ret
                  exact ⟨ret_bool (by rw [← HGG.out, HF1.out, hcon]; rfl), HB0.out.trans ((hbl.trans (hB2.mono hbl.size)).mono HB0.out.size)⟩
                · have d5 : decide ((30 : Int) < (s.od.length : Int)) = false := by simp; omega
                  go_wp2_with (go_at_call 52; (with_reducible refine hGr.mono ?_); rintro e w2 ⟨rfl, hB2⟩; obtain ⟨y0, y1, y2⟩ := HCX.out _ (hbl.trans (hB2.mono hbl.size)); have f0 := cell_below hB2 g0; have f9 := cell_below hB2 e9)
                  go_roundw
                  case rel => exact ⟨q + 1, by omega, by go_num, hbl.trans (hB2.mono hbl.size), fun j s' hj hs' => by
                    rcases Nat.lt_or_ge j q with h | h
                    · exact HNO.out j s' h hs'
                    · obtain rfl : j = q := by omega
                      rw [HS.out] at hs'
                      cases hs'
                      simp [greatP, HG.out, hb, hbo]⟩
                  case measure => simp [intOf]; omega
          · obtain rfl : q = steps.length := by omega
            have hd : decide ((steps.length : Int) < (steps.length : Int)) = false := by simp
            have hcon : steps.any greatP = false := any_take _ _ (fun j s h => HNO.out j s ((List.getElem?_eq_some_iff.1 h).1) h)
            go_wp2
            go_ret
            exact ⟨ret_bool (by rw [← HGG.out, HF1.out, hcon]; rfl), HB0.out.trans (hbl.mono HB0.out.size)⟩
end Go.Proofs.YtdogdbibhmhooaaGreat

/- The document's order of values: Compare, Same. -/
namespace Go.Proofs.YtdogdbibhmhooaaGreat
open Go.RowKit Go.Shelf
attribute [local go_sem] Oper.semAt_some
theorem same_bool (v v' : PV) : (cmpV v v' == 0) = true ↔ v = v' := by
  rw [beq_iff_eq]; exact cmpV_zero v v'
end Go.Proofs.YtdogdbibhmhooaaGreat

/- The document's comparisons of two slices (douaneref01's Bytes and Ints). -/
namespace Go.Proofs.YtdogdbibhmhooaaGreat
open Go.RowKit Go.Shelf
def RBytes (l r : List Int) (w : World) (e : Ending) (w' : World) : Prop := e = .returned (.bool (decide (l = r))) ∧ ∃ n, w' = w.drewN n
set_option maxHeartbeats 400000 in
theorem refBytes_any (a b : Option Addr) (n m c d : Nat) (l r : List Int) (w : World) (hl : Row w .u8 a n c l) (hr : Row w .u8 b m d r) :
    Calls Tryz.prog 12 #[.slice a n c, .slice b m d] w (RBytes l r w) := by
  obtain ⟨h1, h2, h3, h4⟩ := hl
  obtain ⟨k1, k2, k3, k4⟩ := hr
  unfold maxLen at h3 k3
  by_cases hnm : n = m
  · subst hnm
    have hb : ((n : Int) != (n : Int)) = false := by simp
    have H1 := Lib.hid h1; clear h1
    have K1 := Lib.hid k1; clear k1
    have H4 := Lib.hid h4; clear h4
    have K4 := Lib.hid k4; clear k4
    go_enter Tryz.func12, Tryz.ntmps12
    go_wp2
    go_loopw [5] (fun i wr => ∃ k nq : Nat, k ≤ n ∧ i = .int .i64 k ∧ wr = w.drewN nq ∧ ∀ j, j < k → l[j]?.getD 0 = r[j]?.getD 0)
      (fun i _ => n - (intOf i).toNat)
    case atStart => exact ⟨0, 0, Nat.zero_le _, rfl, rfl, fun j hj => by omega⟩
    case round =>
      obtain ⟨k, nq, hk, rfl, rfl, heq⟩ := hrel
      have HE := Lib.hid heq; clear heq
      by_cases hlt : k < n
      · rcases H4.out with h0 | ⟨p, o, rfl, hc⟩
        · exact absurd h0 (by omega)
        rcases K4.out with h0 | ⟨p', o', rfl, hc'⟩
        · exact absurd h0 (by omega)
        have c1 := hc k hlt
        have c2 := hc' k hlt
        clear hc hc'
        by_cases hx : l[k]?.getD 0 = r[k]?.getD 0
        · have HX := Lib.hid hx
          rw [hx] at c1
          generalize r[k]?.getD 0 = x at c1 c2
          clear hx
          have hne : (x != x) = false := by simp
          go_wp2
          go_quiet (fail)
          go_wp2
          go_roundw
          case rel => exact ⟨k + 1, _, by omega, by go_num, rfl, fun j hj => by
            rcases Nat.lt_or_ge j k with h | h
            · exact HE.out j h
            · obtain rfl : j = k := by omega
              exact HX.out⟩
          case measure => simp [intOf]; omega
        · have hne : (l[k]?.getD 0 != r[k]?.getD 0) = true := by simpa using hx
          have HX := Lib.hid hx; clear hx
          go_wp2
          go_quiet (fail)
          go_wp2
          go_ret
          refine ⟨ret_bool ?_, _, World.drewN_drewN _ _ _⟩
          have := HX.out
          simp; intro h; rw [h] at this; exact this rfl
      · obtain rfl : k = n := by omega
        go_wp2
        go_ret
        refine ⟨ret_bool ?_, _, rfl⟩
        have h1 := H1.out
        have k1 := K1.out
        simp
        exact getD_ext l r (by omega) (fun i hi => HE.out i (by omega))
  · have hb : ((n : Int) != (m : Int)) = true := by simp; omega
    have hne : l ≠ r := fun h => by rw [h] at h1; omega
    have HN := Lib.hid hne; clear hne h1 k1 h4 k4
    go_enter Tryz.func12, Tryz.ntmps12
    go_wp2
    go_ret
    exact ⟨ret_bool (by simp; exact HN.out), 0, rfl⟩
end Go.Proofs.YtdogdbibhmhooaaGreat

/- The walk of SchemaFirst: a right template cut to its first steps is right, and has the same versions so far. -/
set_option linter.unusedVariables false
set_option linter.unusedSimpArgs false
set_option maxRecDepth 100000
namespace Go.Proofs.YtdogdbibhmhooaaGreat
open Go.RowKit Go.Shelf
/-- what a version is in memory: its slots, its columns -/
def VerAt (w : World) (v : Sc.Ver) (sa : Option Addr) (sc : Nat) (ca : Option Addr) (cc : Nat) : Prop := SlotRow w sa sc v.slots ∧ Row w .i64 ca v.cols.length cc (v.cols.map Int.ofNat)
def RightC : Prop := ∀ (t : TemplM) (w : World) (X : Value), greatT t = false → IsTempl w t X → Calls Tryz.prog 58 #[X] w fun e w' => e = .returned (.bool (Sc.vers t).isSome) ∧ Below w.heap.size w w'
theorem great_len {t : TemplM} (h : greatT t = false) : t.slots.length ≤ 30 ∧ t.steps.length ≤ 30 := by
  unfold greatT at h
  simp only [Bool.or_eq_false_iff, decide_eq_false_iff_not] at h
  omega
namespace schemaFirstWalk
end schemaFirstWalk
end Go.Proofs.YtdogdbibhmhooaaGreat

/- The program's schema: Col, and rows of numbers (slices.Equal, Index, Contains). -/
set_option linter.unusedVariables false
set_option linter.unusedSimpArgs false
namespace Go.Proofs.YtdogdbibhmhooaaGreat
open Go.RowKit Go.Shelf
theorem row_nth {W : World} {a : Option Addr} {n c : Nat} {l : List Int} (h : Row W .i64 a n c l) (i : Nat) (hi : i < n) : ∃ b off, a = some ⟨b, off, none⟩ ∧ W.cell? ⟨b, off + i, none⟩ = some (.int .i64 (l[i]?.getD 0)) := by
  obtain ⟨h1, h2, h3, h4⟩ := h
  rcases h4 with h4 | ⟨b, off, rfl, hc⟩
  · omega
  · exact ⟨b, off, rfl, by have := hc i (by omega); simpa [List.getElem?_eq_getElem (show i < l.length by omega)] using this⟩
set_option maxRecDepth 100000 in
set_option maxHeartbeats 2000000 in
theorem equalI_any (a b : Option Addr) (n m c d : Nat) (l r : List Int) (w : World) (hl : Row w .i64 a n c l) (hr : Row w .i64 b m d r) :
    Calls Tryz.prog 99 #[.slice a n c, .slice b m d] w (RBytes l r w) := by
  obtain ⟨h1, h2, h3, h4⟩ := hl
  obtain ⟨k1, k2, k3, k4⟩ := hr
  unfold maxLen at h3 k3
  by_cases hnm : n = m
  · subst hnm
    have hb : ((n : Int) != (n : Int)) = false := by simp
    have H1 := Lib.hid h1; clear h1
    have K1 := Lib.hid k1; clear k1
    have H4 := Lib.hid h4; clear h4
    have K4 := Lib.hid k4; clear k4
    go_enter Tryz.func99, Tryz.ntmps99
    go_wp2
    go_loopw [13] (fun i wr => ∃ k nq : Nat, k ≤ n ∧ i = .int .i64 k ∧ wr = w.drewN nq ∧ ∀ j, j < k → l[j]?.getD 0 = r[j]?.getD 0)
      (fun i _ => n - (intOf i).toNat)
    case atStart => exact ⟨0, 0, Nat.zero_le _, rfl, rfl, fun j hj => by omega⟩
    case round =>
      obtain ⟨k, nq, hk, rfl, rfl, heq⟩ := hrel
      have HE := Lib.hid heq; clear heq
      by_cases hlt : k < n
      · rcases H4.out with h0 | ⟨p, o, rfl, hc⟩
        · exact absurd h0 (by omega)
        rcases K4.out with h0 | ⟨p', o', rfl, hc'⟩
        · exact absurd h0 (by omega)
        have c1 := hc k hlt
        have c2 := hc' k hlt
        clear hc hc'
        by_cases hx : l[k]?.getD 0 = r[k]?.getD 0
        · have HX := Lib.hid hx
          rw [hx] at c1
          generalize r[k]?.getD 0 = x at c1 c2
          clear hx
          have hne : (x != x) = false := by simp
          go_wp2
          go_quiet (fail)
          go_wp2
          go_roundw
          case rel => exact ⟨k + 1, _, by omega, by go_num, rfl, fun j hj => by
            rcases Nat.lt_or_ge j k with h | h
            · exact HE.out j h
            · obtain rfl : j = k := by omega
              exact HX.out⟩
          case measure => simp [intOf]; omega
        · have hne : (l[k]?.getD 0 != r[k]?.getD 0) = true := by simpa using hx
          have HX := Lib.hid hx; clear hx
          go_wp2
          go_quiet (fail)
          go_wp2
          go_ret
          refine ⟨ret_bool ?_, _, World.drewN_drewN _ _ _⟩
          have := HX.out
          simp; intro h; rw [h] at this; exact this rfl
      · obtain rfl : k = n := by omega
        go_wp2
        go_ret
        refine ⟨ret_bool ?_, _, rfl⟩
        have h1 := H1.out
        have k1 := K1.out
        simp
        exact getD_ext l r (by omega) (fun i hi => HE.out i (by omega))
  · have hb : ((n : Int) != (m : Int)) = true := by simp; omega
    have hne : l ≠ r := fun h => by rw [h] at h1; omega
    have HN := Lib.hid hne; clear hne h1 k1 h4 k4
    go_enter Tryz.func99, Tryz.ntmps99
    go_wp2
    go_ret
    exact ⟨ret_bool (by simp; exact HN.out), 0, rfl⟩
set_option maxRecDepth 100000 in
set_option maxHeartbeats 2000000 in
theorem index_any (a : Option Addr) (n c : Nat) (l : List Int) (x : Int) (w : World) (hr : Row w .i64 a n c l) : Calls Tryz.prog 182 #[.slice a n c, .int .i64 x] w fun e w' => (∃ r : Int, e = .returned (.int .i64 r) ∧ decide (r ≥ 0) = decide (x ∈ l)) ∧ ∃ k, w' = w.drewN k := by
  obtain ⟨h1, h2, h3, h4⟩ := hr
  unfold maxLen at h3
  have H1 := Lib.hid h1; clear h1
  have H4 := Lib.hid h4; clear h4
  go_enter Tryz.func182, Tryz.ntmps182
  go_wp2
  go_loopw [8] (fun i wr => ∃ k nq : Nat, k ≤ n ∧ i = .int .i64 k ∧ wr = w.drewN nq ∧ ∀ j, j < k → l[j]?.getD 0 ≠ x)
    (fun i _ => n - (intOf i).toNat)
  case atStart => exact ⟨0, 0, Nat.zero_le _, rfl, rfl, fun j hj => by omega⟩
  case round =>
    obtain ⟨k, nq, hk, rfl, rfl, heq⟩ := hrel
    have HE := Lib.hid heq; clear heq
    by_cases hlt : k < n
    · rcases H4.out with h0 | ⟨p, o, rfl, hc⟩
      · exact absurd h0 (by omega)
      have c1 := hc k hlt
      have hm : l[k]?.getD 0 ∈ l := by
        have := H1.out
        rw [List.getElem?_eq_getElem (by omega)]
        exact List.getElem_mem _
      clear hc
      by_cases hx : l[k]?.getD 0 = x
      · rw [hx] at c1 hm
        have hne : (x == x) = true := by simp
        have HM := Lib.hid hm
        clear hx hm
        go_wp2
        go_ret
        exact ⟨⟨_, rfl, by rw [decide_eq_true HM.out]; simp⟩, _, rfl⟩
      · have HX := Lib.hid hx
        generalize l[k]?.getD 0 = y at c1 hx
        have hne : (x == y) = false := by simpa using fun h => hx h.symm
        clear hx hm
        go_wp2
        go_roundw
        case rel => exact ⟨k + 1, _, by omega, by go_num, rfl, fun j hj => by
          rcases Nat.lt_or_ge j k with h | h
          · exact HE.out j h
          · obtain rfl : j = k := by omega
            exact HX.out⟩
        case measure => simp [intOf]; omega
    · obtain rfl : k = n := by omega
      go_wp2
      go_ret
      refine ⟨⟨_, rfl, ?_⟩, _, rfl⟩
      have hno : ¬ x ∈ l := fun hm => by
        obtain ⟨i, hi⟩ := List.mem_iff_getElem?.1 hm
        have h1 := H1.out
        exact HE.out i (by have := (List.getElem?_eq_some_iff.1 hi).1; omega) (by rw [hi]; rfl)
      rw [decide_eq_false hno]; rfl
set_option maxRecDepth 100000 in
set_option maxHeartbeats 2000000 in
theorem contains_any (a : Option Addr) (n c : Nat) (l : List Int) (x : Int) (w : World) (hr : Row w .i64 a n c l) : Calls Tryz.prog 176 #[.slice a n c, .int .i64 x] w fun e w' => e = .returned (.bool (decide (x ∈ l))) ∧ ∃ k, w' = w.drewN k := by
  have hI := index_any a n c l x w hr
  go_enter Tryz.func176, Tryz.ntmps176
  go_wp2_with (go_at_call 182; (with_reducible refine hI.mono ?_); rintro e w1 ⟨⟨r, rfl, hd⟩, k, rfl⟩)
  go_ret
  exact ⟨ret_bool (by first | rfl | exact hd), _, rfl⟩
set_option maxRecDepth 100000 in
set_option maxHeartbeats 4000000 in
theorem col_any (x : Sc.Ver) (sa : Option Addr) (sc : Nat) (ca : Option Addr) (cc : Nat) (nm : ByteArray) (w : World) (hin : ∀ c ∈ x.cols, c < x.slots.length) (hnm : nm.size ≤ maxLen) (hv : VerAt w x sa sc ca cc) :
    Calls Tryz.prog 154 #[.agg #[.slice sa x.slots.length sc, .slice ca x.cols.length cc], .string nm] w fun e w' => e = .returned (.int .i64 (Sc.colI x nm)) ∧ Below w.heap.size w w' := by
  obtain ⟨slots, cols⟩ := x
  obtain ⟨⟨hs1, hs2, hs3⟩, hr1, hr2, hr3, hr4⟩ := hv
  simp only at hin hs1 hs3 hr2 hr4 ⊢
  unfold maxLen at hs2 hr3
  obtain ⟨G, hG⟩ : ∃ G, Sc.colI ⟨slots, cols⟩ nm = G := ⟨_, rfl⟩
  rw [hG]
  have HGG := Lib.hid hG
  clear hG
  have HS := Lib.hid hs3; have HR := Lib.hid hr4; have HIN := Lib.hid hin
  clear hs3 hr4 hin
  have hB0 := (Below.refl _ w).alloc (Nat.le_refl _) (.cells #[.slice sa slots.length sc, .slice ca cols.length cc] 146)
  have x0 : World.cell? (w.alloc (.cells #[.slice sa slots.length sc, .slice ca cols.length cc] 146)) ⟨w.heap.size, 0, none⟩ = some (.slice sa slots.length sc) := by simp
  have x1 : World.cell? (w.alloc (.cells #[.slice sa slots.length sc, .slice ca cols.length cc] 146)) ⟨w.heap.size, 1, none⟩ = some (.slice ca cols.length cc) := by simp
  go_enter Tryz.func154, Tryz.ntmps154
  go_wp2
  obtain ⟨W1, hW1⟩ : ∃ W1, w.alloc (.cells #[.slice sa slots.length sc, .slice ca cols.length cc] 146) = W1 := ⟨_, rfl⟩
  obtain ⟨b, hb⟩ : ∃ b, w.heap.size = b := ⟨_, rfl⟩
  have HB0 := Lib.hid hB0
  rw [hW1] at x0 x1 HB0 ⊢
  rw [hb] at x0 x1 ⊢
  clear hB0 hW1 hb
  go_loopw [10] (fun i wr => ∃ q nq : Nat, q ≤ cols.length ∧ i = .int .i64 (q : Int) ∧ wr = W1.drewN nq ∧ ∀ j c, j < q → cols[j]? = some c → Sc.eqN (Sc.slotOf ⟨slots, cols⟩ c).nm nm = false) (fun i _ => cols.length - (intOf i).toNat)
  case atStart => exact ⟨0, 0, Nat.zero_le _, rfl, rfl, fun j c h => by omega⟩
  case round =>
    obtain ⟨q, nq, hq, rfl, rfl, hno⟩ := hrel
    have HNO := Lib.hid hno
    clear hno
    rcases Nat.lt_or_ge q cols.length with hlt | hge
    · have hd : decide ((q : Int) < (cols.length : Int)) = true := by simp; omega
      obtain ⟨c, hc⟩ : ∃ c, cols[q]? = some c := ⟨cols[q], List.getElem?_eq_getElem hlt⟩
      have hcl := HIN.out c (List.mem_of_getElem? hc)
      obtain ⟨cb, co, rfl, hcol⟩ : ∃ b off, ca = some ⟨b, off, none⟩ ∧ ∀ i, i < cols.length → w.cell? ⟨b, off + i, none⟩ = some (.int .i64 ((cols.map Int.ofNat)[i]?.getD 0)) := by
        rcases HR.out with h | h
        · exact absurd h (by omega)
        · exact h
      obtain ⟨sb, so, rfl, hrow⟩ : ∃ b off, sa = some ⟨b, off, none⟩ ∧ ∀ i s, slots[i]? = some s → SlotAt w b (off + i * 7) s := by
        rcases HS.out with h | h
        · subst h; simp at hcl
        · exact h
      obtain ⟨s, hs⟩ : ∃ s, slots[c]? = some s := ⟨slots[c], List.getElem?_eq_getElem hcl⟩
      obtain ⟨k, n, t, a, len, cap, ⟨g0, _⟩, _⟩ := slotAt_form (hrow c s hs)
      have e1 := cell_below HB0.out (hcol q hlt)
      have e2 := cell_below HB0.out g0
      rw [List.getElem?_map, hc] at e1
      simp only [Option.map_some, Option.getD_some, Int.ofNat_eq_natCast] at e1
      have hso : Sc.slotOf ⟨slots, cols⟩ c = s := by unfold Sc.slotOf; simp [hs]
      have HC := Lib.hid hc; have HSO := Lib.hid hso
      clear hc hcol hrow hs g0 hso
      have d0 : decide ((c : Int) ≥ 0) = true := by simp
      have d1 : decide ((c : Int) < (slots.length : Int)) = true := by simp; omega
      obtain ⟨B, hB⟩ : ∃ B, Sc.eqN s.nm nm = B := ⟨_, rfl⟩
      have heq : (s.nm.toList == nm.toList) = B := by
        rw [← hB]
        unfold Sc.eqN
        rw [Bool.eq_iff_iff, beq_iff_eq, decide_eq_true_eq, toList_data, toList_data]
      have HB := Lib.hid hB
      clear hB
      cases B with
      | true =>
        have hans : Sc.colI ⟨slots, cols⟩ nm = (c : Int) := by
          unfold Sc.colI Sc.col
          rw [Sc.find_at _ cols q c (fun j y hj hy => HNO.out j y hj hy) HC.out (by rw [HSO.out, HB.out])]
        have HANS := Lib.hid hans
        clear hans
        go_wp2
        go_ret
        exact ⟨ret_int (HANS.out.symm.trans HGG.out), below_drewN HB0.out _⟩
      | false =>
        go_wp2
        go_roundw
        case rel => exact ⟨q + 1, _, by omega, by go_num, rfl, fun j y hj hy => by
          rcases Nat.lt_or_ge j q with h | h
          · exact HNO.out j y h hy
          · obtain rfl : j = q := by omega
            rw [HC.out] at hy
            cases hy
            rw [HSO.out, HB.out]⟩
        case measure => simp [intOf]; omega
    · obtain rfl : q = cols.length := by omega
      have hd : decide ((cols.length : Int) < (cols.length : Int)) = false := by simp
      have hans : Sc.colI ⟨slots, cols⟩ nm = -1 := by
        unfold Sc.colI Sc.col
        rw [Sc.find_no _ cols (fun j y hy => HNO.out j y ((List.getElem?_eq_some_iff.1 hy).1) hy)]
      have HANS := Lib.hid hans
      clear hans
      go_wp2
      go_ret
      exact ⟨ret_int (HANS.out.symm.trans HGG.out), below_drewN HB0.out _⟩
end Go.Proofs.YtdogdbibhmhooaaGreat
