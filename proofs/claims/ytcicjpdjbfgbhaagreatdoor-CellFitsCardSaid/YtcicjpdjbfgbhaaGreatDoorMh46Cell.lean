/- The walk of CellFits: a value that fits a slot is that of its field, and what a field says fits. -/
import Derived.Test.YtcicjpdjbfgbhaaGreatDoorMh45Cell
import Derived.Test.YtcicjpdjbfgbhaaGreatDoorMh37Cell
import Derived.Test.YtcicjpdjbfgbhaaGreatDoorMh11Cell
import Derived.Deep.DeepCutAuto
import Derived.Deep.RegionHeldLaw
import Derived.Deep.RegionHeld3
set_option linter.unusedVariables false
set_option linter.unusedSimpArgs false
set_option maxRecDepth 100000
namespace Go.Proofs.YtcicjpdjbfgbhaaGreatDoor.cellFitsWalk
open Go.RowKit Go.Shelf
theorem same_boolC (v v' : PV) : (cmpV v v' == 0) = true ↔ v = v' := by
  rw [beq_iff_eq]; exact cmpV_zero v v'
theorem bl_alloc {n : Nat} {A W : World} (h : Below n A W) (hn : n ≤ A.heap.size) (o : Obj) : Below n A (W.alloc o) := h.alloc (Nat.le_trans hn h.size) o
theorem bl_drew {n : Nat} {A W : World} (h : Below n A W) : Below n A W.drew := h.drew
theorem bl_set {n : Nat} {A W : World} (h : Below n A W) {g i : Nat} {v : Value} (hg : n ≤ g) : Below n A (W.setCell ⟨g, i, none⟩ v) := h.setCell (p := ⟨g, i, none⟩) hg v
theorem bl_call {n : Nat} {A V W : World} (k : Below V.heap.size V W) (h : Below n A V) (hn : n ≤ A.heap.size) : Below n A W := h.trans (k.mono (Nat.le_trans hn h.size))
theorem size_of (l : List Int) : (strOfNums l).size = l.length := by unfold strOfNums; simp [ByteArray.size]
theorem fits_right {ty : Int} {v : PV} (h : Sc.fits ty v = true) : rightV v = true := by simp only [Sc.fits, Bool.and_eq_true] at h; exact h.1
/-- a field is short -/
theorem field_short (ty : Int) (v : PV) (hn : numsV v) : (fieldT ty v).size ≤ 50000 := by
  unfold fieldT
  split
  · rename_i h
    split
    · rename_i hb
      obtain ⟨s, rfl, hs⟩ := fits_bare h hb
      simp only; omega
    · obtain ⟨_, h2, h3⟩ := right_okC (fits_right h)
      have := text_short14 v h3 hn
      rw [size_of]; omega
  · decide
theorem text_len (ty : Int) (v : PV) (hn : numsV v) (h : Sc.fits ty v = true) : (textV v).length ≤ 1000000000 := by
  obtain ⟨_, h2, h3⟩ := right_okC (fits_right h)
  have := text_short14 v h3 hn
  omega
set_option maxHeartbeats 8000000 in
theorem walk (sl : SlotM) (x : Value) (v : PV) (y : Value) (s : ByteArray) (w : World) (hs : IsSlot w sl x) (hv : Is w v y) (hsz9 : s.size ≤ maxLen) (hK : KindsAt w) (hBa : BareAt w) :
    Calls Tryz.prog 3 #[x, y, .string s] w fun e w' => e = .returned (.bool true) ∧ Below w.heap.size w w' := by
  have hIS := fun W (hb : Below w.heap.size w W) => isSlot_below hb hs
  have hIV := fun W (hb : Below w.heap.size w W) => is_below hb _ _ hv
  have hnv := nums_is _ _ hv
  obtain ⟨k0, n0, t0, a0, len0, cap0, rfl, hI, hnm, hd⟩ := slot7_form hs
  have hsz := great_sz v
  have hgr := fun W => great_any v W y
  obtain ⟨k, n, t, a, len, cap, rfl⟩ : ∃ k n t a len cap, y = .agg #[.int .i64 k, .int .i64 n, .string t, .slice a len cap] := by
    cases v
    unfold Is at hv
    obtain ⟨_, _, _, a, cap, rfl, _⟩ := hv
    exact ⟨_, _, _, _, _, _, rfl⟩
  obtain ⟨ty, hty⟩ : ∃ ty, sl.ty = ty := ⟨_, rfl⟩
  rw [hty] at hs hIS
  rw [hty]
  have hb1w := (Below.refl _ w).alloc (Nat.le_refl _) (.cells #[.string sl.nm, .int .i64 ty, .bool sl.rq, .int .i64 k0, .int .i64 n0, .string t0, .slice a0 len0 cap0] 26)
  have hb2w := hb1w.alloc hb1w.size (.cells #[.int .i64 k, .int .i64 n, .string t, .slice a len cap] 24)
  have hcs : ∀ W, Below ((w.alloc (.cells #[.string sl.nm, .int .i64 ty, .bool sl.rq, .int .i64 k0, .int .i64 n0, .string t0, .slice a0 len0 cap0] 26)).alloc (.cells #[.int .i64 k, .int .i64 n, .string t, .slice a len cap] 24)).heap.size ((w.alloc (.cells #[.string sl.nm, .int .i64 ty, .bool sl.rq, .int .i64 k0, .int .i64 n0, .string t0, .slice a0 len0 cap0] 26)).alloc (.cells #[.int .i64 k, .int .i64 n, .string t, .slice a len cap] 24)) W → (W.cell? ⟨w.heap.size, 0, none⟩ = some (.string sl.nm) ∧ W.cell? ⟨w.heap.size, 1, none⟩ = some (.int .i64 ty) ∧ W.cell? ⟨w.heap.size, 2, none⟩ = some (.bool sl.rq) ∧ W.cell? ⟨w.heap.size, 3, none⟩ = some (.int .i64 k0) ∧ W.cell? ⟨w.heap.size, 4, none⟩ = some (.int .i64 n0) ∧ W.cell? ⟨w.heap.size, 5, none⟩ = some (.string t0) ∧ W.cell? ⟨w.heap.size, 6, none⟩ = some (.slice a0 len0 cap0)) ∧ (W.cell? ⟨w.heap.size + 1, 0, none⟩ = some (.int .i64 k) ∧ W.cell? ⟨w.heap.size + 1, 1, none⟩ = some (.int .i64 n) ∧ W.cell? ⟨w.heap.size + 1, 2, none⟩ = some (.string t) ∧ W.cell? ⟨w.heap.size + 1, 3, none⟩ = some (.slice a len cap)) := fun W hb =>
    ⟨⟨cell_below hb (by simp), cell_below hb (by simp), cell_below hb (by simp), cell_below hb (by simp), cell_below hb (by simp), cell_below hb (by simp), cell_below hb (by simp)⟩, cell_below hb (by simp), cell_below hb (by simp), cell_below hb (by simp), cell_below hb (by simp)⟩
  have HIS := Lib.hid (fun W (hb : Below ((w.alloc (.cells #[.string sl.nm, .int .i64 ty, .bool sl.rq, .int .i64 k0, .int .i64 n0, .string t0, .slice a0 len0 cap0] 26)).alloc (.cells #[.int .i64 k, .int .i64 n, .string t, .slice a len cap] 24)).heap.size ((w.alloc (.cells #[.string sl.nm, .int .i64 ty, .bool sl.rq, .int .i64 k0, .int .i64 n0, .string t0, .slice a0 len0 cap0] 26)).alloc (.cells #[.int .i64 k, .int .i64 n, .string t, .slice a len cap] 24)) W) => hIS W (hb2w.trans (hb.mono hb2w.size)))
  have HIV := Lib.hid (fun W (hb : Below ((w.alloc (.cells #[.string sl.nm, .int .i64 ty, .bool sl.rq, .int .i64 k0, .int .i64 n0, .string t0, .slice a0 len0 cap0] 26)).alloc (.cells #[.int .i64 k, .int .i64 n, .string t, .slice a len cap] 24)).heap.size ((w.alloc (.cells #[.string sl.nm, .int .i64 ty, .bool sl.rq, .int .i64 k0, .int .i64 n0, .string t0, .slice a0 len0 cap0] 26)).alloc (.cells #[.int .i64 k, .int .i64 n, .string t, .slice a len cap] 24)) W) => hIV W (hb2w.trans (hb.mono hb2w.size)))
  have HBA := Lib.hid (fun W (hb : Below ((w.alloc (.cells #[.string sl.nm, .int .i64 ty, .bool sl.rq, .int .i64 k0, .int .i64 n0, .string t0, .slice a0 len0 cap0] 26)).alloc (.cells #[.int .i64 k, .int .i64 n, .string t, .slice a len cap] 24)).heap.size ((w.alloc (.cells #[.string sl.nm, .int .i64 ty, .bool sl.rq, .int .i64 k0, .int .i64 n0, .string t0, .slice a0 len0 cap0] 26)).alloc (.cells #[.int .i64 k, .int .i64 n, .string t, .slice a len cap] 24)) W) => bare_below hBa (hb2w.trans (hb.mono hb2w.size)))
  have hal := ceAlive_any ((w.alloc (.cells #[.string sl.nm, .int .i64 ty, .bool sl.rq, .int .i64 k0, .int .i64 n0, .string t0, .slice a0 len0 cap0] 26)).alloc (.cells #[.int .i64 k, .int .i64 n, .string t, .slice a len cap] 24)) (kinds_below hK hb2w) (bare_below hBa hb2w)
  have HCS := Lib.hid hcs; have HG := Lib.hid hgr
  clear hcs hgr hIS hIV hs hv hd hI hnm hK hBa
  obtain ⟨g, hg⟩ : ∃ g, greatV v = g := ⟨_, rfl⟩
  rw [hg] at HG hsz
  clear hg
  cases g with
  | true =>
    go_enter Tryz.func3, Tryz.ntmps3
    go_wp2_with (first
      | (go_at_call 4; (with_reducible refine (hal).mono ?_); rintro e w1 ⟨rfl, hb1⟩; have hC1 := hb1; obtain ⟨⟨x0, x1, x2, x3, x4, x5, x6⟩, ⟨y0, y1, y2, y3⟩⟩ := HCS.out _ hC1)
      | (go_at_call 5; (with_reducible refine (HG.out _ (HIV.out _ hC1)).mono ?_); rintro e w2 ⟨rfl, hb2⟩; have hC2 := hC1.trans (hb2.mono hC1.size); obtain ⟨⟨x0, x1, x2, x3, x4, x5, x6⟩, ⟨y0, y1, y2, y3⟩⟩ := HCS.out _ hC2))
    go_ret
    exact ⟨rfl, hb2w.trans (hC2.mono hb2w.size)⟩
  | false =>
  replace hsz := hsz rfl
  by_cases hneg : ty < 0
  · have dn : decide (ty < 0) = true := by simpa using hneg
    go_enter Tryz.func3, Tryz.ntmps3
    go_wp2_with (first
      | (go_at_call 4; (with_reducible refine (hal).mono ?_); rintro e w1 ⟨rfl, hb1⟩; have hC1 := hb1; obtain ⟨⟨x0, x1, x2, x3, x4, x5, x6⟩, ⟨y0, y1, y2, y3⟩⟩ := HCS.out _ hC1)
      | (go_at_call 5; (with_reducible refine (HG.out _ (HIV.out _ hC1)).mono ?_); rintro e w2 ⟨rfl, hb2⟩; have hC2 := hC1.trans (hb2.mono hC1.size); obtain ⟨⟨x0, x1, x2, x3, x4, x5, x6⟩, ⟨y0, y1, y2, y3⟩⟩ := HCS.out _ hC2))
    go_ret
    exact ⟨rfl, hb2w.trans (hC2.mono hb2w.size)⟩
  have dn : decide (ty < 0) = false := by simp; omega
  have h0 : 0 ≤ sl.ty := by omega
  by_cases hlen : 500 < s.size
  · have dl : decide ((500 : Int) < (s.size : Int)) = true := by simp; omega
    go_enter Tryz.func3, Tryz.ntmps3
    go_wp2_with (first
      | (go_at_call 4; (with_reducible refine (hal).mono ?_); rintro e w1 ⟨rfl, hb1⟩; have hC1 := hb1; obtain ⟨⟨x0, x1, x2, x3, x4, x5, x6⟩, ⟨y0, y1, y2, y3⟩⟩ := HCS.out _ hC1)
      | (go_at_call 5; (with_reducible refine (HG.out _ (HIV.out _ hC1)).mono ?_); rintro e w2 ⟨rfl, hb2⟩; have hC2 := hC1.trans (hb2.mono hC1.size); obtain ⟨⟨x0, x1, x2, x3, x4, x5, x6⟩, ⟨y0, y1, y2, y3⟩⟩ := HCS.out _ hC2))
    go_ret
    exact ⟨rfl, hb2w.trans (hC2.mono hb2w.size)⟩
  have dl : decide ((500 : Int) < (s.size : Int)) = false := by simp; omega
  have hF := fun W h1 h2 => fits_any sl v (by omega) h0 W (.agg #[.string sl.nm, .int .i64 ty, .bool sl.rq, .int .i64 k0, .int .i64 n0, .string t0, .slice a0 len0 cap0]) (.agg #[.int .i64 k, .int .i64 n, .string t, .slice a len cap]) h1 h2
  have hO2 := fun W h1 h2 => ofField_any sl h0 s (by omega) W (.agg #[.string sl.nm, .int .i64 ty, .bool sl.rq, .int .i64 k0, .int .i64 n0, .string t0, .slice a0 len0 cap0]) h1 h2
  have hTV := fun W h1 h2 h3 => toField_any sl v h0 (by omega) (text_len _ _ hnv) W (.agg #[.string sl.nm, .int .i64 ty, .bool sl.rq, .int .i64 k0, .int .i64 n0, .string t0, .slice a0 len0 cap0]) (.agg #[.int .i64 k, .int .i64 n, .string t, .slice a len cap]) h1 h2 h3
  have hO1 := fun W h1 h2 => ofField_any sl h0 (fieldT sl.ty v) (by have := field_short sl.ty v hnv; omega) W (.agg #[.string sl.nm, .int .i64 ty, .bool sl.rq, .int .i64 k0, .int .i64 n0, .string t0, .slice a0 len0 cap0]) h1 h2
  have hof : Sc.fits sl.ty v = true → ofField sl.ty (fieldT sl.ty v) = (v, 0) := fun h => of_field h hnv
  have hfo : Sc.fits sl.ty v = false → fieldT sl.ty v = ⟨#[]⟩ := fun h => by unfold fieldT; rw [if_neg (by rw [h]; decide)]
  obtain ⟨⟨y2, er⟩, hY⟩ : ∃ T, ofField sl.ty s = T := ⟨_, rfl⟩
  have hyf : er = 0 → Sc.fits sl.ty y2 = true ∧ fieldT sl.ty y2 = s := fun h => field_of (by rw [hY, h])
  have hRF0 : er = 0 → ∀ W Y2, IsSlot W sl (.agg #[.string sl.nm, .int .i64 ty, .bool sl.rq, .int .i64 k0, .int .i64 n0, .string t0, .slice a0 len0 cap0]) → Is W y2 Y2 → _ := fun h W Y2 h1 h2 => refFits_any sl y2 (by have := (right_okC (fits_right (hyf h).1)).2.1; omega) h0 W (.agg #[.string sl.nm, .int .i64 ty, .bool sl.rq, .int .i64 k0, .int .i64 n0, .string t0, .slice a0 len0 cap0]) Y2 h1 h2
  have hTY0 : er = 0 → numsV y2 → ∀ W Y2, BareAt W → IsSlot W sl (.agg #[.string sl.nm, .int .i64 ty, .bool sl.rq, .int .i64 k0, .int .i64 n0, .string t0, .slice a0 len0 cap0]) → Is W y2 Y2 → _ := fun h hn W Y2 hb h1 h2 => toField_any sl y2 h0 (by have := (right_okC (fits_right (hyf h).1)).2.1; omega) (text_len _ _ hn) W (.agg #[.string sl.nm, .int .i64 ty, .bool sl.rq, .int .i64 k0, .int .i64 n0, .string t0, .slice a0 len0 cap0]) Y2 hb h1 h2
  unfold OffC at hO1 hO2
  rw [hY] at hO2
  have HO2 := Lib.hid hO2
  clear hO2
  cases hff : Sc.fits sl.ty v with
  | false =>
    rw [hff] at hF
    rw [hfo hff] at hTV
    have HF := Lib.hid hF; have HTV := Lib.hid hTV
    clear hF hTV hO1 hof hfo hff hY
    by_cases he : er = 0
    · subst he
      have hRF := hRF0 rfl
      have hTY := hTY0 rfl
      rw [(hyf rfl).1] at hRF
      rw [(hyf rfl).2] at hTY
      have HRF := Lib.hid hRF
      clear hRF hRF0 hTY0 hyf
      obtain rfl := hty
      go_enter Tryz.func3, Tryz.ntmps3
      go_wp2_with (first
        | (go_at_call 4; (with_reducible refine (hal).mono ?_); rintro e w1 ⟨rfl, hb1⟩; have hC1 := hb1; obtain ⟨⟨x0, x1, x2, x3, x4, x5, x6⟩, ⟨y0, y1, y2, y3⟩⟩ := HCS.out _ hC1)
        | (go_at_call 5; (with_reducible refine (HG.out _ (HIV.out _ hC1)).mono ?_); rintro e w2 ⟨rfl, hb2⟩; have hC2 := hC1.trans (hb2.mono hC1.size); obtain ⟨⟨x0, x1, x2, x3, x4, x5, x6⟩, ⟨y0, y1, y2, y3⟩⟩ := HCS.out _ hC2)
        | (go_at_call 6; (with_reducible refine (HF.out _ (HIS.out _ hC2) (HIV.out _ hC2)).mono ?_); rintro e w3 ⟨rfl, hb3⟩; have hC3 := hC2.trans (hb3.mono hC2.size); obtain ⟨⟨x0, x1, x2, x3, x4, x5, x6⟩, ⟨y0, y1, y2, y3⟩⟩ := HCS.out _ hC3)
        | (go_at_call 8; (with_reducible refine (HTV.out _ (HBA.out _ hC3) (HIS.out _ hC3) (HIV.out _ hC3)).mono ?_); rintro e w4 ⟨rfl, hb4⟩; have hC4 := hC3.trans (hb4.mono hC3.size); obtain ⟨⟨x0, x1, x2, x3, x4, x5, x6⟩, ⟨y0, y1, y2, y3⟩⟩ := HCS.out _ hC4)
        | (go_at_call 7; (with_reducible refine (HO2.out _ (HBA.out _ hC4) (HIS.out _ hC4)).mono ?_); rintro e w5 ⟨d0, d1, d2, d3, d4, d5, rfl, hb5, hF5⟩; have hB5 := (Below.refl _ w5).alloc (Nat.le_refl _) (.cells #[.int .i64 d0, .int .i64 d1, .string d2, .slice d3 d4 d5] 24); have hC5 := (hC4.trans (hb5.mono hC4.size)).trans (hB5.mono (hC4.trans (hb5.mono hC4.size)).size); have hv5 := vat_alloc w5 #[.int .i64 d0, .int .i64 d1, .string d2, .slice d3 d4 d5]; obtain ⟨⟨v0, v1, v2, v3⟩, -⟩ := box4 hv5; obtain ⟨⟨x0, x1, x2, x3, x4, x5, x6⟩, ⟨y0, y1, y2, y3⟩⟩ := HCS.out _ hC5; have hI5 := hF5 _ (fun b b1 b2 => hB5.block b b2); have hn5 := nums_is _ _ hI5; have HTY := Lib.hid (hTY hn5))
        | (go_at_call 10; (with_reducible refine (HRF.out _ _ (HIS.out _ hC5) hI5).mono ?_); rintro e w6 ⟨rfl, hb6⟩; have hC6 := hC5.trans (hb6.mono hC5.size); have hv6 := vat_below hb6 hv5; obtain ⟨⟨v0, v1, v2, v3⟩, -⟩ := box4 hv6; obtain ⟨⟨x0, x1, x2, x3, x4, x5, x6⟩, ⟨y0, y1, y2, y3⟩⟩ := HCS.out _ hC6)
        | (go_at_call 8; (with_reducible refine (HTY.out _ _ (HBA.out _ hC6) (HIS.out _ hC6) (is_below hb6 _ _ hI5)).mono ?_); rintro e w7 ⟨rfl, hb7⟩; have hC7 := hC6.trans (hb7.mono hC6.size)))
      go_ret
      exact ⟨rfl, hb2w.trans (hC7.mono hb2w.size)⟩
    · have de : (er == 0) = false := by simpa using he
      have dn2 : (er != 0) = true := by simpa using he
      clear hRF0 hTY0 hyf
      obtain rfl := hty
      go_enter Tryz.func3, Tryz.ntmps3
      go_wp2_with (first
        | (go_at_call 4; (with_reducible refine (hal).mono ?_); rintro e w1 ⟨rfl, hb1⟩; have hC1 := hb1; obtain ⟨⟨x0, x1, x2, x3, x4, x5, x6⟩, ⟨y0, y1, y2, y3⟩⟩ := HCS.out _ hC1)
        | (go_at_call 5; (with_reducible refine (HG.out _ (HIV.out _ hC1)).mono ?_); rintro e w2 ⟨rfl, hb2⟩; have hC2 := hC1.trans (hb2.mono hC1.size); obtain ⟨⟨x0, x1, x2, x3, x4, x5, x6⟩, ⟨y0, y1, y2, y3⟩⟩ := HCS.out _ hC2)
        | (go_at_call 6; (with_reducible refine (HF.out _ (HIS.out _ hC2) (HIV.out _ hC2)).mono ?_); rintro e w3 ⟨rfl, hb3⟩; have hC3 := hC2.trans (hb3.mono hC2.size); obtain ⟨⟨x0, x1, x2, x3, x4, x5, x6⟩, ⟨y0, y1, y2, y3⟩⟩ := HCS.out _ hC3)
        | (go_at_call 8; (with_reducible refine (HTV.out _ (HBA.out _ hC3) (HIS.out _ hC3) (HIV.out _ hC3)).mono ?_); rintro e w4 ⟨rfl, hb4⟩; have hC4 := hC3.trans (hb4.mono hC3.size); obtain ⟨⟨x0, x1, x2, x3, x4, x5, x6⟩, ⟨y0, y1, y2, y3⟩⟩ := HCS.out _ hC4)
        | (go_at_call 7; (with_reducible refine (HO2.out _ (HBA.out _ hC4) (HIS.out _ hC4)).mono ?_); rintro e w5 ⟨d0, d1, d2, d3, d4, d5, rfl, hb5, hF5⟩; have hB5 := (Below.refl _ w5).alloc (Nat.le_refl _) (.cells #[.int .i64 d0, .int .i64 d1, .string d2, .slice d3 d4 d5] 24); have hC5 := (hC4.trans (hb5.mono hC4.size)).trans (hB5.mono (hC4.trans (hb5.mono hC4.size)).size); have hv5 := vat_alloc w5 #[.int .i64 d0, .int .i64 d1, .string d2, .slice d3 d4 d5]; obtain ⟨⟨v0, v1, v2, v3⟩, -⟩ := box4 hv5; obtain ⟨⟨x0, x1, x2, x3, x4, x5, x6⟩, ⟨y0, y1, y2, y3⟩⟩ := HCS.out _ hC5))
      go_ret
      exact ⟨rfl, hb2w.trans (hC5.mono hb2w.size)⟩
  | true =>
    rw [hff] at hF
    rw [hof hff] at hO1
    have HF := Lib.hid hF; have HTV := Lib.hid hTV; have HO1 := Lib.hid hO1
    clear hF hTV hO1 hof hfo
    have hSM0 := same_any v v
    rw [(same_boolC v v).2 rfl] at hSM0
    have hSM := Lib.hid hSM0
    clear hSM0
    obtain ⟨F, hFe⟩ : ∃ F, fieldT sl.ty v = F := ⟨_, rfl⟩
    rw [hFe] at HTV HO1
    clear hFe
    go_enter Tryz.func3, Tryz.ntmps3
    go_upto_region 6 with (first
      | (go_at_call 4; (with_reducible refine (hal).mono ?_); rintro e w1 ⟨rfl, hb1⟩; have hC1 := hb1; obtain ⟨⟨x0, x1, x2, x3, x4, x5, x6⟩, ⟨y0, y1, y2, y3⟩⟩ := HCS.out _ hC1)
      | (go_at_call 5; (with_reducible refine (HG.out _ (HIV.out _ hC1)).mono ?_); rintro e w2 ⟨rfl, hb2⟩; have hC2 := hC1.trans (hb2.mono hC1.size); obtain ⟨⟨x0, x1, x2, x3, x4, x5, x6⟩, ⟨y0, y1, y2, y3⟩⟩ := HCS.out _ hC2)
      | (go_at_call 6; (with_reducible refine (HF.out _ (HIS.out _ hC2) (HIV.out _ hC2)).mono ?_); rintro e w3 ⟨rfl, hb3⟩; have hC3 := hC2.trans (hb3.mono hC2.size); obtain ⟨⟨x0, x1, x2, x3, x4, x5, x6⟩, ⟨y0, y1, y2, y3⟩⟩ := HCS.out _ hC3))
    have HTV3 := Lib.hid (fun W (hb : Below w3.heap.size w3 W) => HTV.out W (HBA.out W (hC3.trans (hb.mono hC3.size))) (HIS.out W (hC3.trans (hb.mono hC3.size))) (HIV.out W (hC3.trans (hb.mono hC3.size))))
    have HO13 := Lib.hid (fun W (hb : Below w3.heap.size w3 W) => HO1.out W (HBA.out W (hC3.trans (hb.mono hC3.size))) (HIS.out W (hC3.trans (hb.mono hC3.size))))
    have HS3 := Lib.hid (fun W (hb : Below w3.heap.size w3 W) => (⟨(HCS.out W (hC3.trans (hb.mono hC3.size))).1, (HCS.out W (hC3.trans (hb.mono hC3.size))).2, hb⟩ : (W.cell? ⟨w.heap.size, 0, none⟩ = some (.string sl.nm) ∧ W.cell? ⟨w.heap.size, 1, none⟩ = some (.int .i64 ty) ∧ W.cell? ⟨w.heap.size, 2, none⟩ = some (.bool sl.rq) ∧ W.cell? ⟨w.heap.size, 3, none⟩ = some (.int .i64 k0) ∧ W.cell? ⟨w.heap.size, 4, none⟩ = some (.int .i64 n0) ∧ W.cell? ⟨w.heap.size, 5, none⟩ = some (.string t0) ∧ W.cell? ⟨w.heap.size, 6, none⟩ = some (.slice a0 len0 cap0)) ∧ (W.cell? ⟨w.heap.size + 1, 0, none⟩ = some (.int .i64 k) ∧ W.cell? ⟨w.heap.size + 1, 1, none⟩ = some (.int .i64 n) ∧ W.cell? ⟨w.heap.size + 1, 2, none⟩ = some (.string t) ∧ W.cell? ⟨w.heap.size + 1, 3, none⟩ = some (.slice a len cap)) ∧ Below w3.heap.size w3 W))
    go_cut [7, 8] (fun s7 s8 W => ∃ b7 d0 d1 d2 d3 d4 d5, s7 = .pointer (some ⟨b7, 0, none⟩) ∧ s8 = .int .i64 0 ∧ VAt W b7 #[.int .i64 d0, .int .i64 d1, .string d2, .slice d3 d4 d5] ∧ Is W v (.agg #[.int .i64 d0, .int .i64 d1, .string d2, .slice d3 d4 d5]) ∧ Below w3.heap.size w3 W)
    case first =>
      clear hal HO2 hRF0 hTY0 hyf HG HF HIS HIV HBA HCS hSM hY hb1w hb2w hnv
      have hHeld9 : ∀ {W : World}, ((W.cell? ⟨w.heap.size, 0, none⟩ = some (.string sl.nm) ∧ W.cell? ⟨w.heap.size, 1, none⟩ = some (.int .i64 ty) ∧ W.cell? ⟨w.heap.size, 2, none⟩ = some (.bool sl.rq) ∧ W.cell? ⟨w.heap.size, 3, none⟩ = some (.int .i64 k0) ∧ W.cell? ⟨w.heap.size, 4, none⟩ = some (.int .i64 n0) ∧ W.cell? ⟨w.heap.size, 5, none⟩ = some (.string t0) ∧ W.cell? ⟨w.heap.size, 6, none⟩ = some (.slice a0 len0 cap0)) ∧ (W.cell? ⟨w.heap.size + 1, 0, none⟩ = some (.int .i64 k) ∧ W.cell? ⟨w.heap.size + 1, 1, none⟩ = some (.int .i64 n) ∧ W.cell? ⟨w.heap.size + 1, 2, none⟩ = some (.string t) ∧ W.cell? ⟨w.heap.size + 1, 3, none⟩ = some (.slice a len cap)) ∧ Below w3.heap.size w3 W) → Below w3.heap.size w3 W := fun h => h.2.2
      go_region_held3 (fun W => (W.cell? ⟨w.heap.size, 0, none⟩ = some (.string sl.nm) ∧ W.cell? ⟨w.heap.size, 1, none⟩ = some (.int .i64 ty) ∧ W.cell? ⟨w.heap.size, 2, none⟩ = some (.bool sl.rq) ∧ W.cell? ⟨w.heap.size, 3, none⟩ = some (.int .i64 k0) ∧ W.cell? ⟨w.heap.size, 4, none⟩ = some (.int .i64 n0) ∧ W.cell? ⟨w.heap.size, 5, none⟩ = some (.string t0) ∧ W.cell? ⟨w.heap.size, 6, none⟩ = some (.slice a0 len0 cap0)) ∧ (W.cell? ⟨w.heap.size + 1, 0, none⟩ = some (.int .i64 k) ∧ W.cell? ⟨w.heap.size + 1, 1, none⟩ = some (.int .i64 n) ∧ W.cell? ⟨w.heap.size + 1, 2, none⟩ = some (.string t) ∧ W.cell? ⟨w.heap.size + 1, 3, none⟩ = some (.slice a len cap)) ∧ Below w3.heap.size w3 W) (first | assumption | exact HS3.out _ (by (repeat (first | with_reducible exact Below.refl _ _ | with_reducible refine bl_drew ?_ | with_reducible refine bl_alloc ?_ (Nat.le_refl _) _ | with_reducible refine bl_set ?_ (by first | (simp; done) | (have h1 := hb4.size; have h2 := hb5.size; simp at h1 h2 ⊢; omega)) | with_reducible refine bl_call hb5 ?_ (Nat.le_refl _) | with_reducible refine bl_call hb4 ?_ (Nat.le_refl _))))) (first
        | (go_at_call 8; (with_reducible refine (HTV3.out _ (hHeld9 (by assumption))).mono ?_); rintro e w4 ⟨rfl, hb4⟩; (first | (have hq4 : VAt w4 w3.heap.size #[.int .i64 0, .int .i64 0, .string ⟨#[]⟩, .slice none 0 0] := vat_below hb4 (by first | exact vat_alloc _ _ | exact vat_alloc_drew _ _)) | skip))
        | (go_at_call 7; (with_reducible refine (HO13.out _ (hHeld9 (by assumption))).mono ?_); rintro e w5 ⟨d0, d1, d2, d3, d4, d5, rfl, hb5, hF5⟩; (first | (have hq5 : VAt w5 w3.heap.size #[.int .i64 0, .int .i64 0, .string ⟨#[]⟩, .slice none 0 0] := vat_below hb5 (by first | exact hq4 | exact (show VAt (World.drew _) _ _ from hq4)); obtain ⟨⟨z0, z1, z2, z3⟩, g0, g1, g2, g3⟩ := box4 hq5) | (have hq5 : VAt w5 w4.heap.size #[.int .i64 0, .int .i64 0, .string ⟨#[]⟩, .slice none 0 0] := vat_below hb5 (by first | exact vat_alloc _ _ | exact vat_alloc_drew _ _); obtain ⟨⟨z0, z1, z2, z3⟩, g0, g1, g2, g3⟩ := box4 hq5) | skip)))
      all_goals (
        go_wp2_with fail
        go_meet
        first
          | exact ⟨_, _, _, _, _, _, _, rfl, rfl, vat_set4 hq5 _ _ _ _, hF5 _ (fun b b1 b2 => by
              have h1 := hb4.size
              simp at h1 b1
              rw [Below.heap_setCell _ _ _ b (by simp; omega), Below.heap_setCell _ _ _ b (by simp; omega), Below.heap_setCell _ _ _ b (by simp; omega), Below.heap_setCell _ _ _ b (by simp; omega)]), by (repeat (first | with_reducible exact Below.refl _ _ | with_reducible refine bl_drew ?_ | with_reducible refine bl_alloc ?_ (Nat.le_refl _) _ | with_reducible refine bl_set ?_ (by first | (simp; done) | (have h1 := hb4.size; have h2 := hb5.size; simp at h1 h2 ⊢; omega)) | with_reducible refine bl_call hb5 ?_ (Nat.le_refl _) | with_reducible refine bl_call hb4 ?_ (Nat.le_refl _)))⟩
          | exact ⟨_, _, _, _, _, _, _, rfl, rfl, vat_alloc _ _, hF5 _ (fun b b1 b2 => Below.heap_alloc _ _ b b2), by (repeat (first | with_reducible exact Below.refl _ _ | with_reducible refine bl_drew ?_ | with_reducible refine bl_alloc ?_ (Nat.le_refl _) _ | with_reducible refine bl_set ?_ (by first | (simp; done) | (have h1 := hb4.size; have h2 := hb5.size; simp at h1 h2 ⊢; omega)) | with_reducible refine bl_call hb5 ?_ (Nat.le_refl _) | with_reducible refine bl_call hb4 ?_ (Nat.le_refl _)))⟩)
    case rest =>
      obtain ⟨b7, d0', d1', d2', d3', d4', d5', rfl, rfl, hv7, hI7, hb7⟩ := hcut
      have hC4 := hC3.trans (hb7.mono hC3.size)
      clear x0 x1 x2 x3 x4 x5 x6 y0 y1 y2 y3
      obtain ⟨⟨x0, x1, x2, x3, x4, x5, x6⟩, ⟨y0, y1, y2, y3⟩⟩ := HCS.out _ hC4
      obtain ⟨⟨u0, u1, u2, u3⟩, -⟩ := box4 hv7
      by_cases he : er = 0
      · subst he
        have hRF := hRF0 rfl
        have hTY := hTY0 rfl
        rw [(hyf rfl).1] at hRF
        rw [(hyf rfl).2] at hTY
        have HRF := Lib.hid hRF
        clear hRF hRF0 hTY0 hyf
        obtain rfl := hty
        go_wp2_with (first
          | (go_at_call 9; (with_reducible refine (hSM.out _ _ _ (HIV.out _ hC4) hI7).mono ?_); rintro e w8 ⟨rfl, hb8⟩; have hC8 := hC4.trans (hb8.mono hC4.size); obtain ⟨⟨x0, x1, x2, x3, x4, x5, x6⟩, ⟨y0, y1, y2, y3⟩⟩ := HCS.out _ hC8)
          | (go_at_call 7; (with_reducible refine (HO2.out _ (HBA.out _ hC8) (HIS.out _ hC8)).mono ?_); rintro e w5 ⟨d0, d1, d2, d3, d4, d5, rfl, hb5, hF5⟩; have hB5 := (Below.refl _ w5).alloc (Nat.le_refl _) (.cells #[.int .i64 d0, .int .i64 d1, .string d2, .slice d3 d4 d5] 24); have hC5 := (hC8.trans (hb5.mono hC8.size)).trans (hB5.mono (hC8.trans (hb5.mono hC8.size)).size); have hv5 := vat_alloc w5 #[.int .i64 d0, .int .i64 d1, .string d2, .slice d3 d4 d5]; obtain ⟨⟨v0, v1, v2, v3⟩, -⟩ := box4 hv5; obtain ⟨⟨x0, x1, x2, x3, x4, x5, x6⟩, ⟨y0, y1, y2, y3⟩⟩ := HCS.out _ hC5; have hI5 := hF5 _ (fun b b1 b2 => hB5.block b b2); have hn5 := nums_is _ _ hI5; have HTY := Lib.hid (hTY hn5))
          | (go_at_call 10; (with_reducible refine (HRF.out _ _ (HIS.out _ hC5) hI5).mono ?_); rintro e w6 ⟨rfl, hb6⟩; have hC6 := hC5.trans (hb6.mono hC5.size); have hv6 := vat_below hb6 hv5; obtain ⟨⟨v0, v1, v2, v3⟩, -⟩ := box4 hv6; obtain ⟨⟨x0, x1, x2, x3, x4, x5, x6⟩, ⟨y0, y1, y2, y3⟩⟩ := HCS.out _ hC6)
          | (go_at_call 8; (with_reducible refine (HTY.out _ _ (HBA.out _ hC6) (HIS.out _ hC6) (is_below hb6 _ _ hI5)).mono ?_); rintro e w7 ⟨rfl, hb7⟩; have hC7 := hC6.trans (hb7.mono hC6.size)))
        go_ret
        exact ⟨rfl, hb2w.trans (hC7.mono hb2w.size)⟩
      · have de : (er == 0) = false := by simpa using he
        have dn2 : (er != 0) = true := by simpa using he
        clear hRF0 hTY0 hyf
        obtain rfl := hty
        go_wp2_with (first
          | (go_at_call 9; (with_reducible refine (hSM.out _ _ _ (HIV.out _ hC4) hI7).mono ?_); rintro e w8 ⟨rfl, hb8⟩; have hC8 := hC4.trans (hb8.mono hC4.size); obtain ⟨⟨x0, x1, x2, x3, x4, x5, x6⟩, ⟨y0, y1, y2, y3⟩⟩ := HCS.out _ hC8)
          | (go_at_call 7; (with_reducible refine (HO2.out _ (HBA.out _ hC8) (HIS.out _ hC8)).mono ?_); rintro e w5 ⟨d0, d1, d2, d3, d4, d5, rfl, hb5, hF5⟩; have hB5 := (Below.refl _ w5).alloc (Nat.le_refl _) (.cells #[.int .i64 d0, .int .i64 d1, .string d2, .slice d3 d4 d5] 24); have hC5 := (hC8.trans (hb5.mono hC8.size)).trans (hB5.mono (hC8.trans (hb5.mono hC8.size)).size); have hv5 := vat_alloc w5 #[.int .i64 d0, .int .i64 d1, .string d2, .slice d3 d4 d5]; obtain ⟨⟨v0, v1, v2, v3⟩, -⟩ := box4 hv5; obtain ⟨⟨x0, x1, x2, x3, x4, x5, x6⟩, ⟨y0, y1, y2, y3⟩⟩ := HCS.out _ hC5))
        go_ret
        exact ⟨rfl, hb2w.trans (hC5.mono hb2w.size)⟩
end Go.Proofs.YtcicjpdjbfgbhaaGreatDoor.cellFitsWalk
