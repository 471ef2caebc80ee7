/- The program's records: Same, Set. (Made by gen_rcs.py.) -/
import Derived.Test.YtibjjclfonpibaaGreatMh34Reco
import Derived.BigQuiet
set_option linter.unusedVariables false
set_option linter.unusedSimpArgs false
set_option maxRecDepth 100000
namespace Go.Proofs.YtibjjclfonpibaaGreat
open Go.RowKit Go.Shelf
theorem heap5 {w W : World} {o1 o2 o3 o4 o5 : Obj} (h : Below (((((w.alloc o1).alloc o2).alloc o3).alloc o4).alloc o5).heap.size (((((w.alloc o1).alloc o2).alloc o3).alloc o4).alloc o5) W) : W.heap[w.heap.size]? = some o1 ∧ W.heap[w.heap.size + 1]? = some o2 ∧ W.heap[w.heap.size + 1 + 1]? = some o3 ∧ W.heap[w.heap.size + 1 + 1 + 1]? = some o4 ∧ W.heap[w.heap.size + 1 + 1 + 1 + 1]? = some o5 := by
  have h4 := heap4 (w := w) (o1 := o1) (o2 := o2) (o3 := o3) (o4 := o4) (w1 := W) (((Below.refl _ _).alloc (Nat.le_refl _) o5).trans (h.mono (by simp)))
  have e := heap_self9 ((((w.alloc o1).alloc o2).alloc o3).alloc o4) o5
  simp only [World.size_alloc] at e
  exact ⟨h4.1, h4.2.1, h4.2.2.1, h4.2.2.2, (h.block _ (by simp)).trans e⟩
theorem below5 (w : World) (o1 o2 o3 o4 o5 : Obj) : Below w.heap.size w (((((w.alloc o1).alloc o2).alloc o3).alloc o4).alloc o5) := (below4 w o1 o2 o3 o4).alloc (by simp <;> omega) o5
theorem eqL_iff (a b : List PV) : (a.length = b.length ∧ ∀ (i : Nat) (s v : PV), a[i]? = some s → b[i]? = some v → (cmpV s v == 0) = true) ↔ a = b := by
  constructor
  · rintro ⟨h1, h2⟩
    refine List.ext_getElem? fun i => ?_
    rcases Nat.lt_or_ge i a.length with hi | hi
    · have e1 := List.getElem?_eq_getElem hi
      have e2 := List.getElem?_eq_getElem (show i < b.length by omega)
      rw [e1, e2, (same_bool _ _).1 (h2 i _ _ e1 e2)]
    · rw [List.getElem?_eq_none hi, List.getElem?_eq_none (by omega)]
  · rintro rfl
    exact ⟨rfl, fun i s v h1 h2 => by rw [h1] at h2; cases h2; exact (same_bool _ _).2 rfl⟩
def slicesEq : List PV → List PV → Bool
  | [], [] => true
  | x :: r, y :: q => (cmpV x y == 0) && slicesEq r q
  | _, _ => false
theorem slicesEq_iff : ∀ a b : List PV, slicesEq a b = true ↔ a = b := by
  intro a
  induction a with
  | nil => intro b; cases b <;> simp [slicesEq]
  | cons x r ih =>
    intro b
    cases b with
    | nil => simp [slicesEq]
    | cons y q => rw [slicesEq, Bool.and_eq_true, ih q, same_bool, List.cons.injEq]
set_option maxHeartbeats 4000000 in
theorem rSame_any (r s : RecM) (w : World) (b c : Option Addr) (d f : Nat) (hr : PRow w b d r.s) (hs : PRow w c f s.s) (h1 : r.s.length ≤ 100000) (h2 : s.s.length ≤ 100000) (B : Bool) (hB : B = true ↔ r.v = s.v ∧ r.s = s.s) :
    Calls Tryz.prog 35 #[.agg #[.int .i64 r.v, .slice b r.s.length d], .agg #[.int .i64 s.v, .slice c s.s.length f]] w fun e w' => e = .returned (.bool B) ∧ Below w.heap.size w w' := by
  have hBT := belowTwo w (.cells #[.int .i64 r.v, .slice b r.s.length d] 31) (.cells #[.int .i64 s.v, .slice c s.s.length f] 31)
  obtain ⟨Q, hQ⟩ : ∃ Q : Bool, Q = true ↔ r.s = s.s := ⟨slicesEq r.s s.s, slicesEq_iff _ _⟩
  have hE := equalV_any b c d f r.s s.s _ (pRow_below hBT hr) (pRow_below hBT hs) h1 h2 Q (hQ.trans (eqL_iff _ _).symm)
  obtain ⟨rv, rs⟩ := r
  obtain ⟨sv, ss⟩ := s
  simp only at hE hBT hQ hB ⊢
  obtain ⟨m, hm⟩ : ∃ m, rs.length = m := ⟨_, rfl⟩
  obtain ⟨n, hn⟩ : ∃ n, ss.length = n := ⟨_, rfl⟩
  rw [hm, hn] at hE hBT ⊢
  have H := Lib.hid hE
  by_cases hv : rv = sv
  · have hd : (rv == sv) = true := by simpa using hv
    have hBQ : Q = B := by
      rw [Bool.eq_iff_iff, hQ, hB]
      exact ⟨fun h => ⟨hv, h⟩, fun h => h.2⟩
    have HQ := Lib.hid hBQ
    clear hE hr hs h1 h2 hQ hB hm hn hv hBQ
    go_enter Tryz.func35, Tryz.ntmps35
    go_wp2_with (go_at_call 58; (with_reducible refine H.out.mono ?_); rintro e w1 ⟨rfl, hB1⟩)
    go_ret
    exact ⟨ret_bool HQ.out, hBT.trans (hB1.mono hBT.size)⟩
  · have hd : (rv == sv) = false := by simpa using hv
    have hBQ : false = B := by
      cases B with
      | false => rfl
      | true => exact absurd (hB.1 rfl).1 hv
    have HQ := Lib.hid hBQ
    clear hE hr hs h1 h2 hQ hB hm hn hv hBQ
    go_enter Tryz.func35, Tryz.ntmps35
    go_wp2
    go_ret
    exact ⟨ret_bool HQ.out, hBT⟩
namespace Rc
/-- what Set comes to -/
def setM (t : TemplM) (r : RecM) (slot : Int) (v : PV) : RecM × Int := match verR t r with
  | none => (⟨0, []⟩, 1)
  | some x => if slot < 0 ∨ (x.slots.length : Int) ≤ slot then (⟨0, []⟩, 7) else if Sc.fits (Sc.slotOf x slot.toNat).ty v = true then (⟨r.v, r.s.set slot.toNat v⟩, 0) else (⟨0, []⟩, 8)
end Rc
set_option maxHeartbeats 8000000 in
theorem rSet_any (t : TemplM) (r : RecM) (slot : Int) (v : PV) (w : World) (X Y : Value) (b : Option Addr) (d : Nat) (hg : greatT t = false) (hI : I64 r.v) (hi : IsTempl w t X) (hr : PRow w b d r.s) (hsz : ∀ v ∈ r.s, szV v ≤ 1000000) (hsv : r.s.length ≤ 1000) (hv : Is w v Y) (hvz : szV v ≤ 1000000) :
    Calls Tryz.prog 32 #[X, .agg #[.int .i64 r.v, .slice b r.s.length d], .int .i64 slot, Y] w (MakeR w (Rc.setM t r slot v)) := by
  have h0 := hi
  obtain ⟨h1, sa, sc, ta, tc, rfl, hsl, hst⟩ := hi
  have hb0 := build_rec0
  have hb2 := build_rec2
  have hmf : ∀ (fn : Fn) (first cap : Array Value) (w : World), (Instr.makeFunc fn first cap).run Tryz.prog w = .ok (.func fn first cap) w := fun _ _ _ _ => rfl
  obtain ⟨k, nn, tx, la, ll, lc, rfl⟩ := is_form9 hv
  obtain ⟨rv, rs⟩ := r
  simp only at hI hr hsz hsv ⊢
  have hBT0 := fun m => below5 w (.cells #[.string t.nm, .slice sa t.slots.length sc, .slice ta t.steps.length tc] 25) (.cells #[.int .i64 rv, .slice b m d] 31) (.cells #[.int .i64 slot] 3) (.cells #[.int .i64 k, .int .i64 nn, .string tx, .slice la ll lc] 42) (.cells #[.int .i64 0, .slice none 0 0] 31)
  have hA := version_any t ⟨rv, rs⟩ _ _ b d hg hI (isTempl_below (hBT0 rs.length) h0) (pRow_below (hBT0 rs.length) hr) hsz (Nat.le_trans hsv (by omega))
  simp only at hA
  unfold VerR at hA
  obtain ⟨m, hm⟩ : ∃ m, rs.length = m := ⟨_, rfl⟩
  have hms : m ≤ 1000 := by omega
  have HMS := Lib.hid hms
  clear hms
  have hBT := hBT0 m
  clear hBT0
  cases hx : Rc.verR t ⟨rv, rs⟩ with
  | none =>
    have hans : Rc.setM t ⟨rv, rs⟩ slot v = (⟨0, []⟩, 1) := by unfold Rc.setM; rw [hx]
    rw [hx, hm] at hA
    simp only at hA
    rw [hm]
    have H := Lib.hid hA; have HX := Lib.hid hans
    clear hA hx h0 hsl hst hI hr hsz hsv hans hm hv hvz
    go_enter Tryz.func32, Tryz.ntmps32
    go_wp2_with (first
      | (go_at_call 53; (with_reducible refine H.out.mono ?_); rintro e w1 ⟨⟨sa1, n1, sc1, ca1, m1, cc1, rfl⟩, hB1⟩; have hH := next_block (o' := .cells #[.slice sa1 n1 sc1, .slice ca1 m1 cc1] 67) (heap5 hB1).2.2.2.2; obtain ⟨f0, f1, f2, f3⟩ := two_all hH; have hBw := (hBT.trans (hB1.mono hBT.size)).alloc (Nat.le_trans hBT.size hB1.size) (.cells #[.slice sa1 n1 sc1, .slice ca1 m1 cc1] 67)))
    refine bodyPost_ret (results_cell_tmpS Tryz.results32 _ _ (w.heap.size + 1 + 1 + 1 + 1) _ _ _ _ rfl (step_outT _ _ hH hBw (by omega)).1 Tryz.underlying31 rfl (by kernel_rfl)) rfl ?_
    exact makeR_no HX.out (by decide) hH hBw (by omega) rfl
  | some x =>
    obtain ⟨hxo, hfit⟩ := verR_some hx
    have hok := verOf_ok hxo
    have hfl := Rc.fitL_len hfit
    simp only at hxo hfit hfl
    rw [hx, hm] at hA
    simp only at hA
    have hn16 := hok.num
    by_cases hout : slot < 0 ∨ (x.slots.length : Int) ≤ slot
    · have hans : Rc.setM t ⟨rv, rs⟩ slot v = (⟨0, []⟩, 7) := by unfold Rc.setM; rw [hx]; simp only; rw [if_pos hout]
      obtain ⟨sl, hsl9⟩ : ∃ sl, x.slots.length = sl := ⟨_, rfl⟩
      rw [hsl9] at hA hout
      rw [hm]
      have H := Lib.hid hA; have HX := Lib.hid hans
      clear hA hx h0 hsl hst hI hr hsz hsv hans hm hv hvz hxo hfit hok hfl hn16 hsl9
      by_cases hneg : slot < 0
      · have d1 : decide (slot < 0) = true := by simpa using hneg
        have HN := Lib.hid hneg
        clear hneg hout
        go_enter Tryz.func32, Tryz.ntmps32
        go_wp2_with (first
          | (go_at_call 53; (with_reducible refine H.out.mono ?_); rintro e w1 ⟨⟨sa1, sc1, ca1, cc1, rfl, hva⟩, hB1⟩; have hH := next_block (o' := .cells #[.slice sa1 sl sc1, .slice ca1 x.cols.length cc1] 67) (heap5 hB1).2.2.2.2; obtain ⟨f0, f1, f2, f3⟩ := two_all hH; have hS := next_block (o' := .cells #[.slice sa1 sl sc1, .slice ca1 x.cols.length cc1] 67) (heap5 hB1).2.2.1; have s1 := at_heap (i := 0) (v := .int .i64 slot) hS rfl; have hBw := (hBT.trans (hB1.mono hBT.size)).alloc (Nat.le_trans hBT.size hB1.size) (.cells #[.slice sa1 sl sc1, .slice ca1 x.cols.length cc1] 67)))
        refine bodyPost_ret (results_cell_tmpS Tryz.results32 _ _ (w.heap.size + 1 + 1 + 1 + 1) _ _ _ _ rfl (step_outT _ _ hH hBw (by omega)).1 Tryz.underlying31 rfl (by kernel_rfl)) rfl ?_
        exact makeR_no HX.out (by decide) hH hBw (by omega) rfl
      · have d1 : decide (slot < 0) = false := by simpa using hneg
        have d2 : decide (slot ≥ (sl : Int)) = true := by simp; omega
        have HN := Lib.hid hneg
        clear hneg hout
        go_enter Tryz.func32, Tryz.ntmps32
        go_wp2_with (first
          | (go_at_call 53; (with_reducible refine H.out.mono ?_); rintro e w1 ⟨⟨sa1, sc1, ca1, cc1, rfl, hva⟩, hB1⟩; have hH := next_block (o' := .cells #[.slice sa1 sl sc1, .slice ca1 x.cols.length cc1] 67) (heap5 hB1).2.2.2.2; obtain ⟨f0, f1, f2, f3⟩ := two_all hH; have hS := next_block (o' := .cells #[.slice sa1 sl sc1, .slice ca1 x.cols.length cc1] 67) (heap5 hB1).2.2.1; have s1 := at_heap (i := 0) (v := .int .i64 slot) hS rfl; have hBw := (hBT.trans (hB1.mono hBT.size)).alloc (Nat.le_trans hBT.size hB1.size) (.cells #[.slice sa1 sl sc1, .slice ca1 x.cols.length cc1] 67)))
        refine bodyPost_ret (results_cell_tmpS Tryz.results32 _ _ (w.heap.size + 1 + 1 + 1 + 1) _ _ _ _ rfl (step_outT _ _ hH hBw (by omega)).1 Tryz.underlying31 rfl (by kernel_rfl)) rfl ?_
        exact makeR_no HX.out (by decide) hH hBw (by omega) rfl
    · obtain ⟨q, rfl⟩ : ∃ q : Nat, slot = (q : Int) := ⟨slot.toNat, by omega⟩
      have hq : q < x.slots.length := by omega
      obtain ⟨s, hs⟩ : ∃ s, x.slots[q]? = some s := ⟨x.slots[q], List.getElem?_eq_getElem hq⟩
      have hso : Sc.slotOf x q = s := by unfold Sc.slotOf; rw [hs]; rfl
      obtain ⟨B, hB⟩ : ∃ B, Sc.fits s.ty v = B := ⟨_, rfl⟩
      have hans : Rc.setM t ⟨rv, rs⟩ (q : Int) v = if B = true then (⟨rv, rs.set q v⟩, 0) else (⟨0, []⟩, 8) := by
        unfold Rc.setM; rw [hx]; simp only; rw [if_neg hout, Int.toNat_natCast, hso, hB]
      have hty := (hok.ok s (List.mem_of_getElem? hs)).1
      have hF := fun (W : World) E (hW : Below w.heap.size w W) (hE : IsSlot W s E) => fits_any s v hvz (by omega) W E _ hE (is_below hW _ _ hv)
      rw [hB] at hF
      have hG := fun (W2 : World) (hb2 : Below w.heap.size w W2) (hvr : rightV v = true) (k1 : W2.cell? ⟨w.heap.size + 1 + 1, 0, none⟩ = some (.int .i64 (q : Int))) (y0 : W2.cell? ⟨w.heap.size + 1 + 1 + 1, 0, none⟩ = some (.int .i64 k)) (y1 : W2.cell? ⟨w.heap.size + 1 + 1 + 1, 1, none⟩ = some (.int .i64 nn)) (y2 : W2.cell? ⟨w.heap.size + 1 + 1 + 1, 2, none⟩ = some (.string tx)) (y3 : W2.cell? ⟨w.heap.size + 1 + 1 + 1, 3, none⟩ = some (.slice la ll lc)) =>
        gatherV_any b d rs (rs.set q v) 56 #[.pointer (some ⟨w.heap.size + 1 + 1, 0, none⟩), .pointer (some ⟨w.heap.size + 1 + 1 + 1, 0, none⟩)] W2 (pRow_below hb2 hr) (List.length_set ..) hsv (fun y hy => by
            rcases List.mem_or_eq_of_mem_set hy with h | h
            · exact right_small (Rc.fitL_right hfit _ h)
            · rw [h]; exact right_small hvr) (enters_of Tryz.func56 (by kernel_rfl) rfl)
          (fun i s' y E W hs' hy hb hE => set1_any (q : Int) (i : Int) s' v E _ _ _ _ _ _ W y hE (is_below (hb2.trans (hb.mono hb2.size)) _ _ hv) (cell_below hb k1) (cell_below hb y0) (cell_below hb y1) (cell_below hb y2) (cell_below hb y3) (by
            rw [List.getElem?_set] at hy
            by_cases hqi : q = i
            · subst hqi
              rw [if_pos rfl, if_pos (by omega)] at hy
              rw [if_pos rfl]
              cases hy; rfl
            · rw [if_neg hqi] at hy
              rw [if_neg (by omega)]
              rw [hs'] at hy
              cases hy; rfl))
      have hvr : B = true → rightV v = true := fun h => by
        rw [← hB] at h
        unfold Sc.fits at h
        simp only [Bool.and_eq_true] at h
        exact h.1
      have hlm : (rs.set q v).length = m := by rw [List.length_set, hm]
      obtain ⟨vs, hvs⟩ : ∃ vs, rs.set q v = vs := ⟨_, rfl⟩
      rw [hvs] at hG hans hlm
      obtain ⟨sl, hsl9⟩ : ∃ sl, x.slots.length = sl := ⟨_, rfl⟩
      rw [hm] at hG ⊢
      have hSR := fun W sa1 sc1 ca1 cc1 (hva : VerAt W x sa1 sc1 ca1 cc1) => hva.1
      rw [hsl9] at hA hq
      have d1 : decide ((q : Int) < 0) = false := by simp
      have d2 : decide ((q : Int) ≥ (sl : Int)) = false := by simp; omega
      have H := Lib.hid hA; have HX := Lib.hid hans; have HF := Lib.hid hF; have HG := Lib.hid hG; have HS := Lib.hid hs; have HVR := Lib.hid hvr; have HSL := Lib.hid hsl9; have HLM := Lib.hid hlm
      have hsl16 : sl ≤ 16 := by omega
      clear hA hx h0 hsl hst hI hr hsz hsv hans hm hv hvz hxo hfit hok hfl hn16 hF hG hs hso hvr hty hB hout hSR hlm hsl9 hvs
      cases B with
      | true =>
        simp only [if_true] at HX
        have hvr9 := Lib.hid (HVR.out rfl)
        clear HVR
        go_enter Tryz.func32, Tryz.ntmps32
        go_wp2_with (first
          | (go_at_call 53; (with_reducible refine H.out.mono ?_); rintro e w1 ⟨⟨sa1, sc1, ca1, cc1, rfl, hva⟩, hB1⟩; have hVF := verFresh_later (w1 := w1.alloc (.cells #[.slice sa1 sl sc1, .slice ca1 x.cols.length cc1] 67)) hva (by simp) (fun c _ hl => ((Below.refl _ w1).alloc (Nat.le_refl _) _).block c hl); have hva2 := verFresh_at hVF; have h5 := heap5 hB1; have hH := next_block (o' := .cells #[.slice sa1 sl sc1, .slice ca1 x.cols.length cc1] 67) h5.2.2.2.2; have hS := next_block (o' := .cells #[.slice sa1 sl sc1, .slice ca1 x.cols.length cc1] 67) h5.2.2.1; have hV := next_block (o' := .cells #[.slice sa1 sl sc1, .slice ca1 x.cols.length cc1] 67) h5.2.2.2.1; have hR := next_block (o' := .cells #[.slice sa1 sl sc1, .slice ca1 x.cols.length cc1] 67) h5.2.1; have e2 := at_heap (i := 0) (v := .int .i64 (q : Int)) hS rfl; have hBw := (hBT.trans (hB1.mono hBT.size)).alloc (Nat.le_trans hBT.size hB1.size) (.cells #[.slice sa1 sl sc1, .slice ca1 x.cols.length cc1] 67); have HVV := heap_self9 w1 (.cells #[.slice sa1 sl sc1, .slice ca1 x.cols.length cc1] 67)))
        obtain ⟨W0, hW0⟩ : ∃ W0, w1.alloc (.cells #[.slice sa1 sl sc1, .slice ca1 x.cols.length cc1] 67) = W0 := ⟨_, rfl⟩
        obtain ⟨vb, hvb⟩ : ∃ vb, w1.heap.size = vb := ⟨_, rfl⟩
        rw [hW0] at hva2 hH hS hV hR e2 hBw HVV ⊢
        rw [hvb] at HVV ⊢
        clear hW0 hVF hB1 h5 hvb hva
        have e0 := at_heap (i := 0) (v := .slice sa1 sl sc1) HVV rfl
        have e1 := at_heap (i := 1) (v := .slice ca1 x.cols.length cc1) HVV rfl
        have t0 := at_heap (i := 0) (v := .int .i64 k) hV rfl
        have t1 := at_heap (i := 1) (v := .int .i64 nn) hV rfl
        have t2 := at_heap (i := 2) (v := .string tx) hV rfl
        have t3 := at_heap (i := 3) (v := .slice la ll lc) hV rfl
        obtain ⟨sb, so, rfl, hrow⟩ : ∃ b off, sa1 = some ⟨b, off, none⟩ ∧ ∀ i s, x.slots[i]? = some s → SlotAt W0 b (off + i * 7) s := by
          rcases hva2.1.2.2 with h | h
          · have := HS.out; rw [h] at this; simp at this
          · exact h
        obtain ⟨kx, kn, kt, ka, kl, kc, ⟨g0, g1, g2, g3, g4, g5, g6⟩, hIy, hsn, hdf⟩ := slotAt_form (hrow q s HS.out)
        have hFt := fun (W : World) (hb : Below W0.heap.size W0 W) => HF.out W _ (hBw.trans (hb.mono hBw.size)) (isSlot_below hb ⟨_, _, _, _, _, _, _, rfl, hsn, hIy, rfl, rfl, rfl, hdf⟩)
        have HFt := Lib.hid hFt
        have HH := Lib.hid hH; have HRR := Lib.hid hR; have HSS := Lib.hid hS; have HVb := Lib.hid hV
        clear hFt hrow hva2 hdf hIy hsn
        refine wp_region_quiet (C := fun W => Below W0.heap.size W0 W) (by kernel_rfl) (by kernel_rfl) (below_drew W0) ?_
        iterate 9 (first
          | ((with_reducible refine BigFrame.wpQuiet_skip ?_ ?_); (focus rfl); simp only [Act.put, List.setIfInBounds_toArray, List.set_cons_zero, List.set_cons_succ])
          | ((with_reducible refine BigFrame.wpQuiet_want ?_ (fun K hK => ?_))
             focus rfl
             apply quiet_run9
             · intro W hC
               unfold Oper.quietAt
               have HC := Lib.hid hC
               have u0 := cell_below hC e0
               have u1 := cell_below hC e1
               have u2 := cell_below hC e2
               have z0 := cell_below hC g0
               have z1 := cell_below hC g1
               have z2 := cell_below hC g2
               have z3 := cell_below hC g3
               have z4 := cell_below hC g4
               have z5 := cell_below hC g5
               have z6 := cell_below hC g6
               have p0 := cell_below hC t0
               have p1 := cell_below hC t1
               have p2 := cell_below hC t2
               have p3 := cell_below hC t3
               clear hC
               go_simp
               first
                 | done
                 | with_reducible rfl
                 | ((with_reducible refine (HFt.out _ HC.out).mono ?_); exact fun e w' ⟨he, hb⟩ => ⟨he, HC.out.trans (hb.mono HC.out.size)⟩)
             (with_reducible refine hK _ ?_); clear hK K; simp only [Act.put, List.setIfInBounds_toArray, List.set_cons_zero, List.set_cons_succ]))
        refine wpQuiet_nil ?_
        intro W9 hB9
        (try simp only at hB9)
        have hS9 := (hB9.block _ (Array.getElem?_eq_some_iff.1 hS).1).trans hS
        have hV9 := (hB9.block _ (Array.getElem?_eq_some_iff.1 hV).1).trans hV
        have hR9 := (hB9.block _ (Array.getElem?_eq_some_iff.1 hR).1).trans hR
        have hH9 := (hB9.block _ (Array.getElem?_eq_some_iff.1 hH).1).trans hH
        have c1 := at_heap (i := 0) (v := .int .i64 (q : Int)) hS9 rfl
        have y0 := at_heap (i := 0) (v := .int .i64 k) hV9 rfl
        have y1 := at_heap (i := 1) (v := .int .i64 nn) hV9 rfl
        have y2 := at_heap (i := 2) (v := .string tx) hV9 rfl
        have y3 := at_heap (i := 3) (v := .slice la ll lc) hV9 rfl
        have rr1 := at_heap (i := 1) (v := .slice b m d) hR9 rfl
        go_wp2_with (first
          | (go_at_call 55; (with_reducible refine (HG.out _ (hBw.trans (hB9.mono hBw.size)) hvr9.out c1 y0 y1 y2 y3).mono ?_); rintro e w2 ⟨⟨S, rfl, hMd⟩, hB2⟩; obtain ⟨gg, rfl, hgg, hpr⟩ := made_row hMd (by rw [HLM.out]; have := HMS.out; omega) (fun _ _ _ => rfl); rw [HLM.out] at hpr ⊢; have hBw2 := (hBw.trans (hB9.mono hBw.size)).trans (hB2.mono (Nat.le_trans hBw.size hB9.size)); have hR2 := (hB2.block _ (Array.getElem?_eq_some_iff.1 hR9).1).trans hR9; have r0 := at_heap (i := 0) (v := .int .i64 rv) hR2 rfl; have hH2 := (hB2.block _ (Array.getElem?_eq_some_iff.1 hH9).1).trans hH9; obtain ⟨f0, f1, f2, f3⟩ := two_all hH2))
        refine bodyPost_ret (results_cell_tmpS Tryz.results32 _ _ (w.heap.size + 1 + 1 + 1 + 1) _ _ _ _ rfl (step_outT _ _ hH2 hBw2 (by omega)).1 Tryz.underlying31 rfl (by kernel_rfl)) rfl ?_
        rw [HX.out]
        refine ⟨⟨_, rfl, fun _ => ?_, fun h => absurd rfl h⟩, (step_outT _ _ hH2 hBw2 (by omega)).2⟩
        have hMd3 := made_set2 (b := w.heap.size + 1 + 1 + 1 + 1) hMd (Array.getElem?_eq_some_iff.1 hH9).1 (.int .i64 rv) (.slice (some ⟨gg, 0, none⟩) m m)
        rw [HLM.out] at hMd3
        exact made_mono hMd3 (Nat.le_trans hBw.size hB9.size)
      | false =>
        simp only [Bool.false_eq_true, if_false] at HX
        go_enter Tryz.func32, Tryz.ntmps32
        go_wp2_with (first
          | (go_at_call 53; (with_reducible refine H.out.mono ?_); rintro e w1 ⟨⟨sa1, sc1, ca1, cc1, rfl, hva⟩, hB1⟩; have hVF := verFresh_later (w1 := w1.alloc (.cells #[.slice sa1 sl sc1, .slice ca1 x.cols.length cc1] 67)) hva (by simp) (fun c _ hl => ((Below.refl _ w1).alloc (Nat.le_refl _) _).block c hl); have hva2 := verFresh_at hVF; have h5 := heap5 hB1; have hH := next_block (o' := .cells #[.slice sa1 sl sc1, .slice ca1 x.cols.length cc1] 67) h5.2.2.2.2; have hS := next_block (o' := .cells #[.slice sa1 sl sc1, .slice ca1 x.cols.length cc1] 67) h5.2.2.1; have hV := next_block (o' := .cells #[.slice sa1 sl sc1, .slice ca1 x.cols.length cc1] 67) h5.2.2.2.1; have hR := next_block (o' := .cells #[.slice sa1 sl sc1, .slice ca1 x.cols.length cc1] 67) h5.2.1; have e2 := at_heap (i := 0) (v := .int .i64 (q : Int)) hS rfl; have hBw := (hBT.trans (hB1.mono hBT.size)).alloc (Nat.le_trans hBT.size hB1.size) (.cells #[.slice sa1 sl sc1, .slice ca1 x.cols.length cc1] 67); have HVV := heap_self9 w1 (.cells #[.slice sa1 sl sc1, .slice ca1 x.cols.length cc1] 67)))
        obtain ⟨W0, hW0⟩ : ∃ W0, w1.alloc (.cells #[.slice sa1 sl sc1, .slice ca1 x.cols.length cc1] 67) = W0 := ⟨_, rfl⟩
        obtain ⟨vb, hvb⟩ : ∃ vb, w1.heap.size = vb := ⟨_, rfl⟩
        rw [hW0] at hva2 hH hS hV hR e2 hBw HVV ⊢
        rw [hvb] at HVV ⊢
        clear hW0 hVF hB1 h5 hvb hva
        have e0 := at_heap (i := 0) (v := .slice sa1 sl sc1) HVV rfl
        have e1 := at_heap (i := 1) (v := .slice ca1 x.cols.length cc1) HVV rfl
        have t0 := at_heap (i := 0) (v := .int .i64 k) hV rfl
        have t1 := at_heap (i := 1) (v := .int .i64 nn) hV rfl
        have t2 := at_heap (i := 2) (v := .string tx) hV rfl
        have t3 := at_heap (i := 3) (v := .slice la ll lc) hV rfl
        obtain ⟨sb, so, rfl, hrow⟩ : ∃ b off, sa1 = some ⟨b, off, none⟩ ∧ ∀ i s, x.slots[i]? = some s → SlotAt W0 b (off + i * 7) s := by
          rcases hva2.1.2.2 with h | h
          · have := HS.out; rw [h] at this; simp at this
          · exact h
        obtain ⟨kx, kn, kt, ka, kl, kc, ⟨g0, g1, g2, g3, g4, g5, g6⟩, hIy, hsn, hdf⟩ := slotAt_form (hrow q s HS.out)
        have hFt := fun (W : World) (hb : Below W0.heap.size W0 W) => HF.out W _ (hBw.trans (hb.mono hBw.size)) (isSlot_below hb ⟨_, _, _, _, _, _, _, rfl, hsn, hIy, rfl, rfl, rfl, hdf⟩)
        have HFt := Lib.hid hFt
        have HH := Lib.hid hH; have HRR := Lib.hid hR; have HSS := Lib.hid hS; have HVb := Lib.hid hV
        clear hFt hrow hva2 hdf hIy hsn
        refine wp_region_quiet (C := fun W => Below W0.heap.size W0 W) (by kernel_rfl) (by kernel_rfl) (below_drew W0) ?_
        iterate 9 (first
          | ((with_reducible refine BigFrame.wpQuiet_skip ?_ ?_); (focus rfl); simp only [Act.put, List.setIfInBounds_toArray, List.set_cons_zero, List.set_cons_succ])
          | ((with_reducible refine BigFrame.wpQuiet_want ?_ (fun K hK => ?_))
             focus rfl
             apply quiet_run9
             · intro W hC
               unfold Oper.quietAt
               have HC := Lib.hid hC
               have u0 := cell_below hC e0
               have u1 := cell_below hC e1
               have u2 := cell_below hC e2
               have z0 := cell_below hC g0
               have z1 := cell_below hC g1
               have z2 := cell_below hC g2
               have z3 := cell_below hC g3
               have z4 := cell_below hC g4
               have z5 := cell_below hC g5
               have z6 := cell_below hC g6
               have p0 := cell_below hC t0
               have p1 := cell_below hC t1
               have p2 := cell_below hC t2
               have p3 := cell_below hC t3
               clear hC
               go_simp
               first
                 | done
                 | with_reducible rfl
                 | ((with_reducible refine (HFt.out _ HC.out).mono ?_); exact fun e w' ⟨he, hb⟩ => ⟨he, HC.out.trans (hb.mono HC.out.size)⟩)
             (with_reducible refine hK _ ?_); clear hK K; simp only [Act.put, List.setIfInBounds_toArray, List.set_cons_zero, List.set_cons_succ]))
        refine wpQuiet_nil ?_
        intro W9 hB9
        (try simp only at hB9)
        obtain ⟨f0, f1, f2, f3⟩ := two_all ((hB9.block _ (Array.getElem?_eq_some_iff.1 hH).1).trans hH)
        go_wp2_with fail
        have hH9 := (hB9.block _ (Array.getElem?_eq_some_iff.1 hH).1).trans hH
        have hBw9 := hBw.trans (hB9.mono hBw.size)
        refine bodyPost_ret (results_cell_tmpS Tryz.results32 _ _ (w.heap.size + 1 + 1 + 1 + 1) _ _ _ _ rfl (step_outT _ _ hH9 hBw9 (by omega)).1 Tryz.underlying31 rfl (by kernel_rfl)) rfl ?_
        exact makeR_no HX.out (by decide) hH9 hBw9 (by omega) rfl
end Go.Proofs.YtibjjclfonpibaaGreat
