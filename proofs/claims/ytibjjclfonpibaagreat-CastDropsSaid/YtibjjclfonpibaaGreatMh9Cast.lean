/- The document's Nodes and Right. -/
import Derived.Test.YtibjjclfonpibaaGreatMh8Cast
import Derived.Test.YtibjjclfonpibaaGreatMh5Cast
import Derived.Test.YtibjjclfonpibaaGreatMh1Cast
namespace Go.Proofs.YtibjjclfonpibaaGreat
open Go.RowKit Go.Shelf
theorem rd_ok : ∀ v : PV, okV v = true → rdV v = deepV v := by
  intro v
  induction v using pv_ind with
  | h k m s l ih =>
    intro ho
    obtain ⟨_, _, _, hl5, _, hol, _, _⟩ := ok_parts ho
    simp only [rdV, deepV]
    by_cases hk : k = 5
    · rw [if_pos hk, if_pos hk]
      have key : ∀ (l : List PV), (∀ y ∈ l, rdV y = deepV y) → ∀ z : Nat, rdL (z : Int) l = ((max z (deepL l) : Nat) : Int) := by
        intro l
        induction l with
        | nil => intro _ z; simp [rdL, deepL]
        | cons x r ih2 =>
          intro h z
          simp only [rdL, deepL]
          have hx := h x (by simp)
          have h2 := ih2 (fun y hy => h y (by simp [hy]))
          by_cases hz : (z : Int) < rdV x
          · rw [if_pos hz, hx, h2]; congr 1; omega
          · rw [if_neg hz, h2]; congr 1; omega
      have := key l (fun y hy => ih y hy (okL_mem hol y hy)) 0
      simp only [Int.natCast_zero] at this
      rw [this]; omega
    · have hl := hl5 hk
      subst hl
      rw [if_neg hk, if_neg hk]
      simp [rdL, deepL]
theorem cnt_ok : ∀ v : PV, okV v = true → ∀ d n : Nat, deepV v ≤ d → szV v ≤ n → cntV v n d = (n : Int) - szV v := by
  intro v
  induction v using pv_ind with
  | h k m s l ih =>
    intro ho d n hd hn
    obtain ⟨_, _, _, hl5, _, hol, _, _⟩ := ok_parts ho
    simp only [cntV, szV, deepV] at *
    rw [if_neg (by omega)]
    by_cases hk : k = 5
    · rw [if_pos hk] at hd
      have key : ∀ (l : List PV), (∀ y ∈ l, okV y = true → ∀ d n : Nat, deepV y ≤ d → szV y ≤ n → cntV y n d = (n : Int) - szV y) → (∀ y ∈ l, okV y = true) → ∀ d n : Nat, deepL l ≤ d → szL l ≤ n → cntL l n d = (n : Int) - szL l := by
        intro l
        induction l with
        | nil => intro _ _ d n _ _; simp [cntL, szL]
        | cons x r ih2 =>
          intro h ho d n hd hn
          simp only [cntL, szL, deepL] at *
          have h1 := h x (by simp) (ho x (by simp)) d n (by omega) (by omega)
          rw [if_neg (by rw [h1]; omega), h1]
          have h2 := ih2 (fun y hy => h y (by simp [hy])) (fun y hy => ho y (by simp [hy])) d (n - szV x) (by omega) (by omega)
          rw [show ((n - szV x : Nat) : Int) = (n : Int) - szV x by omega] at h2
          rw [h2]; omega
      have h3 := key l (fun y hy => ih y hy) (okL_mem hol) (d - 1) (n - 1) (by omega) (by omega)
      rw [show ((n - 1 : Nat) : Int) = (n : Int) - 1 by omega, show ((d - 1 : Nat) : Int) = (d : Int) - 1 by omega] at h3
      rw [h3]; omega
    · have hl := hl5 hk
      subst hl
      simp [cntL, szL]
set_option maxHeartbeats 1000000 in
theorem refNodes_any (v : PV) (w : World) (x : Value) (hi : Is w v x) : Calls Tryz.prog 80 #[x] w fun e w' => e = .returned (.int .i64 (1001 - cntV v 1001 1000)) ∧ Below w.heap.size w w' := by
  have hC := fun w x hi => refCount_any v 1001 1000 (by omega) (by omega) (by omega) (by omega) w x hi
  have hbd := cnt_bd v 1001 1000 (by omega)
  generalize cntV v 1001 1000 = c at *
  have hi2 := Lib.hid hi
  obtain ⟨k, m, s, a, len, cap, rfl⟩ := is_form hi
  have hB0 := (Below.refl _ w).alloc (Nat.le_refl _) (vobj k m s a len cap)
  clear hi
  go_enter Tryz.func80, Tryz.ntmps80
  go_wp2_with (first | (go_at_call 60; (with_reducible refine (hC _ _ (is_below hB0 _ _ hi2.out)).mono ?_); rintro e w' ⟨rfl, hb⟩))
  go_ret
  exact ⟨ret_int (by go_num), hB0.trans (hb.mono hB0.size)⟩
theorem right_eq (v : PV) : rightV v = (okV v && decide (rdV v ≤ 4) && decide (1001 - cntV v 1001 1000 ≤ 100)) := by
  unfold rightV
  cases ho : okV v with
  | false => simp
  | true =>
    rw [rd_ok v ho]
    by_cases hd : deepV v ≤ 4
    · have hd2 : decide ((deepV v : Int) ≤ 4) = true := by simp; omega
      rw [decide_eq_true hd, hd2]
      simp only [Bool.true_and, Bool.and_true]
      by_cases hs : szV v ≤ 1001
      · have h := cnt_ok v ho 1000 1001 (by omega) hs
        rw [show ((1001 : Nat) : Int) = 1001 from rfl, show ((1000 : Nat) : Int) = 1000 from rfl] at h
        rw [h, Bool.eq_iff_iff]
        simp only [decide_eq_true_eq]; omega
      · have h := cnt_bd v 1001 1000 (by omega)
        rw [Bool.eq_iff_iff]
        simp only [decide_eq_true_eq]; omega
    · have hd2 : decide ((deepV v : Int) ≤ 4) = false := by simp; omega
      rw [decide_eq_false hd, hd2]
      simp
set_option maxHeartbeats 1000000 in
theorem refRight_any (v : PV) (hsz : szV v ≤ 1000000) (w : World) (x : Value) (hi : Is w v x) : Calls Tryz.prog 51 #[x] w fun e w' => e = .returned (.bool (rightV v)) ∧ Below w.heap.size w w' := by
  have hE := fun w x hi => refEach_any v w x hi
  have hD := fun w x hi => refDeep_any v hsz w x hi
  have hN := fun w x hi => refNodes_any v w x hi
  rw [right_eq v]
  obtain ⟨b1, e1⟩ : ∃ b, okV v = b := ⟨_, rfl⟩
  obtain ⟨d, e2⟩ : ∃ d, rdV v = d := ⟨_, rfl⟩
  obtain ⟨c, e3⟩ : ∃ c, 1001 - cntV v 1001 1000 = c := ⟨_, rfl⟩
  rw [e1] at hE ⊢
  rw [e2] at hD ⊢
  rw [e3] at hN ⊢
  have hi2 := Lib.hid hi
  obtain ⟨k, m, s, a, len, cap, rfl⟩ := is_form hi
  have hB0 := (Below.refl _ w).alloc (Nat.le_refl _) (vobj k m s a len cap)
  clear hi e1 e2 e3
  obtain ⟨bd, ebd⟩ : ∃ b, decide (d ≤ 4) = b := ⟨_, rfl⟩
  obtain ⟨bc, ebc⟩ : ∃ b, decide (c ≤ 100) = b := ⟨_, rfl⟩
  rw [ebd, ebc]
  cases b1 <;> cases bd <;> cases bc
  all_goals (
    go_enter Tryz.func51, Tryz.ntmps51
    go_wp2_with (first
      | (go_at_call 79; (with_reducible refine (hE _ _ (is_below hB0 _ _ hi2.out)).mono ?_); rintro e w1 ⟨rfl, hb1⟩; have hB1 := hB0.trans (hb1.mono hB0.size); obtain ⟨x0, x1, x2, x3⟩ := box_cells hb1)
      | (go_at_call 61; (with_reducible refine (hD _ _ (is_below hB1 _ _ hi2.out)).mono ?_); rintro e w2 ⟨rfl, hb2⟩; have hB2 := hB1.trans (hb2.mono hB1.size); have hb12 := hb1.trans (hb2.mono hb1.size); obtain ⟨y0, y1, y2, y3⟩ := box_cells hb12)
      | (go_at_call 80; (with_reducible refine (hN _ _ (is_below hB2 _ _ hi2.out)).mono ?_); rintro e w3 ⟨rfl, hb3⟩; have hB3 := hB2.trans (hb3.mono hB2.size)))
    go_ret
    exact ⟨ret_bool (by simp), by first | exact hB3 | exact hB2 | exact hB1⟩)
end Go.Proofs.YtibjjclfonpibaaGreat

/- The document's Has, Fits of layer 10. -/
set_option linter.unusedVariables false
set_option maxRecDepth 100000
namespace Go.Proofs.YtibjjclfonpibaaGreat
open Go.RowKit Go.Shelf
set_option maxRecDepth 100000 in
set_option maxHeartbeats 2000000 in
theorem refHas_any (t k : Nat) (ht : (t : Int) ≤ 9223372036854775807) (hk : k ≤ 100) (w : World) : Calls Tryz.prog 52 #[.int .i64 (t : Int), .int .i64 (k : Int)] w fun e w' => e = .returned (.bool (Sc.has t k)) ∧ w' = w := by
  go_enter Tryz.func52, Tryz.ntmps52
  go_wp2
  go_loopw [0, 5] (fun a i wr => ∃ q : Nat, q ≤ k ∧ i = .int .i64 (q : Int) ∧ a = .int .i64 ((t / 2 ^ q : Nat) : Int) ∧ wr = w) (fun _ i _ => k - (intOf i).toNat)
  case atStart => exact ⟨0, Nat.zero_le _, rfl, by simp, rfl⟩
  case round =>
    obtain ⟨q, hq, rfl, rfl, rfl⟩ := hrel
    obtain ⟨T, hT⟩ : ∃ T, t / 2 ^ q = T := ⟨_, rfl⟩
    have hTt : T ≤ t := by rw [← hT]; exact Nat.div_le_self _ _
    have hnext : t / 2 ^ (q + 1) = T / 2 := by rw [← hT, Nat.pow_succ, Nat.div_div_eq_div_mul]
    have HN := Lib.hid hnext; have HT := Lib.hid hT
    rw [hT]
    clear hnext hT
    have hd2 : (T : Int).tdiv 2 = ((T / 2 : Nat) : Int) := by rw [Int.tdiv_eq_ediv_of_nonneg (by omega)]; omega
    have hm2 : (T : Int).tmod 2 = ((T % 2 : Nat) : Int) := by rw [Int.tmod_eq_emod_of_nonneg (by omega)]; omega
    rcases Nat.lt_or_ge q k with hlt | hge
    · have hd : decide ((q : Int) < (k : Int)) = true := by simp; omega
      go_wp2
      go_roundw
      case rel => exact ⟨q + 1, by omega, by go_num, by (rw [HN.out]; congr 1), trivial⟩
      case measure => simp [intOf]; omega
    · obtain rfl : q = k := by omega
      have hd : decide ((q : Int) < (q : Int)) = false := by simp
      go_wp2
      go_ret
      refine ⟨ret_bool ?_, rfl⟩
      unfold Sc.has
      rw [HT.out]
      rcases Nat.mod_two_eq_zero_or_one T with h | h <;> simp [h] <;> omega
theorem slot7_form {w : World} {s : SlotM} {x : Value} (h : IsSlot w s x) : ∃ k n t a len cap, x = .agg #[.string s.nm, .int .i64 s.ty, .bool s.rq, .int .i64 k, .int .i64 n, .string t, .slice a len cap] ∧ I64 s.ty ∧ s.nm.size ≤ maxLen ∧ Is w s.df (.agg #[.int .i64 k, .int .i64 n, .string t, .slice a len cap]) := by
  obtain ⟨c0, c1, c2, c3, c4, c5, c6, rfl, h1, h2, rfl, rfl, rfl, h3⟩ := h
  have h4 := h3
  cases hd : s.df with
  | mk k n t l =>
    rw [hd] at h4
    unfold Is at h4
    obtain ⟨_, _, _, a, cap, e, _⟩ := h4
    simp only [Value.agg.injEq, Array.mk.injEq, List.cons.injEq, and_true] at e
    obtain ⟨rfl, rfl, rfl, rfl⟩ := e
    rw [hd] at h3
    exact ⟨_, _, _, _, _, _, rfl, h2, h1, h3⟩
theorem right_kind {k n : Int} {s : ByteArray} {l : List PV} (h : rightV (.mk k n s l) = true) : 0 ≤ k ∧ k ≤ 5 := by
  unfold rightV at h
  simp only [Bool.and_eq_true] at h
  have h2 := h.2
  refine Decidable.byContradiction fun hn => ?_
  have e : okV (.mk k n s l) = false := by
    unfold okV
    rw [if_neg (by omega), if_neg (by omega), if_neg (by omega), if_neg (by omega), if_neg (by omega), if_neg (by omega)]
  rw [e] at h2
  cases h2
set_option maxRecDepth 100000 in
set_option maxHeartbeats 2000000 in
theorem refFits_any (s : SlotM) (v : PV) (hsz : szV v ≤ 1000000) (h0 : 0 ≤ s.ty) (w : World) (x y : Value) (hs : IsSlot w s x) (hv : Is w v y) : Calls Tryz.prog 29 #[x, y] w fun e w' => e = .returned (.bool (Sc.fits s.ty v)) ∧ Below w.heap.size w w' := by
  obtain ⟨k0, n0, t0, a0, len0, cap0, rfl, hI, hnm, hd⟩ := slot7_form hs
  have hR := fun W hi => refRight_any v hsz W y hi
  obtain ⟨ty, hty⟩ : ∃ ty : Nat, s.ty = (ty : Int) := ⟨s.ty.toNat, by omega⟩
  have hV := fun W (hb : Below w.heap.size w W) => is_below hb _ _ hv
  cases v with
  | mk k n t l =>
  unfold Is at hv
  obtain ⟨hk, hn, ht, a, cap, rfl, _⟩ := hv
  have hb1 := (Below.refl _ w).alloc (Nat.le_refl _) (.cells #[.string s.nm, .int .i64 s.ty, .bool s.rq, .int .i64 k0, .int .i64 n0, .string t0, .slice a0 len0 cap0] 44)
  have hb2 := hb1.alloc hb1.size (.cells #[.int .i64 k, .int .i64 n, .string t, .slice a l.length cap] 42)
  have HV := Lib.hid (hV _ hb2)
  have HR := Lib.hid hR
  have hfit : Sc.fits s.ty (.mk k n t l) = (rightV (.mk k n t l) && Sc.has ty k.toNat) := by unfold Sc.fits Sc.kindV; rw [hty]; rfl
  rw [hfit, hty]
  have hI1 : (ty : Int) ≤ 9223372036854775807 := by unfold I64 at hI; omega
  rw [hty] at hb1 hb2 HV
  clear hfit hV hR hty hs hd hI
  obtain ⟨r, hr⟩ : ∃ r, rightV (.mk k n t l) = r := ⟨_, rfl⟩
  have hkk := right_kind (k := k) (n := n) (s := t) (l := l)
  rw [hr] at HR hkk ⊢
  clear hr
  have hc2 := World.alloc_heap_new (w.alloc (.cells #[.string s.nm, .int .i64 (ty : Int), .bool s.rq, .int .i64 k0, .int .i64 n0, .string t0, .slice a0 len0 cap0] 44)) (.cells #[.int .i64 k, .int .i64 n, .string t, .slice a l.length cap] 42)
  cases r with
  | false =>
    clear hkk
    go_enter Tryz.func29, Tryz.ntmps29
    go_wp2_with (go_at_call 51; (with_reducible refine (HR.out _ HV.out).mono ?_); rintro e w1 ⟨rfl, hB1⟩)
    go_ret
    exact ⟨rfl, hb2.trans (hB1.mono hb2.size)⟩
  | true =>
    obtain ⟨hk0, hk5⟩ := hkk rfl
    obtain ⟨kn, hkn⟩ : ∃ kn : Nat, k = (kn : Int) := ⟨k.toNat, by omega⟩
    subst hkn
    rw [Int.toNat_natCast]
    have hH := fun W => refHas_any ty kn hI1 (by omega) W
    go_enter Tryz.func29, Tryz.ntmps29
    go_wp2_with (first
      | (go_at_call 51; (with_reducible refine (HR.out _ HV.out).mono ?_); rintro e w1 ⟨rfl, hB1⟩; have hx1 := cell_below hB1 (show World.cell? _ ⟨w.heap.size, 1, none⟩ = some (.int .i64 (ty : Int)) by simp); have hx2 := cell_below hB1 (show World.cell? _ ⟨w.heap.size + 1, 0, none⟩ = some (.int .i64 (kn : Int)) by simp))
      | (go_at_call 52; (with_reducible refine (hH _).mono ?_); rintro e w2 ⟨rfl, rfl⟩))
    go_ret
    exact ⟨ret_bool (by simp), hb2.trans (hB1.mono hb2.size)⟩
end Go.Proofs.YtibjjclfonpibaaGreat

/- The document's Great of layer 10. -/
set_option linter.unusedVariables false
set_option maxRecDepth 100000
namespace Go.Proofs.YtibjjclfonpibaaGreat
open Go.RowKit Go.Shelf
def greatS (s : SlotM) : Bool := greatV s.df || decide (300 < s.nm.size)
def greatP (t : StepM) : Bool := greatV t.sl.df || decide (300 < t.sl.nm.size) || decide (30 < t.od.length)
def greatT (t : TemplM) : Bool := (decide (30 < t.slots.length) || decide (30 < t.steps.length) || decide (300 < t.nm.size)) || (t.slots.any greatS || t.steps.any greatP)
theorem slotAt_form {w : World} {b o : Nat} {s : SlotM} (h : SlotAt w b o s) : ∃ k n t a len cap,
    (w.cell? ⟨b, o, none⟩ = some (.string s.nm) ∧ w.cell? ⟨b, o + 1, none⟩ = some (.int .i64 s.ty) ∧ w.cell? ⟨b, o + 2, none⟩ = some (.bool s.rq) ∧ w.cell? ⟨b, o + 3, none⟩ = some (.int .i64 k) ∧ w.cell? ⟨b, o + 4, none⟩ = some (.int .i64 n) ∧ w.cell? ⟨b, o + 5, none⟩ = some (.string t) ∧ w.cell? ⟨b, o + 6, none⟩ = some (.slice a len cap)) ∧
    I64 s.ty ∧ s.nm.size ≤ maxLen ∧ Is w s.df (.agg #[.int .i64 k, .int .i64 n, .string t, .slice a len cap]) := by
  obtain ⟨c0, c1, c2, c3, c4, c5, c6, ⟨g0, g1, g2, g3, g4, g5, g6⟩, h1, h2, rfl, rfl, rfl, h3⟩ := h
  have h4 := h3
  cases hd : s.df with
  | mk k n t l =>
    rw [hd] at h4
    unfold Is at h4
    obtain ⟨_, _, _, a, cap, e, _⟩ := h4
    simp only [Value.agg.injEq, Array.mk.injEq, List.cons.injEq, and_true] at e
    obtain ⟨rfl, rfl, rfl, rfl⟩ := e
    rw [hd] at h3
    exact ⟨_, _, _, _, _, _, ⟨g0, g1, g2, g3, g4, g5, g6⟩, h2, h1, h3⟩
theorem any_take {α : Type} (p : α → Bool) (l : List α) (h : ∀ (q : Nat) (x : α), l[q]? = some x → p x = false) : l.any p = false := by
  rw [List.any_eq_false]
  intro x hx
  obtain ⟨i, hi⟩ := List.mem_iff_getElem?.1 hx
  simp [h i x hi]
theorem any_at {α : Type} (p : α → Bool) (l : List α) (q : Nat) (x : α) (h : l[q]? = some x) (hp : p x = true) : l.any p = true := List.any_eq_true.2 ⟨x, List.mem_of_getElem? h, hp⟩
set_option maxRecDepth 100000 in
set_option maxHeartbeats 4000000 in
theorem refGreat10_any (t : TemplM) (w : World) (x : Value) (hi : IsTempl w t x) : Calls Tryz.prog 10 #[x] w fun e w' => e = .returned (.bool (greatT t)) ∧ Below w.heap.size w w' := by
  obtain ⟨nm, slots, steps⟩ := t
  obtain ⟨hnm, sa, sc, ta, tc, rfl, ⟨hs1, hs2, hs3⟩, ⟨ht1, ht2, ht3⟩⟩ := hi
  simp only at hnm hs1 ht1 hs3 ht3 ⊢
  have hB0 := (Below.refl _ w).alloc (Nat.le_refl _) (.cells #[.string nm, .slice sa slots.length sc, .slice ta steps.length tc] 25)
  have hcx : ∀ W, Below (w.alloc (.cells #[.string nm, .slice sa slots.length sc, .slice ta steps.length tc] 25)).heap.size (w.alloc (.cells #[.string nm, .slice sa slots.length sc, .slice ta steps.length tc] 25)) W → W.cell? ⟨w.heap.size, 0, none⟩ = some (.string nm) ∧ W.cell? ⟨w.heap.size, 1, none⟩ = some (.slice sa slots.length sc) ∧ W.cell? ⟨w.heap.size, 2, none⟩ = some (.slice ta steps.length tc) := fun W hb =>
    ⟨cell_below hb (by simp), cell_below hb (by simp), cell_below hb (by simp)⟩
  obtain ⟨x0, x1, x2⟩ := hcx _ (Below.refl _ _)
  unfold maxLen at hnm hs2 ht2
  have HCX := Lib.hid hcx
  clear hcx
  unfold greatT
  by_cases h1 : (decide (30 < slots.length) || decide (30 < steps.length) || decide (300 < nm.size)) = true
  · simp only [h1, Bool.true_or]
    simp only [Bool.or_eq_true, decide_eq_true_eq] at h1
    by_cases k1 : 30 < slots.length
    · have d1 : decide ((30 : Int) < (slots.length : Int)) = true := by simp; omega
      clear hs3 ht3
      go_enter Tryz.func10, Tryz.ntmps10
      go_wp2
      go_ret
      exact ⟨rfl, hB0⟩
    · have d1 : decide ((30 : Int) < (slots.length : Int)) = false := by simp; omega
      by_cases k2 : 30 < steps.length
      · have d2 : decide ((30 : Int) < (steps.length : Int)) = true := by simp; omega
        clear hs3 ht3
        go_enter Tryz.func10, Tryz.ntmps10
        go_wp2
        go_ret
        exact ⟨rfl, hB0⟩
      · have d2 : decide ((30 : Int) < (steps.length : Int)) = false := by simp; omega
        have d3 : decide ((300 : Int) < (nm.size : Int)) = true := by simp; omega
        clear hs3 ht3
        go_enter Tryz.func10, Tryz.ntmps10
        go_wp2
        go_ret
        exact ⟨rfl, hB0⟩
  · simp only [Bool.not_eq_true] at h1
    rw [h1, Bool.false_or]
    simp only [Bool.or_eq_false_iff, decide_eq_false_iff_not] at h1
    have d1 : decide ((30 : Int) < (slots.length : Int)) = false := by simp; omega
    have d2 : decide ((30 : Int) < (steps.length : Int)) = false := by simp; omega
    have d3 : decide ((300 : Int) < (nm.size : Int)) = false := by simp; omega
    have HS3 := Lib.hid hs3; have HT3 := Lib.hid ht3
    clear hs3 ht3
    have hl30 : slots.length ≤ 30 := by omega
    have hp30 : steps.length ≤ 30 := by omega
    clear h1
    obtain ⟨G, hG⟩ : ∃ G, (slots.any greatS || steps.any greatP) = G := ⟨_, rfl⟩
    rw [hG]
    have HGG := Lib.hid hG
    clear hG
    go_enter Tryz.func10, Tryz.ntmps10
    go_wp2
    obtain ⟨W1, hW1⟩ : ∃ W1, w.alloc (.cells #[.string nm, .slice sa slots.length sc, .slice ta steps.length tc] 25) = W1 := ⟨_, rfl⟩
    rw [hW1] at HCX hB0 ⊢
    obtain ⟨bT, hbT⟩ : ∃ bT, w.heap.size = bT := ⟨_, rfl⟩
    have HB0 := Lib.hid hB0
    rw [hbT] at HCX ⊢
    clear x0 x1 x2 hW1 hB0
    go_loopw [3] (fun i wr => ∃ q : Nat, q ≤ slots.length ∧ i = .int .i64 (q : Int) ∧ Below W1.heap.size W1 wr ∧ ∀ j s, j < q → slots[j]? = some s → greatS s = false) (fun i _ => slots.length - (intOf i).toNat)
    case atStart => exact ⟨0, Nat.zero_le _, rfl, Below.refl _ _, fun j s h => by omega⟩
    case round =>
      obtain ⟨q, hq, rfl, hbl, hno⟩ := hrel
      obtain ⟨x0, x1, x2⟩ := HCX.out _ hbl
      have HNO := Lib.hid hno
      clear hno
      rcases Nat.lt_or_ge q slots.length with hlt | hge
      · have hd : decide ((q : Int) < (slots.length : Int)) = true := by simp; omega
        obtain ⟨s, hs⟩ : ∃ s, slots[q]? = some s := ⟨slots[q], List.getElem?_eq_getElem hlt⟩
        obtain ⟨b, off, rfl, hrow⟩ : ∃ b off, sa = some ⟨b, off, none⟩ ∧ ∀ i s, slots[i]? = some s → SlotAt w b (off + i * 7) s := by
          rcases HS3.out with h | h
          · subst h; simp at hlt
          · exact h
        obtain ⟨k, n, t, a, len, cap, ⟨g0, g1, g2, g3, g4, g5, g6⟩, hI, hsn, hdf⟩ := slotAt_form (slotAt_below (HB0.out.trans (hbl.mono HB0.out.size)) (hrow q s hs))
        have hGr := great_any s.df wr _ hdf
        have HS := Lib.hid hs; have HR := Lib.hid hrow
        unfold maxLen at hsn
        clear hs hrow hdf
        obtain ⟨gv, hgv⟩ : ∃ gv, greatV s.df = gv := ⟨_, rfl⟩
        rw [hgv] at hGr
        have HG := Lib.hid hgv
        clear hgv
        cases gv with
        | true =>
          have hcon : slots.any greatS = true := any_at _ _ q s HS.out (by simp [greatS, HG.out])
          go_wp2_with (go_at_call 36; (with_reducible refine hGr.mono ?_); rintro e w2 ⟨rfl, hB2⟩; obtain ⟨y0, y1, y2⟩ := HCX.out _ (hbl.trans (hB2.mono hbl.size)))
          go_ret
          exact ⟨ret_bool (by rw [← HGG.out, hcon]; rfl), HB0.out.trans ((hbl.trans (hB2.mono hbl.size)).mono HB0.out.size)⟩
        | false =>
          by_cases hb : 300 < s.nm.size
          · have hcon : slots.any greatS = true := any_at _ _ q s HS.out (by simp [greatS, hb])
            have d4 : decide ((300 : Int) < (s.nm.size : Int)) = true := by simp; omega
            go_wp2_with (go_at_call 36; (with_reducible refine hGr.mono ?_); rintro e w2 ⟨rfl, hB2⟩; obtain ⟨y0, y1, y2⟩ := HCX.out _ (hbl.trans (hB2.mono hbl.size)); have f0 := cell_below hB2 g0)
            go_ret
            exact ⟨ret_bool (by rw [← HGG.out, hcon]; rfl), HB0.out.trans ((hbl.trans (hB2.mono hbl.size)).mono HB0.out.size)⟩
          · have d4 : decide ((300 : Int) < (s.nm.size : Int)) = false := by simp; omega
            go_wp2_with (go_at_call 36; (with_reducible refine hGr.mono ?_); rintro e w2 ⟨rfl, hB2⟩; obtain ⟨y0, y1, y2⟩ := HCX.out _ (hbl.trans (hB2.mono hbl.size)); have f0 := cell_below hB2 g0)
            go_roundw
            case rel => exact ⟨q + 1, by omega, by go_num, hbl.trans (hB2.mono hbl.size), fun j s' hj hs' => by
              rcases Nat.lt_or_ge j q with h | h
              · exact HNO.out j s' h hs'
              · obtain rfl : j = q := by omega
                rw [HS.out] at hs'
                cases hs'
                simp [greatS, HG.out, hb]⟩
            case measure => simp [intOf]; omega
      · obtain rfl : q = slots.length := by omega
        have hd : decide ((slots.length : Int) < (slots.length : Int)) = false := by simp
        have hcon : slots.any greatS = false := any_take _ _ (fun j s h => HNO.out j s ((List.getElem?_eq_some_iff.1 h).1) h)
        have HF1 := Lib.hid hcon
        go_wp2
        obtain ⟨W2, hW2⟩ : ∃ W2, wr = W2 := ⟨_, rfl⟩
        rw [hW2] at hbl ⊢
        clear hW2 x0 x1 x2 HNO hcon
        go_loopw [4] (fun i wr => ∃ q : Nat, q ≤ steps.length ∧ i = .int .i64 (q : Int) ∧ Below W1.heap.size W1 wr ∧ ∀ j s, j < q → steps[j]? = some s → greatP s = false) (fun i _ => steps.length - (intOf i).toNat)
        case atStart => exact ⟨0, Nat.zero_le _, rfl, hbl, fun j s h => by omega⟩
        case round =>
          clear hbl
          obtain ⟨q, hq, rfl, hbl, hno⟩ := hrel
          obtain ⟨x0, x1, x2⟩ := HCX.out _ hbl
          have HNO := Lib.hid hno
          clear hno
          rcases Nat.lt_or_ge q steps.length with hlt | hge
          · have hd : decide ((q : Int) < (steps.length : Int)) = true := by simp; omega
            obtain ⟨s, hs⟩ : ∃ s, steps[q]? = some s := ⟨steps[q], List.getElem?_eq_getElem hlt⟩
            obtain ⟨b, off, rfl, hrow⟩ : ∃ b off, ta = some ⟨b, off, none⟩ ∧ ∀ i s, steps[i]? = some s → StepAt w b (off + i * 10) s := by
              rcases HT3.out with h | h
              · subst h; simp at hlt
              · exact h
            obtain ⟨oa, oc, ⟨e0, e1, e9⟩, _, _, hsl, hod, _⟩ := stepAt_below (HB0.out.trans (hbl.mono HB0.out.size)) (hrow q s hs)
            obtain ⟨k, n, t, a, len, cap, ⟨g0, g1, g2, g3, g4, g5, g6⟩, hI, hsn, hdf⟩ := slotAt_form hsl
            have hGr := great_any s.sl.df wr _ hdf
            have hoc := hod.2.1
            have hoc2 := hod.2.2.1
            have HS := Lib.hid hs; have HR := Lib.hid hrow
            unfold maxLen at hsn hoc2
            clear hs hrow hdf hsl hod
            obtain ⟨gv, hgv⟩ : ∃ gv, greatV s.sl.df = gv := ⟨_, rfl⟩
            rw [hgv] at hGr
            have HG := Lib.hid hgv
            clear hgv
            cases gv with
            | true =>
              have hcon : steps.any greatP = true := any_at _ _ q s HS.out (by simp [greatP, HG.out])
              go_wp2_with (go_at_call 36; (with_reducible refine hGr.mono ?_); rintro e w2 ⟨rfl, hB2⟩; obtain ⟨y0, y1, y2⟩ := HCX.out _ (hbl.trans (hB2.mono hbl.size)))
              go_ret
              exact ⟨ret_bool (by rw [← HGG.out, HF1.out, hcon]; rfl), HB0.out.trans ((hbl.trans (hB2.mono hbl.size)).mono HB0.out.size)⟩
            | false =>
              by_cases hb : 300 < s.sl.nm.size
              · have hcon : steps.any greatP = true := any_at _ _ q s HS.out (by simp [greatP, hb])
                have d4 : decide ((300 : Int) < (s.sl.nm.size : Int)) = true := by simp; omega
                go_wp2_with (go_at_call 36; (with_reducible refine hGr.mono ?_); rintro e w2 ⟨rfl, hB2⟩; obtain ⟨y0, y1, y2⟩ := HCX.out _ (hbl.trans (hB2.mono hbl.size)); have f0 := cell_below hB2 g0)
                go_ret
                exact ⟨ret_bool (by rw [← HGG.out, HF1.out, hcon]; rfl), HB0.out.trans ((hbl.trans (hB2.mono hbl.size)).mono HB0.out.size)⟩
              · have d4 : decide ((300 : Int) < (s.sl.nm.size : Int)) = false := by simp; omega
                by_cases hbo : 30 < s.od.length
                · have hcon : steps.any greatP = true := any_at _ _ q s HS.out (by simp [greatP, hbo])
                  have d5 : decide ((30 : Int) < (s.od.length : Int)) = true := by simp; omega
                  go_wp2_with (go_at_call 36; (with_reducible refine hGr.mono ?_); rintro e w2 ⟨rfl, hB2⟩; obtain ⟨y0, y1, y2⟩ := HCX.out _ (hbl.trans (hB2.mono hbl.size)); have f0 := cell_below hB2 g0; have f9 := cell_below hB2 e9)
                  go_ret
                  exact ⟨ret_bool (by rw [← HGG.out, HF1.out, hcon]; rfl), HB0.out.trans ((hbl.trans (hB2.mono hbl.size)).mono HB0.out.size)⟩
                · have d5 : decide ((30 : Int) < (s.od.length : Int)) = false := by simp; omega
                  go_wp2_with (go_at_call 36; (with_reducible refine hGr.mono ?_); rintro e w2 ⟨rfl, hB2⟩; obtain ⟨y0, y1, y2⟩ := HCX.out _ (hbl.trans (hB2.mono hbl.size)); have f0 := cell_below hB2 g0; have f9 := cell_below hB2 e9)
                  go_roundw
                  case rel => exact ⟨q + 1, by omega, by go_num, hbl.trans (hB2.mono hbl.size), fun j s' hj hs' => by
                    rcases Nat.lt_or_ge j q with h | h
                    · exact HNO.out j s' h hs'
                    · obtain rfl : j = q := by omega
                      rw [HS.out] at hs'
                      cases hs'
                      simp [greatP, HG.out, hb, hbo]⟩
                  case measure => simp [intOf]; omega
          · obtain rfl : q = steps.length := by omega
            have hd : decide ((steps.length : Int) < (steps.length : Int)) = false := by simp
            have hcon : steps.any greatP = false := any_take _ _ (fun j s h => HNO.out j s ((List.getElem?_eq_some_iff.1 h).1) h)
            go_wp2
            go_ret
            exact ⟨ret_bool (by rw [← HGG.out, HF1.out, hcon]; rfl), HB0.out.trans (hbl.mono HB0.out.size)⟩
end Go.Proofs.YtibjjclfonpibaaGreat
