/- The document's step of layer 10: no kind is new; the order isn't one. (Made by gen_ref10o.py.) -/
import Derived.Test.YtibjjclfonpibaaGreatMh46Reco
set_option linter.unusedVariables false
set_option linter.unusedSimpArgs false
set_option maxRecDepth 100000
namespace Go.Proofs.YtibjjclfonpibaaGreat
open Go.RowKit Go.Shelf
theorem once_of_cnt9 {od : List Int} {n : Nat} (hl : od.length = n) (h : ∀ k, k < n → cnt9 od k n = 1) : Sc.once od n = true := by
  unfold Sc.once
  rw [List.all_eq_true]
  intro k hk
  rw [decide_eq_true_eq]
  have := h k (List.mem_range.1 hk)
  rw [← hl] at this
  simpa [cnt9] using this
set_option maxHeartbeats 8000000 in
theorem refStep_4few (x : Sc.Ver) (s : StepM) (sa : Option Addr) (sc : Nat) (ca : Option Addr) (cc : Nat) (w0 w : World) (T : Value) (hsl : x.slots.length ≤ 100000) (hcl : x.cols.length ≤ 100000) (hv : VerInA w0 w x sa sc ca cc) (hs0 : RIsStep w0 s T) (h0 : Below w0.heap.size w0 w) (hk : s.kd = 4) (hin : 0 ≤ s.col ∧ s.col < x.cols.length) (hre : Sc.rest s = true) (hinx : ∀ c ∈ x.cols, c < x.slots.length) (hok : ∀ t ∈ x.slots, 1 ≤ t.ty ∧ t.ty ≤ 63) (hty : 1 ≤ s.sl.ty ∧ s.sl.ty ≤ 63)
    (hmore : (Sc.slotOf x (x.cols[s.col.toNat]?.getD 0)).ty.toNat ||| s.sl.ty.toNat = (Sc.slotOf x (x.cols[s.col.toNat]?.getD 0)).ty.toNat) :
    Calls Tryz.prog 69 #[.agg #[.slice sa x.slots.length sc, .slice ca x.cols.length cc], T] w (RStepC w0 w x s) := by
  have hs := rIsStep_below h0 hs0
  have hC := fun W (hb : Below w.heap.size w W) => refCopy_in x sa sc ca cc w0 w W hsl hcl hv hb
  have hR := fun W (hb : Below w.heap.size w W) => refRest_any s W T (rIsStep_below hb hs)
  rw [hre] at hR
  obtain ⟨kd, col, sl, od⟩ := s
  obtain ⟨q2, q3, q4, q5, q6, q7, q8, oa, oc, rfl, hi1, hi2, h7, hod, _⟩ := hs
  simp only at hk hi1 hi2 hre hinx hin h7 hty hmore ⊢
  subst hk
  have HX := Lib.hid hinx
  obtain ⟨hnm, hty2, rfl, rfl, rfl, hdf⟩ := h7
  obtain ⟨k, rfl⟩ : ∃ k : Nat, col = (k : Int) := ⟨col.toNat, by omega⟩
  have hk1 : k < x.cols.length := by omega
  obtain ⟨b, hb⟩ : ∃ b : Nat, sl.ty = (b : Int) := ⟨sl.ty.toNat, by omega⟩
  obtain ⟨c, hcx⟩ : ∃ c, x.cols[k]? = some c := ⟨x.cols[k], List.getElem?_eq_getElem hk1⟩
  have hcl9 := hinx c (List.mem_of_getElem? hcx)
  obtain ⟨so, hso⟩ : ∃ so, x.slots[c]? = some so := ⟨x.slots[c], List.getElem?_eq_getElem hcl9⟩
  have hot := hok so (List.mem_of_getElem? hso)
  obtain ⟨a, ha⟩ : ∃ a : Nat, so.ty = (a : Int) := ⟨so.ty.toNat, by omega⟩
  have hslo : Sc.slotOf x c = so := by unfold Sc.slotOf; rw [hso]; rfl
  rw [Int.toNat_natCast, hcx, Option.getD_some, hslo, ha, hb, Int.toNat_natCast, Int.toNat_natCast] at hmore
  have ha64 : a < 64 := by omega
  have hb64 : b < 64 := by omega
  have hor : a ||| b < 64 := Nat.or_lt_two_pow (n := 6) ha64 hb64
  have hno : Sc.step x ⟨4, (k : Int), sl, od⟩ = none := by
    unfold Sc.step
    simp only
    rw [if_neg (by rw [hre]; simp), if_neg (by decide), if_neg (by decide), if_neg (by omega), if_neg (by decide), if_neg (by decide), Int.toNat_natCast, hcx, Option.getD_some, hslo, ha, hb, Int.toNat_natCast, Int.toNat_natCast, if_neg (fun h => h.2.2 hmore)]
  obtain ⟨Q, hQ⟩ : ∃ Q, RStepC w0 w x ⟨4, (k : Int), sl, od⟩ = Q := ⟨_, rfl⟩
  have hq : ∀ (a : Option Addr) (n c : Nat) (a' : Option Addr) (n' c' : Nat) (w' : World), Below w.heap.size w w' → Q (.returned (.tuple #[.agg #[.slice a n c, .slice a' n' c'], .bool false])) w' := by
    intro a n c a' n' c' w' hb
    rw [← hQ]; unfold RStepC; rw [hno]; exact ⟨⟨a, n, c, a', n', c', rfl⟩, hb⟩
  have HQ := Lib.hid hq
  clear hq
  rw [hQ]
  clear hQ hno hod
  have d4 : decide ((k : Int) < 0) = false := by simp
  have d5 : decide ((x.cols.length : Int) ≤ (k : Int)) = false := by simp; omega
  have d5n : decide (x.cols.length ≤ k) = false := by simp; omega
  have d6 : decide ((b : Int) < 1) = false := by simp; omega
  have d7 : decide ((63 : Int) < (b : Int)) = false := by simp; omega
  simp only [hb] at hR ⊢
  have hw6 := widF_6 a ha64 b hb64
  have hm : decide ((a ||| b) ≠ a) = false := by simpa using hmore
  rw [hm] at hw6
  have hwl := widF_le a ha64 b hb64
  have hHas := fun (t k : Nat) (ht : t < 128) (hk : k ≤ 100) (W : World) => refHas_any t k (by omega) hk W
  have HHas := Lib.hid hHas; have HWL := Lib.hid hwl; have HW6 := Lib.hid hw6; have HCX := Lib.hid hcx; have HSO := Lib.hid hso; have HA := Lib.hid ha
  clear hre hinx hHas hwl hw6 hcx hso ha hok hot hslo hm hmore hb
  have HV := Lib.hid hv
  clear hv
  go_enter Tryz.func69, Tryz.ntmps69
  go_upto_region 23 with (first
    | (go_at_call 85; (with_reducible refine (hC _ ?_).mono ?_); rotate_left; rintro e w1 ⟨⟨sv, cv, rfl, hvo⟩, hb1⟩; obtain ⟨a6, c6, a7, c7', rfl, rfl⟩ := ver_form hvo; obtain ⟨hP, hq2, hq3⟩ := step_pre w0 w w1 x sa sc ca cc _ _ _ _ _ hb1 hvo; have HP := Lib.hid hP; clear hq2 hq3 hb1; obtain ⟨_, p2, _, p4, _⟩ := hP; obtain ⟨⟨y0, y1, y2, y3, y4⟩, y5, y6, y7, y8, y9⟩ := ten_cells p2)
    | (go_at_call 86; (with_reducible refine (hR _ (stepS_bel HP.out)).mono ?_); rintro e w2 ⟨rfl, hb2⟩; have HP2 := Lib.hid (stepS_below HP.out hb2); clear hb2; have hP2 := HP2.out; obtain ⟨_, p2', p3, p4', _⟩ := hP2; obtain ⟨⟨z0, z1, z2, z3, z4⟩, z5, z6, z7, z8, z9⟩ := ten_cells p2'; obtain ⟨r0, r1, r2, r3⟩ := two_all p3; obtain ⟨x0, x1, x2, x3⟩ := two_all p4'))
  · have HPd := HP2.out
    obtain ⟨g, g', c', s', hc, hs', hcl, rfl, rfl, e2, ⟨e1, f1⟩, hPn⟩ := stepS_type HPd hk1 HX.out ((a ||| b : Nat) : Int) (by unfold I64; omega)
    obtain rfl : c' = c := by have := HCX.out; rw [hc] at this; exact Option.some.inj this
    obtain rfl : s' = so := by have := HSO.out; rw [hs'] at this; exact Option.some.inj this
    rw [HA.out] at e1
    have HPn := Lib.hid hPn
    clear hc hs' hPn
    go_region
    go_wp2
    go_loopw [7, 8, 9, 10] (fun ty bit more i wr => ∃ j nq : Nat, j ≤ 6 ∧ i = .int .i64 (j : Int) ∧ ty = .int .i64 (((widF a b j).1 : Nat) : Int) ∧ bit = .int .i64 ((2 ^ j : Nat) : Int) ∧ more = .bool (widF a b j).2 ∧ wr = w2.drewN nq) (fun _ _ _ i _ => 6 - (intOf i).toNat)
    case atStart => exact ⟨0, 1, by omega, rfl, rfl, rfl, rfl, rfl⟩
    case round =>
      obtain ⟨j, nq, hj, rfl, rfl, rfl, rfl, rfl⟩ := hrel
      rcases Nat.lt_or_ge j 6 with hlt | hge
      · have hdj : decide ((j : Int) < 6) = true := by simp; omega
        have ht128 := HWL.out j (by omega)
        have hH1 := HHas.out b j (by omega) (by omega)
        have hH2 := HHas.out (widF a b j).1 j ht128 (by omega)
        have hst : widF a b (j + 1) = if Sc.has b j && !Sc.has (widF a b j).1 j then ((widF a b j).1 + 2 ^ j, true) else widF a b j := rfl
        have hp : 2 ^ j ≤ 64 := by
          have : 2 ^ j ≤ 2 ^ 6 := Nat.pow_le_pow_right (by omega) hj
          simpa using this
        have hpp : 2 ^ (j + 1) = 2 ^ j * 2 := Nat.pow_succ 2 j
        obtain ⟨tm, htm⟩ : ∃ tm, widF a b j = tm := ⟨_, rfl⟩
        rw [htm] at hH2 hst ht128 ⊢
        obtain ⟨t9, m9⟩ := tm
        obtain ⟨pw, hpw⟩ : ∃ pw, 2 ^ j = pw := ⟨_, rfl⟩
        rw [hpw] at hst hp hpp ⊢
        simp only at hH2 hst ht128 ⊢
        obtain ⟨A, hA⟩ : ∃ A, Sc.has b j = A := ⟨_, rfl⟩
        obtain ⟨B, hB⟩ : ∃ B, Sc.has t9 j = B := ⟨_, rfl⟩
        rw [hA] at hH1 hst
        rw [hB] at hH2 hst
        have hw1 : IntKind.i64.wrap ((t9 : Int) + (pw : Int)) = ((t9 + pw : Nat) : Int) := by rw [IntKind.wrap_i64]; omega
        have hw2 : IntKind.i64.wrap ((pw : Int) * 2) = ((pw * 2 : Nat) : Int) := by rw [IntKind.wrap_i64]; omega
        have HST := Lib.hid hst; have HPP := Lib.hid hpp; have HH1 := Lib.hid hH1; have HH2 := Lib.hid hH2
        clear hst hpp hH1 hH2 hA hB htm hpw
        cases A with
        | false =>
          have hs2 : widF a b (j + 1) = (t9, m9) := by rw [HST.out]; rfl
          have HS2 := Lib.hid hs2
          clear hs2
          go_wp2_with (go_at_call 52; (with_reducible refine (HH1.out _).mono ?_); rintro e w5 ⟨rfl, rfl⟩)
          go_roundw
          case rel => exact ⟨j + 1, nq, by omega, by go_num, by rw [HS2.out] <;> first | rfl | simp only [Int.natCast_add], by rw [HPP.out]; first | rfl | (go_num), by rw [HS2.out], rfl⟩
          case measure => simp [intOf]; omega
        | true =>
          cases B with
          | true =>
            have hs2 : widF a b (j + 1) = (t9, m9) := by rw [HST.out]; rfl
            have HS2 := Lib.hid hs2
            clear hs2
            go_wp2_with (go_at_call 52; first | ((with_reducible refine (HH1.out _).mono ?_); rintro e w5 ⟨rfl, rfl⟩) | ((with_reducible refine (HH2.out _).mono ?_); rintro e w5 ⟨rfl, rfl⟩))
            go_roundw
            case rel => exact ⟨j + 1, nq, by omega, by go_num, by rw [HS2.out] <;> first | rfl | simp only [Int.natCast_add], by rw [HPP.out]; first | rfl | (go_num), by rw [HS2.out], rfl⟩
            case measure => simp [intOf]; omega
          | false =>
            have hs2 : widF a b (j + 1) = (t9 + pw, true) := by rw [HST.out]; rfl
            have HS2 := Lib.hid hs2
            clear hs2
            go_wp2_with (go_at_call 52; first | ((with_reducible refine (HH1.out _).mono ?_); rintro e w5 ⟨rfl, rfl⟩) | ((with_reducible refine (HH2.out _).mono ?_); rintro e w5 ⟨rfl, rfl⟩))
            go_roundw
            case rel => exact ⟨j + 1, nq, by omega, by go_num, by rw [HS2.out] <;> first | rfl | simp only [Int.natCast_add], by rw [HPP.out]; first | rfl | (go_num), by rw [HS2.out], rfl⟩
            case measure => simp [intOf]; omega
      · obtain rfl : j = 6 := by omega
        have hdj : decide ((6 : Int) < 6) = false := by decide
        rw [HW6.out]
        have hPV := stepS_drewN HP2.out nq
        have HE := Lib.hid (step_end2 w (w2.drewN nq) (w.heap.size + 1 + 1) _ _ (.slice (some ⟨g, 0, none⟩) x.slots.length c6) (.slice (some ⟨g', 0, none⟩) x.cols.length c7') (stepS_res hPV) (stepS_bel hPV) (by omega))
        obtain ⟨_, d2, d3, d4', _⟩ := hPV
        obtain ⟨⟨v0, v1, v2, v3, v4⟩, _⟩ := ten_cells d2
        obtain ⟨s0, s1, s2, s3⟩ := two_all d3
        obtain ⟨v5, v6⟩ := two_cells d4'
        clear d2 d3 d4' HWL HW6 HHas
        go_wp2_with fail
        refine bodyPost_ret (results_cell_tmp_row9 Tryz.results69 _ _ (w.heap.size + 1 + 1) _ _ _ _ rfl HE.out.1 Tryz.underlying37 rfl (by kernel_rfl)) rfl ?_
        exact HQ.out _ _ _ _ _ _ _ HE.out.2
  · exact (((Below.refl _ w).alloc (Nat.le_refl _) _).alloc (by simp) _).alloc (by simp; omega) _
set_option maxHeartbeats 8000000 in
theorem refStep_5bad (x : Sc.Ver) (s : StepM) (sa : Option Addr) (sc : Nat) (ca : Option Addr) (cc : Nat) (w0 w : World) (T : Value) (hsl : x.slots.length ≤ 100000) (hcl : x.cols.length ≤ 100000) (hv : VerInA w0 w x sa sc ca cc) (hs0 : RIsStep w0 s T) (h0 : Below w0.heap.size w0 w) (hk : s.kd = 5) (hre : Sc.rest s = true) (hlen : s.od.length = x.cols.length) (hon : Sc.once s.od x.cols.length = false) :
    Calls Tryz.prog 69 #[.agg #[.slice sa x.slots.length sc, .slice ca x.cols.length cc], T] w (RStepC w0 w x s) := by
  have hs := rIsStep_below h0 hs0
  have hC := fun W (hb : Below w.heap.size w W) => refCopy_in x sa sc ca cc w0 w W hsl hcl hv hb
  have hR := fun W (hb : Below w.heap.size w W) => refRest_any s W T (rIsStep_below hb hs)
  rw [hre] at hR
  obtain ⟨kd, col, sl, od⟩ := s
  obtain ⟨q2, q3, q4, q5, q6, q7, q8, oa, oc, rfl, hi1, hi2, h7, hod, _⟩ := hs
  simp only at hk hi1 hi2 hre h7 hlen hon hod ⊢
  subst hk
  obtain ⟨hnm, hty2, rfl, rfl, rfl, hdf⟩ := h7
  have hno : Sc.step x ⟨5, col, sl, od⟩ = none := by
    unfold Sc.step
    simp only
    rw [if_neg (by rw [hre]; simp), if_neg (by decide), if_pos trivial, if_neg (fun h => by rw [hon] at h; exact Bool.noConfusion h.2)]
  obtain ⟨Q, hQ⟩ : ∃ Q, RStepC w0 w x ⟨5, col, sl, od⟩ = Q := ⟨_, rfl⟩
  have hq : ∀ (a : Option Addr) (n c : Nat) (a' : Option Addr) (n' c' : Nat) (w' : World), Below w.heap.size w w' → Q (.returned (.tuple #[.agg #[.slice a n c, .slice a' n' c'], .bool false])) w' := by
    intro a n c a' n' c' w' hb
    rw [← hQ]; unfold RStepC; rw [hno]; exact ⟨⟨a, n, c, a', n', c', rfl⟩, hb⟩
  have HQ := Lib.hid hq
  clear hq
  rw [hQ]
  clear hQ hno
  rw [hlen] at hR hod ⊢
  have hne : ((x.cols.length : Int) != (x.cols.length : Int)) = false := by simp
  have HON := Lib.hid hon; have HLEN := Lib.hid hlen; have HOD := Lib.hid hod
  have HCL := Lib.hid (row_nth hv.2)
  have HV := Lib.hid hv
  clear hre hon hlen hod hv
  go_enter Tryz.func69, Tryz.ntmps69
  go_upto_region 37 with (first
    | (go_at_call 85; (with_reducible refine (hC _ ?_).mono ?_); rotate_left; rintro e w1 ⟨⟨sv, cv, rfl, hvo⟩, hb1⟩; obtain ⟨a6, c6, a7, c7', rfl, rfl⟩ := ver_form hvo; obtain ⟨hP, hq2, hq3⟩ := step_pre w0 w w1 x sa sc ca cc _ _ _ _ _ hb1 hvo; have HP := Lib.hid hP; clear hq2 hq3 hb1; obtain ⟨_, p2, _, p4, _⟩ := hP; obtain ⟨⟨y0, y1, y2, y3, y4⟩, y5, y6, y7, y8, y9⟩ := ten_cells p2)
    | (go_at_call 86; (with_reducible refine (hR _ (stepS_bel HP.out)).mono ?_); rintro e w2 ⟨rfl, hb2⟩; have HP2 := Lib.hid (stepS_below HP.out hb2); clear hb2; have hP2 := HP2.out; obtain ⟨p1', p2', p3, p4', _⟩ := hP2; obtain ⟨⟨z0, z1, z2, z3, z4⟩, z5, z6, z7, z8, z9⟩ := ten_cells p2'; obtain ⟨r0, r1, r2, r3⟩ := two_all p3; obtain ⟨x0, x1, x2, x3⟩ := two_all p4'; have oo := two_cells p1'; obtain ⟨o0, o1⟩ := oo))
  · have hbw := stepS_bel HP2.out
    go_wp2_with fail
    go_loopw [11] (fun i wr => ∃ j nq : Nat, j ≤ x.cols.length ∧ i = .int .i64 (j : Int) ∧ wr = w2.drewN nq ∧ ∀ k, k < j → cnt9 od k x.cols.length = 1) (fun i _ => x.cols.length - (intOf i).toNat)
    case atStart => exact ⟨0, 0, by omega, rfl, rfl, fun k hk => absurd hk (Nat.not_lt_zero k)⟩
    case round =>
      obtain ⟨j, nq, hj, rfl, rfl, hall⟩ := hrel
      have HALL := Lib.hid hall
      clear hall
      rcases Nat.lt_or_ge j x.cols.length with hlt | hge
      · have hdj : decide ((j : Int) < (x.cols.length : Int)) = true := by simp; omega
        have hdjn : decide (j < x.cols.length) = true := by simp; omega
        go_upto_region 42 with fail
        go_wp2_with fail
        go_loopw [12, 13] (fun c i wr => ∃ m nq : Nat, m ≤ x.cols.length ∧ i = .int .i64 (m : Int) ∧ c = .int .i64 ((cnt9 od j m : Nat) : Int) ∧ wr = w2.drewN nq) (fun _ i _ => x.cols.length - (intOf i).toNat)
        case atStart => exact ⟨0, nq, by omega, rfl, rfl, rfl⟩
        case round =>
          obtain ⟨m, nq, hm, rfl, rfl, rfl⟩ := hrel
          have hcl9 := cnt9_le od j m
          rcases Nat.lt_or_ge m x.cols.length with hml | hmg
          · have hdm : decide ((m : Int) < (x.cols.length : Int)) = true := by simp; omega
            have hdmn : decide (m < x.cols.length) = true := by simp; omega
            have hlen9 := HLEN.out
            obtain ⟨y, hy⟩ : ∃ y, od[m]? = some y := ⟨od[m], List.getElem?_eq_getElem (by omega)⟩
            obtain ⟨ob, oo, rfl, hcy⟩ := row_nth HOD.out m hml
            rw [hy, Option.getD_some] at hcy
            have hcy2 := cell_below hbw hcy
            have hst := cnt9_step (j := j) hy
            by_cases hyj : y = (j : Int)
            · subst hyj
              rw [if_pos rfl] at hst
              have hdy : ((j : Int) == (j : Int)) = true := by simp
              have hwp : IntKind.i64.wrap (((cnt9 od j m : Nat) : Int) + 1) = ((cnt9 od j m + 1 : Nat) : Int) := by rw [IntKind.wrap_i64]; omega
              have HST := Lib.hid hst
              clear hst hy hlen9 hcy
              go_wp2_with fail
              go_roundw
              case rel => exact ⟨m + 1, nq, by omega, by go_num, by rw [HST.out] <;> first | rfl | simp only [Int.natCast_add] <;> rfl, rfl⟩
              case measure => simp [intOf]; omega
            · rw [if_neg hyj, Nat.add_zero] at hst
              have hdy : (y == (j : Int)) = false := by simpa using hyj
              have HST := Lib.hid hst
              clear hst hy hyj hlen9 hcy
              go_wp2_with fail
              go_roundw
              case rel => exact ⟨m + 1, nq, by omega, by go_num, by rw [HST.out] <;> rfl, rfl⟩
              case measure => simp [intOf]; omega
          · obtain rfl : m = x.cols.length := by omega
            have hdm : decide ((x.cols.length : Int) < (x.cols.length : Int)) = false := by simp
            have hdmn : decide (x.cols.length < x.cols.length) = false := by simp
            obtain ⟨cc9, hcc9⟩ : ∃ c, cnt9 od j x.cols.length = c := ⟨_, rfl⟩
            rw [hcc9]
            by_cases h1 : cc9 = 1
            · have HALL2 : Hid (∀ k, k < j + 1 → cnt9 od k x.cols.length = 1) := Lib.hid fun k hk => by
                rcases Nat.lt_or_ge k j with h | h
                · exact HALL.out k h
                · obtain rfl : k = j := by omega
                  rw [hcc9, h1]
              subst h1
              clear hcc9
              go_wp2_with fail
              go_roundw
              case rel => exact ⟨j + 1, nq, by omega, by go_num, rfl, HALL2.out⟩
              case measure => simp [intOf]; omega
            · have hd1 : ((cc9 : Int) != 1) = true := by
                rw [bne_iff_ne]; omega
              have hPV := stepS_drewN HP2.out nq
              have HE := Lib.hid (step_end2 w (w2.drewN nq) (w.heap.size + 1 + 1) _ _ (.slice a6 x.slots.length c6) (.slice a7 x.cols.length c7') (stepS_res hPV) (stepS_bel hPV) (by omega))
              obtain ⟨_, d2, d3, d4', _⟩ := hPV
              obtain ⟨s0, s1, s2, s3⟩ := two_all d3
              obtain ⟨v5, v6⟩ := two_cells d4'
              clear d2 d3 d4' hcc9 h1 hcl9
              go_wp2_with fail
              refine bodyPost_ret (results_cell_tmp_row9 Tryz.results69 _ _ (w.heap.size + 1 + 1) _ _ _ _ rfl HE.out.1 Tryz.underlying37 rfl (by kernel_rfl)) rfl ?_
              exact HQ.out _ _ _ _ _ _ _ HE.out.2
      · obtain rfl : j = x.cols.length := by omega
        exact absurd (once_of_cnt9 HLEN.out HALL.out) (by rw [HON.out]; decide)
  · exact (((Below.refl _ w).alloc (Nat.le_refl _) _).alloc (by simp) _).alloc (by simp; omega) _
end Go.Proofs.YtibjjclfonpibaaGreat
