/- The document's step of layer 10: what a kind asks. (Made by gen_ref10g.py.) -/
import Derived.Test.YtibjjclfonpibaaGreatMh44Cast
set_option linter.unusedVariables false
set_option linter.unusedSimpArgs false
namespace Go.Proofs.YtibjjclfonpibaaGreat
open Go.RowKit Go.Shelf
set_option maxRecDepth 100000 in
set_option maxHeartbeats 4000000 in
theorem refStep_2few (x : Sc.Ver) (s : StepM) (sa : Option Addr) (sc : Nat) (ca : Option Addr) (cc : Nat) (w0 w : World) (T : Value) (hsl : x.slots.length ≤ 100000) (hcl : x.cols.length ≤ 100000) (hv : VerInA w0 w x sa sc ca cc) (hs0 : RIsStep w0 s T) (h0 : Below w0.heap.size w0 w) (hk : s.kd = 2) (hin : 0 ≤ s.col ∧ s.col < x.cols.length) (hre : Sc.rest s = true) (hco : x.cols.length < 2) :
    Calls Tryz.prog 69 #[.agg #[.slice sa x.slots.length sc, .slice ca x.cols.length cc], T] w (RStepC w0 w x s) := by
  have hs := rIsStep_below h0 hs0
  have hC := fun W (hb : Below w.heap.size w W) => refCopy_in x sa sc ca cc w0 w W hsl hcl hv hb
  have hR := fun W (hb : Below w.heap.size w W) => refRest_any s W T (rIsStep_below hb hs)
  rw [hre] at hR
  obtain ⟨kd, col, sl, od⟩ := s
  obtain ⟨q2, q3, q4, q5, q6, q7, q8, oa, oc, rfl, hi1, hi2, h7, hod, _⟩ := hs
  simp only at hk hi1 hi2 hre hco hin h7 ⊢
  subst hk
  obtain ⟨hnm, hty, rfl, rfl, rfl, hdf⟩ := h7
  have hno : Sc.step x ⟨2, col, sl, od⟩ = none := by
    unfold Sc.step
    simp only
    rw [if_neg (by rw [hre]; simp), if_neg (by decide), if_neg (by decide), if_neg (by omega), if_pos trivial, if_neg (by omega)]
  obtain ⟨Q, hQ⟩ : ∃ Q, RStepC w0 w x ⟨2, col, sl, od⟩ = Q := ⟨_, rfl⟩
  have hq : ∀ (a : Option Addr) (n c : Nat) (a' : Option Addr) (n' c' : Nat) (w' : World), Below w.heap.size w w' → Q (.returned (.tuple #[.agg #[.slice a n c, .slice a' n' c'], .bool false])) w' := by
    intro a n c a' n' c' w' hb
    rw [← hQ]; unfold RStepC; rw [hno]; exact ⟨⟨a, n, c, a', n', c', rfl⟩, hb⟩
  have HQ := Lib.hid hq
  clear hq
  rw [hQ]
  clear hQ hno hod
  have d4 : decide (col < 0) = false := by simp; omega
  have d5 : decide ((x.cols.length : Int) ≤ col) = false := by simp; omega
  have d6 : decide ((x.cols.length : Int) < 2) = true := by simp; omega
  clear hre hco
  have HV := Lib.hid hv
  clear hv
  go_enter Tryz.func69, Tryz.ntmps69
  go_wp2_with (first
    | (go_at_call 85; (with_reducible refine (hC _ ?_).mono ?_); rotate_left; rintro e w1 ⟨⟨sv, cv, rfl, hvo⟩, hb1⟩; obtain ⟨a6, c6, a7, c7', rfl, rfl⟩ := ver_form hvo; obtain ⟨hP, hq2, hq3⟩ := step_pre w0 w w1 x sa sc ca cc _ _ _ _ _ hb1 hvo; have HP := Lib.hid hP; clear hq2 hq3 hb1; obtain ⟨_, p2, _, p4, _⟩ := hP; obtain ⟨⟨y0, y1, y2, y3, y4⟩, y5, y6, y7, y8, y9⟩ := ten_cells p2)
    | (go_at_call 86; (with_reducible refine (hR _ (stepS_bel HP.out)).mono ?_); rintro e w2 ⟨rfl, hb2⟩; have hP2 := stepS_below HP.out hb2; have hE := step_end2 w w2 (w.heap.size + 1 + 1) _ _ (.slice a6 x.slots.length c6) (.slice a7 x.cols.length c7') (stepS_res hP2) (stepS_bel hP2) (by omega); have HE := Lib.hid hE; clear hE hb2; obtain ⟨_, p2', p3, p4', _⟩ := hP2; obtain ⟨⟨z0, z1, z2, z3, z4⟩, z5, z6, z7, z8, z9⟩ := ten_cells p2'; obtain ⟨r0, r1, r2, r3⟩ := two_all p3; obtain ⟨x0, x1, x2, x3⟩ := two_all p4'))
  · refine bodyPost_ret (results_cell_tmp_row9 Tryz.results69 _ _ (w.heap.size + 1 + 1) _ _ _ _ rfl HE.out.1 Tryz.underlying37 rfl (by kernel_rfl)) rfl ?_
    exact HQ.out _ _ _ _ _ _ _ HE.out.2
  · exact (((Below.refl _ w).alloc (Nat.le_refl _) _).alloc (by simp) _).alloc (by simp; omega) _
set_option maxRecDepth 100000 in
set_option maxHeartbeats 4000000 in
theorem refStep_4low (x : Sc.Ver) (s : StepM) (sa : Option Addr) (sc : Nat) (ca : Option Addr) (cc : Nat) (w0 w : World) (T : Value) (hsl : x.slots.length ≤ 100000) (hcl : x.cols.length ≤ 100000) (hv : VerInA w0 w x sa sc ca cc) (hs0 : RIsStep w0 s T) (h0 : Below w0.heap.size w0 w) (hk : s.kd = 4) (hin : 0 ≤ s.col ∧ s.col < x.cols.length) (hre : Sc.rest s = true) (hco : s.sl.ty < 1) :
    Calls Tryz.prog 69 #[.agg #[.slice sa x.slots.length sc, .slice ca x.cols.length cc], T] w (RStepC w0 w x s) := by
  have hs := rIsStep_below h0 hs0
  have hC := fun W (hb : Below w.heap.size w W) => refCopy_in x sa sc ca cc w0 w W hsl hcl hv hb
  have hR := fun W (hb : Below w.heap.size w W) => refRest_any s W T (rIsStep_below hb hs)
  rw [hre] at hR
  obtain ⟨kd, col, sl, od⟩ := s
  obtain ⟨q2, q3, q4, q5, q6, q7, q8, oa, oc, rfl, hi1, hi2, h7, hod, _⟩ := hs
  simp only at hk hi1 hi2 hre hco hin h7 ⊢
  subst hk
  obtain ⟨hnm, hty, rfl, rfl, rfl, hdf⟩ := h7
  have hno : Sc.step x ⟨4, col, sl, od⟩ = none := by
    unfold Sc.step
    simp only
    rw [if_neg (by rw [hre]; simp), if_neg (by decide), if_neg (by decide), if_neg (by omega), if_neg (by decide), if_neg (by decide), if_neg (by omega)]
  obtain ⟨Q, hQ⟩ : ∃ Q, RStepC w0 w x ⟨4, col, sl, od⟩ = Q := ⟨_, rfl⟩
  have hq : ∀ (a : Option Addr) (n c : Nat) (a' : Option Addr) (n' c' : Nat) (w' : World), Below w.heap.size w w' → Q (.returned (.tuple #[.agg #[.slice a n c, .slice a' n' c'], .bool false])) w' := by
    intro a n c a' n' c' w' hb
    rw [← hQ]; unfold RStepC; rw [hno]; exact ⟨⟨a, n, c, a', n', c', rfl⟩, hb⟩
  have HQ := Lib.hid hq
  clear hq
  rw [hQ]
  clear hQ hno hod
  have d4 : decide (col < 0) = false := by simp; omega
  have d5 : decide ((x.cols.length : Int) ≤ col) = false := by simp; omega
  have d6 : decide (sl.ty < 1) = true := by simp; omega
  clear hre hco
  have HV := Lib.hid hv
  clear hv
  go_enter Tryz.func69, Tryz.ntmps69
  go_wp2_with (first
    | (go_at_call 85; (with_reducible refine (hC _ ?_).mono ?_); rotate_left; rintro e w1 ⟨⟨sv, cv, rfl, hvo⟩, hb1⟩; obtain ⟨a6, c6, a7, c7', rfl, rfl⟩ := ver_form hvo; obtain ⟨hP, hq2, hq3⟩ := step_pre w0 w w1 x sa sc ca cc _ _ _ _ _ hb1 hvo; have HP := Lib.hid hP; clear hq2 hq3 hb1; obtain ⟨_, p2, _, p4, _⟩ := hP; obtain ⟨⟨y0, y1, y2, y3, y4⟩, y5, y6, y7, y8, y9⟩ := ten_cells p2)
    | (go_at_call 86; (with_reducible refine (hR _ (stepS_bel HP.out)).mono ?_); rintro e w2 ⟨rfl, hb2⟩; have hP2 := stepS_below HP.out hb2; have hE := step_end2 w w2 (w.heap.size + 1 + 1) _ _ (.slice a6 x.slots.length c6) (.slice a7 x.cols.length c7') (stepS_res hP2) (stepS_bel hP2) (by omega); have HE := Lib.hid hE; clear hE hb2; obtain ⟨_, p2', p3, p4', _⟩ := hP2; obtain ⟨⟨z0, z1, z2, z3, z4⟩, z5, z6, z7, z8, z9⟩ := ten_cells p2'; obtain ⟨r0, r1, r2, r3⟩ := two_all p3; obtain ⟨x0, x1, x2, x3⟩ := two_all p4'))
  · refine bodyPost_ret (results_cell_tmp_row9 Tryz.results69 _ _ (w.heap.size + 1 + 1) _ _ _ _ rfl HE.out.1 Tryz.underlying37 rfl (by kernel_rfl)) rfl ?_
    exact HQ.out _ _ _ _ _ _ _ HE.out.2
  · exact (((Below.refl _ w).alloc (Nat.le_refl _) _).alloc (by simp) _).alloc (by simp; omega) _
set_option maxRecDepth 100000 in
set_option maxHeartbeats 4000000 in
theorem refStep_4high (x : Sc.Ver) (s : StepM) (sa : Option Addr) (sc : Nat) (ca : Option Addr) (cc : Nat) (w0 w : World) (T : Value) (hsl : x.slots.length ≤ 100000) (hcl : x.cols.length ≤ 100000) (hv : VerInA w0 w x sa sc ca cc) (hs0 : RIsStep w0 s T) (h0 : Below w0.heap.size w0 w) (hk : s.kd = 4) (hin : 0 ≤ s.col ∧ s.col < x.cols.length) (hre : Sc.rest s = true) (hco : 63 < s.sl.ty) :
    Calls Tryz.prog 69 #[.agg #[.slice sa x.slots.length sc, .slice ca x.cols.length cc], T] w (RStepC w0 w x s) := by
  have hs := rIsStep_below h0 hs0
  have hC := fun W (hb : Below w.heap.size w W) => refCopy_in x sa sc ca cc w0 w W hsl hcl hv hb
  have hR := fun W (hb : Below w.heap.size w W) => refRest_any s W T (rIsStep_below hb hs)
  rw [hre] at hR
  obtain ⟨kd, col, sl, od⟩ := s
  obtain ⟨q2, q3, q4, q5, q6, q7, q8, oa, oc, rfl, hi1, hi2, h7, hod, _⟩ := hs
  simp only at hk hi1 hi2 hre hco hin h7 ⊢
  subst hk
  obtain ⟨hnm, hty, rfl, rfl, rfl, hdf⟩ := h7
  have hno : Sc.step x ⟨4, col, sl, od⟩ = none := by
    unfold Sc.step
    simp only
    rw [if_neg (by rw [hre]; simp), if_neg (by decide), if_neg (by decide), if_neg (by omega), if_neg (by decide), if_neg (by decide), if_neg (by omega)]
  obtain ⟨Q, hQ⟩ : ∃ Q, RStepC w0 w x ⟨4, col, sl, od⟩ = Q := ⟨_, rfl⟩
  have hq : ∀ (a : Option Addr) (n c : Nat) (a' : Option Addr) (n' c' : Nat) (w' : World), Below w.heap.size w w' → Q (.returned (.tuple #[.agg #[.slice a n c, .slice a' n' c'], .bool false])) w' := by
    intro a n c a' n' c' w' hb
    rw [← hQ]; unfold RStepC; rw [hno]; exact ⟨⟨a, n, c, a', n', c', rfl⟩, hb⟩
  have HQ := Lib.hid hq
  clear hq
  rw [hQ]
  clear hQ hno hod
  have d4 : decide (col < 0) = false := by simp; omega
  have d5 : decide ((x.cols.length : Int) ≤ col) = false := by simp; omega
  have d6 : decide (sl.ty < 1) = false := by simp; omega
  have d7 : decide (63 < sl.ty) = true := by simp; omega
  clear hre hco
  have HV := Lib.hid hv
  clear hv
  go_enter Tryz.func69, Tryz.ntmps69
  go_wp2_with (first
    | (go_at_call 85; (with_reducible refine (hC _ ?_).mono ?_); rotate_left; rintro e w1 ⟨⟨sv, cv, rfl, hvo⟩, hb1⟩; obtain ⟨a6, c6, a7, c7', rfl, rfl⟩ := ver_form hvo; obtain ⟨hP, hq2, hq3⟩ := step_pre w0 w w1 x sa sc ca cc _ _ _ _ _ hb1 hvo; have HP := Lib.hid hP; clear hq2 hq3 hb1; obtain ⟨_, p2, _, p4, _⟩ := hP; obtain ⟨⟨y0, y1, y2, y3, y4⟩, y5, y6, y7, y8, y9⟩ := ten_cells p2)
    | (go_at_call 86; (with_reducible refine (hR _ (stepS_bel HP.out)).mono ?_); rintro e w2 ⟨rfl, hb2⟩; have hP2 := stepS_below HP.out hb2; have hE := step_end2 w w2 (w.heap.size + 1 + 1) _ _ (.slice a6 x.slots.length c6) (.slice a7 x.cols.length c7') (stepS_res hP2) (stepS_bel hP2) (by omega); have HE := Lib.hid hE; clear hE hb2; obtain ⟨_, p2', p3, p4', _⟩ := hP2; obtain ⟨⟨z0, z1, z2, z3, z4⟩, z5, z6, z7, z8, z9⟩ := ten_cells p2'; obtain ⟨r0, r1, r2, r3⟩ := two_all p3; obtain ⟨x0, x1, x2, x3⟩ := two_all p4'))
  · refine bodyPost_ret (results_cell_tmp_row9 Tryz.results69 _ _ (w.heap.size + 1 + 1) _ _ _ _ rfl HE.out.1 Tryz.underlying37 rfl (by kernel_rfl)) rfl ?_
    exact HQ.out _ _ _ _ _ _ _ HE.out.2
  · exact (((Below.refl _ w).alloc (Nat.le_refl _) _).alloc (by simp) _).alloc (by simp; omega) _
set_option maxRecDepth 100000 in
set_option maxHeartbeats 4000000 in
theorem refStep_5len (x : Sc.Ver) (s : StepM) (sa : Option Addr) (sc : Nat) (ca : Option Addr) (cc : Nat) (w0 w : World) (T : Value) (hsl : x.slots.length ≤ 100000) (hcl : x.cols.length ≤ 100000) (hv : VerInA w0 w x sa sc ca cc) (hs0 : RIsStep w0 s T) (h0 : Below w0.heap.size w0 w) (hk : s.kd = 5) (hre : Sc.rest s = true) (hco : s.od.length ≠ x.cols.length) :
    Calls Tryz.prog 69 #[.agg #[.slice sa x.slots.length sc, .slice ca x.cols.length cc], T] w (RStepC w0 w x s) := by
  have hs := rIsStep_below h0 hs0
  have hC := fun W (hb : Below w.heap.size w W) => refCopy_in x sa sc ca cc w0 w W hsl hcl hv hb
  have hR := fun W (hb : Below w.heap.size w W) => refRest_any s W T (rIsStep_below hb hs)
  rw [hre] at hR
  obtain ⟨kd, col, sl, od⟩ := s
  obtain ⟨q2, q3, q4, q5, q6, q7, q8, oa, oc, rfl, hi1, hi2, h7, hod, _⟩ := hs
  simp only at hk hi1 hi2 hre hco h7 ⊢
  subst hk
  obtain ⟨hnm, hty, rfl, rfl, rfl, hdf⟩ := h7
  have hno : Sc.step x ⟨5, col, sl, od⟩ = none := by
    unfold Sc.step
    simp only
    rw [if_neg (by rw [hre]; simp), if_neg (by decide), if_pos trivial, if_neg (fun h => hco h.1)]
  obtain ⟨Q, hQ⟩ : ∃ Q, RStepC w0 w x ⟨5, col, sl, od⟩ = Q := ⟨_, rfl⟩
  have hq : ∀ (a : Option Addr) (n c : Nat) (a' : Option Addr) (n' c' : Nat) (w' : World), Below w.heap.size w w' → Q (.returned (.tuple #[.agg #[.slice a n c, .slice a' n' c'], .bool false])) w' := by
    intro a n c a' n' c' w' hb
    rw [← hQ]; unfold RStepC; rw [hno]; exact ⟨⟨a, n, c, a', n', c', rfl⟩, hb⟩
  have HQ := Lib.hid hq
  clear hq
  rw [hQ]
  clear hQ hno hod
  have d6 : ((od.length : Int) != (x.cols.length : Int)) = true := by simp; omega
  clear hre hco
  have HV := Lib.hid hv
  clear hv
  go_enter Tryz.func69, Tryz.ntmps69
  go_wp2_with (first
    | (go_at_call 85; (with_reducible refine (hC _ ?_).mono ?_); rotate_left; rintro e w1 ⟨⟨sv, cv, rfl, hvo⟩, hb1⟩; obtain ⟨a6, c6, a7, c7', rfl, rfl⟩ := ver_form hvo; obtain ⟨hP, hq2, hq3⟩ := step_pre w0 w w1 x sa sc ca cc _ _ _ _ _ hb1 hvo; have HP := Lib.hid hP; clear hq2 hq3 hb1; obtain ⟨_, p2, _, p4, _⟩ := hP; obtain ⟨⟨y0, y1, y2, y3, y4⟩, y5, y6, y7, y8, y9⟩ := ten_cells p2)
    | (go_at_call 86; (with_reducible refine (hR _ (stepS_bel HP.out)).mono ?_); rintro e w2 ⟨rfl, hb2⟩; have hP2 := stepS_below HP.out hb2; have hE := step_end2 w w2 (w.heap.size + 1 + 1) _ _ (.slice a6 x.slots.length c6) (.slice a7 x.cols.length c7') (stepS_res hP2) (stepS_bel hP2) (by omega); have HE := Lib.hid hE; clear hE hb2; obtain ⟨_, p2', p3, p4', _⟩ := hP2; obtain ⟨⟨z0, z1, z2, z3, z4⟩, z5, z6, z7, z8, z9⟩ := ten_cells p2'; obtain ⟨r0, r1, r2, r3⟩ := two_all p3; obtain ⟨x0, x1, x2, x3⟩ := two_all p4'))
  · refine bodyPost_ret (results_cell_tmp_row9 Tryz.results69 _ _ (w.heap.size + 1 + 1) _ _ _ _ rfl HE.out.1 Tryz.underlying37 rfl (by kernel_rfl)) rfl ?_
    exact HQ.out _ _ _ _ _ _ _ HE.out.2
  · exact (((Below.refl _ w).alloc (Nat.le_refl _) _).alloc (by simp) _).alloc (by simp; omega) _
set_option maxRecDepth 100000 in
set_option maxHeartbeats 4000000 in
theorem refStep_1many (x : Sc.Ver) (s : StepM) (sa : Option Addr) (sc : Nat) (ca : Option Addr) (cc : Nat) (w0 w : World) (T : Value) (hsl : x.slots.length ≤ 100000) (hcl : x.cols.length ≤ 100000) (hv : VerInA w0 w x sa sc ca cc) (hs0 : RIsStep w0 s T) (h0 : Below w0.heap.size w0 w) (hk : s.kd = 1) (hre : Sc.rest s = true) (hco : 7 < x.cols.length) :
    Calls Tryz.prog 69 #[.agg #[.slice sa x.slots.length sc, .slice ca x.cols.length cc], T] w (RStepC w0 w x s) := by
  have hs := rIsStep_below h0 hs0
  have hC := fun W (hb : Below w.heap.size w W) => refCopy_in x sa sc ca cc w0 w W hsl hcl hv hb
  have hR := fun W (hb : Below w.heap.size w W) => refRest_any s W T (rIsStep_below hb hs)
  rw [hre] at hR
  obtain ⟨kd, col, sl, od⟩ := s
  obtain ⟨q2, q3, q4, q5, q6, q7, q8, oa, oc, rfl, hi1, hi2, h7, hod, _⟩ := hs
  simp only at hk hi1 hi2 hre hco h7 ⊢
  subst hk
  obtain ⟨hnm, hty, rfl, rfl, rfl, hdf⟩ := h7
  have hno : Sc.step x ⟨1, col, sl, od⟩ = none := by
    unfold Sc.step
    simp only
    rw [if_neg (by rw [hre]; simp), if_pos trivial, if_neg (fun h => by have := h.1; omega)]
  obtain ⟨Q, hQ⟩ : ∃ Q, RStepC w0 w x ⟨1, col, sl, od⟩ = Q := ⟨_, rfl⟩
  have hq : ∀ (a : Option Addr) (n c : Nat) (a' : Option Addr) (n' c' : Nat) (w' : World), Below w.heap.size w w' → Q (.returned (.tuple #[.agg #[.slice a n c, .slice a' n' c'], .bool false])) w' := by
    intro a n c a' n' c' w' hb
    rw [← hQ]; unfold RStepC; rw [hno]; exact ⟨⟨a, n, c, a', n', c', rfl⟩, hb⟩
  have HQ := Lib.hid hq
  clear hq
  rw [hQ]
  clear hQ hno hod
  have d6 : decide (7 < (x.cols.length : Int)) = true := by simp; omega
  clear hre hco
  have HV := Lib.hid hv
  clear hv
  go_enter Tryz.func69, Tryz.ntmps69
  go_wp2_with (first
    | (go_at_call 85; (with_reducible refine (hC _ ?_).mono ?_); rotate_left; rintro e w1 ⟨⟨sv, cv, rfl, hvo⟩, hb1⟩; obtain ⟨a6, c6, a7, c7', rfl, rfl⟩ := ver_form hvo; obtain ⟨hP, hq2, hq3⟩ := step_pre w0 w w1 x sa sc ca cc _ _ _ _ _ hb1 hvo; have HP := Lib.hid hP; clear hq2 hq3 hb1; obtain ⟨_, p2, _, p4, _⟩ := hP; obtain ⟨⟨y0, y1, y2, y3, y4⟩, y5, y6, y7, y8, y9⟩ := ten_cells p2)
    | (go_at_call 86; (with_reducible refine (hR _ (stepS_bel HP.out)).mono ?_); rintro e w2 ⟨rfl, hb2⟩; have hP2 := stepS_below HP.out hb2; have hE := step_end2 w w2 (w.heap.size + 1 + 1) _ _ (.slice a6 x.slots.length c6) (.slice a7 x.cols.length c7') (stepS_res hP2) (stepS_bel hP2) (by omega); have HE := Lib.hid hE; clear hE hb2; obtain ⟨_, p2', p3, p4', _⟩ := hP2; obtain ⟨⟨z0, z1, z2, z3, z4⟩, z5, z6, z7, z8, z9⟩ := ten_cells p2'; obtain ⟨r0, r1, r2, r3⟩ := two_all p3; obtain ⟨x0, x1, x2, x3⟩ := two_all p4'))
  · refine bodyPost_ret (results_cell_tmp_row9 Tryz.results69 _ _ (w.heap.size + 1 + 1) _ _ _ _ rfl HE.out.1 Tryz.underlying37 rfl (by kernel_rfl)) rfl ?_
    exact HQ.out _ _ _ _ _ _ _ HE.out.2
  · exact (((Below.refl _ w).alloc (Nat.le_refl _) _).alloc (by simp) _).alloc (by simp; omega) _
end Go.Proofs.YtibjjclfonpibaaGreat

/- The document's step of layer 10: what fails behind a call. (Made by gen_ref10h.py.) -/
set_option linter.unusedVariables false
set_option linter.unusedSimpArgs false
namespace Go.Proofs.YtibjjclfonpibaaGreat
open Go.RowKit Go.Shelf
set_option maxRecDepth 100000 in
set_option maxHeartbeats 4000000 in
theorem refStep_1bad (x : Sc.Ver) (s : StepM) (sa : Option Addr) (sc : Nat) (ca : Option Addr) (cc : Nat) (w0 w : World) (T : Value) (hsl : x.slots.length ≤ 100000) (hcl : x.cols.length ≤ 100000) (hv : VerInA w0 w x sa sc ca cc) (hs0 : RIsStep w0 s T) (h0 : Below w0.heap.size w0 w) (hk : s.kd = 1) (hre : Sc.rest s = true) (hsz : szV s.sl.df ≤ 1000000) (hlen : x.cols.length ≤ 7) (hso : Sc.sound s.sl = false) :
    Calls Tryz.prog 69 #[.agg #[.slice sa x.slots.length sc, .slice ca x.cols.length cc], T] w (RStepC w0 w x s) := by
  have hs := rIsStep_below h0 hs0
  have hC := fun W (hb : Below w.heap.size w W) => refCopy_in x sa sc ca cc w0 w W hsl hcl hv hb
  have hR := fun W (hb : Below w.heap.size w W) => refRest_any s W T (rIsStep_below hb hs)
  rw [hre] at hR
  obtain ⟨kd, col, sl, od⟩ := s
  obtain ⟨q2, q3, q4, q5, q6, q7, q8, oa, oc, rfl, hi1, hi2, h7, hod, _⟩ := hs
  simp only at hk hi1 hi2 hre hsz hlen hso h7 ⊢
  subst hk
  have hSo := fun W (hb : Below w.heap.size w W) => refSound_any sl hsz W _ (isSlot_below hb ⟨_, _, _, _, _, _, _, rfl, h7⟩)
  rw [hso] at hSo
  obtain ⟨hnm, hty, rfl, rfl, rfl, hdf⟩ := h7
  have hno : Sc.step x ⟨1, col, sl, od⟩ = none := by
    unfold Sc.step
    simp only
    rw [if_neg (by rw [hre]; simp), if_pos trivial, if_neg (fun h => by have := h.2.1; rw [hso] at this; cases this)]
  obtain ⟨Q, hQ⟩ : ∃ Q, RStepC w0 w x ⟨1, col, sl, od⟩ = Q := ⟨_, rfl⟩
  have hq : ∀ (a : Option Addr) (n c : Nat) (a' : Option Addr) (n' c' : Nat) (w' : World), Below w.heap.size w w' → Q (.returned (.tuple #[.agg #[.slice a n c, .slice a' n' c'], .bool false])) w' := by
    intro a n c a' n' c' w' hb
    rw [← hQ]; unfold RStepC; rw [hno]; exact ⟨⟨a, n, c, a', n', c', rfl⟩, hb⟩
  have HQ := Lib.hid hq
  clear hq
  rw [hQ]
  clear hQ hno hod
  have d6 : decide (7 < (x.cols.length : Int)) = false := by simp; omega
  clear hre hsz hlen hso
  have HV := Lib.hid hv
  clear hv
  go_enter Tryz.func69, Tryz.ntmps69
  go_wp2_with (first
    | (go_at_call 85; (with_reducible refine (hC _ ?_).mono ?_); rotate_left; rintro e w1 ⟨⟨sv, cv, rfl, hvo⟩, hb1⟩; obtain ⟨a6, c6, a7, c7', rfl, rfl⟩ := ver_form hvo; obtain ⟨hP, hq2, hq3⟩ := step_pre w0 w w1 x sa sc ca cc _ _ _ _ _ hb1 hvo; have HP := Lib.hid hP; clear hq2 hq3 hb1; obtain ⟨_, p2, _, p4, _⟩ := hP; obtain ⟨⟨y0, y1, y2, y3, y4⟩, y5, y6, y7, y8, y9⟩ := ten_cells p2)
    | (go_at_call 86; (with_reducible refine (hR _ (stepS_bel HP.out)).mono ?_); rintro e w2 ⟨rfl, hb2⟩; have HP2 := Lib.hid (stepS_below HP.out hb2); have HE := Lib.hid (step_end2 w w2 (w.heap.size + 1 + 1) _ _ (.slice a6 x.slots.length c6) (.slice a7 x.cols.length c7') (stepS_res HP2.out) (stepS_bel HP2.out) (by omega)); clear hb2; have hP2 := HP2.out; obtain ⟨_, p2', p3, p4', _⟩ := hP2; obtain ⟨⟨z0, z1, z2, z3, z4⟩, z5, z6, z7, z8, z9⟩ := ten_cells p2'; obtain ⟨r0, r1, r2, r3⟩ := two_all p3; obtain ⟨x0, x1, x2, x3⟩ := two_all p4')
    | (go_at_call 67; (with_reducible refine (hSo _ (stepS_bel HP2.out)).mono ?_); rintro e w3 ⟨rfl, hb3⟩; have HP3 := Lib.hid (stepS_below HP2.out hb3); have HE := Lib.hid (step_end2 w w3 (w.heap.size + 1 + 1) _ _ (.slice a6 x.slots.length c6) (.slice a7 x.cols.length c7') (stepS_res HP3.out) (stepS_bel HP3.out) (by omega)); clear hb3; have hP3 := HP3.out; obtain ⟨_, p2', p3, p4', _⟩ := hP3; obtain ⟨⟨z0, z1, z2, z3, z4⟩, z5, z6, z7, z8, z9⟩ := ten_cells p2'; obtain ⟨r0, r1, r2, r3⟩ := two_all p3; obtain ⟨x0, x1, x2, x3⟩ := two_all p4'))
  · refine bodyPost_ret (results_cell_tmp_row9 Tryz.results69 _ _ (w.heap.size + 1 + 1) _ _ _ _ rfl HE.out.1 Tryz.underlying37 rfl (by kernel_rfl)) rfl ?_
    exact HQ.out _ _ _ _ _ _ _ HE.out.2
  · exact (((Below.refl _ w).alloc (Nat.le_refl _) _).alloc (by simp) _).alloc (by simp; omega) _
set_option maxRecDepth 100000 in
set_option maxHeartbeats 4000000 in
theorem refStep_1req (x : Sc.Ver) (s : StepM) (sa : Option Addr) (sc : Nat) (ca : Option Addr) (cc : Nat) (w0 w : World) (T : Value) (hsl : x.slots.length ≤ 100000) (hcl : x.cols.length ≤ 100000) (hv : VerInA w0 w x sa sc ca cc) (hs0 : RIsStep w0 s T) (h0 : Below w0.heap.size w0 w) (hk : s.kd = 1) (hre : Sc.rest s = true) (hsz : szV s.sl.df ≤ 1000000) (hlen : x.cols.length ≤ 7) (hso : Sc.sound s.sl = true) (hrq : s.sl.rq = true) :
    Calls Tryz.prog 69 #[.agg #[.slice sa x.slots.length sc, .slice ca x.cols.length cc], T] w (RStepC w0 w x s) := by
  have hs := rIsStep_below h0 hs0
  have hC := fun W (hb : Below w.heap.size w W) => refCopy_in x sa sc ca cc w0 w W hsl hcl hv hb
  have hR := fun W (hb : Below w.heap.size w W) => refRest_any s W T (rIsStep_below hb hs)
  rw [hre] at hR
  obtain ⟨kd, col, sl, od⟩ := s
  obtain ⟨q2, q3, q4, q5, q6, q7, q8, oa, oc, rfl, hi1, hi2, h7, hod, _⟩ := hs
  simp only at hk hi1 hi2 hre hsz hlen hso hrq h7 ⊢
  subst hk
  have hSo := fun W (hb : Below w.heap.size w W) => refSound_any sl hsz W _ (isSlot_below hb ⟨_, _, _, _, _, _, _, rfl, h7⟩)
  rw [hso] at hSo
  obtain ⟨hnm, hty, rfl, rfl, rfl, hdf⟩ := h7
  have hno : Sc.step x ⟨1, col, sl, od⟩ = none := by
    unfold Sc.step
    simp only
    rw [if_neg (by rw [hre]; simp), if_pos trivial, if_neg (fun h => by have := h.2.2.1; rw [hrq] at this; cases this)]
  obtain ⟨Q, hQ⟩ : ∃ Q, RStepC w0 w x ⟨1, col, sl, od⟩ = Q := ⟨_, rfl⟩
  have hq : ∀ (a : Option Addr) (n c : Nat) (a' : Option Addr) (n' c' : Nat) (w' : World), Below w.heap.size w w' → Q (.returned (.tuple #[.agg #[.slice a n c, .slice a' n' c'], .bool false])) w' := by
    intro a n c a' n' c' w' hb
    rw [← hQ]; unfold RStepC; rw [hno]; exact ⟨⟨a, n, c, a', n', c', rfl⟩, hb⟩
  have HQ := Lib.hid hq
  clear hq
  rw [hQ]
  clear hQ hno hod
  have d6 : decide (7 < (x.cols.length : Int)) = false := by simp; omega
  simp only [hrq] at hR hSo ⊢
  clear hre hsz hlen hso hrq
  have HV := Lib.hid hv
  clear hv
  go_enter Tryz.func69, Tryz.ntmps69
  go_wp2_with (first
    | (go_at_call 85; (with_reducible refine (hC _ ?_).mono ?_); rotate_left; rintro e w1 ⟨⟨sv, cv, rfl, hvo⟩, hb1⟩; obtain ⟨a6, c6, a7, c7', rfl, rfl⟩ := ver_form hvo; obtain ⟨hP, hq2, hq3⟩ := step_pre w0 w w1 x sa sc ca cc _ _ _ _ _ hb1 hvo; have HP := Lib.hid hP; clear hq2 hq3 hb1; obtain ⟨_, p2, _, p4, _⟩ := hP; obtain ⟨⟨y0, y1, y2, y3, y4⟩, y5, y6, y7, y8, y9⟩ := ten_cells p2)
    | (go_at_call 86; (with_reducible refine (hR _ (stepS_bel HP.out)).mono ?_); rintro e w2 ⟨rfl, hb2⟩; have HP2 := Lib.hid (stepS_below HP.out hb2); have HE := Lib.hid (step_end2 w w2 (w.heap.size + 1 + 1) _ _ (.slice a6 x.slots.length c6) (.slice a7 x.cols.length c7') (stepS_res HP2.out) (stepS_bel HP2.out) (by omega)); clear hb2; have hP2 := HP2.out; obtain ⟨_, p2', p3, p4', _⟩ := hP2; obtain ⟨⟨z0, z1, z2, z3, z4⟩, z5, z6, z7, z8, z9⟩ := ten_cells p2'; obtain ⟨r0, r1, r2, r3⟩ := two_all p3; obtain ⟨x0, x1, x2, x3⟩ := two_all p4')
    | (go_at_call 67; (with_reducible refine (hSo _ (stepS_bel HP2.out)).mono ?_); rintro e w3 ⟨rfl, hb3⟩; have HP3 := Lib.hid (stepS_below HP2.out hb3); have HE := Lib.hid (step_end2 w w3 (w.heap.size + 1 + 1) _ _ (.slice a6 x.slots.length c6) (.slice a7 x.cols.length c7') (stepS_res HP3.out) (stepS_bel HP3.out) (by omega)); clear hb3; have hP3 := HP3.out; obtain ⟨_, p2', p3, p4', _⟩ := hP3; obtain ⟨⟨z0, z1, z2, z3, z4⟩, z5, z6, z7, z8, z9⟩ := ten_cells p2'; obtain ⟨r0, r1, r2, r3⟩ := two_all p3; obtain ⟨x0, x1, x2, x3⟩ := two_all p4'))
  · refine bodyPost_ret (results_cell_tmp_row9 Tryz.results69 _ _ (w.heap.size + 1 + 1) _ _ _ _ rfl HE.out.1 Tryz.underlying37 rfl (by kernel_rfl)) rfl ?_
    exact HQ.out _ _ _ _ _ _ _ HE.out.2
  · exact (((Below.refl _ w).alloc (Nat.le_refl _) _).alloc (by simp) _).alloc (by simp; omega) _
set_option maxRecDepth 100000 in
set_option maxHeartbeats 4000000 in
theorem refStep_3name (x : Sc.Ver) (s : StepM) (sa : Option Addr) (sc : Nat) (ca : Option Addr) (cc : Nat) (w0 w : World) (T : Value) (hsl : x.slots.length ≤ 100000) (hcl : x.cols.length ≤ 100000) (hv : VerInA w0 w x sa sc ca cc) (hs0 : RIsStep w0 s T) (h0 : Below w0.heap.size w0 w) (hk : s.kd = 3) (hin : 0 ≤ s.col ∧ s.col < x.cols.length) (hre : Sc.rest s = true) (hnb : nameB (strB s.sl.nm) = false) :
    Calls Tryz.prog 69 #[.agg #[.slice sa x.slots.length sc, .slice ca x.cols.length cc], T] w (RStepC w0 w x s) := by
  have hs := rIsStep_below h0 hs0
  have hC := fun W (hb : Below w.heap.size w W) => refCopy_in x sa sc ca cc w0 w W hsl hcl hv hb
  have hR := fun W (hb : Below w.heap.size w W) => refRest_any s W T (rIsStep_below hb hs)
  rw [hre] at hR
  obtain ⟨kd, col, sl, od⟩ := s
  obtain ⟨q2, q3, q4, q5, q6, q7, q8, oa, oc, rfl, hi1, hi2, h7, hod, _⟩ := hs
  simp only at hk hi1 hi2 hre hnb hin h7 ⊢
  subst hk
  have hN := fun W => refIsName_any sl.nm W h7.1
  rw [hnb] at hN
  obtain ⟨hnm, hty, rfl, rfl, rfl, hdf⟩ := h7
  have hno : Sc.step x ⟨3, col, sl, od⟩ = none := by
    unfold Sc.step
    simp only
    rw [if_neg (by rw [hre]; simp), if_neg (by decide), if_neg (by decide), if_neg (by omega), if_neg (by decide), if_pos trivial, if_neg (fun h => by have := h.1; rw [hnb] at this; cases this)]
  obtain ⟨Q, hQ⟩ : ∃ Q, RStepC w0 w x ⟨3, col, sl, od⟩ = Q := ⟨_, rfl⟩
  have hq : ∀ (a : Option Addr) (n c : Nat) (a' : Option Addr) (n' c' : Nat) (w' : World), Below w.heap.size w w' → Q (.returned (.tuple #[.agg #[.slice a n c, .slice a' n' c'], .bool false])) w' := by
    intro a n c a' n' c' w' hb
    rw [← hQ]; unfold RStepC; rw [hno]; exact ⟨⟨a, n, c, a', n', c', rfl⟩, hb⟩
  have HQ := Lib.hid hq
  clear hq
  rw [hQ]
  clear hQ hno hod
  have d4 : decide (col < 0) = false := by simp; omega
  have d5 : decide ((x.cols.length : Int) ≤ col) = false := by simp; omega
  clear hre hnb
  have HV := Lib.hid hv
  clear hv
  go_enter Tryz.func69, Tryz.ntmps69
  go_wp2_with (first
    | (go_at_call 85; (with_reducible refine (hC _ ?_).mono ?_); rotate_left; rintro e w1 ⟨⟨sv, cv, rfl, hvo⟩, hb1⟩; obtain ⟨a6, c6, a7, c7', rfl, rfl⟩ := ver_form hvo; obtain ⟨hP, hq2, hq3⟩ := step_pre w0 w w1 x sa sc ca cc _ _ _ _ _ hb1 hvo; have HP := Lib.hid hP; clear hq2 hq3 hb1; obtain ⟨_, p2, _, p4, _⟩ := hP; obtain ⟨⟨y0, y1, y2, y3, y4⟩, y5, y6, y7, y8, y9⟩ := ten_cells p2)
    | (go_at_call 86; (with_reducible refine (hR _ (stepS_bel HP.out)).mono ?_); rintro e w2 ⟨rfl, hb2⟩; have HP2 := Lib.hid (stepS_below HP.out hb2); have HE := Lib.hid (step_end2 w w2 (w.heap.size + 1 + 1) _ _ (.slice a6 x.slots.length c6) (.slice a7 x.cols.length c7') (stepS_res HP2.out) (stepS_bel HP2.out) (by omega)); clear hb2; have hP2 := HP2.out; obtain ⟨_, p2', p3, p4', _⟩ := hP2; obtain ⟨⟨z0, z1, z2, z3, z4⟩, z5, z6, z7, z8, z9⟩ := ten_cells p2'; obtain ⟨r0, r1, r2, r3⟩ := two_all p3; obtain ⟨x0, x1, x2, x3⟩ := two_all p4')
    | (go_at_call 66; (with_reducible refine (hN _).mono ?_); rintro e w3 ⟨rfl, rfl⟩))
  · refine bodyPost_ret (results_cell_tmp_row9 Tryz.results69 _ _ (w.heap.size + 1 + 1) _ _ _ _ rfl HE.out.1 Tryz.underlying37 rfl (by kernel_rfl)) rfl ?_
    exact HQ.out _ _ _ _ _ _ _ HE.out.2
  · exact (((Below.refl _ w).alloc (Nat.le_refl _) _).alloc (by simp) _).alloc (by simp; omega) _
end Go.Proofs.YtibjjclfonpibaaGreat
