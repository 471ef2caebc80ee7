/- The walk of CastBack: down of up is the record, up of up is up, and what is lifted or lowered is valid. (Made by gen_caw.py.) -/
import Derived.Test.YtibjjclfonpibaaGreatMh42Cast
import Derived.Test.YtibjjclfonpibaaGreatMh51Cast
set_option linter.unusedVariables false
set_option linter.unusedSimpArgs false
set_option maxRecDepth 100000
namespace Go.Proofs.YtibjjclfonpibaaGreat
open Go.RowKit Go.Shelf
namespace castBackWalk
set_option maxHeartbeats 16000000 in
theorem walk (t : TemplM) (X : Value) (r : RecM) (ra : Option Addr) (rc : Nat) (v u : Int) (w : World) (hi : IsTempl w t X) (hI : I64 r.v) (hr : PRow w ra rc r.s) (hv0 : (Lit.int .i64 v).wf = true) (hu0 : (Lit.int .i64 u).wf = true) :
    Calls Tryz.prog 6 #[X, .agg #[.int .i64 r.v, .slice ra r.s.length rc], .int .i64 v, .int .i64 u] w fun e w' => e = .returned (.bool true) ∧ Below w.heap.size w w' := by
  have hv : I64 v := wf_i64 hv0
  have hu : I64 u := wf_i64 hu0
  have h0 := hi
  obtain ⟨h1, sa, sc, ta, tc, rfl, hsl, hst⟩ := hi
  have hb2 := below2 w (.cells #[.string t.nm, .slice sa t.slots.length sc, .slice ta t.steps.length tc] 25) (.cells #[.int .i64 r.v, .slice ra r.s.length rc] 31)
  have hxT : HasT ((w.alloc (.cells #[.string t.nm, .slice sa t.slots.length sc, .slice ta t.steps.length tc] 25)).alloc (.cells #[.int .i64 r.v, .slice ra r.s.length rc] 31)) w.heap.size t sa sc ta tc := ⟨(Below.heap_alloc _ _ _ (by simp)).trans (heap_self9 w _), isTempl_below hb2 h0⟩
  have hxR : HasRec ((w.alloc (.cells #[.string t.nm, .slice sa t.slots.length sc, .slice ta t.steps.length tc] 25)).alloc (.cells #[.int .i64 r.v, .slice ra r.s.length rc] 31)) (w.heap.size + 1) r := ⟨ra, rc, two_heap w _ _, pRow_below hb2 hr⟩
  have hAl := fun W => caAlive_any W
  have hGr := fun (W : World) (hb : Below w.heap.size w W) => caGreat_any t r W _ ra rc (isTempl_below hb h0) (pRow_below hb hr)
  have HAL := Lib.hid hAl; have HGR := Lib.hid hGr; have HXT := Lib.hid hxT; have HXR := Lib.hid hxR; have HB2 := Lib.hid hb2
  clear hAl hGr hxT hxR hb2 hsl hst h1 h0 hr
  obtain ⟨gt, hgt⟩ : ∃ g, greatT t = g := ⟨_, rfl⟩
  obtain ⟨gl, hgl⟩ : ∃ g, greatL r.s = g := ⟨_, rfl⟩
  have HRV := Lib.hid hI; clear hI
  have hG2 : ∀ (W : World), Below w.heap.size w W → ∀ (b : Nat), HasT W b t sa sc ta tc → ∀ (a : Option Addr) (c : Nat), PRow W a c r.s → Calls Tryz.prog 17 #[.agg #[.string t.nm, .slice sa t.slots.length sc, .slice ta t.steps.length tc], .agg #[.int .i64 r.v, .slice a r.s.length c]] W fun e w' => e = .returned (.bool (gt || gl)) ∧ Below W.heap.size W w' := fun W hb b hT a c hp => by
    have h := caGreat_any t r W _ a c hT.2 hp
    rw [hgt, hgl] at h
    exact h
  clear HGR
  have HG2 := Lib.hid hG2; clear hG2
  cases hgg : (gt || gl) with
  | true =>
    rw [hgg] at HG2
    clear hgg hgt hgl
    go_enter Tryz.func6, Tryz.ntmps6
    go_wp2_with (first
      | (go_at_call 16; (with_reducible refine (HAL.out _).mono ?_); rintro e w1 ⟨rfl, hB1⟩; have hw1 := HB2.out.trans (hB1.mono HB2.out.size); have hT1 := hasT_below HXT.out hB1; have hR1 := hasRec_below HXR.out hB1; obtain ⟨t0, t1, t2⟩ := caThree hT1.1; obtain ⟨qa, qc, qh, qp⟩ := id hR1; obtain ⟨q0, q1, _, _⟩ := two_all qh)
      | (go_at_call 17; (with_reducible refine (HG2.out _ hw1 _ hT1 _ _ qp).mono ?_); rintro e w2 ⟨rfl, hB2⟩))
    go_ret
    exact ⟨rfl, hw1.trans (hB2.mono hw1.size)⟩
  | false =>
  rw [hgg] at HG2
  have hG : greatT t = false := by rw [hgt]; cases gt <;> simp_all
  have hGL : greatL r.s = false := by rw [hgl]; cases gl <;> simp_all
  clear hgg hgt hgl
  have hOk : RecOk r := by
    obtain ⟨h40, hgr⟩ := greatL_sz hGL
    exact ⟨HRV.out, fun y hy => Nat.le_trans (great_sz y (hgr y hy)) (by omega), by omega⟩
  clear hGL
  go_enter Tryz.func6, Tryz.ntmps6
  go_upto_region 5 with (first
    | (go_at_call 16; (with_reducible refine (HAL.out _).mono ?_); rintro e w1 ⟨rfl, hB1⟩; have hw1 := HB2.out.trans (hB1.mono HB2.out.size); have hT1 := hasT_below HXT.out hB1; have hR1 := hasRec_below HXR.out hB1; obtain ⟨t0, t1, t2⟩ := caThree hT1.1; obtain ⟨qa, qc, qh, qp⟩ := id hR1; obtain ⟨q0, q1, _, _⟩ := two_all qh)
    | (go_at_call 17; (with_reducible refine (HG2.out _ hw1 _ hT1 _ _ qp).mono ?_); rintro e w2 ⟨rfl, hB2⟩))
  have yW := hw1.trans (hB2.mono hw1.size)
  have yT := hasT_below hT1 hB2
  have yR := hasRec_below hR1 hB2
  clear t0 t1 t2 qh qp q0 q1 hT1 hR1 hw1 hB1 hB2 HB2 HXT HXR HAL HG2
  obtain ⟨v0, hv0⟩ : ∃ x, x = w2 := ⟨_, rfl⟩
  subst hv0
  obtain ⟨kR, hkR⟩ : ∃ b, w.heap.size + 1 = b := ⟨_, rfl⟩
  rw [hkR] at yR ⊢
  clear hkR
  obtain ⟨t0, t1, t2⟩ := caThree yT.1
  obtain ⟨qa, qc, qh, qp⟩ := id yR
  obtain ⟨q0, q1, _, _⟩ := two_all qh
  have hc := caUp_any t r v v0 _ qa qc hG hOk.1 hv yT.2 qp hOk.2.1 hOk.2.2
  obtain ⟨mA, hmA⟩ : ∃ m, Ca.upM t r v = m := ⟨_, rfl⟩
  rw [hmA] at hc
  have HC := Lib.hid hc; clear hc
  have HMA := Lib.hid hmA; clear hmA
  go_upto_region 6 with (first
    | (go_at_call 18; (with_reducible refine HC.out.mono ?_); rintro e w9 ⟨⟨na, nc, rfl, hq⟩, hB9⟩))
  have hBA := hB9.trans ((caNew w9 (.cells #[.int .i64 mA.1.v, .slice na mA.1.s.length nc] 31)).mono hB9.size)
  have yA := hasRec_new (r := mA.1) hq
  clear t0 t1 t2 q0 q1 qh qp
  have x1W := yW.trans (hBA.mono yW.size)
  have x2T := hasT_below yT hBA
  have x3R := hasRec_below yR hBA
  clear yW yT yR
  obtain ⟨v1, hve⟩ : ∃ U, w9.alloc (.cells #[.int .i64 mA.1.v, .slice na mA.1.s.length nc] 31) = U := ⟨_, rfl⟩
  obtain ⟨kA, hbe⟩ : ∃ b, w9.heap.size = b := ⟨_, rfl⟩
  rw [hve] at x1W x2T x3R yA ⊢
  rw [hbe] at yA ⊢
  clear hve hbe hBA hq hB9 HC
  by_cases h0 : mA.2 = 0
  · skip
    have hAok : RecOk mA.1 := by rw [← HMA.out]; exact castM_ok hv
    have hU : (Ca.upM t r v).2 = 0 := by rw [HMA.out]; exact h0
    have hdn : Ca.downM t mA.1 r.v = (r, 0) := by rw [← HMA.out]; exact Ca.down_up hU
    have hvd : (Rc.verR t mA.1).isSome = true := by
      obtain ⟨y, e1, e2, e3⟩ := Ca.cast_valid hU
      rw [show Ca.castM t r v (decide (r.v ≤ v)) = mA from HMA.out] at e2 e3
      rw [Ca.verR_mk (by rw [e3]; exact e1) e2]; rfl
    have HU := Lib.hid hU; have HDN := Lib.hid hdn; clear hU hdn
    have e1 : (mA.2 != 0) = false := by rw [bne_eq_false_iff_eq]; exact h0
    have e2 : (mA.2 == 0) = true := by rw [beq_iff_eq]; exact h0
    have H0 := Lib.hid h0; clear h0
    obtain ⟨t0, t1, t2⟩ := caThree x2T.1
    obtain ⟨qa, qc, qh, qp⟩ := id yA
    obtain ⟨q0, q1, _, _⟩ := two_all qh
    obtain ⟨ra, rc, rh, rp⟩ := id x3R
    obtain ⟨r0, r1, _, _⟩ := two_all rh
    have hc := caDown_any t mA.1 r.v v1 _ qa qc hG hAok.1 hOk.1 x2T.2 qp hAok.2.1 hAok.2.2
    obtain ⟨mB, hmB⟩ : ∃ m, Ca.downM t mA.1 r.v = m := ⟨_, rfl⟩
    rw [hmB] at hc
    have HC := Lib.hid hc; clear hc
    have HMB := Lib.hid hmB; clear hmB
    go_upto_region 9 with (first
      | (go_at_call 20; (with_reducible refine HC.out.mono ?_); rintro e w9 ⟨⟨na, nc, rfl, hq⟩, hB9⟩))
    have hBA := hB9.trans ((caNew w9 (.cells #[.int .i64 mB.1.v, .slice na mB.1.s.length nc] 31)).mono hB9.size)
    have yB := hasRec_new (r := mB.1) hq
    clear t0 t1 t2 q0 q1 r0 r1 qh qp rh rp
    have x4W := x1W.trans (hBA.mono x1W.size)
    have x5T := hasT_below x2T hBA
    have x6R := hasRec_below x3R hBA
    have x7A := hasRec_below yA hBA
    clear x1W x2T x3R yA
    obtain ⟨v2, hve⟩ : ∃ U, w9.alloc (.cells #[.int .i64 mB.1.v, .slice na mB.1.s.length nc] 31) = U := ⟨_, rfl⟩
    obtain ⟨kB, hbe⟩ : ∃ b, w9.heap.size = b := ⟨_, rfl⟩
    rw [hve] at x4W x5T x6R x7A yB ⊢
    rw [hbe] at yB ⊢
    clear hve hbe hBA hq hB9 HC
    have hBr : mB = (r, 0) := HMB.out.symm.trans HDN.out
    have e1b : (mB.2 != 0) = false := by rw [hBr]; rfl
    have hBr1 : mB.1 = r := by rw [hBr]
    have hBok : RecOk mB.1 := by rw [hBr1]; exact hOk
    clear hBr
    have HBR := Lib.hid hBr1; clear hBr1
    obtain ⟨t0, t1, t2⟩ := caThree x5T.1
    obtain ⟨ba, bc, bh, bp⟩ := id yB
    obtain ⟨b0, b1, _, _⟩ := two_all bh
    obtain ⟨ra, rc, rh, rp⟩ := id x6R
    obtain ⟨r0, r1, _, _⟩ := two_all rh
    obtain ⟨aa, ac, ah, ap⟩ := id x7A
    obtain ⟨a0, a1, _, _⟩ := two_all ah
    have HS1 := Lib.hid (fun (W : World) (hb : Below v2.heap.size v2 W) => refSame11_any mB.1 r W ba ra bc rc (pRow_below hb bp) (pRow_below hb rp) hBok.2.2 hOk.2.2 true (by simp [HBR.out]))
    have HVD := Lib.hid (fun (W : World) (hb : Below v2.heap.size v2 W) => by have h := refValid11_any t mA.1 W _ aa ac hG hAok.1 (isTempl_below hb x5T.2) (pRow_below hb ap) hAok.2.1 hAok.2.2; rw [hvd] at h; exact h)
    go_upto_region 11 with (first
      | (go_at_call 24; (with_reducible refine (HS1.out _ (Below.refl _ _)).mono ?_); rintro e u0 ⟨rfl, hU0⟩; have hC0 := hU0; have t0_0 := cell_below hC0 t0; have t1_0 := cell_below hC0 t1; have t2_0 := cell_below hC0 t2; have b0_0 := cell_below hC0 b0; have b1_0 := cell_below hC0 b1; have r0_0 := cell_below hC0 r0; have r1_0 := cell_below hC0 r1; have a0_0 := cell_below hC0 a0; have a1_0 := cell_below hC0 a1)
      | (go_at_call 27; (with_reducible refine (HVD.out _ hC0).mono ?_); rintro e u1 ⟨rfl, hU1⟩; have hC1 := hC0.trans (hU1.mono hC0.size); have t0_1 := cell_below hC1 t0; have t1_1 := cell_below hC1 t1; have t2_1 := cell_below hC1 t2; have b0_1 := cell_below hC1 b0; have b1_1 := cell_below hC1 b1; have r0_1 := cell_below hC1 r0; have r1_1 := cell_below hC1 r1; have a0_1 := cell_below hC1 a0; have a1_1 := cell_below hC1 a1))
    have hBA := hC1
    clear t0 t1 t2 b0 b1 r0 r1 a0 a1 t0_0 t1_0 t2_0 b0_0 b1_0 r0_0 r1_0 a0_0 a1_0 t0_1 t1_1 t2_1 b0_1 b1_1 r0_1 r1_1 a0_1 a1_1 bh bp rh rp ah ap
    have x8W := x4W.trans (hBA.mono x4W.size)
    have x9T := hasT_below x5T hBA
    have x10R := hasRec_below x6R hBA
    have x11A := hasRec_below x7A hBA
    have x12B := hasRec_below yB hBA
    clear x4W x5T x6R x7A yB
    obtain ⟨v3, hve⟩ : ∃ x, x = u1 := ⟨_, rfl⟩
    subst hve
    clear hBA
    obtain ⟨t0, t1, t2⟩ := caThree x9T.1
    obtain ⟨qa, qc, qh, qp⟩ := id x11A
    obtain ⟨q0, q1, _, _⟩ := two_all qh
    have hc := caUp_any t mA.1 u v3 _ qa qc hG hAok.1 hu x9T.2 qp hAok.2.1 hAok.2.2
    obtain ⟨mC, hmC⟩ : ∃ m, Ca.upM t mA.1 u = m := ⟨_, rfl⟩
    rw [hmC] at hc
    have HC := Lib.hid hc; clear hc
    have HMC := Lib.hid hmC; clear hmC
    go_upto_region 12 with (first
      | (go_at_call 18; (with_reducible refine HC.out.mono ?_); rintro e w9 ⟨⟨na, nc, rfl, hq⟩, hB9⟩))
    have hBA := hB9.trans ((caNew w9 (.cells #[.int .i64 mC.1.v, .slice na mC.1.s.length nc] 31)).mono hB9.size)
    have yC := hasRec_new (r := mC.1) hq
    clear t0 t1 t2 q0 q1 qh qp
    have x13W := x8W.trans (hBA.mono x8W.size)
    have x14T := hasT_below x9T hBA
    have x15R := hasRec_below x10R hBA
    have x16A := hasRec_below x11A hBA
    have x17B := hasRec_below x12B hBA
    clear x8W x9T x10R x11A x12B
    obtain ⟨v4, hve⟩ : ∃ U, w9.alloc (.cells #[.int .i64 mC.1.v, .slice na mC.1.s.length nc] 31) = U := ⟨_, rfl⟩
    obtain ⟨kC, hbe⟩ : ∃ b, w9.heap.size = b := ⟨_, rfl⟩
    rw [hve] at x13W x14T x15R x16A x17B yC ⊢
    rw [hbe] at yC ⊢
    clear hve hbe hBA hq hB9 HC
    obtain ⟨t0, t1, t2⟩ := caThree x14T.1
    obtain ⟨qa, qc, qh, qp⟩ := id x15R
    obtain ⟨q0, q1, _, _⟩ := two_all qh
    have hc := caUp_any t r u v4 _ qa qc hG hOk.1 hu x14T.2 qp hOk.2.1 hOk.2.2
    obtain ⟨mD, hmD⟩ : ∃ m, Ca.upM t r u = m := ⟨_, rfl⟩
    rw [hmD] at hc
    have HC := Lib.hid hc; clear hc
    have HMD := Lib.hid hmD; clear hmD
    go_upto_region 13 with (first
      | (go_at_call 18; (with_reducible refine HC.out.mono ?_); rintro e w9 ⟨⟨na, nc, rfl, hq⟩, hB9⟩))
    have hBA := hB9.trans ((caNew w9 (.cells #[.int .i64 mD.1.v, .slice na mD.1.s.length nc] 31)).mono hB9.size)
    have yD := hasRec_new (r := mD.1) hq
    clear t0 t1 t2 q0 q1 qh qp
    have x18W := x13W.trans (hBA.mono x13W.size)
    have x19T := hasT_below x14T hBA
    have x20R := hasRec_below x15R hBA
    have x21A := hasRec_below x16A hBA
    have x22B := hasRec_below x17B hBA
    have x23C := hasRec_below yC hBA
    clear x13W x14T x15R x16A x17B yC
    obtain ⟨v5, hve⟩ : ∃ U, w9.alloc (.cells #[.int .i64 mD.1.v, .slice na mD.1.s.length nc] 31) = U := ⟨_, rfl⟩
    obtain ⟨kD, hbe⟩ : ∃ b, w9.heap.size = b := ⟨_, rfl⟩
    rw [hve] at x18W x19T x20R x21A x22B x23C yD ⊢
    rw [hbe] at yD ⊢
    clear hve hbe hBA hq hB9 HC
    by_cases h0c : mC.2 = 0
    · skip
      have hCok : RecOk mC.1 := by rw [← HMC.out]; exact castM_ok hu
      have hDC : mD = mC := by
        rw [← HMD.out, ← HMC.out, ← HMA.out]
        exact Ca.up_up HU.out (by rw [HMA.out, HMC.out]; exact h0c)
      have e1c : (mC.2 != 0) = false := by rw [bne_eq_false_iff_eq]; exact h0c
      have e2c : (mC.2 == 0) = true := by rw [beq_iff_eq]; exact h0c
      have H0c := Lib.hid h0c; clear h0c
      have e2d : (mD.2 == 0) = true := by rw [hDC]; exact e2c
      have hDok : RecOk mD.1 := by rw [hDC]; exact hCok
      have HDC := Lib.hid hDC; clear hDC
      obtain ⟨ca, cc, ch, cp⟩ := id x23C
      obtain ⟨c0, c1, _, _⟩ := two_all ch
      obtain ⟨da, dc, dh, dp⟩ := id yD
      obtain ⟨d0, d1, _, _⟩ := two_all dh
      have HS2 := Lib.hid (fun (W : World) (hb : Below v5.heap.size v5 W) => refSame11_any mC.1 mD.1 W ca da cc dc (pRow_below hb cp) (pRow_below hb dp) hCok.2.2 hDok.2.2 true (by simp [HDC.out]))
      have HWW := Lib.hid x18W
      go_wp2_with (first
        | (go_at_call 24; (with_reducible refine (HS2.out _ (Below.refl _ _)).mono ?_); rintro e u0 ⟨rfl, hU0⟩; have hC0 := hU0; have c0_0 := cell_below hC0 c0; have c1_0 := cell_below hC0 c1; have d0_0 := cell_below hC0 d0; have d1_0 := cell_below hC0 d1))
      go_ret
      exact ⟨rfl, HWW.out.trans (hC0.mono HWW.out.size)⟩
    · skip
      have e1c : (mC.2 != 0) = true := by rw [bne_iff_ne]; exact h0c
      have e2c : (mC.2 == 0) = false := by rw [beq_eq_false_iff_ne]; exact h0c
      have H0c := Lib.hid h0c; clear h0c
      have HWW := Lib.hid x18W
      go_wp2
      go_ret
      exact ⟨rfl, HWW.out⟩
  · skip
    have hnil := Ca.cast_nil (t := t) (r := r) (v := v) (on := decide (r.v ≤ v)) (by rw [show Ca.castM t r v (decide (r.v ≤ v)) = mA from HMA.out]; exact h0)
    rw [show Ca.castM t r v (decide (r.v ≤ v)) = mA from HMA.out] at hnil
    have e1 : (mA.2 != 0) = true := by rw [bne_iff_ne]; exact h0
    have e2 : (mA.2 == 0) = false := by rw [beq_eq_false_iff_ne]; exact h0
    have H0 := Lib.hid h0; clear h0
    obtain ⟨qa, qc, qh, qp⟩ := id yA
    obtain ⟨q0, q1, _, _⟩ := two_all qh
    rw [hnil.1] at q1
    rw [hnil.2] at q0
    clear hnil qh qp
    have HWW := Lib.hid x1W
    go_wp2
    go_ret
    exact ⟨rfl, HWW.out⟩
end castBackWalk
end Go.Proofs.YtibjjclfonpibaaGreat
