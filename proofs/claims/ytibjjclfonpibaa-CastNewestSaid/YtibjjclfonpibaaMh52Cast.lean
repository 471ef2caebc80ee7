/- The walk of CastNewest: the newest of a record is that of what it is lifted to, and of itself. (Made by gen_caw.py.) -/
import Derived.Test.YtibjjclfonpibaaMh51Cast
set_option linter.unusedVariables false
set_option linter.unusedSimpArgs false
set_option maxRecDepth 100000
namespace Go.Proofs.Ytibjjclfonpibaa
open Go.RowKit Go.Shelf
namespace castNewestWalk
set_option maxHeartbeats 16000000 in
theorem walk (t : TemplM) (X : Value) (r : RecM) (ra : Option Addr) (rc : Nat) (v : Int) (w : World) (hi : IsTempl w t X) (hI : I64 r.v) (hr : PRow w ra rc r.s) (hv0 : (Lit.int .i64 v).wf = true) :
    Calls Try.prog 3 #[X, .agg #[.int .i64 r.v, .slice ra r.s.length rc], .int .i64 v] w fun e w' => e = .returned (.bool true) ∧ Below w.heap.size w w' := by
  have hv : I64 v := wf_i64 hv0
  have h0 := hi
  obtain ⟨h1, sa, sc, ta, tc, rfl, hsl, hst⟩ := hi
  have hb2 := below2 w (.cells #[.string t.nm, .slice sa t.slots.length sc, .slice ta t.steps.length tc] 25) (.cells #[.int .i64 r.v, .slice ra r.s.length rc] 28)
  have hxT : HasT ((w.alloc (.cells #[.string t.nm, .slice sa t.slots.length sc, .slice ta t.steps.length tc] 25)).alloc (.cells #[.int .i64 r.v, .slice ra r.s.length rc] 28)) w.heap.size t sa sc ta tc := ⟨(Below.heap_alloc _ _ _ (by simp)).trans (heap_self9 w _), isTempl_below hb2 h0⟩
  have hxR : HasRec ((w.alloc (.cells #[.string t.nm, .slice sa t.slots.length sc, .slice ta t.steps.length tc] 25)).alloc (.cells #[.int .i64 r.v, .slice ra r.s.length rc] 28)) (w.heap.size + 1) r := ⟨ra, rc, two_heap w _ _, pRow_below hb2 hr⟩
  have hAl := fun W => caAlive_any W
  have hGr := fun (W : World) (hb : Below w.heap.size w W) => caGreat_any t r W _ ra rc (isTempl_below hb h0) (pRow_below hb hr)
  have HAL := Lib.hid hAl; have HGR := Lib.hid hGr; have HXT := Lib.hid hxT; have HXR := Lib.hid hxR; have HB2 := Lib.hid hb2
  clear hAl hGr hxT hxR hb2 hsl hst h1 h0 hr
  obtain ⟨gt, hgt⟩ : ∃ g, greatT t = g := ⟨_, rfl⟩
  obtain ⟨gl, hgl⟩ : ∃ g, greatL r.s = g := ⟨_, rfl⟩
  have HRV := Lib.hid hI; clear hI
  have hG2 : ∀ (W : World), Below w.heap.size w W → ∀ (b : Nat), HasT W b t sa sc ta tc → ∀ (a : Option Addr) (c : Nat), PRow W a c r.s → Calls Try.prog 5 #[.agg #[.string t.nm, .slice sa t.slots.length sc, .slice ta t.steps.length tc], .agg #[.int .i64 r.v, .slice a r.s.length c]] W fun e w' => e = .returned (.bool (gt || gl)) ∧ Below W.heap.size W w' := fun W hb b hT a c hp => by
    have h := caGreat_any t r W _ a c hT.2 hp
    rw [hgt, hgl] at h
    exact h
  clear HGR
  have HG2 := Lib.hid hG2; clear hG2
  cases hgg : (gt || gl) with
  | true =>
    rw [hgg] at HG2
    clear hgg hgt hgl
    go_enter Try.func3, Try.ntmps3
    go_wp2_with (first
      | (go_at_call 4; (with_reducible refine (HAL.out _).mono ?_); rintro e w1 ⟨rfl, hB1⟩; have hw1 := HB2.out.trans (hB1.mono HB2.out.size); have hT1 := hasT_below HXT.out hB1; have hR1 := hasRec_below HXR.out hB1; obtain ⟨t0, t1, t2⟩ := caThree hT1.1; obtain ⟨qa, qc, qh, qp⟩ := id hR1; obtain ⟨q0, q1, _, _⟩ := two_all qh)
      | (go_at_call 5; (with_reducible refine (HG2.out _ hw1 _ hT1 _ _ qp).mono ?_); rintro e w2 ⟨rfl, hB2⟩))
    go_ret
    exact ⟨rfl, hw1.trans (hB2.mono hw1.size)⟩
  | false =>
  rw [hgg] at HG2
  have hG : greatT t = false := by rw [hgt]; cases gt <;> simp_all
  have hGL : greatL r.s = false := by rw [hgl]; cases gl <;> simp_all
  clear hgg hgt hgl
  have hOk : RecOk r := by
    obtain ⟨h40, hgr⟩ := greatL_sz hGL
    exact ⟨HRV.out, fun y hy => Nat.le_trans (great_sz y (hgr y hy)) (by omega), by omega⟩
  clear hGL
  go_enter Try.func3, Try.ntmps3
  go_upto_region 5 with (first
    | (go_at_call 4; (with_reducible refine (HAL.out _).mono ?_); rintro e w1 ⟨rfl, hB1⟩; have hw1 := HB2.out.trans (hB1.mono HB2.out.size); have hT1 := hasT_below HXT.out hB1; have hR1 := hasRec_below HXR.out hB1; obtain ⟨t0, t1, t2⟩ := caThree hT1.1; obtain ⟨qa, qc, qh, qp⟩ := id hR1; obtain ⟨q0, q1, _, _⟩ := two_all qh)
    | (go_at_call 5; (with_reducible refine (HG2.out _ hw1 _ hT1 _ _ qp).mono ?_); rintro e w2 ⟨rfl, hB2⟩))
  have yW := hw1.trans (hB2.mono hw1.size)
  have yT := hasT_below hT1 hB2
  have yR := hasRec_below hR1 hB2
  clear t0 t1 t2 qh qp q0 q1 hT1 hR1 hw1 hB1 hB2 HB2 HXT HXR HAL HG2
  obtain ⟨v0, hv0⟩ : ∃ x, x = w2 := ⟨_, rfl⟩
  subst hv0
  obtain ⟨kR, hkR⟩ : ∃ b, w.heap.size + 1 = b := ⟨_, rfl⟩
  rw [hkR] at yR ⊢
  clear hkR
  obtain ⟨t0, t1, t2⟩ := caThree yT.1
  obtain ⟨qa, qc, qh, qp⟩ := id yR
  obtain ⟨q0, q1, _, _⟩ := two_all qh
  have hc := caNewest_any t r v0 _ qa qc hG hOk.1 yT.2 qp hOk.2.1 hOk.2.2
  obtain ⟨mA, hmA⟩ : ∃ m, Ca.upM t r (lastN t : Int) = m := ⟨_, rfl⟩
  rw [hmA] at hc
  have HC := Lib.hid hc; clear hc
  have HMA := Lib.hid hmA; clear hmA
  go_upto_region 6 with (first
    | (go_at_call 6; (with_reducible refine HC.out.mono ?_); rintro e w9 ⟨⟨na, nc, rfl, hq⟩, hB9⟩))
  have hBA := hB9.trans ((caNew w9 (.cells #[.int .i64 mA.1.v, .slice na mA.1.s.length nc] 28)).mono hB9.size)
  have yA := hasRec_new (r := mA.1) hq
  clear t0 t1 t2 q0 q1 qh qp
  have x1W := yW.trans (hBA.mono yW.size)
  have x2T := hasT_below yT hBA
  have x3R := hasRec_below yR hBA
  clear yW yT yR
  obtain ⟨v1, hve⟩ : ∃ U, w9.alloc (.cells #[.int .i64 mA.1.v, .slice na mA.1.s.length nc] 28) = U := ⟨_, rfl⟩
  obtain ⟨kA, hbe⟩ : ∃ b, w9.heap.size = b := ⟨_, rfl⟩
  rw [hve] at x1W x2T x3R yA ⊢
  rw [hbe] at yA ⊢
  clear hve hbe hBA hq hB9 HC
  by_cases h0 : mA.2 = 0
  · skip
    have hAok : RecOk mA.1 := by rw [← HMA.out]; exact castM_ok (i64_last t)
    have hN : (Ca.upM t r (lastN t : Int)).2 = 0 := by rw [HMA.out]; exact h0
    have hmm : Ca.upM t mA.1 (lastN t : Int) = mA := by rw [← HMA.out]; exact Ca.up_same hN
    have hls := Ca.last_steps hN
    have hvv := Ca.up_v hN
    rw [HMA.out, hls.1] at hvv
    have hwr : IntKind.i64.wrap ((t.steps.length : Int) + 1) = (t.steps.length : Int) + 1 := by rw [IntKind.wrap_i64]; omega
    have e3 : (mA.1.v != (t.steps.length : Int) + 1) = false := by rw [bne_eq_false_iff_eq, hvv]; omega
    have HN := Lib.hid hN; have HMM := Lib.hid hmm; clear hN hmm hvv hls
    have e1 : (mA.2 != 0) = false := by rw [bne_eq_false_iff_eq]; exact h0
    have e2 : (mA.2 == 0) = true := by rw [beq_iff_eq]; exact h0
    have H0 := Lib.hid h0; clear h0
    obtain ⟨t0, t1, t2⟩ := caThree x2T.1
    obtain ⟨qa, qc, qh, qp⟩ := id yA
    obtain ⟨q0, q1, _, _⟩ := two_all qh
    have hc := caNewest_any t mA.1 v1 _ qa qc hG hAok.1 x2T.2 qp hAok.2.1 hAok.2.2
    obtain ⟨mB, hmB⟩ : ∃ m, Ca.upM t mA.1 (lastN t : Int) = m := ⟨_, rfl⟩
    rw [hmB] at hc
    have HC := Lib.hid hc; clear hc
    have HMB := Lib.hid hmB; clear hmB
    go_upto_region 9 with (first
      | (go_at_call 6; (with_reducible refine HC.out.mono ?_); rintro e w9 ⟨⟨na, nc, rfl, hq⟩, hB9⟩))
    have hBA := hB9.trans ((caNew w9 (.cells #[.int .i64 mB.1.v, .slice na mB.1.s.length nc] 28)).mono hB9.size)
    have yB := hasRec_new (r := mB.1) hq
    clear t0 t1 t2 q0 q1 qh qp
    have x4W := x1W.trans (hBA.mono x1W.size)
    have x5T := hasT_below x2T hBA
    have x6R := hasRec_below x3R hBA
    have x7A := hasRec_below yA hBA
    clear x1W x2T x3R yA
    obtain ⟨v2, hve⟩ : ∃ U, w9.alloc (.cells #[.int .i64 mB.1.v, .slice na mB.1.s.length nc] 28) = U := ⟨_, rfl⟩
    obtain ⟨kB, hbe⟩ : ∃ b, w9.heap.size = b := ⟨_, rfl⟩
    rw [hve] at x4W x5T x6R x7A yB ⊢
    rw [hbe] at yB ⊢
    clear hve hbe hBA hq hB9 HC
    have hBA2 : mB = mA := HMB.out.symm.trans HMM.out
    have e1b : (mB.2 != 0) = false := by rw [hBA2]; exact e1
    have HBA2 := Lib.hid hBA2; clear hBA2
    obtain ⟨t0, t1, t2⟩ := caThree x5T.1
    obtain ⟨qa, qc, qh, qp⟩ := id x6R
    obtain ⟨q0, q1, _, _⟩ := two_all qh
    have hc := caUp_any t r v v2 _ qa qc hG hOk.1 hv x5T.2 qp hOk.2.1 hOk.2.2
    obtain ⟨mC, hmC⟩ : ∃ m, Ca.upM t r v = m := ⟨_, rfl⟩
    rw [hmC] at hc
    have HC := Lib.hid hc; clear hc
    have HMC := Lib.hid hmC; clear hmC
    go_upto_region 10 with (first
      | (go_at_call 7; (with_reducible refine HC.out.mono ?_); rintro e w9 ⟨⟨na, nc, rfl, hq⟩, hB9⟩))
    have hBA := hB9.trans ((caNew w9 (.cells #[.int .i64 mC.1.v, .slice na mC.1.s.length nc] 28)).mono hB9.size)
    have yC := hasRec_new (r := mC.1) hq
    clear t0 t1 t2 q0 q1 qh qp
    have x8W := x4W.trans (hBA.mono x4W.size)
    have x9T := hasT_below x5T hBA
    have x10R := hasRec_below x6R hBA
    have x11A := hasRec_below x7A hBA
    have x12B := hasRec_below yB hBA
    clear x4W x5T x6R x7A yB
    obtain ⟨v3, hve⟩ : ∃ U, w9.alloc (.cells #[.int .i64 mC.1.v, .slice na mC.1.s.length nc] 28) = U := ⟨_, rfl⟩
    obtain ⟨kC, hbe⟩ : ∃ b, w9.heap.size = b := ⟨_, rfl⟩
    rw [hve] at x8W x9T x10R x11A x12B yC ⊢
    rw [hbe] at yC ⊢
    clear hve hbe hBA hq hB9 HC
    by_cases h0c : mC.2 = 0
    · skip
      have hCok : RecOk mC.1 := by rw [← HMC.out]; exact castM_ok hv
      have hU : (Ca.upM t r v).2 = 0 := by rw [HMC.out]; exact h0c
      have hway : Ca.upM t mC.1 (lastN t : Int) = mA := by rw [← HMC.out, Ca.up_way hU HN.out (Ca.up_le_last hU)]; exact HMA.out
      have HWAY := Lib.hid hway; clear hway hU
      have e1c : (mC.2 != 0) = false := by rw [bne_eq_false_iff_eq]; exact h0c
      have e2c : (mC.2 == 0) = true := by rw [beq_iff_eq]; exact h0c
      have H0c := Lib.hid h0c; clear h0c
      obtain ⟨t0, t1, t2⟩ := caThree x9T.1
      obtain ⟨ba, bc, bh, bp⟩ := id x12B
      obtain ⟨b0, b1, _, _⟩ := two_all bh
      obtain ⟨aa, ac, ah, ap⟩ := id x11A
      obtain ⟨a0, a1, _, _⟩ := two_all ah
      have hBok : RecOk mB.1 := by rw [HBA2.out]; exact hAok
      have HS1 := Lib.hid (fun (W : World) (hb : Below v3.heap.size v3 W) => refSame11_any mB.1 mA.1 W ba aa bc ac (pRow_below hb bp) (pRow_below hb ap) hBok.2.2 hAok.2.2 true (by simp [HBA2.out]))
      go_upto_region 14 with (first
        | (go_at_call 8; (with_reducible refine (HS1.out _ (Below.refl _ _)).mono ?_); rintro e u0 ⟨rfl, hU0⟩; have hC0 := hU0; have t0_0 := cell_below hC0 t0; have t1_0 := cell_below hC0 t1; have t2_0 := cell_below hC0 t2; have b0_0 := cell_below hC0 b0; have b1_0 := cell_below hC0 b1; have a0_0 := cell_below hC0 a0; have a1_0 := cell_below hC0 a1))
      have hBA := hC0
      clear t0 t1 t2 b0 b1 a0 a1 t0_0 t1_0 t2_0 b0_0 b1_0 a0_0 a1_0 bh bp ah ap
      have x13W := x8W.trans (hBA.mono x8W.size)
      have x14T := hasT_below x9T hBA
      have x15R := hasRec_below x10R hBA
      have x16A := hasRec_below x11A hBA
      have x17B := hasRec_below x12B hBA
      have x18C := hasRec_below yC hBA
      clear x8W x9T x10R x11A x12B yC
      obtain ⟨v4, hve⟩ : ∃ x, x = u0 := ⟨_, rfl⟩
      subst hve
      clear hBA
      obtain ⟨t0, t1, t2⟩ := caThree x14T.1
      obtain ⟨qa, qc, qh, qp⟩ := id x18C
      obtain ⟨q0, q1, _, _⟩ := two_all qh
      have hc := caNewest_any t mC.1 v4 _ qa qc hG hCok.1 x14T.2 qp hCok.2.1 hCok.2.2
      obtain ⟨mD, hmD⟩ : ∃ m, Ca.upM t mC.1 (lastN t : Int) = m := ⟨_, rfl⟩
      rw [hmD] at hc
      have HC := Lib.hid hc; clear hc
      have HMD := Lib.hid hmD; clear hmD
      go_upto_region 15 with (first
        | (go_at_call 6; (with_reducible refine HC.out.mono ?_); rintro e w9 ⟨⟨na, nc, rfl, hq⟩, hB9⟩))
      have hBA := hB9.trans ((caNew w9 (.cells #[.int .i64 mD.1.v, .slice na mD.1.s.length nc] 28)).mono hB9.size)
      have yD := hasRec_new (r := mD.1) hq
      clear t0 t1 t2 q0 q1 qh qp
      have x19W := x13W.trans (hBA.mono x13W.size)
      have x20T := hasT_below x14T hBA
      have x21R := hasRec_below x15R hBA
      have x22A := hasRec_below x16A hBA
      have x23B := hasRec_below x17B hBA
      have x24C := hasRec_below x18C hBA
      clear x13W x14T x15R x16A x17B x18C
      obtain ⟨v5, hve⟩ : ∃ U, w9.alloc (.cells #[.int .i64 mD.1.v, .slice na mD.1.s.length nc] 28) = U := ⟨_, rfl⟩
      obtain ⟨kD, hbe⟩ : ∃ b, w9.heap.size = b := ⟨_, rfl⟩
      rw [hve] at x19W x20T x21R x22A x23B x24C yD ⊢
      rw [hbe] at yD ⊢
      clear hve hbe hBA hq hB9 HC
      have hDA : mD = mA := HMD.out.symm.trans HWAY.out
      have e2d : (mD.2 == 0) = true := by rw [hDA]; exact e2
      have hDok : RecOk mD.1 := by rw [hDA]; exact hAok
      have HDA := Lib.hid hDA; clear hDA
      obtain ⟨da, dc, dh, dp⟩ := id yD
      obtain ⟨d0, d1, _, _⟩ := two_all dh
      obtain ⟨aa, ac, ah, ap⟩ := id x22A
      obtain ⟨a0, a1, _, _⟩ := two_all ah
      have HS2 := Lib.hid (fun (W : World) (hb : Below v5.heap.size v5 W) => refSame11_any mD.1 mA.1 W da aa dc ac (pRow_below hb dp) (pRow_below hb ap) hDok.2.2 hAok.2.2 true (by simp [HDA.out]))
      have HWW := Lib.hid x19W
      go_wp2_with (first
        | (go_at_call 8; (with_reducible refine (HS2.out _ (Below.refl _ _)).mono ?_); rintro e u0 ⟨rfl, hU0⟩; have hC0 := hU0; have d0_0 := cell_below hC0 d0; have d1_0 := cell_below hC0 d1; have a0_0 := cell_below hC0 a0; have a1_0 := cell_below hC0 a1))
      go_ret
      exact ⟨rfl, HWW.out.trans (hC0.mono HWW.out.size)⟩
    · skip
      have e1c : (mC.2 != 0) = true := by rw [bne_iff_ne]; exact h0c
      have e2c : (mC.2 == 0) = false := by rw [beq_eq_false_iff_ne]; exact h0c
      have H0c := Lib.hid h0c; clear h0c
      obtain ⟨t0, t1, t2⟩ := caThree x9T.1
      obtain ⟨ba, bc, bh, bp⟩ := id x12B
      obtain ⟨b0, b1, _, _⟩ := two_all bh
      obtain ⟨aa, ac, ah, ap⟩ := id x11A
      obtain ⟨a0, a1, _, _⟩ := two_all ah
      have hBok : RecOk mB.1 := by rw [HBA2.out]; exact hAok
      have HS1 := Lib.hid (fun (W : World) (hb : Below v3.heap.size v3 W) => refSame11_any mB.1 mA.1 W ba aa bc ac (pRow_below hb bp) (pRow_below hb ap) hBok.2.2 hAok.2.2 true (by simp [HBA2.out]))
      have HWW := Lib.hid x8W
      go_wp2_with (first
        | (go_at_call 8; (with_reducible refine (HS1.out _ (Below.refl _ _)).mono ?_); rintro e u0 ⟨rfl, hU0⟩; have hC0 := hU0; have t0_0 := cell_below hC0 t0; have t1_0 := cell_below hC0 t1; have t2_0 := cell_below hC0 t2; have b0_0 := cell_below hC0 b0; have b1_0 := cell_below hC0 b1; have a0_0 := cell_below hC0 a0; have a1_0 := cell_below hC0 a1))
      go_ret
      exact ⟨rfl, HWW.out.trans (hC0.mono HWW.out.size)⟩
  · skip
    have hnil : mA.1.s.length = 0 := by rw [← HMA.out]; exact (Ca.cast_nil (t := t) (r := r) (v := (lastN t : Int)) (on := decide (r.v ≤ (lastN t : Int))) (by rw [show Ca.castM t r (lastN t : Int) (decide (r.v ≤ (lastN t : Int))) = mA from HMA.out]; exact h0)).1
    have e1 : (mA.2 != 0) = true := by rw [bne_iff_ne]; exact h0
    have e2 : (mA.2 == 0) = false := by rw [beq_eq_false_iff_ne]; exact h0
    have H0 := Lib.hid h0; clear h0
    obtain ⟨qa, qc, qh, qp⟩ := id yA
    obtain ⟨q0, q1, _, _⟩ := two_all qh
    rw [hnil] at q1
    clear hnil qh qp
    have HWW := Lib.hid x1W
    go_wp2
    go_ret
    exact ⟨rfl, HWW.out⟩
end castNewestWalk
end Go.Proofs.Ytibjjclfonpibaa
