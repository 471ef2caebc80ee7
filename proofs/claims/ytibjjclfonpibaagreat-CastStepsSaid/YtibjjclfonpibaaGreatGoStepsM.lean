/- The walk of CastSteps: a single step up or down, or its error, is the document's. (Made by gen_caw.py.) -/
import Derived.Test.YtibjjclfonpibaaGreatGoRef
import Derived.Test.YtibjjclfonpibaaGreatMh53Cast
import Derived.Test.YtibjjclfonpibaaGreatMh1Cast
import Derived.ProofKit
import Derived.OpenShut
import Derived.ShutString
import Derived.ChangeOld
import Derived.Below
set_option linter.unusedVariables false
set_option linter.unusedSimpArgs false
set_option maxRecDepth 100000
namespace Go.Proofs.YtibjjclfonpibaaGreat
open Go.RowKit Go.Shelf
namespace castStepsWalk
set_option maxHeartbeats 16000000 in
theorem walk (t : TemplM) (X : Value) (r : RecM) (ra : Option Addr) (rc : Nat) (w : World) (hi : IsTempl w t X) (hI : I64 r.v) (hr : PRow w ra rc r.s) :
    Calls Tryz.prog 5 #[X, .agg #[.int .i64 r.v, .slice ra r.s.length rc]] w fun e w' => e = .returned (.bool true) ∧ Below w.heap.size w w' := by
  have h0 := hi
  obtain ⟨h1, sa, sc, ta, tc, rfl, hsl, hst⟩ := hi
  have hb2 := below2 w (.cells #[.string t.nm, .slice sa t.slots.length sc, .slice ta t.steps.length tc] 25) (.cells #[.int .i64 r.v, .slice ra r.s.length rc] 31)
  have hxT : HasT ((w.alloc (.cells #[.string t.nm, .slice sa t.slots.length sc, .slice ta t.steps.length tc] 25)).alloc (.cells #[.int .i64 r.v, .slice ra r.s.length rc] 31)) w.heap.size t sa sc ta tc := ⟨(Below.heap_alloc _ _ _ (by simp)).trans (heap_self9 w _), isTempl_below hb2 h0⟩
  have hxR : HasRec ((w.alloc (.cells #[.string t.nm, .slice sa t.slots.length sc, .slice ta t.steps.length tc] 25)).alloc (.cells #[.int .i64 r.v, .slice ra r.s.length rc] 31)) (w.heap.size + 1) r := ⟨ra, rc, two_heap w _ _, pRow_below hb2 hr⟩
  have hAl := fun W => caAlive_any W
  have hGr := fun (W : World) (hb : Below w.heap.size w W) => caGreat_any t r W _ ra rc (isTempl_below hb h0) (pRow_below hb hr)
  have HAL := Lib.hid hAl; have HGR := Lib.hid hGr; have HXT := Lib.hid hxT; have HXR := Lib.hid hxR; have HB2 := Lib.hid hb2
  clear hAl hGr hxT hxR hb2 hsl hst h1 h0 hr
  obtain ⟨gt, hgt⟩ : ∃ g, greatT t = g := ⟨_, rfl⟩
  obtain ⟨gl, hgl⟩ : ∃ g, greatL r.s = g := ⟨_, rfl⟩
  have HRV := Lib.hid hI; clear hI
  have hG2 : ∀ (W : World), Below w.heap.size w W → ∀ (b : Nat), HasT W b t sa sc ta tc → ∀ (a : Option Addr) (c : Nat), PRow W a c r.s → Calls Tryz.prog 17 #[.agg #[.string t.nm, .slice sa t.slots.length sc, .slice ta t.steps.length tc], .agg #[.int .i64 r.v, .slice a r.s.length c]] W fun e w' => e = .returned (.bool (gt || gl)) ∧ Below W.heap.size W w' := fun W hb b hT a c hp => by
    have h := caGreat_any t r W _ a c hT.2 hp
    rw [hgt, hgl] at h
    exact h
  clear HGR
  have HG2 := Lib.hid hG2; clear hG2
  cases hgg : (gt || gl) with
  | true =>
    rw [hgg] at HG2
    clear hgg hgt hgl
    go_enter Tryz.func5, Tryz.ntmps5
    go_wp2_with (first
      | (go_at_call 16; (with_reducible refine (HAL.out _).mono ?_); rintro e w1 ⟨rfl, hB1⟩; have hw1 := HB2.out.trans (hB1.mono HB2.out.size); have hT1 := hasT_below HXT.out hB1; have hR1 := hasRec_below HXR.out hB1; obtain ⟨t0, t1, t2⟩ := caThree hT1.1; obtain ⟨qa, qc, qh, qp⟩ := id hR1; obtain ⟨q0, q1, _, _⟩ := two_all qh)
      | (go_at_call 17; (with_reducible refine (HG2.out _ hw1 _ hT1 _ _ qp).mono ?_); rintro e w2 ⟨rfl, hB2⟩; have q0w := cell_below hB2 q0))
    go_ret
    exact ⟨rfl, hw1.trans (hB2.mono hw1.size)⟩
  | false =>
  rw [hgg] at HG2
  have hG : greatT t = false := by rw [hgt]; cases gt <;> simp_all
  have hGL : greatL r.s = false := by rw [hgl]; cases gl <;> simp_all
  clear hgg hgt hgl
  have hOk : RecOk r := by
    obtain ⟨h40, hgr⟩ := greatL_sz hGL
    exact ⟨HRV.out, fun y hy => Nat.le_trans (great_sz y (hgr y hy)) (by omega), by omega⟩
  clear hGL
  by_cases hrg : ¬ (-1000 ≤ r.v ∧ r.v ≤ 1000)
  · rcases (show 1000 < r.v ∨ (¬ 1000 < r.v ∧ r.v < -1000) by omega) with hb | ⟨hb, hc⟩
    · have d1 : decide (1000 < r.v) = true := by simpa using hb
      clear hrg hG hOk
      go_enter Tryz.func5, Tryz.ntmps5
      go_wp2_with (first
        | (go_at_call 16; (with_reducible refine (HAL.out _).mono ?_); rintro e w1 ⟨rfl, hB1⟩; have hw1 := HB2.out.trans (hB1.mono HB2.out.size); have hT1 := hasT_below HXT.out hB1; have hR1 := hasRec_below HXR.out hB1; obtain ⟨t0, t1, t2⟩ := caThree hT1.1; obtain ⟨qa, qc, qh, qp⟩ := id hR1; obtain ⟨q0, q1, _, _⟩ := two_all qh)
        | (go_at_call 17; (with_reducible refine (HG2.out _ hw1 _ hT1 _ _ qp).mono ?_); rintro e w2 ⟨rfl, hB2⟩; have q0w := cell_below hB2 q0))
      go_ret
      exact ⟨rfl, hw1.trans (hB2.mono hw1.size)⟩
    · have d1 : decide (1000 < r.v) = false := by simpa using hb
      have d2 : decide (r.v < -1000) = true := by simpa using hc
      clear hrg hG hOk
      go_enter Tryz.func5, Tryz.ntmps5
      go_wp2_with (first
        | (go_at_call 16; (with_reducible refine (HAL.out _).mono ?_); rintro e w1 ⟨rfl, hB1⟩; have hw1 := HB2.out.trans (hB1.mono HB2.out.size); have hT1 := hasT_below HXT.out hB1; have hR1 := hasRec_below HXR.out hB1; obtain ⟨t0, t1, t2⟩ := caThree hT1.1; obtain ⟨qa, qc, qh, qp⟩ := id hR1; obtain ⟨q0, q1, _, _⟩ := two_all qh)
        | (go_at_call 17; (with_reducible refine (HG2.out _ hw1 _ hT1 _ _ qp).mono ?_); rintro e w2 ⟨rfl, hB2⟩; have q0w := cell_below hB2 q0))
      go_ret
      exact ⟨rfl, hw1.trans (hB2.mono hw1.size)⟩
  have d1 : decide (1000 < r.v) = false := by simp; omega
  have d2 : decide (r.v < -1000) = false := by simp; omega
  have hrv : -1000000 ≤ r.v ∧ r.v ≤ 1000000 := by omega
  have hw1' : IntKind.i64.wrap (r.v + 1) = r.v + 1 := by rw [IntKind.wrap_i64]; omega
  have hw2' : IntKind.i64.wrap (r.v - 1) = r.v - 1 := by rw [IntKind.wrap_i64]; omega
  have hp1 : I64 (r.v + 1) := by unfold I64; omega
  have hm1 : I64 (r.v - 1) := by unfold I64; omega
  have HRG := Lib.hid hrg; clear hrg
  go_enter Tryz.func5, Tryz.ntmps5
  go_upto_region 5 with (first
    | (go_at_call 16; (with_reducible refine (HAL.out _).mono ?_); rintro e w1 ⟨rfl, hB1⟩; have hw1 := HB2.out.trans (hB1.mono HB2.out.size); have hT1 := hasT_below HXT.out hB1; have hR1 := hasRec_below HXR.out hB1; obtain ⟨t0, t1, t2⟩ := caThree hT1.1; obtain ⟨qa, qc, qh, qp⟩ := id hR1; obtain ⟨q0, q1, _, _⟩ := two_all qh)
    | (go_at_call 17; (with_reducible refine (HG2.out _ hw1 _ hT1 _ _ qp).mono ?_); rintro e w2 ⟨rfl, hB2⟩; have q0w := cell_below hB2 q0))
  have yW := hw1.trans (hB2.mono hw1.size)
  have yT := hasT_below hT1 hB2
  have yR := hasRec_below hR1 hB2
  clear t0 t1 t2 qh qp q0 q1 hT1 hR1 hw1 hB1 hB2 HB2 HXT HXR HAL HG2
  obtain ⟨v0, hv0⟩ : ∃ x, x = w2 := ⟨_, rfl⟩
  subst hv0
  obtain ⟨kR, hkR⟩ : ∃ b, w.heap.size + 1 = b := ⟨_, rfl⟩
  rw [hkR] at yR ⊢
  clear hkR q0w
  obtain ⟨t0, t1, t2⟩ := caThree yT.1
  obtain ⟨qa, qc, qh, qp⟩ := id yR
  obtain ⟨q0, q1, _, _⟩ := two_all qh
  have hc := caLift_any t r v0 _ qa qc hG hOk.1 hrv yT.2 qp hOk.2.1 hOk.2.2
  obtain ⟨mA, hmA⟩ : ∃ m, Ca.upM t r (r.v + 1) = m := ⟨_, rfl⟩
  rw [hmA] at hc
  have HC := Lib.hid hc; clear hc
  have HMA := Lib.hid hmA; clear hmA
  go_upto_region 6 with (first
    | (go_at_call 25; (with_reducible refine HC.out.mono ?_); rintro e w9 ⟨⟨na, nc, rfl, hq⟩, hB9⟩))
  have hBA := hB9.trans ((caNew w9 (.cells #[.int .i64 mA.1.v, .slice na mA.1.s.length nc] 31)).mono hB9.size)
  have yA := hasRec_new (r := mA.1) hq
  clear t0 t1 t2 q0 q1 qh qp
  have x1W := yW.trans (hBA.mono yW.size)
  have x2T := hasT_below yT hBA
  have x3R := hasRec_below yR hBA
  clear yW yT yR
  obtain ⟨v1, hve⟩ : ∃ U, w9.alloc (.cells #[.int .i64 mA.1.v, .slice na mA.1.s.length nc] 31) = U := ⟨_, rfl⟩
  obtain ⟨kA, hbe⟩ : ∃ b, w9.heap.size = b := ⟨_, rfl⟩
  rw [hve] at x1W x2T x3R yA ⊢
  rw [hbe] at yA ⊢
  clear hve hbe hBA hq hB9 HC
  obtain ⟨t0, t1, t2⟩ := caThree x2T.1
  obtain ⟨qa, qc, qh, qp⟩ := id x3R
  obtain ⟨q0, q1, _, _⟩ := two_all qh
  have hc := ref12Up_any t r (r.v + 1) v1 _ qa qc hG hOk.1 hp1 x2T.2 qp hOk.2.1 hOk.2.2
  obtain ⟨mB, hmB⟩ : ∃ m, Ca.upM t r (r.v + 1) = m := ⟨_, rfl⟩
  rw [hmB] at hc
  have HC := Lib.hid hc; clear hc
  have HMB := Lib.hid hmB; clear hmB
  go_upto_region 7 with (first
    | (go_at_call 19; (with_reducible refine HC.out.mono ?_); rintro e w9 ⟨⟨na, nc, rfl, hq⟩, hB9⟩))
  have hBA := hB9.trans ((caNew w9 (.cells #[.int .i64 mB.1.v, .slice na mB.1.s.length nc] 31)).mono hB9.size)
  have yB := hasRec_new (r := mB.1) hq
  clear t0 t1 t2 q0 q1 qh qp
  have x4W := x1W.trans (hBA.mono x1W.size)
  have x5T := hasT_below x2T hBA
  have x6R := hasRec_below x3R hBA
  have x7A := hasRec_below yA hBA
  clear x1W x2T x3R yA
  obtain ⟨v2, hve⟩ : ∃ U, w9.alloc (.cells #[.int .i64 mB.1.v, .slice na mB.1.s.length nc] 31) = U := ⟨_, rfl⟩
  obtain ⟨kB, hbe⟩ : ∃ b, w9.heap.size = b := ⟨_, rfl⟩
  rw [hve] at x4W x5T x6R x7A yB ⊢
  rw [hbe] at yB ⊢
  clear hve hbe hBA hq hB9 HC
  obtain ⟨t0, t1, t2⟩ := caThree x5T.1
  obtain ⟨qa, qc, qh, qp⟩ := id x6R
  obtain ⟨q0, q1, _, _⟩ := two_all qh
  have hc := caLower_any t r v2 _ qa qc hG hOk.1 hrv x5T.2 qp hOk.2.1 hOk.2.2
  obtain ⟨mC, hmC⟩ : ∃ m, Ca.downM t r (r.v - 1) = m := ⟨_, rfl⟩
  rw [hmC] at hc
  have HC := Lib.hid hc; clear hc
  have HMC := Lib.hid hmC; clear hmC
  go_upto_region 8 with (first
    | (go_at_call 26; (with_reducible refine HC.out.mono ?_); rintro e w9 ⟨⟨na, nc, rfl, hq⟩, hB9⟩))
  have hBA := hB9.trans ((caNew w9 (.cells #[.int .i64 mC.1.v, .slice na mC.1.s.length nc] 31)).mono hB9.size)
  have yC := hasRec_new (r := mC.1) hq
  clear t0 t1 t2 q0 q1 qh qp
  have x8W := x4W.trans (hBA.mono x4W.size)
  have x9T := hasT_below x5T hBA
  have x10R := hasRec_below x6R hBA
  have x11A := hasRec_below x7A hBA
  have x12B := hasRec_below yB hBA
  clear x4W x5T x6R x7A yB
  obtain ⟨v3, hve⟩ : ∃ U, w9.alloc (.cells #[.int .i64 mC.1.v, .slice na mC.1.s.length nc] 31) = U := ⟨_, rfl⟩
  obtain ⟨kC, hbe⟩ : ∃ b, w9.heap.size = b := ⟨_, rfl⟩
  rw [hve] at x8W x9T x10R x11A x12B yC ⊢
  rw [hbe] at yC ⊢
  clear hve hbe hBA hq hB9 HC
  obtain ⟨t0, t1, t2⟩ := caThree x9T.1
  obtain ⟨qa, qc, qh, qp⟩ := id x10R
  obtain ⟨q0, q1, _, _⟩ := two_all qh
  have hc := ref12Down_any t r (r.v - 1) v3 _ qa qc hG hOk.1 hm1 x9T.2 qp hOk.2.1 hOk.2.2
  obtain ⟨mD, hmD⟩ : ∃ m, Ca.downM t r (r.v - 1) = m := ⟨_, rfl⟩
  rw [hmD] at hc
  have HC := Lib.hid hc; clear hc
  have HMD := Lib.hid hmD; clear hmD
  go_upto_region 9 with (first
    | (go_at_call 21; (with_reducible refine HC.out.mono ?_); rintro e w9 ⟨⟨na, nc, rfl, hq⟩, hB9⟩))
  have hBA := hB9.trans ((caNew w9 (.cells #[.int .i64 mD.1.v, .slice na mD.1.s.length nc] 31)).mono hB9.size)
  have yD := hasRec_new (r := mD.1) hq
  clear t0 t1 t2 q0 q1 qh qp
  have x13W := x8W.trans (hBA.mono x8W.size)
  have x14T := hasT_below x9T hBA
  have x15R := hasRec_below x10R hBA
  have x16A := hasRec_below x11A hBA
  have x17B := hasRec_below x12B hBA
  have x18C := hasRec_below yC hBA
  clear x8W x9T x10R x11A x12B yC
  obtain ⟨v4, hve⟩ : ∃ U, w9.alloc (.cells #[.int .i64 mD.1.v, .slice na mD.1.s.length nc] 31) = U := ⟨_, rfl⟩
  obtain ⟨kD, hbe⟩ : ∃ b, w9.heap.size = b := ⟨_, rfl⟩
  rw [hve] at x13W x14T x15R x16A x17B x18C yD ⊢
  rw [hbe] at yD ⊢
  clear hve hbe hBA hq hB9 HC
  have hAok : RecOk mA.1 := by rw [← HMA.out]; exact castM_ok hp1
  have hCok : RecOk mC.1 := by rw [← HMC.out]; exact castM_ok hm1
  have hAB : mB = mA := HMB.out.symm.trans HMA.out
  have hBok : RecOk mB.1 := by rw [hAB]; exact hAok
  have eAB : (mA.2 == mB.2) = true := by rw [hAB]; simp
  have HAB := Lib.hid hAB; clear hAB
  have hCD : mD = mC := HMD.out.symm.trans HMC.out
  have hDok : RecOk mD.1 := by rw [hCD]; exact hCok
  have eCD : (mC.2 == mD.2) = true := by rw [hCD]; simp
  have HCD := Lib.hid hCD; clear hCD
  obtain ⟨aa, ac, ah, ap⟩ := id x16A
  obtain ⟨a0, a1, _, _⟩ := two_all ah
  obtain ⟨ba, bc, bh, bp⟩ := id x17B
  obtain ⟨b0, b1, _, _⟩ := two_all bh
  obtain ⟨ca, cc, ch, cp⟩ := id x18C
  obtain ⟨c0, c1, _, _⟩ := two_all ch
  obtain ⟨da, dc, dh, dp⟩ := id yD
  obtain ⟨d0, d1, _, _⟩ := two_all dh
  have HS1 := Lib.hid (fun (W : World) (hb : Below v4.heap.size v4 W) => refSame11_any mA.1 mB.1 W aa ba ac bc (pRow_below hb ap) (pRow_below hb bp) hAok.2.2 hBok.2.2 true (by simp [HAB.out]))
  have HS2 := Lib.hid (fun (W : World) (hb : Below v4.heap.size v4 W) => refSame11_any mC.1 mD.1 W ca da cc dc (pRow_below hb cp) (pRow_below hb dp) hCok.2.2 hDok.2.2 true (by simp [HCD.out]))
  have HWW := Lib.hid x13W
  go_wp2_with (first
    | (go_at_call 24; first
      | ((with_reducible refine (HS1.out _ (Below.refl _ _)).mono ?_); rintro e u0 ⟨rfl, hU0⟩; have hC0 := hU0; have a0_0 := cell_below hC0 a0; have a1_0 := cell_below hC0 a1; have b0_0 := cell_below hC0 b0; have b1_0 := cell_below hC0 b1; have c0_0 := cell_below hC0 c0; have c1_0 := cell_below hC0 c1; have d0_0 := cell_below hC0 d0; have d1_0 := cell_below hC0 d1)
      | ((with_reducible refine (HS2.out _ hC0).mono ?_); rintro e u1 ⟨rfl, hU1⟩; have hC1 := hC0.trans (hU1.mono hC0.size); have a0_1 := cell_below hC1 a0; have a1_1 := cell_below hC1 a1; have b0_1 := cell_below hC1 b0; have b1_1 := cell_below hC1 b1; have c0_1 := cell_below hC1 c0; have c1_1 := cell_below hC1 c1; have d0_1 := cell_below hC1 d0; have d1_1 := cell_below hC1 d1)))
  go_ret
  exact ⟨rfl, HWW.out.trans (hC1.mono HWW.out.size)⟩
end castStepsWalk
end Go.Proofs.YtibjjclfonpibaaGreat

/- Proved: the statement CastSteps: a single step up or down, or its error, is the document's. (Made by gen_caw.py.); for every input, without any condition. (Out of its walk: the frame alone, the arguments are opened, and shut again as they were.) -/
namespace Go.Proofs.YtibjjclfonpibaaGreat.castStepsSaid
open Go.ChangeShapes Go.WideShapes Go.ChangeAt Go.RowKit
open Go.ChangeMaps (open_string shut_string)
set_option linter.unusedVariables false

theorem own : ownKnob Tryz.prog.godebug = none := by kernel_rfl
theorem laidOut : laidOutB Tryz.prog = true := by kernel_rfl

set_option maxRecDepth 100000 in
theorem lifted (os : Os) (started : os.Started) (H : Type) (enc : TypeId × Value → H) :
    ReturnsInHanded {} Tryz.checked os 5 .any (Rows.castStepsSpec.pre6 enc Tryz.prog Tryz.f5 Rows.castStepsRow.domain false) (Rows.castStepsSpec.post enc Tryz.prog Tryz.f5 false true false false) := by
  refine returnsInHanded_of_change (C := Tryz.checked) own started (by kernel_rfl) Tryz.func5
    (ChangeSpec.witness6 (enc := enc) (C := Tryz.checked) false ⟨#[], #[.agg #[.string ByteArray.empty, .slice none 0 0, .slice none 0 0], .agg #[.int .i64 0, .slice none 0 0]], []⟩ 8 (by kernel_rfl) (by kernel_rfl) (by kernel_rfl) (by kernel_rfl)) ?_
  intro W base args ds gs before hval0 hW hcnd _
  have hval : ∀ (j : Nat) t v, Tryz.f5.params[j]? = some t → args[j]? = some v → Value.okWide Tryz.prog W .any base t v := hval0
  have hW' := hW
  obtain ⟨p, q, hA0, hV, rfl, hfz, hnd⟩ := hW
  have hA : DataW.TrodAll enc Tryz.prog W 0 (fun _ => true) true Tryz.f5.params.toList args.toList ds p := hA0
  rw [Tryz.params5] at hA hval
  obtain ⟨v0, vs0, d0, ds0, p0, q0, hargs, rfl, rfl, h0, r0⟩ := trodAll_cons hA
  obtain ⟨v1, vs1, d1, ds1, p1, q1, rfl, rfl, rfl, h1, r1⟩ := trodAll_cons r0
  obtain ⟨rfl, rfl, rfl⟩ := trodAll_nil r1
  obtain rfl : args = #[v0, v1] := by cases args; simp_all
  obtain ⟨rfl, rfl⟩ := trodVars_none hV
  have k0 := h0
  have lt0 : ∀ x ∈ p0, x.block < W.heap.size := by obtain ⟨m, hm⟩ := k0; exact DataW.trod_lt m _ _ _ hm
  obtain ⟨t0, w0⟩ := open_argTempl h0
  have k1 := h1
  have lt1 : ∀ x ∈ p1, x.block < W.heap.size := by obtain ⟨m, hm⟩ := k1; exact DataW.trod_lt m _ _ _ hm
  obtain ⟨t1, a1, c1, rfl, i1, w1⟩ := open_argRec h1
  clear hA0 hval0
  refine (castStepsWalk.walk t0 _ t1 a1 c1 W w0 i1 w1).mono fun e W' ⟨he, bel⟩ => ?_
  subst he
  exact ⟨_, rfl, _, _, _, [], _, [], hW', trodAll_mk1 (shut_bool Tryz.underlying4 _), (trodAll_cons_mk (Below.trod laidOut (by kernel_rfl) (of_decide_eq_true (by kernel_rfl)) k0 bel lt0) (trodAll_cons_mk (Below.trod laidOut (by kernel_rfl) (of_decide_eq_true (by kernel_rfl)) k1 bel lt1) trodAll_mk0)), rfl, bel.frame _, fun h => by cases h⟩

theorem over : Rows.castStepsRow.holds Tryz.pinned (OpenSpec.ofChange Rows.castStepsSpec) :=
  OpenClaim.holds_of_wide 5 Tryz.f5 rfl rfl rfl rfl rfl rfl rfl ⟨rfl, rfl, rfl, rfl, rfl⟩ rfl rfl rfl rfl rfl (by kernel_rfl) Tryz.func5 (by kernel_rfl)
    (of_decide_eq_true (by kernel_rfl)) (by unfold Func.isWrapper; first | (rw [if_pos (by decide +kernel)]; kernel_rfl) | (rw [if_neg (by decide +kernel)]; exact ⟨rfl, rfl⟩))
    (fun os started H enc _ => lifted os started H enc)

theorem proved : Rows.CastStepsSaid := over
end Go.Proofs.YtibjjclfonpibaaGreat.castStepsSaid
