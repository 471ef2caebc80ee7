/- The walk of CastGoes: every record at every version, up or down, or the error, is the document's. (Made by gen_caw.py.) -/
import Derived.Test.YtibjjclfonpibaaGreatGoRef
import Derived.Test.YtibjjclfonpibaaGreatMh53Cast
import Derived.Test.YtibjjclfonpibaaGreatMh1Cast
import Derived.ProofKit
import Derived.OpenShut
import Derived.ShutString
import Derived.ChangeOld
import Derived.Below
set_option linter.unusedVariables false
set_option linter.unusedSimpArgs false
set_option maxRecDepth 100000
namespace Go.Proofs.YtibjjclfonpibaaGreat
open Go.RowKit Go.Shelf
theorem i64_last (t : TemplM) : I64 (lastN t : Int) := by have := lastN_le t; unfold I64; omega
namespace castGoesWalk
set_option maxHeartbeats 16000000 in
theorem walk (t : TemplM) (X : Value) (r : RecM) (ra : Option Addr) (rc : Nat) (v : Int) (w : World) (hi : IsTempl w t X) (hI : I64 r.v) (hr : PRow w ra rc r.s) (hv0 : (Lit.int .i64 v).wf = true) :
    Calls Tryz.prog 4 #[X, .agg #[.int .i64 r.v, .slice ra r.s.length rc], .int .i64 v] w fun e w' => e = .returned (.bool true) ∧ Below w.heap.size w w' := by
  have hv : I64 v := wf_i64 hv0
  have h0 := hi
  obtain ⟨h1, sa, sc, ta, tc, rfl, hsl, hst⟩ := hi
  have hb2 := below2 w (.cells #[.string t.nm, .slice sa t.slots.length sc, .slice ta t.steps.length tc] 25) (.cells #[.int .i64 r.v, .slice ra r.s.length rc] 31)
  have hxT : HasT ((w.alloc (.cells #[.string t.nm, .slice sa t.slots.length sc, .slice ta t.steps.length tc] 25)).alloc (.cells #[.int .i64 r.v, .slice ra r.s.length rc] 31)) w.heap.size t sa sc ta tc := ⟨(Below.heap_alloc _ _ _ (by simp)).trans (heap_self9 w _), isTempl_below hb2 h0⟩
  have hxR : HasRec ((w.alloc (.cells #[.string t.nm, .slice sa t.slots.length sc, .slice ta t.steps.length tc] 25)).alloc (.cells #[.int .i64 r.v, .slice ra r.s.length rc] 31)) (w.heap.size + 1) r := ⟨ra, rc, two_heap w _ _, pRow_below hb2 hr⟩
  have hAl := fun W => caAlive_any W
  have hGr := fun (W : World) (hb : Below w.heap.size w W) => caGreat_any t r W _ ra rc (isTempl_below hb h0) (pRow_below hb hr)
  have HAL := Lib.hid hAl; have HGR := Lib.hid hGr; have HXT := Lib.hid hxT; have HXR := Lib.hid hxR; have HB2 := Lib.hid hb2
  clear hAl hGr hxT hxR hb2 hsl hst h1 h0 hr
  obtain ⟨gt, hgt⟩ : ∃ g, greatT t = g := ⟨_, rfl⟩
  obtain ⟨gl, hgl⟩ : ∃ g, greatL r.s = g := ⟨_, rfl⟩
  have HRV := Lib.hid hI; clear hI
  have hG2 : ∀ (W : World), Below w.heap.size w W → ∀ (b : Nat), HasT W b t sa sc ta tc → ∀ (a : Option Addr) (c : Nat), PRow W a c r.s → Calls Tryz.prog 17 #[.agg #[.string t.nm, .slice sa t.slots.length sc, .slice ta t.steps.length tc], .agg #[.int .i64 r.v, .slice a r.s.length c]] W fun e w' => e = .returned (.bool (gt || gl)) ∧ Below W.heap.size W w' := fun W hb b hT a c hp => by
    have h := caGreat_any t r W _ a c hT.2 hp
    rw [hgt, hgl] at h
    exact h
  clear HGR
  have HG2 := Lib.hid hG2; clear hG2
  cases hgg : (gt || gl) with
  | true =>
    rw [hgg] at HG2
    clear hgg hgt hgl
    go_enter Tryz.func4, Tryz.ntmps4
    go_wp2_with (first
      | (go_at_call 16; (with_reducible refine (HAL.out _).mono ?_); rintro e w1 ⟨rfl, hB1⟩; have hw1 := HB2.out.trans (hB1.mono HB2.out.size); have hT1 := hasT_below HXT.out hB1; have hR1 := hasRec_below HXR.out hB1; obtain ⟨t0, t1, t2⟩ := caThree hT1.1; obtain ⟨qa, qc, qh, qp⟩ := id hR1; obtain ⟨q0, q1, _, _⟩ := two_all qh)
      | (go_at_call 17; (with_reducible refine (HG2.out _ hw1 _ hT1 _ _ qp).mono ?_); rintro e w2 ⟨rfl, hB2⟩))
    go_ret
    exact ⟨rfl, hw1.trans (hB2.mono hw1.size)⟩
  | false =>
  rw [hgg] at HG2
  have hG : greatT t = false := by rw [hgt]; cases gt <;> simp_all
  have hGL : greatL r.s = false := by rw [hgl]; cases gl <;> simp_all
  clear hgg hgt hgl
  have hOk : RecOk r := by
    obtain ⟨h40, hgr⟩ := greatL_sz hGL
    exact ⟨HRV.out, fun y hy => Nat.le_trans (great_sz y (hgr y hy)) (by omega), by omega⟩
  clear hGL
  go_enter Tryz.func4, Tryz.ntmps4
  go_upto_region 5 with (first
    | (go_at_call 16; (with_reducible refine (HAL.out _).mono ?_); rintro e w1 ⟨rfl, hB1⟩; have hw1 := HB2.out.trans (hB1.mono HB2.out.size); have hT1 := hasT_below HXT.out hB1; have hR1 := hasRec_below HXR.out hB1; obtain ⟨t0, t1, t2⟩ := caThree hT1.1; obtain ⟨qa, qc, qh, qp⟩ := id hR1; obtain ⟨q0, q1, _, _⟩ := two_all qh)
    | (go_at_call 17; (with_reducible refine (HG2.out _ hw1 _ hT1 _ _ qp).mono ?_); rintro e w2 ⟨rfl, hB2⟩))
  have yW := hw1.trans (hB2.mono hw1.size)
  have yT := hasT_below hT1 hB2
  have yR := hasRec_below hR1 hB2
  clear t0 t1 t2 qh qp q0 q1 hT1 hR1 hw1 hB1 hB2 HB2 HXT HXR HAL HG2
  obtain ⟨v0, hv0⟩ : ∃ x, x = w2 := ⟨_, rfl⟩
  subst hv0
  obtain ⟨kR, hkR⟩ : ∃ b, w.heap.size + 1 = b := ⟨_, rfl⟩
  rw [hkR] at yR ⊢
  clear hkR
  obtain ⟨t0, t1, t2⟩ := caThree yT.1
  obtain ⟨qa, qc, qh, qp⟩ := id yR
  obtain ⟨q0, q1, _, _⟩ := two_all qh
  have hc := caUp_any t r v v0 _ qa qc hG hOk.1 hv yT.2 qp hOk.2.1 hOk.2.2
  obtain ⟨mA, hmA⟩ : ∃ m, Ca.upM t r v = m := ⟨_, rfl⟩
  rw [hmA] at hc
  have HC := Lib.hid hc; clear hc
  have HMA := Lib.hid hmA; clear hmA
  go_upto_region 6 with (first
    | (go_at_call 18; (with_reducible refine HC.out.mono ?_); rintro e w9 ⟨⟨na, nc, rfl, hq⟩, hB9⟩))
  have hBA := hB9.trans ((caNew w9 (.cells #[.int .i64 mA.1.v, .slice na mA.1.s.length nc] 31)).mono hB9.size)
  have yA := hasRec_new (r := mA.1) hq
  clear t0 t1 t2 q0 q1 qh qp
  have x1W := yW.trans (hBA.mono yW.size)
  have x2T := hasT_below yT hBA
  have x3R := hasRec_below yR hBA
  clear yW yT yR
  obtain ⟨v1, hve⟩ : ∃ U, w9.alloc (.cells #[.int .i64 mA.1.v, .slice na mA.1.s.length nc] 31) = U := ⟨_, rfl⟩
  obtain ⟨kA, hbe⟩ : ∃ b, w9.heap.size = b := ⟨_, rfl⟩
  rw [hve] at x1W x2T x3R yA ⊢
  rw [hbe] at yA ⊢
  clear hve hbe hBA hq hB9 HC
  obtain ⟨t0, t1, t2⟩ := caThree x2T.1
  obtain ⟨qa, qc, qh, qp⟩ := id x3R
  obtain ⟨q0, q1, _, _⟩ := two_all qh
  have hc := ref12Up_any t r v v1 _ qa qc hG hOk.1 hv x2T.2 qp hOk.2.1 hOk.2.2
  obtain ⟨mB, hmB⟩ : ∃ m, Ca.upM t r v = m := ⟨_, rfl⟩
  rw [hmB] at hc
  have HC := Lib.hid hc; clear hc
  have HMB := Lib.hid hmB; clear hmB
  go_upto_region 7 with (first
    | (go_at_call 19; (with_reducible refine HC.out.mono ?_); rintro e w9 ⟨⟨na, nc, rfl, hq⟩, hB9⟩))
  have hBA := hB9.trans ((caNew w9 (.cells #[.int .i64 mB.1.v, .slice na mB.1.s.length nc] 31)).mono hB9.size)
  have yB := hasRec_new (r := mB.1) hq
  clear t0 t1 t2 q0 q1 qh qp
  have x4W := x1W.trans (hBA.mono x1W.size)
  have x5T := hasT_below x2T hBA
  have x6R := hasRec_below x3R hBA
  have x7A := hasRec_below yA hBA
  clear x1W x2T x3R yA
  obtain ⟨v2, hve⟩ : ∃ U, w9.alloc (.cells #[.int .i64 mB.1.v, .slice na mB.1.s.length nc] 31) = U := ⟨_, rfl⟩
  obtain ⟨kB, hbe⟩ : ∃ b, w9.heap.size = b := ⟨_, rfl⟩
  rw [hve] at x4W x5T x6R x7A yB ⊢
  rw [hbe] at yB ⊢
  clear hve hbe hBA hq hB9 HC
  obtain ⟨t0, t1, t2⟩ := caThree x5T.1
  obtain ⟨qa, qc, qh, qp⟩ := id x6R
  obtain ⟨q0, q1, _, _⟩ := two_all qh
  have hc := caDown_any t r v v2 _ qa qc hG hOk.1 hv x5T.2 qp hOk.2.1 hOk.2.2
  obtain ⟨mC, hmC⟩ : ∃ m, Ca.downM t r v = m := ⟨_, rfl⟩
  rw [hmC] at hc
  have HC := Lib.hid hc; clear hc
  have HMC := Lib.hid hmC; clear hmC
  go_upto_region 8 with (first
    | (go_at_call 20; (with_reducible refine HC.out.mono ?_); rintro e w9 ⟨⟨na, nc, rfl, hq⟩, hB9⟩))
  have hBA := hB9.trans ((caNew w9 (.cells #[.int .i64 mC.1.v, .slice na mC.1.s.length nc] 31)).mono hB9.size)
  have yC := hasRec_new (r := mC.1) hq
  clear t0 t1 t2 q0 q1 qh qp
  have x8W := x4W.trans (hBA.mono x4W.size)
  have x9T := hasT_below x5T hBA
  have x10R := hasRec_below x6R hBA
  have x11A := hasRec_below x7A hBA
  have x12B := hasRec_below yB hBA
  clear x4W x5T x6R x7A yB
  obtain ⟨v3, hve⟩ : ∃ U, w9.alloc (.cells #[.int .i64 mC.1.v, .slice na mC.1.s.length nc] 31) = U := ⟨_, rfl⟩
  obtain ⟨kC, hbe⟩ : ∃ b, w9.heap.size = b := ⟨_, rfl⟩
  rw [hve] at x8W x9T x10R x11A x12B yC ⊢
  rw [hbe] at yC ⊢
  clear hve hbe hBA hq hB9 HC
  obtain ⟨t0, t1, t2⟩ := caThree x9T.1
  obtain ⟨qa, qc, qh, qp⟩ := id x10R
  obtain ⟨q0, q1, _, _⟩ := two_all qh
  have hc := ref12Down_any t r v v3 _ qa qc hG hOk.1 hv x9T.2 qp hOk.2.1 hOk.2.2
  obtain ⟨mD, hmD⟩ : ∃ m, Ca.downM t r v = m := ⟨_, rfl⟩
  rw [hmD] at hc
  have HC := Lib.hid hc; clear hc
  have HMD := Lib.hid hmD; clear hmD
  go_upto_region 9 with (first
    | (go_at_call 21; (with_reducible refine HC.out.mono ?_); rintro e w9 ⟨⟨na, nc, rfl, hq⟩, hB9⟩))
  have hBA := hB9.trans ((caNew w9 (.cells #[.int .i64 mD.1.v, .slice na mD.1.s.length nc] 31)).mono hB9.size)
  have yD := hasRec_new (r := mD.1) hq
  clear t0 t1 t2 q0 q1 qh qp
  have x13W := x8W.trans (hBA.mono x8W.size)
  have x14T := hasT_below x9T hBA
  have x15R := hasRec_below x10R hBA
  have x16A := hasRec_below x11A hBA
  have x17B := hasRec_below x12B hBA
  have x18C := hasRec_below yC hBA
  clear x8W x9T x10R x11A x12B yC
  obtain ⟨v4, hve⟩ : ∃ U, w9.alloc (.cells #[.int .i64 mD.1.v, .slice na mD.1.s.length nc] 31) = U := ⟨_, rfl⟩
  obtain ⟨kD, hbe⟩ : ∃ b, w9.heap.size = b := ⟨_, rfl⟩
  rw [hve] at x13W x14T x15R x16A x17B x18C yD ⊢
  rw [hbe] at yD ⊢
  clear hve hbe hBA hq hB9 HC
  obtain ⟨t0, t1, t2⟩ := caThree x14T.1
  obtain ⟨qa, qc, qh, qp⟩ := id x15R
  obtain ⟨q0, q1, _, _⟩ := two_all qh
  have hc := caNewest_any t r v4 _ qa qc hG hOk.1 x14T.2 qp hOk.2.1 hOk.2.2
  obtain ⟨mE, hmE⟩ : ∃ m, Ca.upM t r (lastN t : Int) = m := ⟨_, rfl⟩
  rw [hmE] at hc
  have HC := Lib.hid hc; clear hc
  have HME := Lib.hid hmE; clear hmE
  go_upto_region 10 with (first
    | (go_at_call 22; (with_reducible refine HC.out.mono ?_); rintro e w9 ⟨⟨na, nc, rfl, hq⟩, hB9⟩))
  have hBA := hB9.trans ((caNew w9 (.cells #[.int .i64 mE.1.v, .slice na mE.1.s.length nc] 31)).mono hB9.size)
  have yE := hasRec_new (r := mE.1) hq
  clear t0 t1 t2 q0 q1 qh qp
  have x19W := x13W.trans (hBA.mono x13W.size)
  have x20T := hasT_below x14T hBA
  have x21R := hasRec_below x15R hBA
  have x22A := hasRec_below x16A hBA
  have x23B := hasRec_below x17B hBA
  have x24C := hasRec_below x18C hBA
  have x25D := hasRec_below yD hBA
  clear x13W x14T x15R x16A x17B x18C yD
  obtain ⟨v5, hve⟩ : ∃ U, w9.alloc (.cells #[.int .i64 mE.1.v, .slice na mE.1.s.length nc] 31) = U := ⟨_, rfl⟩
  obtain ⟨kE, hbe⟩ : ∃ b, w9.heap.size = b := ⟨_, rfl⟩
  rw [hve] at x19W x20T x21R x22A x23B x24C x25D yE ⊢
  rw [hbe] at yE ⊢
  clear hve hbe hBA hq hB9 HC
  obtain ⟨t0, t1, t2⟩ := caThree x20T.1
  obtain ⟨qa, qc, qh, qp⟩ := id x21R
  obtain ⟨q0, q1, _, _⟩ := two_all qh
  have hc := ref12Newest_any t r v5 _ qa qc hG hOk.1 x20T.2 qp hOk.2.1 hOk.2.2
  obtain ⟨mF, hmF⟩ : ∃ m, Ca.upM t r (lastN t : Int) = m := ⟨_, rfl⟩
  rw [hmF] at hc
  have HC := Lib.hid hc; clear hc
  have HMF := Lib.hid hmF; clear hmF
  go_upto_region 11 with (first
    | (go_at_call 23; (with_reducible refine HC.out.mono ?_); rintro e w9 ⟨⟨na, nc, rfl, hq⟩, hB9⟩))
  have hBA := hB9.trans ((caNew w9 (.cells #[.int .i64 mF.1.v, .slice na mF.1.s.length nc] 31)).mono hB9.size)
  have yF := hasRec_new (r := mF.1) hq
  clear t0 t1 t2 q0 q1 qh qp
  have x26W := x19W.trans (hBA.mono x19W.size)
  have x27T := hasT_below x20T hBA
  have x28R := hasRec_below x21R hBA
  have x29A := hasRec_below x22A hBA
  have x30B := hasRec_below x23B hBA
  have x31C := hasRec_below x24C hBA
  have x32D := hasRec_below x25D hBA
  have x33E := hasRec_below yE hBA
  clear x19W x20T x21R x22A x23B x24C x25D yE
  obtain ⟨v6, hve⟩ : ∃ U, w9.alloc (.cells #[.int .i64 mF.1.v, .slice na mF.1.s.length nc] 31) = U := ⟨_, rfl⟩
  obtain ⟨kF, hbe⟩ : ∃ b, w9.heap.size = b := ⟨_, rfl⟩
  rw [hve] at x26W x27T x28R x29A x30B x31C x32D x33E yF ⊢
  rw [hbe] at yF ⊢
  clear hve hbe hBA hq hB9 HC
  have hAok : RecOk mA.1 := by rw [← HMA.out]; exact castM_ok hv
  have hCok : RecOk mC.1 := by rw [← HMC.out]; exact castM_ok hv
  have hEok : RecOk mE.1 := by rw [← HME.out]; exact castM_ok (i64_last t)
  have hAB : mB = mA := HMB.out.symm.trans HMA.out
  have hBok : RecOk mB.1 := by rw [hAB]; exact hAok
  have eAB : (mA.2 == mB.2) = true := by rw [hAB]; simp
  have HAB := Lib.hid hAB; clear hAB
  have hCD : mD = mC := HMD.out.symm.trans HMC.out
  have hDok : RecOk mD.1 := by rw [hCD]; exact hCok
  have eCD : (mC.2 == mD.2) = true := by rw [hCD]; simp
  have HCD := Lib.hid hCD; clear hCD
  have hEF : mF = mE := HMF.out.symm.trans HME.out
  have hFok : RecOk mF.1 := by rw [hEF]; exact hEok
  have eEF : (mE.2 == mF.2) = true := by rw [hEF]; simp
  have HEF := Lib.hid hEF; clear hEF
  obtain ⟨aa, ac, ah, ap⟩ := id x29A
  obtain ⟨a0, a1, _, _⟩ := two_all ah
  obtain ⟨ba, bc, bh, bp⟩ := id x30B
  obtain ⟨b0, b1, _, _⟩ := two_all bh
  obtain ⟨ca, cc, ch, cp⟩ := id x31C
  obtain ⟨c0, c1, _, _⟩ := two_all ch
  obtain ⟨da, dc, dh, dp⟩ := id x32D
  obtain ⟨d0, d1, _, _⟩ := two_all dh
  obtain ⟨ea, ec, eh, ep⟩ := id x33E
  obtain ⟨e0, e1, _, _⟩ := two_all eh
  obtain ⟨fa, fc, fh, fp⟩ := id yF
  obtain ⟨f0, f1, _, _⟩ := two_all fh
  have HS1 := Lib.hid (fun (W : World) (hb : Below v6.heap.size v6 W) => refSame11_any mA.1 mB.1 W aa ba ac bc (pRow_below hb ap) (pRow_below hb bp) hAok.2.2 hBok.2.2 true (by simp [HAB.out]))
  have HS2 := Lib.hid (fun (W : World) (hb : Below v6.heap.size v6 W) => refSame11_any mC.1 mD.1 W ca da cc dc (pRow_below hb cp) (pRow_below hb dp) hCok.2.2 hDok.2.2 true (by simp [HCD.out]))
  have HS3 := Lib.hid (fun (W : World) (hb : Below v6.heap.size v6 W) => refSame11_any mE.1 mF.1 W ea fa ec fc (pRow_below hb ep) (pRow_below hb fp) hEok.2.2 hFok.2.2 true (by simp [HEF.out]))
  have HWW := Lib.hid x26W
  go_wp2_with (first
    | (go_at_call 24; first
      | ((with_reducible refine (HS1.out _ (Below.refl _ _)).mono ?_); rintro e u0 ⟨rfl, hU0⟩; have hC0 := hU0; have a0_0 := cell_below hC0 a0; have a1_0 := cell_below hC0 a1; have b0_0 := cell_below hC0 b0; have b1_0 := cell_below hC0 b1; have c0_0 := cell_below hC0 c0; have c1_0 := cell_below hC0 c1; have d0_0 := cell_below hC0 d0; have d1_0 := cell_below hC0 d1; have e0_0 := cell_below hC0 e0; have e1_0 := cell_below hC0 e1; have f0_0 := cell_below hC0 f0; have f1_0 := cell_below hC0 f1)
      | ((with_reducible refine (HS2.out _ hC0).mono ?_); rintro e u1 ⟨rfl, hU1⟩; have hC1 := hC0.trans (hU1.mono hC0.size); have a0_1 := cell_below hC1 a0; have a1_1 := cell_below hC1 a1; have b0_1 := cell_below hC1 b0; have b1_1 := cell_below hC1 b1; have c0_1 := cell_below hC1 c0; have c1_1 := cell_below hC1 c1; have d0_1 := cell_below hC1 d0; have d1_1 := cell_below hC1 d1; have e0_1 := cell_below hC1 e0; have e1_1 := cell_below hC1 e1; have f0_1 := cell_below hC1 f0; have f1_1 := cell_below hC1 f1)
      | ((with_reducible refine (HS3.out _ hC1).mono ?_); rintro e u2 ⟨rfl, hU2⟩; have hC2 := hC1.trans (hU2.mono hC1.size); have a0_2 := cell_below hC2 a0; have a1_2 := cell_below hC2 a1; have b0_2 := cell_below hC2 b0; have b1_2 := cell_below hC2 b1; have c0_2 := cell_below hC2 c0; have c1_2 := cell_below hC2 c1; have d0_2 := cell_below hC2 d0; have d1_2 := cell_below hC2 d1; have e0_2 := cell_below hC2 e0; have e1_2 := cell_below hC2 e1; have f0_2 := cell_below hC2 f0; have f1_2 := cell_below hC2 f1)))
  go_ret
  exact ⟨rfl, HWW.out.trans (hC2.mono HWW.out.size)⟩
end castGoesWalk
end Go.Proofs.YtibjjclfonpibaaGreat

/- Proved: the statement CastGoes: every record at every version, up or down, or the error, is the document's. (Made by gen_caw.py.); for every input, without any condition. (Out of its walk: the frame alone, the arguments are opened, and shut again as they were.) -/
namespace Go.Proofs.YtibjjclfonpibaaGreat.castGoesSaid
open Go.ChangeShapes Go.WideShapes Go.ChangeAt Go.RowKit
open Go.ChangeMaps (open_string shut_string)
set_option linter.unusedVariables false

theorem own : ownKnob Tryz.prog.godebug = none := by kernel_rfl
theorem laidOut : laidOutB Tryz.prog = true := by kernel_rfl

set_option maxRecDepth 100000 in
theorem lifted (os : Os) (started : os.Started) (H : Type) (enc : TypeId × Value → H) :
    ReturnsInHanded {} Tryz.checked os 4 .any (Rows.castGoesSpec.pre6 enc Tryz.prog Tryz.f4 Rows.castGoesRow.domain false) (Rows.castGoesSpec.post enc Tryz.prog Tryz.f4 false true false false) := by
  refine returnsInHanded_of_change (C := Tryz.checked) own started (by kernel_rfl) Tryz.func4
    (ChangeSpec.witness6 (enc := enc) (C := Tryz.checked) false ⟨#[], #[.agg #[.string ByteArray.empty, .slice none 0 0, .slice none 0 0], .agg #[.int .i64 0, .slice none 0 0], .int .i64 0], []⟩ 8 (by kernel_rfl) (by kernel_rfl) (by kernel_rfl) (by kernel_rfl)) ?_
  intro W base args ds gs before hval0 hW hcnd _
  have hval : ∀ (j : Nat) t v, Tryz.f4.params[j]? = some t → args[j]? = some v → Value.okWide Tryz.prog W .any base t v := hval0
  have hW' := hW
  obtain ⟨p, q, hA0, hV, rfl, hfz, hnd⟩ := hW
  have hA : DataW.TrodAll enc Tryz.prog W 0 (fun _ => true) true Tryz.f4.params.toList args.toList ds p := hA0
  rw [Tryz.params4] at hA hval
  obtain ⟨v0, vs0, d0, ds0, p0, q0, hargs, rfl, rfl, h0, r0⟩ := trodAll_cons hA
  obtain ⟨v1, vs1, d1, ds1, p1, q1, rfl, rfl, rfl, h1, r1⟩ := trodAll_cons r0
  obtain ⟨v2, vs2, d2, ds2, p2, q2, rfl, rfl, rfl, h2, r2⟩ := trodAll_cons r1
  obtain ⟨rfl, rfl, rfl⟩ := trodAll_nil r2
  obtain rfl : args = #[v0, v1, v2] := by cases args; simp_all
  obtain ⟨rfl, rfl⟩ := trodVars_none hV
  have k0 := h0
  have lt0 : ∀ x ∈ p0, x.block < W.heap.size := by obtain ⟨m, hm⟩ := k0; exact DataW.trod_lt m _ _ _ hm
  obtain ⟨t0, w0⟩ := open_argTempl h0
  have k1 := h1
  have lt1 : ∀ x ∈ p1, x.block < W.heap.size := by obtain ⟨m, hm⟩ := k1; exact DataW.trod_lt m _ _ _ hm
  obtain ⟨t1, a1, c1, rfl, i1, w1⟩ := open_argRec h1
  obtain ⟨a2, rfl, rfl, rfl, w2⟩ := open_int Tryz.underlying3 (hval 2 3 v2 rfl rfl) h2
  clear hA0 hval0
  refine (castGoesWalk.walk t0 _ t1 a1 c1 a2 W w0 i1 w1 w2).mono fun e W' ⟨he, bel⟩ => ?_
  subst he
  exact ⟨_, rfl, _, _, _, [], _, [], hW', trodAll_mk1 (shut_bool Tryz.underlying4 _), (trodAll_cons_mk (Below.trod laidOut (by kernel_rfl) (of_decide_eq_true (by kernel_rfl)) k0 bel lt0) (trodAll_cons_mk (Below.trod laidOut (by kernel_rfl) (of_decide_eq_true (by kernel_rfl)) k1 bel lt1) (trodAll_cons_mk (shut_int Tryz.underlying3 w2) trodAll_mk0))), rfl, bel.frame _, fun h => by cases h⟩

theorem over : Rows.castGoesRow.holds Tryz.pinned (OpenSpec.ofChange Rows.castGoesSpec) :=
  OpenClaim.holds_of_wide 4 Tryz.f4 rfl rfl rfl rfl rfl rfl rfl ⟨rfl, rfl, rfl, rfl, rfl⟩ rfl rfl rfl rfl rfl (by kernel_rfl) Tryz.func4 (by kernel_rfl)
    (of_decide_eq_true (by kernel_rfl)) (by unfold Func.isWrapper; first | (rw [if_pos (by decide +kernel)]; kernel_rfl) | (rw [if_neg (by decide +kernel)]; exact ⟨rfl, rfl⟩))
    (fun os started H enc _ => lifted os started H enc)

theorem proved : Rows.CastGoesSaid := over
end Go.Proofs.YtibjjclfonpibaaGreat.castGoesSaid
