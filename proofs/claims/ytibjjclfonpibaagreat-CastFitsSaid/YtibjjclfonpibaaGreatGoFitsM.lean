/- The walk of CastFits: a record of a later version whose values fit the slots of an earlier one comes back from it. (Made by gen_caw.py.) -/
import Derived.Test.YtibjjclfonpibaaGreatGoRef
import Derived.Test.YtibjjclfonpibaaGreatMh53Cast
import Derived.Test.YtibjjclfonpibaaGreatMh1Cast
import Derived.ProofKit
import Derived.OpenShut
import Derived.ShutString
import Derived.ChangeOld
import Derived.Below
set_option linter.unusedVariables false
set_option linter.unusedSimpArgs false
set_option maxRecDepth 100000
namespace Go.Proofs.YtibjjclfonpibaaGreat
open Go.RowKit Go.Shelf
/-- a version in a box -/
def HasV (W : World) (b : Nat) (x : Sc.Ver) : Prop := ∃ sa sc ca cc, W.heap[b]? = some (.cells #[.slice sa x.slots.length sc, .slice ca x.cols.length cc] 37 (0, 0)) ∧ VerAt W x sa sc ca cc
theorem hasV_below {W W' : World} {b : Nat} {x : Sc.Ver} (h : HasV W b x) (hb : Below W.heap.size W W') : HasV W' b x := by
  obtain ⟨sa, sc, ca, cc, h1, h2⟩ := h
  exact ⟨sa, sc, ca, cc, (hb.block _ (Array.getElem?_eq_some_iff.1 h1).1).trans h1, verAt_below9 h2 hb⟩
theorem hasV_new {W : World} {x : Sc.Ver} {sa : Option Addr} {sc : Nat} {ca : Option Addr} {cc : Nat} (h : VerAt W x sa sc ca cc) : HasV (W.alloc (.cells #[.slice sa x.slots.length sc, .slice ca x.cols.length cc] 37)) W.heap.size x :=
  ⟨sa, sc, ca, cc, heap_self9 W _, verAt_below9 h (Below.heapsize9 W _)⟩
/-- the document's At of a version that there is -/
theorem atSome (t : TemplM) (v : Int) (x : Sc.Ver) (w : World) (X : Value) (hg : greatT t = false) (hI : I64 v) (hi : IsTempl w t X) (hx : Rc.verOf t v = some x) : Calls Tryz.prog 13 #[X, .int .i64 v] w fun e w' => (∃ sa sc ca cc, e = .returned (.tuple #[.agg #[.slice sa x.slots.length sc, .slice ca x.cols.length cc], .bool true]) ∧ VerAt w' x sa sc ca cc) ∧ Below w.heap.size w w' :=
  (refAt_any t v w X hg hI hi).mono fun e w' h => by
    unfold AtD at h; rw [hx] at h; exact h
namespace castFitsWalk
set_option maxHeartbeats 16000000 in
theorem walk (t : TemplM) (X : Value) (r : RecM) (ra : Option Addr) (rc : Nat) (v : Int) (w : World) (hi : IsTempl w t X) (hI : I64 r.v) (hr : PRow w ra rc r.s) (hv0 : (Lit.int .i64 v).wf = true) :
    Calls Tryz.prog 8 #[X, .agg #[.int .i64 r.v, .slice ra r.s.length rc], .int .i64 v] w fun e w' => e = .returned (.bool true) ∧ Below w.heap.size w w' := by
  have hv : I64 v := wf_i64 hv0
  have h0 := hi
  obtain ⟨h1, sa, sc, ta, tc, rfl, hsl, hst⟩ := hi
  have hb2 := below2 w (.cells #[.string t.nm, .slice sa t.slots.length sc, .slice ta t.steps.length tc] 25) (.cells #[.int .i64 r.v, .slice ra r.s.length rc] 31)
  have hxT : HasT ((w.alloc (.cells #[.string t.nm, .slice sa t.slots.length sc, .slice ta t.steps.length tc] 25)).alloc (.cells #[.int .i64 r.v, .slice ra r.s.length rc] 31)) w.heap.size t sa sc ta tc := ⟨(Below.heap_alloc _ _ _ (by simp)).trans (heap_self9 w _), isTempl_below hb2 h0⟩
  have hxR : HasRec ((w.alloc (.cells #[.string t.nm, .slice sa t.slots.length sc, .slice ta t.steps.length tc] 25)).alloc (.cells #[.int .i64 r.v, .slice ra r.s.length rc] 31)) (w.heap.size + 1) r := ⟨ra, rc, two_heap w _ _, pRow_below hb2 hr⟩
  have hAl := fun W => caAlive_any W
  have hGr := fun (W : World) (hb : Below w.heap.size w W) => caGreat_any t r W _ ra rc (isTempl_below hb h0) (pRow_below hb hr)
  have HAL := Lib.hid hAl; have HGR := Lib.hid hGr; have HXT := Lib.hid hxT; have HXR := Lib.hid hxR; have HB2 := Lib.hid hb2
  clear hAl hGr hxT hxR hb2 hsl hst h1 h0 hr
  obtain ⟨gt, hgt⟩ : ∃ g, greatT t = g := ⟨_, rfl⟩
  obtain ⟨gl, hgl⟩ : ∃ g, greatL r.s = g := ⟨_, rfl⟩
  have HRV := Lib.hid hI; clear hI
  have hG2 : ∀ (W : World), Below w.heap.size w W → ∀ (b : Nat), HasT W b t sa sc ta tc → ∀ (a : Option Addr) (c : Nat), PRow W a c r.s → Calls Tryz.prog 17 #[.agg #[.string t.nm, .slice sa t.slots.length sc, .slice ta t.steps.length tc], .agg #[.int .i64 r.v, .slice a r.s.length c]] W fun e w' => e = .returned (.bool (gt || gl)) ∧ Below W.heap.size W w' := fun W hb b hT a c hp => by
    have h := caGreat_any t r W _ a c hT.2 hp
    rw [hgt, hgl] at h
    exact h
  clear HGR
  have HG2 := Lib.hid hG2; clear hG2
  cases hgg : (gt || gl) with
  | true =>
    rw [hgg] at HG2
    clear hgg hgt hgl
    go_enter Tryz.func8, Tryz.ntmps8
    go_wp2_with (first
      | (go_at_call 16; (with_reducible refine (HAL.out _).mono ?_); rintro e w1 ⟨rfl, hB1⟩; have hw1 := HB2.out.trans (hB1.mono HB2.out.size); have hT1 := hasT_below HXT.out hB1; have hR1 := hasRec_below HXR.out hB1; obtain ⟨t0, t1, t2⟩ := caThree hT1.1; obtain ⟨qa, qc, qh, qp⟩ := id hR1; obtain ⟨q0, q1, _, _⟩ := two_all qh)
      | (go_at_call 17; (with_reducible refine (HG2.out _ hw1 _ hT1 _ _ qp).mono ?_); rintro e w2 ⟨rfl, hB2⟩))
    go_ret
    exact ⟨rfl, hw1.trans (hB2.mono hw1.size)⟩
  | false =>
  rw [hgg] at HG2
  have hG : greatT t = false := by rw [hgt]; cases gt <;> simp_all
  have hGL : greatL r.s = false := by rw [hgl]; cases gl <;> simp_all
  clear hgg hgt hgl
  have hOk : RecOk r := by
    obtain ⟨h40, hgr⟩ := greatL_sz hGL
    exact ⟨HRV.out, fun y hy => Nat.le_trans (great_sz y (hgr y hy)) (by omega), by omega⟩
  clear hGL
  go_enter Tryz.func8, Tryz.ntmps8
  go_upto_region 5 with (first
    | (go_at_call 16; (with_reducible refine (HAL.out _).mono ?_); rintro e w1 ⟨rfl, hB1⟩; have hw1 := HB2.out.trans (hB1.mono HB2.out.size); have hT1 := hasT_below HXT.out hB1; have hR1 := hasRec_below HXR.out hB1; obtain ⟨t0, t1, t2⟩ := caThree hT1.1; obtain ⟨qa, qc, qh, qp⟩ := id hR1; obtain ⟨q0, q1, _, _⟩ := two_all qh)
    | (go_at_call 17; (with_reducible refine (HG2.out _ hw1 _ hT1 _ _ qp).mono ?_); rintro e w2 ⟨rfl, hB2⟩))
  have yW := hw1.trans (hB2.mono hw1.size)
  have yT := hasT_below hT1 hB2
  have yR := hasRec_below hR1 hB2
  clear t0 t1 t2 qh qp q0 q1 hT1 hR1 hw1 hB1 hB2 HB2 HXT HXR HAL HG2
  obtain ⟨v0, hv0⟩ : ∃ x, x = w2 := ⟨_, rfl⟩
  subst hv0
  obtain ⟨kR, hkR⟩ : ∃ b, w.heap.size + 1 = b := ⟨_, rfl⟩
  rw [hkR] at yR ⊢
  clear hkR
  obtain ⟨t0, t1, t2⟩ := caThree yT.1
  obtain ⟨qa, qc, qh, qp⟩ := id yR
  obtain ⟨q0, q1, _, _⟩ := two_all qh
  have hc := caDown_any t r v v0 _ qa qc hG hOk.1 hv yT.2 qp hOk.2.1 hOk.2.2
  obtain ⟨mA, hmA⟩ : ∃ m, Ca.downM t r v = m := ⟨_, rfl⟩
  rw [hmA] at hc
  have HC := Lib.hid hc; clear hc
  have HMA := Lib.hid hmA; clear hmA
  go_upto_region 6 with (first
    | (go_at_call 20; (with_reducible refine HC.out.mono ?_); rintro e w9 ⟨⟨na, nc, rfl, hq⟩, hB9⟩))
  have hBA := hB9.trans ((caNew w9 (.cells #[.int .i64 mA.1.v, .slice na mA.1.s.length nc] 31)).mono hB9.size)
  have yA := hasRec_new (r := mA.1) hq
  clear t0 t1 t2 q0 q1 qh qp
  have x1W := yW.trans (hBA.mono yW.size)
  have x2T := hasT_below yT hBA
  have x3R := hasRec_below yR hBA
  clear yW yT yR
  obtain ⟨v1, hve⟩ : ∃ U, w9.alloc (.cells #[.int .i64 mA.1.v, .slice na mA.1.s.length nc] 31) = U := ⟨_, rfl⟩
  obtain ⟨kA, hbe⟩ : ∃ b, w9.heap.size = b := ⟨_, rfl⟩
  rw [hve] at x1W x2T x3R yA ⊢
  rw [hbe] at yA ⊢
  clear hve hbe hBA hq hB9 HC
  by_cases h0 : mA.2 = 0
  · skip
    have hAok : RecOk mA.1 := by rw [← HMA.out]; exact castM_ok hv
    have hD : (Ca.downM t r v).2 = 0 := by rw [HMA.out]; exact h0
    obtain ⟨z, y, hz, hfz, ho, hy, he⟩ := Ca.cast_ok hD
    have hvle : v ≤ r.v := by simpa using ho
    have hA1 : mA.1 = ⟨v, Ca.turnL y.slots r.s⟩ := by rw [← HMA.out]; exact congrArg Prod.fst he
    have hgr := Ca.verOf_grows hvle hy hz
    have hgl := Sc.grows_len hgr
    have hlz := Rc.fitL_len hfz
    have hoky := verOf_ok9 hy
    have hokz := verOf_ok9 hz
    have hAl : mA.1.s.length = y.slots.length := by rw [hA1]; exact Ca.turnL_length _ _
    have hBm : Ca.upM t mA.1 r.v = (⟨r.v, Ca.turnL z.slots (Ca.turnL y.slots r.s)⟩, 0) := by
      rw [hA1]; unfold Ca.upM; simp only
      rw [decide_eq_true hvle]
      exact castM_on (Ca.verR_mk (r := ⟨v, Ca.turnL y.slots r.s⟩) hy (Ca.turnL_fit (Ca.verOf_df hy) _)) hz
    have hyn := hoky.num
    have hzn := hokz.num
    have HZ := Lib.hid hz; have HFZ := Lib.hid hfz; have HY := Lib.hid hy; have HA1 := Lib.hid hA1; have HOKY := Lib.hid hoky; have HGR := Lib.hid hgr; have HBM := Lib.hid hBm; have HLZ := Lib.hid hlz; have HAL1 := Lib.hid hAl; have HGL := Lib.hid hgl; have HYN := Lib.hid hyn; have HZN := Lib.hid hzn
    clear hD hz hfz ho hy he hvle hA1 hgr hgl hlz hoky hokz hAl hBm hyn hzn
    have e1 : (mA.2 != 0) = false := by rw [bne_eq_false_iff_eq]; exact h0
    have e2 : (mA.2 == 0) = true := by rw [beq_iff_eq]; exact h0
    have H0 := Lib.hid h0; clear h0
    obtain ⟨t0, t1, t2⟩ := caThree x2T.1
    have HC := Lib.hid (atSome t v y v1 _ hG hv x2T.2 HY.out)
    go_wp2_with (first
      | (go_at_call 13; (with_reducible refine HC.out.mono ?_); rintro e w9 ⟨⟨saX, scX, caX, ccX, rfl, hV⟩, hB9⟩))
    have hBA := hB9.trans ((caNew w9 (.cells #[.slice saX y.slots.length scX, .slice caX y.cols.length ccX] 37)).mono hB9.size)
    have yX := hasV_new hV
    clear t0 t1 t2
    have x4W := x1W.trans (hBA.mono x1W.size)
    have x5T := hasT_below x2T hBA
    have x6R := hasRec_below x3R hBA
    have x7A := hasRec_below yA hBA
    clear x1W x2T x3R yA
    obtain ⟨v2, hve⟩ : ∃ U, w9.alloc (.cells #[.slice saX y.slots.length scX, .slice caX y.cols.length ccX] 37) = U := ⟨_, rfl⟩
    obtain ⟨kX, hbe⟩ : ∃ b, w9.heap.size = b := ⟨_, rfl⟩
    rw [hve] at x4W x5T x6R x7A yX ⊢
    rw [hbe] at yX ⊢
    clear hve hbe hBA hB9 HC
    go_loopw [11] (fun i wr => ∃ k : Nat, k ≤ mA.1.s.length ∧ i = .int .i64 (k : Int) ∧ Below v2.heap.size v2 wr ∧ Hid (∀ (j : Nat) (s : SlotM) (u : PV), j < k → y.slots[j]? = some s → r.s[j]? = some u → Sc.fits s.ty u = true)) (fun i _ => mA.1.s.length - (intOf i).toNat)
    case atStart => exact ⟨0, Nat.zero_le _, rfl, Below.refl _ _, Lib.hid (fun j s u hj => by omega)⟩
    case round =>
      obtain ⟨k, hk2, rfl, hbj, HALL⟩ := hrel
      obtain ⟨W0, hwj⟩ : ∃ x, x = wr := ⟨_, rfl⟩
      subst hwj
      have x8W := x4W.trans (hbj.mono x4W.size)
      have x9T := hasT_below x5T hbj
      have x10R := hasRec_below x6R hbj
      have x11A := hasRec_below x7A hbj
      have x12X := hasV_below yX hbj
      clear x4W x5T x6R x7A yX
      obtain ⟨qa, qc, qh, qp⟩ := id x10R
      obtain ⟨q0, q1, _, _⟩ := two_all qh
      obtain ⟨aa, ac, ah, ap⟩ := id x11A
      obtain ⟨a0, a1, _, _⟩ := two_all ah
      obtain ⟨xa, xc, xa', xc', xh, xv⟩ := id x12X
      obtain ⟨x0, x1, _, _⟩ := two_all xh
      rcases Nat.lt_or_ge k mA.1.s.length with hlt | hge
      · have hd2 : decide ((k : Int) < (mA.1.s.length : Int)) = true := by simp; omega
        have hlz := HLZ.out
        have hal := HAL1.out
        have hgl := HGL.out
        have hyn := HYN.out
        have hkN : (k : Int) < (y.slots.length : Int) := by omega
        have hkn : (k : Int) < (r.s.length : Int) := by omega
        obtain ⟨s, hs⟩ : ∃ s, y.slots[k]? = some s := ⟨y.slots[k]'(by omega), List.getElem?_eq_getElem _⟩
        obtain ⟨u, hu⟩ : ∃ u, r.s[k]? = some u := ⟨r.s[k]'(by omega), List.getElem?_eq_getElem _⟩
        obtain ⟨sb, so, rfl, hss⟩ := slotRow_at9 xv.1 hs
        obtain ⟨kk, nn, tx, la, ll, lc, ⟨g0, g1, g2, g3, g4, g5, g6⟩, hsI, hsn, hdf⟩ := slotAt_form hss
        obtain ⟨vb, vo, vk, vn, vt, va, vll, vc, rfl, ⟨p0, p1, p2, p3⟩, hvI⟩ := pRow_val qp hu
        have hty : 0 ≤ s.ty := by have := (HOKY.out.ok s (List.mem_of_getElem? hs)).1; omega
        obtain ⟨C, hC⟩ : ∃ C, Sc.fits s.ty u = C := ⟨_, rfl⟩
        have hFt : ∀ W, Below W0.heap.size W0 W → Calls Tryz.prog 29 #[.agg #[.string s.nm, .int .i64 s.ty, .bool s.rq, .int .i64 kk, .int .i64 nn, .string tx, .slice la ll lc], .agg #[.int .i64 vk, .int .i64 vn, .string vt, .slice va vll vc]] W fun e w' => e = .returned (.bool C) ∧ Below W.heap.size W w' := fun W hb => by
          have h := refFits_any s u (hOk.2.1 u (List.mem_of_getElem? hu)) hty W _ _ (isSlot_below hb ⟨_, _, _, _, _, _, _, rfl, hsn, hsI, rfl, rfl, rfl, hdf⟩) (is_below hb _ _ hvI)
          rw [hC] at h; exact h
        have hall : C = true → ∀ (j : Nat) (s : SlotM) (u : PV), j < k + 1 → y.slots[j]? = some s → r.s[j]? = some u → Sc.fits s.ty u = true := fun h1 j s' u' hj h2 h3 => by
          rcases Nat.lt_or_ge j k with h | h
          · exact HALL.out j s' u' h h2 h3
          · obtain rfl : j = k := by omega
            rw [hs] at h2; rw [hu] at h3
            cases h2; cases h3
            rw [hC]; exact h1
        have HFT := Lib.hid hFt; have HGOOD := Lib.hid hall; have HWW := Lib.hid x8W
        clear hFt hall hC hs hu hvI hdf hss hsI hsn hty
        go_wp2_with fail
        refine wp_region_quiet (C := fun W => Below W0.heap.size W0 W) (by kernel_rfl) (by kernel_rfl) (below_drew W0) ?_
        iterate 12 (first
          | ((with_reducible refine BigFrame.wpQuiet_skip ?_ ?_); (focus rfl); simp only [Act.put, List.setIfInBounds_toArray, List.set_cons_zero, List.set_cons_succ])
          | ((with_reducible refine BigFrame.wpQuiet_want ?_ (fun K hK => ?_))
             focus rfl
             apply quiet_run9
             · intro W hC
               unfold Oper.quietAt
               have HC := Lib.hid hC
               have q0q0 := cell_below hC q0
               have q1q1 := cell_below hC q1
               have x0x0 := cell_below hC x0
               have x1x1 := cell_below hC x1
               have g0g0 := cell_below hC g0
               have g1g1 := cell_below hC g1
               have g2g2 := cell_below hC g2
               have g3g3 := cell_below hC g3
               have g4g4 := cell_below hC g4
               have g5g5 := cell_below hC g5
               have g6g6 := cell_below hC g6
               have p0p0 := cell_below hC p0
               have p1p1 := cell_below hC p1
               have p2p2 := cell_below hC p2
               have p3p3 := cell_below hC p3
               clear hC
               go_simp
               first
                 | done
                 | with_reducible rfl
                 | ((with_reducible refine (HFT.out _ HC.out).mono ?_); exact fun e w' ⟨he, hb⟩ => ⟨he, HC.out.trans (hb.mono HC.out.size)⟩)
             (with_reducible refine hK _ ?_); clear hK K; simp only [Act.put, List.setIfInBounds_toArray, List.set_cons_zero, List.set_cons_succ]))
        refine wpQuiet_nil ?_
        intro W9 hB9
        (try simp only at hB9)
        cases C with
        | true =>
          have hG0 := Lib.hid (HGOOD.out rfl)
          clear q0 q1 a0 a1 x0 x1 g0 g1 g2 g3 g4 g5 g6 p0 p1 p2 p3
          go_wp2_with fail
          go_roundw
          case rel => exact ⟨k + 1, by omega, by go_num, hbj.trans (hB9.mono hbj.size), hG0⟩
          case measure => simp [intOf]; omega
        | false =>
          clear q0 q1 a0 a1 x0 x1 g0 g1 g2 g3 g4 g5 g6 p0 p1 p2 p3
          go_wp2_with fail
          go_ret
          exact ⟨rfl, HWW.out.trans (hB9.mono HWW.out.size)⟩
      · obtain rfl : k = mA.1.s.length := by omega
        have hd2 : decide ((mA.1.s.length : Int) < (mA.1.s.length : Int)) = false := by simp
        obtain ⟨v3, hwj⟩ : ∃ x, x = W0 := ⟨_, rfl⟩
        subst hwj
        obtain ⟨t0, t1, t2⟩ := caThree x9T.1
        clear xh xv
        have hc := caUp_any t mA.1 r.v v3 _ aa ac hG hAok.1 hOk.1 x9T.2 ap hAok.2.1 hAok.2.2
        rw [HBM.out] at hc
        obtain ⟨mB, hmB⟩ : ∃ m : RecM, m = ⟨r.v, Ca.turnL z.slots (Ca.turnL y.slots r.s)⟩ := ⟨_, rfl⟩
        rw [← hmB] at hc
        have HC := Lib.hid hc; clear hc
        have HMB := Lib.hid hmB; clear hmB
        go_upto_region 15 with (first
          | (go_at_call 18; (with_reducible refine HC.out.mono ?_); rintro e w9 ⟨⟨na, nc, rfl, hq⟩, hB9⟩))
        have hBA := hB9.trans ((caNew w9 (.cells #[.int .i64 mB.v, .slice na mB.s.length nc] 31)).mono hB9.size)
        have yB := hasRec_new (r := mB) hq
        clear t0 t1 t2 q0 q1 a0 a1 x0 x1 qh qp ah ap
        have HALL2 := HALL
        have x13W := x8W.trans (hBA.mono x8W.size)
        have x14T := hasT_below x9T hBA
        have x15R := hasRec_below x10R hBA
        have x16A := hasRec_below x11A hBA
        have x17X := hasV_below x12X hBA
        clear x8W x9T x10R x11A x12X
        obtain ⟨v4, hve⟩ : ∃ U, w9.alloc (.cells #[.int .i64 mB.v, .slice na mB.s.length nc] 31) = U := ⟨_, rfl⟩
        obtain ⟨kB, hbe⟩ : ∃ b, w9.heap.size = b := ⟨_, rfl⟩
        rw [hve] at x13W x14T x15R x16A x17X yB ⊢
        rw [hbe] at yB ⊢
        clear hve hbe hBA hq hB9 HC hbj
        have hBl : mB.s.length = r.s.length := by rw [HMB.out]; show (Ca.turnL _ _).length = _; rw [Ca.turnL_length]; exact HLZ.out
        have e3 : ((mB.s.length : Int) != (r.s.length : Int)) = false := by rw [bne_eq_false_iff_eq]; omega
        have e4 : ((r.s.length : Int) != (r.s.length : Int)) = false := by simp
        have hBat : ∀ (j : Nat) (u b : PV), j < mA.1.s.length → r.s[j]? = some u → mB.s[j]? = some b → b = u := fun j u b hj hu hb => by
          rw [HMB.out] at hb
          simp only at hb
          have hlt := (List.getElem?_eq_some_iff.1 hu).1
          have hlz := HLZ.out
          have hal := HAL1.out
          obtain ⟨sz, hsz⟩ : ∃ s, z.slots[j]? = some s := ⟨_, List.getElem?_eq_getElem (by omega)⟩
          obtain ⟨sy, hsy⟩ : ∃ s, y.slots[j]? = some s := ⟨_, List.getElem?_eq_getElem (by omega)⟩
          have h1 := HALL2.out j sy u hj hsy hu
          rw [Ca.turnL_at, hsz, Ca.turnL_at, hsy, hu] at hb
          simp only [Option.map_some, Option.some.injEq] at hb
          rw [Ca.oneV_fit h1, Ca.oneV_fit (((Rc.fitL_iff _ _).1 HFZ.out).2 j sz u hsz hu)] at hb
          exact hb.symm
        have hBdf : ∀ (j : Nat) (s : SlotM) (b : PV), mA.1.s.length ≤ j → z.slots[j]? = some s → mB.s[j]? = some b → b = s.df := fun j s b hj hs hb => by
          rw [HMB.out] at hb
          simp only at hb
          have hal := HAL1.out
          rw [Ca.turnL_at, hs, List.getElem?_eq_none (by rw [Ca.turnL_length]; omega)] at hb
          simp only [Option.map_some, Option.some.injEq] at hb
          exact hb.symm
        have HBL := Lib.hid hBl; have HBAT := Lib.hid hBat; have HBDF := Lib.hid hBdf
        clear hBl hBat hBdf HALL HALL2
        obtain ⟨t0, t1, t2⟩ := caThree x14T.1
        obtain ⟨qa, qc, qh, qp⟩ := id x15R
        obtain ⟨q0, q1, _, _⟩ := two_all qh
        obtain ⟨ba, bc, bh, bp⟩ := id yB
        obtain ⟨b0, b1, _, _⟩ := two_all bh
        have HC := Lib.hid (atSome t r.v z v4 _ hG hOk.1 x14T.2 HZ.out)
        go_wp2_with (first
          | (go_at_call 13; (with_reducible refine HC.out.mono ?_); rintro e w9 ⟨⟨saZ, scZ, caZ, ccZ, rfl, hV⟩, hB9⟩))
        have hBA := hB9.trans ((caNew w9 (.cells #[.slice saZ z.slots.length scZ, .slice caZ z.cols.length ccZ] 37)).mono hB9.size)
        have yZ := hasV_new hV
        clear t0 t1 t2 q0 q1 b0 b1 qh qp bh bp
        have x18W := x13W.trans (hBA.mono x13W.size)
        have x19T := hasT_below x14T hBA
        have x20R := hasRec_below x15R hBA
        have x21A := hasRec_below x16A hBA
        have x22X := hasV_below x17X hBA
        have x23B := hasRec_below yB hBA
        clear x13W x14T x15R x16A x17X yB
        obtain ⟨v5, hve⟩ : ∃ U, w9.alloc (.cells #[.slice saZ z.slots.length scZ, .slice caZ z.cols.length ccZ] 37) = U := ⟨_, rfl⟩
        obtain ⟨kZ, hbe⟩ : ∃ b, w9.heap.size = b := ⟨_, rfl⟩
        rw [hve] at x18W x19T x20R x21A x22X x23B yZ ⊢
        rw [hbe] at yZ ⊢
        clear hve hbe hBA hB9 HC
        go_loopw [16] (fun i wr => ∃ k : Nat, k ≤ mB.s.length ∧ i = .int .i64 (k : Int) ∧ Below v5.heap.size v5 wr) (fun i _ => mB.s.length - (intOf i).toNat)
        case atStart => exact ⟨0, Nat.zero_le _, rfl, Below.refl _ _⟩
        case round =>
          obtain ⟨k, hk2, rfl, hbj⟩ := hrel
          obtain ⟨wj, hwj⟩ : ∃ x, x = wr := ⟨_, rfl⟩
          subst hwj
          have x24W := x18W.trans (hbj.mono x18W.size)
          have x25T := hasT_below x19T hbj
          have x26R := hasRec_below x20R hbj
          have x27A := hasRec_below x21A hbj
          have x28X := hasV_below x22X hbj
          have x29B := hasRec_below x23B hbj
          have x30Z := hasV_below yZ hbj
          clear x18W x19T x20R x21A x22X x23B yZ
          obtain ⟨qa, qc, qh, qp⟩ := id x26R
          obtain ⟨q0, q1, _, _⟩ := two_all qh
          obtain ⟨aa, ac, ah, ap⟩ := id x27A
          obtain ⟨a0, a1, _, _⟩ := two_all ah
          obtain ⟨ba, bc, bh, bp⟩ := id x29B
          obtain ⟨b0, b1, _, _⟩ := two_all bh
          obtain ⟨xa, xc, xa', xc', xh, xv⟩ := id x30Z
          obtain ⟨x0, x1, _, _⟩ := two_all xh
          rcases Nat.lt_or_ge k mB.s.length with hlt | hge
          · have hd2 : decide ((k : Int) < (mB.s.length : Int)) = true := by simp; omega
            have hlz := HLZ.out
            have hbl := HBL.out
            have hzn := HZN.out
            have hkb : (k : Int) < (mB.s.length : Int) := by omega
            have hkn : (k : Int) < (r.s.length : Int) := by omega
            have hkz : (k : Int) < (z.slots.length : Int) := by omega
            obtain ⟨u, hu⟩ : ∃ u, r.s[k]? = some u := ⟨r.s[k]'(by omega), List.getElem?_eq_getElem _⟩
            obtain ⟨m, hm⟩ : ∃ m, mB.s[k]? = some m := ⟨mB.s[k]'(by omega), List.getElem?_eq_getElem _⟩
            obtain ⟨s, hs⟩ : ∃ s, z.slots[k]? = some s := ⟨z.slots[k]'(by omega), List.getElem?_eq_getElem _⟩
            obtain ⟨sb, so, rfl, hss⟩ := slotRow_at9 xv.1 hs
            obtain ⟨kk, nn, tx, la, ll, lc, ⟨g0, g1, g2, g3, g4, g5, g6⟩, hsI, hsn, hdf⟩ := slotAt_form hss
            obtain ⟨vb, vo, vk, vn, vt, va, vll, vc, rfl, ⟨p0, p1, p2, p3⟩, hvI⟩ := pRow_val qp hu
            obtain ⟨mb, mo, mk, mn, mt, ma, mll, mc, rfl, ⟨o0, o1, o2, o3⟩, hmI⟩ := pRow_val bp hm
            have hA0 := Below.heapsize9 wj (.cells #[.int .i64 vk, .int .i64 vn, .string vt, .slice va vll vc] 42)
            have hY0 := heap_self9 wj (.cells #[.int .i64 vk, .int .i64 vn, .string vt, .slice va vll vc] 42)
            have aA := cell_below hA0 a1
            have xA := cell_below hA0 x0
            have gA3 := cell_below hA0 g3
            have gA4 := cell_below hA0 g4
            have gA5 := cell_below hA0 g5
            have gA6 := cell_below hA0 g6
            obtain ⟨⟨y0, y1, y2, y3⟩, fy0, fy1, fy2, fy3⟩ := four_all9 hY0
            have hat := HBAT.out k u m
            have hdd := HBDF.out k s m
            have HWW := Lib.hid x24W; have HMI := Lib.hid hmI; have HVI := Lib.hid hvI; have HDF := Lib.hid hdf
            clear hmI hvI hdf hsI hsn hss
            have o0b := o0; have o1b := o1; have o2b := o2; have o3b := o3; have b1b := b1
            have HO := Lib.hid (And.intro o0b (And.intro o1b (And.intro o2b (And.intro o3b b1b))))
            clear o0b o1b o2b o3b b1b
            by_cases hka : k < mA.1.s.length
            · skip
              have hd3 : decide ((mA.1.s.length : Int) ≤ (k : Int)) = false := by simp; omega
              have hW0b : Below wj.heap.size wj (wj.alloc (.cells #[.int .i64 vk, .int .i64 vn, .string vt, .slice va vll vc] 42)) := hA0
              have hY9 : ((wj.alloc (.cells #[.int .i64 vk, .int .i64 vn, .string vt, .slice va vll vc] 42))).heap[wj.heap.size]? = some (.cells #[.int .i64 vk, .int .i64 vn, .string vt, .slice va vll vc] 42 (0, 0)) := hY0
              have hmu : m = u := hat hka hu hm
              have hSm : ∀ W, Below ((wj.alloc (.cells #[.int .i64 vk, .int .i64 vn, .string vt, .slice va vll vc] 42))).heap.size ((wj.alloc (.cells #[.int .i64 vk, .int .i64 vn, .string vt, .slice va vll vc] 42))) W → Calls Tryz.prog 28 #[.agg #[.int .i64 mk, .int .i64 mn, .string mt, .slice ma mll mc], .agg #[.int .i64 vk, .int .i64 vn, .string vt, .slice va vll vc]] W fun e w' => e = .returned (.bool true) ∧ Below W.heap.size W w' := fun W hb => by
                have hB := hW0b.trans (hb.mono hW0b.size)
                have h := refSame_any m u W _ _ (is_below hB _ _ HMI.out) (is_below hB _ _ HVI.out)
                rw [show (cmpV m u == 0) = true by rw [beq_iff_eq]; exact (cmpV_zero _ _).2 hmu] at h
                exact h
              have HSM := Lib.hid hSm; have HY9 := Lib.hid hY9; have HW0 := Lib.hid hW0b
              clear hSm hY9 hW0b hmu hat hdd hY0 hA0
              go_wp2_with fail
              obtain ⟨W0, hW0⟩ : ∃ U, (wj.alloc (.cells #[.int .i64 vk, .int .i64 vn, .string vt, .slice va vll vc] 42)) = U := ⟨_, rfl⟩
              obtain ⟨yb, hyb⟩ : ∃ b, wj.heap.size = b := ⟨_, rfl⟩
              rw [hW0] at HSM HY9 HW0 ⊢
              rw [hyb] at HY9 ⊢
              clear hW0 hyb aA xA gA3 gA4 gA5 gA6 y0 y1 y2 y3 fy0 fy1 fy2 fy3
              obtain ⟨i0, i1, i2, i3, ib⟩ := HO.out
              have j0 := cell_below HW0.out i0
              have j1 := cell_below HW0.out i1
              have j2 := cell_below HW0.out i2
              have j3 := cell_below HW0.out i3
              have jb := cell_below HW0.out ib
              obtain ⟨⟨n0, n1, n2, n3⟩, _, _, _, _⟩ := four_all9 HY9.out
              clear i0 i1 i2 i3 ib q0 q1 a0 a1 b0 b1 x0 x1 g0 g1 g2 g3 g4 g5 g6 p0 p1 p2 p3 o0 o1 o2 o3
              refine wp_region_quiet (C := fun W => Below W0.heap.size W0 W) (by kernel_rfl) (by kernel_rfl) (below_drew W0) ?_
              iterate 8 (first
                | ((with_reducible refine BigFrame.wpQuiet_skip ?_ ?_); (focus rfl); simp only [Act.put, List.setIfInBounds_toArray, List.set_cons_zero, List.set_cons_succ])
                | ((with_reducible refine BigFrame.wpQuiet_want ?_ (fun K hK => ?_))
                   focus rfl
                   apply quiet_run9
                   · intro W hC
                     unfold Oper.quietAt
                     have HC := Lib.hid hC
                     have j09 := cell_below hC j0
                     have j19 := cell_below hC j1
                     have j29 := cell_below hC j2
                     have j39 := cell_below hC j3
                     have n09 := cell_below hC n0
                     have n19 := cell_below hC n1
                     have n29 := cell_below hC n2
                     have n39 := cell_below hC n3
                     have jb9 := cell_below hC jb
                     clear hC
                     go_simp
                     first
                       | done
                       | with_reducible rfl
                       | ((with_reducible refine (HSM.out _ HC.out).mono ?_); exact fun e w' ⟨he, hb⟩ => ⟨he, HC.out.trans (hb.mono HC.out.size)⟩)
                   (with_reducible refine hK _ ?_); clear hK K; simp only [Act.put, List.setIfInBounds_toArray, List.set_cons_zero, List.set_cons_succ]))
              refine wpQuiet_nil ?_
              intro W9 hB9
              (try simp only at hB9)
              clear j0 j1 j2 j3 jb n0 n1 n2 n3
              go_wp2_with fail
              go_roundw
              case rel => exact ⟨k + 1, by omega, by go_num, (hbj.trans (HW0.out.mono hbj.size)).trans (hB9.mono (hbj.trans (HW0.out.mono hbj.size)).size)⟩
              case measure => simp [intOf]; omega
            · skip
              have hd3 : decide ((mA.1.s.length : Int) ≤ (k : Int)) = true := by simp; omega
              have hW0b : Below wj.heap.size wj (wj.alloc (.cells #[.int .i64 kk, .int .i64 nn, .string tx, .slice la ll lc] 42)) := Below.heapsize9 wj _
              have hY9 : ((wj.alloc (.cells #[.int .i64 kk, .int .i64 nn, .string tx, .slice la ll lc] 42))).heap[wj.heap.size]? = some (.cells #[.int .i64 kk, .int .i64 nn, .string tx, .slice la ll lc] 42 (0, 0)) := heap_self9 wj _
              have hmu : m = s.df := hdd (by omega) hs hm
              have hSm : ∀ W, Below ((wj.alloc (.cells #[.int .i64 kk, .int .i64 nn, .string tx, .slice la ll lc] 42))).heap.size ((wj.alloc (.cells #[.int .i64 kk, .int .i64 nn, .string tx, .slice la ll lc] 42))) W → Calls Tryz.prog 28 #[.agg #[.int .i64 mk, .int .i64 mn, .string mt, .slice ma mll mc], .agg #[.int .i64 kk, .int .i64 nn, .string tx, .slice la ll lc]] W fun e w' => e = .returned (.bool true) ∧ Below W.heap.size W w' := fun W hb => by
                have hB := hW0b.trans (hb.mono hW0b.size)
                have h := refSame_any m s.df W _ _ (is_below hB _ _ HMI.out) (is_below hB _ _ HDF.out)
                rw [show (cmpV m s.df == 0) = true by rw [beq_iff_eq]; exact (cmpV_zero _ _).2 hmu] at h
                exact h
              have HSM := Lib.hid hSm; have HY9 := Lib.hid hY9; have HW0 := Lib.hid hW0b
              clear hSm hY9 hW0b hmu hat hdd hY0 hA0
              go_wp2_with fail
              obtain ⟨W0, hW0⟩ : ∃ U, (wj.alloc (.cells #[.int .i64 kk, .int .i64 nn, .string tx, .slice la ll lc] 42)) = U := ⟨_, rfl⟩
              obtain ⟨yb, hyb⟩ : ∃ b, wj.heap.size = b := ⟨_, rfl⟩
              rw [hW0] at HSM HY9 HW0 ⊢
              rw [hyb] at HY9 ⊢
              clear hW0 hyb aA xA gA3 gA4 gA5 gA6 y0 y1 y2 y3 fy0 fy1 fy2 fy3
              obtain ⟨i0, i1, i2, i3, ib⟩ := HO.out
              have j0 := cell_below HW0.out i0
              have j1 := cell_below HW0.out i1
              have j2 := cell_below HW0.out i2
              have j3 := cell_below HW0.out i3
              have jb := cell_below HW0.out ib
              obtain ⟨⟨n0, n1, n2, n3⟩, _, _, _, _⟩ := four_all9 HY9.out
              clear i0 i1 i2 i3 ib q0 q1 a0 a1 b0 b1 x0 x1 g0 g1 g2 g3 g4 g5 g6 p0 p1 p2 p3 o0 o1 o2 o3
              refine wp_region_quiet (C := fun W => Below W0.heap.size W0 W) (by kernel_rfl) (by kernel_rfl) (below_drew W0) ?_
              iterate 8 (first
                | ((with_reducible refine BigFrame.wpQuiet_skip ?_ ?_); (focus rfl); simp only [Act.put, List.setIfInBounds_toArray, List.set_cons_zero, List.set_cons_succ])
                | ((with_reducible refine BigFrame.wpQuiet_want ?_ (fun K hK => ?_))
                   focus rfl
                   apply quiet_run9
                   · intro W hC
                     unfold Oper.quietAt
                     have HC := Lib.hid hC
                     have j09 := cell_below hC j0
                     have j19 := cell_below hC j1
                     have j29 := cell_below hC j2
                     have j39 := cell_below hC j3
                     have n09 := cell_below hC n0
                     have n19 := cell_below hC n1
                     have n29 := cell_below hC n2
                     have n39 := cell_below hC n3
                     have jb9 := cell_below hC jb
                     clear hC
                     go_simp
                     first
                       | done
                       | with_reducible rfl
                       | ((with_reducible refine (HSM.out _ HC.out).mono ?_); exact fun e w' ⟨he, hb⟩ => ⟨he, HC.out.trans (hb.mono HC.out.size)⟩)
                   (with_reducible refine hK _ ?_); clear hK K; simp only [Act.put, List.setIfInBounds_toArray, List.set_cons_zero, List.set_cons_succ]))
              refine wpQuiet_nil ?_
              intro W9 hB9
              (try simp only at hB9)
              clear j0 j1 j2 j3 jb n0 n1 n2 n3
              go_wp2_with fail
              go_roundw
              case rel => exact ⟨k + 1, by omega, by go_num, (hbj.trans (HW0.out.mono hbj.size)).trans (hB9.mono (hbj.trans (HW0.out.mono hbj.size)).size)⟩
              case measure => simp [intOf]; omega
          · obtain rfl : k = mB.s.length := by omega
            have hd2 : decide ((mB.s.length : Int) < (mB.s.length : Int)) = false := by simp
            have HWW := Lib.hid x24W
            go_wp2_with fail
            go_ret
            exact ⟨rfl, HWW.out⟩
  · skip
    have hnil := Ca.cast_nil (t := t) (r := r) (v := v) (on := decide (v ≤ r.v)) (by rw [show Ca.castM t r v (decide (v ≤ r.v)) = mA from HMA.out]; exact h0)
    rw [show Ca.castM t r v (decide (v ≤ r.v)) = mA from HMA.out] at hnil
    have e1 : (mA.2 != 0) = true := by rw [bne_iff_ne]; exact h0
    have e2 : (mA.2 == 0) = false := by rw [beq_eq_false_iff_ne]; exact h0
    have H0 := Lib.hid h0; clear h0
    obtain ⟨qa, qc, qh, qp⟩ := id yA
    obtain ⟨q0, q1, _, _⟩ := two_all qh
    rw [hnil.1] at q1
    clear hnil qh qp
    have HWW := Lib.hid x1W
    go_wp2
    go_ret
    exact ⟨rfl, HWW.out⟩
end castFitsWalk
end Go.Proofs.YtibjjclfonpibaaGreat

/- Proved: the statement CastFits: a record of a later version whose values fit the slots of an earlier one comes back from it. (Made by gen_caw.py.); for every input, without any condition. (Out of its walk: the frame alone, the arguments are opened, and shut again as they were.) -/
namespace Go.Proofs.YtibjjclfonpibaaGreat.castFitsSaid
open Go.ChangeShapes Go.WideShapes Go.ChangeAt Go.RowKit
open Go.ChangeMaps (open_string shut_string)
set_option linter.unusedVariables false

theorem own : ownKnob Tryz.prog.godebug = none := by kernel_rfl
theorem laidOut : laidOutB Tryz.prog = true := by kernel_rfl

set_option maxRecDepth 100000 in
theorem lifted (os : Os) (started : os.Started) (H : Type) (enc : TypeId × Value → H) :
    ReturnsInHanded {} Tryz.checked os 8 .any (Rows.castFitsSpec.pre6 enc Tryz.prog Tryz.f8 Rows.castFitsRow.domain false) (Rows.castFitsSpec.post enc Tryz.prog Tryz.f8 false true false false) := by
  refine returnsInHanded_of_change (C := Tryz.checked) own started (by kernel_rfl) Tryz.func8
    (ChangeSpec.witness6 (enc := enc) (C := Tryz.checked) false ⟨#[], #[.agg #[.string ByteArray.empty, .slice none 0 0, .slice none 0 0], .agg #[.int .i64 0, .slice none 0 0], .int .i64 0], []⟩ 8 (by kernel_rfl) (by kernel_rfl) (by kernel_rfl) (by kernel_rfl)) ?_
  intro W base args ds gs before hval0 hW hcnd _
  have hval : ∀ (j : Nat) t v, Tryz.f8.params[j]? = some t → args[j]? = some v → Value.okWide Tryz.prog W .any base t v := hval0
  have hW' := hW
  obtain ⟨p, q, hA0, hV, rfl, hfz, hnd⟩ := hW
  have hA : DataW.TrodAll enc Tryz.prog W 0 (fun _ => true) true Tryz.f8.params.toList args.toList ds p := hA0
  rw [Tryz.params8] at hA hval
  obtain ⟨v0, vs0, d0, ds0, p0, q0, hargs, rfl, rfl, h0, r0⟩ := trodAll_cons hA
  obtain ⟨v1, vs1, d1, ds1, p1, q1, rfl, rfl, rfl, h1, r1⟩ := trodAll_cons r0
  obtain ⟨v2, vs2, d2, ds2, p2, q2, rfl, rfl, rfl, h2, r2⟩ := trodAll_cons r1
  obtain ⟨rfl, rfl, rfl⟩ := trodAll_nil r2
  obtain rfl : args = #[v0, v1, v2] := by cases args; simp_all
  obtain ⟨rfl, rfl⟩ := trodVars_none hV
  have k0 := h0
  have lt0 : ∀ x ∈ p0, x.block < W.heap.size := by obtain ⟨m, hm⟩ := k0; exact DataW.trod_lt m _ _ _ hm
  obtain ⟨t0, w0⟩ := open_argTempl h0
  have k1 := h1
  have lt1 : ∀ x ∈ p1, x.block < W.heap.size := by obtain ⟨m, hm⟩ := k1; exact DataW.trod_lt m _ _ _ hm
  obtain ⟨t1, a1, c1, rfl, i1, w1⟩ := open_argRec h1
  obtain ⟨a2, rfl, rfl, rfl, w2⟩ := open_int Tryz.underlying3 (hval 2 3 v2 rfl rfl) h2
  clear hA0 hval0
  refine (castFitsWalk.walk t0 _ t1 a1 c1 a2 W w0 i1 w1 w2).mono fun e W' ⟨he, bel⟩ => ?_
  subst he
  exact ⟨_, rfl, _, _, _, [], _, [], hW', trodAll_mk1 (shut_bool Tryz.underlying4 _), (trodAll_cons_mk (Below.trod laidOut (by kernel_rfl) (of_decide_eq_true (by kernel_rfl)) k0 bel lt0) (trodAll_cons_mk (Below.trod laidOut (by kernel_rfl) (of_decide_eq_true (by kernel_rfl)) k1 bel lt1) (trodAll_cons_mk (shut_int Tryz.underlying3 w2) trodAll_mk0))), rfl, bel.frame _, fun h => by cases h⟩

theorem over : Rows.castFitsRow.holds Tryz.pinned (OpenSpec.ofChange Rows.castFitsSpec) :=
  OpenClaim.holds_of_wide 8 Tryz.f8 rfl rfl rfl rfl rfl rfl rfl ⟨rfl, rfl, rfl, rfl, rfl⟩ rfl rfl rfl rfl rfl (by kernel_rfl) Tryz.func8 (by kernel_rfl)
    (of_decide_eq_true (by kernel_rfl)) (by unfold Func.isWrapper; first | (rw [if_pos (by decide +kernel)]; kernel_rfl) | (rw [if_neg (by decide +kernel)]; exact ⟨rfl, rfl⟩))
    (fun os started H enc _ => lifted os started H enc)

theorem proved : Rows.CastFitsSaid := over
end Go.Proofs.YtibjjclfonpibaaGreat.castFitsSaid
