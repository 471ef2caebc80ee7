/- The walk of CastDrops: down is total: it drops exactly the slots that came later, and single steps come to the same. (Made by gen_caw.py.) -/
import Derived.Test.YtibjjclfonpibaaGreatMh51Cast
import Derived.Test.YtibjjclfonpibaaGreatMh42Cast
import Derived.Test.YtibjjclfonpibaaGreatMh53Cast
import Derived.Test.YtibjjclfonpibaaGreatMh1Cast
import Derived.ProofKit
import Derived.OpenShut
import Derived.ShutString
import Derived.ChangeOld
import Derived.Below
set_option linter.unusedVariables false
set_option linter.unusedSimpArgs false
set_option maxRecDepth 100000
namespace Go.Proofs.YtibjjclfonpibaaGreat
open Go.RowKit Go.Shelf
/-- a version in a box -/
def HasV (W : World) (b : Nat) (x : Sc.Ver) : Prop := ∃ sa sc ca cc, W.heap[b]? = some (.cells #[.slice sa x.slots.length sc, .slice ca x.cols.length cc] 37 (0, 0)) ∧ VerAt W x sa sc ca cc
theorem hasV_below {W W' : World} {b : Nat} {x : Sc.Ver} (h : HasV W b x) (hb : Below W.heap.size W W') : HasV W' b x := by
  obtain ⟨sa, sc, ca, cc, h1, h2⟩ := h
  exact ⟨sa, sc, ca, cc, (hb.block _ (Array.getElem?_eq_some_iff.1 h1).1).trans h1, verAt_below9 h2 hb⟩
theorem hasV_new {W : World} {x : Sc.Ver} {sa : Option Addr} {sc : Nat} {ca : Option Addr} {cc : Nat} (h : VerAt W x sa sc ca cc) : HasV (W.alloc (.cells #[.slice sa x.slots.length sc, .slice ca x.cols.length cc] 37)) W.heap.size x :=
  ⟨sa, sc, ca, cc, heap_self9 W _, verAt_below9 h (Below.heapsize9 W _)⟩
/-- the document's At of a version that there is -/
theorem atSome (t : TemplM) (v : Int) (x : Sc.Ver) (w : World) (X : Value) (hg : greatT t = false) (hI : I64 v) (hi : IsTempl w t X) (hx : Rc.verOf t v = some x) : Calls Tryz.prog 13 #[X, .int .i64 v] w fun e w' => (∃ sa sc ca cc, e = .returned (.tuple #[.agg #[.slice sa x.slots.length sc, .slice ca x.cols.length cc], .bool true]) ∧ VerAt w' x sa sc ca cc) ∧ Below w.heap.size w w' :=
  (refAt_any t v w X hg hI hi).mono fun e w' h => by
    unfold AtD at h; rw [hx] at h; exact h
theorem atNone (t : TemplM) (v : Int) (w : World) (X : Value) (hg : greatT t = false) (hI : I64 v) (hi : IsTempl w t X) (hx : Rc.verOf t v = none) : Calls Tryz.prog 13 #[X, .int .i64 v] w fun e w' => e = .returned (.tuple #[.agg #[.slice none 0 0, .slice none 0 0], .bool false]) ∧ Below w.heap.size w w' :=
  (refAt_any t v w X hg hI hi).mono fun e w' h => by
    unfold AtD at h; rw [hx] at h; exact h
theorem verOf_rng9 {t : TemplM} {v : Int} {x : Sc.Ver} (h : Rc.verOf t v = some x) : 1 ≤ v ∧ v ≤ 9 := by
  obtain ⟨L, n, h1, h2, h3⟩ := Ca.verOf_at h
  have := Sc.vers_length h1
  have := (List.getElem?_eq_some_iff.1 h2).1
  omega
theorem castM_on9 {t : TemplM} {r : RecM} {v : Int} {x0 x : Sc.Ver} (h : Rc.verR t r = some x0) (hz : Rc.verOf t v = some x) : Ca.castM t r v true = (⟨v, Ca.turnL x.slots r.s⟩, 0) := by
  unfold Ca.castM; rw [h, hz]
theorem castM_off9 {t : TemplM} {r : RecM} {v : Int} {x0 : Sc.Ver} (h : Rc.verR t r = some x0) : Ca.castM t r v false = (⟨0, []⟩, 7) := by
  unfold Ca.castM; rw [h]
theorem castM_none9 {t : TemplM} {r : RecM} {v : Int} {on : Bool} {x0 : Sc.Ver} (h : Rc.verR t r = some x0) (hz : Rc.verOf t v = none) : Ca.castM t r v on = (⟨0, []⟩, 7) := by
  unfold Ca.castM; rw [h, hz]; cases on <;> rfl
/-- a record on its way down -/
def OnWay (t : TemplM) (r : RecM) (v : Int) (m : RecM) : Prop := ∃ x, Rc.verOf t m.v = some x ∧ m.s = Ca.turnL x.slots r.s ∧ v ≤ m.v ∧ m.v ≤ r.v
theorem onWay_step {t : TemplM} {r m : RecM} {v : Int} {y : Sc.Ver} (h : OnWay t r v m) (hy : Rc.verOf t v = some y) (hv : v < m.v) : (Ca.downM t m (m.v - 1)).2 = 0 ∧ (Ca.downM t m (m.v - 1)).1.v = m.v - 1 ∧ OnWay t r v (Ca.downM t m (m.v - 1)).1 := by
  obtain ⟨x, hx, hs, h1, h2⟩ := h
  obtain ⟨p, hp⟩ := Ca.verOf_between hy hx (show v ≤ m.v - 1 by omega) (by omega)
  have hf : Rc.fitL x.slots m.s = true := by rw [hs]; exact Ca.turnL_fit (Ca.verOf_df hx) _
  have e : Ca.downM t m (m.v - 1) = (⟨m.v - 1, Ca.turnL p.slots m.s⟩, 0) := by
    unfold Ca.downM
    rw [decide_eq_true (by omega)]
    exact castM_on9 (Ca.verR_mk hx hf) hp
  rw [e]
  refine ⟨rfl, rfl, p, hp, ?_, by show v ≤ m.v - 1; omega, by show m.v - 1 ≤ r.v; omega⟩
  show Ca.turnL p.slots m.s = _
  rw [hs]
  exact Ca.turnL_down _ (Ca.verOf_grows (show m.v - 1 ≤ m.v by omega) hp hx) (Ca.verOf_df hp)
theorem hasRec_set {w V : World} {b : Nat} {z0 z1 : Value} {m : RecM} {a : Option Addr} {c : Nat} (h : V.heap[b]? = some (.cells #[z0, z1] 31 (0, 0))) (hB : Below w.heap.size w V) (hb : w.heap.size ≤ b) (hp : PRow V a c m.s) :
    HasRec ((V.setCell ⟨b, 0, none⟩ (.int .i64 m.v)).setCell ⟨b, 1, none⟩ (.slice a m.s.length c)) b m ∧ Below w.heap.size w ((V.setCell ⟨b, 0, none⟩ (.int .i64 m.v)).setCell ⟨b, 1, none⟩ (.slice a m.s.length c)) := by
  have := res_set (.int .i64 m.v) (.slice a m.s.length c) h hB hb
  exact ⟨⟨a, c, this.1, this.2.2 hp⟩, this.2.1⟩
namespace castDropsWalk
set_option maxHeartbeats 16000000 in
theorem walk (t : TemplM) (X : Value) (r : RecM) (ra : Option Addr) (rc : Nat) (v : Int) (w : World) (hi : IsTempl w t X) (hI : I64 r.v) (hr : PRow w ra rc r.s) (hv0 : (Lit.int .i64 v).wf = true) :
    Calls Tryz.prog 7 #[X, .agg #[.int .i64 r.v, .slice ra r.s.length rc], .int .i64 v] w fun e w' => e = .returned (.bool true) ∧ Below w.heap.size w w' := by
  have hv : I64 v := wf_i64 hv0
  have h0 := hi
  obtain ⟨h1, sa, sc, ta, tc, rfl, hsl, hst⟩ := hi
  have hb2 := below2 w (.cells #[.string t.nm, .slice sa t.slots.length sc, .slice ta t.steps.length tc] 25) (.cells #[.int .i64 r.v, .slice ra r.s.length rc] 31)
  have hxT : HasT ((w.alloc (.cells #[.string t.nm, .slice sa t.slots.length sc, .slice ta t.steps.length tc] 25)).alloc (.cells #[.int .i64 r.v, .slice ra r.s.length rc] 31)) w.heap.size t sa sc ta tc := ⟨(Below.heap_alloc _ _ _ (by simp)).trans (heap_self9 w _), isTempl_below hb2 h0⟩
  have hxR : HasRec ((w.alloc (.cells #[.string t.nm, .slice sa t.slots.length sc, .slice ta t.steps.length tc] 25)).alloc (.cells #[.int .i64 r.v, .slice ra r.s.length rc] 31)) (w.heap.size + 1) r := ⟨ra, rc, two_heap w _ _, pRow_below hb2 hr⟩
  have hAl := fun W => caAlive_any W
  have hGr := fun (W : World) (hb : Below w.heap.size w W) => caGreat_any t r W _ ra rc (isTempl_below hb h0) (pRow_below hb hr)
  have HAL := Lib.hid hAl; have HGR := Lib.hid hGr; have HXT := Lib.hid hxT; have HXR := Lib.hid hxR; have HB2 := Lib.hid hb2
  clear hAl hGr hxT hxR hb2 hsl hst h1 h0 hr
  obtain ⟨gt, hgt⟩ : ∃ g, greatT t = g := ⟨_, rfl⟩
  obtain ⟨gl, hgl⟩ : ∃ g, greatL r.s = g := ⟨_, rfl⟩
  have HRV := Lib.hid hI; clear hI
  have hG2 : ∀ (W : World), Below w.heap.size w W → ∀ (b : Nat), HasT W b t sa sc ta tc → ∀ (a : Option Addr) (c : Nat), PRow W a c r.s → Calls Tryz.prog 17 #[.agg #[.string t.nm, .slice sa t.slots.length sc, .slice ta t.steps.length tc], .agg #[.int .i64 r.v, .slice a r.s.length c]] W fun e w' => e = .returned (.bool (gt || gl)) ∧ Below W.heap.size W w' := fun W hb b hT a c hp => by
    have h := caGreat_any t r W _ a c hT.2 hp
    rw [hgt, hgl] at h
    exact h
  clear HGR
  have HG2 := Lib.hid hG2; clear hG2
  cases hgg : (gt || gl) with
  | true =>
    rw [hgg] at HG2
    clear hgg hgt hgl
    go_enter Tryz.func7, Tryz.ntmps7
    go_wp2_with (first
      | (go_at_call 16; (with_reducible refine (HAL.out _).mono ?_); rintro e w1 ⟨rfl, hB1⟩; have hw1 := HB2.out.trans (hB1.mono HB2.out.size); have hT1 := hasT_below HXT.out hB1; have hR1 := hasRec_below HXR.out hB1; obtain ⟨t0, t1, t2⟩ := caThree hT1.1; obtain ⟨qa, qc, qh, qp⟩ := id hR1; obtain ⟨q0, q1, _, _⟩ := two_all qh)
      | (go_at_call 17; (with_reducible refine (HG2.out _ hw1 _ hT1 _ _ qp).mono ?_); rintro e w2 ⟨rfl, hB2⟩; have t0w := cell_below hB2 t0; have t1w := cell_below hB2 t1; have t2w := cell_below hB2 t2; have q0w := cell_below hB2 q0; have q1w := cell_below hB2 q1; have hT2 := hasT_below hT1 hB2; have qp2 := pRow_below hB2 qp) | (go_at_call 27; (with_reducible refine (HVA.out _ _ hT2 _ _ qp2).mono ?_); rintro e w3 ⟨rfl, hB3⟩; have hB2 := hB2.trans (hB3.mono hB2.size)))
    go_ret
    exact ⟨rfl, hw1.trans (hB2.mono hw1.size)⟩
  | false =>
  rw [hgg] at HG2
  have hG : greatT t = false := by rw [hgt]; cases gt <;> simp_all
  have hGL : greatL r.s = false := by rw [hgl]; cases gl <;> simp_all
  clear hgg hgt hgl
  have hOk : RecOk r := by
    obtain ⟨h40, hgr⟩ := greatL_sz hGL
    exact ⟨HRV.out, fun y hy => Nat.le_trans (great_sz y (hgr y hy)) (by omega), by omega⟩
  clear hGL
  obtain ⟨va, hva⟩ : ∃ b, (Rc.verR t r).isSome = b := ⟨_, rfl⟩
  have hVa : ∀ (W : World) (b : Nat), HasT W b t sa sc ta tc → ∀ (a : Option Addr) (c : Nat), PRow W a c r.s → Calls Tryz.prog 27 #[.agg #[.string t.nm, .slice sa t.slots.length sc, .slice ta t.steps.length tc], .agg #[.int .i64 r.v, .slice a r.s.length c]] W fun e w' => e = .returned (.bool va) ∧ Below W.heap.size W w' := fun W b hT a c hp => by
    have h := refValid11_any t r W _ a c hG HRV.out hT.2 hp hOk.2.1 hOk.2.2
    rw [hva] at h
    exact h
  have HVA := Lib.hid hVa; clear hVa
  by_cases hvb : va = false
  · subst hvb
    clear hva hG hOk
    go_enter Tryz.func7, Tryz.ntmps7
    go_wp2_with (first
      | (go_at_call 16; (with_reducible refine (HAL.out _).mono ?_); rintro e w1 ⟨rfl, hB1⟩; have hw1 := HB2.out.trans (hB1.mono HB2.out.size); have hT1 := hasT_below HXT.out hB1; have hR1 := hasRec_below HXR.out hB1; obtain ⟨t0, t1, t2⟩ := caThree hT1.1; obtain ⟨qa, qc, qh, qp⟩ := id hR1; obtain ⟨q0, q1, _, _⟩ := two_all qh)
      | (go_at_call 17; (with_reducible refine (HG2.out _ hw1 _ hT1 _ _ qp).mono ?_); rintro e w2 ⟨rfl, hB2⟩; have t0w := cell_below hB2 t0; have t1w := cell_below hB2 t1; have t2w := cell_below hB2 t2; have q0w := cell_below hB2 q0; have q1w := cell_below hB2 q1; have hT2 := hasT_below hT1 hB2; have qp2 := pRow_below hB2 qp) | (go_at_call 27; (with_reducible refine (HVA.out _ _ hT2 _ _ qp2).mono ?_); rintro e w3 ⟨rfl, hB3⟩; have hB2 := hB2.trans (hB3.mono hB2.size)))
    go_ret
    exact ⟨rfl, hw1.trans (hB2.mono hw1.size)⟩
  obtain rfl : va = true := by cases va <;> simp_all
  clear hvb
  go_enter Tryz.func7, Tryz.ntmps7
  go_upto_region 5 with (first
    | (go_at_call 16; (with_reducible refine (HAL.out _).mono ?_); rintro e w1 ⟨rfl, hB1⟩; have hw1 := HB2.out.trans (hB1.mono HB2.out.size); have hT1 := hasT_below HXT.out hB1; have hR1 := hasRec_below HXR.out hB1; obtain ⟨t0, t1, t2⟩ := caThree hT1.1; obtain ⟨qa, qc, qh, qp⟩ := id hR1; obtain ⟨q0, q1, _, _⟩ := two_all qh)
    | (go_at_call 17; (with_reducible refine (HG2.out _ hw1 _ hT1 _ _ qp).mono ?_); rintro e w2 ⟨rfl, hB2⟩; have t0w := cell_below hB2 t0; have t1w := cell_below hB2 t1; have t2w := cell_below hB2 t2; have q0w := cell_below hB2 q0; have q1w := cell_below hB2 q1; have hT2 := hasT_below hT1 hB2; have qp2 := pRow_below hB2 qp) | (go_at_call 27; (with_reducible refine (HVA.out _ _ hT2 _ _ qp2).mono ?_); rintro e w3 ⟨rfl, hB3⟩; have hB2 := hB2.trans (hB3.mono hB2.size)))
  have yW := hw1.trans (hB2.mono hw1.size)
  have yT := hasT_below hT1 hB2
  have yR := hasRec_below hR1 hB2
  clear t0 t1 t2 qh qp q0 q1 hT1 hR1 hw1 hB1 hB2 HB2 HXT HXR HAL HG2
  obtain ⟨v0, hv0⟩ : ∃ x, x = w3 := ⟨_, rfl⟩
  subst hv0
  obtain ⟨kR, hkR⟩ : ∃ b, w.heap.size + 1 = b := ⟨_, rfl⟩
  rw [hkR] at yR ⊢
  clear hkR t0w t1w t2w q0w q1w hT2 qp2 HVA
  obtain ⟨z, hvr⟩ := Option.isSome_iff_exists.1 hva
  obtain ⟨hz, hfz⟩ := Ca.verR_of hvr
  have HVR := Lib.hid hvr; have HZ := Lib.hid hz; have HFZ := Lib.hid hfz
  clear hva hvr hz hfz
  cases hy : Rc.verOf t v with
  | none =>
    obtain ⟨t0, t1, t2⟩ := caThree yT.1
    have h7 : Ca.downM t r v = (⟨0, []⟩, 7) := castM_none9 HVR.out hy
    have HC := Lib.hid (atNone t v v0 _ hG hv yT.2 hy)
    go_upto_region 6 with (first
      | (go_at_call 13; (with_reducible refine HC.out.mono ?_); rintro e w9 ⟨rfl, hB9⟩))
    have hBA := hB9.trans ((caNew w9 (.cells #[.slice none 0 0, .slice none 0 0] 37)).mono hB9.size)
    clear t0 t1 t2
    have x1W := yW.trans (hBA.mono yW.size)
    have x2T := hasT_below yT hBA
    have x3R := hasRec_below yR hBA
    clear yW yT yR
    obtain ⟨v1, hve⟩ : ∃ U, w9.alloc (.cells #[.slice none 0 0, .slice none 0 0] 37) = U := ⟨_, rfl⟩
    rw [hve] at x1W x2T x3R ⊢
    clear hve hBA hB9 HC
    obtain ⟨t0, t1, t2⟩ := caThree x2T.1
    obtain ⟨qa, qc, qh, qp⟩ := id x3R
    obtain ⟨q0, q1, _, _⟩ := two_all qh
    have hc := caDown_any t r v v1 _ qa qc hG hOk.1 hv x2T.2 qp hOk.2.1 hOk.2.2
    obtain ⟨mA, hmA⟩ : ∃ m, Ca.downM t r v = m := ⟨_, rfl⟩
    rw [hmA] at hc
    have HC := Lib.hid hc; clear hc
    have HMA := Lib.hid hmA; clear hmA
    go_upto_region 7 with (first
      | (go_at_call 20; (with_reducible refine HC.out.mono ?_); rintro e w9 ⟨⟨na, nc, rfl, hq⟩, hB9⟩))
    have hBA := hB9.trans ((caNew w9 (.cells #[.int .i64 mA.1.v, .slice na mA.1.s.length nc] 31)).mono hB9.size)
    have yA := hasRec_new (r := mA.1) hq
    clear t0 t1 t2 q0 q1 qh qp
    have x4W := x1W.trans (hBA.mono x1W.size)
    have x5T := hasT_below x2T hBA
    have x6R := hasRec_below x3R hBA
    clear x1W x2T x3R
    obtain ⟨v2, hve⟩ : ∃ U, w9.alloc (.cells #[.int .i64 mA.1.v, .slice na mA.1.s.length nc] 31) = U := ⟨_, rfl⟩
    obtain ⟨kA, hbe⟩ : ∃ b, w9.heap.size = b := ⟨_, rfl⟩
    rw [hve] at x4W x5T x6R yA ⊢
    rw [hbe] at yA ⊢
    clear hve hbe hBA hq hB9 HC
    have e7 : (mA.2 == 7) = true := by rw [← HMA.out, h7]; rfl
    clear h7 hy
    have HWW := Lib.hid x4W
    go_wp2
    go_ret
    exact ⟨rfl, HWW.out⟩
  | some y =>
    have HY := Lib.hid hy; clear hy
    obtain ⟨t0, t1, t2⟩ := caThree yT.1
    have HC := Lib.hid (atSome t v y v0 _ hG hv yT.2 HY.out)
    go_upto_region 6 with (first
      | (go_at_call 13; (with_reducible refine HC.out.mono ?_); rintro e w9 ⟨⟨saX, scX, caX, ccX, rfl, hV⟩, hB9⟩))
    have hBA := hB9.trans ((caNew w9 (.cells #[.slice saX y.slots.length scX, .slice caX y.cols.length ccX] 37)).mono hB9.size)
    have yX := hasV_new hV
    clear t0 t1 t2
    have x1W := yW.trans (hBA.mono yW.size)
    have x2T := hasT_below yT hBA
    have x3R := hasRec_below yR hBA
    clear yW yT yR
    obtain ⟨v1, hve⟩ : ∃ U, w9.alloc (.cells #[.slice saX y.slots.length scX, .slice caX y.cols.length ccX] 37) = U := ⟨_, rfl⟩
    obtain ⟨kX, hbe⟩ : ∃ b, w9.heap.size = b := ⟨_, rfl⟩
    rw [hve] at x1W x2T x3R yX ⊢
    rw [hbe] at yX ⊢
    clear hve hbe hBA hB9 HC
    obtain ⟨t0, t1, t2⟩ := caThree x2T.1
    obtain ⟨qa, qc, qh, qp⟩ := id x3R
    obtain ⟨q0, q1, _, _⟩ := two_all qh
    have hc := caDown_any t r v v1 _ qa qc hG hOk.1 hv x2T.2 qp hOk.2.1 hOk.2.2
    obtain ⟨mA, hmA⟩ : ∃ m, Ca.downM t r v = m := ⟨_, rfl⟩
    rw [hmA] at hc
    have HC := Lib.hid hc; clear hc
    have HMA := Lib.hid hmA; clear hmA
    go_upto_region 7 with (first
      | (go_at_call 20; (with_reducible refine HC.out.mono ?_); rintro e w9 ⟨⟨na, nc, rfl, hq⟩, hB9⟩))
    have hBA := hB9.trans ((caNew w9 (.cells #[.int .i64 mA.1.v, .slice na mA.1.s.length nc] 31)).mono hB9.size)
    have yA := hasRec_new (r := mA.1) hq
    clear t0 t1 t2 q0 q1 qh qp
    have x4W := x1W.trans (hBA.mono x1W.size)
    have x5T := hasT_below x2T hBA
    have x6R := hasRec_below x3R hBA
    have x7X := hasV_below yX hBA
    clear x1W x2T x3R yX
    obtain ⟨v2, hve⟩ : ∃ U, w9.alloc (.cells #[.int .i64 mA.1.v, .slice na mA.1.s.length nc] 31) = U := ⟨_, rfl⟩
    obtain ⟨kA, hbe⟩ : ∃ b, w9.heap.size = b := ⟨_, rfl⟩
    rw [hve] at x4W x5T x6R x7X yA ⊢
    rw [hbe] at yA ⊢
    clear hve hbe hBA hq hB9 HC
    by_cases hlt : r.v < v
    · have d7 : decide (r.v < v) = true := by simpa using hlt
      have h7 : Ca.downM t r v = (⟨0, []⟩, 7) := by unfold Ca.downM; rw [decide_eq_false (by omega)]; exact castM_off9 HVR.out
      have e7 : (mA.2 == 7) = true := by rw [← HMA.out, h7]; rfl
      clear h7 hlt
      obtain ⟨qa, qc, qh, qp⟩ := id x6R
      obtain ⟨q0, q1, _, _⟩ := two_all qh
      clear qh qp
      have HWW := Lib.hid x4W
      go_wp2
      go_ret
      exact ⟨rfl, HWW.out⟩
    have d7 : decide (r.v < v) = false := by simpa using hlt
    have hmA : mA = (⟨v, Ca.turnL y.slots r.s⟩, 0) := by
      rw [← HMA.out]; unfold Ca.downM; rw [decide_eq_true (by omega)]; exact castM_on9 HVR.out HY.out
    have hA1 : mA.1 = ⟨v, Ca.turnL y.slots r.s⟩ := by rw [hmA]
    have e1 : (mA.2 != 0) = false := by rw [hmA]; rfl
    have hAv : mA.1.v = v := by rw [hA1]
    have hAl : mA.1.s.length = y.slots.length := by rw [hA1]; exact Ca.turnL_length _ _
    have eV : (mA.1.v != v) = false := by rw [bne_eq_false_iff_eq]; exact hAv
    have eV2 : (v != v) = false := by simp
    have eL : ((mA.1.s.length : Int) != (y.slots.length : Int)) = false := by rw [bne_eq_false_iff_eq]; omega
    have hAok : RecOk mA.1 := by rw [← HMA.out]; exact castM_ok hv
    have hvd : (Rc.verR t mA.1).isSome = true := by
      rw [hA1, Ca.verR_mk (r := ⟨v, Ca.turnL y.slots r.s⟩) HY.out (Ca.turnL_fit (Ca.verOf_df HY.out) _)]; rfl
    have hgl := Sc.grows_len (Ca.verOf_grows (show v ≤ r.v by omega) HY.out HZ.out)
    have hlz := Rc.fitL_len HFZ.out
    have hoky := verOf_ok9 HY.out
    have hyn := hoky.num
    have HA1 := Lib.hid hA1; have HAV := Lib.hid hAv; have HAL1 := Lib.hid hAl; have HGL := Lib.hid hgl; have HLZ := Lib.hid hlz; have HOKY := Lib.hid hoky; have HYN := Lib.hid hyn; have HLT := Lib.hid hlt
    clear hmA hA1 hAv hAl hgl hlz hoky hyn hlt
    obtain ⟨t0, t1, t2⟩ := caThree x5T.1
    obtain ⟨qa, qc, qh, qp⟩ := id x6R
    obtain ⟨q0, q1, _, _⟩ := two_all qh
    obtain ⟨aa, ac, ah, ap⟩ := id yA
    obtain ⟨a0, a1, _, _⟩ := two_all ah
    obtain ⟨xa, xc, xa', xc', xh, xv⟩ := id x7X
    obtain ⟨x0, x1, _, _⟩ := two_all xh
    have HVL := Lib.hid (fun (W : World) (hb : Below v2.heap.size v2 W) => by have h := refValid11_any t mA.1 W _ aa ac hG hAok.1 (isTempl_below hb x5T.2) (pRow_below hb ap) hAok.2.1 hAok.2.2; rw [hvd] at h; exact h)
    clear hvd
    go_wp2_with (first
      | (go_at_call 27; (with_reducible refine (HVL.out _ (Below.refl _ _)).mono ?_); rintro e u0 ⟨rfl, hU0⟩; have hC0 := hU0; have t0_0 := cell_below hC0 t0; have t1_0 := cell_below hC0 t1; have t2_0 := cell_below hC0 t2; have q0_0 := cell_below hC0 q0; have q1_0 := cell_below hC0 q1; have a0_0 := cell_below hC0 a0; have a1_0 := cell_below hC0 a1; have x0_0 := cell_below hC0 x0; have x1_0 := cell_below hC0 x1))
    have hBA := hC0
    clear t0 t1 t2 q0 q1 a0 a1 x0 x1 t0_0 t1_0 t2_0 q0_0 q1_0 a0_0 a1_0 x0_0 x1_0 qh qp ah ap xh xv HVL
    have x8W := x4W.trans (hBA.mono x4W.size)
    have x9T := hasT_below x5T hBA
    have x10R := hasRec_below x6R hBA
    have x11X := hasV_below x7X hBA
    have x12A := hasRec_below yA hBA
    clear x4W x5T x6R x7X yA
    obtain ⟨v3, hve⟩ : ∃ x, x = u0 := ⟨_, rfl⟩
    subst hve
    clear hBA
    go_loopw [11] (fun i wr => ∃ k : Nat, k ≤ mA.1.s.length ∧ i = .int .i64 (k : Int) ∧ Below v3.heap.size v3 wr) (fun i _ => mA.1.s.length - (intOf i).toNat)
    case atStart => exact ⟨0, Nat.zero_le _, rfl, Below.refl _ _⟩
    case round =>
      obtain ⟨k, hk2, rfl, hbj⟩ := hrel
      obtain ⟨W0, hwj⟩ : ∃ x, x = wr := ⟨_, rfl⟩
      subst hwj
      have x13W := x8W.trans (hbj.mono x8W.size)
      have x14T := hasT_below x9T hbj
      have x15R := hasRec_below x10R hbj
      have x16X := hasV_below x11X hbj
      have x17A := hasRec_below x12A hbj
      clear x8W x9T x10R x11X x12A
      obtain ⟨qa, qc, qh, qp⟩ := id x15R
      obtain ⟨q0, q1, _, _⟩ := two_all qh
      obtain ⟨aa, ac, ah, ap⟩ := id x17A
      obtain ⟨a0, a1, _, _⟩ := two_all ah
      obtain ⟨xa, xc, xa', xc', xh, xv⟩ := id x16X
      obtain ⟨x0, x1, _, _⟩ := two_all xh
      rcases Nat.lt_or_ge k mA.1.s.length with hlt | hge
      · have hd2 : decide ((k : Int) < (mA.1.s.length : Int)) = true := by simp; omega
        have hlz := HLZ.out
        have hal := HAL1.out
        have hgl := HGL.out
        have hyn := HYN.out
        have hka : (k : Int) < (mA.1.s.length : Int) := by omega
        have hkN : (k : Int) < (y.slots.length : Int) := by omega
        have hkn : (k : Int) < (r.s.length : Int) := by omega
        obtain ⟨s, hs⟩ : ∃ s, y.slots[k]? = some s := ⟨y.slots[k]'(by omega), List.getElem?_eq_getElem _⟩
        obtain ⟨u, hu⟩ : ∃ u, r.s[k]? = some u := ⟨r.s[k]'(by omega), List.getElem?_eq_getElem _⟩
        obtain ⟨m, hm⟩ : ∃ m, mA.1.s[k]? = some m := ⟨mA.1.s[k]'(by omega), List.getElem?_eq_getElem _⟩
        have hmo : m = Ca.oneV s (some u) := by
          have h := hm
          rw [HA1.out] at h
          simp only at h
          rw [Ca.turnL_at, hs, hu] at h
          simp only [Option.map_some, Option.some.injEq] at h
          exact h.symm
        obtain ⟨sb, so, rfl, hss⟩ := slotRow_at9 xv.1 hs
        obtain ⟨kk, nn, tx, la, ll, lc, ⟨g0, g1, g2, g3, g4, g5, g6⟩, hsI, hsn, hdf⟩ := slotAt_form hss
        obtain ⟨vb, vo, vk, vn, vt, va, vll, vc, rfl, ⟨p0, p1, p2, p3⟩, hvI⟩ := pRow_val qp hu
        obtain ⟨mb, mo, mk, mn, mt, ma, mll, mc, rfl, ⟨o0, o1, o2, o3⟩, hmI⟩ := pRow_val ap hm
        have hty : 0 ≤ s.ty := by have := (HOKY.out.ok s (List.mem_of_getElem? hs)).1; omega
        obtain ⟨C, hC⟩ : ∃ C, Sc.fits s.ty u = C := ⟨_, rfl⟩
        obtain ⟨D, hDD⟩ : ∃ D, (cmpV m u == 0) = D := ⟨_, rfl⟩
        have hCD : D = false → C = false := fun h => by
          cases C with
          | false => rfl
          | true => rw [Ca.oneV_fit hC] at hmo; subst hmo; rw [h] at hDD; rw [beq_eq_false_iff_ne] at hDD; exact absurd ((cmpV_zero _ _).2 rfl) hDD
        have hFt : ∀ W, Below W0.heap.size W0 W → Calls Tryz.prog 29 #[.agg #[.string s.nm, .int .i64 s.ty, .bool s.rq, .int .i64 kk, .int .i64 nn, .string tx, .slice la ll lc], .agg #[.int .i64 vk, .int .i64 vn, .string vt, .slice va vll vc]] W fun e w' => e = .returned (.bool C) ∧ Below W.heap.size W w' := fun W hb => by
          have h := refFits_any s u (hOk.2.1 u (List.mem_of_getElem? hu)) hty W _ _ (isSlot_below hb ⟨_, _, _, _, _, _, _, rfl, hsn, hsI, rfl, rfl, rfl, hdf⟩) (is_below hb _ _ hvI)
          rw [hC] at h; exact h
        have hSm : ∀ W, Below W0.heap.size W0 W → Calls Tryz.prog 28 #[.agg #[.int .i64 mk, .int .i64 mn, .string mt, .slice ma mll mc], .agg #[.int .i64 vk, .int .i64 vn, .string vt, .slice va vll vc]] W fun e w' => e = .returned (.bool D) ∧ Below W.heap.size W w' := fun W hb => by
          have h := refSame_any m u W _ _ (is_below hb _ _ hmI) (is_below hb _ _ hvI)
          rw [hDD] at h; exact h
        have HFT := Lib.hid hFt; have HSM := Lib.hid hSm; have HCD := Lib.hid hCD
        clear hFt hSm hCD hC hDD hmo hs hu hm hvI hmI hdf hss hsI hsn hty hal hgl hlz
        cases D with
        | true =>
          go_wp2_with fail
          refine wp_region_quiet (C := fun W => Below W0.heap.size W0 W) (by kernel_rfl) (by kernel_rfl) (below_drew W0) ?_
          iterate 25 (first
            | ((with_reducible refine BigFrame.wpQuiet_skip ?_ ?_); (focus rfl); simp only [Act.put, List.setIfInBounds_toArray, List.set_cons_zero, List.set_cons_succ])
            | ((with_reducible refine BigFrame.wpQuiet_want ?_ (fun K hK => ?_))
               focus rfl
               apply quiet_run9
               · intro W hC
                 unfold Oper.quietAt
                 have HC := Lib.hid hC
                 have q0q0 := cell_below hC q0
                 have q1q1 := cell_below hC q1
                 have a0a0 := cell_below hC a0
                 have a1a1 := cell_below hC a1
                 have x0x0 := cell_below hC x0
                 have x1x1 := cell_below hC x1
                 have g0g0 := cell_below hC g0
                 have g1g1 := cell_below hC g1
                 have g2g2 := cell_below hC g2
                 have g3g3 := cell_below hC g3
                 have g4g4 := cell_below hC g4
                 have g5g5 := cell_below hC g5
                 have g6g6 := cell_below hC g6
                 have p0p0 := cell_below hC p0
                 have p1p1 := cell_below hC p1
                 have p2p2 := cell_below hC p2
                 have p3p3 := cell_below hC p3
                 have o0o0 := cell_below hC o0
                 have o1o1 := cell_below hC o1
                 have o2o2 := cell_below hC o2
                 have o3o3 := cell_below hC o3
                 clear hC
                 go_simp
                 first
                   | done
                   | with_reducible rfl
                   | ((with_reducible refine (HFT.out _ HC.out).mono ?_); exact fun e w' ⟨he, hb⟩ => ⟨he, HC.out.trans (hb.mono HC.out.size)⟩)
                   | ((with_reducible refine (HSM.out _ HC.out).mono ?_); exact fun e w' ⟨he, hb⟩ => ⟨he, HC.out.trans (hb.mono HC.out.size)⟩)
               (with_reducible refine hK _ ?_); clear hK K; simp only [Act.put, List.setIfInBounds_toArray, List.set_cons_zero, List.set_cons_succ]))
          refine wpQuiet_nil ?_
          intro W9 hB9
          (try simp only at hB9)
          clear q0 q1 a0 a1 x0 x1 g0 g1 g2 g3 g4 g5 g6 p0 p1 p2 p3 o0 o1 o2 o3
          go_wp2_with fail
          go_roundw
          case rel => exact ⟨k + 1, by have hal := HAL1.out; omega, by go_num, hbj.trans (hB9.mono hbj.size)⟩
          case measure => simp [intOf]; have hal := HAL1.out; omega
        | false =>
          obtain rfl : C = false := HCD.out rfl
          go_wp2_with fail
          refine wp_region_quiet (C := fun W => Below W0.heap.size W0 W) (by kernel_rfl) (by kernel_rfl) (below_drew W0) ?_
          iterate 25 (first
            | ((with_reducible refine BigFrame.wpQuiet_skip ?_ ?_); (focus rfl); simp only [Act.put, List.setIfInBounds_toArray, List.set_cons_zero, List.set_cons_succ])
            | ((with_reducible refine BigFrame.wpQuiet_want ?_ (fun K hK => ?_))
               focus rfl
               apply quiet_run9
               · intro W hC
                 unfold Oper.quietAt
                 have HC := Lib.hid hC
                 have q0q0 := cell_below hC q0
                 have q1q1 := cell_below hC q1
                 have a0a0 := cell_below hC a0
                 have a1a1 := cell_below hC a1
                 have x0x0 := cell_below hC x0
                 have x1x1 := cell_below hC x1
                 have g0g0 := cell_below hC g0
                 have g1g1 := cell_below hC g1
                 have g2g2 := cell_below hC g2
                 have g3g3 := cell_below hC g3
                 have g4g4 := cell_below hC g4
                 have g5g5 := cell_below hC g5
                 have g6g6 := cell_below hC g6
                 have p0p0 := cell_below hC p0
                 have p1p1 := cell_below hC p1
                 have p2p2 := cell_below hC p2
                 have p3p3 := cell_below hC p3
                 have o0o0 := cell_below hC o0
                 have o1o1 := cell_below hC o1
                 have o2o2 := cell_below hC o2
                 have o3o3 := cell_below hC o3
                 clear hC
                 go_simp
                 first
                   | done
                   | with_reducible rfl
                   | ((with_reducible refine (HFT.out _ HC.out).mono ?_); exact fun e w' ⟨he, hb⟩ => ⟨he, HC.out.trans (hb.mono HC.out.size)⟩)
                   | ((with_reducible refine (HSM.out _ HC.out).mono ?_); exact fun e w' ⟨he, hb⟩ => ⟨he, HC.out.trans (hb.mono HC.out.size)⟩)
               (with_reducible refine hK _ ?_); clear hK K; simp only [Act.put, List.setIfInBounds_toArray, List.set_cons_zero, List.set_cons_succ]))
          refine wpQuiet_nil ?_
          intro W9 hB9
          (try simp only at hB9)
          clear q0 q1 a0 a1 x0 x1 g0 g1 g2 g3 g4 g5 g6 p0 p1 p2 p3 o0 o1 o2 o3
          go_wp2_with fail
          go_roundw
          case rel => exact ⟨k + 1, by have hal := HAL1.out; omega, by go_num, hbj.trans (hB9.mono hbj.size)⟩
          case measure => simp [intOf]; have hal := HAL1.out; omega
      · obtain rfl : k = mA.1.s.length := by omega
        have hd2 : decide ((mA.1.s.length : Int) < (mA.1.s.length : Int)) = false := by simp
        go_wp2_with fail
        have yB := hasRec_new (r := r) qp
        have hA9 := caNew W0 (.cells #[.int .i64 r.v, .slice qa r.s.length qc] 31)
        obtain ⟨W9, hW9⟩ : ∃ U, W0.alloc (.cells #[.int .i64 r.v, .slice qa r.s.length qc] 31) = U := ⟨_, rfl⟩
        obtain ⟨kb, hkb⟩ : ∃ b, W0.heap.size = b := ⟨_, rfl⟩
        rw [hW9] at yB hA9 ⊢
        have hkb0 : W0.heap.size ≤ kb := by omega
        rw [hkb] at yB ⊢
        clear hW9 hkb q0 q1 a0 a1 x0 x1 qh qp ah ap xh xv
        have hon : OnWay t r v r := ⟨z, HZ.out, (Ca.turnL_same HFZ.out).symm, by have := HLT.out; omega, Int.le_refl _⟩
        go_loopw [14] (fun _ wr => ∃ m : RecM, OnWay t r v m ∧ HasRec wr kb m ∧ Below W0.heap.size W0 wr) (fun _ wr => (intOf ((wr.cell? ⟨kb, 0, none⟩).getD (.int .i64 0)) - v).toNat)
        case atStart => exact ⟨r, hon, yB, hA9⟩
        case round =>
          obtain ⟨m, hom, hrm, hbk⟩ := hrel
          obtain ⟨wj, hwj⟩ : ∃ x, x = wr := ⟨_, rfl⟩
          subst hwj
          clear hon yB hA9
          clear hbj
          have x18W := x13W.trans (hbk.mono x13W.size)
          have x19T := hasT_below x14T hbk
          have x20R := hasRec_below x15R hbk
          have x21X := hasV_below x16X hbk
          have x22A := hasRec_below x17A hbk
          clear x13W x14T x15R x16X x17A
          obtain ⟨v5, hwj⟩ : ∃ x, x = wj := ⟨_, rfl⟩
          subst hwj
          have hmI : I64 m.v ∧ 1 ≤ m.v ∧ m.v ≤ 9 := by
            obtain ⟨x, hx, _⟩ := hom
            have := verOf_rng9 hx
            exact ⟨by unfold I64; omega, this⟩
          have hmok : RecOk m := by
            obtain ⟨x, hx, hs, _⟩ := hom
            have h := castM_ok (t := t) (r := r) (v := m.v) (on := true) hmI.1
            rw [castM_on9 HVR.out hx] at h
            rw [← hs] at h
            exact h
          obtain ⟨t0, t1, t2⟩ := caThree x19T.1
          obtain ⟨ba, bc, bh, bp⟩ := id hrm
          obtain ⟨b0, b1, fb0, fb1⟩ := two_all bh
          by_cases hlv : v < m.v
          · have d3 : decide (v < m.v) = true := by simpa using hlv
            obtain ⟨h2, h3, h4⟩ := onWay_step hom HY.out hlv
            have hc := caLower_any t m v5 _ ba bc hG hmok.1 (by omega) x19T.2 bp hmok.2.1 hmok.2.2
            obtain ⟨mL, hmL⟩ : ∃ x, Ca.downM t m (m.v - 1) = x := ⟨_, rfl⟩
            rw [hmL] at hc h2 h3 h4
            have e5 : (mL.2 != 0) = false := by rw [bne_eq_false_iff_eq]; exact h2
            have hwr : IntKind.i64.wrap (m.v - 1) = m.v - 1 := by rw [IntKind.wrap_i64]; omega
            have e6 : (mL.1.v != m.v - 1) = false := by rw [bne_eq_false_iff_eq]; exact h3
            have HC := Lib.hid hc; have HH3 := Lib.hid h3; have HH4 := Lib.hid h4; have HLV := Lib.hid hlv
            clear hc h2 h3 h4 hmL hlv
            have HWW := Lib.hid x18W
            go_wp2_with (first
              | (go_at_call 26; (with_reducible refine HC.out.mono ?_); rintro e w9 ⟨⟨na, nc, rfl, hq⟩, hB9⟩; have hBA := hB9.trans ((caNew w9 (.cells #[.int .i64 mL.1.v, .slice na mL.1.s.length nc] 31)).mono hB9.size); have yL := hasRec_new (r := mL.1) hq; have bh9 := (hBA.block _ (Array.getElem?_eq_some_iff.1 bh).1).trans bh; obtain ⟨c0, c1, fc0, fc1⟩ := two_all bh9; obtain ⟨la, lc, lh, lp⟩ := id yL; obtain ⟨l0, l1, _, _⟩ := two_all lh))
            have hset := hasRec_set (w := W0) (m := mL.1) bh9 (hbk.trans (hBA.mono hbk.size)) hkb0 lp
            have HSET := Lib.hid hset
            clear hset
            go_roundw
            case rel => exact ⟨mL.1, HH4.out, HSET.out.1, HSET.out.2⟩
            case measure =>
              obtain ⟨_, _, hh, _⟩ := HSET.out.1
              have e0 := (two_all hh).1
              rw [e0, b0]
              simp only [Option.getD_some, intOf]
              have := HH3.out
              have := HLV.out
              omega
          · have d3 : decide (v < m.v) = false := by simpa using hlv
            have hmv : m.v = v := by obtain ⟨_, _, _, h, _⟩ := hom; omega
            have hme : m = mA.1 := by
              obtain ⟨x, hx, hs, _⟩ := hom
              rw [hmv, HY.out] at hx
              cases hx
              rw [HA1.out]
              cases m
              simp only at hmv hs
              rw [hmv, hs]
            have HME := Lib.hid hme; clear hme hmv hlv
            obtain ⟨aa, ac, ah, ap⟩ := id x22A
            obtain ⟨a0, a1, _, _⟩ := two_all ah
            have HSF := Lib.hid (fun (W : World) (hb : Below v5.heap.size v5 W) => refSame11_any mA.1 m W aa ba ac bc (pRow_below hb ap) (pRow_below hb bp) hAok.2.2 hmok.2.2 true (by simp [HME.out]))
            have HWW := Lib.hid x18W
            go_wp2_with (first
              | (go_at_call 24; (with_reducible refine (HSF.out _ (Below.refl _ _)).mono ?_); rintro e u0 ⟨rfl, hU0⟩; have hC0 := hU0; have a0_0 := cell_below hC0 a0; have a1_0 := cell_below hC0 a1; have b0_0 := cell_below hC0 b0; have b1_0 := cell_below hC0 b1))
            go_ret
            exact ⟨rfl, HWW.out.trans (hC0.mono HWW.out.size)⟩
end castDropsWalk
end Go.Proofs.YtibjjclfonpibaaGreat

/- Proved: the statement CastDrops: down is total: it drops exactly the slots that came later, and single steps come to the same. (Made by gen_caw.py.); for every input, without any condition. (Out of its walk: the frame alone, the arguments are opened, and shut again as they were.) -/
namespace Go.Proofs.YtibjjclfonpibaaGreat.castDropsSaid
open Go.ChangeShapes Go.WideShapes Go.ChangeAt Go.RowKit
open Go.ChangeMaps (open_string shut_string)
set_option linter.unusedVariables false

theorem own : ownKnob Tryz.prog.godebug = none := by kernel_rfl
theorem laidOut : laidOutB Tryz.prog = true := by kernel_rfl

set_option maxRecDepth 100000 in
theorem lifted (os : Os) (started : os.Started) (H : Type) (enc : TypeId × Value → H) :
    ReturnsInHanded {} Tryz.checked os 7 .any (Rows.castDropsSpec.pre6 enc Tryz.prog Tryz.f7 Rows.castDropsRow.domain false) (Rows.castDropsSpec.post enc Tryz.prog Tryz.f7 false true false false) := by
  refine returnsInHanded_of_change (C := Tryz.checked) own started (by kernel_rfl) Tryz.func7
    (ChangeSpec.witness6 (enc := enc) (C := Tryz.checked) false ⟨#[], #[.agg #[.string ByteArray.empty, .slice none 0 0, .slice none 0 0], .agg #[.int .i64 0, .slice none 0 0], .int .i64 0], []⟩ 8 (by kernel_rfl) (by kernel_rfl) (by kernel_rfl) (by kernel_rfl)) ?_
  intro W base args ds gs before hval0 hW hcnd _
  have hval : ∀ (j : Nat) t v, Tryz.f7.params[j]? = some t → args[j]? = some v → Value.okWide Tryz.prog W .any base t v := hval0
  have hW' := hW
  obtain ⟨p, q, hA0, hV, rfl, hfz, hnd⟩ := hW
  have hA : DataW.TrodAll enc Tryz.prog W 0 (fun _ => true) true Tryz.f7.params.toList args.toList ds p := hA0
  rw [Tryz.params7] at hA hval
  obtain ⟨v0, vs0, d0, ds0, p0, q0, hargs, rfl, rfl, h0, r0⟩ := trodAll_cons hA
  obtain ⟨v1, vs1, d1, ds1, p1, q1, rfl, rfl, rfl, h1, r1⟩ := trodAll_cons r0
  obtain ⟨v2, vs2, d2, ds2, p2, q2, rfl, rfl, rfl, h2, r2⟩ := trodAll_cons r1
  obtain ⟨rfl, rfl, rfl⟩ := trodAll_nil r2
  obtain rfl : args = #[v0, v1, v2] := by cases args; simp_all
  obtain ⟨rfl, rfl⟩ := trodVars_none hV
  have k0 := h0
  have lt0 : ∀ x ∈ p0, x.block < W.heap.size := by obtain ⟨m, hm⟩ := k0; exact DataW.trod_lt m _ _ _ hm
  obtain ⟨t0, w0⟩ := open_argTempl h0
  have k1 := h1
  have lt1 : ∀ x ∈ p1, x.block < W.heap.size := by obtain ⟨m, hm⟩ := k1; exact DataW.trod_lt m _ _ _ hm
  obtain ⟨t1, a1, c1, rfl, i1, w1⟩ := open_argRec h1
  obtain ⟨a2, rfl, rfl, rfl, w2⟩ := open_int Tryz.underlying3 (hval 2 3 v2 rfl rfl) h2
  clear hA0 hval0
  refine (castDropsWalk.walk t0 _ t1 a1 c1 a2 W w0 i1 w1 w2).mono fun e W' ⟨he, bel⟩ => ?_
  subst he
  exact ⟨_, rfl, _, _, _, [], _, [], hW', trodAll_mk1 (shut_bool Tryz.underlying4 _), (trodAll_cons_mk (Below.trod laidOut (by kernel_rfl) (of_decide_eq_true (by kernel_rfl)) k0 bel lt0) (trodAll_cons_mk (Below.trod laidOut (by kernel_rfl) (of_decide_eq_true (by kernel_rfl)) k1 bel lt1) (trodAll_cons_mk (shut_int Tryz.underlying3 w2) trodAll_mk0))), rfl, bel.frame _, fun h => by cases h⟩

theorem over : Rows.castDropsRow.holds Tryz.pinned (OpenSpec.ofChange Rows.castDropsSpec) :=
  OpenClaim.holds_of_wide 7 Tryz.f7 rfl rfl rfl rfl rfl rfl rfl ⟨rfl, rfl, rfl, rfl, rfl⟩ rfl rfl rfl rfl rfl (by kernel_rfl) Tryz.func7 (by kernel_rfl)
    (of_decide_eq_true (by kernel_rfl)) (by unfold Func.isWrapper; first | (rw [if_pos (by decide +kernel)]; kernel_rfl) | (rw [if_neg (by decide +kernel)]; exact ⟨rfl, rfl⟩))
    (fun os started H enc _ => lifted os started H enc)

theorem proved : Rows.CastDropsSaid := over
end Go.Proofs.YtibjjclfonpibaaGreat.castDropsSaid
