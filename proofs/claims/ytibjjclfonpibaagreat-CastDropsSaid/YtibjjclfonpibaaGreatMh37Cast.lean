/- The program's cast: through (steps gone by over values, one behind the other). -/
import Derived.Test.YtibjjclfonpibaaGreatMh31Cast
import Derived.Test.YtibjjclfonpibaaGreatMh36Cast
import Derived.Test.YtibjjclfonpibaaGreatMh28Cast
import Derived.Test.YtibjjclfonpibaaGreatMh33Cast
set_option linter.unusedVariables false
set_option linter.unusedSimpArgs false
set_option maxRecDepth 100000
namespace Go.Proofs.YtibjjclfonpibaaGreat
open Go.RowKit Go.Shelf
attribute [local go_sem] Oper.semAt_some
/-- all that W's cells hold, W' 's hold -/
def SameC (W W' : World) : Prop := ∀ (b : Nat) (cs : Array Value) (t : TypeId) (fr : Nat × Nat), W.heap[b]? = some (.cells cs t fr) → W'.heap[b]? = some (.cells cs t fr)
theorem same_cell {W W' : World} (h : SameC W W') {p : Addr} {v : Value} (hc : W.cell? p = some v) : W'.cell? p = some v := by
  unfold World.cell? at hc ⊢
  cases ho : W.heap[p.block]? with
  | none => rw [ho] at hc; cases hc
  | some o =>
    rw [ho] at hc
    cases o with
    | cells cs t fr => rw [h _ _ _ _ ho]; exact hc
    | _ => cases hc
theorem same_is {w w' : World} (hb : SameC w w') : ∀ v x, Is w v x → Is w' v x := by
  intro v
  induction v using pv_ind with
  | h k n s l ih =>
    intro x h
    unfold Is at h ⊢
    obtain ⟨h1, h2, h3, a, cap, rfl, h4, h5, h6⟩ := h
    refine ⟨h1, h2, h3, a, cap, rfl, h4, h5, ?_⟩
    rcases h6 with h6 | ⟨b, off, rfl, h6⟩
    · exact .inl h6
    · refine .inr ⟨b, off, rfl, isL_of fun i y hy => ?_⟩
      obtain ⟨c0, c1, c2, c3, ⟨g0, g1, g2, g3⟩, hi⟩ := isL_at h6 i y hy
      exact ⟨c0, c1, c2, c3, ⟨same_cell hb g0, same_cell hb g1, same_cell hb g2, same_cell hb g3⟩, ih y (List.mem_of_getElem? hy) _ hi⟩
theorem same_isL {w w' : World} (hb : SameC w w') {b : Nat} {l : List PV} {off : Nat} (h : IsL w b l off) : IsL w' b l off :=
  isL_of fun i y hy => by
    obtain ⟨c0, c1, c2, c3, ⟨g0, g1, g2, g3⟩, hi⟩ := isL_at h i y hy
    exact ⟨c0, c1, c2, c3, ⟨same_cell hb g0, same_cell hb g1, same_cell hb g2, same_cell hb g3⟩, same_is hb _ _ hi⟩
theorem same_pRow {w w' : World} (hb : SameC w w') {a : Option Addr} {cap : Nat} {l : List PV} (h : PRow w a cap l) : PRow w' a cap l :=
  ⟨h.1, h.2.1, h.2.2.imp id fun ⟨b, off, ha, hl⟩ => ⟨b, off, ha, same_isL hb hl⟩⟩
theorem same_ver {w w' : World} (hb : SameC w w') {x : Sc.Ver} {sa : Option Addr} {sc : Nat} {ca : Option Addr} {cc : Nat} (h : VerAt w x sa sc ca cc) : VerAt w' x sa sc ca cc := by
  obtain ⟨⟨h1, h2, h3⟩, k1, k2, k3, k4⟩ := h
  refine ⟨⟨h1, h2, h3.imp id fun ⟨b, off, ha, hc⟩ => ⟨b, off, ha, fun i s hi => ?_⟩⟩, k1, k2, k3, k4.imp id fun ⟨b, off, ha, hc⟩ => ⟨b, off, ha, fun i hi => same_cell hb (hc i hi)⟩⟩
  obtain ⟨c0, c1, c2, c3, c4, c5, c6, ⟨g0, g1, g2, g3, g4, g5, g6⟩, q1, q2, q3, q4, q5, q6⟩ := hc i s hi
  exact ⟨c0, c1, c2, c3, c4, c5, c6, ⟨same_cell hb g0, same_cell hb g1, same_cell hb g2, same_cell hb g3, same_cell hb g4, same_cell hb g5, same_cell hb g6⟩, q1, q2, q3, q4, q5, same_is hb _ _ q6⟩
theorem same_below {W W' : World} (h : Below W.heap.size W W') : SameC W W' := fun b cs t fr hh => (h.block b (Array.getElem?_eq_some_iff.1 hh).1).trans hh
theorem same_trans {A B C : World} (h : SameC A B) (k : SameC B C) : SameC A C := fun b cs t fr hh => k b cs t fr (h b cs t fr hh)
theorem same_turned {B : Nat} {A C : World} (h : Turned B A C) : SameC A C := fun b cs t fr hh => turned_blockV h hh
theorem same_grown {W W' : World} {row : Option Nat} {B : Nat} (hg : W.grownBy W' row) (hr : ∀ r, row = some r → B ≤ r ∧ ∃ o : Obj, W.heap[r]? = some o ∧ o.isCells = false) : SameC W W' := grown_cells hg hr
/-- what a round of through has come to -/
def CaS (w : World) (t : TemplM) (a b : Int) (l0 : List PV) (gf : Value) (s : List VItem) (W : World) : Prop := Below w.heap.size w W ∧ W.heap[w.heap.size + 1]? = some (.cells #[gf] 108 (0, 0)) ∧
  ∃ ra rc x, W.heap[w.heap.size]? = some (.cells #[.slice ra (Ca.turnL x.slots l0).length rc] 26 (0, 0)) ∧ PRow W ra rc (Ca.turnL x.slots l0) ∧ Rc.verOf t (Ca.stepI a b s.length) = some x
theorem caS_same {w A C : World} {t : TemplM} {a b : Int} {l0 : List PV} {gf : Value} {s : List VItem} (h : CaS w t a b l0 gf s A) (hb : Below w.heap.size w A → Below w.heap.size w C) (hc : SameC A C) : CaS w t a b l0 gf s C := by
  obtain ⟨h1, h2, ra, rc, x, h3, h4, h5⟩ := h
  exact ⟨hb h1, hc _ _ _ _ h2, ra, rc, x, hc _ _ _ _ h3, same_pRow hc h4, h5⟩
theorem caS_own (w : World) (t : TemplM) (a b : Int) (l0 : List PV) (gf : Value) (B : Nat) (hB : w.heap.size ≤ B) : OwnFrom B (CaS w t a b l0 gf) := fun s W W' row h hg hr =>
  caS_same h (fun h1 => below_grown9 h1 hg (fun b e => by have := (hr b e).1; omega) h1.size) (same_grown hg hr)
theorem caK_trans {w0 A C D : World} {bx : Nat} (h : CaK w0 bx A C) (k : CaK w0 bx C D) : CaK w0 bx A D := ⟨fun e => k.1 (h.1 e), fun b cs t fr hh hn => k.2 b cs t fr (h.2 b cs t fr hh hn) hn⟩
theorem caK_turned {w0 A C : World} {bx B : Nat} (h : Turned B A C) (hB0 : w0.heap.size ≤ B) : CaK w0 bx A C := by
  obtain ⟨l, hB, hg, o, hl, hc⟩ := turned_grown h
  exact ⟨fun e => below_grown9 e hg (fun b e2 => by cases e2; omega) e.size, fun b cs t fr hh _ => same_turned h b cs t fr hh⟩
theorem caK_below {w0 A C : World} {bx : Nat} (h : Below A.heap.size A C) (h0 : w0.heap.size ≤ A.heap.size) : CaK w0 bx A C :=
  ⟨fun e => e.trans (h.mono h0), fun b cs t fr hh _ => (h.block b (Array.getElem?_eq_some_iff.1 hh).1).trans hh⟩
theorem caK_set {w0 A : World} {bx : Nat} (v : Value) (h0 : w0.heap.size ≤ bx) : CaK w0 bx A (A.setCell ⟨bx, 0, none⟩ v) := by
  have hk := grown_set9 A bx 0 v
  exact ⟨fun e => below_grown9 e hk (fun b e2 => by cases e2; exact h0) e.size, fun b cs t fr hh hn => (hk.block b (Array.getElem?_eq_some_iff.1 hh).1 (fun e => hn (by cases e; rfl))).trans hh⟩
theorem set_one1 {W : World} {b : Nat} {u0 : Value} {t : TypeId} (h : W.heap[b]? = some (.cells #[u0] t (0, 0))) (v : Value) : (W.setCell ⟨b, 0, none⟩ v).heap[b]? = some (.cells #[v] t (0, 0)) := by
  obtain ⟨hlt, hk⟩ := Array.getElem?_eq_some_iff.1 h
  show (W.heap.modify b _)[b]? = _
  rw [Array.getElem?_eq_getElem (by rw [Array.size_modify]; exact hlt), Array.getElem_modify_self, hk]
  rfl
theorem quad_ne {W : World} {b p o : Nat} {u c1 : Value} {t : TypeId} {fr : Nat × Nat} (hb : W.heap[b]? = some (.cells #[u] t fr)) (h1 : W.cell? ⟨p, o + 1, none⟩ = some c1) : p ≠ b := by
  intro e
  subst e
  simp [World.cell?, hb] at h1
theorem cell_ne {W : World} {b p j : Nat} {v u : Value} (h : p ≠ b) (hc : W.cell? ⟨p, j, none⟩ = some u) : (W.setCell ⟨b, 0, none⟩ v).cell? ⟨p, j, none⟩ = some u := by
  rw [← hc]
  simp only [World.cell?, Below.heap_setCell _ ⟨b, 0, none⟩ v p h]
theorem is_set1 {W : World} {b : Nat} {u : Value} {t : TypeId} {fr : Nat × Nat} (hb : W.heap[b]? = some (.cells #[u] t fr)) (v' : Value) : ∀ v x, Is W v x → Is (W.setCell ⟨b, 0, none⟩ v') v x := by
  intro v
  induction v using pv_ind with
  | h k n s l ih =>
    intro x h
    unfold Is at h ⊢
    obtain ⟨h1, h2, h3, a, cap, rfl, h4, h5, h6⟩ := h
    refine ⟨h1, h2, h3, a, cap, rfl, h4, h5, ?_⟩
    rcases h6 with h6 | ⟨p, off, rfl, h6⟩
    · exact .inl h6
    · refine .inr ⟨p, off, rfl, isL_of fun i y hy => ?_⟩
      obtain ⟨c0, c1, c2, c3, ⟨g0, g1, g2, g3⟩, hi⟩ := isL_at h6 i y hy
      have hne := quad_ne hb g1
      exact ⟨c0, c1, c2, c3, ⟨cell_ne hne g0, cell_ne hne g1, cell_ne hne g2, cell_ne hne g3⟩, ih y (List.mem_of_getElem? hy) _ hi⟩
theorem pRow_set1 {W : World} {b : Nat} {u : Value} {t : TypeId} {fr : Nat × Nat} (hb : W.heap[b]? = some (.cells #[u] t fr)) (v' : Value) {a : Option Addr} {cap : Nat} {l : List PV} (h : PRow W a cap l) : PRow (W.setCell ⟨b, 0, none⟩ v') a cap l :=
  ⟨h.1, h.2.1, h.2.2.imp id fun ⟨p, off, ha, hl⟩ => ⟨p, off, ha, isL_of fun i y hy => by
    obtain ⟨c0, c1, c2, c3, ⟨g0, g1, g2, g3⟩, hi⟩ := isL_at hl i y hy
    have hne := quad_ne hb g1
    exact ⟨c0, c1, c2, c3, ⟨cell_ne hne g0, cell_ne hne g1, cell_ne hne g2, cell_ne hne g3⟩, is_set1 hb v' _ _ hi⟩⟩⟩
/-- a step more -/
theorem turn_next {t : TemplM} {a b : Int} {l0 : List PV} {x0 x y : Sc.Ver} {j : Nat} (h0 : Rc.verOf t a = some x0) (hf : Rc.fitL x0.slots l0 = true) (hb : ∃ z, Rc.verOf t b = some z) (hx : Rc.verOf t (Ca.stepI a b j) = some x) (hy : Rc.verOf t (Ca.stepI a b (j + 1)) = some y) : Ca.turnL y.slots (Ca.turnL x.slots l0) = Ca.turnL y.slots l0 := by
  have hd := Ca.verOf_df hy
  by_cases hab : a ≤ b
  · have e1 : Ca.stepI a b j = a + j := by unfold Ca.stepI; rw [if_pos hab]
    have e2 : Ca.stepI a b (j + 1) = a + j + 1 := by unfold Ca.stepI; rw [if_pos hab]; omega
    exact Ca.turnL_up hf (Ca.verOf_grows (by omega) h0 hx) (Ca.verOf_grows (by omega) hx hy) hd
  · have e1 : Ca.stepI a b j = a - j := by unfold Ca.stepI; rw [if_neg hab]
    have e2 : Ca.stepI a b (j + 1) = a - j - 1 := by unfold Ca.stepI; rw [if_neg hab]; omega
    exact Ca.turnL_down l0 (Ca.verOf_grows (by omega) hy hx) hd
set_option maxHeartbeats 16000000 in
theorem caThrough_any (t : TemplM) (a b : Int) (l0 : List PV) (x0 z : Sc.Ver) (ra : Option Addr) (rc bf bt bT : Nat) (w : World) (sa : Option Addr) (sc : Nat) (ta : Option Addr) (tc : Nat) (hg : greatT t = false) (hi : IsTempl w t (.agg #[.string t.nm, .slice sa t.slots.length sc, .slice ta t.steps.length tc]))
    (h0 : Rc.verOf t a = some x0) (hf : Rc.fitL x0.slots l0 = true) (hz : Rc.verOf t b = some z) (hr : PRow w ra rc l0)
    (hbf : w.heap[bf]? = some (.cells #[.int .i64 a] 3 (0, 0))) (hbt : w.heap[bt]? = some (.cells #[.int .i64 b] 3 (0, 0))) (hbT : w.heap[bT]? = some (.cells #[.string t.nm, .slice sa t.slots.length sc, .slice ta t.steps.length tc] 25 (0, 0))) :
    Calls Tryz.prog 74 #[.slice ra l0.length rc, .func (.func 88) #[] #[.pointer (some ⟨bf, 0, none⟩), .pointer (some ⟨bt, 0, none⟩), .pointer (some ⟨bT, 0, none⟩)], .func (.func 77) #[] #[]] w fun e w' =>
      (∃ a' c', e = .returned (.slice a' z.slots.length c') ∧ PRow w' a' c' (Ca.turnL z.slots l0)) ∧ Below w.heap.size w w' := by
  obtain ⟨L, n0, hL, hn0, ha1⟩ := Ca.verOf_at h0
  obtain ⟨M, m0, hM, hm0, hb1⟩ := Ca.verOf_at hz
  have hl9 := Sc.vers_length hL
  have hn0l := (List.getElem?_eq_some_iff.1 hn0).1
  have hm0l : m0 < L.length := by rw [hL] at hM; cases hM; exact (List.getElem?_eq_some_iff.1 hm0).1
  have ha : 1 ≤ a ∧ a ≤ 9 := by omega
  have hb : 1 ≤ b ∧ b ≤ 9 := by omega
  have hver : ∀ j, j ≤ Ca.dist a b → ∃ x, Rc.verOf t (Ca.stepI a b j) = some x := fun j hj => by
    rcases Ca.stepI_in hj with ⟨h1, h2⟩ | ⟨h1, h2⟩
    · exact Ca.verOf_between h0 hz h1 h2
    · exact Ca.verOf_between hz h0 h1 h2
  have hsame := Ca.turnL_same hf
  obtain ⟨gf, hgf⟩ : ∃ g : Value, .func (.func 77) #[] #[] = g := ⟨_, rfl⟩
  have hS0 : CaS w t a b l0 gf [] ((w.alloc (.cells #[.slice ra l0.length rc] 26)).alloc (.cells #[gf] 108)) := by
    have hA := below2 w (.cells #[.slice ra l0.length rc] 26) (.cells #[gf] 108)
    refine ⟨hA, two_heap w _ _, ra, rc, x0, ?_, ?_, by show Rc.verOf t (Ca.stepI a b 0) = some x0; rw [Ca.stepI_zero]; exact h0⟩
    · rw [hsame]
      exact (Below.heap_alloc _ _ _ (by simp)).trans (heap_self9 w _)
    · rw [hsame]; exact pRow_below hA hr
  have hB0 := hS0.1
  have hsz0 : ((w.alloc (.cells #[.slice ra l0.length rc] 26)).alloc (.cells #[gf] 108)).heap.size = w.heap.size + 2 := by simp
  have hbfl := (Array.getElem?_eq_some_iff.1 hbf).1
  have hbtl := (Array.getElem?_eq_some_iff.1 hbt).1
  have hbTl := (Array.getElem?_eq_some_iff.1 hbT).1
  have HG := Lib.hid hg; have HI := Lib.hid hi; have HF := Lib.hid hf; have H0 := Lib.hid h0; have HZ := Lib.hid hz; have HV := Lib.hid hver; have HBF := Lib.hid hbf; have HBT := Lib.hid hbt; have HBTT := Lib.hid hbT; have HS0 := Lib.hid hS0
  clear hg hi hf h0 hz hver hbf hbt hbT hS0 hr hsame hL hn0 ha1 hM hm0 hb1 hl9 hn0l hm0l
  refine (callsIn_wide (n := 100)).1 ?_
  refine callsIn_of_wp_marks Tryz.func74 rfl trivial ?_ rfl
  rw [hgf]
  simp only [Tryz.ntmps74, List.size_toArray, List.length_cons, List.length_nil, Nat.reduceAdd, Nat.reduceSub, Array.replicate_succ, Array.replicate_zero, List.push_toArray, List.append_toArray, List.nil_append, List.cons_append]
  gi_wp2
  obtain ⟨V0, hV0⟩ : ∃ V, (w.alloc (.cells #[.slice ra l0.length rc] 26)).alloc (.cells #[gf] 108) = V := ⟨_, rfl⟩
  rw [hV0] at HS0 hB0 hsz0 ⊢
  clear hV0
  refine wpIn_rangeFunc_turnsV rfl (by decide) (gf := 88) (lb := #[.pointer (some ⟨bf, 0, none⟩), .pointer (some ⟨bt, 0, none⟩), .pointer (some ⟨bT, 0, none⟩)]) ?hg trivial (enters_of Tryz.func88 (by kernel_rfl) rfl)
    (encs := verV) (Kp := CaK w w.heap.size) (Tn := fun A C => Below A.heap.size A C) (V := CaV t a b) (S := fun ys _ => ys.length = Ca.dist a b) (Sp := fun _ _ => True) (N := 9)
    (fun l J Jx W hW hJ hJx hY h0 => (caSteps1_in _ (by decide) l bf bt bT w.heap.size w t sa sc ta tc a b HG.out HI.out ha hb HV.out J Jx hJ hY W (hB0.trans (hW.mono hB0.size)) ((hW.block _ (by omega)).trans ((hB0.block _ hbfl).trans HBF.out)) ((hW.block _ (by omega)).trans ((hB0.block _ hbtl).trans HBT.out)) ((hW.block _ (by omega)).trans ((hB0.block _ hbTl).trans HBTT.out)) ⟨by omega, by omega, by omega⟩ h0).mono (fun e W' h => h))
    (fun A C k o _ hT hk ho => (hT.block k (Array.getElem?_eq_some_iff.1 hk).1).trans hk)
    (fun A C D h k => caK_trans h k) (fun A C h => caK_turned h hB0.size) (fun _ => rfl)
    (CaS w t a b l0 gf) (fun _ _ _ => False) (caS_own w t a b l0 gf _ hB0.size) (fun _ _ _ _ _ h _ _ => h)
    (fun s A C h hT => caS_same h (fun h1 => h1.trans (hT.mono h1.size)) (same_below hT)) (fun _ _ _ _ h _ => h) (fun s _ _ _ hs _ _ => hs) (fun _ _ _ _ hs _ _ => hs)
    HS0.out ?round ?done ?stop
  case hg => rfl
  case stop => exact fun _ _ _ _ _ _ h _ => h.elim
  case done =>
    rintro D xs W hD hS hI hK
    obtain ⟨hB, hG, qa, qc, x, hX, hP, hx⟩ := hI
    have hxz : x = z := by
      have h1 := HZ.out
      rw [show Ca.stepI a b xs.length = b by rw [hS]; exact (Ca.stepI_end (Nat.le_refl _)).2 rfl, h1] at hx
      cases hx; rfl
    subst hxz
    rw [Ca.turnL_length] at hX
    have hc := caBox hX
    have hK' : W.heap[D]? = some (Obj.deferred (some [])) := hK
    have hDl : w.heap.size ≤ D := by omega
    have hB9 := hB.trans (belowK_b (w := w) (Nat.le_refl _) W D _ (Obj.deferred none) hDl hK' rfl rfl)
    have hP9 : PRow (W.putObj D (Obj.deferred none)) qa qc (Ca.turnL x.slots l0) := same_pRow (fun b cs t fr hh => (World.putObj_heap_other (fun e => by subst e; rw [hK] at hh; cases hh)).trans hh) hP
    have HP9 := Lib.hid hP9; have HB9 := Lib.hid hB9; have HK' := Lib.hid hK'
    clear hP9 hB9 hP hX hB hG hx hK hK'
    gi_wp2
    all_goals
      refine ⟨by simp, .inl ⟨_, _, rfl, run_takeDeferred HK'.out, ?_⟩⟩
      exact ⟨_, results_tmp (t := 6) rfl _ _ _, ⟨_, _, rfl, HP9.out⟩, HB9.out⟩
  case round =>
    rintro l pre ⟨y, ⟨ya, yn, yc⟩, ⟨ya', yn', yc'⟩⟩ W hI hVy hlt
    refine wpIn_act (a' := ?a2) ?e ?k
    case e => (simp [verV]; rfl)
    case k =>
      gi_wp2
      have hIW := hI
      have hwW : w.heap.size ≤ W.heap.size := hI.1.size
      obtain ⟨hVx, hyn, hyn', hVA⟩ := hVy
      simp only at hVx hyn hyn' hVA
      subst hyn hyn'
      have hb0A := caNew W (.cells #[.slice ya y.slots.length yc, .slice ya' y.cols.length yc'] 67)
      refine ⟨(KeepsOthers.alloc W _).from _, caK_below hb0A hwW, fun W2 htn => ?_⟩
      have hsA := same_trans (same_below hb0A) (same_turned htn)
      have hI2 : CaS w t a b l0 gf pre W2 := ownFrom_turned (caS_own w t a b l0 gf _ hB0.size) (caS_same hI (fun h => h.trans (hb0A.mono hwW)) (same_below hb0A)) htn
      have hV2 := same_ver hsA hVA
      have hs2 : W2.heap.size = W.heap.size + 1 := by
        obtain ⟨lp, o, o', _, _, _, _, rfl⟩ := htn
        simp
      have hv2 : W2.heap[W.heap.size]? = some (.cells #[.slice ya y.slots.length yc, .slice ya' y.cols.length yc'] 67 (0, 0)) := turned_blockV htn (World.alloc_heap_new W _)
      clear hb0A htn hI hIW hVA hsA
      obtain ⟨hB2, hG2, qa, qc, x, hX2, hP2, hx2⟩ := hI2
      obtain ⟨z0, z1, _, _⟩ := two_all hv2
      have c0 := caBox hX2
      have c1 := caBox hG2
      have hfr : W2.frozen? ⟨w.heap.size, 0, none⟩ = false := by simp [World.frozen?, hX2]
      have hxok := verOf_ok hx2
      have hyok := verOf_ok hVx
      have hfx := Ca.turnL_fit (Ca.verOf_df hx2) l0
      have hlx : (Ca.turnL x.slots l0).length ≤ 1000 := by rw [Ca.turnL_length]; have := hxok.num; omega
      have hT := caTurned_any y ya yc ya' yc' qa qc (Ca.turnL x.slots l0) W2 hV2 hP2 hyok.ok (by have := hyok.num; omega) hlx (fun v hv => right_sz (Rc.fitL_right hfx v hv))
      rw [turn_next H0.out HF.out ⟨z, HZ.out⟩ hx2 hVx] at hT
      have HT := Lib.hid hT; have HX2 := Lib.hid hX2; have HG2 := Lib.hid hG2; have HB2 := Lib.hid hB2; have HVX := Lib.hid hVx
      clear hT hX2 hG2 hB2 hP2 hx2 hxok hyok hfx hlx hV2 hv2 hVx
      subst hgf
      gi_wp2_with (refine ⟨trivial, ?_⟩; gi_at_call 77; refine (callsIn_wide.2 HT.out).mono ?_; rintro e W3 ⟨⟨g, rfl, hP3⟩, hB3⟩; have hX3 := (hB3.block _ (Array.getElem?_eq_some_iff.1 HX2.out).1).trans HX2.out; have hfr3 : W3.frozen? ⟨w.heap.size, 0, none⟩ = false := (by simp [World.frozen?, hX3]); have hc3 := caBox hX3)
      have hB2 := HB2.out
      have hBw3 := hB2.trans (hB3.mono hB2.size)
      have hk9 := grown_set9 W3 w.heap.size 0 (.slice (some ⟨g, 0, none⟩) y.slots.length y.slots.length)
      have hG3 := (hB3.block _ (Array.getElem?_eq_some_iff.1 HG2.out).1).trans HG2.out
      refine ⟨((⟨hB3.size, fun k o hk _ => (hB3.block k (Array.getElem?_eq_some_iff.1 hk).1).trans hk⟩ : KeepsOthers W2 W3).trans (KeepsOthers.setCell _ _ _)).from _,
        caK_trans (caK_below hB3 hB2.size) (caK_set _ (Nat.le_refl _)),
        below_grown9 hBw3 hk9 (fun b e => by cases e; exact Nat.le_refl _) hBw3.size, (hk9.block _ (Array.getElem?_eq_some_iff.1 hG3).1 (fun e => by injection e with e; omega)).trans hG3,
        some ⟨g, 0, none⟩, y.slots.length, y, ?_, pRow_set1 hX3 _ hP3, by rw [List.length_append]; exact HVX.out⟩
      rw [Ca.turnL_length]
      exact set_one1 hX3 _
end Go.Proofs.YtibjjclfonpibaaGreat
