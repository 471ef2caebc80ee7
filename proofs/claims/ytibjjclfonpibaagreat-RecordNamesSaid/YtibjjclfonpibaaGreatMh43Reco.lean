/- The document's step of layer 10: a column more. (Made by gen_ref10k.py.) -/
import Derived.Test.YtibjjclfonpibaaGreatMh42Reco
import Derived.OrdersHeld
import Derived.RegionTactic
import Derived.Deep.RegionHeld
set_option linter.unusedVariables false
set_option linter.unusedSimpArgs false
namespace Go.Proofs.YtibjjclfonpibaaGreat
open Go.RowKit Go.Shelf
/-- as StepS, the copy's rows in whichever block -/
def StepR (w0 w V : World) (x : Sc.Ver) (b6 : Nat) (o0 o1 : Value) (st : Array Value) (s6 c6 : Value) : Prop :=
  V.heap[w.heap.size]? = some (.cells #[o0, o1] 37 (0, 0)) ∧ V.heap[w.heap.size + 1]? = some (.cells st 66 (0, 0)) ∧ V.heap[w.heap.size + 1 + 1]? = some (.cells #[.slice none 0 0, .slice none 0 0] 37 (0, 0)) ∧
  V.heap[b6]? = some (.cells #[s6, c6] 37 (0, 0)) ∧ Below w.heap.size w V ∧ VerOwn (w.heap.size + 1 + 1 + 1) w0 V x s6 c6 ∧ w.heap.size + 1 + 1 < b6 ∧ (∀ b, s6.ownBlock = some b → b ≠ b6) ∧ (∀ b, c6.ownBlock = some b → b ≠ b6)
theorem stepR_of {w0 w V : World} {x : Sc.Ver} {b6 : Nat} {o0 o1 s6 c6 : Value} {st : Array Value} (h : StepS w0 w V x b6 o0 o1 st s6 c6) : StepR w0 w V x b6 o0 o1 st s6 c6 :=
  ⟨h.1, h.2.1, h.2.2.1, h.2.2.2.1, h.2.2.2.2.1, h.2.2.2.2.2.1, h.2.2.2.2.2.2.1, fun b e => Nat.ne_of_lt (h.2.2.2.2.2.2.2.1 b e), fun b e => Nat.ne_of_lt (h.2.2.2.2.2.2.2.2 b e)⟩
theorem stepR_below {w0 w V V' : World} {x : Sc.Ver} {b6 : Nat} {o0 o1 s6 c6 : Value} {st : Array Value} (h : StepR w0 w V x b6 o0 o1 st s6 c6) (hb : Below V.heap.size V V') : StepR w0 w V' x b6 o0 o1 st s6 c6 := by
  obtain ⟨g0, g1, g2, g3, g4, ⟨cs, p1, p2, p3, p4⟩, h1, h2, h3⟩ := h
  have k := fun b o (hb0 : V.heap[b]? = some o) => (hb.block b (Array.getElem?_eq_some_iff.1 hb0).1).trans hb0
  have kg : V.grownBy V' none := by
    obtain ⟨a1, a2, a3, a4, a5⟩ := hb
    exact ⟨a1, a2, a3, a4, fun j hj _ => a5 j hj⟩
  exact ⟨k _ _ g0, k _ _ g1, k _ _ g2, k _ _ g3, below_grown9 g4 kg (fun b e => by cases e) g4.size, ⟨cs, own_kept9 p1 kg (fun b e => by cases e), p2, own_kept9 p3 kg (fun b e => by cases e), p4⟩, h1, h2, h3⟩
theorem set_fst9 {W : World} {b : Nat} {u0 u1 : Value} {t : TypeId} (h : W.heap[b]? = some (.cells #[u0, u1] t (0, 0))) (v : Value) : (W.setCell ⟨b, 0, none⟩ v).heap[b]? = some (.cells #[v, u1] t (0, 0)) := by
  obtain ⟨hlt, hk⟩ := Array.getElem?_eq_some_iff.1 h
  show (W.heap.modify b _)[b]? = _
  rw [Array.getElem?_eq_getElem (by rw [Array.size_modify]; exact hlt), Array.getElem_modify_self, hk]
  rfl
theorem set_snd9 {W : World} {b : Nat} {u0 u1 : Value} {t : TypeId} (h : W.heap[b]? = some (.cells #[u0, u1] t (0, 0))) (v : Value) : (W.setCell ⟨b, 1, none⟩ v).heap[b]? = some (.cells #[u0, v] t (0, 0)) := by
  obtain ⟨hlt, hk⟩ := Array.getElem?_eq_some_iff.1 h
  show (W.heap.modify b _)[b]? = _
  rw [Array.getElem?_eq_getElem (by rw [Array.size_modify]; exact hlt), Array.getElem_modify_self, hk]
  rfl
/-- behind an append to the columns: ahead of the store (b6's cells are there), and behind it -/
theorem stepR_col {w0 w A W : World} {x : Sc.Ver} {b6 : Nat} {o0 o1 s6 c6 v : Value} {st : Array Value} (h : StepR w0 w A x b6 o0 o1 st s6 c6) (hg : A.grownBy W c6.ownBlock) (hat : v.ownBlock = c6.ownBlock ∨ v.ownBlock = some A.heap.size) (nc : List Nat)
    (hown : W.ownsRow (w.heap.size + 1 + 1 + 1) 3 1 v nc.length ((nc.map Int.ofNat).map (Value.int .i64))) :
    W.heap[b6]? = some (.cells #[s6, c6] 37 (0, 0)) ∧ StepR w0 w (W.setCell ⟨b6, 1, none⟩ v) ⟨x.slots, nc⟩ b6 o0 o1 st s6 v := by
  obtain ⟨g0, g1, g2, g3, g4, ⟨cs, p1, p2, p3, p4⟩, h1, h2, h3⟩ := h
  have q1 := own_blk9 p1
  have q3 := own_blk9 p3
  have qn := own_blk9 hown
  have hlt6 : b6 < A.heap.size := (Array.getElem?_eq_some_iff.1 g3).1
  have hAs := hg.size
  have far : ∀ b o, (∀ g, c6.ownBlock = some g → b ≠ g) → A.heap[b]? = some o → W.heap[b]? = some o := fun b o hne hb => (hg.block b (Array.getElem?_eq_some_iff.1 hb).1 (fun e => hne b e.symm rfl)).trans hb
  have e6 := far b6 _ (fun g e => (h3 g e).symm) g3
  have kg := grown_set9 W b6 1 v
  have far2 : ∀ b o, b ≠ b6 → W.heap[b]? = some o → (W.setCell ⟨b6, 1, none⟩ v).heap[b]? = some o := fun b o hne hb => (kg.block b (Array.getElem?_eq_some_iff.1 hb).1 (fun e => by injection e with e; omega)).trans hb
  have hB : Below w.heap.size w W := below_grown9 g4 hg (fun b e => by have := (q3 b e).2; omega) g4.size
  have hv6 : ∀ b, v.ownBlock = some b → b ≠ b6 := by
    intro b e
    rcases hat with r | r
    · exact h3 b (r ▸ e)
    · rw [r] at e; injection e with e; omega
  refine ⟨e6, far2 _ _ (by omega) (far _ _ (fun g e => by have := (q3 g e).2; omega) g0), far2 _ _ (by omega) (far _ _ (fun g e => by have := (q3 g e).2; omega) g1), far2 _ _ (by omega) (far _ _ (fun g e => by have := (q3 g e).2; omega) g2), set_snd9 e6 v,
    below_grown9 hB kg (fun b e => by injection e with e; omega) hB.size, ⟨cs, own_kept9 (own_kept9 p1 hg (fun b e1 e2 => p4 b e2 e1)) kg (fun b e1 e2 => by injection e1 with e1; exact h2 b e2 e1.symm), p2, own_kept9 hown kg (fun b e1 e2 => by injection e1 with e1; exact hv6 b e2 e1.symm), fun b e1 e2 => ?_⟩, h1, h2, hv6⟩
  rcases hat with r | r
  · exact p4 b e1 (r ▸ e2)
  · rw [r] at e2; injection e2 with e2; have := (q1 b e1).1; omega
/-- behind an append to the slots -/
theorem stepR_slot {w0 w A W : World} {x : Sc.Ver} {b6 : Nat} {o0 o1 s6 c6 v : Value} {st : Array Value} (h : StepR w0 w A x b6 o0 o1 st s6 c6) (hg : A.grownBy W s6.ownBlock) (hat : v.ownBlock = s6.ownBlock ∨ v.ownBlock = some A.heap.size) (ns : List SlotM) (ds : List Value) (hds : SCells w0 ns ds)
    (hown : W.ownsRow (w.heap.size + 1 + 1 + 1) 44 7 v ns.length ds) :
    W.heap[b6]? = some (.cells #[s6, c6] 37 (0, 0)) ∧ StepR w0 w (W.setCell ⟨b6, 0, none⟩ v) ⟨ns, x.cols⟩ b6 o0 o1 st v c6 := by
  obtain ⟨g0, g1, g2, g3, g4, ⟨cs, p1, p2, p3, p4⟩, h1, h2, h3⟩ := h
  have q1 := own_blk9 p1
  have q3 := own_blk9 p3
  have hlt6 : b6 < A.heap.size := (Array.getElem?_eq_some_iff.1 g3).1
  have hAs := hg.size
  have far : ∀ b o, (∀ g, s6.ownBlock = some g → b ≠ g) → A.heap[b]? = some o → W.heap[b]? = some o := fun b o hne hb => (hg.block b (Array.getElem?_eq_some_iff.1 hb).1 (fun e => hne b e.symm rfl)).trans hb
  have e6 := far b6 _ (fun g e => (h2 g e).symm) g3
  have kg := grown_set9 W b6 0 v
  have far2 : ∀ b o, b ≠ b6 → W.heap[b]? = some o → (W.setCell ⟨b6, 0, none⟩ v).heap[b]? = some o := fun b o hne hb => (kg.block b (Array.getElem?_eq_some_iff.1 hb).1 (fun e => by injection e with e; omega)).trans hb
  have hB : Below w.heap.size w W := below_grown9 g4 hg (fun b e => by have := (q1 b e).2; omega) g4.size
  have hv6 : ∀ b, v.ownBlock = some b → b ≠ b6 := by
    intro b e
    rcases hat with r | r
    · exact h2 b (r ▸ e)
    · rw [r] at e; injection e with e; omega
  refine ⟨e6, far2 _ _ (by omega) (far _ _ (fun g e => by have := (q1 g e).2; omega) g0), far2 _ _ (by omega) (far _ _ (fun g e => by have := (q1 g e).2; omega) g1), far2 _ _ (by omega) (far _ _ (fun g e => by have := (q1 g e).2; omega) g2), set_fst9 e6 v,
    below_grown9 hB kg (fun b e => by injection e with e; omega) hB.size, ⟨ds, own_kept9 hown kg (fun b e1 e2 => by injection e1 with e1; exact hv6 b e2 e1.symm), hds, own_kept9 (own_kept9 p3 hg (fun b e1 e2 => p4 b e1 e2)) kg (fun b e1 e2 => by injection e1 with e1; exact h3 b e2 e1.symm), fun b e1 e2 => ?_⟩, h1, hv6, h3⟩
  rcases hat with r | r
  · exact p4 b (r ▸ e1) e2
  · rw [r] at e1; injection e1 with e1; have := (q3 b e2).1; omega
theorem stepR_end {w0 w V : World} {x : Sc.Ver} {b6 : Nat} {o0 o1 s6 c6 u0 u1 : Value} {st : Array Value} (h : StepR w0 w V x b6 o0 o1 st s6 c6) : VerOwn w.heap.size w0 ((V.setCell ⟨w.heap.size + 1 + 1, 0, none⟩ u0).setCell ⟨w.heap.size + 1 + 1, 1, none⟩ u1) x s6 c6 := by
  obtain ⟨_, _, _, _, _, ⟨cs, p1, p2, p3, p4⟩, _, _, _⟩ := h
  have k1 := grown_set9 V (w.heap.size + 1 + 1) 0 u0
  have k2 := grown_set9 (V.setCell ⟨w.heap.size + 1 + 1, 0, none⟩ u0) (w.heap.size + 1 + 1) 1 u1
  have q1 := fun b e => (own_blk9 p1 b e).2
  have q3 := fun b e => (own_blk9 p3 b e).2
  exact ⟨cs, ownsRow_mono (own_kept9 (own_kept9 p1 k1 (fun b e1 e2 => by have := q1 b e2; injection e1 with e1; omega)) k2 (fun b e1 e2 => by have := q1 b e2; injection e1 with e1; omega)) (by omega), p2,
    ownsRow_mono (own_kept9 (own_kept9 p3 k1 (fun b e1 e2 => by have := q3 b e2; injection e1 with e1; omega)) k2 (fun b e1 e2 => by have := q3 b e2; injection e1 with e1; omega)) (by omega), p4⟩
theorem stepR_cols {w0 w V : World} {x : Sc.Ver} {b6 : Nat} {o0 o1 s6 c6 : Value} {st : Array Value} (h : StepR w0 w V x b6 o0 o1 st s6 c6) : V.ownsRow (w.heap.size + 1 + 1 + 1) 3 1 c6 x.cols.length ((x.cols.map Int.ofNat).map (Value.int .i64)) := by
  obtain ⟨_, _, _, _, _, ⟨cs, p1, p2, p3, p4⟩, _, _, _⟩ := h
  exact p3
theorem stepR_slots {w0 w V : World} {x : Sc.Ver} {b6 : Nat} {o0 o1 s6 c6 : Value} {st : Array Value} (h : StepR w0 w V x b6 o0 o1 st s6 c6) : ∃ cs, V.ownsRow (w.heap.size + 1 + 1 + 1) 44 7 s6 x.slots.length cs ∧ SCells w0 x.slots cs := by
  obtain ⟨_, _, _, _, _, ⟨cs, p1, p2, p3, p4⟩, _, _, _⟩ := h
  exact ⟨cs, p1, p2⟩
theorem stepR_size {w0 w V : World} {x : Sc.Ver} {b6 : Nat} {o0 o1 s6 c6 : Value} {st : Array Value} (h : StepR w0 w V x b6 o0 o1 st s6 c6) : w.heap.size + 1 + 1 + 1 ≤ V.heap.size := by
  have h1 := (Array.getElem?_eq_some_iff.1 h.2.2.2.1).1
  have h2 := h.2.2.2.2.2.2.1
  omega
theorem cells_new_at {W : World} {g : Nat} (h : W.heap.size = g) (l : List Value) (t : TypeId) : ∀ j u, l[j]? = some u → (W.alloc (.cells l.toArray t)).cell? ((⟨g, 0, none⟩ : Addr).add j) = some u := by
  subst h
  exact cells_new W l t
theorem Below.heapsize9 (w : World) (o : Obj) : Below w.heap.size w (w.alloc o) := (Below.refl _ w).alloc (Nat.le_refl _) o
set_option maxRecDepth 100000 in
set_option maxHeartbeats 4000000 in
theorem refStep_1good (x : Sc.Ver) (s : StepM) (sa : Option Addr) (sc : Nat) (ca : Option Addr) (cc : Nat) (w0 w : World) (T : Value) (hsl : x.slots.length ≤ 100000) (hcl : x.cols.length ≤ 100000) (hv : VerInA w0 w x sa sc ca cc) (hs0 : RIsStep w0 s T) (h0 : Below w0.heap.size w0 w) (hk : s.kd = 1) (hre : Sc.rest s = true) (hsz : szV s.sl.df ≤ 1000000) (hlen : x.cols.length ≤ 7) (hso : Sc.sound s.sl = true) (hrq : s.sl.rq = false) (hinx : ∀ c ∈ x.cols, c < x.slots.length) (hco : Sc.col x s.sl.nm = none) :
    Calls Tryz.prog 69 #[.agg #[.slice sa x.slots.length sc, .slice ca x.cols.length cc], T] w (RStepC w0 w x s) := by
  have hs := rIsStep_below h0 hs0
  have hC := fun W (hb : Below w.heap.size w W) => refCopy_in x sa sc ca cc w0 w W hsl hcl hv hb
  have hR := fun W (hb : Below w.heap.size w W) => refRest_any s W T (rIsStep_below hb hs)
  rw [hre] at hR
  obtain ⟨kd, col, sl, od⟩ := s
  obtain ⟨q2, q3, q4, q5, q6, q7, q8, oa, oc, rfl, hi1, hi2, h7, hod, _⟩ := hs
  simp only at hk hi1 hi2 hre hsz hlen hso hrq hinx hco h7 ⊢
  subst hk
  obtain ⟨CI, hCI⟩ : ∃ CI, Sc.colI x sl.nm = CI := ⟨_, rfl⟩
  have hCo := fun a c a' c' W h => refCol_any x a c a' c' sl.nm W hinx hsl h
  rw [hCI] at hCo
  have d8 : decide (0 ≤ CI) = false := by
    rw [← hCI]
    unfold Sc.colI
    split
    · simp
    · rename_i h; rw [hco] at h; cases h
  clear hCI
  have hSo := fun W (hb : Below w.heap.size w W) => refSound_any sl hsz W _ (isSlot_below hb ⟨_, _, _, _, _, _, _, rfl, h7⟩)
  rw [hso] at hSo
  obtain ⟨hnm, hty, rfl, rfl, rfl, hdf⟩ := h7
  have hno : Sc.step x ⟨1, col, sl, od⟩ = some ⟨x.slots ++ [sl], x.cols ++ [x.slots.length]⟩ := by
    unfold Sc.step
    simp only
    rw [if_neg (by rw [hre]; simp), if_pos trivial, if_pos ⟨hlen, hso, hrq, hco⟩]
  obtain ⟨Q, hQ⟩ : ∃ Q, RStepC w0 w x ⟨1, col, sl, od⟩ = Q := ⟨_, rfl⟩
  have hq : ∀ sv cv w', VerOwn w.heap.size w0 w' ⟨x.slots ++ [sl], x.cols ++ [x.slots.length]⟩ sv cv → Below w.heap.size w w' → Q (.returned (.tuple #[.agg #[sv, cv], .bool true])) w' := by
    intro sv cv w' h1 h2
    rw [← hQ]; unfold RStepC; rw [hno]; exact ⟨⟨sv, cv, rfl, h1⟩, h2⟩
  have HQ := Lib.hid hq
  clear hq
  rw [hQ]
  clear hQ hno hod
  have d6 : decide (7 < (x.cols.length : Int)) = false := by simp; omega
  have h70 : Slot7 w0 sl (.string sl.nm) (.int .i64 sl.ty) (.bool sl.rq) q5 q6 q7 q8 := by
    obtain ⟨r2, r3, r4, r5, r6, r7, r8, ra, rc, e0, _, _, h70, _⟩ := hs0
    simp only [Value.agg.injEq, Array.mk.injEq, List.cons.injEq, and_true, true_and] at e0
    obtain ⟨rfl, rfl, rfl, rfl, rfl, rfl, rfl, _⟩ := e0
    exact h70
  have H7 := Lib.hid (show Slot7 w0 sl (.string sl.nm) (.int .i64 sl.ty) (.bool false) q5 q6 q7 q8 by rw [← hrq]; exact h70)
  simp only [hrq] at hR hSo ⊢
  obtain ⟨i0, hi, hi0, hi1', hi2'⟩ := info_parts info_slot
  obtain ⟨j0, hj, hj0, hj1, hj2⟩ := info_parts info_int
  clear hre hsz hlen hso hrq hinx hco
  have HV := Lib.hid hv
  clear hv
  go_enter Tryz.func69, Tryz.ntmps69
  go_wp2_with (first
    | (go_at_call 85; (with_reducible refine (hC _ ?_).mono ?_); rotate_left; rintro e w1 ⟨⟨sv, cv, rfl, hvo⟩, hb1⟩; obtain ⟨a6, c6, a7, c7', rfl, rfl⟩ := ver_form hvo; obtain ⟨hP, hq2, hq3⟩ := step_pre w0 w w1 x sa sc ca cc _ _ _ _ _ hb1 hvo; have HP := Lib.hid hP; clear hq2 hq3 hb1; obtain ⟨_, p2, _, p4, _⟩ := hP; obtain ⟨⟨y0, y1, y2, y3, y4⟩, y5, y6, y7, y8, y9⟩ := ten_cells p2)
    | (go_at_call 86; (with_reducible refine (hR _ (stepS_bel HP.out)).mono ?_); rintro e w2 ⟨rfl, hb2⟩; have HP2 := Lib.hid (stepS_below HP.out hb2); have HE := Lib.hid (step_end2 w w2 (w.heap.size + 1 + 1) _ _ (.slice a6 x.slots.length c6) (.slice a7 x.cols.length c7') (stepS_res HP2.out) (stepS_bel HP2.out) (by omega)); clear hb2; have hP2 := HP2.out; obtain ⟨_, p2', p3, p4', _⟩ := hP2; obtain ⟨⟨z0, z1, z2, z3, z4⟩, z5, z6, z7, z8, z9⟩ := ten_cells p2'; obtain ⟨r0, r1, r2, r3⟩ := two_all p3; obtain ⟨x0, x1, x2, x3⟩ := two_all p4')
    | (go_at_call 67; (with_reducible refine (hSo _ (stepS_bel HP2.out)).mono ?_); rintro e w3 ⟨rfl, hb3⟩; have HP3 := Lib.hid (stepS_below HP2.out hb3); have HE := Lib.hid (step_end2 w w3 (w.heap.size + 1 + 1) _ _ (.slice a6 x.slots.length c6) (.slice a7 x.cols.length c7') (stepS_res HP3.out) (stepS_bel HP3.out) (by omega)); clear hb3; have hP3 := HP3.out; obtain ⟨_, p2', p3, p4', _⟩ := hP3; obtain ⟨⟨z0, z1, z2, z3, z4⟩, z5, z6, z7, z8, z9⟩ := ten_cells p2'; obtain ⟨r0, r1, r2, r3⟩ := two_all p3; obtain ⟨x0, x1, x2, x3⟩ := two_all p4')
    | (go_at_call 68; (with_reducible refine (hCo _ _ _ _ _ (stepS_ver h0 HP3.out)).mono ?_); rintro e w4 ⟨rfl, hb4⟩; have HP4 := Lib.hid (stepS_below HP3.out hb4); have HE := Lib.hid (step_end2 w w4 (w.heap.size + 1 + 1) _ _ (.slice a6 x.slots.length c6) (.slice a7 x.cols.length c7') (stepS_res HP4.out) (stepS_bel HP4.out) (by omega)); clear hb4; have hP4 := HP4.out; obtain ⟨_, p2', p3, p4', _⟩ := hP4; obtain ⟨⟨z0, z1, z2, z3, z4⟩, z5, z6, z7, z8, z9⟩ := ten_cells p2'; obtain ⟨r0, r1, r2, r3⟩ := two_all p3; obtain ⟨x0, x1, x2, x3⟩ := two_all p4')
    | (at_builtin; have hA := stepR_below (stepR_of HP4.out) (Below.heapsize9 w4 (.cells #[.int .i64 (x.slots.length : Int)] 3)); have HA := Lib.hid hA; clear hA; (refine wpList_append_at _ rfl _ _ 35 rfl (w.heap.size + 1 + 1 + 1) 3 j0 (.int .i64 0) 1 8 Tryz.underlying35 hj hj0 hj1 hj2 rfl (by decide) (.slice a7 x.cols.length c7') x.cols.length _ rfl (stepR_cols HA.out) (some ⟨w4.heap.size, 0, none⟩) 1 1 [.int .i64 (x.slots.length : Int)] rfl ⟨rfl, .inr ⟨_, rfl, cells_new w4 [_] _⟩⟩ (by simp [Value.oneCell']) (by unfold maxLen; omega) (by omega) (stepR_size HA.out) ?_); intro v5 w5 ho5 hg5 ha5; obtain ⟨a5, c5, rfl⟩ := own_form9 ho5; obtain ⟨e5, hR5⟩ := stepR_col HA.out hg5 ha5 (x.cols ++ [x.slots.length]) (by simpa using ho5); have HR5 := Lib.hid hR5; clear ho5 hg5 ha5; obtain ⟨l0, l1, l2, l3⟩ := two_all e5; obtain ⟨_, d2, _, d4, _⟩ := hR5; obtain ⟨⟨v0, v1, v2, v3, v4⟩, v5, v6, v7, v8, v9⟩ := ten_cells d2; obtain ⟨v10, v11⟩ := two_cells d4; clear d2 d4 e5)
    | (at_builtin; have hU := stepR_below HR5.out (Below.heapsize9 _ (.cells #[.string sl.nm, .int .i64 sl.ty, .bool false, q5, q6, q7, q8] 44)); have HU := Lib.hid hU; clear hU; obtain ⟨cs, hcs, hsc⟩ := stepR_slots HU.out; (refine wpList_append_at _ rfl _ _ 22 rfl (w.heap.size + 1 + 1 + 1) 44 i0 _ 7 88 Tryz.underlying22 hi hi0 hi1' hi2' rfl (by decide) (.slice a6 x.slots.length c6) x.slots.length cs rfl hcs (some ⟨w5.heap.size, 0, none⟩) 1 1 [.string sl.nm, .int .i64 sl.ty, .bool false, q5, q6, q7, q8] rfl ⟨rfl, .inr ⟨_, rfl, cells_new_at (by simp) [_, _, _, _, _, _, _] _⟩⟩ (slot7_one H7.out) (by unfold maxLen; omega) (by omega) (stepR_size HU.out) ?_); intro v6 w6 ho6 hg6 ha6; obtain ⟨a8, c8', rfl⟩ := own_form9 ho6; obtain ⟨e6, hR6⟩ := stepR_slot HU.out hg6 ha6 (x.slots ++ [sl]) _ (sCells_append hsc (sCells_one H7.out)) (by simpa using ho6); have HR6 := Lib.hid hR6; have HE := Lib.hid (step_end2 w _ (w.heap.size + 1 + 1) _ _ (.slice a8 (x.slots.length + 1) c8') (.slice a5 (x.cols.length + 1) c5) hR6.2.2.1 hR6.2.2.2.2.1 (by omega)); clear ho6 hg6 ha6 hcs hsc; obtain ⟨k0, k1, k2, k3⟩ := two_all e6; obtain ⟨_, _, d3, d4, _⟩ := hR6; obtain ⟨k4, k5, k6, k7⟩ := two_all d3; obtain ⟨k8, k9⟩ := two_cells d4; clear d3 d4 e6))
  · refine bodyPost_ret (results_cell_tmp_row9 Tryz.results69 _ _ (w.heap.size + 1 + 1) _ _ _ _ rfl HE.out.1 Tryz.underlying37 rfl (by kernel_rfl)) rfl ?_
    exact HQ.out _ _ _ (stepR_end HR6.out) HE.out.2
  · exact (((Below.refl _ w).alloc (Nat.le_refl _) _).alloc (by simp) _).alloc (by simp; omega) _
end Go.Proofs.YtibjjclfonpibaaGreat

/- A region that draws its order, whose last operation (number z: it waits for all others) may turn what the loads of the others read: nothing is asked of the world behind z. -/
namespace Go.Proofs.YtibjjclfonpibaaGreat
open Go
section
variable {P : Program} {md : Region.Mode} {ops : Array Oper} {Q : Exit → Act → World → Prop} {S : World → Prop} {z : Nat}
/-- what is left of a region, z last -/
def LastZ (P : Program) (md : Region.Mode) (ops : Array Oper) (Q : Exit → Act → World → Prop) (S : World → Prop) (z : Nat) : Nat → Array Bool → Act → World → Prop
  | 0, L, a, w => Region.ready md ops L = [] ∧ Q .normal a w
  | n + 1, L, a, w => (Region.ready md ops L = [] → Q .normal a w) ∧ ∀ i, i ∈ Region.ready md ops L → wpOp P ops Q i (fun a' w' => LastZ P md ops Q S z n (L.setIfInBounds i true) a' w' ∧ (i = z ∨ S w')) a w
theorem lastZ_any (n : Nat) : ∀ (L : Array Bool) (a : Act) (w : World), LastZ P md ops Q S z n L a w → wpAny P md ops Q n L a w := by
  induction n with
  | zero => exact fun _ _ _ h => h
  | succ n ih => exact fun L a w h => ⟨h.1, fun i hi => wpOp_mono (fun a' w' k => ih _ a' w' k.1) (h.2 i hi)⟩
/-- does z wait for number i? -/
def waitsB (md : Region.Mode) (ops : Array Oper) (z i : Nat) : Bool := match ops[z]? with
  | some o => o.after.any fun e => Region.binds md e && e.on == i
  | none => true
theorem waits_not {i : Nat} {L : Array Bool} (hz : waitsB md ops z i = true) (hi : i ∈ Region.ready md ops L) : z ∉ Region.ready md ops L := by
  intro h
  obtain ⟨_, o, ho, hall⟩ := mem_ready.1 h
  rw [waitsB, ho] at hz
  obtain ⟨e, he, hb⟩ := Array.any_eq_true'.1 hz
  simp only [Bool.and_eq_true, beq_iff_eq] at hb
  have h1 := hall e he hb.1
  have h0 := (mem_ready.1 hi).1
  rw [hb.2] at h1
  rcases Nat.lt_or_ge i L.size with hl | hl
  · simp [hl] at h0 h1; rw [h0] at h1; cases h1
  · simp [Array.getElem?_eq_none hl] at h1
theorem lastZ_first {i : Nat} {oi : Oper} {v : Value} (hi : ops[i]? = some oi) (hsel : ∀ (j : Nat) (o : Oper) cs b, ops[j]? = some o → o.op ≠ .select cs b)
    (hQ : ∀ c a w, Q (.panic c) (a.put oi.dst v) w → Q (.panic c) a w) (hz : waitsB md ops z i = true) (n : Nat) : ∀ (L : Array Bool) (a : Act) (w : World),
      (∀ j oj, ops[j]? = some oj → j ≠ i → L.getD j true = false → (∀ e ∈ oj.after, Region.binds md e = true → e.on ≠ i) → oi.apart ops oj = true) →
      i ∈ Region.ready md ops L → YieldsIf P ops S oi v a → S w → LastZ P md ops Q S z n (L.setIfInBounds i true) (a.put oi.dst v) w → LastZ P md ops Q S z (n + 1) L a w := by
  have nil : ∀ {L : Array Bool} {p : Prop}, i ∈ Region.ready md ops L → Region.ready md ops L = [] → p := fun hr h => by rw [h] at hr; cases hr
  induction n with
  | zero =>
    intro L a w _ hr hy hS H
    refine ⟨nil hr, fun j hj => ?_⟩
    rcases Decidable.em (j = i) with rfl | hji
    · exact hy.wpOp hi hS ⟨H, .inr hS⟩
    · have h1 := ready_mono hj hji
      rw [H.1] at h1
      cases h1
  | succ n ih =>
    intro L a w hfree hr hy hS H
    refine ⟨nil hr, fun j hj => ?_⟩
    rcases Decidable.em (j = i) with rfl | hji
    · exact hy.wpOp hi hS ⟨H, .inr hS⟩
    · have hjz : j ≠ z := fun e => waits_not hz hr (e ▸ hj)
      obtain ⟨hun, oj, hoj, hall⟩ := mem_ready.1 hj
      have hno : ∀ e ∈ oj.after, Region.binds md e = true → e.on ≠ i := by
        intro e he hb heq
        have h1 := hall e he hb
        have h0 := (mem_ready.1 hr).1
        rw [heq] at h1
        rcases Nat.lt_or_ge i L.size with hl | hl
        · simp [hl] at h0 h1; rw [h0] at h1; cases h1
        · simp [Array.getElem?_eq_none hl] at h1
      have hstep := wpOp_putIf hoj (hfree j oj hoj hji hun hno) (fun cs b => hsel i oi cs b hi) (fun cs b => hsel j oj cs b hoj) hQ hy (H.2 j (ready_mono hj hji))
      refine wpOp_mono (fun a' w' k => ?_) hstep
      obtain ⟨ky, kl, ks⟩ := k
      have hS' := ks.resolve_left hjz
      refine ⟨ih _ a' w' (fun k ok hk hki hu hn => hfree k ok hk hki ?_ hn) (ready_mono hr (Ne.symm hji)) ky hS' ?_, .inr hS'⟩
      · rcases Decidable.em (j = k) with rfl | hjk
        · exact hun
        · rwa [getD_set_ne true hjk] at hu
      · rw [Array.setIfInBounds_comm _ _ hji]
        exact kl
/-- number i is taken first -/
theorem lastZ_take {i : Nat} {oi : Oper} {v : Value} {n : Nat} {L : Array Bool} {a : Act} {w : World} (hi : ops[i]? = some oi) (hs : Region.noSelect ops = true) (hf : Region.free md ops L i = true) (hr : (Region.ready md ops L).contains i = true) (hz : waitsB md ops z i = true)
    (hQ : ∀ c a w, Q (.panic c) (a.put oi.dst v) w → Q (.panic c) a w) (hy : YieldsIf P ops S oi v a) (hS : S w) (h : LastZ P md ops Q S z n (L.setIfInBounds i true) (a.put oi.dst v) w) : LastZ P md ops Q S z (n + 1) L a w :=
  lastZ_first hi (Region.noSelect_spec hs) hQ hz n L a w (Region.free_spec hi hf) (by simpa using hr) hy hS h
/-- one alone may come up -/
theorem lastZ_one {i : Nat} {o : Oper} {n : Nat} {L : Array Bool} {a : Act} {w : World} (hr : Region.ready md ops L = [i]) (ho : ops[i]? = some o)
    (h : ∀ K' : Act → World → Prop, Shut (∀ a w, (i = z ∨ S w) → LastZ P md ops Q S z n (L.setIfInBounds i true) a w → K' a w) → if Region.wanted o (yielded ops a.tmps) = true then Oper.wp P o a w K' Q else K' (a.put o.dst undef) w) : LastZ P md ops Q S z (n + 1) L a w := by
  refine ⟨fun h0 => (by rw [hr] at h0; cases h0), fun j hj => ?_⟩
  rw [hr] at hj
  obtain rfl := List.mem_singleton.1 hj
  exact wpOp_step ho fun K' hK => h K' (fun a w hS hL => hK a w ⟨hL, hS⟩)
/-- one of two may come up -/
theorem lastZ_two {i j : Nat} {o o' : Oper} {n : Nat} {L : Array Bool} {a : Act} {w : World} (hr : Region.ready md ops L = [i, j]) (ho : ops[i]? = some o) (ho' : ops[j]? = some o')
    (h : ∀ K' : Act → World → Prop, Shut (∀ a w, (i = z ∨ S w) → LastZ P md ops Q S z n (L.setIfInBounds i true) a w → K' a w) → if Region.wanted o (yielded ops a.tmps) = true then Oper.wp P o a w K' Q else K' (a.put o.dst undef) w)
    (h' : ∀ K' : Act → World → Prop, Shut (∀ a w, (j = z ∨ S w) → LastZ P md ops Q S z n (L.setIfInBounds j true) a w → K' a w) → if Region.wanted o' (yielded ops a.tmps) = true then Oper.wp P o' a w K' Q else K' (a.put o'.dst undef) w) : LastZ P md ops Q S z (n + 1) L a w := by
  refine ⟨fun h0 => (by rw [hr] at h0; cases h0), fun k hk => ?_⟩
  rw [hr] at hk
  rcases List.mem_cons.1 hk with rfl | hk
  · exact wpOp_step ho fun K' hK => h K' (fun a w hS hL => hK a w ⟨hL, hS⟩)
  · obtain rfl := List.mem_singleton.1 hk
    exact wpOp_step ho' fun K' hK => h' K' (fun a w hS hL => hK a w ⟨hL, hS⟩)
theorem lastZ_done {L : Array Bool} {a : Act} {w : World} (hr : Region.ready md ops L = []) (h : Q .normal a w) : ∀ n, LastZ P md ops Q S z n L a w
  | 0 => ⟨hr, h⟩
  | _ + 1 => ⟨fun _ => h, by rw [hr]; simp⟩
/-- the beginning, fuel and list written out -/
theorem wp_regionZ {id : Nat} {a : Act} {w : World} (z n : Nat) (L : Array Bool) (hn : ops.size = n) (hL : L = Array.replicate n false) (hm : P.follows .mixedOrders = true) (h : LastZ P .any ops Q S z n L a w.drew) : (Code.region id ops true).wp P Q a w := by
  subst hL; subst hn
  exact wp_region_any hm (lastZ_any _ _ _ _ h)
end
end Go.Proofs.YtibjjclfonpibaaGreat
