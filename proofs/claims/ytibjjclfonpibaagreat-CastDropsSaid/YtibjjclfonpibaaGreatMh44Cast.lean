/- The document's step of layer 10: what can't be done by its kind or by what its kind doesn't tell. -/
import Derived.Test.YtibjjclfonpibaaGreatMh42Cast
import Derived.Test.YtibjjclfonpibaaGreatMh43Cast
import Derived.Laws.ResultCell
set_option linter.unusedVariables false
set_option linter.unusedSimpArgs false
namespace Go.Proofs.YtibjjclfonpibaaGreat
open Go.RowKit Go.Shelf
def RStepC (w0 w : World) (x : Sc.Ver) (s : StepM) (e : Ending) (w' : World) : Prop := (match Sc.step x s with
  | none => ∃ a n c a' n' c', e = .returned (.tuple #[.agg #[.slice a n c, .slice a' n' c'], .bool false])
  | some y => ∃ sv cv, e = .returned (.tuple #[.agg #[sv, cv], .bool true]) ∧ VerOwn w.heap.size w0 w' y sv cv) ∧ Below w.heap.size w w'
/-- the worlds behind step's first two regions: the old version, the step, the result, the copy -/
def StepS (w0 w V : World) (x : Sc.Ver) (b6 : Nat) (o0 o1 : Value) (st : Array Value) (s6 c6 : Value) : Prop :=
  V.heap[w.heap.size]? = some (.cells #[o0, o1] 37 (0, 0)) ∧ V.heap[w.heap.size + 1]? = some (.cells st 66 (0, 0)) ∧ V.heap[w.heap.size + 1 + 1]? = some (.cells #[.slice none 0 0, .slice none 0 0] 37 (0, 0)) ∧
  V.heap[b6]? = some (.cells #[s6, c6] 37 (0, 0)) ∧ Below w.heap.size w V ∧ VerOwn (w.heap.size + 1 + 1 + 1) w0 V x s6 c6 ∧ w.heap.size + 1 + 1 < b6 ∧ (∀ b, s6.ownBlock = some b → b < b6) ∧ (∀ b, c6.ownBlock = some b → b < b6)
theorem step_pre (w0 w w1 : World) (x : Sc.Ver) (sa : Option Addr) (sc : Nat) (ca : Option Addr) (cc : Nat) (o0 o1 : Value) (st : Array Value) (s6 c6 : Value)
    (hb : Below (((w.alloc (.cells #[o0, o1] 37)).alloc (.cells st 66)).alloc (.cells #[.slice none 0 0, .slice none 0 0] 37)).heap.size (((w.alloc (.cells #[o0, o1] 37)).alloc (.cells st 66)).alloc (.cells #[.slice none 0 0, .slice none 0 0] 37)) w1)
    (hvo : VerOwn (((w.alloc (.cells #[o0, o1] 37)).alloc (.cells st 66)).alloc (.cells #[.slice none 0 0, .slice none 0 0] 37)).heap.size w0 w1 x s6 c6) :
    StepS w0 w (w1.alloc (.cells #[s6, c6] 37)) x w1.heap.size o0 o1 st s6 c6 ∧ w1.heap[w.heap.size + 1 + 1]? = some (.cells #[.slice none 0 0, .slice none 0 0] 37 (0, 0)) ∧ Below w.heap.size w w1 := by
  have e1 : (w.alloc (.cells #[o0, o1] 37)).heap.size = w.heap.size + 1 := World.size_alloc _ _
  have e2 : ((w.alloc (.cells #[o0, o1] 37)).alloc (.cells st 66)).heap.size = w.heap.size + 1 + 1 := by rw [World.size_alloc, e1]
  have e3 : (((w.alloc (.cells #[o0, o1] 37)).alloc (.cells st 66)).alloc (.cells #[.slice none 0 0, .slice none 0 0] 37)).heap.size = w.heap.size + 1 + 1 + 1 := by rw [World.size_alloc, e2]
  rw [e3] at hb hvo
  have hB3 : Below w.heap.size w (((w.alloc (.cells #[o0, o1] 37)).alloc (.cells st 66)).alloc (.cells #[.slice none 0 0, .slice none 0 0] 37)) := (((Below.refl _ w).alloc (Nat.le_refl _) _).alloc (by omega) _).alloc (by omega) _
  have hB1 : Below w.heap.size w w1 := hB3.trans (hb.mono (by omega))
  have hz : w.heap.size + 1 + 1 + 1 ≤ w1.heap.size := by have := hb.size; omega
  have g0 : w1.heap[w.heap.size]? = some (.cells #[o0, o1] 37 (0, 0)) := (hb.block _ (by omega)).trans ((Below.heap_alloc _ _ _ (by omega)).trans ((Below.heap_alloc _ _ _ (by omega)).trans (heap_self9 w _)))
  have g1 : w1.heap[w.heap.size + 1]? = some (.cells st 66 (0, 0)) := (hb.block _ (by omega)).trans ((Below.heap_alloc _ _ _ (by omega)).trans (e1 ▸ heap_self9 (w.alloc (.cells #[o0, o1] 37)) _))
  have g2 : w1.heap[w.heap.size + 1 + 1]? = some (.cells #[.slice none 0 0, .slice none 0 0] 37 (0, 0)) := (hb.block _ (by omega)).trans (e2 ▸ heap_self9 ((w.alloc (.cells #[o0, o1] 37)).alloc (.cells st 66)) _)
  have k0 := World.grownBy_alloc w1 (.cells #[s6, c6] 37) none
  have far : ∀ b o, b < w1.heap.size → w1.heap[b]? = some o → (w1.alloc (.cells #[s6, c6] 37)).heap[b]? = some o := fun b o hlt h => (k0.block b hlt (by simp)).trans h
  obtain ⟨cs, p1, p2, p3, p4⟩ := hvo
  have q1 := fun b e => (own_blk9 p1 b e).1
  have q3 := fun b e => (own_blk9 p3 b e).1
  exact ⟨⟨far _ _ (by omega) g0, far _ _ (by omega) g1, far _ _ (by omega) g2, heap_self9 w1 _, below_grown9 hB1 k0 (fun b e => by cases e) (by omega), ⟨cs, own_kept9 p1 k0 (fun b e => by cases e), p2, own_kept9 p3 k0 (fun b e => by cases e), p4⟩, by omega, q1, q3⟩, g2, hB1⟩
/-- the result is stored: the world behind it -/
theorem step_end (w w1 : World) (b6 : Nat) (u0 u1 s6 c6 : Value) (o : Obj) (h : w1.heap[b6]? = some (.cells #[u0, u1] 37 (0, 0))) (hb : Below w.heap.size w w1) (hlt : w.heap.size ≤ b6) :
    (((w1.setCell ⟨b6, 0, none⟩ s6).setCell ⟨b6, 1, none⟩ c6).alloc o).heap[b6]? = some (.cells #[s6, c6] 37 (0, 0)) ∧ Below w.heap.size w (((w1.setCell ⟨b6, 0, none⟩ s6).setCell ⟨b6, 1, none⟩ c6).alloc o) := by
  have k1 := grown_set9 w1 b6 0 s6
  have k2 := grown_set9 (w1.setCell ⟨b6, 0, none⟩ s6) b6 1 c6
  have z1 := k1.size
  have z2 := k2.size
  have hs := hb.size
  have h2 := set_two9 h s6 c6
  have hB := below_grown9 (below_grown9 hb k1 (fun b e => by injection e with e; omega) hs) k2 (fun b e => by injection e with e; omega) (by omega)
  exact ⟨(Below.heap_alloc _ _ _ (Array.getElem?_eq_some_iff.1 h2).1).trans h2, hB.alloc (by omega) o⟩
theorem results_cell_tmp_row9 {P : Program} {fn : Func} {p u : Tmp} {ty : TypeId} (h : fn.results = #[.cell p ty, .tmp u]) (tmps : Array Value) (w : World) (g : Nat) (t : TypeId) (cs : Array Value) (fr : Nat × Nat) (d : TypeDesc)
    (hp : tmps.getD p undef = .pointer (some ⟨g, 0, none⟩)) (hg : w.heap[g]? = some (.cells cs t fr))
    (hu : P.underlying ty = some d) (hd : (match d with | .struct _ | .array _ _ => true | _ => false) = true) (hi : (P.info? ty).map (·.size) = some cs.size) :
    (results fn tmps).run P w = .ok (.tuple #[.agg cs, tmps.getD u undef]) w := by
  rw [results_cell_tmp h, hp]
  simp [asAddr, run_loadVar_row w g t ty cs fr d hg hu hd hi, Result.andThen]
theorem ver_form {B : Nat} {w0 W : World} {x : Sc.Ver} {sv cv : Value} (h : VerOwn B w0 W x sv cv) : ∃ a c a' c', sv = .slice a x.slots.length c ∧ cv = .slice a' x.cols.length c' := by
  obtain ⟨cs, p1, _, p3, _⟩ := h
  obtain ⟨a, c, rfl⟩ := own_form9 p1
  obtain ⟨a', c', rfl⟩ := own_form9 p3
  exact ⟨a, c, a', c', rfl, rfl⟩
theorem ten_cells {W : World} {b : Nat} {c0 c1 c2 c3 c4 c5 c6 c7 c8 c9 : Value} {t : TypeId} (h : W.heap[b]? = some (.cells #[c0, c1, c2, c3, c4, c5, c6, c7, c8, c9] t (0, 0))) :
    (W.cell? ⟨b, 0, none⟩ = some c0 ∧ W.cell? ⟨b, 1, none⟩ = some c1 ∧ W.cell? ⟨b, 2, none⟩ = some c2 ∧ W.cell? ⟨b, 3, none⟩ = some c3 ∧ W.cell? ⟨b, 4, none⟩ = some c4) ∧ (W.cell? ⟨b, 5, none⟩ = some c5 ∧ W.cell? ⟨b, 6, none⟩ = some c6 ∧ W.cell? ⟨b, 7, none⟩ = some c7 ∧ W.cell? ⟨b, 8, none⟩ = some c8 ∧ W.cell? ⟨b, 9, none⟩ = some c9) := by
  refine ⟨⟨?_, ?_, ?_, ?_, ?_⟩, ?_, ?_, ?_, ?_, ?_⟩ <;> simp [World.cell?, h]
set_option maxRecDepth 100000 in
set_option maxHeartbeats 4000000 in
theorem refStep_kind (x : Sc.Ver) (s : StepM) (sa : Option Addr) (sc : Nat) (ca : Option Addr) (cc : Nat) (w0 w : World) (T : Value) (hsl : x.slots.length ≤ 100000) (hcl : x.cols.length ≤ 100000) (hv : VerInA w0 w x sa sc ca cc) (hs0 : RIsStep w0 s T) (h0 : Below w0.heap.size w0 w) (hk : s.kd < 1) :
    Calls Tryz.prog 69 #[.agg #[.slice sa x.slots.length sc, .slice ca x.cols.length cc], T] w (RStepC w0 w x s) := by
  have hs := rIsStep_below h0 hs0
  have hC := fun W (hb : Below w.heap.size w W) => refCopy_in x sa sc ca cc w0 w W hsl hcl hv hb
  obtain ⟨kd, col, sl, od⟩ := s
  obtain ⟨c2, c3, c4, c5, c6, c7, c8, oa, oc, rfl, hi1, hi2, h7, hod, _⟩ := hs
  simp only at hk hi1 hi2 ⊢
  have hno : Sc.step x ⟨kd, col, sl, od⟩ = none := by
    unfold Sc.step
    simp only
    split
    · rfl
    · rw [if_neg (by omega), if_neg (by omega), if_pos (by omega)]
  obtain ⟨Q, hQ⟩ : ∃ Q, RStepC w0 w x ⟨kd, col, sl, od⟩ = Q := ⟨_, rfl⟩
  have hq : ∀ (a : Option Addr) (n c : Nat) (a' : Option Addr) (n' c' : Nat) (w' : World), Below w.heap.size w w' → Q (.returned (.tuple #[.agg #[.slice a n c, .slice a' n' c'], .bool false])) w' := by
    intro a n c a' n' c' w' hb
    rw [← hQ]; unfold RStepC; rw [hno]; exact ⟨⟨a, n, c, a', n', c', rfl⟩, hb⟩
  have HQ := Lib.hid hq
  clear hq
  rw [hQ]
  clear hQ hno h7 hod
  have d0 : decide (kd < 1) = true := by simpa using hk
  have HV := Lib.hid hv
  clear hv hk
  go_enter Tryz.func69, Tryz.ntmps69
  go_wp2_with (first | (go_at_call 85; (with_reducible refine (hC _ ?_).mono ?_); rotate_left; rintro e w1 ⟨⟨sv, cv, rfl, hvo⟩, hb1⟩; obtain ⟨a6, c6, a7, c7', rfl, rfl⟩ := ver_form hvo; obtain ⟨hP, hq2, hq3⟩ := step_pre w0 w w1 x sa sc ca cc _ _ _ _ _ hb1 hvo; obtain ⟨t0, t1, t2, t3⟩ := two_all hq2; have hE := step_end w w1 (w.heap.size + 1 + 1) _ _ (.slice a6 x.slots.length c6) (.slice a7 x.cols.length c7') (.cells #[.slice a6 x.slots.length c6, .slice a7 x.cols.length c7'] 37) hq2 hq3 (by omega); have HE := Lib.hid hE; clear hq2 hq3 hE hb1; have HP := Lib.hid hP; obtain ⟨_, p2, p3, p4, _⟩ := hP; obtain ⟨⟨y0, y1, _⟩, _⟩ := ten_cells p2; obtain ⟨r0, r1, r2, r3⟩ := two_all p3; obtain ⟨x0, x1, x2, x3⟩ := two_all p4))
  · refine bodyPost_ret (results_cell_tmp_row9 Tryz.results69 _ _ (w.heap.size + 1 + 1) _ _ _ _ rfl HE.out.1 Tryz.underlying37 rfl (by kernel_rfl)) rfl ?_
    exact HQ.out _ _ _ _ _ _ _ HE.out.2
  · exact (((Below.refl _ w).alloc (Nat.le_refl _) _).alloc (by simp) _).alloc (by simp; omega) _
end Go.Proofs.YtibjjclfonpibaaGreat

/- The document's step of layer 10: what can't be done by its kind or by what its kind doesn't tell, more. -/
set_option linter.unusedVariables false
set_option linter.unusedSimpArgs false
namespace Go.Proofs.YtibjjclfonpibaaGreat
open Go.RowKit Go.Shelf
theorem stepS_below {w0 w V V' : World} {x : Sc.Ver} {b6 : Nat} {o0 o1 s6 c6 : Value} {st : Array Value} (h : StepS w0 w V x b6 o0 o1 st s6 c6) (hb : Below V.heap.size V V') : StepS w0 w V' x b6 o0 o1 st s6 c6 := by
  obtain ⟨g0, g1, g2, g3, g4, ⟨cs, p1, p2, p3, p4⟩, h1, h2, h3⟩ := h
  have k := fun b o (hb0 : V.heap[b]? = some o) => (hb.block b (Array.getElem?_eq_some_iff.1 hb0).1).trans hb0
  have kg : V.grownBy V' none := by
    obtain ⟨a1, a2, a3, a4, a5⟩ := hb
    exact ⟨a1, a2, a3, a4, fun j hj _ => a5 j hj⟩
  exact ⟨k _ _ g0, k _ _ g1, k _ _ g2, k _ _ g3, below_grown9 g4 kg (fun b e => by cases e) g4.size, ⟨cs, own_kept9 p1 kg (fun b e => by cases e), p2, own_kept9 p3 kg (fun b e => by cases e), p4⟩, h1, h2, h3⟩
theorem stepS_bel {w0 w V : World} {x : Sc.Ver} {b6 : Nat} {o0 o1 s6 c6 : Value} {st : Array Value} (h : StepS w0 w V x b6 o0 o1 st s6 c6) : Below w.heap.size w V := h.2.2.2.2.1
theorem stepS_res {w0 w V : World} {x : Sc.Ver} {b6 : Nat} {o0 o1 s6 c6 : Value} {st : Array Value} (h : StepS w0 w V x b6 o0 o1 st s6 c6) : V.heap[w.heap.size + 1 + 1]? = some (.cells #[.slice none 0 0, .slice none 0 0] 37 (0, 0)) := h.2.2.1
theorem step_end2 (w w1 : World) (b6 : Nat) (u0 u1 s6 c6 : Value) (h : w1.heap[b6]? = some (.cells #[u0, u1] 37 (0, 0))) (hb : Below w.heap.size w w1) (hlt : w.heap.size ≤ b6) :
    ((w1.setCell ⟨b6, 0, none⟩ s6).setCell ⟨b6, 1, none⟩ c6).heap[b6]? = some (.cells #[s6, c6] 37 (0, 0)) ∧ Below w.heap.size w ((w1.setCell ⟨b6, 0, none⟩ s6).setCell ⟨b6, 1, none⟩ c6) := by
  have k1 := grown_set9 w1 b6 0 s6
  have k2 := grown_set9 (w1.setCell ⟨b6, 0, none⟩ s6) b6 1 c6
  have z1 := k1.size
  have hs := hb.size
  exact ⟨set_two9 h s6 c6, below_grown9 (below_grown9 hb k1 (fun b e => by injection e with e; omega) hs) k2 (fun b e => by injection e with e; omega) (by omega)⟩
set_option maxRecDepth 100000 in
set_option maxHeartbeats 4000000 in
theorem refStep_kind5 (x : Sc.Ver) (s : StepM) (sa : Option Addr) (sc : Nat) (ca : Option Addr) (cc : Nat) (w0 w : World) (T : Value) (hsl : x.slots.length ≤ 100000) (hcl : x.cols.length ≤ 100000) (hv : VerInA w0 w x sa sc ca cc) (hs0 : RIsStep w0 s T) (h0 : Below w0.heap.size w0 w) (hk : 5 < s.kd) :
    Calls Tryz.prog 69 #[.agg #[.slice sa x.slots.length sc, .slice ca x.cols.length cc], T] w (RStepC w0 w x s) := by
  have hs := rIsStep_below h0 hs0
  have hC := fun W (hb : Below w.heap.size w W) => refCopy_in x sa sc ca cc w0 w W hsl hcl hv hb
  obtain ⟨kd, col, sl, od⟩ := s
  obtain ⟨c2, c3, c4, c5, c6, c7, c8, oa, oc, rfl, hi1, hi2, h7, hod, _⟩ := hs
  simp only at hk hi1 hi2 ⊢
  have hno : Sc.step x ⟨kd, col, sl, od⟩ = none := by
    unfold Sc.step
    simp only
    split
    · rfl
    · rw [if_neg (by omega), if_neg (by omega), if_pos (by omega)]
  obtain ⟨Q, hQ⟩ : ∃ Q, RStepC w0 w x ⟨kd, col, sl, od⟩ = Q := ⟨_, rfl⟩
  have hq : ∀ (a : Option Addr) (n c : Nat) (a' : Option Addr) (n' c' : Nat) (w' : World), Below w.heap.size w w' → Q (.returned (.tuple #[.agg #[.slice a n c, .slice a' n' c'], .bool false])) w' := by
    intro a n c a' n' c' w' hb
    rw [← hQ]; unfold RStepC; rw [hno]; exact ⟨⟨a, n, c, a', n', c', rfl⟩, hb⟩
  have HQ := Lib.hid hq
  clear hq
  rw [hQ]
  clear hQ hno h7 hod
  have d0 : decide (kd < 1) = false := by simp; omega
  have d1 : decide (5 < kd) = true := by simpa using hk
  have HV := Lib.hid hv
  clear hv hk
  go_enter Tryz.func69, Tryz.ntmps69
  go_wp2_with (first | (go_at_call 85; (with_reducible refine (hC _ ?_).mono ?_); rotate_left; rintro e w1 ⟨⟨sv, cv, rfl, hvo⟩, hb1⟩; obtain ⟨a6, c6, a7, c7', rfl, rfl⟩ := ver_form hvo; obtain ⟨hP, hq2, hq3⟩ := step_pre w0 w w1 x sa sc ca cc _ _ _ _ _ hb1 hvo; obtain ⟨t0, t1, t2, t3⟩ := two_all hq2; have hE := step_end w w1 (w.heap.size + 1 + 1) _ _ (.slice a6 x.slots.length c6) (.slice a7 x.cols.length c7') (.cells #[.slice a6 x.slots.length c6, .slice a7 x.cols.length c7'] 37) hq2 hq3 (by omega); have HE := Lib.hid hE; clear hq2 hq3 hE hb1; have HP := Lib.hid hP; obtain ⟨_, p2, p3, p4, _⟩ := hP; obtain ⟨⟨y0, y1, _⟩, _⟩ := ten_cells p2; obtain ⟨r0, r1, r2, r3⟩ := two_all p3; obtain ⟨x0, x1, x2, x3⟩ := two_all p4))
  · refine bodyPost_ret (results_cell_tmp_row9 Tryz.results69 _ _ (w.heap.size + 1 + 1) _ _ _ _ rfl HE.out.1 Tryz.underlying37 rfl (by kernel_rfl)) rfl ?_
    exact HQ.out _ _ _ _ _ _ _ HE.out.2
  · exact (((Below.refl _ w).alloc (Nat.le_refl _) _).alloc (by simp) _).alloc (by simp; omega) _
set_option maxRecDepth 100000 in
set_option maxHeartbeats 4000000 in
theorem refStep_rest (x : Sc.Ver) (s : StepM) (sa : Option Addr) (sc : Nat) (ca : Option Addr) (cc : Nat) (w0 w : World) (T : Value) (hsl : x.slots.length ≤ 100000) (hcl : x.cols.length ≤ 100000) (hv : VerInA w0 w x sa sc ca cc) (hs0 : RIsStep w0 s T) (h0 : Below w0.heap.size w0 w) (hk : 1 ≤ s.kd ∧ s.kd ≤ 5) (hre : Sc.rest s = false) :
    Calls Tryz.prog 69 #[.agg #[.slice sa x.slots.length sc, .slice ca x.cols.length cc], T] w (RStepC w0 w x s) := by
  have hs := rIsStep_below h0 hs0
  have hC := fun W (hb : Below w.heap.size w W) => refCopy_in x sa sc ca cc w0 w W hsl hcl hv hb
  have hR := fun W (hb : Below w.heap.size w W) => refRest_any s W T (rIsStep_below hb hs)
  rw [hre] at hR
  obtain ⟨kd, col, sl, od⟩ := s
  obtain ⟨c2, c3, c4, c5, c6, c7, c8, oa, oc, rfl, hi1, hi2, h7, hod, _⟩ := hs
  simp only at hk hi1 hi2 hre ⊢
  have hno : Sc.step x ⟨kd, col, sl, od⟩ = none := by
    unfold Sc.step
    simp only
    rw [if_pos hre]
  obtain ⟨Q, hQ⟩ : ∃ Q, RStepC w0 w x ⟨kd, col, sl, od⟩ = Q := ⟨_, rfl⟩
  have hq : ∀ (a : Option Addr) (n c : Nat) (a' : Option Addr) (n' c' : Nat) (w' : World), Below w.heap.size w w' → Q (.returned (.tuple #[.agg #[.slice a n c, .slice a' n' c'], .bool false])) w' := by
    intro a n c a' n' c' w' hb
    rw [← hQ]; unfold RStepC; rw [hno]; exact ⟨⟨a, n, c, a', n', c', rfl⟩, hb⟩
  have HQ := Lib.hid hq
  clear hq
  rw [hQ]
  clear hQ hno h7 hod
  have d0 : decide (kd < 1) = false := by simp; omega
  have d1 : decide (5 < kd) = false := by simp; omega
  clear hre
  have HV := Lib.hid hv
  clear hv hk
  go_enter Tryz.func69, Tryz.ntmps69
  go_wp2_with (first
    | (go_at_call 85; (with_reducible refine (hC _ ?_).mono ?_); rotate_left; rintro e w1 ⟨⟨sv, cv, rfl, hvo⟩, hb1⟩; obtain ⟨a6, c6, a7, c7', rfl, rfl⟩ := ver_form hvo; obtain ⟨hP, hq2, hq3⟩ := step_pre w0 w w1 x sa sc ca cc _ _ _ _ _ hb1 hvo; have HP := Lib.hid hP; clear hq2 hq3 hb1; obtain ⟨_, p2, _, p4, _⟩ := hP; obtain ⟨⟨y0, y1, y2, y3, y4⟩, y5, y6, y7, y8, y9⟩ := ten_cells p2)
    | (go_at_call 86; (with_reducible refine (hR _ (stepS_bel HP.out)).mono ?_); rintro e w2 ⟨rfl, hb2⟩; have hP2 := stepS_below HP.out hb2; have hE := step_end2 w w2 (w.heap.size + 1 + 1) _ _ (.slice a6 x.slots.length c6) (.slice a7 x.cols.length c7') (stepS_res hP2) (stepS_bel hP2) (by omega); have HE := Lib.hid hE; clear hE hb2; obtain ⟨_, _, p3, p4', _⟩ := hP2; obtain ⟨r0, r1, r2, r3⟩ := two_all p3; obtain ⟨x0, x1, x2, x3⟩ := two_all p4'))
  · refine bodyPost_ret (results_cell_tmp_row9 Tryz.results69 _ _ (w.heap.size + 1 + 1) _ _ _ _ rfl HE.out.1 Tryz.underlying37 rfl (by kernel_rfl)) rfl ?_
    exact HQ.out _ _ _ _ _ _ _ HE.out.2
  · exact (((Below.refl _ w).alloc (Nat.le_refl _) _).alloc (by simp) _).alloc (by simp; omega) _
end Go.Proofs.YtibjjclfonpibaaGreat

/- The document's step of layer 10: a column that isn't there. -/
set_option linter.unusedVariables false
set_option linter.unusedSimpArgs false
namespace Go.Proofs.YtibjjclfonpibaaGreat
open Go.RowKit Go.Shelf
set_option maxRecDepth 100000 in
set_option maxHeartbeats 4000000 in
theorem refStep_low (x : Sc.Ver) (s : StepM) (sa : Option Addr) (sc : Nat) (ca : Option Addr) (cc : Nat) (w0 w : World) (T : Value) (hsl : x.slots.length ≤ 100000) (hcl : x.cols.length ≤ 100000) (hv : VerInA w0 w x sa sc ca cc) (hs0 : RIsStep w0 s T) (h0 : Below w0.heap.size w0 w) (hk : 2 ≤ s.kd ∧ s.kd ≤ 4) (hre : Sc.rest s = true) (hco : s.col < 0) :
    Calls Tryz.prog 69 #[.agg #[.slice sa x.slots.length sc, .slice ca x.cols.length cc], T] w (RStepC w0 w x s) := by
  have hs := rIsStep_below h0 hs0
  have hC := fun W (hb : Below w.heap.size w W) => refCopy_in x sa sc ca cc w0 w W hsl hcl hv hb
  have hR := fun W (hb : Below w.heap.size w W) => refRest_any s W T (rIsStep_below hb hs)
  rw [hre] at hR
  obtain ⟨kd, col, sl, od⟩ := s
  obtain ⟨c2, c3, c4, c5, c6, c7, c8, oa, oc, rfl, hi1, hi2, h7, hod, _⟩ := hs
  simp only at hk hi1 hi2 hre hco ⊢
  have hno : Sc.step x ⟨kd, col, sl, od⟩ = none := by
    unfold Sc.step
    simp only
    rw [if_neg (by rw [hre]; simp), if_neg (by omega), if_neg (by omega), if_pos (by omega)]
  obtain ⟨Q, hQ⟩ : ∃ Q, RStepC w0 w x ⟨kd, col, sl, od⟩ = Q := ⟨_, rfl⟩
  have hq : ∀ (a : Option Addr) (n c : Nat) (a' : Option Addr) (n' c' : Nat) (w' : World), Below w.heap.size w w' → Q (.returned (.tuple #[.agg #[.slice a n c, .slice a' n' c'], .bool false])) w' := by
    intro a n c a' n' c' w' hb
    rw [← hQ]; unfold RStepC; rw [hno]; exact ⟨⟨a, n, c, a', n', c', rfl⟩, hb⟩
  have HQ := Lib.hid hq
  clear hq
  rw [hQ]
  clear hQ hno h7 hod
  have d0 : decide (kd < 1) = false := by simp; omega
  have d1 : decide (5 < kd) = false := by simp; omega
  have d2 : decide (1 < kd) = true := by simp; omega
  have d3 : decide (kd < 5) = true := by simp; omega
  have d4 : decide (col < 0) = true := by simpa using hco
  clear hre hco
  have HV := Lib.hid hv
  clear hv hk
  go_enter Tryz.func69, Tryz.ntmps69
  go_wp2_with (first
    | (go_at_call 85; (with_reducible refine (hC _ ?_).mono ?_); rotate_left; rintro e w1 ⟨⟨sv, cv, rfl, hvo⟩, hb1⟩; obtain ⟨a6, c6, a7, c7', rfl, rfl⟩ := ver_form hvo; obtain ⟨hP, hq2, hq3⟩ := step_pre w0 w w1 x sa sc ca cc _ _ _ _ _ hb1 hvo; have HP := Lib.hid hP; clear hq2 hq3 hb1; obtain ⟨_, p2, _, p4, _⟩ := hP; obtain ⟨⟨y0, y1, y2, y3, y4⟩, y5, y6, y7, y8, y9⟩ := ten_cells p2)
    | (go_at_call 86; (with_reducible refine (hR _ (stepS_bel HP.out)).mono ?_); rintro e w2 ⟨rfl, hb2⟩; have hP2 := stepS_below HP.out hb2; have hE := step_end2 w w2 (w.heap.size + 1 + 1) _ _ (.slice a6 x.slots.length c6) (.slice a7 x.cols.length c7') (stepS_res hP2) (stepS_bel hP2) (by omega); have HE := Lib.hid hE; clear hE hb2; obtain ⟨_, p2', p3, p4', _⟩ := hP2; obtain ⟨⟨z0, z1, z2, z3, z4⟩, z5, z6, z7, z8, z9⟩ := ten_cells p2'; obtain ⟨r0, r1, r2, r3⟩ := two_all p3; obtain ⟨x0, x1, x2, x3⟩ := two_all p4'))
  · refine bodyPost_ret (results_cell_tmp_row9 Tryz.results69 _ _ (w.heap.size + 1 + 1) _ _ _ _ rfl HE.out.1 Tryz.underlying37 rfl (by kernel_rfl)) rfl ?_
    exact HQ.out _ _ _ _ _ _ _ HE.out.2
  · exact (((Below.refl _ w).alloc (Nat.le_refl _) _).alloc (by simp) _).alloc (by simp; omega) _
set_option maxRecDepth 100000 in
set_option maxHeartbeats 4000000 in
theorem refStep_high (x : Sc.Ver) (s : StepM) (sa : Option Addr) (sc : Nat) (ca : Option Addr) (cc : Nat) (w0 w : World) (T : Value) (hsl : x.slots.length ≤ 100000) (hcl : x.cols.length ≤ 100000) (hv : VerInA w0 w x sa sc ca cc) (hs0 : RIsStep w0 s T) (h0 : Below w0.heap.size w0 w) (hk : 2 ≤ s.kd ∧ s.kd ≤ 4) (hre : Sc.rest s = true) (hco : (x.cols.length : Int) ≤ s.col) :
    Calls Tryz.prog 69 #[.agg #[.slice sa x.slots.length sc, .slice ca x.cols.length cc], T] w (RStepC w0 w x s) := by
  have hs := rIsStep_below h0 hs0
  have hC := fun W (hb : Below w.heap.size w W) => refCopy_in x sa sc ca cc w0 w W hsl hcl hv hb
  have hR := fun W (hb : Below w.heap.size w W) => refRest_any s W T (rIsStep_below hb hs)
  rw [hre] at hR
  obtain ⟨kd, col, sl, od⟩ := s
  obtain ⟨c2, c3, c4, c5, c6, c7, c8, oa, oc, rfl, hi1, hi2, h7, hod, _⟩ := hs
  simp only at hk hi1 hi2 hre hco ⊢
  have hno : Sc.step x ⟨kd, col, sl, od⟩ = none := by
    unfold Sc.step
    simp only
    rw [if_neg (by rw [hre]; simp), if_neg (by omega), if_neg (by omega), if_pos (by omega)]
  obtain ⟨Q, hQ⟩ : ∃ Q, RStepC w0 w x ⟨kd, col, sl, od⟩ = Q := ⟨_, rfl⟩
  have hq : ∀ (a : Option Addr) (n c : Nat) (a' : Option Addr) (n' c' : Nat) (w' : World), Below w.heap.size w w' → Q (.returned (.tuple #[.agg #[.slice a n c, .slice a' n' c'], .bool false])) w' := by
    intro a n c a' n' c' w' hb
    rw [← hQ]; unfold RStepC; rw [hno]; exact ⟨⟨a, n, c, a', n', c', rfl⟩, hb⟩
  have HQ := Lib.hid hq
  clear hq
  rw [hQ]
  clear hQ hno h7 hod
  have d0 : decide (kd < 1) = false := by simp; omega
  have d1 : decide (5 < kd) = false := by simp; omega
  have d2 : decide (1 < kd) = true := by simp; omega
  have d3 : decide (kd < 5) = true := by simp; omega
  have d4 : decide (col < 0) = false := by simp; omega
  have d5 : decide ((x.cols.length : Int) ≤ col) = true := by simpa using hco
  clear hre hco
  have HV := Lib.hid hv
  clear hv hk
  go_enter Tryz.func69, Tryz.ntmps69
  go_wp2_with (first
    | (go_at_call 85; (with_reducible refine (hC _ ?_).mono ?_); rotate_left; rintro e w1 ⟨⟨sv, cv, rfl, hvo⟩, hb1⟩; obtain ⟨a6, c6, a7, c7', rfl, rfl⟩ := ver_form hvo; obtain ⟨hP, hq2, hq3⟩ := step_pre w0 w w1 x sa sc ca cc _ _ _ _ _ hb1 hvo; have HP := Lib.hid hP; clear hq2 hq3 hb1; obtain ⟨_, p2, _, p4, _⟩ := hP; obtain ⟨⟨y0, y1, y2, y3, y4⟩, y5, y6, y7, y8, y9⟩ := ten_cells p2)
    | (go_at_call 86; (with_reducible refine (hR _ (stepS_bel HP.out)).mono ?_); rintro e w2 ⟨rfl, hb2⟩; have hP2 := stepS_below HP.out hb2; have hE := step_end2 w w2 (w.heap.size + 1 + 1) _ _ (.slice a6 x.slots.length c6) (.slice a7 x.cols.length c7') (stepS_res hP2) (stepS_bel hP2) (by omega); have HE := Lib.hid hE; clear hE hb2; obtain ⟨_, p2', p3, p4', _⟩ := hP2; obtain ⟨⟨z0, z1, z2, z3, z4⟩, z5, z6, z7, z8, z9⟩ := ten_cells p2'; obtain ⟨r0, r1, r2, r3⟩ := two_all p3; obtain ⟨x0, x1, x2, x3⟩ := two_all p4'))
  · refine bodyPost_ret (results_cell_tmp_row9 Tryz.results69 _ _ (w.heap.size + 1 + 1) _ _ _ _ rfl HE.out.1 Tryz.underlying37 rfl (by kernel_rfl)) rfl ?_
    exact HQ.out _ _ _ _ _ _ _ HE.out.2
  · exact (((Below.refl _ w).alloc (Nat.le_refl _) _).alloc (by simp) _).alloc (by simp; omega) _
end Go.Proofs.YtibjjclfonpibaaGreat
