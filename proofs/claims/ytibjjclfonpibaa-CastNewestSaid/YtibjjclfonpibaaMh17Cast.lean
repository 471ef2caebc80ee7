/- Records of one version as those of another one: the mathematics (no walk). -/
import Derived.Test.YtibjjclfonpibaaMh16Cast
import Derived.Test.YtibjjclfonpibaaMh15Cast
import Derived.Test.YtibjjclfonpibaaMh12Cast
import Derived.Deep.DeepCutAuto
import Derived.BigQuiet
set_option linter.unusedVariables false
set_option linter.unusedSimpArgs false
namespace Go.Proofs.Ytibjjclfonpibaa
open Go.RowKit Go.Shelf
namespace Sc
theorem has_bit (a k : Nat) : has a k = a.testBit k := by
  unfold has
  rw [Nat.testBit_eq_decide_div_mod_eq]
theorem fits_or {a b : Nat} {v : PV} (h : fits (a : Int) v = true) : fits ((a ||| b : Nat) : Int) v = true := by
  unfold fits at h ⊢
  simp only [Bool.and_eq_true, Int.toNat_natCast, has_bit] at h ⊢
  refine ⟨h.1, ?_⟩
  rw [Nat.testBit_or, h.2, Bool.true_or]
/-- each slot's Def fits it -/
def DfOk (x : Ver) : Prop := ∀ s ∈ x.slots, fits s.ty s.df = true
/-- a later version has all the slots, each with its Def, and takes all that they took -/
def Grows (x y : Ver) : Prop := ∀ (i : Nat) (s : SlotM), x.slots[i]? = some s → ∃ s', y.slots[i]? = some s' ∧ s'.df = s.df ∧ ∀ v, fits s.ty v = true → fits s'.ty v = true
theorem grows_refl (x : Ver) : Grows x x := fun _ s h => ⟨s, h, rfl, fun _ h => h⟩
theorem grows_trans {x y z : Ver} (h : Grows x y) (k : Grows y z) : Grows x z := fun i s hs => by
  obtain ⟨s', h1, h2, h3⟩ := h i s hs
  obtain ⟨s2, k1, k2, k3⟩ := k i s' h1
  exact ⟨s2, k1, k2.trans h2, fun v hv => k3 v (h3 v hv)⟩
theorem grows_len {x y : Ver} (h : Grows x y) : x.slots.length ≤ y.slots.length := by
  rcases Nat.lt_or_ge y.slots.length x.slots.length with hl | hl
  · obtain ⟨s', h1, _⟩ := h y.slots.length (x.slots[y.slots.length]'hl) (List.getElem?_eq_getElem hl)
    have := (List.getElem?_eq_some_iff.1 h1).1
    omega
  · exact hl
theorem step_grows {n : Nat} {x y : Ver} {s : StepM} (hok : VerOk n x) (hd : DfOk x) (hs : step x s = some y) : Grows x y ∧ DfOk y := by
  unfold step at hs
  split at hs
  · cases hs
  split at hs
  · split at hs
    · rename_i hc
      cases hs
      refine ⟨fun i t ht => ⟨t, ?_, rfl, fun _ h => h⟩, fun t ht => ?_⟩
      · simp only
        rw [List.getElem?_append_left (List.getElem?_eq_some_iff.1 ht).1]; exact ht
      · rcases List.mem_append.1 ht with ht | ht
        · exact hd t ht
        · simp only [List.mem_singleton] at ht
          subst ht
          have hso := hc.2.1
          unfold sound at hso
          simp only [Bool.and_eq_true] at hso
          exact hso.2
    · cases hs
  split at hs
  · split at hs
    · cases hs; exact ⟨fun i t ht => ⟨t, ht, rfl, fun _ h => h⟩, hd⟩
    · cases hs
  split at hs
  · cases hs
  split at hs
  · split at hs
    · cases hs; exact ⟨fun i t ht => ⟨t, ht, rfl, fun _ h => h⟩, hd⟩
    · cases hs
  split at hs
  · split at hs
    · cases hs
      refine ⟨fun i t ht => ?_, modify_mem hd fun t ht => ht⟩
      simp only
      rw [List.getElem?_modify, ht]
      split
      · exact ⟨setNm t s.sl.nm, rfl, rfl, fun _ h => h⟩
      · exact ⟨t, by simp, rfl, fun _ h => h⟩
    · cases hs
  · simp only at hs
    split at hs
    · rename_i hc
      cases hs
      obtain ⟨c, hcx⟩ : ∃ c, x.cols[s.col.toNat]?.getD 0 = c := ⟨_, rfl⟩
      rw [hcx] at hc ⊢
      obtain ⟨b, hb⟩ : ∃ b, s.sl.ty.toNat = b := ⟨_, rfl⟩
      rw [hb] at hc ⊢
      have key : ∀ t : SlotM, x.slots[c]? = some t → ∀ v, fits t.ty v = true → fits (((slotOf x c).ty.toNat ||| b : Nat) : Int) v = true := fun t ht v hv => by
        have e : slotOf x c = t := by unfold slotOf; rw [ht]; rfl
        rw [e]
        have h1 := (hok.ok t (List.mem_of_getElem? ht)).1
        have e2 : t.ty = (t.ty.toNat : Int) := by omega
        rw [e2] at hv
        exact fits_or hv
      refine ⟨fun i t ht => ?_, fun t ht => ?_⟩
      · simp only
        rw [List.getElem?_modify, ht]
        split
        · rename_i e; subst e
          exact ⟨_, rfl, rfl, fun v hv => key t ht v hv⟩
        · exact ⟨t, by simp, rfl, fun _ h => h⟩
      · simp only at ht
        obtain ⟨i, hi⟩ := List.getElem?_of_mem ht
        rw [List.getElem?_modify] at hi
        cases hx : x.slots[i]? with
        | none => rw [hx] at hi; simp at hi
        | some t0 =>
          rw [hx] at hi
          have hi' := Option.some.inj hi
          subst hi'
          dsimp only
          split
          · rename_i e; subst e
            exact key t0 hx _ (hd t0 (List.mem_of_getElem? hx))
          · exact hd t0 (List.mem_of_getElem? hx)
    · cases hs
theorem run_grows : ∀ (l : List StepM) (n : Nat) (x : Ver) (L : List Ver), VerOk n x → DfOk x → run x l = some L → (∀ y ∈ L, Grows x y ∧ DfOk y) ∧ ∀ (i j : Nat) (y z : Ver), i ≤ j → L[i]? = some y → L[j]? = some z → Grows y z := by
  intro l
  induction l with
  | nil =>
    intro n x L hok hd hr
    simp only [run, Option.some.injEq] at hr
    subst hr
    refine ⟨fun y hy => ?_, fun i j y z hij hi hj => ?_⟩
    · simp only [List.mem_singleton] at hy; subst hy; exact ⟨grows_refl _, hd⟩
    · have h1 := (List.getElem?_eq_some_iff.1 hi).1
      have h2 := (List.getElem?_eq_some_iff.1 hj).1
      simp only [List.length_cons, List.length_nil] at h1 h2
      obtain rfl : i = 0 := by omega
      obtain rfl : j = 0 := by omega
      rw [hi] at hj; cases hj
      exact grows_refl _
  | cons s r ih =>
    intro n x L hok hd hr
    simp only [run] at hr
    split at hr
    · cases hr
    · rename_i w hw
      cases hq : run w r with
      | none => rw [hq] at hr; cases hr
      | some M =>
        rw [hq] at hr
        simp only [Option.map_some, Option.some.injEq] at hr
        subst hr
        obtain ⟨hg, hd2⟩ := step_grows hok hd hw
        obtain ⟨h1, h2⟩ := ih (n + 1) w M (step_ok hok hw) hd2 hq
        refine ⟨fun y hy => ?_, fun i j y z hij hi hj => ?_⟩
        · rcases List.mem_cons.1 hy with rfl | hy
          · exact ⟨grows_refl _, hd⟩
          · exact ⟨grows_trans hg (h1 y hy).1, (h1 y hy).2⟩
        · cases i with
          | zero =>
            simp only [List.getElem?_cons_zero, Option.some.injEq] at hi
            subst hi
            cases j with
            | zero => simp only [List.getElem?_cons_zero, Option.some.injEq] at hj; subst hj; exact grows_refl _
            | succ j => exact grows_trans hg (h1 z (List.mem_of_getElem? (by simpa using hj))).1
          | succ i =>
            cases j with
            | zero => omega
            | succ j => exact h2 i j y z (by omega) (by simpa using hi) (by simpa using hj)
theorem first_df {l : List SlotM} (h : firstOk l = true) : DfOk (first l) := fun s hs => by
  obtain ⟨i, hi⟩ := List.getElem?_of_mem hs
  unfold first at hi
  simp only at hi
  have h1 := (firstOk_iff l).1 h i (List.getElem?_eq_some_iff.1 hi).1
  rw [hi] at h1
  have h2 := h1.1
  simp only [Option.getD_some] at h2
  unfold sound at h2
  simp only [Bool.and_eq_true] at h2
  exact h2.2
theorem vers_grows {t : TemplM} {L : List Ver} (h : vers t = some L) : (∀ y ∈ L, DfOk y) ∧ ∀ (i j : Nat) (y z : Ver), i ≤ j → L[i]? = some y → L[j]? = some z → Grows y z := by
  unfold vers at h
  split at h
  · rename_i hc
    have := run_grows _ 8 _ _ (first_ok hc.2.2.2.2 hc.2.2.1) (first_df hc.2.2.2.2) h
    exact ⟨fun y hy => (this.1 y hy).2, this.2⟩
  · cases h
end Sc
namespace Ca
open Rc
/-- values as those of slots -/
def turnL : List SlotM → List PV → List PV
  | [], _ => []
  | s :: r, [] => s.df :: turnL r []
  | s :: r, v :: l => (if Sc.fits s.ty v = true then v else s.df) :: turnL r l
def oneV (s : SlotM) (o : Option PV) : PV := match o with
  | none => s.df
  | some v => if Sc.fits s.ty v = true then v else s.df
theorem turnL_at : ∀ (sl : List SlotM) (l : List PV) (i : Nat), (turnL sl l)[i]? = sl[i]?.map fun s => oneV s l[i]?
  | [], l, i => by simp [turnL]
  | s :: r, [], 0 => by simp [turnL, oneV]
  | s :: r, [], i + 1 => by have := turnL_at r [] i; simpa [turnL] using this
  | s :: r, v :: l, 0 => by simp [turnL, oneV]
  | s :: r, v :: l, i + 1 => by have := turnL_at r l i; simpa [turnL] using this
theorem turnL_length : ∀ (sl : List SlotM) (l : List PV), (turnL sl l).length = sl.length
  | [], l => rfl
  | s :: r, [] => by simp [turnL, turnL_length r []]
  | s :: r, v :: l => by simp [turnL, turnL_length r l]
theorem turnL_same {sl : List SlotM} {l : List PV} (h : fitL sl l = true) : turnL sl l = l := by
  obtain ⟨h1, h2⟩ := (fitL_iff sl l).1 h
  refine List.ext_getElem? fun i => ?_
  rw [turnL_at]
  cases hs : sl[i]? with
  | none => rw [List.getElem?_eq_none (by have := List.getElem?_eq_none_iff.1 hs; omega)]; rfl
  | some s =>
    have hi := (List.getElem?_eq_some_iff.1 hs).1
    have hv := List.getElem?_eq_getElem (show i < l.length by omega)
    rw [hv]
    simp only [Option.map_some, oneV]
    rw [if_pos (h2 i s _ hs hv)]
theorem turnL_fit {x : Sc.Ver} (hd : Sc.DfOk x) (l : List PV) : fitL x.slots (turnL x.slots l) = true := by
  rw [fitL_iff]
  refine ⟨(turnL_length _ _).symm, fun i s v hs hv => ?_⟩
  rw [turnL_at, hs] at hv
  simp only [Option.map_some, Option.some.injEq] at hv
  subst hv
  unfold oneV
  split
  · exact hd s (List.mem_of_getElem? hs)
  · split
    · assumption
    · exact hd s (List.mem_of_getElem? hs)
theorem oneV_none (s : SlotM) : oneV s none = s.df := rfl
theorem oneV_fit {s : SlotM} {v : PV} (h : Sc.fits s.ty v = true) : oneV s (some v) = v := if_pos h
theorem oneV_not {s : SlotM} {v : PV} (h : ¬ Sc.fits s.ty v = true) : oneV s (some v) = s.df := if_neg h
/-- up by way of a version between -/
theorem turnL_up {x y z : Sc.Ver} {l : List PV} (hf : fitL x.slots l = true) (hxy : Sc.Grows x y) (hyz : Sc.Grows y z) (hz : Sc.DfOk z) : turnL z.slots (turnL y.slots l) = turnL z.slots l := by
  obtain ⟨h1, h2⟩ := (fitL_iff _ _).1 hf
  refine List.ext_getElem? fun i => ?_
  rw [turnL_at, turnL_at, turnL_at]
  cases hs : z.slots[i]? with
  | none => rfl
  | some s =>
    simp only [Option.map_some, Option.some.injEq]
    cases hy : y.slots[i]? with
    | none =>
      have hl : l[i]? = none := by
        rw [List.getElem?_eq_none_iff]
        have := List.getElem?_eq_none_iff.1 hy
        have := Sc.grows_len hxy
        omega
      rw [hl]; rfl
    | some sy =>
      obtain ⟨s', e1, e2, e3⟩ := hyz i sy hy
      rw [hs] at e1; cases e1
      simp only [Option.map_some]
      cases hv : l[i]? with
      | none =>
        rw [oneV_none, oneV_none, ← e2, oneV_fit (hz s (List.mem_of_getElem? hs))]
      | some v =>
        obtain ⟨sx, hx⟩ : ∃ sx, x.slots[i]? = some sx := ⟨_, List.getElem?_eq_getElem (by have := (List.getElem?_eq_some_iff.1 hv).1; omega)⟩
        obtain ⟨s2, k1, _, k3⟩ := hxy i sx hx
        rw [hy] at k1; cases k1
        rw [oneV_fit (k3 v (h2 i sx v hx hv))]
/-- down by way of a version between -/
theorem turnL_down {y z : Sc.Ver} (l : List PV) (hzy : Sc.Grows z y) (hz : Sc.DfOk z) : turnL z.slots (turnL y.slots l) = turnL z.slots l := by
  refine List.ext_getElem? fun i => ?_
  rw [turnL_at, turnL_at, turnL_at]
  cases hs : z.slots[i]? with
  | none => rfl
  | some s =>
    simp only [Option.map_some, Option.some.injEq]
    obtain ⟨sy, e1, e2, e3⟩ := hzy i s hs
    rw [e1]
    have hds := hz s (List.mem_of_getElem? hs)
    simp only [Option.map_some]
    cases hv : l[i]? with
    | none => rw [oneV_none, oneV_none, e2, oneV_fit hds]
    | some v =>
      by_cases hf : Sc.fits s.ty v = true
      · rw [oneV_fit (e3 v hf), oneV_fit hf]
      · rw [oneV_not hf]
        by_cases hf2 : Sc.fits sy.ty v = true
        · rw [oneV_fit hf2, oneV_not hf]
        · rw [oneV_not hf2, e2, oneV_fit hds]
/-- a record as one of another version -/
def castM (t : TemplM) (r : RecM) (v : Int) (on : Bool) : RecM × Int := match verR t r with
  | none => (⟨0, []⟩, 1)
  | some _ => match on, verOf t v with
    | true, some y => (⟨v, turnL y.slots r.s⟩, 0)
    | _, _ => (⟨0, []⟩, 7)
def upM (t : TemplM) (r : RecM) (v : Int) : RecM × Int := castM t r v (decide (r.v ≤ v))
def downM (t : TemplM) (r : RecM) (v : Int) : RecM × Int := castM t r v (decide (v ≤ r.v))
theorem verR_of {t : TemplM} {r : RecM} {x : Sc.Ver} (h : verR t r = some x) : verOf t r.v = some x ∧ fitL x.slots r.s = true := by
  unfold verR at h
  cases hv : verOf t r.v with
  | none => rw [hv] at h; cases h
  | some y =>
    rw [hv] at h
    simp only at h
    split at h
    · rename_i hf; cases h; exact ⟨rfl, hf⟩
    · cases h
theorem verR_mk {t : TemplM} {r : RecM} {x : Sc.Ver} (h : verOf t r.v = some x) (hf : fitL x.slots r.s = true) : verR t r = some x := by
  unfold verR
  rw [h]
  simp only
  rw [if_pos hf]
theorem verOf_at {t : TemplM} {v : Int} {x : Sc.Ver} (h : verOf t v = some x) : ∃ (L : List Sc.Ver) (n : Nat), Sc.vers t = some L ∧ L[n]? = some x ∧ v = ((n + 1 : Nat) : Int) := by
  unfold verOf at h
  split at h
  · cases h
  · cases hv : Sc.vers t with
    | none => rw [hv] at h; cases h
    | some L =>
      rw [hv] at h
      exact ⟨L, (v - 1).toNat, rfl, h, by omega⟩
theorem verOf_df {t : TemplM} {v : Int} {x : Sc.Ver} (h : verOf t v = some x) : Sc.DfOk x := by
  obtain ⟨L, n, h1, h2, _⟩ := verOf_at h
  exact (Sc.vers_grows h1).1 x (List.mem_of_getElem? h2)
theorem verOf_grows {t : TemplM} {v u : Int} {x y : Sc.Ver} (hvu : v ≤ u) (h : verOf t v = some x) (k : verOf t u = some y) : Sc.Grows x y := by
  obtain ⟨L, n, h1, h2, h3⟩ := verOf_at h
  obtain ⟨M, m, k1, k2, k3⟩ := verOf_at k
  rw [h1] at k1; cases k1
  exact (Sc.vers_grows h1).2 n m x y (by omega) h2 k2
theorem verOf_between {t : TemplM} {v u z : Int} {x y : Sc.Ver} (h : verOf t v = some x) (k : verOf t u = some y) (h1 : v ≤ z) (h2 : z ≤ u) : ∃ w, verOf t z = some w := by
  obtain ⟨L, n, e1, e2, e3⟩ := verOf_at h
  obtain ⟨M, m, k1, k2, k3⟩ := verOf_at k
  rw [e1] at k1; cases k1
  have hm := (List.getElem?_eq_some_iff.1 k2).1
  unfold verOf
  rw [if_neg (by omega), e1]
  exact ⟨L[(z - 1).toNat], List.getElem?_eq_getElem (by omega)⟩
theorem cast_ok {t : TemplM} {r : RecM} {v : Int} {on : Bool} (h : (castM t r v on).2 = 0) : ∃ x y, verOf t r.v = some x ∧ fitL x.slots r.s = true ∧ on = true ∧ verOf t v = some y ∧ castM t r v on = (⟨v, turnL y.slots r.s⟩, 0) := by
  unfold castM at h ⊢
  cases hv : verR t r with
  | none => rw [hv] at h; cases h
  | some x =>
    obtain ⟨h1, h2⟩ := verR_of hv
    rw [hv] at h
    cases on with
    | false => cases h
    | true =>
      cases hy : verOf t v with
      | none => rw [hy] at h; cases h
      | some y => exact ⟨x, y, h1, h2, rfl, rfl, rfl⟩
theorem cast_no {t : TemplM} {r : RecM} {v : Int} {on : Bool} (h : (castM t r v on).2 ≠ 0) : (castM t r v on).1 = ⟨0, []⟩ := by
  unfold castM at h ⊢
  cases hv : verR t r with
  | none => rfl
  | some x =>
    rw [hv] at h
    cases on with
    | false => rfl
    | true =>
      cases hy : verOf t v with
      | none => rfl
      | some y => rw [hy] at h; exact absurd rfl h
end Ca
end Go.Proofs.Ytibjjclfonpibaa

/- The walk of SchemaFits: whether every value fits every slot is the document's. -/
set_option linter.unusedVariables false
set_option linter.unusedSimpArgs false
set_option maxRecDepth 100000
namespace Go.Proofs.Ytibjjclfonpibaa
open Go.RowKit Go.Shelf
/-- what Fits comes to -/
def FitsC : Prop := ∀ (s : SlotM) (v : PV) (w : World) (X Y : Value), szV v ≤ 1000000 → 0 ≤ s.ty → IsSlot w s X → Is w v Y → Calls Try.prog 35 #[X, Y] w fun e w' => e = .returned (.bool (Sc.fits s.ty v)) ∧ Below w.heap.size w w'
namespace schemaFitsWalk
end schemaFitsWalk
end Go.Proofs.Ytibjjclfonpibaa
