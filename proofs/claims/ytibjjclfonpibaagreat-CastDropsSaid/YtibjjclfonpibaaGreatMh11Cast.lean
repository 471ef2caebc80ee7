/- The program's schema: the mathematics (no walk). -/
import Derived.Test.YtibjjclfonpibaaGreatMh10Cast
import Derived.Test.YtibjjclfonpibaaGreatMh7Cast
import Derived.Test.YtibjjclfonpibaaGreatMh9Cast
import Derived.Deep.DeepCutAuto
import Derived.BigQuiet
set_option linter.unusedVariables false
namespace Go.Proofs.YtibjjclfonpibaaGreat
open Go.RowKit Go.Shelf
namespace Sc
/-- what every version's slots are -/
def SlotOk (s : SlotM) : Prop := 1 ≤ s.ty ∧ s.ty ≤ 63 ∧ rightV s.df = true
structure VerOk (n : Nat) (x : Ver) : Prop where
  lt : ∀ c ∈ x.cols, c < x.slots.length
  nodup : x.cols.Nodup
  len : x.cols.length ≤ 8
  num : x.slots.length ≤ n
  ok : ∀ s ∈ x.slots, SlotOk s
theorem sound_ok {s : SlotM} (h : sound s = true) : SlotOk s := by
  unfold sound fits at h
  simp only [Bool.and_eq_true, decide_eq_true_eq] at h
  exact ⟨by omega, by omega, h.2.1⟩
theorem find_at {α : Type} (p : α → Bool) (l : List α) (q : Nat) (x : α) (h : ∀ (i : Nat) (y : α), i < q → l[i]? = some y → p y = false) (hx : l[q]? = some x) (hp : p x = true) : l.find? p = some x := by
  induction l generalizing q with
  | nil => simp at hx
  | cons a r ih =>
    cases q with
    | zero =>
      simp only [List.getElem?_cons_zero, Option.some.injEq] at hx
      subst hx
      rw [List.find?_cons, hp]
    | succ q =>
      rw [List.find?_cons, h 0 a (by omega) rfl]
      exact ih q (fun i y hi hy => h (i + 1) y (by omega) (by simpa using hy)) (by simpa using hx)
theorem find_no {α : Type} (p : α → Bool) (l : List α) (h : ∀ (i : Nat) (y : α), l[i]? = some y → p y = false) : l.find? p = none := by
  rw [List.find?_eq_none]
  intro y hy
  obtain ⟨i, hi⟩ := List.mem_iff_getElem?.1 hy
  rw [h i y hi]
  simp
theorem colI_neg (x : Ver) (nm : ByteArray) : colI x nm < 0 ↔ col x nm = none := by
  unfold colI
  cases col x nm with
  | none => simp
  | some c => simp
theorem modify_mem {α : Type} {l : List α} {i : Nat} {f : α → α} {P : α → Prop} (h : ∀ s ∈ l, P s) (hf : ∀ s, P s → P (f s)) : ∀ s ∈ l.modify i f, P s := by
  intro s hs
  obtain ⟨j, hj⟩ := List.mem_iff_getElem?.1 hs
  rw [List.getElem?_modify] at hj
  obtain ⟨t, ht, rfl⟩ := Option.map_eq_some_iff.1 hj
  have := h t (List.mem_of_getElem? ht)
  split
  · exact hf t this
  · exact this
/- each number once -/
def cnt (od : List Int) (k : Nat) : Nat := (od.filter fun x => decide (x = (k : Int))).length
def inr (od : List Int) (m : Nat) : Nat := (od.filter fun x => decide (0 ≤ x) && decide (x < (m : Int))).length
theorem sum_ind (x : Int) (m : Nat) : ((List.range m).map fun (k : Nat) => if x = (k : Int) then 1 else 0).sum = if 0 ≤ x ∧ x < (m : Int) then 1 else 0 := by
  induction m with
  | zero => rw [if_neg (by omega)]; rfl
  | succ m ih =>
    rw [List.range_succ, List.map_append, List.sum_append_nat, ih]
    simp only [List.map_cons, List.map_nil, List.sum_cons, List.sum_nil, Nat.add_zero]
    by_cases h1 : x = (m : Int)
    · rw [if_pos h1, if_neg (by omega), if_pos (by omega)]
    · rw [if_neg h1]
      by_cases h2 : 0 ≤ x ∧ x < (m : Int)
      · rw [if_pos h2, if_pos (by omega)]
      · rw [if_neg h2, if_neg (by omega)]
theorem sum_add (l : List Nat) (f g : Nat → Nat) : (l.map fun k => f k + g k).sum = (l.map f).sum + (l.map g).sum := by
  induction l with
  | nil => rfl
  | cons a r ih => simp only [List.map_cons, List.sum_cons, ih]; omega
theorem cnt_cons (x : Int) (r : List Int) (k : Nat) : cnt (x :: r) k = (if x = (k : Int) then 1 else 0) + cnt r k := by
  unfold cnt
  rw [List.filter_cons]
  by_cases h : x = (k : Int)
  · rw [if_pos (by simpa using h), if_pos h, List.length_cons]; omega
  · rw [if_neg (by simpa using h), if_neg h]; omega
theorem total (od : List Int) (m : Nat) : ((List.range m).map (cnt od)).sum = inr od m := by
  induction od with
  | nil =>
    have : ∀ l : List Nat, (l.map (cnt [])).sum = 0 := by
      intro l
      induction l with
      | nil => rfl
      | cons a r ih => simp only [List.map_cons, List.sum_cons, ih]; rfl
    exact this _
  | cons x r ih =>
    rw [show cnt (x :: r) = fun (k : Nat) => (if x = (k : Int) then 1 else 0) + cnt r k from funext fun k => cnt_cons x r k, sum_add, ih, sum_ind]
    unfold inr
    rw [List.filter_cons]
    by_cases h : 0 ≤ x ∧ x < (m : Int)
    · rw [if_pos h, if_pos (by simpa using h), List.length_cons]; omega
    · rw [if_neg h, if_neg (by simpa using h)]; omega
theorem sum_le (l : List Nat) (f : Nat → Nat) (h : ∀ k ∈ l, f k ≤ 1) : (l.map f).sum ≤ l.length ∧ ((l.map f).sum = l.length → ∀ k ∈ l, f k = 1) := by
  induction l with
  | nil => simp
  | cons a r ih =>
    obtain ⟨i1, i2⟩ := ih fun k hk => h k (List.mem_cons_of_mem _ hk)
    have ha := h a (List.mem_cons_self ..)
    simp only [List.map_cons, List.sum_cons, List.length_cons]
    refine ⟨by omega, fun e k hk => ?_⟩
    rcases List.mem_cons.1 hk with rfl | hk
    · omega
    · exact i2 (by omega) k hk
theorem sum_one (l : List Nat) (f : Nat → Nat) (h : ∀ k ∈ l, f k = 1) : (l.map f).sum = l.length := by
  induction l with
  | nil => rfl
  | cons a r ih =>
    simp only [List.map_cons, List.sum_cons, List.length_cons, ih fun k hk => h k (List.mem_cons_of_mem _ hk), h a (List.mem_cons_self ..)]
    omega
theorem cnt_nodup {od : List Int} (h : od.Nodup) (k : Nat) : cnt od k ≤ 1 := by
  induction od with
  | nil => exact Nat.zero_le _
  | cons x r ih =>
    obtain ⟨h1, h2⟩ := List.nodup_cons.1 h
    rw [cnt_cons]
    split
    · rename_i e
      have : cnt r k = 0 := by
        unfold cnt
        rw [List.length_eq_zero_iff, List.filter_eq_nil_iff]
        intro y hy
        simp only [decide_eq_true_eq]
        rintro rfl
        exact h1 (e ▸ hy)
      omega
    · have := ih h2; omega
theorem nodup_cnt {od : List Int} {m : Nat} (hin : ∀ x ∈ od, 0 ≤ x ∧ x < (m : Int)) (h : ∀ k, k < m → cnt od k ≤ 1) : od.Nodup := by
  induction od with
  | nil => exact List.nodup_nil
  | cons x r ih =>
    refine List.nodup_cons.2 ⟨fun hx => ?_, ih (fun y hy => hin y (List.mem_cons_of_mem _ hy)) fun k hk => ?_⟩
    · obtain ⟨h0, h1⟩ := hin x (List.mem_cons_self ..)
      have h2 := h x.toNat (by omega)
      rw [cnt_cons, if_pos (by omega)] at h2
      have : 0 < cnt r x.toNat := by
        unfold cnt
        exact List.length_pos_of_mem (List.mem_filter.2 ⟨hx, by simp; omega⟩)
      omega
    · have := h k hk
      rw [cnt_cons] at this
      omega
theorem once_iff (od : List Int) (m : Nat) (hl : od.length = m) : once od m = true ↔ (∀ x ∈ od, 0 ≤ x ∧ x < (m : Int)) ∧ od.Nodup := by
  have e : once od m = true ↔ ∀ k, k < m → cnt od k = 1 := by
    unfold once cnt
    rw [List.all_eq_true]
    constructor
    · intro h k hk
      have := h k (List.mem_range.2 hk)
      simpa using this
    · intro h k hk
      simpa using h k (List.mem_range.1 hk)
  rw [e]
  constructor
  · intro h
    have ht := total od m
    rw [sum_one _ _ fun k hk => h k (List.mem_range.1 hk), List.length_range] at ht
    have hin : ∀ x ∈ od, 0 ≤ x ∧ x < (m : Int) := by
      have h2 : (od.filter fun x => decide (0 ≤ x) && decide (x < (m : Int))).length = od.length := by unfold inr at ht; omega
      rw [List.length_filter_eq_length_iff] at h2
      intro x hx
      simpa using h2 x hx
    exact ⟨hin, nodup_cnt hin fun k hk => Nat.le_of_eq (h k hk)⟩
  · rintro ⟨h1, h2⟩ k hk
    have hs := sum_le (List.range m) (cnt od) fun k _ => cnt_nodup h2 k
    have ht := total od m
    have hi : inr od m = m := by
      unfold inr
      rw [List.filter_eq_self.2 fun x hx => by simpa using h1 x hx, hl]
    exact hs.2 (by rw [ht, hi, List.length_range]) k (List.mem_range.2 hk)
theorem nodup_at {α : Type} {l : List α} (h : l.Nodup) {i j : Nat} {x : α} (hi : l[i]? = some x) (hj : l[j]? = some x) : i = j := by
  obtain ⟨h1, e1⟩ := List.getElem?_eq_some_iff.1 hi
  obtain ⟨h2, e2⟩ := List.getElem?_eq_some_iff.1 hj
  have := (List.pairwise_iff_getElem.1 h)
  rcases Nat.lt_trichotomy i j with hlt | he | hgt
  · exact absurd (e1.trans e2.symm) (this i j h1 h2 hlt)
  · exact he
  · exact absurd (e2.trans e1.symm) (this j i h2 h1 hgt)
theorem nodup_map {α β : Type} {f : α → β} : ∀ {l : List α}, l.Nodup → (∀ x ∈ l, ∀ y ∈ l, f x = f y → x = y) → (l.map f).Nodup := by
  intro l
  induction l with
  | nil => intro _ _; exact List.nodup_nil
  | cons a r ih =>
    intro h hf
    obtain ⟨h1, h2⟩ := List.nodup_cons.1 h
    rw [List.map_cons]
    refine List.nodup_cons.2 ⟨fun hm => ?_, ih h2 fun x hx y hy => hf x (List.mem_cons_of_mem _ hx) y (List.mem_cons_of_mem _ hy)⟩
    obtain ⟨b, hb, e⟩ := List.mem_map.1 hm
    exact h1 ((hf b (List.mem_cons_of_mem _ hb) a (List.mem_cons_self ..) e) ▸ hb)
/-- a step keeps it -/
theorem step_ok {n : Nat} {x y : Ver} {s : StepM} (h : VerOk n x) (hs : step x s = some y) : VerOk (n + 1) y := by
  unfold step at hs
  split at hs
  · cases hs
  split at hs
  · split at hs
    · rename_i hc
      simp only [Option.some.injEq] at hs
      subst hs
      refine ⟨fun c hc' => ?_, ?_, ?_, ?_, fun t ht => ?_⟩
      · simp only [List.length_append, List.length_cons, List.length_nil]
        rcases List.mem_append.1 hc' with g | g
        · have := h.lt c g; omega
        · simp at g; omega
      · simp only
        refine List.nodup_append.2 ⟨h.nodup, (List.nodup_cons.2 ⟨List.not_mem_nil, List.nodup_nil⟩), fun a ha b hb => ?_⟩
        simp at hb
        have := h.lt a ha
        omega
      · simp only [List.length_append, List.length_cons, List.length_nil]; omega
      · have := h.num
        simp only [List.length_append, List.length_cons, List.length_nil]; omega
      · rcases List.mem_append.1 ht with g | g
        · exact h.ok t g
        · simp at g; subst g; exact sound_ok hc.2.1
    · cases hs
  split at hs
  · split at hs
    · rename_i hc
      simp only [Option.some.injEq] at hs
      subst hs
      obtain ⟨hin, hnd⟩ := (once_iff s.od x.cols.length hc.1).1 hc.2
      refine ⟨fun c hc' => ?_, ?_, ?_, Nat.le_succ_of_le h.num, h.ok⟩
      · obtain ⟨i, hi, rfl⟩ := List.mem_map.1 hc'
        have := hin i hi
        have hlt : i.toNat < x.cols.length := by omega
        rw [List.getElem?_eq_getElem hlt]
        exact h.lt _ (List.getElem_mem hlt)
      · refine nodup_map hnd fun a ha b hb e => ?_
        have h1 := hin a ha
        have h2 := hin b hb
        have e1 : x.cols[a.toNat]? = some x.cols[a.toNat] := List.getElem?_eq_getElem (by omega)
        have e2 : x.cols[b.toNat]? = some x.cols[b.toNat] := List.getElem?_eq_getElem (by omega)
        rw [e1, e2] at e
        have e' : x.cols[a.toNat] = x.cols[b.toNat] := e
        have := nodup_at h.nodup e1 (e' ▸ e2)
        omega
      · simp only [List.length_map]; rw [hc.1]; exact h.len
    · cases hs
  split at hs
  · cases hs
  split at hs
  · split at hs
    · simp only [Option.some.injEq] at hs
      subst hs
      refine ⟨fun c hc => h.lt c (List.mem_of_mem_eraseIdx hc), h.nodup.sublist (List.eraseIdx_sublist ..), Nat.le_trans (List.length_eraseIdx_le ..) h.len, Nat.le_succ_of_le h.num, h.ok⟩
    · cases hs
  split at hs
  · split at hs
    · simp only [Option.some.injEq] at hs
      subst hs
      exact ⟨fun c hc => by rw [List.length_modify]; exact h.lt c hc, h.nodup, h.len, by rw [List.length_modify]; exact Nat.le_succ_of_le h.num, modify_mem h.ok fun t ht => ht⟩
    · cases hs
  · dsimp only at hs
    split at hs
    · rename_i hcol _ _ hc
      simp only [Option.some.injEq] at hs
      subst hs
      refine ⟨fun c hc => by rw [List.length_modify]; exact h.lt c hc, h.nodup, h.len, by rw [List.length_modify]; exact Nat.le_succ_of_le h.num, modify_mem h.ok fun t ht => ?_⟩
      have hold : (slotOf x (x.cols[s.col.toNat]?.getD 0)).ty.toNat < 64 := by
        have hlt : s.col.toNat < x.cols.length := by omega
        have hcl := h.lt _ (List.getElem_mem hlt)
        unfold slotOf
        rw [List.getElem?_eq_getElem hlt]
        simp only [Option.getD_some]
        rw [List.getElem?_eq_getElem hcl]
        have := (h.ok _ (List.getElem_mem hcl)).2.1
        simp only [Option.getD_some]
        omega
      have h64 := small_or _ s.sl.ty.toNat hold (by omega)
      have hle : s.sl.ty.toNat ≤ (slotOf x (x.cols[s.col.toNat]?.getD 0)).ty.toNat ||| s.sl.ty.toNat := Nat.right_le_or
      exact ⟨by simp only [setTy]; omega, by simp only [setTy]; omega, ht.2.2⟩
    · cases hs
theorem run_ok : ∀ (l : List StepM) (n : Nat) (x : Ver) (L : List Ver), VerOk n x → run x l = some L → ∀ y ∈ L, VerOk (n + l.length) y := by
  intro l
  induction l with
  | nil => intro n x L h hr y hy; simp only [run, Option.some.injEq] at hr; subst hr; simp at hy; subst hy; exact h
  | cons s r ih =>
    intro n x L h hr y hy
    simp only [run] at hr
    split at hr
    · cases hr
    · rename_i z hz
      cases hm : run z r with
      | none => rw [hm] at hr; cases hr
      | some M =>
        rw [hm] at hr
        simp only [Option.map_some, Option.some.injEq] at hr
        subst hr
        rcases List.mem_cons.1 hy with rfl | hy
        · exact ⟨h.lt, h.nodup, h.len, by have := h.num; simp only [List.length_cons]; omega, h.ok⟩
        · have := ih (n + 1) z M (step_ok h hz) hm y hy
          rw [List.length_cons]
          rwa [show n + (r.length + 1) = n + 1 + r.length by omega]
theorem firstOk_iff (l : List SlotM) : firstOk l = true ↔ ∀ i, i < l.length → sound (l[i]?.getD default) = true ∧ col ⟨l, List.range i⟩ (l[i]?.getD default).nm = none := by
  unfold firstOk
  rw [Bool.and_eq_true, List.all_eq_true, List.all_eq_true]
  constructor
  · rintro ⟨h1, h2⟩ i hi
    refine ⟨by rw [List.getElem?_eq_getElem hi]; exact h1 _ (List.getElem_mem hi), ?_⟩
    have h3 := h2 i (List.mem_range.2 hi)
    rw [List.all_eq_true] at h3
    unfold col
    rw [List.find?_eq_none]
    intro c hc
    have := h3 c hc
    simpa [slotOf] using this
  · intro h
    refine ⟨fun s hs => ?_, fun i hi => ?_⟩
    · obtain ⟨i, hi⟩ := List.mem_iff_getElem?.1 hs
      have := (h i (List.getElem?_eq_some_iff.1 hi).1).1
      rwa [hi] at this
    · rw [List.all_eq_true]
      intro j hj
      have h3 := (h i (List.mem_range.1 hi)).2
      unfold col at h3
      rw [List.find?_eq_none] at h3
      have := h3 j hj
      simpa [slotOf] using this
theorem first_ok {l : List SlotM} (h : firstOk l = true) (h8 : l.length ≤ 8) : VerOk 8 (first l) := by
  have hs := (firstOk_iff l).1 h
  refine ⟨fun c hc => by simpa [first] using hc, by simpa [first] using List.nodup_range, by simpa [first] using h8, by simpa [first] using h8, fun s hs' => ?_⟩
  obtain ⟨i, hi⟩ := List.mem_iff_getElem?.1 hs'
  have hi' : l[i]? = some s := hi
  have := (hs i (List.getElem?_eq_some_iff.1 hi').1).1
  rw [hi'] at this
  exact sound_ok this
end Sc
end Go.Proofs.YtibjjclfonpibaaGreat

/- Records: the mathematics, and rows of values in memory (no walk). -/
set_option linter.unusedVariables false
set_option linter.unusedSimpArgs false
set_option maxRecDepth 100000
namespace Go.Proofs.YtibjjclfonpibaaGreat
open Go.RowKit Go.Shelf
structure RecM where
  v : Int
  s : List PV
namespace Rc
/-- the version of a number -/
def verOf (t : TemplM) (v : Int) : Option Sc.Ver := if v < 1 then none else (Sc.vers t).bind fun L => L[(v - 1).toNat]?
/-- is there a value for each slot, and it fits? -/
def fitL : List SlotM → List PV → Bool
  | [], [] => true
  | s :: r, v :: q => Sc.fits s.ty v && fitL r q
  | _, _ => false
def verR (t : TemplM) (r : RecM) : Option Sc.Ver := match verOf t r.v with
  | none => none
  | some x => if fitL x.slots r.s = true then some x else none
/-- the first place of a number -/
def ix (l : List Nat) (n : Nat) : Option Nat := l.findIdx? fun c => decide (c = n)
/-- what a record is made of -/
def made (x : Sc.Ver) (row : List PV) : List PV := (List.range x.slots.length).map fun n => match ix x.cols n with
  | none => (Sc.slotOf x n).df
  | some c => row[c]?.getD Sc.nilV
theorem fitL_iff : ∀ (a : List SlotM) (b : List PV), fitL a b = true ↔ a.length = b.length ∧ ∀ (i : Nat) (s : SlotM) (v : PV), a[i]? = some s → b[i]? = some v → Sc.fits s.ty v = true := by
  intro a
  induction a with
  | nil => intro b; cases b <;> simp [fitL]
  | cons s r ih =>
    intro b
    cases b with
    | nil => simp [fitL]
    | cons v q =>
      simp only [fitL, Bool.and_eq_true, ih q, List.length_cons, Nat.add_right_cancel_iff]
      constructor
      · rintro ⟨h1, h2, h3⟩
        refine ⟨h2, fun i s' v' hs hv => ?_⟩
        cases i with
        | zero => simp at hs hv; subst hs hv; exact h1
        | succ i => exact h3 i s' v' (by simpa using hs) (by simpa using hv)
      · rintro ⟨h1, h2⟩
        exact ⟨h2 0 s v rfl rfl, h1, fun i s' v' hs hv => h2 (i + 1) s' v' (by simpa using hs) (by simpa using hv)⟩
theorem fitL_len {a : List SlotM} {b : List PV} (h : fitL a b = true) : a.length = b.length := ((fitL_iff a b).1 h).1
theorem fitL_right {a : List SlotM} {b : List PV} (h : fitL a b = true) : ∀ v ∈ b, rightV v = true := by
  obtain ⟨h1, h2⟩ := (fitL_iff a b).1 h
  intro v hv
  obtain ⟨i, hi⟩ := List.mem_iff_getElem?.1 hv
  have hlt := (List.getElem?_eq_some_iff.1 hi).1
  have := h2 i _ v (List.getElem?_eq_getElem (by omega)) hi
  unfold Sc.fits at this
  simp only [Bool.and_eq_true] at this
  exact this.1
end Rc
/-- values in a row -/
def PRow (w : World) (a : Option Addr) (cap : Nat) (l : List PV) : Prop := l.length ≤ cap ∧ cap ≤ maxLen ∧ (l = [] ∨ ∃ b off, a = some ⟨b, off, none⟩ ∧ IsL w b l off)
theorem pRow_below {w w' : World} (hb : Below w.heap.size w w') {a : Option Addr} {cap : Nat} {l : List PV} (h : PRow w a cap l) : PRow w' a cap l :=
  ⟨h.1, h.2.1, h.2.2.imp id fun ⟨b, off, ha, hc⟩ => ⟨b, off, ha, isL_below hb hc⟩⟩
/-- the value at a place of a row -/
theorem pRow_val {W : World} {a : Option Addr} {cap : Nat} {l : List PV} (h : PRow W a cap l) {i : Nat} {v : PV} (hv : l[i]? = some v) : ∃ b off k n t la ll lc, a = some ⟨b, off, none⟩ ∧
    (W.cell? ⟨b, off + i * 4, none⟩ = some (.int .i64 k) ∧ W.cell? ⟨b, off + i * 4 + 1, none⟩ = some (.int .i64 n) ∧ W.cell? ⟨b, off + i * 4 + 2, none⟩ = some (.string t) ∧ W.cell? ⟨b, off + i * 4 + 3, none⟩ = some (.slice la ll lc)) ∧
    Is W v (.agg #[.int .i64 k, .int .i64 n, .string t, .slice la ll lc]) := by
  rcases h.2.2 with h3 | ⟨b, off, ha, hc⟩
  · subst h3; simp at hv
  · cases v with
    | mk k n t r =>
      obtain ⟨la, lc, hcs, hi⟩ := isL_val hc i k n t r hv
      exact ⟨b, off, k, n, t, la, _, lc, ha, hcs, hi⟩
/-- a value as an answer -/
theorem is_form9 {W : World} {v : PV} {X : Value} (h : Is W v X) : ∃ k n t la ll lc, X = .agg #[.int .i64 k, .int .i64 n, .string t, .slice la ll lc] := by
  cases v
  unfold Is at h
  obtain ⟨_, _, _, a, cap, rfl, _⟩ := h
  exact ⟨_, _, _, _, _, _, rfl⟩
theorem copied_later {B : Nat} {w w1 : World} {v : PV} {x : Value} (h : Copied B w v x) (hs : w.heap.size ≤ w1.heap.size) (hb : ∀ b, B ≤ b → b < w.heap.size → w1.heap[b]? = w.heap[b]?) : Copied B w1 v x := by
  cases v with
  | mk k n s l =>
    obtain ⟨hf, a, rfl, h2⟩ := h
    refine ⟨fresh_later hf hs hb, a, rfl, ?_⟩
    rcases h2 with h2 | ⟨hl, g, C, ha, hg, hh, hC, he⟩
    · exact .inl h2
    · refine .inr ⟨hl, g, C, ha, hg, (hb g hg (Array.getElem?_eq_some_iff.1 hh).1).trans hh, hC, fun i y hy => ?_⟩
      obtain ⟨c0, c1, c2, c3, q0, q1, q2, q3, hf⟩ := he i y hy
      exact ⟨c0, c1, c2, c3, q0, q1, q2, q3, fresh_later hf hs fun b h1 h2 => hb b (by omega) h2⟩
theorem copied_mono {B B' : Nat} {w : World} {v : PV} {x : Value} (h : Copied B w v x) (hb : B' ≤ B) : Copied B' w v x := by
  cases v with
  | mk k n s l =>
    obtain ⟨hf, a, rfl, h2⟩ := h
    refine ⟨fresh_mono hf hb, a, rfl, ?_⟩
    rcases h2 with h2 | ⟨hl, g, C, ha, hg, r⟩
    · exact .inl h2
    · exact .inr ⟨hl, g, C, ha, Nat.le_trans hb hg, r⟩
/-- values gathered: a row of one's own, each a copy -/
def Made (B : Nat) (W : World) (vs : List PV) (X : Value) : Prop := ∃ g C, X = .slice (some ⟨g, 0, none⟩) vs.length vs.length ∧ B ≤ g ∧ VAt W g C ∧ C.size = vs.length * 4 ∧
  ∀ i y, vs[i]? = some y → ∃ c0 c1 c2 c3, C[i * 4]? = some c0 ∧ C[i * 4 + 1]? = some c1 ∧ C[i * 4 + 2]? = some c2 ∧ C[i * 4 + 3]? = some c3 ∧ Copied (g + 1) W y (.agg #[c0, c1, c2, c3])
/-- it reads as a row wherever its blocks are as they were -/
theorem made_row {B : Nat} {w w1 : World} {vs : List PV} {X : Value} (h : Made B w vs X) (hl : vs.length ≤ 1000000) (hb : ∀ b, B ≤ b → b < w.heap.size → w1.heap[b]? = w.heap[b]?) : ∃ g, X = .slice (some ⟨g, 0, none⟩) vs.length vs.length ∧ B ≤ g ∧ PRow w1 (some ⟨g, 0, none⟩) vs.length vs := by
  obtain ⟨g, C, rfl, hg, hv, hC, he⟩ := h
  have hv1 : VAt w1 g C := (hb g hg (vat_lt hv)).trans hv
  refine ⟨g, rfl, hg, Nat.le_refl _, by unfold maxLen; omega, .inr ⟨g, 0, rfl, isL_of fun i y hy => ?_⟩⟩
  obtain ⟨c0, c1, c2, c3, q0, q1, q2, q3, hc⟩ := he i y hy
  have hf : Fresh (g + 1) w y (.agg #[c0, c1, c2, c3]) := by cases y; exact hc.1
  refine ⟨c0, c1, c2, c3, ⟨?_, ?_, ?_, ?_⟩, hf w1 fun b h1 h2 => hb b (by omega) h2⟩
  · rw [Nat.zero_add]; exact vat_cell hv1 _ _ q0
  · rw [Nat.zero_add]; exact vat_cell hv1 _ _ q1
  · rw [Nat.zero_add]; exact vat_cell hv1 _ _ q2
  · rw [Nat.zero_add]; exact vat_cell hv1 _ _ q3
/-- what a round of gather has come to -/
def GInv (w : World) (g : Nat) (vs : List PV) (q : Nat) (wr : World) : Prop := Below w.heap.size w wr ∧ w.heap.size ≤ g ∧ ∃ C, VAt wr g C ∧ C.size = vs.length * 4 ∧
  ∀ i y, i < q → vs[i]? = some y → ∃ c0 c1 c2 c3, C[i * 4]? = some c0 ∧ C[i * 4 + 1]? = some c1 ∧ C[i * 4 + 2]? = some c2 ∧ C[i * 4 + 3]? = some c3 ∧ Copied (g + 1) wr y (.agg #[c0, c1, c2, c3])
theorem ginv_cells {w : World} {g : Nat} {vs : List PV} {q : Nat} {wr w2 : World} (h : GInv w g vs q wr) (hq : q < vs.length) (hb : Below wr.heap.size wr w2) :
    ∃ x0 x1 x2 x3, (w2.cell? ⟨g, q * 4, none⟩ = some x0 ∧ w2.cell? ⟨g, q * 4 + 1, none⟩ = some x1 ∧ w2.cell? ⟨g, q * 4 + 2, none⟩ = some x2 ∧ w2.cell? ⟨g, q * 4 + 3, none⟩ = some x3) ∧
      (w2.frozen? ⟨g, q * 4, none⟩ = false ∧ w2.frozen? ⟨g, q * 4 + 1, none⟩ = false ∧ w2.frozen? ⟨g, q * 4 + 2, none⟩ = false ∧ w2.frozen? ⟨g, q * 4 + 3, none⟩ = false) := by
  obtain ⟨_, _, C, hv, hC, _⟩ := h
  have hv2 := vat_below hb hv
  exact ⟨_, _, _, _, ⟨vat_cell hv2 _ _ (Array.getElem?_eq_getElem (by omega)), vat_cell hv2 _ _ (Array.getElem?_eq_getElem (by omega)), vat_cell hv2 _ _ (Array.getElem?_eq_getElem (by omega)), vat_cell hv2 _ _ (Array.getElem?_eq_getElem (by omega))⟩,
    vat_frozen hv2 _, vat_frozen hv2 _, vat_frozen hv2 _, vat_frozen hv2 _⟩
theorem set4_nth {α : Type} (C : Array α) (p i : Nat) (d0 d1 d2 d3 : α) (hp : p + 3 < C.size) : ((((C.setIfInBounds p d0).setIfInBounds (p + 1) d1).setIfInBounds (p + 2) d2).setIfInBounds (p + 3) d3)[i]? =
    if i = p then some d0 else if i = p + 1 then some d1 else if i = p + 2 then some d2 else if i = p + 3 then some d3 else C[i]? := by
  simp only [Array.getElem?_setIfInBounds, Array.size_setIfInBounds]
  repeat' split
  all_goals first | rfl | omega
theorem ginv_step {w : World} {g : Nat} {vs : List PV} {q : Nat} {wr w2 : World} {y : PV} {B : Nat} {d0 d1 d2 d3 : Value} (h : GInv w g vs q wr) (hy : vs[q]? = some y) (hb : Below wr.heap.size wr w2) (hB : g + 1 ≤ B) (hc : Copied B w2 y (.agg #[d0, d1, d2, d3])) :
    GInv w g vs (q + 1) ((((w2.setCell ⟨g, q * 4, none⟩ d0).setCell ⟨g, q * 4 + 1, none⟩ d1).setCell ⟨g, q * 4 + 2, none⟩ d2).setCell ⟨g, q * 4 + 3, none⟩ d3) := by
  obtain ⟨h1, h2, C, hv, hC, he⟩ := h
  have hq := (List.getElem?_eq_some_iff.1 hy).1
  have hv2 := vat_below hb hv
  have hs : ∀ b, b ≠ g → ((((w2.setCell ⟨g, q * 4, none⟩ d0).setCell ⟨g, q * 4 + 1, none⟩ d1).setCell ⟨g, q * 4 + 2, none⟩ d2).setCell ⟨g, q * 4 + 3, none⟩ d3).heap[b]? = w2.heap[b]? := fun b hne => by
    rw [Below.heap_setCell _ ⟨g, q * 4 + 3, none⟩ d3 b hne, Below.heap_setCell _ ⟨g, q * 4 + 2, none⟩ d2 b hne, Below.heap_setCell _ ⟨g, q * 4 + 1, none⟩ d1 b hne, Below.heap_setCell _ ⟨g, q * 4, none⟩ d0 b hne]
  have hsz : w2.heap.size ≤ ((((w2.setCell ⟨g, q * 4, none⟩ d0).setCell ⟨g, q * 4 + 1, none⟩ d1).setCell ⟨g, q * 4 + 2, none⟩ d2).setCell ⟨g, q * 4 + 3, none⟩ d3).heap.size := by
    have := below_set4 (Below.refl 0 w2) (Nat.zero_le g) (q * 4) (q * 4 + 1) (q * 4 + 2) (q * 4 + 3) d0 d1 d2 d3
    exact this.size
  refine ⟨below_set4 (h1.trans (hb.mono h1.size)) h2 _ _ _ _ _ _ _ _, h2, _, vat_set (vat_set (vat_set (vat_set hv2 _ d0) _ d1) _ d2) _ d3, by simpa using hC, fun i z hi hz => ?_⟩
  have hn := fun j => set4_nth C (q * 4) j d0 d1 d2 d3 (by omega)
  rcases Nat.lt_or_ge i q with hlt | hge
  · obtain ⟨c0, c1, c2, c3, q0, q1, q2, q3, hcc⟩ := he i z hlt hz
    refine ⟨c0, c1, c2, c3, ?_, ?_, ?_, ?_, copied_later (copied_later hcc hb.size fun b _ hl => hb.block b hl) hsz fun b hb1 _ => hs b (by omega)⟩
    · rw [hn, if_neg (by omega), if_neg (by omega), if_neg (by omega), if_neg (by omega), q0]
    · rw [hn, if_neg (by omega), if_neg (by omega), if_neg (by omega), if_neg (by omega), q1]
    · rw [hn, if_neg (by omega), if_neg (by omega), if_neg (by omega), if_neg (by omega), q2]
    · rw [hn, if_neg (by omega), if_neg (by omega), if_neg (by omega), if_neg (by omega), q3]
  · obtain rfl : i = q := by omega
    rw [hy] at hz
    cases hz
    refine ⟨d0, d1, d2, d3, ?_, ?_, ?_, ?_, copied_later (copied_mono hc hB) hsz fun b hb1 _ => hs b (by omega)⟩
    · rw [hn, if_pos rfl]
    · rw [hn, if_neg (by omega), if_pos rfl]
    · rw [hn, if_neg (by omega), if_neg (by omega), if_pos rfl]
    · rw [hn, if_neg (by omega), if_neg (by omega), if_neg (by omega), if_pos rfl]
theorem ginv_end {w : World} {g : Nat} {vs : List PV} {wr : World} (h : GInv w g vs vs.length wr) : Made w.heap.size wr vs (.slice (some ⟨g, 0, none⟩) vs.length vs.length) ∧ Below w.heap.size w wr := by
  obtain ⟨h1, h2, C, hv, hC, he⟩ := h
  exact ⟨⟨g, C, rfl, h2, hv, hC, fun i y hy => he i y (List.getElem?_eq_some_iff.1 hy).1 hy⟩, h1⟩
theorem ginv_start {w : World} {M : Array Value} {vs : List PV} (hM : M.size = vs.length * 4) : GInv w w.heap.size vs 0 (w.alloc (.cells M 42)) :=
  ⟨(Below.refl _ w).alloc (Nat.le_refl _) _, Nat.le_refl _, M, vat_alloc w M, hM, fun i y hi _ => by omega⟩
end Go.Proofs.YtibjjclfonpibaaGreat

/- Records of one version as those of another one: the mathematics (no walk). -/
set_option linter.unusedVariables false
set_option linter.unusedSimpArgs false
namespace Go.Proofs.YtibjjclfonpibaaGreat
open Go.RowKit Go.Shelf
namespace Sc
theorem has_bit (a k : Nat) : has a k = a.testBit k := by
  unfold has
  rw [Nat.testBit_eq_decide_div_mod_eq]
theorem fits_or {a b : Nat} {v : PV} (h : fits (a : Int) v = true) : fits ((a ||| b : Nat) : Int) v = true := by
  unfold fits at h ⊢
  simp only [Bool.and_eq_true, Int.toNat_natCast, has_bit] at h ⊢
  refine ⟨h.1, ?_⟩
  rw [Nat.testBit_or, h.2, Bool.true_or]
/-- each slot's Def fits it -/
def DfOk (x : Ver) : Prop := ∀ s ∈ x.slots, fits s.ty s.df = true
/-- a later version has all the slots, each with its Def, and takes all that they took -/
def Grows (x y : Ver) : Prop := ∀ (i : Nat) (s : SlotM), x.slots[i]? = some s → ∃ s', y.slots[i]? = some s' ∧ s'.df = s.df ∧ ∀ v, fits s.ty v = true → fits s'.ty v = true
theorem grows_refl (x : Ver) : Grows x x := fun _ s h => ⟨s, h, rfl, fun _ h => h⟩
theorem grows_trans {x y z : Ver} (h : Grows x y) (k : Grows y z) : Grows x z := fun i s hs => by
  obtain ⟨s', h1, h2, h3⟩ := h i s hs
  obtain ⟨s2, k1, k2, k3⟩ := k i s' h1
  exact ⟨s2, k1, k2.trans h2, fun v hv => k3 v (h3 v hv)⟩
theorem grows_len {x y : Ver} (h : Grows x y) : x.slots.length ≤ y.slots.length := by
  rcases Nat.lt_or_ge y.slots.length x.slots.length with hl | hl
  · obtain ⟨s', h1, _⟩ := h y.slots.length (x.slots[y.slots.length]'hl) (List.getElem?_eq_getElem hl)
    have := (List.getElem?_eq_some_iff.1 h1).1
    omega
  · exact hl
theorem step_grows {n : Nat} {x y : Ver} {s : StepM} (hok : VerOk n x) (hd : DfOk x) (hs : step x s = some y) : Grows x y ∧ DfOk y := by
  unfold step at hs
  split at hs
  · cases hs
  split at hs
  · split at hs
    · rename_i hc
      cases hs
      refine ⟨fun i t ht => ⟨t, ?_, rfl, fun _ h => h⟩, fun t ht => ?_⟩
      · simp only
        rw [List.getElem?_append_left (List.getElem?_eq_some_iff.1 ht).1]; exact ht
      · rcases List.mem_append.1 ht with ht | ht
        · exact hd t ht
        · simp only [List.mem_singleton] at ht
          subst ht
          have hso := hc.2.1
          unfold sound at hso
          simp only [Bool.and_eq_true] at hso
          exact hso.2
    · cases hs
  split at hs
  · split at hs
    · cases hs; exact ⟨fun i t ht => ⟨t, ht, rfl, fun _ h => h⟩, hd⟩
    · cases hs
  split at hs
  · cases hs
  split at hs
  · split at hs
    · cases hs; exact ⟨fun i t ht => ⟨t, ht, rfl, fun _ h => h⟩, hd⟩
    · cases hs
  split at hs
  · split at hs
    · cases hs
      refine ⟨fun i t ht => ?_, modify_mem hd fun t ht => ht⟩
      simp only
      rw [List.getElem?_modify, ht]
      split
      · exact ⟨setNm t s.sl.nm, rfl, rfl, fun _ h => h⟩
      · exact ⟨t, by simp, rfl, fun _ h => h⟩
    · cases hs
  · simp only at hs
    split at hs
    · rename_i hc
      cases hs
      obtain ⟨c, hcx⟩ : ∃ c, x.cols[s.col.toNat]?.getD 0 = c := ⟨_, rfl⟩
      rw [hcx] at hc ⊢
      obtain ⟨b, hb⟩ : ∃ b, s.sl.ty.toNat = b := ⟨_, rfl⟩
      rw [hb] at hc ⊢
      have key : ∀ t : SlotM, x.slots[c]? = some t → ∀ v, fits t.ty v = true → fits (((slotOf x c).ty.toNat ||| b : Nat) : Int) v = true := fun t ht v hv => by
        have e : slotOf x c = t := by unfold slotOf; rw [ht]; rfl
        rw [e]
        have h1 := (hok.ok t (List.mem_of_getElem? ht)).1
        have e2 : t.ty = (t.ty.toNat : Int) := by omega
        rw [e2] at hv
        exact fits_or hv
      refine ⟨fun i t ht => ?_, fun t ht => ?_⟩
      · simp only
        rw [List.getElem?_modify, ht]
        split
        · rename_i e; subst e
          exact ⟨_, rfl, rfl, fun v hv => key t ht v hv⟩
        · exact ⟨t, by simp, rfl, fun _ h => h⟩
      · simp only at ht
        obtain ⟨i, hi⟩ := List.getElem?_of_mem ht
        rw [List.getElem?_modify] at hi
        cases hx : x.slots[i]? with
        | none => rw [hx] at hi; simp at hi
        | some t0 =>
          rw [hx] at hi
          have hi' := Option.some.inj hi
          subst hi'
          dsimp only
          split
          · rename_i e; subst e
            exact key t0 hx _ (hd t0 (List.mem_of_getElem? hx))
          · exact hd t0 (List.mem_of_getElem? hx)
    · cases hs
theorem run_grows : ∀ (l : List StepM) (n : Nat) (x : Ver) (L : List Ver), VerOk n x → DfOk x → run x l = some L → (∀ y ∈ L, Grows x y ∧ DfOk y) ∧ ∀ (i j : Nat) (y z : Ver), i ≤ j → L[i]? = some y → L[j]? = some z → Grows y z := by
  intro l
  induction l with
  | nil =>
    intro n x L hok hd hr
    simp only [run, Option.some.injEq] at hr
    subst hr
    refine ⟨fun y hy => ?_, fun i j y z hij hi hj => ?_⟩
    · simp only [List.mem_singleton] at hy; subst hy; exact ⟨grows_refl _, hd⟩
    · have h1 := (List.getElem?_eq_some_iff.1 hi).1
      have h2 := (List.getElem?_eq_some_iff.1 hj).1
      simp only [List.length_cons, List.length_nil] at h1 h2
      obtain rfl : i = 0 := by omega
      obtain rfl : j = 0 := by omega
      rw [hi] at hj; cases hj
      exact grows_refl _
  | cons s r ih =>
    intro n x L hok hd hr
    simp only [run] at hr
    split at hr
    · cases hr
    · rename_i w hw
      cases hq : run w r with
      | none => rw [hq] at hr; cases hr
      | some M =>
        rw [hq] at hr
        simp only [Option.map_some, Option.some.injEq] at hr
        subst hr
        obtain ⟨hg, hd2⟩ := step_grows hok hd hw
        obtain ⟨h1, h2⟩ := ih (n + 1) w M (step_ok hok hw) hd2 hq
        refine ⟨fun y hy => ?_, fun i j y z hij hi hj => ?_⟩
        · rcases List.mem_cons.1 hy with rfl | hy
          · exact ⟨grows_refl _, hd⟩
          · exact ⟨grows_trans hg (h1 y hy).1, (h1 y hy).2⟩
        · cases i with
          | zero =>
            simp only [List.getElem?_cons_zero, Option.some.injEq] at hi
            subst hi
            cases j with
            | zero => simp only [List.getElem?_cons_zero, Option.some.injEq] at hj; subst hj; exact grows_refl _
            | succ j => exact grows_trans hg (h1 z (List.mem_of_getElem? (by simpa using hj))).1
          | succ i =>
            cases j with
            | zero => omega
            | succ j => exact h2 i j y z (by omega) (by simpa using hi) (by simpa using hj)
theorem first_df {l : List SlotM} (h : firstOk l = true) : DfOk (first l) := fun s hs => by
  obtain ⟨i, hi⟩ := List.getElem?_of_mem hs
  unfold first at hi
  simp only at hi
  have h1 := (firstOk_iff l).1 h i (List.getElem?_eq_some_iff.1 hi).1
  rw [hi] at h1
  have h2 := h1.1
  simp only [Option.getD_some] at h2
  unfold sound at h2
  simp only [Bool.and_eq_true] at h2
  exact h2.2
theorem vers_grows {t : TemplM} {L : List Ver} (h : vers t = some L) : (∀ y ∈ L, DfOk y) ∧ ∀ (i j : Nat) (y z : Ver), i ≤ j → L[i]? = some y → L[j]? = some z → Grows y z := by
  unfold vers at h
  split at h
  · rename_i hc
    have := run_grows _ 8 _ _ (first_ok hc.2.2.2.2 hc.2.2.1) (first_df hc.2.2.2.2) h
    exact ⟨fun y hy => (this.1 y hy).2, this.2⟩
  · cases h
end Sc
namespace Ca
open Rc
/-- values as those of slots -/
def turnL : List SlotM → List PV → List PV
  | [], _ => []
  | s :: r, [] => s.df :: turnL r []
  | s :: r, v :: l => (if Sc.fits s.ty v = true then v else s.df) :: turnL r l
def oneV (s : SlotM) (o : Option PV) : PV := match o with
  | none => s.df
  | some v => if Sc.fits s.ty v = true then v else s.df
theorem turnL_at : ∀ (sl : List SlotM) (l : List PV) (i : Nat), (turnL sl l)[i]? = sl[i]?.map fun s => oneV s l[i]?
  | [], l, i => by simp [turnL]
  | s :: r, [], 0 => by simp [turnL, oneV]
  | s :: r, [], i + 1 => by have := turnL_at r [] i; simpa [turnL] using this
  | s :: r, v :: l, 0 => by simp [turnL, oneV]
  | s :: r, v :: l, i + 1 => by have := turnL_at r l i; simpa [turnL] using this
theorem turnL_length : ∀ (sl : List SlotM) (l : List PV), (turnL sl l).length = sl.length
  | [], l => rfl
  | s :: r, [] => by simp [turnL, turnL_length r []]
  | s :: r, v :: l => by simp [turnL, turnL_length r l]
theorem turnL_same {sl : List SlotM} {l : List PV} (h : fitL sl l = true) : turnL sl l = l := by
  obtain ⟨h1, h2⟩ := (fitL_iff sl l).1 h
  refine List.ext_getElem? fun i => ?_
  rw [turnL_at]
  cases hs : sl[i]? with
  | none => rw [List.getElem?_eq_none (by have := List.getElem?_eq_none_iff.1 hs; omega)]; rfl
  | some s =>
    have hi := (List.getElem?_eq_some_iff.1 hs).1
    have hv := List.getElem?_eq_getElem (show i < l.length by omega)
    rw [hv]
    simp only [Option.map_some, oneV]
    rw [if_pos (h2 i s _ hs hv)]
theorem turnL_fit {x : Sc.Ver} (hd : Sc.DfOk x) (l : List PV) : fitL x.slots (turnL x.slots l) = true := by
  rw [fitL_iff]
  refine ⟨(turnL_length _ _).symm, fun i s v hs hv => ?_⟩
  rw [turnL_at, hs] at hv
  simp only [Option.map_some, Option.some.injEq] at hv
  subst hv
  unfold oneV
  split
  · exact hd s (List.mem_of_getElem? hs)
  · split
    · assumption
    · exact hd s (List.mem_of_getElem? hs)
theorem oneV_none (s : SlotM) : oneV s none = s.df := rfl
theorem oneV_fit {s : SlotM} {v : PV} (h : Sc.fits s.ty v = true) : oneV s (some v) = v := if_pos h
theorem oneV_not {s : SlotM} {v : PV} (h : ¬ Sc.fits s.ty v = true) : oneV s (some v) = s.df := if_neg h
/-- up by way of a version between -/
theorem turnL_up {x y z : Sc.Ver} {l : List PV} (hf : fitL x.slots l = true) (hxy : Sc.Grows x y) (hyz : Sc.Grows y z) (hz : Sc.DfOk z) : turnL z.slots (turnL y.slots l) = turnL z.slots l := by
  obtain ⟨h1, h2⟩ := (fitL_iff _ _).1 hf
  refine List.ext_getElem? fun i => ?_
  rw [turnL_at, turnL_at, turnL_at]
  cases hs : z.slots[i]? with
  | none => rfl
  | some s =>
    simp only [Option.map_some, Option.some.injEq]
    cases hy : y.slots[i]? with
    | none =>
      have hl : l[i]? = none := by
        rw [List.getElem?_eq_none_iff]
        have := List.getElem?_eq_none_iff.1 hy
        have := Sc.grows_len hxy
        omega
      rw [hl]; rfl
    | some sy =>
      obtain ⟨s', e1, e2, e3⟩ := hyz i sy hy
      rw [hs] at e1; cases e1
      simp only [Option.map_some]
      cases hv : l[i]? with
      | none =>
        rw [oneV_none, oneV_none, ← e2, oneV_fit (hz s (List.mem_of_getElem? hs))]
      | some v =>
        obtain ⟨sx, hx⟩ : ∃ sx, x.slots[i]? = some sx := ⟨_, List.getElem?_eq_getElem (by have := (List.getElem?_eq_some_iff.1 hv).1; omega)⟩
        obtain ⟨s2, k1, _, k3⟩ := hxy i sx hx
        rw [hy] at k1; cases k1
        rw [oneV_fit (k3 v (h2 i sx v hx hv))]
/-- down by way of a version between -/
theorem turnL_down {y z : Sc.Ver} (l : List PV) (hzy : Sc.Grows z y) (hz : Sc.DfOk z) : turnL z.slots (turnL y.slots l) = turnL z.slots l := by
  refine List.ext_getElem? fun i => ?_
  rw [turnL_at, turnL_at, turnL_at]
  cases hs : z.slots[i]? with
  | none => rfl
  | some s =>
    simp only [Option.map_some, Option.some.injEq]
    obtain ⟨sy, e1, e2, e3⟩ := hzy i s hs
    rw [e1]
    have hds := hz s (List.mem_of_getElem? hs)
    simp only [Option.map_some]
    cases hv : l[i]? with
    | none => rw [oneV_none, oneV_none, e2, oneV_fit hds]
    | some v =>
      by_cases hf : Sc.fits s.ty v = true
      · rw [oneV_fit (e3 v hf), oneV_fit hf]
      · rw [oneV_not hf]
        by_cases hf2 : Sc.fits sy.ty v = true
        · rw [oneV_fit hf2, oneV_not hf]
        · rw [oneV_not hf2, e2, oneV_fit hds]
/-- a record as one of another version -/
def castM (t : TemplM) (r : RecM) (v : Int) (on : Bool) : RecM × Int := match verR t r with
  | none => (⟨0, []⟩, 1)
  | some _ => match on, verOf t v with
    | true, some y => (⟨v, turnL y.slots r.s⟩, 0)
    | _, _ => (⟨0, []⟩, 7)
def upM (t : TemplM) (r : RecM) (v : Int) : RecM × Int := castM t r v (decide (r.v ≤ v))
def downM (t : TemplM) (r : RecM) (v : Int) : RecM × Int := castM t r v (decide (v ≤ r.v))
theorem verR_of {t : TemplM} {r : RecM} {x : Sc.Ver} (h : verR t r = some x) : verOf t r.v = some x ∧ fitL x.slots r.s = true := by
  unfold verR at h
  cases hv : verOf t r.v with
  | none => rw [hv] at h; cases h
  | some y =>
    rw [hv] at h
    simp only at h
    split at h
    · rename_i hf; cases h; exact ⟨rfl, hf⟩
    · cases h
theorem verR_mk {t : TemplM} {r : RecM} {x : Sc.Ver} (h : verOf t r.v = some x) (hf : fitL x.slots r.s = true) : verR t r = some x := by
  unfold verR
  rw [h]
  simp only
  rw [if_pos hf]
theorem verOf_at {t : TemplM} {v : Int} {x : Sc.Ver} (h : verOf t v = some x) : ∃ (L : List Sc.Ver) (n : Nat), Sc.vers t = some L ∧ L[n]? = some x ∧ v = ((n + 1 : Nat) : Int) := by
  unfold verOf at h
  split at h
  · cases h
  · cases hv : Sc.vers t with
    | none => rw [hv] at h; cases h
    | some L =>
      rw [hv] at h
      exact ⟨L, (v - 1).toNat, rfl, h, by omega⟩
theorem verOf_df {t : TemplM} {v : Int} {x : Sc.Ver} (h : verOf t v = some x) : Sc.DfOk x := by
  obtain ⟨L, n, h1, h2, _⟩ := verOf_at h
  exact (Sc.vers_grows h1).1 x (List.mem_of_getElem? h2)
theorem verOf_grows {t : TemplM} {v u : Int} {x y : Sc.Ver} (hvu : v ≤ u) (h : verOf t v = some x) (k : verOf t u = some y) : Sc.Grows x y := by
  obtain ⟨L, n, h1, h2, h3⟩ := verOf_at h
  obtain ⟨M, m, k1, k2, k3⟩ := verOf_at k
  rw [h1] at k1; cases k1
  exact (Sc.vers_grows h1).2 n m x y (by omega) h2 k2
theorem verOf_between {t : TemplM} {v u z : Int} {x y : Sc.Ver} (h : verOf t v = some x) (k : verOf t u = some y) (h1 : v ≤ z) (h2 : z ≤ u) : ∃ w, verOf t z = some w := by
  obtain ⟨L, n, e1, e2, e3⟩ := verOf_at h
  obtain ⟨M, m, k1, k2, k3⟩ := verOf_at k
  rw [e1] at k1; cases k1
  have hm := (List.getElem?_eq_some_iff.1 k2).1
  unfold verOf
  rw [if_neg (by omega), e1]
  exact ⟨L[(z - 1).toNat], List.getElem?_eq_getElem (by omega)⟩
theorem cast_ok {t : TemplM} {r : RecM} {v : Int} {on : Bool} (h : (castM t r v on).2 = 0) : ∃ x y, verOf t r.v = some x ∧ fitL x.slots r.s = true ∧ on = true ∧ verOf t v = some y ∧ castM t r v on = (⟨v, turnL y.slots r.s⟩, 0) := by
  unfold castM at h ⊢
  cases hv : verR t r with
  | none => rw [hv] at h; cases h
  | some x =>
    obtain ⟨h1, h2⟩ := verR_of hv
    rw [hv] at h
    cases on with
    | false => cases h
    | true =>
      cases hy : verOf t v with
      | none => rw [hy] at h; cases h
      | some y => exact ⟨x, y, h1, h2, rfl, rfl, rfl⟩
theorem cast_no {t : TemplM} {r : RecM} {v : Int} {on : Bool} (h : (castM t r v on).2 ≠ 0) : (castM t r v on).1 = ⟨0, []⟩ := by
  unfold castM at h ⊢
  cases hv : verR t r with
  | none => rfl
  | some x =>
    rw [hv] at h
    cases on with
    | false => rfl
    | true =>
      cases hy : verOf t v with
      | none => rfl
      | some y => rw [hy] at h; exact absurd rfl h
/-- what is lifted or lowered is valid -/
theorem cast_valid {t : TemplM} {r : RecM} {v : Int} {on : Bool} (h : (castM t r v on).2 = 0) : ∃ y, verOf t v = some y ∧ fitL y.slots (castM t r v on).1.s = true ∧ (castM t r v on).1.v = v := by
  obtain ⟨x, y, _, _, _, hy, e⟩ := cast_ok h
  rw [e]
  exact ⟨y, hy, turnL_fit (verOf_df hy) _, rfl⟩
/-- down of up is the record -/
theorem down_up {t : TemplM} {r : RecM} {v : Int} (h : (upM t r v).2 = 0) : downM t (upM t r v).1 r.v = (r, 0) := by
  obtain ⟨x, y, hx, hf, ho, hy, e⟩ := cast_ok h
  have hle : r.v ≤ v := by simpa using ho
  rw [show upM t r v = _ from e]
  unfold downM
  unfold castM
  rw [verR_mk (r := ⟨v, turnL y.slots r.s⟩) hy (turnL_fit (verOf_df hy) _), hx]
  simp only
  rw [show decide (r.v ≤ v) = true by simpa using hle]
  simp only
  rw [turnL_down _ (verOf_grows hle hx hy) (verOf_df hx), turnL_same hf]
/-- up of up is up -/
theorem up_up {t : TemplM} {r : RecM} {v u : Int} (h : (upM t r v).2 = 0) (k : (upM t (upM t r v).1 u).2 = 0) : upM t r u = upM t (upM t r v).1 u := by
  obtain ⟨x, y, hx, hf, ho, hy, e⟩ := cast_ok h
  have hle : r.v ≤ v := by simpa using ho
  rw [show upM t r v = (⟨v, turnL y.slots r.s⟩, 0) from e] at k ⊢
  obtain ⟨x2, z, hx2, hf2, ho2, hz, e2⟩ := cast_ok k
  have hle2 : v ≤ u := by simpa using ho2
  unfold upM
  rw [e2]
  unfold castM
  rw [verR_mk hx hf, hz, show decide (r.v ≤ u) = true by simp; omega]
  simp only
  rw [turnL_up hf (verOf_grows hle hx hy) (verOf_grows hle2 hy hz) (verOf_df hz)]
end Ca
end Go.Proofs.YtibjjclfonpibaaGreat

/- The walk of SchemaFits: whether every value fits every slot is the document's. -/
set_option linter.unusedVariables false
set_option linter.unusedSimpArgs false
set_option maxRecDepth 100000
namespace Go.Proofs.YtibjjclfonpibaaGreat
open Go.RowKit Go.Shelf
/-- what Fits comes to -/
def FitsC : Prop := ∀ (s : SlotM) (v : PV) (w : World) (X Y : Value), szV v ≤ 1000000 → 0 ≤ s.ty → IsSlot w s X → Is w v Y → Calls Tryz.prog 54 #[X, Y] w fun e w' => e = .returned (.bool (Sc.fits s.ty v)) ∧ Below w.heap.size w w'
namespace schemaFitsWalk
end schemaFitsWalk
end Go.Proofs.YtibjjclfonpibaaGreat
