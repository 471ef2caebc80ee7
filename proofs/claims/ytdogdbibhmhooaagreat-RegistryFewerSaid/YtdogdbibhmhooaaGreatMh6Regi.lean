/- Values: what the statements want of the order and of the texts. -/
import Derived.Test.YtdogdbibhmhooaaGreatMh4Regi
import Derived.Test.YtdogdbibhmhooaaGreatMh5Regi
import Derived.Test.YtdogdbibhmhooaaGreatMh0Regi
import Derived.Test.YtdogdbibhmhooaaGreatMh3Regi
import Derived.Lib.AppendStr
import Derived.Deep.RegionWith
import Derived.Deep.RegionLaw
import Derived.Test.YtdogdbibhmhooaaGreatMh1Regi
namespace Go.Proofs.YtdogdbibhmhooaaGreat
open Go.RowKit Go.Shelf
theorem cmpB_zero : ∀ l r : List Int, cmpB l r = 0 ↔ l = r := by
  intro l
  induction l with
  | nil => intro r; cases r <;> simp [cmpB]
  | cons x l ih =>
    intro r
    cases r with
    | nil => simp [cmpB]
    | cons y r =>
      simp only [cmpB, List.cons.injEq]
      split
      · rename_i h
        rw [cmpI_zero]
        exact ⟨fun e => absurd e h, fun e => absurd (by omega : x - y = 0) h⟩
      · rename_i h
        rw [ih r]
        have : x = y := by omega
        simp [this]
theorem orI_zero (x y : Int) : orI x y = 0 ↔ x = 0 ∧ y = 0 := by
  unfold orI
  split
  · rename_i h; exact ⟨fun e => absurd e h, fun e => absurd e.1 h⟩
  · rename_i h; have : x = 0 := by omega
    simp [this]
theorem cmpV_zero : ∀ v v' : PV, cmpV v v' = 0 ↔ v = v' := by
  intro v
  induction v using pv_ind with
  | h k n s l ih =>
    intro v'
    cases v' with
    | mk k' n' s' l' =>
    have hl : ∀ l', cmpL l l' = 0 ↔ l = l' := by
      clear k n s k' n' s' l'
      induction l with
      | nil => intro l'; cases l' <;> simp [cmpL]
      | cons x r ih2 =>
        intro l'
        cases l' with
        | nil => simp [cmpL]
        | cons y r' =>
          simp only [cmpL, List.cons.injEq]
          have hx := ih x (by simp) y
          split
          · rename_i h
            rw [cmpI_zero]
            exact ⟨fun e => absurd e h, fun e => absurd (hx.2 e.1) h⟩
          · rename_i h
            rw [ih2 (fun z hz => ih z (by simp [hz])) r']
            have hxy := hx.1 (by omega)
            simp [hxy]
    simp only [cmpV, PV.mk.injEq]
    split
    · rename_i h
      constructor
      · intro e; exact absurd e h
      · rintro ⟨rfl, rfl, _⟩; exact absurd ((orI_zero _ _).2 ⟨cmpI_self _, cmpI_self _⟩) h
    · rename_i h
      have h0 := (orI_zero _ _).1 (by omega : orI (cmpI k k') (cmpI n n') = 0)
      have hk := (cmpI_zero _ _).1 h0.1
      have hn := (cmpI_zero _ _).1 h0.2
      split
      · rename_i hs
        rw [cmpB_zero]
        constructor
        · intro e; exact absurd e hs
        · rintro ⟨_, _, rfl, _⟩; exact absurd rfl hs
      · rename_i hs
        have hss : s = s' := strB_inj (by simpa using hs)
        rw [hl l']
        simp [hk, hn, hss]
/-! ### lists of two -/
def two (a b : PV) : PV := .mk 5 0 ⟨#[]⟩ [a, b]
/-! ### texts -/
/-- all numbers in a value are of 64 bits -/
def numsV : PV → Prop
  | .mk _ n _ l => I64 n ∧ numsL l
where numsL : List PV → Prop
  | [] => True
  | x :: r => numsV x ∧ numsL r
theorem nums_is {w : World} : ∀ v x, Is w v x → numsV v := by
  intro v
  induction v using pv_ind with
  | h k n s l ih =>
    intro x h
    unfold Is at h
    obtain ⟨h1, h2, h3, a, cap, rfl, h4, h5, h6⟩ := h
    unfold numsV
    refine ⟨h2, ?_⟩
    have hall : ∀ y ∈ l, numsV y := fun y hy => by
      rcases h6 with h6 | ⟨b, off, rfl, h6⟩
      · subst h6; simp at hy
      · obtain ⟨i, hi⟩ := List.getElem?_of_mem hy
        obtain ⟨_, _, _, _, _, hy'⟩ := isL_at h6 i y hi
        exact ih y hy _ hy'
    clear ih h6 h4 h5
    induction l with
    | nil => unfold numsV.numsL; trivial
    | cons y r ih2 =>
      unfold numsV.numsL
      exact ⟨hall y (by simp), ih2 fun z hz => hall z (by simp [hz])⟩
theorem empty_eq {s t : ByteArray} (h : s.toList.isEmpty = true) (h' : t.toList.isEmpty = true) : s = t := by
  rw [toList_data] at h h'
  apply ByteArray.ext
  apply Array.toList_inj.1
  rw [List.isEmpty_iff.1 h, List.isEmpty_iff.1 h']
end Go.Proofs.YtdogdbibhmhooaaGreat

/- Versions of templates: the mathematics (no program is mentioned here). -/
set_option linter.unusedVariables false
namespace Go.Proofs.YtdogdbibhmhooaaGreat
namespace Sc
def kindV : PV → Int
  | .mk k _ _ _ => k
def nilV : PV := .mk 0 0 ⟨#[]⟩ []
/-- is a kind one of some? -/
def has (ty k : Nat) : Bool := decide (ty / 2 ^ k % 2 = 1)
/-- does a value fit a slot of these types (from 0 on)? -/
def fits (ty : Int) (v : PV) : Bool := rightV v && has ty.toNat (kindV v).toNat
def sound (s : SlotM) : Bool := nameB (strB s.nm) && decide (0 < s.ty) && decide (s.ty < 64) && fits s.ty s.df
structure Ver where
  slots : List SlotM
  cols : List Nat
def eqN (a b : ByteArray) : Bool := decide (a.data.toList = b.data.toList)
theorem eqN_iff (a b : ByteArray) : eqN a b = true ↔ a = b := by
  unfold eqN
  rw [decide_eq_true_eq]
  exact ⟨fun h => ByteArray.ext (Array.toList_inj.1 h), fun h => by rw [h]⟩
def slotOf (x : Ver) (c : Nat) : SlotM := x.slots[c]?.getD default
/-- the slot's number of the column of a name -/
def col (x : Ver) (nm : ByteArray) : Option Nat := x.cols.find? fun c => eqN (slotOf x c).nm nm
def colI (x : Ver) (nm : ByteArray) : Int := match col x nm with
  | none => -1
  | some c => c
/-- of a step, is all that its kind doesn't tell nothing? -/
def rest (s : StepM) : Bool :=
  (decide (s.kd = 1) || (!s.sl.rq && decide (cmpV s.sl.df nilV = 0))) && (decide (s.kd = 5) || s.od.isEmpty) && (decide (s.kd = 1) || decide (s.kd = 3) || decide (s.sl.nm.size = 0)) && (decide (s.kd = 1) || decide (s.kd = 4) || decide (s.sl.ty = 0)) &&
  ((!decide (s.kd = 1) && !decide (s.kd = 5)) || decide (s.col = 0))
def setNm (s : SlotM) (nm : ByteArray) : SlotM := { s with nm := nm }
def setTy (s : SlotM) (ty : Int) : SlotM := { s with ty := ty }
def once (od : List Int) (n : Nat) : Bool := (List.range n).all fun k => decide ((od.filter fun x => decide (x = (k : Int))).length = 1)
/-- a version behind a step; none: it can't be done -/
def step (x : Ver) (s : StepM) : Option Ver :=
  if rest s = false then none
  else if s.kd = 1 then (if x.cols.length ≤ 7 ∧ sound s.sl = true ∧ s.sl.rq = false ∧ col x s.sl.nm = none then some ⟨x.slots ++ [s.sl], x.cols ++ [x.slots.length]⟩ else none)
  else if s.kd = 5 then (if s.od.length = x.cols.length ∧ once s.od x.cols.length = true then some ⟨x.slots, s.od.map fun i => x.cols[i.toNat]?.getD 0⟩ else none)
  else if s.kd < 1 ∨ 5 < s.kd ∨ s.col < 0 ∨ x.cols.length ≤ s.col then none
  else if s.kd = 2 then (if 2 ≤ x.cols.length then some ⟨x.slots, x.cols.eraseIdx s.col.toNat⟩ else none)
  else if s.kd = 3 then (if nameB (strB s.sl.nm) = true ∧ col x s.sl.nm = none then some ⟨x.slots.modify (x.cols[s.col.toNat]?.getD 0) (fun t => setNm t s.sl.nm), x.cols⟩ else none)
  else (let c := x.cols[s.col.toNat]?.getD 0; let old := (slotOf x c).ty.toNat
    if 1 ≤ s.sl.ty ∧ s.sl.ty ≤ 63 ∧ old ||| s.sl.ty.toNat ≠ old then some ⟨x.slots.modify c (fun t => setTy t ((old ||| s.sl.ty.toNat : Nat) : Int)), x.cols⟩ else none)
/-- all versions from one on -/
def run : Ver → List StepM → Option (List Ver)
  | x, [] => some [x]
  | x, s :: r => match step x s with
    | none => none
    | some y => (run y r).map (x :: ·)
/-- the first one -/
def first (l : List SlotM) : Ver := ⟨l, List.range l.length⟩
def firstOk (l : List SlotM) : Bool := l.all sound && (List.range l.length).all fun i => (List.range i).all fun j => !eqN (l[j]?.getD default).nm (l[i]?.getD default).nm
/-- all versions; none, if it isn't right -/
def vers (t : TemplM) : Option (List Ver) :=
  if nameB (strB t.nm) = true ∧ 1 ≤ t.slots.length ∧ t.slots.length ≤ 8 ∧ t.steps.length ≤ 8 ∧ firstOk t.slots = true then run (first t.slots) t.steps else none
theorem run_length : ∀ (l : List StepM) (x : Ver) (L : List Ver), run x l = some L → L.length = l.length + 1 := by
  intro l
  induction l with
  | nil => intro x L h; simp only [run, Option.some.injEq] at h; subst h; rfl
  | cons s r ih =>
    intro x L h
    simp only [run] at h
    split at h
    · cases h
    · rename_i y hy
      cases hr : run y r with
      | none => rw [hr] at h; cases h
      | some M =>
        rw [hr] at h
        simp only [Option.map_some, Option.some.injEq] at h
        subst h
        have := ih y M hr
        simp [this]
theorem vers_length {t : TemplM} {L : List Ver} (h : vers t = some L) : L.length = t.steps.length + 1 ∧ t.steps.length ≤ 8 := by
  unfold vers at h
  split at h
  · rename_i hc
    exact ⟨run_length _ _ _ h, hc.2.2.2.1⟩
  · cases h
end Sc
end Go.Proofs.YtdogdbibhmhooaaGreat

/- Bits of numbers from 0 on (no walk). -/
set_option linter.unusedVariables false
namespace Go.Proofs.YtdogdbibhmhooaaGreat
open Go.RowKit Go.Shelf
namespace Sc
theorem ofI (a : Nat) (ha : a < 9223372036854775808) : (BitVec.ofInt 64 (a : Int)).toNat = a := by
  rw [BitVec.ofInt_natCast, BitVec.toNat_ofNat]; exact Nat.mod_eq_of_lt (by omega)
theorem wrapI (n : Nat) (h : n < 9223372036854775808) : IntKind.i64.wrap (n : Int) = (n : Int) := by
  simp [IntKind.wrap, IntKind.bits, IntKind.signed]
  split <;> omega
theorem andI (a b : Nat) (ha : a < 9223372036854775808) (hb : b < 9223372036854775808) : bits .and .i64 (a : Int) (b : Int) = ((a &&& b : Nat) : Int) := by
  have hx : a &&& b < 2 ^ 63 := Nat.and_lt_two_pow _ (by omega)
  show IntKind.i64.wrap ((BitVec.ofInt 64 (a : Int) &&& BitVec.ofInt 64 (b : Int)).toNat : Int) = _
  rw [BitVec.toNat_and, ofI a ha, ofI b hb]
  exact wrapI _ (by omega)
theorem orI' (a b : Nat) (ha : a < 9223372036854775808) (hb : b < 9223372036854775808) : bits .or .i64 (a : Int) (b : Int) = ((a ||| b : Nat) : Int) := by
  have hx : a ||| b < 2 ^ 63 := Nat.or_lt_two_pow (by omega) (by omega)
  show IntKind.i64.wrap ((BitVec.ofInt 64 (a : Int) ||| BitVec.ofInt 64 (b : Int)).toNat : Int) = _
  rw [BitVec.toNat_or, ofI a ha, ofI b hb]
  exact wrapI _ (by omega)
theorem and_pow (t k : Nat) : (t &&& 2 ^ k = 0) ↔ ¬ t / 2 ^ k % 2 = 1 := by
  have e : t.testBit k = decide (t / 2 ^ k % 2 = 1) := by
    rw [Nat.testBit_eq_decide_div_mod_eq]
  constructor
  · intro h hk
    have h2 : (t &&& 2 ^ k).testBit k = false := by rw [h]; exact Nat.zero_testBit k
    rw [Nat.testBit_and, e, Nat.testBit_two_pow_self] at h2
    simp [hk] at h2
  · intro h
    refine Nat.eq_of_testBit_eq fun i => ?_
    rw [Nat.testBit_and, Nat.zero_testBit]
    by_cases hi : k = i
    · subst hi
      rw [e]
      simp [h]
    · rw [Nat.testBit_two_pow_of_ne hi, Bool.and_false]
theorem and_has (t k : Nat) : decide ((t &&& 2 ^ k) = 0) = !has t k := by
  unfold has
  by_cases h : t / 2 ^ k % 2 = 1
  · rw [decide_eq_true h, decide_eq_false (fun e => ((and_pow t k).1 e) h)]; rfl
  · rw [decide_eq_false h, decide_eq_true ((and_pow t k).2 h)]; rfl
theorem small_or : ∀ a b : Nat, a < 64 → b < 64 → a ||| b < 64 := fun a b ha hb => Nat.or_lt_two_pow (n := 6) ha hb
/-- what one takes that the other does not -/
theorem bitsNot (a b : Nat) (ha : a < 64) (hb : b < 64) : bits .andNot .i64 (a : Int) (b : Int) = ((a &&& (63 - b) : Nat) : Int) := by
  have H : ∀ (a b : Fin 64), bits .andNot .i64 ((a.val : Nat) : Int) ((b.val : Nat) : Int) = ((a.val &&& (63 - b.val) : Nat) : Int) := by decide +kernel
  exact H ⟨a, ha⟩ ⟨b, hb⟩
theorem not_or (a b : Nat) (ha : a < 64) (hb : b < 64) : (a &&& (63 - b) = 0) ↔ b ||| a = b := by
  have H : ∀ (a b : Fin 64), (a.val &&& (63 - b.val) = 0) ↔ b.val ||| a.val = b.val := by decide +kernel
  exact H ⟨a, ha⟩ ⟨b, hb⟩
end Sc
end Go.Proofs.YtdogdbibhmhooaaGreat

/- The program's schema: the mathematics (no walk). -/
set_option linter.unusedVariables false
namespace Go.Proofs.YtdogdbibhmhooaaGreat
open Go.RowKit Go.Shelf
namespace Sc
/-- what every version's slots are -/
def SlotOk (s : SlotM) : Prop := 1 ≤ s.ty ∧ s.ty ≤ 63 ∧ rightV s.df = true
structure VerOk (n : Nat) (x : Ver) : Prop where
  lt : ∀ c ∈ x.cols, c < x.slots.length
  nodup : x.cols.Nodup
  len : x.cols.length ≤ 8
  num : x.slots.length ≤ n
  ok : ∀ s ∈ x.slots, SlotOk s
theorem sound_ok {s : SlotM} (h : sound s = true) : SlotOk s := by
  unfold sound fits at h
  simp only [Bool.and_eq_true, decide_eq_true_eq] at h
  exact ⟨by omega, by omega, h.2.1⟩
theorem find_at {α : Type} (p : α → Bool) (l : List α) (q : Nat) (x : α) (h : ∀ (i : Nat) (y : α), i < q → l[i]? = some y → p y = false) (hx : l[q]? = some x) (hp : p x = true) : l.find? p = some x := by
  induction l generalizing q with
  | nil => simp at hx
  | cons a r ih =>
    cases q with
    | zero =>
      simp only [List.getElem?_cons_zero, Option.some.injEq] at hx
      subst hx
      rw [List.find?_cons, hp]
    | succ q =>
      rw [List.find?_cons, h 0 a (by omega) rfl]
      exact ih q (fun i y hi hy => h (i + 1) y (by omega) (by simpa using hy)) (by simpa using hx)
theorem find_no {α : Type} (p : α → Bool) (l : List α) (h : ∀ (i : Nat) (y : α), l[i]? = some y → p y = false) : l.find? p = none := by
  rw [List.find?_eq_none]
  intro y hy
  obtain ⟨i, hi⟩ := List.mem_iff_getElem?.1 hy
  rw [h i y hi]
  simp
theorem colI_neg (x : Ver) (nm : ByteArray) : colI x nm < 0 ↔ col x nm = none := by
  unfold colI
  cases col x nm with
  | none => simp
  | some c => simp
theorem modify_mem {α : Type} {l : List α} {i : Nat} {f : α → α} {P : α → Prop} (h : ∀ s ∈ l, P s) (hf : ∀ s, P s → P (f s)) : ∀ s ∈ l.modify i f, P s := by
  intro s hs
  obtain ⟨j, hj⟩ := List.mem_iff_getElem?.1 hs
  rw [List.getElem?_modify] at hj
  obtain ⟨t, ht, rfl⟩ := Option.map_eq_some_iff.1 hj
  have := h t (List.mem_of_getElem? ht)
  split
  · exact hf t this
  · exact this
/- each number once -/
def cnt (od : List Int) (k : Nat) : Nat := (od.filter fun x => decide (x = (k : Int))).length
def inr (od : List Int) (m : Nat) : Nat := (od.filter fun x => decide (0 ≤ x) && decide (x < (m : Int))).length
theorem sum_ind (x : Int) (m : Nat) : ((List.range m).map fun (k : Nat) => if x = (k : Int) then 1 else 0).sum = if 0 ≤ x ∧ x < (m : Int) then 1 else 0 := by
  induction m with
  | zero => rw [if_neg (by omega)]; rfl
  | succ m ih =>
    rw [List.range_succ, List.map_append, List.sum_append_nat, ih]
    simp only [List.map_cons, List.map_nil, List.sum_cons, List.sum_nil, Nat.add_zero]
    by_cases h1 : x = (m : Int)
    · rw [if_pos h1, if_neg (by omega), if_pos (by omega)]
    · rw [if_neg h1]
      by_cases h2 : 0 ≤ x ∧ x < (m : Int)
      · rw [if_pos h2, if_pos (by omega)]
      · rw [if_neg h2, if_neg (by omega)]
theorem sum_add (l : List Nat) (f g : Nat → Nat) : (l.map fun k => f k + g k).sum = (l.map f).sum + (l.map g).sum := by
  induction l with
  | nil => rfl
  | cons a r ih => simp only [List.map_cons, List.sum_cons, ih]; omega
theorem cnt_cons (x : Int) (r : List Int) (k : Nat) : cnt (x :: r) k = (if x = (k : Int) then 1 else 0) + cnt r k := by
  unfold cnt
  rw [List.filter_cons]
  by_cases h : x = (k : Int)
  · rw [if_pos (by simpa using h), if_pos h, List.length_cons]; omega
  · rw [if_neg (by simpa using h), if_neg h]; omega
theorem total (od : List Int) (m : Nat) : ((List.range m).map (cnt od)).sum = inr od m := by
  induction od with
  | nil =>
    have : ∀ l : List Nat, (l.map (cnt [])).sum = 0 := by
      intro l
      induction l with
      | nil => rfl
      | cons a r ih => simp only [List.map_cons, List.sum_cons, ih]; rfl
    exact this _
  | cons x r ih =>
    rw [show cnt (x :: r) = fun (k : Nat) => (if x = (k : Int) then 1 else 0) + cnt r k from funext fun k => cnt_cons x r k, sum_add, ih, sum_ind]
    unfold inr
    rw [List.filter_cons]
    by_cases h : 0 ≤ x ∧ x < (m : Int)
    · rw [if_pos h, if_pos (by simpa using h), List.length_cons]; omega
    · rw [if_neg h, if_neg (by simpa using h)]; omega
theorem sum_le (l : List Nat) (f : Nat → Nat) (h : ∀ k ∈ l, f k ≤ 1) : (l.map f).sum ≤ l.length ∧ ((l.map f).sum = l.length → ∀ k ∈ l, f k = 1) := by
  induction l with
  | nil => simp
  | cons a r ih =>
    obtain ⟨i1, i2⟩ := ih fun k hk => h k (List.mem_cons_of_mem _ hk)
    have ha := h a (List.mem_cons_self ..)
    simp only [List.map_cons, List.sum_cons, List.length_cons]
    refine ⟨by omega, fun e k hk => ?_⟩
    rcases List.mem_cons.1 hk with rfl | hk
    · omega
    · exact i2 (by omega) k hk
theorem sum_one (l : List Nat) (f : Nat → Nat) (h : ∀ k ∈ l, f k = 1) : (l.map f).sum = l.length := by
  induction l with
  | nil => rfl
  | cons a r ih =>
    simp only [List.map_cons, List.sum_cons, List.length_cons, ih fun k hk => h k (List.mem_cons_of_mem _ hk), h a (List.mem_cons_self ..)]
    omega
theorem cnt_nodup {od : List Int} (h : od.Nodup) (k : Nat) : cnt od k ≤ 1 := by
  induction od with
  | nil => exact Nat.zero_le _
  | cons x r ih =>
    obtain ⟨h1, h2⟩ := List.nodup_cons.1 h
    rw [cnt_cons]
    split
    · rename_i e
      have : cnt r k = 0 := by
        unfold cnt
        rw [List.length_eq_zero_iff, List.filter_eq_nil_iff]
        intro y hy
        simp only [decide_eq_true_eq]
        rintro rfl
        exact h1 (e ▸ hy)
      omega
    · have := ih h2; omega
theorem nodup_cnt {od : List Int} {m : Nat} (hin : ∀ x ∈ od, 0 ≤ x ∧ x < (m : Int)) (h : ∀ k, k < m → cnt od k ≤ 1) : od.Nodup := by
  induction od with
  | nil => exact List.nodup_nil
  | cons x r ih =>
    refine List.nodup_cons.2 ⟨fun hx => ?_, ih (fun y hy => hin y (List.mem_cons_of_mem _ hy)) fun k hk => ?_⟩
    · obtain ⟨h0, h1⟩ := hin x (List.mem_cons_self ..)
      have h2 := h x.toNat (by omega)
      rw [cnt_cons, if_pos (by omega)] at h2
      have : 0 < cnt r x.toNat := by
        unfold cnt
        exact List.length_pos_of_mem (List.mem_filter.2 ⟨hx, by simp; omega⟩)
      omega
    · have := h k hk
      rw [cnt_cons] at this
      omega
theorem once_iff (od : List Int) (m : Nat) (hl : od.length = m) : once od m = true ↔ (∀ x ∈ od, 0 ≤ x ∧ x < (m : Int)) ∧ od.Nodup := by
  have e : once od m = true ↔ ∀ k, k < m → cnt od k = 1 := by
    unfold once cnt
    rw [List.all_eq_true]
    constructor
    · intro h k hk
      have := h k (List.mem_range.2 hk)
      simpa using this
    · intro h k hk
      simpa using h k (List.mem_range.1 hk)
  rw [e]
  constructor
  · intro h
    have ht := total od m
    rw [sum_one _ _ fun k hk => h k (List.mem_range.1 hk), List.length_range] at ht
    have hin : ∀ x ∈ od, 0 ≤ x ∧ x < (m : Int) := by
      have h2 : (od.filter fun x => decide (0 ≤ x) && decide (x < (m : Int))).length = od.length := by unfold inr at ht; omega
      rw [List.length_filter_eq_length_iff] at h2
      intro x hx
      simpa using h2 x hx
    exact ⟨hin, nodup_cnt hin fun k hk => Nat.le_of_eq (h k hk)⟩
  · rintro ⟨h1, h2⟩ k hk
    have hs := sum_le (List.range m) (cnt od) fun k _ => cnt_nodup h2 k
    have ht := total od m
    have hi : inr od m = m := by
      unfold inr
      rw [List.filter_eq_self.2 fun x hx => by simpa using h1 x hx, hl]
    exact hs.2 (by rw [ht, hi, List.length_range]) k (List.mem_range.2 hk)
theorem nodup_at {α : Type} {l : List α} (h : l.Nodup) {i j : Nat} {x : α} (hi : l[i]? = some x) (hj : l[j]? = some x) : i = j := by
  obtain ⟨h1, e1⟩ := List.getElem?_eq_some_iff.1 hi
  obtain ⟨h2, e2⟩ := List.getElem?_eq_some_iff.1 hj
  have := (List.pairwise_iff_getElem.1 h)
  rcases Nat.lt_trichotomy i j with hlt | he | hgt
  · exact absurd (e1.trans e2.symm) (this i j h1 h2 hlt)
  · exact he
  · exact absurd (e2.trans e1.symm) (this j i h2 h1 hgt)
theorem nodup_map {α β : Type} {f : α → β} : ∀ {l : List α}, l.Nodup → (∀ x ∈ l, ∀ y ∈ l, f x = f y → x = y) → (l.map f).Nodup := by
  intro l
  induction l with
  | nil => intro _ _; exact List.nodup_nil
  | cons a r ih =>
    intro h hf
    obtain ⟨h1, h2⟩ := List.nodup_cons.1 h
    rw [List.map_cons]
    refine List.nodup_cons.2 ⟨fun hm => ?_, ih h2 fun x hx y hy => hf x (List.mem_cons_of_mem _ hx) y (List.mem_cons_of_mem _ hy)⟩
    obtain ⟨b, hb, e⟩ := List.mem_map.1 hm
    exact h1 ((hf b (List.mem_cons_of_mem _ hb) a (List.mem_cons_self ..) e) ▸ hb)
/-- a step keeps it -/
theorem step_ok {n : Nat} {x y : Ver} {s : StepM} (h : VerOk n x) (hs : step x s = some y) : VerOk (n + 1) y := by
  unfold step at hs
  split at hs
  · cases hs
  split at hs
  · split at hs
    · rename_i hc
      simp only [Option.some.injEq] at hs
      subst hs
      refine ⟨fun c hc' => ?_, ?_, ?_, ?_, fun t ht => ?_⟩
      · simp only [List.length_append, List.length_cons, List.length_nil]
        rcases List.mem_append.1 hc' with g | g
        · have := h.lt c g; omega
        · simp at g; omega
      · simp only
        refine List.nodup_append.2 ⟨h.nodup, (List.nodup_cons.2 ⟨List.not_mem_nil, List.nodup_nil⟩), fun a ha b hb => ?_⟩
        simp at hb
        have := h.lt a ha
        omega
      · simp only [List.length_append, List.length_cons, List.length_nil]; omega
      · have := h.num
        simp only [List.length_append, List.length_cons, List.length_nil]; omega
      · rcases List.mem_append.1 ht with g | g
        · exact h.ok t g
        · simp at g; subst g; exact sound_ok hc.2.1
    · cases hs
  split at hs
  · split at hs
    · rename_i hc
      simp only [Option.some.injEq] at hs
      subst hs
      obtain ⟨hin, hnd⟩ := (once_iff s.od x.cols.length hc.1).1 hc.2
      refine ⟨fun c hc' => ?_, ?_, ?_, Nat.le_succ_of_le h.num, h.ok⟩
      · obtain ⟨i, hi, rfl⟩ := List.mem_map.1 hc'
        have := hin i hi
        have hlt : i.toNat < x.cols.length := by omega
        rw [List.getElem?_eq_getElem hlt]
        exact h.lt _ (List.getElem_mem hlt)
      · refine nodup_map hnd fun a ha b hb e => ?_
        have h1 := hin a ha
        have h2 := hin b hb
        have e1 : x.cols[a.toNat]? = some x.cols[a.toNat] := List.getElem?_eq_getElem (by omega)
        have e2 : x.cols[b.toNat]? = some x.cols[b.toNat] := List.getElem?_eq_getElem (by omega)
        rw [e1, e2] at e
        have e' : x.cols[a.toNat] = x.cols[b.toNat] := e
        have := nodup_at h.nodup e1 (e' ▸ e2)
        omega
      · simp only [List.length_map]; rw [hc.1]; exact h.len
    · cases hs
  split at hs
  · cases hs
  split at hs
  · split at hs
    · simp only [Option.some.injEq] at hs
      subst hs
      refine ⟨fun c hc => h.lt c (List.mem_of_mem_eraseIdx hc), h.nodup.sublist (List.eraseIdx_sublist ..), Nat.le_trans (List.length_eraseIdx_le ..) h.len, Nat.le_succ_of_le h.num, h.ok⟩
    · cases hs
  split at hs
  · split at hs
    · simp only [Option.some.injEq] at hs
      subst hs
      exact ⟨fun c hc => by rw [List.length_modify]; exact h.lt c hc, h.nodup, h.len, by rw [List.length_modify]; exact Nat.le_succ_of_le h.num, modify_mem h.ok fun t ht => ht⟩
    · cases hs
  · dsimp only at hs
    split at hs
    · rename_i hcol _ _ hc
      simp only [Option.some.injEq] at hs
      subst hs
      refine ⟨fun c hc => by rw [List.length_modify]; exact h.lt c hc, h.nodup, h.len, by rw [List.length_modify]; exact Nat.le_succ_of_le h.num, modify_mem h.ok fun t ht => ?_⟩
      have hold : (slotOf x (x.cols[s.col.toNat]?.getD 0)).ty.toNat < 64 := by
        have hlt : s.col.toNat < x.cols.length := by omega
        have hcl := h.lt _ (List.getElem_mem hlt)
        unfold slotOf
        rw [List.getElem?_eq_getElem hlt]
        simp only [Option.getD_some]
        rw [List.getElem?_eq_getElem hcl]
        have := (h.ok _ (List.getElem_mem hcl)).2.1
        simp only [Option.getD_some]
        omega
      have h64 := small_or _ s.sl.ty.toNat hold (by omega)
      have hle : s.sl.ty.toNat ≤ (slotOf x (x.cols[s.col.toNat]?.getD 0)).ty.toNat ||| s.sl.ty.toNat := Nat.right_le_or
      exact ⟨by simp only [setTy]; omega, by simp only [setTy]; omega, ht.2.2⟩
    · cases hs
theorem firstOk_iff (l : List SlotM) : firstOk l = true ↔ ∀ i, i < l.length → sound (l[i]?.getD default) = true ∧ col ⟨l, List.range i⟩ (l[i]?.getD default).nm = none := by
  unfold firstOk
  rw [Bool.and_eq_true, List.all_eq_true, List.all_eq_true]
  constructor
  · rintro ⟨h1, h2⟩ i hi
    refine ⟨by rw [List.getElem?_eq_getElem hi]; exact h1 _ (List.getElem_mem hi), ?_⟩
    have h3 := h2 i (List.mem_range.2 hi)
    rw [List.all_eq_true] at h3
    unfold col
    rw [List.find?_eq_none]
    intro c hc
    have := h3 c hc
    simpa [slotOf] using this
  · intro h
    refine ⟨fun s hs => ?_, fun i hi => ?_⟩
    · obtain ⟨i, hi⟩ := List.mem_iff_getElem?.1 hs
      have := (h i (List.getElem?_eq_some_iff.1 hi).1).1
      rwa [hi] at this
    · rw [List.all_eq_true]
      intro j hj
      have h3 := (h i (List.mem_range.1 hi)).2
      unfold col at h3
      rw [List.find?_eq_none] at h3
      have := h3 j hj
      simpa [slotOf] using this
theorem first_ok {l : List SlotM} (h : firstOk l = true) (h8 : l.length ≤ 8) : VerOk 8 (first l) := by
  have hs := (firstOk_iff l).1 h
  refine ⟨fun c hc => by simpa [first] using hc, by simpa [first] using List.nodup_range, by simpa [first] using h8, by simpa [first] using h8, fun s hs' => ?_⟩
  obtain ⟨i, hi⟩ := List.mem_iff_getElem?.1 hs'
  have hi' : l[i]? = some s := hi
  have := (hs i (List.getElem?_eq_some_iff.1 hi').1).1
  rw [hi'] at this
  exact sound_ok this
end Sc
end Go.Proofs.YtdogdbibhmhooaaGreat
