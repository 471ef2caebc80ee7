/- The arithmetic of decimal digits: what package num and its document answer, as functions of numbers and of lists of bytes. -/
import Derived.Test.YtcicjpdjbfgbhaaDoorMh0Cell
namespace Go.Proofs.YtcicjpdjbfgbhaaDoor.M
theorem snoc_ind {α : Type} {P : List α → Prop} (h0 : P []) (h1 : ∀ l x, P l → P (l ++ [x])) (l : List α) : P l := by
  have h : ∀ r : List α, P r.reverse := by
    intro r
    induction r with
    | nil => exact h0
    | cons x r ih => rw [List.reverse_cons]; exact h1 _ _ ih
  have := h l.reverse
  rwa [List.reverse_reverse] at this
/-- a number's digits, the highest one first, as bytes -/
def D (m : Nat) : List Int := if m < 10 then [48 + (m : Int)] else D (m / 10) ++ [48 + ((m % 10 : Nat) : Int)]
termination_by m
decreasing_by omega
theorem D_lt (m : Nat) (h : m < 10) : D m = [48 + (m : Int)] := by rw [D, if_pos h]
theorem D_ge (m : Nat) (h : ¬ m < 10) : D m = D (m / 10) ++ [48 + ((m % 10 : Nat) : Int)] := by rw [D, if_neg h]
def isD (x : Int) : Bool := decide (48 ≤ x ∧ x ≤ 57)
def val (l : List Int) : Nat := l.foldl (fun m x => m * 10 + (x - 48).toNat) 0
theorem val_snoc (l : List Int) (x : Int) : val (l ++ [x]) = val l * 10 + (x - 48).toNat := by simp [val]
theorem val_D (m : Nat) : val (D m) = m := by
  induction m using Nat.strongRecOn with
  | _ m ih =>
    by_cases h : m < 10
    · rw [D_lt m h]; simp [val]; omega
    · rw [D_ge m h, val_snoc, ih _ (by omega)]; omega
theorem D_digits (m : Nat) : ∀ x ∈ D m, isD x = true := by
  induction m using Nat.strongRecOn with
  | _ m ih =>
    intro x hx
    by_cases h : m < 10
    · rw [D_lt m h] at hx; simp at hx; simp [isD]; omega
    · rw [D_ge m h, List.mem_append] at hx
      rcases hx with hx | hx
      · exact ih _ (by omega) x hx
      · simp at hx; simp [isD]; omega
theorem D_pos (m : Nat) : 0 < (D m).length := by
  by_cases h : m < 10
  · rw [D_lt m h]; simp
  · rw [D_ge m h]; simp
theorem D_len_le (k : Nat) : ∀ m, m < 10 ^ (k + 1) → (D m).length ≤ k + 1 := by
  induction k with
  | zero => intro m h; rw [D_lt m (by simpa using h)]; simp
  | succ k ih =>
    intro m h
    by_cases h9 : m < 10
    · rw [D_lt m h9]; simp
    · rw [D_ge m h9]
      have := ih (m / 10) (by rw [Nat.pow_succ] at h; omega)
      simp; omega
theorem D_head (m : Nat) (h : (D m)[0]?.getD 0 = 48) : m = 0 := by
  induction m using Nat.strongRecOn with
  | _ m ih =>
    by_cases h9 : m < 10
    · rw [D_lt m h9] at h; simp at h; omega
    · rw [D_ge m h9, List.getElem?_append_left (D_pos _)] at h
      have := ih _ (by omega) h
      omega
theorem val_lt (l : List Int) (h : ∀ x ∈ l, isD x = true) : val l < 10 ^ l.length := by
  induction l using snoc_ind with
  | h0 => simp [val]
  | h1 l x ih =>
    have h1 := ih (fun y hy => h y (List.mem_append_left _ hy))
    have h2 := h x (by simp)
    simp [isD] at h2
    rw [val_snoc]
    simp only [List.length_append, List.length_cons, List.length_nil, Nat.zero_add, Nat.pow_succ]
    omega
/-- digits such as are printed -/
def fm (l : List Int) : Prop := l ≠ [] ∧ (∀ x ∈ l, isD x = true) ∧ (l[0]?.getD 0 ≠ 48 ∨ l = [48])
theorem D_val (l : List Int) (h : fm l) : D (val l) = l := by
  induction l using snoc_ind with
  | h0 => exact absurd rfl h.1
  | h1 l x ih =>
    obtain ⟨_, hd, hh⟩ := h
    have hx := hd x (by simp)
    simp [isD] at hx
    rw [val_snoc]
    by_cases hl : l = []
    · subst hl
      rw [D_lt _ (by simp [val]; omega)]
      simp [val]; omega
    · have hpos : 0 < l.length := List.length_pos_iff.2 hl
      have hne : l[0]?.getD 0 ≠ 48 := by
        rcases hh with hh | hh
        · rwa [List.getElem?_append_left hpos] at hh
        · exact absurd (congrArg List.length hh) (by simp; omega)
      have hD := ih ⟨hl, fun y hy => hd y (List.mem_append_left _ hy), .inl hne⟩
      have hv : val l ≠ 0 := by
        intro h0
        rw [h0, D_lt 0 (by omega)] at hD
        rw [← hD] at hne
        exact hne rfl
      rw [D_ge _ (by omega), show (val l * 10 + (x - 48).toNat) / 10 = val l by omega, hD]
      congr 2
      omega
theorem fm_D (m : Nat) : fm (D m) := by
  refine ⟨List.length_pos_iff.1 (D_pos m), D_digits m, ?_⟩
  by_cases h : (D m)[0]?.getD 0 = 48
  · right; rw [D_head m h, D_lt 0 (by omega)]; rfl
  · exact .inl h
/-- the place behind a sign, if one stands at a place -/
def sgn (l : List Int) (p : Nat) : Nat := if l[p]?.getD 0 = 45 then p + 1 else p
/-- the place behind the digits that stand at a place -/
def runTo (l : List Int) (p : Nat) : Nat := p + ((l.drop p).takeWhile isD).length
def formed (l : List Int) : Prop := sgn l 0 < l.length ∧ runTo l (sgn l 0) = l.length ∧ (l[sgn l 0]?.getD 0 ≠ 48 ∨ l = [48])
instance (l : List Int) : Decidable (formed l) := by unfold formed; infer_instance
/-- the number of a size and a sign; an error's number -/
def sg (m : Nat) (b : Bool) : Int × Int := if b = true then (if m ≤ 9223372036854775808 then (-(m : Int), 0) else (0, 5)) else if m < 9223372036854775808 then ((m : Int), 0) else (0, 5)
def parse (l : List Int) : Int × Int := if formed l then sg (val (l.drop (sgn l 0))) (decide (0 < sgn l 0)) else (0, 2)
def scan (l : List Int) (p : Int) : Int × Int × Int :=
  if 0 ≤ p ∧ p ≤ l.length then
    if (parse ((l.take (runTo l (sgn l p.toNat))).drop p.toNat)).2 = 0 then ((parse ((l.take (runTo l (sgn l p.toNat))).drop p.toNat)).1, runTo l (sgn l p.toNat), 0)
    else (0, p, (parse ((l.take (runTo l (sgn l p.toNat))).drop p.toNat)).2)
  else (0, p, 2)
def prt (n : Int) : List Int := (if n < 0 then [45] else []) ++ D n.natAbs
/-- a sum, if it is one of 64 bits -/
def add (a b : Int) : Int × Bool := if -9223372036854775808 ≤ a + b ∧ a + b ≤ 9223372036854775807 then (a + b, true) else (0, false)
theorem takeWhile_all {l : List Int} : (∀ x ∈ l, isD x = true) ↔ (l.takeWhile isD).length = l.length := by
  induction l with
  | nil => simp
  | cons x l ih =>
    by_cases h : isD x = true
    · simp [h, ih]
    · simp [h]
theorem runTo_le (l : List Int) (p : Nat) (hp : p ≤ l.length) : p ≤ runTo l p ∧ runTo l p ≤ l.length := by
  have := (List.takeWhile_prefix isD (l := l.drop p)).length_le
  simp at this
  unfold runTo; omega
theorem runTo_step (l : List Int) (p : Nat) (hp : p < l.length) (h : isD (l[p]?.getD 0) = true) : runTo l p = runTo l (p + 1) := by
  have e : l.drop p = l[p]?.getD 0 :: l.drop (p + 1) := by rw [List.drop_eq_getElem_cons hp, List.getElem?_eq_getElem hp]; rfl
  unfold runTo; rw [e]; simp only [List.takeWhile_cons, h, if_true, List.length_cons]; omega
theorem runTo_stop (l : List Int) (p : Nat) (h : p < l.length → isD (l[p]?.getD 0) = false) : runTo l p = p := by
  unfold runTo
  rcases Nat.lt_or_ge p l.length with hp | hp
  · have e : l.drop p = l[p]?.getD 0 :: l.drop (p + 1) := by rw [List.drop_eq_getElem_cons hp, List.getElem?_eq_getElem hp]; rfl
    rw [e]; simp [h hp]
  · rw [List.drop_eq_nil_of_le hp]; simp
theorem runTo_all (l : List Int) (p : Nat) (hp : p ≤ l.length) : runTo l p = l.length ↔ ∀ x ∈ l.drop p, isD x = true := by
  rw [takeWhile_all]; unfold runTo; simp; omega
theorem sgn_le (l : List Int) (p : Nat) (hp : p ≤ l.length) : p ≤ sgn l p ∧ sgn l p ≤ l.length ∧ sgn l p ≤ p + 1 := by
  unfold sgn
  split
  · rename_i h
    rcases Nat.lt_or_ge p l.length with h1 | h1
    · omega
    · rw [List.getElem?_eq_none h1] at h; simp at h
  · omega
theorem formed_fm (l : List Int) (h : formed l) : fm (l.drop (sgn l 0)) := by
  obtain ⟨h1, h2, h3⟩ := h
  refine ⟨fun e => ?_, (runTo_all l _ (by omega)).1 h2, ?_⟩
  · have := congrArg List.length e; simp at this; omega
  · rcases h3 with h3 | h3
    · left; simpa using h3
    · right; subst h3; rfl
theorem sgn_cons (l : List Int) : sgn (45 :: l) 0 = 1 := by simp [sgn]
theorem sgn_fm (l : List Int) (r : List Int) (h : fm l) : sgn (l ++ r) 0 = 0 := by
  obtain ⟨h1, h2, _⟩ := h
  cases l with
  | nil => exact absurd rfl h1
  | cons x l => have := h2 x (by simp); simp [isD] at this; simp [sgn]; omega
theorem prt_len (n : Int) (h : -9223372036854775808 ≤ n) (h' : n ≤ 9223372036854775807) : 0 < (prt n).length ∧ (prt n).length ≤ 20 := by
  have h1 := D_len_le 18 n.natAbs (by omega)
  have h2 := D_pos n.natAbs
  unfold prt
  split <;> simp <;> omega
theorem parse_prt (n : Int) (h : -9223372036854775808 ≤ n) (h' : n ≤ 9223372036854775807) : parse (prt n) = (n, 0) := by
  have hf := fm_D n.natAbs
  have hpos := D_pos n.natAbs
  by_cases hn : n < 0
  · have e : prt n = 45 :: D n.natAbs := by simp [prt, hn]
    have hfo : formed (45 :: D n.natAbs) := by
      refine ⟨by rw [sgn_cons]; simp; omega, ?_, ?_⟩
      · rw [sgn_cons, runTo_all _ _ (by simp)]; simpa using hf.2.1
      · rw [sgn_cons]; left
        rcases hf.2.2 with h0 | h0
        · simpa using h0
        · have := val_D n.natAbs; rw [h0] at this; simp [val] at this; omega
    rw [e]; unfold parse; rw [if_pos hfo, sgn_cons]
    simp only [List.drop_succ_cons, List.drop_zero, val_D, sg]
    rw [if_pos (by simp), if_pos (by omega)]
    simp; omega
  · have e : prt n = D n.natAbs := by simp [prt, hn]
    have h0 := sgn_fm _ [] hf
    rw [List.append_nil] at h0
    have hfo : formed (D n.natAbs) := by
      refine ⟨by rw [h0]; exact hpos, by rw [h0, runTo_all _ _ (by simp)]; simpa using hf.2.1, by rw [h0]; exact hf.2.2⟩
    rw [e]; unfold parse; rw [if_pos hfo, h0]
    simp only [List.drop_zero, val_D, sg]
    rw [if_neg (by simp), if_pos (by omega)]
    simp; omega
theorem prt_parse (l : List Int) (h : (parse l).2 = 0) : prt (parse l).1 = l := by
  unfold parse at h ⊢
  by_cases hf : formed l
  · rw [if_pos hf] at h ⊢
    have hfm := formed_fm l hf
    have hD := D_val _ hfm
    by_cases hs : l[0]?.getD 0 = 45
    · have e1 : sgn l 0 = 1 := by simp [sgn, hs]
      rw [e1] at h hfm hD ⊢
      unfold sg at h ⊢
      rw [if_pos (by simp)] at h ⊢
      by_cases hm : val (l.drop 1) ≤ 9223372036854775808
      · rw [if_pos hm]
        have hv : val (l.drop 1) ≠ 0 := by
          intro h0
          rw [h0, D_lt 0 (by omega)] at hD
          obtain ⟨_, _, h3⟩ := hf
          rw [e1] at h3
          have : l[1]?.getD 0 = 48 := by
            have := congrArg (fun r : List Int => r[0]?.getD 0) hD
            simpa using this.symm
          rcases h3 with h3 | h3
          · exact h3 this
          · rw [h3] at hs; simp at hs
        unfold prt
        rw [if_pos (by omega), show (-((val (l.drop 1) : Nat) : Int)).natAbs = val (l.drop 1) by omega, hD]
        cases l with
        | nil => simp at hs
        | cons x l => simp at hs; subst hs; rfl
      · rw [if_neg hm] at h; simp at h
    · have e1 : sgn l 0 = 0 := by simp [sgn, hs]
      rw [e1] at h hfm hD ⊢
      unfold sg at h ⊢
      rw [if_neg (by simp)] at h ⊢
      by_cases hm : val (l.drop 0) < 9223372036854775808
      · rw [if_pos hm]
        unfold prt
        rw [if_neg (by omega), show (((val (l.drop 0) : Nat) : Int)).natAbs = val (l.drop 0) by omega, hD]
        simp
      · rw [if_neg hm] at h; simp at h
  · rw [if_neg hf] at h; simp at h
theorem long_val (l : List Int) (h : fm l) (hl : 19 < l.length) : 9223372036854775808 < val l := by
  rcases Nat.lt_or_ge (val l) (10 ^ 19) with h1 | h1
  · have := D_len_le 18 (val l) h1
    rw [D_val l h] at this; omega
  · omega
end Go.Proofs.YtcicjpdjbfgbhaaDoor.M
