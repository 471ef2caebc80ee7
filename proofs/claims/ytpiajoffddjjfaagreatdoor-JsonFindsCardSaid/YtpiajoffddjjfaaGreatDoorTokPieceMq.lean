/- Plain mathematics of a Text's pieces: rows of bytes that mean themselves. -/
import Derived.Test.YtpiajoffddjjfaaGreatDoorTokEscdq
import Derived.Test.YtpiajoffddjjfaaGreatDoorMg25Jso
namespace Go.Proofs.YtpiajoffddjjfaaGreatDoor
namespace K
def plain (x : Int) : Bool := decide (32 ≤ x ∧ x ≠ 34 ∧ x ≠ 92)
def endP (l : List Int) (p : Nat) : Nat := p + ((l.drop p).takeWhile plain).length
def rowP (l : List Int) (p : Nat) : List Int := (l.drop p).takeWhile plain
/-- how many bytes of a row are whole codes -/
def vl (r : List Int) : Nat := U.lastEnd (U.cds r.length r 0)
/-- what a Text's bytes from a place on mean, and how many they are -/
def pc (l : List Int) (p : Nat) : List Int × Nat := if l[p]?.getD 0 = 92 then esc l p else ((rowP l p).take (vl (rowP l p)), vl (rowP l p))
theorem endP_step (l : List Int) (p : Nat) (h : p < l.length) (hc : plain (l[p]?.getD 0) = true) : endP l p = endP l (p + 1) := by
  unfold endP
  rw [List.drop_eq_getElem_cons h]
  rw [List.getElem?_eq_getElem h] at hc
  simp only [Option.getD_some] at hc
  rw [List.takeWhile_cons_of_pos hc]
  simp only [List.length_cons]; omega
theorem endP_stop (l : List Int) (p : Nat) (h : p < l.length → plain (l[p]?.getD 0) = false) : endP l p = p := by
  unfold endP
  rcases Nat.lt_or_ge p l.length with hp | hp
  · have h := h hp
    rw [List.getElem?_eq_getElem hp] at h
    simp only [Option.getD_some] at h
    rw [List.drop_eq_getElem_cons hp, List.takeWhile_cons_of_neg (by rw [h]; exact Bool.false_ne_true)]; rfl
  · rw [List.drop_eq_nil_of_le hp]; simp
theorem endP_le (l : List Int) (p : Nat) (h : p ≤ l.length) : p ≤ endP l p ∧ endP l p ≤ l.length := by
  unfold endP
  have := tw_le plain (l.drop p)
  rw [List.length_drop] at this
  omega
theorem rowP_eq (l : List Int) (p : Nat) : rowP l p = row l p (endP l p) := by
  unfold row rowP endP
  rw [List.drop_take, Nat.add_sub_cancel_left]
  exact (List.prefix_iff_eq_take.1 (List.takeWhile_prefix _))
theorem conts_append (n : Nat) : ∀ (a rest : List Int) (c : Int), (rest = [] ∨ ∃ h t, rest = h :: t ∧ U.cont h = false) → U.conts (a ++ rest) n c = U.conts a n c := by
  induction n with
  | zero => intro a rest c _; rw [U.conts_zero, U.conts_zero]
  | succ n ih =>
    intro a rest c h
    cases a with
    | nil =>
      rcases h with rfl | ⟨x, t, rfl, hx⟩
      · rfl
      · rw [List.nil_append, U.conts_succ, hx]; rfl
    | cons y a => rw [List.cons_append, U.conts_succ, U.conts_succ, ih _ _ _ h]
theorem conts_short (n : Nat) : ∀ (a : List Int) (c : Int), a.length < n → U.conts a n c = none := by
  induction n with
  | zero => intro a c h; omega
  | succ n ih =>
    intro a c h
    cases a with
    | nil => rfl
    | cons y a => rw [U.conts_succ, ih _ _ (by simpa using h)]; split <;> rfl
theorem get_append (x : Int) (a rest : List Int) (h : rest = [] ∨ ∃ h t, rest = h :: t ∧ U.cont h = false) : U.get (x :: a ++ rest) = U.get (x :: a) := by
  rw [List.cons_append]
  unfold U.get
  simp only
  by_cases h0 : (U.fst x).2 = 0
  · rw [if_pos (.inl h0), if_pos (.inl h0)]
  · rw [conts_append _ _ _ _ h]
    by_cases h1 : a.length + 1 < (U.fst x).2
    · rw [if_pos (c := (U.fst x).2 = 0 ∨ a.length + 1 < (U.fst x).2) (.inr h1), conts_short _ a _ (by omega)]
      split <;> rfl
    · rw [if_neg (by rintro (h | h); exact h0 h; rw [List.length_append] at h; omega), if_neg (by rintro (h | h); exact h0 h; exact h1 h)]
theorem rowP_drop (l : List Int) (p q : Nat) (hq : q < (rowP l p).length) : ∃ x a rest, (rowP l p).drop q = x :: a ∧ l.drop (p + q) = x :: a ++ rest ∧ plain x = true ∧ (rest = [] ∨ ∃ h t, rest = h :: t ∧ plain h = false) := by
  refine ⟨(rowP l p)[q], (rowP l p).drop (q + 1), (l.drop p).dropWhile plain, List.drop_eq_getElem_cons hq, ?_, ?_, ?_⟩
  · rw [← List.drop_eq_getElem_cons hq, ← List.drop_drop]
    conv => lhs; rw [← List.takeWhile_append_dropWhile (p := plain) (l := l.drop p)]
    rw [List.drop_append_of_le_length (by exact Nat.le_of_lt hq)]; rfl
  · have := List.all_eq_true.1 (List.all_takeWhile (p := plain) (l := l.drop p)) _ (List.getElem_mem hq)
    exact this
  · cases h : (l.drop p).dropWhile plain with
    | nil => exact .inl rfl
    | cons y t =>
      refine .inr ⟨y, t, rfl, ?_⟩
      have := List.head?_dropWhile_not (p := plain) (l := l.drop p)
      rw [h] at this
      simpa using this
theorem plain_cont (x : Int) (h : plain x = false) : U.cont x = false := by
  unfold plain at h; unfold U.cont
  simp at h ⊢; omega
theorem get_ge (x : Int) (a : List Int) (h : 32 ≤ x) (h2 : (U.get (x :: a)).2 ≠ 0) : 32 ≤ (U.get (x :: a)).1 := by
  unfold U.get at h2 ⊢
  simp only at h2 ⊢
  split at h2
  · exact absurd rfl h2
  · rename_i hn
    rw [if_neg hn]
    cases hc : U.conts a ((U.fst x).2 - 1) (U.fst x).1 with
    | none => rw [hc] at h2; exact absurd rfl h2
    | some c =>
      rw [hc] at h2
      simp only [U.got] at h2 ⊢
      split at h2
      · rename_i hs
        rw [if_pos hs]
        simp only
        rcases U.fst_cases x with ⟨h1, hf⟩ | ⟨h1, h1', hf⟩ | ⟨h1, h1', hf⟩ | ⟨h1, h1', hf⟩ | hf
        · rw [hf] at hc
          simp only [Nat.sub_self, U.conts_zero] at hc
          cases hc; exact h
        all_goals
          rw [hf] at hs hn
          rcases U.size_cases c with ⟨h3, _⟩ | ⟨h3, h4, h5, _⟩ | ⟨h3, h4, _⟩ | ⟨h3, h4, _⟩ | ⟨h3, h4, _⟩
          all_goals (rw [h3] at hs; simp at hs)
          all_goals first | omega | skip
        all_goals simp at hn
      · exact absurd rfl h2
/-- within a row, a code is the text's code, 32 or more, and neither a quote nor a mark ahead of an escape -/
theorem row_get (l : List Int) (p q : Nat) (hq : q < (rowP l p).length) : getAt l (p + q : Nat) = getAt (rowP l p) q ∧ plain (l[p + q]?.getD 0) = true ∧ p + q < l.length ∧ ((getAt (rowP l p) q).2 ≠ 0 → 32 ≤ (getAt (rowP l p) q).1) := by
  obtain ⟨x, a, rest, h1, h2, h3, h4⟩ := rowP_drop l p q hq
  have hlt : p + q < l.length := by
    rcases Nat.lt_or_ge (p + q) l.length with h | h
    · exact h
    · rw [List.drop_eq_nil_of_le h] at h2; cases h2
  have hx : l[p + q]?.getD 0 = x := by
    have := List.drop_eq_getElem_cons hlt
    rw [h2] at this
    rw [List.getElem?_eq_getElem hlt]
    rw [List.cons_append] at this
    injection this with h _
    exact h.symm
  have e1 : getAt l (p + q : Nat) = U.get (x :: a) := by
    unfold getAt
    rw [if_pos (by omega), Int.toNat_natCast, h2, get_append x a rest]
    rcases h4 with h | ⟨y, t, h, hy⟩
    · exact .inl h
    · exact .inr ⟨y, t, h, plain_cont y hy⟩
  have e2 : getAt (rowP l p) q = U.get (x :: a) := by
    unfold getAt
    rw [if_pos (by omega), Int.toNat_natCast, h1]
  refine ⟨e1.trans e2.symm, by rw [hx]; exact h3, hlt, fun h => ?_⟩
  rw [e2] at h ⊢
  refine get_ge x a ?_ h
  unfold plain at h3; simp at h3; omega
/-- the place behind the last of a row's codes from a place on -/
def endC (f : Nat) (r : List Int) (q : Nat) : Nat := if U.cds f r q = [] then q else U.lastEnd (U.cds f r q)
theorem endC_step (f : Nat) (r : List Int) (q : Nat) (h : 0 < (getAt r q).2) : endC (f + 1) r q = endC f r (q + (getAt r q).2) := by
  unfold endC
  rw [cds_step f r q h, if_neg (by simp)]
  cases hc : U.cds f r (q + (getAt r q).2) with
  | nil => simp [U.lastEnd]
  | cons y t => rw [if_neg (by simp)]; simp [U.lastEnd, List.getLast?_cons]
theorem endC_stop (f : Nat) (r : List Int) (q : Nat) (h : ¬ 0 < (getAt r q).2) : endC f r q = q := by
  unfold endC
  cases f with
  | zero => simp [U.cds]
  | succ f => rw [cds_stop f r q h]; rfl
theorem pre_empty (x : Option (List Int) × Nat) : pre [] x = x := pre_nil x
theorem text_row (l : List Int) (p : Nat) (f : Nat) : ∀ q, q ≤ (rowP l p).length →
    q ≤ endC f (rowP l p) q ∧ endC f (rowP l p) q ≤ (rowP l p).length ∧ text l (p + q) = pre (((rowP l p).take (endC f (rowP l p) q)).drop q) (text l (p + endC f (rowP l p) q)) := by
  induction f with
  | zero =>
    intro q hq
    have : endC 0 (rowP l p) q = q := by simp [endC, U.cds]
    rw [this]
    refine ⟨Nat.le_refl _, hq, ?_⟩
    rw [List.drop_eq_nil_of_le (by rw [List.length_take]; omega), pre_nil]
  | succ f ih =>
    intro q hq
    by_cases hg : 0 < (getAt (rowP l p) q).2
    · have hle := U.getAt_le (rowP l p) q hq
      have hlt : q < (rowP l p).length := by omega
      obtain ⟨e1, hpl, hlen, h32⟩ := row_get l p q hlt
      rw [endC_step f _ q hg]
      obtain ⟨i1, i2, i3⟩ := ih (q + (getAt (rowP l p) q).2) hle.1
      refine ⟨by omega, i2, ?_⟩
      have hpl' : 32 ≤ l[p + q]?.getD 0 ∧ l[p + q]?.getD 0 ≠ 34 ∧ l[p + q]?.getD 0 ≠ 92 := by simpa [plain] using hpl
      rw [text_eq, if_neg (by omega), if_neg hpl'.2.1, if_neg hpl'.2.2, e1, if_neg (by have := h32 (by omega); omega)]
      rw [Nat.add_assoc, i3, pre_pre]
      congr 1
      obtain ⟨x, a, rest, r1, r2, _, _⟩ := rowP_drop l p q hlt
      have t1 : (l.drop (p + q)).take (getAt (rowP l p) q).2 = ((rowP l p).drop q).take (getAt (rowP l p) q).2 := by
        rw [r2, r1, List.take_append_of_le_length]
        have := congrArg List.length r1
        rw [List.length_drop] at this; omega
      have e2 : (rowP l p).drop (q + (getAt (rowP l p) q).2) = ((rowP l p).drop q).drop (getAt (rowP l p) q).2 := by rw [List.drop_drop]
      rw [t1, List.drop_take, List.drop_take, e2, ← List.take_add]
      congr 1
      omega
    · rw [endC_stop _ _ _ hg]
      refine ⟨Nat.le_refl _, hq, ?_⟩
      rw [List.drop_eq_nil_of_le (by rw [List.length_take]; omega), pre_nil]
theorem vl_eq (r : List Int) : vl r = endC r.length r 0 := by
  unfold vl endC
  split
  · rename_i h; rw [h]; rfl
  · rfl
theorem get_low (x : Int) (a : List Int) (h : x < 32) : (U.get (x :: a)).2 = 0 ∨ (U.get (x :: a)).1 < 32 := by
  unfold U.get
  have hf : U.fst x = (x, 1) := by unfold U.fst; rw [if_pos (by omega)]
  simp only [hf]
  rw [if_neg (by omega)]
  simp only [Nat.sub_self, U.conts_zero, U.got]
  split
  · exact .inr h
  · exact .inl rfl
theorem text_piece (l : List Int) (p : Nat) (hp : p < l.length) (h34 : l[p]?.getD 0 ≠ 34) : text l p = if (pc l p).2 = 0 then (none, p) else pre (pc l p).1 (text l (p + (pc l p).2)) := by
  unfold pc
  by_cases h92 : l[p]?.getD 0 = 92
  · rw [if_pos h92, text_eq, if_neg (by omega), if_neg h34, if_pos h92]
  · rw [if_neg h92]
    simp only
    obtain ⟨r1, r2, r3⟩ := text_row l p (rowP l p).length 0 (Nat.zero_le _)
    rw [← vl_eq] at r1 r2 r3
    rw [List.drop_zero, Nat.add_zero] at r3
    split
    · rename_i hv
      rw [text_eq, if_neg (by omega), if_neg h34, if_neg h92, if_pos]
      rcases Nat.eq_zero_or_pos (rowP l p).length with h0 | h0
      · have hx : plain (l[p]?.getD 0) = false := by
          cases hc : plain (l[p]?.getD 0) with
          | false => rfl
          | true =>
            have := endP_step l p hp hc
            have h1 := endP_le l (p + 1) hp
            unfold endP at this
            unfold rowP at h0
            unfold endP at h1
            omega
        have hlow : l[p]?.getD 0 < 32 := by
          simp [plain] at hx
          rcases Int.lt_or_le (l[p]?.getD 0) 32 with h | h
          · exact h
          · exact absurd (hx h h34) h92
        unfold getAt
        rw [if_pos (by omega), Int.toNat_natCast, List.drop_eq_getElem_cons hp]
        rw [List.getElem?_eq_getElem hp, Option.getD_some] at hlow
        exact get_low _ _ hlow
      · obtain ⟨e1, _, _, _⟩ := row_get l p 0 h0
        rw [Nat.add_zero] at e1
        rw [e1]
        left
        rcases Nat.eq_zero_or_pos (getAt (rowP l p) (0 : Nat)).2 with h | h
        · exact h
        · have h3 := endC_step ((rowP l p).length - 1) (rowP l p) 0 h
          rw [Nat.sub_add_cancel h0, ← vl_eq, hv] at h3
          have h4 := text_row l p ((rowP l p).length - 1) (0 + (getAt (rowP l p) (0 : Nat)).2) (U.getAt_le (rowP l p) 0 (Nat.zero_le _)).1
          omega
    · exact r3
theorem pc_room (l : List Int) (p : Nat) (hp : p < l.length) : p + (pc l p).2 ≤ l.length := by
  unfold pc
  split
  · have hU : p + (escU l p).2 ≤ l.length := by
      rw [escU_eq]
      split
      · simp; omega
      · unfold escd
        split
        · simp; omega
        · rename_i h0
          have := unit_room l p (by omega)
          split
          · rename_i h
            have := unit_room l (p + 6) (by omega)
            simp only; omega
          · simp only; omega
    unfold esc
    split
    · split
      · simp only; omega
      · exact hU
    · exact hU
  · simp only
    obtain ⟨r1, r2, r3⟩ := text_row l p (rowP l p).length 0 (Nat.zero_le _)
    rw [← vl_eq] at r1 r2
    have : (rowP l p).length ≤ l.length - p := by
      unfold rowP
      have := tw_le plain (l.drop p)
      rw [List.length_drop] at this; exact this
    omega
theorem put_bytes (c : Int) : ∀ x ∈ U.put c, 0 ≤ x ∧ x ≤ 255 := by
  intro x hx
  rcases U.size_cases c with ⟨_, h⟩ | ⟨_, h1, h2, h⟩ | ⟨_, h1, h2, h⟩ | ⟨_, h1, h2, _, h⟩ | ⟨_, h1, h2, h⟩
  all_goals
    rw [h] at hx
    simp at hx
  all_goals omega
theorem pc_bytes (l : List Int) (p : Nat) (hb : ∀ x ∈ l, 0 ≤ x ∧ x ≤ 255) : ∀ x ∈ (pc l p).1, 0 ≤ x ∧ x ≤ 255 := by
  intro x hx
  unfold pc at hx
  split at hx
  · have hU : x ∈ (escU l p).1 → 0 ≤ x ∧ x ≤ 255 := fun h => by
      rw [escU_eq] at h
      split at h
      · cases h
      · exact put_bytes _ x h
    unfold esc at hx
    split at hx
    · split at hx
      · rename_i m hm
        simp at hx
        subst hx
        unfold esc1 at hm
        repeat' split at hm
        all_goals first | (cases hm; omega) | cases hm
      · exact hU hx
    · exact hU hx
  · exact hb x (List.mem_of_mem_drop ((List.takeWhile_prefix _).subset (List.mem_of_mem_take hx)))
end K
end Go.Proofs.YtpiajoffddjjfaaGreatDoor
