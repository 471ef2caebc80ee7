/- Values: what the statements want of the order and of the texts. -/
import Derived.Test.YtbkmhigbplgpmaaValRightq
import Derived.Test.YtbkmhigbplgpmaaMg8Rec
import Derived.Test.YtbkmhigbplgpmaaMg9Rec
namespace Go.Proofs.Ytbkmhigbplgpmaa
open Go.RowKit Go.Shelf
theorem cmpI_bd (a b : Int) : cmpI a b = -1 ∨ cmpI a b = 0 ∨ cmpI a b = 1 := by unfold cmpI; split <;> (try split) <;> simp
theorem cmpB_zero : ∀ l r : List Int, cmpB l r = 0 ↔ l = r := by
  intro l
  induction l with
  | nil => intro r; cases r <;> simp [cmpB]
  | cons x l ih =>
    intro r
    cases r with
    | nil => simp [cmpB]
    | cons y r =>
      simp only [cmpB, List.cons.injEq]
      split
      · rename_i h
        rw [cmpI_zero]
        exact ⟨fun e => absurd e h, fun e => absurd (by omega : x - y = 0) h⟩
      · rename_i h
        rw [ih r]
        have : x = y := by omega
        simp [this]
theorem cmpB_bd : ∀ l r : List Int, cmpB l r = -1 ∨ cmpB l r = 0 ∨ cmpB l r = 1 := by
  intro l
  induction l with
  | nil => intro r; cases r <;> simp [cmpB]
  | cons x l ih =>
    intro r
    cases r with
    | nil => simp [cmpB]
    | cons y r =>
      simp only [cmpB]
      split
      · exact cmpI_bd _ _
      · exact ih r
theorem orI_zero (x y : Int) : orI x y = 0 ↔ x = 0 ∧ y = 0 := by
  unfold orI
  split
  · rename_i h; exact ⟨fun e => absurd e h, fun e => absurd e.1 h⟩
  · rename_i h; have : x = 0 := by omega
    simp [this]
theorem cmpV_zero : ∀ v v' : PV, cmpV v v' = 0 ↔ v = v' := by
  intro v
  induction v using pv_ind with
  | h k n s l ih =>
    intro v'
    cases v' with
    | mk k' n' s' l' =>
    have hl : ∀ l', cmpL l l' = 0 ↔ l = l' := by
      clear k n s k' n' s' l'
      induction l with
      | nil => intro l'; cases l' <;> simp [cmpL]
      | cons x r ih2 =>
        intro l'
        cases l' with
        | nil => simp [cmpL]
        | cons y r' =>
          simp only [cmpL, List.cons.injEq]
          have hx := ih x (by simp) y
          split
          · rename_i h
            rw [cmpI_zero]
            exact ⟨fun e => absurd e h, fun e => absurd (hx.2 e.1) h⟩
          · rename_i h
            rw [ih2 (fun z hz => ih z (by simp [hz])) r']
            have hxy := hx.1 (by omega)
            simp [hxy]
    simp only [cmpV, PV.mk.injEq]
    split
    · rename_i h
      constructor
      · intro e; exact absurd e h
      · rintro ⟨rfl, rfl, _⟩; exact absurd ((orI_zero _ _).2 ⟨cmpI_self _, cmpI_self _⟩) h
    · rename_i h
      have h0 := (orI_zero _ _).1 (by omega : orI (cmpI k k') (cmpI n n') = 0)
      have hk := (cmpI_zero _ _).1 h0.1
      have hn := (cmpI_zero _ _).1 h0.2
      split
      · rename_i hs
        rw [cmpB_zero]
        constructor
        · intro e; exact absurd e hs
        · rintro ⟨_, _, rfl, _⟩; exact absurd rfl hs
      · rename_i hs
        have hss : s = s' := strB_inj (by simpa using hs)
        rw [hl l']
        simp [hk, hn, hss]
theorem cmpL_bd : ∀ l l' : List PV, cmpL l l' = -1 ∨ cmpL l l' = 0 ∨ cmpL l l' = 1 := by
  intro l
  induction l with
  | nil => intro l'; cases l' <;> simp [cmpL]
  | cons x r ih =>
    intro l'
    cases l' with
    | nil => simp [cmpL]
    | cons y r' =>
      simp only [cmpL]
      split
      · exact cmpI_bd _ _
      · exact ih r'
theorem cmpV_bd (v v' : PV) : cmpV v v' = -1 ∨ cmpV v v' = 0 ∨ cmpV v v' = 1 := by
  cases v with
  | mk k n s l =>
  cases v' with
  | mk k' n' s' l' =>
  simp only [cmpV]
  split
  · unfold orI; split <;> exact cmpI_bd _ _
  · split
    · exact cmpB_bd _ _
    · exact cmpL_bd _ _
/-! ### lists of two -/
def two (a b : PV) : PV := .mk 5 0 ⟨#[]⟩ [a, b]
theorem two_deep (a b : PV) : deepV (two a b) = max (deepV a) (deepV b) + 1 := by simp [two, deepV, deepL]
theorem two_sz (a b : PV) : szV (two a b) = szV a + szV b + 1 := by simp [two, szV, szL]
theorem two_cmp (a b : PV) : cmpV (two a b) (two b a) = cmpV a b := by
  simp only [two, cmpV, cmpI_self]
  rw [if_neg (by simp [orI]), if_neg (by simp)]
  simp only [cmpL]
  split
  · rcases cmpV_bd a b with h | h | h <;> rw [h] <;> simp [cmpI]
  · rename_i h
    have h0 : cmpV a b = 0 := by omega
    have hab := (cmpV_zero a b).1 h0
    subst hab
    rw [if_neg (by omega), h0]
theorem two_right (a b : PV) (ha : rightV a = true) (hb : rightV b = true) : rightV (two a b) = (decide (max (deepV a) (deepV b) < 4) && decide (szV a + szV b + 1 ≤ 100)) := by
  have hoa : okV a = true := by simp [rightV] at ha; exact ha.2
  have hob : okV b = true := by simp [rightV] at hb; exact hb.2
  have hok : okV (two a b) = true := by
    unfold two
    rw [okV5]
    have h1 : (⟨#[]⟩ : ByteArray).toList.isEmpty = true := toList_empty rfl
    rw [h1]
    simp [okL, hoa, hob]
  unfold rightV
  rw [hok, two_deep, two_sz, Bool.and_true]
  congr 1
/-! ### texts -/
/-- all numbers in a value are of 64 bits -/
def numsV : PV → Prop
  | .mk _ n _ l => I64 n ∧ numsL l
where numsL : List PV → Prop
  | [] => True
  | x :: r => numsV x ∧ numsL r
theorem nums_is {w : World} : ∀ v x, Is w v x → numsV v := by
  intro v
  induction v using pv_ind with
  | h k n s l ih =>
    intro x h
    unfold Is at h
    obtain ⟨h1, h2, h3, a, cap, rfl, h4, h5, h6⟩ := h
    unfold numsV
    refine ⟨h2, ?_⟩
    have hall : ∀ y ∈ l, numsV y := fun y hy => by
      rcases h6 with h6 | ⟨b, off, rfl, h6⟩
      · subst h6; simp at hy
      · obtain ⟨i, hi⟩ := List.getElem?_of_mem hy
        obtain ⟨_, _, _, _, _, hy'⟩ := isL_at h6 i y hi
        exact ih y hy _ hy'
    clear ih h6 h4 h5
    induction l with
    | nil => unfold numsV.numsL; trivial
    | cons y r ih2 =>
      unfold numsV.numsL
      exact ⟨hall y (by simp), ih2 fun z hz => hall z (by simp [hz])⟩
def kindOf (c : Int) : Int :=
  if c = 110 then 0 else if c = 102 ∨ c = 116 then 1 else if c = 45 ∨ (48 ≤ c ∧ c ≤ 57) then 2 else if c = 39 then 3 else if c = 34 then 4 else if c = 91 then 5 else 6
theorem prt_chars (n : Int) : ∀ x ∈ M.prt n, x = 45 ∨ (48 ≤ x ∧ x ≤ 57) := by
  intro x hx
  unfold M.prt at hx
  rw [List.mem_append] at hx
  rcases hx with hx | hx
  · split at hx <;> simp at hx; exact .inl hx
  · have := M.D_digits _ x hx
    simp [M.isD] at this; exact .inr this
theorem okV_kind {k n : Int} {s : ByteArray} {l : List PV} (h : okV (.mk k n s l) = true) : k = 0 ∨ k = 1 ∨ k = 2 ∨ k = 3 ∨ k = 4 ∨ k = 5 := by
  by_cases h0 : k = 0; · simp [h0]
  by_cases h1 : k = 1; · simp [h1]
  by_cases h2 : k = 2; · simp [h2]
  by_cases h3 : k = 3; · simp [h3]
  by_cases h4 : k = 4; · simp [h4]
  by_cases h5 : k = 5; · simp [h5]
  rw [okV6 _ _ _ _ h0 h1 h2 h3 h4 h5] at h
  cases h
theorem text_head {k n : Int} {s : ByteArray} {l : List PV} (h : okV (.mk k n s l) = true) : ∃ c t, textV (.mk k n s l) = c :: t ∧ kindOf c = k := by
  rcases okV_kind h with rfl | rfl | rfl | rfl | rfl | rfl
  · exact ⟨_, _, text0 _ _ _, rfl⟩
  · rw [text1]
    split
    · exact ⟨_, _, rfl, rfl⟩
    · exact ⟨_, _, rfl, rfl⟩
  · rw [text2]
    have hp : M.prt n ≠ [] := by
      unfold M.prt
      have := M.D_pos n.natAbs
      intro e
      have h2 := (List.append_eq_nil_iff.1 e).2
      rw [h2] at this
      simp at this
    obtain ⟨c, t, e⟩ := List.exists_cons_of_ne_nil hp
    refine ⟨c, t, e, ?_⟩
    have := prt_chars n c (by rw [e]; simp)
    unfold kindOf
    rw [if_neg (by omega), if_neg (by omega), if_pos this]
  · exact ⟨_, _, text3 _ _ _, rfl⟩
  · exact ⟨_, _, text4 _ _ _, rfl⟩
  · exact ⟨_, _, text5 _ _ _, rfl⟩
/-- what may stand behind a value's text -/
def Ends (r : List Int) : Prop := ∀ x t, r = x :: t → x = 32 ∨ x = 93
theorem ends_nil : Ends [] := fun _ _ h => by cases h
theorem ends_93 (r : List Int) : Ends (93 :: r) := fun _ _ h => by cases h; exact .inr rfl
theorem ends_M (l : List PV) (r : List Int) : Ends (textM l ++ 93 :: r) := by
  cases l with
  | nil => exact ends_93 r
  | cons x l => intro y t h; simp only [textM, List.cons_append, List.cons.injEq] at h; exact .inl h.1.symm
/-- two runs of what may not end a text -/
theorem span_eq {p p' r r' : List Int} (hp : ∀ x ∈ p, x ≠ 32 ∧ x ≠ 93) (hp' : ∀ x ∈ p', x ≠ 32 ∧ x ≠ 93) (hr : Ends r) (hr' : Ends r') (h : p ++ r = p' ++ r') : p = p' ∧ r = r' := by
  induction p generalizing p' with
  | nil =>
    cases p' with
    | nil => exact ⟨rfl, h⟩
    | cons y p' =>
      have := hr y (p' ++ r') h
      have hy := hp' y (by simp)
      omega
  | cons x p ih =>
    cases p' with
    | nil =>
      have := hr' x (p ++ r) h.symm
      have hx := hp x (by simp)
      omega
    | cons y p' =>
      simp only [List.cons_append, List.cons.injEq] at h
      have := ih (fun z hz => hp z (by simp [hz])) (fun z hz => hp' z (by simp [hz])) h.2
      exact ⟨by rw [h.1, this.1], this.2⟩
theorem quote_eq {l l' r r' : List Int} (h : quoteB l ++ 34 :: r = quoteB l' ++ 34 :: r') : l = l' ∧ r = r' := by
  induction l generalizing l' with
  | nil =>
    cases l' with
    | nil => simpa [quoteB] using h
    | cons y l' =>
      simp only [quoteB] at h
      split at h <;> simp at h
      have := h.1
      rename_i hy
      omega
  | cons x l ih =>
    cases l' with
    | nil =>
      simp only [quoteB] at h
      split at h <;> simp at h
      have := h.1
      rename_i hy
      omega
    | cons y l' =>
      simp only [quoteB] at h
      split at h <;> split at h <;> rename_i hx hy <;> simp at h
      · have := ih h.2
        exact ⟨by rw [h.1, this.1], this.2⟩
      · omega
      · omega
      · have := ih h.2
        exact ⟨by rw [h.1, this.1], this.2⟩
theorem name_chars {l : List Int} (h : nameB l = true) : ∀ x ∈ l, x ≠ 32 ∧ x ≠ 93 ∧ x ≤ 127 := by
  intro x hx
  simp [nameB] at h
  have := h.2 x hx
  simp [withinB, letterB] at this
  omega
theorem empty_eq {s t : ByteArray} (h : s.toList.isEmpty = true) (h' : t.toList.isEmpty = true) : s = t := by
  rw [toList_data] at h h'
  apply ByteArray.ext
  apply Array.toList_inj.1
  rw [List.isEmpty_iff.1 h, List.isEmpty_iff.1 h']
theorem textL_head {l : List PV} (ho : okL l = true) {r : List Int} {t : List Int} (hne : l ≠ []) : textL l ++ r ≠ 93 :: t := by
  cases l with
  | nil => exact absurd rfl hne
  | cons x l =>
    cases x with
    | mk k n s m =>
    have hx : okV (.mk k n s m) = true := by simp only [okL, Bool.and_eq_true] at ho; exact ho.1
    obtain ⟨c, u, e, hk⟩ := text_head hx
    simp only [textL, e]
    intro h
    simp only [List.cons_append, List.cons.injEq] at h
    rw [h.1] at hk
    have := okV_kind hx
    rw [← hk] at this
    simp [kindOf] at this
theorem text_inj : ∀ v v' : PV, okV v = true → okV v' = true → numsV v → numsV v' → ∀ r r', Ends r → Ends r' → textV v ++ r = textV v' ++ r' → v = v' ∧ r = r' := by
  intro v
  induction v using pv_ind with
  | h k n s l ih =>
    intro v' ho ho' hn hn' r r' hr hr' h
    cases v' with
    | mk k' n' s' l' =>
    obtain ⟨c, t, e, hk⟩ := text_head ho
    obtain ⟨c', t', e', hk'⟩ := text_head ho'
    have hkk : k = k' := by
      rw [e, e'] at h
      simp only [List.cons_append, List.cons.injEq] at h
      rw [← hk, ← hk', h.1]
    subst hkk
    clear e e' hk hk'
    rcases okV_kind ho with rfl | rfl | rfl | rfl | rfl | rfl
    · rw [okV0] at ho ho'
      simp only [Bool.and_eq_true, beq_iff_eq] at ho ho'
      rw [text0, text0] at h
      rw [ho.1.1, ho'.1.1, empty_eq ho.1.2 ho'.1.2, List.isEmpty_iff.1 ho.2, List.isEmpty_iff.1 ho'.2]
      exact ⟨rfl, List.append_cancel_left h⟩
    · rw [okV1] at ho ho'
      simp only [Bool.and_eq_true, Bool.or_eq_true, beq_iff_eq] at ho ho'
      rw [text1, text1] at h
      have hnn : n = n' := by
        rcases ho.1.1 with h1 | h1 <;> rcases ho'.1.1 with h2 | h2 <;> subst h1 h2 <;> simp at h ⊢
      subst hnn
      rw [empty_eq ho.1.2 ho'.1.2, List.isEmpty_iff.1 ho.2, List.isEmpty_iff.1 ho'.2]
      exact ⟨rfl, List.append_cancel_left h⟩
    · rw [okV2] at ho ho'
      simp only [Bool.and_eq_true] at ho ho'
      rw [text2, text2] at h
      have hsp := span_eq (fun x hx => by have := prt_chars n x hx; omega) (fun x hx => by have := prt_chars n' x hx; omega) hr hr' h
      unfold numsV at hn hn'
      have h1 := M.parse_prt n hn.1.1 hn.1.2
      have h2 := M.parse_prt n' hn'.1.1 hn'.1.2
      rw [hsp.1, h2] at h1
      have hnn : n = n' := by simpa using (congrArg Prod.fst h1).symm
      rw [hnn, empty_eq ho.1 ho'.1, List.isEmpty_iff.1 ho.2, List.isEmpty_iff.1 ho'.2]
      exact ⟨rfl, hsp.2⟩
    · rw [okV3] at ho ho'
      simp only [Bool.and_eq_true, beq_iff_eq] at ho ho'
      rw [text3, text3] at h
      simp only [List.cons_append, List.cons.injEq, true_and] at h
      have hsp := span_eq (fun x hx => by have := name_chars ho.1.2 x hx; omega) (fun x hx => by have := name_chars ho'.1.2 x hx; omega) hr hr' h
      rw [ho.1.1, ho'.1.1, strB_inj hsp.1, List.isEmpty_iff.1 ho.2, List.isEmpty_iff.1 ho'.2]
      exact ⟨rfl, hsp.2⟩
    · rw [okV4] at ho ho'
      simp only [Bool.and_eq_true, beq_iff_eq] at ho ho'
      rw [text4, text4] at h
      simp only [List.cons_append, List.nil_append, List.append_assoc, List.cons.injEq, true_and] at h
      have hq := quote_eq h
      rw [ho.1.1.1, ho'.1.1.1, strB_inj hq.1, List.isEmpty_iff.1 ho.2, List.isEmpty_iff.1 ho'.2]
      exact ⟨rfl, hq.2⟩
    · rw [okV5] at ho ho'
      simp only [Bool.and_eq_true, beq_iff_eq] at ho ho'
      rw [text5, text5] at h
      simp only [List.cons_append, List.nil_append, List.append_assoc, List.cons.injEq, true_and] at h
      have hM : ∀ (l l' : List PV), (∀ x ∈ l, ∀ v', okV x = true → okV v' = true → numsV x → numsV v' → ∀ r r', Ends r → Ends r' → textV x ++ r = textV v' ++ r' → x = v' ∧ r = r') → okL l = true → okL l' = true → numsV.numsL l → numsV.numsL l' →
          textM l ++ 93 :: r = textM l' ++ 93 :: r' → l = l' ∧ r = r' := by
        intro l
        induction l with
        | nil =>
          intro l' _ _ _ _ _ h
          cases l' with
          | nil => simpa [textM] using h
          | cons y m => simp [textM] at h
        | cons x l ih2 =>
          intro l' ih o o' m m' h
          cases l' with
          | nil => simp [textM] at h
          | cons y l' =>
            simp only [textM, List.cons_append, List.append_assoc, List.cons.injEq, true_and] at h
            simp only [okL, Bool.and_eq_true] at o o'
            unfold numsV.numsL at m m'
            have hx := ih x (by simp) y o.1 o'.1 m.1 m'.1 _ _ (ends_M l r) (ends_M l' r') h
            have hl := ih2 l' (fun z hz => ih z (by simp [hz])) o.2 o'.2 m.2 m'.2 hx.2
            exact ⟨by rw [hx.1, hl.1], hl.2⟩
      have hll : l = l' ∧ r = r' := by
        unfold numsV at hn hn'
        cases l with
        | nil =>
          cases l' with
          | nil => simpa [textL] using h
          | cons y m => exact absurd h.symm (textL_head ho'.2 (by simp))
        | cons x l =>
          cases l' with
          | nil => exact absurd h (textL_head ho.2 (by simp))
          | cons y l' =>
            simp only [textL, List.append_assoc] at h
            have o := ho.2
            have o' := ho'.2
            simp only [okL, Bool.and_eq_true] at o o'
            have m := hn.2
            have m' := hn'.2
            unfold numsV.numsL at m m'
            have hx := ih x (by simp) y o.1 o'.1 m.1 m'.1 _ _ (ends_M l r) (ends_M l' r') h
            have hl := hM l l' (fun z hz => ih z (by simp [hz])) o.2 o'.2 m.2 m'.2 hx.2
            exact ⟨by rw [hx.1, hl.1], hl.2⟩
      rw [ho.1.1.1, ho'.1.1.1, empty_eq ho.1.1.2 ho'.1.1.2, hll.1]
      exact ⟨rfl, hll.2⟩
theorem text_same (v v' : PV) (ho : okV v = true) (ho' : okV v' = true) (hn : numsV v) (hn' : numsV v') : textV v = textV v' ↔ v = v' := by
  constructor
  · intro h
    exact (text_inj v v' ho ho' hn hn' [] [] ends_nil ends_nil (by rw [h])).1
  · intro h; rw [h]
end Go.Proofs.Ytbkmhigbplgpmaa
