/- Values: what the statements want of the order and of the texts. -/
import Derived.Test.YtfapoicnkdallaaMh13Thre
import Derived.Test.YtfapoicnkdallaaMh39Thre
import Derived.Test.YtfapoicnkdallaaMh40Thre
namespace Go.Proofs.Ytfapoicnkdallaa
open Go.RowKit Go.Shelf
theorem cmpB_zero : ∀ l r : List Int, cmpB l r = 0 ↔ l = r := by
  intro l
  induction l with
  | nil => intro r; cases r <;> simp [cmpB]
  | cons x l ih =>
    intro r
    cases r with
    | nil => simp [cmpB]
    | cons y r =>
      simp only [cmpB, List.cons.injEq]
      split
      · rename_i h
        rw [cmpI_zero]
        exact ⟨fun e => absurd e h, fun e => absurd (by omega : x - y = 0) h⟩
      · rename_i h
        rw [ih r]
        have : x = y := by omega
        simp [this]
theorem orI_zero (x y : Int) : orI x y = 0 ↔ x = 0 ∧ y = 0 := by
  unfold orI
  split
  · rename_i h; exact ⟨fun e => absurd e h, fun e => absurd e.1 h⟩
  · rename_i h; have : x = 0 := by omega
    simp [this]
theorem cmpV_zero : ∀ v v' : PV, cmpV v v' = 0 ↔ v = v' := by
  intro v
  induction v using pv_ind with
  | h k n s l ih =>
    intro v'
    cases v' with
    | mk k' n' s' l' =>
    have hl : ∀ l', cmpL l l' = 0 ↔ l = l' := by
      clear k n s k' n' s' l'
      induction l with
      | nil => intro l'; cases l' <;> simp [cmpL]
      | cons x r ih2 =>
        intro l'
        cases l' with
        | nil => simp [cmpL]
        | cons y r' =>
          simp only [cmpL, List.cons.injEq]
          have hx := ih x (by simp) y
          split
          · rename_i h
            rw [cmpI_zero]
            exact ⟨fun e => absurd e h, fun e => absurd (hx.2 e.1) h⟩
          · rename_i h
            rw [ih2 (fun z hz => ih z (by simp [hz])) r']
            have hxy := hx.1 (by omega)
            simp [hxy]
    simp only [cmpV, PV.mk.injEq]
    split
    · rename_i h
      constructor
      · intro e; exact absurd e h
      · rintro ⟨rfl, rfl, _⟩; exact absurd ((orI_zero _ _).2 ⟨cmpI_self _, cmpI_self _⟩) h
    · rename_i h
      have h0 := (orI_zero _ _).1 (by omega : orI (cmpI k k') (cmpI n n') = 0)
      have hk := (cmpI_zero _ _).1 h0.1
      have hn := (cmpI_zero _ _).1 h0.2
      split
      · rename_i hs
        rw [cmpB_zero]
        constructor
        · intro e; exact absurd e hs
        · rintro ⟨_, _, rfl, _⟩; exact absurd rfl hs
      · rename_i hs
        have hss : s = s' := strB_inj (by simpa using hs)
        rw [hl l']
        simp [hk, hn, hss]
/-! ### lists of two -/
def two (a b : PV) : PV := .mk 5 0 ⟨#[]⟩ [a, b]
theorem two_deep (a b : PV) : deepV (two a b) = max (deepV a) (deepV b) + 1 := by simp [two, deepV, deepL]
theorem two_sz (a b : PV) : szV (two a b) = szV a + szV b + 1 := by simp [two, szV, szL]
theorem two_right (a b : PV) (ha : rightV a = true) (hb : rightV b = true) : rightV (two a b) = (decide (max (deepV a) (deepV b) < 4) && decide (szV a + szV b + 1 ≤ 100)) := by
  have hoa : okV a = true := by simp [rightV] at ha; exact ha.2
  have hob : okV b = true := by simp [rightV] at hb; exact hb.2
  have hok : okV (two a b) = true := by
    unfold two
    rw [okV5]
    have h1 : (⟨#[]⟩ : ByteArray).toList.isEmpty = true := toList_empty rfl
    rw [h1]
    simp [okL, hoa, hob]
  unfold rightV
  rw [hok, two_deep, two_sz, Bool.and_true]
  congr 1
/-! ### texts -/
/-- all numbers in a value are of 64 bits -/
def numsV : PV → Prop
  | .mk _ n _ l => I64 n ∧ numsL l
where numsL : List PV → Prop
  | [] => True
  | x :: r => numsV x ∧ numsL r
theorem nums_is {w : World} : ∀ v x, Is w v x → numsV v := by
  intro v
  induction v using pv_ind with
  | h k n s l ih =>
    intro x h
    unfold Is at h
    obtain ⟨h1, h2, h3, a, cap, rfl, h4, h5, h6⟩ := h
    unfold numsV
    refine ⟨h2, ?_⟩
    have hall : ∀ y ∈ l, numsV y := fun y hy => by
      rcases h6 with h6 | ⟨b, off, rfl, h6⟩
      · subst h6; simp at hy
      · obtain ⟨i, hi⟩ := List.getElem?_of_mem hy
        obtain ⟨_, _, _, _, _, hy'⟩ := isL_at h6 i y hi
        exact ih y hy _ hy'
    clear ih h6 h4 h5
    induction l with
    | nil => unfold numsV.numsL; trivial
    | cons y r ih2 =>
      unfold numsV.numsL
      exact ⟨hall y (by simp), ih2 fun z hz => hall z (by simp [hz])⟩
def kindOf (c : Int) : Int :=
  if c = 110 then 0 else if c = 102 ∨ c = 116 then 1 else if c = 45 ∨ (48 ≤ c ∧ c ≤ 57) then 2 else if c = 39 then 3 else if c = 34 then 4 else if c = 91 then 5 else 6
theorem prt_chars (n : Int) : ∀ x ∈ M.prt n, x = 45 ∨ (48 ≤ x ∧ x ≤ 57) := by
  intro x hx
  unfold M.prt at hx
  rw [List.mem_append] at hx
  rcases hx with hx | hx
  · split at hx <;> simp at hx; exact .inl hx
  · have := M.D_digits _ x hx
    simp [M.isD] at this; exact .inr this
theorem okV_kind {k n : Int} {s : ByteArray} {l : List PV} (h : okV (.mk k n s l) = true) : k = 0 ∨ k = 1 ∨ k = 2 ∨ k = 3 ∨ k = 4 ∨ k = 5 := by
  by_cases h0 : k = 0; · simp [h0]
  by_cases h1 : k = 1; · simp [h1]
  by_cases h2 : k = 2; · simp [h2]
  by_cases h3 : k = 3; · simp [h3]
  by_cases h4 : k = 4; · simp [h4]
  by_cases h5 : k = 5; · simp [h5]
  rw [okV6 _ _ _ _ h0 h1 h2 h3 h4 h5] at h
  cases h
theorem text_head {k n : Int} {s : ByteArray} {l : List PV} (h : okV (.mk k n s l) = true) : ∃ c t, textV (.mk k n s l) = c :: t ∧ kindOf c = k := by
  rcases okV_kind h with rfl | rfl | rfl | rfl | rfl | rfl
  · exact ⟨_, _, text0 _ _ _, rfl⟩
  · rw [text1]
    split
    · exact ⟨_, _, rfl, rfl⟩
    · exact ⟨_, _, rfl, rfl⟩
  · rw [text2]
    have hp : M.prt n ≠ [] := by
      unfold M.prt
      have := M.D_pos n.natAbs
      intro e
      have h2 := (List.append_eq_nil_iff.1 e).2
      rw [h2] at this
      simp at this
    obtain ⟨c, t, e⟩ := List.exists_cons_of_ne_nil hp
    refine ⟨c, t, e, ?_⟩
    have := prt_chars n c (by rw [e]; simp)
    unfold kindOf
    rw [if_neg (by omega), if_neg (by omega), if_pos this]
  · exact ⟨_, _, text3 _ _ _, rfl⟩
  · exact ⟨_, _, text4 _ _ _, rfl⟩
  · exact ⟨_, _, text5 _ _ _, rfl⟩
/-- what may stand behind a value's text -/
def Ends (r : List Int) : Prop := ∀ x t, r = x :: t → x = 32 ∨ x = 93
theorem ends_nil : Ends [] := fun _ _ h => by cases h
theorem ends_93 (r : List Int) : Ends (93 :: r) := fun _ _ h => by cases h; exact .inr rfl
theorem empty_eq {s t : ByteArray} (h : s.toList.isEmpty = true) (h' : t.toList.isEmpty = true) : s = t := by
  rw [toList_data] at h h'
  apply ByteArray.ext
  apply Array.toList_inj.1
  rw [List.isEmpty_iff.1 h, List.isEmpty_iff.1 h']
theorem textL_head {l : List PV} (ho : okL l = true) {r : List Int} {t : List Int} (hne : l ≠ []) : textL l ++ r ≠ 93 :: t := by
  cases l with
  | nil => exact absurd rfl hne
  | cons x l =>
    cases x with
    | mk k n s m =>
    have hx : okV (.mk k n s m) = true := by simp only [okL, Bool.and_eq_true] at ho; exact ho.1
    obtain ⟨c, u, e, hk⟩ := text_head hx
    simp only [textL, e]
    intro h
    simp only [List.cons_append, List.cons.injEq] at h
    rw [h.1] at hk
    have := okV_kind hx
    rw [← hk] at this
    simp [kindOf] at this
end Go.Proofs.Ytfapoicnkdallaa
