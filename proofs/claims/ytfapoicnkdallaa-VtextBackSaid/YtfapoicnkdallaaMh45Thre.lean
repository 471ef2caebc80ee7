/- Layer 14: what Parse and Scan say of a right value's text, and of what stands behind it (no walk). -/
import Derived.Test.YtfapoicnkdallaaMh44Thre
import Derived.Test.YtfapoicnkdallaaMh36Thre
set_option linter.unusedVariables false
set_option linter.unusedSimpArgs false
namespace Go.Proofs.Ytfapoicnkdallaa
open Go.RowKit Go.Shelf
theorem text_bytes14 : ∀ v : PV, numsV v → ∀ x ∈ textV v, 0 ≤ x ∧ x ≤ 255 := by
  intro v
  induction v using pv_ind with
  | h k n s l ih =>
    intro hn x hx
    unfold numsV at hn
    have hs : ∀ y ∈ strB s, 0 ≤ y ∧ y ≤ 255 := fun y hy => by
      obtain ⟨i, hi⟩ := List.getElem?_of_mem hy
      have := strB_bytes s i
      rwa [hi] at this
    have hq : ∀ l : List Int, (∀ y ∈ l, 0 ≤ y ∧ y ≤ 255) → ∀ y ∈ quoteB l, 0 ≤ y ∧ y ≤ 255 := by
      intro l
      induction l with
      | nil => intro _ y hy; simp [quoteB] at hy
      | cons z r ih2 =>
        intro h y hy
        have hz := h z (by simp)
        simp only [quoteB, List.mem_append] at hy
        rcases hy with hy | hy
        · split at hy <;> simp at hy <;> omega
        · exact ih2 (fun u hu => h u (by simp [hu])) y hy
    have hM : ∀ l : List PV, (∀ x ∈ l, numsV x → ∀ y ∈ textV x, 0 ≤ y ∧ y ≤ 255) → numsV.numsL l → ∀ y ∈ textM l, 0 ≤ y ∧ y ≤ 255 := by
      intro l
      induction l with
      | nil => intro _ _ y hy; simp [textM] at hy
      | cons z r ih2 =>
        intro h m y hy
        unfold numsV.numsL at m
        simp only [textM, List.mem_cons, List.mem_append] at hy
        rcases hy with rfl | hy | hy
        · omega
        · exact h z (by simp) m.1 y hy
        · exact ih2 (fun u hu => h u (by simp [hu])) m.2 y hy
    simp only [textV] at hx
    split at hx
    · simp at hx; omega
    split at hx
    · split at hx <;> simp at hx <;> omega
    split at hx
    · exact prt_bytes n x hx
    split at hx
    · simp only [List.mem_cons] at hx
      rcases hx with rfl | hx
      · omega
      · exact hs x hx
    split at hx
    · simp only [List.mem_cons, List.mem_append, List.not_mem_nil, or_false] at hx
      rcases hx with (rfl | hx) | rfl
      · omega
      · exact hq _ hs x hx
      · omega
    split at hx
    · simp only [List.mem_cons, List.mem_append, List.not_mem_nil, or_false] at hx
      rcases hx with (rfl | hx) | rfl
      · omega
      · cases l with
        | nil => simp [textL] at hx
        | cons z r =>
          have m := hn.2
          unfold numsV.numsL at m
          simp only [textL, List.mem_append] at hx
          rcases hx with hx | hx
          · exact ih z (by simp) m.1 x hx
          · exact hM r (fun u hu => ih u (by simp [hu])) m.2 x hx
      · omega
    · simp at hx
/-- a right value's text is short -/
theorem text_short14 : ∀ v : PV, okV v = true → numsV v → (textV v).length + 1 ≤ 410 * szV v := by
  intro v
  induction v using pv_ind with
  | h k n s l ih =>
    intro ho hn
    unfold numsV at hn
    simp only [szV]
    rcases okV_kind ho with rfl | rfl | rfl | rfl | rfl | rfl
    · rw [text0]; simp; omega
    · rw [text1]; split <;> simp <;> omega
    · rw [text2]; have := M.prt_len n hn.1.1 hn.1.2; omega
    · rw [text3]; rw [okV3] at ho; simp only [Bool.and_eq_true] at ho
      have h2 := ho.1.2
      simp [nameB] at h2
      simp; omega
    · rw [text4]; rw [okV4] at ho; simp only [Bool.and_eq_true, decide_eq_true_eq] at ho
      have := quote_len (strB s)
      rw [strB_len] at this
      simp; omega
    · rw [text5]; rw [okV5] at ho; simp only [Bool.and_eq_true] at ho
      have ho2 := ho.2
      have hn2 := hn.2
      have hM : ∀ l : List PV, (∀ x ∈ l, okV x = true → numsV x → (textV x).length + 1 ≤ 410 * szV x) → okL l = true → numsV.numsL l → (textM l).length ≤ 410 * szL l := by
        intro l
        induction l with
        | nil => intro _ _ _; simp [textM]
        | cons x r ih2 =>
          intro ih o m
          simp only [okL, Bool.and_eq_true] at o
          unfold numsV.numsL at m
          have h1 := ih x (by simp) o.1 m.1
          have h2 := ih2 (fun z hz => ih z (by simp [hz])) o.2 m.2
          simp only [textM, szL, List.length_cons, List.length_append]
          omega
      cases l with
      | nil => simp [textL]; omega
      | cons x r =>
        simp only [okL, Bool.and_eq_true] at ho2
        unfold numsV.numsL at hn2
        have h1 := ih x (by simp) ho2.1 hn2.1
        have h2 := hM r (fun z hz => ih z (by simp [hz])) ho2.2 hn2.2
        simp only [textL, szL, List.length_cons, List.length_append, List.length_nil]
        omega
end Go.Proofs.Ytfapoicnkdallaa
namespace Go.Proofs.Ytfapoicnkdallaa.Vt
open Go.RowKit Go.Shelf
theorem right_ok {v : PV} (h : rightV v = true) : deepV v ≤ 4 ∧ szV v ≤ 100 ∧ okV v = true := by simpa [rightV, and_assoc] using h
theorem scan_text {v : PV} {r : List Int} (hr : rightV v = true) (hn : numsV v) (he : EndsK v r) : scan (textV v ++ r) 0 = (v, ((textV v).length : Int), 0) := by
  obtain ⟨h1, _, h2⟩ := right_ok hr
  have h := (val_fwd v h2 hn 4 (textV v ++ r) 0 r rfl he).1 h1
  unfold scan
  rw [if_pos (by simp; omega), show (0 : Int).toNat = 0 from rfl, h, Nat.zero_add]
  simp only [hr, if_true]
theorem ends_own (v : PV) : EndsK v [] := by
  cases v with | mk k n s l => exact .inr (.inr ends_nil)
theorem parse_text {v : PV} (hr : rightV v = true) (hn : numsV v) : parse (textV v) = (v, ((textV v).length : Int), 0) := by
  have h := scan_text hr hn (ends_own v)
  rw [List.append_nil] at h
  unfold parse
  rw [h, if_neg (by simp)]
theorem ends_high {k n : Int} {s : ByteArray} {l : List PV} {r : List Int} (ho : okV (.mk k n s l) = true) (hk : ¬ k < 4) : EndsK (.mk k n s l) r := by
  rcases okV_kind ho with rfl | rfl | rfl | rfl | rfl | rfl
  · omega
  · omega
  · omega
  · omega
  · exact .inl rfl
  · exact .inr (.inl rfl)
theorem parse_more {v : PV} {r : List Int} (hr : rightV v = true) (hn : numsV v) (he : EndsK v r) (hne : 0 < r.length) : parse (textV v ++ r) = (.mk 0 0 ⟨#[]⟩ [], ((textV v).length : Int), 2) := by
  have h := scan_text hr hn he
  unfold parse
  rw [h, if_pos ⟨rfl, by simp; omega⟩]
theorem parse_deep {v : PV} (ho : okV v = true) (hn : numsV v) (hr : rightV v = false) : (parse (textV v)).1 = .mk 0 0 ⟨#[]⟩ [] ∧ ((parse (textV v)).2.2 = 3 ∨ (parse (textV v)).2.2 = 4) := by
  have h := val_fwd v ho hn 4 (textV v) 0 [] (by simp) (ends_own v)
  rcases Nat.lt_or_ge 4 (deepV v) with hd | hd
  · obtain ⟨a, ha⟩ := h.2 hd
    have hs : scan (textV v) 0 = (.mk 0 0 ⟨#[]⟩ [], (a : Int), 3) := by
      unfold scan
      rw [if_pos (by simp), show (0 : Int).toNat = 0 from rfl, ha]
    unfold parse
    rw [hs, if_neg (by simp)]
    exact ⟨rfl, .inl rfl⟩
  · have hs : scan (textV v) 0 = (.mk 0 0 ⟨#[]⟩ [], 0, 4) := by
      unfold scan
      rw [if_pos (by simp), show (0 : Int).toNat = 0 from rfl, h.1 hd]
      simp [hr]
    unfold parse
    rw [hs, if_neg (by simp)]
    exact ⟨rfl, .inr rfl⟩
theorem parse_back {s : ByteArray} {v : PV} {x : Int} (h : parse (strB s) = (v, x, 0)) : rightV v = true ∧ strOfNums (textV v) = s := by
  have hb : ∀ x ∈ strB s, 0 ≤ x ∧ x ≤ 255 := fun y hy => by
    obtain ⟨i, hi⟩ := List.getElem?_of_mem hy
    have := strB_bytes s i
    rwa [hi] at this
  unfold parse at h
  split at h
  · simp at h
  · rename_i hc
    rw [h] at hc
    unfold scan at h
    split at h
    · split at h
      · rename_i q e hv
        simp only [Prod.mk.injEq] at h
        exact absurd h.2.2 (val_err _ _ _ _ _ hv)
      · rename_i v' q hv
        split at h
        · rename_i hr
          simp only [Prod.mk.injEq] at h
          obtain ⟨rfl, rfl, _⟩ := h
          refine ⟨hr, ?_⟩
          have hp := val_back _ hb 4 0 _ _ hv
          have hq : (strB s).length ≤ q := by simp at hc; omega
          have : part (strB s) 0 q = strB s := by unfold part; rw [List.take_of_length_le hq]; rfl
          rw [← hp, this, strOfNums_strB]
        · simp at h
    · simp at h
end Go.Proofs.Ytfapoicnkdallaa.Vt
