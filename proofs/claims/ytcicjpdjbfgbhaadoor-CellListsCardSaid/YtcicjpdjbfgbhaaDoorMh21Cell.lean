/- Layer 14: a value's text is read as it, and what is read has the text that it was read of (no walk). -/
import Derived.Test.YtcicjpdjbfgbhaaDoorMh20Cell
import Derived.Test.YtcicjpdjbfgbhaaDoorMh13Cell
set_option linter.unusedVariables false
set_option linter.unusedSimpArgs false
namespace Go.Proofs.YtcicjpdjbfgbhaaDoor.Vt
open Go.RowKit Go.Shelf
theorem drop_cons {l : List Int} {p : Nat} {c : Int} {t : List Int} (h : l.drop p = c :: t) : p < l.length ∧ l[p]?.getD 0 = c ∧ l.drop (p + 1) = t := by
  have hp : p < l.length := by
    rcases Nat.lt_or_ge p l.length with h1 | h1
    · exact h1
    · rw [List.drop_eq_nil_of_le h1] at h; cases h
  rw [List.drop_eq_getElem_cons hp] at h
  injection h with h1 h2
  exact ⟨hp, by rw [List.getElem?_eq_getElem hp]; exact h1, h2⟩
theorem drop_app {l : List Int} {p : Nat} {u r : List Int} (h : l.drop p = u ++ r) : l.drop (p + u.length) = r := by
  rw [← List.drop_drop, h, List.drop_left]
theorem runTo_drop {f : Int → Bool} {l : List Int} {p : Nat} {u r : List Int} (h : l.drop p = u ++ r) (hu : ∀ x ∈ u, f x = true) (hr : ∀ x t, r = x :: t → f x = false) : runTo f l p = p + u.length := by
  unfold runTo
  rw [h, List.takeWhile_append_of_pos hu]
  cases r with
  | nil => simp
  | cons x t => simp [hr x t rfl]
theorem part_drop {l : List Int} {p : Nat} {u r : List Int} (h : l.drop p = u ++ r) : part l p (p + u.length) = u := by
  unfold part
  rw [List.drop_take, h, Nat.add_sub_cancel_left, List.take_left]
theorem ends_f {f : Int → Bool} {r : List Int} (hr : Ends r) (h32 : f 32 = false) (h93 : f 93 = false) : ∀ x t, r = x :: t → f x = false := fun x t h => by
  rcases hr x t h with h | h <;> rw [h] <;> assumption
theorem scan_drop {l : List Int} {p : Nat} {n : Int} {r : List Int} (h : l.drop p = M.prt n ++ r) (hn : I64 n) (hr : Ends r) (hp : p ≤ l.length) : M.scan l p = (n, ((p + (M.prt n).length : Nat) : Int), 0) := by
  have hf := M.fm_D n.natAbs
  have hrd := ends_f (f := M.isD) hr (by decide) (by decide)
  have key : M.runTo l (M.sgn l p) = p + (M.prt n).length := by
    have hrun : ∀ (q : Nat) (u : List Int), l.drop q = u ++ r → (∀ x ∈ u, M.isD x = true) → M.runTo l q = q + u.length := fun q u h1 h2 => runTo_drop (f := M.isD) h1 h2 hrd
    by_cases hneg : n < 0
    · have e : M.prt n = 45 :: M.D n.natAbs := by simp [M.prt, hneg]
      rw [e] at h ⊢
      obtain ⟨_, h2, h3⟩ := drop_cons h
      have hs : M.sgn l p = p + 1 := by unfold M.sgn; rw [if_pos h2]
      rw [hs, hrun (p + 1) _ h3 hf.2.1]
      simp; omega
    · have e : M.prt n = M.D n.natAbs := by simp [M.prt, hneg]
      rw [e] at h ⊢
      have hs : M.sgn l p = p := by
        unfold M.sgn
        obtain ⟨c, t, hc⟩ := List.exists_cons_of_ne_nil hf.1
        rw [hc] at h
        obtain ⟨_, h2, _⟩ := drop_cons h
        have := hf.2.1 c (by rw [hc]; simp)
        unfold M.isD at this
        simp only [decide_eq_true_eq] at this
        rw [if_neg (by omega)]
      rw [hs, hrun p _ h hf.2.1]
  unfold M.scan
  rw [if_pos (by omega), Int.toNat_natCast, key]
  have e := part_drop h
  unfold part at e
  rw [e, M.parse_prt n hn.1 hn.2, if_pos rfl]
theorem txt_fwd {l r : List Int} : ∀ (u : List Int) (f p : Nat) (acc : List Int), l.drop p = quoteB u ++ 34 :: r → u.length < f → txt f l p acc = .inr (acc ++ u, p + (quoteB u).length + 1) := by
  intro u
  induction u with
  | nil =>
    intro f p acc h hf
    obtain ⟨f, rfl⟩ : ∃ g, f = g + 1 := ⟨f - 1, by simp at hf; omega⟩
    obtain ⟨h1, h2, _⟩ := drop_cons (show l.drop p = 34 :: r from h)
    simp only [txt]
    rw [if_neg (by omega), if_pos h2]
    simp [quoteB]
  | cons x u ih =>
    intro f p acc h hf
    obtain ⟨f, rfl⟩ : ∃ g, f = g + 1 := ⟨f - 1, by simp at hf; omega⟩
    simp only [List.length_cons] at hf
    simp only [quoteB] at h ⊢
    simp only [txt]
    by_cases hx : x = 34 ∨ x = 92
    · rw [if_pos hx] at h ⊢
      obtain ⟨h1, h2, h3⟩ := drop_cons (show l.drop p = 92 :: (x :: (quoteB u ++ 34 :: r)) from by rw [h]; rfl)
      obtain ⟨h4, h5, h6⟩ := drop_cons h3
      rw [if_neg (by omega), if_neg (by omega), if_pos h2, if_pos ⟨h4, by rw [h5]; exact hx⟩, h5, ih f (p + 2) _ h6 (by omega)]
      simp; omega
    · rw [if_neg hx] at h ⊢
      obtain ⟨h1, h2, h3⟩ := drop_cons (show l.drop p = x :: (quoteB u ++ 34 :: r) from by rw [h]; rfl)
      rw [if_neg (by omega), if_neg (by omega), if_neg (by omega), h2, ih f (p + 1) _ h3 (by omega)]
      simp; omega
/-- a list's values -/
theorem items_fwd {d : Nat} {rv : Nat → Out (PV × Nat)} {l r : List Int} : ∀ (us : List PV) (x : PV) (f p : Nat) (acc : List PV), l.drop p = textV x ++ textM us ++ 93 :: r → us.length < f →
    (∀ y ∈ x :: us, ∀ p r, l.drop p = textV y ++ r → Ends r → (deepV y ≤ d → rv p = .inr (y, p + (textV y).length)) ∧ (d < deepV y → ∃ a, rv p = .inl (a, 3))) →
    (deepL (x :: us) ≤ d → items rv l f p acc = .inr (acc ++ x :: us, p + (textV x ++ textM us).length + 1)) ∧ (d < deepL (x :: us) → ∃ a, items rv l f p acc = .inl (a, 3)) := by
  intro us
  induction us with
  | nil =>
    intro x f p acc h hf hy
    obtain ⟨f, rfl⟩ : ∃ g, f = g + 1 := ⟨f - 1, by simp at hf; omega⟩
    simp only [textM, List.append_nil] at h ⊢
    have hx := hy x (by simp) p (93 :: r) h (ends_93 r)
    obtain ⟨k1, k2, _⟩ := drop_cons (drop_app h)
    simp only [deepL, Nat.max_zero]
    refine ⟨fun hd => ?_, fun hd => ?_⟩
    · simp only [items, hx.1 (by simpa using hd)]
      rw [if_neg (by omega), if_neg (by omega), if_pos k2]
    · obtain ⟨a, ha⟩ := hx.2 (by simpa using hd)
      exact ⟨a, by simp only [items, ha]⟩
  | cons y us ih =>
    intro x f p acc h hf hy
    obtain ⟨f, rfl⟩ : ∃ g, f = g + 1 := ⟨f - 1, by simp at hf; omega⟩
    simp only [List.length_cons] at hf
    have h' : l.drop p = textV x ++ 32 :: (textV y ++ textM us ++ 93 :: r) := by rw [h]; simp [textM]
    have hx := hy x (by simp) p _ h' (fun c t e => by injection e with e _; exact .inl e.symm)
    obtain ⟨k1, k2, k3⟩ := drop_cons (drop_app h')
    have hI := ih y f (p + (textV x).length + 1) (acc ++ [x]) k3 (by omega) (fun z hz => hy z (List.mem_cons_of_mem _ hz))
    have hdL : deepL (x :: y :: us) = max (deepV x) (deepL (y :: us)) := by simp [deepL]
    rw [hdL]
    refine ⟨fun hd => ?_, fun hd => ?_⟩
    · simp only [items, hx.1 (by omega)]
      rw [if_neg (by omega), if_pos k2, hI.1 (by omega)]
      simp [textM]; omega
    · by_cases hdx : d < deepV x
      · obtain ⟨a, ha⟩ := hx.2 hdx
        exact ⟨a, by simp only [items, ha]⟩
      · obtain ⟨a, ha⟩ := hI.2 (by omega)
        refine ⟨a, ?_⟩
        simp only [items, hx.1 (by omega)]
        rw [if_neg (by omega), if_pos k2, ha]
/-- what may stand behind a value's text: anything behind a text's, a list's -/
def EndsK (v : PV) (r : List Int) : Prop := match v with | .mk k _ _ _ => k = 4 ∨ k = 5 ∨ Ends r
theorem letters_word : (∀ x ∈ ([110, 117, 108, 108] : List Int), letterB x = true) ∧ (∀ x ∈ ([102, 97, 108, 115, 101] : List Int), letterB x = true) ∧ (∀ x ∈ ([116, 114, 117, 101] : List Int), letterB x = true) := by decide
theorem one_word {sub : Nat → Out (List PV × Nat)} {l : List Int} {p : Nat} {c : Int} {u r : List Int} {v : PV} (h : l.drop p = (c :: u) ++ r) (hl : ∀ x ∈ c :: u, letterB x = true) (hr : Ends r) (hw : word (c :: u) = some v) : one sub l p = .inr (v, p + (c :: u).length) := by
  obtain ⟨h1, h2, _⟩ := drop_cons (show l.drop p = c :: (u ++ r) from h)
  have hc := hl c (by simp)
  have hrun := runTo_drop h hl (ends_f hr (by decide) (by decide))
  have hpt := part_drop h
  have hcl : (65 ≤ c ∧ c ≤ 90) ∨ (97 ≤ c ∧ c ≤ 122) := by
    unfold letterB at hc
    simpa using hc
  unfold one flat
  rw [if_neg (by omega), h2, if_neg (by omega), if_neg (by omega), if_neg (by omega), if_neg (by unfold M.isD; simp; omega), if_pos hc, hrun, hpt, hw]
  rfl
theorem val_fwd : ∀ v, okV v = true → numsV v → ∀ (d : Nat) (l : List Int) (p : Nat) (r : List Int), l.drop p = textV v ++ r → EndsK v r → (deepV v ≤ d → val d l p = .inr (v, p + (textV v).length)) ∧ (d < deepV v → ∃ a, val d l p = .inl (a, 3)) := by
  intro v
  induction v using pv_ind with
  | h k n s m ih =>
    intro ho hn d l p r h hr
    have hsome : ∃ sub, val d l = one sub l ∧ ∀ p, sub p = (match d with | 0 => .inl (p, 3) | d + 1 => lst (val d l) l (p + 1)) := by
      cases d with
      | zero => exact ⟨_, rfl, fun _ => rfl⟩
      | succ d => exact ⟨_, rfl, fun _ => rfl⟩
    obtain ⟨sub, hval, hsub⟩ := hsome
    rw [hval]
    have hp0 : p < l.length := by
      obtain ⟨c, t, e, _⟩ := text_head ho
      rw [e] at h
      exact (drop_cons (show l.drop p = c :: (t ++ r) from h)).1
    rcases okV_kind ho with rfl | rfl | rfl | rfl | rfl | rfl
    · rw [okV0] at ho
      simp only [Bool.and_eq_true, beq_iff_eq] at ho
      obtain ⟨⟨rfl, hs⟩, hm⟩ := ho
      obtain rfl : s = ⟨#[]⟩ := empty_eq hs (toList_empty rfl)
      obtain rfl : m = [] := List.isEmpty_iff.1 hm
      rw [text0] at h ⊢
      have hr' : Ends r := hr.resolve_left (by decide) |>.resolve_left (by decide)
      refine ⟨fun _ => one_word h letters_word.1 hr' rfl, fun hd => ?_⟩
      simp [deepV, deepL] at hd
    · rw [okV1] at ho
      simp only [Bool.and_eq_true, beq_iff_eq, Bool.or_eq_true] at ho
      obtain ⟨⟨hn01, hs⟩, hm⟩ := ho
      obtain rfl : s = ⟨#[]⟩ := empty_eq hs (toList_empty rfl)
      obtain rfl : m = [] := List.isEmpty_iff.1 hm
      have hr' : Ends r := hr.resolve_left (by decide) |>.resolve_left (by decide)
      rw [text1] at h ⊢
      rcases hn01 with rfl | rfl
      · rw [if_pos rfl] at h ⊢
        refine ⟨fun _ => one_word h letters_word.2.1 hr' rfl, fun hd => ?_⟩
        simp [deepV, deepL] at hd
      · rw [if_neg (by decide)] at h ⊢
        refine ⟨fun _ => one_word h letters_word.2.2 hr' rfl, fun hd => ?_⟩
        simp [deepV, deepL] at hd
    · rw [okV2] at ho
      simp only [Bool.and_eq_true] at ho
      obtain ⟨hs, hm⟩ := ho
      obtain rfl : s = ⟨#[]⟩ := empty_eq hs (toList_empty rfl)
      obtain rfl : m = [] := List.isEmpty_iff.1 hm
      have hr' : Ends r := hr.resolve_left (by decide) |>.resolve_left (by decide)
      rw [text2] at h ⊢
      unfold numsV at hn
      refine ⟨fun _ => ?_, fun hd => by simp [deepV, deepL] at hd⟩
      have hsc := scan_drop h hn.1 hr' (by omega)
      have hne : M.prt n ≠ [] := by
        unfold M.prt
        have := M.D_pos n.natAbs
        intro e
        rw [(List.append_eq_nil_iff.1 e).2] at this
        simp at this
      obtain ⟨c, t, e⟩ := List.exists_cons_of_ne_nil hne
      have hc := prt_chars n c (by rw [e]; simp)
      rw [e] at h
      obtain ⟨h1, h2, _⟩ := drop_cons (show l.drop p = c :: (t ++ r) from h)
      unfold one flat
      rw [if_neg (by omega), h2, if_neg (by omega), if_neg (by omega), if_neg (by omega), if_pos (by unfold M.isD; simp; omega), hsc]
      simp
      omega
    · rw [okV3] at ho
      simp only [Bool.and_eq_true, beq_iff_eq] at ho
      obtain ⟨⟨rfl, hnm⟩, hm⟩ := ho
      obtain rfl : m = [] := List.isEmpty_iff.1 hm
      have hr' : Ends r := hr.resolve_left (by decide) |>.resolve_left (by decide)
      rw [text3] at h ⊢
      refine ⟨fun _ => ?_, fun hd => by simp [deepV, deepL] at hd⟩
      obtain ⟨h1, h2, h3⟩ := drop_cons (show l.drop p = 39 :: (strB s ++ r) from h)
      have hall : ∀ x ∈ strB s, withinB x = true := by
        intro x hx
        simp [nameB] at hnm
        exact hnm.2 x hx
      have hrun := runTo_drop h3 hall (ends_f hr' (by decide) (by decide))
      have hpt := part_drop h3
      unfold one flat
      rw [if_neg (by omega), h2, if_neg (by decide), if_neg (by decide), if_pos rfl, hrun, hpt, if_pos hnm, strOfNums_strB]
      simp; omega
    · rw [okV4] at ho
      simp only [Bool.and_eq_true, beq_iff_eq] at ho
      obtain ⟨⟨⟨rfl, _⟩, _⟩, hm⟩ := ho
      obtain rfl : m = [] := List.isEmpty_iff.1 hm
      rw [text4] at h ⊢
      refine ⟨fun _ => ?_, fun hd => by simp [deepV, deepL] at hd⟩
      obtain ⟨h1, h2, h3⟩ := drop_cons (show l.drop p = 34 :: (quoteB (strB s) ++ 34 :: r) from by rw [h]; simp)
      have hql := quote_len (strB s)
      have hlen : (strB s).length < l.length + 1 := by
        have := congrArg List.length h3
        simp only [List.length_drop, List.length_append, List.length_cons] at this
        omega
      have ht := txt_fwd (strB s) (l.length + 1) (p + 1) [] h3 hlen
      unfold one flat
      rw [if_neg (by omega), h2, if_neg (by decide), if_pos rfl, ht]
      simp [txV, strOfNums_strB]; omega
    · rw [okV5] at ho
      simp only [Bool.and_eq_true, beq_iff_eq] at ho
      obtain ⟨⟨⟨rfl, hs⟩, _⟩, hm⟩ := ho
      obtain rfl : s = ⟨#[]⟩ := empty_eq hs (toList_empty rfl)
      rw [text5] at h ⊢
      obtain ⟨h1, h2, h3⟩ := drop_cons (show l.drop p = 91 :: (textL m ++ 93 :: r) from by rw [h]; simp)
      have hdv : deepV (.mk 5 0 ⟨#[]⟩ m) = deepL m + 1 := by simp [deepV]
      rw [hdv]
      have hone : one sub l p = lsV (sub p) := by unfold one; rw [if_neg (by omega), if_pos h2]
      rw [hone, hsub]
      cases d with
      | zero => exact ⟨fun hd => by omega, fun _ => ⟨p, rfl⟩⟩
      | succ d =>
        simp only
        unfold lst
        cases m with
        | nil =>
          obtain ⟨k1, k2, _⟩ := drop_cons (show l.drop (p + 1) = 93 :: r from h3)
          rw [if_neg (by omega), if_pos k2]
          exact ⟨fun _ => by simp [lsV, textL], fun hd => by simp [deepL] at hd⟩
        | cons x us =>
          have h3' : l.drop (p + 1) = textV x ++ textM us ++ 93 :: r := by rw [h3]; simp [textL]
          have hlt : p + 1 < l.length := by
            rcases Nat.lt_or_ge (p + 1) l.length with h5 | h5
            · exact h5
            · rw [List.drop_eq_nil_of_le h5] at h3'
              have := congrArg List.length h3'
              simp at this
          have hno : ¬ l[p + 1]?.getD 0 = 93 := fun h93 => by
            have e : l.drop (p + 1) = 93 :: l.drop (p + 2) := by rw [List.drop_eq_getElem_cons hlt]; rw [List.getElem?_eq_getElem hlt] at h93; simp only [Option.getD_some] at h93; rw [h93]
            rw [h3] at e
            exact textL_head hm (by simp) e
          rw [if_neg (by omega), if_neg hno]
          have hlen : us.length < l.length + 1 := by
            have hx := congrArg List.length h3'
            have hM : ∀ us : List PV, us.length ≤ (textM us).length := by
              intro us
              induction us with
              | nil => simp
              | cons y us ih => simp only [textM, List.length_cons, List.length_append]; omega
            have := hM us
            simp only [List.length_drop, List.length_append, List.length_cons] at hx
            omega
          unfold numsV at hn
          have hoall : ∀ y ∈ x :: us, okV y = true := by
            intro y hy
            have : ∀ us : List PV, okL us = true → ∀ y ∈ us, okV y = true := by
              intro us
              induction us with
              | nil => intro _ y hy; simp at hy
              | cons z us ih =>
                intro h y hy
                simp only [okL, Bool.and_eq_true] at h
                rcases List.mem_cons.1 hy with rfl | hy
                · exact h.1
                · exact ih h.2 y hy
            exact this _ hm y hy
          have hnall : ∀ y ∈ x :: us, numsV y := by
            intro y hy
            have : ∀ us : List PV, numsV.numsL us → ∀ y ∈ us, numsV y := by
              intro us
              induction us with
              | nil => intro _ y hy; simp at hy
              | cons z us ih =>
                intro h y hy
                unfold numsV.numsL at h
                rcases List.mem_cons.1 hy with rfl | hy
                · exact h.1
                · exact ih h.2 y hy
            exact this _ hn.2 y hy
          have hI := items_fwd (d := d) (rv := val d l) us x (l.length + 1) (p + 1) [] h3' hlen (fun y hy q r' hq hr' => ih y hy (hoall y hy) (hnall y hy) d l q r' hq (by cases y; exact .inr (.inr hr')))
          refine ⟨fun hd => ?_, fun hd => ?_⟩
          · rw [hI.1 (by omega)]
            simp [lsV, textL]; omega
          · obtain ⟨a, ha⟩ := hI.2 (by omega)
            exact ⟨a, by rw [ha]; rfl⟩
end Go.Proofs.YtcicjpdjbfgbhaaDoor.Vt
