/- Layer 14: the model: the value at a place of a text, or where it is wrong (no walk). -/
import Derived.Test.YtcicjpdjbfgbhaaDoorMh9Cell
import Derived.Test.YtcicjpdjbfgbhaaDoorMh19Cell
set_option linter.unusedVariables false
namespace Go.Proofs.YtcicjpdjbfgbhaaDoor
open Go.RowKit Go.Shelf
namespace Vt
/-- what comes, or where it is wrong, and the error -/
abbrev Out (α : Type) := Sum (Nat × Int) α
/-- where a row of bytes of a kind ends -/
def runTo (f : Int → Bool) (l : List Int) (p : Nat) : Nat := p + ((l.drop p).takeWhile f).length
theorem runTo_le (f : Int → Bool) (l : List Int) (p : Nat) (hp : p ≤ l.length) : p ≤ runTo f l p ∧ runTo f l p ≤ l.length := by
  have := (List.takeWhile_prefix f (l := l.drop p)).length_le
  simp at this
  unfold runTo; omega
theorem runTo_step (f : Int → Bool) (l : List Int) (p : Nat) (hp : p < l.length) (h : f (l[p]?.getD 0) = true) : runTo f l p = runTo f l (p + 1) := by
  have e : l.drop p = l[p]?.getD 0 :: l.drop (p + 1) := by rw [List.drop_eq_getElem_cons hp, List.getElem?_eq_getElem hp]; rfl
  unfold runTo; rw [e]; simp only [List.takeWhile_cons, h, if_true, List.length_cons]; omega
theorem runTo_stop (f : Int → Bool) (l : List Int) (p : Nat) (h : p < l.length → f (l[p]?.getD 0) = false) : runTo f l p = p := by
  unfold runTo
  rcases Nat.lt_or_ge p l.length with hp | hp
  · have e : l.drop p = l[p]?.getD 0 :: l.drop (p + 1) := by rw [List.drop_eq_getElem_cons hp, List.getElem?_eq_getElem hp]; rfl
    rw [e]; simp [h hp]
  · rw [List.drop_eq_nil_of_le hp]; simp
/-- the bytes from a place to another -/
def part (l : List Int) (p q : Nat) : List Int := (l.take q).drop p
/-- a text's bytes, from behind its quote on -/
def txt : Nat → List Int → Nat → List Int → Out (List Int × Nat)
  | 0, _, _, _ => .inl (0, 0)
  | f + 1, l, p, acc =>
    if l.length ≤ p then .inl (l.length, 2)
    else if l[p]?.getD 0 = 34 then .inr (acc, p + 1)
    else if l[p]?.getD 0 = 92 then
      if p + 1 < l.length ∧ (l[p + 1]?.getD 0 = 34 ∨ l[p + 1]?.getD 0 = 92) then txt f l (p + 2) (acc ++ [l[p + 1]?.getD 0]) else .inl (p, 2)
    else txt f l (p + 1) (acc ++ [l[p]?.getD 0])
/-- a list's values, one behind the other -/
def items (rv : Nat → Out (PV × Nat)) (l : List Int) : Nat → Nat → List PV → Out (List PV × Nat)
  | 0, _, _ => .inl (0, 0)
  | f + 1, p, acc => match rv p with
    | .inl e => .inl e
    | .inr (v, q) =>
      if l.length ≤ q then .inl (l.length, 2)
      else if l[q]?.getD 0 = 32 then items rv l f (q + 1) (acc ++ [v])
      else if l[q]?.getD 0 = 93 then .inr (acc ++ [v], q + 1)
      else .inl (q, 2)
def lst (rv : Nat → Out (PV × Nat)) (l : List Int) (p : Nat) : Out (List PV × Nat) :=
  if l.length ≤ p then .inl (l.length, 2) else if l[p]?.getD 0 = 93 then .inr ([], p + 1) else items rv l (l.length + 1) p []
/-- a word's value -/
def word (t : List Int) : Option PV :=
  if t = [110, 117, 108, 108] then some (.mk 0 0 ⟨#[]⟩ [])
  else if t = [102, 97, 108, 115, 101] then some (.mk 1 0 ⟨#[]⟩ [])
  else if t = [116, 114, 117, 101] then some (.mk 1 1 ⟨#[]⟩ []) else none
def txV (T : Out (List Int × Nat)) : Out (PV × Nat) := match T with | .inl e => .inl e | .inr (t, q) => .inr (.mk 4 0 (strOfNums t) [], q)
def wdV (W : Option PV) (p q : Nat) : Out (PV × Nat) := match W with | some v => .inr (v, q) | none => .inl (p, 2)
def lsV (L : Out (List PV × Nat)) : Out (PV × Nat) := match L with | .inl e => .inl e | .inr (vs, q) => .inr (.mk 5 0 ⟨#[]⟩ vs, q)
/-- the values that are no lists -/
def flat (l : List Int) (p : Nat) : Out (PV × Nat) :=
  if l[p]?.getD 0 = 34 then txV (txt (l.length + 1) l (p + 1) [])
  else if l[p]?.getD 0 = 39 then (if nameB (part l (p + 1) (runTo withinB l (p + 1))) then .inr (.mk 3 0 (strOfNums (part l (p + 1) (runTo withinB l (p + 1)))) [], runTo withinB l (p + 1)) else .inl (p + 1, 2))
  else if l[p]?.getD 0 = 45 ∨ M.isD (l[p]?.getD 0) = true then (if (M.scan l p).2.2 = 0 then .inr (.mk 2 (M.scan l p).1 ⟨#[]⟩ [], (M.scan l p).2.1.toNat) else .inl (p, (M.scan l p).2.2))
  else if letterB (l[p]?.getD 0) = true then wdV (word (part l p (runTo letterB l p))) p (runTo letterB l p)
  else .inl (p, 2)
/-- the value at a place; sub: the values of the list that begins behind a place -/
def one (sub : Nat → Out (List PV × Nat)) (l : List Int) (p : Nat) : Out (PV × Nat) :=
  if l.length ≤ p then .inl (l.length, 2)
  else if l[p]?.getD 0 = 91 then lsV (sub p)
  else flat l p
/-- .. so many lists deep -/
def val : Nat → List Int → Nat → Out (PV × Nat)
  | 0, l => one (fun p => .inl (p, 3)) l
  | d + 1, l => one (fun p => lst (val d l) l (p + 1)) l
/-- Scan's answer: the value, the place, the error -/
def scan (l : List Int) (a : Int) : PV × Int × Int :=
  if 0 ≤ a ∧ a ≤ l.length then
    match val 4 l a.toNat with
    | .inl (q, e) => (.mk 0 0 ⟨#[]⟩ [], q, e)
    | .inr (v, q) => if rightV v then (v, q, 0) else (.mk 0 0 ⟨#[]⟩ [], a, 4)
  else (.mk 0 0 ⟨#[]⟩ [], a, 1)
def parse (l : List Int) : PV × Int × Int :=
  if (scan l 0).2.2 = 0 ∧ (scan l 0).2.1 < l.length then (.mk 0 0 ⟨#[]⟩ [], (scan l 0).2.1, 2) else scan l 0
theorem txt_place {f : Nat} : ∀ {l : List Int} {p : Nat} {acc t : List Int} {q : Nat}, txt f l p acc = .inr (t, q) → p < q ∧ q ≤ l.length ∧ t.length + p < acc.length + q := by
  induction f with
  | zero => intro l p acc t q h; simp [txt] at h
  | succ f ih =>
    intro l p acc t q h
    simp only [txt] at h
    split at h
    · cases h
    · split at h
      · simp only [Sum.inr.injEq, Prod.mk.injEq] at h; obtain ⟨rfl, rfl⟩ := h; omega
      · split at h
        · split at h
          · have := ih h; simp at this; omega
          · cases h
        · have := ih h; simp at this; omega
theorem items_place {rv : Nat → Out (PV × Nat)} {l : List Int} (hrv : ∀ p v q, p ≤ l.length → rv p = .inr (v, q) → p + szV v ≤ q ∧ q ≤ l.length) {f : Nat} : ∀ {p : Nat} {acc vs : List PV} {q : Nat}, p ≤ l.length → items rv l f p acc = .inr (vs, q) → p + szL vs ≤ q + szL acc ∧ q ≤ l.length ∧ p < q := by
  induction f with
  | zero => intro p acc vs q _ h; simp [items] at h
  | succ f ih =>
    intro p acc vs q hp h
    simp only [items] at h
    split at h
    · cases h
    · rename_i v q1 hv
      have h1 := hrv _ _ _ hp hv
      split at h
      · cases h
      · split at h
        · have := ih (by omega) h
          rw [szL_append] at this
          simp only [szL] at this
          omega
        · split at h
          · simp only [Sum.inr.injEq, Prod.mk.injEq] at h
            obtain ⟨rfl, rfl⟩ := h
            rw [szL_append]
            simp only [szL]
            omega
          · cases h
theorem lst_place {rv : Nat → Out (PV × Nat)} {l : List Int} (hrv : ∀ p v q, p ≤ l.length → rv p = .inr (v, q) → p + szV v ≤ q ∧ q ≤ l.length) {p : Nat} {vs : List PV} {q : Nat} (hp : p ≤ l.length) (h : lst rv l p = .inr (vs, q)) : p + szL vs ≤ q ∧ q ≤ l.length ∧ p < q := by
  unfold lst at h
  split at h
  · cases h
  · split at h
    · simp only [Sum.inr.injEq, Prod.mk.injEq] at h
      obtain ⟨rfl, rfl⟩ := h
      simp only [szL]; omega
    · have := items_place hrv hp h
      simp only [szL] at this; omega
theorem scan_place (l : List Int) (p : Nat) (hp : p < l.length) (h : (M.scan l p).2.2 = 0) : p < (M.scan l p).2.1.toNat ∧ (M.scan l p).2.1.toNat ≤ l.length ∧ ((M.scan l p).2.1.toNat : Int) = (M.scan l p).2.1 := by
  unfold M.scan at h ⊢
  have hin : (0 : Int) ≤ (p : Int) ∧ (p : Int) ≤ l.length := by omega
  rw [if_pos hin] at h ⊢
  rw [Int.toNat_natCast] at h ⊢
  have h1 := M.sgn_le l p (by omega)
  have h2 := M.runTo_le l (M.sgn l p) h1.2.1
  split at h
  · rename_i he
    rw [if_pos he]
    refine ⟨?_, by simp only [Int.toNat_natCast]; omega, by simp only [Int.toNat_natCast]⟩
    simp only [Int.toNat_natCast]
    rcases Nat.lt_or_ge p (M.runTo l (M.sgn l p)) with h3 | h3
    · exact h3
    · have e : (l.take (M.runTo l (M.sgn l p))).drop p = [] := List.drop_eq_nil_of_le (by simp; omega)
      rw [e] at he
      exact absurd he (by decide)
  · rename_i he
    exact absurd h he
theorem flat_place {l : List Int} {p : Nat} {v : PV} {q : Nat} (hp : p < l.length) (h : flat l p = .inr (v, q)) : p < q ∧ q ≤ l.length ∧ szV v = 1 := by
  unfold flat txV wdV at h
  split at h
  · split at h
    · cases h
    · rename_i t q1 ht
      have := txt_place ht
      simp only [Sum.inr.injEq, Prod.mk.injEq] at h
      obtain ⟨rfl, rfl⟩ := h
      simp [szV, szL]; omega
  · split at h
    · split at h
      · have := runTo_le withinB l (p + 1) hp
        simp only [Sum.inr.injEq, Prod.mk.injEq] at h
        obtain ⟨rfl, rfl⟩ := h
        simp [szV, szL]; omega
      · cases h
    · split at h
      · split at h
        · rename_i he
          have := scan_place l p hp he
          simp only [Sum.inr.injEq, Prod.mk.injEq] at h
          obtain ⟨rfl, rfl⟩ := h
          simp [szV, szL]; omega
        · cases h
      · split at h
        · rename_i hl
          have h1 := runTo_le letterB l (p + 1) hp
          rw [← runTo_step letterB l p hp hl] at h1
          split at h
          · rename_i w hw
            simp only [Sum.inr.injEq, Prod.mk.injEq] at h
            obtain ⟨rfl, rfl⟩ := h
            have : szV w = 1 := by
              unfold word at hw
              split at hw
              · cases hw; simp [szV, szL]
              · split at hw
                · cases hw; simp [szV, szL]
                · split at hw
                  · cases hw; simp [szV, szL]
                  · cases hw
            omega
          · cases h
        · cases h
theorem one_place {sub : Nat → Out (List PV × Nat)} {l : List Int} (hs : ∀ p vs q, p < l.length → sub p = .inr (vs, q) → p + szL vs < q ∧ q ≤ l.length) {p : Nat} {v : PV} {q : Nat} (h : one sub l p = .inr (v, q)) : p + szV v ≤ q ∧ q ≤ l.length := by
  unfold one lsV at h
  split at h
  · cases h
  · split at h
    · split at h
      · cases h
      · rename_i vs q1 hv
        have := hs _ _ _ (by omega) hv
        simp only [Sum.inr.injEq, Prod.mk.injEq] at h
        obtain ⟨rfl, rfl⟩ := h
        simp only [szV]; omega
    · have := flat_place (by omega) h
      omega
theorem val_place (l : List Int) : ∀ d p v q, val d l p = .inr (v, q) → p + szV v ≤ q ∧ q ≤ l.length := by
  intro d
  induction d with
  | zero => intro p v q h; exact one_place (fun _ _ _ _ h => by cases h) h
  | succ d ih =>
    intro p v q h
    refine one_place (fun p vs q hp h => ?_) h
    have := lst_place (fun p v q _ h => ih p v q h) (by omega) h
    omega
end Vt
end Go.Proofs.YtcicjpdjbfgbhaaDoor
