/- Layer 14: what is read has the text that it was read of (no walk). -/
import Derived.Test.YtfapoicnkdallaaMh43Thre
set_option linter.unusedVariables false
set_option linter.unusedSimpArgs false
namespace Go.Proofs.Ytfapoicnkdallaa.Vt
open Go.RowKit Go.Shelf
theorem part_eq (l : List Int) (p q : Nat) : part l p q = (l.drop p).take (q - p) := by unfold part; rw [List.drop_take]
theorem part_cat {l : List Int} {p q r : Nat} (h1 : p ≤ q) (h2 : q ≤ r) : part l p q ++ part l q r = part l p r := by
  rw [part_eq, part_eq, part_eq]
  obtain ⟨a, rfl⟩ : ∃ a, q = p + a := ⟨q - p, by omega⟩
  obtain ⟨b, rfl⟩ : ∃ b, r = p + a + b := ⟨r - (p + a), by omega⟩
  rw [show p + a - p = a by omega, show p + a + b - (p + a) = b by omega, show p + a + b - p = a + b by omega, ← List.drop_drop, List.take_add]
theorem part_one {l : List Int} {p : Nat} (h : p < l.length) : part l p (p + 1) = [l[p]?.getD 0] := by
  rw [part_eq, show p + 1 - p = 1 by omega, List.drop_eq_getElem_cons h, List.getElem?_eq_getElem h]
  rfl
theorem part_mem {l : List Int} {p q : Nat} : ∀ x ∈ part l p q, x ∈ l := fun x hx => by
  unfold part at hx
  exact List.mem_of_mem_take (List.mem_of_mem_drop hx)
theorem getD_mem {l : List Int} {p : Nat} (h : p < l.length) : l[p]?.getD 0 ∈ l := by
  rw [List.getElem?_eq_getElem h]
  exact List.getElem_mem h
theorem txt_back {l : List Int} : ∀ (f p : Nat) (acc t : List Int) (q : Nat), p ≤ l.length → txt f l p acc = .inr (t, q) → ∃ u, t = acc ++ u ∧ part l p q = quoteB u ++ [34] ∧ ∀ x ∈ u, x ∈ l := by
  intro f
  induction f with
  | zero => intro p acc t q _ h; simp [txt] at h
  | succ f ih =>
    intro p acc t q hp h
    have hpl := txt_place h
    simp only [txt] at h
    split at h
    · cases h
    · rename_i hlt
      split at h
      · rename_i h34
        simp only [Sum.inr.injEq, Prod.mk.injEq] at h
        obtain ⟨rfl, rfl⟩ := h
        exact ⟨[], by simp, by rw [part_one (by omega), h34]; rfl, by simp⟩
      · rename_i h34
        split at h
        · rename_i h92
          split at h
          · rename_i hy
            obtain ⟨u, hu, hpt, hm⟩ := ih _ _ _ _ (by omega) h
            have h2 := txt_place h
            refine ⟨l[p + 1]?.getD 0 :: u, by rw [hu]; simp, ?_, ?_⟩
            · rw [← part_cat (show p ≤ p + 1 by omega) (show p + 1 ≤ q by omega), ← part_cat (show p + 1 ≤ p + 1 + 1 by omega) (show p + 1 + 1 ≤ q by omega), part_one (by omega), part_one hy.1, h92, hpt]
              simp only [quoteB]
              rw [if_pos hy.2]
              simp
            · intro x hx
              rcases List.mem_cons.1 hx with rfl | hx
              · exact getD_mem hy.1
              · exact hm x hx
          · cases h
        · rename_i h92
          obtain ⟨u, hu, hpt, hm⟩ := ih _ _ _ _ (by omega) h
          have h2 := txt_place h
          refine ⟨l[p]?.getD 0 :: u, by rw [hu]; simp, ?_, ?_⟩
          · rw [← part_cat (show p ≤ p + 1 by omega) (show p + 1 ≤ q by omega), part_one (by omega), hpt]
            simp only [quoteB]
            rw [if_neg (by omega)]
            simp
          · intro x hx
            rcases List.mem_cons.1 hx with rfl | hx
            · exact getD_mem (by omega)
            · exact hm x hx
theorem items_back {rv : Nat → Out (PV × Nat)} {l : List Int} (hrv : ∀ p v q, p ≤ l.length → rv p = .inr (v, q) → p ≤ q ∧ q ≤ l.length ∧ part l p q = textV v) : ∀ (f p : Nat) (acc vs : List PV) (q : Nat), p ≤ l.length → items rv l f p acc = .inr (vs, q) → ∃ us, us ≠ [] ∧ vs = acc ++ us ∧ p ≤ q ∧ part l p q = textL us ++ [93] := by
  intro f
  induction f with
  | zero => intro p acc vs q _ h; simp [items] at h
  | succ f ih =>
    intro p acc vs q hp h
    simp only [items] at h
    split at h
    · cases h
    · rename_i v q1 hv
      obtain ⟨h1, h2, h3⟩ := hrv _ _ _ hp hv
      split at h
      · cases h
      · split at h
        · rename_i hl h32
          obtain ⟨us, hne, hvs, hq, hpt⟩ := ih _ _ _ _ (by omega) h
          obtain ⟨y, us, rfl⟩ := List.exists_cons_of_ne_nil hne
          refine ⟨v :: y :: us, by simp, by rw [hvs]; simp, by omega, ?_⟩
          rw [← part_cat h1 (show q1 ≤ q by omega), ← part_cat (show q1 ≤ q1 + 1 by omega) hq, part_one (by omega), h32, h3, hpt]
          simp [textL, textM]
        · split at h
          · rename_i hl _ h93
            simp only [Sum.inr.injEq, Prod.mk.injEq] at h
            obtain ⟨rfl, rfl⟩ := h
            refine ⟨[v], by simp, rfl, by omega, ?_⟩
            rw [← part_cat h1 (show q1 ≤ q1 + 1 by omega), part_one (by omega), h93, h3]
            simp [textL, textM]
          · cases h
theorem flat_back {l : List Int} (hl : ∀ x ∈ l, 0 ≤ x ∧ x ≤ 255) {p : Nat} {v : PV} {q : Nat} (hp : p < l.length) (h : flat l p = .inr (v, q)) : part l p q = textV v := by
  have hfl := flat_place hp h
  unfold flat txV wdV at h
  split at h
  · rename_i h34
    split at h
    · cases h
    · rename_i t q1 ht
      simp only [Sum.inr.injEq, Prod.mk.injEq] at h
      obtain ⟨rfl, rfl⟩ := h
      obtain ⟨u, rfl, hpt, hm⟩ := txt_back _ _ _ _ _ (by omega) ht
      rw [text4, ← part_cat (show p ≤ p + 1 by omega) (show p + 1 ≤ q1 by omega), part_one hp, h34, hpt, strB_strOfNums _ (fun x hx => hl x (hm x (by simpa using hx)))]
      simp
  · split at h
    · rename_i h39
      split at h
      · simp only [Sum.inr.injEq, Prod.mk.injEq] at h
        obtain ⟨rfl, rfl⟩ := h
        rw [text3, ← part_cat (show p ≤ p + 1 by omega) (show p + 1 ≤ _ by omega), part_one hp, h39, strB_strOfNums _ (fun x hx => hl x (part_mem x hx))]
        rfl
      · cases h
    · split at h
      · split at h
        · rename_i he
          have hsp := scan_place l p hp he
          simp only [Sum.inr.injEq, Prod.mk.injEq] at h
          obtain ⟨rfl, rfl⟩ := h
          rw [text2]
          unfold M.scan at he ⊢
          have hin : (0 : Int) ≤ (p : Int) ∧ (p : Int) ≤ l.length := by omega
          rw [if_pos hin] at he ⊢
          rw [Int.toNat_natCast] at he ⊢
          split at he
          · rename_i hz
            rw [if_pos hz]
            have := M.prt_parse _ hz
            simp only [Int.toNat_natCast]
            unfold part
            exact this.symm
          · rename_i hz
            exact absurd he hz
        · cases h
      · split at h
        · split at h
          · rename_i w hw
            simp only [Sum.inr.injEq, Prod.mk.injEq] at h
            obtain ⟨rfl, rfl⟩ := h
            unfold word at hw
            split at hw
            · rename_i e; cases hw; rw [e, text0]
            · split at hw
              · rename_i e; cases hw; rw [e, text1, if_pos rfl]
              · split at hw
                · rename_i e; cases hw; rw [e, text1, if_neg (by decide)]
                · cases hw
          · cases h
        · cases h
theorem one_back {sub : Nat → Out (List PV × Nat)} {l : List Int} (hl : ∀ x ∈ l, 0 ≤ x ∧ x ≤ 255) (hs : ∀ p vs q, p < l.length → sub p = .inr (vs, q) → p + 1 ≤ q ∧ part l (p + 1) q = textL vs ++ [93]) {p : Nat} {v : PV} {q : Nat} (h : one sub l p = .inr (v, q)) : part l p q = textV v := by
  unfold one lsV at h
  split at h
  · cases h
  · split at h
    · rename_i hlt h91
      split at h
      · cases h
      · rename_i vs q1 hv
        have h1 := hs _ _ _ (by omega) hv
        simp only [Sum.inr.injEq, Prod.mk.injEq] at h
        obtain ⟨rfl, rfl⟩ := h
        rw [text5, ← part_cat (show p ≤ p + 1 by omega) h1.1, part_one (by omega), h91, h1.2]
        simp
    · exact flat_back hl (by omega) h
theorem val_back (l : List Int) (hl : ∀ x ∈ l, 0 ≤ x ∧ x ≤ 255) : ∀ d p v q, val d l p = .inr (v, q) → part l p q = textV v := by
  intro d
  induction d with
  | zero => intro p v q h; exact one_back hl (fun _ _ _ _ h => by cases h) h
  | succ d ih =>
    intro p v q h
    refine one_back hl (fun p vs q hp h => ?_) h
    unfold lst at h
    split at h
    · cases h
    · split at h
      · rename_i h93
        simp only [Sum.inr.injEq, Prod.mk.injEq] at h
        obtain ⟨rfl, rfl⟩ := h
        exact ⟨by omega, by rw [part_one (by omega), h93]; rfl⟩
      · obtain ⟨us, hne, hvs, hq, hpt⟩ := items_back (fun p v q _ h => by have := val_place l d p v q h; exact ⟨by omega, this.2, ih p v q h⟩) _ _ _ _ _ (by omega) h
        rw [hvs]
        exact ⟨by omega, by simpa using hpt⟩
end Go.Proofs.Ytfapoicnkdallaa.Vt
