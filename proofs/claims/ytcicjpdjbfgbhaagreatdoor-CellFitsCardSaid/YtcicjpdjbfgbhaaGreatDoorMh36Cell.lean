/- The document's Nodes and Right. -/
import Derived.Test.YtcicjpdjbfgbhaaGreatDoorMh35Cell
import Derived.Test.YtcicjpdjbfgbhaaGreatDoorMh32Cell
import Derived.Test.YtcicjpdjbfgbhaaGreatDoorMh20Cell
import Derived.Test.YtcicjpdjbfgbhaaGreatDoorMh22Cell
namespace Go.Proofs.YtcicjpdjbfgbhaaGreatDoor
open Go.RowKit Go.Shelf
theorem rd_ok : ∀ v : PV, okV v = true → rdV v = deepV v := by
  intro v
  induction v using pv_ind with
  | h k m s l ih =>
    intro ho
    obtain ⟨_, _, _, hl5, _, hol, _, _⟩ := ok_parts ho
    simp only [rdV, deepV]
    by_cases hk : k = 5
    · rw [if_pos hk, if_pos hk]
      have key : ∀ (l : List PV), (∀ y ∈ l, rdV y = deepV y) → ∀ z : Nat, rdL (z : Int) l = ((max z (deepL l) : Nat) : Int) := by
        intro l
        induction l with
        | nil => intro _ z; simp [rdL, deepL]
        | cons x r ih2 =>
          intro h z
          simp only [rdL, deepL]
          have hx := h x (by simp)
          have h2 := ih2 (fun y hy => h y (by simp [hy]))
          by_cases hz : (z : Int) < rdV x
          · rw [if_pos hz, hx, h2]; congr 1; omega
          · rw [if_neg hz, h2]; congr 1; omega
      have := key l (fun y hy => ih y hy (okL_mem hol y hy)) 0
      simp only [Int.natCast_zero] at this
      rw [this]; omega
    · have hl := hl5 hk
      subst hl
      rw [if_neg hk, if_neg hk]
      simp [rdL, deepL]
theorem cnt_ok : ∀ v : PV, okV v = true → ∀ d n : Nat, deepV v ≤ d → szV v ≤ n → cntV v n d = (n : Int) - szV v := by
  intro v
  induction v using pv_ind with
  | h k m s l ih =>
    intro ho d n hd hn
    obtain ⟨_, _, _, hl5, _, hol, _, _⟩ := ok_parts ho
    simp only [cntV, szV, deepV] at *
    rw [if_neg (by omega)]
    by_cases hk : k = 5
    · rw [if_pos hk] at hd
      have key : ∀ (l : List PV), (∀ y ∈ l, okV y = true → ∀ d n : Nat, deepV y ≤ d → szV y ≤ n → cntV y n d = (n : Int) - szV y) → (∀ y ∈ l, okV y = true) → ∀ d n : Nat, deepL l ≤ d → szL l ≤ n → cntL l n d = (n : Int) - szL l := by
        intro l
        induction l with
        | nil => intro _ _ d n _ _; simp [cntL, szL]
        | cons x r ih2 =>
          intro h ho d n hd hn
          simp only [cntL, szL, deepL] at *
          have h1 := h x (by simp) (ho x (by simp)) d n (by omega) (by omega)
          rw [if_neg (by rw [h1]; omega), h1]
          have h2 := ih2 (fun y hy => h y (by simp [hy])) (fun y hy => ho y (by simp [hy])) d (n - szV x) (by omega) (by omega)
          rw [show ((n - szV x : Nat) : Int) = (n : Int) - szV x by omega] at h2
          rw [h2]; omega
      have h3 := key l (fun y hy => ih y hy) (okL_mem hol) (d - 1) (n - 1) (by omega) (by omega)
      rw [show ((n - 1 : Nat) : Int) = (n : Int) - 1 by omega, show ((d - 1 : Nat) : Int) = (d : Int) - 1 by omega] at h3
      rw [h3]; omega
    · have hl := hl5 hk
      subst hl
      simp [cntL, szL]
set_option maxHeartbeats 1000000 in
theorem refNodes_any (v : PV) (w : World) (x : Value) (hi : Is w v x) : Calls Tryz.prog 43 #[x] w fun e w' => e = .returned (.int .i64 (1001 - cntV v 1001 1000)) ∧ Below w.heap.size w w' := by
  have hC := fun w x hi => refCount_any v 1001 1000 (by omega) (by omega) (by omega) (by omega) w x hi
  have hbd := cnt_bd v 1001 1000 (by omega)
  generalize cntV v 1001 1000 = c at *
  have hi2 := Lib.hid hi
  obtain ⟨k, m, s, a, len, cap, rfl⟩ := is_form hi
  have hB0 := (Below.refl _ w).alloc (Nat.le_refl _) (vobj k m s a len cap)
  clear hi
  go_enter Tryz.func43, Tryz.ntmps43
  go_wp2_with (first | (go_at_call 16; (with_reducible refine (hC _ _ (is_below hB0 _ _ hi2.out)).mono ?_); rintro e w' ⟨rfl, hb⟩))
  go_ret
  exact ⟨ret_int (by go_num), hB0.trans (hb.mono hB0.size)⟩
theorem right_eq (v : PV) : rightV v = (okV v && decide (rdV v ≤ 4) && decide (1001 - cntV v 1001 1000 ≤ 100)) := by
  unfold rightV
  cases ho : okV v with
  | false => simp
  | true =>
    rw [rd_ok v ho]
    by_cases hd : deepV v ≤ 4
    · have hd2 : decide ((deepV v : Int) ≤ 4) = true := by simp; omega
      rw [decide_eq_true hd, hd2]
      simp only [Bool.true_and, Bool.and_true]
      by_cases hs : szV v ≤ 1001
      · have h := cnt_ok v ho 1000 1001 (by omega) hs
        rw [show ((1001 : Nat) : Int) = 1001 from rfl, show ((1000 : Nat) : Int) = 1000 from rfl] at h
        rw [h, Bool.eq_iff_iff]
        simp only [decide_eq_true_eq]; omega
      · have h := cnt_bd v 1001 1000 (by omega)
        rw [Bool.eq_iff_iff]
        simp only [decide_eq_true_eq]; omega
    · have hd2 : decide ((deepV v : Int) ≤ 4) = false := by simp; omega
      rw [decide_eq_false hd, hd2]
      simp
set_option maxHeartbeats 1000000 in
theorem refRight_any (v : PV) (hsz : szV v ≤ 1000000) (w : World) (x : Value) (hi : Is w v x) : Calls Tryz.prog 24 #[x] w fun e w' => e = .returned (.bool (rightV v)) ∧ Below w.heap.size w w' := by
  have hE := fun w x hi => refEach_any v w x hi
  have hD := fun w x hi => refDeep_any v hsz w x hi
  have hN := fun w x hi => refNodes_any v w x hi
  rw [right_eq v]
  obtain ⟨b1, e1⟩ : ∃ b, okV v = b := ⟨_, rfl⟩
  obtain ⟨d, e2⟩ : ∃ d, rdV v = d := ⟨_, rfl⟩
  obtain ⟨c, e3⟩ : ∃ c, 1001 - cntV v 1001 1000 = c := ⟨_, rfl⟩
  rw [e1] at hE ⊢
  rw [e2] at hD ⊢
  rw [e3] at hN ⊢
  have hi2 := Lib.hid hi
  obtain ⟨k, m, s, a, len, cap, rfl⟩ := is_form hi
  have hB0 := (Below.refl _ w).alloc (Nat.le_refl _) (vobj k m s a len cap)
  clear hi e1 e2 e3
  obtain ⟨bd, ebd⟩ : ∃ b, decide (d ≤ 4) = b := ⟨_, rfl⟩
  obtain ⟨bc, ebc⟩ : ∃ b, decide (c ≤ 100) = b := ⟨_, rfl⟩
  rw [ebd, ebc]
  cases b1 <;> cases bd <;> cases bc
  all_goals (
    go_enter Tryz.func24, Tryz.ntmps24
    go_wp2_with (first
      | (go_at_call 42; (with_reducible refine (hE _ _ (is_below hB0 _ _ hi2.out)).mono ?_); rintro e w1 ⟨rfl, hb1⟩; have hB1 := hB0.trans (hb1.mono hB0.size); obtain ⟨x0, x1, x2, x3⟩ := box_cells hb1)
      | (go_at_call 17; (with_reducible refine (hD _ _ (is_below hB1 _ _ hi2.out)).mono ?_); rintro e w2 ⟨rfl, hb2⟩; have hB2 := hB1.trans (hb2.mono hB1.size); have hb12 := hb1.trans (hb2.mono hb1.size); obtain ⟨y0, y1, y2, y3⟩ := box_cells hb12)
      | (go_at_call 43; (with_reducible refine (hN _ _ (is_below hB2 _ _ hi2.out)).mono ?_); rintro e w3 ⟨rfl, hb3⟩; have hB3 := hB2.trans (hb3.mono hB2.size)))
    go_ret
    exact ⟨ret_bool (by simp), by first | exact hB3 | exact hB2 | exact hB1⟩)
end Go.Proofs.YtcicjpdjbfgbhaaGreatDoor

/- Layer 14, the document: get, Scan, Parse. -/
set_option linter.unusedVariables false
set_option linter.unusedSimpArgs false
namespace Go.Proofs.YtcicjpdjbfgbhaaGreatDoor
open Go.RowKit Go.Shelf
namespace Vt
theorem txt_err {f : Nat} : ∀ {l : List Int} {p : Nat} {acc : List Int} {a : Nat} {er : Int}, l.length + 1 ≤ p + f → p ≤ l.length → txt f l p acc = .inl (a, er) → er ≠ 0 := by
  induction f with
  | zero => intro l p acc a er hf hp h; omega
  | succ f ih =>
    intro l p acc a er hf hp h
    simp only [txt] at h
    split at h
    · cases h; decide
    · split at h
      · cases h
      · split at h
        · split at h
          · exact ih (by omega) (by omega) h
          · cases h; decide
        · exact ih (by omega) (by omega) h
theorem items_err {rv : Nat → Out (PV × Nat)} {l : List Int} (hrv : ∀ p a er, rv p = .inl (a, er) → er ≠ 0) (hpl : ∀ p v q, rv p = .inr (v, q) → p + szV v ≤ q ∧ q ≤ l.length) {f : Nat} : ∀ {p : Nat} {acc : List PV} {a : Nat} {er : Int}, p ≤ l.length → l.length + 1 ≤ p + f → items rv l f p acc = .inl (a, er) → er ≠ 0 := by
  induction f with
  | zero => intro p acc a er hp hf h; omega
  | succ f ih =>
    intro p acc a er hp hf h
    simp only [items] at h
    split at h
    · rename_i e he
      cases h
      exact hrv _ _ _ he
    · rename_i v q hv
      have h1 := hpl _ _ _ hv
      have h2 := szV_pos v
      split at h
      · cases h; decide
      · split at h
        · exact ih (by omega) (by omega) h
        · split at h
          · cases h
          · cases h; decide
theorem flat_err {l : List Int} {p : Nat} {a : Nat} {er : Int} (hp : p < l.length) (h : flat l p = .inl (a, er)) : er ≠ 0 := by
  unfold flat txV wdV at h
  split at h
  · split at h
    · rename_i e he
      cases h
      exact txt_err (by omega) (by omega) he
    · cases h
  · split at h
    · split at h
      · cases h
      · cases h; decide
    · split at h
      · split at h
        · cases h
        · rename_i he; cases h; exact he
      · split at h
        · split at h
          · cases h
          · cases h; decide
        · cases h; decide
theorem one_err {sub : Nat → Out (List PV × Nat)} {l : List Int} (hs : ∀ p a er, p < l.length → sub p = .inl (a, er) → er ≠ 0) {p : Nat} {a : Nat} {er : Int} (h : one sub l p = .inl (a, er)) : er ≠ 0 := by
  unfold one lsV at h
  split at h
  · cases h; decide
  · split at h
    · split at h
      · rename_i e he
        cases h
        exact hs _ _ _ (by omega) he
      · cases h
    · exact flat_err (by omega) h
theorem val_err (l : List Int) : ∀ d p a er, val d l p = .inl (a, er) → er ≠ 0 := by
  intro d
  induction d with
  | zero => intro p a er h; exact one_err (fun p a er _ h => by cases h; decide) h
  | succ d ih =>
    intro p a er h
    refine one_err (fun p a er hp h => ?_) h
    unfold lst at h
    split at h
    · cases h; decide
    · split at h
      · cases h
      · exact items_err (fun p a er h => ih p a er h) (fun p v q h => val_place l d p v q h) (by omega) (by omega) h
end Vt
end Go.Proofs.YtcicjpdjbfgbhaaGreatDoor

/- Layer 14: what Parse and Scan say of a right value's text, and of what stands behind it (no walk). -/
set_option linter.unusedVariables false
set_option linter.unusedSimpArgs false
namespace Go.Proofs.YtcicjpdjbfgbhaaGreatDoor
open Go.RowKit Go.Shelf
theorem text_bytes14 : ∀ v : PV, numsV v → ∀ x ∈ textV v, 0 ≤ x ∧ x ≤ 255 := by
  intro v
  induction v using pv_ind with
  | h k n s l ih =>
    intro hn x hx
    unfold numsV at hn
    have hs : ∀ y ∈ strB s, 0 ≤ y ∧ y ≤ 255 := fun y hy => by
      obtain ⟨i, hi⟩ := List.getElem?_of_mem hy
      have := strB_bytes s i
      rwa [hi] at this
    have hq : ∀ l : List Int, (∀ y ∈ l, 0 ≤ y ∧ y ≤ 255) → ∀ y ∈ quoteB l, 0 ≤ y ∧ y ≤ 255 := by
      intro l
      induction l with
      | nil => intro _ y hy; simp [quoteB] at hy
      | cons z r ih2 =>
        intro h y hy
        have hz := h z (by simp)
        simp only [quoteB, List.mem_append] at hy
        rcases hy with hy | hy
        · split at hy <;> simp at hy <;> omega
        · exact ih2 (fun u hu => h u (by simp [hu])) y hy
    have hM : ∀ l : List PV, (∀ x ∈ l, numsV x → ∀ y ∈ textV x, 0 ≤ y ∧ y ≤ 255) → numsV.numsL l → ∀ y ∈ textM l, 0 ≤ y ∧ y ≤ 255 := by
      intro l
      induction l with
      | nil => intro _ _ y hy; simp [textM] at hy
      | cons z r ih2 =>
        intro h m y hy
        unfold numsV.numsL at m
        simp only [textM, List.mem_cons, List.mem_append] at hy
        rcases hy with rfl | hy | hy
        · omega
        · exact h z (by simp) m.1 y hy
        · exact ih2 (fun u hu => h u (by simp [hu])) m.2 y hy
    simp only [textV] at hx
    split at hx
    · simp at hx; omega
    split at hx
    · split at hx <;> simp at hx <;> omega
    split at hx
    · exact prt_bytes n x hx
    split at hx
    · simp only [List.mem_cons] at hx
      rcases hx with rfl | hx
      · omega
      · exact hs x hx
    split at hx
    · simp only [List.mem_cons, List.mem_append, List.not_mem_nil, or_false] at hx
      rcases hx with (rfl | hx) | rfl
      · omega
      · exact hq _ hs x hx
      · omega
    split at hx
    · simp only [List.mem_cons, List.mem_append, List.not_mem_nil, or_false] at hx
      rcases hx with (rfl | hx) | rfl
      · omega
      · cases l with
        | nil => simp [textL] at hx
        | cons z r =>
          have m := hn.2
          unfold numsV.numsL at m
          simp only [textL, List.mem_append] at hx
          rcases hx with hx | hx
          · exact ih z (by simp) m.1 x hx
          · exact hM r (fun u hu => ih u (by simp [hu])) m.2 x hx
      · omega
    · simp at hx
/-- a right value's text is short -/
theorem text_short14 : ∀ v : PV, okV v = true → numsV v → (textV v).length + 1 ≤ 410 * szV v := by
  intro v
  induction v using pv_ind with
  | h k n s l ih =>
    intro ho hn
    unfold numsV at hn
    simp only [szV]
    rcases okV_kind ho with rfl | rfl | rfl | rfl | rfl | rfl
    · rw [text0]; simp; omega
    · rw [text1]; split <;> simp <;> omega
    · rw [text2]; have := M.prt_len n hn.1.1 hn.1.2; omega
    · rw [text3]; rw [okV3] at ho; simp only [Bool.and_eq_true] at ho
      have h2 := ho.1.2
      simp [nameB] at h2
      simp; omega
    · rw [text4]; rw [okV4] at ho; simp only [Bool.and_eq_true, decide_eq_true_eq] at ho
      have := quote_len (strB s)
      rw [strB_len] at this
      simp; omega
    · rw [text5]; rw [okV5] at ho; simp only [Bool.and_eq_true] at ho
      have ho2 := ho.2
      have hn2 := hn.2
      have hM : ∀ l : List PV, (∀ x ∈ l, okV x = true → numsV x → (textV x).length + 1 ≤ 410 * szV x) → okL l = true → numsV.numsL l → (textM l).length ≤ 410 * szL l := by
        intro l
        induction l with
        | nil => intro _ _ _; simp [textM]
        | cons x r ih2 =>
          intro ih o m
          simp only [okL, Bool.and_eq_true] at o
          unfold numsV.numsL at m
          have h1 := ih x (by simp) o.1 m.1
          have h2 := ih2 (fun z hz => ih z (by simp [hz])) o.2 m.2
          simp only [textM, szL, List.length_cons, List.length_append]
          omega
      cases l with
      | nil => simp [textL]; omega
      | cons x r =>
        simp only [okL, Bool.and_eq_true] at ho2
        unfold numsV.numsL at hn2
        have h1 := ih x (by simp) ho2.1 hn2.1
        have h2 := hM r (fun z hz => ih z (by simp [hz])) ho2.2 hn2.2
        simp only [textL, szL, List.length_cons, List.length_append, List.length_nil]
        omega
end Go.Proofs.YtcicjpdjbfgbhaaGreatDoor
namespace Go.Proofs.YtcicjpdjbfgbhaaGreatDoor.Vt
open Go.RowKit Go.Shelf
theorem right_ok {v : PV} (h : rightV v = true) : deepV v ≤ 4 ∧ szV v ≤ 100 ∧ okV v = true := by simpa [rightV, and_assoc] using h
theorem scan_text {v : PV} {r : List Int} (hr : rightV v = true) (hn : numsV v) (he : EndsK v r) : scan (textV v ++ r) 0 = (v, ((textV v).length : Int), 0) := by
  obtain ⟨h1, _, h2⟩ := right_ok hr
  have h := (val_fwd v h2 hn 4 (textV v ++ r) 0 r rfl he).1 h1
  unfold scan
  rw [if_pos (by simp; omega), show (0 : Int).toNat = 0 from rfl, h, Nat.zero_add]
  simp only [hr, if_true]
theorem ends_own (v : PV) : EndsK v [] := by
  cases v with | mk k n s l => exact .inr (.inr ends_nil)
theorem parse_text {v : PV} (hr : rightV v = true) (hn : numsV v) : parse (textV v) = (v, ((textV v).length : Int), 0) := by
  have h := scan_text hr hn (ends_own v)
  rw [List.append_nil] at h
  unfold parse
  rw [h, if_neg (by simp)]
theorem parse_back {s : ByteArray} {v : PV} {x : Int} (h : parse (strB s) = (v, x, 0)) : rightV v = true ∧ strOfNums (textV v) = s := by
  have hb : ∀ x ∈ strB s, 0 ≤ x ∧ x ≤ 255 := fun y hy => by
    obtain ⟨i, hi⟩ := List.getElem?_of_mem hy
    have := strB_bytes s i
    rwa [hi] at this
  unfold parse at h
  split at h
  · simp at h
  · rename_i hc
    rw [h] at hc
    unfold scan at h
    split at h
    · split at h
      · rename_i q e hv
        simp only [Prod.mk.injEq] at h
        exact absurd h.2.2 (val_err _ _ _ _ _ hv)
      · rename_i v' q hv
        split at h
        · rename_i hr
          simp only [Prod.mk.injEq] at h
          obtain ⟨rfl, rfl, _⟩ := h
          refine ⟨hr, ?_⟩
          have hp := val_back _ hb 4 0 _ _ hv
          have hq : (strB s).length ≤ q := by simp at hc; omega
          have : part (strB s) 0 q = strB s := by unfold part; rw [List.take_of_length_le hq]; rfl
          rw [← hp, this, strOfNums_strB]
        · simp at h
    · simp at h
end Go.Proofs.YtcicjpdjbfgbhaaGreatDoor.Vt
