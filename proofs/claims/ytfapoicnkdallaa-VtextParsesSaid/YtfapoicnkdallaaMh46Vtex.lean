/- Layer 14, the document: get, Scan, Parse. -/
import Derived.Test.YtfapoicnkdallaaMh45Vtex
set_option linter.unusedVariables false
set_option linter.unusedSimpArgs false
namespace Go.Proofs.Ytfapoicnkdallaa
open Go.RowKit Go.Shelf
namespace Vt
theorem txt_err {f : Nat} : ∀ {l : List Int} {p : Nat} {acc : List Int} {a : Nat} {er : Int}, l.length + 1 ≤ p + f → p ≤ l.length → txt f l p acc = .inl (a, er) → er ≠ 0 := by
  induction f with
  | zero => intro l p acc a er hf hp h; omega
  | succ f ih =>
    intro l p acc a er hf hp h
    simp only [txt] at h
    split at h
    · cases h; decide
    · split at h
      · cases h
      · split at h
        · split at h
          · exact ih (by omega) (by omega) h
          · cases h; decide
        · exact ih (by omega) (by omega) h
theorem items_err {rv : Nat → Out (PV × Nat)} {l : List Int} (hrv : ∀ p a er, rv p = .inl (a, er) → er ≠ 0) (hpl : ∀ p v q, rv p = .inr (v, q) → p + szV v ≤ q ∧ q ≤ l.length) {f : Nat} : ∀ {p : Nat} {acc : List PV} {a : Nat} {er : Int}, p ≤ l.length → l.length + 1 ≤ p + f → items rv l f p acc = .inl (a, er) → er ≠ 0 := by
  induction f with
  | zero => intro p acc a er hp hf h; omega
  | succ f ih =>
    intro p acc a er hp hf h
    simp only [items] at h
    split at h
    · rename_i e he
      cases h
      exact hrv _ _ _ he
    · rename_i v q hv
      have h1 := hpl _ _ _ hv
      have h2 := szV_pos v
      split at h
      · cases h; decide
      · split at h
        · exact ih (by omega) (by omega) h
        · split at h
          · cases h
          · cases h; decide
theorem flat_err {l : List Int} {p : Nat} {a : Nat} {er : Int} (hp : p < l.length) (h : flat l p = .inl (a, er)) : er ≠ 0 := by
  unfold flat txV wdV at h
  split at h
  · split at h
    · rename_i e he
      cases h
      exact txt_err (by omega) (by omega) he
    · cases h
  · split at h
    · split at h
      · cases h
      · cases h; decide
    · split at h
      · split at h
        · cases h
        · rename_i he; cases h; exact he
      · split at h
        · split at h
          · cases h
          · cases h; decide
        · cases h; decide
theorem one_err {sub : Nat → Out (List PV × Nat)} {l : List Int} (hs : ∀ p a er, p < l.length → sub p = .inl (a, er) → er ≠ 0) {p : Nat} {a : Nat} {er : Int} (h : one sub l p = .inl (a, er)) : er ≠ 0 := by
  unfold one lsV at h
  split at h
  · cases h; decide
  · split at h
    · split at h
      · rename_i e he
        cases h
        exact hs _ _ _ (by omega) he
      · cases h
    · exact flat_err (by omega) h
theorem val_err (l : List Int) : ∀ d p a er, val d l p = .inl (a, er) → er ≠ 0 := by
  intro d
  induction d with
  | zero => intro p a er h; exact one_err (fun p a er _ h => by cases h; decide) h
  | succ d ih =>
    intro p a er h
    refine one_err (fun p a er hp h => ?_) h
    unfold lst at h
    split at h
    · cases h; decide
    · split at h
      · cases h
      · exact items_err (fun p a er h => ih p a er h) (fun p v q h => val_place l d p v q h) (by omega) (by omega) h
end Vt
theorem get_of (s : ByteArray) (dd : Int) (hsm : s.size ≤ 1000000) (sub : Nat → Vt.Out (List PV × Nat)) (hL : ∀ p w, p < s.size → (strB s)[p]?.getD 0 = 91 → Calls Try.prog 19 #[.string s, .int .i64 (p : Int), .int .i64 dd] w (ScR (gT (Vt.lsV (sub p))) w)) (i : Nat) (W : World) (hi : i ≤ s.size) :
    Calls Try.prog 19 #[.string s, .int .i64 (i : Int), .int .i64 dd] W (ScR (gT (Vt.one sub (strB s) i)) W) := by
  unfold Vt.one
  by_cases hlt : i < s.size
  · rw [if_neg (by rw [strB_len]; omega)]
    by_cases h1 : (strB s)[i]?.getD 0 = 91
    · rw [if_pos h1]; exact hL i W hlt h1
    rw [if_neg h1]
    unfold Vt.flat
    by_cases h2 : (strB s)[i]?.getD 0 = 34
    · rw [if_pos h2]; exact get_text s i dd hsm hlt h2 W
    rw [if_neg h2]
    by_cases h3 : (strB s)[i]?.getD 0 = 39
    · rw [if_pos h3]; exact get_name s i dd hsm hlt h3 W
    rw [if_neg h3]
    by_cases h4 : (strB s)[i]?.getD 0 = 45 ∨ M.isD ((strB s)[i]?.getD 0) = true
    · rw [if_pos h4]; exact get_number s i dd hsm hlt h4 W
    rw [if_neg h4]
    have hO : Other ((strB s)[i]?.getD 0) := ⟨h3, fun h => h4 (.inl h), h2, h1, by
      cases h : M.isD ((strB s)[i]?.getD 0)
      · rfl
      · exact absurd (.inr h) h4⟩
    have hw := get_word s i dd hsm hlt hO W
    by_cases h5 : letterB ((strB s)[i]?.getD 0) = true
    · rw [if_pos h5]; exact hw
    · rw [if_neg h5]
      have e : Vt.runTo letterB (strB s) i = i := Vt.runTo_stop letterB (strB s) i (fun _ => by simpa using h5)
      rw [e] at hw
      have e2 : Vt.part (strB s) i i = [] := by unfold Vt.part; exact List.drop_eq_nil_of_le (by simp; omega)
      rw [e2] at hw
      exact hw
  · obtain rfl : i = s.size := by omega
    rw [if_pos (by rw [strB_len]; omega), strB_len]
    exact get_over s dd W
theorem val_over (s : ByteArray) (d : Nat) : Vt.val d (strB s) s.size = .inl (s.size, 2) := by
  have h : ∀ sub, Vt.one sub (strB s) s.size = .inl (s.size, 2) := fun sub => by unfold Vt.one; rw [if_pos (by rw [strB_len]; omega), strB_len]
  cases d
  · exact h _
  · exact h _
theorem refGet14_any (s : ByteArray) (hsm : s.size ≤ 1000000) : ∀ d : Nat, d ≤ 8 → ∀ (i : Nat) (W : World), i ≤ s.size → Calls Try.prog 19 #[.string s, .int .i64 (i : Int), .int .i64 (d : Int)] W (ScR (gT (Vt.val d (strB s) i)) W) := by
  intro d
  induction d with
  | zero => intro _ i W hi; exact get_of s 0 hsm _ (fun p w hp hx => get_deep s p hsm hp hx w) i W hi
  | succ d ih =>
    intro hd i W hi
    refine get_of s ((d + 1 : Nat) : Int) hsm _ (fun p w hp hx => ?_) i W hi
    refine get_list s p _ hsm (by omega) (by omega) hp hx (Vt.val d (strB s)) (fun i W hi => ?_) (val_over s d) (fun i a er h => Vt.val_err (strB s) d i a er h) (fun i v q h => by have := Vt.val_place (strB s) d i v q h; rwa [strB_len] at this) w
    have e : ((d + 1 : Nat) : Int) - 1 = (d : Int) := by omega
    rw [e]
    exact ih (by omega) i W hi
set_option maxRecDepth 100000 in
set_option maxHeartbeats 2000000 in
theorem refScan14_any (s : ByteArray) (a : Int) (hsm : s.size ≤ 1000000) (w : World) : Calls Try.prog 10 #[.string s, .int .i64 a] w (ScR (Vt.scan (strB s) a) w) := by
  have hz0 : VAt (w.alloc (.cells vzero 25)) w.heap.size vzero := vat_alloc w vzero
  have hA1 := (Below.refl _ w).alloc (Nat.le_refl _) (.cells vzero 25)
  obtain ⟨⟨y0, y1, y2, y3⟩, x0, x1, x2, x3⟩ := box4 hz0
  by_cases hin : 0 ≤ a ∧ a ≤ (strB s).length
  · obtain ⟨q, rfl⟩ := Int.eq_ofNat_of_zero_le hin.1
    have hq : q ≤ s.size := by have := hin.2; rw [strB_len] at this; omega
    have hG := refGet14_any s hsm 4 (by omega) q (w.alloc (.cells vzero 25)) hq
    rw [show ((4 : Nat) : Int) = 4 from rfl] at hG
    have e : Vt.scan (strB s) (q : Int) = whM (strB s) q := by
      unfold Vt.scan whM
      rw [if_pos hin, Int.toNat_natCast]
      rcases Vt.val 4 (strB s) q with ⟨_, _⟩ | ⟨_, _⟩ <;> rfl
    rw [e]
    unfold whM
    have her := Vt.val_err (strB s) 4 q
    have hpl := Vt.val_place (strB s) 4 q
    obtain ⟨X, hX⟩ : ∃ X, Vt.val 4 (strB s) q = X := ⟨_, rfl⟩
    rw [hX] at hG her hpl ⊢
    clear hX e hin
    have d1 : decide ((s.size : Int) < (q : Int)) = false := by simp; omega
    cases X with
    | inl xe =>
      obtain ⟨x, er⟩ := xe
      have hG := scR_l hG
      have hne : (er != 0) = true := by simpa using her _ _ rfl
      simp only
      clear her hpl
      go_enter Try.func10, Try.ntmps10
      go_wp2_with (go_at_call 19; (with_reducible refine hG.mono ?_); rintro e w2 ⟨v0, v1, v2, a9, len9, cap9, rfl, hF, hB2⟩; have hA4 := (Below.refl _ w2).alloc (Nat.le_refl _) (.cells #[.int .i64 v0, .int .i64 v1, .string v2, .slice a9 len9 cap9] 25); have hz3 := vat_below hA4 (vat_below hB2 hz0); obtain ⟨⟨y0', y1', y2', y3'⟩, x0', x1', x2', x3'⟩ := box4 hz3)
      refine bodyPost_ret (vresults_row_tmp2 Try.results10 _ _ w.heap.size 25 _ _ _ rfl (vat_set4 hz3 _ _ _ _) Try.underlying25 rfl val4) rfl ?_
      exact vparse_end (v := .mk 0 0 ⟨#[]⟩ []) hA1 hB2 hA4 (fresh_none _ _)
    | inr vq =>
      obtain ⟨v, x⟩ := vq
      have hG := scR_r hG
      have hv := hpl v x rfl
      rw [strB_len] at hv
      have hR := fun w y hi => refRight_any v (by omega) w y hi
      simp only
      clear her hpl
      obtain ⟨g, hg⟩ : ∃ g, rightV v = g := ⟨_, rfl⟩
      rw [hg] at hR ⊢
      clear hg
      cases g with
      | true =>
        simp only [if_true]
        go_enter Try.func10, Try.ntmps10
        go_wp2_with (first
          | (go_at_call 19; (with_reducible refine hG.mono ?_); rintro e w2 ⟨v0, v1, v2, a9, len9, cap9, rfl, hF, hB2⟩; have hA4 := (Below.refl _ w2).alloc (Nat.le_refl _) (.cells #[.int .i64 v0, .int .i64 v1, .string v2, .slice a9 len9 cap9] 25); have hF4 := fresh_later hF hA4.size (fun b b1 b2 => hA4.block b b2); have hv4 := vat_alloc w2 #[.int .i64 v0, .int .i64 v1, .string v2, .slice a9 len9 cap9])
          | (go_at_call 20; (with_reducible refine (hR _ _ (fresh_is hF4)).mono ?_); rintro e w5 ⟨rfl, hB5⟩; have hA6 := hA4.trans (hB5.mono hA4.size); have hz3 := vat_below hA6 (vat_below hB2 hz0); obtain ⟨⟨y0', y1', y2', y3'⟩, x0', x1', x2', x3'⟩ := box4 hz3; obtain ⟨⟨n0, n1, n2, n3⟩, _⟩ := box4 (vat_below hB5 hv4)))
        refine bodyPost_ret (vresults_row_tmp2 Try.results10 _ _ w.heap.size 25 _ _ _ rfl (vat_set4 hz3 _ _ _ _) Try.underlying25 rfl val4) rfl ?_
        have hBB := hA1.trans ((hB2.trans (hA6.mono hB2.size)).mono hA1.size)
        exact get_end14 hBB (fresh_mono (fresh_later hF4 hB5.size (fun b b1 b2 => hB5.block b b2)) (by simp))
      | false =>
        simp only [Bool.false_eq_true, if_false]
        go_enter Try.func10, Try.ntmps10
        go_wp2_with (first
          | (go_at_call 19; (with_reducible refine hG.mono ?_); rintro e w2 ⟨v0, v1, v2, a9, len9, cap9, rfl, hF, hB2⟩; have hA4 := (Below.refl _ w2).alloc (Nat.le_refl _) (.cells #[.int .i64 v0, .int .i64 v1, .string v2, .slice a9 len9 cap9] 25); have hF4 := fresh_later hF hA4.size (fun b b1 b2 => hA4.block b b2); have hv4 := vat_alloc w2 #[.int .i64 v0, .int .i64 v1, .string v2, .slice a9 len9 cap9])
          | (go_at_call 20; (with_reducible refine (hR _ _ (fresh_is hF4)).mono ?_); rintro e w5 ⟨rfl, hB5⟩; have hA6 := hA4.trans (hB5.mono hA4.size); have hz3 := vat_below hA6 (vat_below hB2 hz0); obtain ⟨⟨y0', y1', y2', y3'⟩, x0', x1', x2', x3'⟩ := box4 hz3; obtain ⟨⟨n0, n1, n2, n3⟩, _⟩ := box4 (vat_below hB5 hv4)))
        refine bodyPost_ret (vresults_row_tmp2 Try.results10 _ _ w.heap.size 25 _ _ _ rfl (vat_set4 hz3 _ _ _ _) Try.underlying25 rfl val4) rfl ?_
        have hBB := hA1.trans ((hB2.trans (hA6.mono hB2.size)).mono hA1.size)
        exact get_end14 (v := .mk 0 0 ⟨#[]⟩ []) hBB (fresh_none _ _)
  · have e : Vt.scan (strB s) a = (.mk 0 0 ⟨#[]⟩ [], a, 1) := by unfold Vt.scan; rw [if_neg hin]
    rw [e]
    rw [strB_len] at hin
    have hz3 := hz0
    obtain ⟨⟨y0, y1, y2, y3⟩, x0, x1, x2, x3⟩ := box4 hz3
    by_cases h0 : a < 0
    · have d1 : decide (a < 0) = true := by simpa using h0
      go_enter Try.func10, Try.ntmps10
      go_wp2
      refine bodyPost_ret (vresults_row_tmp2 Try.results10 _ _ w.heap.size 25 _ _ _ rfl hz0 Try.underlying25 rfl val4) rfl ?_
      exact ⟨0, 0, ⟨#[]⟩, none, 0, 0, rfl, fresh_none _ _, hA1⟩
    · have d1 : decide (a < 0) = false := by simpa using h0
      have d2 : decide ((s.size : Int) < a) = true := by simp; omega
      go_enter Try.func10, Try.ntmps10
      go_wp2
      refine bodyPost_ret (vresults_row_tmp2 Try.results10 _ _ w.heap.size 25 _ _ _ rfl hz0 Try.underlying25 rfl val4) rfl ?_
      exact ⟨0, 0, ⟨#[]⟩, none, 0, 0, rfl, fresh_none _ _, hA1⟩
end Go.Proofs.Ytfapoicnkdallaa
