/- Layer 14: number, word. -/
import Derived.Test.YtcicjpdjbfgbhaaDoorMh24Cell
set_option linter.unusedVariables false
set_option linter.unusedSimpArgs false
namespace Go.Proofs.YtcicjpdjbfgbhaaDoor
open Go.RowKit Go.Shelf
attribute [local go_sem] Oper.semAt_some
theorem scan_wrong (l : List Int) (p : Nat) (h : (M.scan l p).2.2 ≠ 0) : (M.scan l p).2.1 = p := by
  unfold M.scan at h ⊢
  split at h
  · rename_i h1
    rw [if_pos h1]
    split at h
    · exact absurd rfl h
    · rename_i h2
      rw [if_neg h2]
  · rename_i h1
    rw [if_neg h1]
theorem scan_num (l : List Int) (p : Nat) : I64 (M.scan l p).1 := by
  have hs : ∀ m b, I64 (M.sg m b).1 := fun m b => by
    unfold M.sg I64
    split
    · split
      · constructor <;> simp only <;> omega
      · simp
    · split
      · constructor <;> simp only <;> omega
      · simp
  have hp : ∀ l, I64 (M.parse l).1 := fun l => by
    unfold M.parse
    split
    · exact hs _ _
    · unfold I64; simp
  unfold M.scan
  split
  · split
    · exact hp _
    · unfold I64; simp
  · unfold I64; simp
set_option maxRecDepth 100000 in
set_option maxHeartbeats 2000000 in
theorem vnumber_any (s : ByteArray) (p a o n : Nat) (w : World) (hsm : s.size ≤ 1000000) (hn : 1 ≤ n) (ha : a < s.size) (hr : RV w p s a o n) :
    Calls Tryd.prog 85 #[.pointer (some ⟨p, 0, none⟩)] w (VtR p s o n w (if (M.scan (strB s) a).2.2 = 0 then .inr (.mk 2 (M.scan (strB s) a).1 ⟨#[]⟩ [], (M.scan (strB s) a).2.1.toNat) else .inl (a, (M.scan (strB s) a).2.2))) := by
  have hpw := rv_lt hr
  have hA : Below w.heap.size w (w.alloc (.cells vzero 24)) := (Below.refl _ w).alloc (Nat.le_refl _) _
  have hz0 : VAt (w.alloc (.cells vzero 24)) w.heap.size vzero := vat_alloc w vzero
  have hr0 := rv_below hr hA
  have hg0 := grownV_of_below hA (some p)
  obtain ⟨⟨c0, c1, c2, c3⟩, f1, f2, f3⟩ := rv_cells hr0
  have hS := fun k => (numScan_any s (a : Int) ((w.alloc (.cells vzero 24)).drewN k) (by unfold maxLen; omega) (by omega) (by omega)).mono fun e w' h => (⟨h.1, k, h.2.symm⟩ : e = _ ∧ ∃ m, w' = (w.alloc (.cells vzero 24)).drewN m)
  have hpl := Vt.scan_place (strB s) a (by rw [strB_len]; exact ha)
  have hwr := scan_wrong (strB s) a
  have hI := scan_num (strB s) a
  rw [strB_len] at hpl
  obtain ⟨⟨m, x, e⟩, hT⟩ : ∃ T, M.scan (strB s) a = T := ⟨_, rfl⟩
  simp only [hT] at hS hpl hwr hI ⊢
  by_cases h : e = 0
  · rw [if_pos h]
    obtain ⟨q1, q2, q3⟩ := hpl h
    have hne : (e != 0) = false := by simpa using h
    obtain ⟨q, rfl⟩ : ∃ q : Nat, x = q := ⟨x.toNat, q3.symm⟩
    rw [Int.toNat_natCast]
    clear hpl hwr hT q3
    have HE := Lib.hid h; clear h
    go_enter Tryd.func85, Tryd.ntmps85
    go_wp2
    go_quiet (first | (go_at_call 91; exact hS _))
    go_wp2_with fail
    refine bodyPost_ret (results_cell_row Tryd.results85 _ _ w.heap.size _ _ _ _ rfl (vat_set4 (vat_other (show VAt ((w.alloc (.cells vzero 24)).drewN _) w.heap.size vzero from hz0) (show w.heap.size ≠ p by omega) 1 _) _ _ _ _) Tryd.underlying24 rfl val4) rfl ?_
    exact vt_end (v := .mk 2 m ⟨#[]⟩ []) hpw (rv_at (rv_drew hr0 _) q) (grownV_two (grownV_two hg0 (grownV_drew _ _ _)) (grownV_set _ p 1 _)) (fresh_flat _ _ 2 m ⟨#[]⟩ ⟨by omega, by omega⟩ hI (by unfold maxLen; decide)) (fun _ => rfl)
  · rw [if_neg h]
    have hne : (e != 0) = true := by simpa using h
    obtain rfl : x = a := hwr h
    clear hpl hwr hT
    have HE := Lib.hid h; clear h
    go_enter Tryd.func85, Tryd.ntmps85
    go_wp2
    go_quiet (first | (go_at_call 91; exact hS _))
    go_wp2_with fail
    exact ⟨rfl, rfl, grownV_two hg0 (grownV_drew _ _ _)⟩
theorem word_if (t : List Int) (P : Option PV → Prop) (h1 : t = [110, 117, 108, 108] → P (some (.mk 0 0 ⟨#[]⟩ []))) (h2 : t ≠ [110, 117, 108, 108] → t = [102, 97, 108, 115, 101] → P (some (.mk 1 0 ⟨#[]⟩ [])))
    (h3 : t ≠ [110, 117, 108, 108] → t ≠ [102, 97, 108, 115, 101] → t = [116, 114, 117, 101] → P (some (.mk 1 1 ⟨#[]⟩ []))) (h4 : t ≠ [110, 117, 108, 108] → t ≠ [102, 97, 108, 115, 101] → t ≠ [116, 114, 117, 101] → P none) : P (Vt.word t) := by
  unfold Vt.word
  split
  · rename_i h; exact h1 h
  · rename_i k1
    split
    · rename_i h; exact h2 k1 h
    · rename_i k2
      split
      · rename_i h; exact h3 k1 k2 h
      · rename_i k3; exact h4 k1 k2 k3
set_option maxRecDepth 100000 in
set_option maxHeartbeats 2000000 in
theorem vword_any (s : ByteArray) (p a o n : Nat) (w : World) (hsm : s.size ≤ 1000000) (hn : 1 ≤ n) (ha : a < s.size) (hr : RV w p s a o n) :
    Calls Tryd.prog 86 #[.pointer (some ⟨p, 0, none⟩)] w (VtR p s o n w (Vt.wdV (Vt.word (Vt.part (strB s) a (Vt.runTo letterB (strB s) a))) a (Vt.runTo letterB (strB s) a))) := by
  have hpw := rv_lt hr
  have hA : Below w.heap.size w (w.alloc (.cells vzero 24)) := (Below.refl _ w).alloc (Nat.le_refl _) _
  have hz0 : VAt (w.alloc (.cells vzero 24)) w.heap.size vzero := vat_alloc w vzero
  have hr0 := rv_below hr hA
  have hg0 := grownV_of_below hA (some p)
  obtain ⟨⟨c0, c1, c2, c3⟩, f1, f2, f3⟩ := rv_cells hr0
  have hRun := vrun_any lettersC letterB letters_are s p a o n _ hsm (by omega) hr0
  obtain ⟨q, hq⟩ : ∃ q, Vt.runTo letterB (strB s) a = q := ⟨_, rfl⟩
  rw [hq] at hRun ⊢
  clear hq
  rw [← part_sub]
  unfold RunR at hRun
  obtain ⟨x, hx⟩ : ∃ x, s.extract a q = x := ⟨_, rfl⟩
  rw [hx] at hRun ⊢
  have z1 : x.toList = [110, 117, 108, 108] ↔ strB x = [110, 117, 108, 108] := toList_lit _ [110, 117, 108, 108] [110, 117, 108, 108] rfl (by decide)
  have z2 : x.toList = [102, 97, 108, 115, 101] ↔ strB x = [102, 97, 108, 115, 101] := toList_lit _ [102, 97, 108, 115, 101] [102, 97, 108, 115, 101] rfl (by decide)
  have z3 : x.toList = [116, 114, 117, 101] ↔ strB x = [116, 114, 117, 101] := toList_lit _ [116, 114, 117, 101] [116, 114, 117, 101] rfl (by decide)
  refine word_if (strB x) (fun W => Calls Tryd.prog 86 #[.pointer (some ⟨p, 0, none⟩)] w (VtR p s o n w (Vt.wdV W a q))) ?_ ?_ ?_ ?_
  · intro h
    have hx1 := z1.2 h
    clear z1 z2 z3 h
    go_enter Tryd.func86, Tryd.ntmps86
    go_wp2_with (go_at_call 89; (with_reducible refine hRun.mono ?_); rintro e w1 ⟨rfl, hr2, hg2⟩; have hz3 := vat_kept hz0 hg2 (fun e => by cases e; omega); obtain ⟨⟨y0, y1, y2, y3⟩, x0, x1, x2, x3⟩ := box4 hz3)
    refine bodyPost_ret (results_cell_row Tryd.results86 _ _ w.heap.size _ _ _ _ rfl (vat_set4 hz3 _ _ _ _) Tryd.underlying24 rfl val4) rfl ?_
    exact vt_end (v := .mk 0 0 ⟨#[]⟩ []) hpw hr2 (grownV_two hg0 hg2) (fresh_flat _ _ 0 0 ⟨#[]⟩ ⟨by omega, by omega⟩ ⟨by omega, by omega⟩ (by unfold maxLen; decide)) (fun _ => rfl)
  · intro h1 h
    have hx1 : (x.toList == [110, 117, 108, 108]) = false := beq_eq_false_iff_ne.2 fun h => h1 (z1.1 h)
    have hx2 := z2.2 h
    clear z1 z2 z3 h h1
    go_enter Tryd.func86, Tryd.ntmps86
    go_wp2_with (go_at_call 89; (with_reducible refine hRun.mono ?_); rintro e w1 ⟨rfl, hr2, hg2⟩; have hz3 := vat_kept hz0 hg2 (fun e => by cases e; omega); obtain ⟨⟨y0, y1, y2, y3⟩, x0, x1, x2, x3⟩ := box4 hz3)
    refine bodyPost_ret (results_cell_row Tryd.results86 _ _ w.heap.size _ _ _ _ rfl (vat_set4 hz3 _ _ _ _) Tryd.underlying24 rfl val4) rfl ?_
    exact vt_end (v := .mk 1 0 ⟨#[]⟩ []) hpw hr2 (grownV_two hg0 hg2) (fresh_flat _ _ 1 0 ⟨#[]⟩ ⟨by omega, by omega⟩ ⟨by omega, by omega⟩ (by unfold maxLen; decide)) (fun _ => rfl)
  · intro h1 h2 h
    have hx1 : (x.toList == [110, 117, 108, 108]) = false := beq_eq_false_iff_ne.2 fun h => h1 (z1.1 h)
    have hx2 : (x.toList == [102, 97, 108, 115, 101]) = false := beq_eq_false_iff_ne.2 fun h => h2 (z2.1 h)
    have hx3 := z3.2 h
    clear z1 z2 z3 h h1 h2
    go_enter Tryd.func86, Tryd.ntmps86
    go_wp2_with (go_at_call 89; (with_reducible refine hRun.mono ?_); rintro e w1 ⟨rfl, hr2, hg2⟩; have hz3 := vat_kept hz0 hg2 (fun e => by cases e; omega); obtain ⟨⟨y0, y1, y2, y3⟩, x0, x1, x2, x3⟩ := box4 hz3)
    refine bodyPost_ret (results_cell_row Tryd.results86 _ _ w.heap.size _ _ _ _ rfl (vat_set4 hz3 _ _ _ _) Tryd.underlying24 rfl val4) rfl ?_
    exact vt_end (v := .mk 1 1 ⟨#[]⟩ []) hpw hr2 (grownV_two hg0 hg2) (fresh_flat _ _ 1 1 ⟨#[]⟩ ⟨by omega, by omega⟩ ⟨by omega, by omega⟩ (by unfold maxLen; decide)) (fun _ => rfl)
  · intro h1 h2 h3
    have hx1 : (x.toList == [110, 117, 108, 108]) = false := beq_eq_false_iff_ne.2 fun h => h1 (z1.1 h)
    have hx2 : (x.toList == [102, 97, 108, 115, 101]) = false := beq_eq_false_iff_ne.2 fun h => h2 (z2.1 h)
    have hx3 : (x.toList == [116, 114, 117, 101]) = false := beq_eq_false_iff_ne.2 fun h => h3 (z3.1 h)
    clear z1 z2 z3 h1 h2 h3
    go_enter Tryd.func86, Tryd.ntmps86
    go_wp2_with (go_at_call 89; (with_reducible refine hRun.mono ?_); rintro e w1 ⟨rfl, hr2, hg2⟩)
    exact ⟨rfl, rfl, grownV_two hg0 hg2⟩
end Go.Proofs.YtcicjpdjbfgbhaaDoor
