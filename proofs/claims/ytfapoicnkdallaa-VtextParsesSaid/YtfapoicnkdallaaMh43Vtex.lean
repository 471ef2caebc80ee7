/- Layer 14, the document: get, of numbers and words. -/
import Derived.Test.YtfapoicnkdallaaMh42Vtex
set_option linter.unusedVariables false
set_option linter.unusedSimpArgs false
namespace Go.Proofs.Ytfapoicnkdallaa
open Go.RowKit Go.Shelf
theorem digit_cases (x : Int) (h : x = 45 ∨ M.isD x = true) : ((x == 45) = true) ∨ ((x == 45) = false ∧ decide ((48 : Int) ≤ x) = true ∧ decide (x ≤ (57 : Int)) = true) := by
  rcases h with h | h
  · exact .inl (by simpa using h)
  · unfold M.isD at h
    simp only [decide_eq_true_eq] at h
    exact .inr ⟨by simp; omega, by simp; omega, by simp; omega⟩
set_option maxRecDepth 100000 in
set_option maxHeartbeats 4000000 in
theorem get_number (s : ByteArray) (p : Nat) (d : Int) (hsm : s.size ≤ 1000000) (hp : p < s.size) (hx : (strB s)[p]?.getD 0 = 45 ∨ M.isD ((strB s)[p]?.getD 0) = true) (w : World) : Calls Try.prog 19 #[.string s, .int .i64 (p : Int), .int .i64 d] w (ScR (gT (if (M.scan (strB s) p).2.2 = 0 then .inr (.mk 2 (M.scan (strB s) p).1 ⟨#[]⟩ [], (M.scan (strB s) p).2.1.toNat) else .inl (p, (M.scan (strB s) p).2.2))) w) := by
  obtain ⟨hB, hz1, hz2, hs⟩ := get_vars w
  obtain ⟨⟨y0, y1, y2, y3⟩, x0, x1, x2, x3⟩ := box4 hz1
  obtain ⟨⟨n0, n1, n2, n3⟩, _⟩ := box4 hz2
  have hS := fun w => refScan_any s (p : Int) w (by unfold maxLen; omega) (by omega) (by omega)
  have hIn := fun n w => int_any n w
  have hpl := Vt.scan_place (strB s) p (by rw [strB_len]; exact hp)
  have hwr := scan_wrong (strB s) p
  have hI := scan_num (strB s) p
  rw [strB_len] at hpl
  obtain ⟨⟨m, x, e⟩, hT⟩ : ∃ T, M.scan (strB s) p = T := ⟨_, rfl⟩
  simp only [hT] at hS hpl hwr hI ⊢
  obtain ⟨R, hR⟩ : ∃ R : Vt.Out (PV × Nat), (if e = 0 then .inr (.mk 2 m ⟨#[]⟩ [], x.toNat) else .inl (p, e)) = R := ⟨_, rfl⟩
  rw [hR]
  rw [strB_at s p hp] at hx
  have d0 : ((p : Int) == (s.size : Int)) = false := by simp; omega
  have d1 : ((s[p].toNat : Int) == 39) = false := by
    rw [beq_eq_false_iff_ne]
    intro h
    rcases hx with h1 | h1
    · omega
    · unfold M.isD at h1; simp only [decide_eq_true_eq] at h1; omega
  have hcs := digit_cases _ hx
  clear hx hT
  by_cases h : e = 0
  · rw [if_pos h] at hR
    obtain ⟨q1, q2, q3⟩ := hpl h
    have hne : (e != 0) = false := by simpa using h
    obtain ⟨q, rfl⟩ : ∃ q : Nat, x = q := ⟨x.toNat, q3.symm⟩
    rw [Int.toNat_natCast] at hR
    subst hR
    have HE := Lib.hid h; clear h hpl hwr q3
    rcases hcs with e1 | ⟨e1, e2, e3⟩
    all_goals
      go_enter Try.func19, Try.ntmps19
      go_wp2_with (first
        | (go_at_call 34; (with_reducible refine (hS _).mono ?_); rintro e w' ⟨rfl, rfl⟩)
        | (go_at_call 35; (with_reducible refine (hIn _ _).mono ?_); rintro e w3 ⟨rfl, hB3⟩; have hz3 := vat_below hB3 hz1; obtain ⟨⟨y0', y1', y2', y3'⟩, x0', x1', x2', x3'⟩ := box4 hz3))
      refine bodyPost_ret (vresults_row_tmp2 Try.results19 _ _ w.heap.size 25 _ _ _ rfl (vat_set4 hz3 _ _ _ _) Try.underlying25 rfl val4) rfl ?_
      exact get_end14 (hB.trans (hB3.mono hB.size)) (fresh_flat _ _ 2 m ⟨#[]⟩ ⟨by omega, by omega⟩ hI (by unfold maxLen; decide))
  · rw [if_neg h] at hR
    have hne : (e != 0) = true := by simpa using h
    obtain rfl : x = p := hwr h
    subst hR
    have HE := Lib.hid h; clear h hpl hwr
    rcases hcs with e1 | ⟨e1, e2, e3⟩
    all_goals
      go_enter Try.func19, Try.ntmps19
      go_wp2_with (go_at_call 34; (with_reducible refine (hS _).mono ?_); rintro e w' ⟨rfl, rfl⟩)
      refine bodyPost_ret (vresults_row_tmp2 Try.results19 _ _ w.heap.size 25 _ _ _ rfl hz1 Try.underlying25 rfl val4) rfl ?_
      exact get_none14 hB
theorem vat_two14 (w : World) (cs cs' : Array Value) : VAt ((w.alloc (.cells cs 25)).alloc (.cells cs' 25)) w.heap.size cs ∧ Below w.heap.size w ((w.alloc (.cells cs 25)).alloc (.cells cs' 25)) := by
  have hA1 := (Below.refl _ w).alloc (Nat.le_refl _) (.cells cs 25)
  exact ⟨vat_below ((Below.refl _ _).alloc (Nat.le_refl _) _) (vat_alloc w cs), hA1.alloc hA1.size _⟩
/-- what is no beginning of a name, a number, a text or a list -/
def Other (x : Int) : Prop := x ≠ 39 ∧ x ≠ 45 ∧ x ≠ 34 ∧ x ≠ 91 ∧ M.isD x = false
theorem digit_not (x : Int) (h : M.isD x = false) : (decide ((48 : Int) ≤ x) = false) ∨ (decide ((48 : Int) ≤ x) = true ∧ decide (x ≤ (57 : Int)) = false) := by
  unfold M.isD at h
  simp only [decide_eq_false_iff_not] at h
  by_cases h1 : (48 : Int) ≤ x
  · exact .inr ⟨by simpa using h1, by simp; omega⟩
  · exact .inl (by simpa using h1)
set_option maxRecDepth 100000 in
set_option maxHeartbeats 4000000 in
theorem get_word (s : ByteArray) (p : Nat) (d : Int) (hsm : s.size ≤ 1000000) (hp : p < s.size) (hx : Other ((strB s)[p]?.getD 0)) (w : World) : Calls Try.prog 19 #[.string s, .int .i64 (p : Int), .int .i64 d] w (ScR (gT (Vt.wdV (Vt.word (Vt.part (strB s) p (Vt.runTo letterB (strB s) p))) p (Vt.runTo letterB (strB s) p))) w) := by
  obtain ⟨hB, hz1, hz2, hs⟩ := get_vars w
  obtain ⟨⟨y0, y1, y2, y3⟩, x0, x1, x2, x3⟩ := box4 hz1
  obtain ⟨⟨n0, n1, n2, n3⟩, _⟩ := box4 hz2
  have hL := fun w => refLetters_any s p w hsm (by omega)
  have hrl := Vt.runTo_le letterB (strB s) p (by rw [strB_len]; omega)
  rw [strB_len] at hrl
  obtain ⟨r, hr⟩ : ∃ r, Vt.runTo letterB (strB s) p = r := ⟨_, rfl⟩
  rw [hr] at hL hrl ⊢
  clear hr
  rw [← part_sub]
  obtain ⟨t, ht⟩ : ∃ t, s.extract p r = t := ⟨_, rfl⟩
  have z1 : (s.extract p r).toList = [110, 117, 108, 108] ↔ strB (s.extract p r) = [110, 117, 108, 108] := toList_lit _ [110, 117, 108, 108] [110, 117, 108, 108] rfl (by decide)
  have z2 : (s.extract p r).toList = [102, 97, 108, 115, 101] ↔ strB (s.extract p r) = [102, 97, 108, 115, 101] := toList_lit _ [102, 97, 108, 115, 101] [102, 97, 108, 115, 101] rfl (by decide)
  have z3 : (s.extract p r).toList = [116, 114, 117, 101] ↔ strB (s.extract p r) = [116, 114, 117, 101] := toList_lit _ [116, 114, 117, 101] [116, 114, 117, 101] rfl (by decide)
  clear ht
  rw [strB_at s p hp] at hx
  obtain ⟨k1, k2, k3, k4, k5⟩ := hx
  have d0 : ((p : Int) == (s.size : Int)) = false := by simp; omega
  have d1 : ((s[p].toNat : Int) == 39) = false := by simpa using k1
  have d2 : ((s[p].toNat : Int) == 45) = false := by simpa using k2
  have d3 : ((s[p].toNat : Int) == 34) = false := by simpa using k3
  have d4 : ((s[p].toNat : Int) == 91) = false := by simpa using k4
  have hcs := digit_not _ k5
  clear k1 k2 k3 k4 k5
  obtain ⟨R, hR⟩ : ∃ R, Vt.wdV (Vt.word (strB (s.extract p r))) p r = R := ⟨_, rfl⟩
  rw [hR]
  have hcase : ((s.extract p r).toList = [110, 117, 108, 108] ∧ R = .inr (.mk 0 0 ⟨#[]⟩ [], r)) ∨ (((s.extract p r).toList == [110, 117, 108, 108]) = false ∧ ((s.extract p r).toList == [116, 114, 117, 101]) = false ∧ (s.extract p r).toList = [102, 97, 108, 115, 101] ∧ R = .inr (.mk 1 0 ⟨#[]⟩ [], r)) ∨
      (((s.extract p r).toList == [110, 117, 108, 108]) = false ∧ (s.extract p r).toList = [116, 114, 117, 101] ∧ R = .inr (.mk 1 1 ⟨#[]⟩ [], r)) ∨ (((s.extract p r).toList == [110, 117, 108, 108]) = false ∧ ((s.extract p r).toList == [116, 114, 117, 101]) = false ∧ ((s.extract p r).toList == [102, 97, 108, 115, 101]) = false ∧ R = .inl (p, 2)) := by
    rw [← hR]
    refine word_if (strB (s.extract p r)) (fun W => ((s.extract p r).toList = [110, 117, 108, 108] ∧ Vt.wdV W p r = .inr (.mk 0 0 ⟨#[]⟩ [], r)) ∨ (((s.extract p r).toList == [110, 117, 108, 108]) = false ∧ ((s.extract p r).toList == [116, 114, 117, 101]) = false ∧ (s.extract p r).toList = [102, 97, 108, 115, 101] ∧ Vt.wdV W p r = .inr (.mk 1 0 ⟨#[]⟩ [], r)) ∨
      (((s.extract p r).toList == [110, 117, 108, 108]) = false ∧ (s.extract p r).toList = [116, 114, 117, 101] ∧ Vt.wdV W p r = .inr (.mk 1 1 ⟨#[]⟩ [], r)) ∨ (((s.extract p r).toList == [110, 117, 108, 108]) = false ∧ ((s.extract p r).toList == [116, 114, 117, 101]) = false ∧ ((s.extract p r).toList == [102, 97, 108, 115, 101]) = false ∧ Vt.wdV W p r = .inl (p, 2))) ?_ ?_ ?_ ?_
    · intro h; exact .inl ⟨z1.2 h, rfl⟩
    · intro h1 h; exact .inr (.inl ⟨beq_eq_false_iff_ne.2 fun h => h1 (z1.1 h), beq_eq_false_iff_ne.2 fun k => (by rw [z3.1 k] at h; cases h), z2.2 h, rfl⟩)
    · intro h1 h2 h; exact .inr (.inr (.inl ⟨beq_eq_false_iff_ne.2 fun h => h1 (z1.1 h), z3.2 h, rfl⟩))
    · intro h1 h2 h3; exact .inr (.inr (.inr ⟨beq_eq_false_iff_ne.2 fun h => h1 (z1.1 h), beq_eq_false_iff_ne.2 fun h => h3 (z3.1 h), beq_eq_false_iff_ne.2 fun h => h2 (z2.1 h), rfl⟩))
  clear hR z1 z2 z3
  rcases hcase with ⟨t1, rfl⟩ | ⟨t1, t2, t3, rfl⟩ | ⟨t1, t2, rfl⟩ | ⟨t1, t2, t3, rfl⟩
  · rcases hcs with e1 | ⟨e1, e2⟩
    all_goals
      go_enter Try.func19, Try.ntmps19
      go_wp2_with (go_at_call 31; (with_reducible refine (hL _).mono ?_); rintro e w' ⟨rfl, rfl⟩)
      refine bodyPost_ret (vresults_row_tmp2 Try.results19 _ _ w.heap.size 25 _ _ _ rfl hz1 Try.underlying25 rfl val4) rfl ?_
      exact get_none14 hB
  · rcases hcs with e1 | ⟨e1, e2⟩
    all_goals
      go_enter Try.func19, Try.ntmps19
      go_wp2_with (go_at_call 31; (with_reducible refine (hL _).mono ?_); rintro e w' ⟨rfl, rfl⟩)
      refine bodyPost_ret (vresults_row_tmp2 Try.results19 _ _ w.heap.size 25 _ _ _ rfl (vat_two14 w #[.int .i64 1, .int .i64 0, .string ⟨#[]⟩, .slice none 0 0] vzero).1 Try.underlying25 rfl val4) rfl ?_
      exact ⟨1, 0, ⟨#[]⟩, none, 0, 0, rfl, fresh_flat _ _ 1 0 ⟨#[]⟩ ⟨by omega, by omega⟩ ⟨by omega, by omega⟩ (by unfold maxLen; decide), (vat_two14 w _ _).2⟩
  · rcases hcs with e1 | ⟨e1, e2⟩
    all_goals
      go_enter Try.func19, Try.ntmps19
      go_wp2_with (go_at_call 31; (with_reducible refine (hL _).mono ?_); rintro e w' ⟨rfl, rfl⟩)
      refine bodyPost_ret (vresults_row_tmp2 Try.results19 _ _ w.heap.size 25 _ _ _ rfl (vat_two14 w #[.int .i64 1, .int .i64 1, .string ⟨#[]⟩, .slice none 0 0] vzero).1 Try.underlying25 rfl val4) rfl ?_
      exact ⟨1, 1, ⟨#[]⟩, none, 0, 0, rfl, fresh_flat _ _ 1 1 ⟨#[]⟩ ⟨by omega, by omega⟩ ⟨by omega, by omega⟩ (by unfold maxLen; decide), (vat_two14 w _ _).2⟩
  · rcases hcs with e1 | ⟨e1, e2⟩
    all_goals
      go_enter Try.func19, Try.ntmps19
      go_wp2_with (go_at_call 31; (with_reducible refine (hL _).mono ?_); rintro e w' ⟨rfl, rfl⟩)
      refine bodyPost_ret (vresults_row_tmp2 Try.results19 _ _ w.heap.size 25 _ _ _ rfl hz1 Try.underlying25 rfl val4) rfl ?_
      exact get_none14 hB
end Go.Proofs.Ytfapoicnkdallaa
