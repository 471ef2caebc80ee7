/- Layer 14, the document: get, of names and numbers. -/
import Derived.Test.YtfapoicnkdallaaMh32Vtex
import Derived.Test.YtfapoicnkdallaaMh34Vtex
import Derived.Test.YtfapoicnkdallaaMh41Vtex
set_option linter.unusedVariables false
set_option linter.unusedSimpArgs false
namespace Go.Proofs.Ytfapoicnkdallaa
open Go.RowKit Go.Shelf
/-- get's answer -/
def gT (R : Vt.Out (PV × Nat)) : PV × Int × Int := match R with | .inl (a, e) => (.mk 0 0 ⟨#[]⟩ [], a, e) | .inr (v, q) => (v, q, 0)
/-- the result's variable and none's -/
theorem get_vars (w : World) : Below w.heap.size w ((w.alloc (.cells vzero 25)).alloc (.cells vzero 25)) ∧ VAt ((w.alloc (.cells vzero 25)).alloc (.cells vzero 25)) w.heap.size vzero ∧ VAt ((w.alloc (.cells vzero 25)).alloc (.cells vzero 25)) (w.heap.size + 1) vzero ∧ ((w.alloc (.cells vzero 25)).alloc (.cells vzero 25)).heap.size = w.heap.size + 2 := by
  have hA1 := (Below.refl _ w).alloc (Nat.le_refl _) (.cells vzero 25)
  have hA2 := hA1.alloc hA1.size (.cells vzero 25)
  have h := vat_alloc (w.alloc (.cells vzero 25)) vzero
  rw [World.size_alloc] at h
  exact ⟨hA2, vat_below ((Below.refl _ _).alloc (Nat.le_refl _) _) (vat_alloc w vzero), h, by rw [World.size_alloc, World.size_alloc]⟩
/-- .. the end of a way: the result's variable is set -/
theorem get_end14 {w W : World} {v : PV} {x er : Int} {d0 d1 : Int} {d2 : ByteArray} {a : Option Addr} {len cap : Nat} (hB : Below w.heap.size w W) (hF : Fresh (w.heap.size + 1) W v (.agg #[.int .i64 d0, .int .i64 d1, .string d2, .slice a len cap])) :
    ScR (v, x, er) w (.returned (.tuple #[.agg #[.int .i64 d0, .int .i64 d1, .string d2, .slice a len cap], .int .i64 x, .int .i64 er])) ((((W.setCell ⟨w.heap.size, 0, none⟩ (.int .i64 d0)).setCell ⟨w.heap.size, 1, none⟩ (.int .i64 d1)).setCell ⟨w.heap.size, 2, none⟩ (.string d2)).setCell ⟨w.heap.size, 3, none⟩ (.slice a len cap)) :=
  ⟨d0, d1, d2, a, len, cap, rfl, fresh_mono (fresh_later hF (by simp) (fun b b1 _ => heapT_set4 _ _ _ _ _ _ b (by omega))) (Nat.le_succ _), below_set4 hB (Nat.le_refl _) 0 1 2 3 _ _ _ _⟩
theorem get_none14 {w W : World} {x er : Int} (hB : Below w.heap.size w W) : ScR (.mk 0 0 ⟨#[]⟩ [], x, er) w (.returned (.tuple #[.agg vzero, .int .i64 x, .int .i64 er])) W := ⟨0, 0, ⟨#[]⟩, none, 0, 0, rfl, fresh_none _ _, hB⟩
set_option maxRecDepth 100000 in
set_option maxHeartbeats 2000000 in
theorem get_over (s : ByteArray) (d : Int) (w : World) : Calls Try.prog 19 #[.string s, .int .i64 (s.size : Int), .int .i64 d] w (ScR (gT (.inl (s.size, 2))) w) := by
  obtain ⟨hB, hz1, hz2, hs⟩ := get_vars w
  obtain ⟨⟨y0, y1, y2, y3⟩, x0, x1, x2, x3⟩ := box4 hz1
  obtain ⟨⟨n0, n1, n2, n3⟩, _⟩ := box4 hz2
  have d1 : ((s.size : Int) == (s.size : Int)) = true := by simp
  go_enter Try.func19, Try.ntmps19
  go_wp2
  refine bodyPost_ret (vresults_row_tmp2 Try.results19 _ _ w.heap.size 25 _ _ _ rfl hz1 Try.underlying25 rfl val4) rfl ?_
  exact get_none14 hB
theorem one_letter (s : ByteArray) (q : Nat) (hq : q < s.size) : Vt.runTo letterB (strB (s.extract q (q + 1))) 0 = if letterB ((strB s)[q]?.getD 0) then 1 else 0 := by
  have e : strB (s.extract q (q + 1)) = [(strB s)[q]?.getD 0] := by
    rw [strB_sub, take_succ_getD _ _ (by rw [strB_len]; exact hq), List.drop_append_of_le_length (by rw [List.length_take, strB_len]; omega)]
    simp
  rw [e]
  unfold Vt.runTo
  simp only [List.drop_zero, List.takeWhile_cons, List.takeWhile_nil]
  split <;> simp
theorem within_cases (x : Int) : (withinB x = true ∧ letterB x = true) ∨ (withinB x = true ∧ letterB x = false ∧ decide ((48 : Int) ≤ x) = true ∧ decide (x ≤ (57 : Int)) = true) ∨ (withinB x = true ∧ letterB x = false ∧ decide ((48 : Int) ≤ x) = true ∧ decide (x ≤ (57 : Int)) = false ∧ (x == 95) = true) ∨
    (withinB x = true ∧ letterB x = false ∧ decide ((48 : Int) ≤ x) = false ∧ (x == 95) = false ∧ (x == 45) = true) ∨ (withinB x = false ∧ letterB x = false ∧ decide ((48 : Int) ≤ x) = false ∧ (x == 95) = false ∧ (x == 45) = false) ∨ (withinB x = false ∧ letterB x = false ∧ decide ((48 : Int) ≤ x) = true ∧ decide (x ≤ (57 : Int)) = false ∧ (x == 95) = false ∧ (x == 45) = false) := by
  unfold withinB
  cases h : letterB x
  · simp only [Bool.false_or, Bool.or_eq_true, Bool.and_eq_true, decide_eq_true_eq, Bool.or_eq_false_iff, Bool.and_eq_false_iff, decide_eq_false_iff_not, beq_iff_eq, beq_eq_false_iff_ne]
    unfold letterB at h
    simp only [Bool.or_eq_false_iff, Bool.and_eq_false_iff, decide_eq_false_iff_not] at h
    simp only [Bool.false_eq_true, and_false, true_and, false_or, ne_eq]
    omega
  · simp
set_option maxRecDepth 100000 in
set_option maxHeartbeats 4000000 in
theorem get_name (s : ByteArray) (p : Nat) (d : Int) (hsm : s.size ≤ 1000000) (hp : p < s.size) (hx : (strB s)[p]?.getD 0 = 39) (w : World) : Calls Try.prog 19 #[.string s, .int .i64 (p : Int), .int .i64 d] w (ScR (gT (if nameB (Vt.part (strB s) (p + 1) (Vt.runTo withinB (strB s) (p + 1))) then .inr (.mk 3 0 (strOfNums (Vt.part (strB s) (p + 1) (Vt.runTo withinB (strB s) (p + 1)))) [], Vt.runTo withinB (strB s) (p + 1)) else .inl (p + 1, 2))) w) := by
  obtain ⟨hB, hz1, hz2, hs⟩ := get_vars w
  obtain ⟨⟨y0, y1, y2, y3⟩, x0, x1, x2, x3⟩ := box4 hz1
  obtain ⟨⟨n0, n1, n2, n3⟩, _⟩ := box4 hz2
  have hrl := Vt.runTo_le withinB (strB s) (p + 1) (by rw [strB_len]; omega)
  rw [strB_len] at hrl
  obtain ⟨r, hr⟩ : ∃ r, Vt.runTo withinB (strB s) (p + 1) = r := ⟨_, rfl⟩
  rw [hr] at hrl ⊢
  rw [part_nums, ← part_sub]
  have HR := Lib.hid hr; clear hr
  obtain ⟨g, hg⟩ : ∃ g, nameB (strB (s.extract (p + 1) r)) = g := ⟨_, rfl⟩
  obtain ⟨R, hR⟩ : ∃ R : Vt.Out (PV × Nat), (if g = true then .inr (.mk 3 0 (s.extract (p + 1) r) [], r) else .inl (p + 1, 2)) = R := ⟨_, rfl⟩
  rw [hg, hR]
  have HRR := Lib.hid hR; clear hR
  have hN := fun w => refIsName_any (s.extract (p + 1) r) w (by simp; unfold maxLen; omega)
  rw [hg] at hN
  clear hg
  have hS := fun w => symbol_any (s.extract (p + 1) r) w
  have hxs : (s.extract (p + 1) r).size ≤ maxLen := by simp; unfold maxLen; omega
  have hL : ∀ (q : Nat), q < s.size → ∀ w, Calls Try.prog 31 #[.string (s.extract q (q + 1)), .int .i64 0] w fun e w' => e = .returned (.int .i64 ((if letterB ((strB s)[q]?.getD 0) then 1 else 0 : Nat) : Int)) ∧ w = w' := fun q hq w => by
    have h := refLetters_any (s.extract q (q + 1)) 0 w (by simp; omega) (Nat.zero_le _)
    rw [one_letter s q hq] at h
    exact h
  rw [strB_at s p hp] at hx
  have d0 : ((p : Int) == (s.size : Int)) = false := by simp; omega
  have d1 : ((s[p].toNat : Int) == 39) = true := by simpa using hx
  have HX := Lib.hid hx; clear hx
  go_enter Try.func19, Try.ntmps19
  go_wp2
  go_loop [10] (fun i => ∃ q : Nat, p + 1 ≤ q ∧ q ≤ s.size ∧ i = .int .i64 q ∧ Hid (Vt.runTo withinB (strB s) q = r)) (fun i => s.size - (intOf i).toNat)
  case atStart => exact ⟨p + 1, Nat.le_refl _, by omega, by go_num, HR⟩
  case round =>
    obtain ⟨q, hpq, hq, rfl, HQ⟩ := hrel
    rcases Nat.lt_or_ge q s.size with hlt | hge
    · have hLq := hL q hlt
      have hx := strB_at s q hlt
      have hd : decide (q < s.size) = true := by simpa using hlt
      have hst := Vt.runTo_step withinB (strB s) q (by rw [strB_len]; exact hlt)
      have hsp := Vt.runTo_stop withinB (strB s) q
      rw [hx] at hst hsp hLq
      rw [HQ.out] at hst hsp
      have GO : withinB (s[q].toNat : Int) = true → Vt.runTo withinB (strB s) (q + 1) = r := fun h => (hst h).symm
      have STOP : withinB (s[q].toNat : Int) = false → r = q := fun h => hsp (fun _ => h)
      rcases within_cases (s[q].toNat : Int) with ⟨h, e1⟩ | ⟨h, e1, e2, e3⟩ | ⟨h, e1, e2, e3, e4⟩ | ⟨h, e1, e2, e3, e4⟩ | ⟨h, e1, e2, e3, e4⟩ | ⟨h, e1, e2, e3, e4, e5⟩
      · have HS := Lib.hid (GO h); clear GO STOP hst hsp h hx hL
        simp only [e1] at hLq
        go_wp2_with (go_at_call 31; (with_reducible refine (hLq _).mono ?_); rintro e w' ⟨rfl, rfl⟩)
        exact ⟨⟨q + 1, by omega, by omega, by go_num, HS⟩, by simp [intOf]; omega⟩
      · have HS := Lib.hid (GO h); clear GO STOP hst hsp h hx hL
        simp only [e1] at hLq
        go_wp2_with (go_at_call 31; (with_reducible refine (hLq _).mono ?_); rintro e w' ⟨rfl, rfl⟩)
        exact ⟨⟨q + 1, by omega, by omega, by go_num, HS⟩, by simp [intOf]; omega⟩
      · have HS := Lib.hid (GO h); clear GO STOP hst hsp h hx hL
        simp only [e1] at hLq
        go_wp2_with (go_at_call 31; (with_reducible refine (hLq _).mono ?_); rintro e w' ⟨rfl, rfl⟩)
        exact ⟨⟨q + 1, by omega, by omega, by go_num, HS⟩, by simp [intOf]; omega⟩
      · have HS := Lib.hid (GO h); clear GO STOP hst hsp h hx hL
        simp only [e1] at hLq
        go_wp2_with (go_at_call 31; (with_reducible refine (hLq _).mono ?_); rintro e w' ⟨rfl, rfl⟩)
        exact ⟨⟨q + 1, by omega, by omega, by go_num, HS⟩, by simp [intOf]; omega⟩
      · have hq9 := STOP h; clear GO STOP hst hsp h hx hL
        simp only [e1] at hLq
        subst hq9
        cases g with
        | true =>
          have e := HRR.out
          simp only [if_true] at e
          subst e
          go_wp2_with (first | (go_at_call 31; (with_reducible refine (hLq _).mono ?_); rintro e w' ⟨rfl, rfl⟩) | (go_at_call 32; (with_reducible refine (hN _).mono ?_); rintro e w' ⟨rfl, rfl⟩) | (go_at_call 33; (with_reducible refine (hS _).mono ?_); rintro e w3 ⟨rfl, hB3⟩; have hz3 := vat_below hB3 hz1; obtain ⟨⟨y0', y1', y2', y3'⟩, x0', x1', x2', x3'⟩ := box4 hz3))
          refine bodyPost_ret (vresults_row_tmp2 Try.results19 _ _ w.heap.size 25 _ _ _ rfl (vat_set4 hz3 _ _ _ _) Try.underlying25 rfl val4) rfl ?_
          exact get_end14 (hB.trans (hB3.mono hB.size)) (fresh_flat _ _ 3 0 _ ⟨by omega, by omega⟩ ⟨by omega, by omega⟩ hxs)
        | false =>
          have e := HRR.out
          simp only [Bool.false_eq_true, if_false] at e
          subst e
          go_wp2_with (first | (go_at_call 31; (with_reducible refine (hLq _).mono ?_); rintro e w' ⟨rfl, rfl⟩) | (go_at_call 32; (with_reducible refine (hN _).mono ?_); rintro e w' ⟨rfl, rfl⟩))
          refine bodyPost_ret (vresults_row_tmp2 Try.results19 _ _ w.heap.size 25 _ _ _ rfl hz1 Try.underlying25 rfl val4) rfl ?_
          exact get_none14 hB
      · have hq9 := STOP h; clear GO STOP hst hsp h hx hL
        simp only [e1] at hLq
        subst hq9
        cases g with
        | true =>
          have e := HRR.out
          simp only [if_true] at e
          subst e
          go_wp2_with (first | (go_at_call 31; (with_reducible refine (hLq _).mono ?_); rintro e w' ⟨rfl, rfl⟩) | (go_at_call 32; (with_reducible refine (hN _).mono ?_); rintro e w' ⟨rfl, rfl⟩) | (go_at_call 33; (with_reducible refine (hS _).mono ?_); rintro e w3 ⟨rfl, hB3⟩; have hz3 := vat_below hB3 hz1; obtain ⟨⟨y0', y1', y2', y3'⟩, x0', x1', x2', x3'⟩ := box4 hz3))
          refine bodyPost_ret (vresults_row_tmp2 Try.results19 _ _ w.heap.size 25 _ _ _ rfl (vat_set4 hz3 _ _ _ _) Try.underlying25 rfl val4) rfl ?_
          exact get_end14 (hB.trans (hB3.mono hB.size)) (fresh_flat _ _ 3 0 _ ⟨by omega, by omega⟩ ⟨by omega, by omega⟩ hxs)
        | false =>
          have e := HRR.out
          simp only [Bool.false_eq_true, if_false] at e
          subst e
          go_wp2_with (first | (go_at_call 31; (with_reducible refine (hLq _).mono ?_); rintro e w' ⟨rfl, rfl⟩) | (go_at_call 32; (with_reducible refine (hN _).mono ?_); rintro e w' ⟨rfl, rfl⟩))
          refine bodyPost_ret (vresults_row_tmp2 Try.results19 _ _ w.heap.size 25 _ _ _ rfl hz1 Try.underlying25 rfl val4) rfl ?_
          exact get_none14 hB
    · have hd : decide (q < s.size) = false := by simp; omega
      have hsp := Vt.runTo_stop withinB (strB s) q (fun h => by rw [strB_len] at h; omega)
      rw [HQ.out] at hsp
      clear hL
      subst hsp
      cases g with
      | true =>
        have e := HRR.out
        simp only [if_true] at e
        subst e
        go_wp2_with (first | (go_at_call 32; (with_reducible refine (hN _).mono ?_); rintro e w' ⟨rfl, rfl⟩) | (go_at_call 33; (with_reducible refine (hS _).mono ?_); rintro e w3 ⟨rfl, hB3⟩; have hz3 := vat_below hB3 hz1; obtain ⟨⟨y0', y1', y2', y3'⟩, x0', x1', x2', x3'⟩ := box4 hz3))
        refine bodyPost_ret (vresults_row_tmp2 Try.results19 _ _ w.heap.size 25 _ _ _ rfl (vat_set4 hz3 _ _ _ _) Try.underlying25 rfl val4) rfl ?_
        exact get_end14 (hB.trans (hB3.mono hB.size)) (fresh_flat _ _ 3 0 _ ⟨by omega, by omega⟩ ⟨by omega, by omega⟩ hxs)
      | false =>
        have e := HRR.out
        simp only [Bool.false_eq_true, if_false] at e
        subst e
        go_wp2_with (first | (go_at_call 32; (with_reducible refine (hN _).mono ?_); rintro e w' ⟨rfl, rfl⟩))
        refine bodyPost_ret (vresults_row_tmp2 Try.results19 _ _ w.heap.size 25 _ _ _ rfl hz1 Try.underlying25 rfl val4) rfl ?_
        exact get_none14 hB
end Go.Proofs.Ytfapoicnkdallaa
