/- The document's Right: Valid, IsName, each, Nodes. -/
import Derived.Test.YtfapoicnkdallaaMh11Vtex
import Derived.Test.YtfapoicnkdallaaMh4Vtex
import Derived.Test.YtfapoicnkdallaaMh38Vtex
import Derived.Deep.RegionHeld3
import Derived.Deep.DeepCutAuto
import Derived.Test.YtfapoicnkdallaaMh18Vtex
namespace Go.Proofs.Ytfapoicnkdallaa
open Go.RowKit Go.Shelf
attribute [local go_sem] Oper.semAt_some
set_option maxHeartbeats 1000000 in
theorem refValid_any (s : ByteArray) (w : World) (hs : s.size ≤ 1099511627776) : Calls Try.prog 56 #[.string s] w fun e w' => e = .returned (.bool (U.validS s)) ∧ Below w.heap.size w w' := by
  have hC := refCodes_any s w hs
  have hd : U.validS s = decide (U.lastEnd (U.cds s.size (strB s) 0) = s.size) := rfl
  rw [hd]
  unfold Cds at hC
  generalize U.lastEnd (U.cds s.size (strB s) 0) = m at *
  generalize U.cds s.size (strB s) 0 = cs at *
  clear hd
  have hsz : s.size ≤ maxLen := by unfold maxLen; omega
  unfold maxLen at hsz
  go_enter Try.func56, Try.ntmps56
  go_wp2_with (first | (go_at_call 71; (with_reducible refine hC.mono ?_); rintro e w1 ⟨v, rfl, _, hb⟩))
  go_ret
  exact ⟨ret_bool (by rw [Bool.eq_iff_iff]; simp; omega), hb⟩
/-- is a name right from a place on? -/
def nmF (l : List Int) (q : Nat) : Bool := (if q = 0 then letterB (l[0]?.getD 0) else true) && (l.drop q).all withinB
theorem nmF_step (l : List Int) (q : Nat) (h : q < l.length) : nmF l q = ((if q = 0 then letterB (l[q]?.getD 0) else withinB (l[q]?.getD 0)) && nmF l (q + 1)) := by
  unfold nmF
  rw [if_neg (show ¬ q + 1 = 0 by omega), Bool.true_and, List.drop_eq_getElem_cons h, List.all_cons, List.getElem?_eq_getElem h]
  by_cases h0 : q = 0
  · subst h0
    simp only [if_true]
    rw [List.getElem?_eq_getElem h]
    simp only [Option.getD_some]
    cases hl : letterB l[0] with
    | false => simp
    | true => simp [withinB, hl]
  · simp only [if_neg h0]
    rfl
theorem ok_iff (q : Nat) (x : Int) : (if q = 0 then letterB x else withinB x) = true ↔ (q = 0 ∧ ((65 ≤ x ∧ x ≤ 90) ∨ (97 ≤ x ∧ x ≤ 122))) ∨ (q ≠ 0 ∧ (((65 ≤ x ∧ x ≤ 90) ∨ (97 ≤ x ∧ x ≤ 122)) ∨ (48 ≤ x ∧ x ≤ 57) ∨ x = 95 ∨ x = 45)) := by
  by_cases h : q = 0
  · simp [h, letterB]
  · simp [h, letterB, withinB, or_assoc]
theorem name_ret {q : Nat} {x : Int} {b r : Bool} (h : r = ((if q = 0 then letterB x else withinB x) && b)) (hn : ¬ ((q = 0 ∧ ((65 ≤ x ∧ x ≤ 90) ∨ (97 ≤ x ∧ x ≤ 122))) ∨ (q ≠ 0 ∧ (((65 ≤ x ∧ x ≤ 90) ∨ (97 ≤ x ∧ x ≤ 122)) ∨ (48 ≤ x ∧ x ≤ 57) ∨ x = 95 ∨ x = 45)))) : r = false := by
  have : (if q = 0 then letterB x else withinB x) = false := by rw [Bool.eq_false_iff]; exact fun h => hn ((ok_iff q x).1 h)
  rw [h, this, Bool.false_and]
theorem name_on {q : Nat} {x : Int} {b r : Bool} (h : r = ((if q = 0 then letterB x else withinB x) && b)) (hn : (q = 0 ∧ ((65 ≤ x ∧ x ≤ 90) ∨ (97 ≤ x ∧ x ≤ 122))) ∨ (q ≠ 0 ∧ (((65 ≤ x ∧ x ≤ 90) ∨ (97 ≤ x ∧ x ≤ 122)) ∨ (48 ≤ x ∧ x ≤ 57) ∨ x = 95 ∨ x = 45))) : b = r := by
  rw [h, (ok_iff q x).2 hn, Bool.true_and]
set_option maxRecDepth 100000 in
set_option maxHeartbeats 4000000 in
theorem refIsName_any (s : ByteArray) (w : World) (hs : s.size ≤ maxLen) : Calls Try.prog 32 #[.string s] w fun e w' => e = .returned (.bool (nameB (strB s))) ∧ w = w' := by
  unfold maxLen at hs
  have hl := strB_len s
  obtain ⟨r, hr⟩ : ∃ r, nameB (strB s) = r := ⟨_, rfl⟩
  rw [hr]
  by_cases h0 : s.size < 1
  · have d0 : decide ((s.size : Int) < 1) = true := by simp; omega
    obtain rfl : r = false := by
      rw [← hr]; unfold nameB
      have : strB s = [] := List.length_eq_zero_iff.1 (by omega)
      rw [this]; rfl
    clear hr
    go_enter Try.func32, Try.ntmps32
    go_wp2
    go_ret
    exact ⟨rfl, rfl⟩
  have d0 : decide ((s.size : Int) < 1) = false := by simp; omega
  by_cases h40 : 40 < s.size
  · have d1 : decide ((40 : Int) < (s.size : Int)) = true := by simp; omega
    obtain rfl : r = false := by
      rw [← hr]; unfold nameB
      have : decide ((strB s).length ≤ 40) = false := by simp; omega
      rw [this]; simp
    clear hr
    go_enter Try.func32, Try.ntmps32
    go_wp2
    go_ret
    exact ⟨rfl, rfl⟩
  have d1 : decide ((40 : Int) < (s.size : Int)) = false := by simp; omega
  have hnm : nmF (strB s) 0 = r := by
    rw [← hr, nameB_cons _ (fun e => by rw [e] at hl; simp at hl; omega)]
    have : decide ((strB s).length ≤ 40) = true := by simp; omega
    rw [this, Bool.true_and]
    simp [nmF]
  have HN := Lib.hid hnm
  have HL := Lib.hid hl
  clear hr hnm hl
  go_enter Try.func32, Try.ntmps32
  go_wp2
  go_loop [3, 4, 5] (fun i _ _ => ∃ q : Nat, q ≤ s.size ∧ i = .int .i64 q ∧ Hid (nmF (strB s) q = r)) (fun i _ _ => s.size - (intOf i).toNat)
  case atStart => exact ⟨0, Nat.zero_le _, rfl, HN.out⟩
  case round =>
    obtain ⟨q, hq, rfl, HQ⟩ := hrel
    by_cases hqs : q < s.size
    · have hdq : decide (q < s.size) = true := by simpa using hqs
      have hst := nmF_step (strB s) q (by rw [HL.out]; exact hqs)
      rw [HQ.out, strB_at s q hqs] at hst
      have hbd := u8_bd s[q]
      have HST := Lib.hid hst
      clear hst
      go_upto_region 7 with fail
      generalize ((s[q].toNat : Nat) : Int) = x at *
      go_wp2_with fail
      all_goals (try simp only [Bool.not_eq_eq_eq_not, Bool.not_true, Bool.not_false, decide_eq_false_iff_not, decide_eq_true_eq, beq_iff_eq, beq_eq_false_iff_ne, ne_eq] at *)
      all_goals (first
        | (have hrf : r = false := name_ret HST.out (by omega)
           subst hrf
           go_ret
           exact ⟨rfl, rfl⟩)
        | (have hb := name_on HST.out (by omega)
           refine ⟨⟨q + 1, by omega, by go_num, Lib.hid hb⟩, ?_⟩
           simp [intOf]; omega)
        | (have hb := name_on HST.out (by omega)
           refine ⟨⟨q + 1, by omega, by simp; omega, Lib.hid hb⟩, ?_⟩
           simp; omega)
        | (exfalso
           have h57 : x ≤ 57 := by omega
           simp_all))
    · obtain rfl : q = s.size := by omega
      have hdq : decide (s.size < s.size) = false := by simp
      have hr : r = true := by
        rw [← HQ.out]; unfold nmF
        rw [if_neg (by omega), List.drop_of_length_le (by rw [HL.out]; exact Nat.le_refl _)]; rfl
      subst hr
      go_wp2
      go_ret
      exact ⟨rfl, rfl⟩
end Go.Proofs.Ytfapoicnkdallaa

/- Package bin: list; node of every depth. -/
namespace Go.Proofs.Ytfapoicnkdallaa
open Go.RowKit Go.Shelf
attribute [local go_sem] Oper.semAt_some
theorem is_form {w : World} {v : PV} {x : Value} (h : Is w v x) : ∃ (k n : Int) (s : ByteArray) (a : Option Addr) (len cap : Nat), x = .agg #[.int .i64 k, .int .i64 n, .string s, .slice a len cap] := by
  cases v with
  | mk k n s l =>
  unfold Is at h
  obtain ⟨_, _, _, a, cap, e, _⟩ := h
  exact ⟨_, _, _, _, _, _, e⟩
end Go.Proofs.Ytfapoicnkdallaa
