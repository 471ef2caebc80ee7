/- Layer 7: piece and text. -/
import Derived.Test.YtiflnciapboccaaDoorTokPieceM
import Derived.Test.YtiflnciapboccaaDoorOwns
namespace Go.Proofs.YtiflnciapboccaaDoor
open Go.RowKit Go.Shelf
theorem mem_bytes' {l : List Int} (h : Bytes l) : ∀ x ∈ l, 0 ≤ x ∧ x ≤ 255 := by
  intro x hx
  obtain ⟨i, hi, rfl⟩ := List.getElem_of_mem hx
  have := h i
  rwa [List.getElem?_eq_getElem hi] at this
theorem ret_si {k : IntKind} {a b : ByteArray} {c d : Int} (h : a = b) (h' : c = d) : Ending.returned (.tuple #[.string a, .int k c]) = .returned (.tuple #[.string b, .int k d]) := by rw [h, h']
set_option maxHeartbeats 2000000 in
theorem piece_any (s : ByteArray) (p : Nat) (w : World) (hsm : s.size ≤ 100000) (hp : p < s.size) (hE : Err w) :
    Calls Tryd.prog 38 #[.string s, .int .i64 p] w fun e w' => e = .returned (.tuple #[.string (strOfNums (K.pc (strB s) p).1), .int .i64 ((K.pc (strB s) p).2 : Nat)]) ∧ Below w.heap.size w w' := by
  obtain ⟨g, hg⟩ : ∃ g, K.pc (strB s) p = g := ⟨_, rfl⟩
  rw [hg]
  unfold K.pc at hg
  have hx := strB_at s p hp
  rw [hx] at hg
  by_cases h92 : (s[p].toNat : Int) = 92
  · rw [if_pos h92] at hg
    have c1 := fun w hE => escape_any s p w hsm (Nat.le_of_lt hp) hE
    rw [hg] at c1
    have d1 : ((s[p].toNat : Int) == 92) = true := by simpa using h92
    clear hg hx
    have H92 := Lib.hid h92; clear h92
    go_enter Tryd.func38, Tryd.ntmps38
    go_wp2_with (first | (go_at_call 47; (with_reducible refine (c1 _ hE).mono ?_); rintro e w1 ⟨rfl, hB1⟩))
    all_goals
      go_ret2
      exact ⟨rfl, hB1⟩
  · rw [if_neg h92] at hg
    have d1 : ((s[p].toNat : Int) == 92) = false := by simpa using h92
    have H92 := Lib.hid h92; clear h92 hx
    rw [K.rowP_eq] at hg
    have hle := K.endP_le (strB s) p (by rw [strB_len]; omega)
    rw [strB_len] at hle
    obtain ⟨r, hr⟩ : ∃ r, K.endP (strB s) p = r := ⟨_, rfl⟩
    rw [hr] at hg hle
    have HR := Lib.hid hr; clear hr
    have hrow : strB (s.extract p r) = K.row (strB s) p r := strB_sub s p r
    have hts : (s.extract p r).size = r - p := by rw [ByteArray.size_extract]; omega
    rw [← hrow] at hg
    have c1 := fun w => valid_any (s.extract p r) w (by unfold maxLen; omega)
    have c2 := fun w => codes_any (s.extract p r) w (by omega)
    have hvl : K.vl (strB (s.extract p r)) ≤ r - p := by
      rw [K.vl_eq]
      have h := K.vl_eq (strB (s.extract p r))
      have : ∀ (R : List Int) f q, q ≤ R.length → K.endC f R q ≤ R.length := by
        intro R f
        induction f with
        | zero => intro q hq; simp [K.endC, U.cds]; exact hq
        | succ f ih =>
          intro q hq
          by_cases hgt : 0 < (getAt R q).2
          · rw [K.endC_step _ _ _ hgt]; exact ih _ (U.getAt_le R q hq).1
          · rw [K.endC_stop _ _ _ hgt]; exact hq
      have := this (strB (s.extract p r)) (strB (s.extract p r)).length 0 (Nat.zero_le _)
      rw [strB_len] at this ⊢
      omega
    have hval : U.validS (s.extract p r) = decide (K.vl (strB (s.extract p r)) = (s.extract p r).size) := by
      unfold U.validS K.vl; rw [strB_len]
    have hlast : U.lastEnd (U.cds (s.extract p r).size (strB (s.extract p r)) 0) = K.vl (strB (s.extract p r)) := by unfold K.vl; rw [strB_len]
    simp only [hval] at c1
    unfold Cds at c2
    simp only [hlast] at c2
    clear hrow hval hlast
    obtain ⟨m, hm⟩ : ∃ m, K.vl (strB (s.extract p r)) = m := ⟨_, rfl⟩
    simp only [hm] at c1 c2 hvl hg
    clear hm
    go_enter Tryd.func38, Tryd.ntmps38
    go_wp2
    go_loop [6] (fun i => ∃ q : Nat, p ≤ q ∧ q ≤ s.size ∧ i = .int .i64 q ∧ K.endP (strB s) q = r) (fun i => s.size - (intOf i).toNat)
    case atStart => exact ⟨p, Nat.le_refl _, Nat.le_of_lt hp, rfl, HR.out⟩
    case round =>
      obtain ⟨q, hpq, hq, rfl, hrq⟩ := hrel
      by_cases hpl : q < s.size ∧ K.plain ((strB s)[q]?.getD 0) = true
      · obtain ⟨hlt, hpl⟩ := hpl
        have hx := strB_at s q hlt
        have hd : decide (q < s.size) = true := by simpa using hlt
        have hstep := K.endP_step (strB s) q (by rw [strB_len]; exact hlt) hpl
        rw [hrq] at hstep
        have HS := Lib.hid hstep; clear hstep hrq
        rw [hx] at hpl
        clear hx
        simp only [K.plain, decide_eq_true_eq] at hpl
        have e1 : decide (32 ≤ (s[q].toNat : Int)) = true := by simp; omega
        have e2 : ((s[q].toNat : Int) != 34) = true := by simpa using hpl.2.1
        have e3 : ((s[q].toNat : Int) != 92) = true := by simpa using hpl.2.2
        have HP := Lib.hid hpl; clear hpl
        go_wp2
        all_goals
          go_round
          case rel => exact ⟨q + 1, by omega, by omega, by go_num, HS.out.symm⟩
          case measure => simp [intOf]; omega
      · have hstop := K.endP_stop (strB s) q (fun h => by
          rw [strB_len] at h
          cases hc : K.plain ((strB s)[q]?.getD 0) with
          | false => rfl
          | true => exact absurd ⟨h, hc⟩ hpl)
        rw [hrq] at hstop
        subst hstop
        have hout : (decide (r < s.size) = false) ∨ (decide (r < s.size) = true ∧ ∃ h : r < s.size, ((decide (32 ≤ (s[r].toNat : Int)) && ((s[r].toNat : Int) != 34)) && ((s[r].toNat : Int) != 92)) = false) := by
          rcases Nat.lt_or_ge r s.size with h | h
          · right
            have hx := strB_at s r h
            refine ⟨by simpa using h, h, ?_⟩
            rw [hx] at hpl
            cases hc : ((decide (32 ≤ (s[r].toNat : Int)) && ((s[r].toNat : Int) != 34)) && ((s[r].toNat : Int) != 92)) with
            | false => rfl
            | true =>
              refine absurd ⟨h, ?_⟩ hpl
              simp at hc
              simp [K.plain]; omega
          · left; simpa using h
        clear hpl
        subst hg
        by_cases hms : m = (s.extract p r).size
        · simp only [decide_eq_true hms] at c1
          have hT : strOfNums ((strB (s.extract p r)).take m) = s.extract p r := by
            rw [hms, ← strB_len, List.take_length, strOfNums_strB]
          clear c2
          have HMS := Lib.hid hms; clear hms
          rcases hout with h0 | ⟨h1, hlt, h2⟩
          · go_wp2_with (first | (go_at_call 25; (with_reducible refine (c1 _).mono ?_); rintro e w1 ⟨rfl, hB1⟩))
            all_goals
              go_ret2
              exact ⟨ret_si rfl (by have := HMS.out; omega), hB1⟩
          · skip
            go_wp2_with (first | (go_at_call 25; (with_reducible refine (c1 _).mono ?_); rintro e w1 ⟨rfl, hB1⟩))
            all_goals try (exfalso; simp_all; done)
            all_goals
              go_ret2
              exact ⟨ret_si rfl (by have := HMS.out; omega), hB1⟩
        · simp only [decide_eq_false hms] at c1
          have hT : (s.extract p r).extract 0 m = strOfNums ((strB (s.extract p r)).take m) := by rw [← strB_extract, strOfNums_strB]
          rcases hout with h0 | ⟨h1, hlt, h2⟩
          · go_wp2_with (first | (go_at_call 25; (with_reducible refine (c1 _).mono ?_); rintro e w1 ⟨rfl, hB1⟩) | (go_at_call 48; (with_reducible refine (c2 _).mono ?_); rintro e w2 ⟨v, rfl, _, hB2⟩))
            all_goals
              go_ret2
              exact ⟨ret_si rfl rfl, hB1.trans (hB2.mono hB1.size)⟩
          · have HMS := Lib.hid hms; clear hms
            go_wp2_with (first | (go_at_call 25; (with_reducible refine (c1 _).mono ?_); rintro e w1 ⟨rfl, hB1⟩) | (go_at_call 48; (with_reducible refine (c2 _).mono ?_); rintro e w2 ⟨v, rfl, _, hB2⟩))
            all_goals try (exfalso; simp_all; done)
            all_goals
              go_ret2
              exact ⟨ret_si rfl rfl, hB1.trans (hB2.mono hB1.size)⟩
end Go.Proofs.YtiflnciapboccaaDoor
