/- The document's answer for layer 2: Parse and Scan. -/
import Derived.Test.YtfapoicnkdallaaMh12Vtex
namespace Go.Proofs.Ytfapoicnkdallaa
open Go.RowKit Go.Shelf
theorem M.val_le (a b : List Int) : M.val a ≤ M.val (a ++ b) := by
  induction b using M.snoc_ind with
  | h0 => simp
  | h1 b x ih => rw [← List.append_assoc, M.val_snoc]; omega
/-- a text's number so far -/
theorem M.sofar (l : List Int) (p : Nat) (hp : M.sgn l 0 = p) : ∃ pv : Nat → Nat, pv p = 0 ∧
    (∀ q, p ≤ q → q < l.length → pv (q + 1) = pv q * 10 + (l[q]?.getD 0 - 48).toNat) ∧ (∀ q, pv q ≤ pv l.length) ∧ (M.formed l → M.parse l = M.sg (pv l.length) (decide (0 < p))) := by
  refine ⟨fun q => M.val ((l.take q).drop p), by simp [M.val], fun q h1 h2 => ?_, fun q => ?_, fun hf => ?_⟩
  · simp only
    rw [take_succ_getD l q h2, List.drop_append_of_le_length (by simp; omega), M.val_snoc]
  · simp only
    rw [List.take_length]
    conv => rhs; rw [← List.take_append_drop q l, List.drop_append]
    exact M.val_le _ _
  · simp only
    unfold M.parse
    rw [if_pos hf, hp, List.take_length]
theorem quo_i64 (d : Int) (h0 : 0 ≤ d) (h1 : d ≤ 9) : (-9223372036854775808 + d).tdiv 10 = -((9223372036854775808 - d) / 10) := by
  rw [show -9223372036854775808 + d = -(9223372036854775808 - d) by omega, Int.neg_tdiv, Int.tdiv_eq_ediv_of_nonneg (by omega)]
set_option maxHeartbeats 2000000 in
theorem refParse_any (s : ByteArray) (w : World) (hsm : s.size ≤ maxLen) :
    Calls Try.prog 55 #[.string s] w fun e w' => e = .returned (.tuple #[.int .i64 (M.parse (strB s)).1, .int .i64 (M.parse (strB s)).2]) ∧ w = w' := by
  rcases Nat.eq_zero_or_pos s.size with h0 | hpos
  · have hpa : M.parse (strB s) = (0, 2) := by
      unfold M.parse; rw [if_neg]; rintro ⟨h, _, _⟩
      have h' : M.sgn (strB s) 0 < s.size := by rw [← strB_len s]; exact h
      omega
    have hd : decide (0 < s.size) = false := by rw [h0]; rfl
    have hd2 : ((0 : Int) == (s.size : Int)) = true := by rw [h0]; rfl
    rw [hpa]; clear hpa
    go_enter Try.func55, Try.ntmps55
    go_wp2
    go_ret2
    exact ⟨rfl, rfl⟩
  have hd0 : decide (0 < s.size) = true := by simpa using hpos
  have hx0 := strB_at s 0 hpos
  unfold maxLen at hsm
  obtain ⟨g, hg⟩ : ∃ g, M.parse (strB s) = g := ⟨_, rfl⟩
  rw [hg]
  by_cases h45 : (s[0].toNat : Int) = 45
  · have hp : M.sgn (strB s) 0 = 1 := by unfold M.sgn; rw [hx0]; rw [if_pos h45]
    obtain ⟨pv, hpv0, hpvs, hpvm, hpve⟩ := M.sofar (strB s) 1 hp
    rw [strB_len] at hpvs hpvm hpve
    have hfo : M.formed (strB s) ↔ 1 < s.size ∧ M.runTo (strB s) 1 = s.size ∧ ((strB s)[1]?.getD 0 ≠ 48 ∨ strB s = [48]) := by unfold M.formed; rw [hp, strB_len]
    have hnot : ¬ M.formed (strB s) → g = (0, 2) := fun h => by rw [← hg]; unfold M.parse; rw [if_neg h]
    rw [hg] at hpve
    clear hg hx0 hp
    have HPVS := Lib.hid hpvs; clear hpvs
    have HPVM := Lib.hid hpvm; clear hpvm
    have HPVE := Lib.hid hpve; clear hpve
    have HNOT := Lib.hid hnot; clear hnot
    have HFO := Lib.hid hfo; clear hfo
    have HPV := Lib.hid hpv0; clear hpv0
    obtain ⟨r, hr⟩ : ∃ r, M.runTo (strB s) 1 = r := ⟨_, rfl⟩
    have HR := Lib.hid hr; clear hr
    have he : ((s[0].toNat : Int) == 45) = true := by simpa using h45
    rcases Nat.lt_or_ge 1 s.size with h1s | h1s
    rotate_left
    · obtain rfl : g = (0, 2) := HNOT.out (by rw [HFO.out]; omega)
      have hd1 : ((1 : Int) == (s.size : Int)) = true := by simp; omega
      go_enter Try.func55, Try.ntmps55
      go_wp2
      go_ret2
      exact ⟨rfl, rfl⟩
    have hd1 : ((1 : Int) == (s.size : Int)) = false := by simp; omega
    go_enter Try.func55, Try.ntmps55
    go_wp2
    go_loop [5] (fun i => ∃ q : Nat, 1 ≤ q ∧ q ≤ s.size ∧ i = .int .i64 q ∧ M.runTo (strB s) q = r ∧ Hid (∀ j, 1 ≤ j → j < q → M.isD ((strB s)[j]?.getD 0) = true)) (fun i => s.size - (intOf i).toNat)
    case atStart => exact ⟨1, Nat.le_refl _, by omega, rfl, HR.out, Lib.hid (fun j h1 h2 => by omega)⟩
    case round =>
      obtain ⟨q, hq1, hq, rfl, hrq, HDG⟩ := hrel
      rcases Nat.lt_or_ge q s.size with hlt | hge
      · have hx := strB_at s q hlt
        have hd : decide (q < s.size) = true := by simpa using hlt
        by_cases hdg : M.isD (s[q].toNat : Int) = true
        · have hstep := M.runTo_step (strB s) q (by rw [strB_len]; exact hlt) (by rw [hx]; exact hdg)
          rw [hrq] at hstep
          have HS := Lib.hid hstep; clear hstep hrq
          have HX := Lib.hid hx; clear hx
          have HD := Lib.hid hdg
          simp [M.isD] at hdg
          have h1 : decide ((s[q].toNat : Int) < 48) = false := by simp; omega
          have h2 : decide (57 < (s[q].toNat : Int)) = false := by simp; omega
          go_wp2
          go_round
          case rel => exact ⟨q + 1, by omega, by omega, by go_num, HS.out.symm, Lib.hid (fun j h3 h4 => by
            by_cases hj : j = q
            · subst hj; rw [HX.out]; exact HD.out
            · exact HDG.out j h3 (by omega))⟩
          case measure => simp [intOf]; omega
        · have hstop := M.runTo_stop (strB s) q (fun _ => by rw [hx]; simpa using hdg)
          rw [hrq] at hstop
          obtain rfl : g = (0, 2) := HNOT.out (by rw [HFO.out, HR.out]; omega)
          clear hstop hrq hx
          simp [M.isD] at hdg
          go_wp2
          all_goals (first | (exfalso; omega) | (go_ret2; exact ⟨rfl, rfl⟩))
      · obtain rfl : q = s.size := by omega
        have hstop := M.runTo_stop (strB s) s.size (fun h => by rw [strB_len] at h; omega)
        rw [hrq] at hstop
        have hd : decide (s.size < s.size) = false := by simp
        have hxp := strB_at s 1 (by omega)
        have HRS : Hid (M.runTo (strB s) 1 = s.size) := Lib.hid (by rw [HR.out, hstop])
        clear hrq hstop
        by_cases h48 : (s[1].toNat : Int) = 48 ∧ 1 < s.size
        · have hd3 : ((s[1].toNat : Int) == 48) = true := by simpa using h48.1
          have hd4 : decide (1 < s.size) = true := by simpa using h48.2
          obtain rfl : g = (0, 2) := HNOT.out (by
            rw [HFO.out, hxp]
            rintro ⟨_, _, h | h⟩
            · exact h h48.1
            · have := congrArg List.length h; rw [strB_len] at this; simp at this; omega)
          clear hxp
          go_wp2
          go_ret2
          exact ⟨rfl, rfl⟩
        · have HG : Hid (g = M.sg (pv s.size) (decide (0 < 1))) := Lib.hid (HPVE.out (by
            rw [HFO.out, hxp]
            refine ⟨by omega, HRS.out, ?_⟩
            by_cases h4 : (s[1].toNat : Int) = 48
            · right
              have h1 : s.size = 1 := by omega
              omega
            · exact .inl h4))
          clear hxp
          have h48' : ((s[1].toNat : Int) == 48 && decide (1 < s.size)) = false := by
            by_cases h4 : (s[1].toNat : Int) = 48
            · simp [h4]; omega
            · simp [h4]
          go_wp2
          all_goals
            go_loop [7, 8, 9] (fun n i _ => ∃ q : Nat, 1 ≤ q ∧ q ≤ s.size ∧ i = .int .i64 q ∧ n = .int .i64 (-(pv q : Int)) ∧ pv q ≤ 9223372036854775808) (fun _ i _ => s.size - (intOf i).toNat)
            case atStart => exact ⟨1, Nat.le_refl _, by omega, rfl, by rw [HPV.out]; rfl, by rw [HPV.out]; omega⟩
            case round =>
              obtain ⟨q, hq1, hq, rfl, rfl, hb⟩ := hrel
              rcases Nat.lt_or_ge q s.size with hlt | hge
              · have hx := strB_at s q hlt
                have hdq := HDG.out q hq1 hlt
                have hv := HPVS.out q hq1 hlt
                have hvm := HPVM.out (q + 1)
                rw [hx] at hdq hv
                clear hx
                simp [M.isD] at hdq
                obtain ⟨hx0, hx1⟩ := hdq
                have hd5 : decide (q < s.size) = true := by simpa using hlt
                have hquo := quo_i64 ((s[q].toNat : Int) - 48) (by omega) (by omega)
                obtain ⟨v, hve⟩ : ∃ v, pv q = v := ⟨_, rfl⟩
                rw [hve] at hb hv ⊢
                have HV := Lib.hid hv; clear hv
                have HVM := Lib.hid hvm; clear hvm
                by_cases hov : (9223372036854775808 - ((s[q].toNat : Int) - 48)) / 10 < (v : Int)
                · obtain rfl : g = (0, 5) := by
                    rw [HG.out]
                    have h1 := HV.out
                    have h2 := HVM.out
                    unfold M.sg
                    split <;> (rw [if_neg (by omega)])
                  have hd6 : decide ((9223372036854775808 - ((s[q].toNat : Int) - 48)) / 10 < (v : Int)) = true := decide_eq_true hov
                  go_wp2
                  go_ret2
                  exact ⟨rfl, rfl⟩
                · have hd6 : decide ((9223372036854775808 - ((s[q].toNat : Int) - 48)) / 10 < (v : Int)) = false := decide_eq_false hov
                  have hb2 : -9223372036854775808 ≤ -(v : Int) * 10 - ((s[q].toNat : Int) - 48) := by omega
                  go_wp2
                  go_roundw
                  case rel => exact ⟨q + 1, by omega, by omega, by go_num, by rw [HV.out]; go_num, by rw [HV.out]; omega⟩
                  case measure => simp [intOf]; omega
              · obtain rfl : q = s.size := by omega
                have hd5 : decide (s.size < s.size) = false := by simp
                obtain ⟨v, hve⟩ : ∃ v, pv s.size = v := ⟨_, rfl⟩
                rw [hve] at hb HG ⊢
                obtain rfl : g = (-(v : Int), 0) := by rw [HG.out]; unfold M.sg; rw [if_pos (by simp), if_pos hb]
                go_wp2
                go_ret2
                exact ⟨rfl, rfl⟩
  · have hp : M.sgn (strB s) 0 = 0 := by unfold M.sgn; rw [hx0]; rw [if_neg h45]
    obtain ⟨pv, hpv0, hpvs, hpvm, hpve⟩ := M.sofar (strB s) 0 hp
    rw [strB_len] at hpvs hpvm hpve
    have hfo : M.formed (strB s) ↔ 0 < s.size ∧ M.runTo (strB s) 0 = s.size ∧ ((strB s)[0]?.getD 0 ≠ 48 ∨ strB s = [48]) := by unfold M.formed; rw [hp, strB_len]
    have hnot : ¬ M.formed (strB s) → g = (0, 2) := fun h => by rw [← hg]; unfold M.parse; rw [if_neg h]
    rw [hg] at hpve
    clear hg hx0 hp
    have HPVS := Lib.hid hpvs; clear hpvs
    have HPVM := Lib.hid hpvm; clear hpvm
    have HPVE := Lib.hid hpve; clear hpve
    have HNOT := Lib.hid hnot; clear hnot
    have HFO := Lib.hid hfo; clear hfo
    have HPV := Lib.hid hpv0; clear hpv0
    obtain ⟨r, hr⟩ : ∃ r, M.runTo (strB s) 0 = r := ⟨_, rfl⟩
    have HR := Lib.hid hr; clear hr
    have he : ((s[0].toNat : Int) == 45) = false := by simpa using h45
    have hd1 : ((0 : Int) == (s.size : Int)) = false := by simp; omega
    go_enter Try.func55, Try.ntmps55
    go_wp2
    go_loop [5] (fun i => ∃ q : Nat, 0 ≤ q ∧ q ≤ s.size ∧ i = .int .i64 q ∧ M.runTo (strB s) q = r ∧ Hid (∀ j, 0 ≤ j → j < q → M.isD ((strB s)[j]?.getD 0) = true)) (fun i => s.size - (intOf i).toNat)
    case atStart => exact ⟨0, Nat.le_refl _, by omega, rfl, HR.out, Lib.hid (fun j h1 h2 => by omega)⟩
    case round =>
      obtain ⟨q, hq1, hq, rfl, hrq, HDG⟩ := hrel
      rcases Nat.lt_or_ge q s.size with hlt | hge
      · have hx := strB_at s q hlt
        have hd : decide (q < s.size) = true := by simpa using hlt
        by_cases hdg : M.isD (s[q].toNat : Int) = true
        · have hstep := M.runTo_step (strB s) q (by rw [strB_len]; exact hlt) (by rw [hx]; exact hdg)
          rw [hrq] at hstep
          have HS := Lib.hid hstep; clear hstep hrq
          have HX := Lib.hid hx; clear hx
          have HD := Lib.hid hdg
          simp [M.isD] at hdg
          have h1 : decide ((s[q].toNat : Int) < 48) = false := by simp; omega
          have h2 : decide (57 < (s[q].toNat : Int)) = false := by simp; omega
          go_wp2
          go_round
          case rel => exact ⟨q + 1, by omega, by omega, by go_num, HS.out.symm, Lib.hid (fun j h3 h4 => by
            by_cases hj : j = q
            · subst hj; rw [HX.out]; exact HD.out
            · exact HDG.out j h3 (by omega))⟩
          case measure => simp [intOf]; omega
        · have hstop := M.runTo_stop (strB s) q (fun _ => by rw [hx]; simpa using hdg)
          rw [hrq] at hstop
          obtain rfl : g = (0, 2) := HNOT.out (by rw [HFO.out, HR.out]; omega)
          clear hstop hrq hx
          simp [M.isD] at hdg
          go_wp2
          all_goals (first | (exfalso; omega) | (go_ret2; exact ⟨rfl, rfl⟩))
      · obtain rfl : q = s.size := by omega
        have hstop := M.runTo_stop (strB s) s.size (fun h => by rw [strB_len] at h; omega)
        rw [hrq] at hstop
        have hd : decide (s.size < s.size) = false := by simp
        have hxp := strB_at s 0 (by omega)
        have HRS : Hid (M.runTo (strB s) 0 = s.size) := Lib.hid (by rw [HR.out, hstop])
        clear hrq hstop
        by_cases h48 : (s[0].toNat : Int) = 48 ∧ 1 < s.size
        · have hd3 : ((s[0].toNat : Int) == 48) = true := by simpa using h48.1
          have hd4 : decide (1 < s.size) = true := by simpa using h48.2
          obtain rfl : g = (0, 2) := HNOT.out (by
            rw [HFO.out, hxp]
            rintro ⟨_, _, h | h⟩
            · exact h h48.1
            · have := congrArg List.length h; rw [strB_len] at this; simp at this; omega)
          clear hxp
          go_wp2
          go_ret2
          exact ⟨rfl, rfl⟩
        · have HG : Hid (g = M.sg (pv s.size) (decide (0 < 0))) := Lib.hid (HPVE.out (by
            rw [HFO.out, hxp]
            refine ⟨by omega, HRS.out, ?_⟩
            by_cases h4 : (s[0].toNat : Int) = 48
            · right
              have h1 : s.size = 1 := by omega
              have h2 := strB_len s
              rw [h1] at h2
              have h3 := strB_at s 0 (by omega)
              rw [h4] at h3
              match hl : strB s, h2, h3 with
              | [x], _, h3 => simpa using h3
            · exact .inl h4))
          clear hxp
          have h48' : ((s[0].toNat : Int) == 48 && decide (1 < s.size)) = false := by
            by_cases h4 : (s[0].toNat : Int) = 48
            · simp [h4]; omega
            · simp [h4]
          go_wp2
          all_goals
            go_loop [7, 8, 9] (fun n i _ => ∃ q : Nat, 0 ≤ q ∧ q ≤ s.size ∧ i = .int .i64 q ∧ n = .int .i64 (-(pv q : Int)) ∧ pv q ≤ 9223372036854775808) (fun _ i _ => s.size - (intOf i).toNat)
            case atStart => exact ⟨0, Nat.le_refl _, by omega, rfl, by rw [HPV.out]; rfl, by rw [HPV.out]; omega⟩
            case round =>
              obtain ⟨q, hq1, hq, rfl, rfl, hb⟩ := hrel
              rcases Nat.lt_or_ge q s.size with hlt | hge
              · have hx := strB_at s q hlt
                have hdq := HDG.out q hq1 hlt
                have hv := HPVS.out q hq1 hlt
                have hvm := HPVM.out (q + 1)
                rw [hx] at hdq hv
                clear hx
                simp [M.isD] at hdq
                obtain ⟨hx0, hx1⟩ := hdq
                have hd5 : decide (q < s.size) = true := by simpa using hlt
                have hquo := quo_i64 ((s[q].toNat : Int) - 48) (by omega) (by omega)
                obtain ⟨v, hve⟩ : ∃ v, pv q = v := ⟨_, rfl⟩
                rw [hve] at hb hv ⊢
                have HV := Lib.hid hv; clear hv
                have HVM := Lib.hid hvm; clear hvm
                by_cases hov : (9223372036854775808 - ((s[q].toNat : Int) - 48)) / 10 < (v : Int)
                · obtain rfl : g = (0, 5) := by
                    rw [HG.out]
                    have h1 := HV.out
                    have h2 := HVM.out
                    unfold M.sg
                    split <;> (rw [if_neg (by omega)])
                  have hd6 : decide ((9223372036854775808 - ((s[q].toNat : Int) - 48)) / 10 < (v : Int)) = true := decide_eq_true hov
                  go_wp2
                  go_ret2
                  exact ⟨rfl, rfl⟩
                · have hd6 : decide ((9223372036854775808 - ((s[q].toNat : Int) - 48)) / 10 < (v : Int)) = false := decide_eq_false hov
                  have hb2 : -9223372036854775808 ≤ -(v : Int) * 10 - ((s[q].toNat : Int) - 48) := by omega
                  go_wp2
                  go_roundw
                  case rel => exact ⟨q + 1, by omega, by omega, by go_num, by rw [HV.out]; go_num, by rw [HV.out]; omega⟩
                  case measure => simp [intOf]; omega
              · obtain rfl : q = s.size := by omega
                have hd5 : decide (s.size < s.size) = false := by simp
                obtain ⟨v, hve⟩ : ∃ v, pv s.size = v := ⟨_, rfl⟩
                rw [hve] at hb HG ⊢
                by_cases hmx : v = 9223372036854775808
                · obtain rfl : g = (0, 5) := by rw [HG.out]; unfold M.sg; rw [if_neg (by simp), if_neg (by omega)]
                  have hd6 : ((-(v : Int)) == -9223372036854775808) = true := by simp; omega
                  go_wp2
                  go_ret2
                  exact ⟨rfl, rfl⟩
                · obtain rfl : g = ((v : Int), 0) := by rw [HG.out]; unfold M.sg; rw [if_neg (by simp), if_pos (by omega)]
                  have hd6 : ((-(v : Int)) == -9223372036854775808) = false := by simp; omega
                  go_wp2
                  go_ret2
                  exact ⟨ret_int2 (by omega) rfl, rfl⟩
end Go.Proofs.Ytfapoicnkdallaa
