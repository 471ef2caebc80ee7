/- Layer 14, the document: letters. -/
import Derived.Test.YtfapoicnkdallaaMh31Vtex
set_option linter.unusedVariables false
set_option linter.unusedSimpArgs false
namespace Go.Proofs.Ytfapoicnkdallaa
open Go.RowKit Go.Shelf
theorem letter_cases (x : Int) : (letterB x = true ∧ decide ((97 : Int) ≤ x) = true ∧ decide (x ≤ (122 : Int)) = true) ∨ (letterB x = true ∧ decide ((97 : Int) ≤ x) = false ∧ decide ((65 : Int) ≤ x) = true ∧ decide (x ≤ (90 : Int)) = true) ∨ (letterB x = false ∧ decide ((97 : Int) ≤ x) = false ∧ decide ((65 : Int) ≤ x) = false) ∨
    (letterB x = false ∧ decide ((97 : Int) ≤ x) = false ∧ decide ((65 : Int) ≤ x) = true ∧ decide (x ≤ (90 : Int)) = false) ∨ (letterB x = false ∧ decide ((97 : Int) ≤ x) = true ∧ decide (x ≤ (122 : Int)) = false ∧ decide ((65 : Int) ≤ x) = true ∧ decide (x ≤ (90 : Int)) = false) := by
  unfold letterB
  simp only [Bool.or_eq_true, Bool.and_eq_true, decide_eq_true_eq, Bool.or_eq_false_iff, Bool.and_eq_false_iff, decide_eq_false_iff_not]
  omega
set_option maxHeartbeats 2000000 in
theorem refLetters_any (s : ByteArray) (p : Nat) (w : World) (hsm : s.size ≤ 1000000) (hp : p ≤ s.size) :
    Calls Try.prog 31 #[.string s, .int .i64 (p : Int)] w fun e w' => e = .returned (.int .i64 (Vt.runTo letterB (strB s) p : Nat)) ∧ w = w' := by
  obtain ⟨r, hr⟩ : ∃ r, Vt.runTo letterB (strB s) p = r := ⟨_, rfl⟩
  rw [hr]
  have HR := Lib.hid hr; clear hr
  go_enter Try.func31, Try.ntmps31
  go_wp2
  go_loop [1] (fun i => ∃ q : Nat, q ≤ s.size ∧ i = .int .i64 q ∧ Vt.runTo letterB (strB s) q = r) (fun i => s.size - (intOf i).toNat)
  case atStart => exact ⟨p, hp, rfl, HR.out⟩
  case round =>
    obtain ⟨q, hq, rfl, hrq⟩ := hrel
    rcases Nat.lt_or_ge q s.size with hlt | hge
    · have hx := strB_at s q hlt
      have hu := u8_bd s[q]
      have hd : decide (q < s.size) = true := by simpa using hlt
      have hst := Vt.runTo_step letterB (strB s) q (by rw [strB_len]; exact hlt)
      have hsp := Vt.runTo_stop letterB (strB s) q
      rw [hx, hrq] at hst hsp
      have GO : letterB (s[q].toNat : Int) = true → Vt.runTo letterB (strB s) (q + 1) = r := fun h => (hst h).symm
      have STOP : letterB (s[q].toNat : Int) = false → r = q := fun h => hsp (fun _ => h)
      rcases letter_cases (s[q].toNat : Int) with ⟨h, e1, e2⟩ | ⟨h, e1, e2, e3⟩ | ⟨h, e1, e2⟩ | ⟨h, e1, e2, e3⟩ | ⟨h, e1, e2, e3, e4⟩
      · have HS := Lib.hid (GO h); clear GO STOP hst hsp h hx hrq
        go_wp2
        exact ⟨⟨q + 1, by omega, by go_num, HS.out⟩, by simp [intOf]; omega⟩
      · have HS := Lib.hid (GO h); clear GO STOP hst hsp h hx hrq
        go_wp2
        exact ⟨⟨q + 1, by omega, by go_num, HS.out⟩, by simp [intOf]; omega⟩
      · obtain rfl := STOP h; clear GO STOP hst hsp h hx hrq
        go_wp2
        go_ret
        exact ⟨rfl, rfl⟩
      · obtain rfl := STOP h; clear GO STOP hst hsp h hx hrq
        go_wp2
        go_ret
        exact ⟨rfl, rfl⟩
      · obtain rfl := STOP h; clear GO STOP hst hsp h hx hrq
        go_wp2
        go_ret
        exact ⟨rfl, rfl⟩
    · have hd : decide (q < s.size) = false := by simp; omega
      have hsp := Vt.runTo_stop letterB (strB s) q (fun h => by rw [strB_len] at h; omega)
      rw [hrq] at hsp
      clear hrq
      subst hsp
      go_wp2
      go_ret
      exact ⟨rfl, rfl⟩
end Go.Proofs.Ytfapoicnkdallaa
