/- The document's layer 7: in, digits, sixteen. -/
import Derived.Test.YtiflnciapboccaaDoorTokMath
import Derived.Test.YtiflnciapboccaaDoorNumRef
namespace Go.Proofs.YtiflnciapboccaaDoor
open Go.RowKit Go.Shelf
theorem refIn_any (x : Int) (c : ByteArray) (C : List Int) (hC : strB c = C) (w : World) (hsm : c.size ≤ maxLen) :
    Calls Tryd.prog 21 #[.int .u8 x, .string c] w fun e w' => e = .returned (.bool (C.contains x)) ∧ w = w' := by
  subst hC
  unfold maxLen at hsm
  obtain ⟨g, hg⟩ : ∃ g, (strB c).contains x = g := ⟨_, rfl⟩
  rw [hg]
  have hl := strB_len c
  have h1 : ∀ q : Nat, q < c.size → (strB c)[q]?.getD 0 = x → g = true := fun q hq h => by
    rw [← hg, List.contains_iff_mem]
    rw [List.getElem?_eq_getElem (by omega)] at h
    rw [← h]; exact List.getElem_mem _
  have h2 : (∀ q : Nat, q < c.size → (strB c)[q]?.getD 0 ≠ x) → g = false := fun h => by
    rw [← hg, Bool.eq_false_iff]
    intro hc
    rw [List.contains_iff_mem] at hc
    obtain ⟨q, hq, he⟩ := List.getElem_of_mem hc
    refine h q (by omega) ?_
    rw [List.getElem?_eq_getElem hq]; exact he
  have H1 := Lib.hid h1; clear h1
  have H2 := Lib.hid h2; clear h2
  have HL := Lib.hid hl; clear hl
  clear hg
  go_enter Tryd.func21, Tryd.ntmps21
  go_wp2
  go_loop [5] (fun i => ∃ q : Nat, q ≤ c.size ∧ i = .int .i64 q ∧ Hid (∀ j, j < q → (strB c)[j]?.getD 0 ≠ x)) (fun i => c.size - (intOf i).toNat)
  case atStart => exact ⟨0, Nat.zero_le _, rfl, Lib.hid (fun j h => by omega)⟩
  case round =>
    obtain ⟨q, hq, rfl, HJ⟩ := hrel
    rcases Nat.lt_or_ge q c.size with hlt | hge
    · have hx := strB_at c q hlt
      have hd : decide (q < c.size) = true := by simpa using hlt
      by_cases he : (c[q].toNat : Int) = x
      · obtain rfl : g = true := H1.out q hlt (hx.trans he)
        have hb : ((c[q].toNat : Int) == x) = true := by simpa using he
        clear hx
        have HE := Lib.hid he; clear he
        go_wp2
        all_goals first | (go_ret; exact ⟨rfl, rfl⟩)
      · have HN : Hid (∀ j, j < q + 1 → (strB c)[j]?.getD 0 ≠ x) := Lib.hid (fun j hj => by
          rcases Nat.lt_or_ge j q with h | h
          · exact HJ.out j h
          · obtain rfl : j = q := by omega
            rw [hx]; exact he)
        have hb : ((c[q].toNat : Int) == x) = false := by simpa using he
        clear hx
        have HE := Lib.hid he; clear he
        go_wp2
        all_goals
          go_round
          case rel => exact ⟨q + 1, by omega, by go_num, HN⟩
          case measure => simp [intOf]; omega
    · obtain rfl : g = false := H2.out (fun j hj => HJ.out j (by omega))
      have hd : decide (q < c.size) = false := by simpa using hge
      go_wp2
      go_ret
      exact ⟨rfl, rfl⟩
theorem dg_iff (x : Int) : K.dg.contains x = true ↔ 48 ≤ x ∧ x ≤ 57 := by
  rw [List.contains_iff_mem]
  simp [K.dg]; omega
theorem refDigits_any (s : ByteArray) (p : Nat) (w : World) (hsm : s.size ≤ 100000) (hp : p ≤ s.size) :
    Calls Tryd.prog 34 #[.string s, .int .i64 p] w fun e w' => e = .returned (.int .i64 ((K.runTo K.dg (strB s) p - p : Nat) : Int)) ∧ w = w' := by
  have hle := K.runTo_le K.dg (strB s) p (by rw [strB_len]; exact hp)
  rw [strB_len] at hle
  obtain ⟨r, hr⟩ : ∃ r, K.runTo K.dg (strB s) p = r := ⟨_, rfl⟩
  rw [hr] at hle ⊢
  have HR := Lib.hid hr; clear hr
  go_enter Tryd.func34, Tryd.ntmps34
  go_wp2
  go_loop [5] (fun i => ∃ q : Nat, p + q ≤ s.size ∧ i = .int .i64 q ∧ K.runTo K.dg (strB s) (p + q) = r) (fun i => s.size - (intOf i).toNat)
  case atStart => exact ⟨0, hp, rfl, HR.out⟩
  case round =>
    obtain ⟨q, hq, rfl, hrq⟩ := hrel
    have hrl := K.runTo_le K.dg (strB s) (p + q) (by rw [strB_len]; exact hq)
    rw [hrq] at hrl
    rcases Nat.lt_or_ge (p + q) s.size with hlt | hge
    · have hx := strB_at s (p + q) hlt
      have hd : decide (p + q < s.size) = true := by simpa using hlt
      by_cases hdg : K.dg.contains (s[p + q].toNat : Int) = true
      · have hstep := K.runTo_step K.dg (strB s) (p + q) (by rw [strB_len]; exact hlt) (by rw [hx]; exact hdg)
        rw [hrq] at hstep
        have HS := Lib.hid hstep; clear hstep hrq hx
        rw [dg_iff] at hdg
        have h1 : decide (48 ≤ (s[p + q].toNat : Int)) = true := by simp; omega
        have h2 : decide ((s[p + q].toNat : Int) ≤ 57) = true := by simp; omega
        have HD := Lib.hid hdg; clear hdg
        go_wp2
        go_round
        case rel => exact ⟨q + 1, by omega, by go_num, by rw [← Nat.add_assoc]; exact HS.out.symm⟩
        case measure => simp [intOf]; omega
      · have hstop := K.runTo_stop K.dg (strB s) (p + q) (fun _ => by rw [hx]; simpa using hdg)
        rw [hrq] at hstop
        have HS := Lib.hid hstop; clear hstop hrq hx
        have hnd : ¬ (48 ≤ (s[p + q].toNat : Int) ∧ (s[p + q].toNat : Int) ≤ 57) := fun h => hdg ((dg_iff _).2 h)
        clear hdg
        go_wp2
        all_goals (first | (exfalso; omega) | (go_ret; exact ⟨ret_int (by have := HS.out; omega), rfl⟩))
    · have hstop := K.runTo_stop K.dg (strB s) (p + q) (fun h => by rw [strB_len] at h; omega)
      rw [hrq] at hstop
      have HS := Lib.hid hstop; clear hstop hrq
      have hd : decide (p + q < s.size) = false := by simpa using hge
      go_wp2
      all_goals (first | (exfalso; omega) | (go_ret; exact ⟨ret_int (by have := HS.out; omega), rfl⟩))
theorem refSixteen_any (x : Int) (w : World) (h0 : 0 ≤ x) (h1 : x ≤ 255) :
    Calls Tryd.prog 56 #[.int .u8 x] w fun e w' => e = .returned (.int .i64 (K.hexv x)) ∧ w = w' := by
  obtain ⟨g, hg⟩ : ∃ g, K.hexv x = g := ⟨_, rfl⟩
  rw [hg]
  unfold K.hexv at hg
  have HG := Lib.hid hg; clear hg
  go_enter Tryd.func56, Tryd.ntmps56
  go_wp2
  all_goals first | (exfalso; omega) | (go_ret; exact ⟨ret_int (by rw [← HG.out]; repeat' split
                                                                   all_goals omega), rfl⟩)
end Go.Proofs.YtiflnciapboccaaDoor
