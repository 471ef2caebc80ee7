/- Names: letter, within, IsName. -/
import Derived.Test.YtfapoicnkdallaaMh4Thre
import Derived.Test.YtfapoicnkdallaaMh8Thre
namespace Go.Proofs.Ytfapoicnkdallaa
open Go.RowKit Go.Shelf
def letterB (x : Int) : Bool := (decide (65 ≤ x) && decide (x ≤ 90)) || (decide (97 ≤ x) && decide (x ≤ 122))
def withinB (x : Int) : Bool := letterB x || (decide (48 ≤ x) && decide (x ≤ 57)) || decide (x = 95) || decide (x = 45)
def nameB (l : List Int) : Bool := !l.isEmpty && decide (l.length ≤ 40) && letterB (l[0]?.getD 0) && l.all withinB
theorem box_cells {w W : World} {k n : Int} {s : ByteArray} {a : Option Addr} {len cap : Nat} (hb : Below (w.alloc (vobj k n s a len cap)).heap.size (w.alloc (vobj k n s a len cap)) W) :
    W.cell? ⟨w.heap.size, 0, none⟩ = some (.int .i64 k) ∧ W.cell? ⟨w.heap.size, 1, none⟩ = some (.int .i64 n) ∧ W.cell? ⟨w.heap.size, 2, none⟩ = some (.string s) ∧ W.cell? ⟨w.heap.size, 3, none⟩ = some (.slice a len cap) :=
  ⟨cell_below hb (by simp), cell_below hb (by simp), cell_below hb (by simp), cell_below hb (by simp)⟩
theorem letter_any (x : Int) (w : World) (h : 0 ≤ x) (h' : x ≤ 255) : Calls Try.prog 57 #[.int .u8 x] w fun e w' => e = .returned (.bool (letterB x)) ∧ w = w' := by
  unfold letterB
  rcases Int.lt_or_le x 65 with h1 | h1
  · have d1 : decide (65 ≤ x) = false := by simp; omega
    have d2 : decide (97 ≤ x) = false := by simp; omega
    go_enter Try.func57, Try.ntmps57
    go_wp2
    go_ret
    exact ⟨ret_bool (by simp [d1, d2]), rfl⟩
  · have d1 : decide (65 ≤ x) = true := by simp; omega
    rcases Int.lt_or_le 90 x with h2 | h2
    · have d2 : decide (x ≤ 90) = false := by simp; omega
      rcases Int.lt_or_le x 97 with h3 | h3
      · have d3 : decide (97 ≤ x) = false := by simp; omega
        go_enter Try.func57, Try.ntmps57
        go_wp2
        go_ret
        exact ⟨ret_bool (by simp [d2, d3]), rfl⟩
      · have d3 : decide (97 ≤ x) = true := by simp; omega
        go_enter Try.func57, Try.ntmps57
        go_wp2
        go_ret
        exact ⟨ret_bool (by simp [d1, d2, d3]), rfl⟩
    · have d2 : decide (x ≤ 90) = true := by simp; omega
      go_enter Try.func57, Try.ntmps57
      go_wp2
      go_ret
      exact ⟨ret_bool (by simp [d1, d2]), rfl⟩
theorem within_any (x : Int) (w : World) (h : 0 ≤ x) (h' : x ≤ 255) : Calls Try.prog 58 #[.int .u8 x] w fun e w' => e = .returned (.bool (withinB x)) ∧ w = w' := by
  have hc := fun w => letter_any x w h h'
  unfold withinB
  obtain ⟨lb, hlb⟩ : ∃ lb, letterB x = lb := ⟨_, rfl⟩
  rw [hlb] at hc ⊢
  clear hlb
  cases lb with
  | true =>
    go_enter Try.func58, Try.ntmps58
    go_wp2_with (first | (go_at_call 57; (with_reducible refine (hc _).mono ?_); rintro e w' ⟨rfl, rfl⟩))
    go_ret
    exact ⟨ret_bool (by simp), rfl⟩
  | false =>
    by_cases h1 : 48 ≤ x ∧ x ≤ 57
    · have d1 : decide (48 ≤ x) = true := by simp; omega
      have d2 : decide (x ≤ 57) = true := by simp; omega
      go_enter Try.func58, Try.ntmps58
      go_wp2_with (first | (go_at_call 57; (with_reducible refine (hc _).mono ?_); rintro e w' ⟨rfl, rfl⟩))
      all_goals go_ret
      all_goals exact ⟨ret_bool (by simp [d1, d2]), rfl⟩
    · have d12 : (decide (48 ≤ x) && decide (x ≤ 57)) = false := by simp; omega
      by_cases h2 : x = 95
      · subst h2
        go_enter Try.func58, Try.ntmps58
        go_wp2_with (first | (go_at_call 57; (with_reducible refine (hc _).mono ?_); rintro e w' ⟨rfl, rfl⟩))
        all_goals go_ret
        all_goals exact ⟨ret_bool (by simp), rfl⟩
      · have d3 : decide (x = 95) = false := by simpa using h2
        have d4 : (x == 95) = false := by simpa using h2
        rcases Int.lt_or_le x 48 with h3 | h3
        · have d1 : decide (48 ≤ x) = false := by simp; omega
          go_enter Try.func58, Try.ntmps58
          go_wp2_with (first | (go_at_call 57; (with_reducible refine (hc _).mono ?_); rintro e w' ⟨rfl, rfl⟩))
          all_goals go_ret
          all_goals exact ⟨ret_bool (by simp [d1, d3]; try rfl), rfl⟩
        · have d1 : decide (48 ≤ x) = true := by simp; omega
          have d2 : decide (x ≤ 57) = false := by simp; omega
          go_enter Try.func58, Try.ntmps58
          go_wp2_with (first | (go_at_call 57; (with_reducible refine (hc _).mono ?_); rintro e w' ⟨rfl, rfl⟩))
          all_goals go_ret
          all_goals exact ⟨ret_bool (by simp [d2, d3]; try rfl), rfl⟩
theorem toList_empty {s : ByteArray} (h : s.size = 0) : s.toList.isEmpty = true := by
  rw [toList_data]
  have hs : s.data = #[] := Array.eq_empty_of_size_eq_zero h
  rw [hs]; rfl
theorem toList_full {s : ByteArray} (h : s.size ≠ 0) : s.toList.isEmpty = false := by
  rw [toList_data]
  have h2 : s.data.toList.length = s.size := by simp
  cases hc : s.data.toList with
  | nil => rw [hc] at h2; simp at h2; omega
  | cons a r => rfl
theorem nameB_cons (l : List Int) (h : l ≠ []) : nameB l = (decide (l.length ≤ 40) && letterB (l[0]?.getD 0) && l.all withinB) := by
  unfold nameB; cases l with
  | nil => exact absurd rfl h
  | cons a r => simp
theorem all_drop (l : List Int) (k : Nat) (h : k < l.length) : (l.drop k).all withinB = (withinB (l[k]?.getD 0) && (l.drop (k + 1)).all withinB) := by
  rw [List.drop_eq_getElem_cons h, List.all_cons, List.getElem?_eq_getElem h]; rfl
set_option maxHeartbeats 1000000 in
theorem isName_any (s : ByteArray) (w : World) (hsm : s.size ≤ maxLen) :
    Calls Try.prog 41 #[.string s] w fun e w' => e = .returned (.bool (nameB (strB s))) ∧ w = w' := by
  unfold maxLen at hsm
  obtain ⟨r, hr⟩ : ∃ r, nameB (strB s) = r := ⟨_, rfl⟩
  rw [hr]
  have hl := strB_len s
  by_cases h0 : s.size = 0
  · have hs : s = ⟨#[]⟩ := by
      apply ByteArray.ext
      exact Array.eq_empty_of_size_eq_zero h0
    subst hs
    obtain rfl : r = false := by rw [← hr]; rfl
    clear hr
    go_enter Try.func41, Try.ntmps41
    go_wp2
    go_ret
    exact ⟨rfl, rfl⟩
  · have hse := toList_full h0
    have hx := strB_at s 0 (by omega)
    have hbd := u8_bd s[0]
    have hbs := strB_bytes s
    rw [nameB_cons _ (by intro h; rw [h] at hl; simp at hl; omega), hx, hl] at hr
    have hLt := fun w => letter_any (s[0].toNat : Int) w hbd.1 hbd.2
    obtain ⟨lb, hlb⟩ : ∃ lb, letterB (s[0].toNat : Int) = lb := ⟨_, rfl⟩
    rw [hlb] at hr hLt
    have HR := Lib.hid hr
    clear hr hx hlb hbd
    rcases Nat.lt_or_ge 40 s.size with h40 | h40
    · have hd : decide (40 < (s.size : Int)) = true := by simp; omega
      have hd2 : decide (s.size ≤ 40) = false := by simp; omega
      obtain rfl : r = false := by rw [← HR.out, hd2]; rfl
      clear hd2
      go_enter Try.func41, Try.ntmps41
      go_wp2_with fail
      go_ret
      exact ⟨rfl, rfl⟩
    · have hd : decide (40 < (s.size : Int)) = false := by simp; omega
      cases lb with
      | false =>
        obtain rfl : r = false := by rw [← HR.out]; simp
        go_enter Try.func41, Try.ntmps41
        go_wp2_with (first | (go_at_call 57; (with_reducible refine (hLt _).mono ?_); rintro e w' ⟨rfl, rfl⟩))
        go_ret
        exact ⟨rfl, rfl⟩
      | true =>
        have hd2 : decide (s.size ≤ 40) = true := by simp; omega
        have HR2 := Lib.hid (show (strB s).all withinB = r by rw [← HR.out, hd2]; simp)
        clear HR hd2
        go_enter Try.func41, Try.ntmps41
        go_wp2_with (first | (go_at_call 57; (with_reducible refine (hLt _).mono ?_); rintro e w' ⟨rfl, rfl⟩))
        go_loop [3, 19] (fun _ i => ∃ q : Nat, q ≤ s.size ∧ i = .int .i64 q ∧ Hid (((strB s).drop q).all withinB = r)) (fun _ i => s.size - (intOf i).toNat)
        case atStart => exact ⟨0, Nat.zero_le _, rfl, HR2.out⟩
        case round =>
          obtain ⟨q, hq, rfl, hrq⟩ := hrel
          rcases Nat.lt_or_ge q s.size with hlt | hge
          · have hx := strB_at s q hlt
            have hd : decide (q < s.size) = true := by simpa using hlt
            have hbd := u8_bd s[q]
            have hst := all_drop (strB s) q (by omega)
            rw [hrq.out, hx] at hst
            have hW := fun w => within_any (s[q].toNat : Int) w hbd.1 hbd.2
            obtain ⟨wb, hwb⟩ : ∃ wb, withinB (s[q].toNat : Int) = wb := ⟨_, rfl⟩
            rw [hwb] at hst hW
            have HST := Lib.hid hst
            clear hst hwb hx hrq hbd
            cases wb with
            | true =>
              go_wp2_with (first | (go_at_call 58; (with_reducible refine (hW _).mono ?_); rintro e w' ⟨rfl, rfl⟩))
              go_round
              case rel => exact ⟨q + 1, by omega, by go_num, (HST.out.trans (by simp)).symm⟩
              case measure => simp [intOf]; omega
            | false =>
              obtain rfl : r = false := by rw [HST.out]; simp
              go_wp2_with (first | (go_at_call 58; (with_reducible refine (hW _).mono ?_); rintro e w' ⟨rfl, rfl⟩))
              go_ret
              exact ⟨rfl, rfl⟩
          · have hd : decide (q < s.size) = false := by simpa using hge
            obtain rfl : r = true := by
              rw [← hrq.out, List.drop_of_length_le (by omega)]; rfl
            go_wp2_with fail
            go_ret
            exact ⟨rfl, rfl⟩
end Go.Proofs.Ytfapoicnkdallaa
