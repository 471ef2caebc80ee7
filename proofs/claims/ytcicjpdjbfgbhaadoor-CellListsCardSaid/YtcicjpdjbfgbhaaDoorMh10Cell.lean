/- The order of values: cmp's functions, lists of bytes. -/
import Derived.Test.YtcicjpdjbfgbhaaDoorMh8Cell
import Derived.Deep.RegionWith
import Derived.Deep.QuietTactic
import Derived.BigQuiet
namespace Go.Proofs.YtcicjpdjbfgbhaaDoor
open Go.RowKit Go.Shelf
def cmpI (a b : Int) : Int := if a < b then -1 else if b < a then 1 else 0
theorem cmpI_zero (a b : Int) : cmpI a b = 0 ↔ a = b := by unfold cmpI; split <;> (try split) <;> omega
theorem cmpI_self (a : Int) : cmpI a a = 0 := by simp [cmpI]
theorem nan_any (x : Int) (w : World) : Calls Tryd.prog 64 #[.int .i64 x] w fun e w' => e = .returned (.bool false) ∧ w = w' := by
  go_enter Tryd.func64, Tryd.ntmps64
  go_wp2
  go_ret
  exact ⟨ret_bool (by simp), rfl⟩
theorem nan64_any (x : Int) (w : World) : Calls Tryd.prog 65 #[.int .i64 x] w fun e w' => e = .returned (.bool false) ∧ w = w' := by
  go_enter Tryd.func65, Tryd.ntmps65
  go_wp2
  go_ret
  exact ⟨ret_bool (by simp), rfl⟩
set_option maxHeartbeats 1000000 in
theorem cmpInt_any (x y : Int) (w : World) : Calls Tryd.prog 46 #[.int .i64 x, .int .i64 y] w fun e w' => e = .returned (.int .i64 (cmpI x y)) ∧ w = w' := by
  have hx := fun w => nan_any x w
  have hy := fun w => nan_any y w
  unfold cmpI
  rcases Int.lt_trichotomy x y with h | h | h
  · have d1 : decide (x < y) = true := by simpa using h
    rw [if_pos h]
    go_enter Tryd.func46, Tryd.ntmps46
    go_wp2_with (first | (go_at_call 64; (first | with_reducible refine (hx _).mono ?_ | with_reducible refine (hy _).mono ?_); rintro e w' ⟨rfl, rfl⟩))
    go_ret
    exact ⟨rfl, rfl⟩
  · subst h
    rw [if_neg (by omega), if_neg (by omega)]
    go_enter Tryd.func46, Tryd.ntmps46
    go_wp2_with (first | (go_at_call 64; (first | with_reducible refine (hx _).mono ?_ | with_reducible refine (hy _).mono ?_); rintro e w' ⟨rfl, rfl⟩))
    go_ret
    exact ⟨rfl, rfl⟩
  · have d1 : decide (x < y) = false := by simp; omega
    have d2 : decide (y < x) = true := by simpa using h
    rw [if_neg (by omega), if_pos h]
    go_enter Tryd.func46, Tryd.ntmps46
    go_wp2_with (first | (go_at_call 64; (first | with_reducible refine (hx _).mono ?_ | with_reducible refine (hy _).mono ?_); rintro e w' ⟨rfl, rfl⟩))
    go_ret
    exact ⟨rfl, rfl⟩
set_option maxHeartbeats 1000000 in
theorem cmpInt64_any (x y : Int) (w : World) : Calls Tryd.prog 47 #[.int .i64 x, .int .i64 y] w fun e w' => e = .returned (.int .i64 (cmpI x y)) ∧ w = w' := by
  have hx := fun w => nan64_any x w
  have hy := fun w => nan64_any y w
  unfold cmpI
  rcases Int.lt_trichotomy x y with h | h | h
  · have d1 : decide (x < y) = true := by simpa using h
    rw [if_pos h]
    go_enter Tryd.func47, Tryd.ntmps47
    go_wp2_with (first | (go_at_call 65; (first | with_reducible refine (hx _).mono ?_ | with_reducible refine (hy _).mono ?_); rintro e w' ⟨rfl, rfl⟩))
    go_ret
    exact ⟨rfl, rfl⟩
  · subst h
    rw [if_neg (by omega), if_neg (by omega)]
    go_enter Tryd.func47, Tryd.ntmps47
    go_wp2_with (first | (go_at_call 65; (first | with_reducible refine (hx _).mono ?_ | with_reducible refine (hy _).mono ?_); rintro e w' ⟨rfl, rfl⟩))
    go_ret
    exact ⟨rfl, rfl⟩
  · have d1 : decide (x < y) = false := by simp; omega
    have d2 : decide (y < x) = true := by simpa using h
    rw [if_neg (by omega), if_pos h]
    go_enter Tryd.func47, Tryd.ntmps47
    go_wp2_with (first | (go_at_call 65; (first | with_reducible refine (hx _).mono ?_ | with_reducible refine (hy _).mono ?_); rintro e w' ⟨rfl, rfl⟩))
    go_ret
    exact ⟨rfl, rfl⟩
def orI (x y : Int) : Int := if x ≠ 0 then x else y
set_option maxHeartbeats 1000000 in
/-- cmp.Or of two numbers -/
theorem or_any (x y : Int) (b cap : Nat) (w : World) (h0 : w.cell? ⟨b, 0, none⟩ = some (.int .i64 x)) (h1 : w.cell? ⟨b, 1, none⟩ = some (.int .i64 y)) :
    Calls Tryd.prog 45 #[.slice (some ⟨b, 0, none⟩) 2 cap] w fun e w' => e = .returned (.int .i64 (orI x y)) ∧ w = w' := by
  unfold orI
  by_cases hx : x = 0
  · subst hx
    rw [if_neg (by omega)]
    by_cases hy : y = 0
    · subst hy
      go_enter Tryd.func45, Tryd.ntmps45
      go_wp2
      go_loop [5, 8] (fun _ i => i = .int .i64 0 ∨ i = .int .i64 1 ∨ i = .int .i64 2) (fun _ i => 2 - (intOf i).toNat)
      case atStart => exact .inl rfl
      case round =>
        rcases hrel with rfl | rfl | rfl
        · go_wp2
          go_round
          case rel => exact .inr (.inl rfl)
          case measure => simp [intOf]
        · go_wp2
          go_round
          case rel => exact .inr (.inr rfl)
          case measure => simp [intOf]
        · go_wp2
          go_ret
          exact ⟨rfl, rfl⟩
    · have d : (y != 0) = true := by simpa using hy
      go_enter Tryd.func45, Tryd.ntmps45
      go_wp2
      go_loop [5, 8] (fun _ i => i = .int .i64 0 ∨ i = .int .i64 1) (fun _ i => 2 - (intOf i).toNat)
      case atStart => exact .inl rfl
      case round =>
        rcases hrel with rfl | rfl
        · go_wp2
          go_round
          case rel => exact .inr rfl
          case measure => simp [intOf]
        · go_wp2
          go_ret
          exact ⟨rfl, rfl⟩
  · have d : (x != 0) = true := by simpa using hx
    rw [if_pos hx]
    go_enter Tryd.func45, Tryd.ntmps45
    go_wp2
    go_loop [5, 8] (fun _ i => i = .int .i64 0) (fun _ i => 2 - (intOf i).toNat)
    case atStart => rfl
    case round =>
      subst hrel
      go_wp2
      go_ret
      exact ⟨rfl, rfl⟩
/-- bytes in order -/
def cmpB : List Int → List Int → Int
  | [], [] => 0
  | [], _ :: _ => -1
  | _ :: _, [] => 1
  | x :: a, y :: b => if x - y ≠ 0 then cmpI (x - y) 0 else cmpB a b
theorem sub_any (x y : Int) (w : World) (h : 0 ≤ x ∧ x ≤ 255) (h' : 0 ≤ y ∧ y ≤ 255) : Calls Tryd.prog 49 #[.int .u8 x, .int .u8 y] w fun e w' => e = .returned (.int .i64 (x - y)) ∧ w = w' := by
  go_enter Tryd.func49, Tryd.ntmps49
  go_wp2
  go_ret
  exact ⟨ret_int (by go_num), rfl⟩
theorem cmpB_step (l r : List Int) (q : Nat) (h1 : q < l.length) (h2 : q < r.length) : cmpB (l.drop q) (r.drop q) = if l[q]?.getD 0 - r[q]?.getD 0 ≠ 0 then cmpI (l[q]?.getD 0 - r[q]?.getD 0) 0 else cmpB (l.drop (q + 1)) (r.drop (q + 1)) := by
  rw [List.drop_eq_getElem_cons h1, List.drop_eq_getElem_cons h2, List.getElem?_eq_getElem h1, List.getElem?_eq_getElem h2]
  rfl
theorem cmpB_end (l r : List Int) (q : Nat) (h : q = min l.length r.length) : cmpB (l.drop q) (r.drop q) = cmpI l.length r.length := by
  subst h
  rcases Nat.lt_trichotomy l.length r.length with h | h | h
  · rw [Nat.min_eq_left (by omega), List.drop_length, List.drop_eq_getElem_cons h]
    unfold cmpI; rw [if_pos (by omega)]; rfl
  · rw [Nat.min_eq_left (by omega), List.drop_length, h, List.drop_length]
    simp [cmpB, cmpI]
  · rw [Nat.min_eq_right (by omega), List.drop_length, List.drop_eq_getElem_cons h]
    unfold cmpI; rw [if_neg (by omega), if_pos (by omega)]; rfl
set_option maxHeartbeats 2000000 in
theorem listsB_any (a b : Option Addr) (c d m n : Nat) (l r : List Int) (w : World) (hl : Row w .u8 a m c l) (hr : Row w .u8 b n d r) (hbl : Bytes l) (hbr : Bytes r) :
    Calls Tryd.prog 48 #[.slice a m c, .slice b n d, .func (.func 49) #[] #[]] w fun e w' => e = .returned (.int .i64 (cmpB l r)) ∧ ∃ k, w' = w.drewN k := by
  obtain ⟨l1, l2, l3, l4⟩ := hl
  obtain ⟨r1, r2, r3, r4⟩ := hr
  unfold maxLen at l3 r3
  have hcm := fun w => cmpInt_any (m : Int) (n : Int) w
  obtain ⟨z, hz⟩ : ∃ z, cmpB l r = z := ⟨_, rfl⟩
  rw [hz]
  have HZ := Lib.hid hz; clear hz
  rcases Nat.lt_or_ge n m with hmn | hmn
  all_goals (
    go_enter Tryd.func48, Tryd.ntmps48
    go_wp2_with fail
    all_goals (first | (exfalso; omega) | skip)
    go_loopw [7, 8, 14] (fun _ _ i wr => ∃ q nq : Nat, q ≤ m ∧ q ≤ n ∧ i = .int .i64 (q : Int) ∧ wr = w.drewN nq ∧ Hid (cmpB (l.drop q) (r.drop q) = z)) (fun _ _ i _ => m - (intOf i).toNat))
  all_goals (first | (case' atStart => exact ⟨0, 0, Nat.zero_le _, Nat.zero_le _, rfl, rfl, HZ.out⟩) | skip)
  all_goals (
    obtain ⟨q, n1, hq1, hq2, rfl, hwr, HQ⟩ := hrel
    by_cases hqq : q < m ∧ q < n
    · obtain ⟨ba, oa, rfl, ca⟩ : ∃ b off, a = some ⟨b, off, none⟩ ∧ ∀ i, i < m → w.cell? ⟨b, off + i, none⟩ = some (.int .u8 (l[i]?.getD 0)) := by
        rcases l4 with h | h
        · omega
        · exact h
      obtain ⟨bb, ob, rfl, cb⟩ : ∃ b' off, b = some ⟨b', off, none⟩ ∧ ∀ i, i < n → w.cell? ⟨b', off + i, none⟩ = some (.int .u8 (r[i]?.getD 0)) := by
        rcases r4 with h | h
        · omega
        · exact h
      have g1 : wr.cell? ⟨ba, oa + q, none⟩ = some (.int .u8 (l[q]?.getD 0)) := by rw [hwr]; exact ca q hqq.1
      have g2 : wr.cell? ⟨bb, ob + q, none⟩ = some (.int .u8 (r[q]?.getD 0)) := by rw [hwr]; exact cb q hqq.2
      have HW := Lib.hid hwr
      clear hwr
      have hst := cmpB_step l r q (by omega) (by omega)
      rw [HQ.out] at hst
      have hsub := fun w => (sub_any (l[q]?.getD 0) (r[q]?.getD 0) w (hbl q) (hbr q)).mono fun e w' h => (⟨h.1, h.2.symm⟩ : e = .returned (.int .i64 (l[q]?.getD 0 - r[q]?.getD 0)) ∧ w' = w)
      obtain ⟨u, hu⟩ : ∃ u, l[q]?.getD 0 = u := ⟨_, rfl⟩
      obtain ⟨v, hv⟩ : ∃ v, r[q]?.getD 0 = v := ⟨_, rfl⟩
      rw [hu] at g1 hst hsub
      rw [hv] at g2 hst hsub
      obtain ⟨o, ho⟩ : ∃ o, u - v = o := ⟨_, rfl⟩
      rw [ho] at hst hsub
      have hcz := fun w => cmpInt_any o 0 w
      have HST := Lib.hid hst
      have hd1 : decide (q < m) = true := by simpa using hqq.1
      have hd2 : decide (q < n) = true := by simpa using hqq.2
      have hlt1 := hqq.1
      have hlt2 := hqq.2
      clear hst hu hv ho ca cb l4 r4 HQ hqq hbl hbr
      by_cases ho : o = 0
      · subst ho
        go_wp2_with fail
        go_quiet (first | (go_at_call 49; refine Calls.quiet_of_same (hsub _)))
        go_wp2_with fail
        go_roundw
        all_goals (first | (case' rel => exact ⟨q + 1, _, by omega, by omega, by go_num, by rw [HW.out, World.drewN_drewN], (HST.out.trans (if_neg (by omega))).symm⟩) | (case' measure => simp [intOf]; omega))
      · have hne : (o != 0) = true := by simpa using ho
        go_wp2_with fail
        go_quiet (first | (go_at_call 49; refine Calls.quiet_of_same (hsub _)))
        go_wp2_with (first | (go_at_call 46; (with_reducible refine (hcz _).mono ?_); rintro e w' ⟨rfl, rfl⟩))
        go_ret
        exact ⟨ret_int (HST.out.trans (if_pos (by omega))).symm, _, by rw [HW.out, World.drewN_drewN]⟩
    · have hq : q = min l.length r.length := by omega
      have hen := cmpB_end l r q hq
      rw [HQ.out, l1, r1] at hen
      have HE := Lib.hid hen
      clear hen
      have hd : decide (q < m) = false ∨ decide (q < n) = false := by simp; omega
      first
        | (have hd1 : decide (q < m) = false := by simp; omega)
        | (have hd1 : decide (q < n) = false := by simp; omega)
      clear l4 r4 hqq hq hd
      go_wp2_with (first | (go_at_call 46; (with_reducible refine (hcm _).mono ?_); rintro e w' ⟨rfl, rfl⟩))
      all_goals (first | (exfalso; omega) | skip)
      go_ret
      exact ⟨ret_int HE.out.symm, _, rfl⟩)
end Go.Proofs.YtcicjpdjbfgbhaaDoor
