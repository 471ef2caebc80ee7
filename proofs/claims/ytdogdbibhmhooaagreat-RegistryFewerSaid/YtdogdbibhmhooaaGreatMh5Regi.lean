/- The order of values: cmp's functions, lists of bytes. -/
import Derived.Test.YtdogdbibhmhooaaGreatMh3Regi
import Derived.Deep.RegionWith
import Derived.Deep.QuietTactic
import Derived.BigQuiet
import Derived.Test.YtdogdbibhmhooaaGreatMh2Regi
import Derived.Deep.RegionHeld3
namespace Go.Proofs.YtdogdbibhmhooaaGreat
open Go.RowKit Go.Shelf
def cmpI (a b : Int) : Int := if a < b then -1 else if b < a then 1 else 0
theorem cmpI_zero (a b : Int) : cmpI a b = 0 ↔ a = b := by unfold cmpI; split <;> (try split) <;> omega
theorem cmpI_self (a : Int) : cmpI a a = 0 := by simp [cmpI]
theorem nan_any (x : Int) (w : World) : Calls Tryz.prog 190 #[.int .i64 x] w fun e w' => e = .returned (.bool false) ∧ w = w' := by
  go_enter Tryz.func190, Tryz.ntmps190
  go_wp2
  go_ret
  exact ⟨ret_bool (by simp), rfl⟩
theorem nan64_any (x : Int) (w : World) : Calls Tryz.prog 191 #[.int .i64 x] w fun e w' => e = .returned (.bool false) ∧ w = w' := by
  go_enter Tryz.func191, Tryz.ntmps191
  go_wp2
  go_ret
  exact ⟨ret_bool (by simp), rfl⟩
set_option maxHeartbeats 1000000 in
theorem cmpInt_any (x y : Int) (w : World) : Calls Tryz.prog 185 #[.int .i64 x, .int .i64 y] w fun e w' => e = .returned (.int .i64 (cmpI x y)) ∧ w = w' := by
  have hx := fun w => nan_any x w
  have hy := fun w => nan_any y w
  unfold cmpI
  rcases Int.lt_trichotomy x y with h | h | h
  · have d1 : decide (x < y) = true := by simpa using h
    rw [if_pos h]
    go_enter Tryz.func185, Tryz.ntmps185
    go_wp2_with (first | (go_at_call 190; (first | with_reducible refine (hx _).mono ?_ | with_reducible refine (hy _).mono ?_); rintro e w' ⟨rfl, rfl⟩))
    go_ret
    exact ⟨rfl, rfl⟩
  · subst h
    rw [if_neg (by omega), if_neg (by omega)]
    go_enter Tryz.func185, Tryz.ntmps185
    go_wp2_with (first | (go_at_call 190; (first | with_reducible refine (hx _).mono ?_ | with_reducible refine (hy _).mono ?_); rintro e w' ⟨rfl, rfl⟩))
    go_ret
    exact ⟨rfl, rfl⟩
  · have d1 : decide (x < y) = false := by simp; omega
    have d2 : decide (y < x) = true := by simpa using h
    rw [if_neg (by omega), if_pos h]
    go_enter Tryz.func185, Tryz.ntmps185
    go_wp2_with (first | (go_at_call 190; (first | with_reducible refine (hx _).mono ?_ | with_reducible refine (hy _).mono ?_); rintro e w' ⟨rfl, rfl⟩))
    go_ret
    exact ⟨rfl, rfl⟩
set_option maxHeartbeats 1000000 in
theorem cmpInt64_any (x y : Int) (w : World) : Calls Tryz.prog 186 #[.int .i64 x, .int .i64 y] w fun e w' => e = .returned (.int .i64 (cmpI x y)) ∧ w = w' := by
  have hx := fun w => nan64_any x w
  have hy := fun w => nan64_any y w
  unfold cmpI
  rcases Int.lt_trichotomy x y with h | h | h
  · have d1 : decide (x < y) = true := by simpa using h
    rw [if_pos h]
    go_enter Tryz.func186, Tryz.ntmps186
    go_wp2_with (first | (go_at_call 191; (first | with_reducible refine (hx _).mono ?_ | with_reducible refine (hy _).mono ?_); rintro e w' ⟨rfl, rfl⟩))
    go_ret
    exact ⟨rfl, rfl⟩
  · subst h
    rw [if_neg (by omega), if_neg (by omega)]
    go_enter Tryz.func186, Tryz.ntmps186
    go_wp2_with (first | (go_at_call 191; (first | with_reducible refine (hx _).mono ?_ | with_reducible refine (hy _).mono ?_); rintro e w' ⟨rfl, rfl⟩))
    go_ret
    exact ⟨rfl, rfl⟩
  · have d1 : decide (x < y) = false := by simp; omega
    have d2 : decide (y < x) = true := by simpa using h
    rw [if_neg (by omega), if_pos h]
    go_enter Tryz.func186, Tryz.ntmps186
    go_wp2_with (first | (go_at_call 191; (first | with_reducible refine (hx _).mono ?_ | with_reducible refine (hy _).mono ?_); rintro e w' ⟨rfl, rfl⟩))
    go_ret
    exact ⟨rfl, rfl⟩
def orI (x y : Int) : Int := if x ≠ 0 then x else y
set_option maxHeartbeats 1000000 in
/-- cmp.Or of two numbers -/
theorem or_any (x y : Int) (b cap : Nat) (w : World) (h0 : w.cell? ⟨b, 0, none⟩ = some (.int .i64 x)) (h1 : w.cell? ⟨b, 1, none⟩ = some (.int .i64 y)) :
    Calls Tryz.prog 184 #[.slice (some ⟨b, 0, none⟩) 2 cap] w fun e w' => e = .returned (.int .i64 (orI x y)) ∧ w = w' := by
  unfold orI
  by_cases hx : x = 0
  · subst hx
    rw [if_neg (by omega)]
    by_cases hy : y = 0
    · subst hy
      go_enter Tryz.func184, Tryz.ntmps184
      go_wp2
      go_loop [5, 8] (fun _ i => i = .int .i64 0 ∨ i = .int .i64 1 ∨ i = .int .i64 2) (fun _ i => 2 - (intOf i).toNat)
      case atStart => exact .inl rfl
      case round =>
        rcases hrel with rfl | rfl | rfl
        · go_wp2
          go_round
          case rel => exact .inr (.inl rfl)
          case measure => simp [intOf]
        · go_wp2
          go_round
          case rel => exact .inr (.inr rfl)
          case measure => simp [intOf]
        · go_wp2
          go_ret
          exact ⟨rfl, rfl⟩
    · have d : (y != 0) = true := by simpa using hy
      go_enter Tryz.func184, Tryz.ntmps184
      go_wp2
      go_loop [5, 8] (fun _ i => i = .int .i64 0 ∨ i = .int .i64 1) (fun _ i => 2 - (intOf i).toNat)
      case atStart => exact .inl rfl
      case round =>
        rcases hrel with rfl | rfl
        · go_wp2
          go_round
          case rel => exact .inr rfl
          case measure => simp [intOf]
        · go_wp2
          go_ret
          exact ⟨rfl, rfl⟩
  · have d : (x != 0) = true := by simpa using hx
    rw [if_pos hx]
    go_enter Tryz.func184, Tryz.ntmps184
    go_wp2
    go_loop [5, 8] (fun _ i => i = .int .i64 0) (fun _ i => 2 - (intOf i).toNat)
    case atStart => rfl
    case round =>
      subst hrel
      go_wp2
      go_ret
      exact ⟨rfl, rfl⟩
/-- bytes in order -/
def cmpB : List Int → List Int → Int
  | [], [] => 0
  | [], _ :: _ => -1
  | _ :: _, [] => 1
  | x :: a, y :: b => if x - y ≠ 0 then cmpI (x - y) 0 else cmpB a b
theorem sub_any (x y : Int) (w : World) (h : 0 ≤ x ∧ x ≤ 255) (h' : 0 ≤ y ∧ y ≤ 255) : Calls Tryz.prog 188 #[.int .u8 x, .int .u8 y] w fun e w' => e = .returned (.int .i64 (x - y)) ∧ w = w' := by
  go_enter Tryz.func188, Tryz.ntmps188
  go_wp2
  go_ret
  exact ⟨ret_int (by go_num), rfl⟩
theorem cmpB_step (l r : List Int) (q : Nat) (h1 : q < l.length) (h2 : q < r.length) : cmpB (l.drop q) (r.drop q) = if l[q]?.getD 0 - r[q]?.getD 0 ≠ 0 then cmpI (l[q]?.getD 0 - r[q]?.getD 0) 0 else cmpB (l.drop (q + 1)) (r.drop (q + 1)) := by
  rw [List.drop_eq_getElem_cons h1, List.drop_eq_getElem_cons h2, List.getElem?_eq_getElem h1, List.getElem?_eq_getElem h2]
  rfl
theorem cmpB_end (l r : List Int) (q : Nat) (h : q = min l.length r.length) : cmpB (l.drop q) (r.drop q) = cmpI l.length r.length := by
  subst h
  rcases Nat.lt_trichotomy l.length r.length with h | h | h
  · rw [Nat.min_eq_left (by omega), List.drop_length, List.drop_eq_getElem_cons h]
    unfold cmpI; rw [if_pos (by omega)]; rfl
  · rw [Nat.min_eq_left (by omega), List.drop_length, h, List.drop_length]
    simp [cmpB, cmpI]
  · rw [Nat.min_eq_right (by omega), List.drop_length, List.drop_eq_getElem_cons h]
    unfold cmpI; rw [if_neg (by omega), if_pos (by omega)]; rfl
set_option maxHeartbeats 2000000 in
theorem listsB_any (a b : Option Addr) (c d m n : Nat) (l r : List Int) (w : World) (hl : Row w .u8 a m c l) (hr : Row w .u8 b n d r) (hbl : Bytes l) (hbr : Bytes r) :
    Calls Tryz.prog 187 #[.slice a m c, .slice b n d, .func (.func 188) #[] #[]] w fun e w' => e = .returned (.int .i64 (cmpB l r)) ∧ ∃ k, w' = w.drewN k := by
  obtain ⟨l1, l2, l3, l4⟩ := hl
  obtain ⟨r1, r2, r3, r4⟩ := hr
  unfold maxLen at l3 r3
  have hcm := fun w => cmpInt_any (m : Int) (n : Int) w
  obtain ⟨z, hz⟩ : ∃ z, cmpB l r = z := ⟨_, rfl⟩
  rw [hz]
  have HZ := Lib.hid hz; clear hz
  rcases Nat.lt_or_ge n m with hmn | hmn
  all_goals (
    go_enter Tryz.func187, Tryz.ntmps187
    go_wp2_with fail
    all_goals (first | (exfalso; omega) | skip)
    go_loopw [7, 8, 14] (fun _ _ i wr => ∃ q nq : Nat, q ≤ m ∧ q ≤ n ∧ i = .int .i64 (q : Int) ∧ wr = w.drewN nq ∧ Hid (cmpB (l.drop q) (r.drop q) = z)) (fun _ _ i _ => m - (intOf i).toNat))
  all_goals (first | (case' atStart => exact ⟨0, 0, Nat.zero_le _, Nat.zero_le _, rfl, rfl, HZ.out⟩) | skip)
  all_goals (
    obtain ⟨q, n1, hq1, hq2, rfl, hwr, HQ⟩ := hrel
    by_cases hqq : q < m ∧ q < n
    · obtain ⟨ba, oa, rfl, ca⟩ : ∃ b off, a = some ⟨b, off, none⟩ ∧ ∀ i, i < m → w.cell? ⟨b, off + i, none⟩ = some (.int .u8 (l[i]?.getD 0)) := by
        rcases l4 with h | h
        · omega
        · exact h
      obtain ⟨bb, ob, rfl, cb⟩ : ∃ b' off, b = some ⟨b', off, none⟩ ∧ ∀ i, i < n → w.cell? ⟨b', off + i, none⟩ = some (.int .u8 (r[i]?.getD 0)) := by
        rcases r4 with h | h
        · omega
        · exact h
      have g1 : wr.cell? ⟨ba, oa + q, none⟩ = some (.int .u8 (l[q]?.getD 0)) := by rw [hwr]; exact ca q hqq.1
      have g2 : wr.cell? ⟨bb, ob + q, none⟩ = some (.int .u8 (r[q]?.getD 0)) := by rw [hwr]; exact cb q hqq.2
      have HW := Lib.hid hwr
      clear hwr
      have hst := cmpB_step l r q (by omega) (by omega)
      rw [HQ.out] at hst
      have hsub := fun w => (sub_any (l[q]?.getD 0) (r[q]?.getD 0) w (hbl q) (hbr q)).mono fun e w' h => (⟨h.1, h.2.symm⟩ : e = .returned (.int .i64 (l[q]?.getD 0 - r[q]?.getD 0)) ∧ w' = w)
      obtain ⟨u, hu⟩ : ∃ u, l[q]?.getD 0 = u := ⟨_, rfl⟩
      obtain ⟨v, hv⟩ : ∃ v, r[q]?.getD 0 = v := ⟨_, rfl⟩
      rw [hu] at g1 hst hsub
      rw [hv] at g2 hst hsub
      obtain ⟨o, ho⟩ : ∃ o, u - v = o := ⟨_, rfl⟩
      rw [ho] at hst hsub
      have hcz := fun w => cmpInt_any o 0 w
      have HST := Lib.hid hst
      have hd1 : decide (q < m) = true := by simpa using hqq.1
      have hd2 : decide (q < n) = true := by simpa using hqq.2
      have hlt1 := hqq.1
      have hlt2 := hqq.2
      clear hst hu hv ho ca cb l4 r4 HQ hqq hbl hbr
      by_cases ho : o = 0
      · subst ho
        go_wp2_with fail
        go_quiet (first | (go_at_call 188; refine Calls.quiet_of_same (hsub _)))
        go_wp2_with fail
        go_roundw
        all_goals (first | (case' rel => exact ⟨q + 1, _, by omega, by omega, by go_num, by rw [HW.out, World.drewN_drewN], (HST.out.trans (if_neg (by omega))).symm⟩) | (case' measure => simp [intOf]; omega))
      · have hne : (o != 0) = true := by simpa using ho
        go_wp2_with fail
        go_quiet (first | (go_at_call 188; refine Calls.quiet_of_same (hsub _)))
        go_wp2_with (first | (go_at_call 185; (with_reducible refine (hcz _).mono ?_); rintro e w' ⟨rfl, rfl⟩))
        go_ret
        exact ⟨ret_int (HST.out.trans (if_pos (by omega))).symm, _, by rw [HW.out, World.drewN_drewN]⟩
    · have hq : q = min l.length r.length := by omega
      have hen := cmpB_end l r q hq
      rw [HQ.out, l1, r1] at hen
      have HE := Lib.hid hen
      clear hen
      have hd : decide (q < m) = false ∨ decide (q < n) = false := by simp; omega
      first
        | (have hd1 : decide (q < m) = false := by simp; omega)
        | (have hd1 : decide (q < n) = false := by simp; omega)
      clear l4 r4 hqq hq hd
      go_wp2_with (first | (go_at_call 185; (with_reducible refine (hcm _).mono ?_); rintro e w' ⟨rfl, rfl⟩))
      all_goals (first | (exfalso; omega) | skip)
      go_ret
      exact ⟨ret_int HE.out.symm, _, rfl⟩)
end Go.Proofs.YtdogdbibhmhooaaGreat

/- The order of lists of values. -/
namespace Go.Proofs.YtdogdbibhmhooaaGreat
open Go.RowKit Go.Shelf
mutual
def cmpV : PV → PV → Int
  | .mk k n s l, .mk k' n' s' l' => if orI (cmpI k k') (cmpI n n') ≠ 0 then orI (cmpI k k') (cmpI n n') else if strB s ≠ strB s' then cmpB (strB s) (strB s') else cmpL l l'
def cmpL : List PV → List PV → Int
  | [], [] => 0
  | [], _ :: _ => -1
  | _ :: _, [] => 1
  | x :: a, y :: b => if cmpV x y ≠ 0 then cmpI (cmpV x y) 0 else cmpL a b
end
theorem cmpL_step (l r : List PV) (q : Nat) (x y : PV) (h1 : l[q]? = some x) (h2 : r[q]? = some y) : cmpL (l.drop q) (r.drop q) = if cmpV x y ≠ 0 then cmpI (cmpV x y) 0 else cmpL (l.drop (q + 1)) (r.drop (q + 1)) := by
  obtain ⟨g1, rfl⟩ := List.getElem?_eq_some_iff.1 h1
  obtain ⟨g2, rfl⟩ := List.getElem?_eq_some_iff.1 h2
  rw [List.drop_eq_getElem_cons g1, List.drop_eq_getElem_cons g2]
  simp only [cmpL]
theorem cmpL_end (l r : List PV) (q : Nat) (h : q = min l.length r.length) : cmpL (l.drop q) (r.drop q) = cmpI l.length r.length := by
  subst h
  rcases Nat.lt_trichotomy l.length r.length with h | h | h
  · rw [Nat.min_eq_left (by omega), List.drop_length, List.drop_eq_getElem_cons h]
    unfold cmpI; rw [if_pos (by omega)]; simp only [cmpL]
  · rw [Nat.min_eq_left (by omega), List.drop_length, h, List.drop_length]
    simp [cmpL, cmpI]
  · rw [Nat.min_eq_right (by omega), List.drop_length, List.drop_eq_getElem_cons h]
    unfold cmpI; rw [if_neg (by omega), if_pos (by omega)]; simp only [cmpL]
theorem below_drew (w : World) : Below w.heap.size w w.drew := ⟨rfl, rfl, rfl, Nat.le_refl _, fun _ _ => rfl⟩
set_option maxHeartbeats 2000000 in
theorem listsV_any (l r : List PV)
    (hc : ∀ x ∈ l, ∀ y ∈ r, ∀ w v v', Is w x v → Is w y v' → Calls Tryz.prog 183 #[v, v'] w fun e w' => e = .returned (.int .i64 (cmpV x y)) ∧ Below w.heap.size w w')
    (w : World) (a b : Option Addr) (c d m n : Nat) (hm : l.length = m) (hn : r.length = n) (l2 : m ≤ c) (l3 : c ≤ maxLen) (r2 : n ≤ d) (r3 : d ≤ maxLen)
    (l4 : l = [] ∨ ∃ b off, a = some ⟨b, off, none⟩ ∧ IsL w b l off) (r4 : r = [] ∨ ∃ b' off, b = some ⟨b', off, none⟩ ∧ IsL w b' r off) :
    Calls Tryz.prog 189 #[.slice a m c, .slice b n d, .func (.func 183) #[] #[]] w fun e w' => e = .returned (.int .i64 (cmpL l r)) ∧ Below w.heap.size w w' := by
  unfold maxLen at l3 r3
  have hcm := fun w => cmpInt_any (m : Int) (n : Int) w
  obtain ⟨z, hz⟩ : ∃ z, cmpL l r = z := ⟨_, rfl⟩
  rw [hz]
  have HZ := Lib.hid hz; clear hz
  have HC := Lib.hid hc; clear hc
  rcases Nat.lt_or_ge n m with hmn | hmn
  all_goals (
    go_enter Tryz.func189, Tryz.ntmps189
    go_wp2_with fail
    all_goals (first | (exfalso; omega) | skip)
    go_loopw [7, 8, 14] (fun _ _ i wr => ∃ q : Nat, q ≤ m ∧ q ≤ n ∧ i = .int .i64 (q : Int) ∧ Below w.heap.size w wr ∧ Hid (cmpL (l.drop q) (r.drop q) = z)) (fun _ _ i _ => m - (intOf i).toNat))
  all_goals (first | (case' atStart => exact ⟨0, Nat.zero_le _, Nat.zero_le _, rfl, Below.refl _ _, HZ.out⟩) | skip)
  all_goals (
    obtain ⟨q, hq1, hq2, rfl, hB, HQ⟩ := hrel
    by_cases hqq : q < m ∧ q < n
    · obtain ⟨x, hx⟩ : ∃ x, l[q]? = some x := ⟨l[q]'(by omega), List.getElem?_eq_getElem (by omega)⟩
      obtain ⟨y, hy⟩ : ∃ y, r[q]? = some y := ⟨r[q]'(by omega), List.getElem?_eq_getElem (by omega)⟩
      obtain ⟨ba, oa, rfl, ca⟩ : ∃ b off, a = some ⟨b, off, none⟩ ∧ IsL w b l off := by
        rcases l4 with h | h
        · subst h; simp at hm; omega
        · exact h
      obtain ⟨bb, ob, rfl, cb⟩ : ∃ b' off, b = some ⟨b', off, none⟩ ∧ IsL w b' r off := by
        rcases r4 with h | h
        · subst h; simp at hn; omega
        · exact h
      have hst := cmpL_step l r q x y hx hy
      rw [HQ.out] at hst
      obtain ⟨o, ho⟩ : ∃ o, cmpV x y = o := ⟨_, rfl⟩
      have hcall := HC.out x (List.mem_of_getElem? hx) y (List.mem_of_getElem? hy)
      rw [ho] at hst hcall
      cases x with
      | mk xk xn xs xl =>
      cases y with
      | mk yk yn ys yl =>
      obtain ⟨xa, xc, ⟨g0, g1, g2, g3⟩, hix⟩ := isL_val (isL_below hB ca) q _ _ _ _ hx
      obtain ⟨ya, yc, ⟨k0, k1, k2, k3⟩, hiy⟩ := isL_val (isL_below hB cb) q _ _ _ _ hy
      have hix2 := Lib.hid (is_below (below_drew wr) _ _ hix)
      have hiy2 := Lib.hid (is_below (below_drew wr) _ _ hiy)
      have HCALL := Lib.hid hcall
      have hcz := fun w => cmpInt_any o 0 w
      have HST := Lib.hid hst
      have hd1 : decide (q < m) = true := by simpa using hqq.1
      have hd2 : decide (q < n) = true := by simpa using hqq.2
      have hlt1 := hqq.1
      have hlt2 := hqq.2
      clear hst hx hy ho ca cb l4 r4 HQ hqq hcall hix hiy
      by_cases ho : o = 0
      · subst ho
        go_wp2_with fail
        go_region_with (first | (go_at_call 183; (with_reducible refine (HCALL.out _ _ _ hix2.out hiy2.out).mono ?_); rintro e w' ⟨rfl, hb⟩))
        all_goals (
          go_wp2_with fail
          go_roundw
          all_goals (first | (case' rel => exact ⟨q + 1, by omega, by omega, by go_num, hB.trans (((below_drew wr).trans (hb.mono (below_drew wr).size)).mono hB.size), (HST.out.trans (if_neg (by omega))).symm⟩) | (case' measure => simp [intOf]; omega)))
      · have hne : (o != 0) = true := by simpa using ho
        go_wp2_with fail
        go_region_with (first | (go_at_call 183; (with_reducible refine (HCALL.out _ _ _ hix2.out hiy2.out).mono ?_); rintro e w' ⟨rfl, hb⟩))
        all_goals (
          go_wp2_with (first | (go_at_call 185; (with_reducible refine (hcz _).mono ?_); rintro e w' ⟨rfl, rfl⟩))
          go_ret
          exact ⟨ret_int (HST.out.trans (if_pos (by omega))).symm, hB.trans (((below_drew wr).trans (hb.mono (below_drew wr).size)).mono hB.size)⟩)
    · have hq : q = min l.length r.length := by omega
      have hen := cmpL_end l r q hq
      rw [HQ.out, hm, hn] at hen
      have HE := Lib.hid hen
      clear hen
      have hd : decide (q < m) = false ∨ decide (q < n) = false := by simp; omega
      first
        | (have hd1 : decide (q < m) = false := by simp; omega)
        | (have hd1 : decide (q < n) = false := by simp; omega)
      clear l4 r4 hqq hq hd
      go_wp2_with (first | (go_at_call 185; (with_reducible refine (hcm _).mono ?_); rintro e w' ⟨rfl, rfl⟩))
      all_goals (first | (exfalso; omega) | skip)
      go_ret
      exact ⟨ret_int HE.out.symm, hB⟩)
end Go.Proofs.YtdogdbibhmhooaaGreat

/- The order of values: Compare, Same. -/
namespace Go.Proofs.YtdogdbibhmhooaaGreat
open Go.RowKit Go.Shelf
theorem box2_cells {w W : World} {k n k' n' : Int} {s s' : ByteArray} {a a' : Option Addr} {len cap len' cap' : Nat}
    (hb : Below ((w.alloc (vobj k n s a len cap)).alloc (vobj k' n' s' a' len' cap')).heap.size ((w.alloc (vobj k n s a len cap)).alloc (vobj k' n' s' a' len' cap')) W) :
    (W.cell? ⟨w.heap.size, 0, none⟩ = some (.int .i64 k) ∧ W.cell? ⟨w.heap.size, 1, none⟩ = some (.int .i64 n) ∧ W.cell? ⟨w.heap.size, 2, none⟩ = some (.string s) ∧ W.cell? ⟨w.heap.size, 3, none⟩ = some (.slice a len cap)) ∧
    (W.cell? ⟨w.heap.size + 1, 0, none⟩ = some (.int .i64 k') ∧ W.cell? ⟨w.heap.size + 1, 1, none⟩ = some (.int .i64 n') ∧ W.cell? ⟨w.heap.size + 1, 2, none⟩ = some (.string s') ∧ W.cell? ⟨w.heap.size + 1, 3, none⟩ = some (.slice a' len' cap')) := by
  have h1 := (Below.refl _ (w.alloc (vobj k n s a len cap))).alloc (Nat.le_refl _) (vobj k' n' s' a' len' cap')
  have h2 := box_cells hb
  rw [World.size_alloc] at h2
  exact ⟨box_cells (h1.trans (hb.mono h1.size)), h2⟩
theorem strB_inj {s t : ByteArray} (h : strB s = strB t) : s = t := by
  rw [← strOfNums_strB s, h, strOfNums_strB]
theorem new2 (W : World) (x y : Value) (t : TypeId) (g : Nat) (hg : g = W.heap.size) : (W.alloc (.cells #[x, y] t)).cell? ⟨g, 0, none⟩ = some x ∧ (W.alloc (.cells #[x, y] t)).cell? ⟨g, 1, none⟩ = some y := by
  subst hg; exact ⟨by simp, by simp⟩
set_option maxHeartbeats 2000000 in
theorem compare_any (v : PV) : ∀ v' w x y, Is w v x → Is w v' y → Calls Tryz.prog 183 #[x, y] w fun e w' => e = .returned (.int .i64 (cmpV v v')) ∧ Below w.heap.size w w' := by
  induction v using pv_ind with
  | h k n s l ih =>
    intro v' w x y hi hi'
    obtain ⟨k', n', s', l', rfl⟩ : ∃ k m s l, v' = .mk k m s l := by cases v'; exact ⟨_, _, _, _, rfl⟩
    unfold Is at hi hi'
    obtain ⟨h1, h2, h3, a, cap, rfl, h4, h5, h6⟩ := hi
    obtain ⟨i1, i2, i3, a', cap', rfl, i4, i5, i6⟩ := hi'
    have hB1 := (Below.refl _ w).alloc (Nat.le_refl _) (vobj k n s a l.length cap)
    have hB2 := hB1.alloc hB1.size (vobj k' n' s' a' l'.length cap')
    have hk := fun w => cmpInt_any k k' w
    have hn := fun w => cmpInt64_any n n' w
    have hL := fun w l4 r4 => listsV_any l l' (fun x hx y _ w v v' hv hv' => ih x hx y w v v' hv hv') w a a' cap cap' _ _ rfl rfl h4 h5 i4 i5 l4 r4
    simp only [cmpV]
    obtain ⟨ck, hck⟩ : ∃ c, cmpI k k' = c := ⟨_, rfl⟩
    obtain ⟨cn, hcn⟩ : ∃ c, cmpI n n' = c := ⟨_, rfl⟩
    rw [hck] at hk ⊢
    rw [hcn] at hn ⊢
    obtain ⟨o, ho⟩ : ∃ o, orI ck cn = o := ⟨_, rfl⟩
    have hor := fun b W (q0 : W.cell? ⟨b, 0, none⟩ = some (.int .i64 ck)) (q1 : W.cell? ⟨b, 1, none⟩ = some (.int .i64 cn)) => or_any ck cn b 2 W q0 q1
    rw [ho] at hor ⊢
    have HOR := Lib.hid hor
    clear hck hcn ho hor ih
    have hB4 := (hB2.alloc hB2.size (.cells #[.int .i64 ck, .int .i64 cn] 3)).drew
    by_cases ho : o = 0
    · subst ho
      rw [if_neg (by omega)]
      obtain ⟨r, hr⟩ : ∃ r, (if strB s ≠ strB s' then cmpB (strB s) (strB s') else cmpL l l') = r := ⟨_, rfl⟩
      rw [hr]
      have HR := Lib.hid hr; clear hr
      go_enter Tryz.func183, Tryz.ntmps183
      go_wp2_with fail
      go_region_held3 (fun W => (W.cell? ⟨w.heap.size, 0, none⟩ = some (.int .i64 k) ∧ W.cell? ⟨w.heap.size, 1, none⟩ = some (.int .i64 n)) ∧ (W.cell? ⟨w.heap.size + 1, 0, none⟩ = some (.int .i64 k') ∧ W.cell? ⟨w.heap.size + 1, 1, none⟩ = some (.int .i64 n'))) (go_keep) (first
        | (go_at_call 185; (with_reducible refine (hk _).mono ?_); rintro e w' ⟨rfl, rfl⟩)
        | (go_at_call 186; (with_reducible refine (hn _).mono ?_); rintro e w' ⟨rfl, rfl⟩)
        | (go_at_call 184; (refine (HOR.out _ _ (by simp; exact (new2 _ _ _ _ _ (by simp)).1) (by simp; exact (new2 _ _ _ _ _ (by simp)).2)).mono ?_); rintro e w' ⟨rfl, rfl⟩))
      rename_i hSS
      clear hSS
      have hB24 := (((Below.refl _ ((w.alloc (vobj k n s a l.length cap)).alloc (vobj k' n' s' a' l'.length cap'))).alloc (Nat.le_refl _) (.cells #[.int .i64 ck, .int .i64 cn] 3))).drew
      obtain ⟨⟨c0, c1, c2, c3⟩, d0, d1, d2, d3⟩ := box2_cells hB24
      generalize (((w.alloc (vobj k n s a l.length cap)).alloc (vobj k' n' s' a' l'.length cap')).alloc (.cells #[.int .i64 ck, .int .i64 cn] 3)).drew = W4 at *
      have h64 : l = [] ∨ ∃ b off, a = some ⟨b, off, none⟩ ∧ IsL W4 b l off := by
        rcases h6 with h6 | ⟨b, off, rfl, h6⟩
        · exact .inl h6
        · exact .inr ⟨b, off, rfl, isL_below hB4 h6⟩
      have i64 : l' = [] ∨ ∃ b off, a' = some ⟨b, off, none⟩ ∧ IsL W4 b l' off := by
        rcases i6 with h6 | ⟨b, off, rfl, h6⟩
        · exact .inl h6
        · exact .inr ⟨b, off, rfl, isL_below hB4 h6⟩
      have hLL := hL W4 h64 i64
      clear h6 i6 h64 i64 hL
      by_cases hss : s = s'
      · subst hss
        have HR2 := Lib.hid (HR.out.symm.trans (if_neg (by simp)))
        go_wp2_with (first | (go_at_call 189; (with_reducible refine hLL.mono ?_); rintro e w' ⟨rfl, hb⟩))
        go_ret
        exact ⟨ret_int HR2.out.symm, hB4.trans (hb.mono hB4.size)⟩
      · have hne : (s.toList == s'.toList) = false := by
          rw [toList_data, toList_data]
          simp only [beq_eq_false_iff_ne, ne_eq]
          exact fun h => hss (ByteArray.ext (Array.toList_inj.1 h))
        have HR2 := Lib.hid (HR.out.symm.trans (if_pos (fun h => hss (strB_inj h))))
        clear hss
        obtain ⟨q1, w1, run1, row1, hb1⟩ := conv_bytes W4 s h3
        have d2 := cell_below hb1 d2
        have d3 := cell_below hb1 d3
        obtain ⟨q2, w2, run2, row2, hb2⟩ := conv_bytes w1 s' i3
        have hlb := listsB_any _ _ _ _ _ _ _ _ w2 (row_below row1 hb2 rfl) row2 (strB_bytes s) (strB_bytes s')
        have hB5 := hB4.trans ((hb1.trans (hb2.mono hb1.size)).mono hB4.size)
        clear row1 row2
        go_wp2_with (first | (go_at_call 187; (with_reducible refine hlb.mono ?_); rintro e w' ⟨rfl, m, rfl⟩))
        go_ret
        exact ⟨ret_int HR2.out.symm, below_drewN hB5 m⟩
    · have hne : (o != 0) = true := by simpa using ho
      rw [if_pos (by omega)]
      go_enter Tryz.func183, Tryz.ntmps183
      go_wp2_with fail
      go_region_held3 (fun W => (W.cell? ⟨w.heap.size, 0, none⟩ = some (.int .i64 k) ∧ W.cell? ⟨w.heap.size, 1, none⟩ = some (.int .i64 n)) ∧ (W.cell? ⟨w.heap.size + 1, 0, none⟩ = some (.int .i64 k') ∧ W.cell? ⟨w.heap.size + 1, 1, none⟩ = some (.int .i64 n'))) (go_keep) (first
        | (go_at_call 185; (with_reducible refine (hk _).mono ?_); rintro e w' ⟨rfl, rfl⟩)
        | (go_at_call 186; (with_reducible refine (hn _).mono ?_); rintro e w' ⟨rfl, rfl⟩)
        | (go_at_call 184; (refine (HOR.out _ _ (by simp; exact (new2 _ _ _ _ _ (by simp)).1) (by simp; exact (new2 _ _ _ _ _ (by simp)).2)).mono ?_); rintro e w' ⟨rfl, rfl⟩))
      go_wp2_with fail
      go_ret
      exact ⟨rfl, hB4⟩
set_option maxHeartbeats 1000000 in
theorem same_any (v v' : PV) (w : World) (x y : Value) (hi : Is w v x) (hi' : Is w v' y) : Calls Tryz.prog 178 #[x, y] w fun e w' => e = .returned (.bool (cmpV v v' == 0)) ∧ Below w.heap.size w w' := by
  have hc := fun w x y hi hi' => compare_any v v' w x y hi hi'
  obtain ⟨c, hcv⟩ : ∃ c, cmpV v v' = c := ⟨_, rfl⟩
  rw [hcv] at hc ⊢
  clear hcv
  obtain ⟨k, n, s, l, rfl⟩ : ∃ k m s l, v = .mk k m s l := by cases v; exact ⟨_, _, _, _, rfl⟩
  obtain ⟨k', n', s', l', rfl⟩ : ∃ k m s l, v' = .mk k m s l := by cases v'; exact ⟨_, _, _, _, rfl⟩
  have hi2 := Lib.hid hi
  have hi3 := Lib.hid hi'
  unfold Is at hi hi'
  obtain ⟨h1, h2, h3, a, cap, rfl, h4, h5, h6⟩ := hi
  obtain ⟨i1, i2, i3, a', cap', rfl, i4, i5, i6⟩ := hi'
  have hB1 := (Below.refl _ w).alloc (Nat.le_refl _) (vobj k n s a l.length cap)
  have hB2 := hB1.alloc hB1.size (vobj k' n' s' a' l'.length cap')
  clear h6 i6
  go_enter Tryz.func178, Tryz.ntmps178
  go_wp2_with (first | (go_at_call 183; (with_reducible refine (hc _ _ _ (is_below hB2 _ _ hi2.out) (is_below hB2 _ _ hi3.out)).mono ?_); rintro e w' ⟨rfl, hb⟩))
  go_ret
  exact ⟨rfl, hB2.trans (hb.mono hB2.size)⟩
end Go.Proofs.YtdogdbibhmhooaaGreat
