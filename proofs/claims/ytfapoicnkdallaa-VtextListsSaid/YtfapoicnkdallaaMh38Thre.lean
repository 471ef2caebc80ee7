/- The order of lists of values. -/
import Derived.Test.YtfapoicnkdallaaMh4Thre
import Derived.Test.YtfapoicnkdallaaMh37Thre
namespace Go.Proofs.Ytfapoicnkdallaa
open Go.RowKit Go.Shelf
mutual
def cmpV : PV → PV → Int
  | .mk k n s l, .mk k' n' s' l' => if orI (cmpI k k') (cmpI n n') ≠ 0 then orI (cmpI k k') (cmpI n n') else if strB s ≠ strB s' then cmpB (strB s) (strB s') else cmpL l l'
def cmpL : List PV → List PV → Int
  | [], [] => 0
  | [], _ :: _ => -1
  | _ :: _, [] => 1
  | x :: a, y :: b => if cmpV x y ≠ 0 then cmpI (cmpV x y) 0 else cmpL a b
end
theorem cmpL_step (l r : List PV) (q : Nat) (x y : PV) (h1 : l[q]? = some x) (h2 : r[q]? = some y) : cmpL (l.drop q) (r.drop q) = if cmpV x y ≠ 0 then cmpI (cmpV x y) 0 else cmpL (l.drop (q + 1)) (r.drop (q + 1)) := by
  obtain ⟨g1, rfl⟩ := List.getElem?_eq_some_iff.1 h1
  obtain ⟨g2, rfl⟩ := List.getElem?_eq_some_iff.1 h2
  rw [List.drop_eq_getElem_cons g1, List.drop_eq_getElem_cons g2]
  simp only [cmpL]
theorem cmpL_end (l r : List PV) (q : Nat) (h : q = min l.length r.length) : cmpL (l.drop q) (r.drop q) = cmpI l.length r.length := by
  subst h
  rcases Nat.lt_trichotomy l.length r.length with h | h | h
  · rw [Nat.min_eq_left (by omega), List.drop_length, List.drop_eq_getElem_cons h]
    unfold cmpI; rw [if_pos (by omega)]; simp only [cmpL]
  · rw [Nat.min_eq_left (by omega), List.drop_length, h, List.drop_length]
    simp [cmpL, cmpI]
  · rw [Nat.min_eq_right (by omega), List.drop_length, List.drop_eq_getElem_cons h]
    unfold cmpI; rw [if_neg (by omega), if_pos (by omega)]; simp only [cmpL]
theorem below_drew (w : World) : Below w.heap.size w w.drew := ⟨rfl, rfl, rfl, Nat.le_refl _, fun _ _ => rfl⟩
set_option maxHeartbeats 2000000 in
theorem listsV_any (l r : List PV)
    (hc : ∀ x ∈ l, ∀ y ∈ r, ∀ w v v', Is w x v → Is w y v' → Calls Try.prog 28 #[v, v'] w fun e w' => e = .returned (.int .i64 (cmpV x y)) ∧ Below w.heap.size w w')
    (w : World) (a b : Option Addr) (c d m n : Nat) (hm : l.length = m) (hn : r.length = n) (l2 : m ≤ c) (l3 : c ≤ maxLen) (r2 : n ≤ d) (r3 : d ≤ maxLen)
    (l4 : l = [] ∨ ∃ b off, a = some ⟨b, off, none⟩ ∧ IsL w b l off) (r4 : r = [] ∨ ∃ b' off, b = some ⟨b', off, none⟩ ∧ IsL w b' r off) :
    Calls Try.prog 53 #[.slice a m c, .slice b n d, .func (.func 28) #[] #[]] w fun e w' => e = .returned (.int .i64 (cmpL l r)) ∧ Below w.heap.size w w' := by
  unfold maxLen at l3 r3
  have hcm := fun w => cmpInt_any (m : Int) (n : Int) w
  obtain ⟨z, hz⟩ : ∃ z, cmpL l r = z := ⟨_, rfl⟩
  rw [hz]
  have HZ := Lib.hid hz; clear hz
  have HC := Lib.hid hc; clear hc
  rcases Nat.lt_or_ge n m with hmn | hmn
  all_goals (
    go_enter Try.func53, Try.ntmps53
    go_wp2_with fail
    all_goals (first | (exfalso; omega) | skip)
    go_loopw [7, 8, 14] (fun _ _ i wr => ∃ q : Nat, q ≤ m ∧ q ≤ n ∧ i = .int .i64 (q : Int) ∧ Below w.heap.size w wr ∧ Hid (cmpL (l.drop q) (r.drop q) = z)) (fun _ _ i _ => m - (intOf i).toNat))
  all_goals (first | (case' atStart => exact ⟨0, Nat.zero_le _, Nat.zero_le _, rfl, Below.refl _ _, HZ.out⟩) | skip)
  all_goals (
    obtain ⟨q, hq1, hq2, rfl, hB, HQ⟩ := hrel
    by_cases hqq : q < m ∧ q < n
    · obtain ⟨x, hx⟩ : ∃ x, l[q]? = some x := ⟨l[q]'(by omega), List.getElem?_eq_getElem (by omega)⟩
      obtain ⟨y, hy⟩ : ∃ y, r[q]? = some y := ⟨r[q]'(by omega), List.getElem?_eq_getElem (by omega)⟩
      obtain ⟨ba, oa, rfl, ca⟩ : ∃ b off, a = some ⟨b, off, none⟩ ∧ IsL w b l off := by
        rcases l4 with h | h
        · subst h; simp at hm; omega
        · exact h
      obtain ⟨bb, ob, rfl, cb⟩ : ∃ b' off, b = some ⟨b', off, none⟩ ∧ IsL w b' r off := by
        rcases r4 with h | h
        · subst h; simp at hn; omega
        · exact h
      have hst := cmpL_step l r q x y hx hy
      rw [HQ.out] at hst
      obtain ⟨o, ho⟩ : ∃ o, cmpV x y = o := ⟨_, rfl⟩
      have hcall := HC.out x (List.mem_of_getElem? hx) y (List.mem_of_getElem? hy)
      rw [ho] at hst hcall
      cases x with
      | mk xk xn xs xl =>
      cases y with
      | mk yk yn ys yl =>
      obtain ⟨xa, xc, ⟨g0, g1, g2, g3⟩, hix⟩ := isL_val (isL_below hB ca) q _ _ _ _ hx
      obtain ⟨ya, yc, ⟨k0, k1, k2, k3⟩, hiy⟩ := isL_val (isL_below hB cb) q _ _ _ _ hy
      have hix2 := Lib.hid (is_below (below_drew wr) _ _ hix)
      have hiy2 := Lib.hid (is_below (below_drew wr) _ _ hiy)
      have HCALL := Lib.hid hcall
      have hcz := fun w => cmpInt_any o 0 w
      have HST := Lib.hid hst
      have hd1 : decide (q < m) = true := by simpa using hqq.1
      have hd2 : decide (q < n) = true := by simpa using hqq.2
      have hlt1 := hqq.1
      have hlt2 := hqq.2
      clear hst hx hy ho ca cb l4 r4 HQ hqq hcall hix hiy
      by_cases ho : o = 0
      · subst ho
        go_wp2_with fail
        go_region_with (first | (go_at_call 28; (with_reducible refine (HCALL.out _ _ _ hix2.out hiy2.out).mono ?_); rintro e w' ⟨rfl, hb⟩))
        all_goals (
          go_wp2_with fail
          go_roundw
          all_goals (first | (case' rel => exact ⟨q + 1, by omega, by omega, by go_num, hB.trans (((below_drew wr).trans (hb.mono (below_drew wr).size)).mono hB.size), (HST.out.trans (if_neg (by omega))).symm⟩) | (case' measure => simp [intOf]; omega)))
      · have hne : (o != 0) = true := by simpa using ho
        go_wp2_with fail
        go_region_with (first | (go_at_call 28; (with_reducible refine (HCALL.out _ _ _ hix2.out hiy2.out).mono ?_); rintro e w' ⟨rfl, hb⟩))
        all_goals (
          go_wp2_with (first | (go_at_call 49; (with_reducible refine (hcz _).mono ?_); rintro e w' ⟨rfl, rfl⟩))
          go_ret
          exact ⟨ret_int (HST.out.trans (if_pos (by omega))).symm, hB.trans (((below_drew wr).trans (hb.mono (below_drew wr).size)).mono hB.size)⟩)
    · have hq : q = min l.length r.length := by omega
      have hen := cmpL_end l r q hq
      rw [HQ.out, hm, hn] at hen
      have HE := Lib.hid hen
      clear hen
      have hd : decide (q < m) = false ∨ decide (q < n) = false := by simp; omega
      first
        | (have hd1 : decide (q < m) = false := by simp; omega)
        | (have hd1 : decide (q < n) = false := by simp; omega)
      clear l4 r4 hqq hq hd
      go_wp2_with (first | (go_at_call 49; (with_reducible refine (hcm _).mono ?_); rintro e w' ⟨rfl, rfl⟩))
      all_goals (first | (exfalso; omega) | skip)
      go_ret
      exact ⟨ret_int HE.out.symm, hB⟩)
end Go.Proofs.Ytfapoicnkdallaa
