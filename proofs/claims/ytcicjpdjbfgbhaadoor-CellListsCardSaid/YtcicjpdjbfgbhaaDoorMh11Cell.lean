/- The order of lists of values. -/
import Derived.Test.YtcicjpdjbfgbhaaDoorMh5Cell
import Derived.Test.YtcicjpdjbfgbhaaDoorMh10Cell
import Derived.Deep.RegionHeld3
import Derived.Test.YtcicjpdjbfgbhaaDoorMh0Cell
import Derived.Lib.AppendStr
import Derived.Deep.RegionWith
import Derived.Deep.RegionLaw
namespace Go.Proofs.YtcicjpdjbfgbhaaDoor
open Go.RowKit Go.Shelf
mutual
def cmpV : PV → PV → Int
  | .mk k n s l, .mk k' n' s' l' => if orI (cmpI k k') (cmpI n n') ≠ 0 then orI (cmpI k k') (cmpI n n') else if strB s ≠ strB s' then cmpB (strB s) (strB s') else cmpL l l'
def cmpL : List PV → List PV → Int
  | [], [] => 0
  | [], _ :: _ => -1
  | _ :: _, [] => 1
  | x :: a, y :: b => if cmpV x y ≠ 0 then cmpI (cmpV x y) 0 else cmpL a b
end
theorem cmpL_step (l r : List PV) (q : Nat) (x y : PV) (h1 : l[q]? = some x) (h2 : r[q]? = some y) : cmpL (l.drop q) (r.drop q) = if cmpV x y ≠ 0 then cmpI (cmpV x y) 0 else cmpL (l.drop (q + 1)) (r.drop (q + 1)) := by
  obtain ⟨g1, rfl⟩ := List.getElem?_eq_some_iff.1 h1
  obtain ⟨g2, rfl⟩ := List.getElem?_eq_some_iff.1 h2
  rw [List.drop_eq_getElem_cons g1, List.drop_eq_getElem_cons g2]
  simp only [cmpL]
theorem cmpL_end (l r : List PV) (q : Nat) (h : q = min l.length r.length) : cmpL (l.drop q) (r.drop q) = cmpI l.length r.length := by
  subst h
  rcases Nat.lt_trichotomy l.length r.length with h | h | h
  · rw [Nat.min_eq_left (by omega), List.drop_length, List.drop_eq_getElem_cons h]
    unfold cmpI; rw [if_pos (by omega)]; simp only [cmpL]
  · rw [Nat.min_eq_left (by omega), List.drop_length, h, List.drop_length]
    simp [cmpL, cmpI]
  · rw [Nat.min_eq_right (by omega), List.drop_length, List.drop_eq_getElem_cons h]
    unfold cmpI; rw [if_neg (by omega), if_pos (by omega)]; simp only [cmpL]
theorem below_drew (w : World) : Below w.heap.size w w.drew := ⟨rfl, rfl, rfl, Nat.le_refl _, fun _ _ => rfl⟩
set_option maxHeartbeats 2000000 in
theorem listsV_any (l r : List PV)
    (hc : ∀ x ∈ l, ∀ y ∈ r, ∀ w v v', Is w x v → Is w y v' → Calls Tryd.prog 25 #[v, v'] w fun e w' => e = .returned (.int .i64 (cmpV x y)) ∧ Below w.heap.size w w')
    (w : World) (a b : Option Addr) (c d m n : Nat) (hm : l.length = m) (hn : r.length = n) (l2 : m ≤ c) (l3 : c ≤ maxLen) (r2 : n ≤ d) (r3 : d ≤ maxLen)
    (l4 : l = [] ∨ ∃ b off, a = some ⟨b, off, none⟩ ∧ IsL w b l off) (r4 : r = [] ∨ ∃ b' off, b = some ⟨b', off, none⟩ ∧ IsL w b' r off) :
    Calls Tryd.prog 50 #[.slice a m c, .slice b n d, .func (.func 25) #[] #[]] w fun e w' => e = .returned (.int .i64 (cmpL l r)) ∧ Below w.heap.size w w' := by
  unfold maxLen at l3 r3
  have hcm := fun w => cmpInt_any (m : Int) (n : Int) w
  obtain ⟨z, hz⟩ : ∃ z, cmpL l r = z := ⟨_, rfl⟩
  rw [hz]
  have HZ := Lib.hid hz; clear hz
  have HC := Lib.hid hc; clear hc
  rcases Nat.lt_or_ge n m with hmn | hmn
  all_goals (
    go_enter Tryd.func50, Tryd.ntmps50
    go_wp2_with fail
    all_goals (first | (exfalso; omega) | skip)
    go_loopw [7, 8, 14] (fun _ _ i wr => ∃ q : Nat, q ≤ m ∧ q ≤ n ∧ i = .int .i64 (q : Int) ∧ Below w.heap.size w wr ∧ Hid (cmpL (l.drop q) (r.drop q) = z)) (fun _ _ i _ => m - (intOf i).toNat))
  all_goals (first | (case' atStart => exact ⟨0, Nat.zero_le _, Nat.zero_le _, rfl, Below.refl _ _, HZ.out⟩) | skip)
  all_goals (
    obtain ⟨q, hq1, hq2, rfl, hB, HQ⟩ := hrel
    by_cases hqq : q < m ∧ q < n
    · obtain ⟨x, hx⟩ : ∃ x, l[q]? = some x := ⟨l[q]'(by omega), List.getElem?_eq_getElem (by omega)⟩
      obtain ⟨y, hy⟩ : ∃ y, r[q]? = some y := ⟨r[q]'(by omega), List.getElem?_eq_getElem (by omega)⟩
      obtain ⟨ba, oa, rfl, ca⟩ : ∃ b off, a = some ⟨b, off, none⟩ ∧ IsL w b l off := by
        rcases l4 with h | h
        · subst h; simp at hm; omega
        · exact h
      obtain ⟨bb, ob, rfl, cb⟩ : ∃ b' off, b = some ⟨b', off, none⟩ ∧ IsL w b' r off := by
        rcases r4 with h | h
        · subst h; simp at hn; omega
        · exact h
      have hst := cmpL_step l r q x y hx hy
      rw [HQ.out] at hst
      obtain ⟨o, ho⟩ : ∃ o, cmpV x y = o := ⟨_, rfl⟩
      have hcall := HC.out x (List.mem_of_getElem? hx) y (List.mem_of_getElem? hy)
      rw [ho] at hst hcall
      cases x with
      | mk xk xn xs xl =>
      cases y with
      | mk yk yn ys yl =>
      obtain ⟨xa, xc, ⟨g0, g1, g2, g3⟩, hix⟩ := isL_val (isL_below hB ca) q _ _ _ _ hx
      obtain ⟨ya, yc, ⟨k0, k1, k2, k3⟩, hiy⟩ := isL_val (isL_below hB cb) q _ _ _ _ hy
      have hix2 := Lib.hid (is_below (below_drew wr) _ _ hix)
      have hiy2 := Lib.hid (is_below (below_drew wr) _ _ hiy)
      have HCALL := Lib.hid hcall
      have hcz := fun w => cmpInt_any o 0 w
      have HST := Lib.hid hst
      have hd1 : decide (q < m) = true := by simpa using hqq.1
      have hd2 : decide (q < n) = true := by simpa using hqq.2
      have hlt1 := hqq.1
      have hlt2 := hqq.2
      clear hst hx hy ho ca cb l4 r4 HQ hqq hcall hix hiy
      by_cases ho : o = 0
      · subst ho
        go_wp2_with fail
        go_region_with (first | (go_at_call 25; (with_reducible refine (HCALL.out _ _ _ hix2.out hiy2.out).mono ?_); rintro e w' ⟨rfl, hb⟩))
        all_goals (
          go_wp2_with fail
          go_roundw
          all_goals (first | (case' rel => exact ⟨q + 1, by omega, by omega, by go_num, hB.trans (((below_drew wr).trans (hb.mono (below_drew wr).size)).mono hB.size), (HST.out.trans (if_neg (by omega))).symm⟩) | (case' measure => simp [intOf]; omega)))
      · have hne : (o != 0) = true := by simpa using ho
        go_wp2_with fail
        go_region_with (first | (go_at_call 25; (with_reducible refine (HCALL.out _ _ _ hix2.out hiy2.out).mono ?_); rintro e w' ⟨rfl, hb⟩))
        all_goals (
          go_wp2_with (first | (go_at_call 46; (with_reducible refine (hcz _).mono ?_); rintro e w' ⟨rfl, rfl⟩))
          go_ret
          exact ⟨ret_int (HST.out.trans (if_pos (by omega))).symm, hB.trans (((below_drew wr).trans (hb.mono (below_drew wr).size)).mono hB.size)⟩)
    · have hq : q = min l.length r.length := by omega
      have hen := cmpL_end l r q hq
      rw [HQ.out, hm, hn] at hen
      have HE := Lib.hid hen
      clear hen
      have hd : decide (q < m) = false ∨ decide (q < n) = false := by simp; omega
      first
        | (have hd1 : decide (q < m) = false := by simp; omega)
        | (have hd1 : decide (q < n) = false := by simp; omega)
      clear l4 r4 hqq hq hd
      go_wp2_with (first | (go_at_call 46; (with_reducible refine (hcm _).mono ?_); rintro e w' ⟨rfl, rfl⟩))
      all_goals (first | (exfalso; omega) | skip)
      go_ret
      exact ⟨ret_int HE.out.symm, hB⟩)
end Go.Proofs.YtcicjpdjbfgbhaaDoor

/- The order of values: Compare, Same. -/
namespace Go.Proofs.YtcicjpdjbfgbhaaDoor
open Go.RowKit Go.Shelf
theorem box2_cells {w W : World} {k n k' n' : Int} {s s' : ByteArray} {a a' : Option Addr} {len cap len' cap' : Nat}
    (hb : Below ((w.alloc (vobj k n s a len cap)).alloc (vobj k' n' s' a' len' cap')).heap.size ((w.alloc (vobj k n s a len cap)).alloc (vobj k' n' s' a' len' cap')) W) :
    (W.cell? ⟨w.heap.size, 0, none⟩ = some (.int .i64 k) ∧ W.cell? ⟨w.heap.size, 1, none⟩ = some (.int .i64 n) ∧ W.cell? ⟨w.heap.size, 2, none⟩ = some (.string s) ∧ W.cell? ⟨w.heap.size, 3, none⟩ = some (.slice a len cap)) ∧
    (W.cell? ⟨w.heap.size + 1, 0, none⟩ = some (.int .i64 k') ∧ W.cell? ⟨w.heap.size + 1, 1, none⟩ = some (.int .i64 n') ∧ W.cell? ⟨w.heap.size + 1, 2, none⟩ = some (.string s') ∧ W.cell? ⟨w.heap.size + 1, 3, none⟩ = some (.slice a' len' cap')) := by
  have h1 := (Below.refl _ (w.alloc (vobj k n s a len cap))).alloc (Nat.le_refl _) (vobj k' n' s' a' len' cap')
  have h2 := box_cells hb
  rw [World.size_alloc] at h2
  exact ⟨box_cells (h1.trans (hb.mono h1.size)), h2⟩
theorem strB_inj {s t : ByteArray} (h : strB s = strB t) : s = t := by
  rw [← strOfNums_strB s, h, strOfNums_strB]
theorem new2 (W : World) (x y : Value) (t : TypeId) (g : Nat) (hg : g = W.heap.size) : (W.alloc (.cells #[x, y] t)).cell? ⟨g, 0, none⟩ = some x ∧ (W.alloc (.cells #[x, y] t)).cell? ⟨g, 1, none⟩ = some y := by
  subst hg; exact ⟨by simp, by simp⟩
set_option maxHeartbeats 2000000 in
theorem compare_any (v : PV) : ∀ v' w x y, Is w v x → Is w v' y → Calls Tryd.prog 25 #[x, y] w fun e w' => e = .returned (.int .i64 (cmpV v v')) ∧ Below w.heap.size w w' := by
  induction v using pv_ind with
  | h k n s l ih =>
    intro v' w x y hi hi'
    obtain ⟨k', n', s', l', rfl⟩ : ∃ k m s l, v' = .mk k m s l := by cases v'; exact ⟨_, _, _, _, rfl⟩
    unfold Is at hi hi'
    obtain ⟨h1, h2, h3, a, cap, rfl, h4, h5, h6⟩ := hi
    obtain ⟨i1, i2, i3, a', cap', rfl, i4, i5, i6⟩ := hi'
    have hB1 := (Below.refl _ w).alloc (Nat.le_refl _) (vobj k n s a l.length cap)
    have hB2 := hB1.alloc hB1.size (vobj k' n' s' a' l'.length cap')
    have hk := fun w => cmpInt_any k k' w
    have hn := fun w => cmpInt64_any n n' w
    have hL := fun w l4 r4 => listsV_any l l' (fun x hx y _ w v v' hv hv' => ih x hx y w v v' hv hv') w a a' cap cap' _ _ rfl rfl h4 h5 i4 i5 l4 r4
    simp only [cmpV]
    obtain ⟨ck, hck⟩ : ∃ c, cmpI k k' = c := ⟨_, rfl⟩
    obtain ⟨cn, hcn⟩ : ∃ c, cmpI n n' = c := ⟨_, rfl⟩
    rw [hck] at hk ⊢
    rw [hcn] at hn ⊢
    obtain ⟨o, ho⟩ : ∃ o, orI ck cn = o := ⟨_, rfl⟩
    have hor := fun b W (q0 : W.cell? ⟨b, 0, none⟩ = some (.int .i64 ck)) (q1 : W.cell? ⟨b, 1, none⟩ = some (.int .i64 cn)) => or_any ck cn b 2 W q0 q1
    rw [ho] at hor ⊢
    have HOR := Lib.hid hor
    clear hck hcn ho hor ih
    have hB4 := (hB2.alloc hB2.size (.cells #[.int .i64 ck, .int .i64 cn] 3)).drew
    by_cases ho : o = 0
    · subst ho
      rw [if_neg (by omega)]
      obtain ⟨r, hr⟩ : ∃ r, (if strB s ≠ strB s' then cmpB (strB s) (strB s') else cmpL l l') = r := ⟨_, rfl⟩
      rw [hr]
      have HR := Lib.hid hr; clear hr
      go_enter Tryd.func25, Tryd.ntmps25
      go_wp2_with fail
      go_region_held3 (fun W => (W.cell? ⟨w.heap.size, 0, none⟩ = some (.int .i64 k) ∧ W.cell? ⟨w.heap.size, 1, none⟩ = some (.int .i64 n)) ∧ (W.cell? ⟨w.heap.size + 1, 0, none⟩ = some (.int .i64 k') ∧ W.cell? ⟨w.heap.size + 1, 1, none⟩ = some (.int .i64 n'))) (go_keep) (first
        | (go_at_call 46; (with_reducible refine (hk _).mono ?_); rintro e w' ⟨rfl, rfl⟩)
        | (go_at_call 47; (with_reducible refine (hn _).mono ?_); rintro e w' ⟨rfl, rfl⟩)
        | (go_at_call 45; (refine (HOR.out _ _ (by simp; exact (new2 _ _ _ _ _ (by simp)).1) (by simp; exact (new2 _ _ _ _ _ (by simp)).2)).mono ?_); rintro e w' ⟨rfl, rfl⟩))
      rename_i hSS
      clear hSS
      have hB24 := (((Below.refl _ ((w.alloc (vobj k n s a l.length cap)).alloc (vobj k' n' s' a' l'.length cap'))).alloc (Nat.le_refl _) (.cells #[.int .i64 ck, .int .i64 cn] 3))).drew
      obtain ⟨⟨c0, c1, c2, c3⟩, d0, d1, d2, d3⟩ := box2_cells hB24
      generalize (((w.alloc (vobj k n s a l.length cap)).alloc (vobj k' n' s' a' l'.length cap')).alloc (.cells #[.int .i64 ck, .int .i64 cn] 3)).drew = W4 at *
      have h64 : l = [] ∨ ∃ b off, a = some ⟨b, off, none⟩ ∧ IsL W4 b l off := by
        rcases h6 with h6 | ⟨b, off, rfl, h6⟩
        · exact .inl h6
        · exact .inr ⟨b, off, rfl, isL_below hB4 h6⟩
      have i64 : l' = [] ∨ ∃ b off, a' = some ⟨b, off, none⟩ ∧ IsL W4 b l' off := by
        rcases i6 with h6 | ⟨b, off, rfl, h6⟩
        · exact .inl h6
        · exact .inr ⟨b, off, rfl, isL_below hB4 h6⟩
      have hLL := hL W4 h64 i64
      clear h6 i6 h64 i64 hL
      by_cases hss : s = s'
      · subst hss
        have HR2 := Lib.hid (HR.out.symm.trans (if_neg (by simp)))
        go_wp2_with (first | (go_at_call 50; (with_reducible refine hLL.mono ?_); rintro e w' ⟨rfl, hb⟩))
        go_ret
        exact ⟨ret_int HR2.out.symm, hB4.trans (hb.mono hB4.size)⟩
      · have hne : (s.toList == s'.toList) = false := by
          rw [toList_data, toList_data]
          simp only [beq_eq_false_iff_ne, ne_eq]
          exact fun h => hss (ByteArray.ext (Array.toList_inj.1 h))
        have HR2 := Lib.hid (HR.out.symm.trans (if_pos (fun h => hss (strB_inj h))))
        clear hss
        obtain ⟨q1, w1, run1, row1, hb1⟩ := conv_bytes W4 s h3
        have d2 := cell_below hb1 d2
        have d3 := cell_below hb1 d3
        obtain ⟨q2, w2, run2, row2, hb2⟩ := conv_bytes w1 s' i3
        have hlb := listsB_any _ _ _ _ _ _ _ _ w2 (row_below row1 hb2 rfl) row2 (strB_bytes s) (strB_bytes s')
        have hB5 := hB4.trans ((hb1.trans (hb2.mono hb1.size)).mono hB4.size)
        clear row1 row2
        go_wp2_with (first | (go_at_call 48; (with_reducible refine hlb.mono ?_); rintro e w' ⟨rfl, m, rfl⟩))
        go_ret
        exact ⟨ret_int HR2.out.symm, below_drewN hB5 m⟩
    · have hne : (o != 0) = true := by simpa using ho
      rw [if_pos (by omega)]
      go_enter Tryd.func25, Tryd.ntmps25
      go_wp2_with fail
      go_region_held3 (fun W => (W.cell? ⟨w.heap.size, 0, none⟩ = some (.int .i64 k) ∧ W.cell? ⟨w.heap.size, 1, none⟩ = some (.int .i64 n)) ∧ (W.cell? ⟨w.heap.size + 1, 0, none⟩ = some (.int .i64 k') ∧ W.cell? ⟨w.heap.size + 1, 1, none⟩ = some (.int .i64 n'))) (go_keep) (first
        | (go_at_call 46; (with_reducible refine (hk _).mono ?_); rintro e w' ⟨rfl, rfl⟩)
        | (go_at_call 47; (with_reducible refine (hn _).mono ?_); rintro e w' ⟨rfl, rfl⟩)
        | (go_at_call 45; (refine (HOR.out _ _ (by simp; exact (new2 _ _ _ _ _ (by simp)).1) (by simp; exact (new2 _ _ _ _ _ (by simp)).2)).mono ?_); rintro e w' ⟨rfl, rfl⟩))
      go_wp2_with fail
      go_ret
      exact ⟨rfl, hB4⟩
set_option maxHeartbeats 1000000 in
theorem same_any (v v' : PV) (w : World) (x y : Value) (hi : Is w v x) (hi' : Is w v' y) : Calls Tryd.prog 9 #[x, y] w fun e w' => e = .returned (.bool (cmpV v v' == 0)) ∧ Below w.heap.size w w' := by
  have hc := fun w x y hi hi' => compare_any v v' w x y hi hi'
  obtain ⟨c, hcv⟩ : ∃ c, cmpV v v' = c := ⟨_, rfl⟩
  rw [hcv] at hc ⊢
  clear hcv
  obtain ⟨k, n, s, l, rfl⟩ : ∃ k m s l, v = .mk k m s l := by cases v; exact ⟨_, _, _, _, rfl⟩
  obtain ⟨k', n', s', l', rfl⟩ : ∃ k m s l, v' = .mk k m s l := by cases v'; exact ⟨_, _, _, _, rfl⟩
  have hi2 := Lib.hid hi
  have hi3 := Lib.hid hi'
  unfold Is at hi hi'
  obtain ⟨h1, h2, h3, a, cap, rfl, h4, h5, h6⟩ := hi
  obtain ⟨i1, i2, i3, a', cap', rfl, i4, i5, i6⟩ := hi'
  have hB1 := (Below.refl _ w).alloc (Nat.le_refl _) (vobj k n s a l.length cap)
  have hB2 := hB1.alloc hB1.size (vobj k' n' s' a' l'.length cap')
  clear h6 i6
  go_enter Tryd.func9, Tryd.ntmps9
  go_wp2_with (first | (go_at_call 25; (with_reducible refine (hc _ _ _ (is_below hB2 _ _ hi2.out) (is_below hB2 _ _ hi3.out)).mono ?_); rintro e w' ⟨rfl, hb⟩))
  go_ret
  exact ⟨rfl, hB2.trans (hb.mono hB2.size)⟩
end Go.Proofs.YtcicjpdjbfgbhaaDoor

/- A slice of bytes of the call's own: what append makes of it. (Moved out of ValText in round 7.) -/
namespace Go.Proofs.YtcicjpdjbfgbhaaDoor
open Go.RowKit Go.Shelf
/-- a slice of bytes of the call's own, all else that was there as it was -/
def Owns (w0 w : World) (v : Value) (xs : List Int) : Prop := w.ownsRow w0.heap.size 5 1 v xs.length (u8s xs) ∧ Below w0.heap.size w0 w
theorem owns_congr {w0 w : World} {v : Value} {xs ys : List Int} (h : Owns w0 w v xs) (e : xs = ys) : Owns w0 w v ys := e ▸ h
theorem owns_below {w0 w w' : World} {v : Value} {xs : List Int} (h : Owns w0 w v xs) (hb : Below w.heap.size w w') : Owns w0 w' v xs :=
  ⟨ownsRow_below h.1 hb, h.2.trans (hb.mono h.2.size)⟩
theorem owns_nil (w : World) : Owns w w (.slice none 0 0) [] := ⟨⟨rfl, .inl ⟨rfl, rfl⟩⟩, Below.refl _ _⟩
theorem owns_lt {w0 w : World} {v : Value} {xs : List Int} (h : Owns w0 w v xs) {g : Nat} (hg : w.heap.size ≤ g) : some g ≠ v.ownBlock := fun e => by
  have := (h.1.lt g e.symm).2; omega
theorem cell_grown {w w' : World} {v : Value} (hg : w.grownBy w' v.ownBlock) {p : Addr} {c : Value} (h : w.cell? p = some c) (hne : some p.block ≠ v.ownBlock) : w'.cell? p = some c := by
  have hbk : p.block < w.heap.size := by
    simp only [World.cell?] at h
    rcases Nat.lt_or_ge p.block w.heap.size with h' | h'
    · exact h'
    · rw [Array.getElem?_eq_none h'] at h; cases h
  rw [← h]
  simp only [World.cell?, hg.block p.block hbk hne]
theorem strCells_u8s (s : ByteArray) : Lib.strCells s = u8s (strB s) := by simp [Lib.strCells, u8s, strB, List.map_map, Function.comp_def]
theorem wpList_owns_str {ops : Array Oper} {rest : List Oper} {o : Oper} {a : Act} {w : World} {Q : Exit → Act → World → Prop} (hgd : o.guard = none) (sl x : Operand)
    (ho : o.op = .call { callee := .builtin .append, args := #[sl, x], argTypes := #[58, 9] }) (w0 : World) (v : Value) (xs : List Int) (hs : a.eval sl = v) (hown : Owns w0 w v xs) (s : ByteArray) (hx : a.eval x = .string s)
    (hlen : xs.length + s.size ≤ 70368744177664)
    (h : ∀ v' w', Owns w0 w' v' (xs ++ strB s) → w.grownBy w' v.ownBlock → wpList Tryd.prog ops Q rest (a.put o.dst v') w') : wpList Tryd.prog ops Q (o :: rest) a w := by
  obtain ⟨i0, hi, hz0, hz1, hz2⟩ := info_parts info_u8
  refine Lib.wpList_append_own_string w hgd sl x 58 9 ho w0.heap.size 5 i0 Tryd.underlying58 Tryd.underlying9 hi hz0 hz1 hz2 v xs.length (u8s xs) hs hown.1 s hx (by unfold maxLen; omega) (by omega) hown.2.size fun v' w' h1 h2 _ => h v' w' ⟨ownsRow_nth h1 (by rw [List.length_append, strB_len]) (by rw [strCells_u8s, u8s_append]), hown.2.trans (below_grown h2 hown.1 hown.2.size |>.mono (Nat.le_refl _))⟩ h2
theorem wpList_owns_one {ops : Array Oper} {rest : List Oper} {o : Oper} {a : Act} {w : World} {Q : Exit → Act → World → Prop} (hgd : o.guard = none) (sl x : Operand)
    (ho : o.op = .call { callee := .builtin .append, args := #[sl, x], argTypes := #[58, 58] }) (w0 : World) (v : Value) (xs : List Int) (hs : a.eval sl = v) (hown : Owns w0 w v xs) (g : Nat) (c : Int) (hx : a.eval x = .slice (some ⟨g, 0, none⟩) 1 1)
    (hc : w.cell? ⟨g, 0, none⟩ = some (.int .u8 c)) (hlen : xs.length ≤ 70368744177664)
    (h : ∀ v' w', Owns w0 w' v' (xs ++ [c]) → w.grownBy w' v.ownBlock → wpList Tryd.prog ops Q rest (a.put o.dst v') w') : wpList Tryd.prog ops Q (o :: rest) a w := by
  obtain ⟨i0, hi, hz0, hz1, hz2⟩ := info_parts info_u8
  refine wpList_append_own w hgd sl x 58 ho w0.heap.size 5 i0 (.int .u8 0) 1 1 Tryd.underlying58 hi hz0 hz1 hz2 rfl (by decide) v xs.length (u8s xs) hs hown.1 ⟨g, 0, none⟩ 1 1 [.int .u8 c] hx rfl (fun j u hu => ?_) (by simp [Value.oneCell']) (by unfold maxLen; omega) (by omega) hown.2.size
    fun v' w' h1 h2 _ => h v' w' ⟨ownsRow_nth h1 (by simp) (by rw [u8s_append]; rfl), hown.2.trans (below_grown h2 hown.1 hown.2.size |>.mono (Nat.le_refl _))⟩ h2
  match j, hu with
  | 0, hu => simp at hu; subst hu; exact hc
  | j + 1, hu => simp at hu
theorem step_owns_one {ops : Array Oper} {o : Oper} {a : Act} {w : World} {K : Act → World → Prop} {Q : Exit → Act → World → Prop} {E : Prop} (hg : o.guard = none) (sl x : Operand)
    (ho : o.op = Op.call { callee := Callee.builtin Builtin.append, args := #[sl, x], argTypes := #[58, 58] }) (w0 : World) (v : Value) (xs : List Int) (hs : a.eval sl = v) (hown : Owns w0 w v xs) (g : Nat) (c : Int) (hx : a.eval x = .slice (some ⟨g, 0, none⟩) 1 1)
    (hc : w.cell? ⟨g, 0, none⟩ = some (.int .u8 c)) (hlen : xs.length ≤ 70368744177664)
    (h : ∀ v' w', Owns w0 w' v' (xs ++ [c]) → w.grownBy w' v.ownBlock → K (a.put o.dst v') w') : if Region.wanted o (yielded ops a.tmps) = true then Oper.wp Tryd.prog o a w K Q else E := by
  have hw : Region.wanted o (yielded ops a.tmps) = true := by simp [Region.wanted, hg]
  rw [if_pos hw]
  obtain ⟨i0, hi, hz0, hz1, hz2⟩ := info_parts info_u8
  obtain ⟨v', w', hrun, h1, h2, _⟩ := run_append_own (P := Tryd.prog) w w0.heap.size 58 o.type 5 i0 (.int .u8 0) 1 1 Tryd.underlying58 hi hz0 hz1 hz2 rfl (by decide) v xs.length (u8s xs) hown.1 ⟨g, 0, none⟩ 1 1 [.int .u8 c] rfl (fun j u hu => by
    match j, hu with
    | 0, hu => simp at hu; subst hu; exact hc
    | j + 1, hu => simp at hu) (by simp [Value.oneCell']) (by unfold maxLen; omega) (by omega) hown.2.size
  unfold Oper.wp
  simp [execOp, ho, resolve, invoke, builtin, hs, hx, hrun, Result.andThen]
  exact h v' w' ⟨ownsRow_nth h1 (by simp) (by rw [u8s_append]; rfl), hown.2.trans (below_grown h2 hown.1 hown.2.size |>.mono (Nat.le_refl _))⟩ h2
theorem step_owns_str {ops : Array Oper} {o : Oper} {a : Act} {w : World} {K : Act → World → Prop} {Q : Exit → Act → World → Prop} {E : Prop} (hg : o.guard = none) (sl x : Operand)
    (ho : o.op = Op.call { callee := Callee.builtin Builtin.append, args := #[sl, x], argTypes := #[58, 9] }) (w0 : World) (v : Value) (xs : List Int) (hs : a.eval sl = v) (hown : Owns w0 w v xs) (s : ByteArray) (hx : a.eval x = .string s)
    (hlen : xs.length + s.size ≤ 70368744177664)
    (h : ∀ v' w', Owns w0 w' v' (xs ++ strB s) → w.grownBy w' v.ownBlock → K (a.put o.dst v') w') : if Region.wanted o (yielded ops a.tmps) = true then Oper.wp Tryd.prog o a w K Q else E := by
  have hw : Region.wanted o (yielded ops a.tmps) = true := by simp [Region.wanted, hg]
  rw [if_pos hw]
  obtain ⟨i0, hi, hz0, hz1, hz2⟩ := info_parts info_u8
  obtain ⟨v', w', hrun, h1, h2, _⟩ := Lib.run_append_own_string (P := Tryd.prog) w w0.heap.size 58 9 o.type 5 i0 Tryd.underlying58 Tryd.underlying9 hi hz0 hz1 hz2 v xs.length (u8s xs) hown.1 s (by unfold maxLen; omega) (by omega) hown.2.size
  unfold Oper.wp
  simp [execOp, ho, resolve, invoke, builtin, hs, hx, hrun, Result.andThen]
  exact h v' w' ⟨ownsRow_nth h1 (by rw [List.length_append, strB_len]) (by rw [strCells_u8s, u8s_append]), hown.2.trans (below_grown h2 hown.1 hown.2.size |>.mono (Nat.le_refl _))⟩ h2
end Go.Proofs.YtcicjpdjbfgbhaaDoor
