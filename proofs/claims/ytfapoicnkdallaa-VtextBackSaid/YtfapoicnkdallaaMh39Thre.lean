/- The order of values: Compare, Same. -/
import Derived.Test.YtfapoicnkdallaaMh38Thre
import Derived.Deep.RegionHeld3
namespace Go.Proofs.Ytfapoicnkdallaa
open Go.RowKit Go.Shelf
theorem box2_cells {w W : World} {k n k' n' : Int} {s s' : ByteArray} {a a' : Option Addr} {len cap len' cap' : Nat}
    (hb : Below ((w.alloc (vobj k n s a len cap)).alloc (vobj k' n' s' a' len' cap')).heap.size ((w.alloc (vobj k n s a len cap)).alloc (vobj k' n' s' a' len' cap')) W) :
    (W.cell? ⟨w.heap.size, 0, none⟩ = some (.int .i64 k) ∧ W.cell? ⟨w.heap.size, 1, none⟩ = some (.int .i64 n) ∧ W.cell? ⟨w.heap.size, 2, none⟩ = some (.string s) ∧ W.cell? ⟨w.heap.size, 3, none⟩ = some (.slice a len cap)) ∧
    (W.cell? ⟨w.heap.size + 1, 0, none⟩ = some (.int .i64 k') ∧ W.cell? ⟨w.heap.size + 1, 1, none⟩ = some (.int .i64 n') ∧ W.cell? ⟨w.heap.size + 1, 2, none⟩ = some (.string s') ∧ W.cell? ⟨w.heap.size + 1, 3, none⟩ = some (.slice a' len' cap')) := by
  have h1 := (Below.refl _ (w.alloc (vobj k n s a len cap))).alloc (Nat.le_refl _) (vobj k' n' s' a' len' cap')
  have h2 := box_cells hb
  rw [World.size_alloc] at h2
  exact ⟨box_cells (h1.trans (hb.mono h1.size)), h2⟩
theorem strB_inj {s t : ByteArray} (h : strB s = strB t) : s = t := by
  rw [← strOfNums_strB s, h, strOfNums_strB]
theorem new2 (W : World) (x y : Value) (t : TypeId) (g : Nat) (hg : g = W.heap.size) : (W.alloc (.cells #[x, y] t)).cell? ⟨g, 0, none⟩ = some x ∧ (W.alloc (.cells #[x, y] t)).cell? ⟨g, 1, none⟩ = some y := by
  subst hg; exact ⟨by simp, by simp⟩
set_option maxHeartbeats 2000000 in
theorem compare_any (v : PV) : ∀ v' w x y, Is w v x → Is w v' y → Calls Try.prog 28 #[x, y] w fun e w' => e = .returned (.int .i64 (cmpV v v')) ∧ Below w.heap.size w w' := by
  induction v using pv_ind with
  | h k n s l ih =>
    intro v' w x y hi hi'
    obtain ⟨k', n', s', l', rfl⟩ : ∃ k m s l, v' = .mk k m s l := by cases v'; exact ⟨_, _, _, _, rfl⟩
    unfold Is at hi hi'
    obtain ⟨h1, h2, h3, a, cap, rfl, h4, h5, h6⟩ := hi
    obtain ⟨i1, i2, i3, a', cap', rfl, i4, i5, i6⟩ := hi'
    have hB1 := (Below.refl _ w).alloc (Nat.le_refl _) (vobj k n s a l.length cap)
    have hB2 := hB1.alloc hB1.size (vobj k' n' s' a' l'.length cap')
    have hk := fun w => cmpInt_any k k' w
    have hn := fun w => cmpInt64_any n n' w
    have hL := fun w l4 r4 => listsV_any l l' (fun x hx y _ w v v' hv hv' => ih x hx y w v v' hv hv') w a a' cap cap' _ _ rfl rfl h4 h5 i4 i5 l4 r4
    simp only [cmpV]
    obtain ⟨ck, hck⟩ : ∃ c, cmpI k k' = c := ⟨_, rfl⟩
    obtain ⟨cn, hcn⟩ : ∃ c, cmpI n n' = c := ⟨_, rfl⟩
    rw [hck] at hk ⊢
    rw [hcn] at hn ⊢
    obtain ⟨o, ho⟩ : ∃ o, orI ck cn = o := ⟨_, rfl⟩
    have hor := fun b W (q0 : W.cell? ⟨b, 0, none⟩ = some (.int .i64 ck)) (q1 : W.cell? ⟨b, 1, none⟩ = some (.int .i64 cn)) => or_any ck cn b 2 W q0 q1
    rw [ho] at hor ⊢
    have HOR := Lib.hid hor
    clear hck hcn ho hor ih
    have hB4 := (hB2.alloc hB2.size (.cells #[.int .i64 ck, .int .i64 cn] 3)).drew
    by_cases ho : o = 0
    · subst ho
      rw [if_neg (by omega)]
      obtain ⟨r, hr⟩ : ∃ r, (if strB s ≠ strB s' then cmpB (strB s) (strB s') else cmpL l l') = r := ⟨_, rfl⟩
      rw [hr]
      have HR := Lib.hid hr; clear hr
      go_enter Try.func28, Try.ntmps28
      go_wp2_with fail
      go_region_held3 (fun W => (W.cell? ⟨w.heap.size, 0, none⟩ = some (.int .i64 k) ∧ W.cell? ⟨w.heap.size, 1, none⟩ = some (.int .i64 n)) ∧ (W.cell? ⟨w.heap.size + 1, 0, none⟩ = some (.int .i64 k') ∧ W.cell? ⟨w.heap.size + 1, 1, none⟩ = some (.int .i64 n'))) (go_keep) (first
        | (go_at_call 49; (with_reducible refine (hk _).mono ?_); rintro e w' ⟨rfl, rfl⟩)
        | (go_at_call 50; (with_reducible refine (hn _).mono ?_); rintro e w' ⟨rfl, rfl⟩)
        | (go_at_call 48; (refine (HOR.out _ _ (by simp; exact (new2 _ _ _ _ _ (by simp)).1) (by simp; exact (new2 _ _ _ _ _ (by simp)).2)).mono ?_); rintro e w' ⟨rfl, rfl⟩))
      rename_i hSS
      clear hSS
      have hB24 := (((Below.refl _ ((w.alloc (vobj k n s a l.length cap)).alloc (vobj k' n' s' a' l'.length cap'))).alloc (Nat.le_refl _) (.cells #[.int .i64 ck, .int .i64 cn] 3))).drew
      obtain ⟨⟨c0, c1, c2, c3⟩, d0, d1, d2, d3⟩ := box2_cells hB24
      generalize (((w.alloc (vobj k n s a l.length cap)).alloc (vobj k' n' s' a' l'.length cap')).alloc (.cells #[.int .i64 ck, .int .i64 cn] 3)).drew = W4 at *
      have h64 : l = [] ∨ ∃ b off, a = some ⟨b, off, none⟩ ∧ IsL W4 b l off := by
        rcases h6 with h6 | ⟨b, off, rfl, h6⟩
        · exact .inl h6
        · exact .inr ⟨b, off, rfl, isL_below hB4 h6⟩
      have i64 : l' = [] ∨ ∃ b off, a' = some ⟨b, off, none⟩ ∧ IsL W4 b l' off := by
        rcases i6 with h6 | ⟨b, off, rfl, h6⟩
        · exact .inl h6
        · exact .inr ⟨b, off, rfl, isL_below hB4 h6⟩
      have hLL := hL W4 h64 i64
      clear h6 i6 h64 i64 hL
      by_cases hss : s = s'
      · subst hss
        have HR2 := Lib.hid (HR.out.symm.trans (if_neg (by simp)))
        go_wp2_with (first | (go_at_call 53; (with_reducible refine hLL.mono ?_); rintro e w' ⟨rfl, hb⟩))
        go_ret
        exact ⟨ret_int HR2.out.symm, hB4.trans (hb.mono hB4.size)⟩
      · have hne : (s.toList == s'.toList) = false := by
          rw [toList_data, toList_data]
          simp only [beq_eq_false_iff_ne, ne_eq]
          exact fun h => hss (ByteArray.ext (Array.toList_inj.1 h))
        have HR2 := Lib.hid (HR.out.symm.trans (if_pos (fun h => hss (strB_inj h))))
        clear hss
        obtain ⟨q1, w1, run1, row1, hb1⟩ := conv_bytes W4 s h3
        have d2 := cell_below hb1 d2
        have d3 := cell_below hb1 d3
        obtain ⟨q2, w2, run2, row2, hb2⟩ := conv_bytes w1 s' i3
        have hlb := listsB_any _ _ _ _ _ _ _ _ w2 (row_below row1 hb2 rfl) row2 (strB_bytes s) (strB_bytes s')
        have hB5 := hB4.trans ((hb1.trans (hb2.mono hb1.size)).mono hB4.size)
        clear row1 row2
        go_wp2_with (first | (go_at_call 51; (with_reducible refine hlb.mono ?_); rintro e w' ⟨rfl, m, rfl⟩))
        go_ret
        exact ⟨ret_int HR2.out.symm, below_drewN hB5 m⟩
    · have hne : (o != 0) = true := by simpa using ho
      rw [if_pos (by omega)]
      go_enter Try.func28, Try.ntmps28
      go_wp2_with fail
      go_region_held3 (fun W => (W.cell? ⟨w.heap.size, 0, none⟩ = some (.int .i64 k) ∧ W.cell? ⟨w.heap.size, 1, none⟩ = some (.int .i64 n)) ∧ (W.cell? ⟨w.heap.size + 1, 0, none⟩ = some (.int .i64 k') ∧ W.cell? ⟨w.heap.size + 1, 1, none⟩ = some (.int .i64 n'))) (go_keep) (first
        | (go_at_call 49; (with_reducible refine (hk _).mono ?_); rintro e w' ⟨rfl, rfl⟩)
        | (go_at_call 50; (with_reducible refine (hn _).mono ?_); rintro e w' ⟨rfl, rfl⟩)
        | (go_at_call 48; (refine (HOR.out _ _ (by simp; exact (new2 _ _ _ _ _ (by simp)).1) (by simp; exact (new2 _ _ _ _ _ (by simp)).2)).mono ?_); rintro e w' ⟨rfl, rfl⟩))
      go_wp2_with fail
      go_ret
      exact ⟨rfl, hB4⟩
set_option maxHeartbeats 1000000 in
theorem same_any (v v' : PV) (w : World) (x y : Value) (hi : Is w v x) (hi' : Is w v' y) : Calls Try.prog 17 #[x, y] w fun e w' => e = .returned (.bool (cmpV v v' == 0)) ∧ Below w.heap.size w w' := by
  have hc := fun w x y hi hi' => compare_any v v' w x y hi hi'
  obtain ⟨c, hcv⟩ : ∃ c, cmpV v v' = c := ⟨_, rfl⟩
  rw [hcv] at hc ⊢
  clear hcv
  obtain ⟨k, n, s, l, rfl⟩ : ∃ k m s l, v = .mk k m s l := by cases v; exact ⟨_, _, _, _, rfl⟩
  obtain ⟨k', n', s', l', rfl⟩ : ∃ k m s l, v' = .mk k m s l := by cases v'; exact ⟨_, _, _, _, rfl⟩
  have hi2 := Lib.hid hi
  have hi3 := Lib.hid hi'
  unfold Is at hi hi'
  obtain ⟨h1, h2, h3, a, cap, rfl, h4, h5, h6⟩ := hi
  obtain ⟨i1, i2, i3, a', cap', rfl, i4, i5, i6⟩ := hi'
  have hB1 := (Below.refl _ w).alloc (Nat.le_refl _) (vobj k n s a l.length cap)
  have hB2 := hB1.alloc hB1.size (vobj k' n' s' a' l'.length cap')
  clear h6 i6
  go_enter Try.func17, Try.ntmps17
  go_wp2_with (first | (go_at_call 28; (with_reducible refine (hc _ _ _ (is_below hB2 _ _ hi2.out) (is_below hB2 _ _ hi3.out)).mono ?_); rintro e w' ⟨rfl, hb⟩))
  go_ret
  exact ⟨rfl, hB2.trans (hb.mono hB2.size)⟩
end Go.Proofs.Ytfapoicnkdallaa
