/- The document's order of values: Compare, Same. -/
import Derived.Test.YtfapoicnkdallaaMh47Vtex
import Derived.Test.YtfapoicnkdallaaMh11Vtex
import Derived.Deep.RegionHeld3
namespace Go.Proofs.Ytfapoicnkdallaa
open Go.RowKit Go.Shelf
attribute [local go_sem] Oper.semAt_some
theorem cmpV_eq (k n : Int) (s s' : ByteArray) (l l' : List PV) : cmpV (.mk k n s l) (.mk k n s' l') = if cmpB (strB s) (strB s') ≠ 0 then cmpB (strB s) (strB s') else cmpL l l' := by
  have h : orI (cmpI k k) (cmpI n n) = 0 := by simp [cmpI_self, orI]
  simp only [cmpV]
  rw [if_neg (by rw [h]; simp)]
  by_cases hs : strB s = strB s'
  · rw [if_neg (by simpa using hs), if_neg (by simpa using (cmpB_zero _ _).2 hs)]
  · rw [if_pos hs, if_pos (fun e => hs ((cmpB_zero _ _).1 e))]
/-- the cells of the two values that are compared -/
def TwoBox (b : Nat) (k n k' n' : Int) (s s' : ByteArray) (a a' : Option Addr) (len cap len' cap' : Nat) (W : World) : Prop :=
  ((W.cell? ⟨b, 0, none⟩ = some (.int .i64 k) ∧ W.cell? ⟨b, 1, none⟩ = some (.int .i64 n)) ∧ (W.cell? ⟨b, 2, none⟩ = some (.string s) ∧ W.cell? ⟨b, 3, none⟩ = some (.slice a len cap))) ∧
  ((W.cell? ⟨b + 1, 0, none⟩ = some (.int .i64 k') ∧ W.cell? ⟨b + 1, 1, none⟩ = some (.int .i64 n')) ∧ (W.cell? ⟨b + 1, 2, none⟩ = some (.string s') ∧ W.cell? ⟨b + 1, 3, none⟩ = some (.slice a' len' cap')))
theorem twoBox_below {b : Nat} {k n k' n' : Int} {s s' : ByteArray} {a a' : Option Addr} {len cap len' cap' : Nat} {W W' : World} (h : TwoBox b k n k' n' s s' a a' len cap len' cap' W) (hb : Below W.heap.size W W') : TwoBox b k n k' n' s s' a a' len cap len' cap' W' :=
  ⟨⟨⟨cell_below hb h.1.1.1, cell_below hb h.1.1.2⟩, cell_below hb h.1.2.1, cell_below hb h.1.2.2⟩, ⟨cell_below hb h.2.1.1, cell_below hb h.2.1.2⟩, cell_below hb h.2.2.1, cell_below hb h.2.2.2⟩
set_option maxRecDepth 100000 in
set_option maxHeartbeats 8000000 in
theorem refCompare_any (v : PV) : ∀ v' w x y, Is w v x → Is w v' y → Calls Try.prog 21 #[x, y] w fun e w' => e = .returned (.int .i64 (cmpV v v')) ∧ Below w.heap.size w w' := by
  induction v using pv_ind with
  | h k n s l ih =>
    intro v' w x y hi hi'
    obtain ⟨k', n', s', l', rfl⟩ : ∃ k m s l, v' = .mk k m s l := by cases v'; exact ⟨_, _, _, _, rfl⟩
    unfold Is at hi hi'
    obtain ⟨h1, h2, h3, a, cap, rfl, h4, h5, h6⟩ := hi
    obtain ⟨i1, i2, i3, a', cap', rfl, i4, i5, i6⟩ := hi'
    have hm : l.length ≤ maxLen := Nat.le_trans h4 h5
    have hm' : l'.length ≤ maxLen := Nat.le_trans i4 i5
    have hB1 := (Below.refl _ w).alloc (Nat.le_refl _) (vobj k n s a l.length cap)
    have hB2 := hB1.alloc hB1.size (vobj k' n' s' a' l'.length cap')
    by_cases hk : k = k'
    · subst hk
      by_cases hn : n = n'
      · subst hn
        rw [cmpV_eq]
        have hdk : (k != k) = false := by simp
        have hdn : (n != n) = false := by simp
        have hbox : TwoBox w.heap.size k n k n s s' a a' l.length cap l'.length cap' ((w.alloc (vobj k n s a l.length cap)).alloc (vobj k n s' a' l'.length cap')) := by
          obtain ⟨⟨c0, c1, c2, c3⟩, d0, d1, d2, d3⟩ := box2_cells (Below.refl _ ((w.alloc (vobj k n s a l.length cap)).alloc (vobj k n s' a' l'.length cap')))
          exact ⟨⟨⟨c0, c1⟩, c2, c3⟩, ⟨d0, d1⟩, d2, d3⟩
        obtain ⟨t, ht⟩ : ∃ t, cmpB (strB s) (strB s') = t := ⟨_, rfl⟩
        rw [ht]
        obtain ⟨R, hR⟩ : ∃ R, (if t ≠ 0 then t else cmpL l l') = R := ⟨_, rfl⟩
        rw [hR]
        have HT := Lib.hid ht
        have H0 : Hid (t = 0 → cmpL l l' = R) := Lib.hid fun h => by rw [← hR, if_neg (by simpa using h)]
        have H1 : Hid (t ≠ 0 → R = t) := Lib.hid fun h => by rw [← hR, if_pos h]
        clear hR
        have HI := Lib.hid ih
        have hbs := strB_bytes s
        have hbs' := strB_bytes s'
        have hls := strB_len s
        have hls' := strB_len s'
        unfold maxLen at h3 i3 hm hm'
        clear ih ht hdk hdn
        go_enter Try.func21, Try.ntmps21
        go_wp2_with fail
        go_loopw [5] (fun i wr => ∃ q : Nat, q ≤ s.size ∧ q ≤ s'.size ∧ i = .int .i64 (q : Int) ∧ Below ((w.alloc (vobj k n s a l.length cap)).alloc (vobj k n s' a' l'.length cap')).heap.size ((w.alloc (vobj k n s a l.length cap)).alloc (vobj k n s' a' l'.length cap')) wr ∧ Hid (cmpB ((strB s).drop q) ((strB s').drop q) = t)) (fun i _ => s.size - (intOf i).toNat)
        case atStart => exact ⟨0, Nat.zero_le _, Nat.zero_le _, rfl, Below.refl _ _, HT.out⟩
        case round =>
        obtain ⟨q, hq1, hq2, rfl, hB, HQ⟩ := hrel
        obtain ⟨⟨⟨c0, c1⟩, c2, c3⟩, ⟨d0, d1⟩, d2, d3⟩ := twoBox_below hbox hB
        have hBw := hB2.trans (hB.mono hB2.size)
        by_cases hqq : q < s.size ∧ q < s'.size
        · obtain ⟨hqa, hqb⟩ := hqq
          have e1 : decide (q < s.size) = true := by simpa using hqa
          have e2 : decide (q < s'.size) = true := by simpa using hqb
          have hst := cmpB_step (strB s) (strB s') q (by omega) (by omega)
          rw [HQ.out, strB_at s q hqa, strB_at s' q hqb] at hst
          rcases Nat.lt_trichotomy s[q].toNat s'[q].toNat with hxy | hxy | hxy
          · have f1 : decide (s[q].toNat < s'[q].toNat) = true := by simpa using hxy
            have ht1 : t = -1 := by
              rw [hst, if_pos (by omega)]; unfold cmpI; rw [if_pos (by omega)]
            have HRt := H1.out (by rw [ht1]; decide)
            rw [ht1] at HRt
            subst HRt
            clear hst HT ht1
            go_wp2_with fail
            go_quiet (fail)
            go_wp2_with fail
            go_ret
            exact ⟨rfl, by first | exact below_drewN hBw _ | exact below_drewN (below_drewN hBw _) _⟩
          · have f1 : decide (s[q].toNat < s'[q].toNat) = false := by simp; omega
            have f2 : decide (s'[q].toNat < s[q].toNat) = false := by simp; omega
            rw [if_neg (by omega)] at hst
            have HST := Lib.hid hst
            clear hst
            go_wp2_with fail
            go_quiet (fail)
            go_wp2_with fail
            go_quiet (fail)
            go_wp2_with fail
            go_roundw
            all_goals (first
              | (case' rel => exact ⟨q + 1, by omega, by omega, by go_num, below_drewN hB _, HST.out.symm⟩)
              | (case' measure => simp [intOf]; omega))
          · have f1 : decide (s[q].toNat < s'[q].toNat) = false := by simp; omega
            have f2 : decide (s'[q].toNat < s[q].toNat) = true := by simpa using hxy
            have ht1 : t = 1 := by
              rw [hst, if_pos (by omega)]; unfold cmpI; rw [if_neg (by omega), if_pos (by omega)]
            have HRt := H1.out (by rw [ht1]; decide)
            rw [ht1] at HRt
            subst HRt
            clear hst HT ht1
            go_wp2_with fail
            go_quiet (fail)
            go_wp2_with fail
            go_quiet (fail)
            go_wp2_with fail
            go_ret
            exact ⟨rfl, by first | exact below_drewN hBw _ | exact below_drewN (below_drewN hBw _) _⟩
        · have hqm : q = min s.size s'.size := by omega
          have hen := cmpB_end (strB s) (strB s') q (by rw [hls, hls']; exact hqm)
          rw [HQ.out, hls, hls'] at hen
          have hd : decide (q < s.size) = false ∨ decide (q < s'.size) = false := by simp; omega
          rcases Nat.lt_trichotomy s.size s'.size with hss | hss | hss
          · have e1 : decide (q < s.size) = false := by simp; omega
            have f1 : ((s.size : Int) != (s'.size : Int)) = true := by simp; omega
            have f2 : decide (s.size < s'.size) = true := by simpa using hss
            have ht1 : t = -1 := by rw [hen]; unfold cmpI; rw [if_pos (by omega)]
            have HRt := H1.out (by rw [ht1]; decide)
            rw [ht1] at HRt
            subst HRt
            clear hen hd HT hqq hqm ht1
            go_wp2_with fail
            go_ret
            exact ⟨rfl, hBw⟩
          · have e1 : decide (q < s.size) = false := by simp; omega
            have f1 : ((s.size : Int) != (s'.size : Int)) = false := by simp; omega
            have ht1 : t = 0 := by rw [hen, hss]; exact cmpI_self _
            have hr := H0.out ht1
            have HR := Lib.hid hr
            have HSS := Lib.hid hss
            have HBox := Lib.hid hbox
            have HB := Lib.hid hB
            obtain ⟨nl, hnl⟩ : ∃ m, l.length = m := ⟨_, rfl⟩
            clear hen hd HT hqq hqm hr hss hbox hnl ht1
            go_wp2_with fail
            go_loopw [6, 7] (fun i _ wr' => ∃ q : Nat, q ≤ l.length ∧ q ≤ l'.length ∧ i = .int .i64 (q : Int) ∧ Below wr.heap.size wr wr' ∧ Hid (cmpL (l.drop q) (l'.drop q) = R)) (fun i _ _ => l.length - (intOf i).toNat)
            case atStart => exact ⟨0, Nat.zero_le _, Nat.zero_le _, rfl, Below.refl _ _, HR.out⟩
            case round =>
            obtain ⟨q2, hp1, hp2, rfl, hB', HQ'⟩ := hrel
            have hBW := hBw.trans (hB'.mono hBw.size)
            obtain ⟨⟨⟨x0, x1⟩, x2, x3⟩, ⟨z0, z1⟩, z2, z3⟩ := twoBox_below (twoBox_below HBox.out HB.out) hB'
            clear c0 c1 c2 c3 d0 d1 d2 d3 hB1 hB2 e1 f1 hq1 hq2 hbs hbs' hls hls'
            by_cases hqq : q2 < l.length ∧ q2 < l'.length
            · obtain ⟨hqa, hqb⟩ := hqq
              have e1 : decide (q2 < l.length) = true := by simpa using hqa
              have e2 : decide (q2 < l'.length) = true := by simpa using hqb
              obtain ⟨y, hy⟩ : ∃ y, l[q2]? = some y := ⟨l[q2], List.getElem?_eq_getElem hqa⟩
              obtain ⟨y', hy'⟩ : ∃ y, l'[q2]? = some y := ⟨l'[q2], List.getElem?_eq_getElem hqb⟩
              obtain ⟨b, off, rfl, hIs⟩ : ∃ b off, a = some ⟨b, off, none⟩ ∧ IsL w b l off := by
                rcases h6 with h | h
                · subst h; simp at hqa
                · exact h
              obtain ⟨b', off', rfl, hIs'⟩ : ∃ b off, a' = some ⟨b, off, none⟩ ∧ IsL w b l' off := by
                rcases i6 with h | h
                · subst h; simp at hqb
                · exact h
              have hst := cmpL_step l l' q2 y y' hy hy'
              rw [HQ'.out] at hst
              have hbd := cmpV_bd y y'
              have hcall := fun W x x' hx hx' => HI.out y (List.mem_of_getElem? hy) y' W x x' hx hx'
              obtain ⟨c, hc⟩ : ∃ c, cmpV y y' = c := ⟨_, rfl⟩
              rw [hc] at hst hbd hcall
              cases y with
              | mk yk yn ys yl =>
              cases y' with
              | mk uk un us ul =>
              obtain ⟨ya, yc, ⟨g0, g1, g2, g3⟩, hiy⟩ := isL_val (isL_below hBW hIs) q2 _ _ _ _ hy
              obtain ⟨ua, uc, ⟨j0, j1, j2, j3⟩, hiu⟩ := isL_val (isL_below hBW hIs') q2 _ _ _ _ hy'
              have HC := Lib.hid (fun W (hW : Below wr.heap.size wr W) => hcall W _ _ (is_below hW _ _ hiy) (is_below hW _ _ hiu))
              have HST := Lib.hid hst
              clear hcall hst hIs hIs' hiy hiu hy hy' hc h6 i6 HQ' HI HBox HB hB x0 x1 x2 z0 z1 z2
              go_wp2_with fail
              go_region_held3 (fun W => (W.cell? ⟨w.heap.size, 3, none⟩ = some (.slice (some ⟨b, off, none⟩) l.length cap) ∧ W.cell? ⟨w.heap.size + 1, 3, none⟩ = some (.slice (some ⟨b', off', none⟩) l'.length cap')) ∧
                  ((W.cell? ⟨b, off + q2 * 4, none⟩ = some (.int .i64 yk) ∧ W.cell? ⟨b, off + q2 * 4 + 1, none⟩ = some (.int .i64 yn)) ∧ (W.cell? ⟨b, off + q2 * 4 + 2, none⟩ = some (.string ys) ∧ W.cell? ⟨b, off + q2 * 4 + 3, none⟩ = some (.slice ya yl.length yc))) ∧
                  ((W.cell? ⟨b', off' + q2 * 4, none⟩ = some (.int .i64 uk) ∧ W.cell? ⟨b', off' + q2 * 4 + 1, none⟩ = some (.int .i64 un)) ∧ (W.cell? ⟨b', off' + q2 * 4 + 2, none⟩ = some (.string us) ∧ W.cell? ⟨b', off' + q2 * 4 + 3, none⟩ = some (.slice ua ul.length uc))))
                (first | ((try dsimp only); refine ⟨⟨?_, ?_⟩, ⟨⟨?_, ?_⟩, ?_, ?_⟩, ⟨?_, ?_⟩, ?_, ?_⟩ <;> first | (go_keep; done) | (with_reducible refine cell_below hb ?_; go_keep))) (first
                | (go_at_call 21; (with_reducible refine (HC.out _ (below_drew _)).mono ?_); rintro e w' ⟨rfl, hb⟩))
              all_goals (
                have hbw' := (below_drew wr).trans (hb.mono (Nat.le_refl _))
                by_cases hc0 : c = 0
                · subst hc0
                  have hd0 : ((0 : Int) != 0) = false := rfl
                  go_wp2_with fail
                  go_roundw
                  all_goals (first
                    | (case' rel => exact ⟨q2 + 1, by omega, by omega, by go_num, hB'.trans (hbw'.mono hB'.size), by have h := HST.out; rw [if_neg (by simp)] at h; exact h.symm⟩)
                    | (case' measure => simp [intOf]; omega))
                · have hd0 : (c != 0) = true := by simpa using hc0
                  have hR : R = c := by
                    have h := HST.out
                    rw [if_pos hc0] at h
                    rw [h]; unfold cmpI
                    rcases hbd with rfl | rfl | rfl <;> simp at hc0 ⊢
                  subst hR
                  go_wp2_with fail
                  go_ret
                  exact ⟨rfl, hBW.trans (hbw'.mono hBW.size)⟩)
            · have hqm : q2 = min l.length l'.length := by omega
              have hen := cmpL_end l l' q2 hqm
              rw [HQ'.out] at hen
              clear h6 i6 HQ' HI HBox HB hB
              rcases Nat.lt_trichotomy l.length l'.length with hll | hll | hll
              · have e1 : decide (q2 < l.length) = false := by simp; omega
                have f2 : decide (l.length < l'.length) = true := by simpa using hll
                have ht1 : R = -1 := by rw [hen]; unfold cmpI; rw [if_pos (by omega)]
                subst ht1
                clear hen hqq hqm
                go_wp2_with fail
                go_ret
                exact ⟨rfl, hBW⟩
              · have e1 : decide (q2 < l.length) = false := by simp; omega
                have f2 : decide (l.length < l'.length) = false := by simp; omega
                have f3 : decide (l'.length < l.length) = false := by simp; omega
                have ht1 : R = 0 := by rw [hen, hll]; exact cmpI_self _
                subst ht1
                clear hen hqq hqm
                have HLL := Lib.hid hll; clear hll
                go_wp2_with fail
                go_ret
                exact ⟨rfl, hBW⟩
              · have e1 : decide (q2 < l.length) = true := by simp; omega
                have e2 : decide (q2 < l'.length) = false := by simp; omega
                have f2 : decide (l.length < l'.length) = false := by simp; omega
                have f3 : decide (l'.length < l.length) = true := by simpa using hll
                have ht1 : R = 1 := by rw [hen]; unfold cmpI; rw [if_neg (by omega), if_pos (by omega)]
                subst ht1
                clear hen hqq hqm
                go_wp2_with fail
                go_ret
                exact ⟨rfl, hBW⟩
          · have e2 : decide (q < s'.size) = false := by simp; omega
            have e1 : decide (q < s.size) = true := by simp; omega
            have f1 : ((s.size : Int) != (s'.size : Int)) = true := by simp; omega
            have f2 : decide (s.size < s'.size) = false := by simp; omega
            have ht1 : t = 1 := by rw [hen]; unfold cmpI; rw [if_neg (by omega), if_pos (by omega)]
            have HRt := H1.out (by rw [ht1]; decide)
            rw [ht1] at HRt
            subst HRt
            clear hen hd HT hqq hqm ht1
            go_wp2_with fail
            go_ret
            exact ⟨rfl, hBw⟩
      · have hdk : (k != k) = false := by simp
        have hdn : (n != n') = true := by simpa using hn
        have hv : cmpV (.mk k n s l) (.mk k n' s' l') = cmpI n n' := by
          have h0 : orI (cmpI k k) (cmpI n n') = cmpI n n' := by simp [cmpI_self, orI]
          simp only [cmpV]
          rw [if_pos (by rw [h0]; exact fun e => hn ((cmpI_zero _ _).1 e)), h0]
        rw [hv]
        unfold cmpI
        clear ih hdk hv h6 i6
        rcases Int.lt_trichotomy n n' with hlt | hlt | hlt
        · have d1 : decide (n < n') = true := by simpa using hlt
          rw [if_pos hlt]
          go_enter Try.func21, Try.ntmps21
          go_wp2_with fail
          go_ret
          exact ⟨rfl, hB2⟩
        · exact absurd hlt hn
        · have d1 : decide (n < n') = false := by simp; omega
          rw [if_neg (by omega), if_pos hlt]
          go_enter Try.func21, Try.ntmps21
          go_wp2_with fail
          go_ret
          exact ⟨rfl, hB2⟩
    · have hdk : (k != k') = true := by simpa using hk
      have hv : cmpV (.mk k n s l) (.mk k' n' s' l') = cmpI k k' := by
        have h00 : cmpI k k' ≠ 0 := fun e => hk ((cmpI_zero _ _).1 e)
        have h0 : orI (cmpI k k') (cmpI n n') = cmpI k k' := by unfold orI; rw [if_pos h00]
        simp only [cmpV]
        rw [if_pos (by rw [h0]; exact h00), h0]
      rw [hv]
      unfold cmpI
      clear ih hv h6 i6
      rcases Int.lt_trichotomy k k' with hlt | hlt | hlt
      · have d1 : decide (k < k') = true := by simpa using hlt
        rw [if_pos hlt]
        go_enter Try.func21, Try.ntmps21
        go_wp2_with fail
        go_ret
        exact ⟨rfl, hB2⟩
      · exact absurd hlt hk
      · have d1 : decide (k < k') = false := by simp; omega
        rw [if_neg (by omega), if_pos hlt]
        go_enter Try.func21, Try.ntmps21
        go_wp2_with fail
        go_ret
        exact ⟨rfl, hB2⟩
set_option maxHeartbeats 1000000 in
theorem refSame_any (v v' : PV) (w : World) (x y : Value) (hi : Is w v x) (hi' : Is w v' y) : Calls Try.prog 11 #[x, y] w fun e w' => e = .returned (.bool (cmpV v v' == 0)) ∧ Below w.heap.size w w' := by
  have hc := fun w x y hi hi' => refCompare_any v v' w x y hi hi'
  obtain ⟨c, hcv⟩ : ∃ c, cmpV v v' = c := ⟨_, rfl⟩
  rw [hcv] at hc ⊢
  clear hcv
  obtain ⟨k, n, s, l, rfl⟩ : ∃ k m s l, v = .mk k m s l := by cases v; exact ⟨_, _, _, _, rfl⟩
  obtain ⟨k', n', s', l', rfl⟩ : ∃ k m s l, v' = .mk k m s l := by cases v'; exact ⟨_, _, _, _, rfl⟩
  have hi2 := Lib.hid hi
  have hi3 := Lib.hid hi'
  unfold Is at hi hi'
  obtain ⟨h1, h2, h3, a, cap, rfl, h4, h5, h6⟩ := hi
  obtain ⟨i1, i2, i3, a', cap', rfl, i4, i5, i6⟩ := hi'
  have hB1 := (Below.refl _ w).alloc (Nat.le_refl _) (vobj k n s a l.length cap)
  have hB2 := hB1.alloc hB1.size (vobj k' n' s' a' l'.length cap')
  clear h6 i6
  go_enter Try.func11, Try.ntmps11
  go_wp2_with (first | (go_at_call 21; (with_reducible refine (hc _ _ _ (is_below hB2 _ _ hi2.out) (is_below hB2 _ _ hi3.out)).mono ?_); rintro e w' ⟨rfl, hb⟩))
  go_ret
  exact ⟨rfl, hB2.trans (hb.mono hB2.size)⟩
theorem same_bool (v v' : PV) : (cmpV v v' == 0) = true ↔ v = v' := by
  rw [beq_iff_eq]; exact cmpV_zero v v'
end Go.Proofs.Ytfapoicnkdallaa
