/- The document's order of values: Compare, Same. -/
import Derived.Test.YtibjjclfonpibaaGreatMh5Cast
import Derived.Test.YtibjjclfonpibaaGreatMh3Cast
import Derived.Deep.RegionHeld3
import Derived.Test.YtibjjclfonpibaaGreatMh9Cast
import Derived.Deep.DeepCutAuto
import Derived.BigQuiet
import Derived.Test.YtibjjclfonpibaaGreatMh6Cast
namespace Go.Proofs.YtibjjclfonpibaaGreat
open Go.RowKit Go.Shelf
attribute [local go_sem] Oper.semAt_some
theorem cmpV_eq (k n : Int) (s s' : ByteArray) (l l' : List PV) : cmpV (.mk k n s l) (.mk k n s' l') = if cmpB (strB s) (strB s') ≠ 0 then cmpB (strB s) (strB s') else cmpL l l' := by
  have h : orI (cmpI k k) (cmpI n n) = 0 := by simp [cmpI_self, orI]
  simp only [cmpV]
  rw [if_neg (by rw [h]; simp)]
  by_cases hs : strB s = strB s'
  · rw [if_neg (by simpa using hs), if_neg (by simpa using (cmpB_zero _ _).2 hs)]
  · rw [if_pos hs, if_pos (fun e => hs ((cmpB_zero _ _).1 e))]
/-- the cells of the two values that are compared -/
def TwoBox (b : Nat) (k n k' n' : Int) (s s' : ByteArray) (a a' : Option Addr) (len cap len' cap' : Nat) (W : World) : Prop :=
  ((W.cell? ⟨b, 0, none⟩ = some (.int .i64 k) ∧ W.cell? ⟨b, 1, none⟩ = some (.int .i64 n)) ∧ (W.cell? ⟨b, 2, none⟩ = some (.string s) ∧ W.cell? ⟨b, 3, none⟩ = some (.slice a len cap))) ∧
  ((W.cell? ⟨b + 1, 0, none⟩ = some (.int .i64 k') ∧ W.cell? ⟨b + 1, 1, none⟩ = some (.int .i64 n')) ∧ (W.cell? ⟨b + 1, 2, none⟩ = some (.string s') ∧ W.cell? ⟨b + 1, 3, none⟩ = some (.slice a' len' cap')))
theorem twoBox_below {b : Nat} {k n k' n' : Int} {s s' : ByteArray} {a a' : Option Addr} {len cap len' cap' : Nat} {W W' : World} (h : TwoBox b k n k' n' s s' a a' len cap len' cap' W) (hb : Below W.heap.size W W') : TwoBox b k n k' n' s s' a a' len cap len' cap' W' :=
  ⟨⟨⟨cell_below hb h.1.1.1, cell_below hb h.1.1.2⟩, cell_below hb h.1.2.1, cell_below hb h.1.2.2⟩, ⟨cell_below hb h.2.1.1, cell_below hb h.2.1.2⟩, cell_below hb h.2.2.1, cell_below hb h.2.2.2⟩
set_option maxRecDepth 100000 in
set_option maxHeartbeats 8000000 in
theorem refCompare_any (v : PV) : ∀ v' w x y, Is w v x → Is w v' y → Calls Tryz.prog 50 #[x, y] w fun e w' => e = .returned (.int .i64 (cmpV v v')) ∧ Below w.heap.size w w' := by
  induction v using pv_ind with
  | h k n s l ih =>
    intro v' w x y hi hi'
    obtain ⟨k', n', s', l', rfl⟩ : ∃ k m s l, v' = .mk k m s l := by cases v'; exact ⟨_, _, _, _, rfl⟩
    unfold Is at hi hi'
    obtain ⟨h1, h2, h3, a, cap, rfl, h4, h5, h6⟩ := hi
    obtain ⟨i1, i2, i3, a', cap', rfl, i4, i5, i6⟩ := hi'
    have hm : l.length ≤ maxLen := Nat.le_trans h4 h5
    have hm' : l'.length ≤ maxLen := Nat.le_trans i4 i5
    have hB1 := (Below.refl _ w).alloc (Nat.le_refl _) (vobj k n s a l.length cap)
    have hB2 := hB1.alloc hB1.size (vobj k' n' s' a' l'.length cap')
    by_cases hk : k = k'
    · subst hk
      by_cases hn : n = n'
      · subst hn
        rw [cmpV_eq]
        have hdk : (k != k) = false := by simp
        have hdn : (n != n) = false := by simp
        have hbox : TwoBox w.heap.size k n k n s s' a a' l.length cap l'.length cap' ((w.alloc (vobj k n s a l.length cap)).alloc (vobj k n s' a' l'.length cap')) := by
          obtain ⟨⟨c0, c1, c2, c3⟩, d0, d1, d2, d3⟩ := box2_cells (Below.refl _ ((w.alloc (vobj k n s a l.length cap)).alloc (vobj k n s' a' l'.length cap')))
          exact ⟨⟨⟨c0, c1⟩, c2, c3⟩, ⟨d0, d1⟩, d2, d3⟩
        obtain ⟨t, ht⟩ : ∃ t, cmpB (strB s) (strB s') = t := ⟨_, rfl⟩
        rw [ht]
        obtain ⟨R, hR⟩ : ∃ R, (if t ≠ 0 then t else cmpL l l') = R := ⟨_, rfl⟩
        rw [hR]
        have HT := Lib.hid ht
        have H0 : Hid (t = 0 → cmpL l l' = R) := Lib.hid fun h => by rw [← hR, if_neg (by simpa using h)]
        have H1 : Hid (t ≠ 0 → R = t) := Lib.hid fun h => by rw [← hR, if_pos h]
        clear hR
        have HI := Lib.hid ih
        have hbs := strB_bytes s
        have hbs' := strB_bytes s'
        have hls := strB_len s
        have hls' := strB_len s'
        unfold maxLen at h3 i3 hm hm'
        clear ih ht hdk hdn
        go_enter Tryz.func50, Tryz.ntmps50
        go_wp2_with fail
        go_loopw [5] (fun i wr => ∃ q : Nat, q ≤ s.size ∧ q ≤ s'.size ∧ i = .int .i64 (q : Int) ∧ Below ((w.alloc (vobj k n s a l.length cap)).alloc (vobj k n s' a' l'.length cap')).heap.size ((w.alloc (vobj k n s a l.length cap)).alloc (vobj k n s' a' l'.length cap')) wr ∧ Hid (cmpB ((strB s).drop q) ((strB s').drop q) = t)) (fun i _ => s.size - (intOf i).toNat)
        case atStart => exact ⟨0, Nat.zero_le _, Nat.zero_le _, rfl, Below.refl _ _, HT.out⟩
        case round =>
        obtain ⟨q, hq1, hq2, rfl, hB, HQ⟩ := hrel
        obtain ⟨⟨⟨c0, c1⟩, c2, c3⟩, ⟨d0, d1⟩, d2, d3⟩ := twoBox_below hbox hB
        have hBw := hB2.trans (hB.mono hB2.size)
        by_cases hqq : q < s.size ∧ q < s'.size
        · obtain ⟨hqa, hqb⟩ := hqq
          have e1 : decide (q < s.size) = true := by simpa using hqa
          have e2 : decide (q < s'.size) = true := by simpa using hqb
          have hst := cmpB_step (strB s) (strB s') q (by omega) (by omega)
          rw [HQ.out, strB_at s q hqa, strB_at s' q hqb] at hst
          rcases Nat.lt_trichotomy s[q].toNat s'[q].toNat with hxy | hxy | hxy
          · have f1 : decide (s[q].toNat < s'[q].toNat) = true := by simpa using hxy
            have ht1 : t = -1 := by
              rw [hst, if_pos (by omega)]; unfold cmpI; rw [if_pos (by omega)]
            have HRt := H1.out (by rw [ht1]; decide)
            rw [ht1] at HRt
            subst HRt
            clear hst HT ht1
            go_wp2_with fail
            go_quiet (fail)
            go_wp2_with fail
            go_ret
            exact ⟨rfl, by first | exact below_drewN hBw _ | exact below_drewN (below_drewN hBw _) _⟩
          · have f1 : decide (s[q].toNat < s'[q].toNat) = false := by simp; omega
            have f2 : decide (s'[q].toNat < s[q].toNat) = false := by simp; omega
            rw [if_neg (by omega)] at hst
            have HST := Lib.hid hst
            clear hst
            go_wp2_with fail
            go_quiet (fail)
            go_wp2_with fail
            go_quiet (fail)
            go_wp2_with fail
            go_roundw
            all_goals (first
              | (case' rel => exact ⟨q + 1, by omega, by omega, by go_num, below_drewN hB _, HST.out.symm⟩)
              | (case' measure => simp [intOf]; omega))
          · have f1 : decide (s[q].toNat < s'[q].toNat) = false := by simp; omega
            have f2 : decide (s'[q].toNat < s[q].toNat) = true := by simpa using hxy
            have ht1 : t = 1 := by
              rw [hst, if_pos (by omega)]; unfold cmpI; rw [if_neg (by omega), if_pos (by omega)]
            have HRt := H1.out (by rw [ht1]; decide)
            rw [ht1] at HRt
            subst HRt
            clear hst HT ht1
            go_wp2_with fail
            go_quiet (fail)
            go_wp2_with fail
            go_quiet (fail)
            go_wp2_with fail
            go_ret
            exact ⟨rfl, by first | exact below_drewN hBw _ | exact below_drewN (below_drewN hBw _) _⟩
        · have hqm : q = min s.size s'.size := by omega
          have hen := cmpB_end (strB s) (strB s') q (by rw [hls, hls']; exact hqm)
          rw [HQ.out, hls, hls'] at hen
          have hd : decide (q < s.size) = false ∨ decide (q < s'.size) = false := by simp; omega
          rcases Nat.lt_trichotomy s.size s'.size with hss | hss | hss
          · have e1 : decide (q < s.size) = false := by simp; omega
            have f1 : ((s.size : Int) != (s'.size : Int)) = true := by simp; omega
            have f2 : decide (s.size < s'.size) = true := by simpa using hss
            have ht1 : t = -1 := by rw [hen]; unfold cmpI; rw [if_pos (by omega)]
            have HRt := H1.out (by rw [ht1]; decide)
            rw [ht1] at HRt
            subst HRt
            clear hen hd HT hqq hqm ht1
            go_wp2_with fail
            go_ret
            exact ⟨rfl, hBw⟩
          · have e1 : decide (q < s.size) = false := by simp; omega
            have f1 : ((s.size : Int) != (s'.size : Int)) = false := by simp; omega
            have ht1 : t = 0 := by rw [hen, hss]; exact cmpI_self _
            have hr := H0.out ht1
            have HR := Lib.hid hr
            have HSS := Lib.hid hss
            have HBox := Lib.hid hbox
            have HB := Lib.hid hB
            obtain ⟨nl, hnl⟩ : ∃ m, l.length = m := ⟨_, rfl⟩
            clear hen hd HT hqq hqm hr hss hbox hnl ht1
            go_wp2_with fail
            go_loopw [6, 7] (fun i _ wr' => ∃ q : Nat, q ≤ l.length ∧ q ≤ l'.length ∧ i = .int .i64 (q : Int) ∧ Below wr.heap.size wr wr' ∧ Hid (cmpL (l.drop q) (l'.drop q) = R)) (fun i _ _ => l.length - (intOf i).toNat)
            case atStart => exact ⟨0, Nat.zero_le _, Nat.zero_le _, rfl, Below.refl _ _, HR.out⟩
            case round =>
            obtain ⟨q2, hp1, hp2, rfl, hB', HQ'⟩ := hrel
            have hBW := hBw.trans (hB'.mono hBw.size)
            obtain ⟨⟨⟨x0, x1⟩, x2, x3⟩, ⟨z0, z1⟩, z2, z3⟩ := twoBox_below (twoBox_below HBox.out HB.out) hB'
            clear c0 c1 c2 c3 d0 d1 d2 d3 hB1 hB2 e1 f1 hq1 hq2 hbs hbs' hls hls'
            by_cases hqq : q2 < l.length ∧ q2 < l'.length
            · obtain ⟨hqa, hqb⟩ := hqq
              have e1 : decide (q2 < l.length) = true := by simpa using hqa
              have e2 : decide (q2 < l'.length) = true := by simpa using hqb
              obtain ⟨y, hy⟩ : ∃ y, l[q2]? = some y := ⟨l[q2], List.getElem?_eq_getElem hqa⟩
              obtain ⟨y', hy'⟩ : ∃ y, l'[q2]? = some y := ⟨l'[q2], List.getElem?_eq_getElem hqb⟩
              obtain ⟨b, off, rfl, hIs⟩ : ∃ b off, a = some ⟨b, off, none⟩ ∧ IsL w b l off := by
                rcases h6 with h | h
                · subst h; simp at hqa
                · exact h
              obtain ⟨b', off', rfl, hIs'⟩ : ∃ b off, a' = some ⟨b, off, none⟩ ∧ IsL w b l' off := by
                rcases i6 with h | h
                · subst h; simp at hqb
                · exact h
              have hst := cmpL_step l l' q2 y y' hy hy'
              rw [HQ'.out] at hst
              have hbd := cmpV_bd y y'
              have hcall := fun W x x' hx hx' => HI.out y (List.mem_of_getElem? hy) y' W x x' hx hx'
              obtain ⟨c, hc⟩ : ∃ c, cmpV y y' = c := ⟨_, rfl⟩
              rw [hc] at hst hbd hcall
              cases y with
              | mk yk yn ys yl =>
              cases y' with
              | mk uk un us ul =>
              obtain ⟨ya, yc, ⟨g0, g1, g2, g3⟩, hiy⟩ := isL_val (isL_below hBW hIs) q2 _ _ _ _ hy
              obtain ⟨ua, uc, ⟨j0, j1, j2, j3⟩, hiu⟩ := isL_val (isL_below hBW hIs') q2 _ _ _ _ hy'
              have HC := Lib.hid (fun W (hW : Below wr.heap.size wr W) => hcall W _ _ (is_below hW _ _ hiy) (is_below hW _ _ hiu))
              have HST := Lib.hid hst
              clear hcall hst hIs hIs' hiy hiu hy hy' hc h6 i6 HQ' HI HBox HB hB x0 x1 x2 z0 z1 z2
              go_wp2_with fail
              go_region_held3 (fun W => (W.cell? ⟨w.heap.size, 3, none⟩ = some (.slice (some ⟨b, off, none⟩) l.length cap) ∧ W.cell? ⟨w.heap.size + 1, 3, none⟩ = some (.slice (some ⟨b', off', none⟩) l'.length cap')) ∧
                  ((W.cell? ⟨b, off + q2 * 4, none⟩ = some (.int .i64 yk) ∧ W.cell? ⟨b, off + q2 * 4 + 1, none⟩ = some (.int .i64 yn)) ∧ (W.cell? ⟨b, off + q2 * 4 + 2, none⟩ = some (.string ys) ∧ W.cell? ⟨b, off + q2 * 4 + 3, none⟩ = some (.slice ya yl.length yc))) ∧
                  ((W.cell? ⟨b', off' + q2 * 4, none⟩ = some (.int .i64 uk) ∧ W.cell? ⟨b', off' + q2 * 4 + 1, none⟩ = some (.int .i64 un)) ∧ (W.cell? ⟨b', off' + q2 * 4 + 2, none⟩ = some (.string us) ∧ W.cell? ⟨b', off' + q2 * 4 + 3, none⟩ = some (.slice ua ul.length uc))))
                (first | ((try dsimp only); refine ⟨⟨?_, ?_⟩, ⟨⟨?_, ?_⟩, ?_, ?_⟩, ⟨?_, ?_⟩, ?_, ?_⟩ <;> first | (go_keep; done) | (with_reducible refine cell_below hb ?_; go_keep))) (first
                | (go_at_call 50; (with_reducible refine (HC.out _ (below_drew _)).mono ?_); rintro e w' ⟨rfl, hb⟩))
              all_goals (
                have hbw' := (below_drew wr).trans (hb.mono (Nat.le_refl _))
                by_cases hc0 : c = 0
                · subst hc0
                  have hd0 : ((0 : Int) != 0) = false := rfl
                  go_wp2_with fail
                  go_roundw
                  all_goals (first
                    | (case' rel => exact ⟨q2 + 1, by omega, by omega, by go_num, hB'.trans (hbw'.mono hB'.size), by have h := HST.out; rw [if_neg (by simp)] at h; exact h.symm⟩)
                    | (case' measure => simp [intOf]; omega))
                · have hd0 : (c != 0) = true := by simpa using hc0
                  have hR : R = c := by
                    have h := HST.out
                    rw [if_pos hc0] at h
                    rw [h]; unfold cmpI
                    rcases hbd with rfl | rfl | rfl <;> simp at hc0 ⊢
                  subst hR
                  go_wp2_with fail
                  go_ret
                  exact ⟨rfl, hBW.trans (hbw'.mono hBW.size)⟩)
            · have hqm : q2 = min l.length l'.length := by omega
              have hen := cmpL_end l l' q2 hqm
              rw [HQ'.out] at hen
              clear h6 i6 HQ' HI HBox HB hB
              rcases Nat.lt_trichotomy l.length l'.length with hll | hll | hll
              · have e1 : decide (q2 < l.length) = false := by simp; omega
                have f2 : decide (l.length < l'.length) = true := by simpa using hll
                have ht1 : R = -1 := by rw [hen]; unfold cmpI; rw [if_pos (by omega)]
                subst ht1
                clear hen hqq hqm
                go_wp2_with fail
                go_ret
                exact ⟨rfl, hBW⟩
              · have e1 : decide (q2 < l.length) = false := by simp; omega
                have f2 : decide (l.length < l'.length) = false := by simp; omega
                have f3 : decide (l'.length < l.length) = false := by simp; omega
                have ht1 : R = 0 := by rw [hen, hll]; exact cmpI_self _
                subst ht1
                clear hen hqq hqm
                have HLL := Lib.hid hll; clear hll
                go_wp2_with fail
                go_ret
                exact ⟨rfl, hBW⟩
              · have e1 : decide (q2 < l.length) = true := by simp; omega
                have e2 : decide (q2 < l'.length) = false := by simp; omega
                have f2 : decide (l.length < l'.length) = false := by simp; omega
                have f3 : decide (l'.length < l.length) = true := by simpa using hll
                have ht1 : R = 1 := by rw [hen]; unfold cmpI; rw [if_neg (by omega), if_pos (by omega)]
                subst ht1
                clear hen hqq hqm
                go_wp2_with fail
                go_ret
                exact ⟨rfl, hBW⟩
          · have e2 : decide (q < s'.size) = false := by simp; omega
            have e1 : decide (q < s.size) = true := by simp; omega
            have f1 : ((s.size : Int) != (s'.size : Int)) = true := by simp; omega
            have f2 : decide (s.size < s'.size) = false := by simp; omega
            have ht1 : t = 1 := by rw [hen]; unfold cmpI; rw [if_neg (by omega), if_pos (by omega)]
            have HRt := H1.out (by rw [ht1]; decide)
            rw [ht1] at HRt
            subst HRt
            clear hen hd HT hqq hqm ht1
            go_wp2_with fail
            go_ret
            exact ⟨rfl, hBw⟩
      · have hdk : (k != k) = false := by simp
        have hdn : (n != n') = true := by simpa using hn
        have hv : cmpV (.mk k n s l) (.mk k n' s' l') = cmpI n n' := by
          have h0 : orI (cmpI k k) (cmpI n n') = cmpI n n' := by simp [cmpI_self, orI]
          simp only [cmpV]
          rw [if_pos (by rw [h0]; exact fun e => hn ((cmpI_zero _ _).1 e)), h0]
        rw [hv]
        unfold cmpI
        clear ih hdk hv h6 i6
        rcases Int.lt_trichotomy n n' with hlt | hlt | hlt
        · have d1 : decide (n < n') = true := by simpa using hlt
          rw [if_pos hlt]
          go_enter Tryz.func50, Tryz.ntmps50
          go_wp2_with fail
          go_ret
          exact ⟨rfl, hB2⟩
        · exact absurd hlt hn
        · have d1 : decide (n < n') = false := by simp; omega
          rw [if_neg (by omega), if_pos hlt]
          go_enter Tryz.func50, Tryz.ntmps50
          go_wp2_with fail
          go_ret
          exact ⟨rfl, hB2⟩
    · have hdk : (k != k') = true := by simpa using hk
      have hv : cmpV (.mk k n s l) (.mk k' n' s' l') = cmpI k k' := by
        have h00 : cmpI k k' ≠ 0 := fun e => hk ((cmpI_zero _ _).1 e)
        have h0 : orI (cmpI k k') (cmpI n n') = cmpI k k' := by unfold orI; rw [if_pos h00]
        simp only [cmpV]
        rw [if_pos (by rw [h0]; exact h00), h0]
      rw [hv]
      unfold cmpI
      clear ih hv h6 i6
      rcases Int.lt_trichotomy k k' with hlt | hlt | hlt
      · have d1 : decide (k < k') = true := by simpa using hlt
        rw [if_pos hlt]
        go_enter Tryz.func50, Tryz.ntmps50
        go_wp2_with fail
        go_ret
        exact ⟨rfl, hB2⟩
      · exact absurd hlt hk
      · have d1 : decide (k < k') = false := by simp; omega
        rw [if_neg (by omega), if_pos hlt]
        go_enter Tryz.func50, Tryz.ntmps50
        go_wp2_with fail
        go_ret
        exact ⟨rfl, hB2⟩
set_option maxHeartbeats 1000000 in
theorem refSame_any (v v' : PV) (w : World) (x y : Value) (hi : Is w v x) (hi' : Is w v' y) : Calls Tryz.prog 28 #[x, y] w fun e w' => e = .returned (.bool (cmpV v v' == 0)) ∧ Below w.heap.size w w' := by
  have hc := fun w x y hi hi' => refCompare_any v v' w x y hi hi'
  obtain ⟨c, hcv⟩ : ∃ c, cmpV v v' = c := ⟨_, rfl⟩
  rw [hcv] at hc ⊢
  clear hcv
  obtain ⟨k, n, s, l, rfl⟩ : ∃ k m s l, v = .mk k m s l := by cases v; exact ⟨_, _, _, _, rfl⟩
  obtain ⟨k', n', s', l', rfl⟩ : ∃ k m s l, v' = .mk k m s l := by cases v'; exact ⟨_, _, _, _, rfl⟩
  have hi2 := Lib.hid hi
  have hi3 := Lib.hid hi'
  unfold Is at hi hi'
  obtain ⟨h1, h2, h3, a, cap, rfl, h4, h5, h6⟩ := hi
  obtain ⟨i1, i2, i3, a', cap', rfl, i4, i5, i6⟩ := hi'
  have hB1 := (Below.refl _ w).alloc (Nat.le_refl _) (vobj k n s a l.length cap)
  have hB2 := hB1.alloc hB1.size (vobj k' n' s' a' l'.length cap')
  clear h6 i6
  go_enter Tryz.func28, Tryz.ntmps28
  go_wp2_with (first | (go_at_call 50; (with_reducible refine (hc _ _ _ (is_below hB2 _ _ hi2.out) (is_below hB2 _ _ hi3.out)).mono ?_); rintro e w' ⟨rfl, hb⟩))
  go_ret
  exact ⟨rfl, hB2.trans (hb.mono hB2.size)⟩
theorem same_bool (v v' : PV) : (cmpV v v' == 0) = true ↔ v = v' := by
  rw [beq_iff_eq]; exact cmpV_zero v v'
end Go.Proofs.YtibjjclfonpibaaGreat

/- The walk of SchemaFirst: a right template cut to its first steps is right, and has the same versions so far. -/
set_option linter.unusedVariables false
set_option linter.unusedSimpArgs false
set_option maxRecDepth 100000
namespace Go.Proofs.YtibjjclfonpibaaGreat
open Go.RowKit Go.Shelf
/-- what a version is in memory: its slots, its columns -/
def VerAt (w : World) (v : Sc.Ver) (sa : Option Addr) (sc : Nat) (ca : Option Addr) (cc : Nat) : Prop := SlotRow w sa sc v.slots ∧ Row w .i64 ca v.cols.length cc (v.cols.map Int.ofNat)
/-- what At, Right and Last come to, of templates that are looked at -/
def AtC : Prop := ∀ (t : TemplM) (L : List Sc.Ver) (v : Nat) (x : Sc.Ver) (w : World) (X : Value), greatT t = false → Sc.vers t = some L → L[v]? = some x → IsTempl w t X → Calls Tryz.prog 62 #[X, .int .i64 ((v + 1 : Nat) : Int)] w fun e w' =>
  (∃ sa sc ca cc, e = .returned (.tuple #[.agg #[.slice sa x.slots.length sc, .slice ca x.cols.length cc], .bool true]) ∧ VerAt w' x sa sc ca cc) ∧ Below w.heap.size w w'
namespace schemaFirstWalk
end schemaFirstWalk
end Go.Proofs.YtibjjclfonpibaaGreat

/- Slots in a growing row of one's own (no walk): what each is stays where it was read. -/
set_option linter.unusedVariables false
set_option maxRecDepth 100000
namespace Go.Proofs.YtibjjclfonpibaaGreat
open Go.RowKit Go.Shelf
/-- seven cells each, of slots whose values lie in w -/
def SCells (w : World) (l : List SlotM) (cs : List Value) : Prop := cs.length = l.length * 7 ∧ (∀ u ∈ cs, u.oneCell' = true) ∧
  ∀ (i : Nat) (s : SlotM), l[i]? = some s → ∃ c0 c1 c2 c3 c4 c5 c6, (cs[i * 7]? = some c0 ∧ cs[i * 7 + 1]? = some c1 ∧ cs[i * 7 + 2]? = some c2 ∧ cs[i * 7 + 3]? = some c3 ∧ cs[i * 7 + 4]? = some c4 ∧ cs[i * 7 + 5]? = some c5 ∧ cs[i * 7 + 6]? = some c6) ∧ Slot7 w s c0 c1 c2 c3 c4 c5 c6
theorem sCells_nil (w : World) : SCells w [] [] := ⟨rfl, by simp, fun i s h => by simp at h⟩
theorem sCells_append {w : World} {l r : List SlotM} {cs ds : List Value} (h : SCells w l cs) (k : SCells w r ds) : SCells w (l ++ r) (cs ++ ds) := by
  have hlen := h.1
  refine ⟨by rw [List.length_append, List.length_append, h.1, k.1]; omega, fun u hu => (List.mem_append.1 hu).elim (h.2.1 u) (k.2.1 u), fun i s hs => ?_⟩
  rcases Nat.lt_or_ge i l.length with hlt | hge
  · rw [List.getElem?_append_left hlt] at hs
    obtain ⟨c0, c1, c2, c3, c4, c5, c6, hc, h7⟩ := h.2.2 i s hs
    refine ⟨c0, c1, c2, c3, c4, c5, c6, ?_, h7⟩
    rw [List.getElem?_append_left (by omega), List.getElem?_append_left (by omega), List.getElem?_append_left (by omega), List.getElem?_append_left (by omega), List.getElem?_append_left (by omega), List.getElem?_append_left (by omega), List.getElem?_append_left (by omega)]
    exact hc
  · rw [List.getElem?_append_right hge] at hs
    obtain ⟨c0, c1, c2, c3, c4, c5, c6, hc, h7⟩ := k.2.2 _ s hs
    refine ⟨c0, c1, c2, c3, c4, c5, c6, ?_, h7⟩
    rw [List.getElem?_append_right (by omega), List.getElem?_append_right (by omega), List.getElem?_append_right (by omega), List.getElem?_append_right (by omega), List.getElem?_append_right (by omega), List.getElem?_append_right (by omega), List.getElem?_append_right (by omega)]
    have e : ∀ j, i * 7 + j - cs.length = (i - l.length) * 7 + j := fun j => by rw [hlen]; omega
    rw [show i * 7 - cs.length = (i - l.length) * 7 by rw [hlen]; omega, e 1, e 2, e 3, e 4, e 5, e 6]
    exact hc
theorem slot7_one {w : World} {s : SlotM} {c0 c1 c2 c3 c4 c5 c6 : Value} (h : Slot7 w s c0 c1 c2 c3 c4 c5 c6) : ∀ u ∈ [c0, c1, c2, c3, c4, c5, c6], u.oneCell' = true := by
  obtain ⟨h1, h2, rfl, rfl, rfl, h3⟩ := h
  cases hd : s.df with
  | mk k n t l =>
    rw [hd] at h3
    unfold Is at h3
    obtain ⟨_, _, _, a, cap, e, _⟩ := h3
    injection e with e
    injection e with e
    injection e with e3 e
    injection e with e4 e
    injection e with e5 e
    injection e with e6 e
    subst e3 e4 e5 e6
    simp [Value.oneCell']
/-- one slot's -/
theorem sCells_one {w : World} {s : SlotM} {c0 c1 c2 c3 c4 c5 c6 : Value} (h : Slot7 w s c0 c1 c2 c3 c4 c5 c6) : SCells w [s] [c0, c1, c2, c3, c4, c5, c6] :=
  ⟨rfl, slot7_one h, fun i t ht => by
    have hi : i < 1 := (List.getElem?_eq_some_iff.1 ht).1
    obtain rfl : i = 0 := by omega
    simp only [List.getElem?_cons_zero, Option.some.injEq] at ht
    subst ht
    exact ⟨_, _, _, _, _, _, _, ⟨rfl, rfl, rfl, rfl, rfl, rfl, rfl⟩, h⟩⟩
/-- a row of slots as cells -/
theorem sCells_row {w : World} {a : Option Addr} {cap : Nat} {l : List SlotM} (h : SlotRow w a cap l) : ∃ cs, SCells w l cs ∧ Cells w 7 a l.length cs := by
  obtain ⟨h1, h2, h3⟩ := h
  rcases h3 with h3 | ⟨b, off, rfl, hc⟩
  · subst h3
    exact ⟨[], sCells_nil w, rfl, .inl rfl⟩
  · clear h1 h2
    suffices H : ∀ (k : Nat), k ≤ l.length → ∃ cs, SCells w (l.take k) cs ∧ ∀ j u, cs[j]? = some u → w.cell? ⟨b, off + j, none⟩ = some u by
      obtain ⟨cs, g1, g2⟩ := H l.length (Nat.le_refl _)
      rw [List.take_length] at g1
      exact ⟨cs, g1, g1.1, .inr ⟨_, rfl, fun j u hu => by rw [Addr.add_lit]; exact g2 j u hu⟩⟩
    intro k
    induction k with
    | zero => intro _; exact ⟨[], by simpa using sCells_nil w, fun j u h => by simp at h⟩
    | succ k ih =>
      intro hk
      obtain ⟨cs, g1, g2⟩ := ih (by omega)
      have hs : l[k]? = some l[k] := List.getElem?_eq_getElem (by omega)
      obtain ⟨c0, c1, c2, c3, c4, c5, c6, ⟨q0, q1, q2, q3, q4, q5, q6⟩, h7⟩ := hc k _ hs
      refine ⟨cs ++ [c0, c1, c2, c3, c4, c5, c6], ?_, fun j u hu => ?_⟩
      · rw [List.take_add_one, hs]
        exact sCells_append g1 (sCells_one h7)
      · have hlen : cs.length = k * 7 := by rw [g1.1, List.length_take, Nat.min_eq_left (by omega)]
        rcases Nat.lt_or_ge j cs.length with hlt | hge
        · rw [List.getElem?_append_left hlt] at hu
          exact g2 j u hu
        · rw [List.getElem?_append_right hge] at hu
          obtain ⟨m, rfl⟩ : ∃ m, j = k * 7 + m := ⟨j - k * 7, by omega⟩
          rw [hlen, show k * 7 + m - k * 7 = m by omega] at hu
          have hm : m < 7 := (List.getElem?_eq_some_iff.1 hu).1
          rw [show off + (k * 7 + m) = off + k * 7 + m by omega]
          match m, hm with
          | 0, _ => cases hu; exact q0
          | 1, _ => cases hu; exact q1
          | 2, _ => cases hu; exact q2
          | 3, _ => cases hu; exact q3
          | 4, _ => cases hu; exact q4
          | 5, _ => cases hu; exact q5
          | 6, _ => cases hu; exact q6
/-- a row of one's own is a row of slots -/
theorem slotRow_own {w W : World} {B : Nat} {v : Value} {l : List SlotM} {cs : List Value} (h : W.ownsRow B 44 7 v l.length cs) (hs : SCells w l cs) (hb : Below w.heap.size w W) : ∃ a cap, v = .slice a l.length cap ∧ SlotRow W a cap l := by
  obtain ⟨h1, h2⟩ := h
  rcases h2 with ⟨rfl, hn⟩ | ⟨g, cap, cur, rfl, hg, hh, hn, hm, hsz, ht⟩
  · exact ⟨none, 0, by rw [hn], by omega, by unfold maxLen; omega, .inl (List.length_eq_zero_iff.1 hn)⟩
  · refine ⟨_, cap, rfl, hn, hm, .inr ⟨g, 0, rfl, fun i s hi => ?_⟩⟩
    obtain ⟨c0, c1, c2, c3, c4, c5, c6, ⟨q0, q1, q2, q3, q4, q5, q6⟩, h7⟩ := hs.2.2 i s hi
    have hil : i < l.length := (List.getElem?_eq_some_iff.1 hi).1
    have cell : ∀ j u, cs[j]? = some u → W.cell? ⟨g, 0 + j, none⟩ = some u := fun j u hu => by
      rw [← ht, List.getElem?_take] at hu
      split at hu
      · rw [Array.getElem?_toList] at hu
        simp [World.cell?, hh, hu]
      · cases hu
    refine ⟨c0, c1, c2, c3, c4, c5, c6, ⟨?_, ?_, ?_, ?_, ?_, ?_, ?_⟩, slot7_below hb h7⟩
    · exact cell _ _ q0
    · exact cell _ _ q1
    · exact cell _ _ q2
    · exact cell _ _ q3
    · exact cell _ _ q4
    · exact cell _ _ q5
    · exact cell _ _ q6
theorem set_nth {α : Type} (cs : List α) (i j : Nat) (c : α) (hi : i < cs.length) : (cs.set i c)[j]? = if j = i then some c else cs[j]? := by
  rw [List.getElem?_set]
  by_cases h : i = j
  · subst h; simp [hi]
  · rw [if_neg h, if_neg (fun e => h e.symm)]
/-- a slot's name is set -/
theorem sCells_setNm {w : World} {l : List SlotM} {cs : List Value} (h : SCells w l cs) (c : Nat) (nm : ByteArray) (hn : nm.size ≤ maxLen) : SCells w (l.modify c (fun t => Sc.setNm t nm)) (cs.set (c * 7) (.string nm)) := by
  refine ⟨by rw [List.length_set, List.length_modify, h.1], fun u hu => ?_, fun i s hs => ?_⟩
  · rcases List.mem_or_eq_of_mem_set hu with hu | rfl
    · exact h.2.1 u hu
    · rfl
  · rw [List.getElem?_modify] at hs
    obtain ⟨t, ht, rfl⟩ := Option.map_eq_some_iff.1 hs
    obtain ⟨c0, c1, c2, c3, c4, c5, c6, ⟨q0, q1, q2, q3, q4, q5, q6⟩, h7⟩ := h.2.2 i t ht
    by_cases hic : c = i
    · subst hic
      have hlt : c * 7 < cs.length := (List.getElem?_eq_some_iff.1 q0).1
      refine ⟨.string nm, c1, c2, c3, c4, c5, c6, ⟨?_, ?_, ?_, ?_, ?_, ?_, ?_⟩, ?_⟩
      · rw [set_nth _ _ _ _ hlt, if_pos rfl]
      · rw [set_nth _ _ _ _ hlt, if_neg (by omega), q1]
      · rw [set_nth _ _ _ _ hlt, if_neg (by omega), q2]
      · rw [set_nth _ _ _ _ hlt, if_neg (by omega), q3]
      · rw [set_nth _ _ _ _ hlt, if_neg (by omega), q4]
      · rw [set_nth _ _ _ _ hlt, if_neg (by omega), q5]
      · rw [set_nth _ _ _ _ hlt, if_neg (by omega), q6]
      · obtain ⟨k1, k2, k3, k4, k5, k6⟩ := h7
        rw [if_pos rfl]
        exact ⟨hn, k2, rfl, k4, k5, k6⟩
    · rw [if_neg hic]
      refine ⟨c0, c1, c2, c3, c4, c5, c6, ⟨?_, ?_, ?_, ?_, ?_, ?_, ?_⟩, h7⟩
      · rw [List.getElem?_set_ne (by omega), q0]
      · rw [List.getElem?_set_ne (by omega), q1]
      · rw [List.getElem?_set_ne (by omega), q2]
      · rw [List.getElem?_set_ne (by omega), q3]
      · rw [List.getElem?_set_ne (by omega), q4]
      · rw [List.getElem?_set_ne (by omega), q5]
      · rw [List.getElem?_set_ne (by omega), q6]
/-- a slot's kinds are set -/
theorem sCells_setTy {w : World} {l : List SlotM} {cs : List Value} (h : SCells w l cs) (c : Nat) (ty : Int) (hn : I64 ty) : SCells w (l.modify c (fun t => Sc.setTy t ty)) (cs.set (c * 7 + 1) (.int .i64 ty)) := by
  refine ⟨by rw [List.length_set, List.length_modify, h.1], fun u hu => ?_, fun i s hs => ?_⟩
  · rcases List.mem_or_eq_of_mem_set hu with hu | rfl
    · exact h.2.1 u hu
    · rfl
  · rw [List.getElem?_modify] at hs
    obtain ⟨t, ht, rfl⟩ := Option.map_eq_some_iff.1 hs
    obtain ⟨c0, c1, c2, c3, c4, c5, c6, ⟨q0, q1, q2, q3, q4, q5, q6⟩, h7⟩ := h.2.2 i t ht
    by_cases hic : c = i
    · subst hic
      have hlt : c * 7 + 1 < cs.length := (List.getElem?_eq_some_iff.1 q1).1
      refine ⟨c0, .int .i64 ty, c2, c3, c4, c5, c6, ⟨?_, ?_, ?_, ?_, ?_, ?_, ?_⟩, ?_⟩
      · rw [set_nth _ _ _ _ hlt, if_neg (by omega), q0]
      · rw [set_nth _ _ _ _ hlt, if_pos rfl]
      · rw [set_nth _ _ _ _ hlt, if_neg (by omega), q2]
      · rw [set_nth _ _ _ _ hlt, if_neg (by omega), q3]
      · rw [set_nth _ _ _ _ hlt, if_neg (by omega), q4]
      · rw [set_nth _ _ _ _ hlt, if_neg (by omega), q5]
      · rw [set_nth _ _ _ _ hlt, if_neg (by omega), q6]
      · obtain ⟨k1, k2, k3, k4, k5, k6⟩ := h7
        rw [if_pos rfl]
        exact ⟨k1, hn, k3, rfl, k5, k6⟩
    · rw [if_neg hic]
      refine ⟨c0, c1, c2, c3, c4, c5, c6, ⟨?_, ?_, ?_, ?_, ?_, ?_, ?_⟩, h7⟩
      · rw [List.getElem?_set_ne (by omega), q0]
      · rw [List.getElem?_set_ne (by omega), q1]
      · rw [List.getElem?_set_ne (by omega), q2]
      · rw [List.getElem?_set_ne (by omega), q3]
      · rw [List.getElem?_set_ne (by omega), q4]
      · rw [List.getElem?_set_ne (by omega), q5]
      · rw [List.getElem?_set_ne (by omega), q6]
end Go.Proofs.YtibjjclfonpibaaGreat

/- Bits of numbers from 0 on (no walk). -/
set_option linter.unusedVariables false
namespace Go.Proofs.YtibjjclfonpibaaGreat
open Go.RowKit Go.Shelf
namespace Sc
theorem ofI (a : Nat) (ha : a < 9223372036854775808) : (BitVec.ofInt 64 (a : Int)).toNat = a := by
  rw [BitVec.ofInt_natCast, BitVec.toNat_ofNat]; exact Nat.mod_eq_of_lt (by omega)
theorem wrapI (n : Nat) (h : n < 9223372036854775808) : IntKind.i64.wrap (n : Int) = (n : Int) := by
  simp [IntKind.wrap, IntKind.bits, IntKind.signed]
  split <;> omega
theorem andI (a b : Nat) (ha : a < 9223372036854775808) (hb : b < 9223372036854775808) : bits .and .i64 (a : Int) (b : Int) = ((a &&& b : Nat) : Int) := by
  have hx : a &&& b < 2 ^ 63 := Nat.and_lt_two_pow _ (by omega)
  show IntKind.i64.wrap ((BitVec.ofInt 64 (a : Int) &&& BitVec.ofInt 64 (b : Int)).toNat : Int) = _
  rw [BitVec.toNat_and, ofI a ha, ofI b hb]
  exact wrapI _ (by omega)
theorem orI' (a b : Nat) (ha : a < 9223372036854775808) (hb : b < 9223372036854775808) : bits .or .i64 (a : Int) (b : Int) = ((a ||| b : Nat) : Int) := by
  have hx : a ||| b < 2 ^ 63 := Nat.or_lt_two_pow (by omega) (by omega)
  show IntKind.i64.wrap ((BitVec.ofInt 64 (a : Int) ||| BitVec.ofInt 64 (b : Int)).toNat : Int) = _
  rw [BitVec.toNat_or, ofI a ha, ofI b hb]
  exact wrapI _ (by omega)
theorem and_pow (t k : Nat) : (t &&& 2 ^ k = 0) ↔ ¬ t / 2 ^ k % 2 = 1 := by
  have e : t.testBit k = decide (t / 2 ^ k % 2 = 1) := by
    rw [Nat.testBit_eq_decide_div_mod_eq]
  constructor
  · intro h hk
    have h2 : (t &&& 2 ^ k).testBit k = false := by rw [h]; exact Nat.zero_testBit k
    rw [Nat.testBit_and, e, Nat.testBit_two_pow_self] at h2
    simp [hk] at h2
  · intro h
    refine Nat.eq_of_testBit_eq fun i => ?_
    rw [Nat.testBit_and, Nat.zero_testBit]
    by_cases hi : k = i
    · subst hi
      rw [e]
      simp [h]
    · rw [Nat.testBit_two_pow_of_ne hi, Bool.and_false]
theorem and_has (t k : Nat) : decide ((t &&& 2 ^ k) = 0) = !has t k := by
  unfold has
  by_cases h : t / 2 ^ k % 2 = 1
  · rw [decide_eq_true h, decide_eq_false (fun e => ((and_pow t k).1 e) h)]; rfl
  · rw [decide_eq_false h, decide_eq_true ((and_pow t k).2 h)]; rfl
theorem small_or : ∀ a b : Nat, a < 64 → b < 64 → a ||| b < 64 := fun a b ha hb => Nat.or_lt_two_pow (n := 6) ha hb
/-- what one takes that the other does not -/
theorem bitsNot (a b : Nat) (ha : a < 64) (hb : b < 64) : bits .andNot .i64 (a : Int) (b : Int) = ((a &&& (63 - b) : Nat) : Int) := by
  have H : ∀ (a b : Fin 64), bits .andNot .i64 ((a.val : Nat) : Int) ((b.val : Nat) : Int) = ((a.val &&& (63 - b.val) : Nat) : Int) := by decide +kernel
  exact H ⟨a, ha⟩ ⟨b, hb⟩
theorem not_or (a b : Nat) (ha : a < 64) (hb : b < 64) : (a &&& (63 - b) = 0) ↔ b ||| a = b := by
  have H : ∀ (a b : Fin 64), (a.val &&& (63 - b.val) = 0) ↔ b.val ||| a.val = b.val := by decide +kernel
  exact H ⟨a, ha⟩ ⟨b, hb⟩
end Sc
end Go.Proofs.YtibjjclfonpibaaGreat
