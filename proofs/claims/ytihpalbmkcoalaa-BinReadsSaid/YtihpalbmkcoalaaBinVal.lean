/- Package bin: spare, right. -/
import Derived.Test.YtihpalbmkcoalaaBinAll
import Derived.Test.YtihpalbmkcoalaaValRight
namespace Go.Proofs.Ytihpalbmkcoalaa
open Go.RowKit Go.Shelf
mutual
/-- how many nodes are left of some, as the program says it -/
def spV : PV → Int → Int → Int
  | .mk _ _ _ l, d, n => if 4 < d then -1 else spL l (d + 1) (n - 1)
def spL : List PV → Int → Int → Int
  | [], _, n => n
  | x :: r, d, n => if n < 0 then n else spL r d (spV x d n)
end
theorem sp_neg (l : List PV) (d n : Int) (h : n < 0) : spL l d n = n := by
  cases l with
  | nil => simp only [spL]
  | cons x r => simp only [spL]; rw [if_pos h]
theorem sp_bd : ∀ v : PV, ∀ d n, 0 ≤ n → -1 ≤ spV v d n ∧ spV v d n ≤ n ∧ (0 ≤ spV v d n → spV v d n = n - szV v) := by
  intro v
  induction v using pv_ind with
  | h k n s l ih =>
    have hl : ∀ d n, -1 ≤ n → -1 ≤ spL l d n ∧ spL l d n ≤ n ∧ (0 ≤ spL l d n → spL l d n = n - szL l) := by
      induction l with
      | nil => intro d n hn; simp only [spL, szL]; omega
      | cons x r ih2 =>
        intro d n hn
        simp only [spL, szL]
        split
        · omega
        · have h1 := ih x (by simp) d n (by omega)
          have h2 := ih2 (fun y hy => ih y (by simp [hy])) d (spV x d n) (by omega)
          omega
    intro d n hn
    simp only [spV, szV]
    split
    · omega
    · have := hl (d + 1) (n - 1) (by omega); omega
/-- a value that is formed, and not too deep, has room if its nodes have -/
theorem sp_ok : ∀ v : PV, okV v = true → ∀ d n : Nat, deepV v + d ≤ 4 → szV v ≤ n → spV v d n = (n : Int) - szV v := by
  intro v
  induction v using pv_ind with
  | h k m s l ih =>
    intro ho d n hd hn
    simp only [spV, szV, deepV] at *
    rw [if_neg (by omega)]
    by_cases hk : k = 5
    · subst hk
      rw [okV5] at ho
      simp only [Bool.and_eq_true] at ho
      have hol := ho.2
      clear ho
      rw [if_pos rfl] at hd
      have key : ∀ n : Nat, szL l ≤ n → spL l ((d : Int) + 1) n = (n : Int) - szL l := by
        clear hn
        induction l with
        | nil => intro n _; simp [spL, szL]
        | cons x r ih2 =>
          intro n hn
          simp only [spL, szL, deepL, okL, Bool.and_eq_true] at *
          rw [if_neg (by omega)]
          have h1 := ih x (by simp) hol.1 (d + 1) n (by omega) (by omega)
          rw [show ((d + 1 : Nat) : Int) = (d : Int) + 1 by omega] at h1
          rw [h1]
          have h2 := ih2 (fun y hy => ih y (by simp [hy])) (by omega) hol.2 (n - szV x) (by omega)
          rw [show ((n - szV x : Nat) : Int) = (n : Int) - szV x by omega] at h2
          rw [h2]; omega
      have h3 := key (n - 1) (by omega)
      rw [show ((n - 1 : Nat) : Int) = (n : Int) - 1 by omega] at h3
      rw [h3]; omega
    · have hl : l = [] := by
        by_cases k0 : k = 0
        · subst k0; rw [okV0] at ho; simp at ho; exact ho.2
        by_cases k1 : k = 1
        · subst k1; rw [okV1] at ho; simp at ho; exact ho.2
        by_cases k2 : k = 2
        · subst k2; rw [okV2] at ho; simp at ho; exact ho.2
        by_cases k3 : k = 3
        · subst k3; rw [okV3] at ho; simp at ho; exact ho.2
        by_cases k4 : k = 4
        · subst k4; rw [okV4] at ho; simp at ho; exact ho.2
        · rw [okV6 _ _ _ _ k0 k1 k2 k3 k4 hk] at ho; cases ho
      subst hl
      simp [spL, szL]
theorem sp_right (v : PV) (h : rightV v = true) : 0 ≤ spV v 0 100 := by
  simp only [rightV, Bool.and_eq_true, decide_eq_true_eq] at h
  have := sp_ok v h.2 0 100 (by omega) h.1.2
  simp only [Int.natCast_zero] at this
  rw [show ((100 : Nat) : Int) = 100 from rfl] at this
  rw [this]; omega
set_option maxHeartbeats 2000000 in
theorem spare_any (v : PV) : ∀ (d n : Int), 0 ≤ d → d ≤ 5 → 0 ≤ n → n ≤ 100 → ∀ w x, Is w v x →
    Calls Try.prog 62 #[x, .int .i64 d, .int .i64 n] w fun e w' => e = .returned (.int .i64 (spV v d n)) ∧ Below w.heap.size w w' := by
  induction v using pv_ind with
  | h k m s l ih =>
    intro d n hd hd' hn hn' w x hi
    unfold Is at hi
    obtain ⟨h1, h2, h3, a, cap, rfl, h4, h5, h6⟩ := hi
    have hm : l.length ≤ maxLen := Nat.le_trans h4 h5
    unfold maxLen at hm
    have hB0 := (Below.refl _ w).alloc (Nat.le_refl _) (vobj k m s a l.length cap)
    by_cases hg : 4 < d
    · have hv : spV (.mk k m s l) d n = -1 := by simp only [spV]; rw [if_pos hg]
      rw [hv]
      have hd1 : decide (4 < d) = true := by simpa using hg
      clear ih h6 hv hg
      go_enter Try.func62, Try.ntmps62
      go_wp2_with fail
      all_goals go_ret
      all_goals exact ⟨rfl, hB0⟩
    · have hv : spV (.mk k m s l) d n = spL l (d + 1) (n - 1) := by simp only [spV]; rw [if_neg hg]
      rw [hv]
      clear hv
      have hd1 : decide (4 < d) = false := by simpa using hg
      obtain ⟨r, hr⟩ : ∃ r, spL l (d + 1) (n - 1) = r := ⟨_, rfl⟩
      rw [hr]
      have HR := Lib.hid hr; have HI := Lib.hid ih; clear ih hr
      go_enter Try.func62, Try.ntmps62
      go_wp2_with fail
      go_loopw [2, 8, 16] (fun c _ i wr => ∃ (q : Nat) (z : Int), i = .int .i64 (q : Int) ∧ c = .int .i64 z ∧ -1 ≤ z ∧ z ≤ 100 ∧ q ≤ l.length ∧ Below (w.alloc (vobj k m s a l.length cap)).heap.size (w.alloc (vobj k m s a l.length cap)) wr ∧ Hid (spL (l.drop q) (d + 1) z = r)) (fun _ _ i _ => l.length - (intOf i).toNat)
      case atStart => exact ⟨0, n - 1, rfl, rfl, by omega, by omega, Nat.zero_le _, Below.refl _ _, HR.out⟩
      case round =>
      obtain ⟨q, c, rfl, rfl, hc, hc', hq, hB, HQ⟩ := hrel
      by_cases hql : q < l.length
      · have hdq : decide (q < l.length) = true := by simp; omega
        obtain ⟨y, hy⟩ : ∃ y, l[q]? = some y := ⟨l[q], List.getElem?_eq_getElem hql⟩
        obtain ⟨b, off, rfl, hIs⟩ : ∃ b off, a = some ⟨b, off, none⟩ ∧ IsL w b l off := by
          rcases h6 with h | h
          · subst h; simp at hql
          · exact h
        have hdrop : spL (l.drop q) (d + 1) c = if c < 0 then c else spL (l.drop (q + 1)) (d + 1) (spV y (d + 1) c) := by
          rw [show l.drop q = y :: l.drop (q + 1) by
            rw [List.drop_eq_getElem_cons hql]
            rw [List.getElem?_eq_getElem hql] at hy
            cases hy; rfl]
          simp only [spL]
        rw [HQ.out] at hdrop
        rcases Int.lt_or_le c 0 with hc0 | hc0
        · have hdc : decide (c < 0) = true := by simpa using hc0
          rw [if_pos hc0] at hdrop
          have HD := Lib.hid hdrop
          cases y with
          | mk yk yn ys yl =>
          obtain ⟨ya, yc, ⟨g0, g1, g2, g3⟩, hi⟩ := isL_val (isL_below hB (isL_below hB0 hIs)) q _ _ _ _ hy
          have hA0 := (Below.refl _ wr).alloc (Nat.le_refl _) (vobj yk yn ys ya yl.length yc)
          clear h6 hIs hi hy hdrop HQ
          go_wp2_with fail
          all_goals go_ret
          all_goals exact ⟨ret_int HD.out.symm, hB0.trans ((hB.trans (hA0.mono hB.size)).mono hB0.size)⟩
        · have hdc : decide (c < 0) = false := by simp; omega
          rw [if_neg (by omega)] at hdrop
          have hbd := sp_bd y (d + 1) c hc0
          have hcall := fun w x hx => HI.out y (List.mem_of_getElem? hy) (d + 1) c (by omega) (by omega) hc0 hc' w x hx
          cases y with
          | mk yk yn ys yl =>
          obtain ⟨ya, yc, ⟨g0, g1, g2, g3⟩, hi⟩ := isL_val (isL_below hB (isL_below hB0 hIs)) q _ _ _ _ hy
          have hi2 := Lib.hid hi
          have hA0 := (Below.refl _ wr).alloc (Nat.le_refl _) (vobj yk yn ys ya yl.length yc)
          obtain ⟨z, hz⟩ : ∃ z, spV (.mk yk yn ys yl) (d + 1) c = z := ⟨_, rfl⟩
          rw [hz] at hcall hdrop hbd
          have HD := Lib.hid hdrop
          have HC := Lib.hid hcall
          clear h6 hIs hi hy hz hdrop HQ hcall
          go_wp2_with (first | (go_at_call 62; (with_reducible refine (HC.out _ _ (is_below hA0 _ _ hi2.out)).mono ?_); rintro e w' ⟨rfl, hb⟩))
          all_goals go_roundw
          all_goals (first
            | (case' rel => exact ⟨q + 1, z, by go_num, rfl, by omega, by omega, by omega, hB.trans ((hA0.trans (hb.mono hA0.size)).mono hB.size), HD.out.symm⟩)
            | (case' measure => simp [intOf]; omega))
      · have hdq : decide (q < l.length) = false := by simp; omega
        obtain rfl : q = l.length := by omega
        have hQ := HQ.out
        rw [List.drop_length] at hQ
        simp only [spL] at hQ
        subst hQ
        go_wp2_with fail
        all_goals go_ret
        all_goals exact ⟨rfl, hB0.trans (hB.mono hB0.size)⟩
set_option maxHeartbeats 1000000 in
theorem bright_any (v : PV) (w : World) (x : Value) (hi : Is w v x) : Calls Try.prog 42 #[x] w fun e w' => e = .returned (.bool (rightV v)) ∧ Below w.heap.size w w' := by
  have hS := fun w x hi => spare_any v 0 100 (by omega) (by omega) (by omega) (by omega) w x hi
  have hbd := sp_bd v 0 100 (by omega)
  have hrs := sp_right v
  have hR := fun hsz => right_any v hsz
  obtain ⟨c, hc⟩ : ∃ c, spV v 0 100 = c := ⟨_, rfl⟩
  obtain ⟨r, hr⟩ : ∃ r, rightV v = r := ⟨_, rfl⟩
  rw [hc] at hS hbd hrs
  rw [hr] at hR hrs ⊢
  obtain ⟨k, m, s, l, rfl⟩ : ∃ k m s l, v = .mk k m s l := by cases v; exact ⟨_, _, _, _, rfl⟩
  have hi2 := Lib.hid hi
  unfold Is at hi
  obtain ⟨_, _, _, a, cap, rfl, _, _, _⟩ := hi
  have hB0 := (Below.refl _ w).alloc (Nat.le_refl _) (vobj k m s a l.length cap)
  clear hc hr
  rcases Int.lt_or_le c 0 with hcn | hcn
  · have hd : decide (0 ≤ c) = false := by simp; omega
    obtain rfl : r = false := by
      cases r with
      | false => rfl
      | true => have := hrs rfl; omega
    clear hrs hR
    go_enter Try.func42, Try.ntmps42
    go_wp2_with (first
      | (go_at_call 62; (with_reducible refine (hS _ _ (is_below hB0 _ _ hi2.out)).mono ?_); rintro e w1 ⟨rfl, hb1⟩))
    all_goals go_ret
    all_goals exact ⟨rfl, hB0.trans (hb1.mono hB0.size)⟩
  · have hd : decide (0 ≤ c) = true := by simpa using hcn
    have hR' := hR (by have := hbd.2.2 hcn; omega)
    clear hR hrs
    go_enter Try.func42, Try.ntmps42
    go_wp2_with (first
      | (go_at_call 62; (with_reducible refine (hS _ _ (is_below hB0 _ _ hi2.out)).mono ?_); rintro e w1 ⟨rfl, hb1⟩; have hB1 := hB0.trans (hb1.mono hB0.size); obtain ⟨e0, e1, e2, e3⟩ := box_cells hb1)
      | (go_at_call 63; (with_reducible refine (hR' _ _ (is_below hB1 _ _ hi2.out)).mono ?_); rintro e w2 ⟨rfl, hb2⟩))
    all_goals go_ret
    all_goals exact ⟨ret_bool (by simp), hB1.trans (hb2.mono hB1.size)⟩
end Go.Proofs.Ytihpalbmkcoalaa
