/- What is looked at: the document's Great of layer 8; how deep a thing is, both sides. -/
import Derived.Test.YtpiajoffddjjfaaGreatDoorJv
namespace Go.Proofs.YtpiajoffddjjfaaGreatDoor
open Go.RowKit Go.Shelf
mutual
def cntJ : JV → Int → Int → Int
  | .mk _ _ _ ns l, n, d => if n - 1 - ns.length < 0 ∨ d < 0 then -1 else cntJL l (n - 1 - ns.length) (d - 1)
def cntJL : List JV → Int → Int → Int
  | [], n, _ => n
  | x :: r, n, d => if cntJ x n d < 0 then -1 else cntJL r (cntJ x n d) d
end
theorem cntJ_bd : ∀ v : JV, ∀ n d, 0 ≤ n → -1 ≤ cntJ v n d ∧ cntJ v n d ≤ n ∧ (0 ≤ cntJ v n d → cntJ v n d = n - szJ v) := by
  intro v
  induction v using jv_ind with
  | h k n s ns l ih =>
    have hl : ∀ n d, 0 ≤ n → -1 ≤ cntJL l n d ∧ cntJL l n d ≤ n ∧ (0 ≤ cntJL l n d → cntJL l n d = n - szJL l) := by
      induction l with
      | nil => intro n d hn; simp only [cntJL, szJL]; omega
      | cons x r ih2 =>
        intro n d hn
        have h1 := ih x (by simp) n d hn
        simp only [cntJL, szJL]
        split
        · omega
        · have h2 := ih2 (fun y hy => ih y (by simp [hy])) (cntJ x n d) d (by omega)
          omega
    intro n d hn
    simp only [cntJ, szJ]
    split
    · omega
    · have := hl (n - 1 - ns.length) (d - 1) (by omega); omega
set_option maxHeartbeats 2000000 in
theorem refCount8_any (v : JV) : ∀ (n d : Int), 0 ≤ n → n ≤ 2000 → -1 ≤ d → d ≤ 2000 → ∀ w x, IsJ w v x →
    Calls Tryz.prog 12 #[x, .int .i64 n, .int .i64 d] w fun e w' => e = .returned (.int .i64 (cntJ v n d)) ∧ Below w.heap.size w w' := by
  induction v using jv_ind with
  | h k m s ns l ih =>
    intro n d hn hn' hd hd' w x hi
    unfold IsJ at hi
    obtain ⟨h1, h2, h3, na, nc, a, cap, rfl, ⟨hn1, hn2, _, _⟩, h4, h5, h6⟩ := hi
    have hm : l.length ≤ maxLen := Nat.le_trans h4 h5
    have hm2 : ns.length ≤ maxLen := Nat.le_trans hn1 hn2
    unfold maxLen at hm hm2
    have hB0 := (Below.refl _ w).alloc (Nat.le_refl _) (jobj k m s na ns.length nc a l.length cap)
    obtain ⟨N, hN⟩ : ∃ N : Nat, ns.length = N := ⟨_, rfl⟩
    simp only [cntJ, hN]
    rw [hN] at hm2 hB0
    clear hN hn1 hn2
    by_cases hg : n - 1 - N < 0 ∨ d < 0
    · rw [if_pos hg]
      clear ih h6
      rcases Int.lt_or_le (n - 1 - N) 0 with hg1 | hg1
      · have hd1 : decide (n - 1 - N < 0) = true := by simpa using hg1
        clear hg
        go_enter Tryz.func12, Tryz.ntmps12
        go_wp2_with fail
        all_goals go_ret
        all_goals exact ⟨rfl, hB0⟩
      · have hd1 : decide (n - 1 - N < 0) = false := by simp; omega
        have hd2 : decide (d < 0) = true := by simp; omega
        clear hg
        go_enter Tryz.func12, Tryz.ntmps12
        go_wp2_with fail
        all_goals go_ret
        all_goals exact ⟨rfl, hB0⟩
    · rw [if_neg hg]
      have hd1 : decide (n - 1 - N < 0) = false := by simp; omega
      have hd2 : decide (d < 0) = false := by simp; omega
      obtain ⟨r, hr⟩ : ∃ r, cntJL l (n - 1 - N) (d - 1) = r := ⟨_, rfl⟩
      rw [hr]
      have HR := Lib.hid hr; have HI := Lib.hid ih; clear ih hr
      have hg0 : 0 ≤ d ∧ 1 + (N : Int) ≤ n := by omega
      clear hg
      go_enter Tryz.func12, Tryz.ntmps12
      go_wp2_with fail
      go_loopw [1, 7] (fun c i wr => ∃ (q : Nat) (z : Int), i = .int .i64 (q : Int) ∧ c = .int .i64 z ∧ 0 ≤ z ∧ z ≤ 2000 ∧ q ≤ l.length ∧ Below (w.alloc (jobj k m s na N nc a l.length cap)).heap.size (w.alloc (jobj k m s na N nc a l.length cap)) wr ∧ Hid (cntJL (l.drop q) z (d - 1) = r)) (fun _ i _ => l.length - (intOf i).toNat)
      case atStart => exact ⟨0, n - 1 - N, rfl, rfl, by omega, by omega, Nat.zero_le _, Below.refl _ _, HR.out⟩
      case round =>
      obtain ⟨q, c, rfl, rfl, hc, hc', hq, hB, HQ⟩ := hrel
      have e4 := cellJ_below hB (p := ⟨w.heap.size, 4, none⟩) (v := .slice a l.length cap) (by simp)
      by_cases hql : q < l.length
      · have hdq : decide (q < l.length) = true := by simp; omega
        obtain ⟨y, hy⟩ : ∃ y, l[q]? = some y := ⟨l[q], List.getElem?_eq_getElem hql⟩
        obtain ⟨b, off, rfl, hIs⟩ : ∃ b off, a = some ⟨b, off, none⟩ ∧ IsJL w b l off := by
          rcases h6 with h | h
          · subst h; simp at hql
          · exact h
        have hdrop : cntJL (l.drop q) c (d - 1) = if cntJ y c (d - 1) < 0 then -1 else cntJL (l.drop (q + 1)) (cntJ y c (d - 1)) (d - 1) := by
          rw [show l.drop q = y :: l.drop (q + 1) by
            rw [List.drop_eq_getElem_cons hql]
            rw [List.getElem?_eq_getElem hql] at hy
            cases hy; rfl]
          simp only [cntJL]
        rw [HQ.out] at hdrop
        have hbd := cntJ_bd y c (d - 1) hc
        have hcall := fun w x hx => HI.out y (List.mem_of_getElem? hy) c (d - 1) hc hc' (by omega) (by omega) w x hx
        cases y with
        | mk yk yn ys yns yl =>
        obtain ⟨yna, ync, ya, yc, ⟨g0, g1, g2, g3, g4⟩, hi⟩ := isJL_val (isJL_below hB (isJL_below hB0 hIs)) q _ _ _ _ _ hy
        have hi2 := Lib.hid hi
        obtain ⟨z, hz⟩ : ∃ z, cntJ (.mk yk yn ys yns yl) c (d - 1) = z := ⟨_, rfl⟩
        rw [hz] at hcall hdrop hbd
        have HD := Lib.hid hdrop
        have HC := Lib.hid hcall
        clear h6 hIs hi hy hz hdrop HQ hcall
        rcases Int.lt_or_le z 0 with hz0 | hz0
        · have hdz : decide (z < 0) = true := by simpa using hz0
          go_wp2_with (first | (go_at_call 12; (with_reducible refine (HC.out _ _ hi2.out).mono ?_); rintro e w' ⟨rfl, hb⟩))
          all_goals go_ret
          all_goals exact ⟨ret_int (by rw [HD.out, if_pos hz0]), hB0.trans ((hB.trans (hb.mono hB.size)).mono hB0.size)⟩
        · have hdz : decide (z < 0) = false := by simp; omega
          go_wp2_with (first | (go_at_call 12; (with_reducible refine (HC.out _ _ hi2.out).mono ?_); rintro e w' ⟨rfl, hb⟩))
          all_goals go_roundw
          all_goals (first
            | (case' rel => exact ⟨q + 1, z, by go_num, rfl, by omega, by omega, by omega, hB.trans (hb.mono hB.size), (HD.out.trans (if_neg (by omega))).symm⟩)
            | (case' measure => simp [intOf]; omega))
      · have hdq : decide (q < l.length) = false := by simp; omega
        obtain rfl : q = l.length := by omega
        have hQ := HQ.out
        rw [List.drop_length] at hQ
        simp only [cntJL] at hQ
        subst hQ
        go_wp2_with fail
        all_goals go_ret
        all_goals exact ⟨rfl, hB0.trans (hB.mono hB0.size)⟩
mutual
def dpJ : JV → Nat
  | .mk k _ _ _ l => dpJL l + (if 4 < k ∧ k < 7 then 1 else 0)
def dpJL : List JV → Nat
  | [] => 0
  | x :: r => max (dpJ x) (dpJL r)
end
theorem dpJL_append (l r : List JV) : dpJL (l ++ r) = max (dpJL l) (dpJL r) := by
  induction l with
  | nil => simp [dpJL]
  | cons x l ih => simp only [List.cons_append, dpJL, ih]; omega
theorem dpJL_step (l : List JV) (q : Nat) (y : JV) (h : l[q]? = some y) : dpJL (l.take (q + 1)) = max (dpJL (l.take q)) (dpJ y) := by
  rw [jtake_step l q y h, dpJL_append]
  simp only [dpJL]; omega
theorem dpJ_le : ∀ v, dpJ v ≤ szJ v := by
  intro v
  induction v using jv_ind with
  | h k n s ns l ih =>
    have : dpJL l ≤ szJL l := by
      clear k n s
      induction l with
      | nil => simp [dpJL, szJL]
      | cons x r ih2 =>
        have h1 := ih x (by simp)
        have h2 := ih2 fun y hy => ih y (by simp [hy])
        simp only [dpJL, szJL]
        omega
    simp only [dpJ, szJ]
    split <;> omega
theorem dpJL_le (l : List JV) : dpJL l ≤ szJL l := by
  induction l with
  | nil => simp [dpJL]
  | cons x r ih => have := dpJ_le x; simp only [dpJL, szJL]; omega
theorem szJL_take (l : List JV) (q : Nat) : szJL (l.take q) ≤ szJL l := by
  conv => rhs; rw [← List.take_append_drop q l, szJL_append]
  omega
set_option maxHeartbeats 2000000 in
theorem refDeep8_any (v : JV) : szJ v ≤ 1000000 → ∀ w x, IsJ w v x → Calls Tryz.prog 13 #[x] w fun e w' => e = .returned (.int .i64 (dpJ v)) ∧ Below w.heap.size w w' := by
  induction v using jv_ind with
  | h k m s ns l ih =>
    intro hsz w x hi
    simp only [szJ] at hsz
    unfold IsJ at hi
    obtain ⟨h1, h2, h3, na, nc, a, cap, rfl, _, h4, h5, h6⟩ := hi
    have hm : l.length ≤ maxLen := Nat.le_trans h4 h5
    unfold maxLen at hm
    have hB0 := (Below.refl _ w).alloc (Nat.le_refl _) (jobj k m s na ns.length nc a l.length cap)
    obtain ⟨N, hN⟩ : ∃ N : Nat, ns.length = N := ⟨_, rfl⟩
    simp only [dpJ, hN]
    rw [hN] at hB0 hsz
    clear hN
    obtain ⟨E, hE⟩ : ∃ E : Nat, (if 4 < k ∧ k < 7 then 1 else 0) = E := ⟨_, rfl⟩
    rw [hE]
    have HE := Lib.hid hE
    have HI := Lib.hid ih; clear ih hE
    go_enter Tryz.func13, Tryz.ntmps13
    go_wp2_with fail
    go_loopw [3, 4, 5] (fun c i _ wr => ∃ (q : Nat), i = .int .i64 (q : Int) ∧ c = .int .i64 ((dpJL (l.take q) : Nat) : Int) ∧ q ≤ l.length ∧ Below (w.alloc (jobj k m s na N nc a l.length cap)).heap.size (w.alloc (jobj k m s na N nc a l.length cap)) wr) (fun _ i _ _ => l.length - (intOf i).toNat)
    case atStart => exact ⟨0, rfl, rfl, Nat.zero_le _, Below.refl _ _⟩
    case round =>
    obtain ⟨q, rfl, rfl, hq, hB⟩ := hrel
    have e4 := cellJ_below hB (p := ⟨w.heap.size, 4, none⟩) (v := .slice a l.length cap) (by simp)
    have e0 := cellJ_below hB (p := ⟨w.heap.size, 0, none⟩) (v := .int .i64 k) (by simp)
    have hdt : dpJL (l.take q) ≤ 1000000 := by have h1 := dpJL_le (l.take q); have h2 := szJL_take l q; omega
    by_cases hql : q < l.length
    · have hdq : decide (q < l.length) = true := by simp; omega
      obtain ⟨y, hy⟩ : ∃ y, l[q]? = some y := ⟨l[q], List.getElem?_eq_getElem hql⟩
      obtain ⟨b, off, rfl, hIs⟩ : ∃ b off, a = some ⟨b, off, none⟩ ∧ IsJL w b l off := by
        rcases h6 with h | h
        · subst h; simp at hql
        · exact h
      have hst := dpJL_step l q y hy
      have hsy : szJ y ≤ 1000000 := by have := szJL_mem (List.mem_of_getElem? hy); omega
      have hbd := dpJ_le y
      have hcall := fun w x hx => HI.out y (List.mem_of_getElem? hy) hsy w x hx
      cases y with
      | mk yk yn ys yns yl =>
      obtain ⟨yna, ync, ya, yc, ⟨g0, g1, g2, g3, g4⟩, hi⟩ := isJL_val (isJL_below hB (isJL_below hB0 hIs)) q _ _ _ _ _ hy
      have hi2 := Lib.hid hi
      obtain ⟨z, hz⟩ : ∃ z, dpJ (.mk yk yn ys yns yl) = z := ⟨_, rfl⟩
      obtain ⟨c, hc⟩ : ∃ c, dpJL (l.take q) = c := ⟨_, rfl⟩
      rw [hz] at hcall hbd hst
      rw [hc] at hst hdt ⊢
      have hz9 : z ≤ 1000000 := by omega
      have HD := Lib.hid hst
      have HC := Lib.hid hcall
      clear h6 hIs hi hy hz hc hst hcall
      rcases Nat.lt_or_ge c z with hz0 | hz0
      · have hdz : decide (c < z) = true := by simpa using hz0
        have hdz' : decide ((c : Int) < z) = true := by simpa using hz0
        go_wp2_with (first | (go_at_call 13; (with_reducible refine (HC.out _ _ hi2.out).mono ?_); rintro e w' ⟨rfl, hb⟩))
        go_roundw
        case rel => exact ⟨q + 1, by go_num, by rw [HD.out, Nat.max_eq_right (by omega)], by omega, hB.trans (hb.mono hB.size)⟩
        case measure => simp [intOf]; omega
      · have hdz : decide (c < z) = false := by simp; omega
        have hdz' : decide ((c : Int) < z) = false := by simp; omega
        go_wp2_with (first | (go_at_call 13; (with_reducible refine (HC.out _ _ hi2.out).mono ?_); rintro e w' ⟨rfl, hb⟩))
        go_roundw
        case rel => exact ⟨q + 1, by go_num, by rw [HD.out, Nat.max_eq_left (by omega)], by omega, hB.trans (hb.mono hB.size)⟩
        case measure => simp [intOf]; omega
    · have hdq : decide (q < l.length) = false := by simp; omega
      obtain rfl : q = l.length := by omega
      rw [List.take_length] at hdt ⊢
      obtain ⟨c, hc⟩ : ∃ c, dpJL l = c := ⟨_, rfl⟩
      rw [hc] at hdt ⊢
      have HC := Lib.hid hc
      clear hc h6
      by_cases hk : 4 < k ∧ k < 7
      · have k1 : decide (4 < k) = true := decide_eq_true hk.1
        have k2 : decide (k < 7) = true := decide_eq_true hk.2
        obtain rfl : 1 = E := by rw [← HE.out, if_pos hk]
        clear hk HE
        go_wp2_with fail
        all_goals go_ret
        all_goals exact ⟨ret_int (by have h := HC.out; first | (subst h; go_num) | (rw [h]; go_num) | omega), hB0.trans (hB.mono hB0.size)⟩
      · obtain rfl : 0 = E := by rw [← HE.out, if_neg hk]
        clear HE
        rcases Int.lt_or_le 4 k with hk4 | hk4
        · have k1 : decide (4 < k) = true := decide_eq_true hk4
          have k2 : decide (k < 7) = false := decide_eq_false (by omega)
          clear hk
          go_wp2_with fail
          all_goals go_ret
          all_goals exact ⟨ret_int (by have h := HC.out; first | (subst h; go_num) | (rw [h]; go_num) | omega), hB0.trans (hB.mono hB0.size)⟩
        · have k1 : decide (4 < k) = false := decide_eq_false (by omega)
          clear hk
          go_wp2_with fail
          all_goals go_ret
          all_goals exact ⟨ret_int (by have h := HC.out; first | (subst h; go_num) | (rw [h]; go_num) | omega), hB0.trans (hB.mono hB0.size)⟩
/-- is a thing not looked at? -/
def greatJ (v : JV) : Bool := decide (cntJ v 2000 20 < 0) || decide (20 < dpJ v)
theorem greatJ_sz (v : JV) (h : greatJ v = false) : szJ v ≤ 2000 := by
  simp [greatJ] at h
  have := cntJ_bd v 2000 20 (by omega)
  omega
set_option maxHeartbeats 2000000 in
theorem great8_any (v : JV) (w : World) (x : Value) (hi : IsJ w v x) : Calls Tryz.prog 5 #[x] w fun e w' => e = .returned (.bool (greatJ v)) ∧ Below w.heap.size w w' := by
  have h1 := fun w x hi => refCount8_any v 2000 20 (by omega) (by omega) (by omega) (by omega) w x hi
  have h2 := cntJ_bd v 2000 20 (by omega)
  have h3 := fun hsz => refDeep8_any v hsz
  obtain ⟨c, hc⟩ : ∃ c, cntJ v 2000 20 = c := ⟨_, rfl⟩
  obtain ⟨r, hr⟩ : ∃ r, dpJ v = r := ⟨_, rfl⟩
  unfold greatJ
  rw [hc] at h1 h2 ⊢
  rw [hr] at h3 ⊢
  have hv : ∃ k m s ns l, v = .mk k m s ns l := by cases v; exact ⟨_, _, _, _, _, rfl⟩
  obtain ⟨k, m, s, ns, l, rfl⟩ := hv
  have hi2 := Lib.hid hi
  unfold IsJ at hi
  obtain ⟨_, _, _, na, nc, a, cap, rfl, _, _, _, _⟩ := hi
  have hB0 := (Below.refl _ w).alloc (Nat.le_refl _) (jobj k m s na ns.length nc a l.length cap)
  clear hc hr
  rcases Int.lt_or_le c 0 with hcn | hcn
  · have hd : decide (c < 0) = true := by simpa using hcn
    go_enter Tryz.func5, Tryz.ntmps5
    go_wp2_with (first | (go_at_call 12; (with_reducible refine (h1 _ _ (isJ_below hB0 _ _ hi2.out)).mono ?_); rintro e w' ⟨rfl, hb⟩))
    all_goals go_ret
    all_goals exact ⟨ret_bool (by rw [hd]; rfl), hB0.trans (hb.mono hB0.size)⟩
  · have hd : decide (c < 0) = false := by simp; omega
    have h4 := h3 (by omega)
    clear h3
    rcases Nat.lt_or_ge 20 r with hrn | hrn
    · have hd2 : decide (20 < r) = true := by simpa using hrn
      have hd3 : decide ((20 : Int) < r) = true := decide_eq_true (by omega)
      go_enter Tryz.func5, Tryz.ntmps5
      go_wp2_with (first
        | (go_at_call 12; (with_reducible refine (h1 _ _ (isJ_below hB0 _ _ hi2.out)).mono ?_); rintro e w1 ⟨rfl, hb1⟩; have hB1 := hB0.trans (hb1.mono hB0.size); have e0 := cellJ_below hb1 (p := ⟨w.heap.size, 0, none⟩) (v := .int .i64 k) (by simp); have e1 := cellJ_below hb1 (p := ⟨w.heap.size, 1, none⟩) (v := .int .i64 m) (by simp); have e2 := cellJ_below hb1 (p := ⟨w.heap.size, 2, none⟩) (v := .string s) (by simp); have e3 := cellJ_below hb1 (p := ⟨w.heap.size, 3, none⟩) (v := .slice na ns.length nc) (by simp); have e4 := cellJ_below hb1 (p := ⟨w.heap.size, 4, none⟩) (v := .slice a l.length cap) (by simp))
        | (go_at_call 13; (with_reducible refine (h4 _ _ (isJ_below hB1 _ _ hi2.out)).mono ?_); rintro e w' ⟨rfl, hb⟩))
      all_goals go_ret
      all_goals exact ⟨ret_bool (by simp [hd, hd2]), hB1.trans (hb.mono hB1.size)⟩
    · have hd2 : decide (20 < r) = false := by simpa using hrn
      have hd3 : decide ((20 : Int) < r) = false := decide_eq_false (by omega)
      go_enter Tryz.func5, Tryz.ntmps5
      go_wp2_with (first
        | (go_at_call 12; (with_reducible refine (h1 _ _ (isJ_below hB0 _ _ hi2.out)).mono ?_); rintro e w1 ⟨rfl, hb1⟩; have hB1 := hB0.trans (hb1.mono hB0.size); have e0 := cellJ_below hb1 (p := ⟨w.heap.size, 0, none⟩) (v := .int .i64 k) (by simp); have e1 := cellJ_below hb1 (p := ⟨w.heap.size, 1, none⟩) (v := .int .i64 m) (by simp); have e2 := cellJ_below hb1 (p := ⟨w.heap.size, 2, none⟩) (v := .string s) (by simp); have e3 := cellJ_below hb1 (p := ⟨w.heap.size, 3, none⟩) (v := .slice na ns.length nc) (by simp); have e4 := cellJ_below hb1 (p := ⟨w.heap.size, 4, none⟩) (v := .slice a l.length cap) (by simp))
        | (go_at_call 13; (with_reducible refine (h4 _ _ (isJ_below hB1 _ _ hi2.out)).mono ?_); rintro e w' ⟨rfl, hb⟩))
      all_goals go_ret
      all_goals exact ⟨ret_bool (by simp [hd, hd2]), hB1.trans (hb.mono hB1.size)⟩
end Go.Proofs.YtpiajoffddjjfaaGreatDoor
