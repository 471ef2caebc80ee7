/- What is looked at: the document's Great. -/
import Derived.Test.YtcicjpdjbfgbhaaDoorMh4Cell
namespace Go.Proofs.YtcicjpdjbfgbhaaDoor
open Go.RowKit Go.Shelf
mutual
def cntV : PV → Int → Int → Int
  | .mk _ _ _ l, n, d => if n - 1 < 0 ∨ d < 0 then -1 else cntL l (n - 1) (d - 1)
def cntL : List PV → Int → Int → Int
  | [], n, _ => n
  | x :: r, n, d => if cntV x n d < 0 then -1 else cntL r (cntV x n d) d
end
theorem cnt_bd : ∀ v : PV, ∀ n d, 0 ≤ n → -1 ≤ cntV v n d ∧ cntV v n d ≤ n ∧ (0 ≤ cntV v n d → cntV v n d = n - szV v) := by
  intro v
  induction v using pv_ind with
  | h k n s l ih =>
    have hl : ∀ n d, 0 ≤ n → -1 ≤ cntL l n d ∧ cntL l n d ≤ n ∧ (0 ≤ cntL l n d → cntL l n d = n - szL l) := by
      induction l with
      | nil => intro n d hn; simp only [cntL, szL]; omega
      | cons x r ih2 =>
        intro n d hn
        have h1 := ih x (by simp) n d hn
        simp only [cntL, szL]
        split
        · omega
        · have h2 := ih2 (fun y hy => ih y (by simp [hy])) (cntV x n d) d (by omega)
          omega
    intro n d hn
    simp only [cntV, szV]
    split
    · omega
    · have := hl (n - 1) (d - 1) (by omega); omega
set_option maxHeartbeats 2000000 in
theorem refCount_any (v : PV) : ∀ (n d : Int), 0 ≤ n → n ≤ 2000 → -1 ≤ d → d ≤ 2000 → ∀ w x, Is w v x →
    Calls Tryd.prog 17 #[x, .int .i64 n, .int .i64 d] w fun e w' => e = .returned (.int .i64 (cntV v n d)) ∧ Below w.heap.size w w' := by
  induction v using pv_ind with
  | h k m s l ih =>
    intro n d hn hn' hd hd' w x hi
    unfold Is at hi
    obtain ⟨h1, h2, h3, a, cap, rfl, h4, h5, h6⟩ := hi
    have hm : l.length ≤ maxLen := Nat.le_trans h4 h5
    unfold maxLen at hm
    have hB0 := (Below.refl _ w).alloc (Nat.le_refl _) (vobj k m s a l.length cap)
    by_cases hg : n - 1 < 0 ∨ d < 0
    · have hv : cntV (.mk k m s l) n d = -1 := by simp only [cntV]; rw [if_pos hg]
      rw [hv]
      clear ih h6 hv
      rcases Int.lt_or_le (n - 1) 0 with hg1 | hg1
      · have hd1 : decide (n - 1 < 0) = true := by simpa using hg1
        go_enter Tryd.func17, Tryd.ntmps17
        go_wp2_with fail
        all_goals go_ret
        all_goals exact ⟨rfl, hB0⟩
      · have hd1 : decide (n - 1 < 0) = false := by simp; omega
        have hd2 : decide (d < 0) = true := by simp; omega
        clear hg
        go_enter Tryd.func17, Tryd.ntmps17
        go_wp2_with fail
        all_goals go_ret
        all_goals exact ⟨rfl, hB0⟩
    · have hv : cntV (.mk k m s l) n d = cntL l (n - 1) (d - 1) := by simp only [cntV]; rw [if_neg hg]
      rw [hv]
      clear hv
      have hd1 : decide (n - 1 < 0) = false := by simp; omega
      have hd2 : decide (d < 0) = false := by simp; omega
      obtain ⟨r, hr⟩ : ∃ r, cntL l (n - 1) (d - 1) = r := ⟨_, rfl⟩
      rw [hr]
      have HR := Lib.hid hr; have HI := Lib.hid ih; clear ih hr
      have hg0 : 0 ≤ d ∧ 1 ≤ n := by omega
      clear hg
      go_enter Tryd.func17, Tryd.ntmps17
      go_wp2_with fail
      go_loopw [1, 7] (fun c i wr => ∃ (q : Nat) (z : Int), i = .int .i64 (q : Int) ∧ c = .int .i64 z ∧ 0 ≤ z ∧ z ≤ 2000 ∧ q ≤ l.length ∧ Below (w.alloc (vobj k m s a l.length cap)).heap.size (w.alloc (vobj k m s a l.length cap)) wr ∧ Hid (cntL (l.drop q) z (d - 1) = r)) (fun _ i _ => l.length - (intOf i).toNat)
      case atStart => exact ⟨0, n - 1, rfl, rfl, by omega, by omega, Nat.zero_le _, Below.refl _ _, HR.out⟩
      case round =>
      obtain ⟨q, c, rfl, rfl, hc, hc', hq, hB, HQ⟩ := hrel
      have e3 := cell_below hB (p := ⟨w.heap.size, 3, none⟩) (v := .slice a l.length cap) (by simp)
      by_cases hql : q < l.length
      · have hdq : decide (q < l.length) = true := by simp; omega
        obtain ⟨y, hy⟩ : ∃ y, l[q]? = some y := ⟨l[q], List.getElem?_eq_getElem hql⟩
        obtain ⟨b, off, rfl, hIs⟩ : ∃ b off, a = some ⟨b, off, none⟩ ∧ IsL w b l off := by
          rcases h6 with h | h
          · subst h; simp at hql
          · exact h
        have hdrop : cntL (l.drop q) c (d - 1) = if cntV y c (d - 1) < 0 then -1 else cntL (l.drop (q + 1)) (cntV y c (d - 1)) (d - 1) := by
          rw [show l.drop q = y :: l.drop (q + 1) by
            rw [List.drop_eq_getElem_cons hql]
            rw [List.getElem?_eq_getElem hql] at hy
            cases hy; rfl]
          simp only [cntL]
        rw [HQ.out] at hdrop
        have hbd := cnt_bd y c (d - 1) hc
        have hcall := fun w x hx => HI.out y (List.mem_of_getElem? hy) c (d - 1) hc hc' (by omega) (by omega) w x hx
        cases y with
        | mk yk yn ys yl =>
        obtain ⟨ya, yc, ⟨g0, g1, g2, g3⟩, hi⟩ := isL_val (isL_below hB (isL_below hB0 hIs)) q _ _ _ _ hy
        have hi2 := Lib.hid hi
        obtain ⟨z, hz⟩ : ∃ z, cntV (.mk yk yn ys yl) c (d - 1) = z := ⟨_, rfl⟩
        rw [hz] at hcall hdrop hbd
        have HD := Lib.hid hdrop
        have HC := Lib.hid hcall
        clear h6 hIs hi hy hz hdrop HQ hcall
        rcases Int.lt_or_le z 0 with hz0 | hz0
        · have hdz : decide (z < 0) = true := by simpa using hz0
          go_wp2_with (first | (go_at_call 17; (with_reducible refine (HC.out _ _ hi2.out).mono ?_); rintro e w' ⟨rfl, hb⟩))
          all_goals go_ret
          all_goals exact ⟨ret_int (by rw [HD.out, if_pos hz0]), hB0.trans ((hB.trans (hb.mono hB.size)).mono hB0.size)⟩
        · have hdz : decide (z < 0) = false := by simp; omega
          go_wp2_with (first | (go_at_call 17; (with_reducible refine (HC.out _ _ hi2.out).mono ?_); rintro e w' ⟨rfl, hb⟩))
          all_goals go_roundw
          all_goals (first
            | (case' rel => exact ⟨q + 1, z, by go_num, rfl, by omega, by omega, by omega, hB.trans (hb.mono hB.size), (HD.out.trans (if_neg (by omega))).symm⟩)
            | (case' measure => simp [intOf]; omega))
      · have hdq : decide (q < l.length) = false := by simp; omega
        obtain rfl : q = l.length := by omega
        have hQ := HQ.out
        rw [List.drop_length] at hQ
        simp only [cntL] at hQ
        subst hQ
        go_wp2_with fail
        all_goals go_ret
        all_goals exact ⟨rfl, hB0.trans (hB.mono hB0.size)⟩
mutual
def rdV : PV → Int
  | .mk k _ _ l => rdL (if k = 5 then 0 else -1) l + 1
def rdL : Int → List PV → Int
  | n, [] => n
  | n, x :: r => rdL (if n < rdV x then rdV x else n) r
end
theorem rd_bd : ∀ v : PV, 0 ≤ rdV v ∧ rdV v ≤ szV v := by
  intro v
  induction v using pv_ind with
  | h k n s l ih =>
    have hl : ∀ n, -1 ≤ n → n ≤ rdL n l ∧ (rdL n l ≤ n ∨ rdL n l ≤ szL l) := by
      induction l with
      | nil => intro n hn; simp only [rdL, szL]; omega
      | cons x r ih2 =>
        intro n hn
        have h1 := ih x (by simp)
        simp only [rdL, szL]
        have h2 := ih2 (fun y hy => ih y (by simp [hy])) (if n < rdV x then rdV x else n) (by split <;> omega)
        split at h2 <;> rename_i h3
        · rw [if_pos h3]; omega
        · rw [if_neg h3]; omega
    simp only [rdV, szV]
    have h1 := hl (if k = 5 then 0 else -1) (by split <;> omega)
    split at h1 <;> rename_i h3
    · rw [if_pos h3]; omega
    · rw [if_neg h3]; omega
set_option maxHeartbeats 2000000 in
theorem refDeep_any (v : PV) : szV v ≤ 1000000 → ∀ w x, Is w v x → Calls Tryd.prog 18 #[x] w fun e w' => e = .returned (.int .i64 (rdV v)) ∧ Below w.heap.size w w' := by
  induction v using pv_ind with
  | h k m s l ih =>
    intro hsz w x hi
    simp only [szV] at hsz
    unfold Is at hi
    obtain ⟨h1, h2, h3, a, cap, rfl, h4, h5, h6⟩ := hi
    have hm : l.length ≤ maxLen := Nat.le_trans h4 h5
    unfold maxLen at hm
    have hB0 := (Below.refl _ w).alloc (Nat.le_refl _) (vobj k m s a l.length cap)
    obtain ⟨r, hr⟩ : ∃ r, rdL (if k = 5 then 0 else -1) l = r := ⟨_, rfl⟩
    have hrb : -1 ≤ r ∧ r ≤ 1000000 := by have := rd_bd (.mk k m s l); simp only [rdV, szV, hr] at this; omega
    simp only [rdV, hr]
    obtain ⟨z0, hz0⟩ : ∃ z0 : Int, (if k = 5 then 0 else -1) = z0 := ⟨_, rfl⟩
    rw [hz0] at hr
    have hz1 : -1 ≤ z0 ∧ z0 ≤ 1000000 := by rw [← hz0]; split <;> omega
    have HR := Lib.hid hr; have HI := Lib.hid ih; clear ih hr
    have hk : (k == 5) = true ∧ z0 = 0 ∨ (k == 5) = false ∧ z0 = -1 := by
      rw [← hz0]
      by_cases h : k = 5 <;> simp [h]
    clear hz0
    have key : ∀ wr, Below (w.alloc (vobj k m s a l.length cap)).heap.size (w.alloc (vobj k m s a l.length cap)) wr → True := fun _ _ => trivial
    clear key
    rcases hk with ⟨hk, rfl⟩ | ⟨hk, rfl⟩
    all_goals (go_enter Tryd.func18, Tryd.ntmps18)
    all_goals (go_wp2_with fail)
    all_goals (go_loopw [3, 4, 5] (fun c i _ wr => ∃ (q : Nat) (z : Int), i = .int .i64 (q : Int) ∧ c = .int .i64 z ∧ -1 ≤ z ∧ z ≤ 1000000 ∧ q ≤ l.length ∧ Below (w.alloc (vobj k m s a l.length cap)).heap.size (w.alloc (vobj k m s a l.length cap)) wr ∧ Hid (rdL z (l.drop q) = r)) (fun _ i _ _ => l.length - (intOf i).toNat))
    all_goals (first | (case' atStart => exact ⟨0, _, rfl, rfl, hz1.1, hz1.2, Nat.zero_le _, Below.refl _ _, HR.out⟩) | skip)
    all_goals (
      obtain ⟨q, c, rfl, rfl, hc, hc', hq, hB, HQ⟩ := hrel
      have e3 := cell_below hB (p := ⟨w.heap.size, 3, none⟩) (v := .slice a l.length cap) (by simp)
      by_cases hql : q < l.length
      · have hdq : decide (q < l.length) = true := by simp; omega
        obtain ⟨y, hy⟩ : ∃ y, l[q]? = some y := ⟨l[q], List.getElem?_eq_getElem hql⟩
        obtain ⟨b, off, rfl, hIs⟩ : ∃ b off, a = some ⟨b, off, none⟩ ∧ IsL w b l off := by
          rcases h6 with h | h
          · subst h; simp at hql
          · exact h
        have hdrop : rdL c (l.drop q) = rdL (if c < rdV y then rdV y else c) (l.drop (q + 1)) := by
          rw [show l.drop q = y :: l.drop (q + 1) by
            rw [List.drop_eq_getElem_cons hql]
            rw [List.getElem?_eq_getElem hql] at hy
            cases hy; rfl]
          simp only [rdL]
        rw [HQ.out] at hdrop
        have hsy : szV y ≤ 1000000 := by have := szL_mem (List.mem_of_getElem? hy); omega
        have hbd := rd_bd y
        have hcall := fun w x hx => HI.out y (List.mem_of_getElem? hy) hsy w x hx
        cases y with
        | mk yk yn ys yl =>
        obtain ⟨ya, yc, ⟨g0, g1, g2, g3⟩, hi⟩ := isL_val (isL_below hB (isL_below hB0 hIs)) q _ _ _ _ hy
        have hi2 := Lib.hid hi
        obtain ⟨z, hz⟩ : ∃ z, rdV (.mk yk yn ys yl) = z := ⟨_, rfl⟩
        rw [hz] at hcall hdrop hbd
        have hz9 : z ≤ 1000000 := by omega
        have HD := Lib.hid hdrop
        have HC := Lib.hid hcall
        clear h6 hIs hi hy hz hdrop HQ hcall
        rcases Int.lt_or_le c z with hz0 | hz0
        · have hdz : decide (c < z) = true := by simpa using hz0
          go_wp2_with (first | (go_at_call 18; (with_reducible refine (HC.out _ _ hi2.out).mono ?_); rintro e w' ⟨rfl, hb⟩))
          all_goals go_roundw
          all_goals (first
            | (case' rel => exact ⟨q + 1, z, by go_num, rfl, by omega, by omega, by omega, hB.trans (hb.mono hB.size), by have h := HD.out; rw [if_pos hz0] at h; exact h.symm⟩)
            | (case' measure => simp [intOf]; omega))
        · have hdz : decide (c < z) = false := by simp; omega
          go_wp2_with (first | (go_at_call 18; (with_reducible refine (HC.out _ _ hi2.out).mono ?_); rintro e w' ⟨rfl, hb⟩))
          all_goals go_roundw
          all_goals (first
            | (case' rel => exact ⟨q + 1, c, by go_num, rfl, by omega, by omega, by omega, hB.trans (hb.mono hB.size), by have h := HD.out; rw [if_neg (by omega)] at h; exact h.symm⟩)
            | (case' measure => simp [intOf]; omega))
      · have hdq : decide (q < l.length) = false := by simp; omega
        obtain rfl : q = l.length := by omega
        have hQ := HQ.out
        rw [List.drop_length] at hQ
        simp only [rdL] at hQ
        subst hQ
        go_wp2_with fail
        all_goals go_ret
        all_goals exact ⟨ret_int (by go_num), hB0.trans (hB.mono hB0.size)⟩)
/-- is a value not looked at? -/
def greatV (v : PV) : Bool := decide (cntV v 1000 10 < 0) || decide (10 < rdV v)
theorem great_sz (v : PV) (h : greatV v = false) : szV v ≤ 1000 := by
  simp [greatV] at h
  have := cnt_bd v 1000 10 (by omega)
  omega
set_option maxHeartbeats 2000000 in
theorem great_any (v : PV) (w : World) (x : Value) (hi : Is w v x) : Calls Tryd.prog 5 #[x] w fun e w' => e = .returned (.bool (greatV v)) ∧ Below w.heap.size w w' := by
  have h1 := fun w x hi => refCount_any v 1000 10 (by omega) (by omega) (by omega) (by omega) w x hi
  have h2 := cnt_bd v 1000 10 (by omega)
  have h3 := fun hsz => refDeep_any v hsz
  obtain ⟨c, hc⟩ : ∃ c, cntV v 1000 10 = c := ⟨_, rfl⟩
  obtain ⟨r, hr⟩ : ∃ r, rdV v = r := ⟨_, rfl⟩
  unfold greatV
  rw [hc] at h1 h2 ⊢
  rw [hr] at h3 ⊢
  have hv : ∃ k m s l, v = .mk k m s l := by cases v; exact ⟨_, _, _, _, rfl⟩
  obtain ⟨k, m, s, l, rfl⟩ := hv
  have hi2 := Lib.hid hi
  unfold Is at hi
  obtain ⟨_, _, _, a, cap, rfl, _, _, _⟩ := hi
  have hB0 := (Below.refl _ w).alloc (Nat.le_refl _) (vobj k m s a l.length cap)
  clear hc hr
  rcases Int.lt_or_le c 0 with hcn | hcn
  · have hd : decide (c < 0) = true := by simpa using hcn
    go_enter Tryd.func5, Tryd.ntmps5
    go_wp2_with (first | (go_at_call 17; (with_reducible refine (h1 _ _ (is_below hB0 _ _ hi2.out)).mono ?_); rintro e w' ⟨rfl, hb⟩))
    all_goals go_ret
    all_goals exact ⟨ret_bool (by rw [hd]; rfl), hB0.trans (hb.mono hB0.size)⟩
  · have hd : decide (c < 0) = false := by simp; omega
    have h4 := h3 (by omega)
    clear h3
    by_cases hrn : 10 < r
    · have hd2 : decide (10 < r) = true := by simpa using hrn
      go_enter Tryd.func5, Tryd.ntmps5
      go_wp2_with (first
        | (go_at_call 17; (with_reducible refine (h1 _ _ (is_below hB0 _ _ hi2.out)).mono ?_); rintro e w1 ⟨rfl, hb1⟩; have hB1 := hB0.trans (hb1.mono hB0.size); have e0 := cell_below hb1 (p := ⟨w.heap.size, 0, none⟩) (v := .int .i64 k) (by simp); have e1 := cell_below hb1 (p := ⟨w.heap.size, 1, none⟩) (v := .int .i64 m) (by simp); have e2 := cell_below hb1 (p := ⟨w.heap.size, 2, none⟩) (v := .string s) (by simp); have e3 := cell_below hb1 (p := ⟨w.heap.size, 3, none⟩) (v := .slice a l.length cap) (by simp))
        | (go_at_call 18; (with_reducible refine (h4 _ _ (is_below hB1 _ _ hi2.out)).mono ?_); rintro e w' ⟨rfl, hb⟩))
      all_goals go_ret
      all_goals exact ⟨ret_bool (by simp [hd, hd2]), hB1.trans (hb.mono hB1.size)⟩
    · have hd2 : decide (10 < r) = false := by simpa using hrn
      go_enter Tryd.func5, Tryd.ntmps5
      go_wp2_with (first
        | (go_at_call 17; (with_reducible refine (h1 _ _ (is_below hB0 _ _ hi2.out)).mono ?_); rintro e w1 ⟨rfl, hb1⟩; have hB1 := hB0.trans (hb1.mono hB0.size); have e0 := cell_below hb1 (p := ⟨w.heap.size, 0, none⟩) (v := .int .i64 k) (by simp); have e1 := cell_below hb1 (p := ⟨w.heap.size, 1, none⟩) (v := .int .i64 m) (by simp); have e2 := cell_below hb1 (p := ⟨w.heap.size, 2, none⟩) (v := .string s) (by simp); have e3 := cell_below hb1 (p := ⟨w.heap.size, 3, none⟩) (v := .slice a l.length cap) (by simp))
        | (go_at_call 18; (with_reducible refine (h4 _ _ (is_below hB1 _ _ hi2.out)).mono ?_); rintro e w' ⟨rfl, hb⟩))
      all_goals go_ret
      all_goals exact ⟨ret_bool (by simp [hd, hd2]), hB1.trans (hb.mono hB1.size)⟩
end Go.Proofs.YtcicjpdjbfgbhaaDoor
