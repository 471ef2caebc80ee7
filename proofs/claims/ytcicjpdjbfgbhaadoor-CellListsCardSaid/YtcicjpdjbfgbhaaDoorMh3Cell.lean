/- The program's Right. -/
import Derived.Test.YtcicjpdjbfgbhaaDoorMh1Cell
import Derived.Test.YtcicjpdjbfgbhaaDoorMh0Cell
import Derived.Test.YtcicjpdjbfgbhaaDoorMh2Cell
set_option linter.unusedVariables false
set_option linter.unusedSimpArgs false
namespace Go.Proofs.YtcicjpdjbfgbhaaDoor
open Go.RowKit Go.Shelf
/-- names that may be, behind some -/
def namesJ : List ByteArray → List ByteArray → Bool
  | _, [] => true
  | hs, t :: r => U.validS t && !hasN hs t && namesJ (t :: hs) r
set_option maxRecDepth 100000 in
set_option maxHeartbeats 4000000 in
theorem areNames_any (a : Option Addr) (c : Nat) (ns : List ByteArray) (w : World) (hu : NRow w a c ns) (hsz : ns.length ≤ 100000) :
    Calls Tryd.prog 42 #[.slice a ns.length c] w fun e w' => e = .returned (.bool (namesJ [] ns)) ∧ Below w.heap.size w w' := by
  obtain ⟨h1, h2, hts, hx⟩ := hu
  have hmm := @run_makeMap Tryd.prog
  obtain ⟨R, hR⟩ : ∃ R, namesJ [] ns = R := ⟨_, rfl⟩
  rw [hR]
  have HR := Lib.hid hR; clear hR
  go_enter Tryd.func42, Tryd.ntmps42
  go_wp2_with fail
  go_loopw [5, 9] (fun _ i wr => ∃ q : Nat, i = .int .i64 (q : Int) ∧ q ≤ ns.length ∧ Hid (NSet wr w.heap.size q (ns.take q).reverse) ∧ Below w.heap.size w wr ∧ w.heap.size < wr.heap.size ∧ Hid (namesJ (ns.take q).reverse (ns.drop q) = R)) (fun _ i _ => ns.length - (intOf i).toNat)
  case atStart => exact ⟨0, rfl, Nat.zero_le _, Lib.hid (nset_made w), (Below.refl _ _).alloc (Nat.le_refl _) _, by simp, HR.out⟩
  case round =>
  obtain ⟨q, rfl, hq, HS, hB, hlw, HQ⟩ := hrel
  rcases Nat.lt_or_ge q ns.length with hlt | hge
  · have hd : decide (q < ns.length) = true := by simpa using hlt
    have hne : ns ≠ [] := fun h => by rw [h] at hlt; simp at hlt
    obtain ⟨b, off, rfl, hc⟩ := hx.resolve_left hne
    obtain ⟨t, ht⟩ : ∃ t, ns[q]? = some t := ⟨_, List.getElem?_eq_getElem hlt⟩
    have z0 := cellJ_below hB (hc q t ht)
    have hst := hts t (List.mem_of_getElem? ht)
    have hstep : (ns.take (q + 1)).reverse = t :: (ns.take q).reverse := by rw [List.take_add_one, ht]; simp
    have hdrop : ns.drop q = t :: ns.drop (q + 1) := by
      rw [List.drop_eq_getElem_cons hlt]
      rw [List.getElem?_eq_getElem hlt] at ht
      cases ht; rfl
    have hq0 := HQ.out
    rw [hdrop] at hq0
    simp only [namesJ] at hq0
    have hV := fun W => valid_any t W hst
    have hAd := fun W h => nameAdd_any w.heap.size q (ns.take q).reverse t W h (by omega) hst
    obtain ⟨V, hVe⟩ : ∃ V, U.validS t = V := ⟨_, rfl⟩
    obtain ⟨H, hHe⟩ : ∃ H, hasN (ns.take q).reverse t = H := ⟨_, rfl⟩
    rw [hVe] at hV hq0
    rw [hHe] at hAd hq0
    have HQ0 := Lib.hid hq0; have HST := Lib.hid hstep
    clear hx hc hne ht hstep hdrop hq0 hVe hHe HQ hts
    cases V with
    | false =>
      go_wp2_with (go_at_call 38; (with_reducible refine (hV _).mono ?_); rintro e w1 ⟨rfl, hB1⟩)
      go_ret
      exact ⟨ret_bool (by rw [← HQ0.out]; rfl), hB.trans (hB1.mono hB.size)⟩
    | true =>
      cases H with
      | true =>
        go_wp2_with (first
          | (go_at_call 38; (with_reducible refine (hV _).mono ?_); rintro e w1 ⟨rfl, hB1⟩; have hS1 := nset_below HS.out hB1)
          | (go_at_call 62; (with_reducible refine (hAd _ hS1).mono ?_); rintro e w2 ⟨rfl, hS2, hG2⟩))
        go_ret
        exact ⟨ret_bool (by rw [← HQ0.out]; rfl), (hB.trans (hB1.mono hB.size)).grown hG2 (by have := hB1.size; omega) (fun j hj => by cases hj; exact Nat.le_refl _)⟩
      | false =>
        go_wp2_with (first
          | (go_at_call 38; (with_reducible refine (hV _).mono ?_); rintro e w1 ⟨rfl, hB1⟩; have hS1 := nset_below HS.out hB1)
          | (go_at_call 62; (with_reducible refine (hAd _ hS1).mono ?_); rintro e w2 ⟨rfl, hS2, hG2⟩; have HS2 := Lib.hid hS2; clear hS2))
        go_roundw
        case rel => exact ⟨q + 1, by go_num, hlt, Lib.hid (by rw [HST.out]; exact HS2.out), (hB.trans (hB1.mono hB.size)).grown hG2 (by have := hB1.size; omega) (fun j hj => by cases hj; exact Nat.le_refl _), by have := hB1.size; have := hG2.size; omega, Lib.hid (by rw [HST.out]; exact HQ0.out)⟩
        case measure => simp [intOf]; omega
  · have hd : decide (q < ns.length) = false := by simpa using hge
    obtain rfl : q = ns.length := by omega
    have hq0 := HQ.out
    rw [List.drop_length] at hq0
    simp only [namesJ] at hq0
    subst hq0
    go_wp2_with fail
    go_ret
    exact ⟨rfl, hB⟩
def emptyJ (s : ByteArray) : Bool := decide (s.toList = [])
mutual
/-- is it a thing? -/
def rightJ : JV → Bool
  | .mk k n s ns l =>
    if k = 0 then (decide (n = 0) && emptyJ s) && (decide (ns.length = 0) && decide (l.length = 0))
    else if k = 1 then (decide (n = 0) || decide (n = 1)) && emptyJ s && (decide (ns.length = 0) && decide (l.length = 0))
    else if k = 2 then emptyJ s && (decide (ns.length = 0) && decide (l.length = 0))
    else if k = 4 then decide (n = 0) && U.validS s && (decide (ns.length = 0) && decide (l.length = 0))
    else if k = 5 then (decide (n = 0) && emptyJ s) && decide (ns.length = 0) && rightJL l
    else if k = 6 then (decide (n = 0) && emptyJ s) && decide (ns.length = l.length) && namesJ [] ns && rightJL l
    else false
def rightJL : List JV → Bool
  | [] => true
  | x :: r => rightJ x && rightJL r
end
set_option maxHeartbeats 4000000 in
theorem allRight_any (l : List JV) (ih : ∀ y ∈ l, ∀ w u, IsJ w y u → Calls Tryd.prog 23 #[u] w fun e w' => e = .returned (.bool (rightJ y)) ∧ Below w.heap.size w w')
    (w : World) (a : Option Addr) (c : Nat) (h4 : l.length ≤ c) (h5 : c ≤ maxLen) (h6 : l = [] ∨ ∃ b off, a = some ⟨b, off, none⟩ ∧ IsJL w b l off) :
    Calls Tryd.prog 41 #[.slice a l.length c] w fun e w' => e = .returned (.bool (rightJL l)) ∧ Below w.heap.size w w' := by
  have hm : l.length ≤ maxLen := Nat.le_trans h4 h5
  unfold maxLen at hm
  have HI := Lib.hid ih; clear ih
  obtain ⟨R, hR⟩ : ∃ R, rightJL l = R := ⟨_, rfl⟩
  rw [hR]
  have HR := Lib.hid hR; clear hR
  go_enter Tryd.func41, Tryd.ntmps41
  go_wp2_with fail
  go_loopw [4, 7] (fun _ i wr => ∃ q : Nat, i = .int .i64 (q : Int) ∧ q ≤ l.length ∧ Below w.heap.size w wr ∧ Hid (rightJL (l.drop q) = R)) (fun _ i _ => l.length - (intOf i).toNat)
  case atStart => exact ⟨0, rfl, Nat.zero_le _, Below.refl _ _, HR.out⟩
  case round =>
  obtain ⟨q, rfl, hq, hB, HQ⟩ := hrel
  rcases Nat.lt_or_ge q l.length with hlt | hge
  · have hd : decide (q < l.length) = true := by simpa using hlt
    have hne : l ≠ [] := fun h => by rw [h] at hlt; simp at hlt
    obtain ⟨b, off, rfl, hc⟩ := h6.resolve_left hne
    obtain ⟨y, hy⟩ : ∃ y, l[q]? = some y := ⟨_, List.getElem?_eq_getElem hlt⟩
    have hcall := fun w u => HI.out y (List.mem_of_getElem? hy) w u
    have hq0 := HQ.out
    rw [show l.drop q = y :: l.drop (q + 1) by
      rw [List.drop_eq_getElem_cons hlt]
      rw [List.getElem?_eq_getElem hlt] at hy
      cases hy; rfl] at hq0
    simp only [rightJL] at hq0
    cases y with
    | mk yk yn ys yns yl =>
    obtain ⟨na, nc, ya, yc, ⟨g0, g1, g2, g3, g4⟩, hi⟩ := isJL_val (isJL_below hB hc) q _ _ _ _ _ hy
    obtain ⟨B, hBe⟩ : ∃ B, rightJ (.mk yk yn ys yns yl) = B := ⟨_, rfl⟩
    rw [hBe] at hcall hq0
    have HC := Lib.hid hcall; have HI1 := Lib.hid hi; have HQ0 := Lib.hid hq0
    have hA1 := (Below.refl _ wr).alloc (Nat.le_refl _) (jobj yk yn ys na yns.length nc ya yl.length yc)
    clear h6 hc hne hy hcall hi hBe hq0 HQ
    cases B with
    | false =>
      go_wp2_with (go_at_call 23; (with_reducible refine (HC.out _ _ (isJ_below hA1 _ _ HI1.out)).mono ?_); rintro e w' ⟨rfl, hb⟩)
      go_ret
      exact ⟨ret_bool (by rw [← HQ0.out]; rfl), hB.trans ((hA1.trans (hb.mono hA1.size)).mono hB.size)⟩
    | true =>
      go_wp2_with (go_at_call 23; (with_reducible refine (HC.out _ _ (isJ_below hA1 _ _ HI1.out)).mono ?_); rintro e w' ⟨rfl, hb⟩)
      go_roundw
      case rel => exact ⟨q + 1, by go_num, hlt, hB.trans ((hA1.trans (hb.mono hA1.size)).mono hB.size), Lib.hid (by have h := HQ0.out; rwa [Bool.true_and] at h)⟩
      case measure => simp [intOf]; omega
  · have hd : decide (q < l.length) = false := by simpa using hge
    obtain rfl : q = l.length := by omega
    have hq0 := HQ.out
    rw [List.drop_length] at hq0
    simp only [rightJL] at hq0
    subst hq0
    go_wp2
    go_ret
    exact ⟨rfl, hB⟩
set_option maxRecDepth 100000 in
set_option maxHeartbeats 8000000 in
theorem right8_any (v : JV) : szJ v ≤ 100000 → ∀ w x, IsJ w v x → Calls Tryd.prog 23 #[x] w fun e w' => e = .returned (.bool (rightJ v)) ∧ Below w.heap.size w w' := by
  induction v using jv_ind with
  | h k n s ns l ih =>
    intro hsz w x hx
    simp only [szJ] at hsz
    unfold IsJ at hx
    obtain ⟨_, _, hss, na, nc, a, cap, rfl, hn, h4, h5, h6⟩ := hx
    have hA1 := (Below.refl _ w).alloc (Nat.le_refl _) (jobj k n s na ns.length nc a l.length cap)
    have hV := fun W => valid_any s W hss
    have hAN := fun W hu => areNames_any na nc ns W hu (by omega)
    have hAL := fun W h => allRight_any l (fun y hy w u hu => ih y hy (by have := szJL_mem hy; omega) w u hu) W a cap h4 h5 h
    have HN := Lib.hid (nrow_below hA1 hn)
    have H6 := Lib.hid h6
    have KEEP : ∀ {W : World}, Below w.heap.size w W → Hid (l = [] ∨ ∃ b off, a = some ⟨b, off, none⟩ ∧ IsJL W b l off) := fun hb => Lib.hid (H6.out.imp id fun ⟨b, off, ha, hl⟩ => ⟨b, off, ha, isJL_below hb hl⟩)
    have hll := len_szJL l
    obtain ⟨N, hN⟩ : ∃ N, ns.length = N := ⟨_, rfl⟩
    obtain ⟨M, hM⟩ : ∃ M, l.length = M := ⟨_, rfl⟩
    obtain ⟨RL, hRL⟩ : ∃ RL, rightJL l = RL := ⟨_, rfl⟩
    obtain ⟨RN, hRN⟩ : ∃ RN, namesJ [] ns = RN := ⟨_, rfl⟩
    obtain ⟨RV, hRV⟩ : ∃ RV, U.validS s = RV := ⟨_, rfl⟩
    simp only [rightJ, hN, hM, hRL, hRN, hRV]
    simp only [hN, hM, hRL, hRN, hRV] at hV hAN hAL hA1 HN hsz hll
    clear ih h6 hn hN hM hRL hRN hRV
    by_cases hk0 : k = 0
    · subst hk0
      rw [if_pos rfl]
      go_enter Tryd.func23, Tryd.ntmps23
      go_wp2_with fail
      all_goals (subst_vars; go_ret; refine ⟨ret_bool ?_, hA1⟩; (first | (simp [emptyJ, *]; done) | (rw [Bool.eq_iff_iff]; simp [emptyJ, *]; done) | (rw [Bool.eq_iff_iff]; simp [emptyJ, *]; omega)))
    have e0 : (k == 0) = false := by simpa using hk0
    rw [if_neg hk0]; clear hk0
    by_cases hk1 : k = 1
    · subst hk1
      rw [if_pos rfl]
      clear e0
      go_enter Tryd.func23, Tryd.ntmps23
      go_wp2_with fail
      all_goals (subst_vars; go_ret; refine ⟨ret_bool ?_, hA1⟩; (first | (simp [emptyJ, *]; done) | (rw [Bool.eq_iff_iff]; simp [emptyJ, *]; done) | (rw [Bool.eq_iff_iff]; simp [emptyJ, *]; omega)))
    have e1 : (k == 1) = false := by simpa using hk1
    rw [if_neg hk1]; clear hk1
    by_cases hk2 : k = 2
    · subst hk2
      rw [if_pos rfl]
      clear e0 e1
      go_enter Tryd.func23, Tryd.ntmps23
      go_wp2_with fail
      all_goals (subst_vars; go_ret; refine ⟨ret_bool ?_, hA1⟩; (first | (simp [emptyJ, *]; done) | (rw [Bool.eq_iff_iff]; simp [emptyJ, *]; done) | (rw [Bool.eq_iff_iff]; simp [emptyJ, *]; omega)))
    have e2 : (k == 2) = false := by simpa using hk2
    rw [if_neg hk2]; clear hk2
    by_cases hk4 : k = 4
    · subst hk4
      rw [if_pos rfl]
      clear e0 e1 e2
      by_cases hn0 : n = 0
      · subst hn0
        by_cases hN0 : N = 0
        · subst hN0
          go_enter Tryd.func23, Tryd.ntmps23
          go_wp2_with (go_at_call 38; (with_reducible refine (hV _).mono ?_); rintro e w1 ⟨rfl, hB1⟩; have hA2 := hA1.trans (hB1.mono hA1.size))
          all_goals (go_ret; refine ⟨ret_bool ?_, by first | exact hA3 | exact hA2 | exact hA1⟩; (first | (simp [emptyJ, *]; done) | (rw [Bool.eq_iff_iff]; simp [emptyJ, *]; done) | (rw [Bool.eq_iff_iff]; simp [emptyJ, *]; omega)))
        · have eN : ((N : Int) == 0) = false := by rw [beq_eq_false_iff_ne]; omega
          go_enter Tryd.func23, Tryd.ntmps23
          go_wp2_with (go_at_call 38; (with_reducible refine (hV _).mono ?_); rintro e w1 ⟨rfl, hB1⟩; have hA2 := hA1.trans (hB1.mono hA1.size))
          all_goals (go_ret; refine ⟨ret_bool ?_, by first | exact hA3 | exact hA2 | exact hA1⟩; (first | (simp [emptyJ, *]; done) | (rw [Bool.eq_iff_iff]; simp [emptyJ, *]; done) | (rw [Bool.eq_iff_iff]; simp [emptyJ, *]; omega)))
      · have en : (n == 0) = false := by simpa using hn0
        go_enter Tryd.func23, Tryd.ntmps23
        go_wp2_with fail
        all_goals (subst_vars; go_ret; refine ⟨ret_bool ?_, hA1⟩; (first | (simp [emptyJ, *]; done) | (rw [Bool.eq_iff_iff]; simp [emptyJ, *]; done) | (rw [Bool.eq_iff_iff]; simp [emptyJ, *]; omega)))
    have e4 : (k == 4) = false := by simpa using hk4
    rw [if_neg hk4]; clear hk4
    by_cases hk5 : k = 5
    · subst hk5
      rw [if_pos rfl]
      clear e0 e1 e2 e4
      by_cases hn0 : n = 0
      · subst hn0
        by_cases hN0 : N = 0
        · subst hN0
          go_enter Tryd.func23, Tryd.ntmps23
          go_wp2_with (go_at_call 41; (with_reducible refine (hAL _ (KEEP hA1).out).mono ?_); rintro e w1 ⟨rfl, hB1⟩; have hA2 := hA1.trans (hB1.mono hA1.size))
          all_goals (go_ret; refine ⟨ret_bool ?_, by first | exact hA3 | exact hA2 | exact hA1⟩; (first | (simp [emptyJ, *]; done) | (rw [Bool.eq_iff_iff]; simp [emptyJ, *]; done) | (rw [Bool.eq_iff_iff]; simp [emptyJ, *]; omega)))
        · have eN : ((N : Int) == 0) = false := by simpa using hN0
          go_enter Tryd.func23, Tryd.ntmps23
          go_wp2_with fail
          all_goals (subst_vars; go_ret; refine ⟨ret_bool ?_, hA1⟩; (first | (simp [emptyJ, *]; done) | (rw [Bool.eq_iff_iff]; simp [emptyJ, *]; done) | (rw [Bool.eq_iff_iff]; simp [emptyJ, *]; omega)))
      · have en : (n == 0) = false := by simpa using hn0
        go_enter Tryd.func23, Tryd.ntmps23
        go_wp2_with fail
        all_goals (subst_vars; go_ret; refine ⟨ret_bool ?_, hA1⟩; (first | (simp [emptyJ, *]; done) | (rw [Bool.eq_iff_iff]; simp [emptyJ, *]; done) | (rw [Bool.eq_iff_iff]; simp [emptyJ, *]; omega)))
    have e5 : (k == 5) = false := by simpa using hk5
    rw [if_neg hk5]; clear hk5
    by_cases hk6 : k = 6
    · subst hk6
      rw [if_pos rfl]
      clear e0 e1 e2 e4 e5
      by_cases hn0 : n = 0
      · subst hn0
        by_cases hNM : M = N
        · subst hNM
          by_cases hM0 : M = 0
          · subst hM0
            go_enter Tryd.func23, Tryd.ntmps23
            go_wp2_with (first
              | (go_at_call 42; (with_reducible refine (hAN _ HN.out).mono ?_); rintro e w1 ⟨rfl, hB1⟩; have x4 := cellJ_below hB1 (p := ⟨w.heap.size, 4, none⟩) (v := .slice a 0 cap) (by simp); have hA2 := hA1.trans (hB1.mono hA1.size))
              | (go_at_call 41; (with_reducible refine (hAL _ (KEEP hA2).out).mono ?_); rintro e w2 ⟨rfl, hB2⟩; have hA3 := hA2.trans (hB2.mono hA2.size)))
            all_goals (go_ret; refine ⟨ret_bool ?_, by first | exact hA3 | exact hA2 | exact hA1⟩; (first | (simp [emptyJ, *]; done) | (rw [Bool.eq_iff_iff]; simp [emptyJ, *]; done) | (rw [Bool.eq_iff_iff]; simp [emptyJ, *]; omega)))
          · have eM : ((M : Int) == 0) = false := by rw [beq_eq_false_iff_ne]; omega
            go_enter Tryd.func23, Tryd.ntmps23
            go_wp2_with (first
              | (go_at_call 42; (with_reducible refine (hAN _ HN.out).mono ?_); rintro e w1 ⟨rfl, hB1⟩; have x4 := cellJ_below hB1 (p := ⟨w.heap.size, 4, none⟩) (v := .slice a M cap) (by simp); have hA2 := hA1.trans (hB1.mono hA1.size))
              | (go_at_call 41; (with_reducible refine (hAL _ (KEEP hA2).out).mono ?_); rintro e w2 ⟨rfl, hB2⟩; have hA3 := hA2.trans (hB2.mono hA2.size)))
            all_goals (go_ret; refine ⟨ret_bool ?_, by first | exact hA3 | exact hA2 | exact hA1⟩; (first | (simp [emptyJ, *]; done) | (rw [Bool.eq_iff_iff]; simp [emptyJ, *]; done) | (rw [Bool.eq_iff_iff]; simp [emptyJ, *]; omega)))
        · have eN : ((N : Int) == (M : Int)) = false := by rw [beq_eq_false_iff_ne]; omega
          go_enter Tryd.func23, Tryd.ntmps23
          go_wp2_with fail
          all_goals (subst_vars; go_ret; refine ⟨ret_bool ?_, hA1⟩; (first | (simp [emptyJ, *]; done) | (rw [Bool.eq_iff_iff]; simp [emptyJ, *]; done) | (rw [Bool.eq_iff_iff]; simp [emptyJ, *]; omega)))
      · have en : (n == 0) = false := by simpa using hn0
        go_enter Tryd.func23, Tryd.ntmps23
        go_wp2_with fail
        all_goals (subst_vars; go_ret; refine ⟨ret_bool ?_, hA1⟩; (first | (simp [emptyJ, *]; done) | (rw [Bool.eq_iff_iff]; simp [emptyJ, *]; done) | (rw [Bool.eq_iff_iff]; simp [emptyJ, *]; omega)))
    have e6 : (k == 6) = false := by simpa using hk6
    rw [if_neg hk6]; clear hk6
    go_enter Tryd.func23, Tryd.ntmps23
    go_wp2_with fail
    all_goals (subst_vars; go_ret; exact ⟨rfl, hA1⟩)
end Go.Proofs.YtcicjpdjbfgbhaaDoor
