/- Reading JSON: Parse, as far as is said. -/
import Derived.Test.YtpiajoffddjjfaaGreatDoorJrWhole2q
import Derived.Test.YtpiajoffddjjfaaGreatDoorJvGreat
set_option linter.unusedVariables false
namespace Go.Proofs.YtpiajoffddjjfaaGreatDoor
open Go.RowKit Go.Shelf
theorem some_ne {a b : Nat} (h : a ≠ b) : some a ≠ some b := fun e => h (by injection e)
theorem parse_world (s : ByteArray) (room : Nat) (w : World) (hE : Err w) :
    RJ ((w.alloc (.cells jzero 25)).alloc (.cells #[.string s, .int .i64 0, .int .i64 (room : Int)] 47)) (w.heap.size + 1) s 0 room ∧ Err ((w.alloc (.cells jzero 25)).alloc (.cells #[.string s, .int .i64 0, .int .i64 (room : Int)] 47)) ∧
    Below w.heap.size w ((w.alloc (.cells jzero 25)).alloc (.cells #[.string s, .int .i64 0, .int .i64 (room : Int)] 47)) ∧ JAt ((w.alloc (.cells jzero 25)).alloc (.cells #[.string s, .int .i64 0, .int .i64 (room : Int)] 47)) w.heap.size jzero ∧ w.heap.size + 1 ≠ 1 := by
  have hA1 := (Below.refl _ w).alloc (Nat.le_refl _) (.cells jzero 25)
  have hA2 := hA1.alloc hA1.size (.cells #[.string s, .int .i64 0, .int .i64 (room : Int)] 47)
  refine ⟨?_, err_below hE hA2, hA2, jat_old (jat_alloc w jzero) _, fun e => ?_⟩
  · have := World.alloc_heap_new (w.alloc (.cells jzero 25)) (.cells #[.string s, .int .i64 0, .int .i64 (room : Int)] 47)
    rwa [World.size_alloc] at this
  · have := err_lt hE
    omega
theorem below_of_grown {w W V : World} {p : Nat} (h : Below w.heap.size w W) (hp : w.heap.size ≤ p) (hg : W.grownBy V (some p)) : Below w.heap.size w V := by
  obtain ⟨a1, a2, a3, a4, a5⟩ := h
  obtain ⟨b1, b2, b3, b4, b5⟩ := hg
  exact ⟨b1.trans a1, b2.trans a2, b3.trans a3, Nat.le_trans a4 b4, fun j hj => (b5 j (by omega) (fun e => by cases e; omega)).trans (a5 j hj)⟩
set_option maxRecDepth 100000 in
set_option maxHeartbeats 4000000 in
theorem parse_bad (s : ByteArray) (room : Nat) (hroom : room ≤ 1000) (hsm : s.size ≤ 100000) (hpl : ∀ q, q ≤ s.size → (K.next (strB s) q).2.1 ≤ s.size) (t : K.Tok) (p1 : Nat) (a er : Int) (h1 : Js.nx (strB s) room 0 = .inr (t, p1)) (hp1 : p1 ≤ s.size)
    (h2 : Js.thing2 (strB s) room t p1 = .inl (a, er)) (h0 : (a, er) ≠ (0, 0)) (w : World) (hE : Err w) :
    Calls Tryz.prog 9 #[.string s, .int .i64 (room : Int)] w fun e w' => e = .returned (.tuple #[.agg jzero, .int .i64 a, .int .i64 er]) ∧ Below w.heap.size w w' := by
  obtain ⟨hr, hE2, hA2, hz, hpe⟩ := parse_world s room w hE
  have hW := whole_bad s (w.heap.size + 1) room _ hr hE2 t p1 a er (fun V hrV hEV => by have := jnext_any s (w.heap.size + 1) 0 room V hsm (Nat.zero_le _) hrV hEV; rwa [h1] at this)
    (fun V hrV hEV => by have := thing_all s (w.heap.size + 1) hsm hpl hpe room hroom t p1 V hp1 hrV hEV (by rw [h2]; intro e; injection e with e; exact h0 e); rwa [h2] at this)
  have hmax : (if (room : Int) < 0 then (0 : Int) else (room : Int)) = (room : Int) := if_neg (by omega)
  go_enter Tryz.func9, Tryz.ntmps9
  go_wp2_with (go_at_call 20; (with_reducible refine hW.mono ?_); rintro e w1 ⟨rfl, hg1⟩; have hz1 : JAt w1 w.heap.size jzero := (hg1.block _ (jat_lt hz) (some_ne (by omega))).trans hz; obtain ⟨⟨y0, y1, y2, y3, y4⟩, x0, x1, x2, x3, x4⟩ := jbox5 hz1)
  exact bodyPost_ret (jresults_row_tmp2 Tryz.results9 _ _ w.heap.size _ _ _ _ rfl (jat_set5 hz1 _ _ _ _ _) Tryz.underlying25 rfl json_info) rfl ⟨rfl, jbelow_set5 (below_of_grown hA2 (by omega) hg1) (Nat.le_refl _) 0 1 2 3 4 _ _ _ _ _⟩
set_option maxRecDepth 100000 in
set_option maxHeartbeats 4000000 in
theorem parse_good (s : ByteArray) (room : Nat) (hroom : room ≤ 1000) (hsm : s.size ≤ 100000) (hpl : ∀ q, q ≤ s.size → (K.next (strB s) q).2.1 ≤ s.size) (t : K.Tok) (p1 : Nat) (v : JV) (p2 : Nat) (u : K.Tok) (p3 : Nat) (h1 : Js.nx (strB s) room 0 = .inr (t, p1)) (hp1 : p1 ≤ s.size)
    (h2 : Js.thing2 (strB s) room t p1 = .inr (v, p2)) (hp2 : p2 ≤ s.size) (h3 : Js.nx (strB s) room p2 = .inr (u, p3)) (hu : u.kind = 0) (w : World) (hE : Err w) :
    Calls Tryz.prog 9 #[.string s, .int .i64 (room : Int)] w fun e w' => (∃ k n x na nl nc a len cap, e = .returned (.tuple #[.agg #[.int .i64 k, .int .i64 n, .string x, .slice na nl nc, .slice a len cap], .int .i64 (s.size : Int), .int .i64 0]) ∧ FreshJ w.heap.size w' v (.agg #[.int .i64 k, .int .i64 n, .string x, .slice na nl nc, .slice a len cap])) ∧ Below w.heap.size w w' := by
  obtain ⟨hr, hE2, hA2, hz, hpe⟩ := parse_world s room w hE
  have hW := whole_good s (w.heap.size + 1) room _ hr hE2 t p1 v p2 u p3 hu (fun V hrV hEV => by have := jnext_any s (w.heap.size + 1) 0 room V hsm (Nat.zero_le _) hrV hEV; rwa [h1] at this)
    (fun V hrV hEV => by have := thing_all s (w.heap.size + 1) hsm hpl hpe room hroom t p1 V hp1 hrV hEV (by rw [h2]; simp); rwa [h2] at this) (fun V hrV hEV => by have := jnext_any s (w.heap.size + 1) p2 room V hsm hp2 hrV hEV; rwa [h3] at this)
  have hmax : (if (room : Int) < 0 then (0 : Int) else (room : Int)) = (room : Int) := if_neg (by omega)
  have hs2 := hA2.size
  have hs9 : ((w.alloc (.cells jzero 25)).alloc (.cells #[.string s, .int .i64 0, .int .i64 (room : Int)] 47)).heap.size = w.heap.size + 2 := by rw [World.size_alloc, World.size_alloc]
  go_enter Tryz.func9, Tryz.ntmps9
  go_wp2_with (go_at_call 20; (with_reducible refine hW.mono ?_); rintro e w1 ⟨⟨k, n, x, na, nl, nc, a, len, cap, rfl, hf⟩, hg1⟩; have hz1 : JAt w1 w.heap.size jzero := (hg1.block _ (jat_lt hz) (some_ne (by omega))).trans hz; obtain ⟨⟨y0, y1, y2, y3, y4⟩, x0, x1, x2, x3, x4⟩ := jbox5 hz1)
  refine bodyPost_ret (jresults_row_tmp2 Tryz.results9 _ _ w.heap.size _ _ _ _ rfl (jat_set5 hz1 _ _ _ _ _) Tryz.underlying25 rfl json_info) rfl ⟨⟨_, _, _, _, _, _, _, _, _, rfl, ?_⟩, jbelow_set5 (below_of_grown hA2 (by omega) hg1) (Nat.le_refl _) 0 1 2 3 4 _ _ _ _ _⟩
  exact freshJ_mono (freshJ_later hf (grownJ_set5 w1 w.heap.size _ _ _ _ _).size (fun b b1 b2 _ => heapJ_set5 _ _ _ _ _ _ _ b (by omega))) (by omega)
end Go.Proofs.YtpiajoffddjjfaaGreatDoor

/- The program's Deep. -/
set_option linter.unusedVariables false
namespace Go.Proofs.YtpiajoffddjjfaaGreatDoor
open Go.RowKit Go.Shelf
set_option maxHeartbeats 4000000 in
theorem deep8_any (v : JV) : szJ v ≤ 1000000 → ∀ w x, IsJ w v x → Calls Tryz.prog 11 #[x] w fun e w' => e = .returned (.int .i64 (dpJ v)) ∧ Below w.heap.size w w' := by
  induction v using jv_ind with
  | h k m s ns l ih =>
    intro hsz w x hi
    simp only [szJ] at hsz
    unfold IsJ at hi
    obtain ⟨h1, h2, h3, na, nc, a, cap, rfl, _, h4, h5, h6⟩ := hi
    have hm : l.length ≤ maxLen := Nat.le_trans h4 h5
    unfold maxLen at hm
    have hB0 := (Below.refl _ w).alloc (Nat.le_refl _) (jobj k m s na ns.length nc a l.length cap)
    obtain ⟨N, hN⟩ : ∃ N : Nat, ns.length = N := ⟨_, rfl⟩
    simp only [dpJ, hN]
    rw [hN] at hB0 hsz
    clear hN
    obtain ⟨E, hE⟩ : ∃ E : Nat, (if 4 < k ∧ k < 7 then 1 else 0) = E := ⟨_, rfl⟩
    rw [hE]
    have HE := Lib.hid hE
    have HI := Lib.hid ih; clear ih hE
    go_enter Tryz.func11, Tryz.ntmps11
    go_wp2_with fail
    go_loopw [3, 5, 9] (fun c _ i wr => ∃ (q : Nat), i = .int .i64 (q : Int) ∧ c = .int .i64 ((dpJL (l.take q) : Nat) : Int) ∧ q ≤ l.length ∧ Below (w.alloc (jobj k m s na N nc a l.length cap)).heap.size (w.alloc (jobj k m s na N nc a l.length cap)) wr) (fun _ _ i _ => l.length - (intOf i).toNat)
    case atStart => exact ⟨0, rfl, rfl, Nat.zero_le _, Below.refl _ _⟩
    case round =>
    obtain ⟨q, rfl, rfl, hq, hB⟩ := hrel
    have e4 := cellJ_below hB (p := ⟨w.heap.size, 4, none⟩) (v := .slice a l.length cap) (by simp)
    have e0 := cellJ_below hB (p := ⟨w.heap.size, 0, none⟩) (v := .int .i64 k) (by simp)
    have hdt : dpJL (l.take q) ≤ 1000000 := by have h1 := dpJL_le (l.take q); have h2 := szJL_take l q; omega
    by_cases hql : q < l.length
    · have hdq : decide (q < l.length) = true := by simp; omega
      obtain ⟨y, hy⟩ : ∃ y, l[q]? = some y := ⟨l[q], List.getElem?_eq_getElem hql⟩
      obtain ⟨b, off, rfl, hIs⟩ : ∃ b off, a = some ⟨b, off, none⟩ ∧ IsJL w b l off := by
        rcases h6 with h | h
        · subst h; simp at hql
        · exact h
      have hst := dpJL_step l q y hy
      have hsy : szJ y ≤ 1000000 := by have := szJL_mem (List.mem_of_getElem? hy); omega
      have hbd := dpJ_le y
      have hcall := fun w x hx => HI.out y (List.mem_of_getElem? hy) hsy w x hx
      cases y with
      | mk yk yn ys yns yl =>
      obtain ⟨yna, ync, ya, yc, ⟨g0, g1, g2, g3, g4⟩, hi⟩ := isJL_val (isJL_below hB (isJL_below hB0 hIs)) q _ _ _ _ _ hy
      have hi2 := Lib.hid hi
      have hA1 := (Below.refl _ wr).alloc (Nat.le_refl _) (jobj yk yn ys yna yns.length ync ya yl.length yc)
      obtain ⟨z, hz⟩ : ∃ z, dpJ (.mk yk yn ys yns yl) = z := ⟨_, rfl⟩
      obtain ⟨c, hc⟩ : ∃ c, dpJL (l.take q) = c := ⟨_, rfl⟩
      rw [hz] at hcall hbd hst
      rw [hc] at hst hdt ⊢
      have hz9 : z ≤ 1000000 := by omega
      have HD := Lib.hid hst
      have HC := Lib.hid hcall
      clear h6 hIs hi hy hz hc hst hcall
      rcases Nat.lt_or_ge c z with hz0 | hz0
      · go_wp2_with (first | (go_at_call 11; (with_reducible refine (HC.out _ _ (isJ_below hA1 _ _ hi2.out)).mono ?_); rintro e w' ⟨rfl, hb⟩))
        all_goals (first
          | (exfalso; omega)
          | (go_roundw
             case rel => exact ⟨q + 1, by go_num, by (rw [HD.out, Nat.max_eq_right (by omega)]; try rw [Int.max_eq_right (by omega)]), by omega, hB.trans ((hA1.trans (hb.mono hA1.size)).mono hB.size)⟩
             case measure => simp [intOf]; omega))
      · go_wp2_with (first | (go_at_call 11; (with_reducible refine (HC.out _ _ (isJ_below hA1 _ _ hi2.out)).mono ?_); rintro e w' ⟨rfl, hb⟩))
        all_goals (first
          | (exfalso; omega)
          | (go_roundw
             case rel => exact ⟨q + 1, by go_num, by (rw [HD.out, Nat.max_eq_left (by omega)]; try rw [Int.max_eq_left (by omega)]), by omega, hB.trans ((hA1.trans (hb.mono hA1.size)).mono hB.size)⟩
             case measure => simp [intOf]; omega))
    · have hdq : decide (q < l.length) = false := by simp; omega
      obtain rfl : q = l.length := by omega
      rw [List.take_length] at hdt ⊢
      obtain ⟨c, hc⟩ : ∃ c, dpJL l = c := ⟨_, rfl⟩
      rw [hc] at hdt ⊢
      have HC := Lib.hid hc
      clear hc h6
      by_cases hk5 : k = 5
      · subst hk5
        obtain rfl : 1 = E := by rw [← HE.out, if_pos (by omega)]
        clear HE
        go_wp2_with fail
        all_goals go_ret
        all_goals exact ⟨ret_int (by have h := HC.out; first | (subst h; go_num) | omega), hB0.trans (hB.mono hB0.size)⟩
      · have k1 : (k == 5) = false := by simpa using hk5
        by_cases hk6 : k = 6
        · subst hk6
          obtain rfl : 1 = E := by rw [← HE.out, if_pos (by omega)]
          clear HE
          go_wp2_with fail
          all_goals go_ret
          all_goals exact ⟨ret_int (by have h := HC.out; first | (subst h; go_num) | omega), hB0.trans (hB.mono hB0.size)⟩
        · have k2 : (k == 6) = false := by simpa using hk6
          obtain rfl : 0 = E := by rw [← HE.out, if_neg (by omega)]
          clear HE hk5 hk6
          go_wp2_with fail
          all_goals go_ret
          all_goals exact ⟨ret_int (by have h := HC.out; first | (subst h; go_num) | omega), hB0.trans (hB.mono hB0.size)⟩
end Go.Proofs.YtpiajoffddjjfaaGreatDoor
