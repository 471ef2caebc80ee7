/- Package bin: All, Text (slices.Concat, slices.Grow). -/
import Derived.Test.YtdogdbibhmhooaaGreatMh8Regi
import Derived.Lib.AppendZeros
import Derived.RegionTactic
import Derived.Lib.SliceRun
import Derived.Test.YtdogdbibhmhooaaGreatMh4Regi
namespace Go.Proofs.YtdogdbibhmhooaaGreat
open Go.RowKit Go.Shelf
attribute [local go_sem] Oper.semAt_some
set_option maxRecDepth 100000 in
set_option maxHeartbeats 1000000 in
theorem grow_any (n : Nat) (w : World) (hn : n ≤ 1000000000) : Calls Tryz.prog 119 #[.slice none 0 0, .int .i64 (n : Int)] w (Got w []) := by
  obtain ⟨i0, hi, hz0, hz1, hz2⟩ := info_parts info_u8
  rcases Nat.eq_zero_or_pos n with rfl | h0
  · go_enter Tryz.func119, Tryz.ntmps119
    go_wp2
    go_ret
    exact ⟨_, rfl, World.ownsRow_nil _ _ _ _, Below.refl _ _⟩
  · have hrun := Lib.run_append_nil_zeros (P := Tryz.prog) w 26 3 26 5 i0 (.int .u8 0) .i64 .i64 Tryz.underlying26 Tryz.underlying3 hi hz0 n h0 (by omega) (by omega) (by rw [hz2]; omega)
    have hge := grownCap_ge w n 0 5
    have hle := grownCap_le_maxLen w n 0 5 (by unfold maxLen; omega)
    have hcs : (Builtin.zeroCells (Value.int .u8 0).cells n ++ Builtin.zeroCells (Value.int .u8 0).cells (grownCap w n 0 5 - n)).size = grownCap w n 0 5 := by
      rw [Array.size_append, size_zeroCells, size_zeroCells]; simp [Value.cells]; omega
    generalize (Builtin.zeroCells (Value.int .u8 0).cells n ++ Builtin.zeroCells (Value.int .u8 0).cells (grownCap w n 0 5 - n)) = M at hrun hcs
    generalize grownCap w n 0 5 = g at hrun hge hle hcs
    unfold maxLen at hle
    have hB : Below w.heap.size w (w.drew.alloc (.cells M 5)) := ((Below.refl w.heap.size w).drew).alloc (Nat.le_refl _) _
    have hA : BAt (w.drew.alloc (.cells M 5)) w.heap.size M := World.alloc_heap_new w.drew _
    clear hi hz0 hz1 hz2
    go_enter Tryz.func119, Tryz.ntmps119
    go_wp2_with (first | (at_builtin; refine Lib.wpList_append_run _ rfl _ _ _ _ rfl _ _ rfl rfl _ _ hrun ?_))
    go_ret
    exact ⟨_, rfl, ⟨rfl, .inr ⟨w.heap.size, g, M, rfl, Nat.le_refl _, hA, Nat.zero_le _, by unfold maxLen; omega, by omega, rfl⟩⟩, hB⟩
abbrev R4 := Option Addr × Nat × Nat × List Int
/-- slices of bytes one behind the other, and what they hold -/
def RowsAt (W : World) (b : Nat) (rows : List R4) : Prop := ∀ i x, rows[i]? = some x → W.cell? ⟨b, i, none⟩ = some (.slice x.1 x.2.1 x.2.2.1) ∧ Row W .u8 x.1 x.2.1 x.2.2.1 x.2.2.2
def cat (rows : List R4) : List Int := rows.flatMap (·.2.2.2)
theorem cat_take (rows : List R4) (k : Nat) (x : R4) (h : rows[k]? = some x) : cat (rows.take (k + 1)) = cat (rows.take k) ++ x.2.2.2 := by
  rw [List.take_add_one, h]; simp [cat]
theorem cat_len_take (rows : List R4) (k : Nat) : (cat (rows.take k)).length ≤ (cat rows).length := by
  have e : cat rows = cat (rows.take k) ++ cat (rows.drop k) := by
    conv => lhs; rw [← List.take_append_drop k rows]
    simp only [cat, List.flatMap_append]
  rw [e, List.length_append]; omega
theorem rowsAt_below {W W' : World} {b : Nat} {rows : List R4} (h : RowsAt W b rows) (hb : Below W.heap.size W W') : RowsAt W' b rows := by
  intro i x hx
  obtain ⟨h1, h2⟩ := h i x hx
  refine ⟨?_, row_below h2 hb rfl⟩
  have hbk : b < W.heap.size := by
    simp only [World.cell?] at h1
    rcases Nat.lt_or_ge b W.heap.size with h | h
    · exact h
    · rw [Array.getElem?_eq_none h] at h1; cases h1
  exact (hb.cell (p := ⟨b, i, none⟩) hbk).trans h1
set_option maxRecDepth 100000 in
set_option maxHeartbeats 2000000 in
theorem concat_any (rows : List R4) (b n cap : Nat) (w : World) (h : RowsAt w b rows) (hn : rows.length = n) (hc : n ≤ cap) (hcap : cap ≤ maxLen) (hl : (cat rows).length ≤ 1000000000) :
    Calls Tryz.prog 93 #[.slice (some ⟨b, 0, none⟩) n cap] w (Got w (cat rows)) := by
  obtain ⟨i0, hi, hz0, hz1, hz2⟩ := info_parts info_u8
  unfold maxLen at hcap
  have H := Lib.hid h; clear h
  have HN := Lib.hid hn; clear hn
  have HL : ∀ k, (cat (rows.take k)).length ≤ 1000000000 := fun k => Nat.le_trans (cat_len_take rows k) hl
  have HL := Lib.hid HL
  have hgr := fun w => grow_any (cat rows).length w hl
  go_enter Tryz.func93, Tryz.ntmps93
  go_wp2
  go_loop [3, 11] (fun c i => ∃ k : Nat, k ≤ n ∧ i = .int .i64 k ∧ c = .int .i64 ((cat (rows.take k)).length : Int)) (fun _ i => n - (intOf i).toNat)
  case atStart => exact ⟨0, by omega, rfl, rfl⟩
  case round =>
    obtain ⟨k, hk, rfl, rfl⟩ := hrel
    by_cases hlt : k < n
    · obtain ⟨⟨xa, xl, xc, xt⟩, hx⟩ : ∃ x, rows[k]? = some x := ⟨rows[k]'(by rw [HN.out]; exact hlt), List.getElem?_eq_getElem _⟩
      obtain ⟨c1, hr⟩ := H.out k _ hx
      dsimp only at c1 hr
      have hst := cat_take rows k _ hx
      dsimp only at hst
      have hl1 := HL.out (k + 1)
      have hxl := hr.1
      have hsum : (cat (rows.take (k + 1))).length = (cat (rows.take k)).length + xl := by rw [hst, List.length_append, hxl]
      generalize hm' : (cat (rows.take (k + 1))).length = m' at hl1 hsum
      generalize (cat (rows.take k)).length = m at hsum
      have HM' := Lib.hid hm'; clear hm'
      have HST := Lib.hid hst; have HR := Lib.hid hr; have HX := Lib.hid hx; have HXL := Lib.hid hxl
      clear hst hr hx hxl hgr
      have HS := Lib.hid hsum
      have hm : m + xl ≤ 1000000000 := by omega
      clear hsum
      have d0 : decide ((m : Int) + (xl : Int) < 0) = false := by simp; omega
      go_wp2
      go_round
      case rel => exact ⟨k + 1, by omega, by go_num, by rw [HM'.out, HS.out]; simp⟩
      case measure => simp [intOf]; omega
    · obtain rfl : k = n := by omega
      have he : rows.take k = rows := List.take_of_length_le (by rw [HN.out]; omega)
      rw [he]
      have hln := hl
      have HLL := Lib.hid hl
      clear hl he
      obtain ⟨m, hm⟩ : ∃ m, (cat rows).length = m := ⟨_, rfl⟩
      rw [hm] at hgr hln ⊢
      have HM := Lib.hid hm; clear hm
      go_wp2_with (first | (go_at_call 119; (with_reducible refine (hgr _).mono ?_); rintro e w1 ⟨v1, rfl, hown1, hb1⟩))
      go_loopw [6, 27] (fun c i wr => ∃ j : Nat, j ≤ k ∧ i = .int .i64 j ∧ wr.ownsRow w.heap.size 5 1 c (cat (rows.take j)).length (u8s (cat (rows.take j))) ∧ Below w.heap.size w wr) (fun _ i _ => k - (intOf i).toNat)
      case atStart => exact ⟨0, by omega, rfl, hown1, hb1⟩
      case round =>
        obtain ⟨j, hj, rfl, hown, hB⟩ := hrel
        by_cases hlt : j < k
        · obtain ⟨⟨xa, xl, xc, xt⟩, hx⟩ : ∃ x, rows[j]? = some x := ⟨rows[j]'(by rw [HN.out]; exact hlt), List.getElem?_eq_getElem _⟩
          obtain ⟨c1, hr⟩ := rowsAt_below H.out hB j _ hx
          dsimp only at c1 hr
          have hst := cat_take rows j _ hx
          dsimp only at hst
          have hl1 := HL.out (j + 1)
          have hxl := hr.1
          rw [hst, List.length_append, hxl] at hl1
          have HST := Lib.hid hst; have HR := Lib.hid hr; have HX := Lib.hid hx; have HXL := Lib.hid hxl
          clear hst hr hx hxl
          generalize hX : cat (rows.take j) = X at *
          have HB := Lib.hid hB
          go_wp2_with (first
            | (at_builtin; refine wpList_append_cells _ rfl _ _ 26 rfl w.heap.size 5 i0 (.int .u8 0) 1 1 Tryz.underlying26 hi hz0 hz1 hz2 rfl (by decide) _ X.length (u8s X) rfl hown xa xl xc (u8s xt) rfl (cells_of_row HR.out) (by simp [u8s, Value.oneCell']) (by unfold maxLen; omega) (by omega) HB.out.size ?_; intro v2 w2 hown2 hg2))
          go_roundw
          all_goals (first
            | (case' rel => exact ⟨j + 1, by omega, by go_num, ownsRow_nth hown2 (by rw [HST.out, List.length_append, HXL.out]) (by rw [HST.out, u8s_append]), HB.out.trans ((below_grown hg2 hown HB.out.size))⟩)
            | (case' measure => simp [intOf]; omega))
        · obtain rfl : j = k := by omega
          have he : rows.take j = rows := List.take_of_length_le (by rw [HN.out]; omega)
          rw [he] at hown
          go_wp2
          go_ret
          exact ⟨_, rfl, hown, hB⟩
theorem all_any (rows : List R4) (b n cap : Nat) (w : World) (h : RowsAt w b rows) (hn : rows.length = n) (hc : n ≤ cap) (hcap : cap ≤ maxLen) (hl : (cat rows).length ≤ 1000000000) :
    Calls Tryz.prog 61 #[.slice (some ⟨b, 0, none⟩) n cap] w (Got w (cat rows)) := by
  have hC := concat_any rows b n cap w h hn hc hcap hl
  generalize cat rows = l at *
  clear h hn
  go_enter Tryz.func61, Tryz.ntmps61
  go_wp2_with (first | (go_at_call 93; (with_reducible refine hC.mono ?_); rintro e w' ⟨v, rfl, ho, hb⟩))
  go_ret
  exact ⟨_, rfl, ho, hb⟩
theorem rowsAt_two {W : World} {b : Nat} {x y : R4} (hx : W.cell? ⟨b, 0, none⟩ = some (.slice x.1 x.2.1 x.2.2.1)) (hy : W.cell? ⟨b, 1, none⟩ = some (.slice y.1 y.2.1 y.2.2.1)) (rx : Row W .u8 x.1 x.2.1 x.2.2.1 x.2.2.2) (ry : Row W .u8 y.1 y.2.1 y.2.2.1 y.2.2.2) : RowsAt W b [x, y] := by
  intro i z hz
  match i with
  | 0 => simp at hz; subst hz; exact ⟨hx, rx⟩
  | 1 => simp at hz; subst hz; exact ⟨hy, ry⟩
  | i + 2 => simp at hz
theorem got_addr {w' : World} {base : Nat} {v : Value} {l : List Int} {n : Nat} (h : w'.ownsRow base 5 1 v l.length (u8s l)) (hn : l.length = n) (h0 : 0 < n) : ∃ g cap, v = .slice (some ⟨g, 0, none⟩) n cap ∧ Row w' .u8 (some ⟨g, 0, none⟩) n cap l ∧ base ≤ g := by
  subst hn
  obtain ⟨a, cap, e, hr⟩ := row_of_owns (k := .u8) h
  rcases h.2 with ⟨_, h1⟩ | ⟨g, _, _, e2, hb, _⟩
  · omega
  · rw [e] at e2; cases e2
    exact ⟨g, cap, e, hr, hb⟩
theorem got_row {w' : World} {base : Nat} {v : Value} {l : List Int} {n : Nat} (h : w'.ownsRow base 5 1 v l.length (u8s l)) (hn : l.length = n) : ∃ a cap, v = .slice a n cap ∧ Row w' .u8 a n cap l := by
  subst hn
  exact row_of_owns (k := .u8) h
set_option maxRecDepth 100000 in
set_option maxHeartbeats 1000000 in
theorem btext_any (s : ByteArray) (w : World) (hs : s.size ≤ 900000000) : Calls Tryz.prog 62 #[.string s] w (Got w (Bn.spl s.size 4 ++ strB s)) := by
  have hN := fun w => num_any (s.size : Int) w
  have hsp : spn (s.size : Int) 2147483647 4 = Bn.spl s.size 4 := by unfold spn; rw [if_neg (by omega), Int.toNat_natCast]
  rw [hsp] at hN
  have hl4 := Bn.spl_len s.size 4
  generalize Bn.spl s.size 4 = l at *
  clear hsp
  have hsm : s.size ≤ maxLen := by unfold maxLen; omega
  have HL := Lib.hid hl4; clear hl4
  have hnil := fun w a n c => Lib.run_eql_slice_nil (P := Tryz.prog) w 26 5 a n c 0 0 Tryz.underlying26
  go_enter Tryz.func62, Tryz.ntmps62
  go_wp2_with (first
    | (go_at_call 60; (with_reducible refine (hN _).mono ?_); rintro e w1 ⟨v1, rfl, ho1, hb1⟩; obtain ⟨g1, cap1, rfl, hr1, _⟩ := got_addr ho1 HL.out (by omega); have HR1 := Lib.hid hr1; clear hr1; have HO1 := Lib.hid ho1; clear ho1; obtain ⟨cap2, w2, run2, row2, hb2⟩ := conv_bytes w1 s hsm; have HR2 := Lib.hid row2; clear row2)
    | (go_at_call 61
       have hA := (Below.refl _ w2).alloc (Nat.le_refl _) (.cells #[.slice (some ⟨g1, 0, none⟩) 4 cap1, .slice (some ⟨w1.heap.size, 0, none⟩) s.size cap2] 26)
       have hRows : RowsAt (w2.alloc (.cells #[.slice (some ⟨g1, 0, none⟩) 4 cap1, .slice (some ⟨w1.heap.size, 0, none⟩) s.size cap2] 26)) w2.heap.size [(some ⟨g1, 0, none⟩, 4, cap1, l), (some ⟨w1.heap.size, 0, none⟩, s.size, cap2, strB s)] :=
         rowsAt_two (by simp) (by simp) (row_below (row_below HR1.out hb2 rfl) hA rfl) (row_below HR2.out hA rfl)
       have hAll := all_any _ w2.heap.size 2 2 _ hRows rfl (Nat.le_refl _) (by unfold maxLen; omega) (by simp [cat, HL.out, strB_len]; omega)
       rw [show cat [(some ⟨g1, 0, none⟩, 4, cap1, l), (some ⟨w1.heap.size, 0, none⟩, s.size, cap2, strB s)] = l ++ strB s by simp [cat]] at hAll
       with_reducible refine hAll.mono ?_
       rintro e w4 ⟨v4, rfl, ho4, hb4⟩))
  go_ret
  have hB2 := hb1.trans (hb2.mono hb1.size)
  have hB3 := hB2.trans (hA.mono hB2.size)
  exact ⟨_, rfl, ownsRow_mono ho4 hB3.size, hB3.trans (hb4.mono hB3.size)⟩
end Go.Proofs.YtdogdbibhmhooaaGreat

/- Package bin: spare, right. -/
namespace Go.Proofs.YtdogdbibhmhooaaGreat
open Go.RowKit Go.Shelf
mutual
/-- how many nodes are left of some, as the program says it -/
def spV : PV → Int → Int → Int
  | .mk _ _ _ l, d, n => if 4 < d then -1 else spL l (d + 1) (n - 1)
def spL : List PV → Int → Int → Int
  | [], _, n => n
  | x :: r, d, n => if n < 0 then n else spL r d (spV x d n)
end
theorem sp_bd : ∀ v : PV, ∀ d n, 0 ≤ n → -1 ≤ spV v d n ∧ spV v d n ≤ n ∧ (0 ≤ spV v d n → spV v d n = n - szV v) := by
  intro v
  induction v using pv_ind with
  | h k n s l ih =>
    have hl : ∀ d n, -1 ≤ n → -1 ≤ spL l d n ∧ spL l d n ≤ n ∧ (0 ≤ spL l d n → spL l d n = n - szL l) := by
      induction l with
      | nil => intro d n hn; simp only [spL, szL]; omega
      | cons x r ih2 =>
        intro d n hn
        simp only [spL, szL]
        split
        · omega
        · have h1 := ih x (by simp) d n (by omega)
          have h2 := ih2 (fun y hy => ih y (by simp [hy])) d (spV x d n) (by omega)
          omega
    intro d n hn
    simp only [spV, szV]
    split
    · omega
    · have := hl (d + 1) (n - 1) (by omega); omega
/-- a value that is formed, and not too deep, has room if its nodes have -/
theorem sp_ok : ∀ v : PV, okV v = true → ∀ d n : Nat, deepV v + d ≤ 4 → szV v ≤ n → spV v d n = (n : Int) - szV v := by
  intro v
  induction v using pv_ind with
  | h k m s l ih =>
    intro ho d n hd hn
    simp only [spV, szV, deepV] at *
    rw [if_neg (by omega)]
    by_cases hk : k = 5
    · subst hk
      rw [okV5] at ho
      simp only [Bool.and_eq_true] at ho
      have hol := ho.2
      clear ho
      rw [if_pos rfl] at hd
      have key : ∀ n : Nat, szL l ≤ n → spL l ((d : Int) + 1) n = (n : Int) - szL l := by
        clear hn
        induction l with
        | nil => intro n _; simp [spL, szL]
        | cons x r ih2 =>
          intro n hn
          simp only [spL, szL, deepL, okL, Bool.and_eq_true] at *
          rw [if_neg (by omega)]
          have h1 := ih x (by simp) hol.1 (d + 1) n (by omega) (by omega)
          rw [show ((d + 1 : Nat) : Int) = (d : Int) + 1 by omega] at h1
          rw [h1]
          have h2 := ih2 (fun y hy => ih y (by simp [hy])) (by omega) hol.2 (n - szV x) (by omega)
          rw [show ((n - szV x : Nat) : Int) = (n : Int) - szV x by omega] at h2
          rw [h2]; omega
      have h3 := key (n - 1) (by omega)
      rw [show ((n - 1 : Nat) : Int) = (n : Int) - 1 by omega] at h3
      rw [h3]; omega
    · have hl : l = [] := by
        by_cases k0 : k = 0
        · subst k0; rw [okV0] at ho; simp at ho; exact ho.2
        by_cases k1 : k = 1
        · subst k1; rw [okV1] at ho; simp at ho; exact ho.2
        by_cases k2 : k = 2
        · subst k2; rw [okV2] at ho; simp at ho; exact ho.2
        by_cases k3 : k = 3
        · subst k3; rw [okV3] at ho; simp at ho; exact ho.2
        by_cases k4 : k = 4
        · subst k4; rw [okV4] at ho; simp at ho; exact ho.2
        · rw [okV6 _ _ _ _ k0 k1 k2 k3 k4 hk] at ho; cases ho
      subst hl
      simp [spL, szL]
theorem sp_right (v : PV) (h : rightV v = true) : 0 ≤ spV v 0 100 := by
  simp only [rightV, Bool.and_eq_true, decide_eq_true_eq] at h
  have := sp_ok v h.2 0 100 (by omega) h.1.2
  simp only [Int.natCast_zero] at this
  rw [show ((100 : Nat) : Int) = 100 from rfl] at this
  rw [this]; omega
set_option maxHeartbeats 2000000 in
theorem spare_any (v : PV) : ∀ (d n : Int), 0 ≤ d → d ≤ 5 → 0 ≤ n → n ≤ 100 → ∀ w x, Is w v x →
    Calls Tryz.prog 111 #[x, .int .i64 d, .int .i64 n] w fun e w' => e = .returned (.int .i64 (spV v d n)) ∧ Below w.heap.size w w' := by
  induction v using pv_ind with
  | h k m s l ih =>
    intro d n hd hd' hn hn' w x hi
    unfold Is at hi
    obtain ⟨h1, h2, h3, a, cap, rfl, h4, h5, h6⟩ := hi
    have hm : l.length ≤ maxLen := Nat.le_trans h4 h5
    unfold maxLen at hm
    have hB0 := (Below.refl _ w).alloc (Nat.le_refl _) (vobj k m s a l.length cap)
    by_cases hg : 4 < d
    · have hv : spV (.mk k m s l) d n = -1 := by simp only [spV]; rw [if_pos hg]
      rw [hv]
      have hd1 : decide (4 < d) = true := by simpa using hg
      clear ih h6 hv hg
      go_enter Tryz.func111, Tryz.ntmps111
      go_wp2_with fail
      all_goals go_ret
      all_goals exact ⟨rfl, hB0⟩
    · have hv : spV (.mk k m s l) d n = spL l (d + 1) (n - 1) := by simp only [spV]; rw [if_neg hg]
      rw [hv]
      clear hv
      have hd1 : decide (4 < d) = false := by simpa using hg
      obtain ⟨r, hr⟩ : ∃ r, spL l (d + 1) (n - 1) = r := ⟨_, rfl⟩
      rw [hr]
      have HR := Lib.hid hr; have HI := Lib.hid ih; clear ih hr
      go_enter Tryz.func111, Tryz.ntmps111
      go_wp2_with fail
      go_loopw [2, 8, 16] (fun c _ i wr => ∃ (q : Nat) (z : Int), i = .int .i64 (q : Int) ∧ c = .int .i64 z ∧ -1 ≤ z ∧ z ≤ 100 ∧ q ≤ l.length ∧ Below (w.alloc (vobj k m s a l.length cap)).heap.size (w.alloc (vobj k m s a l.length cap)) wr ∧ Hid (spL (l.drop q) (d + 1) z = r)) (fun _ _ i _ => l.length - (intOf i).toNat)
      case atStart => exact ⟨0, n - 1, rfl, rfl, by omega, by omega, Nat.zero_le _, Below.refl _ _, HR.out⟩
      case round =>
      obtain ⟨q, c, rfl, rfl, hc, hc', hq, hB, HQ⟩ := hrel
      by_cases hql : q < l.length
      · have hdq : decide (q < l.length) = true := by simp; omega
        obtain ⟨y, hy⟩ : ∃ y, l[q]? = some y := ⟨l[q], List.getElem?_eq_getElem hql⟩
        obtain ⟨b, off, rfl, hIs⟩ : ∃ b off, a = some ⟨b, off, none⟩ ∧ IsL w b l off := by
          rcases h6 with h | h
          · subst h; simp at hql
          · exact h
        have hdrop : spL (l.drop q) (d + 1) c = if c < 0 then c else spL (l.drop (q + 1)) (d + 1) (spV y (d + 1) c) := by
          rw [show l.drop q = y :: l.drop (q + 1) by
            rw [List.drop_eq_getElem_cons hql]
            rw [List.getElem?_eq_getElem hql] at hy
            cases hy; rfl]
          simp only [spL]
        rw [HQ.out] at hdrop
        rcases Int.lt_or_le c 0 with hc0 | hc0
        · have hdc : decide (c < 0) = true := by simpa using hc0
          rw [if_pos hc0] at hdrop
          have HD := Lib.hid hdrop
          cases y with
          | mk yk yn ys yl =>
          obtain ⟨ya, yc, ⟨g0, g1, g2, g3⟩, hi⟩ := isL_val (isL_below hB (isL_below hB0 hIs)) q _ _ _ _ hy
          have hA0 := (Below.refl _ wr).alloc (Nat.le_refl _) (vobj yk yn ys ya yl.length yc)
          clear h6 hIs hi hy hdrop HQ
          go_wp2_with fail
          all_goals go_ret
          all_goals exact ⟨ret_int HD.out.symm, hB0.trans ((hB.trans (hA0.mono hB.size)).mono hB0.size)⟩
        · have hdc : decide (c < 0) = false := by simp; omega
          rw [if_neg (by omega)] at hdrop
          have hbd := sp_bd y (d + 1) c hc0
          have hcall := fun w x hx => HI.out y (List.mem_of_getElem? hy) (d + 1) c (by omega) (by omega) hc0 hc' w x hx
          cases y with
          | mk yk yn ys yl =>
          obtain ⟨ya, yc, ⟨g0, g1, g2, g3⟩, hi⟩ := isL_val (isL_below hB (isL_below hB0 hIs)) q _ _ _ _ hy
          have hi2 := Lib.hid hi
          have hA0 := (Below.refl _ wr).alloc (Nat.le_refl _) (vobj yk yn ys ya yl.length yc)
          obtain ⟨z, hz⟩ : ∃ z, spV (.mk yk yn ys yl) (d + 1) c = z := ⟨_, rfl⟩
          rw [hz] at hcall hdrop hbd
          have HD := Lib.hid hdrop
          have HC := Lib.hid hcall
          clear h6 hIs hi hy hz hdrop HQ hcall
          go_wp2_with (first | (go_at_call 111; (with_reducible refine (HC.out _ _ (is_below hA0 _ _ hi2.out)).mono ?_); rintro e w' ⟨rfl, hb⟩))
          all_goals go_roundw
          all_goals (first
            | (case' rel => exact ⟨q + 1, z, by go_num, rfl, by omega, by omega, by omega, hB.trans ((hA0.trans (hb.mono hA0.size)).mono hB.size), HD.out.symm⟩)
            | (case' measure => simp [intOf]; omega))
      · have hdq : decide (q < l.length) = false := by simp; omega
        obtain rfl : q = l.length := by omega
        have hQ := HQ.out
        rw [List.drop_length] at hQ
        simp only [spL] at hQ
        subst hQ
        go_wp2_with fail
        all_goals go_ret
        all_goals exact ⟨rfl, hB0.trans (hB.mono hB0.size)⟩
set_option maxHeartbeats 1000000 in
theorem bright_any (v : PV) (w : World) (x : Value) (hi : Is w v x) : Calls Tryz.prog 83 #[x] w fun e w' => e = .returned (.bool (rightV v)) ∧ Below w.heap.size w w' := by
  have hS := fun w x hi => spare_any v 0 100 (by omega) (by omega) (by omega) (by omega) w x hi
  have hbd := sp_bd v 0 100 (by omega)
  have hrs := sp_right v
  have hR := fun hsz => right_any v hsz
  obtain ⟨c, hc⟩ : ∃ c, spV v 0 100 = c := ⟨_, rfl⟩
  obtain ⟨r, hr⟩ : ∃ r, rightV v = r := ⟨_, rfl⟩
  rw [hc] at hS hbd hrs
  rw [hr] at hR hrs ⊢
  obtain ⟨k, m, s, l, rfl⟩ : ∃ k m s l, v = .mk k m s l := by cases v; exact ⟨_, _, _, _, rfl⟩
  have hi2 := Lib.hid hi
  unfold Is at hi
  obtain ⟨_, _, _, a, cap, rfl, _, _, _⟩ := hi
  have hB0 := (Below.refl _ w).alloc (Nat.le_refl _) (vobj k m s a l.length cap)
  clear hc hr
  rcases Int.lt_or_le c 0 with hcn | hcn
  · have hd : decide (0 ≤ c) = false := by simp; omega
    obtain rfl : r = false := by
      cases r with
      | false => rfl
      | true => have := hrs rfl; omega
    clear hrs hR
    go_enter Tryz.func83, Tryz.ntmps83
    go_wp2_with (first
      | (go_at_call 111; (with_reducible refine (hS _ _ (is_below hB0 _ _ hi2.out)).mono ?_); rintro e w1 ⟨rfl, hb1⟩))
    all_goals go_ret
    all_goals exact ⟨rfl, hB0.trans (hb1.mono hB0.size)⟩
  · have hd : decide (0 ≤ c) = true := by simpa using hcn
    have hR' := hR (by have := hbd.2.2 hcn; omega)
    clear hR hrs
    go_enter Tryz.func83, Tryz.ntmps83
    go_wp2_with (first
      | (go_at_call 111; (with_reducible refine (hS _ _ (is_below hB0 _ _ hi2.out)).mono ?_); rintro e w1 ⟨rfl, hb1⟩; have hB1 := hB0.trans (hb1.mono hB0.size); obtain ⟨e0, e1, e2, e3⟩ := box_cells hb1)
      | (go_at_call 112; (with_reducible refine (hR' _ _ (is_below hB1 _ _ hi2.out)).mono ?_); rintro e w2 ⟨rfl, hb2⟩))
    all_goals go_ret
    all_goals exact ⟨ret_bool (by simp), hB1.trans (hb2.mono hB1.size)⟩
end Go.Proofs.YtdogdbibhmhooaaGreat

/- Package bin: put, Value. -/
namespace Go.Proofs.YtdogdbibhmhooaaGreat
open Go.RowKit Go.Shelf
attribute [local go_sem] Oper.semAt_some
/-- a slice value that leads to these bytes -/
def IsSl (W : World) (v : Value) (l : List Int) : Prop := ∃ a n cap, v = .slice a n cap ∧ Row W .u8 a n cap l
theorem isSl_own {W : World} {base : Nat} {v : Value} {l : List Int} (h : W.ownsRow base 5 1 v l.length (u8s l)) : IsSl W v l := by
  obtain ⟨a, cap, e, hr⟩ := row_of_owns (k := .u8) h
  exact ⟨a, _, cap, e, hr⟩
theorem isSl_below {W W' : World} {v : Value} {l : List Int} (h : IsSl W v l) (hb : Below W.heap.size W W') : IsSl W' v l := by
  obtain ⟨a, n, cap, e, hr⟩ := h
  exact ⟨a, n, cap, e, row_below hr hb rfl⟩
theorem rows_of {W : World} : ∀ ps : List (Value × List Int), (∀ p ∈ ps, IsSl W p.1 p.2) → ∃ rows : List R4, rows.length = ps.length ∧ cat rows = ps.flatMap (·.2) ∧ ∀ (i : Nat) (x : R4), rows[i]? = some x → ∃ p : Value × List Int, ps[i]? = some p ∧ p.1 = .slice x.1 x.2.1 x.2.2.1 ∧ Row W .u8 x.1 x.2.1 x.2.2.1 x.2.2.2 := by
  intro ps
  induction ps with
  | nil => intro _; exact ⟨[], rfl, rfl, by simp⟩
  | cons p ps ih =>
    intro h
    obtain ⟨rows, h1, h2, h3⟩ := ih fun q hq => h q (by simp [hq])
    obtain ⟨a, n, cap, e, hr⟩ := h p (by simp)
    refine ⟨(a, n, cap, p.2) :: rows, by simp [h1], by simp only [cat, List.flatMap_cons] at h2 ⊢; rw [h2], fun i x hx => ?_⟩
    cases i with
    | zero => simp at hx; subst hx; exact ⟨p, rfl, e, hr⟩
    | succ i => simpa using h3 i x (by simpa using hx)
theorem all_at (W : World) (g n cap : Nat) (ps : List (Value × List Int)) (hc : ∀ (i : Nat) (p : Value × List Int), ps[i]? = some p → W.cell? ⟨g, i, none⟩ = some p.1) (h : ∀ p ∈ ps, IsSl W p.1 p.2) (hn : ps.length = n) (hcap : n ≤ cap) (hm : cap ≤ maxLen) (hl : (ps.flatMap (·.2)).length ≤ 1000000000) :
    Calls Tryz.prog 61 #[.slice (some ⟨g, 0, none⟩) n cap] W (Got W (ps.flatMap (·.2))) := by
  obtain ⟨rows, h1, h2, h3⟩ := rows_of ps h
  rw [← h2] at hl ⊢
  refine all_any rows g n cap W (fun i x hx => ?_) (by omega) hcap hm hl
  obtain ⟨p, q1, q2, q3⟩ := h3 i x hx
  exact ⟨by rw [hc i p q1, q2], q3⟩
theorem all_many (W : World) (n : Nat) (ps : List (Value × List Int)) (h : ∀ p ∈ ps, IsSl W p.1 p.2) (hn : ps.length = n) (hm : n ≤ 1000) (hl : (ps.flatMap (·.2)).length ≤ 1000000000) (cs : Array Value) (hcs : cs = (ps.map (·.1)).toArray) :
    Calls Tryz.prog 61 #[.slice (some ⟨W.heap.size, 0, none⟩) n n] (W.alloc (.cells cs 26)) (Got W (ps.flatMap (·.2))) := by
  subst hcs
  have hA := (Below.refl W.heap.size W).alloc (Nat.le_refl _) (.cells (ps.map (·.1)).toArray 26)
  refine (all_at _ W.heap.size n n ps (fun i p hp => ?_) (fun p hp => isSl_below (h p hp) hA) hn (Nat.le_refl _) (by unfold maxLen; omega) hl).mono ?_
  · have := cells_new W (ps.map (·.1)) 26 i p.1 (by simp [hp])
    simpa [Addr.add_lit] using this
  · rintro e w' ⟨v, rfl, ho, hb⟩
    exact ⟨v, rfl, ownsRow_mono ho hA.size, hA.trans (hb.mono hA.size)⟩
theorem all_two (W : World) (v1 v2 : Value) (l1 l2 : List Int) (h1 : IsSl W v1 l1) (h2 : IsSl W v2 l2) (hl : l1.length + l2.length ≤ 1000000000) :
    Calls Tryz.prog 61 #[.slice (some ⟨W.heap.size, 0, none⟩) 2 2] (W.alloc (.cells #[v1, v2] 26)) (Got W (l1 ++ l2)) := by
  have := all_many W 2 [(v1, l1), (v2, l2)] (by intro p hp; simp at hp; rcases hp with rfl | rfl <;> assumption) rfl (by omega) (by simp; omega) #[v1, v2] rfl
  simpa using this
/-- a row of another type is left alone by what grows a row -/
theorem owns_other {W W' : World} {v : Value} {base size n : Nat} {e : TypeId} {xs : List Value} (hg : W.grownBy W' v.ownBlock) (hv : W.ownsRow base e size v n xs) {u : Value} {base' size' m : Nat} {e' : TypeId} {ys : List Value} (hu : W.ownsRow base' e' size' u m ys) (hne : e' ≠ e) : W'.ownsRow base' e' size' u m ys := by
  refine ⟨hu.1, ?_⟩
  rcases hu.2 with h' | ⟨g, cap, cur, rfl, hb, hgb, r'⟩
  · exact .inl h'
  · refine .inr ⟨g, cap, cur, rfl, hb, ?_, r'⟩
    rw [hg.block g (Array.getElem?_eq_some_iff.1 hgb).1 (fun e1 => ?_)]
    · exact hgb
    · rcases hv.2 with ⟨rfl, _⟩ | ⟨g2, _, _, rfl, _, hg2, _⟩
      · cases e1
      · have : g = g2 := by simpa [Value.ownBlock] using e1
        subst this
        rw [hgb] at hg2; cases hg2; exact hne rfl
theorem info_sl : (Tryz.prog.info? 26).map (fun i => (i.zero, i.size, i.bytes)) = some (some (.slice none 0 0), 1, 24) := by kernel_rfl
mutual
/-- a value's bytes -/
def putV : PV → List Int
  | .mk k n s l => k :: (if k = 1 then [n] else if k = 2 then spl64 n else if k = 3 ∨ k = 4 then Bn.spl s.size 4 ++ strB s else if k = 5 then Bn.spl l.length 4 ++ putL l else [])
def putL : List PV → List Int
  | [] => []
  | x :: r => putV x ++ putL r
end
theorem putL_append (l r : List PV) : putL (l ++ r) = putL l ++ putL r := by
  induction l with
  | nil => rfl
  | cons x l ih => simp only [List.cons_append, putL, ih, List.append_assoc]
theorem putL_take (l : List PV) (i : Nat) (y : PV) (h : l[i]? = some y) : putL (l.take (i + 1)) = putL (l.take i) ++ putV y := by
  rw [List.take_add_one, h, putL_append]; simp [putL]
theorem putL_take_len (l : List PV) (i : Nat) : (putL (l.take i)).length ≤ (putL l).length := by
  have e : putL l = putL (l.take i) ++ putL (l.drop i) := by rw [← putL_append, List.take_append_drop]
  rw [e, List.length_append]; omega
/-- what a value that is formed has in it -/
theorem ok_parts {k n : Int} {s : ByteArray} {l : List PV} (h : okV (.mk k n s l) = true) : (0 ≤ k ∧ k ≤ 5) ∧ (k = 1 → n = 0 ∨ n = 1) ∧ s.size ≤ 200 ∧ (k ≠ 5 → l = []) ∧ l.length ≤ 20 ∧ okL l = true ∧ (k ≠ 3 → k ≠ 4 → s.toList.isEmpty = true) ∧ (k ≠ 1 → k ≠ 2 → n = 0) := by
  have hemp : ∀ s : ByteArray, s.toList.isEmpty = true → s.size ≤ 200 := fun s hs => by
    rw [toList_data] at hs; simp at hs; simp [ByteArray.size, hs]
  by_cases k0 : k = 0
  · subst k0; rw [okV0] at h; simp only [Bool.and_eq_true, beq_iff_eq, List.isEmpty_iff] at h; obtain ⟨⟨rfl, h2⟩, rfl⟩ := h
    exact ⟨by omega, by omega, hemp s (by simp [h2]), fun _ => rfl, by simp, rfl, fun _ _ => by simp [h2], fun _ _ => rfl⟩
  by_cases k1 : k = 1
  · subst k1; rw [okV1] at h; simp only [Bool.and_eq_true, Bool.or_eq_true, beq_iff_eq, List.isEmpty_iff] at h; obtain ⟨⟨h1, h2⟩, rfl⟩ := h
    exact ⟨by omega, fun _ => h1, hemp s (by simp [h2]), fun _ => rfl, by simp, rfl, fun _ _ => by simp [h2], fun h => absurd rfl h⟩
  by_cases k2 : k = 2
  · subst k2; rw [okV2] at h; simp only [Bool.and_eq_true, List.isEmpty_iff] at h; obtain ⟨h2, rfl⟩ := h
    exact ⟨by omega, by omega, hemp s (by simp [h2]), fun _ => rfl, by simp, rfl, fun _ _ => by simp [h2], fun _ h => absurd rfl h⟩
  by_cases k3 : k = 3
  · subst k3; rw [okV3] at h; simp only [Bool.and_eq_true, beq_iff_eq, List.isEmpty_iff] at h; obtain ⟨⟨rfl, h2⟩, rfl⟩ := h
    refine ⟨by omega, by omega, ?_, fun _ => rfl, by simp, rfl, fun h => absurd rfl h, fun _ _ => rfl⟩
    have := strB_len s
    simp only [nameB, Bool.and_eq_true, decide_eq_true_eq] at h2
    omega
  by_cases k4 : k = 4
  · subst k4; rw [okV4] at h; simp only [Bool.and_eq_true, beq_iff_eq, List.isEmpty_iff, decide_eq_true_eq] at h; obtain ⟨⟨⟨rfl, h2⟩, h3⟩, rfl⟩ := h
    exact ⟨by omega, by omega, h2, fun _ => rfl, by simp, rfl, fun _ h => absurd rfl h, fun _ _ => rfl⟩
  by_cases k5 : k = 5
  · subst k5; rw [okV5] at h; simp only [Bool.and_eq_true, beq_iff_eq, decide_eq_true_eq] at h; obtain ⟨⟨⟨rfl, h2⟩, h3⟩, h4⟩ := h
    exact ⟨by omega, by omega, hemp s h2, fun h => absurd rfl h, h3, h4, fun _ _ => h2, fun _ _ => rfl⟩
  · rw [okV6 _ _ _ _ k0 k1 k2 k3 k4 k5] at h; cases h
theorem okL_mem {l : List PV} (h : okL l = true) : ∀ x ∈ l, okV x = true := by
  induction l with
  | nil => simp
  | cons y r ih =>
    intro x hx
    simp only [okL, Bool.and_eq_true] at h
    rcases List.mem_cons.1 hx with rfl | hx
    · exact h.1
    · exact ih h.2 x hx
theorem bput_len : ∀ v : PV, okV v = true → (putV v).length ≤ 210 * szV v := by
  intro v
  induction v using pv_ind with
  | h k n s l ih =>
    intro h
    have hp := ok_parts h
    have h3 := hp.2.2.1
    have h6 := hp.2.2.2.2.2.1
    clear hp
    have hl : (putL l).length ≤ 210 * szL l := by
      clear h
      induction l with
      | nil => simp [putL]
      | cons x r ih2 =>
        simp only [okL, Bool.and_eq_true] at h6
        have h1 := ih x (by simp) h6.1
        have h2 := ih2 (fun y hy => ih y (by simp [hy])) h6.2
        simp only [putL, szL, List.length_append]
        omega
    simp only [putV, szV, List.length_cons]
    split
    · simp; omega
    · split
      · simp [spl64, Bn.spl_len]; omega
      · split
        · simp [Bn.spl_len, strB_len]; omega
        · split
          · simp [Bn.spl_len]; omega
          · simp; omega
theorem spn_in (n most : Int) (size : Nat) (h0 : 0 ≤ n) (h1 : n ≤ most) : spn n most size = Bn.spl n.toNat size := by unfold spn; rw [if_neg (by omega)]
theorem spn_byte (n : Int) (h0 : 0 ≤ n) (h1 : n ≤ 255) : spn n 255 1 = [n] := by
  rw [spn_in n 255 1 h0 h1]
  simp [Bn.spl]
  omega
end Go.Proofs.YtdogdbibhmhooaaGreat
