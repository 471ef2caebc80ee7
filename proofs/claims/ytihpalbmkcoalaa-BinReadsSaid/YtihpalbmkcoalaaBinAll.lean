/- Package bin: All, Text (slices.Concat, slices.Grow). -/
import Derived.Test.YtihpalbmkcoalaaBin
import Derived.Lib.AppendZeros
import Derived.RegionTactic
import Derived.Lib.SliceRun
namespace Go.Proofs.Ytihpalbmkcoalaa
open Go.RowKit Go.Shelf
attribute [local go_sem] Oper.semAt_some
set_option maxRecDepth 100000 in
set_option maxHeartbeats 1000000 in
theorem grow_any (n : Nat) (w : World) (hn : n ≤ 1000000000) : Calls Try.prog 68 #[.slice none 0 0, .int .i64 (n : Int)] w (Got w []) := by
  obtain ⟨i0, hi, hz0, hz1, hz2⟩ := info_parts info_u8
  rcases Nat.eq_zero_or_pos n with rfl | h0
  · go_enter Try.func68, Try.ntmps68
    go_wp2
    go_ret
    exact ⟨_, rfl, World.ownsRow_nil _ _ _ _, Below.refl _ _⟩
  · have hrun := Lib.run_append_nil_zeros (P := Try.prog) w 27 3 27 5 i0 (.int .u8 0) .i64 .i64 Try.underlying27 Try.underlying3 hi hz0 n h0 (by omega) (by omega) (by rw [hz2]; omega)
    have hge := grownCap_ge w n 0 5
    have hle := grownCap_le_maxLen w n 0 5 (by unfold maxLen; omega)
    have hcs : (Builtin.zeroCells (Value.int .u8 0).cells n ++ Builtin.zeroCells (Value.int .u8 0).cells (grownCap w n 0 5 - n)).size = grownCap w n 0 5 := by
      rw [Array.size_append, size_zeroCells, size_zeroCells]; simp [Value.cells]; omega
    generalize (Builtin.zeroCells (Value.int .u8 0).cells n ++ Builtin.zeroCells (Value.int .u8 0).cells (grownCap w n 0 5 - n)) = M at hrun hcs
    generalize grownCap w n 0 5 = g at hrun hge hle hcs
    unfold maxLen at hle
    have hB : Below w.heap.size w (w.drew.alloc (.cells M 5)) := ((Below.refl w.heap.size w).drew).alloc (Nat.le_refl _) _
    have hA : BAt (w.drew.alloc (.cells M 5)) w.heap.size M := World.alloc_heap_new w.drew _
    clear hi hz0 hz1 hz2
    go_enter Try.func68, Try.ntmps68
    go_wp2_with (first | (at_builtin; refine Lib.wpList_append_run _ rfl _ _ _ _ rfl _ _ rfl rfl _ _ hrun ?_))
    go_ret
    exact ⟨_, rfl, ⟨rfl, .inr ⟨w.heap.size, g, M, rfl, Nat.le_refl _, hA, Nat.zero_le _, by unfold maxLen; omega, by omega, rfl⟩⟩, hB⟩
abbrev R4 := Option Addr × Nat × Nat × List Int
/-- slices of bytes one behind the other, and what they hold -/
def RowsAt (W : World) (b : Nat) (rows : List R4) : Prop := ∀ i x, rows[i]? = some x → W.cell? ⟨b, i, none⟩ = some (.slice x.1 x.2.1 x.2.2.1) ∧ Row W .u8 x.1 x.2.1 x.2.2.1 x.2.2.2
def cat (rows : List R4) : List Int := rows.flatMap (·.2.2.2)
theorem cat_take (rows : List R4) (k : Nat) (x : R4) (h : rows[k]? = some x) : cat (rows.take (k + 1)) = cat (rows.take k) ++ x.2.2.2 := by
  rw [List.take_add_one, h]; simp [cat]
theorem cat_len_take (rows : List R4) (k : Nat) : (cat (rows.take k)).length ≤ (cat rows).length := by
  have e : cat rows = cat (rows.take k) ++ cat (rows.drop k) := by
    conv => lhs; rw [← List.take_append_drop k rows]
    simp only [cat, List.flatMap_append]
  rw [e, List.length_append]; omega
theorem rowsAt_below {W W' : World} {b : Nat} {rows : List R4} (h : RowsAt W b rows) (hb : Below W.heap.size W W') : RowsAt W' b rows := by
  intro i x hx
  obtain ⟨h1, h2⟩ := h i x hx
  refine ⟨?_, row_below h2 hb rfl⟩
  have hbk : b < W.heap.size := by
    simp only [World.cell?] at h1
    rcases Nat.lt_or_ge b W.heap.size with h | h
    · exact h
    · rw [Array.getElem?_eq_none h] at h1; cases h1
  exact (hb.cell (p := ⟨b, i, none⟩) hbk).trans h1
set_option maxRecDepth 100000 in
set_option maxHeartbeats 2000000 in
theorem concat_any (rows : List R4) (b n cap : Nat) (w : World) (h : RowsAt w b rows) (hn : rows.length = n) (hc : n ≤ cap) (hcap : cap ≤ maxLen) (hl : (cat rows).length ≤ 1000000000) :
    Calls Try.prog 61 #[.slice (some ⟨b, 0, none⟩) n cap] w (Got w (cat rows)) := by
  obtain ⟨i0, hi, hz0, hz1, hz2⟩ := info_parts info_u8
  unfold maxLen at hcap
  have H := Lib.hid h; clear h
  have HN := Lib.hid hn; clear hn
  have HL : ∀ k, (cat (rows.take k)).length ≤ 1000000000 := fun k => Nat.le_trans (cat_len_take rows k) hl
  have HL := Lib.hid HL
  have hgr := fun w => grow_any (cat rows).length w hl
  go_enter Try.func61, Try.ntmps61
  go_wp2
  go_loop [3, 11] (fun c i => ∃ k : Nat, k ≤ n ∧ i = .int .i64 k ∧ c = .int .i64 ((cat (rows.take k)).length : Int)) (fun _ i => n - (intOf i).toNat)
  case atStart => exact ⟨0, by omega, rfl, rfl⟩
  case round =>
    obtain ⟨k, hk, rfl, rfl⟩ := hrel
    by_cases hlt : k < n
    · obtain ⟨⟨xa, xl, xc, xt⟩, hx⟩ : ∃ x, rows[k]? = some x := ⟨rows[k]'(by rw [HN.out]; exact hlt), List.getElem?_eq_getElem _⟩
      obtain ⟨c1, hr⟩ := H.out k _ hx
      dsimp only at c1 hr
      have hst := cat_take rows k _ hx
      dsimp only at hst
      have hl1 := HL.out (k + 1)
      have hxl := hr.1
      have hsum : (cat (rows.take (k + 1))).length = (cat (rows.take k)).length + xl := by rw [hst, List.length_append, hxl]
      generalize hm' : (cat (rows.take (k + 1))).length = m' at hl1 hsum
      generalize (cat (rows.take k)).length = m at hsum
      have HM' := Lib.hid hm'; clear hm'
      have HST := Lib.hid hst; have HR := Lib.hid hr; have HX := Lib.hid hx; have HXL := Lib.hid hxl
      clear hst hr hx hxl hgr
      have HS := Lib.hid hsum
      have hm : m + xl ≤ 1000000000 := by omega
      clear hsum
      have d0 : decide ((m : Int) + (xl : Int) < 0) = false := by simp; omega
      go_wp2
      go_round
      case rel => exact ⟨k + 1, by omega, by go_num, by rw [HM'.out, HS.out]; simp⟩
      case measure => simp [intOf]; omega
    · obtain rfl : k = n := by omega
      have he : rows.take k = rows := List.take_of_length_le (by rw [HN.out]; omega)
      rw [he]
      have hln := hl
      have HLL := Lib.hid hl
      clear hl he
      obtain ⟨m, hm⟩ : ∃ m, (cat rows).length = m := ⟨_, rfl⟩
      rw [hm] at hgr hln ⊢
      have HM := Lib.hid hm; clear hm
      go_wp2_with (first | (go_at_call 68; (with_reducible refine (hgr _).mono ?_); rintro e w1 ⟨v1, rfl, hown1, hb1⟩))
      go_loopw [6, 27] (fun c i wr => ∃ j : Nat, j ≤ k ∧ i = .int .i64 j ∧ wr.ownsRow w.heap.size 5 1 c (cat (rows.take j)).length (u8s (cat (rows.take j))) ∧ Below w.heap.size w wr) (fun _ i _ => k - (intOf i).toNat)
      case atStart => exact ⟨0, by omega, rfl, hown1, hb1⟩
      case round =>
        obtain ⟨j, hj, rfl, hown, hB⟩ := hrel
        by_cases hlt : j < k
        · obtain ⟨⟨xa, xl, xc, xt⟩, hx⟩ : ∃ x, rows[j]? = some x := ⟨rows[j]'(by rw [HN.out]; exact hlt), List.getElem?_eq_getElem _⟩
          obtain ⟨c1, hr⟩ := rowsAt_below H.out hB j _ hx
          dsimp only at c1 hr
          have hst := cat_take rows j _ hx
          dsimp only at hst
          have hl1 := HL.out (j + 1)
          have hxl := hr.1
          rw [hst, List.length_append, hxl] at hl1
          have HST := Lib.hid hst; have HR := Lib.hid hr; have HX := Lib.hid hx; have HXL := Lib.hid hxl
          clear hst hr hx hxl
          generalize hX : cat (rows.take j) = X at *
          have HB := Lib.hid hB
          go_wp2_with (first
            | (at_builtin; refine wpList_append_cells _ rfl _ _ 27 rfl w.heap.size 5 i0 (.int .u8 0) 1 1 Try.underlying27 hi hz0 hz1 hz2 rfl (by decide) _ X.length (u8s X) rfl hown xa xl xc (u8s xt) rfl (cells_of_row HR.out) (by simp [u8s, Value.oneCell']) (by unfold maxLen; omega) (by omega) HB.out.size ?_; intro v2 w2 hown2 hg2))
          go_roundw
          all_goals (first
            | (case' rel => exact ⟨j + 1, by omega, by go_num, ownsRow_nth hown2 (by rw [HST.out, List.length_append, HXL.out]) (by rw [HST.out, u8s_append]), HB.out.trans ((below_grown hg2 hown HB.out.size))⟩)
            | (case' measure => simp [intOf]; omega))
        · obtain rfl : j = k := by omega
          have he : rows.take j = rows := List.take_of_length_le (by rw [HN.out]; omega)
          rw [he] at hown
          go_wp2
          go_ret
          exact ⟨_, rfl, hown, hB⟩
theorem all_any (rows : List R4) (b n cap : Nat) (w : World) (h : RowsAt w b rows) (hn : rows.length = n) (hc : n ≤ cap) (hcap : cap ≤ maxLen) (hl : (cat rows).length ≤ 1000000000) :
    Calls Try.prog 37 #[.slice (some ⟨b, 0, none⟩) n cap] w (Got w (cat rows)) := by
  have hC := concat_any rows b n cap w h hn hc hcap hl
  generalize cat rows = l at *
  clear h hn
  go_enter Try.func37, Try.ntmps37
  go_wp2_with (first | (go_at_call 61; (with_reducible refine hC.mono ?_); rintro e w' ⟨v, rfl, ho, hb⟩))
  go_ret
  exact ⟨_, rfl, ho, hb⟩
theorem rowsAt_two {W : World} {b : Nat} {x y : R4} (hx : W.cell? ⟨b, 0, none⟩ = some (.slice x.1 x.2.1 x.2.2.1)) (hy : W.cell? ⟨b, 1, none⟩ = some (.slice y.1 y.2.1 y.2.2.1)) (rx : Row W .u8 x.1 x.2.1 x.2.2.1 x.2.2.2) (ry : Row W .u8 y.1 y.2.1 y.2.2.1 y.2.2.2) : RowsAt W b [x, y] := by
  intro i z hz
  match i with
  | 0 => simp at hz; subst hz; exact ⟨hx, rx⟩
  | 1 => simp at hz; subst hz; exact ⟨hy, ry⟩
  | i + 2 => simp at hz
theorem got_addr {w' : World} {base : Nat} {v : Value} {l : List Int} {n : Nat} (h : w'.ownsRow base 5 1 v l.length (u8s l)) (hn : l.length = n) (h0 : 0 < n) : ∃ g cap, v = .slice (some ⟨g, 0, none⟩) n cap ∧ Row w' .u8 (some ⟨g, 0, none⟩) n cap l ∧ base ≤ g := by
  subst hn
  obtain ⟨a, cap, e, hr⟩ := row_of_owns (k := .u8) h
  rcases h.2 with ⟨_, h1⟩ | ⟨g, _, _, e2, hb, _⟩
  · omega
  · rw [e] at e2; cases e2
    exact ⟨g, cap, e, hr, hb⟩
theorem got_row {w' : World} {base : Nat} {v : Value} {l : List Int} {n : Nat} (h : w'.ownsRow base 5 1 v l.length (u8s l)) (hn : l.length = n) : ∃ a cap, v = .slice a n cap ∧ Row w' .u8 a n cap l := by
  subst hn
  exact row_of_owns (k := .u8) h
set_option maxRecDepth 100000 in
set_option maxHeartbeats 1000000 in
theorem btext_any (s : ByteArray) (w : World) (hs : s.size ≤ 900000000) : Calls Try.prog 15 #[.string s] w (Got w (Bn.spl s.size 4 ++ strB s)) := by
  have hN := fun w => num_any (s.size : Int) w
  have hsp : spn (s.size : Int) 2147483647 4 = Bn.spl s.size 4 := by unfold spn; rw [if_neg (by omega), Int.toNat_natCast]
  rw [hsp] at hN
  have hl4 := Bn.spl_len s.size 4
  generalize Bn.spl s.size 4 = l at *
  clear hsp
  have hsm : s.size ≤ maxLen := by unfold maxLen; omega
  have HL := Lib.hid hl4; clear hl4
  have hnil := fun w a n c => Lib.run_eql_slice_nil (P := Try.prog) w 27 5 a n c 0 0 Try.underlying27
  go_enter Try.func15, Try.ntmps15
  go_wp2_with (first
    | (go_at_call 11; (with_reducible refine (hN _).mono ?_); rintro e w1 ⟨v1, rfl, ho1, hb1⟩; obtain ⟨g1, cap1, rfl, hr1, _⟩ := got_addr ho1 HL.out (by omega); have HR1 := Lib.hid hr1; clear hr1; have HO1 := Lib.hid ho1; clear ho1; obtain ⟨cap2, w2, run2, row2, hb2⟩ := conv_bytes w1 s hsm; have HR2 := Lib.hid row2; clear row2)
    | (go_at_call 37
       have hA := (Below.refl _ w2).alloc (Nat.le_refl _) (.cells #[.slice (some ⟨g1, 0, none⟩) 4 cap1, .slice (some ⟨w1.heap.size, 0, none⟩) s.size cap2] 27)
       have hRows : RowsAt (w2.alloc (.cells #[.slice (some ⟨g1, 0, none⟩) 4 cap1, .slice (some ⟨w1.heap.size, 0, none⟩) s.size cap2] 27)) w2.heap.size [(some ⟨g1, 0, none⟩, 4, cap1, l), (some ⟨w1.heap.size, 0, none⟩, s.size, cap2, strB s)] :=
         rowsAt_two (by simp) (by simp) (row_below (row_below HR1.out hb2 rfl) hA rfl) (row_below HR2.out hA rfl)
       have hAll := all_any _ w2.heap.size 2 2 _ hRows rfl (Nat.le_refl _) (by unfold maxLen; omega) (by simp [cat, HL.out, strB_len]; omega)
       rw [show cat [(some ⟨g1, 0, none⟩, 4, cap1, l), (some ⟨w1.heap.size, 0, none⟩, s.size, cap2, strB s)] = l ++ strB s by simp [cat]] at hAll
       with_reducible refine hAll.mono ?_
       rintro e w4 ⟨v4, rfl, ho4, hb4⟩))
  go_ret
  have hB2 := hb1.trans (hb2.mono hb1.size)
  have hB3 := hB2.trans (hA.mono hB2.size)
  exact ⟨_, rfl, ownsRow_mono ho4 hB3.size, hB3.trans (hb4.mono hB3.size)⟩
end Go.Proofs.Ytihpalbmkcoalaa
