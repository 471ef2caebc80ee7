/- slices.Clone, Grow, Concat of slots and of numbers. (Made by gen_spc.py.) -/
import Derived.Test.YtdogdbibhmhooaaGreatMh22Regi
import Derived.Lib.AppendZeros
import Derived.Lib.SliceRun
import Derived.Test.YtdogdbibhmhooaaGreatMh6Regi
set_option linter.unusedVariables false
set_option linter.unusedSimpArgs false
set_option maxRecDepth 100000
namespace Go.Proofs.YtdogdbibhmhooaaGreat
open Go.RowKit Go.Shelf
/-- a row of one's own is what is handed back -/
def GotC (T : TypeId) (size : Nat) (w : World) (n : Nat) (cs : List Value) (e : Ending) (w' : World) : Prop := ∃ v, e = .returned v ∧ w'.ownsRow w.heap.size T size v n cs ∧ Below w.heap.size w w'
abbrev RC := Option Addr × Nat × Nat × List Value
/-- slices one behind the other, and what they hold -/
def RowsC (size : Nat) (W : World) (b : Nat) (rows : List RC) : Prop := ∀ i x, rows[i]? = some x → W.cell? ⟨b, i, none⟩ = some (.slice x.1 x.2.1 x.2.2.1) ∧ Cells W size x.1 x.2.1 x.2.2.2 ∧ (∀ u ∈ x.2.2.2, u.oneCell' = true)
def catC (rows : List RC) : List Value := rows.flatMap (·.2.2.2)
def numC : List RC → Nat
  | [] => 0
  | x :: r => x.2.1 + numC r
theorem catC_take (rows : List RC) (k : Nat) (x : RC) (h : rows[k]? = some x) : catC (rows.take (k + 1)) = catC (rows.take k) ++ x.2.2.2 := by
  rw [List.take_add_one, h]; simp [catC]
theorem numC_append (a b : List RC) : numC (a ++ b) = numC a + numC b := by
  induction a with
  | nil => simp [numC]
  | cons x r ih => simp only [List.cons_append, numC, ih]; omega
theorem numC_take (rows : List RC) (k : Nat) (x : RC) (h : rows[k]? = some x) : numC (rows.take (k + 1)) = numC (rows.take k) + x.2.1 := by
  rw [List.take_add_one, h, numC_append]; simp [numC]
theorem numC_le (rows : List RC) (k : Nat) : numC (rows.take k) ≤ numC rows := by
  have e : numC rows = numC (rows.take k) + numC (rows.drop k) := by rw [← numC_append, List.take_append_drop]
  omega
theorem rowsC_below {size : Nat} {W W' : World} {b : Nat} {rows : List RC} (h : RowsC size W b rows) (hb : Below W.heap.size W W') : RowsC size W' b rows := fun i x hx => by
  obtain ⟨h1, h2, h3⟩ := h i x hx
  exact ⟨cell_below hb h1, cells_below9 h2 hb, h3⟩

set_option maxHeartbeats 2000000 in
theorem cloneS_any (a : Option Addr) (n c : Nat) (cs : List Value) (w : World) (h : Cells w 7 a n cs) (h1 : ∀ u ∈ cs, u.oneCell' = true) (hn : n ≤ 1000000) : Calls Tryz.prog 181 #[.slice a n c] w (GotC 58 7 w n cs) := by
  obtain ⟨i0, hi, hz0, hz1, hz2⟩ := info_parts info_slot
  have hnil := fun w a n c => Lib.run_eql_slice_nil (P := Tryz.prog) w 42 58 a n c 0 0 Tryz.underlying42
  have hlen := h.1
  cases a with
  | none =>
    obtain rfl : n = 0 := by rcases h.2 with h | ⟨_, h, _⟩ <;> first | exact h | cases h
    obtain rfl : cs = [] := List.length_eq_zero_iff.1 (by simpa using hlen)
    clear hi
    go_enter Tryz.func181, Tryz.ntmps181
    go_wp2
    go_ret
    exact ⟨_, rfl, World.ownsRow_nil _ _ _ _, Below.refl _ _⟩
  | some ad =>
    have hA := (Below.refl _ w).alloc (Nat.le_refl _) (.cells #[] 58)
    have hr := cells_below9 h hA
    have ho := own_empty w w.heap.size 58 7 (Nat.le_refl _)
    have HR := Lib.hid hr; have HL := Lib.hid hlen; have H1 := Lib.hid h1
    clear h hr hlen h1
    go_enter Tryz.func181, Tryz.ntmps181
    go_wp2_with (first
      | (at_builtin; refine wpList_append_cells _ rfl _ _ 42 rfl w.heap.size 58 i0 _ 7 88 Tryz.underlying42 hi hz0 hz1 hz2 rfl (by decide) (.slice (some ⟨w.heap.size, 0, none⟩) 0 0) 0 [] rfl ho (some ad) n c cs rfl HR.out H1.out (by unfold maxLen; omega) (by omega) (by simp) ?_; intro v1 w1 hown1 hg1))
    go_ret
    exact ⟨_, rfl, by rw [Nat.zero_add, List.nil_append] at hown1; exact hown1, hA.trans ((below_grown hg1 ho (by simp)))⟩
set_option maxHeartbeats 2000000 in
theorem growS_any (n : Nat) (w : World) (hn : n ≤ 1000000) : Calls Tryz.prog 179 #[.slice none 0 0, .int .i64 (n : Int)] w (GotC 58 7 w 0 []) := by
  obtain ⟨i0, hi, hz0, hz1, hz2⟩ := info_parts info_slot
  rcases Nat.eq_zero_or_pos n with rfl | h0
  · go_enter Tryz.func179, Tryz.ntmps179
    go_wp2
    go_ret
    exact ⟨_, rfl, World.ownsRow_nil _ _ _ _, Below.refl _ _⟩
  · have hrun := Lib.run_append_nil_zeros (P := Tryz.prog) w 42 3 42 58 i0 (.agg #[.string ⟨#[]⟩, .int .i64 0, .bool false, .int .i64 0, .int .i64 0, .string ⟨#[]⟩, .slice none 0 0]) .i64 .i64 Tryz.underlying42 Tryz.underlying3 hi hz0 n h0 (by omega) (by omega) (by rw [hz2]; omega)
    have hge := grownCap_ge w n 0 58
    have hle := grownCap_le_maxLen w n 0 58 (by unfold maxLen; omega)
    have hcs : (Builtin.zeroCells (Value.cells (.agg #[.string ⟨#[]⟩, .int .i64 0, .bool false, .int .i64 0, .int .i64 0, .string ⟨#[]⟩, .slice none 0 0])) n ++ Builtin.zeroCells (Value.cells (.agg #[.string ⟨#[]⟩, .int .i64 0, .bool false, .int .i64 0, .int .i64 0, .string ⟨#[]⟩, .slice none 0 0])) (grownCap w n 0 58 - n)).size = grownCap w n 0 58 * 7 := by
      rw [Array.size_append, size_zeroCells, size_zeroCells]; simp [Value.cells]; omega
    generalize (Builtin.zeroCells (Value.cells (.agg #[.string ⟨#[]⟩, .int .i64 0, .bool false, .int .i64 0, .int .i64 0, .string ⟨#[]⟩, .slice none 0 0])) n ++ Builtin.zeroCells (Value.cells (.agg #[.string ⟨#[]⟩, .int .i64 0, .bool false, .int .i64 0, .int .i64 0, .string ⟨#[]⟩, .slice none 0 0])) (grownCap w n 0 58 - n)) = M at hrun hcs
    generalize grownCap w n 0 58 = g at hrun hge hle hcs
    unfold maxLen at hle
    have hB : Below w.heap.size w (w.drew.alloc (.cells M 58)) := ((Below.refl w.heap.size w).drew).alloc (Nat.le_refl _) _
    have hA : (w.drew.alloc (.cells M 58)).heap[w.heap.size]? = some (.cells M 58 (0, 0)) := World.alloc_heap_new w.drew _
    clear hi hz0 hz1 hz2
    go_enter Tryz.func179, Tryz.ntmps179
    go_wp2_with (first | (at_builtin; refine Lib.wpList_append_run _ rfl _ _ _ _ rfl _ _ rfl rfl _ _ hrun ?_))
    go_ret
    exact ⟨_, rfl, ⟨rfl, .inr ⟨w.heap.size, g, M, rfl, Nat.le_refl _, hA, Nat.zero_le _, by unfold maxLen; omega, by omega, by simp⟩⟩, hB⟩
set_option maxHeartbeats 2000000 in
theorem concatS_any (rows : List RC) (b n cap : Nat) (w : World) (h : RowsC 7 w b rows) (hn : rows.length = n) (hc : n ≤ cap) (hcap : cap ≤ maxLen) (hl : numC rows ≤ 1000000) :
    Calls Tryz.prog 170 #[.slice (some ⟨b, 0, none⟩) n cap] w (GotC 58 7 w (numC rows) (catC rows)) := by
  obtain ⟨i0, hi, hz0, hz1, hz2⟩ := info_parts info_slot
  unfold maxLen at hcap
  have H := Lib.hid h; clear h
  have HN := Lib.hid hn; clear hn
  have HL : ∀ k, numC (rows.take k) ≤ 1000000 := fun k => Nat.le_trans (numC_le rows k) hl
  have HL := Lib.hid HL
  have hgr := fun w => growS_any (numC rows) w hl
  go_enter Tryz.func170, Tryz.ntmps170
  go_wp2
  go_loop [3, 11] (fun c i => ∃ k : Nat, k ≤ n ∧ i = .int .i64 k ∧ c = .int .i64 (numC (rows.take k) : Int)) (fun _ i => n - (intOf i).toNat)
  case atStart => exact ⟨0, by omega, rfl, rfl⟩
  case round =>
    obtain ⟨k, hk, rfl, rfl⟩ := hrel
    by_cases hlt : k < n
    · obtain ⟨⟨xa, xl, xc, xt⟩, hx⟩ : ∃ x, rows[k]? = some x := ⟨rows[k]'(by rw [HN.out]; exact hlt), List.getElem?_eq_getElem _⟩
      obtain ⟨c1, hr, ho1⟩ := H.out k _ hx
      dsimp only at c1 hr ho1
      have hst := numC_take rows k _ hx
      dsimp only at hst
      have hl1 := HL.out (k + 1)
      have hsum : numC (rows.take (k + 1)) = numC (rows.take k) + xl := hst
      generalize hm' : numC (rows.take (k + 1)) = m' at hl1 hsum
      generalize numC (rows.take k) = m at hsum
      have HM' := Lib.hid hm'; clear hm'
      have HR := Lib.hid hr; have HX := Lib.hid hx
      clear hst hr hx hgr ho1
      have HS := Lib.hid hsum
      have hm : m + xl ≤ 1000000 := by omega
      clear hsum
      have d0 : decide ((m : Int) + (xl : Int) < 0) = false := by simp; omega
      go_wp2
      go_round
      case rel => exact ⟨k + 1, by omega, by go_num, by rw [HM'.out, HS.out]; simp⟩
      case measure => simp [intOf]; omega
    · obtain rfl : k = n := by omega
      have he : rows.take k = rows := List.take_of_length_le (by rw [HN.out]; omega)
      rw [he]
      have hln := hl
      have HLL := Lib.hid hl
      clear hl he
      obtain ⟨m, hm⟩ : ∃ m, numC rows = m := ⟨_, rfl⟩
      rw [hm] at hgr hln ⊢
      have HM := Lib.hid hm; clear hm
      go_wp2_with (first | (go_at_call 179; (with_reducible refine (hgr _).mono ?_); rintro e w1 ⟨v1, rfl, hown1, hb1⟩))
      go_loopw [6, 27] (fun c i wr => ∃ j : Nat, j ≤ k ∧ i = .int .i64 j ∧ wr.ownsRow w.heap.size 58 7 c (numC (rows.take j)) (catC (rows.take j)) ∧ Below w.heap.size w wr) (fun _ i _ => k - (intOf i).toNat)
      case atStart => exact ⟨0, by omega, rfl, hown1, hb1⟩
      case round =>
        obtain ⟨j, hj, rfl, hown, hB⟩ := hrel
        by_cases hlt : j < k
        · obtain ⟨⟨xa, xl, xc, xt⟩, hx⟩ : ∃ x, rows[j]? = some x := ⟨rows[j]'(by rw [HN.out]; exact hlt), List.getElem?_eq_getElem _⟩
          obtain ⟨c1, hr, ho1⟩ := rowsC_below H.out hB j _ hx
          dsimp only at c1 hr ho1
          have hst := catC_take rows j _ hx
          dsimp only at hst
          have hsn := numC_take rows j _ hx
          dsimp only at hsn
          have hl1 := HL.out (j + 1)
          rw [hsn] at hl1
          have HST := Lib.hid hst; have HSN := Lib.hid hsn; have HR := Lib.hid hr; have HX := Lib.hid hx; have HO := Lib.hid ho1
          clear hst hr hx hsn ho1
          generalize hX : catC (rows.take j) = X at *
          generalize hY : numC (rows.take j) = Y at *
          have HB := Lib.hid hB
          go_wp2_with (first
            | (at_builtin; refine wpList_append_cells _ rfl _ _ 42 rfl w.heap.size 58 i0 _ 7 88 Tryz.underlying42 hi hz0 hz1 hz2 rfl (by decide) _ Y X rfl hown xa xl xc xt rfl HR.out HO.out (by unfold maxLen; omega) (by omega) HB.out.size ?_; intro v2 w2 hown2 hg2))
          go_roundw
          all_goals (first
            | (case' rel => exact ⟨j + 1, by omega, by go_num, ownsRow_nth hown2 HSN.out.symm HST.out.symm, HB.out.trans ((below_grown hg2 hown HB.out.size))⟩)
            | (case' measure => simp [intOf]; omega))
        · obtain rfl : j = k := by omega
          have he : rows.take j = rows := List.take_of_length_le (by rw [HN.out]; omega)
          rw [he] at hown
          go_wp2
          go_ret
          exact ⟨_, rfl, hown, hB⟩

set_option maxHeartbeats 2000000 in
theorem growI_any (n : Nat) (w : World) (hn : n ≤ 1000000) : Calls Tryz.prog 180 #[.slice none 0 0, .int .i64 (n : Int)] w (GotC 3 1 w 0 []) := by
  obtain ⟨i0, hi, hz0, hz1, hz2⟩ := info_parts info_int
  rcases Nat.eq_zero_or_pos n with rfl | h0
  · go_enter Tryz.func180, Tryz.ntmps180
    go_wp2
    go_ret
    exact ⟨_, rfl, World.ownsRow_nil _ _ _ _, Below.refl _ _⟩
  · have hrun := Lib.run_append_nil_zeros (P := Tryz.prog) w 59 3 59 3 i0 (.int .i64 0) .i64 .i64 Tryz.underlying59 Tryz.underlying3 hi hz0 n h0 (by omega) (by omega) (by rw [hz2]; omega)
    have hge := grownCap_ge w n 0 3
    have hle := grownCap_le_maxLen w n 0 3 (by unfold maxLen; omega)
    have hcs : (Builtin.zeroCells (Value.cells (.int .i64 0)) n ++ Builtin.zeroCells (Value.cells (.int .i64 0)) (grownCap w n 0 3 - n)).size = grownCap w n 0 3 * 1 := by
      rw [Array.size_append, size_zeroCells, size_zeroCells]; simp [Value.cells]; omega
    generalize (Builtin.zeroCells (Value.cells (.int .i64 0)) n ++ Builtin.zeroCells (Value.cells (.int .i64 0)) (grownCap w n 0 3 - n)) = M at hrun hcs
    generalize grownCap w n 0 3 = g at hrun hge hle hcs
    unfold maxLen at hle
    have hB : Below w.heap.size w (w.drew.alloc (.cells M 3)) := ((Below.refl w.heap.size w).drew).alloc (Nat.le_refl _) _
    have hA : (w.drew.alloc (.cells M 3)).heap[w.heap.size]? = some (.cells M 3 (0, 0)) := World.alloc_heap_new w.drew _
    clear hi hz0 hz1 hz2
    go_enter Tryz.func180, Tryz.ntmps180
    go_wp2_with (first | (at_builtin; refine Lib.wpList_append_run _ rfl _ _ _ _ rfl _ _ rfl rfl _ _ hrun ?_))
    go_ret
    exact ⟨_, rfl, ⟨rfl, .inr ⟨w.heap.size, g, M, rfl, Nat.le_refl _, hA, Nat.zero_le _, by unfold maxLen; omega, by omega, by simp⟩⟩, hB⟩
set_option maxHeartbeats 2000000 in
theorem concatI_any (rows : List RC) (b n cap : Nat) (w : World) (h : RowsC 1 w b rows) (hn : rows.length = n) (hc : n ≤ cap) (hcap : cap ≤ maxLen) (hl : numC rows ≤ 1000000) :
    Calls Tryz.prog 171 #[.slice (some ⟨b, 0, none⟩) n cap] w (GotC 3 1 w (numC rows) (catC rows)) := by
  obtain ⟨i0, hi, hz0, hz1, hz2⟩ := info_parts info_int
  unfold maxLen at hcap
  have H := Lib.hid h; clear h
  have HN := Lib.hid hn; clear hn
  have HL : ∀ k, numC (rows.take k) ≤ 1000000 := fun k => Nat.le_trans (numC_le rows k) hl
  have HL := Lib.hid HL
  have hgr := fun w => growI_any (numC rows) w hl
  go_enter Tryz.func171, Tryz.ntmps171
  go_wp2
  go_loop [3, 11] (fun c i => ∃ k : Nat, k ≤ n ∧ i = .int .i64 k ∧ c = .int .i64 (numC (rows.take k) : Int)) (fun _ i => n - (intOf i).toNat)
  case atStart => exact ⟨0, by omega, rfl, rfl⟩
  case round =>
    obtain ⟨k, hk, rfl, rfl⟩ := hrel
    by_cases hlt : k < n
    · obtain ⟨⟨xa, xl, xc, xt⟩, hx⟩ : ∃ x, rows[k]? = some x := ⟨rows[k]'(by rw [HN.out]; exact hlt), List.getElem?_eq_getElem _⟩
      obtain ⟨c1, hr, ho1⟩ := H.out k _ hx
      dsimp only at c1 hr ho1
      have hst := numC_take rows k _ hx
      dsimp only at hst
      have hl1 := HL.out (k + 1)
      have hsum : numC (rows.take (k + 1)) = numC (rows.take k) + xl := hst
      generalize hm' : numC (rows.take (k + 1)) = m' at hl1 hsum
      generalize numC (rows.take k) = m at hsum
      have HM' := Lib.hid hm'; clear hm'
      have HR := Lib.hid hr; have HX := Lib.hid hx
      clear hst hr hx hgr ho1
      have HS := Lib.hid hsum
      have hm : m + xl ≤ 1000000 := by omega
      clear hsum
      have d0 : decide ((m : Int) + (xl : Int) < 0) = false := by simp; omega
      go_wp2
      go_round
      case rel => exact ⟨k + 1, by omega, by go_num, by rw [HM'.out, HS.out]; simp⟩
      case measure => simp [intOf]; omega
    · obtain rfl : k = n := by omega
      have he : rows.take k = rows := List.take_of_length_le (by rw [HN.out]; omega)
      rw [he]
      have hln := hl
      have HLL := Lib.hid hl
      clear hl he
      obtain ⟨m, hm⟩ : ∃ m, numC rows = m := ⟨_, rfl⟩
      rw [hm] at hgr hln ⊢
      have HM := Lib.hid hm; clear hm
      go_wp2_with (first | (go_at_call 180; (with_reducible refine (hgr _).mono ?_); rintro e w1 ⟨v1, rfl, hown1, hb1⟩))
      go_loopw [6, 27] (fun c i wr => ∃ j : Nat, j ≤ k ∧ i = .int .i64 j ∧ wr.ownsRow w.heap.size 3 1 c (numC (rows.take j)) (catC (rows.take j)) ∧ Below w.heap.size w wr) (fun _ i _ => k - (intOf i).toNat)
      case atStart => exact ⟨0, by omega, rfl, hown1, hb1⟩
      case round =>
        obtain ⟨j, hj, rfl, hown, hB⟩ := hrel
        by_cases hlt : j < k
        · obtain ⟨⟨xa, xl, xc, xt⟩, hx⟩ : ∃ x, rows[j]? = some x := ⟨rows[j]'(by rw [HN.out]; exact hlt), List.getElem?_eq_getElem _⟩
          obtain ⟨c1, hr, ho1⟩ := rowsC_below H.out hB j _ hx
          dsimp only at c1 hr ho1
          have hst := catC_take rows j _ hx
          dsimp only at hst
          have hsn := numC_take rows j _ hx
          dsimp only at hsn
          have hl1 := HL.out (j + 1)
          rw [hsn] at hl1
          have HST := Lib.hid hst; have HSN := Lib.hid hsn; have HR := Lib.hid hr; have HX := Lib.hid hx; have HO := Lib.hid ho1
          clear hst hr hx hsn ho1
          generalize hX : catC (rows.take j) = X at *
          generalize hY : numC (rows.take j) = Y at *
          have HB := Lib.hid hB
          go_wp2_with (first
            | (at_builtin; refine wpList_append_cells _ rfl _ _ 59 rfl w.heap.size 3 i0 _ 1 8 Tryz.underlying59 hi hz0 hz1 hz2 rfl (by decide) _ Y X rfl hown xa xl xc xt rfl HR.out HO.out (by unfold maxLen; omega) (by omega) HB.out.size ?_; intro v2 w2 hown2 hg2))
          go_roundw
          all_goals (first
            | (case' rel => exact ⟨j + 1, by omega, by go_num, ownsRow_nth hown2 HSN.out.symm HST.out.symm, HB.out.trans ((below_grown hg2 hown HB.out.size))⟩)
            | (case' measure => simp [intOf]; omega))
        · obtain rfl : j = k := by omega
          have he : rows.take j = rows := List.take_of_length_le (by rw [HN.out]; omega)
          rw [he] at hown
          go_wp2
          go_ret
          exact ⟨_, rfl, hown, hB⟩
end Go.Proofs.YtdogdbibhmhooaaGreat

/- The program's schema: a version in memory, whose slots and columns lie as they came or in rows of one's own; what turns beside it. -/
set_option linter.unusedVariables false
set_option linter.unusedSimpArgs false
set_option maxRecDepth 100000
namespace Go.Proofs.YtdogdbibhmhooaaGreat
open Go.RowKit Go.Shelf
def colC (l : List Nat) : List Value := (l.map Int.ofNat).map (Value.int .i64)
theorem colC_one (l : List Nat) : ∀ u ∈ colC l, u.oneCell' = true := by
  intro u hu
  obtain ⟨i, _, rfl⟩ := List.mem_map.1 hu
  rfl
def SlotsIn (w0 W : World) (sv : Value) (l : List SlotM) : Prop := (∃ a c, sv = .slice a l.length c ∧ SlotRow w0 a c l) ∨ ∃ cs, W.ownsRow w0.heap.size 58 7 sv l.length cs ∧ SCells w0 l cs
def ColsIn (w0 W : World) (cv : Value) (l : List Nat) : Prop := (∃ a c, cv = .slice a l.length c ∧ Row w0 .i64 a l.length c (l.map Int.ofNat)) ∨ W.ownsRow w0.heap.size 3 1 cv l.length (colC l)
/-- a version, as its slots' and its columns' slices tell it -/
def VerIn (w0 W : World) (x : Sc.Ver) (sv cv : Value) : Prop := SlotsIn w0 W sv x.slots ∧ ColsIn w0 W cv x.cols
/-- what lies in rows of slots and of numbers from a place on stays as it is -/
def KeptT (w0 W W' : World) : Prop := Below w0.heap.size w0 W' ∧ ∀ b cs t fr, w0.heap.size ≤ b → W.heap[b]? = some (.cells cs t fr) → (t = 58 ∨ t = 3) → W'.heap[b]? = some (.cells cs t fr)
theorem keptT_below {w0 W W' : World} (h0 : Below w0.heap.size w0 W) (h : Below W.heap.size W W') : KeptT w0 W W' :=
  ⟨h0.trans (h.mono h0.size), fun b cs t fr _ hb _ => (h.block b (Array.getElem?_eq_some_iff.1 hb).1).trans hb⟩
theorem keptT_trans {w0 A B C : World} (h : KeptT w0 A B) (k : KeptT w0 B C) : KeptT w0 A C := ⟨k.1, fun b cs t fr hb hc ht => k.2 b cs t fr hb (h.2 b cs t fr hb hc ht) ht⟩
/-- a store into a block of another type -/
theorem keptT_set {w0 W : World} {g i : Nat} {u : Value} {cs : Array Value} {t : TypeId} {fr : Nat × Nat} (h0 : Below w0.heap.size w0 W) (hg : w0.heap.size ≤ g) (hh : W.heap[g]? = some (.cells cs t fr)) (h1 : t ≠ 58) (h2 : t ≠ 3) : KeptT w0 W (W.setCell ⟨g, i, none⟩ u) := by
  have hk := grown_set9 W g i u
  refine ⟨below_grown9 h0 hk (fun b e => by cases e; exact hg) h0.size, fun b cs' t' fr' _ hb ht => (hk.block b (Array.getElem?_eq_some_iff.1 hb).1 (fun e => ?_)).trans hb⟩
  cases e
  rw [hh] at hb
  cases hb
  rcases ht with ht | ht
  · exact h1 ht
  · exact h2 ht
theorem own_keptT {w0 W W' : World} {e : TypeId} {size n : Nat} {v : Value} {xs : List Value} (h : W.ownsRow w0.heap.size e size v n xs) (he : e = 58 ∨ e = 3) (k : KeptT w0 W W') : W'.ownsRow w0.heap.size e size v n xs := by
  refine ⟨h.1, ?_⟩
  rcases h.2 with hn | ⟨g, cap, cur, rfl, hg, hh, r⟩
  · exact .inl hn
  · exact .inr ⟨g, cap, cur, rfl, hg, k.2 g _ _ _ hg hh he, r⟩
theorem verIn_kept {w0 W W' : World} {x : Sc.Ver} {sv cv : Value} (h : VerIn w0 W x sv cv) (k : KeptT w0 W W') : VerIn w0 W' x sv cv := by
  obtain ⟨h1, h2⟩ := h
  refine ⟨?_, ?_⟩
  · rcases h1 with h1 | ⟨cs, h1, h3⟩
    · exact .inl h1
    · exact .inr ⟨cs, own_keptT h1 (.inl rfl) k, h3⟩
  · rcases h2 with h2 | h2
    · exact .inl h2
    · exact .inr (own_keptT h2 (.inr rfl) k)
theorem cells_own {W : World} {B : Nat} {e : TypeId} {size : Nat} {a : Option Addr} {n m c : Nat} {xs : List Value} (h : W.ownsRow B e size (.slice a m c) n xs) : Cells W size a n xs := by
  obtain ⟨h1, h2⟩ := h
  refine ⟨h1, ?_⟩
  rcases h2 with ⟨e1, rfl⟩ | ⟨g, cap, cur, e1, _, hh, hn, hm, hs, ht⟩
  · left; simp at h1; omega
  · cases e1
    refine .inr ⟨_, rfl, fun j u hj => ?_⟩
    rw [Addr.add_lit, Nat.zero_add]
    rw [← ht, List.getElem?_take] at hj
    split at hj
    · rw [Array.getElem?_toList] at hj
      simp [World.cell?, hh, hj]
    · cases hj
/-- the slots' slice, and its cells -/
theorem slotsIn_form {w0 W : World} {sv : Value} {l : List SlotM} (h : SlotsIn w0 W sv l) (h0 : Below w0.heap.size w0 W) : ∃ a c cs, sv = .slice a l.length c ∧ SCells w0 l cs ∧ Cells W 7 a l.length cs ∧ SlotRow W a c l := by
  rcases h with ⟨a, c, rfl, h⟩ | ⟨cs, h1, h2⟩
  · obtain ⟨cs, k1, k2⟩ := sCells_row h
    exact ⟨a, c, cs, rfl, k1, cells_below9 k2 h0, slotRow_below h0 h⟩
  · obtain ⟨a, c, rfl, h3⟩ := slotRow_own h1 h2 h0
    exact ⟨a, c, cs, rfl, h2, cells_own h1, h3⟩
theorem colsIn_form {w0 W : World} {cv : Value} {l : List Nat} (h : ColsIn w0 W cv l) (h0 : Below w0.heap.size w0 W) : ∃ a c, cv = .slice a l.length c ∧ Row W .i64 a l.length c (l.map Int.ofNat) := by
  rcases h with ⟨a, c, rfl, h⟩ | h
  · exact ⟨a, c, rfl, row_below h h0 rfl⟩
  · exact row_of_owns h
theorem verIn_at {w0 W : World} {x : Sc.Ver} {sv cv : Value} (h : VerIn w0 W x sv cv) (h0 : Below w0.heap.size w0 W) : ∃ sa sc ca cc cs, sv = .slice sa x.slots.length sc ∧ cv = .slice ca x.cols.length cc ∧ VerAt W x sa sc ca cc ∧ SCells w0 x.slots cs ∧ Cells W 7 sa x.slots.length cs := by
  obtain ⟨a, c, cs, e1, h1, h2, h3⟩ := slotsIn_form h.1 h0
  obtain ⟨a', c', e2, h4⟩ := colsIn_form h.2 h0
  exact ⟨a, c, a', c', cs, e1, e2, ⟨h3, h4⟩, h1, h2⟩
end Go.Proofs.YtdogdbibhmhooaaGreat
