/- Package num's Print. -/
import Derived.Test.YtcicjpdjbfgbhaaDoorMh7Cell
import Derived.Test.YtcicjpdjbfgbhaaDoorMh5Cell
namespace Go.Proofs.YtcicjpdjbfgbhaaDoor
open Go.RowKit Go.Shelf
attribute [local go_sem] Oper.semAt_some
/-- the end of the room as a slice -/
theorem sub_room (B k : Nat) (hk : k < 20) (W : World) :
    (Instr.sliceAt 97 (.pointer (some ⟨B, 0, none⟩)) (some (.int .i64 (k : Int))) none none).run Tryd.prog W = .ok (.slice (some ⟨B, k, none⟩) (20 - k) (20 - k)) W := by
  have h3 := run_sliceBound (P := Tryd.prog) (w := W) .i64 (k : Int) 20 BoundsCode.sliceB (by omega) (by omega)
  rw [Int.toNat_natCast] at h3
  simp [Instr.sliceAt, Instr.sureAddr, run_underlying Tryd.underlying97, Instr.sliceBounds, h3, Addr.add]
  rw [if_neg (by omega)]
  split
  · rename_i h; subst h; rfl
  · rfl
/-- and its text -/
theorem conv_room (W : World) (B k : Nat) (xs l : List Int) (hA : Arr W B 97 xs) (hx : xs.length = 20) (hl : xs.drop k = l) :
    (convert 58 9 (.slice (some ⟨B, k, none⟩) (20 - k) (20 - k))).run Tryd.prog W = .ok (.string (strOfNums l)) W := by
  refine run_convert_bytes_arg W _ _ Tryd.underlying58 Tryd.underlying5 B k (20 - k) (20 - k) l (by rw [← hl, List.length_drop, hx]) (fun i hi => ?_) _ Tryd.underlying9
  rw [hA.cell (k + i) (by omega), ← hl]
  simp [List.getD]
set_option maxRecDepth 100000 in
set_option maxHeartbeats 2000000 in
theorem numPrint_any (n : Int) (w : World) (h : -9223372036854775808 ≤ n) (h' : n ≤ 9223372036854775807) :
    Calls Tryd.prog 52 #[.int .i64 n] w (Prt w n) := by
  have hsz := fun w => size_any n w h h'
  have hnm : n.natAbs ≤ 18446744073709551615 := by omega
  obtain ⟨m, hm⟩ : ∃ m, n.natAbs = m := ⟨_, rfl⟩
  rw [hm] at hsz hnm
  refine (callsIn_wide (n := 100)).1 ?_
  refine callsIn_of_wp_marks Tryd.func52 rfl trivial ?_ rfl
  simp only [Tryd.ntmps52, List.size_toArray, List.length_cons, List.length_nil, Nat.reduceAdd, Nat.reduceSub, Array.replicate_succ, Array.replicate_zero, List.push_toArray, List.append_toArray, List.nil_append, List.cons_append]
  gi_wp2_with (first
    | (refine ⟨trivial, ?_⟩; gi_at_call 67; refine (callsIn_wide.2 (hsz _)).mono ?_; rintro e w' ⟨rfl, rfl⟩)
    | (refine ⟨trivial, ?_⟩; gi_at_call 66; refine (digits_in _ _ _).mono ?_; rintro e w' ⟨rfl, rfl⟩))
  have hA0 := Arr.new w 97 (M.room []) (Array.replicate 20 (.int .u8 0)) (by rfl)
  simp only [Array.replicate_succ, Array.replicate_zero, List.push_toArray, List.nil_append, List.cons_append] at hA0
  have b1 := Boxed.new (w.alloc (.cells #[.int .u8 0, .int .u8 0, .int .u8 0, .int .u8 0, .int .u8 0, .int .u8 0, .int .u8 0, .int .u8 0, .int .u8 0, .int .u8 0, .int .u8 0, .int .u8 0, .int .u8 0, .int .u8 0, .int .u8 0, .int .u8 0, .int .u8 0, .int .u8 0, .int .u8 0, .int .u8 0] 97)) 3 (.int .i64 20)
  have hB0 := ((Below.refl _ w).alloc (Nat.le_refl _) (.cells #[.int .u8 0, .int .u8 0, .int .u8 0, .int .u8 0, .int .u8 0, .int .u8 0, .int .u8 0, .int .u8 0, .int .u8 0, .int .u8 0, .int .u8 0, .int .u8 0, .int .u8 0, .int .u8 0, .int .u8 0, .int .u8 0, .int .u8 0, .int .u8 0, .int .u8 0, .int .u8 0] 97)).alloc (by simp) (.cells #[.int .i64 20] 3)
  have hA1 := hA0.alloc (.cells #[.int .i64 20] 3)
  clear hA0
  simp only [World.size_alloc] at b1
  generalize hW : (w.alloc (.cells #[.int .u8 0, .int .u8 0, .int .u8 0, .int .u8 0, .int .u8 0, .int .u8 0, .int .u8 0, .int .u8 0, .int .u8 0, .int .u8 0, .int .u8 0, .int .u8 0, .int .u8 0, .int .u8 0, .int .u8 0, .int .u8 0, .int .u8 0, .int .u8 0, .int .u8 0, .int .u8 0] 97)).alloc (.cells #[.int .i64 20] 3) = W0 at *
  have hw0 : W0.heap.size = w.heap.size + 1 + 1 := by rw [← hW]; simp
  clear hW
  have bN := Boxed.new W0 101 (.int .u64 m)
  rw [hw0] at bN
  refine wpIn_rangeFunc_ownG rfl (by decide) (gf := 73) (lb := #[.pointer (some ⟨w.heap.size + 1 + 1, 0, none⟩)]) rfl trivial (enters_of Tryd.func73 (by kernel_rfl) rfl)
    (digits_stops _ (by decide) (w.heap.size + 1 + 1) m hnm _ bN) (fun _ _ => trivial) (fun _ _ _ _ _ _ _ _ => trivial) (Below.refl _ _) (fun _ => rfl)
    (fun pre W => (Boxed W (w.heap.size + 1) 3 (.int .i64 ((20 - pre.length : Nat) : Int)) ∧ Arr W w.heap.size 97 (M.room pre)) ∧ Below w.heap.size w W)
    (fun _ _ _ => False)
    (OwnFrom.and (OwnFrom.and (Own.from (boxed_own _ _ _) _) (Own.from (arr_own _ _ _) _)) (ownFrom_below (Nat.le_refl _) (by simp; omega)))
    (fun _ _ _ _ _ hs _ _ => hs)
    ⟨⟨b1.alloc _, hA1.alloc _⟩, hB0.alloc (by omega) _⟩ ?a1 ?assign ?body ?done ?stop
  case assign =>
    intro l x W K hK
    gi_wp2
    exact hK
  case body =>
    rintro l pre x W ⟨⟨hv, hA⟩, hB⟩ hlt
    obtain ⟨k, hk⟩ : ∃ k, 20 - pre.length = k + 1 := ⟨19 - pre.length, by omega⟩
    have hset : (M.room pre).set k ((48 + x) % 256) = M.room (pre ++ [x]) := by
      have := M.room_step pre x hlt
      rwa [show 19 - pre.length = k by omega] at this
    have hk2 : 20 - (pre ++ [x]).length = k := by simp; omega
    rw [hk] at hv
    have hc := hv.cell
    have hf := hv.frozen
    have hc2 := hA.cell k (by rw [M.room_len pre (by omega)]; omega)
    have hf2 := hA.frozen k
    gi_wp2
    exact ⟨((KeepsOthers.setCell _ _ _).trans (KeepsOthers.setCell _ _ _)).from _, trivial,
      ⟨by rw [hk2]; exact Boxed.otherAt (hv.set _) (by omega) _ _, by rw [← hset]; exact (hA.other (by omega) _).set _ _⟩,
      (hB.setCell (p := ⟨w.heap.size + 1, 0, none⟩) (Nat.le_succ _) _).setCell (p := ⟨w.heap.size, k, none⟩) (Nat.le_refl _) _⟩
  case done =>
    rintro D ys W hD rfl ⟨⟨hv, hA⟩, hB⟩ hK
    have hc := hv.cell
    have hf := hv.frozen
    have hl0 := M.D_pos m
    have hl1 := M.D_len_le 19 m (by omega)
    have hl2 : n < 0 → (M.D m).length ≤ 19 := fun hn => M.D_len_le 18 m (by omega)
    rw [← M.dg_len] at hl0 hl1 hl2
    have hpr : M.prt n = (if n < 0 then [45] else []) ++ (M.dg m).reverse.map (48 + ·) := by unfold M.prt; rw [hm, M.dg_D]
    have hcl := fun i hi => hA.cell i (by rw [M.room_len _ hl1]; exact hi)
    have hl1' := hl1
    obtain ⟨L, hL⟩ : ∃ L, (M.dg m).length = L := ⟨_, rfl⟩
    rw [hL] at hl0 hl1 hl2 hc
    by_cases hn : n < 0
    · have hd : decide (n < 0) = true := by simpa using hn
      obtain ⟨k, hk⟩ : ∃ k, 20 - L = k + 1 := ⟨19 - L, by have := hl2 hn; omega⟩
      rw [hk] at hc
      have hc2 := hcl k (by omega)
      have hf2 := hA.frozen k
      have hsub := fun W => sub_room w.heap.size k (by omega) W
      have hA3 : Arr ((W.setCell ⟨w.heap.size + 1, 0, none⟩ (.int .i64 k)).setCell ⟨w.heap.size, k, none⟩ (.int .u8 45)) w.heap.size 97 ((M.room (M.dg m)).set k 45) := (hA.other (by omega) _).set _ _
      have hcv := conv_room _ w.heap.size k _ (M.prt n) hA3 (by rw [List.length_set]; exact M.room_len _ hl1') (by
        rw [hpr, if_pos hn, M.room_end m, hL]
        rw [hk, List.replicate_succ', List.append_assoc, List.set_append_right _ _ (by simp)]
        simp)
      have HPR := Lib.hid hpr; clear hpr hA3
      have hK' : ((W.setCell ⟨w.heap.size + 1, 0, none⟩ (.int .i64 k)).setCell ⟨w.heap.size, k, none⟩ (.int .u8 45)).heap[D]? = some (Obj.deferred (some [])) :=
        (Below.heap_setCell _ _ _ _ (by simp at hD ⊢; omega)).trans ((Below.heap_setCell _ _ _ _ (by simp at hD ⊢; omega)).trans hK)
      gi_wp2
      refine ⟨by simp, .inl ⟨_, _, rfl, run_takeDeferred hK', ?_⟩⟩
      exact ⟨_, results_tmp (t := 2) rfl _ _ _, rfl, ((hB.setCell (p := ⟨w.heap.size + 1, 0, none⟩) (Nat.le_succ _) _).setCell (p := ⟨w.heap.size, k, none⟩) (Nat.le_refl _) _).trans
        (belowK_b (w := w) (Nat.le_refl _) _ D _ _ (by simp at hD; omega) hK' rfl rfl)⟩
    · have hd : decide (n < 0) = false := by simpa using hn
      obtain ⟨k, hk⟩ : ∃ k, 20 - L = k := ⟨_, rfl⟩
      rw [hk] at hc
      have hsub := fun W => sub_room w.heap.size k (by omega) W
      have hcv := conv_room W w.heap.size k _ (M.prt n) hA (M.room_len _ hl1') (by
        rw [hpr, if_neg hn, M.room_end m, hL, hk]
        simp)
      have HPR := Lib.hid hpr; clear hpr
      gi_wp2
      refine ⟨by simp, .inl ⟨_, _, rfl, run_takeDeferred hK, ?_⟩⟩
      exact ⟨_, results_tmp (t := 2) rfl _ _ _, rfl, hB.trans (belowK_b (w := w) (Nat.le_refl _) W D _ _ (by simp at hD; omega) hK rfl rfl)⟩
  case stop =>
    rintro D c pre W _ _ h _
    exact h.elim
end Go.Proofs.YtcicjpdjbfgbhaaDoor

/- Names: letter, within, IsName. -/
namespace Go.Proofs.YtcicjpdjbfgbhaaDoor
open Go.RowKit Go.Shelf
def letterB (x : Int) : Bool := (decide (65 ≤ x) && decide (x ≤ 90)) || (decide (97 ≤ x) && decide (x ≤ 122))
def withinB (x : Int) : Bool := letterB x || (decide (48 ≤ x) && decide (x ≤ 57)) || decide (x = 95) || decide (x = 45)
def nameB (l : List Int) : Bool := !l.isEmpty && decide (l.length ≤ 40) && letterB (l[0]?.getD 0) && l.all withinB
theorem box_cells {w W : World} {k n : Int} {s : ByteArray} {a : Option Addr} {len cap : Nat} (hb : Below (w.alloc (vobj k n s a len cap)).heap.size (w.alloc (vobj k n s a len cap)) W) :
    W.cell? ⟨w.heap.size, 0, none⟩ = some (.int .i64 k) ∧ W.cell? ⟨w.heap.size, 1, none⟩ = some (.int .i64 n) ∧ W.cell? ⟨w.heap.size, 2, none⟩ = some (.string s) ∧ W.cell? ⟨w.heap.size, 3, none⟩ = some (.slice a len cap) :=
  ⟨cell_below hb (by simp), cell_below hb (by simp), cell_below hb (by simp), cell_below hb (by simp)⟩
theorem letter_any (x : Int) (w : World) (h : 0 ≤ x) (h' : x ≤ 255) : Calls Tryd.prog 59 #[.int .u8 x] w fun e w' => e = .returned (.bool (letterB x)) ∧ w = w' := by
  unfold letterB
  rcases Int.lt_or_le x 65 with h1 | h1
  · have d1 : decide (65 ≤ x) = false := by simp; omega
    have d2 : decide (97 ≤ x) = false := by simp; omega
    go_enter Tryd.func59, Tryd.ntmps59
    go_wp2
    go_ret
    exact ⟨ret_bool (by simp [d1, d2]), rfl⟩
  · have d1 : decide (65 ≤ x) = true := by simp; omega
    rcases Int.lt_or_le 90 x with h2 | h2
    · have d2 : decide (x ≤ 90) = false := by simp; omega
      rcases Int.lt_or_le x 97 with h3 | h3
      · have d3 : decide (97 ≤ x) = false := by simp; omega
        go_enter Tryd.func59, Tryd.ntmps59
        go_wp2
        go_ret
        exact ⟨ret_bool (by simp [d2, d3]), rfl⟩
      · have d3 : decide (97 ≤ x) = true := by simp; omega
        go_enter Tryd.func59, Tryd.ntmps59
        go_wp2
        go_ret
        exact ⟨ret_bool (by simp [d1, d2, d3]), rfl⟩
    · have d2 : decide (x ≤ 90) = true := by simp; omega
      go_enter Tryd.func59, Tryd.ntmps59
      go_wp2
      go_ret
      exact ⟨ret_bool (by simp [d1, d2]), rfl⟩
theorem within_any (x : Int) (w : World) (h : 0 ≤ x) (h' : x ≤ 255) : Calls Tryd.prog 60 #[.int .u8 x] w fun e w' => e = .returned (.bool (withinB x)) ∧ w = w' := by
  have hc := fun w => letter_any x w h h'
  unfold withinB
  obtain ⟨lb, hlb⟩ : ∃ lb, letterB x = lb := ⟨_, rfl⟩
  rw [hlb] at hc ⊢
  clear hlb
  cases lb with
  | true =>
    go_enter Tryd.func60, Tryd.ntmps60
    go_wp2_with (first | (go_at_call 59; (with_reducible refine (hc _).mono ?_); rintro e w' ⟨rfl, rfl⟩))
    go_ret
    exact ⟨ret_bool (by simp), rfl⟩
  | false =>
    by_cases h1 : 48 ≤ x ∧ x ≤ 57
    · have d1 : decide (48 ≤ x) = true := by simp; omega
      have d2 : decide (x ≤ 57) = true := by simp; omega
      go_enter Tryd.func60, Tryd.ntmps60
      go_wp2_with (first | (go_at_call 59; (with_reducible refine (hc _).mono ?_); rintro e w' ⟨rfl, rfl⟩))
      all_goals go_ret
      all_goals exact ⟨ret_bool (by simp [d1, d2]), rfl⟩
    · have d12 : (decide (48 ≤ x) && decide (x ≤ 57)) = false := by simp; omega
      by_cases h2 : x = 95
      · subst h2
        go_enter Tryd.func60, Tryd.ntmps60
        go_wp2_with (first | (go_at_call 59; (with_reducible refine (hc _).mono ?_); rintro e w' ⟨rfl, rfl⟩))
        all_goals go_ret
        all_goals exact ⟨ret_bool (by simp), rfl⟩
      · have d3 : decide (x = 95) = false := by simpa using h2
        have d4 : (x == 95) = false := by simpa using h2
        rcases Int.lt_or_le x 48 with h3 | h3
        · have d1 : decide (48 ≤ x) = false := by simp; omega
          go_enter Tryd.func60, Tryd.ntmps60
          go_wp2_with (first | (go_at_call 59; (with_reducible refine (hc _).mono ?_); rintro e w' ⟨rfl, rfl⟩))
          all_goals go_ret
          all_goals exact ⟨ret_bool (by simp [d1, d3]; try rfl), rfl⟩
        · have d1 : decide (48 ≤ x) = true := by simp; omega
          have d2 : decide (x ≤ 57) = false := by simp; omega
          go_enter Tryd.func60, Tryd.ntmps60
          go_wp2_with (first | (go_at_call 59; (with_reducible refine (hc _).mono ?_); rintro e w' ⟨rfl, rfl⟩))
          all_goals go_ret
          all_goals exact ⟨ret_bool (by simp [d2, d3]; try rfl), rfl⟩
theorem toList_empty {s : ByteArray} (h : s.size = 0) : s.toList.isEmpty = true := by
  rw [toList_data]
  have hs : s.data = #[] := Array.eq_empty_of_size_eq_zero h
  rw [hs]; rfl
theorem toList_full {s : ByteArray} (h : s.size ≠ 0) : s.toList.isEmpty = false := by
  rw [toList_data]
  have h2 : s.data.toList.length = s.size := by simp
  cases hc : s.data.toList with
  | nil => rw [hc] at h2; simp at h2; omega
  | cons a r => rfl
theorem nameB_cons (l : List Int) (h : l ≠ []) : nameB l = (decide (l.length ≤ 40) && letterB (l[0]?.getD 0) && l.all withinB) := by
  unfold nameB; cases l with
  | nil => exact absurd rfl h
  | cons a r => simp
theorem all_drop (l : List Int) (k : Nat) (h : k < l.length) : (l.drop k).all withinB = (withinB (l[k]?.getD 0) && (l.drop (k + 1)).all withinB) := by
  rw [List.drop_eq_getElem_cons h, List.all_cons, List.getElem?_eq_getElem h]; rfl
set_option maxHeartbeats 1000000 in
theorem isName_any (s : ByteArray) (w : World) (hsm : s.size ≤ maxLen) :
    Calls Tryd.prog 37 #[.string s] w fun e w' => e = .returned (.bool (nameB (strB s))) ∧ w = w' := by
  unfold maxLen at hsm
  obtain ⟨r, hr⟩ : ∃ r, nameB (strB s) = r := ⟨_, rfl⟩
  rw [hr]
  have hl := strB_len s
  by_cases h0 : s.size = 0
  · have hs : s = ⟨#[]⟩ := by
      apply ByteArray.ext
      exact Array.eq_empty_of_size_eq_zero h0
    subst hs
    obtain rfl : r = false := by rw [← hr]; rfl
    clear hr
    go_enter Tryd.func37, Tryd.ntmps37
    go_wp2
    go_ret
    exact ⟨rfl, rfl⟩
  · have hse := toList_full h0
    have hx := strB_at s 0 (by omega)
    have hbd := u8_bd s[0]
    have hbs := strB_bytes s
    rw [nameB_cons _ (by intro h; rw [h] at hl; simp at hl; omega), hx, hl] at hr
    have hLt := fun w => letter_any (s[0].toNat : Int) w hbd.1 hbd.2
    obtain ⟨lb, hlb⟩ : ∃ lb, letterB (s[0].toNat : Int) = lb := ⟨_, rfl⟩
    rw [hlb] at hr hLt
    have HR := Lib.hid hr
    clear hr hx hlb hbd
    rcases Nat.lt_or_ge 40 s.size with h40 | h40
    · have hd : decide (40 < (s.size : Int)) = true := by simp; omega
      have hd2 : decide (s.size ≤ 40) = false := by simp; omega
      obtain rfl : r = false := by rw [← HR.out, hd2]; rfl
      clear hd2
      go_enter Tryd.func37, Tryd.ntmps37
      go_wp2_with fail
      go_ret
      exact ⟨rfl, rfl⟩
    · have hd : decide (40 < (s.size : Int)) = false := by simp; omega
      cases lb with
      | false =>
        obtain rfl : r = false := by rw [← HR.out]; simp
        go_enter Tryd.func37, Tryd.ntmps37
        go_wp2_with (first | (go_at_call 59; (with_reducible refine (hLt _).mono ?_); rintro e w' ⟨rfl, rfl⟩))
        go_ret
        exact ⟨rfl, rfl⟩
      | true =>
        have hd2 : decide (s.size ≤ 40) = true := by simp; omega
        have HR2 := Lib.hid (show (strB s).all withinB = r by rw [← HR.out, hd2]; simp)
        clear HR hd2
        go_enter Tryd.func37, Tryd.ntmps37
        go_wp2_with (first | (go_at_call 59; (with_reducible refine (hLt _).mono ?_); rintro e w' ⟨rfl, rfl⟩))
        go_loop [3, 19] (fun _ i => ∃ q : Nat, q ≤ s.size ∧ i = .int .i64 q ∧ Hid (((strB s).drop q).all withinB = r)) (fun _ i => s.size - (intOf i).toNat)
        case atStart => exact ⟨0, Nat.zero_le _, rfl, HR2.out⟩
        case round =>
          obtain ⟨q, hq, rfl, hrq⟩ := hrel
          rcases Nat.lt_or_ge q s.size with hlt | hge
          · have hx := strB_at s q hlt
            have hd : decide (q < s.size) = true := by simpa using hlt
            have hbd := u8_bd s[q]
            have hst := all_drop (strB s) q (by omega)
            rw [hrq.out, hx] at hst
            have hW := fun w => within_any (s[q].toNat : Int) w hbd.1 hbd.2
            obtain ⟨wb, hwb⟩ : ∃ wb, withinB (s[q].toNat : Int) = wb := ⟨_, rfl⟩
            rw [hwb] at hst hW
            have HST := Lib.hid hst
            clear hst hwb hx hrq hbd
            cases wb with
            | true =>
              go_wp2_with (first | (go_at_call 60; (with_reducible refine (hW _).mono ?_); rintro e w' ⟨rfl, rfl⟩))
              go_round
              case rel => exact ⟨q + 1, by omega, by go_num, (HST.out.trans (by simp)).symm⟩
              case measure => simp [intOf]; omega
            | false =>
              obtain rfl : r = false := by rw [HST.out]; simp
              go_wp2_with (first | (go_at_call 60; (with_reducible refine (hW _).mono ?_); rintro e w' ⟨rfl, rfl⟩))
              go_ret
              exact ⟨rfl, rfl⟩
          · have hd : decide (q < s.size) = false := by simpa using hge
            obtain rfl : r = true := by
              rw [← hrq.out, List.drop_of_length_le (by omega)]; rfl
            go_wp2_with fail
            go_ret
            exact ⟨rfl, rfl⟩
end Go.Proofs.YtcicjpdjbfgbhaaDoor
