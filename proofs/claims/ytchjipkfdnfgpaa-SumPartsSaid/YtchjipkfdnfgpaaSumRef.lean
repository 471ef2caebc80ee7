/- The document's answer for layer 4. -/
import Derived.Test.YtchjipkfdnfgpaaSumMake
import Derived.Test.YtchjipkfdnfgpaaSumMore
namespace Go.Proofs.Ytchjipkfdnfgpaa
open Go.RowKit Go.Shelf
set_option maxHeartbeats 1000000 in
theorem ref04Row_any (p x : Nat) (w : World) (hp : p < 4294967296) (hx : x < 4294967296) :
    Calls Try.prog 23 #[.int .i64 p, .int .i64 x] w fun e w' => e = .returned (.int .i64 (S.row p x : Nat)) ∧ w = w' := by
  go_enter Try.func23, Try.ntmps23
  go_wp2
  go_loop [1, 5] (fun y i => ∃ k : Nat, k ≤ 8 ∧ i = .int .i64 k ∧ y = .int .i64 (S.itn p x k : Nat)) (fun _ i => 8 - (intOf i).toNat)
  case atStart => exact ⟨0, by omega, rfl, rfl⟩
  case round =>
    obtain ⟨k, hk, rfl, rfl⟩ := hrel
    have hlt := S.itn_lt hp hx k
    have hnx : S.itn p x (k + 1) = S.stp p (S.itn p x k) := rfl
    have hz : k = 8 → S.itn p x k = S.row p x := fun h => by rw [h]; rfl
    generalize S.itn p x k = y at hlt hnx hz
    by_cases h8 : k < 8
    · have HN := Lib.hid hnx; clear hnx hz
      have hxor : bits .xor .i64 ((y : Int) / 2) (p : Int) = (((y / 2) ^^^ p : Nat) : Int) := by
        have := S.xorI64 (y / 2) p (by omega) hp
        rwa [show ((y / 2 : Nat) : Int) = (y : Int) / 2 by omega] at this
      by_cases ho : y % 2 = 1
      · have hd : ((y : Int) % 2 == 1) = true := by simp; omega
        have HS : Hid (S.itn p x (k + 1) = (y / 2) ^^^ p) := Lib.hid (by rw [HN.out]; unfold S.stp; rw [if_pos ho])
        have HO := Lib.hid ho; clear ho
        go_wp2
        go_round
        case rel => exact ⟨k + 1, by omega, by go_num, by rw [HS.out]⟩
        case measure => simp [intOf]; omega
      · have hd : ((y : Int) % 2 == 1) = false := by simp; omega
        have HS : Hid (S.itn p x (k + 1) = y / 2) := Lib.hid (by rw [HN.out]; unfold S.stp; rw [if_neg ho])
        have HO := Lib.hid ho; clear ho hxor
        go_wp2
        go_round
        case rel => exact ⟨k + 1, by omega, by go_num, by rw [HS.out]; simp⟩
        case measure => simp [intOf]; omega
    · have HZ := Lib.hid (hz (by omega)); clear hz hnx
      obtain rfl : k = 8 := by omega
      go_wp2
      go_ret
      exact ⟨ret_int (by rw [HZ.out]), rfl⟩
set_option maxRecDepth 100000 in
set_option maxHeartbeats 2000000 in
theorem ref04Make_any (p : Int) (w : World) (hp0 : -9223372036854775808 ≤ p) (hp1 : p ≤ 9223372036854775807) :
    Calls Try.prog 11 #[.int .i64 p] w (Made w (S.make p)) := by
  obtain ⟨i0, hi, hz0, hz1, hz2⟩ := info_parts info_int
  by_cases hnum : S.num p = true
  · obtain ⟨q, rfl⟩ := Int.eq_ofNat_of_zero_le ((S.num_iff p).1 hnum).1
    have hq : q < 4294967296 := by have := ((S.num_iff _).1 hnum).2; omega
    have hmk : Hid (S.make (q : Int) = S.mk q) := Lib.hid (by unfold S.make; rw [if_pos hnum, Int.toNat_natCast])
    have d0 : decide (0 ≤ (q : Int)) = true := by simp
    have d1 : decide ((q : Int) ≤ 4294967295) = true := by simp; omega
    clear hnum
    go_enter Try.func11, Try.ntmps11
    go_wp2
    go_loopw [3, 4] (fun v i wr => ∃ k : Nat, k ≤ 256 ∧ i = .int .i64 k ∧ wr.ownsRow w.heap.size 3 1 v k (i64s ((S.mk q).take k)) ∧ Below w.heap.size w wr) (fun _ i _ => 256 - (intOf i).toNat)
    case atStart => exact ⟨0, by omega, rfl, World.ownsRow_nil _ _ _ _, Below.refl _ _⟩
    case round =>
      rename_i wr v
      obtain ⟨k, hk, rfl, hown, hB⟩ := hrel
      by_cases hlt : k < 256
      · have hd : decide (k < 256) = true := by simpa using hlt
        have hrow := fun w => ref04Row_any q k w hq (by omega)
        have hT : Hid ((S.mk q).take k ++ [(S.row q k : Int)] = (S.mk q).take (k + 1)) := Lib.hid (mk_take q k hlt)
        generalize ((S.row q k : Nat) : Int) = x at hT hrow
        have hown1 := hown.alloc (.cells #[.int .i64 x] 3)
        go_wp2_with (first
          | (go_at_call 23; (with_reducible refine (hrow _).mono ?_); rintro e w' ⟨rfl, rfl⟩)
          | (at_builtin; refine wpList_append_own _ rfl _ _ 22 rfl w.heap.size 3 i0 (.int .i64 0) 1 8 Try.underlying22 hi hz0 hz1 hz2 rfl (by decide) _ _ _ rfl hown1 ⟨wr.heap.size, 0, none⟩ 1 1 [.int .i64 x] rfl rfl (cells_new _ [_] _) (by simp [Value.oneCell']) (by unfold maxLen; omega) (by omega) (by have := hB.size; simp; omega) ?_; intro v' w2 hown' hgrow _))
        go_roundw
        case rel => exact ⟨k + 1, by omega, by go_num, ownsRow_nth hown' rfl (by rw [← hT.out]; simp [i64s]), (hB.alloc hB.size _).trans (below_grown hgrow hown1 (by have := hB.size; simp; omega))⟩
        case measure => simp [intOf]; omega
      · obtain rfl : k = 256 := by omega
        have hd : decide ((256 : Nat) < 256) = false := by simp
        go_wp2
        go_ret
        exact ⟨_, rfl, ownsRow_nth hown (by rw [hmk.out, S.mk_len]) (by rw [hmk.out, List.take_of_length_le (by rw [S.mk_len]; omega)]), hB⟩
  · have hmk : Hid (S.make p = []) := Lib.hid (by unfold S.make; rw [if_neg hnum])
    rw [S.num_iff] at hnum
    by_cases h0 : 0 ≤ p
    · have d0 : decide (0 ≤ p) = true := by simpa using h0
      have d1 : decide (p ≤ 4294967295) = false := by simp; omega
      go_enter Try.func11, Try.ntmps11
      go_wp2
      go_loop [3, 4] (fun v i => v = .slice none 0 0 ∧ i = .int .i64 0) (fun _ _ => 0)
      case atStart => exact ⟨rfl, rfl⟩
      case round =>
        obtain ⟨rfl, rfl⟩ := hrel
        go_wp2
        go_ret
        exact ⟨_, rfl, by rw [hmk.out]; exact World.ownsRow_nil _ _ _ _, Below.refl _ _⟩
    · have d0 : decide (0 ≤ p) = false := by simpa using h0
      go_enter Try.func11, Try.ntmps11
      go_wp2
      go_loop [3, 4] (fun v i => v = .slice none 0 0 ∧ i = .int .i64 0) (fun _ _ => 0)
      case atStart => exact ⟨rfl, rfl⟩
      case round =>
        obtain ⟨rfl, rfl⟩ := hrel
        go_wp2
        go_ret
        exact ⟨_, rfl, by rw [hmk.out]; exact World.ownsRow_nil _ _ _ _, Below.refl _ _⟩
set_option maxRecDepth 100000 in
set_option maxHeartbeats 1000000 in
theorem ref04Table_any (a : Option Addr) (len cap : Nat) (t : List Int) (w : World) (h : Row w .i64 a len cap t) :
    Calls Try.prog 25 #[.slice a len cap] w fun e w' => e = .returned (.bool (S.isT t)) ∧ w = w' := by
  obtain ⟨h1, h2, h3, h4⟩ := h
  obtain ⟨r, hr⟩ : ∃ r, S.isT t = r := ⟨_, rfl⟩
  rw [hr]
  have HR := Lib.hid hr; clear hr
  have H1 := Lib.hid h1; clear h1
  have H4 := Lib.hid h4; clear h4
  unfold maxLen at h3
  go_enter Try.func25, Try.ntmps25
  go_wp2
  go_loop [3] (fun i => ∃ k : Nat, k ≤ len ∧ i = .int .i64 k ∧ ∀ j, j < k → S.num (t[j]?.getD 0) = true) (fun i => len - (intOf i).toNat)
  case atStart => exact ⟨0, by omega, rfl, fun j hj => by omega⟩
  case round =>
    obtain ⟨k, hk, rfl, hall⟩ := hrel
    have HA := Lib.hid hall; clear hall
    by_cases hlt : k < len
    · rcases H4.out with h0 | ⟨B, off, rfl, hc'⟩
      · exact absurd h0 (by omega)
      have hc := hc' k hlt
      clear hc'
      have hn := S.num_iff (t[k]?.getD 0)
      have hbad : S.num (t[k]?.getD 0) = false → r = false := fun hx => by
        rw [← HR.out, Bool.eq_false_iff]
        intro h
        simp only [S.isT, Bool.and_eq_true, List.all_eq_true] at h
        have hlen := H1.out
        rw [h.2 _ (by rw [List.getElem?_eq_getElem (show k < t.length by omega)]; exact List.getElem_mem _)] at hx
        cases hx
      have HST : Hid (S.num (t[k]?.getD 0) = true → ∀ j, j < k + 1 → S.num (t[j]?.getD 0) = true) := Lib.hid (fun hx j hj => by
        rcases Nat.lt_or_ge j k with h | h
        · exact HA.out j h
        · obtain rfl : j = k := by omega
          exact hx)
      generalize hxx : t[k]?.getD 0 = x at hc hn hbad HST
      have HX := Lib.hid hxx; clear hxx
      by_cases h0 : x < 0
      · have HB : Hid (r = false) := Lib.hid (hbad (by rw [Bool.eq_false_iff]; intro h; have := hn.1 h; omega))
        clear hn hbad
        have d0 : decide (x < 0) = true := by simpa using h0
        go_wp2
        go_ret
        exact ⟨ret_bool (by rw [HB.out]), rfl⟩
      · by_cases h9 : 4294967295 < x
        · have HB : Hid (r = false) := Lib.hid (hbad (by rw [Bool.eq_false_iff]; intro h; have := hn.1 h; omega))
          clear hn hbad
          have d0 : decide (x < 0) = false := by simpa using h0
          have d1 : decide (4294967295 < x) = true := by simpa using h9
          go_wp2
          go_ret
          exact ⟨ret_bool (by rw [HB.out]), rfl⟩
        · have HG : Hid (S.num x = true) := Lib.hid (hn.2 (by omega))
          clear hn hbad
          have d0 : decide (x < 0) = false := by simpa using h0
          have d1 : decide (4294967295 < x) = false := by simpa using h9
          go_wp2
          go_round
          case rel => exact ⟨k + 1, by omega, by go_num, HST.out HG.out⟩
          case measure => simp [intOf]; omega
    · obtain rfl : k = len := by omega
      go_wp2
      go_ret
      refine ⟨ret_bool ?_, rfl⟩
      rw [← HR.out, Bool.eq_iff_iff]
      have h1 := H1.out
      simp only [S.isT, Bool.and_eq_true, List.all_eq_true, decide_eq_true_eq, beq_iff_eq]
      constructor
      · intro h
        refine ⟨by omega, fun x hx => ?_⟩
        obtain ⟨i, hi, rfl⟩ := List.getElem_of_mem hx
        have := HA.out i (by omega)
        rwa [List.getElem?_eq_getElem hi] at this
      · intro h; omega
end Go.Proofs.Ytchjipkfdnfgpaa
