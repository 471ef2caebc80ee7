/- Layer 7: unit, escaped, escape. -/
import Derived.Test.YtiflnciapboccaaDoorTokEsc
import Derived.Test.YtiflnciapboccaaDoorNumParse
namespace Go.Proofs.YtiflnciapboccaaDoor
open Go.RowKit Go.Shelf
namespace K
theorem row_at0 (l : List Int) (p q i : Nat) (h : p + i < q) : (row l p q)[i]?.getD 0 = l[p + i]?.getD 0 := by
  unfold row
  rw [List.getElem?_drop, List.getElem?_take, if_pos (by omega)]
theorem hasPrefix_eq (t : ByteArray) (h : 2 ≤ t.size) : Lib.hasPrefix t.data.toList [92, 117] = decide ((strB t)[0]?.getD 0 = 92 ∧ (strB t)[1]?.getD 0 = 117) := by
  have hl : 2 ≤ t.data.toList.length := by simpa using h
  unfold strB Lib.hasPrefix
  match t.data.toList, hl with
  | a :: b :: r, _ =>
    have h : ∀ x n : UInt8, n = x ↔ (x.toNat : Int) = (n.toNat : Int) := fun x n => by rw [← UInt8.toNat_inj]; omega
    simp only [List.isPrefixOf, Bool.and_true, List.map_cons, List.getElem?_cons_zero, Option.getD_some, List.getElem?_cons_succ]
    rw [Bool.eq_iff_iff]
    simp [h]
theorem i64_and1023 (n : Int) : bits .and .i64 n 1023 = n % 1024 := by
  have h63 : (BitVec.ofInt 64 1023).toNat = 2 ^ 10 - 1 := by decide
  have key : (BitVec.ofInt 64 n &&& BitVec.ofInt 64 1023).toNat = (n % ((2 ^ 64 : Nat) : Int)).toNat % 2 ^ 10 := by
    rw [BitVec.toNat_and, BitVec.toNat_ofInt, h63, Nat.and_two_pow_sub_one_eq_mod]
  show IntKind.i64.wrap ((BitVec.ofInt 64 n &&& BitVec.ofInt 64 1023).toNat : Nat) = n % 1024
  rw [key, IntKind.wrap_i64]
  omega
end K
set_option maxHeartbeats 1000000 in
theorem unit_any (s : ByteArray) (p : Nat) (w : World) (hsm : s.size ≤ 100000) (hp : p ≤ s.size) (hE : Err w) :
    Calls Tryd.prog 67 #[.string s, .int .i64 p] w fun e w' => e = .returned (.tuple #[.int .i64 (if 0 ≤ K.unit (strB s) p then K.unit (strB s) p else 0), .bool (decide (0 ≤ K.unit (strB s) p))]) ∧ K.unit (strB s) p ≤ 65535 ∧ Below w.heap.size w w' := by
  obtain ⟨u, hu⟩ : ∃ u, K.unit (strB s) p = u := ⟨_, rfl⟩
  rw [hu]
  unfold K.unit at hu
  rw [strB_len] at hu
  by_cases h6 : p + 6 ≤ s.size
  · have hrow := strB_sub s p s.size
    have hrs : (s.extract p s.size).size = s.size - p := by rw [ByteArray.size_extract]; omega
    have hpre := K.hasPrefix_eq (s.extract p s.size) (by omega)
    have hP := fun w => Tryd.strings_HasPrefix (s.extract p s.size) ⟨#[92, 117]⟩ w
    have e0 := K.row_at0 (strB s) p s.size 0 (by omega)
    have e1 := K.row_at0 (strB s) p s.size 1 (by omega)
    change strB (s.extract p s.size) = K.row (strB s) p s.size at hrow
    rw [hrow, e0, e1, Nat.add_zero] at hpre
    have hP : ∀ w, Calls Tryd.prog 72 #[.string (s.extract p s.size), .string ⟨#[92, 117]⟩] w fun e w' => e = .returned (.bool (decide ((strB s)[p]?.getD 0 = 92 ∧ (strB s)[p + 1]?.getD 0 = 117))) ∧ w' = w := fun w => by
      have h := hP w
      rw [show (ByteArray.mk #[92, 117]).data.toList = [92, 117] from rfl, hpre] at h
      exact h
    clear hpre e0 e1 hrow
    have d6 : decide ((s.size : Int) - (p : Int) < 6) = false := by simp; omega
    by_cases hb : (strB s)[p]?.getD 0 = 92 ∧ (strB s)[p + 1]?.getD 0 = 117
    · rw [if_pos ⟨h6, hb⟩] at hu
      simp only [decide_eq_true hb] at hP
      have hq := strB_sub s (p + 2) (p + 6)
      change strB (s.extract (p + 2) (p + 6)) = K.row (strB s) (p + 2) (p + 6) at hq
      have hqs : (s.extract (p + 2) (p + 6)).size = 4 := by rw [ByteArray.size_extract]; omega
      have hU := fun w hE => pub16_any (s.extract (p + 2) (p + 6)) w hE hqs u (by
        rw [hq, K.row_at0 _ _ _ 0 (by omega), K.row_at0 _ _ _ 1 (by omega), K.row_at0 _ _ _ 2 (by omega), K.row_at0 _ _ _ 3 (by omega)]
        exact hu)
      clear hq hu hb
      rcases Int.lt_or_le u 0 with h0 | h0
      · have hU : ∀ w, Err w → Calls Tryd.prog 73 #[.string (s.extract (p + 2) (p + 6)), .int .i64 16, .int .i64 16] w fun e w' => (∃ N, e = .returned (.tuple #[.int .u64 0, .iface 110 (.pointer (some ⟨N, 0, none⟩))])) ∧ Below w.heap.size w w' :=
          fun w hE => (hU w hE).mono fun e w' ⟨h, hB⟩ => ⟨by rcases h with ⟨_, h⟩ | ⟨h1, _⟩; exact h; omega, hB⟩
        rw [if_neg (by omega), decide_eq_false (by omega)]
        go_enter Tryd.func67, Tryd.ntmps67
        go_wp2_with (first | (go_at_call 72; (with_reducible refine (hP _).mono ?_); rintro e w' ⟨rfl, rfl⟩) | (go_at_call 73; (with_reducible refine (hU _ hE).mono ?_); rintro e w1 ⟨⟨N, rfl⟩, hB1⟩))
        go_region
        all_goals go_wp2
        all_goals (go_ret2; exact ⟨rfl, by omega, by first | exact hB1 | exact hB1.drew⟩)
      · have hU : ∀ w, Err w → Calls Tryd.prog 73 #[.string (s.extract (p + 2) (p + 6)), .int .i64 16, .int .i64 16] w fun e w' => (e = .returned (.tuple #[.int .u64 u, .nilIface]) ∧ u ≤ 65535) ∧ Below w.heap.size w w' :=
          fun w hE => (hU w hE).mono fun e w' ⟨h, hB⟩ => ⟨by rcases h with ⟨h1, _⟩ | ⟨_, h2, h⟩; omega; exact ⟨h, h2⟩, hB⟩
        rw [if_pos h0, decide_eq_true h0]
        go_enter Tryd.func67, Tryd.ntmps67
        go_wp2_with (first | (go_at_call 72; (with_reducible refine (hP _).mono ?_); rintro e w' ⟨rfl, rfl⟩) | (go_at_call 73; (with_reducible refine (hU _ hE).mono ?_); rintro e w1 ⟨⟨rfl, hu5⟩, hB1⟩))
        have hwu : IntKind.i64.wrap u = u := IntWalk.i64_in (by omega) (by omega)
        go_region
        all_goals go_wp2
        all_goals (go_ret2; exact ⟨rfl, by omega, by first | exact hB1 | exact hB1.drew⟩)
    · rw [if_neg (fun h => hb h.2)] at hu
      subst hu
      simp only [decide_eq_false hb] at hP
      rw [if_neg (by omega), decide_eq_false (by omega)]
      clear hb
      go_enter Tryd.func67, Tryd.ntmps67
      go_wp2_with (first | (go_at_call 72; (with_reducible refine (hP _).mono ?_); rintro e w' ⟨rfl, rfl⟩))
      go_ret2
      exact ⟨rfl, by omega, Below.refl _ _⟩
  · rw [if_neg (fun h => h6 h.1)] at hu
    subst hu
    have d6 : decide ((s.size : Int) - (p : Int) < 6) = true := by simp; omega
    rw [if_neg (by omega), decide_eq_false (by omega)]
    go_enter Tryd.func67, Tryd.ntmps67
    go_wp2
    go_ret2
    exact ⟨rfl, by omega, Below.refl _ _⟩
end Go.Proofs.YtiflnciapboccaaDoor
