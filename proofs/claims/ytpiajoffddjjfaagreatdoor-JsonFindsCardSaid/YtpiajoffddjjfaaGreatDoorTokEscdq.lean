/- Layer 7: escaped, escape. -/
import Derived.Test.YtpiajoffddjjfaaGreatDoorMg23Jso
namespace Go.Proofs.YtpiajoffddjjfaaGreatDoor
open Go.RowKit Go.Shelf
namespace K
def escd (l : List Int) (p : Nat) : Int × Nat :=
  if unit l p < 0 then (-1, 0) else if 55296 ≤ unit l p ∧ unit l p ≤ 56319 ∧ 56320 ≤ unit l (p + 6) ∧ unit l (p + 6) ≤ 57343 then (65536 + (unit l p - 55296) * 1024 + unit l (p + 6) - 56320, 12) else (unit l p, 6)
theorem unit_room (l : List Int) (p : Nat) (h : 0 ≤ unit l p) : p + 6 ≤ l.length := by
  unfold unit at h; split at h
  · rename_i h1; exact h1.1
  · omega
/-- what the escape means, by the code that it tells -/
theorem escU_eq (l : List Int) (p : Nat) : escU l p = if U.size (escd l p).1 = 0 then ([], 0) else (U.put (escd l p).1, (escd l p).2) := by
  unfold escU escd
  by_cases h0 : unit l p < 0
  · rw [if_pos h0, if_pos h0, if_pos]
    unfold U.size; rw [if_pos (by omega)]
  · rw [if_neg h0, if_neg h0]
    by_cases hp : 55296 ≤ unit l p ∧ unit l p ≤ 56319 ∧ 56320 ≤ unit l (p + 6) ∧ unit l (p + 6) ≤ 57343
    · rw [if_pos hp, if_neg, if_neg (by omega), if_neg]
      · unfold U.size; repeat' split
        all_goals omega
      · simp only [Decidable.not_not]; unfold U.size; rw [if_pos (by omega)]
    · rw [if_neg hp]
      by_cases hs : U.size (unit l p) = 0
      · rw [if_neg (by simpa using hs), if_pos hs, if_pos]
        unfold U.size at hs
        repeat' split at hs
        all_goals omega
      · rw [if_pos hs, if_neg hs]
end K
set_option maxHeartbeats 1000000 in
theorem escaped_any (s : ByteArray) (p : Nat) (w : World) (hsm : s.size ≤ 100000) (hp : p ≤ s.size) (hE : Err w) :
    Calls Tryz.prog 68 #[.string s, .int .i64 p] w fun e w' => e = .returned (.tuple #[.int .i64 (K.escd (strB s) p).1, .int .i64 ((K.escd (strB s) p).2 : Nat)]) ∧ Below w.heap.size w w' := by
  have hU := fun w hE => unit_any s p w hsm hp hE
  have hroom := K.unit_room (strB s) p
  rw [strB_len] at hroom
  obtain ⟨g, hg⟩ : ∃ g, K.escd (strB s) p = g := ⟨_, rfl⟩
  rw [hg]
  unfold K.escd at hg
  have hU6 := fun w hE hp => unit_any s (p + 6) w hsm hp hE
  obtain ⟨u, hu⟩ : ∃ u, K.unit (strB s) p = u := ⟨_, rfl⟩
  obtain ⟨d, hd⟩ : ∃ d, K.unit (strB s) (p + 6) = d := ⟨_, rfl⟩
  simp only [hu, hd] at hU hU6 hroom hg
  clear hu hd
  by_cases h0 : u < 0
  · rw [if_pos h0] at hg
    subst hg
    simp only [if_neg (show ¬ 0 ≤ u by omega), decide_eq_false (show ¬ 0 ≤ u by omega)] at hU
    clear hU6 hroom
    go_enter Tryz.func68, Tryz.ntmps68
    go_wp2_with (go_at_call 76; (with_reducible refine (hU _ hE).mono ?_); rintro e w1 ⟨rfl, _, hB1⟩)
    go_ret2
    exact ⟨rfl, hB1⟩
  · rw [if_neg h0] at hg
    have hr := hroom (by omega)
    simp only [if_pos (show 0 ≤ u by omega), decide_eq_true (show 0 ≤ u by omega)] at hU
    have hU6 := fun w hE => hU6 w hE hr
    rw [show ((p + 6 : Nat) : Int) = (p : Int) + 6 by omega] at hU6
    have a1 : bits .and .i64 u 1023 = u % 1024 := K.i64_and1023 u
    have a2 : bits .and .i64 d 1023 = d % 1024 := K.i64_and1023 d
    clear hroom
    by_cases hd0 : 0 ≤ d
    · simp only [if_pos hd0, decide_eq_true hd0] at hU6
      have HG := Lib.hid hg; clear hg
      go_enter Tryz.func68, Tryz.ntmps68
      go_wp2_with (go_at_call 76; first | ((with_reducible refine (hU _ hE).mono ?_); rintro e w1 ⟨rfl, hu5, hB1⟩; have hE1 := err_below hE hB1) | ((with_reducible refine (hU6 _ hE1).mono ?_); rintro e w2 ⟨rfl, hd5, hB2⟩))
      all_goals
        go_ret2
        refine ⟨?_, hB1.trans (hB2.mono hB1.size)⟩
        have hg := HG.out
        first
          | (rw [if_pos (by omega)] at hg; subst hg; exact ret_int2 (by omega) rfl)
          | (rw [if_neg (by omega)] at hg; subst hg; rfl)
    · simp only [if_neg hd0, decide_eq_false hd0] at hU6
      rw [if_neg (by omega)] at hg
      subst hg
      go_enter Tryz.func68, Tryz.ntmps68
      go_wp2_with (go_at_call 76; first | ((with_reducible refine (hU _ hE).mono ?_); rintro e w1 ⟨rfl, hu5, hB1⟩; have hE1 := err_below hE hB1) | ((with_reducible refine (hU6 _ hE1).mono ?_); rintro e w2 ⟨rfl, hd5, hB2⟩))
      all_goals
        go_ret2
        exact ⟨rfl, hB1.trans (hB2.mono hB1.size)⟩
namespace K
def escB : List UInt8 := [34, 92, 47, 98, 102, 110, 114, 116]
def escM : List Int := [34, 92, 47, 8, 12, 10, 13, 9]
/-- the short escapes: the place in their row -/
theorem esc1_at (x : Int) (h0 : 0 ≤ x) (h1 : x ≤ 255) : (Lib.indexByte escB x.toNat.toUInt8 = -1 ∧ esc1 x = none) ∨ ∃ i : Nat, i < 8 ∧ Lib.indexByte escB x.toNat.toUInt8 = i ∧ esc1 x = some (escM[i]?.getD 0) := by
  have h := U.u8_all (fun x => (decide (Lib.indexByte escB x.toNat.toUInt8 = -1) && decide (esc1 x = none)) || (List.range 8).any fun i => decide (Lib.indexByte escB x.toNat.toUInt8 = (i : Int)) && decide (esc1 x = some (escM[i]?.getD 0))) (by decide +kernel) x h0 h1
  simp only [Bool.or_eq_true, Bool.and_eq_true, decide_eq_true_eq, List.any_eq_true, List.mem_range] at h
  rcases h with h | ⟨i, hi, h2, h3⟩
  · exact .inl h
  · exact .inr ⟨i, hi, h2, h3⟩
end K
set_option maxHeartbeats 2000000 in
theorem escape_any (s : ByteArray) (p : Nat) (w : World) (hsm : s.size ≤ 100000) (hp : p ≤ s.size) (hE : Err w) :
    Calls Tryz.prog 59 #[.string s, .int .i64 p] w fun e w' => e = .returned (.tuple #[.string (strOfNums (K.esc (strB s) p).1), .int .i64 ((K.esc (strB s) p).2 : Nat)]) ∧ Below w.heap.size w w' := by
  obtain ⟨g, hg⟩ : ∃ g, K.esc (strB s) p = g := ⟨_, rfl⟩
  rw [hg]
  unfold K.esc at hg
  rw [strB_len] at hg
  by_cases hshort : p + 1 < s.size ∧ ∃ i : Nat, i < 8 ∧ Lib.indexByte K.escB ((strB s)[p + 1]?.getD 0).toNat.toUInt8 = i ∧ K.esc1 ((strB s)[p + 1]?.getD 0) = some (K.escM[i]?.getD 0)
  · obtain ⟨h1, i, hi, hI, hm⟩ := hshort
    rw [if_pos h1, hm] at hg
    simp only at hg
    subst hg
    have hx := strB_at s (p + 1) h1
    rw [hx] at hI
    have c1 : ∀ w, Calls Tryz.prog 54 #[.string ⟨#[34, 92, 47, 98, 102, 110, 114, 116]⟩, .int .u8 (s[p + 1].toNat : Int)] w fun e w' => e = .returned (.int .i64 (i : Int)) ∧ w' = w := fun w => by
      have h := Tryz.strings_IndexByte ⟨#[34, 92, 47, 98, 102, 110, 114, 116]⟩ (s[p + 1].toNat : Int) w
      rw [show (ByteArray.mk #[34, 92, 47, 98, 102, 110, 114, 116]).data.toList = K.escB from rfl, hI] at h
      exact h
    have hE1 : (ByteArray.mk #[34, 92, 47, 8, 12, 10, 13, 9]).extract i (i + 1) = strOfNums [K.escM[i]?.getD 0] := by
      have : i = 0 ∨ i = 1 ∨ i = 2 ∨ i = 3 ∨ i = 4 ∨ i = 5 ∨ i = 6 ∨ i = 7 := by omega
      rcases this with rfl | rfl | rfl | rfl | rfl | rfl | rfl | rfl <;> decide
    have d1 : decide ((p : Int) + 1 < (s.size : Int)) = true := by simp; omega
    clear hx hI hm
    have HE1 := Lib.hid hE1; clear hE1
    go_enter Tryz.func59, Tryz.ntmps59
    go_wp2_with (first | (go_at_call 54; (with_reducible refine (c1 _).mono ?_); rintro e w' ⟨rfl, rfl⟩))
    go_ret2
    exact ⟨by rw [HE1.out]; rfl, Below.refl _ _⟩
  · have hg : K.escU (strB s) p = g := by
      rw [← hg]
      split
      · rename_i h1
        have hb := strB_bytes s (p + 1)
        rcases K.esc1_at _ hb.1 hb.2 with ⟨_, h⟩ | ⟨i, h⟩
        · rw [h]
        · exact absurd ⟨h1, i, h⟩ hshort
      · rfl
    rw [K.escU_eq] at hg
    have c2 := fun w hE => escaped_any s p w hsm hp hE
    obtain ⟨c, n, hcn⟩ : ∃ c n, K.escd (strB s) p = (c, n) := ⟨_, _, rfl⟩
    simp only [hcn] at c2 hg
    clear hcn
    have c3 : ∀ a n cap w, Row w .i64 a n cap [c] → Calls Tryz.prog 69 #[.slice a n cap] w fun e w' => e = .returned (.tuple #[.string (U.text [c]).1, .bool (U.text [c]).2]) ∧ Below w.heap.size w w' := fun a n cap w h => text_any a n cap [c] w h (by have := h.1; simp at this; omega)
    by_cases hs : U.size c = 0
    · rw [if_pos hs] at hg
      subst hg
      have ht : U.text [c] = (ByteArray.empty, false) := by unfold U.text U.okAll; simp [hs]
      simp only [ht] at c3
      rcases Nat.lt_or_ge (p + 1) s.size with h1 | h1
      · have hx := strB_at s (p + 1) h1
        have hb := strB_bytes s (p + 1)
        have hno : Lib.indexByte K.escB ((strB s)[p + 1]?.getD 0).toNat.toUInt8 = -1 := by
          rcases K.esc1_at _ hb.1 hb.2 with ⟨h, _⟩ | ⟨i, h⟩
          · exact h
          · exact absurd ⟨h1, i, h⟩ hshort
        rw [hx] at hno
        have c1 : ∀ w, Calls Tryz.prog 54 #[.string ⟨#[34, 92, 47, 98, 102, 110, 114, 116]⟩, .int .u8 (s[p + 1].toNat : Int)] w fun e w' => e = .returned (.int .i64 (-1)) ∧ w' = w := fun w => by
          have h := Tryz.strings_IndexByte ⟨#[34, 92, 47, 98, 102, 110, 114, 116]⟩ (s[p + 1].toNat : Int) w
          rw [show (ByteArray.mk #[34, 92, 47, 98, 102, 110, 114, 116]).data.toList = K.escB from rfl, hno] at h
          exact h
        have d1 : decide ((p : Int) + 1 < (s.size : Int)) = true := by simp; omega
        clear hx hno hshort hb
        go_enter Tryz.func59, Tryz.ntmps59
        go_wp2_with (first | (go_at_call 54; (with_reducible refine (c1 _).mono ?_); rintro e w' ⟨rfl, rfl⟩) | (go_at_call 68; (with_reducible refine (c2 _ hE).mono ?_); rintro e w1 ⟨rfl, hB1⟩; have hrow := row_built w1 .i64 3 [c] #[.int .i64 c] rfl 1 rfl (by decide) w1.heap.size rfl) | (go_at_call 69; (with_reducible refine (c3 _ _ _ _ hrow).mono ?_); rintro e w2 ⟨rfl, hB2⟩))
        go_ret2
        exact ⟨rfl, hB1.trans (((Below.refl _ w1).alloc (Nat.le_refl _) _).trans (hB2.mono (by simp)) |>.mono hB1.size)⟩
      · have c1 : True := trivial
        have d1 : decide ((p : Int) + 1 < (s.size : Int)) = false := by simp; omega
        clear hshort
        go_enter Tryz.func59, Tryz.ntmps59
        go_wp2_with (first | (go_at_call 54; (with_reducible refine (c1 _).mono ?_); rintro e w' ⟨rfl, rfl⟩) | (go_at_call 68; (with_reducible refine (c2 _ hE).mono ?_); rintro e w1 ⟨rfl, hB1⟩; have hrow := row_built w1 .i64 3 [c] #[.int .i64 c] rfl 1 rfl (by decide) w1.heap.size rfl) | (go_at_call 69; (with_reducible refine (c3 _ _ _ _ hrow).mono ?_); rintro e w2 ⟨rfl, hB2⟩))
        go_ret2
        exact ⟨rfl, hB1.trans (((Below.refl _ w1).alloc (Nat.le_refl _) _).trans (hB2.mono (by simp)) |>.mono hB1.size)⟩
    · rw [if_neg hs] at hg
      subst hg
      have ht : U.text [c] = (strOfNums (U.put c), true) := by unfold U.text U.okAll; simp [hs]
      simp only [ht] at c3
      rcases Nat.lt_or_ge (p + 1) s.size with h1 | h1
      · have hx := strB_at s (p + 1) h1
        have hb := strB_bytes s (p + 1)
        have hno : Lib.indexByte K.escB ((strB s)[p + 1]?.getD 0).toNat.toUInt8 = -1 := by
          rcases K.esc1_at _ hb.1 hb.2 with ⟨h, _⟩ | ⟨i, h⟩
          · exact h
          · exact absurd ⟨h1, i, h⟩ hshort
        rw [hx] at hno
        have c1 : ∀ w, Calls Tryz.prog 54 #[.string ⟨#[34, 92, 47, 98, 102, 110, 114, 116]⟩, .int .u8 (s[p + 1].toNat : Int)] w fun e w' => e = .returned (.int .i64 (-1)) ∧ w' = w := fun w => by
          have h := Tryz.strings_IndexByte ⟨#[34, 92, 47, 98, 102, 110, 114, 116]⟩ (s[p + 1].toNat : Int) w
          rw [show (ByteArray.mk #[34, 92, 47, 98, 102, 110, 114, 116]).data.toList = K.escB from rfl, hno] at h
          exact h
        have d1 : decide ((p : Int) + 1 < (s.size : Int)) = true := by simp; omega
        clear hx hno hshort hb
        go_enter Tryz.func59, Tryz.ntmps59
        go_wp2_with (first | (go_at_call 54; (with_reducible refine (c1 _).mono ?_); rintro e w' ⟨rfl, rfl⟩) | (go_at_call 68; (with_reducible refine (c2 _ hE).mono ?_); rintro e w1 ⟨rfl, hB1⟩; have hrow := row_built w1 .i64 3 [c] #[.int .i64 c] rfl 1 rfl (by decide) w1.heap.size rfl) | (go_at_call 69; (with_reducible refine (c3 _ _ _ _ hrow).mono ?_); rintro e w2 ⟨rfl, hB2⟩))
        go_ret2
        exact ⟨rfl, hB1.trans (((Below.refl _ w1).alloc (Nat.le_refl _) _).trans (hB2.mono (by simp)) |>.mono hB1.size)⟩
      · have c1 : True := trivial
        have d1 : decide ((p : Int) + 1 < (s.size : Int)) = false := by simp; omega
        clear hshort
        go_enter Tryz.func59, Tryz.ntmps59
        go_wp2_with (first | (go_at_call 54; (with_reducible refine (c1 _).mono ?_); rintro e w' ⟨rfl, rfl⟩) | (go_at_call 68; (with_reducible refine (c2 _ hE).mono ?_); rintro e w1 ⟨rfl, hB1⟩; have hrow := row_built w1 .i64 3 [c] #[.int .i64 c] rfl 1 rfl (by decide) w1.heap.size rfl) | (go_at_call 69; (with_reducible refine (c3 _ _ _ _ hrow).mono ?_); rintro e w2 ⟨rfl, hB2⟩))
        go_ret2
        exact ⟨rfl, hB1.trans (((Below.refl _ w1).alloc (Nat.le_refl _) _).trans (hB2.mono (by simp)) |>.mono hB1.size)⟩
end Go.Proofs.YtpiajoffddjjfaaGreatDoor
