/- Package bin: a reader's Byte, Num, Long, Text; Read. -/
import Derived.Test.YtihpalbmkcoalaaBinTake
namespace Go.Proofs.Ytihpalbmkcoalaa
open Go.RowKit Go.Shelf
attribute [local go_sem] Oper.semAt_some
theorem bytes_take {l : List Int} (h : Bytes l) (n : Nat) : Bytes (l.take n) := by
  intro i
  rw [List.getElem?_take]
  split
  · exact h i
  · simp
theorem jn_small {l : List Int} (h : Bytes l) (n : Nat) (hn : n ≤ l.length) : Bn.jn (l.take n) < 256 ^ n := by
  have := Bn.jn_lt (l.take n) fun x hx => bytes_all h x (List.mem_of_mem_take hx)
  rwa [List.length_take, Nat.min_eq_left hn] at this
set_option maxHeartbeats 1000000 in
theorem byte1_any (a : Option Addr) (c : Nat) (t : List Int) (w : World) (h : Row w .u8 a 1 c t) (hb : Bytes t) (hj : Bn.jn t < 256) :
    Calls Try.prog 47 #[.slice a 1 c] w fun e w' => e = .returned (.tuple #[.int .i64 (Bn.jn t : Nat), .bool true]) ∧ w = w' := by
  have hJ := join_any a 1 c t w h hb (by omega)
  generalize Bn.jn t = m at *
  go_enter Try.func47, Try.ntmps47
  go_wp2_with (first | (go_at_call 48; (with_reducible refine hJ.mono ?_); rintro e w' ⟨rfl, rfl⟩))
  go_ret2
  exact ⟨rfl, rfl⟩
set_option maxHeartbeats 1000000 in
theorem num1_any (a : Option Addr) (c : Nat) (t : List Int) (w : World) (h : Row w .u8 a 4 c t) (hb : Bytes t) (hj : Bn.jn t < 4294967296) :
    Calls Try.prog 49 #[.slice a 4 c] w fun e w' => e = .returned (.tuple #[.int .i64 (Bn.jn t : Nat), .bool (decide (Bn.jn t ≤ 2147483647))]) ∧ w = w' := by
  have hJ := join_any a 4 c t w h hb (by omega)
  generalize Bn.jn t = m at *
  by_cases hm : m ≤ 2147483647
  · have hd : decide ((m : Int) ≤ 2147483647) = true := by simp; omega
    rw [decide_eq_true hm]
    go_enter Try.func49, Try.ntmps49
    go_wp2_with (first | (go_at_call 48; (with_reducible refine hJ.mono ?_); rintro e w' ⟨rfl, rfl⟩))
    go_ret2
    exact ⟨rfl, rfl⟩
  · have hd : decide ((m : Int) ≤ 2147483647) = false := by simp; omega
    rw [decide_eq_false hm]
    go_enter Try.func49, Try.ntmps49
    go_wp2_with (first | (go_at_call 48; (with_reducible refine hJ.mono ?_); rintro e w' ⟨rfl, rfl⟩))
    go_ret2
    exact ⟨rfl, rfl⟩
set_option maxHeartbeats 1000000 in
theorem long1_any (a : Option Addr) (c : Nat) (t : List Int) (w : World) (h : Row w .u8 a 8 c t) (hb : Bytes t) :
    Calls Try.prog 51 #[.slice a 8 c] w fun e w' => e = .returned (.tuple #[.int .i64 (IntKind.i64.wrap (Bn.jn t : Nat)), .bool true]) ∧ w = w' := by
  have hJ := join_any a 8 c t w h hb (by omega)
  generalize Bn.jn t = m at *
  go_enter Try.func51, Try.ntmps51
  go_wp2_with (first | (go_at_call 48; (with_reducible refine hJ.mono ?_); rintro e w' ⟨rfl, rfl⟩))
  go_ret2
  exact ⟨by rw [show IntKind.i64.wrap (m : Int) = wrap64 (m : Int) by rw [IntKind.wrap_i64]; unfold wrap64; omega]; rfl, rfl⟩
set_option maxHeartbeats 1000000 in
theorem text1_any (a : Option Addr) (n c : Nat) (t : List Int) (w : World) (h : Row w .u8 a n c t) :
    Calls Try.prog 53 #[.slice a n c] w fun e w' => e = .returned (.tuple #[.string (strOfNums t), .bool true]) ∧ w = w' := by
  have hC := conv_row h
  generalize strOfNums t = s at *
  go_enter Try.func53, Try.ntmps53
  go_wp2_with fail
  go_ret2
  exact ⟨rfl, rfl⟩
/-- what a call on a reader answers: a number, the reader as it is then, nothing else turned -/
def RdInt (p : Nat) (w : World) (x : Int) (s : Bn.St) (e : Ending) (w' : World) : Prop := e = .returned (.int .i64 x) ∧ RD w' p s ∧ w.grownBy w' (some p)
set_option maxHeartbeats 1000000 in
theorem rdByte_any (p : Nat) (s : Bn.St) (w : World) (h : RD w p s) : Calls Try.prog 23 #[.pointer (some ⟨p, 0, none⟩)] w (RdInt p w (Bn.rByte s).1 (Bn.rByte s).2) := by
  have key : Calls Try.prog 46 #[.pointer (some ⟨p, 0, none⟩), .int .i64 1, .func (.func 47) #[] #[]] w (RdInt p w (Bn.rByte s).1 (Bn.rByte s).2) := by
    by_cases hs : s = none ∨ (Bn.lf s).length < 1
    · have := takeInt_short (.func (.func 47) #[] #[]) 1 p s w h hs
      have e : Bn.rByte s = (0, none) := by
        rcases hs with rfl | hs
        · rfl
        · cases s with
          | none => rfl
          | some l => simp only [Bn.rByte, Bn.num]; rw [if_neg (by simp only [Bn.lf] at hs; omega)]
      rw [e]; exact this
    · obtain ⟨l, rfl⟩ : ∃ l, s = some l := by
        cases s with
        | none => exact absurd (.inl rfl) hs
        | some l => exact ⟨l, rfl⟩
      have hl : 1 ≤ l.length := by
        rcases Nat.lt_or_ge l.length 1 with h1 | h1
        · exact absurd (.inr h1) hs
        · exact h1
      obtain ⟨_, _, _, _, hb, _⟩ := id h
      simp only [Bn.lf] at hb
      have hj := jn_small hb 1 hl
      have e : Bn.rByte (some l) = (Bn.jn (l.take 1), some (l.drop 1)) := by simp only [Bn.rByte, Bn.num]; rw [if_pos hl]
      rw [e]
      exact takeInt_ok 47 (.inl rfl) 1 (Bn.jn (l.take 1) : Nat) true p l w h hl fun W a c hr => byte1_any a c _ W hr (bytes_take hb 1) hj
  generalize Bn.rByte s = r at *
  clear h
  go_enter Try.func23, Try.ntmps23
  go_wp2_with (first | (go_at_call 46; (with_reducible refine key.mono ?_); rintro e w' ⟨rfl, hR, hG⟩))
  go_ret
  exact ⟨rfl, hR, hG⟩
set_option maxHeartbeats 1000000 in
theorem rdNum_any (p : Nat) (s : Bn.St) (w : World) (h : RD w p s) : Calls Try.prog 24 #[.pointer (some ⟨p, 0, none⟩)] w (RdInt p w (Bn.rNum s).1 (Bn.rNum s).2) := by
  have key : Calls Try.prog 46 #[.pointer (some ⟨p, 0, none⟩), .int .i64 4, .func (.func 49) #[] #[]] w (RdInt p w (Bn.rNum s).1 (Bn.rNum s).2) := by
    by_cases hs : s = none ∨ (Bn.lf s).length < 4
    · have := takeInt_short (.func (.func 49) #[] #[]) 4 p s w h hs
      have e : Bn.rNum s = (0, none) := by
        have e1 : Bn.num 4 s = (0, none) := by
          rcases hs with rfl | hs
          · rfl
          · cases s with
            | none => rfl
            | some l => simp only [Bn.num]; rw [if_neg (by simp only [Bn.lf] at hs; omega)]
        unfold Bn.rNum; rw [e1]; rfl
      rw [e]; exact this
    · obtain ⟨l, rfl⟩ : ∃ l, s = some l := by
        cases s with
        | none => exact absurd (.inl rfl) hs
        | some l => exact ⟨l, rfl⟩
      have hl : 4 ≤ l.length := by
        rcases Nat.lt_or_ge l.length 4 with h1 | h1
        · exact absurd (.inr h1) hs
        · exact h1
      obtain ⟨_, _, _, _, hb, _⟩ := id h
      simp only [Bn.lf] at hb
      have hj := jn_small hb 4 hl
      have e1 : Bn.num 4 (some l) = (Bn.jn (l.take 4), some (l.drop 4)) := by simp only [Bn.num]; rw [if_pos hl]
      have hk := takeInt_ok 49 (.inr rfl) 4 (Bn.jn (l.take 4) : Nat) (decide (Bn.jn (l.take 4) ≤ 2147483647)) p l w h hl fun W a c hr => num1_any a c _ W hr (bytes_take hb 4) (by omega)
      refine hk.mono ?_
      rintro e w' ⟨rfl, hR, hG⟩
      unfold Bn.rNum
      rw [e1]
      by_cases hm : Bn.jn (l.take 4) ≤ 2147483647
      · rw [if_neg (by show ¬ 2147483647 < Bn.jn (l.take 4); omega)]
        simp only [hm, decide_true, if_true] at hR ⊢
        exact ⟨rfl, hR, hG⟩
      · rw [if_pos (by show 2147483647 < Bn.jn (l.take 4); omega)]
        simp only [hm, decide_false, Bool.false_eq_true, if_false] at hR ⊢
        exact ⟨rfl, hR, hG⟩
  generalize Bn.rNum s = r at *
  clear h
  go_enter Try.func24, Try.ntmps24
  go_wp2_with (first | (go_at_call 46; (with_reducible refine key.mono ?_); rintro e w' ⟨rfl, hR, hG⟩))
  go_ret
  exact ⟨rfl, hR, hG⟩
set_option maxHeartbeats 1000000 in
theorem rdLong_any (p : Nat) (s : Bn.St) (w : World) (h : RD w p s) : Calls Try.prog 25 #[.pointer (some ⟨p, 0, none⟩)] w (RdInt p w (Bn.rLong s).1 (Bn.rLong s).2) := by
  have key : Calls Try.prog 50 #[.pointer (some ⟨p, 0, none⟩), .int .i64 8, .func (.func 51) #[] #[]] w (RdInt p w (Bn.rLong s).1 (Bn.rLong s).2) := by
    by_cases hs : s = none ∨ (Bn.lf s).length < 8
    · have := takeLong_short (.func (.func 51) #[] #[]) 8 p s w h hs
      have e : Bn.rLong s = (0, none) := by
        have e1 : Bn.num 8 s = (0, none) := by
          rcases hs with rfl | hs
          · rfl
          · cases s with
            | none => rfl
            | some l => simp only [Bn.num]; rw [if_neg (by simp only [Bn.lf] at hs; omega)]
        unfold Bn.rLong; rw [e1]; rfl
      rw [e]; exact this
    · obtain ⟨l, rfl⟩ : ∃ l, s = some l := by
        cases s with
        | none => exact absurd (.inl rfl) hs
        | some l => exact ⟨l, rfl⟩
      have hl : 8 ≤ l.length := by
        rcases Nat.lt_or_ge l.length 8 with h1 | h1
        · exact absurd (.inr h1) hs
        · exact h1
      obtain ⟨_, _, _, _, hb, _⟩ := id h
      simp only [Bn.lf] at hb
      have e : Bn.rLong (some l) = (IntKind.i64.wrap (Bn.jn (l.take 8) : Nat), some (l.drop 8)) := by simp only [Bn.rLong, Bn.num]; rw [if_pos hl]
      rw [e]
      exact takeLong_ok 51 rfl 8 _ true p l w h hl fun W a c hr => long1_any a c _ W hr (bytes_take hb 8)
  generalize Bn.rLong s = r at *
  clear h
  go_enter Try.func25, Try.ntmps25
  go_wp2_with (first | (go_at_call 50; (with_reducible refine key.mono ?_); rintro e w' ⟨rfl, hR, hG⟩))
  go_ret
  exact ⟨rfl, hR, hG⟩
set_option maxHeartbeats 1000000 in
theorem rdText_any (p : Nat) (s : Bn.St) (w : World) (h : RD w p s) : Calls Try.prog 26 #[.pointer (some ⟨p, 0, none⟩)] w fun e w' => e = .returned (.string (Bn.rText s).1) ∧ RD w' p (Bn.rText s).2 ∧ w.grownBy w' (some p) := by
  have hN := rdNum_any p s w h
  have key : ∀ W, RD W p (Bn.rNum s).2 → Calls Try.prog 52 #[.pointer (some ⟨p, 0, none⟩), .int .i64 ((Bn.rNum s).1 : Nat), .func (.func 53) #[] #[]] W fun e w' => e = .returned (.string (Bn.rText s).1) ∧ RD w' p (Bn.rText s).2 ∧ W.grownBy w' (some p) := by
    intro W hW
    unfold Bn.rText
    generalize (Bn.rNum s).1 = n
    generalize (Bn.rNum s).2 = s1 at *
    by_cases hs : s1 = none ∨ (Bn.lf s1).length < n
    · have := takeStr_short (.func (.func 53) #[] #[]) n p s1 W hW hs
      have e : Bn.txt n s1 = (⟨#[]⟩, none) := by
        rcases hs with rfl | hs
        · rfl
        · cases s1 with
          | none => rfl
          | some l => simp only [Bn.txt]; rw [if_neg (by simp only [Bn.lf] at hs; omega)]
      rw [e]; exact this
    · obtain ⟨l, rfl⟩ : ∃ l, s1 = some l := by
        cases s1 with
        | none => exact absurd (.inl rfl) hs
        | some l => exact ⟨l, rfl⟩
      have hl : n ≤ l.length := by
        rcases Nat.lt_or_ge l.length n with h1 | h1
        · exact absurd (.inr h1) hs
        · exact h1
      have e : Bn.txt n (some l) = (strOfNums (l.take n), some (l.drop n)) := by simp only [Bn.txt]; rw [if_pos hl]
      rw [e]
      exact takeStr_ok 53 rfl n _ true p l W hW hl fun W a c hr => text1_any a n c _ W hr
  generalize Bn.rNum s = r at *
  generalize Bn.rText s = t at *
  have HK := Lib.hid key
  clear h key
  go_enter Try.func26, Try.ntmps26
  go_wp2_with (first | (go_at_call 24; (with_reducible refine hN.mono ?_); rintro e w1 ⟨rfl, hR1, hG1⟩) | (go_at_call 52; (with_reducible refine (HK.out _ hR1).mono ?_); rintro e w' ⟨rfl, hR, hG⟩))
  go_ret
  exact ⟨rfl, hR, grown_then hG1 hG⟩
theorem rdByte_nil (w : World) : Calls Try.prog 23 #[.pointer none] w fun e w' => e = .returned (.int .i64 0) ∧ w = w' := by
  have key : Calls Try.prog 46 #[.pointer none, .int .i64 1, .func (.func 47) #[] #[]] w fun e w' => e = .returned (.int .i64 0) ∧ w = w' := takeInt_nil _ 1 w
  go_enter Try.func23, Try.ntmps23
  go_wp2_with (first | (go_at_call 46; (with_reducible refine key.mono ?_); rintro e w' ⟨rfl, rfl⟩))
  go_ret
  exact ⟨rfl, rfl⟩
theorem rdNum_nil (w : World) : Calls Try.prog 24 #[.pointer none] w fun e w' => e = .returned (.int .i64 0) ∧ w = w' := by
  have key : Calls Try.prog 46 #[.pointer none, .int .i64 4, .func (.func 49) #[] #[]] w fun e w' => e = .returned (.int .i64 0) ∧ w = w' := takeInt_nil _ 4 w
  go_enter Try.func24, Try.ntmps24
  go_wp2_with (first | (go_at_call 46; (with_reducible refine key.mono ?_); rintro e w' ⟨rfl, rfl⟩))
  go_ret
  exact ⟨rfl, rfl⟩
theorem rdLong_nil (w : World) : Calls Try.prog 25 #[.pointer none] w fun e w' => e = .returned (.int .i64 0) ∧ w = w' := by
  have key : Calls Try.prog 50 #[.pointer none, .int .i64 8, .func (.func 51) #[] #[]] w fun e w' => e = .returned (.int .i64 0) ∧ w = w' := takeLong_nil _ 8 w
  go_enter Try.func25, Try.ntmps25
  go_wp2_with (first | (go_at_call 50; (with_reducible refine key.mono ?_); rintro e w' ⟨rfl, rfl⟩))
  go_ret
  exact ⟨rfl, rfl⟩
theorem rdText_nil (w : World) : Calls Try.prog 26 #[.pointer none] w fun e w' => e = .returned (.string ⟨#[]⟩) ∧ w = w' := by
  have hN := rdNum_nil w
  have key : Calls Try.prog 52 #[.pointer none, .int .i64 0, .func (.func 53) #[] #[]] w fun e w' => e = .returned (.string ⟨#[]⟩) ∧ w = w' := takeStr_nil _ 0 w
  go_enter Try.func26, Try.ntmps26
  go_wp2_with (first | (go_at_call 24; (with_reducible refine hN.mono ?_); rintro e w1 ⟨rfl, rfl⟩) | (go_at_call 52; (with_reducible refine key.mono ?_); rintro e w' ⟨rfl, rfl⟩))
  go_ret
  exact ⟨rfl, rfl⟩
end Go.Proofs.Ytihpalbmkcoalaa
