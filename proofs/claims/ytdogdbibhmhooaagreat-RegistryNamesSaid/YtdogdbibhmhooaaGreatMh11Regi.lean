/- Package bin: a reader's Byte, Num, Long, Text; Read. -/
import Derived.Test.YtdogdbibhmhooaaGreatMh10Regi
import Derived.Test.YtdogdbibhmhooaaGreatMh9Regi
import Derived.Test.YtdogdbibhmhooaaGreatMh0Regi
import Derived.Lib.UnsafeStr
import Derived.Lib.Strings
import Derived.Lib.BufferWrite
import Derived.Laws.MakeOwn
import Derived.Deep.RegionHeld3
import Derived.Deep.DeepCutAuto
namespace Go.Proofs.YtdogdbibhmhooaaGreat
open Go.RowKit Go.Shelf
attribute [local go_sem] Oper.semAt_some
theorem bytes_take {l : List Int} (h : Bytes l) (n : Nat) : Bytes (l.take n) := by
  intro i
  rw [List.getElem?_take]
  split
  · exact h i
  · simp
theorem jn_small {l : List Int} (h : Bytes l) (n : Nat) (hn : n ≤ l.length) : Bn.jn (l.take n) < 256 ^ n := by
  have := Bn.jn_lt (l.take n) fun x hx => bytes_all h x (List.mem_of_mem_take hx)
  rwa [List.length_take, Nat.min_eq_left hn] at this
set_option maxHeartbeats 1000000 in
theorem byte1_any (a : Option Addr) (c : Nat) (t : List Int) (w : World) (h : Row w .u8 a 1 c t) (hb : Bytes t) (hj : Bn.jn t < 256) :
    Calls Tryz.prog 125 #[.slice a 1 c] w fun e w' => e = .returned (.tuple #[.int .i64 (Bn.jn t : Nat), .bool true]) ∧ w = w' := by
  have hJ := join_any a 1 c t w h hb (by omega)
  generalize Bn.jn t = m at *
  go_enter Tryz.func125, Tryz.ntmps125
  go_wp2_with (first | (go_at_call 103; (with_reducible refine hJ.mono ?_); rintro e w' ⟨rfl, rfl⟩))
  go_ret2
  exact ⟨rfl, rfl⟩
set_option maxHeartbeats 1000000 in
theorem num1_any (a : Option Addr) (c : Nat) (t : List Int) (w : World) (h : Row w .u8 a 4 c t) (hb : Bytes t) (hj : Bn.jn t < 4294967296) :
    Calls Tryz.prog 102 #[.slice a 4 c] w fun e w' => e = .returned (.tuple #[.int .i64 (Bn.jn t : Nat), .bool (decide (Bn.jn t ≤ 2147483647))]) ∧ w = w' := by
  have hJ := join_any a 4 c t w h hb (by omega)
  generalize Bn.jn t = m at *
  by_cases hm : m ≤ 2147483647
  · have hd : decide ((m : Int) ≤ 2147483647) = true := by simp; omega
    rw [decide_eq_true hm]
    go_enter Tryz.func102, Tryz.ntmps102
    go_wp2_with (first | (go_at_call 103; (with_reducible refine hJ.mono ?_); rintro e w' ⟨rfl, rfl⟩))
    go_ret2
    exact ⟨rfl, rfl⟩
  · have hd : decide ((m : Int) ≤ 2147483647) = false := by simp; omega
    rw [decide_eq_false hm]
    go_enter Tryz.func102, Tryz.ntmps102
    go_wp2_with (first | (go_at_call 103; (with_reducible refine hJ.mono ?_); rintro e w' ⟨rfl, rfl⟩))
    go_ret2
    exact ⟨rfl, rfl⟩
set_option maxHeartbeats 1000000 in
theorem long1_any (a : Option Addr) (c : Nat) (t : List Int) (w : World) (h : Row w .u8 a 8 c t) (hb : Bytes t) :
    Calls Tryz.prog 149 #[.slice a 8 c] w fun e w' => e = .returned (.tuple #[.int .i64 (IntKind.i64.wrap (Bn.jn t : Nat)), .bool true]) ∧ w = w' := by
  have hJ := join_any a 8 c t w h hb (by omega)
  generalize Bn.jn t = m at *
  go_enter Tryz.func149, Tryz.ntmps149
  go_wp2_with (first | (go_at_call 103; (with_reducible refine hJ.mono ?_); rintro e w' ⟨rfl, rfl⟩))
  go_ret2
  exact ⟨by rw [show IntKind.i64.wrap (m : Int) = wrap64 (m : Int) by rw [IntKind.wrap_i64]; unfold wrap64; omega]; rfl, rfl⟩
set_option maxHeartbeats 1000000 in
theorem text1_any (a : Option Addr) (n c : Nat) (t : List Int) (w : World) (h : Row w .u8 a n c t) :
    Calls Tryz.prog 105 #[.slice a n c] w fun e w' => e = .returned (.tuple #[.string (strOfNums t), .bool true]) ∧ w = w' := by
  have hC := conv_row h
  generalize strOfNums t = s at *
  go_enter Tryz.func105, Tryz.ntmps105
  go_wp2_with fail
  go_ret2
  exact ⟨rfl, rfl⟩
/-- what a call on a reader answers: a number, the reader as it is then, nothing else turned -/
def RdInt (p : Nat) (w : World) (x : Int) (s : Bn.St) (e : Ending) (w' : World) : Prop := e = .returned (.int .i64 x) ∧ RD w' p s ∧ w.grownBy w' (some p)
set_option maxHeartbeats 1000000 in
theorem rdByte_any (p : Nat) (s : Bn.St) (w : World) (h : RD w p s) : Calls Tryz.prog 106 #[.pointer (some ⟨p, 0, none⟩)] w (RdInt p w (Bn.rByte s).1 (Bn.rByte s).2) := by
  have key : Calls Tryz.prog 101 #[.pointer (some ⟨p, 0, none⟩), .int .i64 1, .func (.func 125) #[] #[]] w (RdInt p w (Bn.rByte s).1 (Bn.rByte s).2) := by
    by_cases hs : s = none ∨ (Bn.lf s).length < 1
    · have := takeInt_short (.func (.func 125) #[] #[]) 1 p s w h hs
      have e : Bn.rByte s = (0, none) := by
        rcases hs with rfl | hs
        · rfl
        · cases s with
          | none => rfl
          | some l => simp only [Bn.rByte, Bn.num]; rw [if_neg (by simp only [Bn.lf] at hs; omega)]
      rw [e]; exact this
    · obtain ⟨l, rfl⟩ : ∃ l, s = some l := by
        cases s with
        | none => exact absurd (.inl rfl) hs
        | some l => exact ⟨l, rfl⟩
      have hl : 1 ≤ l.length := by
        rcases Nat.lt_or_ge l.length 1 with h1 | h1
        · exact absurd (.inr h1) hs
        · exact h1
      obtain ⟨_, _, _, _, hb, _⟩ := id h
      simp only [Bn.lf] at hb
      have hj := jn_small hb 1 hl
      have e : Bn.rByte (some l) = (Bn.jn (l.take 1), some (l.drop 1)) := by simp only [Bn.rByte, Bn.num]; rw [if_pos hl]
      rw [e]
      exact takeInt_ok 125 (.inl rfl) 1 (Bn.jn (l.take 1) : Nat) true p l w h hl fun W a c hr => byte1_any a c _ W hr (bytes_take hb 1) hj
  generalize Bn.rByte s = r at *
  clear h
  go_enter Tryz.func106, Tryz.ntmps106
  go_wp2_with (first | (go_at_call 101; (with_reducible refine key.mono ?_); rintro e w' ⟨rfl, hR, hG⟩))
  go_ret
  exact ⟨rfl, hR, hG⟩
set_option maxHeartbeats 1000000 in
theorem rdNum_any (p : Nat) (s : Bn.St) (w : World) (h : RD w p s) : Calls Tryz.prog 73 #[.pointer (some ⟨p, 0, none⟩)] w (RdInt p w (Bn.rNum s).1 (Bn.rNum s).2) := by
  have key : Calls Tryz.prog 101 #[.pointer (some ⟨p, 0, none⟩), .int .i64 4, .func (.func 102) #[] #[]] w (RdInt p w (Bn.rNum s).1 (Bn.rNum s).2) := by
    by_cases hs : s = none ∨ (Bn.lf s).length < 4
    · have := takeInt_short (.func (.func 102) #[] #[]) 4 p s w h hs
      have e : Bn.rNum s = (0, none) := by
        have e1 : Bn.num 4 s = (0, none) := by
          rcases hs with rfl | hs
          · rfl
          · cases s with
            | none => rfl
            | some l => simp only [Bn.num]; rw [if_neg (by simp only [Bn.lf] at hs; omega)]
        unfold Bn.rNum; rw [e1]; rfl
      rw [e]; exact this
    · obtain ⟨l, rfl⟩ : ∃ l, s = some l := by
        cases s with
        | none => exact absurd (.inl rfl) hs
        | some l => exact ⟨l, rfl⟩
      have hl : 4 ≤ l.length := by
        rcases Nat.lt_or_ge l.length 4 with h1 | h1
        · exact absurd (.inr h1) hs
        · exact h1
      obtain ⟨_, _, _, _, hb, _⟩ := id h
      simp only [Bn.lf] at hb
      have hj := jn_small hb 4 hl
      have e1 : Bn.num 4 (some l) = (Bn.jn (l.take 4), some (l.drop 4)) := by simp only [Bn.num]; rw [if_pos hl]
      have hk := takeInt_ok 102 (.inr rfl) 4 (Bn.jn (l.take 4) : Nat) (decide (Bn.jn (l.take 4) ≤ 2147483647)) p l w h hl fun W a c hr => num1_any a c _ W hr (bytes_take hb 4) (by omega)
      refine hk.mono ?_
      rintro e w' ⟨rfl, hR, hG⟩
      unfold Bn.rNum
      rw [e1]
      by_cases hm : Bn.jn (l.take 4) ≤ 2147483647
      · rw [if_neg (by show ¬ 2147483647 < Bn.jn (l.take 4); omega)]
        simp only [hm, decide_true, if_true] at hR ⊢
        exact ⟨rfl, hR, hG⟩
      · rw [if_pos (by show 2147483647 < Bn.jn (l.take 4); omega)]
        simp only [hm, decide_false, Bool.false_eq_true, if_false] at hR ⊢
        exact ⟨rfl, hR, hG⟩
  generalize Bn.rNum s = r at *
  clear h
  go_enter Tryz.func73, Tryz.ntmps73
  go_wp2_with (first | (go_at_call 101; (with_reducible refine key.mono ?_); rintro e w' ⟨rfl, hR, hG⟩))
  go_ret
  exact ⟨rfl, hR, hG⟩
set_option maxHeartbeats 1000000 in
theorem rdLong_any (p : Nat) (s : Bn.St) (w : World) (h : RD w p s) : Calls Tryz.prog 135 #[.pointer (some ⟨p, 0, none⟩)] w (RdInt p w (Bn.rLong s).1 (Bn.rLong s).2) := by
  have key : Calls Tryz.prog 148 #[.pointer (some ⟨p, 0, none⟩), .int .i64 8, .func (.func 149) #[] #[]] w (RdInt p w (Bn.rLong s).1 (Bn.rLong s).2) := by
    by_cases hs : s = none ∨ (Bn.lf s).length < 8
    · have := takeLong_short (.func (.func 149) #[] #[]) 8 p s w h hs
      have e : Bn.rLong s = (0, none) := by
        have e1 : Bn.num 8 s = (0, none) := by
          rcases hs with rfl | hs
          · rfl
          · cases s with
            | none => rfl
            | some l => simp only [Bn.num]; rw [if_neg (by simp only [Bn.lf] at hs; omega)]
        unfold Bn.rLong; rw [e1]; rfl
      rw [e]; exact this
    · obtain ⟨l, rfl⟩ : ∃ l, s = some l := by
        cases s with
        | none => exact absurd (.inl rfl) hs
        | some l => exact ⟨l, rfl⟩
      have hl : 8 ≤ l.length := by
        rcases Nat.lt_or_ge l.length 8 with h1 | h1
        · exact absurd (.inr h1) hs
        · exact h1
      obtain ⟨_, _, _, _, hb, _⟩ := id h
      simp only [Bn.lf] at hb
      have e : Bn.rLong (some l) = (IntKind.i64.wrap (Bn.jn (l.take 8) : Nat), some (l.drop 8)) := by simp only [Bn.rLong, Bn.num]; rw [if_pos hl]
      rw [e]
      exact takeLong_ok 149 rfl 8 _ true p l w h hl fun W a c hr => long1_any a c _ W hr (bytes_take hb 8)
  generalize Bn.rLong s = r at *
  clear h
  go_enter Tryz.func135, Tryz.ntmps135
  go_wp2_with (first | (go_at_call 148; (with_reducible refine key.mono ?_); rintro e w' ⟨rfl, hR, hG⟩))
  go_ret
  exact ⟨rfl, hR, hG⟩
set_option maxHeartbeats 1000000 in
theorem rdText_any (p : Nat) (s : Bn.St) (w : World) (h : RD w p s) : Calls Tryz.prog 74 #[.pointer (some ⟨p, 0, none⟩)] w fun e w' => e = .returned (.string (Bn.rText s).1) ∧ RD w' p (Bn.rText s).2 ∧ w.grownBy w' (some p) := by
  have hN := rdNum_any p s w h
  have key : ∀ W, RD W p (Bn.rNum s).2 → Calls Tryz.prog 104 #[.pointer (some ⟨p, 0, none⟩), .int .i64 ((Bn.rNum s).1 : Nat), .func (.func 105) #[] #[]] W fun e w' => e = .returned (.string (Bn.rText s).1) ∧ RD w' p (Bn.rText s).2 ∧ W.grownBy w' (some p) := by
    intro W hW
    unfold Bn.rText
    generalize (Bn.rNum s).1 = n
    generalize (Bn.rNum s).2 = s1 at *
    by_cases hs : s1 = none ∨ (Bn.lf s1).length < n
    · have := takeStr_short (.func (.func 105) #[] #[]) n p s1 W hW hs
      have e : Bn.txt n s1 = (⟨#[]⟩, none) := by
        rcases hs with rfl | hs
        · rfl
        · cases s1 with
          | none => rfl
          | some l => simp only [Bn.txt]; rw [if_neg (by simp only [Bn.lf] at hs; omega)]
      rw [e]; exact this
    · obtain ⟨l, rfl⟩ : ∃ l, s1 = some l := by
        cases s1 with
        | none => exact absurd (.inl rfl) hs
        | some l => exact ⟨l, rfl⟩
      have hl : n ≤ l.length := by
        rcases Nat.lt_or_ge l.length n with h1 | h1
        · exact absurd (.inr h1) hs
        · exact h1
      have e : Bn.txt n (some l) = (strOfNums (l.take n), some (l.drop n)) := by simp only [Bn.txt]; rw [if_pos hl]
      rw [e]
      exact takeStr_ok 105 rfl n _ true p l W hW hl fun W a c hr => text1_any a n c _ W hr
  generalize Bn.rNum s = r at *
  generalize Bn.rText s = t at *
  have HK := Lib.hid key
  clear h key
  go_enter Tryz.func74, Tryz.ntmps74
  go_wp2_with (first | (go_at_call 73; (with_reducible refine hN.mono ?_); rintro e w1 ⟨rfl, hR1, hG1⟩) | (go_at_call 104; (with_reducible refine (HK.out _ hR1).mono ?_); rintro e w' ⟨rfl, hR, hG⟩))
  go_ret
  exact ⟨rfl, hR, grown_then hG1 hG⟩
end Go.Proofs.YtdogdbibhmhooaaGreat

/- Package bin: Read (bytes.Clone). -/
namespace Go.Proofs.YtdogdbibhmhooaaGreat
open Go.RowKit Go.Shelf
attribute [local go_sem] Oper.semAt_some
set_option maxRecDepth 100000 in
set_option maxHeartbeats 1000000 in
theorem bclone_any (a : Option Addr) (n c : Nat) (l : List Int) (w : World) (h : Row w .u8 a n c l) (hn : n ≤ 1000000000) : Calls Tryz.prog 43 #[.slice a n c] w (Got w l) := by
  obtain ⟨i0, hi, hz0, hz1, hz2⟩ := info_parts info_u8
  have hnil := fun w a n c => Lib.run_eql_slice_nil (P := Tryz.prog) w 26 5 a n c 0 0 Tryz.underlying26
  have hlen := h.1
  cases a with
  | none =>
    obtain rfl : n = 0 := by rcases h.2.2.2 with h | ⟨_, _, h, _⟩ <;> first | exact h | cases h
    obtain rfl : l = [] := List.length_eq_zero_iff.1 hlen
    clear hi
    go_enter Tryz.func43, Tryz.ntmps43
    go_wp2
    go_ret
    exact ⟨_, rfl, World.ownsRow_nil _ _ _ _, Below.refl _ _⟩
  | some ad =>
    have hA := (Below.refl _ w).alloc (Nat.le_refl _) (.cells #[] 5)
    have hr := row_below h hA rfl
    have ho := owns_built w [] 5 0 rfl (by unfold maxLen; omega)
    have HR := Lib.hid hr; have HL := Lib.hid hlen
    clear h hr hlen
    go_enter Tryz.func43, Tryz.ntmps43
    go_wp2_with (first
      | (at_builtin; refine wpList_append_cells _ rfl _ _ 26 rfl w.heap.size 5 i0 (.int .u8 0) 1 1 Tryz.underlying26 hi hz0 hz1 hz2 rfl (by decide) (.slice (some ⟨w.heap.size, 0, none⟩) 0 0) 0 [] rfl ho (some ad) n c (u8s l) rfl (cells_of_row HR.out) (by simp [u8s, Value.oneCell']) (by unfold maxLen; omega) (by omega) (by simp) ?_; intro v1 w1 hown1 hg1))
    go_ret
    exact ⟨_, rfl, ownsRow_nth hown1 (by rw [HL.out]; omega) rfl, hA.trans ((below_grown hg1 ho (by simp)))⟩
theorem u8_own {w : World} {base : Nat} {a : Option Addr} {n m c : Nat} {xs : List Value} (h : w.ownsRow base 5 1 (.slice a m c) n xs) : U8 w a := fun ad e => by
  subst e
  rcases h.2 with ⟨h1, _⟩ | ⟨g, cap, cur, h1, _, hg, _⟩
  · cases h1
  · cases h1; exact ⟨_, _, hg⟩
set_option maxHeartbeats 1000000 in
theorem rdRead_any (a : Option Addr) (n c : Nat) (l : List Int) (w : World) (h : Row w .u8 a n c l) (hb : Bytes l) (hn : n ≤ 1000000000) :
    Calls Tryz.prog 21 #[.slice a n c] w fun e w' => ∃ p, e = .returned (.pointer (some ⟨p, 0, none⟩)) ∧ w.heap.size ≤ p ∧ RD w' p (some l) ∧ Below w.heap.size w w' := by
  have hC := bclone_any a n c l w h hn
  have HB := Lib.hid hb
  clear h hb
  go_enter Tryz.func21, Tryz.ntmps21
  go_wp2_with (first | (go_at_call 43; (with_reducible refine hC.mono ?_); rintro e w1 ⟨v1, rfl, ho1, hb1⟩; obtain ⟨a1, cap1, rfl, hr1⟩ := got_row ho1 rfl; have hu1 := u8_own ho1))
  go_ret
  have hA := (Below.refl _ w1).alloc (Nat.le_refl _) (.cells #[.slice a1 l.length cap1, .bool false] 69)
  exact ⟨_, rfl, hb1.size, ⟨a1, cap1, World.alloc_heap_new w1 _, row_below hr1 hA rfl, HB.out, u8_below hu1 hA⟩, hb1.trans (hA.mono hb1.size)⟩
end Go.Proofs.YtdogdbibhmhooaaGreat

/- Values made: Symbol, Int, Clone, Copy. -/
namespace Go.Proofs.YtdogdbibhmhooaaGreat
open Go.RowKit Go.Shelf
/-- reads as that value wherever what lies from B on is as it is -/
def Fresh (B : Nat) (w : World) (v : PV) (x : Value) : Prop := ∀ w', (∀ b, B ≤ b → b < w.heap.size → w'.heap[b]? = w.heap[b]?) → Is w' v x
theorem fresh_is {B : Nat} {w : World} {v : PV} {x : Value} (h : Fresh B w v x) : Is w v x := h w fun _ _ _ => rfl
theorem fresh_mono {B B' : Nat} {w : World} {v : PV} {x : Value} (h : Fresh B w v x) (hb : B' ≤ B) : Fresh B' w v x := fun w' h' => h w' fun b h1 h2 => h' b (Nat.le_trans hb h1) h2
theorem fresh_later {B : Nat} {w w1 : World} {v : PV} {x : Value} (h : Fresh B w v x) (hs : w.heap.size ≤ w1.heap.size) (hb : ∀ b, B ≤ b → b < w.heap.size → w1.heap[b]? = w.heap[b]?) : Fresh B w1 v x :=
  fun w' h' => h w' fun b h1 h2 => (h' b h1 (by omega)).trans (hb b h1 h2)
/-- cells of values' fields, all of them -/
def VAt (W : World) (b : Nat) (cs : Array Value) : Prop := W.heap[b]? = some (.cells cs 56 (0, 0))
theorem vat_lt {W : World} {b : Nat} {cs : Array Value} (h : VAt W b cs) : b < W.heap.size := (Array.getElem?_eq_some_iff.1 h).1
theorem vat_cell {W : World} {b : Nat} {cs : Array Value} (h : VAt W b cs) (i : Nat) (c : Value) (hc : cs[i]? = some c) : W.cell? ⟨b, i, none⟩ = some c := by
  simp [World.cell?, show W.heap[b]? = _ from h, hc]
theorem vat_frozen {W : World} {b : Nat} {cs : Array Value} (h : VAt W b cs) (i : Nat) : W.frozen? ⟨b, i, none⟩ = false := by simp [World.frozen?, show W.heap[b]? = _ from h]
theorem vat_below {W W' : World} {b : Nat} {cs : Array Value} (hb : Below W.heap.size W W') (h : VAt W b cs) : VAt W' b cs := (hb.block b (vat_lt h)).trans h
theorem vat_alloc (W : World) (cs : Array Value) : VAt (W.alloc (.cells cs 56)) W.heap.size cs := World.alloc_heap_new W _
theorem vat_set {W : World} {b : Nat} {cs : Array Value} (h : VAt W b cs) (i : Nat) (c : Value) : VAt (W.setCell ⟨b, i, none⟩ c) b (cs.setIfInBounds i c) := by
  obtain ⟨hlt, hk⟩ := Array.getElem?_eq_some_iff.1 h
  show (W.heap.modify b _)[b]? = _
  rw [Array.getElem?_eq_getElem (by rw [Array.size_modify]; exact hlt), Array.getElem_modify_self, hk]
  rfl
theorem vat_other {W : World} {b b' : Nat} {cs : Array Value} (h : VAt W b cs) (hne : b ≠ b') (i : Nat) (c : Value) : VAt (W.setCell ⟨b', i, none⟩ c) b cs := (Below.heap_setCell W ⟨b', i, none⟩ c b hne).trans h
theorem box4 {W : World} {b : Nat} {c0 c1 c2 c3 : Value} (h : VAt W b #[c0, c1, c2, c3]) : (W.cell? ⟨b, 0, none⟩ = some c0 ∧ W.cell? ⟨b, 1, none⟩ = some c1 ∧ W.cell? ⟨b, 2, none⟩ = some c2 ∧ W.cell? ⟨b, 3, none⟩ = some c3) ∧
    (W.frozen? ⟨b, 0, none⟩ = false ∧ W.frozen? ⟨b, 1, none⟩ = false ∧ W.frozen? ⟨b, 2, none⟩ = false ∧ W.frozen? ⟨b, 3, none⟩ = false) :=
  ⟨⟨vat_cell h 0 _ rfl, vat_cell h 1 _ rfl, vat_cell h 2 _ rfl, vat_cell h 3 _ rfl⟩, vat_frozen h 0, vat_frozen h 1, vat_frozen h 2, vat_frozen h 3⟩
theorem vat_set4 {W : World} {b : Nat} {c0 c1 c2 c3 : Value} (h : VAt W b #[c0, c1, c2, c3]) (d0 d1 d2 d3 : Value) :
    VAt ((((W.setCell ⟨b, 0, none⟩ d0).setCell ⟨b, 1, none⟩ d1).setCell ⟨b, 2, none⟩ d2).setCell ⟨b, 3, none⟩ d3) b #[d0, d1, d2, d3] :=
  vat_set (vat_set (vat_set (vat_set h 0 d0) 1 d1) 2 d2) 3 d3
theorem below_set4 {B : Nat} {w W : World} (h : Below B w W) {b : Nat} (hb : B ≤ b) (i0 i1 i2 i3 : Nat) (d0 d1 d2 d3 : Value) :
    Below B w ((((W.setCell ⟨b, i0, none⟩ d0).setCell ⟨b, i1, none⟩ d1).setCell ⟨b, i2, none⟩ d2).setCell ⟨b, i3, none⟩ d3) :=
  (((h.setCell (p := ⟨b, i0, none⟩) hb d0).setCell (p := ⟨b, i1, none⟩) hb d1).setCell (p := ⟨b, i2, none⟩) hb d2).setCell (p := ⟨b, i3, none⟩) hb d3
theorem cell_set4 {W : World} {p : Addr} {c : Value} {b : Nat} {i0 i1 i2 i3 : Nat} {d0 d1 d2 d3 : Value} (h : W.cell? p = some c) (hne : p.block ≠ b) :
    ((((W.setCell ⟨b, i0, none⟩ d0).setCell ⟨b, i1, none⟩ d1).setCell ⟨b, i2, none⟩ d2).setCell ⟨b, i3, none⟩ d3).cell? p = some c := by
  have h1 : ∀ (W : World) (i : Nat) (d : Value), (W.setCell ⟨b, i, none⟩ d).cell? p = W.cell? p := fun W i d => by
    simp only [World.cell?, Below.heap_setCell W ⟨b, i, none⟩ d p.block hne]
  rw [h1, h1, h1, h1, h]
abbrev vzero : Array Value := #[.int .i64 0, .int .i64 0, .string ⟨#[]⟩, .slice none 0 0]
theorem info_val : (Tryz.prog.info? 56).map (fun i => (i.zero, i.size, i.bytes)) = some (some (.agg vzero), 4, 56) := by kernel_rfl
end Go.Proofs.YtdogdbibhmhooaaGreat
