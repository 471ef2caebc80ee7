/- Package bin: take, of each kind of thing (made by gen_bintake.py: one block, three times). -/
import Derived.Test.YtihpalbmkcoalaaBinRd
namespace Go.Proofs.Ytihpalbmkcoalaa
open Go.RowKit Go.Shelf
attribute [local go_sem] Oper.semAt_some
theorem rd_ahead {W : World} {p : Nat} {l : List Int} {n : Nat} {a a' : Option Addr} {cap c' : Nat} (h1 : RdAt W p (.slice a l.length cap) false) (hr : Row W .u8 a' (l.length - n) c' (l.drop n)) (hb : Bytes l) (hu : U8 W a) (ha : ∀ ad', a' = some ad' → ∃ ad, a = some ad ∧ ad'.block = ad.block) :
    RD (W.setCell ⟨p, 0, none⟩ (.slice a' (l.length - n) c')) p (some (l.drop n)) := by
  refine ⟨a', c', ?_, ?_, ?_, ?_⟩
  · simpa [Bn.lf] using rdAt_left h1 (.slice a' (l.length - n) c')
  · have := row_kept h1 (by intro k x e; cases e) (grown_set1 p 0 (.slice a' (l.length - n) c')) hr
    simpa [Bn.lf] using this
  · intro i
    simp only [Bn.lf, List.getElem?_drop]
    exact hb (n + i)
  · intro ad' e
    obtain ⟨ad, e2, e3⟩ := ha ad' e
    obtain ⟨cs, fr, h5⟩ := hu ad e2
    refine ⟨cs, fr, ?_⟩
    rw [e3, Below.heap_setCell _ _ _ ad.block (fun e4 => ?_)]
    · exact h5
    · rw [e4, show W.heap[p]? = _ from h1] at h5
      cases h5
set_option maxHeartbeats 2000000 in
theorem takeInt_ok (f : Nat) (hf : f = 47 ∨ f = 49) (n : Nat) (x : Int) (ok : Bool) (p : Nat) (l : List Int) (w : World) (h : RD w p (some l)) (hn : n ≤ l.length)
    (hr : ∀ W a c, Row W .u8 a n c (l.take n) → Calls Try.prog f #[.slice a n c] W fun e w' => e = .returned (.tuple #[.int .i64 x, .bool ok]) ∧ W = w') :
    Calls Try.prog 46 #[.pointer (some ⟨p, 0, none⟩), .int .i64 (n : Int), .func (.func f) #[] #[]] w fun e w' => e = .returned (if ok = true then Value.int .i64 x else Value.int .i64 0) ∧ RD w' p (if ok = true then some (l.drop n) else none) ∧ w.grownBy w' (some p) := by
  have hB := rdBad_any p _ w h
  have hL := rdLeft_any p _ w h
  have hF := rdFail_any p _ w h
  obtain ⟨a, cap, h1, h2, h3, h4⟩ := h
  obtain ⟨⟨c0, c1⟩, f0, f1⟩ := rdAt_cells h1
  simp only [Option.isNone_some, Bn.lf] at *
  obtain ⟨a1, hs1, hr1⟩ := sub_high a l.length cap n hn h2.2.1
  obtain ⟨a2, hs2, hr2, ha2⟩ := sub_low' a l.length cap n hn
  have hcall := hr w a1 cap (hr1 w l h2)
  have hE := rd_ahead h1 (hr2 w l h2) h3 h4 ha2
  have hm := h2.2.2.1
  have hcp := h2.2.1
  unfold maxLen at hm
  clear hr hr1 hr2 h1 h2 h3 h4 ha2
  cases ok with
  | true =>
    simp only [if_true]
    rcases hf with rfl | rfl
    all_goals (
      go_enter Try.func46, Try.ntmps46
      go_wp2_with (first
        | (go_at_call 22; (with_reducible refine hL.mono ?_); rintro e w' ⟨rfl, rfl⟩)
        | (go_at_call 20; (with_reducible refine hB.mono ?_); rintro e w' ⟨rfl, rfl⟩)
        | (go_at_call 47; (with_reducible refine hcall.mono ?_); rintro e w' ⟨rfl, rfl⟩)
        | (go_at_call 49; (with_reducible refine hcall.mono ?_); rintro e w' ⟨rfl, rfl⟩))
      all_goals (go_ret; exact ⟨rfl, hE, grown_set1 p 0 _⟩))
  | false =>
    simp only [Bool.false_eq_true, if_false]
    rcases hf with rfl | rfl
    all_goals (
      go_enter Try.func46, Try.ntmps46
      go_wp2_with (first
        | (go_at_call 22; (with_reducible refine hL.mono ?_); rintro e w' ⟨rfl, rfl⟩)
        | (go_at_call 20; (with_reducible refine hB.mono ?_); rintro e w' ⟨rfl, rfl⟩)
        | (go_at_call 66; (with_reducible refine hF.mono ?_); rintro e w' ⟨⟨v, rfl⟩, hN, hG⟩)
        | (go_at_call 47; (with_reducible refine hcall.mono ?_); rintro e w' ⟨rfl, rfl⟩)
        | (go_at_call 49; (with_reducible refine hcall.mono ?_); rintro e w' ⟨rfl, rfl⟩))
      all_goals (go_ret; exact ⟨rfl, hN, hG⟩))
set_option maxHeartbeats 2000000 in
theorem takeInt_short (f : Value) (n : Nat) (p : Nat) (s : Bn.St) (w : World) (h : RD w p s) (hn : s = none ∨ (Bn.lf s).length < n) :
    Calls Try.prog 46 #[.pointer (some ⟨p, 0, none⟩), .int .i64 (n : Int), f] w fun e w' => e = .returned (.int .i64 0) ∧ RD w' p none ∧ w.grownBy w' (some p) := by
  have hB := rdBad_any p _ w h
  have hL := rdLeft_any p _ w h
  have hF := rdFail_any p _ w h
  clear h
  cases s with
  | none =>
    simp only [Option.isNone_none, Bn.lf, List.length_nil] at *
    rcases Nat.eq_zero_or_pos n with rfl | h0
    all_goals (
      go_enter Try.func46, Try.ntmps46
      go_wp2_with (first
        | (go_at_call 22; (with_reducible refine hL.mono ?_); rintro e w' ⟨rfl, rfl⟩)
        | (go_at_call 20; (with_reducible refine hB.mono ?_); rintro e w' ⟨rfl, rfl⟩)
        | (go_at_call 66; (with_reducible refine hF.mono ?_); rintro e w' ⟨⟨v, rfl⟩, hN, hG⟩))
      all_goals (go_ret; exact ⟨rfl, hN, hG⟩))
  | some l =>
    simp only [Option.isNone_some, Bn.lf] at *
    have hlt : l.length < n := by
      rcases hn with h | h
      · cases h
      · exact h
    clear hn
    go_enter Try.func46, Try.ntmps46
    go_wp2_with (first
      | (go_at_call 22; (with_reducible refine hL.mono ?_); rintro e w' ⟨rfl, rfl⟩)
      | (go_at_call 66; (with_reducible refine hF.mono ?_); rintro e w' ⟨⟨v, rfl⟩, hN, hG⟩))
    all_goals (go_ret; exact ⟨rfl, hN, hG⟩)
set_option maxHeartbeats 2000000 in
theorem takeInt_nil (f : Value) (n : Nat) (w : World) :
    Calls Try.prog 46 #[.pointer none, .int .i64 (n : Int), f] w fun e w' => e = .returned (.int .i64 0) ∧ w = w' := by
  have hB := rdBad_nil
  have hL := rdLeft_nil
  have hF := rdFail_nil
  rcases Nat.eq_zero_or_pos n with rfl | h0
  all_goals (
    go_enter Try.func46, Try.ntmps46
    go_wp2_with (first
      | (go_at_call 22; (with_reducible refine (hL _).mono ?_); rintro e w' ⟨rfl, rfl⟩)
      | (go_at_call 20; (with_reducible refine (hB _).mono ?_); rintro e w' ⟨rfl, rfl⟩)
      | (go_at_call 66; (with_reducible refine (hF _).mono ?_); rintro e w' ⟨⟨v, rfl⟩, rfl⟩))
    all_goals (go_ret; exact ⟨rfl, rfl⟩))
set_option maxHeartbeats 2000000 in
theorem takeLong_ok (f : Nat) (hf : f = 51) (n : Nat) (x : Int) (ok : Bool) (p : Nat) (l : List Int) (w : World) (h : RD w p (some l)) (hn : n ≤ l.length)
    (hr : ∀ W a c, Row W .u8 a n c (l.take n) → Calls Try.prog f #[.slice a n c] W fun e w' => e = .returned (.tuple #[.int .i64 x, .bool ok]) ∧ W = w') :
    Calls Try.prog 50 #[.pointer (some ⟨p, 0, none⟩), .int .i64 (n : Int), .func (.func f) #[] #[]] w fun e w' => e = .returned (if ok = true then Value.int .i64 x else Value.int .i64 0) ∧ RD w' p (if ok = true then some (l.drop n) else none) ∧ w.grownBy w' (some p) := by
  have hB := rdBad_any p _ w h
  have hL := rdLeft_any p _ w h
  have hF := rdFail_any p _ w h
  obtain ⟨a, cap, h1, h2, h3, h4⟩ := h
  obtain ⟨⟨c0, c1⟩, f0, f1⟩ := rdAt_cells h1
  simp only [Option.isNone_some, Bn.lf] at *
  obtain ⟨a1, hs1, hr1⟩ := sub_high a l.length cap n hn h2.2.1
  obtain ⟨a2, hs2, hr2, ha2⟩ := sub_low' a l.length cap n hn
  have hcall := hr w a1 cap (hr1 w l h2)
  have hE := rd_ahead h1 (hr2 w l h2) h3 h4 ha2
  have hm := h2.2.2.1
  have hcp := h2.2.1
  unfold maxLen at hm
  clear hr hr1 hr2 h1 h2 h3 h4 ha2
  cases ok with
  | true =>
    simp only [if_true]
    subst hf
    all_goals (
      go_enter Try.func50, Try.ntmps50
      go_wp2_with (first
        | (go_at_call 22; (with_reducible refine hL.mono ?_); rintro e w' ⟨rfl, rfl⟩)
        | (go_at_call 20; (with_reducible refine hB.mono ?_); rintro e w' ⟨rfl, rfl⟩)
        | (go_at_call 51; (with_reducible refine hcall.mono ?_); rintro e w' ⟨rfl, rfl⟩))
      all_goals (go_ret; exact ⟨rfl, hE, grown_set1 p 0 _⟩))
  | false =>
    simp only [Bool.false_eq_true, if_false]
    subst hf
    all_goals (
      go_enter Try.func50, Try.ntmps50
      go_wp2_with (first
        | (go_at_call 22; (with_reducible refine hL.mono ?_); rintro e w' ⟨rfl, rfl⟩)
        | (go_at_call 20; (with_reducible refine hB.mono ?_); rintro e w' ⟨rfl, rfl⟩)
        | (go_at_call 66; (with_reducible refine hF.mono ?_); rintro e w' ⟨⟨v, rfl⟩, hN, hG⟩)
        | (go_at_call 51; (with_reducible refine hcall.mono ?_); rintro e w' ⟨rfl, rfl⟩))
      all_goals (go_ret; exact ⟨rfl, hN, hG⟩))
set_option maxHeartbeats 2000000 in
theorem takeLong_short (f : Value) (n : Nat) (p : Nat) (s : Bn.St) (w : World) (h : RD w p s) (hn : s = none ∨ (Bn.lf s).length < n) :
    Calls Try.prog 50 #[.pointer (some ⟨p, 0, none⟩), .int .i64 (n : Int), f] w fun e w' => e = .returned (.int .i64 0) ∧ RD w' p none ∧ w.grownBy w' (some p) := by
  have hB := rdBad_any p _ w h
  have hL := rdLeft_any p _ w h
  have hF := rdFail_any p _ w h
  clear h
  cases s with
  | none =>
    simp only [Option.isNone_none, Bn.lf, List.length_nil] at *
    rcases Nat.eq_zero_or_pos n with rfl | h0
    all_goals (
      go_enter Try.func50, Try.ntmps50
      go_wp2_with (first
        | (go_at_call 22; (with_reducible refine hL.mono ?_); rintro e w' ⟨rfl, rfl⟩)
        | (go_at_call 20; (with_reducible refine hB.mono ?_); rintro e w' ⟨rfl, rfl⟩)
        | (go_at_call 66; (with_reducible refine hF.mono ?_); rintro e w' ⟨⟨v, rfl⟩, hN, hG⟩))
      all_goals (go_ret; exact ⟨rfl, hN, hG⟩))
  | some l =>
    simp only [Option.isNone_some, Bn.lf] at *
    have hlt : l.length < n := by
      rcases hn with h | h
      · cases h
      · exact h
    clear hn
    go_enter Try.func50, Try.ntmps50
    go_wp2_with (first
      | (go_at_call 22; (with_reducible refine hL.mono ?_); rintro e w' ⟨rfl, rfl⟩)
      | (go_at_call 66; (with_reducible refine hF.mono ?_); rintro e w' ⟨⟨v, rfl⟩, hN, hG⟩))
    all_goals (go_ret; exact ⟨rfl, hN, hG⟩)
set_option maxHeartbeats 2000000 in
theorem takeLong_nil (f : Value) (n : Nat) (w : World) :
    Calls Try.prog 50 #[.pointer none, .int .i64 (n : Int), f] w fun e w' => e = .returned (.int .i64 0) ∧ w = w' := by
  have hB := rdBad_nil
  have hL := rdLeft_nil
  have hF := rdFail_nil
  rcases Nat.eq_zero_or_pos n with rfl | h0
  all_goals (
    go_enter Try.func50, Try.ntmps50
    go_wp2_with (first
      | (go_at_call 22; (with_reducible refine (hL _).mono ?_); rintro e w' ⟨rfl, rfl⟩)
      | (go_at_call 20; (with_reducible refine (hB _).mono ?_); rintro e w' ⟨rfl, rfl⟩)
      | (go_at_call 66; (with_reducible refine (hF _).mono ?_); rintro e w' ⟨⟨v, rfl⟩, rfl⟩))
    all_goals (go_ret; exact ⟨rfl, rfl⟩))
set_option maxHeartbeats 2000000 in
theorem takeStr_ok (f : Nat) (hf : f = 53) (n : Nat) (x : ByteArray) (ok : Bool) (p : Nat) (l : List Int) (w : World) (h : RD w p (some l)) (hn : n ≤ l.length)
    (hr : ∀ W a c, Row W .u8 a n c (l.take n) → Calls Try.prog f #[.slice a n c] W fun e w' => e = .returned (.tuple #[.string x, .bool ok]) ∧ W = w') :
    Calls Try.prog 52 #[.pointer (some ⟨p, 0, none⟩), .int .i64 (n : Int), .func (.func f) #[] #[]] w fun e w' => e = .returned (if ok = true then Value.string x else Value.string ⟨#[]⟩) ∧ RD w' p (if ok = true then some (l.drop n) else none) ∧ w.grownBy w' (some p) := by
  have hB := rdBad_any p _ w h
  have hL := rdLeft_any p _ w h
  have hF := rdFail_any p _ w h
  obtain ⟨a, cap, h1, h2, h3, h4⟩ := h
  obtain ⟨⟨c0, c1⟩, f0, f1⟩ := rdAt_cells h1
  simp only [Option.isNone_some, Bn.lf] at *
  obtain ⟨a1, hs1, hr1⟩ := sub_high a l.length cap n hn h2.2.1
  obtain ⟨a2, hs2, hr2, ha2⟩ := sub_low' a l.length cap n hn
  have hcall := hr w a1 cap (hr1 w l h2)
  have hE := rd_ahead h1 (hr2 w l h2) h3 h4 ha2
  have hm := h2.2.2.1
  have hcp := h2.2.1
  unfold maxLen at hm
  clear hr hr1 hr2 h1 h2 h3 h4 ha2
  cases ok with
  | true =>
    simp only [if_true]
    subst hf
    all_goals (
      go_enter Try.func52, Try.ntmps52
      go_wp2_with (first
        | (go_at_call 22; (with_reducible refine hL.mono ?_); rintro e w' ⟨rfl, rfl⟩)
        | (go_at_call 20; (with_reducible refine hB.mono ?_); rintro e w' ⟨rfl, rfl⟩)
        | (go_at_call 53; (with_reducible refine hcall.mono ?_); rintro e w' ⟨rfl, rfl⟩))
      all_goals (go_ret; exact ⟨rfl, hE, grown_set1 p 0 _⟩))
  | false =>
    simp only [Bool.false_eq_true, if_false]
    subst hf
    all_goals (
      go_enter Try.func52, Try.ntmps52
      go_wp2_with (first
        | (go_at_call 22; (with_reducible refine hL.mono ?_); rintro e w' ⟨rfl, rfl⟩)
        | (go_at_call 20; (with_reducible refine hB.mono ?_); rintro e w' ⟨rfl, rfl⟩)
        | (go_at_call 66; (with_reducible refine hF.mono ?_); rintro e w' ⟨⟨v, rfl⟩, hN, hG⟩)
        | (go_at_call 53; (with_reducible refine hcall.mono ?_); rintro e w' ⟨rfl, rfl⟩))
      all_goals (go_ret; exact ⟨rfl, hN, hG⟩))
set_option maxHeartbeats 2000000 in
theorem takeStr_short (f : Value) (n : Nat) (p : Nat) (s : Bn.St) (w : World) (h : RD w p s) (hn : s = none ∨ (Bn.lf s).length < n) :
    Calls Try.prog 52 #[.pointer (some ⟨p, 0, none⟩), .int .i64 (n : Int), f] w fun e w' => e = .returned (.string ⟨#[]⟩) ∧ RD w' p none ∧ w.grownBy w' (some p) := by
  have hB := rdBad_any p _ w h
  have hL := rdLeft_any p _ w h
  have hF := rdFail_any p _ w h
  clear h
  cases s with
  | none =>
    simp only [Option.isNone_none, Bn.lf, List.length_nil] at *
    rcases Nat.eq_zero_or_pos n with rfl | h0
    all_goals (
      go_enter Try.func52, Try.ntmps52
      go_wp2_with (first
        | (go_at_call 22; (with_reducible refine hL.mono ?_); rintro e w' ⟨rfl, rfl⟩)
        | (go_at_call 20; (with_reducible refine hB.mono ?_); rintro e w' ⟨rfl, rfl⟩)
        | (go_at_call 66; (with_reducible refine hF.mono ?_); rintro e w' ⟨⟨v, rfl⟩, hN, hG⟩))
      all_goals (go_ret; exact ⟨rfl, hN, hG⟩))
  | some l =>
    simp only [Option.isNone_some, Bn.lf] at *
    have hlt : l.length < n := by
      rcases hn with h | h
      · cases h
      · exact h
    clear hn
    go_enter Try.func52, Try.ntmps52
    go_wp2_with (first
      | (go_at_call 22; (with_reducible refine hL.mono ?_); rintro e w' ⟨rfl, rfl⟩)
      | (go_at_call 66; (with_reducible refine hF.mono ?_); rintro e w' ⟨⟨v, rfl⟩, hN, hG⟩))
    all_goals (go_ret; exact ⟨rfl, hN, hG⟩)
set_option maxHeartbeats 2000000 in
theorem takeStr_nil (f : Value) (n : Nat) (w : World) :
    Calls Try.prog 52 #[.pointer none, .int .i64 (n : Int), f] w fun e w' => e = .returned (.string ⟨#[]⟩) ∧ w = w' := by
  have hB := rdBad_nil
  have hL := rdLeft_nil
  have hF := rdFail_nil
  rcases Nat.eq_zero_or_pos n with rfl | h0
  all_goals (
    go_enter Try.func52, Try.ntmps52
    go_wp2_with (first
      | (go_at_call 22; (with_reducible refine (hL _).mono ?_); rintro e w' ⟨rfl, rfl⟩)
      | (go_at_call 20; (with_reducible refine (hB _).mono ?_); rintro e w' ⟨rfl, rfl⟩)
      | (go_at_call 66; (with_reducible refine (hF _).mono ?_); rintro e w' ⟨⟨v, rfl⟩, rfl⟩))
    all_goals (go_ret; exact ⟨rfl, rfl⟩))
end Go.Proofs.Ytihpalbmkcoalaa
