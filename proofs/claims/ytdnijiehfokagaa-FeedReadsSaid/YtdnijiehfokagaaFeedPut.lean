/- Package feed: Put. -/
import Derived.Test.YtdnijiehfokagaaFeedSize
import Derived.Test.YtdnijiehfokagaaAppend
namespace Go.Proofs.Ytdnijiehfokagaa
open Go.RowKit Go.Shelf
/-- a frame's bytes, in new memory, or the error -/
def PutR (k : Int) (p : List Int) (most : Int) (w : World) (e : Ending) (w' : World) : Prop :=
  ∃ A C, e = .returned (.tuple #[.slice A (F.putE k p most).1.length C, .int .i64 ((F.putE k p most).2 : Nat)]) ∧ Row w' .u8 A (F.putE k p most).1.length C (F.putE k p most).1 ∧ Below w.heap.size w w'
theorem putR_none {k : Int} {p : List Int} {most : Int} {c : Nat} (h : F.putE k p most = ([], c)) (w : World) : PutR k p most w (.returned (.tuple #[.slice none 0 0, .int .i64 (c : Int)])) w := by
  unfold PutR; rw [h]
  exact ⟨none, 0, rfl, row_nil w .u8, Below.refl _ _⟩
theorem ownsRow_len {w : World} {base : Nat} {e : TypeId} {size : Nat} {v : Value} {n : Nat} {xs ys : List Value} {m : Nat} (h : w.ownsRow base e size v n xs) (hn : n = m) (hx : xs = ys) : w.ownsRow base e size v m ys := ownsRow_nth h hn hx
set_option maxRecDepth 100000 in
set_option maxHeartbeats 4000000 in
theorem put5_any (k most : Int) (a : Option Addr) (n c : Nat) (p : List Int) (w : World) (hp : Row w .u8 a n c p) (hb : Bytes p) :
    Calls Try.prog 10 #[.int .i64 k, .slice a n c, .int .i64 most] w (PutR k p most w) := by
  have hpl : p.length = n := hp.1
  have hk := fun w => isKind_any k w
  by_cases h1 : 1 ≤ k ∧ k ≤ 9
  · rw [decide_eq_true h1] at hk
    by_cases h2 : 0 ≤ most
    · have d2 : decide (most < 0) = false := by simp; omega
      by_cases h3 : most ≤ 65535
      · have d3 : decide (65535 < most) = false := by simp; omega
        have he : F.putE k p most = if most < (p.length : Int) then ([], 4) else (F.put k p, 0) := by unfold F.putE; rw [if_pos ⟨h1.1, h1.2, h2, h3⟩]
        by_cases h4 : most < (n : Int)
        · have d4 : decide (most < (n : Int)) = true := by simpa using h4
          have hR := putR_none (k := k) (p := p) (most := most) (c := 4) (by rw [he, if_pos (by omega)]) w
          have HR := Lib.hid hR; clear hR he hpl h1 h2 h3 h4 hp hb
          go_enter Try.func10, Try.ntmps10
          go_wp2_with (first | (go_at_call 19; (with_reducible refine (hk _).mono ?_); rintro e w' ⟨rfl, rfl⟩))
          go_ret2
          exact HR.out
        · have d4 : decide (most < (n : Int)) = false := by simpa using h4
          rw [if_neg (by omega)] at he
          have hn : n ≤ 65535 := by omega
          obtain ⟨iu, hiu, hu0, hu1, hu2⟩ := info_parts info_u8
          obtain ⟨L0, hL0⟩ : ∃ L0 : List Int, L0 = [208, 161, 1, k] := ⟨_, rfl⟩
          obtain ⟨L1, hL1⟩ : ∃ L1 : List Int, L1 = L0 ++ S.put n := ⟨_, rfl⟩
          obtain ⟨L2, hL2⟩ : ∃ L2 : List Int, L2 = L1 ++ p := ⟨_, rfl⟩
          have l0 : L0.length = 4 := by rw [hL0]; rfl
          have l1 : L1.length = 8 := by rw [hL1]; simp [l0, F.sput_len]
          have l2 : L2.length = n + 8 := by rw [hL2]; simp [l1, hpl]; omega
          have hput : F.put k p = L2 ++ F.chk (L2.drop 2) := by rw [hL2, hL1, hL0, ← hpl]; rfl
          have b2 : Bytes L2 := by
            rw [hL2, hL1, hL0]
            exact bytes_app (bytes_app (mem_bytes (by simp; omega)) (put_b _)) hb
          have hC := fun (W : World) (A : Option Addr) (C : Nat) (h : Row W .u8 A (n + 8) C L2) => checked_any A (n + 8) C L2 W h b2 (by omega)
          have hP := fun W => put_any (n : Int) W
          have wk : IntKind.u8.wrap k = k := IntWalk.u8_in _ (by omega)
          have wk2 : k % 256 = k := by omega
          have hB0 := Below.refl w.heap.size w
          have w12 : wrap64 (8 + (n : Int) + 4) = ((n + 12 : Nat) : Int) := by unfold wrap64; omega
          have HC := Lib.hid hC; have HP := Lib.hid hP; have HL0 := Lib.hid hL0; have HL1 := Lib.hid hL1; have HL2 := Lib.hid hL2; have HE := Lib.hid he; have HPUT := Lib.hid hput; have HPL := Lib.hid hpl; have HRP := Lib.hid hp
          have K0 := Lib.hid l0; have K1 := Lib.hid l1; have K2 := Lib.hid l2
          obtain ⟨k1, k9⟩ := h1
          clear hC hP hL0 hL1 hL2 he hput hpl hp hb b2 l0 l1 l2
          go_enter Try.func10, Try.ntmps10
          go_wp2_with (first
            | (go_at_call 19; (with_reducible refine (hk _).mono ?_); rintro e w' ⟨rfl, rfl⟩)
            | (at_make; refine wpList_make_own _ rfl _ _ 22 rfl w.heap.size 5 iu (.int .u8 0) 1 Try.underlying22 hiu hu0 hu1 .i64 .i64 _ (n + 12) rfl rfl (by first | exact w12 | omega) (by rw [hu2]; omega) (by unfold maxLen; omega) (Nat.le_refl _) ?_; intro w1 hown1 hgr1; have hB1 : Below w.heap.size w w1 := hB0.grown hgr1 (Nat.le_refl _) (by simp))
            | (at_builtin; refine wpList_append_at _ rfl _ _ 22 rfl w.heap.size 5 iu (.int .u8 0) 1 1 Try.underlying22 hiu hu0 hu1 hu2 rfl (by decide) _ _ _ rfl (hown1.alloc _) _ _ _ [.int .u8 208, .int .u8 161, .int .u8 1, .int .u8 k] rfl ⟨rfl, .inr ⟨_, rfl, cells_new _ [_, _, _, _] _⟩⟩ (by simp [Value.oneCell']) (by unfold maxLen; omega) (by omega) (by have := hB1.size; simp; omega) ?_; intro v2 w2 hown2' hgr2 hat2; have hB2 : Below w.heap.size w w2 := (hB1.alloc hB1.size _).trans (below_grown hgr2 (hown1.alloc _) (by have := hB1.size; simp; omega)); obtain ⟨A2, C2, rfl, hrow2, _⟩ := row_own (l := L0) (ownsRow_len hown2' rfl (by rw [HL0.out]; simp [u8s])); have hown2 : w2.ownsRow w.heap.size 5 1 (.slice A2 4 C2) 4 (u8s L0) := ownsRow_len hown2' rfl (by rw [HL0.out]; simp [u8s]); clear hown2' hgr2 hat2)
            | (go_at_call 20; (with_reducible refine (HP.out _).mono ?_); intro e w3 h3; obtain ⟨a3, c3, rfl, hr3, hb3⟩ := madeB_row h3; clear h3; have hown3 := ownsRow_below hown2 hb3; have hB3 := hB2.trans (hb3.mono hB2.size))
            | (at_builtin; refine wpList_append_at _ rfl _ _ 22 rfl w.heap.size 5 iu (.int .u8 0) 1 1 Try.underlying22 hiu hu0 hu1 hu2 rfl (by decide) _ _ _ rfl hown3 _ _ _ _ rfl (cells_of_row hr3) (by simp [Value.oneCell']) (by rw [F.sput_len]; unfold maxLen; omega) (by rw [F.sput_len]; omega) hB3.size ?_; intro v4 w4 hown4' hgr4 hat4; have hB4 : Below w.heap.size w w4 := hB3.trans (below_grown hgr4 hown3 hB3.size); have hown4'' : w4.ownsRow w.heap.size 5 1 v4 8 (u8s L1) := ownsRow_len hown4' rfl (by rw [HL1.out]; simp [u8s]); obtain ⟨A4, C4, rfl, hrow4, _⟩ := row_own hown4''; have hp4 := row_below HRP.out hB4 rfl; clear hown4' hgr4 hat4)
            | (at_builtin; refine wpList_append_at _ rfl _ _ 22 rfl w.heap.size 5 iu (.int .u8 0) 1 1 Try.underlying22 hiu hu0 hu1 hu2 rfl (by decide) _ _ _ rfl hown4'' _ _ _ _ rfl (cells_of_row hp4) (by simp [Value.oneCell']) (by unfold maxLen; omega) (by omega) hB4.size ?_; intro v5 w5 hown5' hgr5 hat5; have hB5 : Below w.heap.size w w5 := hB4.trans (below_grown hgr5 hown4'' hB4.size); have hown5 : w5.ownsRow w.heap.size 5 1 v5 (n + 8) (u8s L2) := ownsRow_len hown5' (by omega) (by rw [HL2.out]; simp [u8s]); obtain ⟨A5, C5, rfl, hrow5, _⟩ := row_own hown5; clear hown5' hgr5 hat5)
            | (go_at_call 21; (with_reducible refine (HC.out _ _ _ hrow5).mono ?_); intro e w6 h6; obtain ⟨a6, c6, rfl, hr6, hb6⟩ := h6; have hown6 := ownsRow_below hown5 hb6; have hB6 := hB5.trans (hb6.mono hB5.size))
            | (at_builtin; refine wpList_append_at _ rfl _ _ 22 rfl w.heap.size 5 iu (.int .u8 0) 1 1 Try.underlying22 hiu hu0 hu1 hu2 rfl (by decide) _ _ _ rfl hown6 _ _ _ _ rfl (cells_of_row hr6) (by simp [Value.oneCell']) (by rw [F.chk_len]; unfold maxLen; omega) (by rw [F.chk_len]; omega) hB6.size ?_; intro v7 w7 hown7' hgr7 hat7; have hB7 : Below w.heap.size w w7 := hB6.trans (below_grown hgr7 hown6 hB6.size); have hown7 : w7.ownsRow w.heap.size 5 1 v7 (F.put k p).length (u8s (F.put k p)) := ownsRow_len hown7' (by rw [F.put_len, HPL.out, F.chk_len]) (by rw [HPUT.out]; simp [u8s]); obtain ⟨A7, C7, rfl, hrow7, _⟩ := row_own hown7; clear hown7' hgr7 hat7))
          go_ret2
          refine ⟨A7, C7, ?_, ?_, hB7⟩
          · rw [HE.out]; rfl
          · rw [HE.out]; exact hrow7
      · have d3 : decide (65535 < most) = true := by simp; omega
        have hR := putR_none (k := k) (p := p) (most := most) (c := 1) (by unfold F.putE; rw [if_neg (by omega)]) w
        have HR := Lib.hid hR; clear hR hpl h1 h2 h3 hp hb
        go_enter Try.func10, Try.ntmps10
        go_wp2_with (first | (go_at_call 19; (with_reducible refine (hk _).mono ?_); rintro e w' ⟨rfl, rfl⟩))
        go_ret2
        exact HR.out
    · have d2 : decide (most < 0) = true := by simp; omega
      have hR := putR_none (k := k) (p := p) (most := most) (c := 1) (by unfold F.putE; rw [if_neg (by omega)]) w
      have HR := Lib.hid hR; clear hR hpl h1 h2 hp hb
      go_enter Try.func10, Try.ntmps10
      go_wp2_with (first | (go_at_call 19; (with_reducible refine (hk _).mono ?_); rintro e w' ⟨rfl, rfl⟩))
      go_ret2
      exact HR.out
  · rw [decide_eq_false h1] at hk
    have hR := putR_none (k := k) (p := p) (most := most) (c := 1) (by unfold F.putE; rw [if_neg (by omega)]) w
    have HR := Lib.hid hR; clear hR hpl h1 hp hb
    go_enter Try.func10, Try.ntmps10
    go_wp2_with (first | (go_at_call 19; (with_reducible refine (hk _).mono ?_); rintro e w' ⟨rfl, rfl⟩))
    go_ret2
    exact HR.out
end Go.Proofs.Ytdnijiehfokagaa
