/- The walk of TokenNext: the token at every place of all texts, or where it is wrong, and by which error, is the document's. -/
import Derived.Test.YtiflnciapboccaaDoorTokAlive
import Derived.Test.YtiflnciapboccaaDoorTokRef5
set_option linter.unusedVariables false
namespace Go.Proofs.YtiflnciapboccaaDoor
open Go.RowKit Go.Shelf
theorem eql_tok2 (W : World) (a b c n : Int) (s : ByteArray) : (binOp .eql 24 (.agg #[.int .i64 a, .int .i64 b, .int .i64 c, .string s, .int .i64 n]) (.agg #[.int .i64 a, .int .i64 b, .int .i64 c, .string s, .int .i64 n])).run Tryd.prog W = .ok (.bool true) W := by
  go_simp
namespace tokenNextWalk
set_option maxRecDepth 100000 in
set_option maxHeartbeats 8000000 in
theorem walk (a0 : ByteArray) (a1 : Int) (w : World) (w0 : a0.size ≤ maxLen) (w1 : (Lit.int .i64 a1).wf = true) (hE : Err w) :
    Calls Tryd.prog 3 #[.string a0, .int .i64 a1] w fun e w' => e = .returned (.bool true) ∧ Below w.heap.size w w' := by
  have H5 := token_info
  have ha := tokAlive_any w hE
  rcases Nat.lt_or_ge 500 a0.size with hbig | hsm
  · have d1 : decide ((500 : Int) < (a0.size : Int)) = true := by simp; omega
    go_enter Tryd.func3, Tryd.ntmps3
    go_wp2_with (go_at_call 8; (with_reducible refine ha.mono ?_); rintro e w1 ⟨rfl, hB1⟩)
    go_ret
    exact ⟨rfl, hB1⟩
  have d1 : decide ((500 : Int) < (a0.size : Int)) = false := by simp; omega
  have hi := wf_i64 w1
  have hN := fun w hE => next_any a0 a1 w (by omega) hi.1 hi.2 hE
  have hR := fun w => refNext_any a0 a1 w (by omega) hi.1 hi.2
  obtain ⟨⟨k, a, e, s, n⟩, x, er, hT⟩ : ∃ T x er, K.nextAt (strB a0) a1 = (T, x, er) := ⟨_, _, _, rfl⟩
  rw [hT] at hN hR
  unfold tokV tokC at hN hR
  simp only at hN hR
  obtain ⟨S, hS⟩ : ∃ S, strOfNums s = S := ⟨_, rfl⟩
  rw [hS] at hN hR
  clear hT hS hi
  have heq := eql_tok2
  go_enter Tryd.func3, Tryd.ntmps3
  go_wp2_with (first
    | (go_at_call 8; (with_reducible refine ha.mono ?_); rintro e w1 ⟨rfl, hB1⟩; have hE1 := err_below hE hB1)
    | (go_at_call 9; (with_reducible refine (hN _ hE1).mono ?_); rintro e w2 ⟨rfl, hB2⟩)
    | (go_at_call 10; (with_reducible refine (hR _).mono ?_); rintro e w3 ⟨rfl, hB3⟩; have hg := gat_below hB3 (gat_alloc w2 _); have P := fun o => box5 (gat_old hg o); have p0 := fun o => (P o).1.1; have p1 := fun o => (P o).1.2.1; have p2 := fun o => (P o).1.2.2.1; have p3 := fun o => (P o).1.2.2.2.1; have p4 := fun o => (P o).1.2.2.2.2; clear P))
  go_ret
  have hB12 := hB1.trans (hB2.mono hB1.size)
  have h1 := hB12.alloc hB12.size (.cells #[.int .i64 k, .int .i64 a, .int .i64 e, .string S, .int .i64 n] 24)
  have h2 := h1.trans (hB3.mono h1.size)
  exact ⟨rfl, h2.alloc h2.size _⟩
end tokenNextWalk
end Go.Proofs.YtiflnciapboccaaDoor
