/- The program's records: gather (of slots, of numbers, of values). -/
import Derived.Test.YtibjjclfonpibaaGreatMh11Cast
import Derived.Test.YtibjjclfonpibaaGreatMh16Cast
import Derived.Laws.MakeOwn
set_option linter.unusedVariables false
set_option linter.unusedSimpArgs false
set_option maxRecDepth 100000
namespace Go.Proofs.YtibjjclfonpibaaGreat
open Go.RowKit Go.Shelf
theorem made_make (n : Nat) (hn : n ≤ 100000) (W : World) : ∃ M : Array Value, M.size = n * 4 ∧ (Instr.makeSlice 26 (.int .i64 (n : Int)) (.int .i64 (n : Int))).run Tryz.prog W = .ok (.slice (some ⟨W.heap.size, 0, none⟩) n n) (W.alloc (.cells M 42)) := by
  obtain ⟨i0, hi, hz0, hz1, hz2⟩ := info_parts info_val
  refine ⟨madeCells (Value.agg vzero).cells (((n : Nat) : Int).toNat * i0.size), by rw [size_madeCells, hz1]; simp, ?_⟩
  have h := run_make (P := Tryz.prog) W 26 42 i0 (.agg vzero) Tryz.underlying26 hi hz0 .i64 .i64 (n : Int) (n : Int) (by omega) (by omega) (by rw [hz2]; omega) (by omega)
  simpa using h
end Go.Proofs.YtibjjclfonpibaaGreat
