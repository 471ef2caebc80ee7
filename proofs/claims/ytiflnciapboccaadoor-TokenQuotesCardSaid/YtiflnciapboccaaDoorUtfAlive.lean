/- Layer 1: what the statements ask first (alive). -/
import Derived.Test.YtiflnciapboccaaDoorUtfRefText
namespace Go.Proofs.YtiflnciapboccaaDoor
open Go.RowKit Go.Shelf
theorem aliveTxt : ∃ s : ByteArray, U.text [97, 8364] = (s, true) ∧ s.size = 4 ∧ U.validS s = true ∧ U.countS s = 2 := by
  refine ⟨strOfNums [97, 226, 130, 172], ?_, ?_, ?_, ?_⟩ <;> decide +kernel
end Go.Proofs.YtiflnciapboccaaDoor
