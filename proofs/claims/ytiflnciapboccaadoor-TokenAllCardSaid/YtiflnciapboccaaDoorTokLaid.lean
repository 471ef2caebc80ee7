/- The condition of the listed rows: the library's variable for a wrong text holds an error (no walk). -/
import Derived.Test.YtiflnciapboccaaDoorTokEsc
import Derived.Test.YtiflnciapboccaaDoorRows
import Derived.ProofKit
import Derived.LaidMore
import Derived.Stop.Joined
namespace Go.Proofs.YtiflnciapboccaaDoor
open Go.RowKit Go.ChangeShapes Go.WideShapes Go.ChangeAt Go.WideMaps Go.WideElems
abbrev laidL : List (String × DataW Unit) := [("math/bits.deBruijn32tab", Rows.laid_math_bits_deBruijn32tab), ("math/bits.deBruijn64tab", Rows.laid_math_bits_deBruijn64tab), ("internal/strconv.uint64pow10", Rows.laid_internal_strconv_uint64pow10), ("strconv.ErrRange", Rows.laid_strconv_ErrRange), ("strconv.ErrSyntax", Rows.laid_strconv_ErrSyntax)]
theorem gErrSyntax : Tryd.prog.globalNamed "strconv.ErrSyntax" = some 1 := by kernel_rfl
theorem tErrSyntax : (((Tryd.prog.globals[1]?).map (·.type)).bind fun t => (Tryd.prog.underlying t).map fun d => match d with | .interface _ => true | _ => false) = some true := by kernel_rfl
theorem door_met (os : Os) (args : Array Value) : laidMetH Tryd.prog laidL ((World.doorLaid Tryd.prog 400 os).forCall (fun _ _ => 0) ⟨#[], args, []⟩).memory :=
  laidMetH_of_parts3 (fuel := 8) (laidMet_of_run' 8 (by kernel_rfl) (by kernel_rfl)) (by kernel_rfl) (by kernel_rfl)
theorem err_of_laid {W : World} (h : laidMetH Tryd.prog laidL W) : Err W := by
  rw [MakeChecks.laidMetH_plain _ _ _ (by kernel_rfl)] at h
  obtain ⟨ps, ⟨g0, t0, cs0, f0, p0, q0, _, _, _, _, ⟨g1, t1, cs1, f1, p1, q1, _, _, _, _, ⟨g2, t2, cs2, f2, p2, q2, _, _, _, _, ⟨g3, t3, cs3, f3, p3, q3, _, _, _, _, ⟨g4, t4, cs4, f4, p4, q4, hg, ht, hv, hd, _⟩, _⟩, _⟩, _⟩, _⟩, _⟩ := h
  obtain rfl := Option.some.inj (gErrSyntax.symm.trans hg)
  have ht' := tErrSyntax
  rw [ht] at ht'
  simp only [Option.bind_some] at ht'
  cases hu : Tryd.prog.underlying t4 with
  | none => rw [hu] at ht'; cases ht'
  | some d =>
    rw [hu] at ht'
    cases d <;> first | (simp at ht'; done) | skip
    obtain ⟨_, u, v, hcs, _, _⟩ := iface_of_trod hu hd
    have := World.var?_cell hg hv 0
    rw [Array.eq_one_of_toList hcs] at this
    exact ⟨_, by simpa using this, .inr ⟨_, _, rfl⟩⟩
end Go.Proofs.YtiflnciapboccaaDoor
