/- The program's contracts of stage 10. -/
import Derived.Test.YtnegihjhcpddnaaSpZq
import Derived.Test.YtnegihjhcpddnaaSpPq
import Derived.Test.YtnegihjhcpddnaaSpOq
import Derived.Test.YtnegihjhcpddnaaSchAliveq
set_option linter.unusedVariables false
namespace Go.Proofs.Ytnegihjhcpddnaa
open Go.RowKit Go.Shelf
theorem allC : AllC := all_any add_any reorder_any
theorem rightC : RightC := rightA allC
theorem lastC : LastC := lastA allC
theorem atC : AtC := atA allC
theorem atNC : AtNC := atNA allC
end Go.Proofs.Ytnegihjhcpddnaa

/- The walks of stage 10 over the program's contracts (SchProg: rightC, lastC, atC, atNC, colC9, fitsC). -/
set_option linter.unusedVariables false
namespace Go.Proofs.Ytnegihjhcpddnaa
open Go.RowKit Go.Shelf
theorem schAlive_any (w : World) : Calls Try.prog 5 #[] w fun e w' => e = .returned (.bool true) ∧ Below w.heap.size w w' := aliveA rightC lastC atC atNC colC9 fitsC w
theorem schemaFitsWalk.walk (t0 : SlotM) (v0 : Value) (t1 : PV) (v1 : Value) (w : World) (w0 : IsSlot w t0 v0) (w1 : Is w t1 v1) :
    Calls Try.prog 3 #[v0, v1] w fun e w' => e = .returned (.bool true) ∧ Below w.heap.size w w' := schemaFitsWalk.walkA schAlive_any fitsC t0 t1 v0 v1 w w0 w1
theorem schemaFirstWalk.walk (t0 : TemplM) (v0 : Value) (a1 : Int) (w : World) (w0 : IsTempl w t0 v0) (w1 : (Lit.int .u8 a1).wf = true) :
    Calls Try.prog 4 #[v0, .int .u8 a1] w fun e w' => e = .returned (.bool true) ∧ Below w.heap.size w w' := by
  have h1 := wf_u8 w1
  obtain ⟨n, hn, rfl⟩ : ∃ n : Nat, n ≤ 255 ∧ (n : Int) = a1 := ⟨a1.toNat, by omega, by omega⟩
  exact schemaFirstWalk.walkA schAlive_any rightC lastC atC t0 v0 n hn w w0
end Go.Proofs.Ytnegihjhcpddnaa
