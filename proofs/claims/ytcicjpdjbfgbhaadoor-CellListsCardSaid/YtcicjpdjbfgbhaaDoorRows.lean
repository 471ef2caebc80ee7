/-
  NARROWER THAN 'FOR EVERY INPUT', by the rows' own cells (each row's printed sentence says how): CellLists: loops, laid.
  DERIVED. THE GIVEN ROWS OF THIS SEAT. 1 by the template 'for every input the law returns true; each argument reads behind the call as it read before'; 0 by the template 'total and deterministic' (their statements: YtcicjpdjbfgbhaaDoorTotals.lean).
  GIVEN WITH THE SEED: the statements are not yours to turn. If you find one false, say at which input.
  Laid BY PROGRAM, IN A SANDBOX (cutbox-rows.mjs): the forced cells as the released guide's own fill.sh prints them over the translation 4f78ca7c36c1cf3b… (all of the seat's roots in one cut). By AI agents, Wed Nov 11 2026. No macro, syntax, notation, axiom, sorry.
-/
import Derived.Test.YtcicjpdjbfgbhaaDoorChecked
import GoSem.Claim
import GoSem.ClaimJoined
import GoSem.ClaimMapViews
import Derived.JoinedTies
import Derived.KernelRfl
namespace Go.Proofs.YtcicjpdjbfgbhaaDoor
/- THE CELL 'sum', in the pinned program and in every row, IS THE sha256 OF THE DUMP (.gsa) THAT YtcicjpdjbfgbhaaDoorProg.lean LOADS. Nothing in Lean hashes anything: it is a label: what it is worth is what the hold of that sum in a sandbox is worth. -/
noncomputable def Tryd.pinned : Pinned := { name := "ytcicjpdjbfgbhaadoor", sum := "4f78ca7c36c1cf3b91db549b8047ca33285b71a8357cb648350b2b40ecee5260", checked := Tryd.checked }
namespace Rows
def none {H : Type} : Left H := { results := [], args := [] }

/- WHAT THE LISTED PACKAGE-LEVEL VARIABLES READ AS WHEN THE CALL BEGINS. Each datum BY PROGRAM (the guide's laid-datum.mjs) off the statement by which the dump's own 'gosem.cut.vars' lays the variable. In a bare row this is a premise. The card (YtcicjpdjbfgbhaaDoorCards.lean) ties it to the program's text. -/
def laid_douane_cell_kinds {H : Type} : DataW H := .agg [.lit (.int .i64 0), .lit (.int .i64 1), .lit (.int .i64 2), .lit (.int .i64 0), .lit (.int .i64 4), .lit (.int .i64 5), .lit (.int .i64 3)]
def laid_douane_cell_bare {H : Type} : DataW H := .agg [.lit (.int .i64 3), .lit (.int .i64 4)]

/-- 'douanelaw15.CellLists': WHATEVER THE INPUT: true; the input reads as it did. -/
def cellListsSpec : ChangeSpec := { name := "cellLists", fn := fun _ => fun
  | [d1, d2] => { results := [.lit (.bool true)], args := [d1, d2] }
  | _ => none }
def cellListsRow : OpenClaim := { program := "ytcicjpdjbfgbhaadoor", sum := "4f78ca7c36c1cf3b91db549b8047ca33285b71a8357cb648350b2b40ecee5260", func := "douane/douanelaw15.CellLists", spec := "cellLists", inPlace := ["internal/bytealg.IndexByteString"], unfollowed := true, recurses := true, named := ["douane/cell.kinds", "douane/cell.bare"], loops := true, apart := false, laid := [("douane/cell.kinds", laid_douane_cell_kinds), ("douane/cell.bare", laid_douane_cell_bare)] }
def CellListsSaid : Prop := cellListsRow.holds Tryd.pinned (OpenSpec.ofChange cellListsSpec)

/-- ITS FALSE NEIGHBOUR: 'it returns false'. Refute it at one input. -/
def cellListsWrong : ChangeSpec := { name := "cellLists", fn := fun _ => fun
  | [d1, d2] => { results := [.lit (.bool false)], args := [d1, d2] }
  | _ => none }
def CellListsWrongFalsely : Prop := cellListsRow.holds Tryd.pinned (OpenSpec.ofChange cellListsWrong)

/- THE SECOND FORM. 'bulk': how many values and letters a reading holds, each counted each time it is reached (what is shared counts as often as it is met; a slice's spare places count too). A statement '..UptoSaid' is the law's where the arguments, and the package variables that the reading takes, are together of bulk at most 1048576: NARROWER than '..Said'. Prove '..Said' where nothing that the law and all that it calls make is longer than what came in: it says more and counts as full. Else prove '..UptoSaid'. A law counts once. -/
mutual
def uptoBulk {H : Type} : DataW H → Nat
  | .lit (.string bytes) => bytes.length + 1
  | .lit _ => 1
  | .nil => 1
  | .ptr d => uptoBulk d + 1
  | .slice elems spare => uptoBulkAll elems + uptoBulkAll spare + 1
  | .agg parts => uptoBulkAll parts + 1
  | .iface _ d => uptoBulk d + 1
  | .map entries => uptoBulkEntries entries + 1
  | .held _ => 1
def uptoBulkAll {H : Type} : List (DataW H) → Nat
  | [] => 0
  | d :: r => uptoBulk d + uptoBulkAll r
def uptoBulkEntries {H : Type} : List (Lit × DataW H) → Nat
  | [] => 0
  | x :: r => uptoBulkEntry x + uptoBulkEntries r
def uptoBulkEntry {H : Type} : Lit × DataW H → Nat
  | (.string bytes, d) => bytes.length + uptoBulk d + 1
  | (_, d) => uptoBulk d + 1
 end
def uptoSmall : (H : Type) → List (DataW H) → Bool := fun _ ds => decide (uptoBulkAll ds ≤ 1048576)
def OpenSpec.upto (s : _root_.Go.ChangeSpec) : _root_.Go.OpenSpec := { _root_.Go.OpenSpec.ofChange s with cond := some uptoSmall }

/-- 'douanelaw15.CellLists', WHERE WHAT IT READS IS OF BULK AT MOST 1048576: true; the input reads as it did. -/
def cellListsUptoRow : OpenClaim := { program := "ytcicjpdjbfgbhaadoor", sum := "4f78ca7c36c1cf3b91db549b8047ca33285b71a8357cb648350b2b40ecee5260", func := "douane/douanelaw15.CellLists", spec := "cellLists", inPlace := ["internal/bytealg.IndexByteString"], unfollowed := true, recurses := true, named := ["douane/cell.kinds", "douane/cell.bare"], loops := true, apart := false, laid := [("douane/cell.kinds", laid_douane_cell_kinds), ("douane/cell.bare", laid_douane_cell_bare)], narrowed := true }
def CellListsUptoSaid : Prop := cellListsUptoRow.holds Tryd.pinned (OpenSpec.upto cellListsSpec)

end Rows
end Go.Proofs.YtcicjpdjbfgbhaaDoor
