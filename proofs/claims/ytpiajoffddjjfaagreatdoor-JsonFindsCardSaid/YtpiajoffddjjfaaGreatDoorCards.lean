/-
  DERIVED. GIVEN WITH THE SEED: THE CARDS: each row of YtpiajoffddjjfaaGreatDoorRows.lean that lists a variable, with what it lists TIED to the program's text (the seventh form; the later family's looks); each row that meets fmt, with fmt's text TOLD by the authors' own Lean function (tested against real Go, not proved from fmt's source: count such statements apart). THE CARD IS WHAT COUNTS. Prove the row's statement (the work); the ties are given (YtpiajoffddjjfaaGreatDoorTie.lean); close each card by the builder's one call (the guide's Derived/Test/ToyasCard.lean, 'card_holds'). Laid BY PROGRAM, IN A SANDBOX (cutbox-door.mjs). By AI agents, Wed Nov 11 2026. No macro, syntax, notation, axiom, sorry.
-/
import Derived.Test.YtpiajoffddjjfaaGreatDoorRows
import GoSem.ClaimSeven
namespace Go.Proofs.YtpiajoffddjjfaaGreatDoor
namespace Rows

/-- THE TIED CARD OF 'douanelaw08.JsonFinds'. -/
def jsonFindsCard : Claim7 := { stood := { row := jsonFindsRow, standIns := [], harness := (true, "59a9553633d2e55e97e7e31a1569514e40a40d62921994e963b21c7b3afd6cb5"), looks := true }, kinds := [], alts := [], laidByText := true, laidKinds := [.data, .data, .data, .sentinel, .sentinel], laidTests := true, laidLooks := .later }
def JsonFindsCardSaid : Prop := Claim7.holds Tryz.pinned (.plain (OpenSpec.ofChange jsonFindsSpec)) jsonFindsCard

/-- THE SECOND FORM's CARD OF 'douanelaw08.JsonFinds'. -/
def jsonFindsUptoCard : Claim7 := { stood := { row := jsonFindsUptoRow, standIns := [], harness := (true, "59a9553633d2e55e97e7e31a1569514e40a40d62921994e963b21c7b3afd6cb5"), looks := true }, kinds := [], alts := [], laidByText := true, laidKinds := [.data, .data, .data, .sentinel, .sentinel], laidTests := true, laidLooks := .later }
def JsonFindsUptoCardSaid : Prop := Claim7.holds Tryz.pinned (.plain (OpenSpec.upto jsonFindsSpec)) jsonFindsUptoCard
end Rows
end Go.Proofs.YtpiajoffddjjfaaGreatDoor
