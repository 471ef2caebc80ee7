/-
  DERIVED. GIVEN WITH THE SEED: THE CARDS: each row of YtcicjpdjbfgbhaaGreatDoorRows.lean that lists a variable, with what it lists TIED to the program's text (the seventh form; the later family's looks); each row that meets fmt, with fmt's text TOLD by the authors' own Lean function (tested against real Go, not proved from fmt's source: count such statements apart). THE CARD IS WHAT COUNTS. Prove the row's statement (the work); the ties are given (YtcicjpdjbfgbhaaGreatDoorTie.lean); close each card by the builder's one call (the guide's Derived/Test/ToyasCard.lean, 'card_holds'). Laid BY PROGRAM, IN A SANDBOX (cutbox-door.mjs). By AI agents, Wed Nov 11 2026. No macro, syntax, notation, axiom, sorry.
-/
import Derived.Test.YtcicjpdjbfgbhaaGreatDoorRows
import GoSem.ClaimSeven
namespace Go.Proofs.YtcicjpdjbfgbhaaGreatDoor
namespace Rows

/-- THE TIED CARD OF 'douanelaw15.CellFits'. -/
def cellFitsCard : Claim7 := { stood := { row := cellFitsRow, standIns := [], harness := (true, "bc02edd46d13abef7c93c4062097a4df5aeab91a8c49fc11258a5fcc0608a27a"), looks := true }, kinds := [], alts := [], laidByText := true, laidKinds := [.data, .data], laidTests := true, laidLooks := .later }
def CellFitsCardSaid : Prop := Claim7.holds Tryz.pinned (.plain (OpenSpec.ofChange cellFitsSpec)) cellFitsCard

/-- THE SECOND FORM's CARD OF 'douanelaw15.CellFits'. -/
def cellFitsUptoCard : Claim7 := { stood := { row := cellFitsUptoRow, standIns := [], harness := (true, "bc02edd46d13abef7c93c4062097a4df5aeab91a8c49fc11258a5fcc0608a27a"), looks := true }, kinds := [], alts := [], laidByText := true, laidKinds := [.data, .data], laidTests := true, laidLooks := .later }
def CellFitsUptoCardSaid : Prop := Claim7.holds Tryz.pinned (.plain (OpenSpec.upto cellFitsSpec)) cellFitsUptoCard
end Rows
end Go.Proofs.YtcicjpdjbfgbhaaGreatDoor
