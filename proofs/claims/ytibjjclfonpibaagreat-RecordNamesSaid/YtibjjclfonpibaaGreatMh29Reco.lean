/- The document's example of templates: alive, over the program's contracts. -/
import Derived.Test.YtibjjclfonpibaaGreatMh20Reco
import Derived.Test.YtibjjclfonpibaaGreatMh11Reco
import Derived.Test.YtibjjclfonpibaaGreatMh10Reco
import Derived.Deep.DeepCutAuto
import Derived.BigQuiet
set_option linter.unusedVariables false
set_option linter.unusedSimpArgs false
set_option maxRecDepth 100000
namespace Go.Proofs.YtibjjclfonpibaaGreat
open Go.RowKit Go.Shelf
def tv2 : Sc.Ver := ⟨twoT.slots, [1]⟩
theorem two_great : greatT twoT = false := by decide +kernel
end Go.Proofs.YtibjjclfonpibaaGreat
