/- The document's example of templates: alive, over the program's contracts. -/
import Derived.Test.YtdogdbibhmhooaaGreatMh27Regi
import Derived.Test.YtdogdbibhmhooaaGreatMh7Regi
import Derived.Test.YtdogdbibhmhooaaGreatMh13Regi
import Derived.Deep.DeepCutAuto
import Derived.BigQuiet
set_option linter.unusedVariables false
set_option linter.unusedSimpArgs false
set_option maxRecDepth 100000
namespace Go.Proofs.YtdogdbibhmhooaaGreat
open Go.RowKit Go.Shelf
theorem two_great : greatT twoT = false := by decide +kernel
end Go.Proofs.YtdogdbibhmhooaaGreat
