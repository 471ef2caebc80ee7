/- The document's example of templates: alive, over the program's contracts. -/
import Derived.Test.YtibjjclfonpibaaMh25Cast
import Derived.Test.YtibjjclfonpibaaMh14Cast
import Derived.Test.YtibjjclfonpibaaMh17Cast
set_option linter.unusedVariables false
set_option linter.unusedSimpArgs false
set_option maxRecDepth 100000
namespace Go.Proofs.Ytibjjclfonpibaa
open Go.RowKit Go.Shelf
theorem two_great : greatT twoT = false := by decide +kernel
end Go.Proofs.Ytibjjclfonpibaa
