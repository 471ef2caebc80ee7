/- The document's example of templates: alive, over the program's contracts. -/
import Derived.Test.YtibjjclfonpibaaGreatMh18Cast
import Derived.Test.YtibjjclfonpibaaGreatMh10Cast
import Derived.Test.YtibjjclfonpibaaGreatMh11Cast
set_option linter.unusedVariables false
set_option linter.unusedSimpArgs false
set_option maxRecDepth 100000
namespace Go.Proofs.YtibjjclfonpibaaGreat
open Go.RowKit Go.Shelf
theorem two_great : greatT twoT = false := by decide +kernel
end Go.Proofs.YtibjjclfonpibaaGreat
