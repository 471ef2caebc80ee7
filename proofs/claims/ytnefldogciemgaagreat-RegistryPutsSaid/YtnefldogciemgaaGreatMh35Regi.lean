/- The document's example of templates: alive, over the program's contracts. -/
import Derived.Test.YtnefldogciemgaaGreatMh21Regi
import Derived.Test.YtnefldogciemgaaGreatMh4Regi
import Derived.Test.YtnefldogciemgaaGreatMh8Regi
import Derived.Deep.DeepCutAuto
import Derived.BigQuiet
set_option linter.unusedVariables false
set_option linter.unusedSimpArgs false
set_option maxRecDepth 100000
namespace Go.Proofs.YtnefldogciemgaaGreat
open Go.RowKit Go.Shelf
def cS:SlotM:=⟨⟨#[99]⟩,5,false,Sc.nilV⟩
theorem two_great:greatT twoT=false:=by decide +kernel
