/- The document's example of templates: alive, over the program's contracts. -/
import Derived.Test.YtcjdfdfphbckaaaGreatMh20Regi
import Derived.Test.YtcjdfdfphbckaaaGreatMh3Regi
import Derived.Test.YtcjdfdfphbckaaaGreatMh7Regi
import Derived.Test.YtcjdfdfphbckaaaGreatMh2Regi
import Derived.Deep.DeepCutAuto
import Derived.BigQuiet
set_option linter.unusedVariables false
set_option linter.unusedSimpArgs false
set_option maxRecDepth 100000
set_option maxHeartbeats 64000000
open Go.Proofs.Tryz
namespace Go.Proofs.YtcjdfdfphbckaaaGreat
open Go.RowKit Go.Shelf
theorem ZNC:greatT twoT=false:=by decide +kernel
