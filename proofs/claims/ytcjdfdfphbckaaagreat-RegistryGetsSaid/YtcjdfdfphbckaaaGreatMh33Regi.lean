/- The program's schema: fresh (a version in new memory). -/
import Derived.Test.YtcjdfdfphbckaaaGreatMh20Regi
import Derived.Test.YtcjdfdfphbckaaaGreatMh5Regi
import Derived.Deep.RegionHeld3
import Derived.Deep.DeepCutAuto
set_option linter.unusedVariables false
set_option linter.unusedSimpArgs false
set_option maxRecDepth 100000
set_option maxHeartbeats 64000000
open Go.Proofs.Tryz
namespace Go.Proofs.YtcjdfdfphbckaaaGreat
open Go.RowKit Go.Shelf
theorem k5 {p r:Nat} {c0 c1 c2 c3 c4:Value} {W W':World} (h:W.cell? ⟨p,0,none⟩=some c0∧(W.cell? ⟨r,3,none⟩=some c1∧W.cell? ⟨r,4,none⟩=some c2)∧W.cell? ⟨r,5,none⟩=some c3∧W.cell? ⟨r,6,none⟩=some c4) (hb:Below W.heap.size W W'):W'.cell? ⟨p,0,none⟩=some c0∧(W'.cell? ⟨r,3,none⟩=some c1∧W'.cell? ⟨r,4,none⟩=some c2)∧W'.cell? ⟨r,5,none⟩=some c3∧W'.cell? ⟨r,6,none⟩=some c4:=
 ⟨ZAA hb h.1,⟨ZAA hb h.2.1.1,ZAA hb h.2.1.2⟩,ZAA hb h.2.2.1,ZAA hb h.2.2.2⟩
theorem k2 {p:Nat} {c0 c1:Value} {W W':World} (h:W.cell? ⟨p,0,none⟩=some c0∧W.cell? ⟨p,1,none⟩=some c1) (hb:Below W.heap.size W W'):W'.cell? ⟨p,0,none⟩=some c0∧W'.cell? ⟨p,1,none⟩=some c1:=
 ⟨ZAA hb h.1,ZAA hb h.2⟩
