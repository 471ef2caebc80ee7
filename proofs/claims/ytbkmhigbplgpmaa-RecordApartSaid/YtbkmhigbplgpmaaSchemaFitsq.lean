/- The walk of SchemaFits: whether every value fits every slot is the document's. -/
import Derived.Test.YtbkmhigbplgpmaaMg16Rec
import Derived.Deep.DeepCutAuto
import Derived.BigQuiet
set_option linter.unusedVariables false
set_option linter.unusedSimpArgs false
set_option maxRecDepth 100000
namespace Go.Proofs.Ytbkmhigbplgpmaa
open Go.RowKit Go.Shelf
theorem quietT_run {P : Program} {o : Oper} {a : Act} {C : World → Prop} {K : Act → Prop} {v : Value} (h1 : ∀ w, C w → o.quietAt P a C w v) (h2 : K (a.put o.dst v)) : o.quiet P a C K := ⟨v, h1, h2⟩
/-- what Fits comes to -/
def FitsC : Prop := ∀ (s : SlotM) (v : PV) (w : World) (X Y : Value), szV v ≤ 1000000 → 0 ≤ s.ty → IsSlot w s X → Is w v Y → Calls Try.prog 26 #[X, Y] w fun e w' => e = .returned (.bool (Sc.fits s.ty v)) ∧ Below w.heap.size w w'
namespace schemaFitsWalk
end schemaFitsWalk
end Go.Proofs.Ytbkmhigbplgpmaa
