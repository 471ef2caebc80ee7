/- The program's records: Same, Set. (Made by gen_rcs.py.) -/
import Derived.Test.YtibjjclfonpibaaGreatMh33Cast
import Derived.BigQuiet
set_option linter.unusedVariables false
set_option linter.unusedSimpArgs false
set_option maxRecDepth 100000
namespace Go.Proofs.YtibjjclfonpibaaGreat
open Go.RowKit Go.Shelf
theorem eqL_iff (a b : List PV) : (a.length = b.length ∧ ∀ (i : Nat) (s v : PV), a[i]? = some s → b[i]? = some v → (cmpV s v == 0) = true) ↔ a = b := by
  constructor
  · rintro ⟨h1, h2⟩
    refine List.ext_getElem? fun i => ?_
    rcases Nat.lt_or_ge i a.length with hi | hi
    · have e1 := List.getElem?_eq_getElem hi
      have e2 := List.getElem?_eq_getElem (show i < b.length by omega)
      rw [e1, e2, (same_bool _ _).1 (h2 i _ _ e1 e2)]
    · rw [List.getElem?_eq_none hi, List.getElem?_eq_none (by omega)]
  · rintro rfl
    exact ⟨rfl, fun i s v h1 h2 => by rw [h1] at h2; cases h2; exact (same_bool _ _).2 rfl⟩
namespace Rc
end Rc
end Go.Proofs.YtibjjclfonpibaaGreat
