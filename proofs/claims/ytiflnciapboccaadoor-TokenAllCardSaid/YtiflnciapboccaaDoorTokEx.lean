/- Layer 7: the chapter's examples, reckoned. -/
import Derived.Test.YtiflnciapboccaaDoorTokSeq
namespace Go.Proofs.YtiflnciapboccaaDoor
namespace K
def ex1 : List Int := [32, 45, 48, 44, 34, 92, 117, 100, 56, 51, 100, 92, 117, 100, 101, 48, 48, 34]
def ex1T : List Tok := [⟨8, 1, 3, [], 0⟩, ⟨6, 3, 4, [], 0⟩, ⟨7, 4, 18, [240, 159, 152, 128], 0⟩, ⟨0, 18, 18, [], 0⟩]
theorem ex1_its : its ex1 = [(⟨8, 1, 3, [], 0⟩, 3, 0), (⟨6, 3, 4, [], 0⟩, 4, 0), (⟨7, 4, 18, [240, 159, 152, 128], 0⟩, 18, 0), (⟨0, 18, 18, [], 0⟩, 18, 0)] := by decide +kernel
theorem ex2_next : next [49, 46, 53] 0 = (zero, 0, 5) := by decide +kernel
theorem ex3_next : next [34, 97, 92, 120, 34] 0 = (zero, 2, 2) := by decide +kernel
theorem ex4_quote : quote [97, 10] = [34, 97, 92, 117, 48, 48, 48, 97, 34] := by decide +kernel
end K
end Go.Proofs.YtiflnciapboccaaDoor
