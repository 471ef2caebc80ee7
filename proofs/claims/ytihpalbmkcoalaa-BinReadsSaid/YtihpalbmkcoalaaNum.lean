/- The contracts of package num's plain functions, and of the document's sum. -/
import Derived.Test.YtihpalbmkcoalaaStr
import Derived.Test.YtihpalbmkcoalaaNumMath
namespace Go.Proofs.Ytihpalbmkcoalaa
open Go.RowKit Go.Shelf
theorem ret_ib {k : IntKind} {x : Int} {y : Bool} {q : Int × Bool} (h : (x, y) = q) : Ending.returned (.tuple #[.int k x, .bool y]) = .returned (.tuple #[.int k q.1, .bool q.2]) := by rw [← h]
theorem ret_ii {k l : IntKind} {x y : Int} {q : Int × Int} (h : (x, y) = q) : Ending.returned (.tuple #[.int k x, .int l y]) = .returned (.tuple #[.int k q.1, .int l q.2]) := by rw [← h]
theorem nb_t (p q : Prop) [Decidable p] [Decidable q] : ((!decide p == decide q) = true) = ¬ (p ↔ q) := by by_cases p <;> by_cases q <;> simp [*]
theorem nb_f (p q : Prop) [Decidable p] [Decidable q] : ((!decide p == decide q) = false) = (p ↔ q) := by by_cases p <;> by_cases q <;> simp [*]
theorem ret_str {a b : ByteArray} (h : a = b) : Ending.returned (.string a) = .returned (.string b) := by rw [h]
def Prt (w : World) (n : Int) (e : Ending) (w' : World) : Prop := e = .returned (.string (strOfNums (M.prt n))) ∧ Below w.heap.size w w'
theorem prt_bytes (n : Int) : ∀ x ∈ M.prt n, 0 ≤ x ∧ x ≤ 255 := by
  intro x hx
  unfold M.prt at hx
  rw [List.mem_append] at hx
  rcases hx with hx | hx
  · split at hx <;> simp at hx; omega
  · have := M.D_digits _ x hx
    simp [M.isD] at this; omega
end Go.Proofs.Ytihpalbmkcoalaa
