/- Package utf's Put and Text. -/
import Derived.Test.YtihpalbmkcoalaaUtfSeq
import Derived.Laws.BytesArg
namespace Go.Proofs.Ytihpalbmkcoalaa
open Go.RowKit Go.Shelf
def U.okAll (l : List Int) : Bool := l.all fun c => U.size c != 0
/-- the text of codes; whether all are codes -/
def U.text (l : List Int) : ByteArray × Bool := if U.okAll l then (strOfNums (l.flatMap U.put), true) else (ByteArray.empty, false)
theorem put_le (c : Int) : (U.put c).length ≤ 4 := by
  rw [put_len]
  unfold U.size; (repeat' split) <;> decide
theorem flat_le (l : List Int) : (l.flatMap U.put).length ≤ 4 * l.length := by
  induction l with
  | nil => simp
  | cons x l ih => have := put_le x; simp only [List.flatMap_cons, List.length_append, List.length_cons]; omega
end Go.Proofs.Ytihpalbmkcoalaa
