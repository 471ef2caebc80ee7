/- The contracts of package num's plain functions, and of the document's sum. -/
import Derived.Test.YtchjipkfdnfgpabStr
import Derived.Test.YtchjipkfdnfgpabNumMath
namespace Go.Proofs.Ytchjipkfdnfgpab
open Go.RowKit Go.Shelf
theorem ret_ib {k : IntKind} {x : Int} {y : Bool} {q : Int × Bool} (h : (x, y) = q) : Ending.returned (.tuple #[.int k x, .bool y]) = .returned (.tuple #[.int k q.1, .bool q.2]) := by rw [← h]
theorem ret_ii {k l : IntKind} {x y : Int} {q : Int × Int} (h : (x, y) = q) : Ending.returned (.tuple #[.int k x, .int l y]) = .returned (.tuple #[.int k q.1, .int l q.2]) := by rw [← h]
theorem nb_t (p q : Prop) [Decidable p] [Decidable q] : ((!decide p == decide q) = true) = ¬ (p ↔ q) := by by_cases p <;> by_cases q <;> simp [*]
theorem nb_f (p q : Prop) [Decidable p] [Decidable q] : ((!decide p == decide q) = false) = (p ↔ q) := by by_cases p <;> by_cases q <;> simp [*]
theorem size_any (n : Int) (w : World) (h : -9223372036854775808 ≤ n) (h' : n ≤ 9223372036854775807) :
    Calls Try.prog 42 #[.int .i64 n] w fun e w' => e = .returned (.int .u64 (n.natAbs : Int)) ∧ w = w' := by
  go_enter Try.func42, Try.ntmps42
  go_wp2
  all_goals
    go_ret
    refine ⟨ret_int ?_, rfl⟩
    try simp only [IntKind.wrap_u64] at *
    omega
theorem toList_data (s : ByteArray) : s.toList = s.data.toList := by
  have h : ∀ (n i : Nat) (r : List UInt8), s.size - i = n → ByteArray.toList.loop s i r = r.reverse ++ s.data.toList.drop i := by
    intro n
    induction n with
    | zero =>
      intro i r h
      rw [ByteArray.toList.loop, if_neg (by omega), List.drop_eq_nil_of_le (by simp; omega)]; simp
    | succ n ih =>
      intro i r h
      have hi : i < s.data.toList.length := by simp; omega
      rw [ByteArray.toList.loop, if_pos (by omega), ih _ _ (by omega), List.drop_eq_getElem_cons hi]
      simp only [List.reverse_cons, List.append_assoc, List.cons_append, List.nil_append]
      congr 2
      have : s.get! i = s.data[i]! := rfl
      rw [this, getElem!_pos s.data i (by simpa using hi)]; rfl
  exact (h _ 0 [] rfl)
theorem toList_lit (s : ByteArray) (l : List UInt8) (r : List Int) (h : l.map (fun b => (b.toNat : Int)) = r) (_ : 0 < l.length) : s.toList = l ↔ strB s = r := by
  rw [toList_data, strB, ← h]
  constructor
  · intro h; rw [h]
  · intro h
    exact (List.map_inj_right (fun a b hab => by apply UInt8.toNat_inj.1; have hab : (a.toNat : Int) = b.toNat := hab; omega)).1 h
theorem ret_str {a b : ByteArray} (h : a = b) : Ending.returned (.string a) = .returned (.string b) := by rw [h]
def Prt (w : World) (n : Int) (e : Ending) (w' : World) : Prop := e = .returned (.string (strOfNums (M.prt n))) ∧ Below w.heap.size w w'
theorem prt_bytes (n : Int) : ∀ x ∈ M.prt n, 0 ≤ x ∧ x ≤ 255 := by
  intro x hx
  unfold M.prt at hx
  rw [List.mem_append] at hx
  rcases hx with hx | hx
  · split at hx <;> simp at hx; omega
  · have := M.D_digits _ x hx
    simp [M.isD] at this; omega
end Go.Proofs.Ytchjipkfdnfgpab
