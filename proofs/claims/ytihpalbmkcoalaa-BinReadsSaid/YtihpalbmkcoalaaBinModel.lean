/- What a reader reads, without a walk. -/
import Derived.Test.YtihpalbmkcoalaaBinMath
import Derived.Test.YtihpalbmkcoalaaVal
namespace Go.Proofs.Ytihpalbmkcoalaa
namespace Bn
/-- a reader's state: what is left; none: it is bad -/
abbrev St := Option (List Int)
def lf : St → List Int
  | none => []
  | some l => l
/-- a number of so many bytes -/
def num (n : Nat) : St → Nat × St
  | none => (0, none)
  | some l => if n ≤ l.length then (jn (l.take n), some (l.drop n)) else (0, none)
def rByte (s : St) : Nat × St := num 1 s
def rNum (s : St) : Nat × St := if 2147483647 < (num 4 s).1 then (0, none) else num 4 s
def rLong (s : St) : Int × St := (IntKind.i64.wrap ((num 8 s).1 : Int), (num 8 s).2)
/-- the text of so many bytes -/
def txt (n : Nat) : St → ByteArray × St
  | none => (⟨#[]⟩, none)
  | some l => if n ≤ l.length then (strOfNums (l.take n), some (l.drop n)) else (⟨#[]⟩, none)
def rText (s : St) : ByteArray × St := txt (rNum s).1 (rNum s).2
/-- so many things, one behind the other -/
def rep (g : St → PV × St) : Nat → St → List PV × St
  | 0, s => ([], s)
  | n + 1, s => ((rep g n s).1 ++ [(g (rep g n s).2).1], (g (rep g n s).2).2)
/-- a value, its list's values as told -/
def node (lst : Nat → St → List PV × St) (s : St) : PV × St :=
  if (rByte s).1 = 1 then (.mk 1 (rByte (rByte s).2).1 ⟨#[]⟩ [], (rByte (rByte s).2).2)
  else if (rByte s).1 = 2 then (.mk 2 (rLong (rByte s).2).1 ⟨#[]⟩ [], (rLong (rByte s).2).2)
  else if (rByte s).1 = 3 ∨ (rByte s).1 = 4 then (.mk (rByte s).1 0 (rText (rByte s).2).1 [], (rText (rByte s).2).2)
  else if (rByte s).1 = 5 then (.mk 5 0 ⟨#[]⟩ (lst (rNum (rByte s).2).1 (rNum (rByte s).2).2).1, (lst (rNum (rByte s).2).1 (rNum (rByte s).2).2).2)
  else (.mk (rByte s).1 0 ⟨#[]⟩ [], (rByte s).2)
/-- a list's values, so deep at most -/
def lst (g : Option (St → PV × St)) (n : Nat) (s : St) : List PV × St :=
  match g with
  | none => ([], none)
  | some g => if 20 < n then ([], none) else rep g n s
def get : Nat → St → PV × St
  | 0 => node (lst none)
  | d + 1 => node (lst (some (get d)))
/-- what reads a list's values, so deep at most -/
def getL : Nat → Option (St → PV × St)
  | 0 => none
  | d + 1 => some (get d)
theorem get_node (d : Nat) : get d = node (lst (getL d)) := by cases d <;> rfl
theorem num_lt (n : Nat) (s : St) (h : ∀ x ∈ lf s, 0 ≤ x ∧ x ≤ 255) : (num n s).1 < 256 ^ n := by
  cases s with
  | none => exact Nat.pow_pos (by omega)
  | some l =>
    simp only [num]
    split
    · rename_i hn
      have := jn_lt (l.take n) fun x hx => h x (List.mem_of_mem_take hx)
      rwa [List.length_take, Nat.min_eq_left hn] at this
    · exact Nat.pow_pos (by omega)
theorem num_none (n : Nat) : num n none = (0, none) := rfl
end Bn
end Go.Proofs.Ytihpalbmkcoalaa
