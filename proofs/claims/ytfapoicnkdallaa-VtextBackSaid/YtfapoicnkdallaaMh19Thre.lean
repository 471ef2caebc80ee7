/- Layer 6's arithmetic: numbers as bytes, the highest first. No walk. -/
import Derived.Laws.BitsAllLaws
import Derived.Test.YtfapoicnkdallaaMh2Thre
import Derived.Test.YtfapoicnkdallaaMh1Thre
import Derived.Test.YtfapoicnkdallaaMh16Thre
import Derived.Laws.MakeOwn
import Derived.RegionTactic
namespace Go.Proofs.Ytfapoicnkdallaa
namespace Bn
/-- the number of bytes, the highest first -/
def jn (l : List Int) : Nat := l.foldl (fun n x => n * 256 + x.toNat) 0
theorem or64 (a b : Nat) (hb : b < 256) (h : a < 72057594037927936) : bits .or .u64 ((a * 256 : Nat) : Int) (b : Int) = ((a * 256 + b : Nat) : Int) := by
  show IntKind.u64.wrap ((BitVec.ofInt 64 ((a * 256 : Nat) : Int) ||| BitVec.ofInt 64 (b : Int)).toNat : Int) = _
  have e : ∀ n : Nat, n < 18446744073709551616 → (BitVec.ofInt 64 (n : Int)).toNat = n := fun n hn => by simp; omega
  rw [BitVec.toNat_or, e _ (by omega), e _ (by omega), Nat.mul_comm, show (256 : Nat) = 2 ^ 8 from rfl, ← Nat.two_pow_add_eq_or_of_lt (by omega), IntKind.wrap_u64]
  omega
end Bn
end Go.Proofs.Ytfapoicnkdallaa

/- What a reader reads, without a walk. -/
namespace Go.Proofs.Ytfapoicnkdallaa
namespace Bn
/-- a reader's state: what is left; none: it is bad -/
abbrev St := Option (List Int)
/-- a number of so many bytes -/
def num (n : Nat) : St → Nat × St
  | none => (0, none)
  | some l => if n ≤ l.length then (jn (l.take n), some (l.drop n)) else (0, none)
def rByte (s : St) : Nat × St := num 1 s
def rNum (s : St) : Nat × St := if 2147483647 < (num 4 s).1 then (0, none) else num 4 s
def rLong (s : St) : Int × St := (IntKind.i64.wrap ((num 8 s).1 : Int), (num 8 s).2)
/-- the text of so many bytes -/
def txt (n : Nat) : St → ByteArray × St
  | none => (⟨#[]⟩, none)
  | some l => if n ≤ l.length then (strOfNums (l.take n), some (l.drop n)) else (⟨#[]⟩, none)
def rText (s : St) : ByteArray × St := txt (rNum s).1 (rNum s).2
/-- so many things, one behind the other -/
def rep (g : St → PV × St) : Nat → St → List PV × St
  | 0, s => ([], s)
  | n + 1, s => ((rep g n s).1 ++ [(g (rep g n s).2).1], (g (rep g n s).2).2)
/-- a value, its list's values as told -/
def node (lst : Nat → St → List PV × St) (s : St) : PV × St :=
  if (rByte s).1 = 1 then (.mk 1 (rByte (rByte s).2).1 ⟨#[]⟩ [], (rByte (rByte s).2).2)
  else if (rByte s).1 = 2 then (.mk 2 (rLong (rByte s).2).1 ⟨#[]⟩ [], (rLong (rByte s).2).2)
  else if (rByte s).1 = 3 ∨ (rByte s).1 = 4 then (.mk (rByte s).1 0 (rText (rByte s).2).1 [], (rText (rByte s).2).2)
  else if (rByte s).1 = 5 then (.mk 5 0 ⟨#[]⟩ (lst (rNum (rByte s).2).1 (rNum (rByte s).2).2).1, (lst (rNum (rByte s).2).1 (rNum (rByte s).2).2).2)
  else (.mk (rByte s).1 0 ⟨#[]⟩ [], (rByte s).2)
/-- a list's values, so deep at most -/
def lst (g : Option (St → PV × St)) (n : Nat) (s : St) : List PV × St :=
  match g with
  | none => ([], none)
  | some g => if 20 < n then ([], none) else rep g n s
def get : Nat → St → PV × St
  | 0 => node (lst none)
  | d + 1 => node (lst (some (get d)))
end Bn
end Go.Proofs.Ytfapoicnkdallaa

/- Package bin: a reader in memory; Read, Left, Bad, Done, fail; what is taken. -/
namespace Go.Proofs.Ytfapoicnkdallaa
open Go.RowKit Go.Shelf
attribute [local go_sem] Oper.semAt_some
/-- nothing left, and not bad -/
def Bn.done (s : Bn.St) : Bool := match s with
  | some [] => true
  | _ => false
end Go.Proofs.Ytfapoicnkdallaa
