/- Layer 6's arithmetic: numbers as bytes, the highest first. No walk. -/
import Derived.Laws.BitsAllLaws
import Derived.Test.YtfapoicnkdallaaMh2Vtex
import Derived.Test.YtfapoicnkdallaaMh1Vtex
import Derived.Test.YtfapoicnkdallaaMh14Vtex
import Derived.Laws.MakeOwn
import Derived.RegionTactic
import Derived.Lib.AppendZeros
import Derived.Lib.SliceRun
import Derived.Test.YtfapoicnkdallaaMh11Vtex
namespace Go.Proofs.Ytfapoicnkdallaa
namespace Bn
/-- the number of bytes, the highest first -/
def jn (l : List Int) : Nat := l.foldl (fun n x => n * 256 + x.toNat) 0
theorem or64 (a b : Nat) (hb : b < 256) (h : a < 72057594037927936) : bits .or .u64 ((a * 256 : Nat) : Int) (b : Int) = ((a * 256 + b : Nat) : Int) := by
  show IntKind.u64.wrap ((BitVec.ofInt 64 ((a * 256 : Nat) : Int) ||| BitVec.ofInt 64 (b : Int)).toNat : Int) = _
  have e : ∀ n : Nat, n < 18446744073709551616 → (BitVec.ofInt 64 (n : Int)).toNat = n := fun n hn => by simp; omega
  rw [BitVec.toNat_or, e _ (by omega), e _ (by omega), Nat.mul_comm, show (256 : Nat) = 2 ^ 8 from rfl, ← Nat.two_pow_add_eq_or_of_lt (by omega), IntKind.wrap_u64]
  omega
end Bn
end Go.Proofs.Ytfapoicnkdallaa

/- What a reader reads, without a walk. -/
namespace Go.Proofs.Ytfapoicnkdallaa
namespace Bn
/-- a reader's state: what is left; none: it is bad -/
abbrev St := Option (List Int)
/-- a number of so many bytes -/
def num (n : Nat) : St → Nat × St
  | none => (0, none)
  | some l => if n ≤ l.length then (jn (l.take n), some (l.drop n)) else (0, none)
def rByte (s : St) : Nat × St := num 1 s
def rNum (s : St) : Nat × St := if 2147483647 < (num 4 s).1 then (0, none) else num 4 s
def rLong (s : St) : Int × St := (IntKind.i64.wrap ((num 8 s).1 : Int), (num 8 s).2)
/-- the text of so many bytes -/
def txt (n : Nat) : St → ByteArray × St
  | none => (⟨#[]⟩, none)
  | some l => if n ≤ l.length then (strOfNums (l.take n), some (l.drop n)) else (⟨#[]⟩, none)
def rText (s : St) : ByteArray × St := txt (rNum s).1 (rNum s).2
/-- so many things, one behind the other -/
def rep (g : St → PV × St) : Nat → St → List PV × St
  | 0, s => ([], s)
  | n + 1, s => ((rep g n s).1 ++ [(g (rep g n s).2).1], (g (rep g n s).2).2)
/-- a value, its list's values as told -/
def node (lst : Nat → St → List PV × St) (s : St) : PV × St :=
  if (rByte s).1 = 1 then (.mk 1 (rByte (rByte s).2).1 ⟨#[]⟩ [], (rByte (rByte s).2).2)
  else if (rByte s).1 = 2 then (.mk 2 (rLong (rByte s).2).1 ⟨#[]⟩ [], (rLong (rByte s).2).2)
  else if (rByte s).1 = 3 ∨ (rByte s).1 = 4 then (.mk (rByte s).1 0 (rText (rByte s).2).1 [], (rText (rByte s).2).2)
  else if (rByte s).1 = 5 then (.mk 5 0 ⟨#[]⟩ (lst (rNum (rByte s).2).1 (rNum (rByte s).2).2).1, (lst (rNum (rByte s).2).1 (rNum (rByte s).2).2).2)
  else (.mk (rByte s).1 0 ⟨#[]⟩ [], (rByte s).2)
/-- a list's values, so deep at most -/
def lst (g : Option (St → PV × St)) (n : Nat) (s : St) : List PV × St :=
  match g with
  | none => ([], none)
  | some g => if 20 < n then ([], none) else rep g n s
def get : Nat → St → PV × St
  | 0 => node (lst none)
  | d + 1 => node (lst (some (get d)))
end Bn
end Go.Proofs.Ytfapoicnkdallaa

/- Package bin: a reader in memory; Read, Left, Bad, Done, fail; what is taken. -/
namespace Go.Proofs.Ytfapoicnkdallaa
open Go.RowKit Go.Shelf
attribute [local go_sem] Oper.semAt_some
/-- nothing left, and not bad -/
def Bn.done (s : Bn.St) : Bool := match s with
  | some [] => true
  | _ => false
end Go.Proofs.Ytfapoicnkdallaa

/- Package bin: put, Value. -/
namespace Go.Proofs.Ytfapoicnkdallaa
open Go.RowKit Go.Shelf
attribute [local go_sem] Oper.semAt_some
/-- what a value that is formed has in it -/
theorem ok_parts {k n : Int} {s : ByteArray} {l : List PV} (h : okV (.mk k n s l) = true) : (0 ≤ k ∧ k ≤ 5) ∧ (k = 1 → n = 0 ∨ n = 1) ∧ s.size ≤ 200 ∧ (k ≠ 5 → l = []) ∧ l.length ≤ 20 ∧ okL l = true ∧ (k ≠ 3 → k ≠ 4 → s.toList.isEmpty = true) ∧ (k ≠ 1 → k ≠ 2 → n = 0) := by
  have hemp : ∀ s : ByteArray, s.toList.isEmpty = true → s.size ≤ 200 := fun s hs => by
    rw [toList_data] at hs; simp at hs; simp [ByteArray.size, hs]
  by_cases k0 : k = 0
  · subst k0; rw [okV0] at h; simp only [Bool.and_eq_true, beq_iff_eq, List.isEmpty_iff] at h; obtain ⟨⟨rfl, h2⟩, rfl⟩ := h
    exact ⟨by omega, by omega, hemp s (by simp [h2]), fun _ => rfl, by simp, rfl, fun _ _ => by simp [h2], fun _ _ => rfl⟩
  by_cases k1 : k = 1
  · subst k1; rw [okV1] at h; simp only [Bool.and_eq_true, Bool.or_eq_true, beq_iff_eq, List.isEmpty_iff] at h; obtain ⟨⟨h1, h2⟩, rfl⟩ := h
    exact ⟨by omega, fun _ => h1, hemp s (by simp [h2]), fun _ => rfl, by simp, rfl, fun _ _ => by simp [h2], fun h => absurd rfl h⟩
  by_cases k2 : k = 2
  · subst k2; rw [okV2] at h; simp only [Bool.and_eq_true, List.isEmpty_iff] at h; obtain ⟨h2, rfl⟩ := h
    exact ⟨by omega, by omega, hemp s (by simp [h2]), fun _ => rfl, by simp, rfl, fun _ _ => by simp [h2], fun _ h => absurd rfl h⟩
  by_cases k3 : k = 3
  · subst k3; rw [okV3] at h; simp only [Bool.and_eq_true, beq_iff_eq, List.isEmpty_iff] at h; obtain ⟨⟨rfl, h2⟩, rfl⟩ := h
    refine ⟨by omega, by omega, ?_, fun _ => rfl, by simp, rfl, fun h => absurd rfl h, fun _ _ => rfl⟩
    have := strB_len s
    simp only [nameB, Bool.and_eq_true, decide_eq_true_eq] at h2
    omega
  by_cases k4 : k = 4
  · subst k4; rw [okV4] at h; simp only [Bool.and_eq_true, beq_iff_eq, List.isEmpty_iff, decide_eq_true_eq] at h; obtain ⟨⟨⟨rfl, h2⟩, h3⟩, rfl⟩ := h
    exact ⟨by omega, by omega, h2, fun _ => rfl, by simp, rfl, fun _ h => absurd rfl h, fun _ _ => rfl⟩
  by_cases k5 : k = 5
  · subst k5; rw [okV5] at h; simp only [Bool.and_eq_true, beq_iff_eq, decide_eq_true_eq] at h; obtain ⟨⟨⟨rfl, h2⟩, h3⟩, h4⟩ := h
    exact ⟨by omega, by omega, hemp s h2, fun h => absurd rfl h, h3, h4, fun _ _ => h2, fun _ _ => rfl⟩
  · rw [okV6 _ _ _ _ k0 k1 k2 k3 k4 k5] at h; cases h
theorem okL_mem {l : List PV} (h : okL l = true) : ∀ x ∈ l, okV x = true := by
  induction l with
  | nil => simp
  | cons y r ih =>
    intro x hx
    simp only [okL, Bool.and_eq_true] at h
    rcases List.mem_cons.1 hx with rfl | hx
    · exact h.1
    · exact ih h.2 x hx
end Go.Proofs.Ytfapoicnkdallaa
