/- Plain mathematics of UTF-8, as the program's layer 1 computes it: no program is mentioned here. -/
import Derived.Laws.BitsAllLaws
import Derived.Below
namespace Go.Proofs.Ytfapoicnkdallaa.U
/-- how many bytes a code has; 0: it is none -/
def size (c : Int) : Int := if c < 0 ∨ (55296 ≤ c ∧ c ≤ 57343) ∨ 1114111 < c then 0 else if c < 128 then 1 else if c < 2048 then 2 else if c < 65536 then 3 else 4
/-- the bits of the first byte, and how many bytes it asks for -/
def fst (x : Int) : Int × Nat := if x < 128 then (x, 1) else if 192 ≤ x ∧ x < 224 then (x - 192, 2) else if 224 ≤ x ∧ x < 240 then (x - 224, 3) else if 240 ≤ x ∧ x < 248 then (x - 240, 4) else (0, 0)
def cont (x : Int) : Bool := decide (128 ≤ x ∧ x < 192)
/-- n more bytes behind the bits c -/
def conts : List Int → Nat → Int → Option Int
  | _, 0, c => some c
  | [], _ + 1, _ => none
  | x :: r, n + 1, c => if cont x then conts r n (c * 64 + (x - 128)) else none
theorem conts_zero (l : List Int) (c : Int) : conts l 0 c = some c := by cases l <;> rfl
theorem conts_succ (x : Int) (r : List Int) (n : Nat) (c : Int) : conts (x :: r) (n + 1) c = if cont x then conts r n (c * 64 + (x - 128)) else none := rfl
/-- n bytes' code, if they are just its bytes -/
def got (n : Nat) : Option Int → Int × Nat
  | none => (0, 0)
  | some c => if size c = n then (c, n) else (0, 0)
/-- the code at the beginning, and how many bytes it has; n = 0: there is none -/
def get (l : List Int) : Int × Nat :=
  match l with
  | [] => (0, 0)
  | x :: r => if (fst x).2 = 0 ∨ r.length + 1 < (fst x).2 then (0, 0) else
    got (fst x).2 (conts r ((fst x).2 - 1) (fst x).1)
def put (c : Int) : List Int :=
  if size c = 1 then [c] else if size c = 2 then [192 + c / 64, 128 + c % 64] else
  if size c = 3 then [224 + c / 4096, 128 + c / 64 % 64, 128 + c % 64] else
  if size c = 4 then [240 + c / 262144, 128 + c / 4096 % 64, 128 + c / 64 % 64, 128 + c % 64] else []

theorem fst_bd (x : Int) (h0 : 0 ≤ x) : 0 ≤ (fst x).1 ∧ (fst x).1 ≤ 127 ∧ (fst x).2 ≤ 4 := by
  unfold fst
  repeat' (split; · simp; omega)
  simp

theorem u8_all (p : Int → Bool) (h : ((List.range 256).all fun n => p (n : Int)) = true) (x : Int) (h0 : 0 ≤ x) (h1 : x ≤ 255) : p x = true := by
  have := List.all_eq_true.1 h x.toNat (by simp; omega)
  rwa [show ((x.toNat : Nat) : Int) = x from by omega] at this

theorem and224 (x : Int) (h0 : 0 ≤ x) (h1 : x ≤ 255) : bits .and .u8 x 224 = x / 32 * 32 := by
  have := u8_all (fun x => bits .and .u8 x 224 == x / 32 * 32) (by decide +kernel) x h0 h1
  simpa using this
theorem and240 (x : Int) (h0 : 0 ≤ x) (h1 : x ≤ 255) : bits .and .u8 x 240 = x / 16 * 16 := by
  have := u8_all (fun x => bits .and .u8 x 240 == x / 16 * 16) (by decide +kernel) x h0 h1
  simpa using this
theorem and248 (x : Int) (h0 : 0 ≤ x) (h1 : x ≤ 255) : bits .and .u8 x 248 = x / 8 * 8 := by
  have := u8_all (fun x => bits .and .u8 x 248 == x / 8 * 8) (by decide +kernel) x h0 h1
  simpa using this
theorem and192 (x : Int) (h0 : 0 ≤ x) (h1 : x ≤ 255) : bits .and .u8 x 192 = x / 64 * 64 := by
  have := u8_all (fun x => bits .and .u8 x 192 == x / 64 * 64) (by decide +kernel) x h0 h1
  simpa using this
theorem and31 (x : Int) (h0 : 0 ≤ x) (h1 : x ≤ 255) : bits .and .u8 x 31 = x % 32 := by
  have := u8_all (fun x => bits .and .u8 x 31 == x % 32) (by decide +kernel) x h0 h1
  simpa using this
theorem and15 (x : Int) (h0 : 0 ≤ x) (h1 : x ≤ 255) : bits .and .u8 x 15 = x % 16 := by
  have := u8_all (fun x => bits .and .u8 x 15 == x % 16) (by decide +kernel) x h0 h1
  simpa using this
theorem and7 (x : Int) (h0 : 0 ≤ x) (h1 : x ≤ 255) : bits .and .u8 x 7 = x % 8 := by
  have := u8_all (fun x => bits .and .u8 x 7 == x % 8) (by decide +kernel) x h0 h1
  simpa using this
theorem and63 (x : Int) (h0 : 0 ≤ x) (h1 : x ≤ 255) : bits .and .u8 x 63 = x % 64 := by
  have := u8_all (fun x => bits .and .u8 x 63 == x % 64) (by decide +kernel) x h0 h1
  simpa using this
theorem i64_or_nat (a b : Nat) (ha : a < 2 ^ 62) (hb : b < 2 ^ 62) : bits .or .i64 (a : Int) (b : Int) = ((a ||| b : Nat) : Int) := by
  have hx : a ||| b < 2 ^ 62 := Nat.or_lt_two_pow ha hb
  show IntKind.i64.wrap ((BitVec.ofInt 64 (a : Int) ||| BitVec.ofInt 64 (b : Int)).toNat : Int) = _
  have e : ∀ x : Nat, x < 2 ^ 62 → (BitVec.ofInt 64 (x : Int)).toNat = x := by
    intro x hx; rw [BitVec.ofInt_natCast, BitVec.toNat_ofNat]; exact Nat.mod_eq_of_lt (by omega)
  rw [BitVec.toNat_or, e a ha, e b hb, IntKind.wrap_i64]
  omega
/-- two numbers without a bit in common, put together -/
theorem i64_or_join (x y : Int) (i : Nat) (h0 : 0 ≤ x) (h1 : x < 4611686018427387904) (h2 : 0 ≤ y) (h3 : y < 2 ^ i) (hi : i ≤ 60) (hx : x % 2 ^ i = 0) : bits .or .i64 x y = x + y := by
  obtain ⟨X, rfl⟩ := Int.eq_ofNat_of_zero_le h0
  obtain ⟨Y, rfl⟩ := Int.eq_ofNat_of_zero_le h2
  have hY : Y < 2 ^ i := by exact_mod_cast h3
  have hX : X % 2 ^ i = 0 := by exact_mod_cast hx
  have hp : 2 ^ i ≤ 2 ^ 60 := Nat.pow_le_pow_right (by decide) hi
  rw [i64_or_nat X Y (by omega) (by omega), nat_join i X Y hX hY]
  rfl
theorem or64 (c y : Int) (h0 : 0 ≤ c) (h1 : c < 70368744177664) (h2 : 0 ≤ y) (h3 : y < 64) : bits .or .i64 (c * 64) y = c * 64 + y :=
  i64_or_join (c * 64) y 6 (by omega) (by omega) h2 (by omega) (by omega) (by omega)
end Go.Proofs.Ytfapoicnkdallaa.U
