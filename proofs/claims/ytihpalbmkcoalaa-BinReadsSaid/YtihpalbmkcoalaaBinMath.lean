/- Layer 6's arithmetic: numbers as bytes, the highest first. No walk. -/
import Derived.Laws.BitsAllLaws
namespace Go.Proofs.Ytihpalbmkcoalaa
namespace Bn
/-- a number's bytes, so many, the highest first -/
def spl (n : Nat) : Nat → List Int
  | 0 => []
  | k + 1 => ((n / 256 ^ k % 256 : Nat) : Int) :: spl n k
/-- the number of bytes, the highest first -/
def jn (l : List Int) : Nat := l.foldl (fun n x => n * 256 + x.toNat) 0
theorem spl_len (n k : Nat) : (spl n k).length = k := by
  induction k with
  | zero => rfl
  | succ k ih => simp [spl, ih]
theorem spl_bd (n k : Nat) : ∀ x ∈ spl n k, 0 ≤ x ∧ x ≤ 255 := by
  induction k with
  | zero => simp [spl]
  | succ k ih =>
    intro x hx
    simp only [spl, List.mem_cons] at hx
    rcases hx with rfl | hx
    · have : n / 256 ^ k % 256 < 256 := Nat.mod_lt _ (by omega)
      omega
    · exact ih x hx
theorem jn_snoc (l : List Int) (x : Int) : jn (l ++ [x]) = jn l * 256 + x.toNat := by simp [jn]
theorem jn_nil : jn [] = 0 := rfl
theorem foldl_jn (l : List Int) (c : Nat) : l.foldl (fun n x => n * 256 + x.toNat) c = c * 256 ^ l.length + jn l := by
  unfold jn
  induction l generalizing c with
  | nil => simp
  | cons x l ih =>
    simp only [List.foldl_cons, List.length_cons]
    rw [ih, ih (0 * 256 + x.toNat)]
    rw [Nat.pow_succ, Nat.add_mul]
    simp only [Nat.zero_mul, Nat.zero_add, Nat.mul_assoc, Nat.mul_comm, Nat.add_assoc]
theorem jn_cons (x : Int) (l : List Int) : jn (x :: l) = x.toNat * 256 ^ l.length + jn l := by
  have := foldl_jn l (0 * 256 + x.toNat)
  rw [Nat.zero_mul, Nat.zero_add] at this
  rw [← this]; simp [jn]
theorem jn_lt (l : List Int) (h : ∀ x ∈ l, 0 ≤ x ∧ x ≤ 255) : jn l < 256 ^ l.length := by
  induction l with
  | nil => simp [jn]
  | cons x l ih =>
    rw [jn_cons, List.length_cons, Nat.pow_succ]
    have h1 := ih fun y hy => h y (by simp [hy])
    have h2 := h x (by simp)
    have h3 : x.toNat ≤ 255 := by omega
    have h4 : x.toNat * 256 ^ l.length ≤ 255 * 256 ^ l.length := Nat.mul_le_mul_right _ h3
    omega
/-- what is put is read again -/
theorem jn_spl (n k : Nat) : jn (spl n k) = n % 256 ^ k := by
  induction k with
  | zero => simp [spl, jn, Nat.mod_one]
  | succ k ih =>
    rw [spl, jn_cons, ih, spl_len, Int.toNat_natCast, Nat.pow_succ, Nat.mod_mul, Nat.mul_comm, Nat.add_comm]
/-- .. and bytes are those of their number -/
theorem spl_jn (l : List Int) (h : ∀ x ∈ l, 0 ≤ x ∧ x ≤ 255) : spl (jn l) l.length = l := by
  have key : ∀ (l : List Int) (c : Nat), (∀ x ∈ l, 0 ≤ x ∧ x ≤ 255) → spl (c * 256 ^ l.length + jn l) l.length = l := by
    intro l
    induction l with
    | nil => intro c _; rfl
    | cons x l ih =>
      intro c h
      have h1 := jn_lt l fun y hy => h y (by simp [hy])
      have h2 := h x (by simp)
      have hp : 0 < 256 ^ l.length := Nat.pow_pos (by omega)
      rw [List.length_cons, jn_cons, spl]
      have e : c * 256 ^ (l.length + 1) + (x.toNat * 256 ^ l.length + jn l) = (c * 256 + x.toNat) * 256 ^ l.length + jn l := by
        rw [Nat.pow_succ, Nat.add_mul, Nat.mul_assoc, Nat.mul_comm 256, Nat.add_assoc]
      rw [e, ih _ fun y hy => h y (by simp [hy])]
      have e2 : ((c * 256 + x.toNat) * 256 ^ l.length + jn l) / 256 ^ l.length = c * 256 + x.toNat := by
        rw [Nat.mul_comm, Nat.mul_add_div hp, Nat.div_eq_of_lt h1, Nat.add_zero]
      rw [e2]
      congr 1
      omega
  have := key l 0 h
  rwa [Nat.zero_mul, Nat.zero_add] at this
theorem pow7 (k : Nat) (h : k ≤ 7) : 256 ^ k ≤ 72057594037927936 := Nat.le_trans (Nat.pow_le_pow_right (by omega) h) (by decide)
theorem pow8 (k : Nat) (h : k ≤ 8) : 256 ^ k ≤ 18446744073709551616 := Nat.le_trans (Nat.pow_le_pow_right (by omega) h) (by decide)
theorem div_step (n k : Nat) : n / 256 ^ k / 256 = n / 256 ^ (k + 1) := by rw [Nat.div_div_eq_div_mul, Nat.pow_succ]
theorem spl4 (n : Nat) : spl n 4 = [((n / 16777216 % 256 : Nat) : Int), ((n / 65536 % 256 : Nat) : Int), ((n / 256 % 256 : Nat) : Int), ((n % 256 : Nat) : Int)] := by
  simp [spl]
theorem or64 (a b : Nat) (hb : b < 256) (h : a < 72057594037927936) : bits .or .u64 ((a * 256 : Nat) : Int) (b : Int) = ((a * 256 + b : Nat) : Int) := by
  show IntKind.u64.wrap ((BitVec.ofInt 64 ((a * 256 : Nat) : Int) ||| BitVec.ofInt 64 (b : Int)).toNat : Int) = _
  have e : ∀ n : Nat, n < 18446744073709551616 → (BitVec.ofInt 64 (n : Int)).toNat = n := fun n hn => by simp; omega
  rw [BitVec.toNat_or, e _ (by omega), e _ (by omega), Nat.mul_comm, show (256 : Nat) = 2 ^ 8 from rfl, ← Nat.two_pow_add_eq_or_of_lt (by omega), IntKind.wrap_u64]
  omega
end Bn
end Go.Proofs.Ytihpalbmkcoalaa
