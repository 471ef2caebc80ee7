/- Layer 4, no walk: tables, sums, and what the bitwise operators are on them. -/
import Derived.Laws.BitsAllLaws
namespace Go.Proofs.Ytdnijiehfokagaa
open Go
namespace S
/-- halved, and put together with the polynomial if the lowest bit was 1 -/
def stp (p x : Nat) : Nat := if x % 2 = 1 then (x / 2) ^^^ p else x / 2
def itn (p x : Nat) : Nat → Nat
  | 0 => x
  | k + 1 => stp p (itn p x k)
/-- a byte's number -/
def row (p x : Nat) : Nat := itn p x 8
def mk (p : Nat) : List Int := (List.range 256).map fun i => (row p i : Int)
def num (n : Int) : Bool := decide (0 ≤ n ∧ n ≤ 4294967295)
def isT (t : List Int) : Bool := decide (t.length = 256) && t.all num
def nx (t : List Int) (c : Nat) (x : Int) : Nat := (t[(c % 256) ^^^ x.toNat]?.getD 0).toNat ^^^ (c / 256)
def run (t : List Int) (c : Nat) (b : List Int) : Nat := b.foldl (nx t) c
def more (t : List Int) (s : Int) (b : List Int) : Int := if isT t = true ∧ num s = true then 4294967295 - (run t (4294967295 - s).toNat b : Int) else -1
def make (p : Int) : List Int := if num p = true then mk p.toNat else []
def put (n : Int) : List Int := [n / 16777216 % 256, n / 65536 % 256, n / 256 % 256, n % 256]
def get (b : List Int) : Int := if b.length = 4 then b[0]?.getD 0 * 16777216 + b[1]?.getD 0 * 65536 + b[2]?.getD 0 * 256 + b[3]?.getD 0 else -1
def Poly : Nat := 3988292384

theorem xor_lt32 {a b : Nat} (ha : a < 4294967296) (hb : b < 4294967296) : a ^^^ b < 4294967296 := Nat.xor_lt_two_pow (n := 32) ha hb
theorem xor_lt8 {a b : Nat} (ha : a < 256) (hb : b < 256) : a ^^^ b < 256 := Nat.xor_lt_two_pow (n := 8) ha hb
theorem stp_lt {p x : Nat} (hp : p < 4294967296) (hx : x < 4294967296) : stp p x < 4294967296 := by
  unfold stp; split
  · exact xor_lt32 (by omega) hp
  · omega
theorem itn_lt {p x : Nat} (hp : p < 4294967296) (hx : x < 4294967296) (k : Nat) : itn p x k < 4294967296 := by
  induction k with
  | zero => exact hx
  | succ k ih => exact stp_lt hp ih
theorem row_lt {p x : Nat} (hp : p < 4294967296) (hx : x < 4294967296) : row p x < 4294967296 := itn_lt hp hx 8
theorem mk_len (p : Nat) : (mk p).length = 256 := by simp [mk]
theorem mk_at (p i : Nat) (h : i < 256) : (mk p)[i]?.getD 0 = (row p i : Int) := by
  simp [mk, List.getElem?_map, List.getElem?_range h]
theorem num_iff (n : Int) : num n = true ↔ 0 ≤ n ∧ n ≤ 4294967295 := by simp [num]
theorem mk_isT (p : Nat) (hp : p < 4294967296) : isT (mk p) = true := by
  simp only [isT, mk_len, decide_true, Bool.true_and, List.all_eq_true]
  intro n hn
  simp only [mk, List.mem_map, List.mem_range] at hn
  obtain ⟨i, hi, rfl⟩ := hn
  have := row_lt (p := p) (x := i) hp (by omega)
  rw [num_iff]; omega
theorem isT_len {t : List Int} (h : isT t = true) : t.length = 256 := by
  simp only [isT, Bool.and_eq_true, decide_eq_true_eq] at h; exact h.1
theorem isT_at {t : List Int} (h : isT t = true) (i : Nat) : 0 ≤ t[i]?.getD 0 ∧ t[i]?.getD 0 ≤ 4294967295 := by
  simp only [isT, Bool.and_eq_true, List.all_eq_true] at h
  cases e : t[i]? with
  | none => simp
  | some v => exact (num_iff v).1 (h.2 v (List.mem_of_getElem? e))
theorem nx_lt {t : List Int} (h : isT t = true) {c : Nat} (hc : c < 4294967296) (x : Int) : nx t c x < 4294967296 := by
  have := isT_at h ((c % 256) ^^^ x.toNat)
  exact xor_lt32 (by omega) (by omega)
theorem run_lt {t : List Int} (h : isT t = true) (b : List Int) : ∀ {c : Nat}, c < 4294967296 → run t c b < 4294967296 := by
  induction b with
  | nil => intro c hc; exact hc
  | cons x b ih => intro c hc; exact ih (nx_lt h hc x)
theorem run_append (t : List Int) (c : Nat) (a b : List Int) : run t c (a ++ b) = run t (run t c a) b := by simp [run]
theorem run_snoc (t : List Int) (c : Nat) (a : List Int) (x : Int) : run t c (a ++ [x]) = nx t (run t c a) x := by simp [run]
theorem more_num {t : List Int} {s : Int} (b : List Int) (h : isT t = true) (hs : num s = true) : num (more t s b) = true ∧ (4294967295 - more t s b).toNat = run t (4294967295 - s).toNat b := by
  rw [num_iff] at hs
  have h1 := run_lt h b (c := (4294967295 - s).toNat) (by omega)
  unfold more
  rw [if_pos ⟨h, (num_iff s).2 hs⟩, num_iff]
  omega
theorem more_parts (t : List Int) (s : Int) (a b : List Int) (hs : num s = true) : more t (more t s a) b = more t s (a ++ b) := by
  by_cases h : isT t = true
  · obtain ⟨h1, h2⟩ := more_num a h hs
    have h3 : more t (more t s a) b = 4294967295 - (run t (4294967295 - more t s a).toNat b : Int) := if_pos ⟨h, h1⟩
    have h4 : more t s (a ++ b) = 4294967295 - (run t (4294967295 - s).toNat (a ++ b) : Int) := if_pos ⟨h, hs⟩
    rw [h3, h4, h2, run_append]
  · simp only [more, if_neg (fun h' : isT t = true ∧ _ => h h'.1)]
/-! bit by bit -/
def bit (b : List Int) : Nat := b.foldl (fun (r : Nat) x => row Poly ((r ^^^ x.toNat) % 256) ^^^ (r / 256)) 4294967295
theorem xor_mod (a b : Nat) (hb : b < 256) : (a ^^^ b) % 256 = (a % 256) ^^^ b := by
  have := Nat.xor_mod_two_pow (a := a) (b := b) (n := 8)
  rw [show (2 : Nat) ^ 8 = 256 from rfl] at this
  rw [this, Nat.mod_eq_of_lt hb]
theorem nx_mk (p c : Nat) (x : Int) (hx : x.toNat < 256) : nx (mk p) c x = row p ((c ^^^ x.toNat) % 256) ^^^ (c / 256) := by
  unfold nx
  rw [mk_at p _ (xor_lt8 (by omega) hx), Int.toNat_natCast, xor_mod _ _ hx]
theorem bit_run (b : List Int) (hb : ∀ x ∈ b, 0 ≤ x ∧ x ≤ 255) : run (mk Poly) 4294967295 b = bit b := by
  unfold run bit
  generalize (4294967295 : Nat) = c
  induction b generalizing c with
  | nil => rfl
  | cons x b ih =>
    have := hb x (by simp)
    rw [List.foldl_cons, List.foldl_cons, nx_mk Poly c x (by omega), ih (fun y hy => hb y (by simp [hy]))]
/-! linear -/
theorem xor_div (a b k : Nat) : (a ^^^ b) / 2 ^ k = (a / 2 ^ k) ^^^ (b / 2 ^ k) := by
  rw [← Nat.shiftRight_eq_div_pow, ← Nat.shiftRight_eq_div_pow, ← Nat.shiftRight_eq_div_pow, Nat.shiftRight_xor_distrib]
theorem xor_odd (a b : Nat) : (a ^^^ b) % 2 = (a % 2 + b % 2) % 2 := by
  have h := Nat.xor_mod_two_pow (a := a) (b := b) (n := 1)
  rw [show (2 : Nat) ^ 1 = 2 from rfl] at h
  rw [h]
  have h1 : a % 2 = 0 ∨ a % 2 = 1 := by omega
  have h2 : b % 2 = 0 ∨ b % 2 = 1 := by omega
  rcases h1 with h1 | h1 <;> rcases h2 with h2 | h2 <;> rw [h1, h2] <;> rfl
theorem xor_swap (a b c d : Nat) : (a ^^^ b) ^^^ (c ^^^ d) = (a ^^^ c) ^^^ (b ^^^ d) := by
  rw [Nat.xor_assoc, Nat.xor_assoc, ← Nat.xor_assoc b c d, Nat.xor_comm b c, Nat.xor_assoc c b d]
theorem stp_xor (p x y : Nat) : stp p (x ^^^ y) = stp p x ^^^ stp p y := by
  have hd : (x ^^^ y) / 2 = (x / 2) ^^^ (y / 2) := xor_div x y 1
  have ho := xor_odd x y
  unfold stp
  rw [hd, ho]
  have h1 : x % 2 = 0 ∨ x % 2 = 1 := by omega
  have h2 : y % 2 = 0 ∨ y % 2 = 1 := by omega
  rcases h1 with h1 | h1 <;> rcases h2 with h2 | h2 <;> rw [h1, h2]
  · rfl
  · simp [Nat.xor_assoc]
  · simp only [Nat.zero_ne_one, if_false, if_true, Nat.add_zero, show (1 : Nat) % 2 = 1 from rfl]
    rw [Nat.xor_assoc, Nat.xor_assoc, Nat.xor_comm p]
  · simp only [if_true, show ((1 : Nat) + 1) % 2 = 0 from rfl, Nat.zero_ne_one, if_false]
    rw [xor_swap, Nat.xor_self, Nat.xor_zero]
theorem itn_xor (p x y : Nat) (k : Nat) : itn p (x ^^^ y) k = itn p x k ^^^ itn p y k := by
  induction k with
  | zero => rfl
  | succ k ih => simp only [itn]; rw [ih, stp_xor]
theorem row_xor (p x y : Nat) : row p (x ^^^ y) = row p x ^^^ row p y := itn_xor p x y 8
theorem row_zero (p : Nat) : row p 0 = 0 := by
  have h : ∀ k, itn p 0 k = 0 := fun k => by
    induction k with
    | zero => rfl
    | succ k ih => simp only [itn]; rw [ih]; rfl
  exact h 8
/-! one byte turned turns the sum -/
theorem top (j : Nat) (hj : j < 256) (h : row Poly j / 2 ^ 24 = 0) : j = 0 := by
  have key : ((List.range 256).all fun j => (row Poly j / 2 ^ 24 != 0) || j == 0) = true := by decide +kernel
  have := List.all_eq_true.1 key j (List.mem_range.2 hj)
  simp only [Bool.or_eq_true, bne_iff_ne, ne_eq, beq_iff_eq] at this
  rcases this with h' | h'
  · exact absurd h h'
  · exact h'
theorem xor_eq_zero {a b : Nat} (h : a ^^^ b = 0) : a = b := by
  have : (a ^^^ b) ^^^ b = b := by rw [h, Nat.zero_xor]
  rwa [Nat.xor_assoc, Nat.xor_self, Nat.xor_zero] at this
theorem xor_cancel {a b c : Nat} (h : a ^^^ c = b ^^^ c) : a = b := by
  have : (a ^^^ c) ^^^ c = (b ^^^ c) ^^^ c := by rw [h]
  rwa [Nat.xor_assoc, Nat.xor_assoc, Nat.xor_self, Nat.xor_zero, Nat.xor_zero] at this
theorem nx_inj (c d : Nat) (x y : Int) (hc : c < 4294967296) (hd : d < 4294967296) (hx : x.toNat < 256) (hy : y.toNat < 256) (h : nx (mk Poly) c x = nx (mk Poly) d y) :
    (c % 256) ^^^ x.toNat = (d % 256) ^^^ y.toNat ∧ c / 256 = d / 256 := by
  rw [nx_mk Poly c x hx, nx_mk Poly d y hy] at h
  have hi : (c ^^^ x.toNat) % 256 = (d ^^^ y.toNat) % 256 := by
    have h1 := congrArg (· / 2 ^ 24) h
    simp only [xor_div] at h1
    have e1 : c / 256 / 2 ^ 24 = 0 := by omega
    have e2 : d / 256 / 2 ^ 24 = 0 := by omega
    rw [e1, e2, Nat.xor_zero, Nat.xor_zero] at h1
    have h2 : row Poly (((c ^^^ x.toNat) % 256) ^^^ ((d ^^^ y.toNat) % 256)) / 2 ^ 24 = 0 := by
      rw [row_xor, xor_div, h1, Nat.xor_self]
    exact xor_eq_zero (top _ (xor_lt8 (by omega) (by omega)) h2)
  rw [hi, Nat.xor_comm _ (c / 256), Nat.xor_comm _ (d / 256)] at h
  refine ⟨?_, xor_cancel h⟩
  rwa [xor_mod _ _ hx, xor_mod _ _ hy] at hi
theorem nx_lt' {c : Nat} (hc : c < 4294967296) (x : Int) : nx (mk Poly) c x < 4294967296 := nx_lt (mk_isT Poly (by decide)) hc x
theorem run_inj (b : List Int) (hb : ∀ x ∈ b, 0 ≤ x ∧ x ≤ 255) : ∀ (c d : Nat), c < 4294967296 → d < 4294967296 → run (mk Poly) c b = run (mk Poly) d b → c = d := by
  induction b with
  | nil => intro c d _ _ h; exact h
  | cons x b ih =>
    intro c d hc hd h
    have hx := hb x (by simp)
    have h1 := ih (fun y hy => hb y (by simp [hy])) _ _ (nx_lt' hc x) (nx_lt' hd x) h
    obtain ⟨h2, h3⟩ := nx_inj c d x x hc hd (by omega) (by omega) h1
    have := xor_cancel h2
    omega
theorem run_turn (b : List Int) (hb : ∀ x ∈ b, 0 ≤ x ∧ x ≤ 255) (i : Nat) (y : Int) (hi : i < b.length) (hy : 0 ≤ y ∧ y ≤ 255) (hne : b[i]?.getD 0 ≠ y) (c : Nat) (hc : c < 4294967296) :
    run (mk Poly) c (b.set i y) ≠ run (mk Poly) c b := by
  induction b generalizing i c with
  | nil => simp at hi
  | cons x b ih =>
    have hx := hb x (by simp)
    have hb' : ∀ x ∈ b, 0 ≤ x ∧ x ≤ 255 := fun y hy => hb y (by simp [hy])
    cases i with
    | zero =>
      intro h
      have h1 := run_inj b hb' _ _ (nx_lt' hc y) (nx_lt' hc x) h
      obtain ⟨h2, _⟩ := nx_inj c c y x hc hc (by omega) (by omega) h1
      rw [Nat.xor_comm _ y.toNat, Nat.xor_comm _ x.toNat] at h2
      have := xor_cancel h2
      simp at hne
      omega
    | succ i =>
      simp only [List.length_cons] at hi
      exact ih hb' i (by omega) (by simpa using hne) _ (nx_lt' hc x)
theorem xor_ne (a b : Nat) (hb : b ≠ 0) : a ^^^ b ≠ a := by
  intro h
  have : (a ^^^ b) ^^^ a = a ^^^ a := by rw [h]
  rw [Nat.xor_comm a b, Nat.xor_assoc, Nat.xor_self, Nat.xor_zero] at this
  exact hb this
theorem more_turn (b : List Int) (hb : ∀ x ∈ b, 0 ≤ x ∧ x ≤ 255) (i : Nat) (y : Int) (hi : i < b.length) (hy : 0 ≤ y ∧ y ≤ 255) (hne : b[i]?.getD 0 ≠ y) :
    more (mk Poly) 0 (b.set i y) ≠ more (mk Poly) 0 b := by
  have ht := mk_isT Poly (by decide)
  have h1 : ∀ l, more (mk Poly) 0 l = 4294967295 - (run (mk Poly) 4294967295 l : Int) := fun l => if_pos ⟨ht, rfl⟩
  rw [h1, h1]
  have := run_turn b hb i y hi hy hne 4294967295 (by omega)
  omega
/-! four bytes -/
theorem put_bytes (n : Int) : ∀ x ∈ put n, 0 ≤ x ∧ x ≤ 255 := by simp [put]; omega
theorem get_put (n : Int) (h : 0 ≤ n) (h' : n ≤ 4294967295) : get (put n) = n := by simp [get, put]; omega
/-! the operators as the walk spells them -/
theorem not_u32 (x : Nat) (h : x < 4294967296) : (4294967295 ^^^ x : Nat) = 4294967295 - x := by
  have h1 : (BitVec.allOnes 32 ^^^ BitVec.ofNat 32 x).toNat = (~~~ BitVec.ofNat 32 x).toNat := by rw [BitVec.allOnes_xor]
  rw [BitVec.toNat_xor, BitVec.toNat_not, BitVec.toNat_allOnes, BitVec.toNat_ofNat, Nat.mod_eq_of_lt (show x < 2 ^ 32 from h)] at h1
  exact h1
theorem notI (x : Nat) (h : x < 4294967296) : bits .xor .u32 4294967295 (x : Int) = 4294967295 - (x : Int) := by
  have := u32_xor_nat 4294967295 x (by omega) h
  rw [show ((4294967295 : Nat) : Int) = 4294967295 from rfl] at this
  rw [this, not_u32 x h]; omega
theorem ofInt_i64 (a : Nat) (ha : a < 9223372036854775808) : (BitVec.ofInt 64 (a : Int)).toNat = a := by
  rw [BitVec.ofInt_natCast, BitVec.toNat_ofNat]; exact Nat.mod_eq_of_lt (by omega)
theorem wrap_i64_small (n : Int) (h0 : 0 ≤ n) (h1 : n < 9223372036854775808) : IntKind.i64.wrap n = n := by
  simp [IntKind.wrap, IntKind.bits, IntKind.signed]
  split <;> omega
theorem xorI64 (a b : Nat) (ha : a < 4294967296) (hb : b < 4294967296) : bits .xor .i64 (a : Int) (b : Int) = ((a ^^^ b : Nat) : Int) := by
  have hx := xor_lt32 ha hb
  show IntKind.i64.wrap ((BitVec.ofInt 64 (a : Int) ^^^ BitVec.ofInt 64 (b : Int)).toNat : Int) = _
  rw [BitVec.toNat_xor, ofInt_i64 a (by omega), ofInt_i64 b (by omega)]
  exact wrap_i64_small _ (by omega) (by omega)
end S
end Go.Proofs.Ytdnijiehfokagaa
