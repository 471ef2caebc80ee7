/- Layer 5, no walk: frames out of bytes that come in pieces. -/
import Derived.Test.YtdnijiehfokagaaSumMath
namespace Go.Proofs.Ytdnijiehfokagaa
open Go
namespace F
/-- may a byte stand at a place ahead of a frame's length -/
def fits (i : Nat) (x : Int) : Bool := if i = 0 then x == 208 else if i = 1 then x == 161 else if i = 2 then x == 1 else decide (1 ≤ x ∧ x ≤ 9)
def ok (l : List Int) : Bool := (List.range 4).all fun i => decide (l.length ≤ i) || fits i (l[i]?.getD 0)
theorem ok_iff (l : List Int) : ok l = true ↔ ∀ i, i < 4 → i < l.length → fits i (l[i]?.getD 0) = true := by
  simp only [ok, List.all_eq_true, List.mem_range, Bool.or_eq_true, decide_eq_true_eq]
  constructor
  · intro h i hi hl
    rcases h i hi with h | h
    · omega
    · exact h
  · intro h i hi
    rcases Nat.lt_or_ge i l.length with hl | hl
    · exact .inr (h i hi hl)
    · exact .inl hl
/-- how long the payload is, by the length's bytes -/
def long (b : List Int) : Nat := (S.get ((b.drop 4).take 4)).toNat
/-- the sum's bytes -/
def chk (l : List Int) : List Int := S.put (S.more (S.mk S.Poly) 0 l)
def good (b : List Int) : Prop := chk ((b.take (long b + 8)).drop 2) = (b.drop (long b + 8)).take 4
instance (b : List Int) : Decidable (good b) := by unfold good; infer_instance
/-- how many bytes the frame has that bytes begin with (0: none that is whole), and the error that they show -/
def size (most : Nat) (b : List Int) : Nat × Nat :=
  if ok b = false then (0, 2) else if b.length < 8 then (0, 0) else if most < long b then (0, 4) else if b.length < long b + 12 then (0, 0) else if good b then (long b + 12, 0) else (0, 11)
def kind (b : List Int) : Int := b[3]?.getD 0
def pay (b : List Int) : List Int := (b.drop 8).take (long b)
def readN (most : Nat) : Nat → List Int → List (Int × List Int) × Nat × List Int
  | 0, b => ([], 0, b)
  | k + 1, b => match size most b with
    | (_, c + 1) => ([], c + 1, [])
    | (0, 0) => ([], 0, b)
    | (n + 1, 0) => ((kind b, pay b) :: (readN most k (b.drop (n + 1))).1, (readN most k (b.drop (n + 1))).2)
/-- all frames of bytes, the error, the rest -/
def read (most : Nat) (b : List Int) : List (Int × List Int) × Nat × List Int := readN most (b.length + 1) b
theorem size_cases (most : Nat) (b : List Int) : (∃ c, size most b = (0, c + 1)) ∨ size most b = (0, 0) ∨ ∃ n, size most b = (n + 1, 0) ∧ n + 1 = long b + 12 ∧ n + 1 ≤ b.length ∧ long b ≤ most ∧ ok b = true ∧ good b := by
  unfold size
  split
  · exact .inl ⟨1, rfl⟩
  · split
    · exact .inr (.inl rfl)
    · split
      · exact .inl ⟨3, rfl⟩
      · split
        · exact .inr (.inl rfl)
        · split
          · exact .inr (.inr ⟨long b + 11, rfl, rfl, by omega, by omega, by simp_all, by assumption⟩)
          · exact .inl ⟨10, rfl⟩
theorem size_frame {most : Nat} {b : List Int} {n : Nat} (h : size most b = (n + 1, 0)) : n + 1 = long b + 12 ∧ n + 1 ≤ b.length ∧ long b ≤ most ∧ ok b = true ∧ good b := by
  rcases size_cases most b with ⟨c, h1⟩ | h1 | ⟨m, h1, h2⟩
  · rw [h] at h1; cases h1
  · rw [h] at h1; cases h1
  · rw [h] at h1; cases h1; exact h2
theorem readN_fuel (most : Nat) : ∀ k b, b.length < k → readN most k b = read most b := by
  intro k
  induction k using Nat.strongRecOn with
  | ind k ih =>
    intro b hk
    cases k with
    | zero => omega
    | succ k =>
      unfold read
      rcases size_cases most b with ⟨c, h1⟩ | h1 | ⟨n, h1, h2, h3, _⟩
      · simp only [readN, h1]
      · simp only [readN, h1]
      · simp only [readN, h1]
        have hd : (b.drop (n + 1)).length = b.length - (n + 1) := List.length_drop
        rw [ih k (by omega) _ (by omega)]
        rcases Nat.lt_or_ge b.length (k + 1) with h | h
        · rcases Nat.lt_or_ge b.length k with h4 | h4
          · rw [ih b.length (by omega) _ (by omega)]
          · obtain rfl : b.length = k := by omega
            rw [ih b.length (by omega) _ (by omega)]
        · omega
theorem read_err {most : Nat} {b : List Int} {c : Nat} (h : size most b = (0, c + 1)) : read most b = ([], c + 1, []) := by
  simp only [read, readN, h]
theorem read_wait {most : Nat} {b : List Int} (h : size most b = (0, 0)) : read most b = ([], 0, b) := by
  simp only [read, readN, h]
theorem read_frame {most : Nat} {b : List Int} {n : Nat} (h : size most b = (n + 1, 0)) : read most b = ((kind b, pay b) :: (read most (b.drop (n + 1))).1, (read most (b.drop (n + 1))).2) := by
  conv => lhs; unfold read
  simp only [readN, h]
  have h3 := size_frame h
  have hd : (b.drop (n + 1)).length = b.length - (n + 1) := List.length_drop
  rw [readN_fuel most _ _ (by omega)]
theorem ok_take {b t : List Int} (h : ok (b ++ t) = true) : ok b = true := by
  rw [ok_iff] at h ⊢
  intro i hi hl
  have := h i hi (by simp; omega)
  rwa [List.getElem?_append_left hl] at this
theorem ok_more {b t : List Int} (hl : 4 ≤ b.length) (h : ok b = true) : ok (b ++ t) = true := by
  rw [ok_iff] at h ⊢
  intro i hi _
  have := h i hi (by omega)
  rwa [List.getElem?_append_left (by omega)]
theorem long_app {b : List Int} (t : List Int) (hl : 8 ≤ b.length) : long (b ++ t) = long b := by
  unfold long
  rw [List.drop_append_of_le_length (by omega), List.take_append_of_le_length (by simp; omega)]
theorem pay_app {b : List Int} (t : List Int) (hl : long b + 12 ≤ b.length) : pay (b ++ t) = pay b := by
  unfold pay
  rw [long_app t (by omega), List.drop_append_of_le_length (by omega), List.take_append_of_le_length (by simp; omega)]
theorem kind_app {b : List Int} (t : List Int) (hl : 4 ≤ b.length) : kind (b ++ t) = kind b := by
  unfold kind
  rw [List.getElem?_append_left (by omega)]
theorem good_app {b : List Int} (t : List Int) (hl : long b + 12 ≤ b.length) : good (b ++ t) ↔ good b := by
  unfold good
  rw [long_app t (by omega), List.take_append_of_le_length (by omega), List.drop_append_of_le_length (by omega), List.take_append_of_le_length (by simp; omega)]
theorem size_app {most : Nat} {b : List Int} (t : List Int) (h : size most b ≠ (0, 0)) : size most (b ++ t) = size most b := by
  by_cases h0 : ok b = true
  · have e0 : size most b = if b.length < 8 then (0, 0) else if most < long b then (0, 4) else if b.length < long b + 12 then (0, 0) else if good b then (long b + 12, 0) else (0, 11) := by
      unfold size; rw [if_neg (by rw [h0]; decide)]
    by_cases h1 : b.length < 8
    · rw [e0, if_pos h1] at h; exact absurd rfl h
    · rw [if_neg h1] at e0
      have o := ok_more (t := t) (show 4 ≤ b.length by omega) h0
      have l := long_app t (show 8 ≤ b.length by omega)
      have e1 : size most (b ++ t) = if most < long b then (0, 4) else if b.length + t.length < long b + 12 then (0, 0) else if good (b ++ t) then (long b + 12, 0) else (0, 11) := by
        unfold size; rw [if_neg (by rw [o]; decide), if_neg (by simp; omega), l, List.length_append]
      by_cases h2 : most < long b
      · rw [e0, e1, if_pos h2, if_pos h2]
      · rw [if_neg h2] at e0 e1
        by_cases h3 : b.length < long b + 12
        · rw [e0, if_pos h3] at h; exact absurd rfl h
        · rw [if_neg h3] at e0
          rw [if_neg (by omega)] at e1
          rw [e0, e1]
          by_cases h4 : good b
          · rw [if_pos h4, if_pos ((good_app t (by omega)).2 h4)]
          · rw [if_neg h4, if_neg (fun h => h4 ((good_app t (by omega)).1 h))]
  · have h1 : ok b = false := by simpa using h0
    have h2 : ok (b ++ t) = false := by
      rw [Bool.eq_false_iff]; intro h; exact h0 (ok_take h)
    unfold size
    rw [if_pos h1, if_pos h2]
/-- what a feed comes to: the error that it has, its rest, the bytes that come -/
def take (most c : Nat) (r t : List Int) : List (Int × List Int) × Nat × List Int := if c = 0 then read most (r ++ t) else ([], c, [])
theorem read_app (most : Nat) (t : List Int) : ∀ k b, b.length < k → read most (b ++ t) = ((read most b).1 ++ (take most (read most b).2.1 (read most b).2.2 t).1, (take most (read most b).2.1 (read most b).2.2 t).2) := by
  intro k
  induction k with
  | zero => intro b h; omega
  | succ k ih =>
    intro b hk
    rcases size_cases most b with ⟨c, h1⟩ | h1 | ⟨n, h1, h2, h3, _⟩
    · have e := size_app t (b := b) (most := most) (by rw [h1]; simp)
      rw [h1] at e
      rw [read_err h1, read_err e]
      simp [take]
    · rw [read_wait h1]
      simp [take]
    · have e := size_app t (b := b) (most := most) (by rw [h1]; simp)
      rw [h1] at e
      rw [read_frame h1, read_frame e, kind_app t (by omega), pay_app t (by omega), List.drop_append_of_le_length (by omega), ih _ (by simp; omega)]
      simp
theorem read_take (most : Nat) (b t : List Int) : read most (b ++ t) = ((read most b).1 ++ (take most (read most b).2.1 (read most b).2.2 t).1, (take most (read most b).2.1 (read most b).2.2 t).2) := read_app most t _ b (Nat.lt_succ_self _)
/-- the state of a feed: closed, and nothing left; or waiting -/
def St (most c : Nat) (r : List Int) : Prop := (0 < c ∧ r = []) ∨ (c = 0 ∧ size most r = (0, 0))
theorem read_st (most : Nat) : ∀ k b, b.length < k → St most (read most b).2.1 (read most b).2.2 := by
  intro k
  induction k with
  | zero => intro b h; omega
  | succ k ih =>
    intro b hk
    rcases size_cases most b with ⟨c, h1⟩ | h1 | ⟨n, h1, h2, h3, _⟩
    · rw [read_err h1]; exact .inl ⟨Nat.succ_pos _, rfl⟩
    · rw [read_wait h1]; exact .inr ⟨rfl, h1⟩
    · rw [read_frame h1]; exact ih _ (by simp; omega)
theorem st_read (most : Nat) (b : List Int) : St most (read most b).2.1 (read most b).2.2 := read_st most _ b (Nat.lt_succ_self _)
theorem st_take {most c : Nat} {r : List Int} (t : List Int) (h : St most c r) : St most (take most c r t).2.1 (take most c r t).2.2 := by
  unfold take
  split
  · exact st_read _ _
  · rcases h with ⟨h, rfl⟩ | ⟨h, _⟩
    · exact .inl ⟨h, rfl⟩
    · contradiction
theorem size_nil (most : Nat) : size most [] = (0, 0) := rfl
theorem st_nil (most : Nat) : St most 0 [] := .inr ⟨rfl, size_nil most⟩
theorem take_none {most c : Nat} {r : List Int} (h : St most c r) : take most c r [] = ([], c, r) := by
  unfold take
  rcases h with ⟨h, rfl⟩ | ⟨rfl, h⟩
  · rw [if_neg (by omega)]
  · rw [if_pos rfl, List.append_nil, read_wait h]
theorem take_first (most : Nat) (t : List Int) : take most 0 [] t = read most t := by simp [take]
theorem size_lt {most : Nat} {r : List Int} (h : size most r = (0, 0)) : r.length < most + 12 := by
  unfold size at h
  split at h
  · cases h
  · split at h
    · omega
    · split at h
      · cases h
      · split at h
        · omega
        · split at h <;> cases h
theorem st_len {most c : Nat} {r : List Int} (h : St most c r) : r.length < most + 12 := by
  rcases h with ⟨_, rfl⟩ | ⟨_, h⟩
  · simp
  · exact size_lt h
theorem read_len (most : Nat) : ∀ k b, b.length < k → (read most b).2.2.length + 12 * (read most b).1.length ≤ b.length := by
  intro k
  induction k with
  | zero => intro b h; omega
  | succ k ih =>
    intro b hk
    rcases size_cases most b with ⟨c, h1⟩ | h1 | ⟨n, h1, h2, h3, _⟩
    · rw [read_err h1]; simp
    · rw [read_wait h1]; simp
    · rw [read_frame h1]
      have := ih (b.drop (n + 1)) (by simp; omega)
      simp at this ⊢
      omega
theorem read_idle {most : Nat} {b : List Int} (h1 : (read most b).1 = []) (h2 : (read most b).2.1 = 0) : (read most b).2.2 = b := by
  rcases size_cases most b with ⟨c, h⟩ | h | ⟨n, h, _⟩
  · rw [read_err h] at h2; simp at h2
  · rw [read_wait h]
  · rw [read_frame h] at h1; simp at h1
theorem read_count (most : Nat) (b : List Int) : (read most b).2.2.length + 12 * (read most b).1.length ≤ b.length := read_len most _ b (Nat.lt_succ_self _)
theorem readBytes (most : Nat) : ∀ k b, b.length < k → (∀ x ∈ b, 0 ≤ x ∧ x ≤ 255) → (∀ x ∈ (read most b).2.2, 0 ≤ x ∧ x ≤ 255) ∧ ∀ f ∈ (read most b).1, (∀ x ∈ f.2, 0 ≤ x ∧ x ≤ 255) := by
  intro k
  induction k with
  | zero => intro b h; omega
  | succ k ih =>
    intro b hk hb
    rcases size_cases most b with ⟨c, h1⟩ | h1 | ⟨n, h1, h2, h3, _⟩
    · rw [read_err h1]; simp
    · rw [read_wait h1]; exact ⟨hb, by simp⟩
    · rw [read_frame h1]
      have := ih (b.drop (n + 1)) (by simp; omega) (fun x hx => hb x (List.mem_of_mem_drop hx))
      refine ⟨this.1, fun f hf => ?_⟩
      rcases List.mem_cons.1 hf with rfl | hf
      · exact fun x hx => hb x (List.mem_of_mem_drop (List.mem_of_mem_take hx))
      · exact this.2 f hf
/-! what was put -/
def put (k : Int) (p : List Int) : List Int := [208, 161, 1, k] ++ S.put p.length ++ p ++ chk ((([208, 161, 1, k] ++ S.put p.length ++ p) : List Int).drop 2)
/-- the bytes, and the error -/
def putE (k : Int) (p : List Int) (most : Int) : List Int × Nat :=
  if 1 ≤ k ∧ k ≤ 9 ∧ 0 ≤ most ∧ most ≤ 65535 then (if most < (p.length : Int) then ([], 4) else (put k p, 0)) else ([], 1)
theorem bits_more (l : List Int) (hl : ∀ x ∈ l, 0 ≤ x ∧ x ≤ 255) : (4294967295 : Int) - (S.bit l : Int) = S.more (S.mk S.Poly) 0 l := by
  have ht := S.mk_isT S.Poly (by decide)
  have h1 : S.more (S.mk S.Poly) 0 l = 4294967295 - (S.run (S.mk S.Poly) 4294967295 l : Int) := if_pos ⟨ht, rfl⟩
  rw [h1, S.bit_run l hl]
theorem chk_len (l : List Int) : (chk l).length = 4 := rfl
theorem put_len (k : Int) (p : List Int) : (put k p).length = p.length + 12 := by simp [put, chk_len, S.put]
theorem sput_len (n : Int) : (S.put n).length = 4 := rfl
theorem head_len (k : Int) (p : List Int) : ([208, 161, 1, k] ++ S.put p.length : List Int).length = 8 := rfl
theorem put_long (k : Int) (p t : List Int) (hp : p.length ≤ 65535) : long ([208, 161, 1, k] ++ S.put p.length ++ t) = p.length := by
  have e : (([208, 161, 1, k] ++ S.put p.length ++ t : List Int).drop 4).take 4 = S.put p.length := rfl
  unfold long
  rw [e, S.get_put _ (by omega) (by omega)]
  omega
theorem put_ok (k : Int) (p t : List Int) (h1 : 1 ≤ k) (h9 : k ≤ 9) : ok ([208, 161, 1, k] ++ S.put p.length ++ t) = true := by
  rw [ok_iff]
  intro i hi _
  have : i = 0 ∨ i = 1 ∨ i = 2 ∨ i = 3 := by omega
  rcases this with rfl | rfl | rfl | rfl <;> simp [fits, h1, h9]
theorem put_eq (k : Int) (p : List Int) : put k p = [208, 161, 1, k] ++ S.put p.length ++ (p ++ chk ((([208, 161, 1, k] ++ S.put p.length ++ p) : List Int).drop 2)) := by
  unfold put; simp
theorem size_put (most : Nat) (k : Int) (p : List Int) (h1 : 1 ≤ k) (h9 : k ≤ 9) (hp : p.length ≤ most) (hm : most ≤ 65535) : size most (put k p) = (p.length + 12, 0) := by
  have hl : long (put k p) = p.length := by rw [put_eq]; exact put_long k p _ (by omega)
  have ho : ok (put k p) = true := by rw [put_eq]; exact put_ok k p _ h1 h9
  have hn := put_len k p
  have hg : good (put k p) := by
    obtain ⟨A, hA⟩ : ∃ A : List Int, A = [208, 161, 1, k] ++ S.put p.length ++ p := ⟨_, rfl⟩
    have hAl : A.length = p.length + 8 := by rw [hA]; simp [sput_len]; omega
    have e : put k p = A ++ chk (A.drop 2) := by rw [hA]; rfl
    unfold good
    rw [hl, e, List.take_left' hAl, List.drop_left' hAl, List.take_of_length_le (by rw [chk_len]; omega)]
  unfold size
  rw [if_neg (by rw [ho]; decide), if_neg (by omega), hl, if_neg (by omega), if_neg (by omega), if_pos hg]
theorem kind_put (k : Int) (p : List Int) : kind (put k p) = k := rfl
theorem pay_put (k : Int) (p : List Int) (hp : p.length ≤ 65535) : pay (put k p) = p := by
  have hl : long (put k p) = p.length := by rw [put_eq]; exact put_long k p _ (by omega)
  unfold pay
  rw [hl, put_eq, List.drop_append_of_le_length (by rw [head_len]; omega), List.drop_of_length_le (by rw [head_len]; omega), List.nil_append, List.take_append_of_le_length (by omega), List.take_of_length_le (by omega)]
theorem read_put (most : Nat) (k : Int) (p : List Int) (h1 : 1 ≤ k) (h9 : k ≤ 9) (hp : p.length ≤ most) (hm : most ≤ 65535) : read most (put k p) = ([(k, p)], 0, []) := by
  rw [read_frame (size_put most k p h1 h9 hp hm), kind_put, pay_put k p (by omega), List.drop_of_length_le (by rw [put_len]; omega), read_wait (size_nil most)]
theorem put_bytes (k : Int) (p : List Int) (h1 : 1 ≤ k) (h9 : k ≤ 9) (hp : ∀ x ∈ p, 0 ≤ x ∧ x ≤ 255) : ∀ x ∈ put k p, 0 ≤ x ∧ x ≤ 255 := by
  intro x hx
  simp only [put, List.mem_append] at hx
  rcases hx with ((hx | hx) | hx) | hx
  · simp at hx; omega
  · exact S.put_bytes _ x hx
  · exact hp x hx
  · exact S.put_bytes _ x hx
/-! the document's way: the frame that would be put -/
theorem put_get (l : List Int) (hl : l.length = 4) (hb : ∀ x ∈ l, 0 ≤ x ∧ x ≤ 255) : S.put (S.get l) = l := by
  match l, hl with
  | [a, b, c, d], _ =>
    have := hb a (by simp)
    have := hb b (by simp)
    have := hb c (by simp)
    have := hb d (by simp)
    simp [S.put, S.get]
    omega
theorem get_nn (l : List Int) (hl : l.length = 4) (hb : ∀ x ∈ l, 0 ≤ x ∧ x ≤ 255) : 0 ≤ S.get l ∧ S.get l ≤ 4294967295 := by
  match l, hl with
  | [a, b, c, d], _ =>
    have := hb a (by simp)
    have := hb b (by simp)
    have := hb c (by simp)
    have := hb d (by simp)
    simp [S.get]
    omega
theorem long_eq {b : List Int} (hl : 8 ≤ b.length) (hb : ∀ x ∈ b, 0 ≤ x ∧ x ≤ 255) : (long b : Int) = S.get ((b.drop 4).take 4) ∧ long b ≤ 4294967295 := by
  have := get_nn ((b.drop 4).take 4) (by simp; omega) (fun x hx => hb x (List.mem_of_mem_drop (List.mem_of_mem_take hx)))
  unfold long
  omega
theorem head_of {b : List Int} (ho : ok b = true) (hl : 4 ≤ b.length) : b.take 4 = [208, 161, 1, kind b] ∧ 1 ≤ kind b ∧ kind b ≤ 9 := by
  match b, hl with
  | a :: b :: c :: d :: r, _ =>
    rw [ok_iff] at ho
    have h0 := ho 0 (by omega) (by simp)
    have h1 := ho 1 (by omega) (by simp)
    have h2 := ho 2 (by omega) (by simp)
    have h3 := ho 3 (by omega) (by simp)
    simp [fits] at h0 h1 h2 h3
    simp [kind, h0, h1, h2, h3]
theorem put_good {b : List Int} (ho : ok b = true) (hl : long b + 12 ≤ b.length) (hb : ∀ x ∈ b, 0 ≤ x ∧ x ≤ 255) : put (kind b) (pay b) = b.take (long b + 12) ↔ good b := by
  have hp : (pay b).length = long b := by unfold pay; simp; omega
  have h4 := (head_of ho (by omega)).1
  have hs : S.put ((pay b).length : Int) = (b.drop 4).take 4 := by
    rw [hp, (long_eq (by omega) hb).1]
    exact put_get _ (by simp; omega) (fun x hx => hb x (List.mem_of_mem_drop (List.mem_of_mem_take hx)))
  have e8 : b.take 8 = b.take 4 ++ (b.drop 4).take 4 := by
    rw [show (8 : Nat) = 4 + 4 from rfl, List.take_add]
  have ep : b.take (long b + 8) = [208, 161, 1, kind b] ++ S.put (pay b).length ++ pay b := by
    rw [hs, ← h4, ← e8, Nat.add_comm, List.take_add]; rfl
  have e12 : b.take (long b + 12) = b.take (long b + 8) ++ (b.drop (long b + 8)).take 4 := by
    rw [show long b + 12 = (long b + 8) + 4 from rfl, List.take_add]
  unfold put good
  rw [e12, ep]
  constructor
  · intro h; exact List.append_cancel_left h
  · intro h; rw [h]
end F
end Go.Proofs.Ytdnijiehfokagaa
