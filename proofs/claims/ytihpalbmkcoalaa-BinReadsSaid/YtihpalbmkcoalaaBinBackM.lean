/- Layer 6: what is put is read again, and what is read was put. No walk. -/
import Derived.Test.YtihpalbmkcoalaaBinPut
import Derived.Test.YtihpalbmkcoalaaBinModel
import Derived.Test.YtihpalbmkcoalaaValMath
namespace Go.Proofs.Ytihpalbmkcoalaa
open Go.RowKit Go.Shelf
theorem num_app (l r : List Int) : Bn.num l.length (some (l ++ r)) = (Bn.jn l, some r) := by
  simp [Bn.num]
theorem rByte_cons (x : Int) (r : List Int) : Bn.rByte (some (x :: r)) = (x.toNat, some r) := by
  have := num_app [x] r
  simpa [Bn.rByte, Bn.jn] using this
theorem rNum_put (m : Nat) (hm : m ≤ 2147483647) (r : List Int) : Bn.rNum (some (Bn.spl m 4 ++ r)) = (m, some r) := by
  have h := num_app (Bn.spl m 4) r
  rw [Bn.spl_len, Bn.jn_spl, Nat.mod_eq_of_lt (by omega)] at h
  unfold Bn.rNum
  rw [h, if_neg (by show ¬ 2147483647 < m; omega)]
theorem rLong_put (n : Int) (hn : I64 n) (r : List Int) : Bn.rLong (some (spl64 n ++ r)) = (n, some r) := by
  have h := num_app (spl64 n) r
  unfold I64 at hn
  have hl : (spl64 n).length = 8 := by simp [spl64, Bn.spl_len]
  rw [hl] at h
  unfold Bn.rLong
  rw [h]
  have hw : ((IntKind.u64.wrap n).toNat : Int) = IntKind.u64.wrap n := by rw [IntKind.wrap_u64]; omega
  have hlt : (IntKind.u64.wrap n).toNat < 256 ^ 8 := by
    have : IntKind.u64.wrap n < 18446744073709551616 := by rw [IntKind.wrap_u64]; omega
    have e : (256 : Nat) ^ 8 = 18446744073709551616 := by decide
    omega
  simp only [spl64, Bn.jn_spl, Nat.mod_eq_of_lt hlt]
  rw [hw]
  have : IntKind.i64.wrap (IntKind.u64.wrap n) = n := by rw [IntKind.wrap_u64, IntKind.wrap_i64]; omega
  rw [this]
theorem rText_put (s : ByteArray) (hs : s.size ≤ 2147483647) (r : List Int) : Bn.rText (some (Bn.spl s.size 4 ++ strB s ++ r)) = (s, some r) := by
  unfold Bn.rText
  rw [List.append_assoc, rNum_put _ hs]
  have hl := strB_len s
  simp only [Bn.txt]
  rw [if_pos (by simp; omega), List.take_append_of_le_length (by omega), List.drop_append_of_le_length (by omega), ← hl, List.take_length, List.drop_length, strOfNums_strB, List.nil_append]
theorem toNat_cast5 (k : Int) (h0 : 0 ≤ k) : ((k.toNat : Nat) : Int) = k := by omega
theorem rep_put (g : Bn.St → PV × Bn.St) (l : List PV) (r : List Int) (hg : ∀ y ∈ l, ∀ r, g (some (putV y ++ r)) = (y, some r)) : ∀ i, i ≤ l.length → Bn.rep g i (some (putL l ++ r)) = (l.take i, some (putL (l.drop i) ++ r)) := by
  intro i
  induction i with
  | zero => intro _; simp [Bn.rep]
  | succ i ih =>
    intro hi
    have h := ih (by omega)
    have hy : l[i]? = some l[i] := List.getElem?_eq_getElem hi
    have hd : l.drop i = l[i] :: l.drop (i + 1) := List.drop_eq_getElem_cons hi
    simp only [Bn.rep]
    rw [h, hd]
    simp only [putL, List.append_assoc]
    rw [hg _ (List.getElem_mem hi)]
    simp only [List.take_add_one, hy, Option.toList_some]
theorem empty_str {s : ByteArray} (h : s.toList.isEmpty = true) : s = ⟨#[]⟩ := empty_eq h (by rw [toList_data]; rfl)
theorem node_put (lst : Nat → Bn.St → List PV × Bn.St) (k n : Int) (s : ByteArray) (l : List PV) (r : List Int) (ho : okV (.mk k n s l) = true) (hn : I64 n) (hl : k = 5 → lst l.length (some (putL l ++ r)) = (l, some r)) :
    Bn.node lst (some (putV (.mk k n s l) ++ r)) = (.mk k n s l, some r) := by
  obtain ⟨⟨hk0, hk5⟩, hn1, hs, hl5, hl20, _, hse, hn0⟩ := ok_parts ho
  have hpv : putV (.mk k n s l) ++ r = k :: ((if k = 1 then [n] else if k = 2 then spl64 n else if k = 3 ∨ k = 4 then Bn.spl s.size 4 ++ strB s else if k = 5 then Bn.spl l.length 4 ++ putL l else []) ++ r) := by simp [putV]
  rw [hpv]
  unfold Bn.node
  rw [rByte_cons]
  dsimp only
  have hkn : ((k.toNat : Nat) : Int) = k := by omega
  by_cases k1 : k = 1
  · subst k1
    have e1 := hl5 (by omega)
    have e2 := empty_str (hse (by omega) (by omega))
    subst e1 e2
    have e3 : (1 : Int).toNat = 1 := rfl
    rw [if_pos rfl, if_pos e3, List.cons_append, List.nil_append, rByte_cons]
    dsimp only
    have : ((n.toNat : Nat) : Int) = n := by have := hn1 rfl; omega
    rw [this]
  rw [if_neg (show k.toNat ≠ 1 by omega), if_neg k1]
  by_cases k2 : k = 2
  · subst k2
    have e1 := hl5 (by omega)
    have e2 := empty_str (hse (by omega) (by omega))
    subst e1 e2
    have e3 : (2 : Int).toNat = 2 := rfl
    rw [if_pos rfl, if_pos e3, rLong_put n hn]
  rw [if_neg (show k.toNat ≠ 2 by omega), if_neg k2]
  by_cases k34 : k = 3 ∨ k = 4
  · have e1 := hl5 (by omega)
    have e2 := hn0 (by omega) (by omega)
    subst e1 e2
    rw [if_pos k34, if_pos (show k.toNat = 3 ∨ k.toNat = 4 by omega), rText_put s (by omega)]
    dsimp only
    rw [hkn]
  rw [if_neg k34, if_neg (show ¬ (k.toNat = 3 ∨ k.toNat = 4) by omega)]
  by_cases k5 : k = 5
  · subst k5
    have e2 := empty_str (hse (by omega) (by omega))
    have e4 := hn0 (by omega) (by omega)
    subst e2 e4
    have e3 : (5 : Int).toNat = 5 := rfl
    rw [if_pos rfl, if_pos e3, List.append_assoc, rNum_put _ (by omega)]
    dsimp only
    rw [hl rfl]
  · have e1 := hl5 k5
    have e2 := empty_str (hse (by omega) (by omega))
    have e4 := hn0 k1 k2
    subst e1 e2 e4
    rw [if_neg k5, if_neg (show k.toNat ≠ 5 by omega), hkn]
    rfl
theorem numsL_mem {l : List PV} (h : numsV.numsL l) : ∀ y ∈ l, numsV y := by
  induction l with
  | nil => simp
  | cons x r ih =>
    intro y hy
    unfold numsV.numsL at h
    rcases List.mem_cons.1 hy with rfl | hy
    · exact h.1
    · exact ih h.2 y hy
theorem deepL_mem {l : List PV} {y : PV} (h : y ∈ l) : deepV y ≤ deepL l := by
  induction l with
  | nil => simp at h
  | cons x r ih =>
    simp only [deepL]
    rcases List.mem_cons.1 h with rfl | h
    · omega
    · have := ih h; omega
/-- what is put is read again -/
theorem get_put : ∀ (d : Nat) (v : PV), okV v = true → numsV v → deepV v ≤ d → ∀ r, Bn.get d (some (putV v ++ r)) = (v, some r) := by
  intro d
  induction d with
  | zero =>
    intro v ho hn hd r
    cases v with
    | mk k n s l =>
    unfold numsV at hn
    rw [Bn.get_node]
    refine node_put _ k n s l r ho hn.1 fun h5 => ?_
    simp only [deepV] at hd
    rw [if_pos h5] at hd
    omega
  | succ d ih =>
    intro v ho hn hd r
    cases v with
    | mk k n s l =>
    unfold numsV at hn
    rw [Bn.get_node]
    refine node_put _ k n s l r ho hn.1 fun h5 => ?_
    simp only [deepV] at hd
    rw [if_pos h5] at hd
    have hp := ok_parts ho
    show (if 20 < l.length then ([], none) else Bn.rep (Bn.get d) l.length (some (putL l ++ r))) = _
    rw [if_neg (by omega), rep_put (Bn.get d) l r (fun y hy r => ih y (okL_mem hp.2.2.2.2.2.1 y hy) (numsL_mem hn.2 y hy) (by have := deepL_mem hy; omega) r) l.length (Nat.le_refl _)]
    simp [putL]
/-! ### the other way -/
theorem num_bad (n : Nat) : Bn.num n none = (0, none) := rfl
theorem node_bad (lst : Nat → Bn.St → List PV × Bn.St) : (Bn.node lst none).2 = none := rfl
theorem get_bad (d : Nat) : (Bn.get d none).2 = none := by rw [Bn.get_node]; rfl
theorem num_inv {n : Nat} {l r : List Int} {x : Nat} (h : Bn.num n (some l) = (x, some r)) : n ≤ l.length ∧ x = Bn.jn (l.take n) ∧ r = l.drop n := by
  simp only [Bn.num] at h
  split at h
  · rename_i hn
    simp only [Prod.mk.injEq, Option.some.injEq] at h
    exact ⟨hn, h.1.symm, h.2.symm⟩
  · simp at h
theorem bd_take {l : List Int} (h : ∀ x ∈ l, 0 ≤ x ∧ x ≤ 255) (n : Nat) : ∀ x ∈ l.take n, 0 ≤ x ∧ x ≤ 255 := fun x hx => h x (List.mem_of_mem_take hx)
theorem bd_drop {l : List Int} (h : ∀ x ∈ l, 0 ≤ x ∧ x ≤ 255) (n : Nat) : ∀ x ∈ l.drop n, 0 ≤ x ∧ x ≤ 255 := fun x hx => h x (List.mem_of_mem_drop hx)
theorem rByte_inv {l r : List Int} {x : Nat} (hl : ∀ x ∈ l, 0 ≤ x ∧ x ≤ 255) (h : Bn.rByte (some l) = (x, some r)) : l = (x : Int) :: r := by
  obtain ⟨h1, h2, h3⟩ := num_inv h
  cases l with
  | nil => simp at h1
  | cons y l =>
    have := hl y (by simp)
    simp [Bn.jn] at h2 h3
    subst h2 h3
    rw [show ((y.toNat : Nat) : Int) = y by omega]
theorem spl_take {l : List Int} (hl : ∀ x ∈ l, 0 ≤ x ∧ x ≤ 255) {n : Nat} (hn : n ≤ l.length) : Bn.spl (Bn.jn (l.take n)) n = l.take n := by
  have := Bn.spl_jn (l.take n) (bd_take hl n)
  rwa [List.length_take, Nat.min_eq_left hn] at this
theorem rNum_inv {l r : List Int} {x : Nat} (hl : ∀ x ∈ l, 0 ≤ x ∧ x ≤ 255) (h : Bn.rNum (some l) = (x, some r)) : l = Bn.spl x 4 ++ r ∧ x ≤ 2147483647 ∧ r = l.drop 4 := by
  unfold Bn.rNum at h
  split at h
  · simp at h
  · rename_i hx
    obtain ⟨h1, h2, h3⟩ := num_inv h
    rw [h] at hx
    refine ⟨?_, by simpa using hx, h3⟩
    subst h2 h3
    rw [spl_take hl h1, List.take_append_drop]
theorem rLong_inv {l r : List Int} {x : Int} (hl : ∀ x ∈ l, 0 ≤ x ∧ x ≤ 255) (h : Bn.rLong (some l) = (x, some r)) : l = spl64 x ++ r ∧ r = l.drop 8 := by
  unfold Bn.rLong at h
  simp only [Prod.mk.injEq] at h
  obtain ⟨h1, h2⟩ := h
  have h9 : Bn.num 8 (some l) = ((Bn.num 8 (some l)).1, some r) := Prod.ext rfl h2
  obtain ⟨h3, h4, h5⟩ := num_inv h9
  refine ⟨?_, h5⟩
  rw [h4] at h1
  have hlt := Bn.jn_lt (l.take 8) (bd_take hl 8)
  rw [List.length_take, Nat.min_eq_left h3] at hlt
  have e : (256 : Nat) ^ 8 = 18446744073709551616 := by decide
  have hw : (IntKind.u64.wrap x).toNat = Bn.jn (l.take 8) := by rw [← h1, IntKind.wrap_u64, IntKind.wrap_i64]; omega
  rw [spl64, hw, spl_take hl h3, h5, List.take_append_drop]
theorem strB_strOf {l : List Int} (hl : ∀ x ∈ l, 0 ≤ x ∧ x ≤ 255) : strB (strOfNums l) = l := strB_strOfNums l hl
theorem rText_inv {l r : List Int} {x : ByteArray} (hl : ∀ x ∈ l, 0 ≤ x ∧ x ≤ 255) (h : Bn.rText (some l) = (x, some r)) : l = Bn.spl x.size 4 ++ strB x ++ r ∧ ∃ n, r = l.drop n := by
  unfold Bn.rText at h
  obtain ⟨m, s1, hm⟩ : ∃ m s1, Bn.rNum (some l) = (m, s1) := ⟨_, _, rfl⟩
  rw [hm] at h
  dsimp only at h
  cases s1 with
  | none => simp [Bn.txt] at h
  | some l1 =>
    obtain ⟨h1, h2, h3⟩ := rNum_inv hl hm
    simp only [Bn.txt] at h
    split at h
    · rename_i hml
      simp only [Prod.mk.injEq, Option.some.injEq] at h
      obtain ⟨rfl, rfl⟩ := h
      have hl1 : ∀ x ∈ l1, 0 ≤ x ∧ x ≤ 255 := by rw [h3]; exact bd_drop hl 4
      have hsz : (strOfNums (l1.take m)).size = m := by simp [strOfNums, ByteArray.size]; omega
      refine ⟨?_, 4 + m, by rw [h3, List.drop_drop]⟩
      rw [hsz, strB_strOf (bd_take hl1 m), List.append_assoc, List.take_append_drop]
      exact h1
    · simp at h
theorem rep_bad (g : Bn.St → PV × Bn.St) (hg : (g none).2 = none) : ∀ n, (Bn.rep g n none).2 = none := by
  intro n
  induction n with
  | zero => rfl
  | succ n ih => simp only [Bn.rep]; rw [ih, hg]
theorem rep_inv (g : Bn.St → PV × Bn.St) (hb : (g none).2 = none) (hg : ∀ l x r, (∀ x ∈ l, 0 ≤ x ∧ x ≤ 255) → g (some l) = (x, some r) → l = putV x ++ r) : ∀ n l xs r, (∀ x ∈ l, 0 ≤ x ∧ x ≤ 255) → Bn.rep g n (some l) = (xs, some r) → l = putL xs ++ r ∧ xs.length = n ∧ (∀ x ∈ r, 0 ≤ x ∧ x ≤ 255) := by
  intro n
  induction n with
  | zero =>
    intro l xs r hl h
    simp only [Bn.rep, Prod.mk.injEq, Option.some.injEq] at h
    obtain ⟨rfl, rfl⟩ := h
    exact ⟨rfl, rfl, hl⟩
  | succ n ih =>
    intro l xs r hl h
    simp only [Bn.rep, Prod.mk.injEq] at h
    obtain ⟨rfl, h2⟩ := h
    obtain ⟨ys, s1, hy⟩ : ∃ ys s1, Bn.rep g n (some l) = (ys, s1) := ⟨_, _, rfl⟩
    rw [hy] at h2 ⊢
    dsimp only at h2 ⊢
    cases s1 with
    | none => rw [hb] at h2; cases h2
    | some l1 =>
      obtain ⟨q1, q2, q3⟩ := ih l ys l1 hl hy
      have := hg l1 (g (some l1)).1 r q3 (by rw [← h2])
      refine ⟨?_, by simp [q2], fun x hx => q3 x (by rw [this]; simp [hx])⟩
      rw [q1, putL_append]
      simp only [putL, List.append_nil, List.append_assoc]
      rw [← this]
theorem node_inv (lst : Nat → Bn.St → List PV × Bn.St) (hL : ∀ n l xs r, (∀ x ∈ l, 0 ≤ x ∧ x ≤ 255) → lst n (some l) = (xs, some r) → l = putL xs ++ r ∧ xs.length = n) (hb : ∀ n, (lst n none).2 = none) (l : List Int) (v : PV) (r : List Int) (hl : ∀ x ∈ l, 0 ≤ x ∧ x ≤ 255) (h : Bn.node lst (some l) = (v, some r)) : l = putV v ++ r := by
  unfold Bn.node at h
  obtain ⟨k, s1, hk⟩ : ∃ k s1, Bn.rByte (some l) = (k, s1) := ⟨_, _, rfl⟩
  rw [hk] at h
  dsimp only at h
  cases s1 with
  | none =>
    exfalso
    have e1 : Bn.rByte none = (0, none) := rfl
    have e2 : Bn.rLong none = (0, none) := rfl
    have e3 : (Bn.rText none).2 = none := rfl
    have e4 : Bn.rNum none = (0, none) := rfl
    rw [e1, e2, e4] at h
    simp only [] at h
    split at h
    · simp at h
    · split at h
      · simp at h
      · split at h
        · have := congrArg Prod.snd h; rw [e3] at this; cases this
        · split at h
          · have := congrArg Prod.snd h; rw [hb] at this; cases this
          · simp at h
  | some l1 =>
    have h1 := rByte_inv hl hk
    have hl1 : ∀ x ∈ l1, 0 ≤ x ∧ x ≤ 255 := fun x hx => hl x (by rw [h1]; simp [hx])
    subst h1
    split at h
    · rename_i hk1
      subst hk1
      obtain ⟨m, s2, hm⟩ : ∃ m s1, Bn.rByte (some l1) = (m, s1) := ⟨_, _, rfl⟩
      rw [hm] at h
      simp only [Prod.mk.injEq] at h
      obtain ⟨rfl, rfl⟩ := h
      rw [rByte_inv hl1 hm]
      simp [putV]
    · split at h
      · rename_i hk1 hk2
        subst hk2
        obtain ⟨m, s2, hm⟩ : ∃ m s1, Bn.rLong (some l1) = (m, s1) := ⟨_, _, rfl⟩
        rw [hm] at h
        simp only [Prod.mk.injEq] at h
        obtain ⟨rfl, rfl⟩ := h
        conv => lhs; rw [(rLong_inv hl1 hm).1]
        simp [putV]
      · split at h
        · rename_i hk1 hk2 hk34
          obtain ⟨m, s2, hm⟩ : ∃ m s1, Bn.rText (some l1) = (m, s1) := ⟨_, _, rfl⟩
          rw [hm] at h
          simp only [Prod.mk.injEq] at h
          obtain ⟨rfl, rfl⟩ := h
          conv => lhs; rw [(rText_inv hl1 hm).1]
          simp only [putV]
          rw [if_neg (by omega), if_neg (by omega), if_pos (by omega)]
          simp
        · split at h
          · rename_i hk1 hk2 hk34 hk5
            subst hk5
            obtain ⟨m, s2, hm⟩ : ∃ m s1, Bn.rNum (some l1) = (m, s1) := ⟨_, _, rfl⟩
            rw [hm] at h
            dsimp only at h
            cases s2 with
            | none => exfalso; have := congrArg Prod.snd h; rw [hb] at this; cases this
            | some l2 =>
              obtain ⟨q1, q2, q3⟩ := rNum_inv hl1 hm
              have hl2 : ∀ x ∈ l2, 0 ≤ x ∧ x ≤ 255 := by rw [q3]; exact bd_drop hl1 4
              obtain ⟨ys, s3, hy⟩ : ∃ ys s1, lst m (some l2) = (ys, s1) := ⟨_, _, rfl⟩
              rw [hy] at h
              simp only [Prod.mk.injEq] at h
              obtain ⟨rfl, rfl⟩ := h
              obtain ⟨q4, q5⟩ := hL m l2 ys r hl2 hy
              conv => lhs; rw [q1, q4]
              simp [putV, q5]
          · rename_i hk1 hk2 hk34 hk5
            simp only [Prod.mk.injEq, Option.some.injEq] at h
            obtain ⟨rfl, rfl⟩ := h
            simp only [putV]
            rw [if_neg (by omega), if_neg (by omega), if_neg (by omega), if_neg (by omega)]
            rfl
/-- what is read was put -/
theorem get_inv : ∀ (d : Nat) (l : List Int) (v : PV) (r : List Int), (∀ x ∈ l, 0 ≤ x ∧ x ≤ 255) → Bn.get d (some l) = (v, some r) → l = putV v ++ r := by
  intro d
  induction d with
  | zero =>
    intro l v r hl h
    refine node_inv (Bn.lst none) (fun n l xs r _ h => ?_) (fun n => rfl) l v r hl h
    simp [Bn.lst] at h
  | succ d ih =>
    intro l v r hl h
    refine node_inv (Bn.lst (some (Bn.get d))) (fun n l xs r hl h => ?_) (fun n => ?_) l v r hl h
    · simp only [Bn.lst] at h
      split at h
      · simp at h
      · have := rep_inv (Bn.get d) (get_bad d) (fun l x r hl h => ih l x r hl h) n l xs r hl h
        exact ⟨this.1, this.2.1⟩
    · simp only [Bn.lst]
      split
      · rfl
      · exact rep_bad _ (get_bad d) n
end Go.Proofs.Ytihpalbmkcoalaa
