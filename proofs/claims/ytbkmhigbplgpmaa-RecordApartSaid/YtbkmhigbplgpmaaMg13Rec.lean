/- Package bin: split, join, Byte, Num, Long. -/
import Derived.Test.YtbkmhigbplgpmaaMg0Rec
import Derived.Test.YtbkmhigbplgpmaaMg12Rec
import Derived.Laws.MakeOwn
import Derived.Lib.AppendZeros
import Derived.RegionTactic
import Derived.Lib.SliceRun
import Derived.Test.YtbkmhigbplgpmaaValRightq
namespace Go.Proofs.Ytbkmhigbplgpmaa
open Go.RowKit Go.Shelf
attribute [local go_sem] Oper.semAt_some
/-- bytes that the call has made -/
def Got (w : World) (l : List Int) (e : Ending) (w' : World) : Prop := ∃ v, e = .returned v ∧ w'.ownsRow w.heap.size 5 1 v l.length (u8s l) ∧ Below w.heap.size w w'
/-- a block of bytes, all of it -/
def BAt (W : World) (b : Nat) (cs : Array Value) : Prop := W.heap[b]? = some (.cells cs 5 (0, 0))
theorem bat_cell {W : World} {b : Nat} {cs : Array Value} (h : BAt W b cs) (i : Nat) (hi : i < cs.size) : W.cell? ⟨b, i, none⟩ = some cs[i] := by
  simp [World.cell?, show W.heap[b]? = _ from h, hi]
theorem bat_frozen {W : World} {b : Nat} {cs : Array Value} (h : BAt W b cs) (i : Nat) : W.frozen? ⟨b, i, none⟩ = false := by simp [World.frozen?, show W.heap[b]? = _ from h]
theorem bat_set {W : World} {b : Nat} {cs : Array Value} (h : BAt W b cs) (i : Nat) (c : Value) : BAt (W.setCell ⟨b, i, none⟩ c) b (cs.setIfInBounds i c) := by
  obtain ⟨hlt, hk⟩ := Array.getElem?_eq_some_iff.1 h
  show (W.heap.modify b _)[b]? = _
  rw [Array.getElem?_eq_getElem (by rw [Array.size_modify]; exact hlt), Array.getElem_modify_self, hk]
  rfl
theorem bat_owns {W : World} {b base : Nat} {cs : Array Value} {n : Nat} {xs : List Value} (h : BAt W b cs) (hb : base ≤ b) (hn : n ≤ maxLen) (hx : cs.toList = xs) (hl : xs.length = n) : W.ownsRow base 5 1 (.slice (some ⟨b, 0, none⟩) n n) n xs := by
  subst hx
  have hl : cs.size = n := by simpa using hl
  exact ⟨by simp [hl], .inr ⟨b, n, cs, rfl, hb, h, Nat.le_refl _, hn, by simp [hl], List.take_of_length_le (by simp [hl])⟩⟩
theorem spl_store (n size k j : Nat) (cs : Array Value) (hs : cs.size = size) (hj : j + k + 1 = size) (hc : cs.toList.drop (size - k) = u8s (Bn.spl n k)) (x : Int) (hx : x = ((n / 256 ^ k % 256 : Nat) : Int)) :
    (cs.setIfInBounds j (.int .u8 x)).toList.drop (size - (k + 1)) = u8s (Bn.spl n (k + 1)) := by
  subst hx
  have e1 : size - (k + 1) = j := by omega
  have e2 : size - k = j + 1 := by omega
  rw [e2] at hc
  rw [e1, Array.toList_setIfInBounds, List.drop_eq_getElem_cons (by simp; omega)]
  simp only [List.getElem_set_self, Bn.spl, u8s, List.map_cons]
  congr 1
  rw [List.drop_set_of_lt (by omega)]
  exact hc
theorem jn_take (l : List Int) (k : Nat) (h : k < l.length) : Bn.jn (l.take (k + 1)) = Bn.jn (l.take k) * 256 + (l[k]?.getD 0).toNat := by
  rw [take_succ_getD _ _ h, Bn.jn_snoc]
theorem bytes_all {l : List Int} (h : Bytes l) : ∀ x ∈ l, 0 ≤ x ∧ x ≤ 255 := by
  intro x hx
  obtain ⟨i, hi, rfl⟩ := List.getElem_of_mem hx
  have := h i
  rwa [List.getElem?_eq_getElem hi] at this
/-- a number's bytes, if it is none below 0 or above the most -/
def spn (n : Int) (most : Int) (size : Nat) : List Int := if n < 0 ∨ most < n then [] else Bn.spl n.toNat size
/-- a long's bytes -/
def spl64 (n : Int) : List Int := Bn.spl (IntKind.u64.wrap n).toNat 8
end Go.Proofs.Ytbkmhigbplgpmaa

/- Package bin: All, Text (slices.Concat, slices.Grow). -/
namespace Go.Proofs.Ytbkmhigbplgpmaa
open Go.RowKit Go.Shelf
attribute [local go_sem] Oper.semAt_some
abbrev R4 := Option Addr × Nat × Nat × List Int
/-- slices of bytes one behind the other, and what they hold -/
def RowsAt (W : World) (b : Nat) (rows : List R4) : Prop := ∀ i x, rows[i]? = some x → W.cell? ⟨b, i, none⟩ = some (.slice x.1 x.2.1 x.2.2.1) ∧ Row W .u8 x.1 x.2.1 x.2.2.1 x.2.2.2
def cat (rows : List R4) : List Int := rows.flatMap (·.2.2.2)
theorem cat_take (rows : List R4) (k : Nat) (x : R4) (h : rows[k]? = some x) : cat (rows.take (k + 1)) = cat (rows.take k) ++ x.2.2.2 := by
  rw [List.take_add_one, h]; simp [cat]
theorem cat_len_take (rows : List R4) (k : Nat) : (cat (rows.take k)).length ≤ (cat rows).length := by
  have e : cat rows = cat (rows.take k) ++ cat (rows.drop k) := by
    conv => lhs; rw [← List.take_append_drop k rows]
    simp only [cat, List.flatMap_append]
  rw [e, List.length_append]; omega
theorem rowsAt_below {W W' : World} {b : Nat} {rows : List R4} (h : RowsAt W b rows) (hb : Below W.heap.size W W') : RowsAt W' b rows := by
  intro i x hx
  obtain ⟨h1, h2⟩ := h i x hx
  refine ⟨?_, row_below h2 hb rfl⟩
  have hbk : b < W.heap.size := by
    simp only [World.cell?] at h1
    rcases Nat.lt_or_ge b W.heap.size with h | h
    · exact h
    · rw [Array.getElem?_eq_none h] at h1; cases h1
  exact (hb.cell (p := ⟨b, i, none⟩) hbk).trans h1
theorem rowsAt_two {W : World} {b : Nat} {x y : R4} (hx : W.cell? ⟨b, 0, none⟩ = some (.slice x.1 x.2.1 x.2.2.1)) (hy : W.cell? ⟨b, 1, none⟩ = some (.slice y.1 y.2.1 y.2.2.1)) (rx : Row W .u8 x.1 x.2.1 x.2.2.1 x.2.2.2) (ry : Row W .u8 y.1 y.2.1 y.2.2.1 y.2.2.2) : RowsAt W b [x, y] := by
  intro i z hz
  match i with
  | 0 => simp at hz; subst hz; exact ⟨hx, rx⟩
  | 1 => simp at hz; subst hz; exact ⟨hy, ry⟩
  | i + 2 => simp at hz
theorem got_addr {w' : World} {base : Nat} {v : Value} {l : List Int} {n : Nat} (h : w'.ownsRow base 5 1 v l.length (u8s l)) (hn : l.length = n) (h0 : 0 < n) : ∃ g cap, v = .slice (some ⟨g, 0, none⟩) n cap ∧ Row w' .u8 (some ⟨g, 0, none⟩) n cap l ∧ base ≤ g := by
  subst hn
  obtain ⟨a, cap, e, hr⟩ := row_of_owns (k := .u8) h
  rcases h.2 with ⟨_, h1⟩ | ⟨g, _, _, e2, hb, _⟩
  · omega
  · rw [e] at e2; cases e2
    exact ⟨g, cap, e, hr, hb⟩
theorem got_row {w' : World} {base : Nat} {v : Value} {l : List Int} {n : Nat} (h : w'.ownsRow base 5 1 v l.length (u8s l)) (hn : l.length = n) : ∃ a cap, v = .slice a n cap ∧ Row w' .u8 a n cap l := by
  subst hn
  exact row_of_owns (k := .u8) h
end Go.Proofs.Ytbkmhigbplgpmaa

/- Package bin: spare, right. -/
namespace Go.Proofs.Ytbkmhigbplgpmaa
open Go.RowKit Go.Shelf
mutual
/-- how many nodes are left of some, as the program says it -/
def spV : PV → Int → Int → Int
  | .mk _ _ _ l, d, n => if 4 < d then -1 else spL l (d + 1) (n - 1)
def spL : List PV → Int → Int → Int
  | [], _, n => n
  | x :: r, d, n => if n < 0 then n else spL r d (spV x d n)
end
theorem sp_neg (l : List PV) (d n : Int) (h : n < 0) : spL l d n = n := by
  cases l with
  | nil => simp only [spL]
  | cons x r => simp only [spL]; rw [if_pos h]
theorem sp_bd : ∀ v : PV, ∀ d n, 0 ≤ n → -1 ≤ spV v d n ∧ spV v d n ≤ n ∧ (0 ≤ spV v d n → spV v d n = n - szV v) := by
  intro v
  induction v using pv_ind with
  | h k n s l ih =>
    have hl : ∀ d n, -1 ≤ n → -1 ≤ spL l d n ∧ spL l d n ≤ n ∧ (0 ≤ spL l d n → spL l d n = n - szL l) := by
      induction l with
      | nil => intro d n hn; simp only [spL, szL]; omega
      | cons x r ih2 =>
        intro d n hn
        simp only [spL, szL]
        split
        · omega
        · have h1 := ih x (by simp) d n (by omega)
          have h2 := ih2 (fun y hy => ih y (by simp [hy])) d (spV x d n) (by omega)
          omega
    intro d n hn
    simp only [spV, szV]
    split
    · omega
    · have := hl (d + 1) (n - 1) (by omega); omega
/-- a value that is formed, and not too deep, has room if its nodes have -/
theorem sp_ok : ∀ v : PV, okV v = true → ∀ d n : Nat, deepV v + d ≤ 4 → szV v ≤ n → spV v d n = (n : Int) - szV v := by
  intro v
  induction v using pv_ind with
  | h k m s l ih =>
    intro ho d n hd hn
    simp only [spV, szV, deepV] at *
    rw [if_neg (by omega)]
    by_cases hk : k = 5
    · subst hk
      rw [okV5] at ho
      simp only [Bool.and_eq_true] at ho
      have hol := ho.2
      clear ho
      rw [if_pos rfl] at hd
      have key : ∀ n : Nat, szL l ≤ n → spL l ((d : Int) + 1) n = (n : Int) - szL l := by
        clear hn
        induction l with
        | nil => intro n _; simp [spL, szL]
        | cons x r ih2 =>
          intro n hn
          simp only [spL, szL, deepL, okL, Bool.and_eq_true] at *
          rw [if_neg (by omega)]
          have h1 := ih x (by simp) hol.1 (d + 1) n (by omega) (by omega)
          rw [show ((d + 1 : Nat) : Int) = (d : Int) + 1 by omega] at h1
          rw [h1]
          have h2 := ih2 (fun y hy => ih y (by simp [hy])) (by omega) hol.2 (n - szV x) (by omega)
          rw [show ((n - szV x : Nat) : Int) = (n : Int) - szV x by omega] at h2
          rw [h2]; omega
      have h3 := key (n - 1) (by omega)
      rw [show ((n - 1 : Nat) : Int) = (n : Int) - 1 by omega] at h3
      rw [h3]; omega
    · have hl : l = [] := by
        by_cases k0 : k = 0
        · subst k0; rw [okV0] at ho; simp at ho; exact ho.2
        by_cases k1 : k = 1
        · subst k1; rw [okV1] at ho; simp at ho; exact ho.2
        by_cases k2 : k = 2
        · subst k2; rw [okV2] at ho; simp at ho; exact ho.2
        by_cases k3 : k = 3
        · subst k3; rw [okV3] at ho; simp at ho; exact ho.2
        by_cases k4 : k = 4
        · subst k4; rw [okV4] at ho; simp at ho; exact ho.2
        · rw [okV6 _ _ _ _ k0 k1 k2 k3 k4 hk] at ho; cases ho
      subst hl
      simp [spL, szL]
theorem sp_right (v : PV) (h : rightV v = true) : 0 ≤ spV v 0 100 := by
  simp only [rightV, Bool.and_eq_true, decide_eq_true_eq] at h
  have := sp_ok v h.2 0 100 (by omega) h.1.2
  simp only [Int.natCast_zero] at this
  rw [show ((100 : Nat) : Int) = 100 from rfl] at this
  rw [this]; omega
end Go.Proofs.Ytbkmhigbplgpmaa

/- Package bin: put, Value. -/
namespace Go.Proofs.Ytbkmhigbplgpmaa
open Go.RowKit Go.Shelf
attribute [local go_sem] Oper.semAt_some
/-- a slice value that leads to these bytes -/
def IsSl (W : World) (v : Value) (l : List Int) : Prop := ∃ a n cap, v = .slice a n cap ∧ Row W .u8 a n cap l
theorem isSl_own {W : World} {base : Nat} {v : Value} {l : List Int} (h : W.ownsRow base 5 1 v l.length (u8s l)) : IsSl W v l := by
  obtain ⟨a, cap, e, hr⟩ := row_of_owns (k := .u8) h
  exact ⟨a, _, cap, e, hr⟩
theorem isSl_below {W W' : World} {v : Value} {l : List Int} (h : IsSl W v l) (hb : Below W.heap.size W W') : IsSl W' v l := by
  obtain ⟨a, n, cap, e, hr⟩ := h
  exact ⟨a, n, cap, e, row_below hr hb rfl⟩
theorem rows_of {W : World} : ∀ ps : List (Value × List Int), (∀ p ∈ ps, IsSl W p.1 p.2) → ∃ rows : List R4, rows.length = ps.length ∧ cat rows = ps.flatMap (·.2) ∧ ∀ (i : Nat) (x : R4), rows[i]? = some x → ∃ p : Value × List Int, ps[i]? = some p ∧ p.1 = .slice x.1 x.2.1 x.2.2.1 ∧ Row W .u8 x.1 x.2.1 x.2.2.1 x.2.2.2 := by
  intro ps
  induction ps with
  | nil => intro _; exact ⟨[], rfl, rfl, by simp⟩
  | cons p ps ih =>
    intro h
    obtain ⟨rows, h1, h2, h3⟩ := ih fun q hq => h q (by simp [hq])
    obtain ⟨a, n, cap, e, hr⟩ := h p (by simp)
    refine ⟨(a, n, cap, p.2) :: rows, by simp [h1], by simp only [cat, List.flatMap_cons] at h2 ⊢; rw [h2], fun i x hx => ?_⟩
    cases i with
    | zero => simp at hx; subst hx; exact ⟨p, rfl, e, hr⟩
    | succ i => simpa using h3 i x (by simpa using hx)
/-- a row of another type is left alone by what grows a row -/
theorem owns_other {W W' : World} {v : Value} {base size n : Nat} {e : TypeId} {xs : List Value} (hg : W.grownBy W' v.ownBlock) (hv : W.ownsRow base e size v n xs) {u : Value} {base' size' m : Nat} {e' : TypeId} {ys : List Value} (hu : W.ownsRow base' e' size' u m ys) (hne : e' ≠ e) : W'.ownsRow base' e' size' u m ys := by
  refine ⟨hu.1, ?_⟩
  rcases hu.2 with h' | ⟨g, cap, cur, rfl, hb, hgb, r'⟩
  · exact .inl h'
  · refine .inr ⟨g, cap, cur, rfl, hb, ?_, r'⟩
    rw [hg.block g (Array.getElem?_eq_some_iff.1 hgb).1 (fun e1 => ?_)]
    · exact hgb
    · rcases hv.2 with ⟨rfl, _⟩ | ⟨g2, _, _, rfl, _, hg2, _⟩
      · cases e1
      · have : g = g2 := by simpa [Value.ownBlock] using e1
        subst this
        rw [hgb] at hg2; cases hg2; exact hne rfl
theorem info_sl : (Try.prog.info? 94).map (fun i => (i.zero, i.size, i.bytes)) = some (some (.slice none 0 0), 1, 24) := by kernel_rfl
mutual
/-- a value's bytes -/
def putV : PV → List Int
  | .mk k n s l => k :: (if k = 1 then [n] else if k = 2 then spl64 n else if k = 3 ∨ k = 4 then Bn.spl s.size 4 ++ strB s else if k = 5 then Bn.spl l.length 4 ++ putL l else [])
def putL : List PV → List Int
  | [] => []
  | x :: r => putV x ++ putL r
end
theorem putL_append (l r : List PV) : putL (l ++ r) = putL l ++ putL r := by
  induction l with
  | nil => rfl
  | cons x l ih => simp only [List.cons_append, putL, ih, List.append_assoc]
theorem putL_take (l : List PV) (i : Nat) (y : PV) (h : l[i]? = some y) : putL (l.take (i + 1)) = putL (l.take i) ++ putV y := by
  rw [List.take_add_one, h, putL_append]; simp [putL]
theorem putL_take_len (l : List PV) (i : Nat) : (putL (l.take i)).length ≤ (putL l).length := by
  have e : putL l = putL (l.take i) ++ putL (l.drop i) := by rw [← putL_append, List.take_append_drop]
  rw [e, List.length_append]; omega
/-- what a value that is formed has in it -/
theorem ok_parts {k n : Int} {s : ByteArray} {l : List PV} (h : okV (.mk k n s l) = true) : (0 ≤ k ∧ k ≤ 5) ∧ (k = 1 → n = 0 ∨ n = 1) ∧ s.size ≤ 200 ∧ (k ≠ 5 → l = []) ∧ l.length ≤ 20 ∧ okL l = true ∧ (k ≠ 3 → k ≠ 4 → s.toList.isEmpty = true) ∧ (k ≠ 1 → k ≠ 2 → n = 0) := by
  have hemp : ∀ s : ByteArray, s.toList.isEmpty = true → s.size ≤ 200 := fun s hs => by
    rw [toList_data] at hs; simp at hs; simp [ByteArray.size, hs]
  by_cases k0 : k = 0
  · subst k0; rw [okV0] at h; simp only [Bool.and_eq_true, beq_iff_eq, List.isEmpty_iff] at h; obtain ⟨⟨rfl, h2⟩, rfl⟩ := h
    exact ⟨by omega, by omega, hemp s (by simp [h2]), fun _ => rfl, by simp, rfl, fun _ _ => by simp [h2], fun _ _ => rfl⟩
  by_cases k1 : k = 1
  · subst k1; rw [okV1] at h; simp only [Bool.and_eq_true, Bool.or_eq_true, beq_iff_eq, List.isEmpty_iff] at h; obtain ⟨⟨h1, h2⟩, rfl⟩ := h
    exact ⟨by omega, fun _ => h1, hemp s (by simp [h2]), fun _ => rfl, by simp, rfl, fun _ _ => by simp [h2], fun h => absurd rfl h⟩
  by_cases k2 : k = 2
  · subst k2; rw [okV2] at h; simp only [Bool.and_eq_true, List.isEmpty_iff] at h; obtain ⟨h2, rfl⟩ := h
    exact ⟨by omega, by omega, hemp s (by simp [h2]), fun _ => rfl, by simp, rfl, fun _ _ => by simp [h2], fun _ h => absurd rfl h⟩
  by_cases k3 : k = 3
  · subst k3; rw [okV3] at h; simp only [Bool.and_eq_true, beq_iff_eq, List.isEmpty_iff] at h; obtain ⟨⟨rfl, h2⟩, rfl⟩ := h
    refine ⟨by omega, by omega, ?_, fun _ => rfl, by simp, rfl, fun h => absurd rfl h, fun _ _ => rfl⟩
    have := strB_len s
    simp only [nameB, Bool.and_eq_true, decide_eq_true_eq] at h2
    omega
  by_cases k4 : k = 4
  · subst k4; rw [okV4] at h; simp only [Bool.and_eq_true, beq_iff_eq, List.isEmpty_iff, decide_eq_true_eq] at h; obtain ⟨⟨⟨rfl, h2⟩, h3⟩, rfl⟩ := h
    exact ⟨by omega, by omega, h2, fun _ => rfl, by simp, rfl, fun _ h => absurd rfl h, fun _ _ => rfl⟩
  by_cases k5 : k = 5
  · subst k5; rw [okV5] at h; simp only [Bool.and_eq_true, beq_iff_eq, decide_eq_true_eq] at h; obtain ⟨⟨⟨rfl, h2⟩, h3⟩, h4⟩ := h
    exact ⟨by omega, by omega, hemp s h2, fun h => absurd rfl h, h3, h4, fun _ _ => h2, fun _ _ => rfl⟩
  · rw [okV6 _ _ _ _ k0 k1 k2 k3 k4 k5] at h; cases h
theorem okL_mem {l : List PV} (h : okL l = true) : ∀ x ∈ l, okV x = true := by
  induction l with
  | nil => simp
  | cons y r ih =>
    intro x hx
    simp only [okL, Bool.and_eq_true] at h
    rcases List.mem_cons.1 hx with rfl | hx
    · exact h.1
    · exact ih h.2 x hx
theorem bput_len : ∀ v : PV, okV v = true → (putV v).length ≤ 210 * szV v := by
  intro v
  induction v using pv_ind with
  | h k n s l ih =>
    intro h
    have hp := ok_parts h
    have h3 := hp.2.2.1
    have h6 := hp.2.2.2.2.2.1
    clear hp
    have hl : (putL l).length ≤ 210 * szL l := by
      clear h
      induction l with
      | nil => simp [putL]
      | cons x r ih2 =>
        simp only [okL, Bool.and_eq_true] at h6
        have h1 := ih x (by simp) h6.1
        have h2 := ih2 (fun y hy => ih y (by simp [hy])) h6.2
        simp only [putL, szL, List.length_append]
        omega
    simp only [putV, szV, List.length_cons]
    split
    · simp; omega
    · split
      · simp [spl64, Bn.spl_len]; omega
      · split
        · simp [Bn.spl_len, strB_len]; omega
        · split
          · simp [Bn.spl_len]; omega
          · simp; omega
theorem spn_in (n most : Int) (size : Nat) (h0 : 0 ≤ n) (h1 : n ≤ most) : spn n most size = Bn.spl n.toNat size := by unfold spn; rw [if_neg (by omega)]
theorem spn_byte (n : Int) (h0 : 0 ≤ n) (h1 : n ≤ 255) : spn n 255 1 = [n] := by
  rw [spn_in n 255 1 h0 h1]
  simp [Bn.spl]
  omega
end Go.Proofs.Ytbkmhigbplgpmaa
