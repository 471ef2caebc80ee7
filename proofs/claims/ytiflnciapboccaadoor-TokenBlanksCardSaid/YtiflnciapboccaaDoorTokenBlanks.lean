/- The walk of TokenBlanks: blanks ahead of a text move all its tokens, and what is wrong, and turn nothing else. -/
import Derived.Test.YtiflnciapboccaaDoorTokAlive
import Derived.Test.YtiflnciapboccaaDoorTokShift
import Derived.Test.YtiflnciapboccaaDoorTokenOrder
set_option linter.unusedVariables false
namespace Go.Proofs.YtiflnciapboccaaDoor
open Go.RowKit Go.Shelf
namespace K
theorem toks_mv (k : Nat) (L : List (Tok × Nat × Int)) : toks (L.map (mvR k)) = (toks L).map (mvT k) := by
  induction L with
  | nil => rfl
  | cons x L ih =>
    rw [List.map_cons, toks_cons, toks_cons, ih]
    by_cases h : x.2.2 = 0 <;> simp [mvR, h]
theorem last_mv (k : Nat) (L : List (Tok × Nat × Int)) (h : L ≠ []) : lastAt (L.map (mvR k)) = k + lastAt L ∧ lastErr (L.map (mvR k)) = lastErr L := by
  unfold lastAt lastErr
  rw [List.getLast?_map]
  cases hl : L.getLast? with
  | none => exact absurd (List.getLast?_eq_none_iff.1 hl) h
  | some x => simp [mvR]
end K
theorem eql_tok (W : World) (a b c n : Int) (s : ByteArray) : (binOp .neq 24 (.agg #[.int .i64 a, .int .i64 b, .int .i64 c, .string s, .int .i64 n]) (.agg #[.int .i64 a, .int .i64 b, .int .i64 c, .string s, .int .i64 n])).run Tryd.prog W = .ok (.bool false) W := by
  go_simp
/-- a row of tokens that is read, all of them moved by k -/
def TRowK (W : World) (v : Value) (k : Nat) (L : List K.Tok) : Prop := ∃ a c, v = .slice a L.length c ∧ L.length ≤ c ∧ c ≤ maxLen ∧ (L = [] ∨ ∃ g, a = some ⟨g, 0, none⟩ ∧ ∀ i, i < L.length →
  (W.cell? ⟨g, i * 5, none⟩ = some (.int .i64 (L[i]?.getD K.zero).kind) ∧ W.cell? ⟨g, i * 5 + 1, none⟩ = some (.int .i64 ((L[i]?.getD K.zero).a + k)) ∧ W.cell? ⟨g, i * 5 + 2, none⟩ = some (.int .i64 ((L[i]?.getD K.zero).e + k)) ∧
   W.cell? ⟨g, i * 5 + 3, none⟩ = some (.string (strOfNums (L[i]?.getD K.zero).s)) ∧ W.cell? ⟨g, i * 5 + 4, none⟩ = some (.int .i64 (L[i]?.getD K.zero).n)))
theorem trowk_of {W : World} {v : Value} {k : Nat} {L : List K.Tok} (h : TRow W v (L.map (K.mvT k))) : TRowK W v k L := by
  obtain ⟨a, c, hv, h1, h2, h3⟩ := h
  rw [List.length_map] at hv h1 h3
  refine ⟨a, c, hv, h1, h2, h3.imp (fun h => by simpa using h) (fun ⟨g, hg, hc⟩ => ⟨g, hg, fun i hi => ?_⟩)⟩
  have hx := hc i hi
  have he : (L.map (K.mvT k))[i]?.getD K.zero = K.mvT k (L[i]?.getD K.zero) := by rw [List.getElem?_map, List.getElem?_eq_getElem hi]; rfl
  rw [he] at hx
  exact hx
theorem K.its_bd (l : List Int) (h : l.length ≤ 1000) : (toks (its l)).length ≤ 1001 ∧ ∀ i, i < (toks (its l)).length → 0 ≤ ((toks (its l))[i]?.getD zero).a ∧ ((toks (its l))[i]?.getD zero).a ≤ 1000 ∧ 0 ≤ ((toks (its l))[i]?.getD zero).e ∧ ((toks (its l))[i]?.getD zero).e ≤ 1000 := by
  obtain ⟨ho, _⟩ := its_ord l
  refine ⟨by have h1 := toks_le (its l); have h2 := its_len (l.length + 1) l 0; change (its l).length ≤ _ at h2; omega, fun i hi => ?_⟩
  have hp : ∀ j : Nat, j ≤ (toks (its l)).length → 0 ≤ prevE 0 (toks (its l)) j := fun j => by
    induction j with
    | zero => intro _; exact Int.le_refl _
    | succ j ih => intro hj; have h1 := ho j (by omega); have h2 := ih (by omega); show 0 ≤ ((toks (its l))[j]?.getD zero).e; omega
  have h1 := ho i hi
  have h2 := hp i (by omega)
  omega
theorem blank_end {w3 wr : World} (h : Below w3.heap.size w3 wr) (o : Obj) (W : World) (hW : W = (wr.alloc o).drew) : Below w3.heap.size w3 W := by
  subst hW
  exact (h.alloc h.size _).drew
namespace tokenBlanksWalk
set_option maxRecDepth 100000 in
set_option maxHeartbeats 8000000 in
theorem walk (a0 : ByteArray) (a1 : Int) (w : World) (w0 : a0.size ≤ maxLen) (w1 : (Lit.int .u8 a1).wf = true) (hE : Err w) :
    Calls Tryd.prog 7 #[.string a0, .int .u8 a1] w fun e w' => e = .returned (.bool true) ∧ Below w.heap.size w w' := by
  have H5 := token_info
  have ha := tokAlive_any w hE
  rcases Nat.lt_or_ge 300 a0.size with hbig | hsm
  · have d1 : decide ((300 : Int) < (a0.size : Int)) = true := by simp; omega
    go_enter Tryd.func7, Tryd.ntmps7
    go_wp2_with (go_at_call 8; (with_reducible refine ha.mono ?_); rintro e w1 ⟨rfl, hB1⟩)
    go_ret
    exact ⟨rfl, hB1⟩
  have d1 : decide ((300 : Int) < (a0.size : Int)) = false := by simp; omega
  have hu := wf_u8 w1
  obtain ⟨k, hk⟩ : ∃ k : Nat, a1.tmod 5 = (k : Int) := ⟨(a1.tmod 5).toNat, by rw [Int.tmod_eq_emod_of_nonneg hu.1]; omega⟩
  have hk4 : k ≤ 4 := by rw [Int.tmod_eq_emod_of_nonneg hu.1] at hk; omega
  have hA1 : ∀ w, Err w → Calls Tryd.prog 11 #[.string a0] w fun e w' => ∃ v, e = .returned (.tuple #[v, .int .i64 (K.lastAt (K.its (strB a0)) : Nat), .int .i64 (K.lastErr (K.its (strB a0)))]) ∧ TRow w' v (K.toks (K.its (strB a0))) ∧ Below w.heap.size w w' := fun w hE =>
    (all_any a0 w (by omega) hE).mono fun e w' ⟨v, h1, h2, h3⟩ => ⟨v, h1, trow_of h2, h3⟩
  have hA2 : ∀ w, Err w → Calls Tryd.prog 11 #[.string ((ByteArray.mk #[32, 9, 10, 13, 32]).extract 0 k ++ a0)] w fun e w' => ∃ v, e = .returned (.tuple #[v, .int .i64 ((K.lastAt (K.its (strB a0)) : Nat) + (k : Int)), .int .i64 (K.lastErr (K.its (strB a0)))]) ∧ TRowK w' v k (K.toks (K.its (strB a0))) ∧ Below w.heap.size w w' := fun w hE => by
    have hl : strB ((ByteArray.mk #[32, 9, 10, 13, 32]).extract 0 k) = [32, 9, 10, 13, 32].take k := by rw [strB_extract]; rfl
    have hsz : ((ByteArray.mk #[32, 9, 10, 13, 32]).extract 0 k).size = k := by rw [ByteArray.size_extract]; show min k 5 - 0 = k; omega
    have hs : ((ByteArray.mk #[32, 9, 10, 13, 32]).extract 0 k ++ a0).size ≤ 1000 := by rw [ByteArray.size_append, hsz]; omega
    have hbl := K.its_blanks (h := [32, 9, 10, 13, 32].take k) (l := strB a0) (fun x hx => by
      have hx := List.mem_of_mem_take hx
      simp only [List.mem_cons, List.not_mem_nil, or_false] at hx
      rcases hx with rfl | rfl | rfl | rfl | rfl <;> rfl)
    have hkl : ([32, 9, 10, 13, 32].take k : List Int).length = k := by rw [List.length_take]; simp; omega
    rw [hkl] at hbl
    have hne : K.its (strB a0) ≠ [] := K.items_ne _ _ _ (by omega)
    refine (all_any _ w hs hE).mono fun e w' ⟨v, h1, h2, h3⟩ => ⟨v, ?_, ?_, h3⟩
    · rw [h1, strB_append, hl, hbl, (K.last_mv k _ hne).1, (K.last_mv k _ hne).2]
      simp only [Int.natCast_add]
      rw [Int.add_comm]
    · have h2 := trow_of h2
      rw [strB_append, hl, hbl, K.toks_mv] at h2
      exact trowk_of h2
  have hord := K.its_ord (strB a0)
  rw [strB_len] at hord
  have hbd := K.its_bd (strB a0) (by rw [strB_len]; omega)
  obtain ⟨L, hL⟩ : ∃ L, K.toks (K.its (strB a0)) = L := ⟨_, rfl⟩
  obtain ⟨q, hq⟩ : ∃ q, K.lastAt (K.its (strB a0)) = q := ⟨_, rfl⟩
  obtain ⟨er, her⟩ : ∃ er, K.lastErr (K.its (strB a0)) = er := ⟨_, rfl⟩
  simp only [hL, hq, her] at hA1 hA2 hbd hord
  clear hL hq her
  have hq2 : q ≤ 300 := by have := hord.2.2.1; omega
  clear hord
  obtain ⟨hlen, hbd⟩ := hbd
  have HBD := Lib.hid hbd; clear hbd
  have heq := eql_tok
  go_enter Tryd.func7, Tryd.ntmps7
  go_wp2_with (first
    | (go_at_call 8; (with_reducible refine ha.mono ?_); rintro e w1 ⟨rfl, hB1⟩; have hE1 := err_below hE hB1)
    | (go_at_call 11; first | ((with_reducible refine (hA1 _ hE1).mono ?_); rintro e w2 ⟨v, rfl, ⟨av, cv, rfl, hcv, hcm, hcells⟩, hB2⟩; have hE2 := err_below hE1 hB2) | ((with_reducible refine (hA2 _ hE2).mono ?_); rintro e w3 ⟨u, rfl, ⟨au, cu, rfl, hdv, hdm, hdells⟩, hB3⟩)))
  have hB13 := (hB1.trans (hB2.mono hB1.size)).trans (hB3.mono (Nat.le_trans hB1.size hB2.size))
  go_loopw [13] (fun i wr => ∃ j : Nat, j ≤ L.length ∧ i = .int .i64 (j : Int) ∧ Below w3.heap.size w3 wr) (fun i _ => L.length - (intOf i).toNat)
  case atStart => exact ⟨0, Nat.zero_le _, rfl, Below.refl _ _⟩
  case round =>
    obtain ⟨j, hj, rfl, hBr⟩ := hrel
    rcases Nat.lt_or_ge j L.length with hlt | hge
    · have hd : decide (j < L.length) = true := by simpa using hlt
      have hne : L ≠ [] := fun h => by rw [h] at hlt; simp at hlt
      obtain ⟨g, rfl, hc⟩ := hcells.resolve_left hne
      obtain ⟨b, rfl, he⟩ := hdells.resolve_left hne
      obtain ⟨x0, x1, x2, x3, x4⟩ := hc j hlt
      obtain ⟨z0, z1, z2, z3, z4⟩ := he j hlt
      have o := HBD.out j hlt
      obtain ⟨t, ht⟩ : ∃ t, L[j]?.getD K.zero = t := ⟨_, rfl⟩
      simp only [ht] at x0 x1 x2 x3 x4 z0 z1 z2 z3 z4 o
      clear ht hc he hcells hdells hne
      have cb : ∀ {p : Nat} {v : Value}, w2.cell? ⟨g, p, none⟩ = some v → wr.cell? ⟨g, p, none⟩ = some v := fun h => by
        have h3 := (hB3.cell (cell_lt h)).trans h
        exact (hBr.cell (cell_lt h3)).trans h3
      have y0 := cb x0
      have y1 := cb x1
      have y2 := cb x2
      have y3 := cb x3
      have y4 := cb x4
      have u0 := (hBr.cell (cell_lt z0)).trans z0
      have u1 := (hBr.cell (cell_lt z1)).trans z1
      have u2 := (hBr.cell (cell_lt z2)).trans z2
      have u3 := (hBr.cell (cell_lt z3)).trans z3
      have u4 := (hBr.cell (cell_lt z4)).trans z4
      have hg : g < wr.heap.size := cell_lt y0
      have hb : b < wr.heap.size := cell_lt u0
      clear x0 x1 x2 x3 x4 z0 z1 z2 z3 z4 cb
      have hkn := heq
      go_wp2
      go_region
      all_goals go_wp2
      all_goals
        go_roundw
        case rel => exact ⟨j + 1, hlt, by go_num, blank_end hBr _ _ rfl⟩
        case measure => simp [intOf]; omega
    · have hd : decide (j < L.length) = false := by simpa using hge
      go_wp2
      go_ret
      exact ⟨rfl, hB13.trans (hBr.mono hB13.size)⟩
end tokenBlanksWalk
end Go.Proofs.YtiflnciapboccaaDoor
