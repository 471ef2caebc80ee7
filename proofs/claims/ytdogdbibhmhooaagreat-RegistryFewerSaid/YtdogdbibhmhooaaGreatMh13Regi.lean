/- Package bin: list; node of every depth. -/
import Derived.Test.YtdogdbibhmhooaaGreatMh12Regi
import Derived.Test.YtdogdbibhmhooaaGreatMh6Regi
import Derived.Test.YtdogdbibhmhooaaGreatMh4Regi
import Derived.Test.YtdogdbibhmhooaaGreatMh2Regi
import Derived.Test.YtdogdbibhmhooaaGreatMh8Regi
import Derived.Test.YtdogdbibhmhooaaGreatMh7Regi
import Derived.Deep.QuietTactic
import Derived.BigQuiet
import Derived.Deep.RegionWith
import Derived.Lib.ConvBytes
import Derived.Deep.RegionHeld3
import Derived.Deep.DeepCutAuto
import Derived.Test.YtdogdbibhmhooaaGreatMh9Regi
namespace Go.Proofs.YtdogdbibhmhooaaGreat
open Go.RowKit Go.Shelf
attribute [local go_sem] Oper.semAt_some
theorem rep_len (g : Bn.St → PV × Bn.St) (n : Nat) (s : Bn.St) : (Bn.rep g n s).1.length = n := by
  induction n with
  | zero => rfl
  | succ n ih => simp [Bn.rep, ih]
/-- values that lie in a block of the call's own: so many are there -/
def Filled (g : Nat) (n : Nat) (xs : List PV) (wr : World) : Prop :=
  ∃ C, VAt wr g C ∧ C.size = n * 4 ∧ ∀ (i : Nat) (y : PV), xs[i]? = some y → ∃ c0 c1 c2 c3, (C[i * 4]? = some c0 ∧ C[i * 4 + 1]? = some c1 ∧ C[i * 4 + 2]? = some c2 ∧ C[i * 4 + 3]? = some c3) ∧ Fresh (g + 1) wr y (.agg #[c0, c1, c2, c3])
theorem filled_step {g n q : Nat} {xs : List PV} {wr w' : World} {y : PV} {d0 d1 d2 d3 : Value} {p : Nat} (h : Filled g n xs wr) (hp : p < g) (hg : wr.grownBy w' (some p)) (hq : xs.length = q) (hn : q < n) (hf : Fresh (g + 1) w' y (.agg #[d0, d1, d2, d3])) :
    Filled g n (xs ++ [y]) ((((w'.setCell ⟨g, q * 4, none⟩ d0).setCell ⟨g, q * 4 + 1, none⟩ d1).setCell ⟨g, q * 4 + 2, none⟩ d2).setCell ⟨g, q * 4 + 3, none⟩ d3) := by
  obtain ⟨C, c1, c2, c3⟩ := h
  have c1' := vat_grown c1 hg (by omega)
  have hset : ∀ b, g + 1 ≤ b → (((((w'.setCell ⟨g, q * 4, none⟩ d0).setCell ⟨g, q * 4 + 1, none⟩ d1).setCell ⟨g, q * 4 + 2, none⟩ d2).setCell ⟨g, q * 4 + 3, none⟩ d3).heap[b]? = w'.heap[b]?) := fun b hb' => by
    rw [Below.heap_setCell _ _ _ b (by show b ≠ g; omega), Below.heap_setCell _ _ _ b (by show b ≠ g; omega), Below.heap_setCell _ _ _ b (by show b ≠ g; omega), Below.heap_setCell _ _ _ b (by show b ≠ g; omega)]
  have hss : ((((w'.setCell ⟨g, q * 4, none⟩ d0).setCell ⟨g, q * 4 + 1, none⟩ d1).setCell ⟨g, q * 4 + 2, none⟩ d2).setCell ⟨g, q * 4 + 3, none⟩ d3).heap.size = w'.heap.size := by simp
  refine ⟨_, vat_set (vat_set (vat_set (vat_set c1' _ d0) _ d1) _ d2) _ d3, by simp [c2], fun i z hz => ?_⟩
  rcases Nat.lt_or_ge i q with hlt | hge
  · rw [List.getElem?_append_left (by omega)] at hz
    obtain ⟨e0, e1, e2, e3, ⟨u0, u1, u2, u3⟩, hfr⟩ := c3 i z hz
    refine ⟨e0, e1, e2, e3, ⟨?_, ?_, ?_, ?_⟩, fresh_later (fresh_later hfr hg.size (fun b h1 h2 => hg.block b h2 (by simp; omega))) (by rw [hss]; exact Nat.le_refl _) fun b h1 _ => hset b h1⟩
    · rw [Array.getElem?_setIfInBounds_ne (by omega), Array.getElem?_setIfInBounds_ne (by omega), Array.getElem?_setIfInBounds_ne (by omega), Array.getElem?_setIfInBounds_ne (by omega), u0]
    · rw [Array.getElem?_setIfInBounds_ne (by omega), Array.getElem?_setIfInBounds_ne (by omega), Array.getElem?_setIfInBounds_ne (by omega), Array.getElem?_setIfInBounds_ne (by omega), u1]
    · rw [Array.getElem?_setIfInBounds_ne (by omega), Array.getElem?_setIfInBounds_ne (by omega), Array.getElem?_setIfInBounds_ne (by omega), Array.getElem?_setIfInBounds_ne (by omega), u2]
    · rw [Array.getElem?_setIfInBounds_ne (by omega), Array.getElem?_setIfInBounds_ne (by omega), Array.getElem?_setIfInBounds_ne (by omega), Array.getElem?_setIfInBounds_ne (by omega), u3]
  · have hil : i < (xs ++ [y]).length := (List.getElem?_eq_some_iff.1 hz).1
    rw [List.length_append, hq] at hil
    simp only [List.length_cons, List.length_nil] at hil
    obtain rfl : i = q := by omega
    rw [List.getElem?_append_right (by omega), hq, Nat.sub_self] at hz
    simp at hz
    subst hz
    refine ⟨d0, d1, d2, d3, ⟨?_, ?_, ?_, ?_⟩, fresh_later hf (by rw [hss]; exact Nat.le_refl _) fun b h1 _ => hset b h1⟩
    · rw [Array.getElem?_setIfInBounds_ne (by omega), Array.getElem?_setIfInBounds_ne (by omega), Array.getElem?_setIfInBounds_ne (by omega), Array.getElem?_setIfInBounds_self_of_lt (by omega)]
    · rw [Array.getElem?_setIfInBounds_ne (by omega), Array.getElem?_setIfInBounds_ne (by omega), Array.getElem?_setIfInBounds_self_of_lt (by simp; omega)]
    · rw [Array.getElem?_setIfInBounds_ne (by omega), Array.getElem?_setIfInBounds_self_of_lt (by simp; omega)]
    · rw [Array.getElem?_setIfInBounds_self_of_lt (by simp; omega)]
theorem filled_isL {g n : Nat} {xs : List PV} {wr w2 : World} (h : Filled g n xs wr) (ha : ∀ b : Nat, g ≤ b → b < wr.heap.size → w2.heap[b]? = wr.heap[b]?) : IsL w2 g xs 0 := by
  obtain ⟨C, c1, c2, c3⟩ := h
  have c1' : VAt w2 g C := (ha g (Nat.le_refl _) (vat_lt c1)).trans c1
  refine isL_of fun i y hy => ?_
  obtain ⟨e0, e1, e2, e3, ⟨u0, u1, u2, u3⟩, hf⟩ := c3 i y hy
  rw [Nat.zero_add]
  exact ⟨e0, e1, e2, e3, ⟨vat_cell c1' _ _ u0, vat_cell c1' _ _ u1, vat_cell c1' _ _ u2, vat_cell c1' _ _ u3⟩, hf w2 fun b h1 h2 => ha b (by omega) h2⟩
theorem is_form {w : World} {v : PV} {x : Value} (h : Is w v x) : ∃ (k n : Int) (s : ByteArray) (a : Option Addr) (len cap : Nat), x = .agg #[.int .i64 k, .int .i64 n, .string s, .slice a len cap] := by
  cases v with
  | mk k n s l =>
  unfold Is at h
  obtain ⟨_, _, _, a, cap, e, _⟩ := h
  exact ⟨_, _, _, _, _, _, e⟩
set_option maxRecDepth 100000 in
set_option maxHeartbeats 4000000 in
theorem list_bad (j : Nat) (hj : j ≤ 5) (p : Nat) (s : Bn.St) (w : World) (h : RD w p s) (hb : 20 < (Bn.rNum s).1 ∨ 4 < j) :
    Calls Tryz.prog 136 #[.pointer (some ⟨p, 0, none⟩), .int .i64 (j : Int)] w (LRet p w ([], none)) := by
  have hN := rdNum_any p s w h
  generalize (Bn.rNum s).1 = n at *
  generalize (Bn.rNum s).2 = s1 at *
  have hF := fun W (h : RD W p s1) => rdFail_any p s1 W h
  have HF := Lib.hid hF
  clear h hF
  have hret : ∀ W W2, RD W2 p none → w.grownBy W2 (some p) → W = W2 → LRet p w ([], none) (.returned (.slice none 0 0)) W := fun W W2 h1 h2 h3 => by
    subst h3
    exact ⟨none, 0, rfl, Nat.le_refl _, by unfold maxLen; omega, fun _ _ => .inl rfl, h1, h2⟩
  by_cases h20 : 20 < n
  · have hd : decide ((20 : Int) < (n : Int)) = true := by simp; omega
    clear hb
    go_enter Tryz.func136, Tryz.ntmps136
    go_wp2_with (first
      | (go_at_call 73; (with_reducible refine hN.mono ?_); rintro e w2 ⟨rfl, hR2, hg2⟩)
      | (go_at_call 124; (with_reducible refine (HF.out _ hR2).mono ?_); rintro e w3 ⟨⟨v, rfl⟩, hR3, hg3⟩))
    go_ret
    exact hret _ _ hR3 (grown_then hg2 hg3) rfl
  · have hd : decide ((20 : Int) < (n : Int)) = false := by simp; omega
    have hj4 : 4 < j := by omega
    have hd2 : decide ((4 : Int) < (j : Int)) = true := by simp; omega
    clear hb
    go_enter Tryz.func136, Tryz.ntmps136
    go_wp2_with (first
      | (go_at_call 73; (with_reducible refine hN.mono ?_); rintro e w2 ⟨rfl, hR2, hg2⟩)
      | (go_at_call 124; (with_reducible refine (HF.out _ hR2).mono ?_); rintro e w3 ⟨⟨v, rfl⟩, hR3, hg3⟩))
    go_ret
    exact hret _ _ hR3 (grown_then hg2 hg3) rfl
set_option maxRecDepth 100000 in
set_option maxHeartbeats 4000000 in
theorem list_good (j : Nat) (hj : j ≤ 4) (gg : Bn.St → PV × Bn.St) (hNode : ∀ (p : Nat) (s : Bn.St) (w : World), RD w p s → Calls Tryz.prog 126 #[.pointer (some ⟨p, 0, none⟩), .int .i64 (j : Int)] w (VRet p w (gg s).1 (gg s).2))
    (p : Nat) (s : Bn.St) (w : World) (h : RD w p s) (hb : (Bn.rNum s).1 ≤ 20) :
    Calls Tryz.prog 136 #[.pointer (some ⟨p, 0, none⟩), .int .i64 (j : Int)] w (LRet p w (Bn.rep gg (Bn.rNum s).1 (Bn.rNum s).2)) := by
  have hN := rdNum_any p s w h
  have hpw := rd_lt h
  generalize (Bn.rNum s).1 = n at *
  generalize (Bn.rNum s).2 = s1 at *
  have HNode := Lib.hid hNode
  clear h hNode
  have hd : decide ((20 : Int) < (n : Int)) = false := by simp; omega
  have hd2 : decide ((4 : Int) < (j : Int)) = false := by simp; omega
  obtain ⟨i0, hi, hz0, hz1, hz2⟩ := info_parts info_val
  obtain ⟨M, hM⟩ : ∃ M, madeCells (Value.agg vzero).cells (((n : Nat) : Int).toNat * i0.size) = M := ⟨_, rfl⟩
  have hMs : M.size = n * 4 := by rw [← hM, size_madeCells, hz1]; simp
  have hmk : ∀ W : World, (Instr.makeSlice 54 (.int .i64 (n : Int)) (.int .i64 (n : Int))).run Tryz.prog W = .ok (.slice (some ⟨W.heap.size, 0, none⟩) n n) (W.alloc (.cells M 56)) := fun W => by
    have h := run_make (P := Tryz.prog) W 54 56 i0 (.agg vzero) Tryz.underlying54 hi hz0 .i64 .i64 (n : Int) (n : Int) (by omega) (by omega) (by rw [hz2]; omega) (by omega)
    rw [hM] at h
    simpa using h
  clear hM hi hz0 hz1 hz2
  go_enter Tryz.func136, Tryz.ntmps136
  go_wp2_with (first
    | (go_at_call 73; (with_reducible refine hN.mono ?_); rintro e w2 ⟨rfl, hR2, hg2⟩))
  have hs2 := hg2.size
  have hA2 := (Below.refl _ w2).alloc (Nat.le_refl _) (.cells M 56)
  obtain ⟨g, hg⟩ : ∃ g, w2.heap.size = g := ⟨_, rfl⟩
  have hinv : Filled g n [] (w2.alloc (.cells M 56)) := ⟨M, by rw [← hg]; exact vat_alloc w2 M, hMs, fun i y h => by simp at h⟩
  have hRA := rd_below hR2 hA2
  have hGA := grown_alloc hg2 (.cells M 56)
  rw [hg] at hs2
  have hpg : p < g := by omega
  rw [hg]
  go_loopw [7, 22] (fun _ i wr => ∃ q : Nat, q ≤ n ∧ i = .int .i64 (q : Int) ∧ Filled g n (Bn.rep gg q s1).1 wr ∧ RD wr p (Bn.rep gg q s1).2 ∧ w.grownBy wr (some p)) (fun _ i _ => n - (intOf i).toNat)
  case atStart => exact ⟨0, Nat.zero_le _, rfl, hinv, hRA, hGA⟩
  case round =>
  obtain ⟨q, hq, rfl, hfil, hR, hG⟩ := hrel
  by_cases hql : q < n
  · have hdq : decide (q < n) = true := by simp; omega
    have hcall := HNode.out p _ wr hR
    have hrl := rep_len gg q s1
    have hst1 : (Bn.rep gg (q + 1) s1).1 = (Bn.rep gg q s1).1 ++ [(gg (Bn.rep gg q s1).2).1] := rfl
    have hst2 : (Bn.rep gg (q + 1) s1).2 = (gg (Bn.rep gg q s1).2).2 := rfl
    have H1 := Lib.hid hst1; have H2 := Lib.hid hst2
    clear hst1 hst2
    generalize (Bn.rep gg q s1).1 = xs at *
    generalize (Bn.rep gg q s1).2 = s2 at *
    have HR := Lib.hid hR
    have HF := Lib.hid hfil
    have HRL := Lib.hid hrl
    obtain ⟨C, c1, c2, _⟩ := id hfil
    have hgw := vat_lt c1
    clear hR hfil hrl hinv hRA hGA hN hR2
    obtain ⟨x0, hx0⟩ : ∃ x, C[q * 4]? = some x := ⟨C[q * 4]'(by omega), Array.getElem?_eq_getElem (by omega)⟩
    obtain ⟨x1, hx1⟩ : ∃ x, C[q * 4 + 1]? = some x := ⟨C[q * 4 + 1]'(by omega), Array.getElem?_eq_getElem (by omega)⟩
    obtain ⟨x2, hx2⟩ : ∃ x, C[q * 4 + 2]? = some x := ⟨C[q * 4 + 2]'(by omega), Array.getElem?_eq_getElem (by omega)⟩
    obtain ⟨x3, hx3⟩ : ∃ x, C[q * 4 + 3]? = some x := ⟨C[q * 4 + 3]'(by omega), Array.getElem?_eq_getElem (by omega)⟩
    have HC1 := Lib.hid c1
    clear c1
    go_wp2_with (first
      | (go_at_call 126; (with_reducible refine hcall.mono ?_); rintro e w4 ⟨x, rfl, hF4, hR4, hg4⟩; obtain ⟨d0, d1, d2, d3, d4, d5, rfl⟩ := is_form (fresh_is hF4); have hCC := vat_grown HC1.out hg4 (by omega); have z0 := vat_cell hCC _ _ hx0; have z1 := vat_cell hCC _ _ hx1; have z2 := vat_cell hCC _ _ hx2; have z3 := vat_cell hCC _ _ hx3; have y0 := vat_frozen hCC (q * 4); have y1 := vat_frozen hCC (q * 4 + 1); have y2 := vat_frozen hCC (q * 4 + 2); have y3 := vat_frozen hCC (q * 4 + 3)))
    go_roundw
    all_goals (first
      | (case' rel => exact ⟨q + 1, by omega, by go_num, by rw [H1.out]; exact filled_step HF.out hpg hg4 HRL.out hql (fresh_mono hF4 (by omega)), by rw [H2.out]; exact rd_set4 hR4 hCC _ _ _ _ _ _ _ _, grown_new4 (grown_then hG hg4) hs2 _ _ _ _ _ _ _ _⟩)
      | (case' measure => simp [intOf]; omega))
  · obtain rfl : q = n := by omega
    have hdq : decide (q < q) = false := by simp
    have hrl := rep_len gg q s1
    go_wp2_with fail
    go_ret
    exact ⟨some ⟨g, 0, none⟩, q, by rw [hrl]; rfl, by omega, by unfold maxLen; omega, fun w2 hw2 => .inr ⟨g, 0, rfl, filled_isL hfil fun b h1 h2 => hw2 b (by omega) h2⟩, hR, hG⟩
/-- what stands there as a value, within so many lists -/
theorem node_any (d : Nat) : ∀ k : Nat, k + d = 4 → ∀ (p : Nat) (s : Bn.St) (w : World), RD w p s → Calls Tryz.prog 126 #[.pointer (some ⟨p, 0, none⟩), .int .i64 (k : Int)] w (VRet p w (Bn.get d s).1 (Bn.get d s).2) := by
  induction d with
  | zero =>
    intro k hk p s w h
    exact node_step k (by omega) (Bn.lst none) (fun p s w h => by
      have := list_bad (k + 1) (by omega) p s w h (.inr (by omega))
      exact this) p s w h
  | succ d ih =>
    intro k hk p s w h
    refine node_step k (by omega) (Bn.lst (some (Bn.get d))) (fun p s w h => ?_) p s w h
    have hnode := ih (k + 1) (by omega)
    show Calls _ _ _ w (LRet p w (if 20 < (Bn.rNum s).1 then ([], none) else Bn.rep (Bn.get d) (Bn.rNum s).1 (Bn.rNum s).2))
    by_cases h20 : 20 < (Bn.rNum s).1
    · rw [if_pos h20]
      exact list_bad (k + 1) (by omega) p s w h (.inl h20)
    · rw [if_neg h20]
      exact list_good (k + 1) (by omega) (Bn.get d) hnode p s w h (by omega)
end Go.Proofs.YtdogdbibhmhooaaGreat

/- The document's Has, Fits of layer 10. -/
set_option linter.unusedVariables false
set_option maxRecDepth 100000
namespace Go.Proofs.YtdogdbibhmhooaaGreat
open Go.RowKit Go.Shelf
theorem slot7_form {w : World} {s : SlotM} {x : Value} (h : IsSlot w s x) : ∃ k n t a len cap, x = .agg #[.string s.nm, .int .i64 s.ty, .bool s.rq, .int .i64 k, .int .i64 n, .string t, .slice a len cap] ∧ I64 s.ty ∧ s.nm.size ≤ maxLen ∧ Is w s.df (.agg #[.int .i64 k, .int .i64 n, .string t, .slice a len cap]) := by
  obtain ⟨c0, c1, c2, c3, c4, c5, c6, rfl, h1, h2, rfl, rfl, rfl, h3⟩ := h
  have h4 := h3
  cases hd : s.df with
  | mk k n t l =>
    rw [hd] at h4
    unfold Is at h4
    obtain ⟨_, _, _, a, cap, e, _⟩ := h4
    simp only [Value.agg.injEq, Array.mk.injEq, List.cons.injEq, and_true] at e
    obtain ⟨rfl, rfl, rfl, rfl⟩ := e
    rw [hd] at h3
    exact ⟨_, _, _, _, _, _, rfl, h2, h1, h3⟩
theorem right_kind {k n : Int} {s : ByteArray} {l : List PV} (h : rightV (.mk k n s l) = true) : 0 ≤ k ∧ k ≤ 5 := by
  unfold rightV at h
  simp only [Bool.and_eq_true] at h
  have h2 := h.2
  refine Decidable.byContradiction fun hn => ?_
  have e : okV (.mk k n s l) = false := by
    unfold okV
    rw [if_neg (by omega), if_neg (by omega), if_neg (by omega), if_neg (by omega), if_neg (by omega), if_neg (by omega)]
  rw [e] at h2
  cases h2
end Go.Proofs.YtdogdbibhmhooaaGreat
