/- The walk of SumBack: what is put is got, and one byte turned turns the sum, by the usual table. -/
import Derived.Test.YtchjipkfdnfgpaaSumAlive
namespace Go.Proofs.Ytchjipkfdnfgpaa.sumBackWalk
open Go.RowKit Go.Shelf
/-- one byte of a row that is our own -/
theorem owns_at {w : World} {base : Nat} {e : TypeId} {v : Value} {n : Nat} {l : List Int} (h : w.ownsRow base e 1 v n (l.map (Value.int .u8))) (i : Nat) (hi : i < n) :
    ∃ g cap, v = .slice (some ⟨g, 0, none⟩) n cap ∧ base ≤ g ∧ w.cell? ⟨g, i, none⟩ = some (.int .u8 (l[i]?.getD 0)) ∧ w.frozen? ⟨g, i, none⟩ = false ∧
      ∀ y, Row (w.setCell ⟨g, i, none⟩ (.int .u8 y)) .u8 (some ⟨g, 0, none⟩) n cap (l.set i y) := by
  obtain ⟨a, c, rfl, h1, h2, h3, h4⟩ := row_of_owns h
  rcases h.2 with ⟨hn, _⟩ | ⟨g, cap, cur, hv, hb, hg, hnc, hcm, hs, ht⟩
  · cases hn; omega
  · cases hv
    rcases h4 with h4 | ⟨b, off, e, hc⟩
    · omega
    · cases e
      refine ⟨g, c, rfl, hb, by have := hc i hi; rwa [Nat.zero_add] at this, by simp [World.frozen?, hg], fun y => ⟨by simp [h1], h2, h3, .inr ⟨g, 0, rfl, fun j hj => ?_⟩⟩⟩
      have hblk : (w.setCell ⟨g, i, none⟩ (.int .u8 y)).heap[g]? = some (.cells (cur.setIfInBounds i (.int .u8 y)) _ (0, 0)) := Joins.block_setCell hg (Value.int .u8 y)
      have hcj := hc j hj
      simp only [World.cell?, hg, Nat.zero_add] at hcj
      simp only [World.cell?, hblk, Nat.zero_add]
      by_cases hij : i = j
      · subst hij
        have hsz : i < cur.size := by omega
        rw [Array.getElem?_setIfInBounds_self_of_lt hsz]
        simp [h1, hj]
      · rw [Array.getElem?_setIfInBounds_ne hij, List.getElem?_set_ne hij]
        exact hcj
set_option maxRecDepth 100000 in
set_option maxHeartbeats 4000000 in
theorem walk (a0 : Int) (a1 : Option Addr) (len1 cap1 : Nat) (z1 : List Int) (a2 : Int) (a3 : Int) (w : World) (w0 : (Lit.int .i64 a0).wf = true) (w1 : IsRow .u8 w a1 len1 cap1 z1) (w2 : (Lit.int .i64 a2).wf = true) (w3 : (Lit.int .u8 a3).wf = true) :
    Calls Try.prog 6 #[.int .i64 a0, .slice a1 len1 cap1, .int .i64 a2, .int .u8 a3] w fun e w' => e = .returned (.bool true) ∧ Below w.heap.size w w' := by
  obtain ⟨i0, hi, hz0, hz1, hz2⟩ := info_parts info_u8
  obtain ⟨l0, u0⟩ := wf_i64 w0
  obtain ⟨l2, u2⟩ := wf_i64 w2
  obtain ⟨l3, u3⟩ := wf_u8 w3
  obtain ⟨hb1, hbw1⟩ := row_of_isRow w1
  have bb1 := bytes_of hbw1
  clear w0 w1 w2 w3
  generalize z1.take len1 = x at *
  have hal := fun W => sumAlive_any W
  by_cases hbig : 300 < len1
  · have d1 : decide ((300 : Int) < (len1 : Int)) = true := by simp; omega
    clear hb1 bb1 hbw1
    go_enter Try.func6, Try.ntmps6
    go_wp2_with (go_at_call 8; (with_reducible refine (hal _).mono ?_); rintro e wA ⟨rfl, hA⟩)
    go_ret
    exact ⟨rfl, hA⟩
  have d1 : decide ((300 : Int) < (len1 : Int)) = false := by simp; omega
  have hlx := hb1.1
  have hput : ∀ W, Below w.heap.size w W → Calls Try.prog 16 #[.int .i64 a0] W fun e w' => ∃ a c, e = .returned (.slice a 4 c) ∧ Row w' .u8 a 4 c (S.put a0) ∧ Below w.heap.size w w' := fun W h => (put_any a0 W).mono fun e w' h3 => by
    obtain ⟨a3, c3, rfl, hr3, hb3⟩ := madeB_row h3
    exact ⟨a3, c3, rfl, hr3, h.trans (hb3.mono h.size)⟩
  have hget : S.num a0 = true → ∀ (W : World) a n c, Row W .u8 a n c (S.put a0) → Below w.heap.size w W → Calls Try.prog 18 #[.slice a n c] W fun e w' => e = .returned (.int .i64 a0) ∧ Below w.heap.size w w' := fun hn W a n c h hB => by
    have hnn := (S.num_iff a0).1 hn
    refine (get_any a n c _ W h (put_b a0)).mono fun e w' hh => ?_
    obtain ⟨h1, n1, h2⟩ := hh
    rw [S.get_put a0 hnn.1 hnn.2] at h1
    exact ⟨h1, h2 ▸ below_drewN hB n1⟩
  have hmk : ∀ W, Below w.heap.size w W → Calls Try.prog 9 #[.int .i64 3988292384] W fun e w' => ∃ a cap, e = .returned (.slice a 256 cap) ∧ Row w' .i64 a 256 cap (S.mk S.Poly) ∧ Below w.heap.size w w' := fun W h =>
    (make_poly W).mono fun e w' hh => by
      obtain ⟨a, cap, h1, h2, h3⟩ := hh
      exact ⟨a, cap, h1, h2, h.trans (h3.mono h.size)⟩
  have o1 : ∀ W a c, Row W .i64 a 256 c (S.mk S.Poly) → Below w.heap.size w W → _ := fun W a c hr h => of_any a 256 c _ _ _ _ _ W hr (row_below hb1 h rfl) bb1
  have hc1 : (S.num a0 = true ∧ decide (0 ≤ a0) = true ∧ decide (a0 ≤ 4294967295) = true) ∨ (S.num a0 = false ∧ decide (0 ≤ a0) = false ∧ True) ∨ (S.num a0 = false ∧ decide (0 ≤ a0) = true ∧ decide (a0 ≤ 4294967295) = false) := by
    by_cases h0 : 0 ≤ a0
    · by_cases h1 : a0 ≤ 4294967295
      · exact .inl ⟨(S.num_iff a0).2 ⟨h0, h1⟩, by simpa using h0, by simpa using h1⟩
      · exact .inr (.inr ⟨by rw [Bool.eq_false_iff]; intro h; exact h1 ((S.num_iff a0).1 h).2, by simpa using h0, by simpa using h1⟩)
    · exact .inr (.inl ⟨by rw [Bool.eq_false_iff]; intro h; exact h0 ((S.num_iff a0).1 h).1, by simpa using h0, trivial⟩)
  by_cases hmain : 0 ≤ a2 ∧ a2 < len1 ∧ a3 ≠ 0
  · obtain ⟨m1, m2, m3⟩ := hmain
    obtain ⟨i, rfl⟩ := Int.eq_ofNat_of_zero_le m1
    have hil : i < len1 := by omega
    obtain ⟨k, rfl⟩ := Int.eq_ofNat_of_zero_le l3
    have hbi := bb1 i
    obtain ⟨q, hq⟩ := Int.eq_ofNat_of_zero_le hbi.1
    have hq2 : q < 256 := by omega
    have hk2 : k < 256 := by omega
    have hxo : bits .xor .u8 (q : Int) (k : Int) = ((q ^^^ k : Nat) : Int) := u8_xor_nat q k hq2 hk2
    have hy2 := S.xor_lt8 hq2 hk2
    have hne : (q ^^^ k : Nat) ≠ q := S.xor_ne q k (by omega)
    have hmt := S.more_turn x (fun n hn => wf_u8 (hbw1 n hn)) i ((q ^^^ k : Nat) : Int) (by omega) (by omega) (by rw [hq]; omega)
    generalize hyy : q ^^^ k = y at *
    have bb2 : Bytes (x.set i (y : Int)) := fun j => by
      rw [List.getElem?_set]
      split
      · split
        · simp; omega
        · simp
      · exact bb1 j
    have o2 : ∀ W a c b d, Row W .i64 a 256 c (S.mk S.Poly) → Row W .u8 b len1 d (x.set i (y : Int)) → _ := fun W a c b d hr h => of_any a 256 c _ b len1 d _ W hr h bb2
    have hrr : (S.more (S.mk S.Poly) 0 (x.set i (y : Int)) != S.more (S.mk S.Poly) 0 x) = true := by simpa using hmt
    generalize S.more (S.mk S.Poly) 0 (x.set i (y : Int)) = r2 at *
    generalize S.more (S.mk S.Poly) 0 x = r1 at *
    have e1 : decide ((i : Int) < 0) = false := by simp
    have e2 : decide ((len1 : Int) ≤ (i : Int)) = false := by simp; omega
    have e2' : decide (len1 ≤ i) = false := by simp; omega
    have e3 : ((k : Int) == 0) = false := by simp; omega
    have O1 := Lib.hid o1; have O2 := Lib.hid o2
    have HO : Hid (∀ u ∈ x.map (Value.int .u8), u.oneCell' = true) := Lib.hid (fun u hu => by
      simp only [List.mem_map] at hu
      obtain ⟨n, _, rfl⟩ := hu
      rfl)
    have HB1 := Lib.hid hb1
    have HQ := Lib.hid hq
    have HP := Lib.hid hput; have HG := Lib.hid hget; have HM := Lib.hid hmk
    have HL := Lib.hid hlx
    clear o1 o2 hb1 bb1 bb2 hbw1 hmt hne hq hbi hyy hput hget hmk hlx m3
    rcases hc1 with ⟨hn, d2, d3⟩ | ⟨hn, d2, d3⟩ | ⟨hn, d2, d3⟩
    all_goals
      have HN := Lib.hid hn; clear hn
      go_enter Try.func6, Try.ntmps6
      go_wp2_with (first
        | (go_at_call 8; (with_reducible refine (hal _).mono ?_); rintro e wA ⟨rfl, hA⟩)
        | (go_at_call 16; (with_reducible refine (HP.out _ hA).mono ?_); rintro e wp ⟨ap, cp, rfl, hp, hA⟩)
        | (go_at_call 18; (with_reducible refine (HG.out HN.out _ _ _ _ hp hA).mono ?_); rintro e wg ⟨rfl, hA⟩)
        | (go_at_call 9; (with_reducible refine (HM.out _ hA).mono ?_); rintro e wu ⟨au, cu, rfl, hu, hA⟩)
        | (at_builtin; refine wpList_append_cells _ rfl _ _ 23 rfl wu.heap.size 5 i0 (.int .u8 0) 1 1 Try.underlying23 hi hz0 hz1 hz2 rfl (by decide) (.slice (some ⟨wu.heap.size, 0, none⟩) 0 0) 0 [] rfl (owns_built wu [] _ 0 rfl (by unfold maxLen; omega)) a1 len1 cap1 (x.map (Value.int .u8)) rfl (cells_of_row (row_below HB1.out (hA.alloc hA.size _) rfl)) HO.out (by unfold maxLen; omega) (by omega) (by simp) ?_; intro v1 w1 hown1 hg1; have hbl1 := ((Below.refl wu.heap.size wu).alloc (Nat.le_refl _) (.cells #[] 5)).trans (below_grown hg1 (owns_built wu [] 5 0 rfl (by unfold maxLen; omega)) (by simp)); obtain ⟨g, cg, rfl, hgb, hgc, hgf, hgs⟩ := owns_at (ownsRow_nth (m := len1) (ys := x.map (Value.int .u8)) hown1 (by omega) (by simp)) i hil; rw [HQ.out] at hgc)
        | (go_at_call 14; (first | ((with_reducible refine (O1.out _ _ _ hu hA).mono ?_); rintro e w' ⟨rfl, rfl⟩) | ((with_reducible refine (O2.out _ _ _ _ _ (row_below hu (hbl1.setCell (p := ⟨g, i, none⟩) hgb _) rfl) (hgs _)).mono ?_); rintro e w' ⟨rfl, rfl⟩))))
      go_ret
      exact ⟨rfl, hA.trans ((hbl1.setCell (p := ⟨g, i, none⟩) hgb _).mono hA.size)⟩
  · have hc2 : (decide (a2 < 0) = true) ∨ (decide (a2 < 0) = false ∧ decide ((len1 : Int) ≤ a2) = true) ∨ (decide (a2 < 0) = false ∧ decide ((len1 : Int) ≤ a2) = false ∧ (a3 == 0) = true) := by
      simp only [decide_eq_true_eq, decide_eq_false_iff_not, beq_iff_eq]
      omega
    have HP := Lib.hid hput; have HG := Lib.hid hget
    clear o1 hb1 bb1 hbw1 hmk hput hget hlx hmain
    rcases hc2 with e1 | ⟨e1, e2⟩ | ⟨e1, e2, e3⟩
    all_goals
      rcases hc1 with ⟨hn, d2, d3⟩ | ⟨hn, d2, d3⟩ | ⟨hn, d2, d3⟩
      all_goals
        have HN := Lib.hid hn; clear hn
        go_enter Try.func6, Try.ntmps6
        go_wp2_with (first
          | (go_at_call 8; (with_reducible refine (hal _).mono ?_); rintro e wA ⟨rfl, hA⟩)
          | (go_at_call 16; (with_reducible refine (HP.out _ hA).mono ?_); rintro e wp ⟨ap, cp, rfl, hp, hA⟩)
          | (go_at_call 18; (with_reducible refine (HG.out HN.out _ _ _ _ hp hA).mono ?_); rintro e wg ⟨rfl, hA⟩))
        go_ret
        exact ⟨rfl, hA⟩
end Go.Proofs.Ytchjipkfdnfgpaa.sumBackWalk
