/- The program's schema: Col, and rows of numbers (slices.Equal, Index, Contains). -/
import Derived.Test.YtibjjclfonpibaaGreatMh11Cast
import Derived.Test.YtibjjclfonpibaaGreatMh10Cast
set_option linter.unusedVariables false
set_option linter.unusedSimpArgs false
namespace Go.Proofs.YtibjjclfonpibaaGreat
open Go.RowKit Go.Shelf
theorem row_nth {W : World} {a : Option Addr} {n c : Nat} {l : List Int} (h : Row W .i64 a n c l) (i : Nat) (hi : i < n) : ∃ b off, a = some ⟨b, off, none⟩ ∧ W.cell? ⟨b, off + i, none⟩ = some (.int .i64 (l[i]?.getD 0)) := by
  obtain ⟨h1, h2, h3, h4⟩ := h
  rcases h4 with h4 | ⟨b, off, rfl, hc⟩
  · omega
  · exact ⟨b, off, rfl, by have := hc i (by omega); simpa [List.getElem?_eq_getElem (show i < l.length by omega)] using this⟩
set_option maxRecDepth 100000 in
set_option maxHeartbeats 2000000 in
theorem equalI_any (a b : Option Addr) (n m c d : Nat) (l r : List Int) (w : World) (hl : Row w .i64 a n c l) (hr : Row w .i64 b m d r) :
    Calls Tryz.prog 143 #[.slice a n c, .slice b m d] w (RBytes l r w) := by
  obtain ⟨h1, h2, h3, h4⟩ := hl
  obtain ⟨k1, k2, k3, k4⟩ := hr
  unfold maxLen at h3 k3
  by_cases hnm : n = m
  · subst hnm
    have hb : ((n : Int) != (n : Int)) = false := by simp
    have H1 := Lib.hid h1; clear h1
    have K1 := Lib.hid k1; clear k1
    have H4 := Lib.hid h4; clear h4
    have K4 := Lib.hid k4; clear k4
    go_enter Tryz.func143, Tryz.ntmps143
    go_wp2
    go_loopw [13] (fun i wr => ∃ k nq : Nat, k ≤ n ∧ i = .int .i64 k ∧ wr = w.drewN nq ∧ ∀ j, j < k → l[j]?.getD 0 = r[j]?.getD 0)
      (fun i _ => n - (intOf i).toNat)
    case atStart => exact ⟨0, 0, Nat.zero_le _, rfl, rfl, fun j hj => by omega⟩
    case round =>
      obtain ⟨k, nq, hk, rfl, rfl, heq⟩ := hrel
      have HE := Lib.hid heq; clear heq
      by_cases hlt : k < n
      · rcases H4.out with h0 | ⟨p, o, rfl, hc⟩
        · exact absurd h0 (by omega)
        rcases K4.out with h0 | ⟨p', o', rfl, hc'⟩
        · exact absurd h0 (by omega)
        have c1 := hc k hlt
        have c2 := hc' k hlt
        clear hc hc'
        by_cases hx : l[k]?.getD 0 = r[k]?.getD 0
        · have HX := Lib.hid hx
          rw [hx] at c1
          generalize r[k]?.getD 0 = x at c1 c2
          clear hx
          have hne : (x != x) = false := by simp
          go_wp2
          go_quiet (fail)
          go_wp2
          go_roundw
          case rel => exact ⟨k + 1, _, by omega, by go_num, rfl, fun j hj => by
            rcases Nat.lt_or_ge j k with h | h
            · exact HE.out j h
            · obtain rfl : j = k := by omega
              exact HX.out⟩
          case measure => simp [intOf]; omega
        · have hne : (l[k]?.getD 0 != r[k]?.getD 0) = true := by simpa using hx
          have HX := Lib.hid hx; clear hx
          go_wp2
          go_quiet (fail)
          go_wp2
          go_ret
          refine ⟨ret_bool ?_, _, World.drewN_drewN _ _ _⟩
          have := HX.out
          simp; intro h; rw [h] at this; exact this rfl
      · obtain rfl : k = n := by omega
        go_wp2
        go_ret
        refine ⟨ret_bool ?_, _, rfl⟩
        have h1 := H1.out
        have k1 := K1.out
        simp
        exact getD_ext l r (by omega) (fun i hi => HE.out i (by omega))
  · have hb : ((n : Int) != (m : Int)) = true := by simp; omega
    have hne : l ≠ r := fun h => by rw [h] at h1; omega
    have HN := Lib.hid hne; clear hne h1 k1 h4 k4
    go_enter Tryz.func143, Tryz.ntmps143
    go_wp2
    go_ret
    exact ⟨ret_bool (by simp; exact HN.out), 0, rfl⟩
set_option maxRecDepth 100000 in
set_option maxHeartbeats 2000000 in
theorem index_any (a : Option Addr) (n c : Nat) (l : List Int) (x : Int) (w : World) (hr : Row w .i64 a n c l) : Calls Tryz.prog 40 #[.slice a n c, .int .i64 x] w fun e w' => (∃ r : Int, e = .returned (.int .i64 r) ∧ decide (r ≥ 0) = decide (x ∈ l)) ∧ ∃ k, w' = w.drewN k := by
  obtain ⟨h1, h2, h3, h4⟩ := hr
  unfold maxLen at h3
  have H1 := Lib.hid h1; clear h1
  have H4 := Lib.hid h4; clear h4
  go_enter Tryz.func40, Tryz.ntmps40
  go_wp2
  go_loopw [8] (fun i wr => ∃ k nq : Nat, k ≤ n ∧ i = .int .i64 k ∧ wr = w.drewN nq ∧ ∀ j, j < k → l[j]?.getD 0 ≠ x)
    (fun i _ => n - (intOf i).toNat)
  case atStart => exact ⟨0, 0, Nat.zero_le _, rfl, rfl, fun j hj => by omega⟩
  case round =>
    obtain ⟨k, nq, hk, rfl, rfl, heq⟩ := hrel
    have HE := Lib.hid heq; clear heq
    by_cases hlt : k < n
    · rcases H4.out with h0 | ⟨p, o, rfl, hc⟩
      · exact absurd h0 (by omega)
      have c1 := hc k hlt
      have hm : l[k]?.getD 0 ∈ l := by
        have := H1.out
        rw [List.getElem?_eq_getElem (by omega)]
        exact List.getElem_mem _
      clear hc
      by_cases hx : l[k]?.getD 0 = x
      · rw [hx] at c1 hm
        have hne : (x == x) = true := by simp
        have HM := Lib.hid hm
        clear hx hm
        go_wp2
        go_ret
        exact ⟨⟨_, rfl, by rw [decide_eq_true HM.out]; simp⟩, _, rfl⟩
      · have HX := Lib.hid hx
        generalize l[k]?.getD 0 = y at c1 hx
        have hne : (x == y) = false := by simpa using fun h => hx h.symm
        clear hx hm
        go_wp2
        go_roundw
        case rel => exact ⟨k + 1, _, by omega, by go_num, rfl, fun j hj => by
          rcases Nat.lt_or_ge j k with h | h
          · exact HE.out j h
          · obtain rfl : j = k := by omega
            exact HX.out⟩
        case measure => simp [intOf]; omega
    · obtain rfl : k = n := by omega
      go_wp2
      go_ret
      refine ⟨⟨_, rfl, ?_⟩, _, rfl⟩
      have hno : ¬ x ∈ l := fun hm => by
        obtain ⟨i, hi⟩ := List.mem_iff_getElem?.1 hm
        have h1 := H1.out
        exact HE.out i (by have := (List.getElem?_eq_some_iff.1 hi).1; omega) (by rw [hi]; rfl)
      rw [decide_eq_false hno]; rfl
set_option maxRecDepth 100000 in
set_option maxHeartbeats 2000000 in
theorem contains_any (a : Option Addr) (n c : Nat) (l : List Int) (x : Int) (w : World) (hr : Row w .i64 a n c l) : Calls Tryz.prog 139 #[.slice a n c, .int .i64 x] w fun e w' => e = .returned (.bool (decide (x ∈ l))) ∧ ∃ k, w' = w.drewN k := by
  have hI := index_any a n c l x w hr
  go_enter Tryz.func139, Tryz.ntmps139
  go_wp2_with (go_at_call 40; (with_reducible refine hI.mono ?_); rintro e w1 ⟨⟨r, rfl, hd⟩, k, rfl⟩)
  go_ret
  exact ⟨ret_bool (by first | rfl | exact hd), _, rfl⟩
set_option maxRecDepth 100000 in
set_option maxHeartbeats 4000000 in
theorem col_any (x : Sc.Ver) (sa : Option Addr) (sc : Nat) (ca : Option Addr) (cc : Nat) (nm : ByteArray) (w : World) (hin : ∀ c ∈ x.cols, c < x.slots.length) (hnm : nm.size ≤ maxLen) (hv : VerAt w x sa sc ca cc) :
    Calls Tryz.prog 70 #[.agg #[.slice sa x.slots.length sc, .slice ca x.cols.length cc], .string nm] w fun e w' => e = .returned (.int .i64 (Sc.colI x nm)) ∧ Below w.heap.size w w' := by
  obtain ⟨slots, cols⟩ := x
  obtain ⟨⟨hs1, hs2, hs3⟩, hr1, hr2, hr3, hr4⟩ := hv
  simp only at hin hs1 hs3 hr2 hr4 ⊢
  unfold maxLen at hs2 hr3
  obtain ⟨G, hG⟩ : ∃ G, Sc.colI ⟨slots, cols⟩ nm = G := ⟨_, rfl⟩
  rw [hG]
  have HGG := Lib.hid hG
  clear hG
  have HS := Lib.hid hs3; have HR := Lib.hid hr4; have HIN := Lib.hid hin
  clear hs3 hr4 hin
  have hB0 := (Below.refl _ w).alloc (Nat.le_refl _) (.cells #[.slice sa slots.length sc, .slice ca cols.length cc] 67)
  have x0 : World.cell? (w.alloc (.cells #[.slice sa slots.length sc, .slice ca cols.length cc] 67)) ⟨w.heap.size, 0, none⟩ = some (.slice sa slots.length sc) := by simp
  have x1 : World.cell? (w.alloc (.cells #[.slice sa slots.length sc, .slice ca cols.length cc] 67)) ⟨w.heap.size, 1, none⟩ = some (.slice ca cols.length cc) := by simp
  go_enter Tryz.func70, Tryz.ntmps70
  go_wp2
  obtain ⟨W1, hW1⟩ : ∃ W1, w.alloc (.cells #[.slice sa slots.length sc, .slice ca cols.length cc] 67) = W1 := ⟨_, rfl⟩
  obtain ⟨b, hb⟩ : ∃ b, w.heap.size = b := ⟨_, rfl⟩
  have HB0 := Lib.hid hB0
  rw [hW1] at x0 x1 HB0 ⊢
  rw [hb] at x0 x1 ⊢
  clear hB0 hW1 hb
  go_loopw [10] (fun i wr => ∃ q nq : Nat, q ≤ cols.length ∧ i = .int .i64 (q : Int) ∧ wr = W1.drewN nq ∧ ∀ j c, j < q → cols[j]? = some c → Sc.eqN (Sc.slotOf ⟨slots, cols⟩ c).nm nm = false) (fun i _ => cols.length - (intOf i).toNat)
  case atStart => exact ⟨0, 0, Nat.zero_le _, rfl, rfl, fun j c h => by omega⟩
  case round =>
    obtain ⟨q, nq, hq, rfl, rfl, hno⟩ := hrel
    have HNO := Lib.hid hno
    clear hno
    rcases Nat.lt_or_ge q cols.length with hlt | hge
    · have hd : decide ((q : Int) < (cols.length : Int)) = true := by simp; omega
      obtain ⟨c, hc⟩ : ∃ c, cols[q]? = some c := ⟨cols[q], List.getElem?_eq_getElem hlt⟩
      have hcl := HIN.out c (List.mem_of_getElem? hc)
      obtain ⟨cb, co, rfl, hcol⟩ : ∃ b off, ca = some ⟨b, off, none⟩ ∧ ∀ i, i < cols.length → w.cell? ⟨b, off + i, none⟩ = some (.int .i64 ((cols.map Int.ofNat)[i]?.getD 0)) := by
        rcases HR.out with h | h
        · exact absurd h (by omega)
        · exact h
      obtain ⟨sb, so, rfl, hrow⟩ : ∃ b off, sa = some ⟨b, off, none⟩ ∧ ∀ i s, slots[i]? = some s → SlotAt w b (off + i * 7) s := by
        rcases HS.out with h | h
        · subst h; simp at hcl
        · exact h
      obtain ⟨s, hs⟩ : ∃ s, slots[c]? = some s := ⟨slots[c], List.getElem?_eq_getElem hcl⟩
      obtain ⟨k, n, t, a, len, cap, ⟨g0, _⟩, _⟩ := slotAt_form (hrow c s hs)
      have e1 := cell_below HB0.out (hcol q hlt)
      have e2 := cell_below HB0.out g0
      rw [List.getElem?_map, hc] at e1
      simp only [Option.map_some, Option.getD_some, Int.ofNat_eq_natCast] at e1
      have hso : Sc.slotOf ⟨slots, cols⟩ c = s := by unfold Sc.slotOf; simp [hs]
      have HC := Lib.hid hc; have HSO := Lib.hid hso
      clear hc hcol hrow hs g0 hso
      have d0 : decide ((c : Int) ≥ 0) = true := by simp
      have d1 : decide ((c : Int) < (slots.length : Int)) = true := by simp; omega
      obtain ⟨B, hB⟩ : ∃ B, Sc.eqN s.nm nm = B := ⟨_, rfl⟩
      have heq : (s.nm.toList == nm.toList) = B := by
        rw [← hB]
        unfold Sc.eqN
        rw [Bool.eq_iff_iff, beq_iff_eq, decide_eq_true_eq, toList_data, toList_data]
      have HB := Lib.hid hB
      clear hB
      cases B with
      | true =>
        have hans : Sc.colI ⟨slots, cols⟩ nm = (c : Int) := by
          unfold Sc.colI Sc.col
          rw [Sc.find_at _ cols q c (fun j y hj hy => HNO.out j y hj hy) HC.out (by rw [HSO.out, HB.out])]
        have HANS := Lib.hid hans
        clear hans
        go_wp2
        go_ret
        exact ⟨ret_int (HANS.out.symm.trans HGG.out), below_drewN HB0.out _⟩
      | false =>
        go_wp2
        go_roundw
        case rel => exact ⟨q + 1, _, by omega, by go_num, rfl, fun j y hj hy => by
          rcases Nat.lt_or_ge j q with h | h
          · exact HNO.out j y h hy
          · obtain rfl : j = q := by omega
            rw [HC.out] at hy
            cases hy
            rw [HSO.out, HB.out]⟩
        case measure => simp [intOf]; omega
    · obtain rfl : q = cols.length := by omega
      have hd : decide ((cols.length : Int) < (cols.length : Int)) = false := by simp
      have hans : Sc.colI ⟨slots, cols⟩ nm = -1 := by
        unfold Sc.colI Sc.col
        rw [Sc.find_no _ cols (fun j y hy => HNO.out j y ((List.getElem?_eq_some_iff.1 hy).1) hy)]
      have HANS := Lib.hid hans
      clear hans
      go_wp2
      go_ret
      exact ⟨ret_int (HANS.out.symm.trans HGG.out), below_drewN HB0.out _⟩
end Go.Proofs.YtibjjclfonpibaaGreat
