/- The program's schema: Col, and rows of numbers (slices.Equal, Index, Contains). -/
import Derived.Test.YtibjjclfonpibaaGreatMh12Reco
import Derived.Test.YtibjjclfonpibaaGreatMh11Reco
set_option linter.unusedVariables false
set_option linter.unusedSimpArgs false
namespace Go.Proofs.YtibjjclfonpibaaGreat
open Go.RowKit Go.Shelf
theorem row_nth {W : World} {a : Option Addr} {n c : Nat} {l : List Int} (h : Row W .i64 a n c l) (i : Nat) (hi : i < n) : ∃ b off, a = some ⟨b, off, none⟩ ∧ W.cell? ⟨b, off + i, none⟩ = some (.int .i64 (l[i]?.getD 0)) := by
  obtain ⟨h1, h2, h3, h4⟩ := h
  rcases h4 with h4 | ⟨b, off, rfl, hc⟩
  · omega
  · exact ⟨b, off, rfl, by have := hc i (by omega); simpa [List.getElem?_eq_getElem (show i < l.length by omega)] using this⟩
set_option maxRecDepth 100000 in
set_option maxHeartbeats 2000000 in
theorem equalI_any (a b : Option Addr) (n m c d : Nat) (l r : List Int) (w : World) (hl : Row w .i64 a n c l) (hr : Row w .i64 b m d r) :
    Calls Tryz.prog 143 #[.slice a n c, .slice b m d] w (RBytes l r w) := by
  obtain ⟨h1, h2, h3, h4⟩ := hl
  obtain ⟨k1, k2, k3, k4⟩ := hr
  unfold maxLen at h3 k3
  by_cases hnm : n = m
  · subst hnm
    have hb : ((n : Int) != (n : Int)) = false := by simp
    have H1 := Lib.hid h1; clear h1
    have K1 := Lib.hid k1; clear k1
    have H4 := Lib.hid h4; clear h4
    have K4 := Lib.hid k4; clear k4
    go_enter Tryz.func143, Tryz.ntmps143
    go_wp2
    go_loopw [13] (fun i wr => ∃ k nq : Nat, k ≤ n ∧ i = .int .i64 k ∧ wr = w.drewN nq ∧ ∀ j, j < k → l[j]?.getD 0 = r[j]?.getD 0)
      (fun i _ => n - (intOf i).toNat)
    case atStart => exact ⟨0, 0, Nat.zero_le _, rfl, rfl, fun j hj => by omega⟩
    case round =>
      obtain ⟨k, nq, hk, rfl, rfl, heq⟩ := hrel
      have HE := Lib.hid heq; clear heq
      by_cases hlt : k < n
      · rcases H4.out with h0 | ⟨p, o, rfl, hc⟩
        · exact absurd h0 (by omega)
        rcases K4.out with h0 | ⟨p', o', rfl, hc'⟩
        · exact absurd h0 (by omega)
        have c1 := hc k hlt
        have c2 := hc' k hlt
        clear hc hc'
        by_cases hx : l[k]?.getD 0 = r[k]?.getD 0
        · have HX := Lib.hid hx
          rw [hx] at c1
          generalize r[k]?.getD 0 = x at c1 c2
          clear hx
          have hne : (x != x) = false := by simp
          go_wp2
          go_quiet (fail)
          go_wp2
          go_roundw
          case rel => exact ⟨k + 1, _, by omega, by go_num, rfl, fun j hj => by
            rcases Nat.lt_or_ge j k with h | h
            · exact HE.out j h
            · obtain rfl : j = k := by omega
              exact HX.out⟩
          case measure => simp [intOf]; omega
        · have hne : (l[k]?.getD 0 != r[k]?.getD 0) = true := by simpa using hx
          have HX := Lib.hid hx; clear hx
          go_wp2
          go_quiet (fail)
          go_wp2
          go_ret
          refine ⟨ret_bool ?_, _, World.drewN_drewN _ _ _⟩
          have := HX.out
          simp; intro h; rw [h] at this; exact this rfl
      · obtain rfl : k = n := by omega
        go_wp2
        go_ret
        refine ⟨ret_bool ?_, _, rfl⟩
        have h1 := H1.out
        have k1 := K1.out
        simp
        exact getD_ext l r (by omega) (fun i hi => HE.out i (by omega))
  · have hb : ((n : Int) != (m : Int)) = true := by simp; omega
    have hne : l ≠ r := fun h => by rw [h] at h1; omega
    have HN := Lib.hid hne; clear hne h1 k1 h4 k4
    go_enter Tryz.func143, Tryz.ntmps143
    go_wp2
    go_ret
    exact ⟨ret_bool (by simp; exact HN.out), 0, rfl⟩
set_option maxRecDepth 100000 in
set_option maxHeartbeats 2000000 in
theorem index_any (a : Option Addr) (n c : Nat) (l : List Int) (x : Int) (w : World) (hr : Row w .i64 a n c l) : Calls Tryz.prog 40 #[.slice a n c, .int .i64 x] w fun e w' => (∃ r : Int, e = .returned (.int .i64 r) ∧ decide (r ≥ 0) = decide (x ∈ l)) ∧ ∃ k, w' = w.drewN k := by
  obtain ⟨h1, h2, h3, h4⟩ := hr
  unfold maxLen at h3
  have H1 := Lib.hid h1; clear h1
  have H4 := Lib.hid h4; clear h4
  go_enter Tryz.func40, Tryz.ntmps40
  go_wp2
  go_loopw [8] (fun i wr => ∃ k nq : Nat, k ≤ n ∧ i = .int .i64 k ∧ wr = w.drewN nq ∧ ∀ j, j < k → l[j]?.getD 0 ≠ x)
    (fun i _ => n - (intOf i).toNat)
  case atStart => exact ⟨0, 0, Nat.zero_le _, rfl, rfl, fun j hj => by omega⟩
  case round =>
    obtain ⟨k, nq, hk, rfl, rfl, heq⟩ := hrel
    have HE := Lib.hid heq; clear heq
    by_cases hlt : k < n
    · rcases H4.out with h0 | ⟨p, o, rfl, hc⟩
      · exact absurd h0 (by omega)
      have c1 := hc k hlt
      have hm : l[k]?.getD 0 ∈ l := by
        have := H1.out
        rw [List.getElem?_eq_getElem (by omega)]
        exact List.getElem_mem _
      clear hc
      by_cases hx : l[k]?.getD 0 = x
      · rw [hx] at c1 hm
        have hne : (x == x) = true := by simp
        have HM := Lib.hid hm
        clear hx hm
        go_wp2
        go_ret
        exact ⟨⟨_, rfl, by rw [decide_eq_true HM.out]; simp⟩, _, rfl⟩
      · have HX := Lib.hid hx
        generalize l[k]?.getD 0 = y at c1 hx
        have hne : (x == y) = false := by simpa using fun h => hx h.symm
        clear hx hm
        go_wp2
        go_roundw
        case rel => exact ⟨k + 1, _, by omega, by go_num, rfl, fun j hj => by
          rcases Nat.lt_or_ge j k with h | h
          · exact HE.out j h
          · obtain rfl : j = k := by omega
            exact HX.out⟩
        case measure => simp [intOf]; omega
    · obtain rfl : k = n := by omega
      go_wp2
      go_ret
      refine ⟨⟨_, rfl, ?_⟩, _, rfl⟩
      have hno : ¬ x ∈ l := fun hm => by
        obtain ⟨i, hi⟩ := List.mem_iff_getElem?.1 hm
        have h1 := H1.out
        exact HE.out i (by have := (List.getElem?_eq_some_iff.1 hi).1; omega) (by rw [hi]; rfl)
      rw [decide_eq_false hno]; rfl
set_option maxRecDepth 100000 in
set_option maxHeartbeats 2000000 in
theorem contains_any (a : Option Addr) (n c : Nat) (l : List Int) (x : Int) (w : World) (hr : Row w .i64 a n c l) : Calls Tryz.prog 139 #[.slice a n c, .int .i64 x] w fun e w' => e = .returned (.bool (decide (x ∈ l))) ∧ ∃ k, w' = w.drewN k := by
  have hI := index_any a n c l x w hr
  go_enter Tryz.func139, Tryz.ntmps139
  go_wp2_with (go_at_call 40; (with_reducible refine hI.mono ?_); rintro e w1 ⟨⟨r, rfl, hd⟩, k, rfl⟩)
  go_ret
  exact ⟨ret_bool (by first | rfl | exact hd), _, rfl⟩
set_option maxRecDepth 100000 in
set_option maxHeartbeats 4000000 in
theorem col_any (x : Sc.Ver) (sa : Option Addr) (sc : Nat) (ca : Option Addr) (cc : Nat) (nm : ByteArray) (w : World) (hin : ∀ c ∈ x.cols, c < x.slots.length) (hnm : nm.size ≤ maxLen) (hv : VerAt w x sa sc ca cc) :
    Calls Tryz.prog 70 #[.agg #[.slice sa x.slots.length sc, .slice ca x.cols.length cc], .string nm] w fun e w' => e = .returned (.int .i64 (Sc.colI x nm)) ∧ Below w.heap.size w w' := by
  obtain ⟨slots, cols⟩ := x
  obtain ⟨⟨hs1, hs2, hs3⟩, hr1, hr2, hr3, hr4⟩ := hv
  simp only at hin hs1 hs3 hr2 hr4 ⊢
  unfold maxLen at hs2 hr3
  obtain ⟨G, hG⟩ : ∃ G, Sc.colI ⟨slots, cols⟩ nm = G := ⟨_, rfl⟩
  rw [hG]
  have HGG := Lib.hid hG
  clear hG
  have HS := Lib.hid hs3; have HR := Lib.hid hr4; have HIN := Lib.hid hin
  clear hs3 hr4 hin
  have hB0 := (Below.refl _ w).alloc (Nat.le_refl _) (.cells #[.slice sa slots.length sc, .slice ca cols.length cc] 67)
  have x0 : World.cell? (w.alloc (.cells #[.slice sa slots.length sc, .slice ca cols.length cc] 67)) ⟨w.heap.size, 0, none⟩ = some (.slice sa slots.length sc) := by simp
  have x1 : World.cell? (w.alloc (.cells #[.slice sa slots.length sc, .slice ca cols.length cc] 67)) ⟨w.heap.size, 1, none⟩ = some (.slice ca cols.length cc) := by simp
  go_enter Tryz.func70, Tryz.ntmps70
  go_wp2
  obtain ⟨W1, hW1⟩ : ∃ W1, w.alloc (.cells #[.slice sa slots.length sc, .slice ca cols.length cc] 67) = W1 := ⟨_, rfl⟩
  obtain ⟨b, hb⟩ : ∃ b, w.heap.size = b := ⟨_, rfl⟩
  have HB0 := Lib.hid hB0
  rw [hW1] at x0 x1 HB0 ⊢
  rw [hb] at x0 x1 ⊢
  clear hB0 hW1 hb
  go_loopw [10] (fun i wr => ∃ q nq : Nat, q ≤ cols.length ∧ i = .int .i64 (q : Int) ∧ wr = W1.drewN nq ∧ ∀ j c, j < q → cols[j]? = some c → Sc.eqN (Sc.slotOf ⟨slots, cols⟩ c).nm nm = false) (fun i _ => cols.length - (intOf i).toNat)
  case atStart => exact ⟨0, 0, Nat.zero_le _, rfl, rfl, fun j c h => by omega⟩
  case round =>
    obtain ⟨q, nq, hq, rfl, rfl, hno⟩ := hrel
    have HNO := Lib.hid hno
    clear hno
    rcases Nat.lt_or_ge q cols.length with hlt | hge
    · have hd : decide ((q : Int) < (cols.length : Int)) = true := by simp; omega
      obtain ⟨c, hc⟩ : ∃ c, cols[q]? = some c := ⟨cols[q], List.getElem?_eq_getElem hlt⟩
      have hcl := HIN.out c (List.mem_of_getElem? hc)
      obtain ⟨cb, co, rfl, hcol⟩ : ∃ b off, ca = some ⟨b, off, none⟩ ∧ ∀ i, i < cols.length → w.cell? ⟨b, off + i, none⟩ = some (.int .i64 ((cols.map Int.ofNat)[i]?.getD 0)) := by
        rcases HR.out with h | h
        · exact absurd h (by omega)
        · exact h
      obtain ⟨sb, so, rfl, hrow⟩ : ∃ b off, sa = some ⟨b, off, none⟩ ∧ ∀ i s, slots[i]? = some s → SlotAt w b (off + i * 7) s := by
        rcases HS.out with h | h
        · subst h; simp at hcl
        · exact h
      obtain ⟨s, hs⟩ : ∃ s, slots[c]? = some s := ⟨slots[c], List.getElem?_eq_getElem hcl⟩
      obtain ⟨k, n, t, a, len, cap, ⟨g0, _⟩, _⟩ := slotAt_form (hrow c s hs)
      have e1 := cell_below HB0.out (hcol q hlt)
      have e2 := cell_below HB0.out g0
      rw [List.getElem?_map, hc] at e1
      simp only [Option.map_some, Option.getD_some, Int.ofNat_eq_natCast] at e1
      have hso : Sc.slotOf ⟨slots, cols⟩ c = s := by unfold Sc.slotOf; simp [hs]
      have HC := Lib.hid hc; have HSO := Lib.hid hso
      clear hc hcol hrow hs g0 hso
      have d0 : decide ((c : Int) ≥ 0) = true := by simp
      have d1 : decide ((c : Int) < (slots.length : Int)) = true := by simp; omega
      obtain ⟨B, hB⟩ : ∃ B, Sc.eqN s.nm nm = B := ⟨_, rfl⟩
      have heq : (s.nm.toList == nm.toList) = B := by
        rw [← hB]
        unfold Sc.eqN
        rw [Bool.eq_iff_iff, beq_iff_eq, decide_eq_true_eq, toList_data, toList_data]
      have HB := Lib.hid hB
      clear hB
      cases B with
      | true =>
        have hans : Sc.colI ⟨slots, cols⟩ nm = (c : Int) := by
          unfold Sc.colI Sc.col
          rw [Sc.find_at _ cols q c (fun j y hj hy => HNO.out j y hj hy) HC.out (by rw [HSO.out, HB.out])]
        have HANS := Lib.hid hans
        clear hans
        go_wp2
        go_ret
        exact ⟨ret_int (HANS.out.symm.trans HGG.out), below_drewN HB0.out _⟩
      | false =>
        go_wp2
        go_roundw
        case rel => exact ⟨q + 1, _, by omega, by go_num, rfl, fun j y hj hy => by
          rcases Nat.lt_or_ge j q with h | h
          · exact HNO.out j y h hy
          · obtain rfl : j = q := by omega
            rw [HC.out] at hy
            cases hy
            rw [HSO.out, HB.out]⟩
        case measure => simp [intOf]; omega
    · obtain rfl : q = cols.length := by omega
      have hd : decide ((cols.length : Int) < (cols.length : Int)) = false := by simp
      have hans : Sc.colI ⟨slots, cols⟩ nm = -1 := by
        unfold Sc.colI Sc.col
        rw [Sc.find_no _ cols (fun j y hy => HNO.out j y ((List.getElem?_eq_some_iff.1 hy).1) hy)]
      have HANS := Lib.hid hans
      clear hans
      go_wp2
      go_ret
      exact ⟨ret_int (HANS.out.symm.trans HGG.out), below_drewN HB0.out _⟩
end Go.Proofs.YtibjjclfonpibaaGreat

/- The program's records: slices.Index of numbers and of texts (their first place), Contains, IndexFunc and ContainsFunc. -/
set_option linter.unusedVariables false
set_option linter.unusedSimpArgs false
set_option maxRecDepth 100000
namespace Go.Proofs.YtibjjclfonpibaaGreat
open Go.RowKit Go.Shelf
/-- texts in a row -/
def NRow (w : World) (a : Option Addr) (cap : Nat) (l : List ByteArray) : Prop := l.length ≤ cap ∧ cap ≤ maxLen ∧ (l = [] ∨ ∃ b off, a = some ⟨b, off, none⟩ ∧ ∀ (i : Nat) (s : ByteArray), l[i]? = some s → w.cell? ⟨b, off + i, none⟩ = some (.string s))
theorem nRow_below {w w' : World} (hb : Below w.heap.size w w') {a : Option Addr} {cap : Nat} {l : List ByteArray} (h : NRow w a cap l) : NRow w' a cap l :=
  ⟨h.1, h.2.1, h.2.2.imp id fun ⟨b, off, ha, hc⟩ => ⟨b, off, ha, fun i s hi => cell_below hb (hc i s hi)⟩⟩
namespace Rc
def ixN (l : List ByteArray) (nm : ByteArray) : Option Nat := l.findIdx? fun x => Sc.eqN nm x
def ixJ (o : Option Nat) : Int := match o with
  | none => -1
  | some i => i
theorem ixJ_ge (o : Option Nat) : decide (ixJ o ≥ 0) = o.isSome := by
  cases o with
  | none => rfl
  | some i => simp [ixJ]
theorem find_first {α : Type} {p : α → Bool} {l : List α} {q : Nat} {x : α} (hx : l[q]? = some x) (hp : p x = true) (hno : ∀ j y, j < q → l[j]? = some y → p y = false) : l.findIdx? p = some q := by
  rw [List.findIdx?_eq_some_iff_getElem]
  obtain ⟨hl, he⟩ := List.getElem?_eq_some_iff.1 hx
  refine ⟨hl, by rw [he]; exact hp, fun j hj => ?_⟩
  rw [hno j _ hj (List.getElem?_eq_getElem (by omega))]
  simp
theorem find_never {α : Type} {p : α → Bool} {l : List α} (hno : ∀ j y, j < l.length → l[j]? = some y → p y = false) : l.findIdx? p = none := by
  rw [List.findIdx?_eq_none_iff]
  intro x hx
  obtain ⟨i, hi⟩ := List.mem_iff_getElem?.1 hx
  exact hno i x (List.getElem?_eq_some_iff.1 hi).1 hi
end Rc
set_option maxHeartbeats 2000000 in
theorem indexI_any (a : Option Addr) (cap : Nat) (l : List Nat) (x : Nat) (w : World) (hr : Row w .i64 a l.length cap (l.map Int.ofNat)) :
    Calls Tryz.prog 40 #[.slice a l.length cap, .int .i64 (x : Int)] w fun e w' => e = .returned (.int .i64 (Rc.ixJ (Rc.ix l x))) ∧ ∃ k, w' = w.drewN k := by
  have hcap : cap ≤ maxLen := hr.2.2.1
  have hlc := hr.2.1
  obtain ⟨n, hn⟩ : ∃ n, l.length = n := ⟨_, rfl⟩
  obtain ⟨R, hR⟩ : ∃ R, Rc.ixJ (Rc.ix l x) = R := ⟨_, rfl⟩
  have HR := Lib.hid hr; have HN := Lib.hid hn; have HRR := Lib.hid hR
  rw [hn] at hlc ⊢
  rw [hR]
  unfold maxLen at hcap
  clear hr hn hR
  go_enter Tryz.func40, Tryz.ntmps40
  go_wp2
  go_loopw [8] (fun i wr => ∃ k nq : Nat, k ≤ n ∧ i = .int .i64 k ∧ wr = w.drewN nq ∧ Hid (∀ j y, j < k → l[j]? = some y → decide (y = x) = false)) (fun i _ => n - (intOf i).toNat)
  case atStart => exact ⟨0, 0, Nat.zero_le _, rfl, rfl, Lib.hid (fun j y hj => by omega)⟩
  case round =>
    obtain ⟨k, nq, hk, rfl, rfl, HE⟩ := hrel
    by_cases hlt : k < n
    · have hnl := HN.out
      obtain ⟨y, hy⟩ : ∃ y, l[k]? = some y := ⟨l[k], List.getElem?_eq_getElem (by omega)⟩
      obtain ⟨p, o, rfl, c1⟩ := row_nth HR.out k (by omega)
      have e0 : (l.map Int.ofNat)[k]?.getD 0 = (y : Int) := by rw [List.getElem?_map, hy]; rfl
      rw [e0] at c1
      have HY := Lib.hid hy
      by_cases hx : y = x
      · subst hx
        have hne : ((y : Int) == (y : Int)) = true := by simp
        have hans : (k : Int) = R := by
          rw [← HRR.out]
          unfold Rc.ix
          rw [Rc.find_first hy (by simp) (fun j z hj hz => HE.out j z hj hz)]
          rfl
        have HA := Lib.hid hans
        clear hy e0 hnl hans
        go_wp2
        go_ret
        exact ⟨ret_int HA.out, _, rfl⟩
      · have hne : ((x : Int) == (y : Int)) = false := by
          simp only [beq_eq_false_iff_ne, ne_eq]
          omega
        have HX := Lib.hid hx
        clear hx hy e0 hnl
        go_wp2
        go_roundw
        case rel => exact ⟨k + 1, _, by omega, by go_num, rfl, Lib.hid (fun j z hj hz => by
          rcases Nat.lt_or_ge j k with h | h
          · exact HE.out j z h hz
          · obtain rfl : j = k := by omega
            rw [HY.out] at hz
            cases hz
            exact decide_eq_false HX.out)⟩
        case measure => simp [intOf]; omega
    · obtain rfl : k = n := by omega
      have hans : (-1 : Int) = R := by
        rw [← HRR.out]
        unfold Rc.ix
        rw [Rc.find_never (fun j z hj hz => HE.out j z (by have := HN.out; omega) hz)]
        rfl
      have HA := Lib.hid hans
      clear hans
      go_wp2
      go_ret
      exact ⟨ret_int HA.out, _, rfl⟩
set_option maxHeartbeats 2000000 in
theorem indexN_any (a : Option Addr) (cap : Nat) (l : List ByteArray) (nm : ByteArray) (w : World) (hr : NRow w a cap l) (hnm : nm.size ≤ maxLen) :
    Calls Tryz.prog 47 #[.slice a l.length cap, .string nm] w fun e w' => e = .returned (.int .i64 (Rc.ixJ (Rc.ixN l nm))) ∧ ∃ k, w' = w.drewN k := by
  have hcap : cap ≤ maxLen := hr.2.1
  have hlc := hr.1
  obtain ⟨n, hn⟩ : ∃ n, l.length = n := ⟨_, rfl⟩
  obtain ⟨R, hR⟩ : ∃ R, Rc.ixJ (Rc.ixN l nm) = R := ⟨_, rfl⟩
  have HR := Lib.hid hr; have HN := Lib.hid hn; have HRR := Lib.hid hR
  rw [hn] at hlc ⊢
  rw [hR]
  unfold maxLen at hcap hnm
  clear hr hn hR
  go_enter Tryz.func47, Tryz.ntmps47
  go_wp2
  go_loopw [8] (fun i wr => ∃ k nq : Nat, k ≤ n ∧ i = .int .i64 k ∧ wr = w.drewN nq ∧ Hid (∀ j y, j < k → l[j]? = some y → Sc.eqN nm y = false)) (fun i _ => n - (intOf i).toNat)
  case atStart => exact ⟨0, 0, Nat.zero_le _, rfl, rfl, Lib.hid (fun j y hj => by omega)⟩
  case round =>
    obtain ⟨k, nq, hk, rfl, rfl, HE⟩ := hrel
    by_cases hlt : k < n
    · have hnl := HN.out
      obtain ⟨y, hy⟩ : ∃ y, l[k]? = some y := ⟨l[k], List.getElem?_eq_getElem (by omega)⟩
      obtain ⟨p, o, rfl, hrow⟩ : ∃ b off, a = some ⟨b, off, none⟩ ∧ ∀ (i : Nat) (s : ByteArray), l[i]? = some s → w.cell? ⟨b, off + i, none⟩ = some (.string s) := by
        rcases HR.out.2.2 with h | h
        · subst h; simp at hnl; omega
        · exact h
      have c1 := hrow k y hy
      have HY := Lib.hid hy
      obtain ⟨B, hB⟩ : ∃ B, Sc.eqN nm y = B := ⟨_, rfl⟩
      have heq : (nm.toList == y.toList) = B := by
        rw [← hB]
        unfold Sc.eqN
        rw [Bool.eq_iff_iff, beq_iff_eq, decide_eq_true_eq, toList_data, toList_data]
      have HB := Lib.hid hB
      clear hB hrow
      cases B with
      | true =>
        have hans : (k : Int) = R := by
          rw [← HRR.out]
          unfold Rc.ixN
          rw [Rc.find_first hy HB.out (fun j z hj hz => HE.out j z hj hz)]
          rfl
        have HA := Lib.hid hans
        clear hy hnl hans
        go_wp2
        go_ret
        exact ⟨ret_int HA.out, _, rfl⟩
      | false =>
        clear hy hnl
        go_wp2
        go_roundw
        case rel => exact ⟨k + 1, _, by omega, by go_num, rfl, Lib.hid (fun j z hj hz => by
          rcases Nat.lt_or_ge j k with h | h
          · exact HE.out j z h hz
          · obtain rfl : j = k := by omega
            rw [HY.out] at hz
            cases hz
            exact HB.out)⟩
        case measure => simp [intOf]; omega
    · obtain rfl : k = n := by omega
      have hans : (-1 : Int) = R := by
        rw [← HRR.out]
        unfold Rc.ixN
        rw [Rc.find_never (fun j z hj hz => HE.out j z (by have := HN.out; omega) hz)]
        rfl
      have HA := Lib.hid hans
      clear hans
      go_wp2
      go_ret
      exact ⟨ret_int HA.out, _, rfl⟩
theorem containsN_any (a : Option Addr) (cap : Nat) (l : List ByteArray) (nm : ByteArray) (w : World) (hr : NRow w a cap l) (hnm : nm.size ≤ maxLen) :
    Calls Tryz.prog 71 #[.slice a l.length cap, .string nm] w fun e w' => e = .returned (.bool (Rc.ixN l nm).isSome) ∧ ∃ k, w' = w.drewN k := by
  have hI := indexN_any a cap l nm w hr hnm
  have hg := Rc.ixJ_ge (Rc.ixN l nm)
  obtain ⟨R, hR⟩ : ∃ R, Rc.ixJ (Rc.ixN l nm) = R := ⟨_, rfl⟩
  rw [hR] at hI hg
  rw [← hg]
  have H := Lib.hid hI
  clear hI hg hR
  go_enter Tryz.func71, Tryz.ntmps71
  go_wp2_with (go_at_call 47; (with_reducible refine H.out.mono ?_); rintro e w1 ⟨rfl, k, rfl⟩)
  go_ret
  exact ⟨ret_bool (by first | rfl | simp), _, rfl⟩
set_option maxHeartbeats 2000000 in
/-- slices.IndexFunc of numbers, of whatever test that reads, and may make memory -/
theorem indexFunc_any (a : Option Addr) (cap : Nat) (l : List Nat) (p : Nat → Bool) (gf : Nat) (lb : Array Value) (w : World) (hr : Row w .i64 a l.length cap (l.map Int.ofNat))
    (eg : ∀ args w, (callFunc gf args).run Tryz.prog w = .ok (.enter gf args) w)
    (hG : ∀ (i c : Nat) (W : World), l[i]? = some c → Below w.heap.size w W → Calls Tryz.prog gf (#[.int .i64 (c : Int)] ++ lb) W fun e w' => e = .returned (.bool (p c)) ∧ Below W.heap.size W w') :
    Calls Tryz.prog 87 #[.slice a l.length cap, .func (.func gf) #[] lb] w fun e w' => e = .returned (.int .i64 (Rc.ixJ (l.findIdx? p))) ∧ Below w.heap.size w w' := by
  have hcap : cap ≤ maxLen := hr.2.2.1
  have hlc := hr.2.1
  obtain ⟨n, hn⟩ : ∃ n, l.length = n := ⟨_, rfl⟩
  obtain ⟨R, hR⟩ : ∃ R, Rc.ixJ (l.findIdx? p) = R := ⟨_, rfl⟩
  have HR := Lib.hid hr; have HN := Lib.hid hn; have HRR := Lib.hid hR; have HG := Lib.hid hG
  rw [hn] at hlc ⊢
  rw [hR]
  unfold maxLen at hcap
  clear hr hn hR hG
  go_enter Tryz.func87, Tryz.ntmps87
  go_wp2
  go_loopw [8] (fun i wr => ∃ k : Nat, k ≤ n ∧ i = .int .i64 k ∧ Below w.heap.size w wr ∧ Hid (∀ j y, j < k → l[j]? = some y → p y = false)) (fun i _ => n - (intOf i).toNat)
  case atStart => exact ⟨0, Nat.zero_le _, rfl, Below.refl _ _, Lib.hid (fun j y hj => by omega)⟩
  case round =>
    obtain ⟨k, hk, rfl, hbw, HE⟩ := hrel
    by_cases hlt : k < n
    · have hnl := HN.out
      obtain ⟨y, hy⟩ : ∃ y, l[k]? = some y := ⟨l[k], List.getElem?_eq_getElem (by omega)⟩
      obtain ⟨pb, o, rfl, c1⟩ := row_nth HR.out k (by omega)
      have e0 : (l.map Int.ofNat)[k]?.getD 0 = (y : Int) := by rw [List.getElem?_map, hy]; rfl
      rw [e0] at c1
      have c2 := cell_below hbw c1
      have hX := HG.out k y _ hy hbw.drew
      obtain ⟨B, hB⟩ : ∃ B, p y = B := ⟨_, rfl⟩
      rw [hB] at hX
      have hX0 := HG.out k y _ hy hbw
      rw [hB] at hX0
      have HX := Lib.hid hX; have HX0 := Lib.hid hX0; have HB := Lib.hid hB; have HY := Lib.hid hy
      clear hX hX0 hB c1 e0 hnl
      cases B with
      | true =>
        have hans : (k : Int) = R := by
          rw [← HRR.out, Rc.find_first hy HB.out (fun j z hj hz => HE.out j z hj hz)]
          rfl
        have HA := Lib.hid hans
        clear hy hans
        go_wp2_with (go_at_fn gf; (first | with_reducible refine (HX0.out).mono ?_ | with_reducible refine (HX.out).mono ?_); rintro e w1 ⟨rfl, hB1⟩)
        go_ret
        exact ⟨ret_int HA.out, hbw.trans (hB1.mono hbw.size)⟩
      | false =>
        clear hy
        go_wp2_with (go_at_fn gf; (first | with_reducible refine (HX0.out).mono ?_ | with_reducible refine (HX.out).mono ?_); rintro e w1 ⟨rfl, hB1⟩)
        go_roundw
        case rel => exact ⟨k + 1, by omega, by go_num, hbw.trans (hB1.mono hbw.size), Lib.hid (fun j z hj hz => by
          rcases Nat.lt_or_ge j k with h | h
          · exact HE.out j z h hz
          · obtain rfl : j = k := by omega
            rw [HY.out] at hz
            cases hz
            exact HB.out)⟩
        case measure => simp [intOf]; omega
    · obtain rfl : k = n := by omega
      have hans : (-1 : Int) = R := by
        rw [← HRR.out, Rc.find_never (fun j z hj hz => HE.out j z (by have := HN.out; omega) hz)]
        rfl
      have HA := Lib.hid hans
      clear hans
      go_wp2
      go_ret
      exact ⟨ret_int HA.out, hbw⟩
theorem containsFunc_any (a : Option Addr) (cap : Nat) (l : List Nat) (p : Nat → Bool) (gf : Nat) (lb : Array Value) (w : World) (hr : Row w .i64 a l.length cap (l.map Int.ofNat))
    (eg : ∀ args w, (callFunc gf args).run Tryz.prog w = .ok (.enter gf args) w)
    (hG : ∀ (i c : Nat) (W : World), l[i]? = some c → Below w.heap.size w W → Calls Tryz.prog gf (#[.int .i64 (c : Int)] ++ lb) W fun e w' => e = .returned (.bool (p c)) ∧ Below W.heap.size W w') :
    Calls Tryz.prog 72 #[.slice a l.length cap, .func (.func gf) #[] lb] w fun e w' => e = .returned (.bool (l.findIdx? p).isSome) ∧ Below w.heap.size w w' := by
  have hI := indexFunc_any a cap l p gf lb w hr eg hG
  have hg := Rc.ixJ_ge (l.findIdx? p)
  obtain ⟨R, hR⟩ : ∃ R, Rc.ixJ (l.findIdx? p) = R := ⟨_, rfl⟩
  rw [hR] at hI hg
  rw [← hg]
  have H := Lib.hid hI
  clear hI hg hR hG hr
  go_enter Tryz.func72, Tryz.ntmps72
  go_wp2_with (go_at_call 87; (with_reducible refine H.out.mono ?_); rintro e w1 ⟨rfl, hB1⟩)
  go_ret
  exact ⟨ret_bool (by first | rfl | simp), hB1⟩
end Go.Proofs.YtibjjclfonpibaaGreat
