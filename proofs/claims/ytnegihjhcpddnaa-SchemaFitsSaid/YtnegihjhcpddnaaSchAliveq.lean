/- The document's example of templates: alive, over the program's contracts. -/
import Derived.Test.YtnegihjhcpddnaaSchTwoq
import Derived.Test.YtnegihjhcpddnaaSchemaFirstq
import Derived.Test.YtnegihjhcpddnaaSchemaFitsq
set_option linter.unusedVariables false
set_option linter.unusedSimpArgs false
set_option maxRecDepth 100000
namespace Go.Proofs.Ytnegihjhcpddnaa
open Go.RowKit Go.Shelf
def cS : SlotM := ⟨⟨#[99]⟩, 5, false, Sc.nilV⟩
def tv1 : Sc.Ver := ⟨twoT.slots, [0, 1]⟩
def tv2 : Sc.Ver := ⟨twoT.slots, [1]⟩
def tv3 : Sc.Ver := ⟨twoT.slots ++ [cS], [1, 2]⟩
theorem two_vers : Sc.vers twoT = some [tv1, tv2, tv3] := by kernel_rfl
theorem two_great : greatT twoT = false := by decide +kernel
theorem two_col : Sc.colI tv3 ⟨#[99]⟩ = 2 := by decide +kernel
theorem two_fit : Sc.fits 4 (intV 5) = true := by decide +kernel
theorem two_unfit : Sc.fits 4 Sc.nilV = false := by decide +kernel
/-- .. a version that there is not; a column's number -/
def AtNC : Prop := ∀ (t : TemplM) (L : List Sc.Ver) (v : Nat) (w : World) (X : Value), greatT t = false → Sc.vers t = some L → L.length < v → v ≤ 1000 → IsTempl w t X → Calls Try.prog 12 #[X, .int .i64 (v : Int)] w fun e w' =>
  (∃ sa n sc ca m cc, e = .returned (.tuple #[.agg #[.slice sa n sc, .slice ca m cc], .bool false])) ∧ Below w.heap.size w w'
def ColC : Prop := ∀ (x : Sc.Ver) (sa : Option Addr) (sc : Nat) (ca : Option Addr) (cc : Nat) (nm : ByteArray) (w : World), (∀ c ∈ x.cols, c < x.slots.length) → nm.size ≤ maxLen → VerAt w x sa sc ca cc → Calls Try.prog 16 #[.agg #[.slice sa x.slots.length sc, .slice ca x.cols.length cc], .string nm] w fun e w' =>
  e = .returned (.int .i64 (Sc.colI x nm)) ∧ Below w.heap.size w w'
theorem two_form {w : World} {X : Value} (h : IsTempl w twoT X) : ∃ gs go sc ta tc, X = .agg #[.string ⟨#[116]⟩, .slice (some ⟨gs, go, none⟩) 2 sc, .slice ta 2 tc] ∧ 2 ≤ sc ∧ sc ≤ maxLen ∧
    (w.cell? ⟨gs, go, none⟩ = some (.string ⟨#[97]⟩) ∧ w.cell? ⟨gs, go + 1, none⟩ = some (.int .i64 4) ∧ w.cell? ⟨gs, go + 2, none⟩ = some (.bool false) ∧ w.cell? ⟨gs, go + 3, none⟩ = some (.int .i64 2) ∧ w.cell? ⟨gs, go + 4, none⟩ = some (.int .i64 0) ∧ w.cell? ⟨gs, go + 5, none⟩ = some (.string ⟨#[]⟩)) ∧
    ∃ a cap, w.cell? ⟨gs, go + 6, none⟩ = some (.slice a 0 cap) ∧ IsSlot w ⟨⟨#[97]⟩, 4, false, intV 0⟩ (.agg #[.string ⟨#[97]⟩, .int .i64 4, .bool false, .int .i64 2, .int .i64 0, .string ⟨#[]⟩, .slice a 0 cap]) := by
  obtain ⟨_, sa, sc, ta, tc, rfl, ⟨h1, h2, h3⟩, _⟩ := h
  rcases h3 with h3 | ⟨gs, go, rfl, h3⟩
  · simp [twoT] at h3
  · obtain ⟨c0, c1, c2, c3, c4, c5, c6, ⟨g0, g1, g2, g3, g4, g5, g6⟩, k1, k2, rfl, rfl, rfl, hi⟩ := h3 0 _ rfl
    rw [Nat.zero_mul, Nat.add_zero] at g0 g1 g2 g3 g4 g5 g6
    have hi' := hi
    unfold intV Is at hi
    obtain ⟨_, _, _, a, cap, e, _⟩ := hi
    simp only [Value.agg.injEq, Array.mk.injEq, List.cons.injEq, and_true] at e
    obtain ⟨rfl, rfl, rfl, rfl⟩ := e
    exact ⟨gs, go, sc, ta, tc, rfl, h1, h2, ⟨g0, g1, g2, g3, g4, g5⟩, a, cap, g6, _, _, _, _, _, _, _, rfl, k1, k2, rfl, rfl, rfl, hi'⟩
theorem int5_is (W : World) : Is W (intV 5) (.agg #[.int .i64 2, .int .i64 5, .string ⟨#[]⟩, .slice none 0 0]) := by
  unfold intV Is
  exact ⟨by unfold I64; omega, by unfold I64; omega, Nat.zero_le _, none, 0, rfl, Nat.le_refl _, Nat.zero_le _, .inl rfl⟩
/-- a block of ints -/
def BkI (W : World) (B : Nat) (l : List Int) : Prop := W.heap[B]? = some (.cells (l.map (Value.int .i64)).toArray 3 (0, 0))
theorem bkI_row {W : World} {B : Nat} {l : List Int} (h : BkI W B l) (hl : l.length ≤ maxLen := by decide) : Row W .i64 (some ⟨B, 0, none⟩) l.length l.length l := by
  refine ⟨rfl, Nat.le_refl _, ?_, ?_⟩
  · exact hl
  · rcases Nat.eq_zero_or_pos l.length with h0 | h0
    · exact .inl h0
    · refine .inr ⟨B, 0, rfl, fun i hi => ?_⟩
      unfold BkI at h
      simp only [World.cell?, h, Nat.zero_add]
      simp [List.getElem?_eq_getElem hi]
theorem bk1 (w : World) : BkI (w.alloc (.cells #[.int .i64 1] 3)) w.heap.size [1] := World.alloc_heap_new w _
theorem bk2 (w : World) : BkI (w.alloc (.cells #[.int .i64 1, .int .i64 2] 3)) w.heap.size [1, 2] := World.alloc_heap_new w _
theorem keepA {b1 b2 b4 gs go sc : Nat} {ta ca2 sa3 ca3 a9 : Option Addr} {tc cc2 sc3 cc3 c9 : Nat} {W0 W W' : World} (h : ((((W.cell? ⟨b1, 0, none⟩ = some (.string ⟨#[116]⟩) ∧ W.cell? ⟨b1, 1, none⟩ = some (.slice (some ⟨gs, go, none⟩) 2 sc)) ∧ (W.cell? ⟨b1, 2, none⟩ = some (.slice ta 2 tc) ∧ W.cell? ⟨b2, 1, none⟩ = some (.slice ca2 1 cc2))) ∧ ((W.cell? ⟨b4, 0, none⟩ = some (.slice sa3 3 sc3) ∧ W.cell? ⟨b4, 1, none⟩ = some (.slice ca3 2 cc3)) ∧ (W.cell? ⟨gs, go, none⟩ = some (.string ⟨#[97]⟩) ∧ W.cell? ⟨gs, go + 1, none⟩ = some (.int .i64 4)))) ∧ (((W.cell? ⟨gs, go + 2, none⟩ = some (.bool false) ∧ W.cell? ⟨gs, go + 3, none⟩ = some (.int .i64 2)) ∧ (W.cell? ⟨gs, go + 4, none⟩ = some (.int .i64 0) ∧ W.cell? ⟨gs, go + 5, none⟩ = some (.string ⟨#[]⟩))) ∧ W.cell? ⟨gs, go + 6, none⟩ = some (.slice a9 0 c9))) ∧ Below W0.heap.size W0 W) (hb : Below W.heap.size W W') : ((((W'.cell? ⟨b1, 0, none⟩ = some (.string ⟨#[116]⟩) ∧ W'.cell? ⟨b1, 1, none⟩ = some (.slice (some ⟨gs, go, none⟩) 2 sc)) ∧ (W'.cell? ⟨b1, 2, none⟩ = some (.slice ta 2 tc) ∧ W'.cell? ⟨b2, 1, none⟩ = some (.slice ca2 1 cc2))) ∧ ((W'.cell? ⟨b4, 0, none⟩ = some (.slice sa3 3 sc3) ∧ W'.cell? ⟨b4, 1, none⟩ = some (.slice ca3 2 cc3)) ∧ (W'.cell? ⟨gs, go, none⟩ = some (.string ⟨#[97]⟩) ∧ W'.cell? ⟨gs, go + 1, none⟩ = some (.int .i64 4)))) ∧ (((W'.cell? ⟨gs, go + 2, none⟩ = some (.bool false) ∧ W'.cell? ⟨gs, go + 3, none⟩ = some (.int .i64 2)) ∧ (W'.cell? ⟨gs, go + 4, none⟩ = some (.int .i64 0) ∧ W'.cell? ⟨gs, go + 5, none⟩ = some (.string ⟨#[]⟩))) ∧ W'.cell? ⟨gs, go + 6, none⟩ = some (.slice a9 0 c9))) ∧ Below W0.heap.size W0 W' := by
  obtain ⟨⟨⟨⟨⟨q0, q1⟩, q2, q3⟩, ⟨q4, q5⟩, q6, q7⟩, ⟨⟨q8, q9⟩, q10, q11⟩, q12⟩, hB⟩ := h
  exact ⟨⟨⟨⟨⟨cell_below hb q0, cell_below hb q1⟩, cell_below hb q2, cell_below hb q3⟩, ⟨cell_below hb q4, cell_below hb q5⟩, cell_below hb q6, cell_below hb q7⟩, ⟨⟨cell_below hb q8, cell_below hb q9⟩, cell_below hb q10, cell_below hb q11⟩, cell_below hb q12⟩, hB.trans (hb.mono hB.size)⟩
theorem keepAB {b1 b2 b4 gs go sc : Nat} {ta ca2 sa3 ca3 a9 : Option Addr} {tc cc2 sc3 cc3 c9 : Nat} {W0 W : World} (h : ((((W.cell? ⟨b1, 0, none⟩ = some (.string ⟨#[116]⟩) ∧ W.cell? ⟨b1, 1, none⟩ = some (.slice (some ⟨gs, go, none⟩) 2 sc)) ∧ (W.cell? ⟨b1, 2, none⟩ = some (.slice ta 2 tc) ∧ W.cell? ⟨b2, 1, none⟩ = some (.slice ca2 1 cc2))) ∧ ((W.cell? ⟨b4, 0, none⟩ = some (.slice sa3 3 sc3) ∧ W.cell? ⟨b4, 1, none⟩ = some (.slice ca3 2 cc3)) ∧ (W.cell? ⟨gs, go, none⟩ = some (.string ⟨#[97]⟩) ∧ W.cell? ⟨gs, go + 1, none⟩ = some (.int .i64 4)))) ∧ (((W.cell? ⟨gs, go + 2, none⟩ = some (.bool false) ∧ W.cell? ⟨gs, go + 3, none⟩ = some (.int .i64 2)) ∧ (W.cell? ⟨gs, go + 4, none⟩ = some (.int .i64 0) ∧ W.cell? ⟨gs, go + 5, none⟩ = some (.string ⟨#[]⟩))) ∧ W.cell? ⟨gs, go + 6, none⟩ = some (.slice a9 0 c9))) ∧ Below W0.heap.size W0 W) : Below W0.heap.size W0 W := h.2
set_option maxRecDepth 100000 in
set_option maxHeartbeats 8000000 in
theorem aliveA (hRt : RightC) (hLa : LastC) (hAt : AtC) (hAn : AtNC) (hCo : ColC) (hFi : FitsC) (w : World) : Calls Try.prog 5 #[] w fun e w' => e = .returned (.bool true) ∧ Below w.heap.size w w' := by
  have hTw := refTwo_any w
  have o1 : ∀ X W, IsTempl W twoT X → Calls Try.prog 12 #[X, .int .i64 2] W fun e w' => (∃ sa sc ca cc, e = .returned (.tuple #[.agg #[.slice sa 2 sc, .slice ca 1 cc], .bool true]) ∧ VerAt w' tv2 sa sc ca cc) ∧ Below W.heap.size W w' := fun X W hi => hAt twoT _ 1 tv2 W X two_great two_vers rfl hi
  have o2 : ∀ X W, IsTempl W twoT X → Calls Try.prog 12 #[X, .int .i64 3] W fun e w' => (∃ sa sc ca cc, e = .returned (.tuple #[.agg #[.slice sa 3 sc, .slice ca 2 cc], .bool true]) ∧ VerAt w' tv3 sa sc ca cc) ∧ Below W.heap.size W w' := fun X W hi => hAt twoT _ 2 tv3 W X two_great two_vers rfl hi
  have o3 : ∀ X W, IsTempl W twoT X → Calls Try.prog 12 #[X, .int .i64 4] W fun e w' => (∃ sa n sc ca m cc, e = .returned (.tuple #[.agg #[.slice sa n sc, .slice ca m cc], .bool false])) ∧ Below W.heap.size W w' := fun X W hi => hAn twoT _ 4 W X two_great two_vers (by decide) (by decide) hi
  have o4 : ∀ X W, IsTempl W twoT X → Calls Try.prog 10 #[X] W fun e w' => e = .returned (.bool true) ∧ Below W.heap.size W w' := fun X W hi => by
    have := hRt twoT W X two_great hi
    rwa [two_vers] at this
  have o5 : ∀ X W, IsTempl W twoT X → Calls Try.prog 11 #[X] W fun e w' => e = .returned (.int .i64 3) ∧ Below W.heap.size W w' := fun X W hi => hLa twoT _ W X two_great two_vers hi
  have o6 : ∀ sa sc ca cc W, VerAt W tv3 sa sc ca cc → Calls Try.prog 16 #[.agg #[.slice sa 3 sc, .slice ca 2 cc], .string ⟨#[99]⟩] W fun e w' => e = .returned (.int .i64 2) ∧ Below W.heap.size W w' := fun sa sc ca cc W hv => by
    have := hCo tv3 sa sc ca cc ⟨#[99]⟩ W (by decide) (Nat.le_of_lt (by decide)) hv
    rwa [two_col] at this
  have o7 : ∀ W X Y, IsSlot W ⟨⟨#[97]⟩, 4, false, intV 0⟩ X → Is W (intV 5) Y → Calls Try.prog 7 #[X, Y] W fun e w' => e = .returned (.bool true) ∧ Below W.heap.size W w' := fun W X Y hs hv => by
    have := hFi ⟨⟨#[97]⟩, 4, false, intV 0⟩ (intV 5) W X Y (by decide) (by decide) hs hv
    rwa [two_fit] at this
  have o8 : ∀ W X Y, IsSlot W ⟨⟨#[97]⟩, 4, false, intV 0⟩ X → Is W Sc.nilV Y → Calls Try.prog 7 #[X, Y] W fun e w' => e = .returned (.bool false) ∧ Below W.heap.size W w' := fun W X Y hs hv => by
    have := hFi ⟨⟨#[97]⟩, 4, false, intV 0⟩ Sc.nilV W X Y (by decide) (by decide) hs hv
    rwa [two_unfit] at this
  have O1 := Lib.hid o1; have O2 := Lib.hid o2; have O3 := Lib.hid o3; have O4 := Lib.hid o4; have O5 := Lib.hid o5; have O6 := Lib.hid o6; have O7 := Lib.hid o7; have O8 := Lib.hid o8
  clear o1 o2 o3 o4 o5 o6 o7 o8 hRt hLa hAt hAn hCo hFi
  go_enter Try.func5, Try.ntmps5
  go_wp2_with (first
    | (go_at_call 15; (with_reducible refine hTw.mono ?_); rintro e w1 ⟨⟨X, rfl, hX⟩, hB1⟩; obtain ⟨gs, go, sc, ta, tc, rfl, hsc, hsm, ⟨g0, g1, g2, g3, g4, g5⟩, a9, c9, g6, hS0⟩ := two_form hX; have hA1 := (Below.refl _ w1).alloc (Nat.le_refl _) (.cells #[.string ⟨#[116]⟩, .slice (some ⟨gs, go, none⟩) 2 sc, .slice ta 2 tc] 33); have hX1 := isTempl_below hA1 hX; have y0 : World.cell? (w1.alloc (.cells #[.string ⟨#[116]⟩, .slice (some ⟨gs, go, none⟩) 2 sc, .slice ta 2 tc] 33)) ⟨w1.heap.size, 0, none⟩ = some (.string ⟨#[116]⟩) := (by simp); have y1 : World.cell? (w1.alloc (.cells #[.string ⟨#[116]⟩, .slice (some ⟨gs, go, none⟩) 2 sc, .slice ta 2 tc] 33)) ⟨w1.heap.size, 1, none⟩ = some (.slice (some ⟨gs, go, none⟩) 2 sc) := (by simp); have y2 : World.cell? (w1.alloc (.cells #[.string ⟨#[116]⟩, .slice (some ⟨gs, go, none⟩) 2 sc, .slice ta 2 tc] 33)) ⟨w1.heap.size, 2, none⟩ = some (.slice ta 2 tc) := (by simp))
    | (go_at_call 12; first
      | ((with_reducible refine (O1.out _ _ hX1).mono ?_); rintro e w2 ⟨⟨sa2, sc2, ca2, cc2, rfl, hV2⟩, hB2⟩; have hL2 := (Below.refl _ w2).alloc (Nat.le_refl _) (.cells #[.slice sa2 2 sc2, .slice ca2 1 cc2] 38); have hA2 := hB2.trans (hL2.mono hB2.size); have hX2 := isTempl_below hA2 hX1; have z0 := cell_below hA2 y0; have z1 := cell_below hA2 y1; have z2 := cell_below hA2 y2)
      | ((with_reducible refine (O2.out _ _ hX2).mono ?_); rintro e w3 ⟨⟨sa3, sc3, ca3, cc3, rfl, hV3⟩, hB3⟩; have hL3 := (Below.refl _ w3).alloc (Nat.le_refl _) (.cells #[.slice sa3 3 sc3, .slice ca3 2 cc3] 38); have hA3 := hB3.trans (hL3.mono hB3.size); have hX3 := isTempl_below hA3 hX2; have u0 := cell_below hA3 z0; have u1 := cell_below hA3 z1; have u2 := cell_below hA3 z2)
      | ((with_reducible refine (O3.out _ _ hX3).mono ?_); rintro e w4 ⟨⟨sa4, n4, sc4, ca4, m4, cc4, rfl⟩, hB4⟩; have hL4 := (Below.refl _ w4).alloc (Nat.le_refl _) (.cells #[.slice sa4 n4 sc4, .slice ca4 m4 cc4] 38); have hA4 := hB4.trans (hL4.mono hB4.size))))
  have hX4 := isTempl_below hA4 hX3
  have v0 := cell_below hA4 u0
  have v1 := cell_below hA4 u1
  have v2 := cell_below hA4 u2
  have p2 := cell_below hA4 (cell_below hA3 (show World.cell? (w2.alloc (.cells #[.slice sa2 2 sc2, .slice ca2 1 cc2] 38)) ⟨w2.heap.size, 1, none⟩ = some (.slice ca2 1 cc2) by simp))
  have p3 := cell_below hA4 (show World.cell? (w3.alloc (.cells #[.slice sa3 3 sc3, .slice ca3 2 cc3] 38)) ⟨w3.heap.size, 0, none⟩ = some (.slice sa3 3 sc3) by simp)
  have p4 := cell_below hA4 (show World.cell? (w3.alloc (.cells #[.slice sa3 3 sc3, .slice ca3 2 cc3] 38)) ⟨w3.heap.size, 1, none⟩ = some (.slice ca3 2 cc3) by simp)
  have hV2' := row_below (row_below hV2.2 (hL2.trans (hA3.mono hL2.size)) rfl) hA4 rfl
  have hV3' : VerAt _ tv3 sa3 sc3 ca3 cc3 := ⟨slotRow_below (hL3.trans (hA4.mono hL3.size)) hV3.1, row_below hV3.2 (hL3.trans (hA4.mono hL3.size)) rfl⟩
  have h14 := hA1.trans ((hA2.trans ((hA3.trans (hA4.mono hA3.size)).mono hA2.size)).mono hA1.size)
  have q0 := cell_below h14 g0
  have q1 := cell_below h14 g1
  have q2 := cell_below h14 g2
  have q3 := cell_below h14 g3
  have q4 := cell_below h14 g4
  have q5 := cell_below h14 g5
  have q6 := cell_below h14 g6
  have hS4 := isSlot_below h14 hS0
  have hw4 := hB1.trans (h14.mono hB1.size)
  obtain ⟨W0, hW0⟩ : ∃ W0, w4.alloc (.cells #[.slice sa4 n4 sc4, .slice ca4 m4 cc4] 38) = W0 := ⟨_, rfl⟩
  rw [hW0] at hX4 v0 v1 v2 p2 p3 p4 hV2' hV3' q0 q1 q2 q3 q4 q5 q6 hS4 hw4 ⊢
  obtain ⟨b1, hb1⟩ : ∃ b, w1.heap.size = b := ⟨_, rfl⟩
  obtain ⟨b2, hb2⟩ : ∃ b, w2.heap.size = b := ⟨_, rfl⟩
  obtain ⟨b4, hb4⟩ : ∃ b, w3.heap.size = b := ⟨_, rfl⟩
  rw [hb1] at v0 v1 v2 ⊢
  rw [hb2] at p2 ⊢
  rw [hb4] at p3 p4 ⊢
  have hbase : ((((W0.cell? ⟨b1, 0, none⟩ = some (.string ⟨#[116]⟩) ∧ W0.cell? ⟨b1, 1, none⟩ = some (.slice (some ⟨gs, go, none⟩) 2 sc)) ∧ (W0.cell? ⟨b1, 2, none⟩ = some (.slice ta 2 tc) ∧ W0.cell? ⟨b2, 1, none⟩ = some (.slice ca2 1 cc2))) ∧ ((W0.cell? ⟨b4, 0, none⟩ = some (.slice sa3 3 sc3) ∧ W0.cell? ⟨b4, 1, none⟩ = some (.slice ca3 2 cc3)) ∧ (W0.cell? ⟨gs, go, none⟩ = some (.string ⟨#[97]⟩) ∧ W0.cell? ⟨gs, go + 1, none⟩ = some (.int .i64 4)))) ∧ (((W0.cell? ⟨gs, go + 2, none⟩ = some (.bool false) ∧ W0.cell? ⟨gs, go + 3, none⟩ = some (.int .i64 2)) ∧ (W0.cell? ⟨gs, go + 4, none⟩ = some (.int .i64 0) ∧ W0.cell? ⟨gs, go + 5, none⟩ = some (.string ⟨#[]⟩))) ∧ W0.cell? ⟨gs, go + 6, none⟩ = some (.slice a9 0 c9))) ∧ Below W0.heap.size W0 W0 := ⟨⟨⟨⟨⟨v0, v1⟩, v2, p2⟩, ⟨p3, p4⟩, q0, q1⟩, ⟨⟨q2, q3⟩, q4, q5⟩, q6⟩, Below.refl _ _⟩
  have R4 : ∀ W, Below W0.heap.size W0 W → Calls Try.prog 10 #[.agg #[.string ⟨#[116]⟩, .slice (some ⟨gs, go, none⟩) 2 sc, .slice ta 2 tc]] W fun e w' => e = .returned (.bool true) ∧ Below W.heap.size W w' := fun W hb => O4.out _ W (isTempl_below hb hX4)
  have R5 : ∀ W, Below W0.heap.size W0 W → Calls Try.prog 11 #[.agg #[.string ⟨#[116]⟩, .slice (some ⟨gs, go, none⟩) 2 sc, .slice ta 2 tc]] W fun e w' => e = .returned (.int .i64 3) ∧ Below W.heap.size W w' := fun W hb => O5.out _ W (isTempl_below hb hX4)
  have R6 : ∀ W, Below W0.heap.size W0 W → Calls Try.prog 16 #[.agg #[.slice sa3 3 sc3, .slice ca3 2 cc3], .string ⟨#[99]⟩] W fun e w' => e = .returned (.int .i64 2) ∧ Below W.heap.size W w' := fun W hb => O6.out _ _ _ _ W ⟨slotRow_below hb hV3'.1, row_below hV3'.2 hb rfl⟩
  have R7 : ∀ W, Below W0.heap.size W0 W → Calls Try.prog 7 #[.agg #[.string ⟨#[97]⟩, .int .i64 4, .bool false, .int .i64 2, .int .i64 0, .string ⟨#[]⟩, .slice a9 0 c9], .agg #[.int .i64 2, .int .i64 5, .string ⟨#[]⟩, .slice none 0 0]] W fun e w' => e = .returned (.bool true) ∧ Below W.heap.size W w' := fun W hb => O7.out W _ _ (isSlot_below hb hS4) (int5_is W)
  have R8 : ∀ W, Below W0.heap.size W0 W → Calls Try.prog 7 #[.agg #[.string ⟨#[97]⟩, .int .i64 4, .bool false, .int .i64 2, .int .i64 0, .string ⟨#[]⟩, .slice a9 0 c9], .agg #[.int .i64 0, .int .i64 0, .string ⟨#[]⟩, .slice none 0 0]] W fun e w' => e = .returned (.bool false) ∧ Below W.heap.size W w' := fun W hb => O8.out W _ _ (isSlot_below hb hS4) (nil_is W)
  have R9 : ∀ W B, Below W0.heap.size W0 W → BkI W B [1] → Calls Try.prog 14 #[.slice ca2 1 cc2, .slice (some ⟨B, 0, none⟩) 1 1] W fun e w' => e = .returned (.bool true) ∧ Below W.heap.size W w' := fun W B hb hk => (refInts_any _ _ _ _ _ _ _ _ W (row_below hV2' hb rfl) (bkI_row hk)).mono fun e w' h => by
    obtain ⟨h1, n, h2⟩ := h
    exact ⟨by rw [h1]; rfl, by rw [h2]; exact below_drewN (Below.refl _ _) n⟩
  have R10 : ∀ W B, Below W0.heap.size W0 W → BkI W B [1, 2] → Calls Try.prog 14 #[.slice ca3 2 cc3, .slice (some ⟨B, 0, none⟩) 2 2] W fun e w' => e = .returned (.bool true) ∧ Below W.heap.size W w' := fun W B hb hk => (refInts_any _ _ _ _ _ _ _ _ W (row_below hV3'.2 hb rfl) (bkI_row hk)).mono fun e w' h => by
    obtain ⟨h1, n, h2⟩ := h
    exact ⟨by rw [h1]; rfl, by rw [h2]; exact below_drewN (Below.refl _ _) n⟩
  have H4 := Lib.hid R4; have H5 := Lib.hid R5; have H6 := Lib.hid R6; have H7 := Lib.hid R7; have H8 := Lib.hid R8; have H9 := Lib.hid R9; have H10 := Lib.hid R10
  have HI5 := Lib.hid (fun W => refInt03_any 5 W)
  clear R4 R5 R6 R7 R8 R9 R10 O1 O2 O3 O4 O5 O6 O7 O8 hW0 hb1 hb2 hb4 h14 hV2 hV3 hA4 hB4 hX3 u0 u1 u2 hL3 hL4 hA3 hB3 z0 z1 z2 hX2 hL2 hA2 hB2 y0 y1 y2 hX1 hA1 hS0 g0 g1 g2 g3 g4 g5 g6 hX hB1 hTw hX4 hV2' hV3' hS4 v0 v1 v2 p2 p3 p4 q0 q1 q2 q3 q4 q5 q6
  have n2 : (0 : Int) < 2 := by omega
  go_region_held3 (fun W => ((((W.cell? ⟨b1, 0, none⟩ = some (.string ⟨#[116]⟩) ∧ W.cell? ⟨b1, 1, none⟩ = some (.slice (some ⟨gs, go, none⟩) 2 sc)) ∧ (W.cell? ⟨b1, 2, none⟩ = some (.slice ta 2 tc) ∧ W.cell? ⟨b2, 1, none⟩ = some (.slice ca2 1 cc2))) ∧ ((W.cell? ⟨b4, 0, none⟩ = some (.slice sa3 3 sc3) ∧ W.cell? ⟨b4, 1, none⟩ = some (.slice ca3 2 cc3)) ∧ (W.cell? ⟨gs, go, none⟩ = some (.string ⟨#[97]⟩) ∧ W.cell? ⟨gs, go + 1, none⟩ = some (.int .i64 4)))) ∧ (((W.cell? ⟨gs, go + 2, none⟩ = some (.bool false) ∧ W.cell? ⟨gs, go + 3, none⟩ = some (.int .i64 2)) ∧ (W.cell? ⟨gs, go + 4, none⟩ = some (.int .i64 0) ∧ W.cell? ⟨gs, go + 5, none⟩ = some (.string ⟨#[]⟩))) ∧ W.cell? ⟨gs, go + 6, none⟩ = some (.slice a9 0 c9))) ∧ Below W0.heap.size W0 W) (first | assumption | exact keepA (by assumption) hb9 | exact keepA hbase (below_drew _) | exact keepA (by assumption) ((Below.refl _ _).alloc (Nat.le_refl _) _) | exact keepA (by assumption) (below_drewN (Below.refl _ _) _)) (first
    | (go_at_call 10; (with_reducible refine (H4.out _ (keepAB (by assumption))).mono ?_); rintro e w' ⟨rfl, hb9⟩)
    | (go_at_call 11; (with_reducible refine (H5.out _ (keepAB (by assumption))).mono ?_); rintro e w' ⟨rfl, hb9⟩)
    | (go_at_call 16; (with_reducible refine (H6.out _ (keepAB (by assumption))).mono ?_); rintro e w' ⟨rfl, hb9⟩)
    | (go_at_call 17; (with_reducible refine (HI5.out _).mono ?_); rintro e w' ⟨rfl, hb9⟩)
    | (go_at_call 7; (first | with_reducible refine (H7.out _ (keepAB (by assumption))).mono ?_ | with_reducible refine (H8.out _ (keepAB (by assumption))).mono ?_); rintro e w' ⟨rfl, hb9⟩)
    | (go_at_call 14; (first | with_reducible refine (H9.out _ _ (keepAB (by assumption)) (bk1 _)).mono ?_ | with_reducible refine (H10.out _ _ (keepAB (by assumption)) (bk2 _)).mono ?_); rintro e w' ⟨rfl, hb9⟩))
  all_goals (
    go_wp2_with fail
    go_ret
    exact ⟨rfl, hw4.trans ((keepAB (by assumption)).mono hw4.size)⟩)
end Go.Proofs.Ytnegihjhcpddnaa
