/- The document's example of templates: alive, over the program's contracts. -/
import Derived.Test.YtbkmhigbplgpmaaMg30Rec
import Derived.Test.YtbkmhigbplgpmaaMg18Rec
import Derived.Test.YtbkmhigbplgpmaaSchemaFitsq
set_option linter.unusedVariables false
set_option linter.unusedSimpArgs false
set_option maxRecDepth 100000
namespace Go.Proofs.Ytbkmhigbplgpmaa
open Go.RowKit Go.Shelf
def cS : SlotM := ⟨⟨#[99]⟩, 5, false, Sc.nilV⟩
def tv1 : Sc.Ver := ⟨twoT.slots, [0, 1]⟩
def tv2 : Sc.Ver := ⟨twoT.slots, [1]⟩
def tv3 : Sc.Ver := ⟨twoT.slots ++ [cS], [1, 2]⟩
theorem two_vers : Sc.vers twoT = some [tv1, tv2, tv3] := by kernel_rfl
theorem two_great : greatT twoT = false := by decide +kernel
theorem two_col : Sc.colI tv3 ⟨#[99]⟩ = 2 := by decide +kernel
theorem two_fit : Sc.fits 4 (intV 5) = true := by decide +kernel
theorem two_unfit : Sc.fits 4 Sc.nilV = false := by decide +kernel
/-- .. a version that there is not; a column's number -/
def AtNC : Prop := ∀ (t : TemplM) (L : List Sc.Ver) (v : Nat) (w : World) (X : Value), greatT t = false → Sc.vers t = some L → L.length < v → v ≤ 1000 → IsTempl w t X → Calls Try.prog 37 #[X, .int .i64 (v : Int)] w fun e w' =>
  (∃ sa n sc ca m cc, e = .returned (.tuple #[.agg #[.slice sa n sc, .slice ca m cc], .bool false])) ∧ Below w.heap.size w w'
def ColC : Prop := ∀ (x : Sc.Ver) (sa : Option Addr) (sc : Nat) (ca : Option Addr) (cc : Nat) (nm : ByteArray) (w : World), (∀ c ∈ x.cols, c < x.slots.length) → nm.size ≤ maxLen → VerAt w x sa sc ca cc → Calls Try.prog 43 #[.agg #[.slice sa x.slots.length sc, .slice ca x.cols.length cc], .string nm] w fun e w' =>
  e = .returned (.int .i64 (Sc.colI x nm)) ∧ Below w.heap.size w w'
theorem two_form {w : World} {X : Value} (h : IsTempl w twoT X) : ∃ gs go sc ta tc, X = .agg #[.string ⟨#[116]⟩, .slice (some ⟨gs, go, none⟩) 2 sc, .slice ta 2 tc] ∧ 2 ≤ sc ∧ sc ≤ maxLen ∧
    (w.cell? ⟨gs, go, none⟩ = some (.string ⟨#[97]⟩) ∧ w.cell? ⟨gs, go + 1, none⟩ = some (.int .i64 4) ∧ w.cell? ⟨gs, go + 2, none⟩ = some (.bool false) ∧ w.cell? ⟨gs, go + 3, none⟩ = some (.int .i64 2) ∧ w.cell? ⟨gs, go + 4, none⟩ = some (.int .i64 0) ∧ w.cell? ⟨gs, go + 5, none⟩ = some (.string ⟨#[]⟩)) ∧
    ∃ a cap, w.cell? ⟨gs, go + 6, none⟩ = some (.slice a 0 cap) ∧ IsSlot w ⟨⟨#[97]⟩, 4, false, intV 0⟩ (.agg #[.string ⟨#[97]⟩, .int .i64 4, .bool false, .int .i64 2, .int .i64 0, .string ⟨#[]⟩, .slice a 0 cap]) := by
  obtain ⟨_, sa, sc, ta, tc, rfl, ⟨h1, h2, h3⟩, _⟩ := h
  rcases h3 with h3 | ⟨gs, go, rfl, h3⟩
  · simp [twoT] at h3
  · obtain ⟨c0, c1, c2, c3, c4, c5, c6, ⟨g0, g1, g2, g3, g4, g5, g6⟩, k1, k2, rfl, rfl, rfl, hi⟩ := h3 0 _ rfl
    rw [Nat.zero_mul, Nat.add_zero] at g0 g1 g2 g3 g4 g5 g6
    have hi' := hi
    unfold intV Is at hi
    obtain ⟨_, _, _, a, cap, e, _⟩ := hi
    simp only [Value.agg.injEq, Array.mk.injEq, List.cons.injEq, and_true] at e
    obtain ⟨rfl, rfl, rfl, rfl⟩ := e
    exact ⟨gs, go, sc, ta, tc, rfl, h1, h2, ⟨g0, g1, g2, g3, g4, g5⟩, a, cap, g6, _, _, _, _, _, _, _, rfl, k1, k2, rfl, rfl, rfl, hi'⟩
theorem int5_is (W : World) : Is W (intV 5) (.agg #[.int .i64 2, .int .i64 5, .string ⟨#[]⟩, .slice none 0 0]) := by
  unfold intV Is
  exact ⟨by unfold I64; omega, by unfold I64; omega, Nat.zero_le _, none, 0, rfl, Nat.le_refl _, Nat.zero_le _, .inl rfl⟩
/-- a block of ints -/
def BkI (W : World) (B : Nat) (l : List Int) : Prop := W.heap[B]? = some (.cells (l.map (Value.int .i64)).toArray 3 (0, 0))
theorem bkI_row {W : World} {B : Nat} {l : List Int} (h : BkI W B l) (hl : l.length ≤ maxLen := by decide) : Row W .i64 (some ⟨B, 0, none⟩) l.length l.length l := by
  refine ⟨rfl, Nat.le_refl _, ?_, ?_⟩
  · exact hl
  · rcases Nat.eq_zero_or_pos l.length with h0 | h0
    · exact .inl h0
    · refine .inr ⟨B, 0, rfl, fun i hi => ?_⟩
      unfold BkI at h
      simp only [World.cell?, h, Nat.zero_add]
      simp [List.getElem?_eq_getElem hi]
theorem bk1 (w : World) : BkI (w.alloc (.cells #[.int .i64 1] 3)) w.heap.size [1] := World.alloc_heap_new w _
theorem bk2 (w : World) : BkI (w.alloc (.cells #[.int .i64 1, .int .i64 2] 3)) w.heap.size [1, 2] := World.alloc_heap_new w _
theorem keepA {b1 b2 b4 gs go sc : Nat} {ta ca2 sa3 ca3 a9 : Option Addr} {tc cc2 sc3 cc3 c9 : Nat} {W0 W W' : World} (h : ((((W.cell? ⟨b1, 0, none⟩ = some (.string ⟨#[116]⟩) ∧ W.cell? ⟨b1, 1, none⟩ = some (.slice (some ⟨gs, go, none⟩) 2 sc)) ∧ (W.cell? ⟨b1, 2, none⟩ = some (.slice ta 2 tc) ∧ W.cell? ⟨b2, 1, none⟩ = some (.slice ca2 1 cc2))) ∧ ((W.cell? ⟨b4, 0, none⟩ = some (.slice sa3 3 sc3) ∧ W.cell? ⟨b4, 1, none⟩ = some (.slice ca3 2 cc3)) ∧ (W.cell? ⟨gs, go, none⟩ = some (.string ⟨#[97]⟩) ∧ W.cell? ⟨gs, go + 1, none⟩ = some (.int .i64 4)))) ∧ (((W.cell? ⟨gs, go + 2, none⟩ = some (.bool false) ∧ W.cell? ⟨gs, go + 3, none⟩ = some (.int .i64 2)) ∧ (W.cell? ⟨gs, go + 4, none⟩ = some (.int .i64 0) ∧ W.cell? ⟨gs, go + 5, none⟩ = some (.string ⟨#[]⟩))) ∧ W.cell? ⟨gs, go + 6, none⟩ = some (.slice a9 0 c9))) ∧ Below W0.heap.size W0 W) (hb : Below W.heap.size W W') : ((((W'.cell? ⟨b1, 0, none⟩ = some (.string ⟨#[116]⟩) ∧ W'.cell? ⟨b1, 1, none⟩ = some (.slice (some ⟨gs, go, none⟩) 2 sc)) ∧ (W'.cell? ⟨b1, 2, none⟩ = some (.slice ta 2 tc) ∧ W'.cell? ⟨b2, 1, none⟩ = some (.slice ca2 1 cc2))) ∧ ((W'.cell? ⟨b4, 0, none⟩ = some (.slice sa3 3 sc3) ∧ W'.cell? ⟨b4, 1, none⟩ = some (.slice ca3 2 cc3)) ∧ (W'.cell? ⟨gs, go, none⟩ = some (.string ⟨#[97]⟩) ∧ W'.cell? ⟨gs, go + 1, none⟩ = some (.int .i64 4)))) ∧ (((W'.cell? ⟨gs, go + 2, none⟩ = some (.bool false) ∧ W'.cell? ⟨gs, go + 3, none⟩ = some (.int .i64 2)) ∧ (W'.cell? ⟨gs, go + 4, none⟩ = some (.int .i64 0) ∧ W'.cell? ⟨gs, go + 5, none⟩ = some (.string ⟨#[]⟩))) ∧ W'.cell? ⟨gs, go + 6, none⟩ = some (.slice a9 0 c9))) ∧ Below W0.heap.size W0 W' := by
  obtain ⟨⟨⟨⟨⟨q0, q1⟩, q2, q3⟩, ⟨q4, q5⟩, q6, q7⟩, ⟨⟨q8, q9⟩, q10, q11⟩, q12⟩, hB⟩ := h
  exact ⟨⟨⟨⟨⟨cell_below hb q0, cell_below hb q1⟩, cell_below hb q2, cell_below hb q3⟩, ⟨cell_below hb q4, cell_below hb q5⟩, cell_below hb q6, cell_below hb q7⟩, ⟨⟨cell_below hb q8, cell_below hb q9⟩, cell_below hb q10, cell_below hb q11⟩, cell_below hb q12⟩, hB.trans (hb.mono hB.size)⟩
theorem keepAB {b1 b2 b4 gs go sc : Nat} {ta ca2 sa3 ca3 a9 : Option Addr} {tc cc2 sc3 cc3 c9 : Nat} {W0 W : World} (h : ((((W.cell? ⟨b1, 0, none⟩ = some (.string ⟨#[116]⟩) ∧ W.cell? ⟨b1, 1, none⟩ = some (.slice (some ⟨gs, go, none⟩) 2 sc)) ∧ (W.cell? ⟨b1, 2, none⟩ = some (.slice ta 2 tc) ∧ W.cell? ⟨b2, 1, none⟩ = some (.slice ca2 1 cc2))) ∧ ((W.cell? ⟨b4, 0, none⟩ = some (.slice sa3 3 sc3) ∧ W.cell? ⟨b4, 1, none⟩ = some (.slice ca3 2 cc3)) ∧ (W.cell? ⟨gs, go, none⟩ = some (.string ⟨#[97]⟩) ∧ W.cell? ⟨gs, go + 1, none⟩ = some (.int .i64 4)))) ∧ (((W.cell? ⟨gs, go + 2, none⟩ = some (.bool false) ∧ W.cell? ⟨gs, go + 3, none⟩ = some (.int .i64 2)) ∧ (W.cell? ⟨gs, go + 4, none⟩ = some (.int .i64 0) ∧ W.cell? ⟨gs, go + 5, none⟩ = some (.string ⟨#[]⟩))) ∧ W.cell? ⟨gs, go + 6, none⟩ = some (.slice a9 0 c9))) ∧ Below W0.heap.size W0 W) : Below W0.heap.size W0 W := h.2
end Go.Proofs.Ytbkmhigbplgpmaa
