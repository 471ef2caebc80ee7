/- Layer 7: what the statements ask first (alive). -/
import Derived.Test.YtiflnciapboccaaDoorTokAll
import Derived.Test.YtiflnciapboccaaDoorTokQuote
import Derived.Test.YtiflnciapboccaaDoorTokEx
import Derived.Test.YtiflnciapboccaaDoorUtfRef
import Derived.Deep.RegionHeldLaw
set_option linter.unusedVariables false
namespace Go.Proofs.YtiflnciapboccaaDoor
open Go.RowKit Go.Shelf
abbrev exL : List Int := [240, 159, 152, 128]
def bw (W : World) : World := Lib.bytesWorld W 5 (strOfNums exL)
theorem bw_run (W : World) : (convert 9 41 (.string (strOfNums exL))).run Tryd.prog W = .ok (.slice (some ⟨W.heap.size, 0, none⟩) 4 (grownCap W 4 0 5)) (bw W) :=
  Lib.run_convert_string_bytes W 9 41 5 (strOfNums exL) Tryd.underlying9 Tryd.underlying41 Tryd.underlying5
theorem bw_facts (W : World) : Row (bw W) .u8 (some ⟨W.heap.size, 0, none⟩) 4 (grownCap W 4 0 5) exL ∧ Below W.heap.size W (bw W) := by
  obtain ⟨cap, w', h1, h2, h3⟩ := conv_bytes W (strOfNums exL) (by unfold maxLen; decide)
  rw [bw_run] at h1
  injection h1 with h4 h5
  injection h4 with _ _ h6
  subst h5 h6
  exact ⟨h2, h3⟩
theorem cell_keep {W W' : World} {b o : Nat} {v : Value} (hb : Below W.heap.size W W') (h : W.cell? ⟨b, o, none⟩ = some v) : W'.cell? ⟨b, o, none⟩ = some v :=
  (hb.cell (p := ⟨b, o, none⟩) (cell_lt h)).trans h
theorem keepT {g : Nat} {c0 c1 c2 c3 c4 d0 d3 : Value} {W0 W W' : World}
    (h : (((W.cell? ⟨g, 0, none⟩ = some c0 ∧ W.cell? ⟨g, 1, none⟩ = some c1) ∧ (W.cell? ⟨g, 2, none⟩ = some c2 ∧ W.cell? ⟨g, 3, none⟩ = some c3)) ∧ (W.cell? ⟨g, 4, none⟩ = some c4 ∧ (W.cell? ⟨g, 10, none⟩ = some d0 ∧ W.cell? ⟨g, 13, none⟩ = some d3))) ∧ Below W0.heap.size W0 W) (hb : Below W.heap.size W W') :
    (((W'.cell? ⟨g, 0, none⟩ = some c0 ∧ W'.cell? ⟨g, 1, none⟩ = some c1) ∧ (W'.cell? ⟨g, 2, none⟩ = some c2 ∧ W'.cell? ⟨g, 3, none⟩ = some c3)) ∧ (W'.cell? ⟨g, 4, none⟩ = some c4 ∧ (W'.cell? ⟨g, 10, none⟩ = some d0 ∧ W'.cell? ⟨g, 13, none⟩ = some d3))) ∧ Below W0.heap.size W0 W' :=
  ⟨⟨⟨⟨cell_keep hb h.1.1.1.1, cell_keep hb h.1.1.1.2⟩, cell_keep hb h.1.1.2.1, cell_keep hb h.1.1.2.2⟩, cell_keep hb h.1.2.1, cell_keep hb h.1.2.2.1, cell_keep hb h.1.2.2.2⟩, h.2.trans (hb.mono h.2.size)⟩
theorem all_ex (w : World) (hE : Err w) : Calls Tryd.prog 11 #[.string ⟨#[32, 45, 48, 44, 34, 92, 117, 100, 56, 51, 100, 92, 117, 100, 101, 48, 48, 34]⟩] w fun e w' =>
    ∃ g C, e = .returned (.tuple #[.slice (some ⟨g, 0, none⟩) 4 C, .int .i64 18, .int .i64 0]) ∧ 4 ≤ C ∧ (∀ j u, (tcells K.ex1T)[j]? = some u → w'.cell? ⟨g, j, none⟩ = some u) ∧ Below w.heap.size w w' := by
  refine (all_any _ w (by decide) hE).mono ?_
  rintro e w' ⟨v, rfl, hown, hb⟩
  have hs : strB ⟨#[32, 45, 48, 44, 34, 92, 117, 100, 56, 51, 100, 92, 117, 100, 101, 48, 48, 34]⟩ = K.ex1 := by decide
  rw [hs, K.ex1_its] at hown ⊢
  have ht : K.toks [((⟨8, 1, 3, [], 0⟩ : K.Tok), 3, 0), (⟨6, 3, 4, [], 0⟩, 4, 0), (⟨7, 4, 18, [240, 159, 152, 128], 0⟩, 18, 0), (⟨0, 18, 18, [], 0⟩, 18, 0)] = K.ex1T := by decide
  rw [ht] at hown
  obtain ⟨h1, h2⟩ := hown
  rcases h2 with ⟨_, h0⟩ | ⟨g, cap, cur, rfl, _, hg, hn, _, hs2, htk⟩
  · exact absurd h0 (by decide)
  · refine ⟨g, cap, rfl, hn, fun j u hu => ?_, hb⟩
    rw [← htk, List.getElem?_take] at hu
    split at hu
    · simp only [World.cell?, hg]
      simpa using hu
    · cases hu
theorem build_ex (W : World) : (Instr.build 24 #[(0, .int .i64 8), (1, .int .i64 1), (2, .int .i64 3)]).run Tryd.prog W = .ok (.agg #[.int .i64 8, .int .i64 1, .int .i64 3, .string ⟨#[]⟩, .int .i64 0]) W :=
  run_build W 24 _ _ (by kernel_rfl)
theorem eql_ex (W : World) : (binOp .eql 24 (.agg #[.int .i64 8, .int .i64 1, .int .i64 3, .string ⟨#[]⟩, .int .i64 0]) (.agg #[.int .i64 8, .int .i64 1, .int .i64 3, .string ⟨#[]⟩, .int .i64 0])).run Tryd.prog W = .ok (.bool true) W := by kernel_rfl
set_option maxRecDepth 100000 in
set_option maxHeartbeats 4000000 in
theorem tokAlive_any (w : World) (hE : Err w) : Calls Tryd.prog 8 #[] w fun e w' => e = .returned (.bool true) ∧ Below w.heap.size w w' := by
  have hA := all_ex w hE
  have hN1 : ∀ w, Err w → Calls Tryd.prog 9 #[.string ⟨#[49, 46, 53]⟩, .int .i64 0] w fun e w' => e = .returned (.tuple #[.agg tzero, .int .i64 0, .int .i64 5]) ∧ Below w.heap.size w w' := fun w hE => by
    have h := next_any ⟨#[49, 46, 53]⟩ 0 w (by decide) (by omega) (by omega) hE
    rw [show K.nextAt (strB ⟨#[49, 46, 53]⟩) 0 = (K.zero, 0, 5) by
      unfold K.nextAt; rw [if_pos (by decide), show strB ⟨#[49, 46, 53]⟩ = [49, 46, 53] by decide, show (0 : Int).toNat = 0 from rfl, K.ex2_next]; rfl] at h
    exact h
  have hN2 : ∀ w, Err w → Calls Tryd.prog 9 #[.string ⟨#[34, 97, 92, 120, 34]⟩, .int .i64 0] w fun e w' => e = .returned (.tuple #[.agg tzero, .int .i64 2, .int .i64 2]) ∧ Below w.heap.size w w' := fun w hE => by
    have h := next_any ⟨#[34, 97, 92, 120, 34]⟩ 0 w (by decide) (by omega) (by omega) hE
    rw [show K.nextAt (strB ⟨#[34, 97, 92, 120, 34]⟩) 0 = (K.zero, 2, 2) by
      unfold K.nextAt; rw [if_pos (by decide), show strB ⟨#[34, 97, 92, 120, 34]⟩ = [34, 97, 92, 120, 34] by decide, show (0 : Int).toNat = 0 from rfl, K.ex3_next]; rfl] at h
    exact h
  have hQ : ∀ w, Calls Tryd.prog 14 #[.string ⟨#[97, 10]⟩] w fun e w' => e = .returned (.string ⟨#[34, 97, 92, 117, 48, 48, 48, 97, 34]⟩) ∧ Below w.heap.size w w' := fun w => by
    have h := quote_any ⟨#[97, 10]⟩ w (by decide)
    rw [show strB ⟨#[97, 10]⟩ = [97, 10] by decide, K.ex4_quote] at h
    exact h
  have hP : ∀ w, Calls Tryd.prog 18 #[.int .i64 128512] w fun e w' => ∃ a c, e = .returned (.slice a 4 c) ∧ Row w' .u8 a 4 c exL ∧ Below w.heap.size w w' := fun w => (refPut_any 128512 w).mono fun e w' ⟨v, he, hown, hb⟩ => by
    rw [show U.put 128512 = exL by decide] at hown
    obtain ⟨a, cap, hv, hr⟩ := row_of_owns hown
    exact ⟨a, cap, by rw [he, hv]; rfl, hr, hb⟩
  have hBy : ∀ W a c b d, Row W .u8 a 4 c exL → Row W .u8 b 4 d exL → Calls Tryd.prog 17 #[.slice a 4 c, .slice b 4 d] W fun e w' => e = .returned (.bool true) ∧ Below W.heap.size W w' := fun W a c b d h k => (refBytes_any a b 4 4 c d exL exL W h k).mono fun e w' ⟨he, n, hn⟩ => ⟨by rw [he]; simp, hn ▸ below_drewN (Below.refl _ _) n⟩
  go_enter Tryd.func8, Tryd.ntmps8
  go_wp2_with (first
    | (go_at_call 11; (with_reducible refine hA.mono ?_); rintro e w1 ⟨g, C, rfl, hC, hcells, hB1⟩; have hE1 := err_below hE hB1)
    | (go_at_call 9; (first | ((with_reducible refine (hN1 _ hE1).mono ?_); rintro e w2 ⟨rfl, hB2⟩; have hE2 := err_below (err_below hE1 hB2) ((Below.refl _ w2).alloc (Nat.le_refl _) (.cells tzero 24))) | ((with_reducible refine (hN2 _ hE2).mono ?_); rintro e w3 ⟨rfl, hB3⟩))))
  have hB12 : Below w1.heap.size w1 (w3.alloc (.cells tzero 24)) := ((hB2.alloc hB2.size _).trans (hB3.mono (by have := hB2.size; simp; omega))).alloc (by have := hB2.size; have := hB3.size; simp at this; omega) _
  obtain ⟨W0, hW⟩ : ∃ W0, W0 = w3.alloc (.cells tzero 24) := ⟨_, rfl⟩
  rw [← hW] at hB12 ⊢
  have hB0 : Below w.heap.size w W0 := hB1.trans (hB12.mono hB1.size)
  have c0 := cell_keep hB12 (hcells 0 (.int .i64 8) rfl)
  have c1 := cell_keep hB12 (hcells 1 (.int .i64 1) rfl)
  have c2 := cell_keep hB12 (hcells 2 (.int .i64 3) rfl)
  have c3 := cell_keep hB12 (hcells 3 (.string ⟨#[]⟩) rfl)
  have c4 := cell_keep hB12 (hcells 4 (.int .i64 0) rfl)
  have c10 := cell_keep hB12 (hcells 10 (.int .i64 7) rfl)
  have c13 := cell_keep hB12 (hcells 13 (.string (strOfNums exL)) rfl)
  have kb : ∀ W, (Instr.build 24 #[(0, .int .i64 8), (1, .int .i64 1), (2, .int .i64 3)]).run Tryd.prog W = .ok (.agg #[.int .i64 8, .int .i64 1, .int .i64 3, .string ⟨#[]⟩, .int .i64 0]) W := build_ex
  have ke := eql_ex
  obtain ⟨s4, hs4⟩ : ∃ s4, s4 = strOfNums exL := ⟨_, rfl⟩
  have kc := bw_run
  rw [← hs4] at kc c13
  have HS4 := Lib.hid hs4; clear hs4
  clear hcells hB12 hB2 hB3 hE1 hE2 hN1 hN2 hA hB1
  have HW := Lib.hid hW; clear hW
  have hbase : (((W0.cell? ⟨g, 0, none⟩ = some (.int .i64 8) ∧ W0.cell? ⟨g, 1, none⟩ = some (.int .i64 1)) ∧ (W0.cell? ⟨g, 2, none⟩ = some (.int .i64 3) ∧ W0.cell? ⟨g, 3, none⟩ = some (.string ⟨#[]⟩))) ∧ (W0.cell? ⟨g, 4, none⟩ = some (.int .i64 0) ∧ (W0.cell? ⟨g, 10, none⟩ = some (.int .i64 7) ∧ W0.cell? ⟨g, 13, none⟩ = some (.string s4)))) ∧ Below W0.heap.size W0 W0 := ⟨⟨⟨⟨c0, c1⟩, c2, c3⟩, c4, c10, c13⟩, Below.refl _ _⟩
  have HBASE := Lib.hid hbase; clear hbase
  have hrc : Row (bw W0.drew) .u8 (some ⟨W0.heap.size, 0, none⟩) 4 (grownCap W0.drew 4 0 5) exL := (bw_facts W0.drew).1
  go_region_held_law (fun W => (((W.cell? ⟨g, 0, none⟩ = some (.int .i64 8) ∧ W.cell? ⟨g, 1, none⟩ = some (.int .i64 1)) ∧ (W.cell? ⟨g, 2, none⟩ = some (.int .i64 3) ∧ W.cell? ⟨g, 3, none⟩ = some (.string ⟨#[]⟩))) ∧ (W.cell? ⟨g, 4, none⟩ = some (.int .i64 0) ∧ (W.cell? ⟨g, 10, none⟩ = some (.int .i64 7) ∧ W.cell? ⟨g, 13, none⟩ = some (.string s4)))) ∧ Below W0.heap.size W0 W) (first | assumption | exact keepT (by assumption) hb | exact keepT (by assumption) (bw_facts _).2 | exact keepT HBASE.out (below_drewN (Below.refl _ _) 1)) (first
    | (go_at_call 18; (with_reducible refine (hP _).mono ?_); rintro e wp ⟨a3, c3', rfl, hr3, hb⟩; have hbp := hb)
    | (go_at_call 17; (first | (with_reducible refine (hBy _ _ _ _ _ (row_below hrc hbp rfl) hr3).mono ?_) | (with_reducible refine (hBy _ _ _ _ _ (bw_facts _).1 (row_below hr3 (bw_facts _).2 rfl)).mono ?_)); rintro e wb ⟨rfl, hb⟩)
    | (go_at_call 14; (with_reducible refine (hQ _).mono ?_); rintro e wq ⟨rfl, hb⟩))
  all_goals (
    go_wp2_with fail
    go_ret
    exact ⟨rfl, hB0.trans ((show Below W0.heap.size W0 _ from And.right (by assumption)).mono hB0.size)⟩)
end Go.Proofs.YtiflnciapboccaaDoor
