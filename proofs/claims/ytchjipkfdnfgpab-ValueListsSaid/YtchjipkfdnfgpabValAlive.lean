/- Layer 3: what the statements ask first (alive). -/
import Derived.Test.YtchjipkfdnfgpabValRight
import Derived.Test.YtchjipkfdnfgpabValOrder
import Derived.Test.YtchjipkfdnfgpabValText
import Derived.Test.YtchjipkfdnfgpabValCopy
import Derived.Deep.RegionHeld3
namespace Go.Proofs.Ytchjipkfdnfgpab
open Go.RowKit Go.Shelf
theorem is_flat (w : World) (k n : Int) (s : ByteArray) (hk : I64 k) (hn : I64 n) (hs : s.size ≤ maxLen) : Is w (.mk k n s []) (.agg #[.int .i64 k, .int .i64 n, .string s, .slice none 0 0]) := by
  unfold Is
  exact ⟨hk, hn, hs, none, 0, rfl, Nat.le_refl _, by unfold maxLen; omega, .inl rfl⟩
/-- the document's example -/
def exV : PV := .mk 5 0 ⟨#[]⟩ [.mk 2 1 ⟨#[]⟩ [], .mk 3 0 ⟨#[97]⟩ [], .mk 4 0 ⟨#[98]⟩ []]
theorem ex_sz : szV exV = 4 := by decide
theorem ex_deep : deepV exV = 1 := by decide
theorem ex_right : rightV exV = true := by decide +kernel
theorem ex_text : textV exV = [91, 49, 32, 39, 97, 32, 34, 98, 34, 93] := by
  simp [exV, textV, textL, textM, quoteB, M.prt, M.D_lt, strB]
theorem ex_cmp : cmpV exV exV = 0 := by decide
theorem ex_small : small exV := by simp [exV, small, small.smallL]; decide
theorem bad_right : rightV (.mk 6 0 ⟨#[]⟩ []) = false := by decide
theorem ex_two : cmpV (.mk 2 2 ⟨#[]⟩ []) (.mk 2 10 ⟨#[]⟩ []) = -1 := by decide
theorem ex_name : nameB (strB ⟨#[97, 45, 49]⟩) = true := by decide
/-- the cells of a box, and all that was there as it was -/
theorem keepA {b : Nat} {c0 c1 c2 c3 : Value} {W0 W W' : World}
    (h : ((W.cell? ⟨b, 0, none⟩ = some c0 ∧ W.cell? ⟨b, 1, none⟩ = some c1) ∧ (W.cell? ⟨b, 2, none⟩ = some c2 ∧ W.cell? ⟨b, 3, none⟩ = some c3)) ∧ Below W0.heap.size W0 W) (hb : Below W.heap.size W W') :
    ((W'.cell? ⟨b, 0, none⟩ = some c0 ∧ W'.cell? ⟨b, 1, none⟩ = some c1) ∧ (W'.cell? ⟨b, 2, none⟩ = some c2 ∧ W'.cell? ⟨b, 3, none⟩ = some c3)) ∧ Below W0.heap.size W0 W' :=
  ⟨⟨⟨cell_below hb h.1.1.1, cell_below hb h.1.1.2⟩, cell_below hb h.1.2.1, cell_below hb h.1.2.2⟩, h.2.trans (hb.mono h.2.size)⟩
theorem keepB {b : Nat} {c0 c1 c2 c3 : Value} {W0 W : World}
    (h : ((W.cell? ⟨b, 0, none⟩ = some c0 ∧ W.cell? ⟨b, 1, none⟩ = some c1) ∧ (W.cell? ⟨b, 2, none⟩ = some c2 ∧ W.cell? ⟨b, 3, none⟩ = some c3)) ∧ Below W0.heap.size W0 W) : Below W0.heap.size W0 W := h.2
theorem i64_lit (n : Int) (h : (decide (-9223372036854775808 ≤ n) && decide (n ≤ 9223372036854775807)) = true) : I64 n := by simpa [I64] using h
theorem ex_is (w : World) : Is ((w.alloc (Obj.cells #[.int .i64 2, .int .i64 1, .string ⟨#[]⟩, .slice none 0 0, .int .i64 3, .int .i64 0, .string ⟨#[97]⟩, .slice none 0 0, .int .i64 4, .int .i64 0, .string ⟨#[98]⟩, .slice none 0 0] 24)).alloc (Obj.cells #[.int .i64 5, .int .i64 0, .string ⟨#[]⟩, .slice (some ⟨w.heap.size, 0, none⟩) 3 3] 24)) exV (.agg #[.int .i64 5, .int .i64 0, .string ⟨#[]⟩, .slice (some ⟨w.heap.size, 0, none⟩) 3 3]) := by
  unfold exV Is
  refine ⟨i64_lit _ rfl, i64_lit _ rfl, by unfold maxLen; decide, _, 3, rfl, by decide, by unfold maxLen; decide, .inr ⟨w.heap.size, 0, rfl, isL_below ((Below.refl _ _).alloc (Nat.le_refl _) _) ?_⟩⟩
  unfold IsL IsL IsL IsL
  refine ⟨⟨_, _, _, _, ⟨by simp, by simp, by simp, by simp⟩, is_flat _ 2 1 _ (i64_lit _ rfl) (i64_lit _ rfl) (by unfold maxLen; decide)⟩, ⟨_, _, _, _, ⟨by simp, by simp, by simp, by simp⟩, is_flat _ 3 0 _ (i64_lit _ rfl) (i64_lit _ rfl) (by unfold maxLen; decide)⟩,
    ⟨_, _, _, _, ⟨by simp, by simp, by simp, by simp⟩, is_flat _ 4 0 _ (i64_lit _ rfl) (i64_lit _ rfl) (by unfold maxLen; decide)⟩, trivial⟩
set_option maxRecDepth 100000 in
set_option maxHeartbeats 8000000 in
theorem alive_any (w : World) : Calls Try.prog 4 #[] w fun e w' => e = .returned (.bool true) ∧ Below w.heap.size w w' := by
  have hI0 := ex_is w
  have hB0 := (((Below.refl _ w).alloc (Nat.le_refl _) (Obj.cells #[.int .i64 2, .int .i64 1, .string ⟨#[]⟩, .slice none 0 0, .int .i64 3, .int .i64 0, .string ⟨#[97]⟩, .slice none 0 0, .int .i64 4, .int .i64 0, .string ⟨#[98]⟩, .slice none 0 0] 24)).alloc (by simp) (Obj.cells #[.int .i64 5, .int .i64 0, .string ⟨#[]⟩, .slice (some ⟨w.heap.size, 0, none⟩) 3 3] 24))
  have c0 : ((w.alloc (Obj.cells #[.int .i64 2, .int .i64 1, .string ⟨#[]⟩, .slice none 0 0, .int .i64 3, .int .i64 0, .string ⟨#[97]⟩, .slice none 0 0, .int .i64 4, .int .i64 0, .string ⟨#[98]⟩, .slice none 0 0] 24)).alloc (Obj.cells #[.int .i64 5, .int .i64 0, .string ⟨#[]⟩, .slice (some ⟨w.heap.size, 0, none⟩) 3 3] 24)).cell? ⟨w.heap.size + 1, 0, none⟩ = some (.int .i64 5) := by simp
  have c1 : ((w.alloc (Obj.cells #[.int .i64 2, .int .i64 1, .string ⟨#[]⟩, .slice none 0 0, .int .i64 3, .int .i64 0, .string ⟨#[97]⟩, .slice none 0 0, .int .i64 4, .int .i64 0, .string ⟨#[98]⟩, .slice none 0 0] 24)).alloc (Obj.cells #[.int .i64 5, .int .i64 0, .string ⟨#[]⟩, .slice (some ⟨w.heap.size, 0, none⟩) 3 3] 24)).cell? ⟨w.heap.size + 1, 1, none⟩ = some (.int .i64 0) := by simp
  have c2 : ((w.alloc (Obj.cells #[.int .i64 2, .int .i64 1, .string ⟨#[]⟩, .slice none 0 0, .int .i64 3, .int .i64 0, .string ⟨#[97]⟩, .slice none 0 0, .int .i64 4, .int .i64 0, .string ⟨#[98]⟩, .slice none 0 0] 24)).alloc (Obj.cells #[.int .i64 5, .int .i64 0, .string ⟨#[]⟩, .slice (some ⟨w.heap.size, 0, none⟩) 3 3] 24)).cell? ⟨w.heap.size + 1, 2, none⟩ = some (.string ⟨#[]⟩) := by simp
  have c3 : ((w.alloc (Obj.cells #[.int .i64 2, .int .i64 1, .string ⟨#[]⟩, .slice none 0 0, .int .i64 3, .int .i64 0, .string ⟨#[97]⟩, .slice none 0 0, .int .i64 4, .int .i64 0, .string ⟨#[98]⟩, .slice none 0 0] 24)).alloc (Obj.cells #[.int .i64 5, .int .i64 0, .string ⟨#[]⟩, .slice (some ⟨w.heap.size, 0, none⟩) 3 3] 24)).cell? ⟨w.heap.size + 1, 3, none⟩ = some (.slice (some ⟨w.heap.size, 0, none⟩) 3 3) := by simp
  go_enter Try.func4, Try.ntmps4
  go_upto_region 2 with fail
  generalize ((w.alloc (Obj.cells #[.int .i64 2, .int .i64 1, .string ⟨#[]⟩, .slice none 0 0, .int .i64 3, .int .i64 0, .string ⟨#[97]⟩, .slice none 0 0, .int .i64 4, .int .i64 0, .string ⟨#[98]⟩, .slice none 0 0] 24)).alloc (Obj.cells #[.int .i64 5, .int .i64 0, .string ⟨#[]⟩, .slice (some ⟨w.heap.size, 0, none⟩) 3 3] 24)) = W0 at *
  generalize w.heap.size + 1 = b1 at *
  generalize hg : w.heap.size = g at *
  have hR : ∀ W, (((W.cell? ⟨b1, 0, none⟩ = some (.int .i64 5) ∧ W.cell? ⟨b1, 1, none⟩ = some (.int .i64 0)) ∧ (W.cell? ⟨b1, 2, none⟩ = some (.string ⟨#[]⟩) ∧ W.cell? ⟨b1, 3, none⟩ = some (.slice (some ⟨g, 0, none⟩) 3 3))) ∧ Below W0.heap.size W0 W) → Calls Try.prog 6 #[.agg #[.int .i64 5, .int .i64 0, .string ⟨#[]⟩, .slice (some ⟨g, 0, none⟩) 3 3]] W fun e w' => e = .returned (.bool true) ∧ Below W.heap.size W w' := fun W h => by
    have := right_any exV (by rw [ex_sz]; omega) W _ (is_below h.2 _ _ hI0); rwa [ex_right] at this
  have hR6 : ∀ W, Calls Try.prog 6 #[.agg #[.int .i64 6, .int .i64 0, .string ⟨#[]⟩, .slice none 0 0]] W fun e w' => e = .returned (.bool false) ∧ Below W.heap.size W w' := fun W => by
    have := right_any (.mk 6 0 ⟨#[]⟩ []) (by decide) W _ (is_flat W 6 0 ⟨#[]⟩ (i64_lit _ rfl) (i64_lit _ rfl) (by unfold maxLen; decide)); rwa [bad_right] at this
  have hT : ∀ W, (((W.cell? ⟨b1, 0, none⟩ = some (.int .i64 5) ∧ W.cell? ⟨b1, 1, none⟩ = some (.int .i64 0)) ∧ (W.cell? ⟨b1, 2, none⟩ = some (.string ⟨#[]⟩) ∧ W.cell? ⟨b1, 3, none⟩ = some (.slice (some ⟨g, 0, none⟩) 3 3))) ∧ Below W0.heap.size W0 W) → Calls Try.prog 10 #[.agg #[.int .i64 5, .int .i64 0, .string ⟨#[]⟩, .slice (some ⟨g, 0, none⟩) 3 3]] W fun e w' => e = .returned (.string ⟨#[91, 49, 32, 39, 97, 32, 34, 98, 34, 93]⟩) ∧ Below W.heap.size W w' := fun W h => by
    have := text_any exV (by rw [ex_text]; decide) W _ (is_below h.2 _ _ hI0); rwa [ex_text, show strOfNums [91, 49, 32, 39, 97, 32, 34, 98, 34, 93] = ⟨#[91, 49, 32, 39, 97, 32, 34, 98, 34, 93]⟩ from rfl] at this
  have hD : ∀ W, (((W.cell? ⟨b1, 0, none⟩ = some (.int .i64 5) ∧ W.cell? ⟨b1, 1, none⟩ = some (.int .i64 0)) ∧ (W.cell? ⟨b1, 2, none⟩ = some (.string ⟨#[]⟩) ∧ W.cell? ⟨b1, 3, none⟩ = some (.slice (some ⟨g, 0, none⟩) 3 3))) ∧ Below W0.heap.size W0 W) → Calls Try.prog 7 #[.agg #[.int .i64 5, .int .i64 0, .string ⟨#[]⟩, .slice (some ⟨g, 0, none⟩) 3 3]] W fun e w' => e = .returned (.int .i64 1) ∧ Below W.heap.size W w' := fun W h => by
    have := deep_any exV (by rw [ex_sz]; omega) W _ (is_below h.2 _ _ hI0); rwa [ex_deep] at this
  have hN : ∀ W, (((W.cell? ⟨b1, 0, none⟩ = some (.int .i64 5) ∧ W.cell? ⟨b1, 1, none⟩ = some (.int .i64 0)) ∧ (W.cell? ⟨b1, 2, none⟩ = some (.string ⟨#[]⟩) ∧ W.cell? ⟨b1, 3, none⟩ = some (.slice (some ⟨g, 0, none⟩) 3 3))) ∧ Below W0.heap.size W0 W) → Calls Try.prog 8 #[.agg #[.int .i64 5, .int .i64 0, .string ⟨#[]⟩, .slice (some ⟨g, 0, none⟩) 3 3]] W fun e w' => e = .returned (.int .i64 4) ∧ Below W.heap.size W w' := fun W h => by
    have := nodes_any exV (by rw [ex_sz]; omega) W _ (is_below h.2 _ _ hI0); rwa [ex_sz] at this
  have hC2 : ∀ W, Calls Try.prog 9 #[.agg #[.int .i64 2, .int .i64 2, .string ⟨#[]⟩, .slice none 0 0], .agg #[.int .i64 2, .int .i64 10, .string ⟨#[]⟩, .slice none 0 0]] W fun e w' => e = .returned (.int .i64 (-1)) ∧ Below W.heap.size W w' := fun W => by
    have := compare_any (.mk 2 2 ⟨#[]⟩ []) (.mk 2 10 ⟨#[]⟩ []) W _ _ (is_flat W 2 2 ⟨#[]⟩ (i64_lit _ rfl) (i64_lit _ rfl) (by unfold maxLen; decide)) (is_flat W 2 10 ⟨#[]⟩ (i64_lit _ rfl) (i64_lit _ rfl) (by unfold maxLen; decide)); rwa [ex_two] at this
  have hi2 := fun W => int_any 2 W
  have hi10 := fun W => int_any 10 W
  have hCp : ∀ W, (((W.cell? ⟨b1, 0, none⟩ = some (.int .i64 5) ∧ W.cell? ⟨b1, 1, none⟩ = some (.int .i64 0)) ∧ (W.cell? ⟨b1, 2, none⟩ = some (.string ⟨#[]⟩) ∧ W.cell? ⟨b1, 3, none⟩ = some (.slice (some ⟨g, 0, none⟩) 3 3))) ∧ Below W0.heap.size W0 W) → Calls Try.prog 13 #[.agg #[.int .i64 5, .int .i64 0, .string ⟨#[]⟩, .slice (some ⟨g, 0, none⟩) 3 3]] W fun e w' => ∃ a', e = .returned (.agg #[.int .i64 5, .int .i64 0, .string ⟨#[]⟩, .slice a' 3 3]) ∧ Below W.heap.size W w' ∧ Is w' exV (.agg #[.int .i64 5, .int .i64 0, .string ⟨#[]⟩, .slice a' 3 3]) := fun W h => by
    refine (copy_any exV ex_small W _ (is_below h.2 _ _ hI0)).mono ?_
    rintro e w' ⟨x', rfl, hb, hf, a', rfl, _⟩
    exact ⟨a', rfl, hb, fresh_is hf⟩
  have hS : ∀ W a', (((W.cell? ⟨b1, 0, none⟩ = some (.int .i64 5) ∧ W.cell? ⟨b1, 1, none⟩ = some (.int .i64 0)) ∧ (W.cell? ⟨b1, 2, none⟩ = some (.string ⟨#[]⟩) ∧ W.cell? ⟨b1, 3, none⟩ = some (.slice (some ⟨g, 0, none⟩) 3 3))) ∧ Below W0.heap.size W0 W) → Is W exV (.agg #[.int .i64 5, .int .i64 0, .string ⟨#[]⟩, .slice a' 3 3]) → Calls Try.prog 12 #[.agg #[.int .i64 5, .int .i64 0, .string ⟨#[]⟩, .slice a' 3 3], .agg #[.int .i64 5, .int .i64 0, .string ⟨#[]⟩, .slice (some ⟨g, 0, none⟩) 3 3]] W fun e w' => e = .returned (.bool true) ∧ Below W.heap.size W w' := fun W a' h hx => by
    have := same_any exV exV W _ _ hx (is_below h.2 _ _ hI0); rw [ex_cmp] at this; exact this
  have hNm := fun W => isName_any ⟨#[97, 45, 49]⟩ W (by unfold maxLen; decide)
  rw [ex_name] at hNm
  have hR := Lib.hid hR; have hT := Lib.hid hT; have hD := Lib.hid hD; have hN := Lib.hid hN; have hCp := Lib.hid hCp; have hS := Lib.hid hS
  clear hI0
  go_region_held3 (fun W => (((W.cell? ⟨b1, 0, none⟩ = some (.int .i64 5) ∧ W.cell? ⟨b1, 1, none⟩ = some (.int .i64 0)) ∧ (W.cell? ⟨b1, 2, none⟩ = some (.string ⟨#[]⟩) ∧ W.cell? ⟨b1, 3, none⟩ = some (.slice (some ⟨g, 0, none⟩) 3 3))) ∧ Below W0.heap.size W0 W)) (first | assumption | exact keepA (by assumption) hb | exact keepA ⟨⟨⟨c0, c1⟩, c2, c3⟩, Below.refl _ _⟩ (below_drew _)) (first
    | (go_at_call 6; (first | with_reducible refine (hR.out _ (by assumption)).mono ?_ | with_reducible refine (hR6 _).mono ?_); rintro e w' ⟨rfl, hb⟩)
    | (go_at_call 10; (with_reducible refine (hT.out _ (by assumption)).mono ?_); rintro e w' ⟨rfl, hb⟩)
    | (go_at_call 7; (with_reducible refine (hD.out _ (by assumption)).mono ?_); rintro e w' ⟨rfl, hb⟩)
    | (go_at_call 8; (with_reducible refine (hN.out _ (by assumption)).mono ?_); rintro e w' ⟨rfl, hb⟩)
    | (go_at_call 11; (first | with_reducible refine (hi2 _).mono ?_ | with_reducible refine (hi10 _).mono ?_); rintro e w' ⟨rfl, hb⟩)
    | (go_at_call 9; (with_reducible refine (hC2 _).mono ?_); rintro e w' ⟨rfl, hb⟩)
    | (go_at_call 13; (with_reducible refine (hCp.out _ (by assumption)).mono ?_); rintro e w' ⟨a', rfl, hb, hcp⟩)
    | (go_at_call 12; (with_reducible refine (hS.out _ _ (by assumption) hcp).mono ?_); rintro e w' ⟨rfl, hb⟩)
    | (go_at_call 14; (with_reducible refine (hNm _).mono ?_); rintro e w' ⟨rfl, rfl⟩))
  all_goals (
    go_wp2_with fail
    go_ret
    subst hg
    exact ⟨rfl, hB0.trans ((keepB (by assumption)).mono hB0.size)⟩)
end Go.Proofs.Ytchjipkfdnfgpab
