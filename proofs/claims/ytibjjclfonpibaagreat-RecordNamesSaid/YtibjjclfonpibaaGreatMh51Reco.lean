/- The document's example of records: alive. -/
import Derived.Test.YtibjjclfonpibaaGreatMh37Reco
import Derived.Deep.RegionHeld3
import Derived.Deep.DeepCutAuto
set_option linter.unusedVariables false
set_option linter.unusedSimpArgs false
set_option maxRecDepth 100000
namespace Go.Proofs.YtibjjclfonpibaaGreat
open Go.RowKit Go.Shelf
def rs2 : List PV := [intV 0, intV 5]
def rs7 : List PV := [intV 7, intV 5]
def rs3 : List PV := [intV 0, intV 3]
theorem mk5 : Rc.make twoT 2 [intV 5] = (⟨2, rs2⟩, 0) := by kernel_rfl
theorem mk9 : Rc.make twoT 9 [] = (⟨0, []⟩, 7) := by kernel_rfl
theorem st7 : Rc.setM twoT ⟨2, rs2⟩ 0 (intV 7) = (⟨2, rs7⟩, 0) := by kernel_rfl
theorem fl3 : Rc.fill twoT 1 [⟨#[98]⟩] [intV 3] = (rs3, 0) := by kernel_rfl
theorem fl0 : Rc.fill twoT 1 [] [] = ([], 9) := by kernel_rfl
theorem vr2 : Rc.verR twoT ⟨2, rs2⟩ = some tv2 := by kernel_rfl
theorem ro2 : Rc.rowOf tv2 rs2 = [intV 5] := by kernel_rfl
theorem intV_is (n : Int) (hn : I64 n) (W : World) : Is W (intV n) (.agg #[.int .i64 2, .int .i64 n, .string ⟨#[]⟩, .slice none 0 0]) := by
  unfold intV Is
  exact ⟨by unfold I64; omega, hn, Nat.zero_le _, none, 0, rfl, Nat.le_refl _, Nat.zero_le _, .inl rfl⟩
theorem intV_small (n : Int) : small (intV n) := by unfold intV small; exact ⟨Nat.zero_le _, Nat.zero_le _, trivial⟩
theorem intV_sz (n : Int) : szV (intV n) ≤ 1000000 := by simp [intV, szV, szL]
abbrev iC (n : Int) : Array Value := #[.int .i64 2, .int .i64 n, .string ⟨#[]⟩, .slice none 0 0]
theorem one_row {W : World} {g : Nat} {n : Int} (hn : I64 n) (h : VAt W g (iC n)) : PRow W (some ⟨g, 0, none⟩) 1 [intV n] := by
  obtain ⟨⟨c0, c1, c2, c3⟩, _⟩ := box4 h
  refine ⟨Nat.le_refl _, by unfold maxLen; omega, .inr ⟨g, 0, rfl, ?_⟩⟩
  unfold IsL
  exact ⟨⟨_, _, _, _, ⟨c0, c1, c2, c3⟩, intV_is n hn W⟩, by unfold IsL; trivial⟩
theorem no_row (W : World) : PRow W none 0 [] := ⟨Nat.le_refl _, Nat.zero_le _, .inl rfl⟩
theorem no_names (W : World) : NRow W none 0 [] := ⟨Nat.le_refl _, Nat.zero_le _, .inl rfl⟩
/-- one text -/
def NBAt (W : World) (g : Nat) : Prop := W.heap[g]? = some (.cells #[.string ⟨#[98]⟩] 9 (0, 0))
theorem nb_next {W : World} {b : Nat} {o : Obj} (h : NBAt W b) : NBAt (W.alloc o) b := next_block h
theorem nb_self (W : World) : NBAt (W.alloc (.cells #[.string ⟨#[98]⟩] 9)) W.heap.size := heap_self9 W _
theorem nb_self1 (W : World) (o : Obj) : NBAt ((W.alloc o).alloc (.cells #[.string ⟨#[98]⟩] 9)) (W.heap.size + 1) := by
  have h := heap_self9 (W.alloc o) (.cells #[.string ⟨#[98]⟩] 9)
  rwa [World.size_alloc] at h
theorem nb_later {W W' : World} {b : Nat} (h : NBAt W b) (hb : Below W.drew.heap.size W.drew W') : NBAt W' b := (hb.block _ (Array.getElem?_eq_some_iff.1 h).1).trans h
theorem b_names {W : World} {g : Nat} (h : NBAt W g) : NRow W (some ⟨g, 0, none⟩) 1 [⟨#[98]⟩] := by
  refine ⟨Nat.le_refl _, by unfold maxLen; omega, .inr ⟨g, 0, rfl, fun i s hs => ?_⟩⟩
  have hi : i < 1 := (List.getElem?_eq_some_iff.1 hs).1
  obtain rfl : i = 0 := by omega
  simp only [List.getElem?_cons_zero, Option.some.injEq] at hs
  subst hs
  exact at_heap h rfl
/-- a record in its box -/
def RBox (W0 W : World) (rb : Nat) (l : List PV) : Prop := ∃ g, W.heap[rb]? = some (.cells #[.int .i64 2, .slice (some ⟨g, 0, none⟩) 2 2] 31 (0, 0)) ∧ Made W0.heap.size W l (.slice (some ⟨g, 0, none⟩) 2 2)
def TBox (W : World) (tb : Nat) (sa : Option Addr) (sc : Nat) (ta : Option Addr) (tc : Nat) : Prop := W.heap[tb]? = some (.cells #[.string ⟨#[116]⟩, .slice sa 2 sc, .slice ta 2 tc] 25 (0, 0)) ∧ IsTempl W twoT (.agg #[.string ⟨#[116]⟩, .slice sa 2 sc, .slice ta 2 tc])
theorem tbox_below {W W' : World} {tb : Nat} {sa : Option Addr} {sc : Nat} {ta : Option Addr} {tc : Nat} (h : TBox W tb sa sc ta tc) (hb : Below W.heap.size W W') : TBox W' tb sa sc ta tc :=
  ⟨(hb.block _ (Array.getElem?_eq_some_iff.1 h.1).1).trans h.1, isTempl_below hb h.2⟩
abbrev tT (sa : Option Addr) (sc : Nat) (ta : Option Addr) (tc : Nat) : Value := .agg #[.string ⟨#[116]⟩, .slice sa 2 sc, .slice ta 2 tc]
theorem cMake5 (W : World) (sa : Option Addr) (sc : Nat) (ta : Option Addr) (tc : Nat) (g : Nat) (hT : IsTempl W twoT (tT sa sc ta tc)) (hg : VAt W g (iC 5)) : Calls Tryz.prog 12 #[.agg #[.string ⟨#[116]⟩, .slice sa 2 sc, .slice ta 2 tc], .int .i64 2, .slice (some ⟨g, 0, none⟩) 1 1] W fun e w' =>
    (∃ q, e = .returned (.tuple #[.agg #[.int .i64 2, .slice (some ⟨q, 0, none⟩) 2 2], .int .i64 0]) ∧ Made W.heap.size w' rs2 (.slice (some ⟨q, 0, none⟩) 2 2)) ∧ Below W.heap.size W w' :=
  (rMake_any twoT 2 [intV 5] W _ _ 1 two_great (by unfold I64; omega) hT (one_row (by unfold I64; omega) hg) (by intro v hv; rw [List.mem_singleton.1 hv]; exact intV_sz 5) (by intro v hv; rw [List.mem_singleton.1 hv]; exact intV_small 5) (by decide)).mono fun e w' h => by
    unfold MakeR at h
    rw [mk5] at h
    obtain ⟨⟨S, he, hM, _⟩, hB⟩ := h
    obtain ⟨q, C, rfl, r⟩ := hM rfl
    exact ⟨⟨q, he, q, C, rfl, r⟩, hB⟩
theorem cMake9 (W : World) (sa : Option Addr) (sc : Nat) (ta : Option Addr) (tc : Nat) (hT : IsTempl W twoT (tT sa sc ta tc)) : Calls Tryz.prog 12 #[.agg #[.string ⟨#[116]⟩, .slice sa 2 sc, .slice ta 2 tc], .int .i64 9, .slice none 0 0] W fun e w' =>
    e = .returned (.tuple #[.agg #[.int .i64 0, .slice none 0 0], .int .i64 7]) ∧ Below W.heap.size W w' :=
  (rMake_any twoT 9 [] W _ none 0 two_great (by unfold I64; omega) hT (no_row W) (by intro v hv; cases hv) (by intro v hv; cases hv) (by decide)).mono fun e w' h => by
    unfold MakeR at h
    rw [mk9] at h
    obtain ⟨⟨S, he, _, hS⟩, hB⟩ := h
    rw [hS (by decide)] at he
    exact ⟨he, hB⟩
theorem cSet7 (W0 W : World) (sa : Option Addr) (sc : Nat) (ta : Option Addr) (tc : Nat) (g : Nat) (hT : IsTempl W twoT (tT sa sc ta tc)) (hM : Made W0.heap.size W rs2 (.slice (some ⟨g, 0, none⟩) 2 2)) : Calls Tryz.prog 32 #[.agg #[.string ⟨#[116]⟩, .slice sa 2 sc, .slice ta 2 tc], .agg #[.int .i64 2, .slice (some ⟨g, 0, none⟩) 2 2], .int .i64 0, .agg #[.int .i64 2, .int .i64 7, .string ⟨#[]⟩, .slice none 0 0]] W fun e w' =>
    (∃ q, e = .returned (.tuple #[.agg #[.int .i64 2, .slice (some ⟨q, 0, none⟩) 2 2], .int .i64 0]) ∧ Made W.heap.size w' rs7 (.slice (some ⟨q, 0, none⟩) 2 2)) ∧ Below W.heap.size W w' := by
  obtain ⟨g', e, _, hP⟩ := made_row hM (by decide) (fun _ _ _ => rfl)
  cases e
  exact (rSet_any twoT ⟨2, rs2⟩ 0 (intV 7) W _ _ _ 2 two_great (by unfold I64; simp only; omega) hT hP (by
      intro v hv
      have : v = intV 0 ∨ v = intV 5 := by simpa [rs2] using hv
      rcases this with rfl | rfl <;> exact intV_sz _) (by decide) (intV_is 7 (by unfold I64; omega) W) (intV_sz 7)).mono fun e w' h => by
    unfold MakeR at h
    rw [st7] at h
    obtain ⟨⟨S, he, hM, _⟩, hB⟩ := h
    obtain ⟨q, C, rfl, r⟩ := hM rfl
    exact ⟨⟨q, he, q, C, rfl, r⟩, hB⟩
theorem cFill3 (W : World) (sa : Option Addr) (sc : Nat) (ta : Option Addr) (tc : Nat) (b g : Nat) (hT : IsTempl W twoT (tT sa sc ta tc)) (hb : NBAt W b) (hg : VAt W g (iC 3)) : Calls Tryz.prog 14 #[.agg #[.string ⟨#[116]⟩, .slice sa 2 sc, .slice ta 2 tc], .int .i64 1, .slice (some ⟨b, 0, none⟩) 1 1, .slice (some ⟨g, 0, none⟩) 1 1] W fun e w' =>
    (∃ q, e = .returned (.tuple #[.slice (some ⟨q, 0, none⟩) 2 2, .int .i64 0]) ∧ Made W.heap.size w' rs3 (.slice (some ⟨q, 0, none⟩) 2 2)) ∧ Below W.heap.size W w' :=
  (rFill_any twoT 1 [⟨#[98]⟩] [intV 3] W _ _ 1 _ 1 two_great (by unfold I64; omega) hT (b_names hb) (by intro s hs; rw [List.mem_singleton.1 hs]; decide) (one_row (by unfold I64; omega) hg) (by intro v hv; rw [List.mem_singleton.1 hv]; exact intV_sz 3) (by intro v hv; rw [List.mem_singleton.1 hv]; exact intV_small 3) (by decide) (by decide)).mono fun e w' h => by
    unfold FillR at h
    rw [fl3] at h
    obtain ⟨⟨S, he, hM⟩, hB⟩ := h
    obtain ⟨q, C, rfl, r⟩ := hM rfl
    exact ⟨⟨q, he, q, C, rfl, r⟩, hB⟩
theorem cFill0 (W : World) (sa : Option Addr) (sc : Nat) (ta : Option Addr) (tc : Nat) (hT : IsTempl W twoT (tT sa sc ta tc)) : Calls Tryz.prog 14 #[.agg #[.string ⟨#[116]⟩, .slice sa 2 sc, .slice ta 2 tc], .int .i64 1, .slice none 0 0, .slice none 0 0] W fun e w' =>
    (∃ S, e = .returned (.tuple #[S, .int .i64 9])) ∧ Below W.heap.size W w' :=
  (rFill_any twoT 1 [] [] W _ none 0 none 0 two_great (by unfold I64; omega) hT (no_names W) (by intro s hs; cases hs) (no_row W) (by intro v hv; cases hv) (by intro v hv; cases hv) (by decide) (by decide)).mono fun e w' h => by
    unfold FillR at h
    rw [fl0] at h
    obtain ⟨⟨S, he, _⟩, hB⟩ := h
    exact ⟨⟨S, he⟩, hB⟩
theorem rs2_sz : ∀ v ∈ rs2, szV v ≤ 1000000 := by
  intro v hv
  have : v = intV 0 ∨ v = intV 5 := by simpa [rs2] using hv
  rcases this with rfl | rfl <;> exact intV_sz _
theorem cValid (W0 W : World) (sa : Option Addr) (sc : Nat) (ta : Option Addr) (tc : Nat) (g : Nat) (hT : IsTempl W twoT (tT sa sc ta tc)) (hM : Made W0.heap.size W rs2 (.slice (some ⟨g, 0, none⟩) 2 2)) : Calls Tryz.prog 33 #[.agg #[.string ⟨#[116]⟩, .slice sa 2 sc, .slice ta 2 tc], .agg #[.int .i64 2, .slice (some ⟨g, 0, none⟩) 2 2]] W fun e w' => e = .returned (.bool true) ∧ Below W.heap.size W w' := by
  obtain ⟨g', e, _, hP⟩ := made_row hM (by decide) (fun _ _ _ => rfl)
  cases e
  have h := rValid_any twoT ⟨2, rs2⟩ W _ _ 2 two_great (by unfold I64; simp only; omega) hT hP rs2_sz (by decide)
  rw [vr2] at h
  exact h
theorem cRow (W0 W : World) (sa : Option Addr) (sc : Nat) (ta : Option Addr) (tc : Nat) (g : Nat) (hT : IsTempl W twoT (tT sa sc ta tc)) (hM : Made W0.heap.size W rs2 (.slice (some ⟨g, 0, none⟩) 2 2)) : Calls Tryz.prog 34 #[.agg #[.string ⟨#[116]⟩, .slice sa 2 sc, .slice ta 2 tc], .agg #[.int .i64 2, .slice (some ⟨g, 0, none⟩) 2 2]] W fun e w' => (∃ q, e = .returned (.slice (some ⟨q, 0, none⟩) 1 1)) ∧ Below W.heap.size W w' := by
  obtain ⟨g', e, _, hP⟩ := made_row hM (by decide) (fun _ _ _ => rfl)
  cases e
  exact (rRow_any twoT ⟨2, rs2⟩ W _ _ 2 two_great (by unfold I64; simp only; omega) hT hP rs2_sz (by decide)).mono fun e w' h => by
    unfold RowR at h
    rw [vr2] at h
    simp only [ro2] at h
    obtain ⟨⟨S, he, q, C, rfl, _⟩, hB⟩ := h
    exact ⟨⟨q, he⟩, hB⟩
theorem made_rowN {B : Nat} {w : World} {vs : List PV} {g n m : Nat} (h : Made B w vs (.slice (some ⟨g, 0, none⟩) n m)) (hn : vs.length ≤ 1000000) : vs.length = n ∧ n = m ∧ B ≤ g ∧ PRow w (some ⟨g, 0, none⟩) n vs := by
  obtain ⟨g', e, hg, hP⟩ := made_row h hn (fun _ _ _ => rfl)
  injection e with e1 e2 e3
  injection e1 with e1
  injection e1 with e1
  subst e1 e2 e3
  exact ⟨rfl, rfl, hg, hP⟩
theorem cSame (W0 W1 W : World) (g g' : Nat) (l : List PV) (hl : l.length = 2) (B : Bool) (hB : B = true ↔ rs2 = l) (hM : Made W0.heap.size W rs2 (.slice (some ⟨g, 0, none⟩) 2 2)) (hM' : Made W1.heap.size W l (.slice (some ⟨g', 0, none⟩) 2 2)) : Calls Tryz.prog 35 #[.agg #[.int .i64 2, .slice (some ⟨g, 0, none⟩) 2 2], .agg #[.int .i64 2, .slice (some ⟨g', 0, none⟩) 2 2]] W fun e w' => e = .returned (.bool B) ∧ Below W.heap.size W w' := by
  have hP := (made_rowN hM (by decide)).2.2.2
  have hP' := (made_rowN hM' (by omega)).2.2.2
  have h := rSame_any ⟨2, rs2⟩ ⟨2, l⟩ W _ _ 2 2 hP hP' (by decide) (by simp only; omega) B (hB.trans ⟨fun h => ⟨rfl, h⟩, fun h => h.2⟩)
  rw [show (RecM.s ⟨2, l⟩).length = 2 from hl] at h
  exact h
/-- a value's number, where it was made -/
theorem made_num {B : Nat} {W : World} {l : List PV} {g : Nat} {i : Nat} {n : Int} (h : Made B W l (.slice (some ⟨g, 0, none⟩) 2 2)) (hi : l[i]? = some (intV n)) : W.cell? ⟨g, i * 4 + 1, none⟩ = some (.int .i64 n) := by
  obtain ⟨g', C, e, _, hv, hC, he⟩ := h
  injection e with e1 e2 e3
  injection e1 with e1
  injection e1 with e1
  subst e1
  obtain ⟨c0, c1, c2, c3, q0, q1, q2, q3, _, a, e, _⟩ := he i _ hi
  simp only [Value.agg.injEq, Array.mk.injEq, List.cons.injEq, and_true] at e
  obtain ⟨rfl, rfl, rfl, rfl⟩ := e
  exact vat_cell hv _ _ q1
theorem vat_next {W : World} {g : Nat} {cs : Array Value} {o : Obj} (h : VAt W g cs) : VAt (W.alloc o) g cs := next_block h
theorem vat_eq {W : World} {g : Nat} {cs : Array Value} (h : g = W.heap.size) : VAt (W.alloc (.cells cs 42)) g cs := by subst h; exact vat_alloc _ _
theorem self_one (W : World) (o o' : Obj) : ((W.alloc o).alloc o').heap[W.heap.size + 1]? = some o' := by
  have h := heap_self9 (W.alloc o) o'
  rwa [World.size_alloc] at h
theorem vlt {W : World} {b : Nat} {o : Obj} (h : W.heap[b]? = some o) : b < W.heap.size := (Array.getElem?_eq_some_iff.1 h).1
/-- what keeps a template's box -/
def AS (W0 : World) (tb : Nat) (sa : Option Addr) (sc : Nat) (ta : Option Addr) (tc : Nat) (W : World) : Prop := W.cell? ⟨tb, 0, none⟩ = some (.string ⟨#[116]⟩) ∧ (W.cell? ⟨tb, 1, none⟩ = some (.slice sa 2 sc) ∧ W.cell? ⟨tb, 2, none⟩ = some (.slice ta 2 tc)) ∧ Below W0.heap.size W0 W
theorem as_below {W0 W W' : World} {tb : Nat} {c0 c1 c2 : Value} (h : W.cell? ⟨tb, 0, none⟩ = some c0 ∧ (W.cell? ⟨tb, 1, none⟩ = some c1 ∧ W.cell? ⟨tb, 2, none⟩ = some c2) ∧ Below W0.heap.size W0 W) (hb : Below W.heap.size W W') : W'.cell? ⟨tb, 0, none⟩ = some c0 ∧ (W'.cell? ⟨tb, 1, none⟩ = some c1 ∧ W'.cell? ⟨tb, 2, none⟩ = some c2) ∧ Below W0.heap.size W0 W' :=
  ⟨cell_below hb h.1, ⟨cell_below hb h.2.1.1, cell_below hb h.2.1.2⟩, h.2.2.trans (hb.mono h.2.2.size)⟩
theorem as_w {W0 W : World} {tb : Nat} {c0 c1 c2 : Value} (h : W.cell? ⟨tb, 0, none⟩ = some c0 ∧ (W.cell? ⟨tb, 1, none⟩ = some c1 ∧ W.cell? ⟨tb, 2, none⟩ = some c2) ∧ Below W0.heap.size W0 W) : Below W0.heap.size W0 W := h.2.2
theorem as_set {W0 W : World} {tb b i : Nat} {u c0 c1 c2 : Value} (h : W.cell? ⟨tb, 0, none⟩ = some c0 ∧ (W.cell? ⟨tb, 1, none⟩ = some c1 ∧ W.cell? ⟨tb, 2, none⟩ = some c2) ∧ Below W0.heap.size W0 W) (hne : tb ≠ b) (hb : W0.heap.size ≤ b) :
    (W.setCell ⟨b, i, none⟩ u).cell? ⟨tb, 0, none⟩ = some c0 ∧ ((W.setCell ⟨b, i, none⟩ u).cell? ⟨tb, 1, none⟩ = some c1 ∧ (W.setCell ⟨b, i, none⟩ u).cell? ⟨tb, 2, none⟩ = some c2) ∧ Below W0.heap.size W0 (W.setCell ⟨b, i, none⟩ u) :=
  ⟨cell_setS (k := 0) h.1 hne, ⟨cell_setS (k := 1) h.2.1.1 hne, cell_setS (k := 2) h.2.1.2 hne⟩, below_set1 h.2.2 hb⟩
theorem tcells {W : World} {tb : Nat} {sa : Option Addr} {sc : Nat} {ta : Option Addr} {tc : Nat} (h : TBox W tb sa sc ta tc) : W.cell? ⟨tb, 0, none⟩ = some (.string ⟨#[116]⟩) ∧ W.cell? ⟨tb, 1, none⟩ = some (.slice sa 2 sc) ∧ W.cell? ⟨tb, 2, none⟩ = some (.slice ta 2 tc) :=
  ⟨at_heap (i := 0) h.1 rfl, at_heap (i := 1) h.1 rfl, at_heap (i := 2) h.1 rfl⟩
/-- the ends of a region that makes a record and its box, in whichever order -/
theorem meetA {W0 w6 : World} {B q : Nat} {l : List PV} (hM : Made B w6 l (.slice (some ⟨q, 0, none⟩) 2 2)) (hB : W0.heap.size ≤ B) (hb : Below W0.heap.size W0 w6) : ∃ rb, Value.pointer (some ⟨w6.heap.size, 0, none⟩) = .pointer (some ⟨rb, 0, none⟩) ∧ Value.int .i64 0 = .int .i64 0 ∧ W0.heap.size ≤ rb ∧ RBox W0 (w6.alloc (.cells #[.int .i64 2, .slice (some ⟨q, 0, none⟩) 2 2] 31)) rb l ∧ Below W0.heap.size W0 (w6.alloc (.cells #[.int .i64 2, .slice (some ⟨q, 0, none⟩) 2 2] 31)) :=
  ⟨_, rfl, rfl, hb.size, ⟨q, heap_self9 _ _, made_mono (made_below hM ((Below.refl _ _).alloc (Nat.le_refl _) _)) hB⟩, hb.alloc hb.size _⟩
theorem meetB {W0 w6 : World} {B q b : Nat} {l : List PV} (hM : Made B w6 l (.slice (some ⟨q, 0, none⟩) 2 2)) (hB : W0.heap.size ≤ B) (hbB : b < B) (hge : W0.heap.size ≤ b) (hY : w6.heap[b]? = some (.cells #[.int .i64 0, .slice none 0 0] 31 (0, 0))) (hb : Below W0.heap.size W0 w6) :
    ∃ rb, Value.pointer (some ⟨b, 0, none⟩) = .pointer (some ⟨rb, 0, none⟩) ∧ Value.int .i64 0 = .int .i64 0 ∧ W0.heap.size ≤ rb ∧ RBox W0 ((w6.setCell ⟨b, 0, none⟩ (.int .i64 2)).setCell ⟨b, 1, none⟩ (.slice (some ⟨q, 0, none⟩) 2 2)) rb l ∧ Below W0.heap.size W0 ((w6.setCell ⟨b, 0, none⟩ (.int .i64 2)).setCell ⟨b, 1, none⟩ (.slice (some ⟨q, 0, none⟩) 2 2)) :=
  have h := step_outT (.int .i64 2) (.slice (some ⟨q, 0, none⟩) 2 2) hY hb hge
  ⟨_, rfl, rfl, hge, ⟨q, h.1, made_mono (made_set2 hM hbB _ _) hB⟩, h.2⟩
theorem as_le {W0 w5 : World} {B : Nat} (h : Below W0.heap.size W0 w5) (hb : w5.heap.size ≤ B) : W0.heap.size ≤ B := Nat.le_trans h.size hb
theorem allCells {W5 W : World} {tb rb sb g g7 q : Nat} {sa : Option Addr} {sc : Nat} {ta : Option Addr} {tc : Nat} {a5 a7 a3 : Value} (hb : Below W5.heap.size W5 W) (hT : TBox W5 tb sa sc ta tc) (hR : W5.heap[rb]? = some (.cells #[.int .i64 2, .slice (some ⟨g, 0, none⟩) 2 2] 31 (0, 0))) (hS : W5.heap[sb]? = some (.cells #[.int .i64 2, .slice (some ⟨g7, 0, none⟩) 2 2] 31 (0, 0)))
    (h0 : W5.cell? ⟨g, 5, none⟩ = some a5) (h1 : W5.cell? ⟨g7, 1, none⟩ = some a7) (h2 : W5.cell? ⟨q, 5, none⟩ = some a3) :
    (W.cell? ⟨tb, 0, none⟩ = some (.string ⟨#[116]⟩) ∧ W.cell? ⟨tb, 1, none⟩ = some (.slice sa 2 sc) ∧ W.cell? ⟨tb, 2, none⟩ = some (.slice ta 2 tc)) ∧ (W.cell? ⟨rb, 0, none⟩ = some (.int .i64 2) ∧ W.cell? ⟨rb, 1, none⟩ = some (.slice (some ⟨g, 0, none⟩) 2 2)) ∧ (W.cell? ⟨sb, 0, none⟩ = some (.int .i64 2) ∧ W.cell? ⟨sb, 1, none⟩ = some (.slice (some ⟨g7, 0, none⟩) 2 2)) ∧
      W.cell? ⟨g, 5, none⟩ = some a5 ∧ W.cell? ⟨g7, 1, none⟩ = some a7 ∧ W.cell? ⟨q, 5, none⟩ = some a3 :=
  ⟨tcells (tbox_below hT hb), ⟨cell_below hb (at_heap (i := 0) hR rfl), cell_below hb (at_heap (i := 1) hR rfl)⟩, ⟨cell_below hb (at_heap (i := 0) hS rfl), cell_below hb (at_heap (i := 1) hS rfl)⟩, cell_below hb h0, cell_below hb h1, cell_below hb h2⟩
def A5 (W3 : World) (tb rb : Nat) (sa : Option Addr) (sc : Nat) (ta : Option Addr) (tc : Nat) (g : Nat) (W : World) : Prop := (W.cell? ⟨tb, 0, none⟩ = some (.string ⟨#[116]⟩) ∧ W.cell? ⟨tb, 1, none⟩ = some (.slice sa 2 sc) ∧ W.cell? ⟨tb, 2, none⟩ = some (.slice ta 2 tc)) ∧ (W.cell? ⟨rb, 0, none⟩ = some (.int .i64 2) ∧ W.cell? ⟨rb, 1, none⟩ = some (.slice (some ⟨g, 0, none⟩) 2 2)) ∧ Below W3.heap.size W3 W
theorem a5_below {W0 W W' : World} {tb rb : Nat} {c0 c1 c2 d0 d1 : Value} (h : (W.cell? ⟨tb, 0, none⟩ = some c0 ∧ W.cell? ⟨tb, 1, none⟩ = some c1 ∧ W.cell? ⟨tb, 2, none⟩ = some c2) ∧ (W.cell? ⟨rb, 0, none⟩ = some d0 ∧ W.cell? ⟨rb, 1, none⟩ = some d1) ∧ Below W0.heap.size W0 W) (hb : Below W.heap.size W W') :
    (W'.cell? ⟨tb, 0, none⟩ = some c0 ∧ W'.cell? ⟨tb, 1, none⟩ = some c1 ∧ W'.cell? ⟨tb, 2, none⟩ = some c2) ∧ (W'.cell? ⟨rb, 0, none⟩ = some d0 ∧ W'.cell? ⟨rb, 1, none⟩ = some d1) ∧ Below W0.heap.size W0 W' :=
  ⟨⟨cell_below hb h.1.1, cell_below hb h.1.2.1, cell_below hb h.1.2.2⟩, ⟨cell_below hb h.2.1.1, cell_below hb h.2.1.2⟩, h.2.2.trans (hb.mono h.2.2.size)⟩
theorem a5_w {W0 W : World} {tb rb : Nat} {c0 c1 c2 d0 d1 : Value} (h : (W.cell? ⟨tb, 0, none⟩ = some c0 ∧ W.cell? ⟨tb, 1, none⟩ = some c1 ∧ W.cell? ⟨tb, 2, none⟩ = some c2) ∧ (W.cell? ⟨rb, 0, none⟩ = some d0 ∧ W.cell? ⟨rb, 1, none⟩ = some d1) ∧ Below W0.heap.size W0 W) : Below W0.heap.size W0 W := h.2.2
theorem a5_set {W0 W : World} {tb rb b i : Nat} {u c0 c1 c2 d0 d1 : Value} (h : (W.cell? ⟨tb, 0, none⟩ = some c0 ∧ W.cell? ⟨tb, 1, none⟩ = some c1 ∧ W.cell? ⟨tb, 2, none⟩ = some c2) ∧ (W.cell? ⟨rb, 0, none⟩ = some d0 ∧ W.cell? ⟨rb, 1, none⟩ = some d1) ∧ Below W0.heap.size W0 W) (hne : tb ≠ b) (hne2 : rb ≠ b) (hb : W0.heap.size ≤ b) :
    ((W.setCell ⟨b, i, none⟩ u).cell? ⟨tb, 0, none⟩ = some c0 ∧ (W.setCell ⟨b, i, none⟩ u).cell? ⟨tb, 1, none⟩ = some c1 ∧ (W.setCell ⟨b, i, none⟩ u).cell? ⟨tb, 2, none⟩ = some c2) ∧ ((W.setCell ⟨b, i, none⟩ u).cell? ⟨rb, 0, none⟩ = some d0 ∧ (W.setCell ⟨b, i, none⟩ u).cell? ⟨rb, 1, none⟩ = some d1) ∧ Below W0.heap.size W0 (W.setCell ⟨b, i, none⟩ u) :=
  ⟨⟨cell_setS (k := 0) h.1.1 hne, cell_setS (k := 0) h.1.2.1 hne, cell_setS (k := 0) h.1.2.2 hne⟩, ⟨cell_setS (k := 0) h.2.1.1 hne2, cell_setS (k := 0) h.2.1.2 hne2⟩, below_set1 h.2.2 hb⟩
set_option maxHeartbeats 8000000 in
theorem recAlive_any (w : World) : Calls Tryz.prog 9 #[] w fun e w' => e = .returned (.bool true) ∧ Below w.heap.size w w' := by
  have hTw := refTwo_any w
  have hI5 := fun W => refInt03_any 5 W
  have hM5 := fun W sa sc ta tc g hT hg => cMake5 W sa sc ta tc g hT hg
  have HI5 := Lib.hid hI5; have HM5 := Lib.hid hM5
  clear hI5 hM5
  go_enter Tryz.func9, Tryz.ntmps9
  go_upto_region 2 with (first
    | (go_at_call 30; (with_reducible refine hTw.mono ?_); rintro e w1 ⟨⟨X, rfl, hX⟩, hB1⟩; obtain ⟨h1, sa, sc, ta, tc, rfl, hX2⟩ := hX; have hT1 : IsTempl w1 twoT (tT sa sc ta tc) := ⟨h1, sa, sc, ta, tc, rfl, hX2⟩))
  have hA1 := (Below.refl _ w1).alloc (Nat.le_refl _) (.cells #[.string twoT.nm, .slice sa twoT.slots.length sc, .slice ta twoT.steps.length tc] 25)
  have hTB : TBox (w1.alloc (.cells #[.string twoT.nm, .slice sa twoT.slots.length sc, .slice ta twoT.steps.length tc] 25)) w1.heap.size sa sc ta tc := ⟨heap_self9 w1 _, isTempl_below hA1 hT1⟩
  have hw0 := hB1.trans (hA1.mono hB1.size)
  obtain ⟨W0, hW0⟩ : ∃ W0, w1.alloc (.cells #[.string twoT.nm, .slice sa twoT.slots.length sc, .slice ta twoT.steps.length tc] 25) = W0 := ⟨_, rfl⟩
  obtain ⟨tb, htb⟩ : ∃ tb, w1.heap.size = tb := ⟨_, rfl⟩
  have htlt := vlt hTB.1
  rw [hW0] at hTB hw0 htlt ⊢
  rw [htb] at hTB htlt ⊢
  clear hW0 hA1 hT1 hX2 htb h1 hB1 hTw
  have y0 := at_heap (i := 0) (v := .string ⟨#[116]⟩) hTB.1 rfl
  have y1 := at_heap (i := 1) (v := .slice sa 2 sc) hTB.1 rfl
  have y2 := at_heap (i := 2) (v := .slice ta 2 tc) hTB.1 rfl
  have hbase : W0.cell? ⟨tb, 0, none⟩ = some (.string ⟨#[116]⟩) ∧ (W0.cell? ⟨tb, 1, none⟩ = some (.slice sa 2 sc) ∧ W0.cell? ⟨tb, 2, none⟩ = some (.slice ta 2 tc)) ∧ Below W0.heap.size W0 W0 := ⟨y0, ⟨y1, y2⟩, Below.refl _ _⟩
  have hTW := fun W (hb : Below W0.heap.size W0 W) => isTempl_below hb hTB.2
  have HTW := Lib.hid hTW
  have hz := build_rec0
  clear hTW
  go_cut [2, 3] (fun s2 s3 W => ∃ rb, s2 = .pointer (some ⟨rb, 0, none⟩) ∧ s3 = .int .i64 0 ∧ W0.heap.size ≤ rb ∧ RBox W0 W rb rs2 ∧ Below W0.heap.size W0 W)
  case first =>
    go_region_held3 (fun W => W.cell? ⟨tb, 0, none⟩ = some (.string ⟨#[116]⟩) ∧ (W.cell? ⟨tb, 1, none⟩ = some (.slice sa 2 sc) ∧ W.cell? ⟨tb, 2, none⟩ = some (.slice ta 2 tc)) ∧ Below W0.heap.size W0 W) (first | assumption | exact as_below hbase (below_drew _) | exact as_below hbase (((Below.refl _ W0).alloc (Nat.le_refl _) _).drew) | exact as_below (by assumption) hb6 | exact as_below (by assumption) hb5 | exact as_below (by assumption) ((Below.refl _ _).alloc (Nat.le_refl _) _) | exact as_below (by assumption) (below_drewN (Below.refl _ _) _) | exact as_set (as_set (by assumption) (by omega) (by omega)) (by omega) (by omega) | exact as_below hSM ((Below.refl _ _).alloc (Nat.le_refl _) _)) (first
      | (go_at_call 31; first
        | ((with_reducible refine (HI5.out (W0.alloc (.cells #[.int .i64 0, .slice none 0 0] 31)).drew).mono ?_); rintro e w5 ⟨rfl, hb5⟩; have hY := (hb5.block W0.heap.size (by simp)).trans (heap_self9 W0 (.cells #[.int .i64 0, .slice none 0 0] 31)); obtain ⟨f0, f1, f2, f3⟩ := two_all hY; have hsI := Nat.le_trans (as_w (by assumption)).size hb5.size; have hSI : AS W0 tb sa sc ta tc w5 := as_below (by assumption) hb5)
        | ((with_reducible refine (HI5.out _).mono ?_); rintro e w5 ⟨rfl, hb5⟩; have hsI := Nat.le_trans (as_w (by assumption)).size hb5.size; have hSI : AS W0 tb sa sc ta tc w5 := as_below (by assumption) hb5))
      | (go_at_call 12; first
        | ((with_reducible refine (HM5.out ((w5.alloc (.cells #[.int .i64 0, .slice none 0 0] 31)).alloc (.cells #[.int .i64 2, .int .i64 5, .string ⟨#[]⟩, .slice none 0 0] 42)) _ _ _ _ _ (HTW.out _ (as_w (by assumption))) (vat_eq (by simp))).mono ?_); rintro e w6 ⟨⟨q, rfl, hMd⟩, hb6⟩; have hY := (hb6.block w5.heap.size (by simp; omega)).trans (next_block (heap_self9 w5 (.cells #[.int .i64 0, .slice none 0 0] 31))); obtain ⟨f0, f1, f2, f3⟩ := two_all hY; have hsM := Nat.le_trans (as_w (by assumption)).size hb6.size; have hSM : AS W0 tb sa sc ta tc w6 := as_below (by assumption) hb6)
        | ((with_reducible refine (HM5.out ((w5.alloc (.cells #[.int .i64 2, .int .i64 5, .string ⟨#[]⟩, .slice none 0 0] 42)).alloc (.cells #[.int .i64 0, .slice none 0 0] 31)) _ _ _ _ _ (HTW.out _ (as_w (by assumption))) (vat_next (vat_alloc _ _))).mono ?_); rintro e w6 ⟨⟨q, rfl, hMd⟩, hb6⟩; have hY := (hb6.block (w5.heap.size + 1) (by simp)).trans (self_one w5 _ (.cells #[.int .i64 0, .slice none 0 0] 31)); obtain ⟨f0, f1, f2, f3⟩ := two_all hY; have hsM := Nat.le_trans (as_w (by assumption)).size hb6.size; have hSM : AS W0 tb sa sc ta tc w6 := as_below (by assumption) hb6)
        | ((with_reducible refine (HM5.out (w5.alloc (.cells #[.int .i64 2, .int .i64 5, .string ⟨#[]⟩, .slice none 0 0] 42)) _ _ _ _ _ (HTW.out _ (as_w (by assumption))) (vat_alloc _ _)).mono ?_); rintro e w6 ⟨⟨q, rfl, hMd⟩, hb6⟩; (first | (have hY := (hb6.block _ (vlt (next_block hY))).trans (next_block hY); obtain ⟨f0, f1, f2, f3⟩ := two_all hY) | skip); have hsM := Nat.le_trans (as_w (by assumption)).size hb6.size; have hSM : AS W0 tb sa sc ta tc w6 := as_below (by assumption) hb6)))
    all_goals (go_wp2_with fail; go_meet)
    all_goals first
      | exact meetA hMd (by first | omega | (simp only [World.size_alloc]; omega) | (simp; done) | (simp; omega)) hSM.2.2
      | exact meetB hMd (by first | omega | (simp only [World.size_alloc]; omega) | (simp; done) | (simp; omega)) (by first | omega | (simp only [World.size_alloc]; omega) | (simp; done) | (simp; omega)) (by first | omega | (simp only [World.size_alloc]; omega) | (simp; done) | (simp; omega)) hY hSM.2.2
  case rest =>
    obtain ⟨rb, rfl, rfl, hrge, hRB, hBc⟩ := hcut
    obtain ⟨g, hRb, hRM⟩ := hRB
    have hTc := tbox_below hTB hBc
    obtain ⟨c0, c1, c2⟩ := tcells hTc
    have hM9 := cMake9 wc sa sc ta tc hTc.2
    have hwc := hw0.trans (hBc.mono hw0.size)
    have htc := vlt hTc.1
    have hrc := vlt hRb
    clear HM5 HI5 HTW y0 y1 y2 hbase hTB htlt hBc hw0
    go_upto_region 4 with (first
      | (go_at_call 12; (with_reducible refine hM9.mono ?_); rintro e w2 ⟨rfl, hB2⟩))
    have hA2 := hB2.trans (((Below.refl _ w2).alloc (Nat.le_refl _) (.cells #[.int .i64 0, .slice none 0 0] 31)).mono hB2.size)
    have hT3 := tbox_below hTc hA2
    have hR3 := (hA2.block _ hrc).trans hRb
    have hRM3 := made_below hRM hA2
    have hw3 := hwc.trans (hA2.mono hwc.size)
    obtain ⟨W3, hW3⟩ : ∃ W3, w2.alloc (.cells #[.int .i64 0, .slice none 0 0] 31) = W3 := ⟨_, rfl⟩
    have ht3 := vlt hT3.1
    have hr3 := vlt hR3
    rw [hW3] at hT3 hR3 hRM3 hw3 ht3 hr3 ⊢
    clear hW3 hA2 hB2 hM9 hTc hRb hRM hwc htc hrc c0 c1 c2
    have hI7 := fun W => refInt03_any 7 W
    have hS7 := fun W (hb : Below W3.heap.size W3 W) => cSet7 W0 W sa sc ta tc g (isTempl_below hb hT3.2) (made_below hRM3 hb)
    have HI7 := Lib.hid hI7; have HS7 := Lib.hid hS7
    clear hI7 hS7
    obtain ⟨c0, c1, c2⟩ := tcells hT3
    obtain ⟨d0, d1, _, _⟩ := two_all hR3
    have hbase : (W3.cell? ⟨tb, 0, none⟩ = some (.string ⟨#[116]⟩) ∧ W3.cell? ⟨tb, 1, none⟩ = some (.slice sa 2 sc) ∧ W3.cell? ⟨tb, 2, none⟩ = some (.slice ta 2 tc)) ∧ (W3.cell? ⟨rb, 0, none⟩ = some (.int .i64 2) ∧ W3.cell? ⟨rb, 1, none⟩ = some (.slice (some ⟨g, 0, none⟩) 2 2)) ∧ Below W3.heap.size W3 W3 := ⟨⟨c0, c1, c2⟩, ⟨d0, d1⟩, Below.refl _ _⟩
    go_cut [6, 7] (fun s6 s7 W => ∃ sb, s6 = .pointer (some ⟨sb, 0, none⟩) ∧ s7 = .int .i64 0 ∧ W3.heap.size ≤ sb ∧ RBox W3 W sb rs7 ∧ Below W3.heap.size W3 W)
    case first =>
      go_region_held3 (fun W => (W.cell? ⟨tb, 0, none⟩ = some (.string ⟨#[116]⟩) ∧ W.cell? ⟨tb, 1, none⟩ = some (.slice sa 2 sc) ∧ W.cell? ⟨tb, 2, none⟩ = some (.slice ta 2 tc)) ∧ (W.cell? ⟨rb, 0, none⟩ = some (.int .i64 2) ∧ W.cell? ⟨rb, 1, none⟩ = some (.slice (some ⟨g, 0, none⟩) 2 2)) ∧ Below W3.heap.size W3 W) (first | assumption | exact a5_below hbase (below_drew _) | exact a5_below hbase (((Below.refl _ W3).alloc (Nat.le_refl _) _).drew) | exact a5_below (by assumption) hb6 | exact a5_below (by assumption) hb5 | exact a5_below (by assumption) ((Below.refl _ _).alloc (Nat.le_refl _) _) | exact a5_below (by assumption) (below_drewN (Below.refl _ _) _) | exact a5_set (a5_set (by assumption) (by omega) (by omega) (by omega)) (by omega) (by omega) (by omega) | exact a5_below hSM ((Below.refl _ _).alloc (Nat.le_refl _) _)) (first
        | (go_at_call 31; first
          | ((with_reducible refine (HI7.out (W3.alloc (.cells #[.int .i64 0, .slice none 0 0] 31)).drew).mono ?_); rintro e w5 ⟨rfl, hb5⟩; have hY := (hb5.block W3.heap.size (by simp)).trans (heap_self9 W3 (.cells #[.int .i64 0, .slice none 0 0] 31)); obtain ⟨f0, f1, f2, f3⟩ := two_all hY; have hlt5 := vlt hY; have hsI := Nat.le_trans (a5_w (by assumption)).size hb5.size; have hSI : A5 W3 tb rb sa sc ta tc g w5 := a5_below (by assumption) hb5)
          | ((with_reducible refine (HI7.out _).mono ?_); rintro e w5 ⟨rfl, hb5⟩; have hsI := Nat.le_trans (a5_w (by assumption)).size hb5.size; have hSI : A5 W3 tb rb sa sc ta tc g w5 := a5_below (by assumption) hb5))
        | (go_at_call 32; first
          | ((with_reducible refine (HS7.out (w5.alloc (.cells #[.int .i64 0, .slice none 0 0] 31)) (a5_w (by assumption))).mono ?_); rintro e w6 ⟨⟨q, rfl, hMd⟩, hb6⟩; have hY := (hb6.block w5.heap.size (by simp)).trans (heap_self9 w5 (.cells #[.int .i64 0, .slice none 0 0] 31)); obtain ⟨f0, f1, f2, f3⟩ := two_all hY; have hsM := Nat.le_trans (a5_w (by assumption)).size hb6.size; have hSM : A5 W3 tb rb sa sc ta tc g w6 := a5_below (by assumption) hb6)
          | ((with_reducible refine (HS7.out w5 (a5_w (by assumption))).mono ?_); rintro e w6 ⟨⟨q, rfl, hMd⟩, hb6⟩; (first | (have hY := (hb6.block _ (vlt hY)).trans hY; obtain ⟨f0, f1, f2, f3⟩ := two_all hY) | skip); have hsM := Nat.le_trans (a5_w (by assumption)).size hb6.size; have hSM : A5 W3 tb rb sa sc ta tc g w6 := a5_below (by assumption) hb6)))
      all_goals (go_wp2_with fail; go_meet)
      all_goals first
        | exact meetA hMd (by first | omega | (simp only [World.size_alloc]; omega) | (simp; done) | (simp; omega)) hSM.2.2
        | exact meetB hMd (by first | omega | (simp only [World.size_alloc]; omega) | (simp; done) | (simp; omega)) (by first | omega | (simp only [World.size_alloc]; omega) | (simp; done) | (simp; omega)) (by first | omega | (simp only [World.size_alloc]; omega) | (simp; done) | (simp; omega)) hY hSM.2.2
    case rest =>
      obtain ⟨sb, rfl, rfl, hsge, hSB, hBc⟩ := hcut
      obtain ⟨g7, hSb, hSM⟩ := hSB
      obtain ⟨W4, hW4⟩ : ∃ W4, wc = W4 := ⟨_, rfl⟩
      rw [hW4] at hSb hSM hBc ⊢
      have hT4 := tbox_below hT3 hBc
      have hR4 := (hBc.block _ hr3).trans hR3
      have hRM4 := made_below hRM3 hBc
      have hw4 := hw3.trans (hBc.mono hw3.size)
      have ht4 := vlt hT4.1
      have hr4 := vlt hR4
      have hs4 := vlt hSb
      have hI3 := fun W => refInt03_any 3 W
      have hF3 := fun W b q (hb : Below W4.heap.size W4 W) (h1 : NBAt W b) (h2 : VAt W q (iC 3)) => cFill3 W sa sc ta tc b q (isTempl_below hb hT4.2) h1 h2
      have HI3 := Lib.hid hI3; have HF3 := Lib.hid hF3
      obtain ⟨c0, c1, c2⟩ := tcells hT4
      have hbase : W4.cell? ⟨tb, 0, none⟩ = some (.string ⟨#[116]⟩) ∧ (W4.cell? ⟨tb, 1, none⟩ = some (.slice sa 2 sc) ∧ W4.cell? ⟨tb, 2, none⟩ = some (.slice ta 2 tc)) ∧ Below W4.heap.size W4 W4 := ⟨c0, ⟨c1, c2⟩, Below.refl _ _⟩
      clear hW4 hBc hT3 hR3 hRM3 hw3 ht3 hr3 hI3 hF3 HI7 HS7
      go_upto_region 5 with fail
      go_cut [8, 9] (fun s8 s9 W => ∃ q, s8 = .slice (some ⟨q, 0, none⟩) 2 2 ∧ s9 = .int .i64 0 ∧ Made W4.heap.size W rs3 (.slice (some ⟨q, 0, none⟩) 2 2) ∧ Below W4.heap.size W4 W)
      case first =>
        go_region_held3 (fun W => W.cell? ⟨tb, 0, none⟩ = some (.string ⟨#[116]⟩) ∧ (W.cell? ⟨tb, 1, none⟩ = some (.slice sa 2 sc) ∧ W.cell? ⟨tb, 2, none⟩ = some (.slice ta 2 tc)) ∧ Below W4.heap.size W4 W) (first | assumption | exact as_below hbase (below_drew _) | exact as_below hbase (((Below.refl _ W4).alloc (Nat.le_refl _) _).drew) | exact as_below (by assumption) hb6 | exact as_below (by assumption) hb5 | exact as_below (by assumption) ((Below.refl _ _).alloc (Nat.le_refl _) _) | exact as_below (by assumption) (below_drewN (Below.refl _ _) _)) (first
          | (go_at_call 31; first
            | ((with_reducible refine (HI3.out (W4.alloc (.cells #[.string ⟨#[98]⟩] 9)).drew).mono ?_); rintro e w5 ⟨rfl, hb5⟩; have hN := nb_later (nb_self W4) hb5; have hSI : AS W4 tb sa sc ta tc w5 := as_below (by assumption) hb5)
            | ((with_reducible refine (HI3.out _).mono ?_); rintro e w5 ⟨rfl, hb5⟩; have hSI : AS W4 tb sa sc ta tc w5 := as_below (by assumption) hb5))
          | (go_at_call 14; first
            | ((with_reducible refine (HF3.out ((w5.alloc (.cells #[.string ⟨#[98]⟩] 9)).alloc (.cells #[.int .i64 2, .int .i64 3, .string ⟨#[]⟩, .slice none 0 0] 42)) _ _ (as_w (by assumption)) (nb_next (nb_self w5)) (vat_eq (by simp))).mono ?_); rintro e w6 ⟨⟨q, rfl, hMd⟩, hb6⟩; have hSM : AS W4 tb sa sc ta tc w6 := as_below (by assumption) hb6)
            | ((with_reducible refine (HF3.out ((w5.alloc (.cells #[.int .i64 2, .int .i64 3, .string ⟨#[]⟩, .slice none 0 0] 42)).alloc (.cells #[.string ⟨#[98]⟩] 9)) _ _ (as_w (by assumption)) (nb_self1 w5 _) (vat_next (vat_alloc _ _))).mono ?_); rintro e w6 ⟨⟨q, rfl, hMd⟩, hb6⟩; have hSM : AS W4 tb sa sc ta tc w6 := as_below (by assumption) hb6)
            | ((with_reducible refine (HF3.out (w5.alloc (.cells #[.int .i64 2, .int .i64 3, .string ⟨#[]⟩, .slice none 0 0] 42)) _ _ (as_w (by assumption)) (nb_next hN) (vat_alloc _ _)).mono ?_); rintro e w6 ⟨⟨q, rfl, hMd⟩, hb6⟩; have hSM : AS W4 tb sa sc ta tc w6 := as_below (by assumption) hb6)))
        all_goals (go_wp2_with fail; go_meet)
        all_goals first
          | exact ⟨q, rfl, rfl, made_mono hMd (as_le hSI.2.2 (by first | omega | (simp only [World.size_alloc]; omega) | (simp; done) | (simp; omega))), hSM.2.2⟩
      case rest =>
        obtain ⟨q, rfl, rfl, hQM, hBc⟩ := hcut
        obtain ⟨W5, hW5⟩ : ∃ W5, wc = W5 := ⟨_, rfl⟩
        rw [hW5] at hQM hBc ⊢
        have hT5 := tbox_below hT4 hBc
        have hR5 := (hBc.block _ hr4).trans hR4
        have hS5 := (hBc.block _ hs4).trans hSb
        have hRM5 := made_below hRM4 hBc
        have hSM5 := made_below hSM hBc
        have hw5 := hw4.trans (hBc.mono hw4.size)
        have ht5 := vlt hT5.1
        have hr5 := vlt hR5
        have hs5 := vlt hS5
        have hF0 := cFill0 W5 sa sc ta tc hT5.2
        have hVa := fun W (hb : Below W5.heap.size W5 W) => cValid W0 W sa sc ta tc g (isTempl_below hb hT5.2) (made_below hRM5 hb)
        have hRo := fun W (hb : Below W5.heap.size W5 W) => cRow W0 W sa sc ta tc g (isTempl_below hb hT5.2) (made_below hRM5 hb)
        have hS1 := fun W (hb : Below W5.heap.size W5 W) => cSame W0 W0 W g g rs2 rfl true (by simp) (made_below hRM5 hb) (made_below hRM5 hb)
        have hS2 := fun W (hb : Below W5.heap.size W5 W) => cSame W0 W3 W g g7 rs7 rfl false (by simp [rs2, rs7, intV]) (made_below hRM5 hb) (made_below hSM5 hb)
        have HF0 := Lib.hid hF0; have HVa := Lib.hid hVa; have HRo := Lib.hid hRo; have HS1 := Lib.hid hS1; have HS2 := Lib.hid hS2
        have n0 : W5.cell? ⟨g, 5, none⟩ = some (.int .i64 5) := made_num (i := 1) hRM5 rfl
        have n1 : W5.cell? ⟨g7, 1, none⟩ = some (.int .i64 7) := made_num (i := 0) hSM5 rfl
        have n2 : W5.cell? ⟨q, 5, none⟩ = some (.int .i64 3) := made_num (i := 1) hQM rfl
        have hall := fun W (hb : Below W5.heap.size W5 W) => allCells hb hT5 hR5 hS5 n0 n1 n2
        have HALL := Lib.hid hall
        obtain ⟨⟨c0, c1, c2⟩, ⟨d0, d1⟩, ⟨e0, e1⟩, m0, m1, m2⟩ := hall W5 (Below.refl _ _)
        have hwW := Lib.hid hw5
        clear hF0 hVa hRo hS1 hS2 hall n0 n1 n2 hT5 hR5 hS5 hRM5 hSM5 hT4 hR4 hSb hRM4 hSM hQM hBc hW5 hw5 hw4 HI3 HF3 hbase
        go_wp2_with (first
          | (go_at_call 14; (with_reducible refine HF0.out.mono ?_); rintro e w6 ⟨⟨S9, rfl⟩, hB6⟩; obtain ⟨⟨c0, c1, c2⟩, ⟨d0, d1⟩, ⟨e0, e1⟩, m0, m1, m2⟩ := HALL.out w6 hB6)
          | (go_at_call 33; (with_reducible refine (HVa.out _ hB6).mono ?_); rintro e w7 ⟨rfl, hB7⟩; have hB7' := hB6.trans (hB7.mono hB6.size); obtain ⟨⟨c0, c1, c2⟩, ⟨d0, d1⟩, ⟨e0, e1⟩, m0, m1, m2⟩ := HALL.out w7 hB7')
          | (go_at_call 34; (with_reducible refine (HRo.out _ hB7').mono ?_); rintro e w8 ⟨⟨q8, rfl⟩, hB8⟩; have hB8' := hB7'.trans (hB8.mono hB7'.size); obtain ⟨⟨c0, c1, c2⟩, ⟨d0, d1⟩, ⟨e0, e1⟩, m0, m1, m2⟩ := HALL.out w8 hB8')
          | (go_at_call 35; first
            | ((with_reducible refine (HS1.out w8 hB8').mono ?_); rintro e w9 ⟨rfl, hB9⟩; have hB9' := hB8'.trans (hB9.mono hB8'.size); obtain ⟨⟨c0, c1, c2⟩, ⟨d0, d1⟩, ⟨e0, e1⟩, m0, m1, m2⟩ := HALL.out w9 hB9')
            | ((with_reducible refine (HS2.out w9 hB9').mono ?_); rintro e w10 ⟨rfl, hB10⟩; have hB10' := hB9'.trans (hB10.mono hB9'.size))))
        go_ret
        exact ⟨rfl, hwW.out.trans (hB10'.mono hwW.out.size)⟩
end Go.Proofs.YtibjjclfonpibaaGreat
