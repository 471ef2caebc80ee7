/- Records: the mathematics, and rows of values in memory (no walk). -/
import Derived.Test.YtibjjclfonpibaaMh14Cast
import Derived.Test.YtibjjclfonpibaaMh15Cast
import Derived.Test.YtibjjclfonpibaaMh11Cast
set_option linter.unusedVariables false
set_option linter.unusedSimpArgs false
set_option maxRecDepth 100000
namespace Go.Proofs.Ytibjjclfonpibaa
open Go.RowKit Go.Shelf
structure RecM where
  v : Int
  s : List PV
namespace Rc
/-- the version of a number -/
def verOf (t : TemplM) (v : Int) : Option Sc.Ver := if v < 1 then none else (Sc.vers t).bind fun L => L[(v - 1).toNat]?
/-- is there a value for each slot, and it fits? -/
def fitL : List SlotM → List PV → Bool
  | [], [] => true
  | s :: r, v :: q => Sc.fits s.ty v && fitL r q
  | _, _ => false
def verR (t : TemplM) (r : RecM) : Option Sc.Ver := match verOf t r.v with
  | none => none
  | some x => if fitL x.slots r.s = true then some x else none
/-- the first place of a number -/
def ix (l : List Nat) (n : Nat) : Option Nat := l.findIdx? fun c => decide (c = n)
/-- what a record is made of -/
def made (x : Sc.Ver) (row : List PV) : List PV := (List.range x.slots.length).map fun n => match ix x.cols n with
  | none => (Sc.slotOf x n).df
  | some c => row[c]?.getD Sc.nilV
theorem fitL_iff : ∀ (a : List SlotM) (b : List PV), fitL a b = true ↔ a.length = b.length ∧ ∀ (i : Nat) (s : SlotM) (v : PV), a[i]? = some s → b[i]? = some v → Sc.fits s.ty v = true := by
  intro a
  induction a with
  | nil => intro b; cases b <;> simp [fitL]
  | cons s r ih =>
    intro b
    cases b with
    | nil => simp [fitL]
    | cons v q =>
      simp only [fitL, Bool.and_eq_true, ih q, List.length_cons, Nat.add_right_cancel_iff]
      constructor
      · rintro ⟨h1, h2, h3⟩
        refine ⟨h2, fun i s' v' hs hv => ?_⟩
        cases i with
        | zero => simp at hs hv; subst hs hv; exact h1
        | succ i => exact h3 i s' v' (by simpa using hs) (by simpa using hv)
      · rintro ⟨h1, h2⟩
        exact ⟨h2 0 s v rfl rfl, h1, fun i s' v' hs hv => h2 (i + 1) s' v' (by simpa using hs) (by simpa using hv)⟩
theorem fitL_len {a : List SlotM} {b : List PV} (h : fitL a b = true) : a.length = b.length := ((fitL_iff a b).1 h).1
theorem fitL_right {a : List SlotM} {b : List PV} (h : fitL a b = true) : ∀ v ∈ b, rightV v = true := by
  obtain ⟨h1, h2⟩ := (fitL_iff a b).1 h
  intro v hv
  obtain ⟨i, hi⟩ := List.mem_iff_getElem?.1 hv
  have hlt := (List.getElem?_eq_some_iff.1 hi).1
  have := h2 i _ v (List.getElem?_eq_getElem (by omega)) hi
  unfold Sc.fits at this
  simp only [Bool.and_eq_true] at this
  exact this.1
end Rc
/-- values in a row -/
def PRow (w : World) (a : Option Addr) (cap : Nat) (l : List PV) : Prop := l.length ≤ cap ∧ cap ≤ maxLen ∧ (l = [] ∨ ∃ b off, a = some ⟨b, off, none⟩ ∧ IsL w b l off)
theorem pRow_below {w w' : World} (hb : Below w.heap.size w w') {a : Option Addr} {cap : Nat} {l : List PV} (h : PRow w a cap l) : PRow w' a cap l :=
  ⟨h.1, h.2.1, h.2.2.imp id fun ⟨b, off, ha, hc⟩ => ⟨b, off, ha, isL_below hb hc⟩⟩
/-- the value at a place of a row -/
theorem pRow_val {W : World} {a : Option Addr} {cap : Nat} {l : List PV} (h : PRow W a cap l) {i : Nat} {v : PV} (hv : l[i]? = some v) : ∃ b off k n t la ll lc, a = some ⟨b, off, none⟩ ∧
    (W.cell? ⟨b, off + i * 4, none⟩ = some (.int .i64 k) ∧ W.cell? ⟨b, off + i * 4 + 1, none⟩ = some (.int .i64 n) ∧ W.cell? ⟨b, off + i * 4 + 2, none⟩ = some (.string t) ∧ W.cell? ⟨b, off + i * 4 + 3, none⟩ = some (.slice la ll lc)) ∧
    Is W v (.agg #[.int .i64 k, .int .i64 n, .string t, .slice la ll lc]) := by
  rcases h.2.2 with h3 | ⟨b, off, ha, hc⟩
  · subst h3; simp at hv
  · cases v with
    | mk k n t r =>
      obtain ⟨la, lc, hcs, hi⟩ := isL_val hc i k n t r hv
      exact ⟨b, off, k, n, t, la, _, lc, ha, hcs, hi⟩
/-- a value as an answer -/
theorem is_form9 {W : World} {v : PV} {X : Value} (h : Is W v X) : ∃ k n t la ll lc, X = .agg #[.int .i64 k, .int .i64 n, .string t, .slice la ll lc] := by
  cases v
  unfold Is at h
  obtain ⟨_, _, _, a, cap, rfl, _⟩ := h
  exact ⟨_, _, _, _, _, _, rfl⟩
theorem copied_later {B : Nat} {w w1 : World} {v : PV} {x : Value} (h : Copied B w v x) (hs : w.heap.size ≤ w1.heap.size) (hb : ∀ b, B ≤ b → b < w.heap.size → w1.heap[b]? = w.heap[b]?) : Copied B w1 v x := by
  cases v with
  | mk k n s l =>
    obtain ⟨hf, a, rfl, h2⟩ := h
    refine ⟨fresh_later hf hs hb, a, rfl, ?_⟩
    rcases h2 with h2 | ⟨hl, g, C, ha, hg, hh, hC, he⟩
    · exact .inl h2
    · refine .inr ⟨hl, g, C, ha, hg, (hb g hg (Array.getElem?_eq_some_iff.1 hh).1).trans hh, hC, fun i y hy => ?_⟩
      obtain ⟨c0, c1, c2, c3, q0, q1, q2, q3, hf⟩ := he i y hy
      exact ⟨c0, c1, c2, c3, q0, q1, q2, q3, fresh_later hf hs fun b h1 h2 => hb b (by omega) h2⟩
theorem copied_mono {B B' : Nat} {w : World} {v : PV} {x : Value} (h : Copied B w v x) (hb : B' ≤ B) : Copied B' w v x := by
  cases v with
  | mk k n s l =>
    obtain ⟨hf, a, rfl, h2⟩ := h
    refine ⟨fresh_mono hf hb, a, rfl, ?_⟩
    rcases h2 with h2 | ⟨hl, g, C, ha, hg, r⟩
    · exact .inl h2
    · exact .inr ⟨hl, g, C, ha, Nat.le_trans hb hg, r⟩
/-- values gathered: a row of one's own, each a copy -/
def Made (B : Nat) (W : World) (vs : List PV) (X : Value) : Prop := ∃ g C, X = .slice (some ⟨g, 0, none⟩) vs.length vs.length ∧ B ≤ g ∧ VAt W g C ∧ C.size = vs.length * 4 ∧
  ∀ i y, vs[i]? = some y → ∃ c0 c1 c2 c3, C[i * 4]? = some c0 ∧ C[i * 4 + 1]? = some c1 ∧ C[i * 4 + 2]? = some c2 ∧ C[i * 4 + 3]? = some c3 ∧ Copied (g + 1) W y (.agg #[c0, c1, c2, c3])
/-- it reads as a row wherever its blocks are as they were -/
theorem made_row {B : Nat} {w w1 : World} {vs : List PV} {X : Value} (h : Made B w vs X) (hl : vs.length ≤ 1000000) (hb : ∀ b, B ≤ b → b < w.heap.size → w1.heap[b]? = w.heap[b]?) : ∃ g, X = .slice (some ⟨g, 0, none⟩) vs.length vs.length ∧ B ≤ g ∧ PRow w1 (some ⟨g, 0, none⟩) vs.length vs := by
  obtain ⟨g, C, rfl, hg, hv, hC, he⟩ := h
  have hv1 : VAt w1 g C := (hb g hg (vat_lt hv)).trans hv
  refine ⟨g, rfl, hg, Nat.le_refl _, by unfold maxLen; omega, .inr ⟨g, 0, rfl, isL_of fun i y hy => ?_⟩⟩
  obtain ⟨c0, c1, c2, c3, q0, q1, q2, q3, hc⟩ := he i y hy
  have hf : Fresh (g + 1) w y (.agg #[c0, c1, c2, c3]) := by cases y; exact hc.1
  refine ⟨c0, c1, c2, c3, ⟨?_, ?_, ?_, ?_⟩, hf w1 fun b h1 h2 => hb b (by omega) h2⟩
  · rw [Nat.zero_add]; exact vat_cell hv1 _ _ q0
  · rw [Nat.zero_add]; exact vat_cell hv1 _ _ q1
  · rw [Nat.zero_add]; exact vat_cell hv1 _ _ q2
  · rw [Nat.zero_add]; exact vat_cell hv1 _ _ q3
/-- what a round of gather has come to -/
def GInv (w : World) (g : Nat) (vs : List PV) (q : Nat) (wr : World) : Prop := Below w.heap.size w wr ∧ w.heap.size ≤ g ∧ ∃ C, VAt wr g C ∧ C.size = vs.length * 4 ∧
  ∀ i y, i < q → vs[i]? = some y → ∃ c0 c1 c2 c3, C[i * 4]? = some c0 ∧ C[i * 4 + 1]? = some c1 ∧ C[i * 4 + 2]? = some c2 ∧ C[i * 4 + 3]? = some c3 ∧ Copied (g + 1) wr y (.agg #[c0, c1, c2, c3])
theorem ginv_cells {w : World} {g : Nat} {vs : List PV} {q : Nat} {wr w2 : World} (h : GInv w g vs q wr) (hq : q < vs.length) (hb : Below wr.heap.size wr w2) :
    ∃ x0 x1 x2 x3, (w2.cell? ⟨g, q * 4, none⟩ = some x0 ∧ w2.cell? ⟨g, q * 4 + 1, none⟩ = some x1 ∧ w2.cell? ⟨g, q * 4 + 2, none⟩ = some x2 ∧ w2.cell? ⟨g, q * 4 + 3, none⟩ = some x3) ∧
      (w2.frozen? ⟨g, q * 4, none⟩ = false ∧ w2.frozen? ⟨g, q * 4 + 1, none⟩ = false ∧ w2.frozen? ⟨g, q * 4 + 2, none⟩ = false ∧ w2.frozen? ⟨g, q * 4 + 3, none⟩ = false) := by
  obtain ⟨_, _, C, hv, hC, _⟩ := h
  have hv2 := vat_below hb hv
  exact ⟨_, _, _, _, ⟨vat_cell hv2 _ _ (Array.getElem?_eq_getElem (by omega)), vat_cell hv2 _ _ (Array.getElem?_eq_getElem (by omega)), vat_cell hv2 _ _ (Array.getElem?_eq_getElem (by omega)), vat_cell hv2 _ _ (Array.getElem?_eq_getElem (by omega))⟩,
    vat_frozen hv2 _, vat_frozen hv2 _, vat_frozen hv2 _, vat_frozen hv2 _⟩
theorem set4_nth {α : Type} (C : Array α) (p i : Nat) (d0 d1 d2 d3 : α) (hp : p + 3 < C.size) : ((((C.setIfInBounds p d0).setIfInBounds (p + 1) d1).setIfInBounds (p + 2) d2).setIfInBounds (p + 3) d3)[i]? =
    if i = p then some d0 else if i = p + 1 then some d1 else if i = p + 2 then some d2 else if i = p + 3 then some d3 else C[i]? := by
  simp only [Array.getElem?_setIfInBounds, Array.size_setIfInBounds]
  repeat' split
  all_goals first | rfl | omega
theorem ginv_step {w : World} {g : Nat} {vs : List PV} {q : Nat} {wr w2 : World} {y : PV} {B : Nat} {d0 d1 d2 d3 : Value} (h : GInv w g vs q wr) (hy : vs[q]? = some y) (hb : Below wr.heap.size wr w2) (hB : g + 1 ≤ B) (hc : Copied B w2 y (.agg #[d0, d1, d2, d3])) :
    GInv w g vs (q + 1) ((((w2.setCell ⟨g, q * 4, none⟩ d0).setCell ⟨g, q * 4 + 1, none⟩ d1).setCell ⟨g, q * 4 + 2, none⟩ d2).setCell ⟨g, q * 4 + 3, none⟩ d3) := by
  obtain ⟨h1, h2, C, hv, hC, he⟩ := h
  have hq := (List.getElem?_eq_some_iff.1 hy).1
  have hv2 := vat_below hb hv
  have hs : ∀ b, b ≠ g → ((((w2.setCell ⟨g, q * 4, none⟩ d0).setCell ⟨g, q * 4 + 1, none⟩ d1).setCell ⟨g, q * 4 + 2, none⟩ d2).setCell ⟨g, q * 4 + 3, none⟩ d3).heap[b]? = w2.heap[b]? := fun b hne => by
    rw [Below.heap_setCell _ ⟨g, q * 4 + 3, none⟩ d3 b hne, Below.heap_setCell _ ⟨g, q * 4 + 2, none⟩ d2 b hne, Below.heap_setCell _ ⟨g, q * 4 + 1, none⟩ d1 b hne, Below.heap_setCell _ ⟨g, q * 4, none⟩ d0 b hne]
  have hsz : w2.heap.size ≤ ((((w2.setCell ⟨g, q * 4, none⟩ d0).setCell ⟨g, q * 4 + 1, none⟩ d1).setCell ⟨g, q * 4 + 2, none⟩ d2).setCell ⟨g, q * 4 + 3, none⟩ d3).heap.size := by
    have := below_set4 (Below.refl 0 w2) (Nat.zero_le g) (q * 4) (q * 4 + 1) (q * 4 + 2) (q * 4 + 3) d0 d1 d2 d3
    exact this.size
  refine ⟨below_set4 (h1.trans (hb.mono h1.size)) h2 _ _ _ _ _ _ _ _, h2, _, vat_set (vat_set (vat_set (vat_set hv2 _ d0) _ d1) _ d2) _ d3, by simpa using hC, fun i z hi hz => ?_⟩
  have hn := fun j => set4_nth C (q * 4) j d0 d1 d2 d3 (by omega)
  rcases Nat.lt_or_ge i q with hlt | hge
  · obtain ⟨c0, c1, c2, c3, q0, q1, q2, q3, hcc⟩ := he i z hlt hz
    refine ⟨c0, c1, c2, c3, ?_, ?_, ?_, ?_, copied_later (copied_later hcc hb.size fun b _ hl => hb.block b hl) hsz fun b hb1 _ => hs b (by omega)⟩
    · rw [hn, if_neg (by omega), if_neg (by omega), if_neg (by omega), if_neg (by omega), q0]
    · rw [hn, if_neg (by omega), if_neg (by omega), if_neg (by omega), if_neg (by omega), q1]
    · rw [hn, if_neg (by omega), if_neg (by omega), if_neg (by omega), if_neg (by omega), q2]
    · rw [hn, if_neg (by omega), if_neg (by omega), if_neg (by omega), if_neg (by omega), q3]
  · obtain rfl : i = q := by omega
    rw [hy] at hz
    cases hz
    refine ⟨d0, d1, d2, d3, ?_, ?_, ?_, ?_, copied_later (copied_mono hc hB) hsz fun b hb1 _ => hs b (by omega)⟩
    · rw [hn, if_pos rfl]
    · rw [hn, if_neg (by omega), if_pos rfl]
    · rw [hn, if_neg (by omega), if_neg (by omega), if_pos rfl]
    · rw [hn, if_neg (by omega), if_neg (by omega), if_neg (by omega), if_pos rfl]
theorem ginv_end {w : World} {g : Nat} {vs : List PV} {wr : World} (h : GInv w g vs vs.length wr) : Made w.heap.size wr vs (.slice (some ⟨g, 0, none⟩) vs.length vs.length) ∧ Below w.heap.size w wr := by
  obtain ⟨h1, h2, C, hv, hC, he⟩ := h
  exact ⟨⟨g, C, rfl, h2, hv, hC, fun i y hy => he i y (List.getElem?_eq_some_iff.1 hy).1 hy⟩, h1⟩
theorem ginv_start {w : World} {M : Array Value} {vs : List PV} (hM : M.size = vs.length * 4) : GInv w w.heap.size vs 0 (w.alloc (.cells M 39)) :=
  ⟨(Below.refl _ w).alloc (Nat.le_refl _) _, Nat.le_refl _, M, vat_alloc w M, hM, fun i y hi _ => by omega⟩
end Go.Proofs.Ytibjjclfonpibaa
