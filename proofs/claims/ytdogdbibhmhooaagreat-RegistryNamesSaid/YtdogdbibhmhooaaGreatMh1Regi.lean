/- Slots, steps and templates: the pure ones, how they lie in memory, and those that came in, opened. -/
import Derived.Test.YtdogdbibhmhooaaGreatMh0Regi
set_option linter.unusedVariables false
set_option maxRecDepth 100000
namespace Go.Proofs.YtdogdbibhmhooaaGreat
open Go.RowKit Go.ChangeShapes Go.WideShapes Go.Shelf
structure SlotM where
  nm : ByteArray
  ty : Int
  rq : Bool
  df : PV
instance : Inhabited SlotM := ⟨⟨⟨#[]⟩, 0, false, default⟩⟩
structure StepM where
  kd : Int
  col : Int
  sl : SlotM
  od : List Int
instance : Inhabited StepM := ⟨⟨0, 0, default, []⟩⟩
structure TemplM where
  nm : ByteArray
  slots : List SlotM
  steps : List StepM
/-- seven cells are a slot -/
def Slot7 (w : World) (s : SlotM) (c0 c1 c2 c3 c4 c5 c6 : Value) : Prop :=
  s.nm.size ≤ maxLen ∧ I64 s.ty ∧ c0 = .string s.nm ∧ c1 = .int .i64 s.ty ∧ c2 = .bool s.rq ∧ Is w s.df (.agg #[c3, c4, c5, c6])
def IsSlot (w : World) (s : SlotM) (x : Value) : Prop := ∃ c0 c1 c2 c3 c4 c5 c6, x = .agg #[c0, c1, c2, c3, c4, c5, c6] ∧ Slot7 w s c0 c1 c2 c3 c4 c5 c6
/-- a slot at a place -/
def SlotAt (w : World) (b o : Nat) (s : SlotM) : Prop := ∃ c0 c1 c2 c3 c4 c5 c6,
  (w.cell? ⟨b, o, none⟩ = some c0 ∧ w.cell? ⟨b, o + 1, none⟩ = some c1 ∧ w.cell? ⟨b, o + 2, none⟩ = some c2 ∧ w.cell? ⟨b, o + 3, none⟩ = some c3 ∧ w.cell? ⟨b, o + 4, none⟩ = some c4 ∧ w.cell? ⟨b, o + 5, none⟩ = some c5 ∧ w.cell? ⟨b, o + 6, none⟩ = some c6) ∧ Slot7 w s c0 c1 c2 c3 c4 c5 c6
def SlotRow (w : World) (a : Option Addr) (cap : Nat) (l : List SlotM) : Prop := l.length ≤ cap ∧ cap ≤ maxLen ∧ (l = [] ∨ ∃ b off, a = some ⟨b, off, none⟩ ∧ ∀ i s, l[i]? = some s → SlotAt w b (off + i * 7) s)
/-- a step at a place -/
def StepAt (w : World) (b o : Nat) (t : StepM) : Prop := ∃ oa oc, (w.cell? ⟨b, o, none⟩ = some (.int .i64 t.kd) ∧ w.cell? ⟨b, o + 1, none⟩ = some (.int .i64 t.col) ∧ w.cell? ⟨b, o + 9, none⟩ = some (.slice oa t.od.length oc)) ∧ I64 t.kd ∧ I64 t.col ∧
  SlotAt w b (o + 2) t.sl ∧ Row w .i64 oa t.od.length oc t.od ∧ ∀ x ∈ t.od, I64 x
def StepRow (w : World) (a : Option Addr) (cap : Nat) (l : List StepM) : Prop := l.length ≤ cap ∧ cap ≤ maxLen ∧ (l = [] ∨ ∃ b off, a = some ⟨b, off, none⟩ ∧ ∀ i s, l[i]? = some s → StepAt w b (off + i * 10) s)
def IsTempl (w : World) (t : TemplM) (x : Value) : Prop := t.nm.size ≤ maxLen ∧ ∃ sa sc ta tc, x = .agg #[.string t.nm, .slice sa t.slots.length sc, .slice ta t.steps.length tc] ∧ SlotRow w sa sc t.slots ∧ StepRow w ta tc t.steps
/- they stay where memory is made -/
theorem slot7_below {w w' : World} (hb : Below w.heap.size w w') {s : SlotM} {c0 c1 c2 c3 c4 c5 c6 : Value} (h : Slot7 w s c0 c1 c2 c3 c4 c5 c6) : Slot7 w' s c0 c1 c2 c3 c4 c5 c6 :=
  ⟨h.1, h.2.1, h.2.2.1, h.2.2.2.1, h.2.2.2.2.1, is_below hb _ _ h.2.2.2.2.2⟩
theorem isSlot_below {w w' : World} (hb : Below w.heap.size w w') {s : SlotM} {x : Value} (h : IsSlot w s x) : IsSlot w' s x := by
  obtain ⟨c0, c1, c2, c3, c4, c5, c6, rfl, h⟩ := h
  exact ⟨c0, c1, c2, c3, c4, c5, c6, rfl, slot7_below hb h⟩
theorem slotAt_below {w w' : World} (hb : Below w.heap.size w w') {b o : Nat} {s : SlotM} (h : SlotAt w b o s) : SlotAt w' b o s := by
  obtain ⟨c0, c1, c2, c3, c4, c5, c6, ⟨g0, g1, g2, g3, g4, g5, g6⟩, h⟩ := h
  exact ⟨c0, c1, c2, c3, c4, c5, c6, ⟨cell_below hb g0, cell_below hb g1, cell_below hb g2, cell_below hb g3, cell_below hb g4, cell_below hb g5, cell_below hb g6⟩, slot7_below hb h⟩
theorem slotRow_below {w w' : World} (hb : Below w.heap.size w w') {a : Option Addr} {cap : Nat} {l : List SlotM} (h : SlotRow w a cap l) : SlotRow w' a cap l :=
  ⟨h.1, h.2.1, h.2.2.imp id fun ⟨b, off, ha, hc⟩ => ⟨b, off, ha, fun i s hi => slotAt_below hb (hc i s hi)⟩⟩
theorem stepAt_below {w w' : World} (hb : Below w.heap.size w w') {b o : Nat} {t : StepM} (h : StepAt w b o t) : StepAt w' b o t := by
  obtain ⟨oa, oc, ⟨g0, g1, g2⟩, h1, h2, h3, h4, h5⟩ := h
  exact ⟨oa, oc, ⟨cell_below hb g0, cell_below hb g1, cell_below hb g2⟩, h1, h2, slotAt_below hb h3, row_below h4 hb rfl, h5⟩
theorem stepRow_below {w w' : World} (hb : Below w.heap.size w w') {a : Option Addr} {cap : Nat} {l : List StepM} (h : StepRow w a cap l) : StepRow w' a cap l :=
  ⟨h.1, h.2.1, h.2.2.imp id fun ⟨b, off, ha, hc⟩ => ⟨b, off, ha, fun i s hi => stepAt_below hb (hc i s hi)⟩⟩
theorem isTempl_below {w w' : World} (hb : Below w.heap.size w w') {t : TemplM} {x : Value} (h : IsTempl w t x) : IsTempl w' t x := by
  obtain ⟨h1, sa, sc, ta, tc, rfl, h2, h3⟩ := h
  exact ⟨h1, sa, sc, ta, tc, rfl, slotRow_below hb h2, stepRow_below hb h3⟩
/- opened -/
theorem cellsOf_slot : Tryz.prog.cellsOf 58 = 7 := by kernel_rfl
theorem cellsOf_step : Tryz.prog.cellsOf 61 = 10 := by kernel_rfl
theorem cellsOf_templ : Tryz.prog.cellsOf 45 = 3 := by kernel_rfl
theorem list_seven {α : Type} {cs : List α} (h : cs.length = 7) : ∃ c0 c1 c2 c3 c4 c5 c6, cs = [c0, c1, c2, c3, c4, c5, c6] := by
  match cs, h with
  | [c0, c1, c2, c3, c4, c5, c6], _ => exact ⟨_, _, _, _, _, _, _, rfl⟩
theorem list_ten {α : Type} {cs : List α} (h : cs.length = 10) : ∃ c0 c1 c2 c3 c4 c5 c6 c7 c8 c9, cs = [c0, c1, c2, c3, c4, c5, c6, c7, c8, c9] := by
  match cs, h with
  | [c0, c1, c2, c3, c4, c5, c6, c7, c8, c9], _ => exact ⟨_, _, _, _, _, _, _, _, _, _, rfl⟩
theorem open_slot {H : Type} {enc : TypeId × Value → H} {W : World} {spare : Nat → Bool} {held : Bool} {fuel : Nat} {cs : List Value} {x : DataW H × List MemPlace} (h : DataW.trod enc Tryz.prog W 0 spare held fuel 58 cs = some x) :
    ∃ c0 c1 c2 c3 c4 c5 c6, cs = [c0, c1, c2, c3, c4, c5, c6] ∧ ∃ s : SlotM, Slot7 W s c0 c1 c2 c3 c4 c5 c6 := by
  obtain ⟨xs, n, hfu, _, hlen, hxl, hf⟩ := DataW.trod_struct Tryz.underlying58 h
  rw [cellsOf_slot] at hlen
  obtain ⟨c0, c1, c2, c3, c4, c5, c6, rfl⟩ := list_seven hlen
  have h0 := hf 0 _ rfl
  have h1 := hf 1 _ rfl
  have h2 := hf 2 _ rfl
  have h3 := hf 3 _ rfl
  have hxl' : xs.length = 4 := hxl
  match xs, hxl' with
  | [x0, x1, x2, x3], _ =>
  replace h0 : DataW.trod enc Tryz.prog W 0 spare held n 9 [c0] = some x0 := h0
  replace h1 : DataW.trod enc Tryz.prog W 0 spare held n 3 [c1] = some x1 := h1
  replace h2 : DataW.trod enc Tryz.prog W 0 spare held n 4 [c2] = some x2 := h2
  replace h3 : DataW.trod enc Tryz.prog W 0 spare held n 56 [c3, c4, c5, c6] = some x3 := h3
  obtain ⟨s, e0, _, ws⟩ := DataW.trod_string Tryz.underlying9 h0
  obtain ⟨k, e1, _, wk⟩ := DataW.trod_int Tryz.underlying3 h1
  obtain ⟨b, e2, _⟩ := DataW.trod_bool Tryz.underlying4 h2
  obtain ⟨d0, d1, d2, d3, e3, v, hv⟩ := open_value n _ _ h3
  simp only [List.cons.injEq, and_true] at e0 e1 e2 e3
  obtain ⟨rfl, rfl, rfl, rfl⟩ := e3
  subst e0 e1 e2
  exact ⟨_, _, _, _, _, _, _, rfl, ⟨s, k, b, v⟩, ws, wf_i64 wk, rfl, rfl, rfl, hv⟩
theorem addr_flat {W : World} {a : Addr} {v : Value} (h : W.cell? (a.add 0) = some v) : ∃ b off, a = ⟨b, off, none⟩ := by
  obtain ⟨b, off, spot⟩ := a
  have hspot : spot = none := by simpa [Addr.add] using World.cell?_spot h
  subst hspot
  exact ⟨b, off, rfl⟩
theorem open_ints9 {H : Type} {enc : TypeId × Value → H} {W : World} {spare : Nat → Bool} {held : Bool} {fuel : Nat} {c : Value} {x : DataW H × List MemPlace} (h : DataW.trod enc Tryz.prog W 0 spare held fuel 59 [c] = some x) :
    ∃ oa oc, ∃ l : List Int, c = .slice oa l.length oc ∧ Row W .i64 oa l.length oc l ∧ ∀ y ∈ l, I64 y := by
  rcases DataW.trod_slice Tryz.underlying59 h with ⟨e3, _⟩ | ⟨a, len, cap, elems, rest, n', hn', e3, _, _, hl, hm, hlen, hel, _, _⟩
  · simp only [List.cons.injEq, and_true] at e3
    subst e3
    exact ⟨none, 0, [], rfl, ⟨rfl, Nat.le_refl _, by unfold maxLen; omega, .inl rfl⟩, by simp⟩
  · simp only [List.cons.injEq, and_true] at e3
    subst e3
    have hco : Tryz.prog.cellsOf 3 = 1 := by kernel_rfl
    have each : ∀ i, i < len → ∃ y : Int, W.cell? (a.add i) = some (.int .i64 y) ∧ I64 y := by
      intro i hi
      have he := hel i hi
      rw [hco, List.getElem?_eq_getElem (by omega), Nat.mul_one] at he
      obtain ⟨cs', g1, g2⟩ := Option.bind_eq_some_iff.1 he
      obtain ⟨k, e1, _, wk⟩ := DataW.trod_int Tryz.underlying3 g2
      obtain ⟨_, hlen', hc⟩ := World.cells?_some g1
      have h0 := hc 0 (by omega)
      rw [e1] at h0
      refine ⟨k, ?_, wf_i64 wk⟩
      have hadd : (a.add i).add 0 = a.add i := by unfold Addr.add; split <;> simp_all
      rw [hadd] at h0
      exact h0
    obtain ⟨f, hf⟩ := Go.Deep.choose_lt each
    refine ⟨some a, cap, (List.range len).map f, by simp, ⟨rfl, by simpa using hl, hm, ?_⟩, fun y hy => ?_⟩
    · rcases Nat.eq_zero_or_pos len with hz | hz
      · subst hz; exact .inl (by simp)
      · obtain ⟨b, off, rfl⟩ := addr_flat (hf 0 hz).1
        refine .inr ⟨b, off, rfl, fun i hi => ?_⟩
        rw [List.length_map, List.length_range] at hi
        have := (hf i hi).1
        simp only [Addr.add_lit] at this
        rw [List.getElem?_map, List.getElem?_range hi]
        exact this
    · obtain ⟨i, hi, rfl⟩ := List.mem_map.1 hy
      exact (hf i (List.mem_range.1 hi)).2
/-- a row of slots -/
theorem open_slots {H : Type} {enc : TypeId × Value → H} {W : World} {spare : Nat → Bool} {held : Bool} {fuel : Nat} {c : Value} {x : DataW H × List MemPlace} (h : DataW.trod enc Tryz.prog W 0 spare held fuel 42 [c] = some x) :
    ∃ sa sc, ∃ l : List SlotM, c = .slice sa l.length sc ∧ SlotRow W sa sc l := by
  rcases DataW.trod_slice Tryz.underlying42 h with ⟨e3, _⟩ | ⟨a, len, cap, elems, rest, n', hn', e3, _, _, hl, hm, hlen, hel, _, _⟩
  · simp only [List.cons.injEq, and_true] at e3
    subst e3
    exact ⟨none, 0, [], rfl, Nat.le_refl _, by unfold maxLen; omega, .inl rfl⟩
  · simp only [List.cons.injEq, and_true] at e3
    subst e3
    have each : ∀ i, i < len → ∃ s : SlotM, ∃ c0 c1 c2 c3 c4 c5 c6, (∀ j, j < 7 → W.cell? ((a.add (i * 7)).add j) = [c0, c1, c2, c3, c4, c5, c6][j]?) ∧ Slot7 W s c0 c1 c2 c3 c4 c5 c6 := by
      intro i hi
      have he := hel i hi
      rw [cellsOf_slot, List.getElem?_eq_getElem (by omega)] at he
      obtain ⟨cs', g1, g2⟩ := Option.bind_eq_some_iff.1 he
      obtain ⟨c0, c1, c2, c3, c4, c5, c6, rfl, s, hs⟩ := open_slot g2
      exact ⟨s, c0, c1, c2, c3, c4, c5, c6, (World.cells?_some g1).2.2, hs⟩
    obtain ⟨f, hf⟩ := Go.Deep.choose_lt each
    refine ⟨some a, cap, (List.range len).map f, by simp, by simpa using hl, hm, ?_⟩
    rcases Nat.eq_zero_or_pos len with hz | hz
    · subst hz; exact .inl rfl
    · obtain ⟨b, off, rfl⟩ : ∃ b off, a = ⟨b, off, none⟩ := by
        obtain ⟨c0, _, _, _, _, _, _, hc, _⟩ := hf 0 hz
        have := hc 0 (by omega)
        rw [Nat.zero_mul] at this
        have h0 : (a.add 0).add 0 = a.add 0 := by unfold Addr.add; split <;> simp_all
        rw [h0] at this
        exact addr_flat this
      refine .inr ⟨b, off, rfl, fun i s hs => ?_⟩
      have hi : i < len := by
        have := (List.getElem?_eq_some_iff.1 hs).1
        simpa using this
      rw [List.getElem?_map, List.getElem?_range hi] at hs
      simp only [Option.map_some, Option.some.injEq] at hs
      subst hs
      obtain ⟨c0, c1, c2, c3, c4, c5, c6, hc, h7⟩ := hf i hi
      simp only [Addr.add_lit] at hc
      exact ⟨c0, c1, c2, c3, c4, c5, c6, ⟨hc 0 (by omega), hc 1 (by omega), hc 2 (by omega), hc 3 (by omega), hc 4 (by omega), hc 5 (by omega), hc 6 (by omega)⟩, h7⟩
theorem open_step {H : Type} {enc : TypeId × Value → H} {W : World} {spare : Nat → Bool} {held : Bool} {fuel : Nat} {cs : List Value} {x : DataW H × List MemPlace} (h : DataW.trod enc Tryz.prog W 0 spare held fuel 61 cs = some x) :
    ∃ t : StepM, ∃ c2 c3 c4 c5 c6 c7 c8 oa oc, cs = [.int .i64 t.kd, .int .i64 t.col, c2, c3, c4, c5, c6, c7, c8, .slice oa t.od.length oc] ∧ I64 t.kd ∧ I64 t.col ∧ Slot7 W t.sl c2 c3 c4 c5 c6 c7 c8 ∧ Row W .i64 oa t.od.length oc t.od ∧ ∀ x ∈ t.od, I64 x := by
  obtain ⟨xs, n, hfu, _, hlen, hxl, hf⟩ := DataW.trod_struct Tryz.underlying61 h
  rw [cellsOf_step] at hlen
  obtain ⟨c0, c1, c2, c3, c4, c5, c6, c7, c8, c9, rfl⟩ := list_ten hlen
  have h0 := hf 0 _ rfl
  have h1 := hf 1 _ rfl
  have h2 := hf 2 _ rfl
  have h3 := hf 3 _ rfl
  have hxl' : xs.length = 4 := hxl
  match xs, hxl' with
  | [x0, x1, x2, x3], _ =>
  replace h0 : DataW.trod enc Tryz.prog W 0 spare held n 3 [c0] = some x0 := h0
  replace h1 : DataW.trod enc Tryz.prog W 0 spare held n 3 [c1] = some x1 := h1
  replace h2 : DataW.trod enc Tryz.prog W 0 spare held n 58 [c2, c3, c4, c5, c6, c7, c8] = some x2 := h2
  replace h3 : DataW.trod enc Tryz.prog W 0 spare held n 59 [c9] = some x3 := h3
  obtain ⟨k, e0, _, wk⟩ := DataW.trod_int Tryz.underlying3 h0
  obtain ⟨m, e1, _, wm⟩ := DataW.trod_int Tryz.underlying3 h1
  obtain ⟨d0, d1, d2, d3, d4, d5, d6, e2, s, hs⟩ := open_slot h2
  obtain ⟨oa, oc, l, e3, hr, hl⟩ := open_ints9 h3
  simp only [List.cons.injEq, and_true] at e0 e1 e2
  obtain ⟨rfl, rfl, rfl, rfl, rfl, rfl, rfl⟩ := e2
  subst e0 e1 e3
  exact ⟨⟨k, m, s, l⟩, _, _, _, _, _, _, _, oa, oc, rfl, wf_i64 wk, wf_i64 wm, hs, hr, hl⟩
theorem open_steps {H : Type} {enc : TypeId × Value → H} {W : World} {spare : Nat → Bool} {held : Bool} {fuel : Nat} {c : Value} {x : DataW H × List MemPlace} (h : DataW.trod enc Tryz.prog W 0 spare held fuel 43 [c] = some x) :
    ∃ ta tc, ∃ l : List StepM, c = .slice ta l.length tc ∧ StepRow W ta tc l := by
  rcases DataW.trod_slice Tryz.underlying43 h with ⟨e3, _⟩ | ⟨a, len, cap, elems, rest, n', hn', e3, _, _, hl, hm, hlen, hel, _, _⟩
  · simp only [List.cons.injEq, and_true] at e3
    subst e3
    exact ⟨none, 0, [], rfl, Nat.le_refl _, by unfold maxLen; omega, .inl rfl⟩
  · simp only [List.cons.injEq, and_true] at e3
    subst e3
    have each : ∀ i, i < len → ∃ t : StepM, ∃ c2 c3 c4 c5 c6 c7 c8 oa oc, (∀ j, j < 10 → W.cell? ((a.add (i * 10)).add j) = [.int .i64 t.kd, .int .i64 t.col, c2, c3, c4, c5, c6, c7, c8, .slice oa t.od.length oc][j]?) ∧ I64 t.kd ∧ I64 t.col ∧ Slot7 W t.sl c2 c3 c4 c5 c6 c7 c8 ∧ Row W .i64 oa t.od.length oc t.od ∧ ∀ x ∈ t.od, I64 x := by
      intro i hi
      have he := hel i hi
      rw [cellsOf_step, List.getElem?_eq_getElem (by omega)] at he
      obtain ⟨cs', g1, g2⟩ := Option.bind_eq_some_iff.1 he
      obtain ⟨t, c2, c3, c4, c5, c6, c7, c8, oa, oc, rfl, hs⟩ := open_step g2
      exact ⟨t, c2, c3, c4, c5, c6, c7, c8, oa, oc, (World.cells?_some g1).2.2, hs⟩
    obtain ⟨f, hf⟩ := Go.Deep.choose_lt each
    refine ⟨some a, cap, (List.range len).map f, by simp, by simpa using hl, hm, ?_⟩
    rcases Nat.eq_zero_or_pos len with hz | hz
    · subst hz; exact .inl rfl
    · obtain ⟨b, off, rfl⟩ : ∃ b off, a = ⟨b, off, none⟩ := by
        obtain ⟨c2, _, _, _, _, _, _, _, _, hc, _⟩ := hf 0 hz
        have := hc 0 (by omega)
        rw [Nat.zero_mul] at this
        have h0 : (a.add 0).add 0 = a.add 0 := by unfold Addr.add; split <;> simp_all
        rw [h0] at this
        exact addr_flat this
      refine .inr ⟨b, off, rfl, fun i s hs => ?_⟩
      have hi : i < len := by
        have := (List.getElem?_eq_some_iff.1 hs).1
        simpa using this
      rw [List.getElem?_map, List.getElem?_range hi] at hs
      simp only [Option.map_some, Option.some.injEq] at hs
      subst hs
      obtain ⟨c2, c3, c4, c5, c6, c7, c8, oa, oc, hc, hk, hm2, h7, hr, ho⟩ := hf i hi
      simp only [Addr.add_lit] at hc
      exact ⟨oa, oc, ⟨hc 0 (by omega), hc 1 (by omega), hc 9 (by omega)⟩, hk, hm2, ⟨c2, c3, c4, c5, c6, c7, c8, ⟨hc 2 (by omega), hc 3 (by omega), hc 4 (by omega), hc 5 (by omega), hc 6 (by omega), hc 7 (by omega), hc 8 (by omega)⟩, h7⟩, hr, ho⟩
end Go.Proofs.YtdogdbibhmhooaaGreat
