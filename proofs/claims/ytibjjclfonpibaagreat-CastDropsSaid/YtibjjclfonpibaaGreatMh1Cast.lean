/- Slots, steps and templates: the pure ones, how they lie in memory, and those that came in, opened. -/
import Derived.Test.YtibjjclfonpibaaGreatMh0Cast
set_option linter.unusedVariables false
set_option maxRecDepth 100000
namespace Go.Proofs.YtibjjclfonpibaaGreat
open Go.RowKit Go.ChangeShapes Go.WideShapes Go.Shelf
structure SlotM where
  nm : ByteArray
  ty : Int
  rq : Bool
  df : PV
instance : Inhabited SlotM := ⟨⟨⟨#[]⟩, 0, false, default⟩⟩
structure StepM where
  kd : Int
  col : Int
  sl : SlotM
  od : List Int
instance : Inhabited StepM := ⟨⟨0, 0, default, []⟩⟩
structure TemplM where
  nm : ByteArray
  slots : List SlotM
  steps : List StepM
/-- seven cells are a slot -/
def Slot7 (w : World) (s : SlotM) (c0 c1 c2 c3 c4 c5 c6 : Value) : Prop :=
  s.nm.size ≤ maxLen ∧ I64 s.ty ∧ c0 = .string s.nm ∧ c1 = .int .i64 s.ty ∧ c2 = .bool s.rq ∧ Is w s.df (.agg #[c3, c4, c5, c6])
def IsSlot (w : World) (s : SlotM) (x : Value) : Prop := ∃ c0 c1 c2 c3 c4 c5 c6, x = .agg #[c0, c1, c2, c3, c4, c5, c6] ∧ Slot7 w s c0 c1 c2 c3 c4 c5 c6
/-- a slot at a place -/
def SlotAt (w : World) (b o : Nat) (s : SlotM) : Prop := ∃ c0 c1 c2 c3 c4 c5 c6,
  (w.cell? ⟨b, o, none⟩ = some c0 ∧ w.cell? ⟨b, o + 1, none⟩ = some c1 ∧ w.cell? ⟨b, o + 2, none⟩ = some c2 ∧ w.cell? ⟨b, o + 3, none⟩ = some c3 ∧ w.cell? ⟨b, o + 4, none⟩ = some c4 ∧ w.cell? ⟨b, o + 5, none⟩ = some c5 ∧ w.cell? ⟨b, o + 6, none⟩ = some c6) ∧ Slot7 w s c0 c1 c2 c3 c4 c5 c6
def SlotRow (w : World) (a : Option Addr) (cap : Nat) (l : List SlotM) : Prop := l.length ≤ cap ∧ cap ≤ maxLen ∧ (l = [] ∨ ∃ b off, a = some ⟨b, off, none⟩ ∧ ∀ i s, l[i]? = some s → SlotAt w b (off + i * 7) s)
/-- a step at a place -/
def StepAt (w : World) (b o : Nat) (t : StepM) : Prop := ∃ oa oc, (w.cell? ⟨b, o, none⟩ = some (.int .i64 t.kd) ∧ w.cell? ⟨b, o + 1, none⟩ = some (.int .i64 t.col) ∧ w.cell? ⟨b, o + 9, none⟩ = some (.slice oa t.od.length oc)) ∧ I64 t.kd ∧ I64 t.col ∧
  SlotAt w b (o + 2) t.sl ∧ Row w .i64 oa t.od.length oc t.od ∧ ∀ x ∈ t.od, I64 x
def StepRow (w : World) (a : Option Addr) (cap : Nat) (l : List StepM) : Prop := l.length ≤ cap ∧ cap ≤ maxLen ∧ (l = [] ∨ ∃ b off, a = some ⟨b, off, none⟩ ∧ ∀ i s, l[i]? = some s → StepAt w b (off + i * 10) s)
def IsTempl (w : World) (t : TemplM) (x : Value) : Prop := t.nm.size ≤ maxLen ∧ ∃ sa sc ta tc, x = .agg #[.string t.nm, .slice sa t.slots.length sc, .slice ta t.steps.length tc] ∧ SlotRow w sa sc t.slots ∧ StepRow w ta tc t.steps
/- they stay where memory is made -/
theorem slot7_below {w w' : World} (hb : Below w.heap.size w w') {s : SlotM} {c0 c1 c2 c3 c4 c5 c6 : Value} (h : Slot7 w s c0 c1 c2 c3 c4 c5 c6) : Slot7 w' s c0 c1 c2 c3 c4 c5 c6 :=
  ⟨h.1, h.2.1, h.2.2.1, h.2.2.2.1, h.2.2.2.2.1, is_below hb _ _ h.2.2.2.2.2⟩
theorem isSlot_below {w w' : World} (hb : Below w.heap.size w w') {s : SlotM} {x : Value} (h : IsSlot w s x) : IsSlot w' s x := by
  obtain ⟨c0, c1, c2, c3, c4, c5, c6, rfl, h⟩ := h
  exact ⟨c0, c1, c2, c3, c4, c5, c6, rfl, slot7_below hb h⟩
theorem slotAt_below {w w' : World} (hb : Below w.heap.size w w') {b o : Nat} {s : SlotM} (h : SlotAt w b o s) : SlotAt w' b o s := by
  obtain ⟨c0, c1, c2, c3, c4, c5, c6, ⟨g0, g1, g2, g3, g4, g5, g6⟩, h⟩ := h
  exact ⟨c0, c1, c2, c3, c4, c5, c6, ⟨cell_below hb g0, cell_below hb g1, cell_below hb g2, cell_below hb g3, cell_below hb g4, cell_below hb g5, cell_below hb g6⟩, slot7_below hb h⟩
theorem slotRow_below {w w' : World} (hb : Below w.heap.size w w') {a : Option Addr} {cap : Nat} {l : List SlotM} (h : SlotRow w a cap l) : SlotRow w' a cap l :=
  ⟨h.1, h.2.1, h.2.2.imp id fun ⟨b, off, ha, hc⟩ => ⟨b, off, ha, fun i s hi => slotAt_below hb (hc i s hi)⟩⟩
theorem stepAt_below {w w' : World} (hb : Below w.heap.size w w') {b o : Nat} {t : StepM} (h : StepAt w b o t) : StepAt w' b o t := by
  obtain ⟨oa, oc, ⟨g0, g1, g2⟩, h1, h2, h3, h4, h5⟩ := h
  exact ⟨oa, oc, ⟨cell_below hb g0, cell_below hb g1, cell_below hb g2⟩, h1, h2, slotAt_below hb h3, row_below h4 hb rfl, h5⟩
theorem stepRow_below {w w' : World} (hb : Below w.heap.size w w') {a : Option Addr} {cap : Nat} {l : List StepM} (h : StepRow w a cap l) : StepRow w' a cap l :=
  ⟨h.1, h.2.1, h.2.2.imp id fun ⟨b, off, ha, hc⟩ => ⟨b, off, ha, fun i s hi => stepAt_below hb (hc i s hi)⟩⟩
theorem isTempl_below {w w' : World} (hb : Below w.heap.size w w') {t : TemplM} {x : Value} (h : IsTempl w t x) : IsTempl w' t x := by
  obtain ⟨h1, sa, sc, ta, tc, rfl, h2, h3⟩ := h
  exact ⟨h1, sa, sc, ta, tc, rfl, slotRow_below hb h2, stepRow_below hb h3⟩
/- opened -/
theorem cellsOf_slot : Tryz.prog.cellsOf 44 = 7 := by kernel_rfl
theorem cellsOf_step : Tryz.prog.cellsOf 66 = 10 := by kernel_rfl
theorem cellsOf_templ : Tryz.prog.cellsOf 25 = 3 := by kernel_rfl
theorem list_seven {α : Type} {cs : List α} (h : cs.length = 7) : ∃ c0 c1 c2 c3 c4 c5 c6, cs = [c0, c1, c2, c3, c4, c5, c6] := by
  match cs, h with
  | [c0, c1, c2, c3, c4, c5, c6], _ => exact ⟨_, _, _, _, _, _, _, rfl⟩
theorem list_ten {α : Type} {cs : List α} (h : cs.length = 10) : ∃ c0 c1 c2 c3 c4 c5 c6 c7 c8 c9, cs = [c0, c1, c2, c3, c4, c5, c6, c7, c8, c9] := by
  match cs, h with
  | [c0, c1, c2, c3, c4, c5, c6, c7, c8, c9], _ => exact ⟨_, _, _, _, _, _, _, _, _, _, rfl⟩
theorem open_slot {H : Type} {enc : TypeId × Value → H} {W : World} {spare : Nat → Bool} {held : Bool} {fuel : Nat} {cs : List Value} {x : DataW H × List MemPlace} (h : DataW.trod enc Tryz.prog W 0 spare held fuel 44 cs = some x) :
    ∃ c0 c1 c2 c3 c4 c5 c6, cs = [c0, c1, c2, c3, c4, c5, c6] ∧ ∃ s : SlotM, Slot7 W s c0 c1 c2 c3 c4 c5 c6 := by
  obtain ⟨xs, n, hfu, _, hlen, hxl, hf⟩ := DataW.trod_struct Tryz.underlying44 h
  rw [cellsOf_slot] at hlen
  obtain ⟨c0, c1, c2, c3, c4, c5, c6, rfl⟩ := list_seven hlen
  have h0 := hf 0 _ rfl
  have h1 := hf 1 _ rfl
  have h2 := hf 2 _ rfl
  have h3 := hf 3 _ rfl
  have hxl' : xs.length = 4 := hxl
  match xs, hxl' with
  | [x0, x1, x2, x3], _ =>
  replace h0 : DataW.trod enc Tryz.prog W 0 spare held n 9 [c0] = some x0 := h0
  replace h1 : DataW.trod enc Tryz.prog W 0 spare held n 3 [c1] = some x1 := h1
  replace h2 : DataW.trod enc Tryz.prog W 0 spare held n 4 [c2] = some x2 := h2
  replace h3 : DataW.trod enc Tryz.prog W 0 spare held n 42 [c3, c4, c5, c6] = some x3 := h3
  obtain ⟨s, e0, _, ws⟩ := DataW.trod_string Tryz.underlying9 h0
  obtain ⟨k, e1, _, wk⟩ := DataW.trod_int Tryz.underlying3 h1
  obtain ⟨b, e2, _⟩ := DataW.trod_bool Tryz.underlying4 h2
  obtain ⟨d0, d1, d2, d3, e3, v, hv⟩ := open_value n _ _ h3
  simp only [List.cons.injEq, and_true] at e0 e1 e2 e3
  obtain ⟨rfl, rfl, rfl, rfl⟩ := e3
  subst e0 e1 e2
  exact ⟨_, _, _, _, _, _, _, rfl, ⟨s, k, b, v⟩, ws, wf_i64 wk, rfl, rfl, rfl, hv⟩
theorem addr_flat {W : World} {a : Addr} {v : Value} (h : W.cell? (a.add 0) = some v) : ∃ b off, a = ⟨b, off, none⟩ := by
  obtain ⟨b, off, spot⟩ := a
  have hspot : spot = none := by simpa [Addr.add] using World.cell?_spot h
  subst hspot
  exact ⟨b, off, rfl⟩
theorem open_ints9 {H : Type} {enc : TypeId × Value → H} {W : World} {spare : Nat → Bool} {held : Bool} {fuel : Nat} {c : Value} {x : DataW H × List MemPlace} (h : DataW.trod enc Tryz.prog W 0 spare held fuel 35 [c] = some x) :
    ∃ oa oc, ∃ l : List Int, c = .slice oa l.length oc ∧ Row W .i64 oa l.length oc l ∧ ∀ y ∈ l, I64 y := by
  rcases DataW.trod_slice Tryz.underlying35 h with ⟨e3, _⟩ | ⟨a, len, cap, elems, rest, n', hn', e3, _, _, hl, hm, hlen, hel, _, _⟩
  · simp only [List.cons.injEq, and_true] at e3
    subst e3
    exact ⟨none, 0, [], rfl, ⟨rfl, Nat.le_refl _, by unfold maxLen; omega, .inl rfl⟩, by simp⟩
  · simp only [List.cons.injEq, and_true] at e3
    subst e3
    have hco : Tryz.prog.cellsOf 3 = 1 := by kernel_rfl
    have each : ∀ i, i < len → ∃ y : Int, W.cell? (a.add i) = some (.int .i64 y) ∧ I64 y := by
      intro i hi
      have he := hel i hi
      rw [hco, List.getElem?_eq_getElem (by omega), Nat.mul_one] at he
      obtain ⟨cs', g1, g2⟩ := Option.bind_eq_some_iff.1 he
      obtain ⟨k, e1, _, wk⟩ := DataW.trod_int Tryz.underlying3 g2
      obtain ⟨_, hlen', hc⟩ := World.cells?_some g1
      have h0 := hc 0 (by omega)
      rw [e1] at h0
      refine ⟨k, ?_, wf_i64 wk⟩
      have hadd : (a.add i).add 0 = a.add i := by unfold Addr.add; split <;> simp_all
      rw [hadd] at h0
      exact h0
    obtain ⟨f, hf⟩ := Go.Deep.choose_lt each
    refine ⟨some a, cap, (List.range len).map f, by simp, ⟨rfl, by simpa using hl, hm, ?_⟩, fun y hy => ?_⟩
    · rcases Nat.eq_zero_or_pos len with hz | hz
      · subst hz; exact .inl (by simp)
      · obtain ⟨b, off, rfl⟩ := addr_flat (hf 0 hz).1
        refine .inr ⟨b, off, rfl, fun i hi => ?_⟩
        rw [List.length_map, List.length_range] at hi
        have := (hf i hi).1
        simp only [Addr.add_lit] at this
        rw [List.getElem?_map, List.getElem?_range hi]
        exact this
    · obtain ⟨i, hi, rfl⟩ := List.mem_map.1 hy
      exact (hf i (List.mem_range.1 hi)).2
/-- a row of slots -/
theorem open_slots {H : Type} {enc : TypeId × Value → H} {W : World} {spare : Nat → Bool} {held : Bool} {fuel : Nat} {c : Value} {x : DataW H × List MemPlace} (h : DataW.trod enc Tryz.prog W 0 spare held fuel 22 [c] = some x) :
    ∃ sa sc, ∃ l : List SlotM, c = .slice sa l.length sc ∧ SlotRow W sa sc l := by
  rcases DataW.trod_slice Tryz.underlying22 h with ⟨e3, _⟩ | ⟨a, len, cap, elems, rest, n', hn', e3, _, _, hl, hm, hlen, hel, _, _⟩
  · simp only [List.cons.injEq, and_true] at e3
    subst e3
    exact ⟨none, 0, [], rfl, Nat.le_refl _, by unfold maxLen; omega, .inl rfl⟩
  · simp only [List.cons.injEq, and_true] at e3
    subst e3
    have each : ∀ i, i < len → ∃ s : SlotM, ∃ c0 c1 c2 c3 c4 c5 c6, (∀ j, j < 7 → W.cell? ((a.add (i * 7)).add j) = [c0, c1, c2, c3, c4, c5, c6][j]?) ∧ Slot7 W s c0 c1 c2 c3 c4 c5 c6 := by
      intro i hi
      have he := hel i hi
      rw [cellsOf_slot, List.getElem?_eq_getElem (by omega)] at he
      obtain ⟨cs', g1, g2⟩ := Option.bind_eq_some_iff.1 he
      obtain ⟨c0, c1, c2, c3, c4, c5, c6, rfl, s, hs⟩ := open_slot g2
      exact ⟨s, c0, c1, c2, c3, c4, c5, c6, (World.cells?_some g1).2.2, hs⟩
    obtain ⟨f, hf⟩ := Go.Deep.choose_lt each
    refine ⟨some a, cap, (List.range len).map f, by simp, by simpa using hl, hm, ?_⟩
    rcases Nat.eq_zero_or_pos len with hz | hz
    · subst hz; exact .inl rfl
    · obtain ⟨b, off, rfl⟩ : ∃ b off, a = ⟨b, off, none⟩ := by
        obtain ⟨c0, _, _, _, _, _, _, hc, _⟩ := hf 0 hz
        have := hc 0 (by omega)
        rw [Nat.zero_mul] at this
        have h0 : (a.add 0).add 0 = a.add 0 := by unfold Addr.add; split <;> simp_all
        rw [h0] at this
        exact addr_flat this
      refine .inr ⟨b, off, rfl, fun i s hs => ?_⟩
      have hi : i < len := by
        have := (List.getElem?_eq_some_iff.1 hs).1
        simpa using this
      rw [List.getElem?_map, List.getElem?_range hi] at hs
      simp only [Option.map_some, Option.some.injEq] at hs
      subst hs
      obtain ⟨c0, c1, c2, c3, c4, c5, c6, hc, h7⟩ := hf i hi
      simp only [Addr.add_lit] at hc
      exact ⟨c0, c1, c2, c3, c4, c5, c6, ⟨hc 0 (by omega), hc 1 (by omega), hc 2 (by omega), hc 3 (by omega), hc 4 (by omega), hc 5 (by omega), hc 6 (by omega)⟩, h7⟩
theorem open_step {H : Type} {enc : TypeId × Value → H} {W : World} {spare : Nat → Bool} {held : Bool} {fuel : Nat} {cs : List Value} {x : DataW H × List MemPlace} (h : DataW.trod enc Tryz.prog W 0 spare held fuel 66 cs = some x) :
    ∃ t : StepM, ∃ c2 c3 c4 c5 c6 c7 c8 oa oc, cs = [.int .i64 t.kd, .int .i64 t.col, c2, c3, c4, c5, c6, c7, c8, .slice oa t.od.length oc] ∧ I64 t.kd ∧ I64 t.col ∧ Slot7 W t.sl c2 c3 c4 c5 c6 c7 c8 ∧ Row W .i64 oa t.od.length oc t.od ∧ ∀ x ∈ t.od, I64 x := by
  obtain ⟨xs, n, hfu, _, hlen, hxl, hf⟩ := DataW.trod_struct Tryz.underlying66 h
  rw [cellsOf_step] at hlen
  obtain ⟨c0, c1, c2, c3, c4, c5, c6, c7, c8, c9, rfl⟩ := list_ten hlen
  have h0 := hf 0 _ rfl
  have h1 := hf 1 _ rfl
  have h2 := hf 2 _ rfl
  have h3 := hf 3 _ rfl
  have hxl' : xs.length = 4 := hxl
  match xs, hxl' with
  | [x0, x1, x2, x3], _ =>
  replace h0 : DataW.trod enc Tryz.prog W 0 spare held n 3 [c0] = some x0 := h0
  replace h1 : DataW.trod enc Tryz.prog W 0 spare held n 3 [c1] = some x1 := h1
  replace h2 : DataW.trod enc Tryz.prog W 0 spare held n 44 [c2, c3, c4, c5, c6, c7, c8] = some x2 := h2
  replace h3 : DataW.trod enc Tryz.prog W 0 spare held n 35 [c9] = some x3 := h3
  obtain ⟨k, e0, _, wk⟩ := DataW.trod_int Tryz.underlying3 h0
  obtain ⟨m, e1, _, wm⟩ := DataW.trod_int Tryz.underlying3 h1
  obtain ⟨d0, d1, d2, d3, d4, d5, d6, e2, s, hs⟩ := open_slot h2
  obtain ⟨oa, oc, l, e3, hr, hl⟩ := open_ints9 h3
  simp only [List.cons.injEq, and_true] at e0 e1 e2
  obtain ⟨rfl, rfl, rfl, rfl, rfl, rfl, rfl⟩ := e2
  subst e0 e1 e3
  exact ⟨⟨k, m, s, l⟩, _, _, _, _, _, _, _, oa, oc, rfl, wf_i64 wk, wf_i64 wm, hs, hr, hl⟩
theorem open_steps {H : Type} {enc : TypeId × Value → H} {W : World} {spare : Nat → Bool} {held : Bool} {fuel : Nat} {c : Value} {x : DataW H × List MemPlace} (h : DataW.trod enc Tryz.prog W 0 spare held fuel 23 [c] = some x) :
    ∃ ta tc, ∃ l : List StepM, c = .slice ta l.length tc ∧ StepRow W ta tc l := by
  rcases DataW.trod_slice Tryz.underlying23 h with ⟨e3, _⟩ | ⟨a, len, cap, elems, rest, n', hn', e3, _, _, hl, hm, hlen, hel, _, _⟩
  · simp only [List.cons.injEq, and_true] at e3
    subst e3
    exact ⟨none, 0, [], rfl, Nat.le_refl _, by unfold maxLen; omega, .inl rfl⟩
  · simp only [List.cons.injEq, and_true] at e3
    subst e3
    have each : ∀ i, i < len → ∃ t : StepM, ∃ c2 c3 c4 c5 c6 c7 c8 oa oc, (∀ j, j < 10 → W.cell? ((a.add (i * 10)).add j) = [.int .i64 t.kd, .int .i64 t.col, c2, c3, c4, c5, c6, c7, c8, .slice oa t.od.length oc][j]?) ∧ I64 t.kd ∧ I64 t.col ∧ Slot7 W t.sl c2 c3 c4 c5 c6 c7 c8 ∧ Row W .i64 oa t.od.length oc t.od ∧ ∀ x ∈ t.od, I64 x := by
      intro i hi
      have he := hel i hi
      rw [cellsOf_step, List.getElem?_eq_getElem (by omega)] at he
      obtain ⟨cs', g1, g2⟩ := Option.bind_eq_some_iff.1 he
      obtain ⟨t, c2, c3, c4, c5, c6, c7, c8, oa, oc, rfl, hs⟩ := open_step g2
      exact ⟨t, c2, c3, c4, c5, c6, c7, c8, oa, oc, (World.cells?_some g1).2.2, hs⟩
    obtain ⟨f, hf⟩ := Go.Deep.choose_lt each
    refine ⟨some a, cap, (List.range len).map f, by simp, by simpa using hl, hm, ?_⟩
    rcases Nat.eq_zero_or_pos len with hz | hz
    · subst hz; exact .inl rfl
    · obtain ⟨b, off, rfl⟩ : ∃ b off, a = ⟨b, off, none⟩ := by
        obtain ⟨c2, _, _, _, _, _, _, _, _, hc, _⟩ := hf 0 hz
        have := hc 0 (by omega)
        rw [Nat.zero_mul] at this
        have h0 : (a.add 0).add 0 = a.add 0 := by unfold Addr.add; split <;> simp_all
        rw [h0] at this
        exact addr_flat this
      refine .inr ⟨b, off, rfl, fun i s hs => ?_⟩
      have hi : i < len := by
        have := (List.getElem?_eq_some_iff.1 hs).1
        simpa using this
      rw [List.getElem?_map, List.getElem?_range hi] at hs
      simp only [Option.map_some, Option.some.injEq] at hs
      subst hs
      obtain ⟨c2, c3, c4, c5, c6, c7, c8, oa, oc, hc, hk, hm2, h7, hr, ho⟩ := hf i hi
      simp only [Addr.add_lit] at hc
      exact ⟨oa, oc, ⟨hc 0 (by omega), hc 1 (by omega), hc 9 (by omega)⟩, hk, hm2, ⟨c2, c3, c4, c5, c6, c7, c8, ⟨hc 2 (by omega), hc 3 (by omega), hc 4 (by omega), hc 5 (by omega), hc 6 (by omega), hc 7 (by omega), hc 8 (by omega)⟩, h7⟩, hr, ho⟩
/-- arguments -/
theorem agg_of_cells {v : Value} {l : List Value} (h : v.cells.toList = l) (h2 : l.length ≠ 1) : v = .agg l.toArray := by
  cases v <;> first
    | (simp [Value.cells] at h; subst h; simp at h2; done)
    | skip
  rename_i cells
  have e' : cells.toList = l := h
  rw [← e']
theorem open_argTempl {H : Type} {enc : TypeId × Value → H} {W : World} {spare : Nat → Bool} {held : Bool} {v : Value} {d : DataW H} {p : List MemPlace} (h : DataW.Trod enc Tryz.prog W 0 spare held 25 v d p) : ∃ t : TemplM, IsTempl W t v := by
  obtain ⟨fuel, hf⟩ := h
  obtain ⟨xs, n, hfu, _, hlen, hxl, hf⟩ := DataW.trod_struct Tryz.underlying25 hf
  rw [cellsOf_templ] at hlen
  obtain ⟨c0, c1, c2, e⟩ : ∃ c0 c1 c2, v.cells.toList = [c0, c1, c2] := by
    match hv : v.cells.toList, hlen with
    | [c0, c1, c2], _ => exact ⟨_, _, _, rfl⟩
  rw [e] at hf
  have h0 := hf 0 _ rfl
  have h1 := hf 1 _ rfl
  have h2 := hf 2 _ rfl
  have hxl' : xs.length = 3 := hxl
  match xs, hxl' with
  | [x0, x1, x2], _ =>
  replace h0 : DataW.trod enc Tryz.prog W 0 spare held n 9 [c0] = some x0 := h0
  replace h1 : DataW.trod enc Tryz.prog W 0 spare held n 22 [c1] = some x1 := h1
  replace h2 : DataW.trod enc Tryz.prog W 0 spare held n 23 [c2] = some x2 := h2
  obtain ⟨s, e0, _, ws⟩ := DataW.trod_string Tryz.underlying9 h0
  obtain ⟨sa, sc, ls, e1, hs⟩ := open_slots h1
  obtain ⟨ta, tc, lt, e2, ht⟩ := open_steps h2
  simp only [List.cons.injEq, and_true] at e0
  subst e0 e1 e2
  exact ⟨⟨s, ls, lt⟩, ws, sa, sc, ta, tc, agg_of_cells e (by simp), hs, ht⟩
end Go.Proofs.YtibjjclfonpibaaGreat

/- How deep a value is, and how many nodes it has: both sides. -/
namespace Go.Proofs.YtibjjclfonpibaaGreat
open Go.RowKit Go.Shelf
set_option maxHeartbeats 1000000 in
/-- what comes of a list's things, one behind the other -/
theorem foldInt_any (f : Nat) (hf : f = 109 ∨ f = 110) (g : Int → PV → Int) (l : List PV) (first : Int)
    (hc : ∀ i y, l[i]? = some y → ∀ w x, Is w y x → Calls Tryz.prog f #[.int .i64 ((l.take i).foldl g first), x] w fun e w' => e = .returned (.int .i64 ((l.take (i + 1)).foldl g first)) ∧ Below w.heap.size w w')
    (w : World) (a : Option Addr) (cap : Nat) (hl : l.length ≤ cap) (hcap : cap ≤ maxLen) (hL : l = [] ∨ ∃ b off, a = some ⟨b, off, none⟩ ∧ IsL w b l off) :
    Calls Tryz.prog 108 #[.slice a l.length cap, .int .i64 first, .func (.func f) #[] #[]] w fun e w' => e = .returned (.int .i64 (l.foldl g first)) ∧ Below w.heap.size w w' := by
  have hm : l.length ≤ maxLen := Nat.le_trans hl hcap
  unfold maxLen at hm
  have HC := Lib.hid hc; clear hc
  go_enter Tryz.func108, Tryz.ntmps108
  go_wp2_with fail
  go_loopw [1, 8, 11] (fun c _ i wr => ∃ k : Nat, i = .int .i64 (k : Int) ∧ c = .int .i64 ((l.take k).foldl g first) ∧ k ≤ l.length ∧ Below w.heap.size w wr) (fun _ _ i _ => l.length - (intOf i).toNat)
  case atStart => exact ⟨0, rfl, rfl, Nat.zero_le _, Below.refl _ w⟩
  case round =>
  obtain ⟨k, rfl, rfl, hk, hB⟩ := hrel
  by_cases hkl : k < l.length
  · have hd : decide (k < l.length) = true := by simp; omega
    obtain ⟨y, hy⟩ : ∃ y, l[k]? = some y := ⟨l[k], List.getElem?_eq_getElem hkl⟩
    obtain ⟨b, off, rfl, hIs⟩ : ∃ b off, a = some ⟨b, off, none⟩ ∧ IsL w b l off := by
      rcases hL with h | h
      · subst h; simp at hkl
      · exact h
    cases y with
    | mk yk yn ys yl =>
    obtain ⟨ya, yc, ⟨g0, g1, g2, g3⟩, hi⟩ := isL_val hIs k _ _ _ _ hy
    replace g0 := cell_below hB g0
    replace g1 := cell_below hB g1
    replace g2 := cell_below hB g2
    replace g3 := cell_below hB g3
    have hi2 := Lib.hid (is_below hB _ _ hi)
    have HY := Lib.hid hy
    clear hL hIs hi hy
    have hA0 := (Below.refl _ wr).alloc (Nat.le_refl _) (Obj.cells #[.int .i64 yk, .int .i64 yn, .string ys, .slice ya yl.length yc] 42)
    rcases hf with rfl | rfl
    all_goals go_wp2_with (first | ((first | go_at_call 109 | go_at_call 110); (with_reducible refine (HC.out k _ HY.out _ _ (is_below hA0 _ _ hi2.out)).mono ?_); rintro e w' ⟨rfl, hb⟩))
    all_goals go_roundw
    all_goals (first | (case' rel => exact ⟨k + 1, by go_num, rfl, by omega, hB.trans ((hA0.trans (hb.mono hA0.size)).mono hB.size)⟩) | (case' measure => simp [intOf]; omega))
  · have hd : decide (k < l.length) = false := by simp; omega
    obtain rfl : k = l.length := by omega
    go_wp2_with fail
    go_ret
    exact ⟨ret_int (by rw [List.take_length]), hB⟩
set_option maxHeartbeats 1000000 in
theorem deep1_any (y : PV) (d : Int) (w : World) (x : Value) (hi : Is w y x) (h : ∀ w x, Is w y x → Calls Tryz.prog 92 #[x] w fun e w' => e = .returned (.int .i64 (deepV y)) ∧ Below w.heap.size w w') :
    Calls Tryz.prog 109 #[.int .i64 d, x] w fun e w' => e = .returned (.int .i64 (max d (deepV y))) ∧ Below w.heap.size w w' := by
  cases y with
  | mk k n s l =>
  have hi2 := Lib.hid hi
  unfold Is at hi
  obtain ⟨h1, h2, h3, a, cap, rfl, h4, h5, h6⟩ := hi
  have h' : ∀ w W, Is w (PV.mk k n s l) (.agg #[.int .i64 k, .int .i64 n, .string s, .slice a l.length cap]) → Below w.heap.size w W →
    Calls Tryz.prog 92 #[.agg #[.int .i64 k, .int .i64 n, .string s, .slice a l.length cap]] W fun e w' => e = .returned (.int .i64 (deepV (.mk k n s l))) ∧ Below W.heap.size W w' := fun w W hi hB => h W _ (is_below hB _ _ hi)
  obtain ⟨D, hD⟩ : ∃ D, deepV (.mk k n s l) = D := ⟨_, rfl⟩
  rw [hD] at h' ⊢
  clear h6 hD h
  have hB0 := (Below.refl _ w).alloc (Nat.le_refl _) (Obj.cells #[.int .i64 k, .int .i64 n, .string s, .slice a l.length cap] 42)
  rcases Int.le_total d (D : Int) with hd | hd
  · go_enter Tryz.func109, Tryz.ntmps109
    go_wp2_with (first | (go_at_call 92; (with_reducible refine (h' _ _ hi2.out hB0).mono ?_); rintro e w' ⟨rfl, hb⟩))
    all_goals (first | (exfalso; omega) | (go_ret; exact ⟨ret_int (by omega), hB0.trans (hb.mono hB0.size)⟩))
  · go_enter Tryz.func109, Tryz.ntmps109
    go_wp2_with (first | (go_at_call 92; (with_reducible refine (h' _ _ hi2.out hB0).mono ?_); rintro e w' ⟨rfl, hb⟩))
    all_goals (first | (exfalso; omega) | (go_ret; exact ⟨ret_int (by omega), hB0.trans (hb.mono hB0.size)⟩))
set_option maxHeartbeats 1000000 in
theorem nodes1_any (y : PV) (d : Nat) (w : World) (x : Value) (hi : Is w y x) (hd : d + szV y ≤ 1000000) (h : ∀ w x, Is w y x → Calls Tryz.prog 93 #[x] w fun e w' => e = .returned (.int .i64 (szV y)) ∧ Below w.heap.size w w') :
    Calls Tryz.prog 110 #[.int .i64 d, x] w fun e w' => e = .returned (.int .i64 ((d : Int) + szV y)) ∧ Below w.heap.size w w' := by
  cases y with
  | mk k n s l =>
  have hi2 := Lib.hid hi
  unfold Is at hi
  obtain ⟨h1, h2, h3, a, cap, rfl, h4, h5, h6⟩ := hi
  have h' : ∀ w W, Is w (PV.mk k n s l) (.agg #[.int .i64 k, .int .i64 n, .string s, .slice a l.length cap]) → Below w.heap.size w W →
    Calls Tryz.prog 93 #[.agg #[.int .i64 k, .int .i64 n, .string s, .slice a l.length cap]] W fun e w' => e = .returned (.int .i64 (szV (.mk k n s l))) ∧ Below W.heap.size W w' := fun w W hi hB => h W _ (is_below hB _ _ hi)
  obtain ⟨D, hD⟩ : ∃ D, szV (.mk k n s l) = D := ⟨_, rfl⟩
  rw [hD] at h' hd ⊢
  clear h6 hD h
  have hB0 := (Below.refl _ w).alloc (Nat.le_refl _) (Obj.cells #[.int .i64 k, .int .i64 n, .string s, .slice a l.length cap] 42)
  go_enter Tryz.func110, Tryz.ntmps110
  go_wp2_with (first | (go_at_call 93; (with_reducible refine (h' _ _ hi2.out hB0).mono ?_); rintro e w' ⟨rfl, hb⟩))
  go_ret
  exact ⟨ret_int (by go_num), hB0.trans (hb.mono hB0.size)⟩
theorem foldl_deep (l : List PV) (d : Nat) : l.foldl (fun (d : Int) y => max d (deepV y)) (d : Int) = ((max d (deepL l) : Nat) : Int) := by
  induction l generalizing d with
  | nil => simp [deepL]
  | cons y l ih =>
    simp only [List.foldl_cons, deepL]
    rw [show max (d : Int) (deepV y : Int) = ((max d (deepV y) : Nat) : Int) by omega, ih]
    congr 1; omega
theorem foldl_sz (l : List PV) (d : Nat) : l.foldl (fun (d : Int) y => d + szV y) (d : Int) = ((d + szL l : Nat) : Int) := by
  induction l generalizing d with
  | nil => simp [szL]
  | cons y l ih =>
    simp only [List.foldl_cons, szL]
    rw [show (d : Int) + (szV y : Int) = ((d + szV y : Nat) : Int) by omega, ih]
    congr 1; omega
theorem take_step (l : List PV) (i : Nat) (y : PV) (h : l[i]? = some y) : l.take (i + 1) = l.take i ++ [y] := by
  rw [List.take_add_one, h]; rfl
theorem foldl_take {α : Type} (g : α → PV → α) (z : α) (l : List PV) (i : Nat) (y : PV) (h : l[i]? = some y) : (l.take (i + 1)).foldl g z = g ((l.take i).foldl g z) y := by
  rw [take_step l i y h, List.foldl_append]; rfl
theorem szL_take (l : List PV) (i : Nat) (y : PV) (h : l[i]? = some y) : szL (l.take i) + szV y ≤ szL l := by
  have h1 : szL (l.take (i + 1) ++ l.drop (i + 1)) = szL l := by rw [List.take_append_drop]
  rw [take_step l i y h, szL_append, szL_append] at h1
  simp only [szL] at h1
  omega
/-- a struct that was laid into a new cell -/
abbrev vobj (k n : Int) (s : ByteArray) (a : Option Addr) (len cap : Nat) : Obj := Obj.cells #[.int .i64 k, .int .i64 n, .string s, .slice a len cap] 42
set_option maxHeartbeats 1000000 in
theorem deep_any (v : PV) : szV v ≤ 1000000 → ∀ w x, Is w v x → Calls Tryz.prog 92 #[x] w fun e w' => e = .returned (.int .i64 (deepV v)) ∧ Below w.heap.size w w' := by
  induction v using pv_ind with
  | h k n s l ih =>
    intro hsz w x hi
    have hdl := deep_le (.mk k n s l)
    simp only [szV, deepV] at hsz hdl
    unfold Is at hi
    obtain ⟨h1, h2, h3, a, cap, rfl, h4, h5, h6⟩ := hi
    have hB0 := (Below.refl _ w).alloc (Nat.le_refl _) (vobj k n s a l.length cap)
    have hfold := fun W h6 => foldInt_any 109 (.inl rfl) (fun d y => max d (deepV y)) l 0 (fun i y hy w x hx => by
      rw [foldl_take _ _ _ _ _ hy]
      exact deep1_any y _ w x hx fun w x hx => ih y (List.mem_of_getElem? hy) (by have := szL_mem (List.mem_of_getElem? hy); omega) w x hx) W a cap h4 h5 h6
    rw [show l.foldl (fun (d : Int) y => max d (deepV y)) (0 : Int) = ((deepL l : Nat) : Int) by simpa using foldl_deep l 0] at hfold
    have H6 := Lib.hid (show l = [] ∨ ∃ b off, a = some ⟨b, off, none⟩ ∧ IsL (w.alloc (vobj k n s a l.length cap)) b l off by
      rcases h6 with h6 | ⟨b, off, rfl, h6⟩
      · exact .inl h6
      · exact .inr ⟨b, off, rfl, isL_below hB0 h6⟩)
    clear h6 ih
    obtain ⟨D, hD⟩ : ∃ D, deepL l = D := ⟨_, rfl⟩
    have hv : deepV (.mk k n s l) = D + (if k = 5 then 1 else 0) := by simp only [deepV, hD]
    rw [hD] at hfold hdl
    rw [hv]
    clear hv hD
    by_cases hk : k = 5
    · subst hk
      simp only [if_true] at hdl ⊢
      go_enter Tryz.func92, Tryz.ntmps92
      go_wp2_with (first | (go_at_call 108; (with_reducible refine (hfold _ H6.out).mono ?_); rintro e w' ⟨rfl, hb⟩; have hc0 := cell_below hb (p := ⟨w.heap.size, 0, none⟩) (v := .int .i64 5) (by simp)))
      all_goals go_ret
      all_goals exact ⟨ret_int (by go_num), hB0.trans (hb.mono hB0.size)⟩
    · have hk' : (k == 5) = false := by simpa using hk
      rw [if_neg hk] at hdl ⊢
      go_enter Tryz.func92, Tryz.ntmps92
      go_wp2_with (first | (go_at_call 108; (with_reducible refine (hfold _ H6.out).mono ?_); rintro e w' ⟨rfl, hb⟩; have hc0 := cell_below hb (p := ⟨w.heap.size, 0, none⟩) (v := .int .i64 k) (by simp)))
      all_goals go_ret
      all_goals exact ⟨ret_int (by omega), hB0.trans (hb.mono hB0.size)⟩
set_option maxHeartbeats 1000000 in
theorem nodes_any (v : PV) : szV v ≤ 1000000 → ∀ w x, Is w v x → Calls Tryz.prog 93 #[x] w fun e w' => e = .returned (.int .i64 (szV v)) ∧ Below w.heap.size w w' := by
  induction v using pv_ind with
  | h k n s l ih =>
    intro hsz w x hi
    simp only [szV] at hsz
    unfold Is at hi
    obtain ⟨h1, h2, h3, a, cap, rfl, h4, h5, h6⟩ := hi
    have hB0 := (Below.refl _ w).alloc (Nat.le_refl _) (vobj k n s a l.length cap)
    have hfold := fun W h6 => foldInt_any 110 (.inr rfl) (fun d y => d + szV y) l 1 (fun i y hy w x hx => by
      have h7 := szL_take l i y hy
      rw [foldl_take _ _ _ _ _ hy, show (l.take i).foldl (fun (d : Int) y => d + szV y) 1 = ((1 + szL (l.take i) : Nat) : Int) from foldl_sz (l.take i) 1]
      exact nodes1_any y _ w x hx (by omega) fun w x hx => ih y (List.mem_of_getElem? hy) (by omega) w x hx) W a cap h4 h5 h6
    rw [show l.foldl (fun (d : Int) y => d + szV y) (1 : Int) = ((1 + szL l : Nat) : Int) from foldl_sz l 1] at hfold
    have H6 := Lib.hid (show l = [] ∨ ∃ b off, a = some ⟨b, off, none⟩ ∧ IsL (w.alloc (vobj k n s a l.length cap)) b l off by
      rcases h6 with h6 | ⟨b, off, rfl, h6⟩
      · exact .inl h6
      · exact .inr ⟨b, off, rfl, isL_below hB0 h6⟩)
    clear h6 ih
    simp only [szV]
    obtain ⟨D, hD⟩ : ∃ D, szL l = D := ⟨_, rfl⟩
    rw [hD] at hfold ⊢
    clear hD
    go_enter Tryz.func93, Tryz.ntmps93
    go_wp2_with (first | (go_at_call 108; (with_reducible refine (hfold _ H6.out).mono ?_); rintro e w' ⟨rfl, hb⟩))
    all_goals go_ret
    all_goals exact ⟨ret_int (by omega), hB0.trans (hb.mono hB0.size)⟩
end Go.Proofs.YtibjjclfonpibaaGreat

/- What is looked at: the document's Great. -/
namespace Go.Proofs.YtibjjclfonpibaaGreat
open Go.RowKit Go.Shelf
mutual
def cntV : PV → Int → Int → Int
  | .mk _ _ _ l, n, d => if n - 1 < 0 ∨ d < 0 then -1 else cntL l (n - 1) (d - 1)
def cntL : List PV → Int → Int → Int
  | [], n, _ => n
  | x :: r, n, d => if cntV x n d < 0 then -1 else cntL r (cntV x n d) d
end
theorem cnt_bd : ∀ v : PV, ∀ n d, 0 ≤ n → -1 ≤ cntV v n d ∧ cntV v n d ≤ n ∧ (0 ≤ cntV v n d → cntV v n d = n - szV v) := by
  intro v
  induction v using pv_ind with
  | h k n s l ih =>
    have hl : ∀ n d, 0 ≤ n → -1 ≤ cntL l n d ∧ cntL l n d ≤ n ∧ (0 ≤ cntL l n d → cntL l n d = n - szL l) := by
      induction l with
      | nil => intro n d hn; simp only [cntL, szL]; omega
      | cons x r ih2 =>
        intro n d hn
        have h1 := ih x (by simp) n d hn
        simp only [cntL, szL]
        split
        · omega
        · have h2 := ih2 (fun y hy => ih y (by simp [hy])) (cntV x n d) d (by omega)
          omega
    intro n d hn
    simp only [cntV, szV]
    split
    · omega
    · have := hl (n - 1) (d - 1) (by omega); omega
set_option maxHeartbeats 2000000 in
theorem refCount_any (v : PV) : ∀ (n d : Int), 0 ≤ n → n ≤ 2000 → -1 ≤ d → d ≤ 2000 → ∀ w x, Is w v x →
    Calls Tryz.prog 60 #[x, .int .i64 n, .int .i64 d] w fun e w' => e = .returned (.int .i64 (cntV v n d)) ∧ Below w.heap.size w w' := by
  induction v using pv_ind with
  | h k m s l ih =>
    intro n d hn hn' hd hd' w x hi
    unfold Is at hi
    obtain ⟨h1, h2, h3, a, cap, rfl, h4, h5, h6⟩ := hi
    have hm : l.length ≤ maxLen := Nat.le_trans h4 h5
    unfold maxLen at hm
    have hB0 := (Below.refl _ w).alloc (Nat.le_refl _) (vobj k m s a l.length cap)
    by_cases hg : n - 1 < 0 ∨ d < 0
    · have hv : cntV (.mk k m s l) n d = -1 := by simp only [cntV]; rw [if_pos hg]
      rw [hv]
      clear ih h6 hv
      rcases Int.lt_or_le (n - 1) 0 with hg1 | hg1
      · have hd1 : decide (n - 1 < 0) = true := by simpa using hg1
        go_enter Tryz.func60, Tryz.ntmps60
        go_wp2_with fail
        all_goals go_ret
        all_goals exact ⟨rfl, hB0⟩
      · have hd1 : decide (n - 1 < 0) = false := by simp; omega
        have hd2 : decide (d < 0) = true := by simp; omega
        clear hg
        go_enter Tryz.func60, Tryz.ntmps60
        go_wp2_with fail
        all_goals go_ret
        all_goals exact ⟨rfl, hB0⟩
    · have hv : cntV (.mk k m s l) n d = cntL l (n - 1) (d - 1) := by simp only [cntV]; rw [if_neg hg]
      rw [hv]
      clear hv
      have hd1 : decide (n - 1 < 0) = false := by simp; omega
      have hd2 : decide (d < 0) = false := by simp; omega
      obtain ⟨r, hr⟩ : ∃ r, cntL l (n - 1) (d - 1) = r := ⟨_, rfl⟩
      rw [hr]
      have HR := Lib.hid hr; have HI := Lib.hid ih; clear ih hr
      have hg0 : 0 ≤ d ∧ 1 ≤ n := by omega
      clear hg
      go_enter Tryz.func60, Tryz.ntmps60
      go_wp2_with fail
      go_loopw [1, 7] (fun c i wr => ∃ (q : Nat) (z : Int), i = .int .i64 (q : Int) ∧ c = .int .i64 z ∧ 0 ≤ z ∧ z ≤ 2000 ∧ q ≤ l.length ∧ Below (w.alloc (vobj k m s a l.length cap)).heap.size (w.alloc (vobj k m s a l.length cap)) wr ∧ Hid (cntL (l.drop q) z (d - 1) = r)) (fun _ i _ => l.length - (intOf i).toNat)
      case atStart => exact ⟨0, n - 1, rfl, rfl, by omega, by omega, Nat.zero_le _, Below.refl _ _, HR.out⟩
      case round =>
      obtain ⟨q, c, rfl, rfl, hc, hc', hq, hB, HQ⟩ := hrel
      have e3 := cell_below hB (p := ⟨w.heap.size, 3, none⟩) (v := .slice a l.length cap) (by simp)
      by_cases hql : q < l.length
      · have hdq : decide (q < l.length) = true := by simp; omega
        obtain ⟨y, hy⟩ : ∃ y, l[q]? = some y := ⟨l[q], List.getElem?_eq_getElem hql⟩
        obtain ⟨b, off, rfl, hIs⟩ : ∃ b off, a = some ⟨b, off, none⟩ ∧ IsL w b l off := by
          rcases h6 with h | h
          · subst h; simp at hql
          · exact h
        have hdrop : cntL (l.drop q) c (d - 1) = if cntV y c (d - 1) < 0 then -1 else cntL (l.drop (q + 1)) (cntV y c (d - 1)) (d - 1) := by
          rw [show l.drop q = y :: l.drop (q + 1) by
            rw [List.drop_eq_getElem_cons hql]
            rw [List.getElem?_eq_getElem hql] at hy
            cases hy; rfl]
          simp only [cntL]
        rw [HQ.out] at hdrop
        have hbd := cnt_bd y c (d - 1) hc
        have hcall := fun w x hx => HI.out y (List.mem_of_getElem? hy) c (d - 1) hc hc' (by omega) (by omega) w x hx
        cases y with
        | mk yk yn ys yl =>
        obtain ⟨ya, yc, ⟨g0, g1, g2, g3⟩, hi⟩ := isL_val (isL_below hB (isL_below hB0 hIs)) q _ _ _ _ hy
        have hi2 := Lib.hid hi
        obtain ⟨z, hz⟩ : ∃ z, cntV (.mk yk yn ys yl) c (d - 1) = z := ⟨_, rfl⟩
        rw [hz] at hcall hdrop hbd
        have HD := Lib.hid hdrop
        have HC := Lib.hid hcall
        clear h6 hIs hi hy hz hdrop HQ hcall
        rcases Int.lt_or_le z 0 with hz0 | hz0
        · have hdz : decide (z < 0) = true := by simpa using hz0
          go_wp2_with (first | (go_at_call 60; (with_reducible refine (HC.out _ _ hi2.out).mono ?_); rintro e w' ⟨rfl, hb⟩))
          all_goals go_ret
          all_goals exact ⟨ret_int (by rw [HD.out, if_pos hz0]), hB0.trans ((hB.trans (hb.mono hB.size)).mono hB0.size)⟩
        · have hdz : decide (z < 0) = false := by simp; omega
          go_wp2_with (first | (go_at_call 60; (with_reducible refine (HC.out _ _ hi2.out).mono ?_); rintro e w' ⟨rfl, hb⟩))
          all_goals go_roundw
          all_goals (first
            | (case' rel => exact ⟨q + 1, z, by go_num, rfl, by omega, by omega, by omega, hB.trans (hb.mono hB.size), (HD.out.trans (if_neg (by omega))).symm⟩)
            | (case' measure => simp [intOf]; omega))
      · have hdq : decide (q < l.length) = false := by simp; omega
        obtain rfl : q = l.length := by omega
        have hQ := HQ.out
        rw [List.drop_length] at hQ
        simp only [cntL] at hQ
        subst hQ
        go_wp2_with fail
        all_goals go_ret
        all_goals exact ⟨rfl, hB0.trans (hB.mono hB0.size)⟩
mutual
def rdV : PV → Int
  | .mk k _ _ l => rdL (if k = 5 then 0 else -1) l + 1
def rdL : Int → List PV → Int
  | n, [] => n
  | n, x :: r => rdL (if n < rdV x then rdV x else n) r
end
theorem rd_bd : ∀ v : PV, 0 ≤ rdV v ∧ rdV v ≤ szV v := by
  intro v
  induction v using pv_ind with
  | h k n s l ih =>
    have hl : ∀ n, -1 ≤ n → n ≤ rdL n l ∧ (rdL n l ≤ n ∨ rdL n l ≤ szL l) := by
      induction l with
      | nil => intro n hn; simp only [rdL, szL]; omega
      | cons x r ih2 =>
        intro n hn
        have h1 := ih x (by simp)
        simp only [rdL, szL]
        have h2 := ih2 (fun y hy => ih y (by simp [hy])) (if n < rdV x then rdV x else n) (by split <;> omega)
        split at h2 <;> rename_i h3
        · rw [if_pos h3]; omega
        · rw [if_neg h3]; omega
    simp only [rdV, szV]
    have h1 := hl (if k = 5 then 0 else -1) (by split <;> omega)
    split at h1 <;> rename_i h3
    · rw [if_pos h3]; omega
    · rw [if_neg h3]; omega
set_option maxHeartbeats 2000000 in
theorem refDeep_any (v : PV) : szV v ≤ 1000000 → ∀ w x, Is w v x → Calls Tryz.prog 61 #[x] w fun e w' => e = .returned (.int .i64 (rdV v)) ∧ Below w.heap.size w w' := by
  induction v using pv_ind with
  | h k m s l ih =>
    intro hsz w x hi
    simp only [szV] at hsz
    unfold Is at hi
    obtain ⟨h1, h2, h3, a, cap, rfl, h4, h5, h6⟩ := hi
    have hm : l.length ≤ maxLen := Nat.le_trans h4 h5
    unfold maxLen at hm
    have hB0 := (Below.refl _ w).alloc (Nat.le_refl _) (vobj k m s a l.length cap)
    obtain ⟨r, hr⟩ : ∃ r, rdL (if k = 5 then 0 else -1) l = r := ⟨_, rfl⟩
    have hrb : -1 ≤ r ∧ r ≤ 1000000 := by have := rd_bd (.mk k m s l); simp only [rdV, szV, hr] at this; omega
    simp only [rdV, hr]
    obtain ⟨z0, hz0⟩ : ∃ z0 : Int, (if k = 5 then 0 else -1) = z0 := ⟨_, rfl⟩
    rw [hz0] at hr
    have hz1 : -1 ≤ z0 ∧ z0 ≤ 1000000 := by rw [← hz0]; split <;> omega
    have HR := Lib.hid hr; have HI := Lib.hid ih; clear ih hr
    have hk : (k == 5) = true ∧ z0 = 0 ∨ (k == 5) = false ∧ z0 = -1 := by
      rw [← hz0]
      by_cases h : k = 5 <;> simp [h]
    clear hz0
    have key : ∀ wr, Below (w.alloc (vobj k m s a l.length cap)).heap.size (w.alloc (vobj k m s a l.length cap)) wr → True := fun _ _ => trivial
    clear key
    rcases hk with ⟨hk, rfl⟩ | ⟨hk, rfl⟩
    all_goals (go_enter Tryz.func61, Tryz.ntmps61)
    all_goals (go_wp2_with fail)
    all_goals (go_loopw [3, 4, 5] (fun c i _ wr => ∃ (q : Nat) (z : Int), i = .int .i64 (q : Int) ∧ c = .int .i64 z ∧ -1 ≤ z ∧ z ≤ 1000000 ∧ q ≤ l.length ∧ Below (w.alloc (vobj k m s a l.length cap)).heap.size (w.alloc (vobj k m s a l.length cap)) wr ∧ Hid (rdL z (l.drop q) = r)) (fun _ i _ _ => l.length - (intOf i).toNat))
    all_goals (first | (case' atStart => exact ⟨0, _, rfl, rfl, hz1.1, hz1.2, Nat.zero_le _, Below.refl _ _, HR.out⟩) | skip)
    all_goals (
      obtain ⟨q, c, rfl, rfl, hc, hc', hq, hB, HQ⟩ := hrel
      have e3 := cell_below hB (p := ⟨w.heap.size, 3, none⟩) (v := .slice a l.length cap) (by simp)
      by_cases hql : q < l.length
      · have hdq : decide (q < l.length) = true := by simp; omega
        obtain ⟨y, hy⟩ : ∃ y, l[q]? = some y := ⟨l[q], List.getElem?_eq_getElem hql⟩
        obtain ⟨b, off, rfl, hIs⟩ : ∃ b off, a = some ⟨b, off, none⟩ ∧ IsL w b l off := by
          rcases h6 with h | h
          · subst h; simp at hql
          · exact h
        have hdrop : rdL c (l.drop q) = rdL (if c < rdV y then rdV y else c) (l.drop (q + 1)) := by
          rw [show l.drop q = y :: l.drop (q + 1) by
            rw [List.drop_eq_getElem_cons hql]
            rw [List.getElem?_eq_getElem hql] at hy
            cases hy; rfl]
          simp only [rdL]
        rw [HQ.out] at hdrop
        have hsy : szV y ≤ 1000000 := by have := szL_mem (List.mem_of_getElem? hy); omega
        have hbd := rd_bd y
        have hcall := fun w x hx => HI.out y (List.mem_of_getElem? hy) hsy w x hx
        cases y with
        | mk yk yn ys yl =>
        obtain ⟨ya, yc, ⟨g0, g1, g2, g3⟩, hi⟩ := isL_val (isL_below hB (isL_below hB0 hIs)) q _ _ _ _ hy
        have hi2 := Lib.hid hi
        obtain ⟨z, hz⟩ : ∃ z, rdV (.mk yk yn ys yl) = z := ⟨_, rfl⟩
        rw [hz] at hcall hdrop hbd
        have hz9 : z ≤ 1000000 := by omega
        have HD := Lib.hid hdrop
        have HC := Lib.hid hcall
        clear h6 hIs hi hy hz hdrop HQ hcall
        rcases Int.lt_or_le c z with hz0 | hz0
        · have hdz : decide (c < z) = true := by simpa using hz0
          go_wp2_with (first | (go_at_call 61; (with_reducible refine (HC.out _ _ hi2.out).mono ?_); rintro e w' ⟨rfl, hb⟩))
          all_goals go_roundw
          all_goals (first
            | (case' rel => exact ⟨q + 1, z, by go_num, rfl, by omega, by omega, by omega, hB.trans (hb.mono hB.size), by have h := HD.out; rw [if_pos hz0] at h; exact h.symm⟩)
            | (case' measure => simp [intOf]; omega))
        · have hdz : decide (c < z) = false := by simp; omega
          go_wp2_with (first | (go_at_call 61; (with_reducible refine (HC.out _ _ hi2.out).mono ?_); rintro e w' ⟨rfl, hb⟩))
          all_goals go_roundw
          all_goals (first
            | (case' rel => exact ⟨q + 1, c, by go_num, rfl, by omega, by omega, by omega, hB.trans (hb.mono hB.size), by have h := HD.out; rw [if_neg (by omega)] at h; exact h.symm⟩)
            | (case' measure => simp [intOf]; omega))
      · have hdq : decide (q < l.length) = false := by simp; omega
        obtain rfl : q = l.length := by omega
        have hQ := HQ.out
        rw [List.drop_length] at hQ
        simp only [rdL] at hQ
        subst hQ
        go_wp2_with fail
        all_goals go_ret
        all_goals exact ⟨ret_int (by go_num), hB0.trans (hB.mono hB0.size)⟩)
/-- is a value not looked at? -/
def greatV (v : PV) : Bool := decide (cntV v 1000 10 < 0) || decide (10 < rdV v)
theorem great_sz (v : PV) (h : greatV v = false) : szV v ≤ 1000 := by
  simp [greatV] at h
  have := cnt_bd v 1000 10 (by omega)
  omega
set_option maxHeartbeats 2000000 in
theorem great_any (v : PV) (w : World) (x : Value) (hi : Is w v x) : Calls Tryz.prog 36 #[x] w fun e w' => e = .returned (.bool (greatV v)) ∧ Below w.heap.size w w' := by
  have h1 := fun w x hi => refCount_any v 1000 10 (by omega) (by omega) (by omega) (by omega) w x hi
  have h2 := cnt_bd v 1000 10 (by omega)
  have h3 := fun hsz => refDeep_any v hsz
  obtain ⟨c, hc⟩ : ∃ c, cntV v 1000 10 = c := ⟨_, rfl⟩
  obtain ⟨r, hr⟩ : ∃ r, rdV v = r := ⟨_, rfl⟩
  unfold greatV
  rw [hc] at h1 h2 ⊢
  rw [hr] at h3 ⊢
  have hv : ∃ k m s l, v = .mk k m s l := by cases v; exact ⟨_, _, _, _, rfl⟩
  obtain ⟨k, m, s, l, rfl⟩ := hv
  have hi2 := Lib.hid hi
  unfold Is at hi
  obtain ⟨_, _, _, a, cap, rfl, _, _, _⟩ := hi
  have hB0 := (Below.refl _ w).alloc (Nat.le_refl _) (vobj k m s a l.length cap)
  clear hc hr
  rcases Int.lt_or_le c 0 with hcn | hcn
  · have hd : decide (c < 0) = true := by simpa using hcn
    go_enter Tryz.func36, Tryz.ntmps36
    go_wp2_with (first | (go_at_call 60; (with_reducible refine (h1 _ _ (is_below hB0 _ _ hi2.out)).mono ?_); rintro e w' ⟨rfl, hb⟩))
    all_goals go_ret
    all_goals exact ⟨ret_bool (by rw [hd]; rfl), hB0.trans (hb.mono hB0.size)⟩
  · have hd : decide (c < 0) = false := by simp; omega
    have h4 := h3 (by omega)
    clear h3
    by_cases hrn : 10 < r
    · have hd2 : decide (10 < r) = true := by simpa using hrn
      go_enter Tryz.func36, Tryz.ntmps36
      go_wp2_with (first
        | (go_at_call 60; (with_reducible refine (h1 _ _ (is_below hB0 _ _ hi2.out)).mono ?_); rintro e w1 ⟨rfl, hb1⟩; have hB1 := hB0.trans (hb1.mono hB0.size); have e0 := cell_below hb1 (p := ⟨w.heap.size, 0, none⟩) (v := .int .i64 k) (by simp); have e1 := cell_below hb1 (p := ⟨w.heap.size, 1, none⟩) (v := .int .i64 m) (by simp); have e2 := cell_below hb1 (p := ⟨w.heap.size, 2, none⟩) (v := .string s) (by simp); have e3 := cell_below hb1 (p := ⟨w.heap.size, 3, none⟩) (v := .slice a l.length cap) (by simp))
        | (go_at_call 61; (with_reducible refine (h4 _ _ (is_below hB1 _ _ hi2.out)).mono ?_); rintro e w' ⟨rfl, hb⟩))
      all_goals go_ret
      all_goals exact ⟨ret_bool (by simp [hd, hd2]), hB1.trans (hb.mono hB1.size)⟩
    · have hd2 : decide (10 < r) = false := by simpa using hrn
      go_enter Tryz.func36, Tryz.ntmps36
      go_wp2_with (first
        | (go_at_call 60; (with_reducible refine (h1 _ _ (is_below hB0 _ _ hi2.out)).mono ?_); rintro e w1 ⟨rfl, hb1⟩; have hB1 := hB0.trans (hb1.mono hB0.size); have e0 := cell_below hb1 (p := ⟨w.heap.size, 0, none⟩) (v := .int .i64 k) (by simp); have e1 := cell_below hb1 (p := ⟨w.heap.size, 1, none⟩) (v := .int .i64 m) (by simp); have e2 := cell_below hb1 (p := ⟨w.heap.size, 2, none⟩) (v := .string s) (by simp); have e3 := cell_below hb1 (p := ⟨w.heap.size, 3, none⟩) (v := .slice a l.length cap) (by simp))
        | (go_at_call 61; (with_reducible refine (h4 _ _ (is_below hB1 _ _ hi2.out)).mono ?_); rintro e w' ⟨rfl, hb⟩))
      all_goals go_ret
      all_goals exact ⟨ret_bool (by simp [hd, hd2]), hB1.trans (hb.mono hB1.size)⟩
end Go.Proofs.YtibjjclfonpibaaGreat
