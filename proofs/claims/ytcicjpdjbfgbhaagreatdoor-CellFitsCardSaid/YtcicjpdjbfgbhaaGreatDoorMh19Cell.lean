/- Values that came in: opened. -/
import Derived.Test.YtcicjpdjbfgbhaaGreatDoorMh4Cell
import Derived.Deep.Slices
import Derived.Test.YtcicjpdjbfgbhaaGreatDoorMh0Cell
import Derived.Test.YtcicjpdjbfgbhaaGreatDoorMh13Cell
import Derived.Test.YtcicjpdjbfgbhaaGreatDoorMh9Cell
set_option maxRecDepth 100000
namespace Go.Proofs.YtcicjpdjbfgbhaaGreatDoor
open Go.RowKit Go.ChangeShapes Go.WideShapes
theorem cellsOf_val : Tryz.prog.cellsOf 24 = 4 := by kernel_rfl
theorem cells_four {W : World} {a : Addr} {cs : List Value} (h : W.cells? 0 a 4 = some cs) : ∃ c0 c1 c2 c3, cs = [c0, c1, c2, c3] ∧ W.cell? (a.add 0) = some c0 ∧ W.cell? (a.add 1) = some c1 ∧ W.cell? (a.add 2) = some c2 ∧ W.cell? (a.add 3) = some c3 := by
  obtain ⟨_, hlen, hc⟩ := World.cells?_some h
  match cs, hlen with
  | [c0, c1, c2, c3], _ => exact ⟨c0, c1, c2, c3, rfl, hc 0 (by omega), hc 1 (by omega), hc 2 (by omega), hc 3 (by omega)⟩
instance : Inhabited PV := ⟨.mk 0 0 ⟨#[]⟩ []⟩
/-- whatever reads as a value is one -/
theorem open_value {H : Type} {enc : TypeId × Value → H} {W : World} {spare : Nat → Bool} {held : Bool} (fuel : Nat) : ∀ (cs : List Value) (x : DataW H × List MemPlace), DataW.trod enc Tryz.prog W 0 spare held fuel 24 cs = some x →
    ∃ c0 c1 c2 c3, cs = [c0, c1, c2, c3] ∧ ∃ t : PV, Is W t (.agg #[c0, c1, c2, c3]) := by
  induction fuel using Nat.strongRecOn with
  | _ fuel ih =>
    intro cs x h
    obtain ⟨xs, n, hfu, _, hlen, hxl, hf⟩ := DataW.trod_struct Tryz.underlying24 h
    rw [cellsOf_val] at hlen
    match cs, hlen with
    | [c0, c1, c2, c3], _ =>
    have h0 := hf 0 _ rfl
    have h1 := hf 1 _ rfl
    have h2 := hf 2 _ rfl
    have h3 := hf 3 _ rfl
    have hxl' : xs.length = 4 := hxl
    match xs, hxl' with
    | [x0, x1, x2, x3], _ =>
    replace h0 : DataW.trod enc Tryz.prog W 0 spare held n 3 [c0] = some x0 := h0
    replace h1 : DataW.trod enc Tryz.prog W 0 spare held n 2 [c1] = some x1 := h1
    replace h2 : DataW.trod enc Tryz.prog W 0 spare held n 9 [c2] = some x2 := h2
    replace h3 : DataW.trod enc Tryz.prog W 0 spare held n 22 [c3] = some x3 := h3
    obtain ⟨k, e0, _, wk⟩ := DataW.trod_int Tryz.underlying3 h0
    obtain ⟨m, e1, _, wm⟩ := DataW.trod_int Tryz.underlying2 h1
    obtain ⟨s, e2, _, ws⟩ := DataW.trod_string Tryz.underlying9 h2
    simp only [List.cons.injEq, and_true] at e0 e1 e2
    subst e0 e1 e2
    refine ⟨_, _, _, _, rfl, ?_⟩
    rcases DataW.trod_slice Tryz.underlying22 h3 with ⟨e3, _⟩ | ⟨a, len, cap, elems, rest, n', hn', e3, _, _, hl, hm, hlen, hel, _, _⟩
    · simp only [List.cons.injEq, and_true] at e3
      subst e3
      refine ⟨.mk k m s [], ?_⟩
      unfold Is
      exact ⟨wf_i64 wk, wf_i64 wm, ws, none, 0, rfl, Nat.le_refl _, by unfold maxLen; omega, .inl rfl⟩
    · simp only [List.cons.injEq, and_true] at e3
      subst e3
      have each : ∀ i, i < len → ∃ t : PV, ∃ c0 c1 c2 c3, (W.cell? ((a.add (i * 4)).add 0) = some c0 ∧ W.cell? ((a.add (i * 4)).add 1) = some c1 ∧ W.cell? ((a.add (i * 4)).add 2) = some c2 ∧ W.cell? ((a.add (i * 4)).add 3) = some c3) ∧ Is W t (.agg #[c0, c1, c2, c3]) := fun i hi => by
        have he := hel i hi
        rw [cellsOf_val, List.getElem?_eq_getElem (by omega)] at he
        obtain ⟨cs', g1, g2⟩ := Option.bind_eq_some_iff.1 he
        obtain ⟨d0, d1, d2, d3, rfl, q0, q1, q2, q3⟩ := cells_four g1
        obtain ⟨_, _, _, _, e, t, ht⟩ := ih n' (by omega) _ _ g2
        simp only [List.cons.injEq, and_true] at e
        obtain ⟨rfl, rfl, rfl, rfl⟩ := e
        exact ⟨t, d0, d1, d2, d3, ⟨q0, q1, q2, q3⟩, ht⟩
      obtain ⟨f, hf⟩ := Go.Deep.choose_lt each
      refine ⟨.mk k m s ((List.range len).map f), ?_⟩
      unfold Is
      refine ⟨wf_i64 wk, wf_i64 wm, ws, some a, cap, by simp, by simpa using hl, hm, ?_⟩
      rcases Nat.eq_zero_or_pos len with hz | hz
      · subst hz; exact .inl rfl
      · obtain ⟨b, off, spot⟩ := a
        have hspot : spot = none := by
          obtain ⟨c0, _, _, _, ⟨q0, _⟩, _⟩ := hf 0 hz
          simpa [Addr.add] using World.cell?_spot q0
        subst hspot
        refine .inr ⟨b, off, rfl, isL_of fun i y hy => ?_⟩
        have hi : i < len := by
          have := (List.getElem?_eq_some_iff.1 hy).1
          simpa using this
        obtain ⟨c0, c1, c2, c3, ⟨q0, q1, q2, q3⟩, ht⟩ := hf i hi
        have hyf : f i = y := by
          rw [List.getElem?_map, List.getElem?_range hi] at hy
          simpa using hy
        subst hyf
        simp only [Addr.add_lit, Nat.add_zero] at q0 q1 q2 q3
        exact ⟨c0, c1, c2, c3, ⟨q0, q1, q2, q3⟩, ht⟩
/-- .. an argument -/
theorem open_arg {H : Type} {enc : TypeId × Value → H} {W : World} {spare : Nat → Bool} {held : Bool} {v : Value} {d : DataW H} {p : List MemPlace} (h : DataW.Trod enc Tryz.prog W 0 spare held 24 v d p) :
    ∃ c0 c1 c2 c3, v = .agg #[c0, c1, c2, c3] ∧ ∃ t : PV, Is W t (.agg #[c0, c1, c2, c3]) := by
  obtain ⟨fuel, hf⟩ := h
  obtain ⟨c0, c1, c2, c3, e, t, ht⟩ := open_value fuel _ _ hf
  refine ⟨c0, c1, c2, c3, ?_, t, ht⟩
  cases v <;> first
    | (simp [Value.cells] at e; done)
    | skip
  rename_i cells
  have e' : cells.toList = [c0, c1, c2, c3] := e
  rw [show cells = #[c0, c1, c2, c3] from by rw [← Array.toList_inj, e']]
end Go.Proofs.YtcicjpdjbfgbhaaGreatDoor

/- Slots, steps and templates: the pure ones, how they lie in memory, and those that came in, opened. -/
set_option linter.unusedVariables false
set_option maxRecDepth 100000
namespace Go.Proofs.YtcicjpdjbfgbhaaGreatDoor
open Go.RowKit Go.ChangeShapes Go.WideShapes Go.Shelf
structure SlotM where
  nm : ByteArray
  ty : Int
  rq : Bool
  df : PV
instance : Inhabited SlotM := ⟨⟨⟨#[]⟩, 0, false, default⟩⟩
structure StepM where
  kd : Int
  col : Int
  sl : SlotM
  od : List Int
instance : Inhabited StepM := ⟨⟨0, 0, default, []⟩⟩
/-- seven cells are a slot -/
def Slot7 (w : World) (s : SlotM) (c0 c1 c2 c3 c4 c5 c6 : Value) : Prop :=
  s.nm.size ≤ maxLen ∧ I64 s.ty ∧ c0 = .string s.nm ∧ c1 = .int .i64 s.ty ∧ c2 = .bool s.rq ∧ Is w s.df (.agg #[c3, c4, c5, c6])
def IsSlot (w : World) (s : SlotM) (x : Value) : Prop := ∃ c0 c1 c2 c3 c4 c5 c6, x = .agg #[c0, c1, c2, c3, c4, c5, c6] ∧ Slot7 w s c0 c1 c2 c3 c4 c5 c6
/- they stay where memory is made -/
theorem slot7_below {w w' : World} (hb : Below w.heap.size w w') {s : SlotM} {c0 c1 c2 c3 c4 c5 c6 : Value} (h : Slot7 w s c0 c1 c2 c3 c4 c5 c6) : Slot7 w' s c0 c1 c2 c3 c4 c5 c6 :=
  ⟨h.1, h.2.1, h.2.2.1, h.2.2.2.1, h.2.2.2.2.1, is_below hb _ _ h.2.2.2.2.2⟩
theorem isSlot_below {w w' : World} (hb : Below w.heap.size w w') {s : SlotM} {x : Value} (h : IsSlot w s x) : IsSlot w' s x := by
  obtain ⟨c0, c1, c2, c3, c4, c5, c6, rfl, h⟩ := h
  exact ⟨c0, c1, c2, c3, c4, c5, c6, rfl, slot7_below hb h⟩
/- opened -/
theorem cellsOf_slot : Tryz.prog.cellsOf 26 = 7 := by kernel_rfl
theorem list_seven {α : Type} {cs : List α} (h : cs.length = 7) : ∃ c0 c1 c2 c3 c4 c5 c6, cs = [c0, c1, c2, c3, c4, c5, c6] := by
  match cs, h with
  | [c0, c1, c2, c3, c4, c5, c6], _ => exact ⟨_, _, _, _, _, _, _, rfl⟩
theorem open_slot {H : Type} {enc : TypeId × Value → H} {W : World} {spare : Nat → Bool} {held : Bool} {fuel : Nat} {cs : List Value} {x : DataW H × List MemPlace} (h : DataW.trod enc Tryz.prog W 0 spare held fuel 26 cs = some x) :
    ∃ c0 c1 c2 c3 c4 c5 c6, cs = [c0, c1, c2, c3, c4, c5, c6] ∧ ∃ s : SlotM, Slot7 W s c0 c1 c2 c3 c4 c5 c6 := by
  obtain ⟨xs, n, hfu, _, hlen, hxl, hf⟩ := DataW.trod_struct Tryz.underlying26 h
  rw [cellsOf_slot] at hlen
  obtain ⟨c0, c1, c2, c3, c4, c5, c6, rfl⟩ := list_seven hlen
  have h0 := hf 0 _ rfl
  have h1 := hf 1 _ rfl
  have h2 := hf 2 _ rfl
  have h3 := hf 3 _ rfl
  have hxl' : xs.length = 4 := hxl
  match xs, hxl' with
  | [x0, x1, x2, x3], _ =>
  replace h0 : DataW.trod enc Tryz.prog W 0 spare held n 9 [c0] = some x0 := h0
  replace h1 : DataW.trod enc Tryz.prog W 0 spare held n 3 [c1] = some x1 := h1
  replace h2 : DataW.trod enc Tryz.prog W 0 spare held n 4 [c2] = some x2 := h2
  replace h3 : DataW.trod enc Tryz.prog W 0 spare held n 24 [c3, c4, c5, c6] = some x3 := h3
  obtain ⟨s, e0, _, ws⟩ := DataW.trod_string Tryz.underlying9 h0
  obtain ⟨k, e1, _, wk⟩ := DataW.trod_int Tryz.underlying3 h1
  obtain ⟨b, e2, _⟩ := DataW.trod_bool Tryz.underlying4 h2
  obtain ⟨d0, d1, d2, d3, e3, v, hv⟩ := open_value n _ _ h3
  simp only [List.cons.injEq, and_true] at e0 e1 e2 e3
  obtain ⟨rfl, rfl, rfl, rfl⟩ := e3
  subst e0 e1 e2
  exact ⟨_, _, _, _, _, _, _, rfl, ⟨s, k, b, v⟩, ws, wf_i64 wk, rfl, rfl, rfl, hv⟩
/-- arguments -/
theorem agg_of_cells {v : Value} {l : List Value} (h : v.cells.toList = l) (h2 : l.length ≠ 1) : v = .agg l.toArray := by
  cases v <;> first
    | (simp [Value.cells] at h; subst h; simp at h2; done)
    | skip
  rename_i cells
  have e' : cells.toList = l := h
  rw [← e']
theorem open_argSlot {H : Type} {enc : TypeId × Value → H} {W : World} {spare : Nat → Bool} {held : Bool} {v : Value} {d : DataW H} {p : List MemPlace} (h : DataW.Trod enc Tryz.prog W 0 spare held 26 v d p) : ∃ s : SlotM, IsSlot W s v := by
  obtain ⟨fuel, hf⟩ := h
  obtain ⟨c0, c1, c2, c3, c4, c5, c6, e, s, hs⟩ := open_slot hf
  exact ⟨s, c0, c1, c2, c3, c4, c5, c6, agg_of_cells e (by simp), hs⟩
end Go.Proofs.YtcicjpdjbfgbhaaGreatDoor

/- Versions of templates: the mathematics (no program is mentioned here). -/
set_option linter.unusedVariables false
namespace Go.Proofs.YtcicjpdjbfgbhaaGreatDoor
namespace Sc
def kindV : PV → Int
  | .mk k _ _ _ => k
def nilV : PV := .mk 0 0 ⟨#[]⟩ []
/-- is a kind one of some? -/
def has (ty k : Nat) : Bool := decide (ty / 2 ^ k % 2 = 1)
/-- does a value fit a slot of these types (from 0 on)? -/
def fits (ty : Int) (v : PV) : Bool := rightV v && has ty.toNat (kindV v).toNat
def sound (s : SlotM) : Bool := nameB (strB s.nm) && decide (0 < s.ty) && decide (s.ty < 64) && fits s.ty s.df
structure Ver where
  slots : List SlotM
  cols : List Nat
def eqN (a b : ByteArray) : Bool := decide (a.data.toList = b.data.toList)
def slotOf (x : Ver) (c : Nat) : SlotM := x.slots[c]?.getD default
/-- the slot's number of the column of a name -/
def col (x : Ver) (nm : ByteArray) : Option Nat := x.cols.find? fun c => eqN (slotOf x c).nm nm
/-- of a step, is all that its kind doesn't tell nothing? -/
def rest (s : StepM) : Bool :=
  (decide (s.kd = 1) || (!s.sl.rq && decide (cmpV s.sl.df nilV = 0))) && (decide (s.kd = 5) || s.od.isEmpty) && (decide (s.kd = 1) || decide (s.kd = 3) || decide (s.sl.nm.size = 0)) && (decide (s.kd = 1) || decide (s.kd = 4) || decide (s.sl.ty = 0)) &&
  ((!decide (s.kd = 1) && !decide (s.kd = 5)) || decide (s.col = 0))
def setNm (s : SlotM) (nm : ByteArray) : SlotM := { s with nm := nm }
def setTy (s : SlotM) (ty : Int) : SlotM := { s with ty := ty }
def once (od : List Int) (n : Nat) : Bool := (List.range n).all fun k => decide ((od.filter fun x => decide (x = (k : Int))).length = 1)
/-- a version behind a step; none: it can't be done -/
def step (x : Ver) (s : StepM) : Option Ver :=
  if rest s = false then none
  else if s.kd = 1 then (if x.cols.length ≤ 7 ∧ sound s.sl = true ∧ s.sl.rq = false ∧ col x s.sl.nm = none then some ⟨x.slots ++ [s.sl], x.cols ++ [x.slots.length]⟩ else none)
  else if s.kd = 5 then (if s.od.length = x.cols.length ∧ once s.od x.cols.length = true then some ⟨x.slots, s.od.map fun i => x.cols[i.toNat]?.getD 0⟩ else none)
  else if s.kd < 1 ∨ 5 < s.kd ∨ s.col < 0 ∨ x.cols.length ≤ s.col then none
  else if s.kd = 2 then (if 2 ≤ x.cols.length then some ⟨x.slots, x.cols.eraseIdx s.col.toNat⟩ else none)
  else if s.kd = 3 then (if nameB (strB s.sl.nm) = true ∧ col x s.sl.nm = none then some ⟨x.slots.modify (x.cols[s.col.toNat]?.getD 0) (fun t => setNm t s.sl.nm), x.cols⟩ else none)
  else (let c := x.cols[s.col.toNat]?.getD 0; let old := (slotOf x c).ty.toNat
    if 1 ≤ s.sl.ty ∧ s.sl.ty ≤ 63 ∧ old ||| s.sl.ty.toNat ≠ old then some ⟨x.slots.modify c (fun t => setTy t ((old ||| s.sl.ty.toNat : Nat) : Int)), x.cols⟩ else none)
/-- all versions from one on -/
def run : Ver → List StepM → Option (List Ver)
  | x, [] => some [x]
  | x, s :: r => match step x s with
    | none => none
    | some y => (run y r).map (x :: ·)
/-- the first one -/
def first (l : List SlotM) : Ver := ⟨l, List.range l.length⟩
end Sc
end Go.Proofs.YtcicjpdjbfgbhaaGreatDoor
