/- Values that came in: opened. -/
import Derived.Test.YtfapoicnkdallaaMh2Thre
import Derived.Deep.Slices
set_option maxRecDepth 100000
namespace Go.Proofs.Ytfapoicnkdallaa
open Go.RowKit Go.ChangeShapes Go.WideShapes
theorem cellsOf_val : Try.prog.cellsOf 25 = 4 := by kernel_rfl
theorem cells_four {W : World} {a : Addr} {cs : List Value} (h : W.cells? 0 a 4 = some cs) : ∃ c0 c1 c2 c3, cs = [c0, c1, c2, c3] ∧ W.cell? (a.add 0) = some c0 ∧ W.cell? (a.add 1) = some c1 ∧ W.cell? (a.add 2) = some c2 ∧ W.cell? (a.add 3) = some c3 := by
  obtain ⟨_, hlen, hc⟩ := World.cells?_some h
  match cs, hlen with
  | [c0, c1, c2, c3], _ => exact ⟨c0, c1, c2, c3, rfl, hc 0 (by omega), hc 1 (by omega), hc 2 (by omega), hc 3 (by omega)⟩
instance : Inhabited PV := ⟨.mk 0 0 ⟨#[]⟩ []⟩
/-- whatever reads as a value is one -/
theorem open_value {H : Type} {enc : TypeId × Value → H} {W : World} {spare : Nat → Bool} {held : Bool} (fuel : Nat) : ∀ (cs : List Value) (x : DataW H × List MemPlace), DataW.trod enc Try.prog W 0 spare held fuel 25 cs = some x →
    ∃ c0 c1 c2 c3, cs = [c0, c1, c2, c3] ∧ ∃ t : PV, Is W t (.agg #[c0, c1, c2, c3]) := by
  induction fuel using Nat.strongRecOn with
  | _ fuel ih =>
    intro cs x h
    obtain ⟨xs, n, hfu, _, hlen, hxl, hf⟩ := DataW.trod_struct Try.underlying25 h
    rw [cellsOf_val] at hlen
    match cs, hlen with
    | [c0, c1, c2, c3], _ =>
    have h0 := hf 0 _ rfl
    have h1 := hf 1 _ rfl
    have h2 := hf 2 _ rfl
    have h3 := hf 3 _ rfl
    have hxl' : xs.length = 4 := hxl
    match xs, hxl' with
    | [x0, x1, x2, x3], _ =>
    replace h0 : DataW.trod enc Try.prog W 0 spare held n 3 [c0] = some x0 := h0
    replace h1 : DataW.trod enc Try.prog W 0 spare held n 2 [c1] = some x1 := h1
    replace h2 : DataW.trod enc Try.prog W 0 spare held n 9 [c2] = some x2 := h2
    replace h3 : DataW.trod enc Try.prog W 0 spare held n 23 [c3] = some x3 := h3
    obtain ⟨k, e0, _, wk⟩ := DataW.trod_int Try.underlying3 h0
    obtain ⟨m, e1, _, wm⟩ := DataW.trod_int Try.underlying2 h1
    obtain ⟨s, e2, _, ws⟩ := DataW.trod_string Try.underlying9 h2
    simp only [List.cons.injEq, and_true] at e0 e1 e2
    subst e0 e1 e2
    refine ⟨_, _, _, _, rfl, ?_⟩
    rcases DataW.trod_slice Try.underlying23 h3 with ⟨e3, _⟩ | ⟨a, len, cap, elems, rest, n', hn', e3, _, _, hl, hm, hlen, hel, _, _⟩
    · simp only [List.cons.injEq, and_true] at e3
      subst e3
      refine ⟨.mk k m s [], ?_⟩
      unfold Is
      exact ⟨wf_i64 wk, wf_i64 wm, ws, none, 0, rfl, Nat.le_refl _, by unfold maxLen; omega, .inl rfl⟩
    · simp only [List.cons.injEq, and_true] at e3
      subst e3
      have each : ∀ i, i < len → ∃ t : PV, ∃ c0 c1 c2 c3, (W.cell? ((a.add (i * 4)).add 0) = some c0 ∧ W.cell? ((a.add (i * 4)).add 1) = some c1 ∧ W.cell? ((a.add (i * 4)).add 2) = some c2 ∧ W.cell? ((a.add (i * 4)).add 3) = some c3) ∧ Is W t (.agg #[c0, c1, c2, c3]) := fun i hi => by
        have he := hel i hi
        rw [cellsOf_val, List.getElem?_eq_getElem (by omega)] at he
        obtain ⟨cs', g1, g2⟩ := Option.bind_eq_some_iff.1 he
        obtain ⟨d0, d1, d2, d3, rfl, q0, q1, q2, q3⟩ := cells_four g1
        obtain ⟨_, _, _, _, e, t, ht⟩ := ih n' (by omega) _ _ g2
        simp only [List.cons.injEq, and_true] at e
        obtain ⟨rfl, rfl, rfl, rfl⟩ := e
        exact ⟨t, d0, d1, d2, d3, ⟨q0, q1, q2, q3⟩, ht⟩
      obtain ⟨f, hf⟩ := Go.Deep.choose_lt each
      refine ⟨.mk k m s ((List.range len).map f), ?_⟩
      unfold Is
      refine ⟨wf_i64 wk, wf_i64 wm, ws, some a, cap, by simp, by simpa using hl, hm, ?_⟩
      rcases Nat.eq_zero_or_pos len with hz | hz
      · subst hz; exact .inl rfl
      · obtain ⟨b, off, spot⟩ := a
        have hspot : spot = none := by
          obtain ⟨c0, _, _, _, ⟨q0, _⟩, _⟩ := hf 0 hz
          simpa [Addr.add] using World.cell?_spot q0
        subst hspot
        refine .inr ⟨b, off, rfl, isL_of fun i y hy => ?_⟩
        have hi : i < len := by
          have := (List.getElem?_eq_some_iff.1 hy).1
          simpa using this
        obtain ⟨c0, c1, c2, c3, ⟨q0, q1, q2, q3⟩, ht⟩ := hf i hi
        have hyf : f i = y := by
          rw [List.getElem?_map, List.getElem?_range hi] at hy
          simpa using hy
        subst hyf
        simp only [Addr.add_lit, Nat.add_zero] at q0 q1 q2 q3
        exact ⟨c0, c1, c2, c3, ⟨q0, q1, q2, q3⟩, ht⟩
/-- .. an argument -/
theorem open_arg {H : Type} {enc : TypeId × Value → H} {W : World} {spare : Nat → Bool} {held : Bool} {v : Value} {d : DataW H} {p : List MemPlace} (h : DataW.Trod enc Try.prog W 0 spare held 25 v d p) :
    ∃ c0 c1 c2 c3, v = .agg #[c0, c1, c2, c3] ∧ ∃ t : PV, Is W t (.agg #[c0, c1, c2, c3]) := by
  obtain ⟨fuel, hf⟩ := h
  obtain ⟨c0, c1, c2, c3, e, t, ht⟩ := open_value fuel _ _ hf
  refine ⟨c0, c1, c2, c3, ?_, t, ht⟩
  cases v <;> first
    | (simp [Value.cells] at e; done)
    | skip
  rename_i cells
  have e' : cells.toList = [c0, c1, c2, c3] := e
  rw [show cells = #[c0, c1, c2, c3] from by rw [← Array.toList_inj, e']]
end Go.Proofs.Ytfapoicnkdallaa
