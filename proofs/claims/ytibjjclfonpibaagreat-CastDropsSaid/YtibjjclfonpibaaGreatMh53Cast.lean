/- Records that came in: opened. -/
import Derived.Test.YtibjjclfonpibaaGreatMh11Cast
import Derived.Test.YtibjjclfonpibaaGreatMh1Cast
import Derived.Test.YtibjjclfonpibaaGreatMh0Cast
set_option maxRecDepth 100000
namespace Go.Proofs.YtibjjclfonpibaaGreat
open Go.RowKit Go.ChangeShapes Go.WideShapes
/-- whatever reads as a row of values is one -/
theorem open_rowV {H : Type} {enc : TypeId × Value → H} {W : World} {spare : Nat → Bool} {held : Bool} {fuel : Nat} {c : Value} {x : DataW H × List MemPlace} (h3 : DataW.trod enc Tryz.prog W 0 spare held fuel 26 [c] = some x) :
    ∃ (a : Option Addr) (cap : Nat) (l : List PV), c = .slice a l.length cap ∧ PRow W a cap l := by
  rcases DataW.trod_slice Tryz.underlying26 h3 with ⟨e3, _⟩ | ⟨a, len, cap, elems, rest, n', hn', e3, _, _, hl, hm, hlen, hel, _, _⟩
  · simp only [List.cons.injEq, and_true] at e3
    subst e3
    exact ⟨none, 0, [], rfl, Nat.le_refl _, by unfold maxLen; omega, .inl rfl⟩
  · simp only [List.cons.injEq, and_true] at e3
    subst e3
    have each : ∀ i, i < len → ∃ t : PV, ∃ c0 c1 c2 c3, (W.cell? ((a.add (i * 4)).add 0) = some c0 ∧ W.cell? ((a.add (i * 4)).add 1) = some c1 ∧ W.cell? ((a.add (i * 4)).add 2) = some c2 ∧ W.cell? ((a.add (i * 4)).add 3) = some c3) ∧ Is W t (.agg #[c0, c1, c2, c3]) := fun i hi => by
      have he := hel i hi
      rw [cellsOf_val, List.getElem?_eq_getElem (by omega)] at he
      obtain ⟨cs', g1, g2⟩ := Option.bind_eq_some_iff.1 he
      obtain ⟨d0, d1, d2, d3, rfl, q0, q1, q2, q3⟩ := cells_four g1
      obtain ⟨_, _, _, _, e, t, ht⟩ := open_value n' _ _ g2
      simp only [List.cons.injEq, and_true] at e
      obtain ⟨rfl, rfl, rfl, rfl⟩ := e
      exact ⟨t, d0, d1, d2, d3, ⟨q0, q1, q2, q3⟩, ht⟩
    obtain ⟨f, hf⟩ := Go.Deep.choose_lt each
    refine ⟨some a, cap, (List.range len).map f, by simp, by simpa using hl, hm, ?_⟩
    rcases Nat.eq_zero_or_pos len with hz | hz
    · subst hz; exact .inl rfl
    · obtain ⟨b, off, rfl⟩ : ∃ b off, a = ⟨b, off, none⟩ := by
        obtain ⟨c0, _, _, _, ⟨hc, _⟩, _⟩ := hf 0 hz
        obtain ⟨b, off, spot⟩ := a
        have hspot : spot = none := by simpa [Addr.add] using World.cell?_spot hc
        subst hspot
        exact ⟨b, off, rfl⟩
      refine .inr ⟨b, off, rfl, isL_of fun i y hy => ?_⟩
      have hi : i < len := by
        have := (List.getElem?_eq_some_iff.1 hy).1
        simpa using this
      rw [List.getElem?_map, List.getElem?_range hi] at hy
      simp only [Option.map_some, Option.some.injEq] at hy
      subst hy
      obtain ⟨c0, c1, c2, c3, ⟨q0, q1, q2, q3⟩, hI⟩ := hf i hi
      simp only [Addr.add_lit] at q0 q1 q2 q3
      exact ⟨c0, c1, c2, c3, ⟨q0, q1, q2, q3⟩, hI⟩
theorem cellsOf_rec : Tryz.prog.cellsOf 31 = 2 := by kernel_rfl
theorem open_argRec {H : Type} {enc : TypeId × Value → H} {W : World} {spare : Nat → Bool} {held : Bool} {v : Value} {d : DataW H} {p : List MemPlace} (h : DataW.Trod enc Tryz.prog W 0 spare held 31 v d p) : ∃ (r : RecM) (a : Option Addr) (cap : Nat), v = .agg #[.int .i64 r.v, .slice a r.s.length cap] ∧ I64 r.v ∧ PRow W a cap r.s := by
  obtain ⟨fuel, hf⟩ := h
  obtain ⟨xs, n, hfu, _, hlen, hxl, hf⟩ := DataW.trod_struct Tryz.underlying31 hf
  rw [cellsOf_rec] at hlen
  obtain ⟨c0, c1, e⟩ : ∃ c0 c1, v.cells.toList = [c0, c1] := by
    match hv : v.cells.toList, hlen with
    | [c0, c1], _ => exact ⟨_, _, rfl⟩
  rw [e] at hf
  have h0 := hf 0 _ rfl
  have h1 := hf 1 _ rfl
  have hxl' : xs.length = 2 := hxl
  match xs, hxl' with
  | [x0, x1], _ =>
  replace h0 : DataW.trod enc Tryz.prog W 0 spare held n 3 [c0] = some x0 := h0
  replace h1 : DataW.trod enc Tryz.prog W 0 spare held n 26 [c1] = some x1 := h1
  obtain ⟨k, e0, _, wk⟩ := DataW.trod_int Tryz.underlying3 h0
  obtain ⟨a, cap, l, e1, hp⟩ := open_rowV h1
  simp only [List.cons.injEq, and_true] at e0
  subst e0 e1
  exact ⟨⟨k, l⟩, a, cap, agg_of_cells e (by simp), wf_i64 wk, hp⟩
end Go.Proofs.YtibjjclfonpibaaGreat
