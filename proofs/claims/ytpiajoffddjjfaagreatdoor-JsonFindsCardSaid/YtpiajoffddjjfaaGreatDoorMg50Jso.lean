/- The condition of the listed rows: the library's variable for a wrong text holds an error (no walk). -/
import Derived.Test.YtpiajoffddjjfaaGreatDoorMg23Jso
import Derived.Test.YtpiajoffddjjfaaGreatDoorRows
import Derived.ProofKit
import Derived.LaidMore
import Derived.Stop.Joined
import Derived.Test.YtpiajoffddjjfaaGreatDoorJv
import Derived.Deep.Strs
namespace Go.Proofs.YtpiajoffddjjfaaGreatDoor
open Go.RowKit Go.ChangeShapes Go.WideShapes Go.ChangeAt Go.WideMaps Go.WideElems
abbrev laidL : List (String × DataW Unit) := [("math/bits.deBruijn32tab", Rows.laid_math_bits_deBruijn32tab), ("math/bits.deBruijn64tab", Rows.laid_math_bits_deBruijn64tab), ("internal/strconv.uint64pow10", Rows.laid_internal_strconv_uint64pow10), ("strconv.ErrRange", Rows.laid_strconv_ErrRange), ("strconv.ErrSyntax", Rows.laid_strconv_ErrSyntax)]
theorem gErrSyntax : Tryz.prog.globalNamed "strconv.ErrSyntax" = some 1 := by kernel_rfl
theorem tErrSyntax : (((Tryz.prog.globals[1]?).map (·.type)).bind fun t => (Tryz.prog.underlying t).map fun d => match d with | .interface _ => true | _ => false) = some true := by kernel_rfl
theorem door_met (os : Os) (args : Array Value) : laidMetH Tryz.prog laidL ((World.doorLaid Tryz.prog 400 os).forCall (fun _ _ => 0) ⟨#[], args, []⟩).memory :=
  laidMetH_of_parts3 (fuel := 8) (laidMet_of_run' 8 (by kernel_rfl) (by kernel_rfl)) (by kernel_rfl) (by kernel_rfl)
theorem err_of_laid {W : World} (h : laidMetH Tryz.prog laidL W) : Err W := by
  rw [MakeChecks.laidMetH_plain _ _ _ (by kernel_rfl)] at h
  obtain ⟨ps, ⟨g0, t0, cs0, f0, p0, q0, _, _, _, _, ⟨g1, t1, cs1, f1, p1, q1, _, _, _, _, ⟨g2, t2, cs2, f2, p2, q2, _, _, _, _, ⟨g3, t3, cs3, f3, p3, q3, _, _, _, _, ⟨g4, t4, cs4, f4, p4, q4, hg, ht, hv, hd, _⟩, _⟩, _⟩, _⟩, _⟩, _⟩ := h
  obtain rfl := Option.some.inj (gErrSyntax.symm.trans hg)
  have ht' := tErrSyntax
  rw [ht] at ht'
  simp only [Option.bind_some] at ht'
  cases hu : Tryz.prog.underlying t4 with
  | none => rw [hu] at ht'; cases ht'
  | some d =>
    rw [hu] at ht'
    cases d <;> first | (simp at ht'; done) | skip
    obtain ⟨_, u, v, hcs, _, _⟩ := iface_of_trod hu hd
    have := World.var?_cell hg hv 0
    rw [Array.eq_one_of_toList hcs] at this
    exact ⟨_, by simpa using this, .inr ⟨_, _, rfl⟩⟩
end Go.Proofs.YtpiajoffddjjfaaGreatDoor

/- Things of JSON that came in: opened. -/
namespace Go.Proofs.YtpiajoffddjjfaaGreatDoor
open Go.RowKit Go.ChangeShapes Go.WideShapes
theorem cellsOf_json : Tryz.prog.cellsOf 25 = 5 := by kernel_rfl
theorem cells_five {W : World} {a : Addr} {cs : List Value} (h : W.cells? 0 a 5 = some cs) : ∃ c0 c1 c2 c3 c4, cs = [c0, c1, c2, c3, c4] ∧ W.cell? (a.add 0) = some c0 ∧ W.cell? (a.add 1) = some c1 ∧ W.cell? (a.add 2) = some c2 ∧ W.cell? (a.add 3) = some c3 ∧ W.cell? (a.add 4) = some c4 := by
  obtain ⟨_, hlen, hc⟩ := World.cells?_some h
  match cs, hlen with
  | [c0, c1, c2, c3, c4], _ => exact ⟨c0, c1, c2, c3, c4, rfl, hc 0 (by omega), hc 1 (by omega), hc 2 (by omega), hc 3 (by omega), hc 4 (by omega)⟩
instance : Inhabited JV := ⟨.mk 0 0 ⟨#[]⟩ [] []⟩
/-- a row of texts that came in -/
theorem open_names {H : Type} {enc : TypeId × Value → H} {W : World} {spare : Nat → Bool} {held : Bool} {fuel : Nat} {v : Value} {x : DataW H × List MemPlace} (h : DataW.trod enc Tryz.prog W 0 spare held fuel 22 [v] = some x) :
    ∃ a cap ns, v = .slice a (List.length (α := ByteArray) ns) cap ∧ NRow W a cap ns := by
  rcases Go.Deep.open_strs Tryz.underlying22 Tryz.underlying9 (by kernel_rfl) h with ⟨hcs, _⟩ | ⟨ad, l, c, m, Sx, hcs, _, hl, hm, hmm, _, hc⟩
  · injection hcs with hcs
    subst hcs
    exact ⟨none, 0, [], rfl, Nat.le_refl _, by unfold maxLen; omega, by simp, .inl rfl⟩
  · injection hcs with hcs
    subst hcs
    have hlm : l ≤ m := by rw [hmm]; split <;> omega
    refine ⟨some ad, c, (List.range l).map Sx, by simp, by simpa using hl, hm, fun s hs => ?_, ?_⟩
    · obtain ⟨i, hi, rfl⟩ := List.mem_map.1 hs
      exact (hc i (by have := List.mem_range.1 hi; omega)).2
    · rcases Nat.eq_zero_or_pos l with h1 | h1
      · subst h1; exact .inl rfl
      · obtain ⟨b, off, spot⟩ := ad
        have h2 := (hc 0 (by omega)).1
        have hs : spot = none := by simpa [Addr.add] using World.cell?_spot h2
        subst hs
        refine .inr ⟨b, off, rfl, fun i t hi => ?_⟩
        have hi' : i < l := by have := (List.getElem?_eq_some_iff.1 hi).1; simpa using this
        have h3 := (hc i (by omega)).1
        rw [Addr.add_lit] at h3
        rw [List.getElem?_map, List.getElem?_range hi'] at hi
        cases hi; exact h3
set_option maxRecDepth 100000 in
/-- whatever reads as a thing is one -/
theorem open_json {H : Type} {enc : TypeId × Value → H} {W : World} {spare : Nat → Bool} {held : Bool} (fuel : Nat) : ∀ (cs : List Value) (x : DataW H × List MemPlace), DataW.trod enc Tryz.prog W 0 spare held fuel 25 cs = some x →
    ∃ c0 c1 c2 c3 c4, cs = [c0, c1, c2, c3, c4] ∧ ∃ t : JV, IsJ W t (.agg #[c0, c1, c2, c3, c4]) := by
  induction fuel using Nat.strongRecOn with
  | _ fuel ih =>
    intro cs x h
    obtain ⟨xs, n, hfu, _, hlen, hxl, hf⟩ := DataW.trod_struct Tryz.underlying25 h
    rw [cellsOf_json] at hlen
    match cs, hlen with
    | [c0, c1, c2, c3, c4], _ =>
    have h0 := hf 0 _ rfl
    have h1 := hf 1 _ rfl
    have h2 := hf 2 _ rfl
    have h3 := hf 3 _ rfl
    have h4 := hf 4 _ rfl
    have hxl' : xs.length = 5 := hxl
    match xs, hxl' with
    | [x0, x1, x2, x3, x4], _ =>
    replace h0 : DataW.trod enc Tryz.prog W 0 spare held n 3 [c0] = some x0 := h0
    replace h1 : DataW.trod enc Tryz.prog W 0 spare held n 2 [c1] = some x1 := h1
    replace h2 : DataW.trod enc Tryz.prog W 0 spare held n 9 [c2] = some x2 := h2
    replace h3 : DataW.trod enc Tryz.prog W 0 spare held n 22 [c3] = some x3 := h3
    replace h4 : DataW.trod enc Tryz.prog W 0 spare held n 23 [c4] = some x4 := h4
    obtain ⟨k, e0, _, wk⟩ := DataW.trod_int Tryz.underlying3 h0
    obtain ⟨m, e1, _, wm⟩ := DataW.trod_int Tryz.underlying2 h1
    obtain ⟨s, e2, _, ws⟩ := DataW.trod_string Tryz.underlying9 h2
    obtain ⟨na, nc, ns, rfl, hn⟩ := open_names h3
    simp only [List.cons.injEq, and_true] at e0 e1 e2
    subst e0 e1 e2
    refine ⟨_, _, _, _, _, rfl, ?_⟩
    rcases DataW.trod_slice Tryz.underlying23 h4 with ⟨e3, _⟩ | ⟨a, len, cap, elems, rest, n', hn', e3, _, _, hl, hm, hlen, hel, _, _⟩
    · simp only [List.cons.injEq, and_true] at e3
      subst e3
      refine ⟨.mk k m s ns [], ?_⟩
      unfold IsJ
      exact ⟨wf_i64 wk, wf_i64 wm, ws, na, nc, none, 0, rfl, hn, Nat.le_refl _, by unfold maxLen; omega, .inl rfl⟩
    · simp only [List.cons.injEq, and_true] at e3
      subst e3
      have each : ∀ i, i < len → ∃ t : JV, ∃ c0 c1 c2 c3 c4, (W.cell? ((a.add (i * 5)).add 0) = some c0 ∧ W.cell? ((a.add (i * 5)).add 1) = some c1 ∧ W.cell? ((a.add (i * 5)).add 2) = some c2 ∧ W.cell? ((a.add (i * 5)).add 3) = some c3 ∧ W.cell? ((a.add (i * 5)).add 4) = some c4) ∧ IsJ W t (.agg #[c0, c1, c2, c3, c4]) := fun i hi => by
        have he := hel i hi
        rw [cellsOf_json, List.getElem?_eq_getElem (by omega)] at he
        obtain ⟨cs', g1, g2⟩ := Option.bind_eq_some_iff.1 he
        obtain ⟨d0, d1, d2, d3, d4, rfl, q0, q1, q2, q3, q4⟩ := cells_five g1
        obtain ⟨_, _, _, _, _, e, t, ht⟩ := ih n' (by omega) _ _ g2
        simp only [List.cons.injEq, and_true] at e
        obtain ⟨rfl, rfl, rfl, rfl, rfl⟩ := e
        exact ⟨t, d0, d1, d2, d3, d4, ⟨q0, q1, q2, q3, q4⟩, ht⟩
      obtain ⟨f, hf⟩ := Go.Deep.choose_lt each
      refine ⟨.mk k m s ns ((List.range len).map f), ?_⟩
      unfold IsJ
      refine ⟨wf_i64 wk, wf_i64 wm, ws, na, nc, some a, cap, by simp, hn, by simpa using hl, hm, ?_⟩
      rcases Nat.eq_zero_or_pos len with hz | hz
      · subst hz; exact .inl rfl
      · obtain ⟨b, off, spot⟩ := a
        have hspot : spot = none := by
          obtain ⟨c0, _, _, _, _, ⟨q0, _⟩, _⟩ := hf 0 hz
          simpa [Addr.add] using World.cell?_spot q0
        subst hspot
        refine .inr ⟨b, off, rfl, isJL_of fun i y hy => ?_⟩
        have hi : i < len := by
          have := (List.getElem?_eq_some_iff.1 hy).1
          simpa using this
        obtain ⟨c0, c1, c2, c3, c4, ⟨q0, q1, q2, q3, q4⟩, ht⟩ := hf i hi
        have hyf : f i = y := by
          rw [List.getElem?_map, List.getElem?_range hi] at hy
          simpa using hy
        subst hyf
        simp only [Addr.add_lit, Nat.add_zero] at q0 q1 q2 q3 q4
        exact ⟨c0, c1, c2, c3, c4, ⟨q0, q1, q2, q3, q4⟩, ht⟩
/-- .. an argument -/
theorem open_argJ {H : Type} {enc : TypeId × Value → H} {W : World} {spare : Nat → Bool} {held : Bool} {v : Value} {d : DataW H} {p : List MemPlace} (h : DataW.Trod enc Tryz.prog W 0 spare held 25 v d p) :
    ∃ c0 c1 c2 c3 c4, v = .agg #[c0, c1, c2, c3, c4] ∧ ∃ t : JV, IsJ W t (.agg #[c0, c1, c2, c3, c4]) := by
  obtain ⟨fuel, hf⟩ := h
  obtain ⟨c0, c1, c2, c3, c4, e, t, ht⟩ := open_json fuel _ _ hf
  refine ⟨c0, c1, c2, c3, c4, ?_, t, ht⟩
  cases v <;> first
    | (simp [Value.cells] at e; done)
    | skip
  rename_i cells
  have e' : cells.toList = [c0, c1, c2, c3, c4] := e
  rw [show cells = #[c0, c1, c2, c3, c4] from by rw [← Array.toList_inj, e']]
end Go.Proofs.YtpiajoffddjjfaaGreatDoor
