/- The condition of the listed rows: the program's two tables hold what the text lays there (no walk). -/
import Derived.Test.YtcicjpdjbfgbhaaDoorMh17Cell
import Derived.Test.YtcicjpdjbfgbhaaDoorRows
import Derived.ProofKit
import Derived.LaidMore
import Derived.OpenShut
import Derived.Stop.Joined
namespace Go.Proofs.YtcicjpdjbfgbhaaDoor
open Go.RowKit Go.ChangeShapes Go.WideShapes Go.ChangeAt Go.WideMaps Go.WideElems
abbrev laidL : List (String × DataW Unit) := [("douane/cell.kinds", Rows.laid_douane_cell_kinds), ("douane/cell.bare", Rows.laid_douane_cell_bare)]
theorem door_met (os : Os) (args : Array Value) : laidMetH Tryd.prog laidL ((World.doorLaid Tryd.prog 400 os).forCall (fun _ _ => 0) ⟨#[], args, []⟩).memory :=
  laidMetH_of_parts3 (fuel := 8) (laidMet_of_run' 8 (by kernel_rfl) (by kernel_rfl)) (by kernel_rfl) (by kernel_rfl)
theorem kinds_global : Tryd.prog.globalNamed "douane/cell.kinds" = some 0 := by kernel_rfl
theorem bare_global : Tryd.prog.globalNamed "douane/cell.bare" = some 1 := by kernel_rfl
theorem kinds_type : ((Tryd.prog.globals[0]?).map (·.type)) = some 69 := by kernel_rfl
theorem bare_type : ((Tryd.prog.globals[1]?).map (·.type)) = some 78 := by kernel_rfl
theorem kinds_arr : Tryd.prog.underlying 69 = some (.array 7 3) := by kernel_rfl
theorem bare_arr : Tryd.prog.underlying 78 = some (.array 2 3) := by kernel_rfl
theorem int_one : Tryd.prog.cellsOf 3 = 1 := by kernel_rfl
/-- an array of ints reads as its cells are -/
theorem ints_of_trod {w : World} {fuel t n : Nat} {cs : List Value} {zs : List Int} {p : List MemPlace} (ht : Tryd.prog.underlying t = some (.array n 3)) (h : DataW.trod (fun _ => ()) Tryd.prog w 0 (fun _ => true) false fuel t cs = some (.agg (zs.map fun z => .lit (.int .i64 z)), p)) :
    ∀ (i : Nat) (z : Int), zs[i]? = some z → cs[i]? = some (.int .i64 z) := by
  obtain ⟨xs, m, _, hx, hlen, hxl, hel⟩ := DataW.trod_array ht h
  simp only [Prod.mk.injEq, DataW.agg.injEq] at hx
  intro i z hz
  have hzl : zs.length = xs.length := by
    have := congrArg List.length hx.1
    simpa using this
  have hi : i < zs.length := (List.getElem?_eq_some_iff.1 hz).1
  have h1 := hel i (by omega)
  rw [int_one, Nat.mul_one] at h1
  obtain ⟨x, hxe⟩ : ∃ x, xs[i]? = some x := ⟨_, List.getElem?_eq_getElem (by omega)⟩
  rw [hxe] at h1
  obtain ⟨k, hk, hx2, _⟩ := DataW.trod_int Tryd.underlying3 h1
  have h2 := congrArg (fun l => l[i]?) hx.1
  simp only [List.getElem?_map, hz, hxe, Option.map_some, hx2, Option.some.injEq, DataW.lit.injEq, Lit.int.injEq, true_and] at h2
  subst h2
  have h3 : ((cs.drop i).take 1)[0]? = some (.int .i64 z) := by rw [hk]; rfl
  rw [List.getElem?_take, if_pos (by omega), List.getElem?_drop, Nat.add_zero] at h3
  exact h3
theorem tabs_of_laid {W : World} (h : laidMetH Tryd.prog laidL W) : KindsAt W ∧ BareAt W := by
  rw [MakeChecks.laidMetH_plain _ _ _ (by kernel_rfl)] at h
  obtain ⟨ps, ⟨g0, t0, cs0, f0, p0, q0, hg0, ht0, hv0, hd0, ⟨g1, t1, cs1, f1, p1, q1, hg1, ht1, hv1, hd1, _⟩, _⟩, _⟩ := h
  obtain rfl := Option.some.inj (kinds_global.symm.trans hg0)
  obtain rfl := Option.some.inj (bare_global.symm.trans hg1)
  obtain rfl := Option.some.inj (kinds_type.symm.trans ht0)
  obtain rfl := Option.some.inj (bare_type.symm.trans ht1)
  have h0 := ints_of_trod (zs := [0, 1, 2, 0, 4, 5, 3]) kinds_arr hd0
  have h1 := ints_of_trod (zs := [3, 4]) bare_arr hd1
  have c0 := fun i => World.var?_cell hg0 hv0 i
  have c1 := fun i => World.var?_cell hg1 hv1 i
  have k0 : ∀ (i : Nat) (z : Int), ([0, 1, 2, 0, 4, 5, 3] : List Int)[i]? = some z → W.cell? ⟨0, i, none⟩ = some (.int .i64 z) := fun i z hz => by
    rw [c0 i, ← Array.getElem?_toList]; exact h0 i z hz
  have k1 : ∀ (i : Nat) (z : Int), ([3, 4] : List Int)[i]? = some z → W.cell? ⟨1, i, none⟩ = some (.int .i64 z) := fun i z hz => by
    rw [c1 i, ← Array.getElem?_toList]; exact h1 i z hz
  exact ⟨⟨k0 0 _ rfl, k0 1 _ rfl, k0 2 _ rfl, k0 3 _ rfl, k0 4 _ rfl, k0 5 _ rfl, k0 6 _ rfl⟩, k1 0 _ rfl, k1 1 _ rfl⟩
end Go.Proofs.YtcicjpdjbfgbhaaDoor
