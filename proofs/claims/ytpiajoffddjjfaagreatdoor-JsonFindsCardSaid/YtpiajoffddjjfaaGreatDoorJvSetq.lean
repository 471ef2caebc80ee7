/- A set of names that the call makes; the program's add. -/
import Derived.Test.YtpiajoffddjjfaaGreatDoorMg3Jso
import Derived.Maps.OwnSet
import Derived.Maps.Views
set_option linter.unusedVariables false
namespace Go.Proofs.YtpiajoffddjjfaaGreatDoor
open Go.RowKit Go.Shelf Go.Maps
theorem lawName : Keyed Tryz.prog 9 := string_keyed Tryz.underlying9
theorem zeroUnit (w : World) : (zeroValue 69).run Tryz.prog w = .ok (.agg #[]) w := by kernel_rfl
theorem buildUnit (w : World) : (Instr.build 69 #[]).run Tryz.prog w = .ok (.agg #[]) w := by kernel_rfl
/-- is a text among some? -/
def hasN (hs : List ByteArray) (t : ByteArray) : Bool := hs.any fun s => decide (s.data.toList = t.data.toList)
theorem hasN_iff (hs : List ByteArray) (t : ByteArray) : hasN hs t = true ↔ t ∈ hs := by
  unfold hasN
  rw [List.any_eq_true]
  constructor
  · rintro ⟨s, h1, h2⟩
    obtain rfl : s = t := ByteArray.ext (Array.toList_inj.1 (of_decide_eq_true h2))
    exact h1
  · exact fun h => ⟨t, h, by simp⟩
/-- block b of w is a set of at most n names: these -/
def NSet (w : World) (b n : Nat) (hs : List ByteArray) : Prop := ∃ D : DataW Unit, w.ownsMap Tryz.prog 9 unitElem b n D ∧ ∀ t : ByteArray, Maps.has D (.string t.data.toList) = hasN hs t
theorem nset_made (w : World) : NSet (w.alloc (.map #[] 0)) w.heap.size 0 [] := ⟨_, World.ownsMap_made _ _ _ _, fun t => by simp [Maps.has_eq, hasN]⟩
theorem nset_kept {w w' : World} {row : Option Nat} {b n : Nat} {hs : List ByteArray} (h : NSet w b n hs) (hg : w.grownBy w' row) (hne : some b ≠ row) : NSet w' b n hs := by
  obtain ⟨D, h1, h2⟩ := h
  exact ⟨D, h1.kept hg hne, h2⟩
theorem nset_lt {w : World} {b n : Nat} {hs : List ByteArray} (h : NSet w b n hs) : b < w.heap.size := by
  obtain ⟨D, h1, _⟩ := h
  exact h1.lt
theorem nset_below {w w' : World} {b n : Nat} {hs : List ByteArray} (h : NSet w b n hs) (hb : Below w.heap.size w w') : NSet w' b n hs := by
  obtain ⟨D, ⟨es, clock, hk, h3⟩, h2⟩ := h
  exact ⟨D, ⟨es, clock, (hb.block b ((Array.getElem?_eq_some_iff.1 hk).1)).trans hk, h3⟩, h2⟩
theorem nset_put {D : DataW Unit} {hs : List ByteArray} (hD : Maps.IsMap D) (h : ∀ t : ByteArray, Maps.has D (.string t.data.toList) = hasN hs t) (s : ByteArray) (d : DataW Unit) : ∀ t : ByteArray, Maps.has (D.put (.string s.data.toList) d) (.string t.data.toList) = hasN (s :: hs) t := by
  intro t
  by_cases hts : t = s
  · subst hts
    rw [Maps.has_put_same hD (by trivial)]
    exact ((hasN_iff _ _).2 (List.mem_cons_self ..)).symm
  · rw [Maps.has_put_other (fun he => hts (ByteArray.ext (Array.toList_inj.1 (by injection he)))), h t]
    have : ¬ s.data.toList = t.data.toList := fun he => hts (ByteArray.ext (Array.toList_inj.1 he.symm))
    unfold hasN
    rw [List.any_cons, decide_eq_false this, Bool.false_or]
set_option maxRecDepth 100000 in
set_option maxHeartbeats 4000000 in
theorem nameAdd_any (b n : Nat) (hs : List ByteArray) (t : ByteArray) (w : World) (h : NSet w b n hs) (hn : n < 1000000) (ht : t.size ≤ maxLen) :
    Calls Tryz.prog 23 #[.map (some b), .string t] w fun e w' => e = .returned (.bool (!hasN hs t)) ∧ NSet w' b (n + 1) (t :: hs) ∧ w.grownBy w' (some b) := by
  obtain ⟨D, hown, hD⟩ := h
  have hkey := Go.WideMaps.keyOf_string_mk (P := Tryz.prog) Tryz.underlying9 ht
  have hbu := buildUnit
  have hh := hD t
  obtain ⟨B, hB⟩ : ∃ B, hasN hs t = B := ⟨_, rfl⟩
  rw [hB] at hh ⊢
  have HD := Lib.hid hD
  clear hD hB
  go_enter Tryz.func23, Tryz.ntmps23
  go_wp2_with (first
    | (at_lookup; refine wpList_lookup_own_unit _ rfl _ _ 55 rfl 9 69 lawName Tryz.underlying55 (zeroUnit _) b n D rfl hown _ _ rfl hkey ?_; rw [hh])
    | (at_mapUpdate; refine wpList_mapUpdate_own _ rfl _ _ _ 55 rfl 9 69 lawName Tryz.underlying55 (unitElem (H := Unit)) b n D rfl (hown.alloc _) (by unfold maxLen; omega) _ _ _ rfl rfl hkey _ [] unitElem_mk ?_; intro w1 hown1 hgrow1))
  go_ret
  exact ⟨rfl, ⟨_, hown1, nset_put hown.isMap HD.out t _⟩, (World.grownBy_alloc w _ (some b)).trans hgrow1⟩
end Go.Proofs.YtpiajoffddjjfaaGreatDoor
