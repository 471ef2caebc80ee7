/- The order of values: cmp's functions, lists of bytes. -/
import Derived.Test.YtihpalbmkcoalaaValName
import Derived.Deep.RegionWith
import Derived.Deep.QuietTactic
import Derived.BigQuiet
namespace Go.Proofs.Ytihpalbmkcoalaa
open Go.RowKit Go.Shelf
def cmpI (a b : Int) : Int := if a < b then -1 else if b < a then 1 else 0
theorem cmpI_zero (a b : Int) : cmpI a b = 0 ↔ a = b := by unfold cmpI; split <;> (try split) <;> omega
theorem cmpI_self (a : Int) : cmpI a a = 0 := by simp [cmpI]
def orI (x y : Int) : Int := if x ≠ 0 then x else y
/-- bytes in order -/
def cmpB : List Int → List Int → Int
  | [], [] => 0
  | [], _ :: _ => -1
  | _ :: _, [] => 1
  | x :: a, y :: b => if x - y ≠ 0 then cmpI (x - y) 0 else cmpB a b
theorem cmpB_step (l r : List Int) (q : Nat) (h1 : q < l.length) (h2 : q < r.length) : cmpB (l.drop q) (r.drop q) = if l[q]?.getD 0 - r[q]?.getD 0 ≠ 0 then cmpI (l[q]?.getD 0 - r[q]?.getD 0) 0 else cmpB (l.drop (q + 1)) (r.drop (q + 1)) := by
  rw [List.drop_eq_getElem_cons h1, List.drop_eq_getElem_cons h2, List.getElem?_eq_getElem h1, List.getElem?_eq_getElem h2]
  rfl
theorem cmpB_end (l r : List Int) (q : Nat) (h : q = min l.length r.length) : cmpB (l.drop q) (r.drop q) = cmpI l.length r.length := by
  subst h
  rcases Nat.lt_trichotomy l.length r.length with h | h | h
  · rw [Nat.min_eq_left (by omega), List.drop_length, List.drop_eq_getElem_cons h]
    unfold cmpI; rw [if_pos (by omega)]; rfl
  · rw [Nat.min_eq_left (by omega), List.drop_length, h, List.drop_length]
    simp [cmpB, cmpI]
  · rw [Nat.min_eq_right (by omega), List.drop_length, List.drop_eq_getElem_cons h]
    unfold cmpI; rw [if_neg (by omega), if_pos (by omega)]; rfl
end Go.Proofs.Ytihpalbmkcoalaa
