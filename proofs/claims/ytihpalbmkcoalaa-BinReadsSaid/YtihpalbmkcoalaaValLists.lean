/- The order of lists of values. -/
import Derived.Test.YtihpalbmkcoalaaValGreat
import Derived.Test.YtihpalbmkcoalaaValCmp
namespace Go.Proofs.Ytihpalbmkcoalaa
open Go.RowKit Go.Shelf
mutual
def cmpV : PV → PV → Int
  | .mk k n s l, .mk k' n' s' l' => if orI (cmpI k k') (cmpI n n') ≠ 0 then orI (cmpI k k') (cmpI n n') else if strB s ≠ strB s' then cmpB (strB s) (strB s') else cmpL l l'
def cmpL : List PV → List PV → Int
  | [], [] => 0
  | [], _ :: _ => -1
  | _ :: _, [] => 1
  | x :: a, y :: b => if cmpV x y ≠ 0 then cmpI (cmpV x y) 0 else cmpL a b
end
theorem cmpL_step (l r : List PV) (q : Nat) (x y : PV) (h1 : l[q]? = some x) (h2 : r[q]? = some y) : cmpL (l.drop q) (r.drop q) = if cmpV x y ≠ 0 then cmpI (cmpV x y) 0 else cmpL (l.drop (q + 1)) (r.drop (q + 1)) := by
  obtain ⟨g1, rfl⟩ := List.getElem?_eq_some_iff.1 h1
  obtain ⟨g2, rfl⟩ := List.getElem?_eq_some_iff.1 h2
  rw [List.drop_eq_getElem_cons g1, List.drop_eq_getElem_cons g2]
  simp only [cmpL]
theorem cmpL_end (l r : List PV) (q : Nat) (h : q = min l.length r.length) : cmpL (l.drop q) (r.drop q) = cmpI l.length r.length := by
  subst h
  rcases Nat.lt_trichotomy l.length r.length with h | h | h
  · rw [Nat.min_eq_left (by omega), List.drop_length, List.drop_eq_getElem_cons h]
    unfold cmpI; rw [if_pos (by omega)]; simp only [cmpL]
  · rw [Nat.min_eq_left (by omega), List.drop_length, h, List.drop_length]
    simp [cmpL, cmpI]
  · rw [Nat.min_eq_right (by omega), List.drop_length, List.drop_eq_getElem_cons h]
    unfold cmpI; rw [if_neg (by omega), if_pos (by omega)]; simp only [cmpL]
theorem below_drew (w : World) : Below w.heap.size w w.drew := ⟨rfl, rfl, rfl, Nat.le_refl _, fun _ _ => rfl⟩
end Go.Proofs.Ytihpalbmkcoalaa
