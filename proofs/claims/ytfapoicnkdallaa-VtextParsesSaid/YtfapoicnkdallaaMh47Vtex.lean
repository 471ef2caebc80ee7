/- The order of values: cmp's functions, lists of bytes. -/
import Derived.Test.YtfapoicnkdallaaMh7Vtex
import Derived.Deep.RegionWith
import Derived.Deep.QuietTactic
import Derived.BigQuiet
import Derived.Test.YtfapoicnkdallaaMh4Vtex
import Derived.Deep.RegionHeld3
import Derived.Test.YtfapoicnkdallaaMh11Vtex
import Derived.Test.YtfapoicnkdallaaMh2Vtex
import Derived.Test.YtfapoicnkdallaaMh6Vtex
import Derived.Test.YtfapoicnkdallaaMh1Vtex
import Derived.Lib.AppendStr
import Derived.Deep.RegionLaw
namespace Go.Proofs.Ytfapoicnkdallaa
open Go.RowKit Go.Shelf
def cmpI (a b : Int) : Int := if a < b then -1 else if b < a then 1 else 0
theorem cmpI_zero (a b : Int) : cmpI a b = 0 ↔ a = b := by unfold cmpI; split <;> (try split) <;> omega
theorem cmpI_self (a : Int) : cmpI a a = 0 := by simp [cmpI]
def orI (x y : Int) : Int := if x ≠ 0 then x else y
/-- bytes in order -/
def cmpB : List Int → List Int → Int
  | [], [] => 0
  | [], _ :: _ => -1
  | _ :: _, [] => 1
  | x :: a, y :: b => if x - y ≠ 0 then cmpI (x - y) 0 else cmpB a b
theorem cmpB_step (l r : List Int) (q : Nat) (h1 : q < l.length) (h2 : q < r.length) : cmpB (l.drop q) (r.drop q) = if l[q]?.getD 0 - r[q]?.getD 0 ≠ 0 then cmpI (l[q]?.getD 0 - r[q]?.getD 0) 0 else cmpB (l.drop (q + 1)) (r.drop (q + 1)) := by
  rw [List.drop_eq_getElem_cons h1, List.drop_eq_getElem_cons h2, List.getElem?_eq_getElem h1, List.getElem?_eq_getElem h2]
  rfl
theorem cmpB_end (l r : List Int) (q : Nat) (h : q = min l.length r.length) : cmpB (l.drop q) (r.drop q) = cmpI l.length r.length := by
  subst h
  rcases Nat.lt_trichotomy l.length r.length with h | h | h
  · rw [Nat.min_eq_left (by omega), List.drop_length, List.drop_eq_getElem_cons h]
    unfold cmpI; rw [if_pos (by omega)]; rfl
  · rw [Nat.min_eq_left (by omega), List.drop_length, h, List.drop_length]
    simp [cmpB, cmpI]
  · rw [Nat.min_eq_right (by omega), List.drop_length, List.drop_eq_getElem_cons h]
    unfold cmpI; rw [if_neg (by omega), if_pos (by omega)]; rfl
end Go.Proofs.Ytfapoicnkdallaa

/- The order of lists of values. -/
namespace Go.Proofs.Ytfapoicnkdallaa
open Go.RowKit Go.Shelf
mutual
def cmpV : PV → PV → Int
  | .mk k n s l, .mk k' n' s' l' => if orI (cmpI k k') (cmpI n n') ≠ 0 then orI (cmpI k k') (cmpI n n') else if strB s ≠ strB s' then cmpB (strB s) (strB s') else cmpL l l'
def cmpL : List PV → List PV → Int
  | [], [] => 0
  | [], _ :: _ => -1
  | _ :: _, [] => 1
  | x :: a, y :: b => if cmpV x y ≠ 0 then cmpI (cmpV x y) 0 else cmpL a b
end
theorem cmpL_step (l r : List PV) (q : Nat) (x y : PV) (h1 : l[q]? = some x) (h2 : r[q]? = some y) : cmpL (l.drop q) (r.drop q) = if cmpV x y ≠ 0 then cmpI (cmpV x y) 0 else cmpL (l.drop (q + 1)) (r.drop (q + 1)) := by
  obtain ⟨g1, rfl⟩ := List.getElem?_eq_some_iff.1 h1
  obtain ⟨g2, rfl⟩ := List.getElem?_eq_some_iff.1 h2
  rw [List.drop_eq_getElem_cons g1, List.drop_eq_getElem_cons g2]
  simp only [cmpL]
theorem cmpL_end (l r : List PV) (q : Nat) (h : q = min l.length r.length) : cmpL (l.drop q) (r.drop q) = cmpI l.length r.length := by
  subst h
  rcases Nat.lt_trichotomy l.length r.length with h | h | h
  · rw [Nat.min_eq_left (by omega), List.drop_length, List.drop_eq_getElem_cons h]
    unfold cmpI; rw [if_pos (by omega)]; simp only [cmpL]
  · rw [Nat.min_eq_left (by omega), List.drop_length, h, List.drop_length]
    simp [cmpL, cmpI]
  · rw [Nat.min_eq_right (by omega), List.drop_length, List.drop_eq_getElem_cons h]
    unfold cmpI; rw [if_neg (by omega), if_pos (by omega)]; simp only [cmpL]
theorem below_drew (w : World) : Below w.heap.size w w.drew := ⟨rfl, rfl, rfl, Nat.le_refl _, fun _ _ => rfl⟩
end Go.Proofs.Ytfapoicnkdallaa

/- The order of values: Compare, Same. -/
namespace Go.Proofs.Ytfapoicnkdallaa
open Go.RowKit Go.Shelf
theorem box2_cells {w W : World} {k n k' n' : Int} {s s' : ByteArray} {a a' : Option Addr} {len cap len' cap' : Nat}
    (hb : Below ((w.alloc (vobj k n s a len cap)).alloc (vobj k' n' s' a' len' cap')).heap.size ((w.alloc (vobj k n s a len cap)).alloc (vobj k' n' s' a' len' cap')) W) :
    (W.cell? ⟨w.heap.size, 0, none⟩ = some (.int .i64 k) ∧ W.cell? ⟨w.heap.size, 1, none⟩ = some (.int .i64 n) ∧ W.cell? ⟨w.heap.size, 2, none⟩ = some (.string s) ∧ W.cell? ⟨w.heap.size, 3, none⟩ = some (.slice a len cap)) ∧
    (W.cell? ⟨w.heap.size + 1, 0, none⟩ = some (.int .i64 k') ∧ W.cell? ⟨w.heap.size + 1, 1, none⟩ = some (.int .i64 n') ∧ W.cell? ⟨w.heap.size + 1, 2, none⟩ = some (.string s') ∧ W.cell? ⟨w.heap.size + 1, 3, none⟩ = some (.slice a' len' cap')) := by
  have h1 := (Below.refl _ (w.alloc (vobj k n s a len cap))).alloc (Nat.le_refl _) (vobj k' n' s' a' len' cap')
  have h2 := box_cells hb
  rw [World.size_alloc] at h2
  exact ⟨box_cells (h1.trans (hb.mono h1.size)), h2⟩
theorem strB_inj {s t : ByteArray} (h : strB s = strB t) : s = t := by
  rw [← strOfNums_strB s, h, strOfNums_strB]
end Go.Proofs.Ytfapoicnkdallaa

/- Values: what the statements want of the order and of the texts. -/
namespace Go.Proofs.Ytfapoicnkdallaa
open Go.RowKit Go.Shelf
theorem cmpI_bd (a b : Int) : cmpI a b = -1 ∨ cmpI a b = 0 ∨ cmpI a b = 1 := by unfold cmpI; split <;> (try split) <;> simp
theorem cmpB_zero : ∀ l r : List Int, cmpB l r = 0 ↔ l = r := by
  intro l
  induction l with
  | nil => intro r; cases r <;> simp [cmpB]
  | cons x l ih =>
    intro r
    cases r with
    | nil => simp [cmpB]
    | cons y r =>
      simp only [cmpB, List.cons.injEq]
      split
      · rename_i h
        rw [cmpI_zero]
        exact ⟨fun e => absurd e h, fun e => absurd (by omega : x - y = 0) h⟩
      · rename_i h
        rw [ih r]
        have : x = y := by omega
        simp [this]
theorem cmpB_bd : ∀ l r : List Int, cmpB l r = -1 ∨ cmpB l r = 0 ∨ cmpB l r = 1 := by
  intro l
  induction l with
  | nil => intro r; cases r <;> simp [cmpB]
  | cons x l ih =>
    intro r
    cases r with
    | nil => simp [cmpB]
    | cons y r =>
      simp only [cmpB]
      split
      · exact cmpI_bd _ _
      · exact ih r
theorem orI_zero (x y : Int) : orI x y = 0 ↔ x = 0 ∧ y = 0 := by
  unfold orI
  split
  · rename_i h; exact ⟨fun e => absurd e h, fun e => absurd e.1 h⟩
  · rename_i h; have : x = 0 := by omega
    simp [this]
theorem cmpV_zero : ∀ v v' : PV, cmpV v v' = 0 ↔ v = v' := by
  intro v
  induction v using pv_ind with
  | h k n s l ih =>
    intro v'
    cases v' with
    | mk k' n' s' l' =>
    have hl : ∀ l', cmpL l l' = 0 ↔ l = l' := by
      clear k n s k' n' s' l'
      induction l with
      | nil => intro l'; cases l' <;> simp [cmpL]
      | cons x r ih2 =>
        intro l'
        cases l' with
        | nil => simp [cmpL]
        | cons y r' =>
          simp only [cmpL, List.cons.injEq]
          have hx := ih x (by simp) y
          split
          · rename_i h
            rw [cmpI_zero]
            exact ⟨fun e => absurd e h, fun e => absurd (hx.2 e.1) h⟩
          · rename_i h
            rw [ih2 (fun z hz => ih z (by simp [hz])) r']
            have hxy := hx.1 (by omega)
            simp [hxy]
    simp only [cmpV, PV.mk.injEq]
    split
    · rename_i h
      constructor
      · intro e; exact absurd e h
      · rintro ⟨rfl, rfl, _⟩; exact absurd ((orI_zero _ _).2 ⟨cmpI_self _, cmpI_self _⟩) h
    · rename_i h
      have h0 := (orI_zero _ _).1 (by omega : orI (cmpI k k') (cmpI n n') = 0)
      have hk := (cmpI_zero _ _).1 h0.1
      have hn := (cmpI_zero _ _).1 h0.2
      split
      · rename_i hs
        rw [cmpB_zero]
        constructor
        · intro e; exact absurd e hs
        · rintro ⟨_, _, rfl, _⟩; exact absurd rfl hs
      · rename_i hs
        have hss : s = s' := strB_inj (by simpa using hs)
        rw [hl l']
        simp [hk, hn, hss]
theorem cmpL_bd : ∀ l l' : List PV, cmpL l l' = -1 ∨ cmpL l l' = 0 ∨ cmpL l l' = 1 := by
  intro l
  induction l with
  | nil => intro l'; cases l' <;> simp [cmpL]
  | cons x r ih =>
    intro l'
    cases l' with
    | nil => simp [cmpL]
    | cons y r' =>
      simp only [cmpL]
      split
      · exact cmpI_bd _ _
      · exact ih r'
theorem cmpV_bd (v v' : PV) : cmpV v v' = -1 ∨ cmpV v v' = 0 ∨ cmpV v v' = 1 := by
  cases v with
  | mk k n s l =>
  cases v' with
  | mk k' n' s' l' =>
  simp only [cmpV]
  split
  · unfold orI; split <;> exact cmpI_bd _ _
  · split
    · exact cmpB_bd _ _
    · exact cmpL_bd _ _
/-! ### lists of two -/
def two (a b : PV) : PV := .mk 5 0 ⟨#[]⟩ [a, b]
/-! ### texts -/
end Go.Proofs.Ytfapoicnkdallaa
