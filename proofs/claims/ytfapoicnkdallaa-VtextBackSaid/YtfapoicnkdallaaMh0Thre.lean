/- What all my texts share: endings, rows of integers, new cells. -/
import Derived.Test.YtfapoicnkdallaaRows
import Derived.WalkKit
import Derived.WalkSpells
import Derived.WalkLawsBesides
import Derived.Lib.Hide
import Derived.RangeFuncBox
import Derived.Maps.AppendAt
namespace Go.Proofs.Ytfapoicnkdallaa
open Go.RowKit
theorem ret_int {k : IntKind} {a b : Int} (h : a = b) : Ending.returned (.int k a) = .returned (.int k b) := by rw [h]
theorem ret_bool {a b : Bool} (h : a = b) : Ending.returned (.bool a) = .returned (.bool b) := by rw [h]
theorem ret_int2 {k l : IntKind} {a b c d : Int} (h : a = b) (h' : c = d) : Ending.returned (.tuple #[.int k a, .int l c]) = .returned (.tuple #[.int k b, .int l d]) := by rw [h, h']
theorem ret_iib {k l : IntKind} {a b c d : Int} {x y : Bool} (h : a = b) (h' : c = d) (h'' : x = y) : Ending.returned (.tuple #[.int k a, .int l c, .bool x]) = .returned (.tuple #[.int k b, .int l d, .bool y]) := by rw [h, h', h'']
/-- a slice of integers: these are its elements, wherever they lie -/
def Row (w : World) (k : IntKind) (a : Option Addr) (len cap : Nat) (l : List Int) : Prop :=
  l.length = len ∧ len ≤ cap ∧ cap ≤ maxLen ∧ (len = 0 ∨ ∃ b off, a = some ⟨b, off, none⟩ ∧ ∀ i, i < len → w.cell? ⟨b, off + i, none⟩ = some (.int k (l[i]?.getD 0)))

theorem cells_new (w : World) (l : List Value) (t : TypeId) : ∀ j u, l[j]? = some u → (w.alloc (.cells l.toArray t)).cell? ((⟨w.heap.size, 0, none⟩ : Addr).add j) = some u := by
  intro j u hj
  have hlt : j < l.length := by
    rcases Nat.lt_or_ge j l.length with h | h
    · exact h
    · rw [List.getElem?_eq_none h] at hj; cases hj
  simp only [Addr.add_lit]
  rw [World.cell?_alloc_at _ _ _ _ (by simp)]
  simpa using hj
theorem keepsOthers_grown {W W' : World} {v : Value} (hg : W.grownBy W' v.ownBlock) {base : Nat} {e : TypeId} {size n : Nat} {xs : List Value} (hrow : W.ownsRow base e size v n xs) : KeepsOthers W W' :=
  KeepsOthers.of_grownBy hg fun j o ej hj => by
    rcases hrow.2 with ⟨rfl, _⟩ | ⟨g, cap, cur, rfl, _, hgb, _⟩
    · simp [Value.ownBlock] at ej
    · obtain rfl : g = j := by simpa [Value.ownBlock] using ej
      rw [hgb] at hj; cases hj; rfl
theorem below_grown {W W' : World} {v : Value} (hg : W.grownBy W' v.ownBlock) {base : Nat} {e : TypeId} {size n : Nat} {xs : List Value} (hrow : W.ownsRow base e size v n xs) (hb : base ≤ W.heap.size) : Below base W W' :=
  (Below.refl base W).grown hg hb (fun k hk => (hrow.lt k hk).1)
theorem below_drewN {B : Nat} {a w : World} (h : Below B a w) (n : Nat) : Below B a (w.drewN n) := h.trans ⟨rfl, rfl, rfl, Nat.le_refl _, fun _ _ => rfl⟩
/-- what is owned stays owned where nothing that was there has turned -/
theorem ownsRow_below {w w' : World} {base : Nat} {e : TypeId} {size : Nat} {v : Value} {n : Nat} {xs : List Value} (h : w.ownsRow base e size v n xs) (hb : Below w.heap.size w w') : w'.ownsRow base e size v n xs := by
  refine ⟨h.1, ?_⟩
  rcases h.2 with hn | ⟨g, cap, cur, rfl, hg, hh, r⟩
  · exact .inl hn
  · exact .inr ⟨g, cap, cur, rfl, hg, (hb.block g (Array.getElem?_eq_some_iff.1 hh).1).trans hh, r⟩
/-- a slice value's cells, wherever they lie; of an empty one's address nothing is asked -/
def Cells (w : World) (size : Nat) (a : Option Addr) (n : Nat) (xs : List Value) : Prop :=
  xs.length = n * size ∧ (n = 0 ∨ ∃ ad, a = some ad ∧ ∀ j u, xs[j]? = some u → w.cell? (ad.add j) = some u)
theorem cells_of_row {w : World} {k : IntKind} {a : Option Addr} {n c : Nat} {l : List Int} (h : Row w k a n c l) : Cells w 1 a n (l.map (Value.int k)) := by
  obtain ⟨h1, _, _, h4⟩ := h
  refine ⟨by simp [h1], ?_⟩
  rcases h4 with h | ⟨b, off, rfl, hc⟩
  · exact .inl h
  · refine .inr ⟨_, rfl, fun j u hu => ?_⟩
    have hj : j < n := by
      rcases Nat.lt_or_ge j n with h | h
      · exact h
      · rw [List.getElem?_eq_none (by simp; omega)] at hu; cases hu
    rw [Addr.add_lit, hc j hj, ← hu]
    simp [List.getElem?_eq_getElem (show j < l.length by omega)]
section
variable {P : Program} (w : World)
end
end Go.Proofs.Ytfapoicnkdallaa
