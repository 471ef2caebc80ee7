/- The program's schema: a version in memory, whose slots and columns lie as they came or in rows of one's own; what turns beside it. -/
import Derived.Test.YtnegihjhcpddnaaSpCq
import Derived.Test.YtnegihjhcpddnaaMg33Sch
set_option linter.unusedVariables false
set_option linter.unusedSimpArgs false
set_option maxRecDepth 100000
namespace Go.Proofs.Ytnegihjhcpddnaa
open Go.RowKit Go.Shelf
def colC (l : List Nat) : List Value := (l.map Int.ofNat).map (Value.int .i64)
theorem colC_one (l : List Nat) : ∀ u ∈ colC l, u.oneCell' = true := by
  intro u hu
  obtain ⟨i, _, rfl⟩ := List.mem_map.1 hu
  rfl
def SlotsIn (w0 W : World) (sv : Value) (l : List SlotM) : Prop := (∃ a c, sv = .slice a l.length c ∧ SlotRow w0 a c l) ∨ ∃ cs, W.ownsRow w0.heap.size 26 7 sv l.length cs ∧ SCells w0 l cs
def ColsIn (w0 W : World) (cv : Value) (l : List Nat) : Prop := (∃ a c, cv = .slice a l.length c ∧ Row w0 .i64 a l.length c (l.map Int.ofNat)) ∨ W.ownsRow w0.heap.size 3 1 cv l.length (colC l)
/-- a version, as its slots' and its columns' slices tell it -/
def VerIn (w0 W : World) (x : Sc.Ver) (sv cv : Value) : Prop := SlotsIn w0 W sv x.slots ∧ ColsIn w0 W cv x.cols
/-- what lies in rows of slots and of numbers from a place on stays as it is -/
def KeptT (w0 W W' : World) : Prop := Below w0.heap.size w0 W' ∧ ∀ b cs t fr, w0.heap.size ≤ b → W.heap[b]? = some (.cells cs t fr) → (t = 26 ∨ t = 3) → W'.heap[b]? = some (.cells cs t fr)
theorem keptT_below {w0 W W' : World} (h0 : Below w0.heap.size w0 W) (h : Below W.heap.size W W') : KeptT w0 W W' :=
  ⟨h0.trans (h.mono h0.size), fun b cs t fr _ hb _ => (h.block b (Array.getElem?_eq_some_iff.1 hb).1).trans hb⟩
theorem keptT_refl {w0 W : World} (h0 : Below w0.heap.size w0 W) : KeptT w0 W W := ⟨h0, fun _ _ _ _ _ h _ => h⟩
theorem keptT_trans {w0 A B C : World} (h : KeptT w0 A B) (k : KeptT w0 B C) : KeptT w0 A C := ⟨k.1, fun b cs t fr hb hc ht => k.2 b cs t fr hb (h.2 b cs t fr hb hc ht) ht⟩
/-- a store into a block of another type -/
theorem keptT_set {w0 W : World} {g i : Nat} {u : Value} {cs : Array Value} {t : TypeId} {fr : Nat × Nat} (h0 : Below w0.heap.size w0 W) (hg : w0.heap.size ≤ g) (hh : W.heap[g]? = some (.cells cs t fr)) (h1 : t ≠ 26) (h2 : t ≠ 3) : KeptT w0 W (W.setCell ⟨g, i, none⟩ u) := by
  have hk := grown_set9 W g i u
  refine ⟨below_grown9 h0 hk (fun b e => by cases e; exact hg) h0.size, fun b cs' t' fr' _ hb ht => (hk.block b (Array.getElem?_eq_some_iff.1 hb).1 (fun e => ?_)).trans hb⟩
  cases e
  rw [hh] at hb
  cases hb
  rcases ht with ht | ht
  · exact h1 ht
  · exact h2 ht
theorem own_keptT {w0 W W' : World} {e : TypeId} {size n : Nat} {v : Value} {xs : List Value} (h : W.ownsRow w0.heap.size e size v n xs) (he : e = 26 ∨ e = 3) (k : KeptT w0 W W') : W'.ownsRow w0.heap.size e size v n xs := by
  refine ⟨h.1, ?_⟩
  rcases h.2 with hn | ⟨g, cap, cur, rfl, hg, hh, r⟩
  · exact .inl hn
  · exact .inr ⟨g, cap, cur, rfl, hg, k.2 g _ _ _ hg hh he, r⟩
theorem verIn_kept {w0 W W' : World} {x : Sc.Ver} {sv cv : Value} (h : VerIn w0 W x sv cv) (k : KeptT w0 W W') : VerIn w0 W' x sv cv := by
  obtain ⟨h1, h2⟩ := h
  refine ⟨?_, ?_⟩
  · rcases h1 with h1 | ⟨cs, h1, h3⟩
    · exact .inl h1
    · exact .inr ⟨cs, own_keptT h1 (.inl rfl) k, h3⟩
  · rcases h2 with h2 | h2
    · exact .inl h2
    · exact .inr (own_keptT h2 (.inr rfl) k)
theorem cells_own {W : World} {B : Nat} {e : TypeId} {size : Nat} {a : Option Addr} {n m c : Nat} {xs : List Value} (h : W.ownsRow B e size (.slice a m c) n xs) : Cells W size a n xs := by
  obtain ⟨h1, h2⟩ := h
  refine ⟨h1, ?_⟩
  rcases h2 with ⟨e1, rfl⟩ | ⟨g, cap, cur, e1, _, hh, hn, hm, hs, ht⟩
  · left; simp at h1; omega
  · cases e1
    refine .inr ⟨_, rfl, fun j u hj => ?_⟩
    rw [Addr.add_lit, Nat.zero_add]
    rw [← ht, List.getElem?_take] at hj
    split at hj
    · rw [Array.getElem?_toList] at hj
      simp [World.cell?, hh, hj]
    · cases hj
/-- the slots' slice, and its cells -/
theorem slotsIn_form {w0 W : World} {sv : Value} {l : List SlotM} (h : SlotsIn w0 W sv l) (h0 : Below w0.heap.size w0 W) : ∃ a c cs, sv = .slice a l.length c ∧ SCells w0 l cs ∧ Cells W 7 a l.length cs ∧ SlotRow W a c l := by
  rcases h with ⟨a, c, rfl, h⟩ | ⟨cs, h1, h2⟩
  · obtain ⟨cs, k1, k2⟩ := sCells_row h
    exact ⟨a, c, cs, rfl, k1, cells_below9 k2 h0, slotRow_below h0 h⟩
  · obtain ⟨a, c, rfl, h3⟩ := slotRow_own h1 h2 h0
    exact ⟨a, c, cs, rfl, h2, cells_own h1, h3⟩
theorem colsIn_form {w0 W : World} {cv : Value} {l : List Nat} (h : ColsIn w0 W cv l) (h0 : Below w0.heap.size w0 W) : ∃ a c, cv = .slice a l.length c ∧ Row W .i64 a l.length c (l.map Int.ofNat) := by
  rcases h with ⟨a, c, rfl, h⟩ | h
  · exact ⟨a, c, rfl, row_below h h0 rfl⟩
  · exact row_of_owns h
theorem verIn_at {w0 W : World} {x : Sc.Ver} {sv cv : Value} (h : VerIn w0 W x sv cv) (h0 : Below w0.heap.size w0 W) : ∃ sa sc ca cc cs, sv = .slice sa x.slots.length sc ∧ cv = .slice ca x.cols.length cc ∧ VerAt W x sa sc ca cc ∧ SCells w0 x.slots cs ∧ Cells W 7 sa x.slots.length cs := by
  obtain ⟨a, c, cs, e1, h1, h2, h3⟩ := slotsIn_form h.1 h0
  obtain ⟨a', c', e2, h4⟩ := colsIn_form h.2 h0
  exact ⟨a, c, a', c', cs, e1, e2, ⟨h3, h4⟩, h1, h2⟩
end Go.Proofs.Ytnegihjhcpddnaa
