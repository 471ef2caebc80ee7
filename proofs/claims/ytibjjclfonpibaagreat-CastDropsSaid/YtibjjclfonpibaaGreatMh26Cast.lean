/- The program's schema: fresh (a version in new memory). -/
import Derived.Test.YtibjjclfonpibaaGreatMh18Cast
import Derived.Test.YtibjjclfonpibaaGreatMh7Cast
import Derived.Deep.RegionHeld3
import Derived.Deep.DeepCutAuto
set_option linter.unusedVariables false
set_option linter.unusedSimpArgs false
set_option maxRecDepth 100000
namespace Go.Proofs.YtibjjclfonpibaaGreat
open Go.RowKit Go.Shelf
theorem k5 {p r : Nat} {c0 c1 c2 c3 c4 : Value} {W W' : World} (h : W.cell? ⟨p, 0, none⟩ = some c0 ∧ (W.cell? ⟨r, 3, none⟩ = some c1 ∧ W.cell? ⟨r, 4, none⟩ = some c2) ∧ W.cell? ⟨r, 5, none⟩ = some c3 ∧ W.cell? ⟨r, 6, none⟩ = some c4) (hb : Below W.heap.size W W') : W'.cell? ⟨p, 0, none⟩ = some c0 ∧ (W'.cell? ⟨r, 3, none⟩ = some c1 ∧ W'.cell? ⟨r, 4, none⟩ = some c2) ∧ W'.cell? ⟨r, 5, none⟩ = some c3 ∧ W'.cell? ⟨r, 6, none⟩ = some c4 :=
  ⟨cell_below hb h.1, ⟨cell_below hb h.2.1.1, cell_below hb h.2.1.2⟩, cell_below hb h.2.2.1, cell_below hb h.2.2.2⟩
theorem k5s {p r b i0 i1 i2 i3 : Nat} {c0 c1 c2 c3 c4 d0 d1 d2 d3 : Value} {W : World} (h : W.cell? ⟨p, 0, none⟩ = some c0 ∧ (W.cell? ⟨r, 3, none⟩ = some c1 ∧ W.cell? ⟨r, 4, none⟩ = some c2) ∧ W.cell? ⟨r, 5, none⟩ = some c3 ∧ W.cell? ⟨r, 6, none⟩ = some c4) (hp : p ≠ b) (hr : r ≠ b) :
    ((((W.setCell ⟨b, i0, none⟩ d0).setCell ⟨b, i1, none⟩ d1).setCell ⟨b, i2, none⟩ d2).setCell ⟨b, i3, none⟩ d3).cell? ⟨p, 0, none⟩ = some c0 ∧ (((((W.setCell ⟨b, i0, none⟩ d0).setCell ⟨b, i1, none⟩ d1).setCell ⟨b, i2, none⟩ d2).setCell ⟨b, i3, none⟩ d3).cell? ⟨r, 3, none⟩ = some c1 ∧ ((((W.setCell ⟨b, i0, none⟩ d0).setCell ⟨b, i1, none⟩ d1).setCell ⟨b, i2, none⟩ d2).setCell ⟨b, i3, none⟩ d3).cell? ⟨r, 4, none⟩ = some c2) ∧ ((((W.setCell ⟨b, i0, none⟩ d0).setCell ⟨b, i1, none⟩ d1).setCell ⟨b, i2, none⟩ d2).setCell ⟨b, i3, none⟩ d3).cell? ⟨r, 5, none⟩ = some c3 ∧ ((((W.setCell ⟨b, i0, none⟩ d0).setCell ⟨b, i1, none⟩ d1).setCell ⟨b, i2, none⟩ d2).setCell ⟨b, i3, none⟩ d3).cell? ⟨r, 6, none⟩ = some c4 :=
  ⟨cell_set4 h.1 hp, ⟨cell_set4 h.2.1.1 hr, cell_set4 h.2.1.2 hr⟩, cell_set4 h.2.2.1 hr, cell_set4 h.2.2.2 hr⟩
theorem k2 {p : Nat} {c0 c1 : Value} {W W' : World} (h : W.cell? ⟨p, 0, none⟩ = some c0 ∧ W.cell? ⟨p, 1, none⟩ = some c1) (hb : Below W.heap.size W W') : W'.cell? ⟨p, 0, none⟩ = some c0 ∧ W'.cell? ⟨p, 1, none⟩ = some c1 :=
  ⟨cell_below hb h.1, cell_below hb h.2⟩
theorem k2s {p r : Nat} {c0 c1 u v : Value} {W : World} (h : W.cell? ⟨p, 0, none⟩ = some c0 ∧ W.cell? ⟨p, 1, none⟩ = some c1) (hp : p ≠ r) :
    ((W.setCell ⟨r, 0, none⟩ u).setCell ⟨r, 1, none⟩ v).cell? ⟨p, 0, none⟩ = some c0 ∧ ((W.setCell ⟨r, 0, none⟩ u).setCell ⟨r, 1, none⟩ v).cell? ⟨p, 1, none⟩ = some c1 :=
  ⟨cell_setS (k := 0) (cell_setS (k := 0) h.1 hp) hp, cell_setS (k := 0) (cell_setS (k := 0) h.2 hp) hp⟩
theorem size_of_empty {s : ByteArray} (h : s.toList.isEmpty = true) : s.size = 0 := by
  refine Decidable.byContradiction fun hn => ?_
  rw [toList_full hn] at h
  cases h
theorem ok_small : ∀ v : PV, okV v = true → small v := by
  refine pv_ind fun k n s l ih h => ?_
  have key : s.size ≤ 1000 ∧ l.length ≤ 1000 ∧ okL l = true := by
    have emp : l.isEmpty = true → l.length ≤ 1000 ∧ okL l = true := fun h => by
      cases l with
      | nil => exact ⟨by simp, rfl⟩
      | cons a r => simp at h
    by_cases h0 : k = 0
    · subst h0; rw [okV0] at h; simp only [Bool.and_eq_true] at h; exact ⟨by have := size_of_empty h.1.2; omega, emp h.2⟩
    by_cases h1 : k = 1
    · subst h1; rw [okV1] at h; simp only [Bool.and_eq_true] at h; exact ⟨by have := size_of_empty h.1.2; omega, emp h.2⟩
    by_cases h2 : k = 2
    · subst h2; rw [okV2] at h; simp only [Bool.and_eq_true] at h; exact ⟨by have := size_of_empty h.1; omega, emp h.2⟩
    by_cases h3 : k = 3
    · subst h3; rw [okV3] at h; simp only [Bool.and_eq_true] at h
      refine ⟨?_, emp h.2⟩
      have h4 := h.1.2
      unfold nameB at h4
      simp only [Bool.and_eq_true, decide_eq_true_eq] at h4
      have := h4.1.1.2
      rw [strB_len] at this
      omega
    by_cases h4 : k = 4
    · subst h4; rw [okV4] at h; simp only [Bool.and_eq_true, decide_eq_true_eq] at h; exact ⟨by have := h.1.1.2; omega, emp h.2⟩
    by_cases h5 : k = 5
    · subst h5; rw [okV5] at h; simp only [Bool.and_eq_true, decide_eq_true_eq] at h; exact ⟨by have := size_of_empty h.1.1.2; omega, by have := h.1.2; omega, h.2⟩
    rw [okV6 k n s l h0 h1 h2 h3 h4 h5] at h
    cases h
  unfold small
  refine ⟨Nat.le_trans key.1 (by omega), key.2.1, ?_⟩
  have hk := key.2.2
  clear h key
  induction l with
  | nil => trivial
  | cons a r ihr =>
    unfold okL at hk
    simp only [Bool.and_eq_true] at hk
    exact ⟨ih a (List.mem_cons_self ..) hk.1, ihr (fun x hx => ih x (List.mem_cons_of_mem _ hx)) hk.2⟩
theorem right_small {v : PV} (h : rightV v = true) : small v := by
  unfold rightV at h
  simp only [Bool.and_eq_true] at h
  exact ok_small v h.2
/-- a version's copy, as it is made -/
def FreshAt (W0 W : World) (g : Nat) (sv cv : Value) (n : Nat) (cs : List Value) (m : Nat) (ds : List Value) : Prop :=
  W.heap[g]? = some (.cells #[sv, cv] 67 (0, 0)) ∧ W.ownsRow W0.heap.size 44 7 sv n cs ∧ W.ownsRow W0.heap.size 3 1 cv m ds ∧ W0.heap.size ≤ g ∧ Below W0.heap.size W0 W
theorem own_ne {W : World} {B : Nat} {e t : TypeId} {size n : Nat} {v : Value} {xs : List Value} {g : Nat} {cs : Array Value} {fr : Nat × Nat} (h : W.ownsRow B e size v n xs) (hg : W.heap[g]? = some (.cells cs t fr)) (ht : e ≠ t) : ∀ b, v.ownBlock = some b → b ≠ g := by
  rintro b hb rfl
  rcases h.2 with ⟨rfl, _⟩ | ⟨g', cap, cur, rfl, _, hh, _⟩
  · simp [Value.ownBlock] at hb
  · simp only [Value.ownBlock, Option.map_some, Option.some.injEq] at hb
    subst hb
    rw [hh] at hg
    cases hg
    exact ht rfl
theorem freshA {W0 W : World} {sv cv : Value} {n m : Nat} {cs ds : List Value} (h1 : W.ownsRow W0.heap.size 44 7 sv n cs) (h2 : W.ownsRow W0.heap.size 3 1 cv m ds) (hB : Below W0.heap.size W0 W) : FreshAt W0 (W.alloc (.cells #[sv, cv] 67)) W.heap.size sv cv n cs m ds := by
  have hA := (Below.refl _ W).alloc (Nat.le_refl _) (.cells #[sv, cv] 67)
  exact ⟨heap_self9 W _, ownsRow_below h1 hA, ownsRow_below h2 hA, hB.size, hB.trans (hA.mono hB.size)⟩
theorem freshB {W0 W : World} {g : Nat} {sv cv z0 z1 : Value} {n m : Nat} {cs ds : List Value} (h0 : W.heap[g]? = some (.cells #[z0, z1] 67 (0, 0))) (hg : W0.heap.size ≤ g) (h1 : W.ownsRow W0.heap.size 44 7 sv n cs) (h2 : W.ownsRow W0.heap.size 3 1 cv m ds) (hB : Below W0.heap.size W0 W) :
    FreshAt W0 ((W.setCell ⟨g, 0, none⟩ sv).setCell ⟨g, 1, none⟩ cv) g sv cv n cs m ds := by
  have hk1 := grown_set9 W g 0 sv
  have hk2 := grown_set9 (W.setCell ⟨g, 0, none⟩ sv) g 1 cv
  have q1 := own_ne h1 h0 (by decide)
  have q2 := own_ne h2 h0 (by decide)
  refine ⟨set_two9 h0 _ _, own_kept9 (own_kept9 h1 hk1 (fun b e1 e2 => by cases e1; exact q1 _ e2 rfl)) hk2 (fun b e1 e2 => by cases e1; exact q1 _ e2 rfl), own_kept9 (own_kept9 h2 hk1 (fun b e1 e2 => by cases e1; exact q2 _ e2 rfl)) hk2 (fun b e1 e2 => by cases e1; exact q2 _ e2 rfl), hg, ?_⟩
  exact below_grown9 (below_grown9 hB hk1 (fun b e => by cases e; exact hg) hB.size) hk2 (fun b e => by cases e; exact hg) (Nat.le_trans hB.size hk1.size)
/-- the copy of a version's slots whose first values are copied -/
def FrI (W0 : World) (L g b2 gA : Nat) (a9 : Option Addr) (c9 : Nat) (cv : Value) (slots : List SlotM) (n m : Nat) (ds : List Value) (q : Nat) (W : World) : Prop :=
  L ≤ W.heap.size ∧ W.heap[b2]? = some (.cells #[.slice none 0 0, .slice none 0 0] 67 (0, 0)) ∧ (∀ b, Value.ownBlock (.slice a9 n c9) = some b → b = gA) ∧ gA < L ∧ b2 < L ∧
  ∃ cs', FreshAt W0 W g (.slice a9 n c9) cv n cs' m ds ∧ (∀ u ∈ cs', u.oneCell' = true) ∧
    (∀ (j : Nat) (s : SlotM), slots[j]? = some s → cs'[j * 7]? = some (.string s.nm) ∧ cs'[j * 7 + 1]? = some (.int .i64 s.ty) ∧ cs'[j * 7 + 2]? = some (.bool s.rq)) ∧
    (∀ (j : Nat) (s : SlotM), j < q → slots[j]? = some s → ∃ c3 c4 c5 c6, (cs'[j * 7 + 3]? = some c3 ∧ cs'[j * 7 + 4]? = some c4 ∧ cs'[j * 7 + 5]? = some c5 ∧ cs'[j * 7 + 6]? = some c6) ∧ Fresh L W s.df (.agg #[c3, c4, c5, c6]))
theorem frI_below {W0 : World} {L g b2 gA : Nat} {a9 : Option Addr} {c9 : Nat} {cv : Value} {slots : List SlotM} {n m : Nat} {ds : List Value} {q : Nat} {W W' : World} (h : FrI W0 L g b2 gA a9 c9 cv slots n m ds q W) (hb : Below W.heap.size W W') : FrI W0 L g b2 gA a9 c9 cv slots n m ds q W' := by
  obtain ⟨h1, h2, h3, h4, h5, cs', ⟨f1, f2, f3, f4, f5⟩, k1, k2, k3⟩ := h
  refine ⟨Nat.le_trans h1 hb.size, (hb.block _ (Array.getElem?_eq_some_iff.1 h2).1).trans h2, h3, h4, h5, cs', ⟨(hb.block _ (Array.getElem?_eq_some_iff.1 f1).1).trans f1, ownsRow_below f2 hb, ownsRow_below f3 hb, f4, f5.trans (hb.mono f5.size)⟩, k1, k2, fun j s hj hs => ?_⟩
  obtain ⟨c3, c4, c5, c6, hc, hf⟩ := k3 j s hj hs
  exact ⟨c3, c4, c5, c6, hc, fresh_later hf hb.size fun b _ hlt => hb.block b hlt⟩
theorem heap_set1 {W : World} {g i b : Nat} {u : Value} {o : Obj} (h : W.heap[b]? = some o) (hne : b ≠ g) : (W.setCell ⟨g, i, none⟩ u).heap[b]? = some o :=
  ((grown_set9 W g i u).block b (Array.getElem?_eq_some_iff.1 h).1 (fun e => by cases e; exact hne rfl)).trans h
theorem below_set1 {w W : World} {g i : Nat} {u : Value} (h : Below w.heap.size w W) (hg : w.heap.size ≤ g) : Below w.heap.size w (W.setCell ⟨g, i, none⟩ u) :=
  below_grown9 h (grown_set9 W g i u) (fun b e => by cases e; exact hg) h.size
theorem heap_set4 {W : World} {g i0 i1 i2 i3 : Nat} {d0 d1 d2 d3 : Value} {b : Nat} {o : Obj} (h : W.heap[b]? = some o) (hne : b ≠ g) : ((((W.setCell ⟨g, i0, none⟩ d0).setCell ⟨g, i1, none⟩ d1).setCell ⟨g, i2, none⟩ d2).setCell ⟨g, i3, none⟩ d3).heap[b]? = some o := by
  have h1 := heap_set1 (i := i0) (u := d0) h hne
  have h2 := heap_set1 (i := i1) (u := d1) h1 hne
  have h3 := heap_set1 (i := i2) (u := d2) h2 hne
  exact heap_set1 (i := i3) (u := d3) h3 hne
set_option maxHeartbeats 2000000 in
theorem frI_set {W0 : World} {L g b2 gA : Nat} {a9 : Option Addr} {c9 : Nat} {cv : Value} {slots : List SlotM} {n m : Nat} {ds : List Value} {q : Nat} {W : World} {s : SlotM} {d0 d1 d2 d3 : Value} (h : FrI W0 L g b2 gA a9 c9 cv slots n m ds q W) (hq : q < n) (ha : Value.ownBlock (.slice a9 n c9) = some gA) (hs : slots[q]? = some s) (hd : Fresh L W s.df (.agg #[d0, d1, d2, d3])) (ho : ∀ u ∈ [d0, d1, d2, d3], u.oneCell' = true) :
    FrI W0 L g b2 gA a9 c9 cv slots n m ds (q + 1) ((((W.setCell ⟨gA, q * 7 + 3, none⟩ d0).setCell ⟨gA, q * 7 + 4, none⟩ d1).setCell ⟨gA, q * 7 + 5, none⟩ d2).setCell ⟨gA, q * 7 + 6, none⟩ d3) := by
  obtain ⟨h1, h2, h3, h4, h5, cs', ⟨f1, f2, f3, f4, f5⟩, k1, k2, k3⟩ := h
  have hlen : cs'.length = n * 7 := f2.1
  obtain ⟨curA, hhA⟩ : ∃ cur : Array Value, W.heap[gA]? = some (.cells cur 44 (0, 0)) := by
    rcases f2.2 with ⟨e, _⟩ | ⟨g', cap, cur, e, _, hh, _⟩
    · rw [e] at ha; simp [Value.ownBlock] at ha
    · rw [e] at ha
      simp only [Value.ownBlock, Option.map_some, Option.some.injEq] at ha
      subst ha
      exact ⟨cur, hh⟩
  have hb2A : b2 ≠ gA := fun e => by subst e; rw [hhA] at h2; simp at h2
  have hgA : g ≠ gA := fun e => by subst e; rw [hhA] at f1; simp at f1
  have hAge : W0.heap.size ≤ gA := (own_blk9 f2 gA ha).2
  have kg : ∀ (V : World) (i : Nat) (u : Value), V.grownBy (V.setCell ⟨gA, i, none⟩ u) (some gA) := fun V i u => grown_set9 V gA i u
  have hint := own_ne f3 hhA (by decide)
  have r3 := own_kept9 (own_kept9 (own_kept9 (own_kept9 f3 (kg W (q * 7 + 3) d0) (fun b e1 e2 => by cases e1; exact hint _ e2 rfl)) (kg _ (q * 7 + 4) d1) (fun b e1 e2 => by cases e1; exact hint _ e2 rfl)) (kg _ (q * 7 + 5) d2) (fun b e1 e2 => by cases e1; exact hint _ e2 rfl)) (kg _ (q * 7 + 6) d3) (fun b e1 e2 => by cases e1; exact hint _ e2 rfl)
  have r2 := own_setS (c := d3) (own_setS (c := d2) (own_setS (c := d1) (own_setS (c := d0) f2 ha (show q * 7 + 3 < n * 7 by omega)) ha (show q * 7 + 4 < n * 7 by omega)) ha (show q * 7 + 5 < n * 7 by omega)) ha (show q * 7 + 6 < n * 7 by omega)
  have rB1 := below_set1 (u := d0) (i := q * 7 + 3) f5 hAge
  have rB2 := below_set1 (u := d1) (i := q * 7 + 4) rB1 hAge
  have rB3 := below_set1 (u := d2) (i := q * 7 + 5) rB2 hAge
  have rB := below_set1 (u := d3) (i := q * 7 + 6) rB3 hAge
  have hsz : W.heap.size ≤ ((((W.setCell ⟨gA, q * 7 + 3, none⟩ d0).setCell ⟨gA, q * 7 + 4, none⟩ d1).setCell ⟨gA, q * 7 + 5, none⟩ d2).setCell ⟨gA, q * 7 + 6, none⟩ d3).heap.size := Nat.le_trans (Nat.le_trans (Nat.le_trans (kg W _ _).size (kg _ _ _).size) (kg _ _ _).size) (kg _ _ _).size
  have hfr : ∀ (v : PV) (X : Value), Fresh L W v X → Fresh L ((((W.setCell ⟨gA, q * 7 + 3, none⟩ d0).setCell ⟨gA, q * 7 + 4, none⟩ d1).setCell ⟨gA, q * 7 + 5, none⟩ d2).setCell ⟨gA, q * 7 + 6, none⟩ d3) v X := fun v X hX => fresh_later hX hsz fun b hL hlt => by
    obtain ⟨o, hbo⟩ : ∃ o, W.heap[b]? = some o := ⟨W.heap[b], Array.getElem?_eq_getElem hlt⟩
    rw [hbo]
    exact heap_set4 hbo (by omega)
  have far : ∀ i, i ≠ q * 7 + 3 → i ≠ q * 7 + 4 → i ≠ q * 7 + 5 → i ≠ q * 7 + 6 → ((((cs'.set (q * 7 + 3) d0).set (q * 7 + 4) d1).set (q * 7 + 5) d2).set (q * 7 + 6) d3)[i]? = cs'[i]? := fun i e0 e1 e2 e3 => by
    rw [List.getElem?_set_ne (Ne.symm e3), List.getElem?_set_ne (Ne.symm e2), List.getElem?_set_ne (Ne.symm e1), List.getElem?_set_ne (Ne.symm e0)]
  refine ⟨Nat.le_trans h1 hsz, heap_set4 h2 hb2A, h3, h4, h5, _, ⟨heap_set4 f1 hgA, r2, r3, f4, rB⟩, fun u hu => ?_, fun j t ht => ?_, fun j t hj ht => ?_⟩
  · rcases List.mem_or_eq_of_mem_set hu with hu | rfl
    · rcases List.mem_or_eq_of_mem_set hu with hu | rfl
      · rcases List.mem_or_eq_of_mem_set hu with hu | rfl
        · rcases List.mem_or_eq_of_mem_set hu with hu | rfl
          · exact k1 u hu
          · exact ho _ (by simp)
        · exact ho _ (by simp)
      · exact ho _ (by simp)
    · exact ho _ (by simp)
  · obtain ⟨e0, e1, e2⟩ := k2 j t ht
    exact ⟨(far _ (by omega) (by omega) (by omega) (by omega)).trans e0, (far _ (by omega) (by omega) (by omega) (by omega)).trans e1, (far _ (by omega) (by omega) (by omega) (by omega)).trans e2⟩
  · by_cases hjq : j = q
    · subst hjq
      rw [hs] at ht
      cases ht
      refine ⟨d0, d1, d2, d3, ⟨?_, ?_, ?_, ?_⟩, hfr _ _ hd⟩
      · rw [List.getElem?_set_ne (by omega), List.getElem?_set_ne (by omega), List.getElem?_set_ne (by omega), List.getElem?_set_self (by omega)]
      · rw [List.getElem?_set_ne (by omega), List.getElem?_set_ne (by omega), List.getElem?_set_self (by rw [List.length_set]; omega)]
      · rw [List.getElem?_set_ne (by omega), List.getElem?_set_self (by rw [List.length_set, List.length_set]; omega)]
      · rw [List.getElem?_set_self (by rw [List.length_set, List.length_set, List.length_set]; omega)]
    · obtain ⟨c3, c4, c5, c6, ⟨q3, q4, q5, q6⟩, hf⟩ := k3 j t (by omega) ht
      exact ⟨c3, c4, c5, c6, ⟨(far _ (by omega) (by omega) (by omega) (by omega)).trans q3, (far _ (by omega) (by omega) (by omega) (by omega)).trans q4, (far _ (by omega) (by omega) (by omega) (by omega)).trans q5, (far _ (by omega) (by omega) (by omega) (by omega)).trans q6⟩, hfr _ _ hf⟩
theorem frI_cells {W0 : World} {L g b2 gA : Nat} {a9 : Option Addr} {c9 : Nat} {cv : Value} {slots : List SlotM} {n m : Nat} {ds : List Value} {q : Nat} {W : World} (h : FrI W0 L g b2 gA a9 c9 cv slots n m ds q W) (hq : q < n) (ha : Value.ownBlock (.slice a9 n c9) = some gA) :
    ∃ e3 e4 e5 e6, (W.cell? ⟨gA, q * 7 + 3, none⟩ = some e3 ∧ W.cell? ⟨gA, q * 7 + 4, none⟩ = some e4 ∧ W.cell? ⟨gA, q * 7 + 5, none⟩ = some e5 ∧ W.cell? ⟨gA, q * 7 + 6, none⟩ = some e6) ∧ (W.frozen? ⟨gA, q * 7 + 3, none⟩ = false ∧ W.frozen? ⟨gA, q * 7 + 4, none⟩ = false ∧ W.frozen? ⟨gA, q * 7 + 5, none⟩ = false ∧ W.frozen? ⟨gA, q * 7 + 6, none⟩ = false) := by
  obtain ⟨h1, h2, h3, h4, h5, cs', ⟨f1, f2, f3, f4, f5⟩, k1, k2, k3⟩ := h
  have hlen : cs'.length = n * 7 := f2.1
  have key : ∀ i, i < n * 7 → ∃ e, W.cell? ⟨gA, i, none⟩ = some e ∧ W.frozen? ⟨gA, i, none⟩ = false := fun i hi => by
    obtain ⟨g', e, q1, q2, _⟩ := own_cellS f2 (List.getElem?_eq_getElem (show i < cs'.length by omega))
    subst e
    simp only [Value.ownBlock, Option.map_some, Option.some.injEq] at ha
    subst ha
    exact ⟨_, q1, q2⟩
  obtain ⟨e3, p3, r3⟩ := key (q * 7 + 3) (by omega)
  obtain ⟨e4, p4, r4⟩ := key (q * 7 + 4) (by omega)
  obtain ⟨e5, p5, r5⟩ := key (q * 7 + 5) (by omega)
  obtain ⟨e6, p6, r6⟩ := key (q * 7 + 6) (by omega)
  exact ⟨e3, e4, e5, e6, ⟨p3, p4, p5, p6⟩, r3, r4, r5, r6⟩
theorem own_agree {w0 W W' : World} {B : Nat} {e : TypeId} {size n : Nat} {v : Value} {xs : List Value} (h : W.ownsRow B e size v n xs) (hB : w0.heap.size ≤ B) (hag : ∀ b, w0.heap.size ≤ b → b < W.heap.size → W'.heap[b]? = W.heap[b]?) : W'.ownsRow B e size v n xs := by
  refine ⟨h.1, ?_⟩
  rcases h.2 with hn | ⟨g, cap, cur, rfl, hg, hh, r⟩
  · exact .inl hn
  · exact .inr ⟨g, cap, cur, rfl, hg, (hag g (by omega) (Array.getElem?_eq_some_iff.1 hh).1).trans hh, r⟩
theorem frI_end {w W0 : World} {L g b2 gA : Nat} {a9 : Option Addr} {c9 : Nat} {a8 : Option Addr} {c8 : Nat} {slots : List SlotM} {cols : List Nat} {n m : Nat} {cs : List Value} {W : World} {u0 u1 : Value} (h : FrI W0 L g b2 gA a9 c9 (.slice a8 m c8) slots n m (colC cols) n W) (hn : slots.length = n) (hsc : SCells w slots cs) (hB : Below w.heap.size w W0) (hwb : w.heap.size ≤ b2) :
    (∀ W' : World, (∀ b, w.heap.size ≤ b → b < ((W.setCell ⟨b2, 0, none⟩ u0).setCell ⟨b2, 1, none⟩ u1).heap.size → W'.heap[b]? = ((W.setCell ⟨b2, 0, none⟩ u0).setCell ⟨b2, 1, none⟩ u1).heap[b]?) → SlotRow W' a9 c9 slots ∧ Row W' .i64 a8 m c8 (cols.map Int.ofNat)) ∧ Below w.heap.size w ((W.setCell ⟨b2, 0, none⟩ u0).setCell ⟨b2, 1, none⟩ u1) := by
  obtain ⟨h1, h2, h3, h4, h5, cs', ⟨f1, f2, f3, f4, f5⟩, k1, k2, k3⟩ := h
  have hk1 := grown_set9 W b2 0 u0
  have hk2 := grown_set9 (W.setCell ⟨b2, 0, none⟩ u0) b2 1 u1
  have q2 := own_ne f2 h2 (by decide)
  have q3 := own_ne f3 h2 (by decide)
  have r2 := own_kept9 (own_kept9 f2 hk1 (fun b e1 e2 => by cases e1; exact q2 _ e2 rfl)) hk2 (fun b e1 e2 => by cases e1; exact q2 _ e2 rfl)
  have r3 := own_kept9 (own_kept9 f3 hk1 (fun b e1 e2 => by cases e1; exact q3 _ e2 rfl)) hk2 (fun b e1 e2 => by cases e1; exact q3 _ e2 rfl)
  have hBW := hB.trans (f5.mono hB.size)
  have hBf := below_grown9 (below_grown9 hBW hk1 (fun b e => by cases e; exact hwb) hBW.size) hk2 (fun b e => by cases e; exact hwb) (Nat.le_trans hBW.size hk1.size)
  have hsz := Nat.le_trans hk1.size hk2.size
  refine ⟨fun W' hag => ?_, hBf⟩
  replace r2 := own_agree r2 hB.size hag
  replace r3 := own_agree r3 hB.size hag
  obtain ⟨a8', c8', e8, hr8⟩ := row_of_owns r3
  injection e8 with e8a e8b e8c
  subst e8a e8c
  refine ⟨⟨?_, ?_, ?_⟩, hr8⟩
  · rw [hn]
    rcases r2.2 with ⟨e, e0⟩ | ⟨g', cap, cur, e, _, _, hnc, _⟩
    · cases e; omega
    · cases e; exact hnc
  · rcases r2.2 with ⟨e, e0⟩ | ⟨g', cap, cur, e, _, _, _, hm, _⟩
    · cases e; unfold maxLen; omega
    · cases e; exact hm
  · rcases Nat.eq_zero_or_pos n with h0 | h0
    · left; exact List.length_eq_zero_iff.1 (by omega)
    · have hlen : cs'.length = n * 7 := f2.1
      obtain ⟨g', ea, _, _, _⟩ := own_cellS r2 (List.getElem?_eq_getElem (show 0 < cs'.length by omega))
      subst ea
      refine .inr ⟨g', 0, rfl, fun i s hs => ?_⟩
      have hi : i < n := by rw [← hn]; exact (List.getElem?_eq_some_iff.1 hs).1
      obtain ⟨e0, e1, e2⟩ := k2 i s hs
      obtain ⟨c3, c4, c5, c6, ⟨e3, e4, e5, e6⟩, hf⟩ := k3 i s hi hs
      have cell : ∀ j u, cs'[j]? = some u → W'.cell? ⟨g', 0 + j, none⟩ = some u := fun j u hu => by
        obtain ⟨g2, eg, p1, _, _⟩ := own_cellS r2 hu
        cases eg
        rw [Nat.zero_add]
        exact p1
      obtain ⟨_, _, _, _, _, _, _, _, s1, s2, _⟩ := hsc.2.2 i s hs
      refine ⟨_, _, _, _, _, _, _, ⟨cell _ _ e0, cell _ _ e1, cell _ _ e2, cell _ _ e3, cell _ _ e4, cell _ _ e5, cell _ _ e6⟩, s1, s2, rfl, rfl, rfl, ?_⟩
      refine hf W' fun b hL hlt => ?_
      obtain ⟨o, hbo⟩ : ∃ o, W.heap[b]? = some o := ⟨W.heap[b], Array.getElem?_eq_getElem hlt⟩
      rw [hag b (by omega) (Nat.lt_of_lt_of_le hlt hsz), hbo]
      exact heap_set1 (heap_set1 hbo (by omega)) (by omega)
set_option maxHeartbeats 8000000 in
theorem fresh_any (x : Sc.Ver) (sa : Option Addr) (sc : Nat) (ca : Option Addr) (cc : Nat) (w : World) (hn16 : x.slots.length ≤ 16) (hm16 : x.cols.length ≤ 16) (hsm : ∀ s ∈ x.slots, rightV s.df = true) (hv : VerAt w x sa sc ca cc) :
    Calls Tryz.prog 83 #[.agg #[.slice sa x.slots.length sc, .slice ca x.cols.length cc]] w fun e w' => (∃ sa' sc' ca' cc', e = .returned (.agg #[.slice sa' x.slots.length sc', .slice ca' x.cols.length cc']) ∧ ∀ W' : World, (∀ b, w.heap.size ≤ b → b < w'.heap.size → W'.heap[b]? = w'.heap[b]?) → VerAt W' x sa' sc' ca' cc') ∧ Below w.heap.size w w' := by
  obtain ⟨slots, cols⟩ := x
  obtain ⟨hs, hr⟩ := hv
  unfold VerAt
  simp only at hs hr hn16 hm16 hsm ⊢
  have HSM := Lib.hid hsm
  clear hsm
  have hscc := hs.1
  have hscm := hs.2.1
  unfold maxLen at hscm
  obtain ⟨cs, hsc, hcs⟩ := sCells_row hs
  have hCS := fun W (hb : Below w.heap.size w W) => cloneS_any sa slots.length sc cs W (cells_below9 hcs hb) hsc.2.1 (by omega)
  have hCI := fun W (hb : Below w.heap.size w W) => cloneI_any ca cols.length cc (colC cols) W (cells_below9 (cells_of_row hr) hb) (colC_one _) (by omega)
  obtain ⟨n, hn⟩ : ∃ n, slots.length = n := ⟨_, rfl⟩
  obtain ⟨m, hm⟩ : ∃ m, cols.length = m := ⟨_, rfl⟩
  rw [hn] at hCS hn16 hscc ⊢
  rw [hm] at hCI hm16 ⊢
  have HSC := Lib.hid hsc; have HCS := Lib.hid hCS; have HCI := Lib.hid hCI; have HS := Lib.hid hs; have HN := Lib.hid hn; have HM := Lib.hid hm
  clear hsc hCS hCI hs hr hcs hn hm
  go_enter Tryz.func83, Tryz.ntmps83
  go_wp2
  obtain ⟨W0, hW0⟩ : ∃ W0, (w.alloc (.cells #[.slice sa n sc, .slice ca m cc] 67)).alloc (.cells #[.slice none 0 0, .slice none 0 0] 67) = W0 := ⟨_, rfl⟩
  obtain ⟨b1, hb1⟩ : ∃ b, w.heap.size = b := ⟨_, rfl⟩
  obtain ⟨b2, hb2⟩ : ∃ b, b1 + 1 = b := ⟨_, rfl⟩
  have hbase : W0.cell? ⟨b1, 0, none⟩ = some (.slice sa n sc) ∧ W0.cell? ⟨b1, 1, none⟩ = some (.slice ca m cc) := by
    rw [← hW0, ← hb1]
    refine ⟨?_, ?_⟩ <;> simp
  have hres : W0.heap[b2]? = some (.cells #[.slice none 0 0, .slice none 0 0] 67 (0, 0)) := by
    rw [← hW0, ← hb2, ← hb1, ← World.size_alloc w (.cells #[.slice sa n sc, .slice ca m cc] 67)]
    exact heap_self9 _ _
  have hB0 : Below w.heap.size w W0 := hW0 ▸ ((Below.refl _ w).alloc (Nat.le_refl _) _).alloc (by simp) _
  rw [hW0, hb1, hb2]
  have hlt : b1 < W0.heap.size := block_lt hbase.1
  have hb2lt : b2 < W0.heap.size := (Array.getElem?_eq_some_iff.1 hres).1
  have hwb : w.heap.size = b1 ∧ b1 + 1 = b2 := ⟨hb1, hb2⟩
  have HWB := Lib.hid hwb
  clear hW0 hb1 hwb hb2
  go_upto_region 1 with fail
  go_cut [3] from 3 to 13 (fun s3 W => ∃ g a9 c9 a8 c8, s3 = .pointer (some ⟨g, 0, none⟩) ∧ FreshAt W0 W g (.slice a9 n c9) (.slice a8 m c8) n cs m (colC cols))
  case first =>
    go_region_held3 (fun W => W.cell? ⟨b1, 0, none⟩ = some (.slice sa n sc) ∧ W.cell? ⟨b1, 1, none⟩ = some (.slice ca m cc)) (first | assumption | exact k2 hbase (below_drew _) | exact k2 (by assumption) hb8 | exact k2 (by assumption) hb9 | exact k2 (by assumption) ((Below.refl _ _).alloc (Nat.le_refl _) _) | exact k2 hbase hB8 | exact k2 hbase hB9 | exact k2 (k2 hbase hB8) ((Below.refl _ _).alloc (Nat.le_refl _) _) | exact k2 (k2 hbase hB9) ((Below.refl _ _).alloc (Nat.le_refl _) _) | exact k2s (k2 hbase hB8) (Nat.ne_of_lt hlt) | exact k2s (k2 hbase hB9) (Nat.ne_of_lt hlt) | exact k2s (k2 hbase hB8) (Nat.ne_of_lt (Nat.lt_of_lt_of_le hlt hB9.size)) | exact k2s (k2 hbase hB9) (Nat.ne_of_lt (Nat.lt_of_lt_of_le hlt hB8.size))) (first
    | (go_at_call 100; first
      | ((with_reducible refine (HCS.out _ hB0.drew).mono ?_); rintro e w9 ⟨v9, rfl, ho9, hb9⟩; obtain ⟨a9, c9, rfl⟩ := own_form9 ho9; have hB9 := (below_drew W0).trans hb9)
      | ((with_reducible refine (HCS.out _ ((hB0.alloc hB0.size _).drew)).mono ?_); rintro e w9 ⟨v9, rfl, ho9, hb9⟩; obtain ⟨a9, c9, rfl⟩ := own_form9 ho9; have hB9 := (((Below.refl _ W0).alloc (Nat.le_refl _) _).drew).trans (hb9.mono (by simp)); have hY := (hb9.block W0.heap.size (by simp)).trans (heap_self9 W0 _); obtain ⟨f0, f1, f2, f3⟩ := two_all hY)
      | ((with_reducible refine (HCS.out _ (hB0.trans (hB8.mono hB0.size))).mono ?_); rintro e w9 ⟨v9, rfl, ho9, hb9⟩; obtain ⟨a9, c9, rfl⟩ := own_form9 ho9; have hB9 := hB8.trans (hb9.mono hB8.size); have ho8 := ownsRow_below ho8 hb9; (first | (have hY := (hb9.block _ (Array.getElem?_eq_some_iff.1 hY).1).trans hY; obtain ⟨f0, f1, f2, f3⟩ := two_all hY) | skip))
      | ((with_reducible refine (HCS.out _ ((hB0.trans (hB8.mono hB0.size)).alloc (hB0.trans (hB8.mono hB0.size)).size _)).mono ?_); rintro e w9 ⟨v9, rfl, ho9, hb9⟩; obtain ⟨a9, c9, rfl⟩ := own_form9 ho9; have hB9 := (hB8.alloc hB8.size _).trans (hb9.mono (Nat.le_trans hB8.size (by simp))); have hY := (hb9.block _ (by simp)).trans (heap_self9 _ _); obtain ⟨f0, f1, f2, f3⟩ := two_all hY; have ho8 := ownsRow_below (ownsRow_below ho8 ((Below.refl _ _).alloc (Nat.le_refl _) _)) hb9))
    | (go_at_call 101; first
      | ((with_reducible refine (HCI.out _ hB0.drew).mono ?_); rintro e w8 ⟨v8, rfl, ho8, hb8⟩; obtain ⟨a8, c8, rfl⟩ := own_form9 ho8; have hB8 := (below_drew W0).trans hb8)
      | ((with_reducible refine (HCI.out _ ((hB0.alloc hB0.size _).drew)).mono ?_); rintro e w8 ⟨v8, rfl, ho8, hb8⟩; obtain ⟨a8, c8, rfl⟩ := own_form9 ho8; have hB8 := (((Below.refl _ W0).alloc (Nat.le_refl _) _).drew).trans (hb8.mono (by simp)); have hY := (hb8.block W0.heap.size (by simp)).trans (heap_self9 W0 _); obtain ⟨f0, f1, f2, f3⟩ := two_all hY)
      | ((with_reducible refine (HCI.out _ (hB0.trans (hB9.mono hB0.size))).mono ?_); rintro e w8 ⟨v8, rfl, ho8, hb8⟩; obtain ⟨a8, c8, rfl⟩ := own_form9 ho8; have hB8 := hB9.trans (hb8.mono hB9.size); have ho9 := ownsRow_below ho9 hb8; (first | (have hY := (hb8.block _ (Array.getElem?_eq_some_iff.1 hY).1).trans hY; obtain ⟨f0, f1, f2, f3⟩ := two_all hY) | skip))
      | ((with_reducible refine (HCI.out _ ((hB0.trans (hB9.mono hB0.size)).alloc (hB0.trans (hB9.mono hB0.size)).size _)).mono ?_); rintro e w8 ⟨v8, rfl, ho8, hb8⟩; obtain ⟨a8, c8, rfl⟩ := own_form9 ho8; have hB8 := (hB9.alloc hB9.size _).trans (hb8.mono (Nat.le_trans hB9.size (by simp))); have hY := (hb8.block _ (by simp)).trans (heap_self9 _ _); obtain ⟨f0, f1, f2, f3⟩ := two_all hY; have ho9 := ownsRow_below (ownsRow_below ho9 ((Below.refl _ _).alloc (Nat.le_refl _) _)) hb8)))
    all_goals (go_wp2_with fail; go_meet)
    all_goals first
      | exact ⟨_, _, _, _, _, rfl, freshA (ownsRow_mono ho9 (by first | exact Nat.le_refl _ | exact hB8.size | (simp; done) | (have := hB8.size; simp; omega))) (ownsRow_mono ho8 (by first | exact Nat.le_refl _ | exact hB9.size | (simp; done) | (have := hB9.size; simp; omega))) hB8⟩
      | exact ⟨_, _, _, _, _, rfl, freshA (ownsRow_mono ho9 (by first | exact Nat.le_refl _ | exact hB8.size | (simp; done) | (have := hB8.size; simp; omega))) (ownsRow_mono ho8 (by first | exact Nat.le_refl _ | exact hB9.size | (simp; done) | (have := hB9.size; simp; omega))) hB9⟩
      | exact ⟨_, _, _, _, _, rfl, freshB hY (by first | exact Nat.le_refl _ | exact hB8.size | exact hB9.size) (ownsRow_mono ho9 (by first | exact Nat.le_refl _ | exact hB8.size | (simp; done) | (have := hB8.size; simp; omega))) (ownsRow_mono ho8 (by first | exact Nat.le_refl _ | exact hB9.size | (simp; done) | (have := hB9.size; simp; omega))) hB8⟩
      | exact ⟨_, _, _, _, _, rfl, freshB hY (by first | exact Nat.le_refl _ | exact hB8.size | exact hB9.size) (ownsRow_mono ho9 (by first | exact Nat.le_refl _ | exact hB8.size | (simp; done) | (have := hB8.size; simp; omega))) (ownsRow_mono ho8 (by first | exact Nat.le_refl _ | exact hB9.size | (simp; done) | (have := hB9.size; simp; omega))) hB9⟩
  case rest =>
    obtain ⟨g, a9, c9, a8, c8, rfl, hF⟩ := hcut
    have hres1 := (hF.2.2.2.2.block _ hb2lt).trans hres
    have x0 := cell_below hF.2.2.2.2 hbase.1
    have hgc := (Array.getElem?_eq_some_iff.1 hF.1).1
    have hb2c : b2 < wc.heap.size := Nat.lt_of_lt_of_le hb2lt hF.2.2.2.2.size
    obtain ⟨gA, hgA1, hgA2, hgA3⟩ : ∃ gA, (∀ b, Value.ownBlock (.slice a9 n c9) = some b → b = gA) ∧ gA < wc.heap.size ∧ (n ≠ 0 → Value.ownBlock (.slice a9 n c9) = some gA) := by
      cases a9 with
      | none =>
        refine ⟨b2, fun b e => by simp [Value.ownBlock] at e, hb2c, fun h => ?_⟩
        rcases hF.2.1.2 with ⟨_, e⟩ | ⟨g', cap, cur, e, _⟩
        · exact absurd e h
        · cases e
      | some ad =>
        refine ⟨ad.block, fun b e => by simpa [Value.ownBlock] using e.symm, ?_, fun _ => rfl⟩
        exact (own_blk9 hF.2.1 ad.block rfl).1
    have hFI : FrI W0 wc.heap.size g b2 gA a9 c9 (.slice a8 m c8) slots n m (colC cols) 0 wc := by
      refine ⟨Nat.le_refl _, hres1, hgA1, hgA2, hb2c, cs, hF, HSC.out.2.1, fun j s hs => ?_, fun j s hj => by omega⟩
      obtain ⟨c0, c1, c2, _, _, _, _, ⟨q0, q1, q2, _⟩, _, _, rfl, rfl, rfl, _⟩ := HSC.out.2.2 j s hs
      exact ⟨q0, q1, q2⟩
    obtain ⟨L, hL⟩ : ∃ L, wc.heap.size = L := ⟨_, rfl⟩
    rw [hL] at hFI hgA2 hb2c
    clear hL hF hres1 hgc
    go_wp2
    go_loopw [16] (fun i wr => ∃ q : Nat, q ≤ n ∧ i = .int .i64 (q : Int) ∧ FrI W0 L g b2 gA a9 c9 (.slice a8 m c8) slots n m (colC cols) q wr) (fun i _ => n - (intOf i).toNat)
    case atStart => exact ⟨0, Nat.zero_le _, rfl, hFI⟩
    case round =>
      obtain ⟨q, hq, rfl, hI⟩ := hrel
      rcases Nat.lt_or_ge q n with hlt2 | hge
      · have hd : decide ((q : Int) < (n : Int)) = true := by simp; omega
        have hnl := HN.out
        obtain ⟨s, hs⟩ : ∃ s, slots[q]? = some s := ⟨slots[q], List.getElem?_eq_getElem (by omega)⟩
        have hright := HSM.out s (List.mem_of_getElem? hs)
        obtain ⟨nm, ty, rq, ⟨kk, nn, tx, ll⟩⟩ := s
        obtain ⟨sb, so, rfl, hrow⟩ : ∃ b off, sa = some ⟨b, off, none⟩ ∧ ∀ i s, slots[i]? = some s → SlotAt w b (off + i * 7) s := by
          rcases HS.out.2.2 with h | h
          · subst h; simp at hnl; omega
          · exact h
        obtain ⟨k0, n0, t0, a0, len0, cap0, ⟨g0, g1, g2, g3, g4, g5, g6⟩, hI64, hsn, hdf⟩ := slotAt_form (hrow q _ hs)
        simp only at g0 g1 g2 hdf hright
        have hBr : Below w.heap.size w wr := hB0.trans (hI.2.2.2.2.2.choose_spec.1.2.2.2.2.mono hB0.size)
        have hCp := fun W (hb : Below w.heap.size w W) => copy_any (.mk kk nn tx ll) (right_small hright) W _ (is_below hb _ _ hdf)
        have HCp := Lib.hid hCp
        have y0 := cell_below hBr g0
        have y1 := cell_below hBr g1
        have y2 := cell_below hBr g2
        have y3 := cell_below hBr g3
        have y4 := cell_below hBr g4
        have y5 := cell_below hBr g5
        have y6 := cell_below hBr g6
        have hsl := hgA3 (by omega)
        have HQ := Lib.hid hs
        clear hCp hrow g0 g1 g2 g3 g4 g5 g6 hdf hs hnl hI64 hsn hright
        have hIV := frI_below hI ((Below.refl _ _).alloc (Nat.le_refl _) (.cells #[.string nm, .int .i64 ty, .bool rq, .int .i64 k0, .int .i64 n0, .string t0, .slice a0 len0 cap0] 44))
        have hBV := hBr.alloc hBr.size (.cells #[.string nm, .int .i64 ty, .bool rq, .int .i64 k0, .int .i64 n0, .string t0, .slice a0 len0 cap0] 44)
        have ha9 : a9 = some ⟨gA, 0, none⟩ := by
          obtain ⟨_, _, _, _, _, cs', ⟨_, f2, _⟩, _⟩ := hI
          obtain ⟨g', e, _⟩ := own_cellS f2 (List.getElem?_eq_getElem (show 0 < cs'.length by have := f2.1; omega))
          subst e
          simp only [Value.ownBlock, Option.map_some, Option.some.injEq] at hsl
          subst hsl
          rfl
        subst ha9
        have hgV := hIV.2.2.2.2.2.choose_spec.1.1
        have hgA9 := (own_blk9 hIV.2.2.2.2.2.choose_spec.1.2.1 gA rfl)
        have hgne : g ≠ gA := fun e => (own_ne hIV.2.2.2.2.2.choose_spec.1.2.1 hgV (by decide) gA rfl) e.symm
        have hLr := hI.1
        have hb5 := heap_self9 wr (.cells #[.string nm, .int .i64 ty, .bool rq, .int .i64 k0, .int .i64 n0, .string t0, .slice a0 len0 cap0] 44)
        have hS5 := And.intro (at_heap (i := 0) (v := .slice (some ⟨gA, 0, none⟩) n c9) hgV rfl) (And.intro (And.intro (at_heap (i := 3) (v := .int .i64 k0) hb5 rfl) (at_heap (i := 4) (v := .int .i64 n0) hb5 rfl)) (And.intro (at_heap (i := 5) (v := .string t0) hb5 rfl) (at_heap (i := 6) (v := .slice a0 len0 cap0) hb5 rfl)))
        go_wp2
        obtain ⟨V, hV⟩ : ∃ V, wr.alloc (.cells #[.string nm, .int .i64 ty, .bool rq, .int .i64 k0, .int .i64 n0, .string t0, .slice a0 len0 cap0] 44) = V := ⟨_, rfl⟩
        obtain ⟨b5, hb5'⟩ : ∃ b, wr.heap.size = b := ⟨_, rfl⟩
        rw [hV] at hS5 hIV hBV hgV hgA9 ⊢
        rw [hb5'] at hS5 hLr ⊢
        clear hV hb5 hI hBr y0 y1 y2 y3 y4 y5 y6
        have hrne : b5 ≠ gA := by omega
        clear hb5'
        go_region_held3 (fun W => W.cell? ⟨g, 0, none⟩ = some (.slice (some ⟨gA, 0, none⟩) n c9) ∧ (W.cell? ⟨b5, 3, none⟩ = some (.int .i64 k0) ∧ W.cell? ⟨b5, 4, none⟩ = some (.int .i64 n0)) ∧ W.cell? ⟨b5, 5, none⟩ = some (.string t0) ∧ W.cell? ⟨b5, 6, none⟩ = some (.slice a0 len0 cap0)) (first | assumption | exact k5 hS5 (below_drew _) | exact k5 (by assumption) hb9 | exact k5 (k5 hS5 (below_drew _)) hb9 | exact k5s (k5 (k5 hS5 (below_drew _)) hb9) hgne hrne) (first
          | (go_at_call 64; (with_reducible refine (HCp.out _ hBV.drew).mono ?_); rintro e w9 ⟨X9, rfl, hb9, hfr9, aX, rfl, _⟩; have hI9 := frI_below hIV ((below_drew V).trans hb9); obtain ⟨e3, e4, e5, e6, ⟨p3, p4, p5, p6⟩, r3, r4, r5, r6⟩ := frI_cells hI9 hlt2 rfl))
        have hVs : V.heap.size = V.drew.heap.size := rfl
        have hI10 := frI_set hI9 hlt2 rfl HQ.out (fresh_mono hfr9 (by have := hIV.1; omega)) (by simp [Value.oneCell'])
        go_wp2
        go_roundw
        case rel => exact ⟨q + 1, by omega, by go_num, hI10⟩
        case measure => simp [intOf]; omega
      · obtain rfl : q = n := by omega
        have hd : decide ((q : Int) < (q : Int)) = false := by simp
        have hH := hI.2.1
        obtain ⟨f0, f1, f2, f3⟩ := two_all hH
        obtain ⟨z0, z1, _, _⟩ := two_all hI.2.2.2.2.2.choose_spec.1.1
        go_wp2
        have hrw := set_two9 hH (.slice a9 q c9) (.slice a8 m c8)
        have hwb := HWB.out
        refine bodyPost_ret (results_cell_row Tryz.results83 _ _ b2 _ _ _ _ rfl hrw Tryz.underlying67 rfl (by kernel_rfl)) rfl ?_
        obtain ⟨hsr, hBf⟩ := frI_end (u0 := .slice a9 q c9) (u1 := .slice a8 m c8) hI HN.out HSC.out hB0 (by omega)
        exact ⟨⟨a9, _, a8, c8, rfl, hsr⟩, hBf⟩
end Go.Proofs.YtibjjclfonpibaaGreat
