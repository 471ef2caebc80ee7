/- Slots in a growing row of one's own (no walk): what each is stays where it was read. -/
import Derived.Test.YtdogdbibhmhooaaGreatMh13Regi
import Derived.Test.YtdogdbibhmhooaaGreatMh7Regi
import Derived.Test.YtdogdbibhmhooaaGreatMh8Regi
import Derived.Test.YtdogdbibhmhooaaGreatMh4Regi
import Derived.Test.YtdogdbibhmhooaaGreatMh2Regi
import Derived.Deep.QuietTactic
import Derived.BigQuiet
import Derived.Deep.RegionWith
import Derived.Lib.ConvBytes
import Derived.Deep.RegionHeld3
import Derived.Deep.DeepCutAuto
import Derived.Deep.RegionHeldLaw
set_option linter.unusedVariables false
set_option maxRecDepth 100000
namespace Go.Proofs.YtdogdbibhmhooaaGreat
open Go.RowKit Go.Shelf
/-- seven cells each, of slots whose values lie in w -/
def SCells (w : World) (l : List SlotM) (cs : List Value) : Prop := cs.length = l.length * 7 ∧ (∀ u ∈ cs, u.oneCell' = true) ∧
  ∀ (i : Nat) (s : SlotM), l[i]? = some s → ∃ c0 c1 c2 c3 c4 c5 c6, (cs[i * 7]? = some c0 ∧ cs[i * 7 + 1]? = some c1 ∧ cs[i * 7 + 2]? = some c2 ∧ cs[i * 7 + 3]? = some c3 ∧ cs[i * 7 + 4]? = some c4 ∧ cs[i * 7 + 5]? = some c5 ∧ cs[i * 7 + 6]? = some c6) ∧ Slot7 w s c0 c1 c2 c3 c4 c5 c6
theorem sCells_nil (w : World) : SCells w [] [] := ⟨rfl, by simp, fun i s h => by simp at h⟩
theorem sCells_append {w : World} {l r : List SlotM} {cs ds : List Value} (h : SCells w l cs) (k : SCells w r ds) : SCells w (l ++ r) (cs ++ ds) := by
  have hlen := h.1
  refine ⟨by rw [List.length_append, List.length_append, h.1, k.1]; omega, fun u hu => (List.mem_append.1 hu).elim (h.2.1 u) (k.2.1 u), fun i s hs => ?_⟩
  rcases Nat.lt_or_ge i l.length with hlt | hge
  · rw [List.getElem?_append_left hlt] at hs
    obtain ⟨c0, c1, c2, c3, c4, c5, c6, hc, h7⟩ := h.2.2 i s hs
    refine ⟨c0, c1, c2, c3, c4, c5, c6, ?_, h7⟩
    rw [List.getElem?_append_left (by omega), List.getElem?_append_left (by omega), List.getElem?_append_left (by omega), List.getElem?_append_left (by omega), List.getElem?_append_left (by omega), List.getElem?_append_left (by omega), List.getElem?_append_left (by omega)]
    exact hc
  · rw [List.getElem?_append_right hge] at hs
    obtain ⟨c0, c1, c2, c3, c4, c5, c6, hc, h7⟩ := k.2.2 _ s hs
    refine ⟨c0, c1, c2, c3, c4, c5, c6, ?_, h7⟩
    rw [List.getElem?_append_right (by omega), List.getElem?_append_right (by omega), List.getElem?_append_right (by omega), List.getElem?_append_right (by omega), List.getElem?_append_right (by omega), List.getElem?_append_right (by omega), List.getElem?_append_right (by omega)]
    have e : ∀ j, i * 7 + j - cs.length = (i - l.length) * 7 + j := fun j => by rw [hlen]; omega
    rw [show i * 7 - cs.length = (i - l.length) * 7 by rw [hlen]; omega, e 1, e 2, e 3, e 4, e 5, e 6]
    exact hc
theorem slot7_one {w : World} {s : SlotM} {c0 c1 c2 c3 c4 c5 c6 : Value} (h : Slot7 w s c0 c1 c2 c3 c4 c5 c6) : ∀ u ∈ [c0, c1, c2, c3, c4, c5, c6], u.oneCell' = true := by
  obtain ⟨h1, h2, rfl, rfl, rfl, h3⟩ := h
  cases hd : s.df with
  | mk k n t l =>
    rw [hd] at h3
    unfold Is at h3
    obtain ⟨_, _, _, a, cap, e, _⟩ := h3
    injection e with e
    injection e with e
    injection e with e3 e
    injection e with e4 e
    injection e with e5 e
    injection e with e6 e
    subst e3 e4 e5 e6
    simp [Value.oneCell']
/-- one slot's -/
theorem sCells_one {w : World} {s : SlotM} {c0 c1 c2 c3 c4 c5 c6 : Value} (h : Slot7 w s c0 c1 c2 c3 c4 c5 c6) : SCells w [s] [c0, c1, c2, c3, c4, c5, c6] :=
  ⟨rfl, slot7_one h, fun i t ht => by
    have hi : i < 1 := (List.getElem?_eq_some_iff.1 ht).1
    obtain rfl : i = 0 := by omega
    simp only [List.getElem?_cons_zero, Option.some.injEq] at ht
    subst ht
    exact ⟨_, _, _, _, _, _, _, ⟨rfl, rfl, rfl, rfl, rfl, rfl, rfl⟩, h⟩⟩
/-- a row of slots as cells -/
theorem sCells_row {w : World} {a : Option Addr} {cap : Nat} {l : List SlotM} (h : SlotRow w a cap l) : ∃ cs, SCells w l cs ∧ Cells w 7 a l.length cs := by
  obtain ⟨h1, h2, h3⟩ := h
  rcases h3 with h3 | ⟨b, off, rfl, hc⟩
  · subst h3
    exact ⟨[], sCells_nil w, rfl, .inl rfl⟩
  · clear h1 h2
    suffices H : ∀ (k : Nat), k ≤ l.length → ∃ cs, SCells w (l.take k) cs ∧ ∀ j u, cs[j]? = some u → w.cell? ⟨b, off + j, none⟩ = some u by
      obtain ⟨cs, g1, g2⟩ := H l.length (Nat.le_refl _)
      rw [List.take_length] at g1
      exact ⟨cs, g1, g1.1, .inr ⟨_, rfl, fun j u hu => by rw [Addr.add_lit]; exact g2 j u hu⟩⟩
    intro k
    induction k with
    | zero => intro _; exact ⟨[], by simpa using sCells_nil w, fun j u h => by simp at h⟩
    | succ k ih =>
      intro hk
      obtain ⟨cs, g1, g2⟩ := ih (by omega)
      have hs : l[k]? = some l[k] := List.getElem?_eq_getElem (by omega)
      obtain ⟨c0, c1, c2, c3, c4, c5, c6, ⟨q0, q1, q2, q3, q4, q5, q6⟩, h7⟩ := hc k _ hs
      refine ⟨cs ++ [c0, c1, c2, c3, c4, c5, c6], ?_, fun j u hu => ?_⟩
      · rw [List.take_add_one, hs]
        exact sCells_append g1 (sCells_one h7)
      · have hlen : cs.length = k * 7 := by rw [g1.1, List.length_take, Nat.min_eq_left (by omega)]
        rcases Nat.lt_or_ge j cs.length with hlt | hge
        · rw [List.getElem?_append_left hlt] at hu
          exact g2 j u hu
        · rw [List.getElem?_append_right hge] at hu
          obtain ⟨m, rfl⟩ : ∃ m, j = k * 7 + m := ⟨j - k * 7, by omega⟩
          rw [hlen, show k * 7 + m - k * 7 = m by omega] at hu
          have hm : m < 7 := (List.getElem?_eq_some_iff.1 hu).1
          rw [show off + (k * 7 + m) = off + k * 7 + m by omega]
          match m, hm with
          | 0, _ => cases hu; exact q0
          | 1, _ => cases hu; exact q1
          | 2, _ => cases hu; exact q2
          | 3, _ => cases hu; exact q3
          | 4, _ => cases hu; exact q4
          | 5, _ => cases hu; exact q5
          | 6, _ => cases hu; exact q6
/-- a row of one's own is a row of slots -/
theorem slotRow_own {w W : World} {B : Nat} {v : Value} {l : List SlotM} {cs : List Value} (h : W.ownsRow B 58 7 v l.length cs) (hs : SCells w l cs) (hb : Below w.heap.size w W) : ∃ a cap, v = .slice a l.length cap ∧ SlotRow W a cap l := by
  obtain ⟨h1, h2⟩ := h
  rcases h2 with ⟨rfl, hn⟩ | ⟨g, cap, cur, rfl, hg, hh, hn, hm, hsz, ht⟩
  · exact ⟨none, 0, by rw [hn], by omega, by unfold maxLen; omega, .inl (List.length_eq_zero_iff.1 hn)⟩
  · refine ⟨_, cap, rfl, hn, hm, .inr ⟨g, 0, rfl, fun i s hi => ?_⟩⟩
    obtain ⟨c0, c1, c2, c3, c4, c5, c6, ⟨q0, q1, q2, q3, q4, q5, q6⟩, h7⟩ := hs.2.2 i s hi
    have hil : i < l.length := (List.getElem?_eq_some_iff.1 hi).1
    have cell : ∀ j u, cs[j]? = some u → W.cell? ⟨g, 0 + j, none⟩ = some u := fun j u hu => by
      rw [← ht, List.getElem?_take] at hu
      split at hu
      · rw [Array.getElem?_toList] at hu
        simp [World.cell?, hh, hu]
      · cases hu
    refine ⟨c0, c1, c2, c3, c4, c5, c6, ⟨?_, ?_, ?_, ?_, ?_, ?_, ?_⟩, slot7_below hb h7⟩
    · exact cell _ _ q0
    · exact cell _ _ q1
    · exact cell _ _ q2
    · exact cell _ _ q3
    · exact cell _ _ q4
    · exact cell _ _ q5
    · exact cell _ _ q6
theorem set_nth {α : Type} (cs : List α) (i j : Nat) (c : α) (hi : i < cs.length) : (cs.set i c)[j]? = if j = i then some c else cs[j]? := by
  rw [List.getElem?_set]
  by_cases h : i = j
  · subst h; simp [hi]
  · rw [if_neg h, if_neg (fun e => h e.symm)]
/-- a slot's name is set -/
theorem sCells_setNm {w : World} {l : List SlotM} {cs : List Value} (h : SCells w l cs) (c : Nat) (nm : ByteArray) (hn : nm.size ≤ maxLen) : SCells w (l.modify c (fun t => Sc.setNm t nm)) (cs.set (c * 7) (.string nm)) := by
  refine ⟨by rw [List.length_set, List.length_modify, h.1], fun u hu => ?_, fun i s hs => ?_⟩
  · rcases List.mem_or_eq_of_mem_set hu with hu | rfl
    · exact h.2.1 u hu
    · rfl
  · rw [List.getElem?_modify] at hs
    obtain ⟨t, ht, rfl⟩ := Option.map_eq_some_iff.1 hs
    obtain ⟨c0, c1, c2, c3, c4, c5, c6, ⟨q0, q1, q2, q3, q4, q5, q6⟩, h7⟩ := h.2.2 i t ht
    by_cases hic : c = i
    · subst hic
      have hlt : c * 7 < cs.length := (List.getElem?_eq_some_iff.1 q0).1
      refine ⟨.string nm, c1, c2, c3, c4, c5, c6, ⟨?_, ?_, ?_, ?_, ?_, ?_, ?_⟩, ?_⟩
      · rw [set_nth _ _ _ _ hlt, if_pos rfl]
      · rw [set_nth _ _ _ _ hlt, if_neg (by omega), q1]
      · rw [set_nth _ _ _ _ hlt, if_neg (by omega), q2]
      · rw [set_nth _ _ _ _ hlt, if_neg (by omega), q3]
      · rw [set_nth _ _ _ _ hlt, if_neg (by omega), q4]
      · rw [set_nth _ _ _ _ hlt, if_neg (by omega), q5]
      · rw [set_nth _ _ _ _ hlt, if_neg (by omega), q6]
      · obtain ⟨k1, k2, k3, k4, k5, k6⟩ := h7
        rw [if_pos rfl]
        exact ⟨hn, k2, rfl, k4, k5, k6⟩
    · rw [if_neg hic]
      refine ⟨c0, c1, c2, c3, c4, c5, c6, ⟨?_, ?_, ?_, ?_, ?_, ?_, ?_⟩, h7⟩
      · rw [List.getElem?_set_ne (by omega), q0]
      · rw [List.getElem?_set_ne (by omega), q1]
      · rw [List.getElem?_set_ne (by omega), q2]
      · rw [List.getElem?_set_ne (by omega), q3]
      · rw [List.getElem?_set_ne (by omega), q4]
      · rw [List.getElem?_set_ne (by omega), q5]
      · rw [List.getElem?_set_ne (by omega), q6]
/-- a slot's kinds are set -/
theorem sCells_setTy {w : World} {l : List SlotM} {cs : List Value} (h : SCells w l cs) (c : Nat) (ty : Int) (hn : I64 ty) : SCells w (l.modify c (fun t => Sc.setTy t ty)) (cs.set (c * 7 + 1) (.int .i64 ty)) := by
  refine ⟨by rw [List.length_set, List.length_modify, h.1], fun u hu => ?_, fun i s hs => ?_⟩
  · rcases List.mem_or_eq_of_mem_set hu with hu | rfl
    · exact h.2.1 u hu
    · rfl
  · rw [List.getElem?_modify] at hs
    obtain ⟨t, ht, rfl⟩ := Option.map_eq_some_iff.1 hs
    obtain ⟨c0, c1, c2, c3, c4, c5, c6, ⟨q0, q1, q2, q3, q4, q5, q6⟩, h7⟩ := h.2.2 i t ht
    by_cases hic : c = i
    · subst hic
      have hlt : c * 7 + 1 < cs.length := (List.getElem?_eq_some_iff.1 q1).1
      refine ⟨c0, .int .i64 ty, c2, c3, c4, c5, c6, ⟨?_, ?_, ?_, ?_, ?_, ?_, ?_⟩, ?_⟩
      · rw [set_nth _ _ _ _ hlt, if_neg (by omega), q0]
      · rw [set_nth _ _ _ _ hlt, if_pos rfl]
      · rw [set_nth _ _ _ _ hlt, if_neg (by omega), q2]
      · rw [set_nth _ _ _ _ hlt, if_neg (by omega), q3]
      · rw [set_nth _ _ _ _ hlt, if_neg (by omega), q4]
      · rw [set_nth _ _ _ _ hlt, if_neg (by omega), q5]
      · rw [set_nth _ _ _ _ hlt, if_neg (by omega), q6]
      · obtain ⟨k1, k2, k3, k4, k5, k6⟩ := h7
        rw [if_pos rfl]
        exact ⟨k1, hn, k3, rfl, k5, k6⟩
    · rw [if_neg hic]
      refine ⟨c0, c1, c2, c3, c4, c5, c6, ⟨?_, ?_, ?_, ?_, ?_, ?_, ?_⟩, h7⟩
      · rw [List.getElem?_set_ne (by omega), q0]
      · rw [List.getElem?_set_ne (by omega), q1]
      · rw [List.getElem?_set_ne (by omega), q2]
      · rw [List.getElem?_set_ne (by omega), q3]
      · rw [List.getElem?_set_ne (by omega), q4]
      · rw [List.getElem?_set_ne (by omega), q5]
      · rw [List.getElem?_set_ne (by omega), q6]
end Go.Proofs.YtdogdbibhmhooaaGreat

/- The document's sound, Col of layer 10. -/
set_option linter.unusedVariables false
set_option linter.unusedSimpArgs false
set_option maxRecDepth 100000
namespace Go.Proofs.YtdogdbibhmhooaaGreat
open Go.RowKit Go.Shelf
theorem find_at {α : Type} (p : α → Bool) : ∀ (l : List α) (q : Nat) (x : α), l[q]? = some x → p x = true → (∀ j y, j < q → l[j]? = some y → p y = false) → l.find? p = some x := by
  intro l
  induction l with
  | nil => intro q x h; simp at h
  | cons y r ih =>
    intro q x h hp hn
    cases q with
    | zero =>
      simp only [List.getElem?_cons_zero, Option.some.injEq] at h
      subst h
      simp [List.find?_cons, hp]
    | succ q =>
      have h0 := hn 0 y (by omega) rfl
      rw [List.find?_cons, h0]
      exact ih q x (by simpa using h) hp (fun j z hj hz => hn (j + 1) z (by omega) (by simpa using hz))
end Go.Proofs.YtdogdbibhmhooaaGreat

/- The document's Copy of layer 10. (Made by gen_ref10copy.py.) -/
set_option linter.unusedVariables false
set_option linter.unusedSimpArgs false
set_option maxRecDepth 100000
namespace Go.Proofs.YtdogdbibhmhooaaGreat
open Go.RowKit Go.Shelf
theorem own_blk9 {w : World} {base : Nat} {e : TypeId} {size : Nat} {v : Value} {n : Nat} {xs : List Value} (h : w.ownsRow base e size v n xs) : ∀ b, v.ownBlock = some b → b < w.heap.size ∧ base ≤ b := by
  intro b hb
  rcases h.2 with ⟨rfl, _⟩ | ⟨g, cap, cur, rfl, h1, hg, _⟩
  · simp [Value.ownBlock] at hb
  · simp [Value.ownBlock] at hb
    subst hb
    exact ⟨(Array.getElem?_eq_some_iff.1 hg).1, h1⟩
theorem own_form9 {w : World} {base : Nat} {e : TypeId} {size : Nat} {v : Value} {n : Nat} {xs : List Value} (h : w.ownsRow base e size v n xs) : ∃ a c, v = .slice a n c := by
  rcases h.2 with ⟨rfl, rfl⟩ | ⟨g, cap, cur, rfl, _⟩
  · exact ⟨_, _, rfl⟩
  · exact ⟨_, _, rfl⟩
theorem own_kept9 {B : Nat} {W W' : World} {e : TypeId} {size n : Nat} {v : Value} {xs : List Value} {row : Option Nat} (h : W.ownsRow B e size v n xs) (k : W.grownBy W' row) (hne : ∀ b, row = some b → v.ownBlock = some b → False) : W'.ownsRow B e size v n xs := by
  refine ⟨h.1, ?_⟩
  rcases h.2 with hn | ⟨g, cap, cur, rfl, hg, hh, r⟩
  · exact .inl hn
  · exact .inr ⟨g, cap, cur, rfl, hg, (k.block g (Array.getElem?_eq_some_iff.1 hh).1 (fun e => hne g e.symm rfl)).trans hh, r⟩
theorem below_grown9 {B : Nat} {w W W' : World} {row : Option Nat} (h : Below B w W) (k : W.grownBy W' row) (hr : ∀ b, row = some b → B ≤ b) (hs : B ≤ W.heap.size) : Below B w W' := by
  obtain ⟨a1, a2, a3, a4, a5⟩ := h
  obtain ⟨b1, b2, b3, b4, b5⟩ := k
  exact ⟨b1.trans a1, b2.trans a2, b3.trans a3, Nat.le_trans a4 b4, fun j hj => (b5 j (by omega) (fun e => by have := hr j e.symm; omega)).trans (a5 j hj)⟩
theorem heap_self9 (W : World) (o : Obj) : (W.alloc o).heap[W.heap.size]? = some o := by
  show (W.heap.push o)[W.heap.size]? = _
  simp
theorem own_empty (W : World) (B : Nat) (T : TypeId) (size : Nat) (hB : B ≤ W.heap.size) : (W.alloc (.cells #[] T)).ownsRow B T size (.slice (some ⟨W.heap.size, 0, none⟩) 0 0) 0 [] :=
  ⟨by simp, .inr ⟨W.heap.size, 0, #[], rfl, hB, heap_self9 W _, Nat.le_refl _, by unfold maxLen; omega, by simp, by simp⟩⟩
theorem grown_set9 (W : World) (b i : Nat) (v : Value) : W.grownBy (W.setCell ⟨b, i, none⟩ v) (some b) :=
  ⟨rfl, rfl, rfl, (KeepsWalks.setCell W _ v).size, fun k _ hk => Below.heap_setCell _ _ _ k (fun e => hk (by rw [e]))⟩
theorem set_two9 {W : World} {b : Nat} {u0 u1 : Value} {t : TypeId} (h : W.heap[b]? = some (.cells #[u0, u1] t (0, 0))) (v0 v1 : Value) : ((W.setCell ⟨b, 0, none⟩ v0).setCell ⟨b, 1, none⟩ v1).heap[b]? = some (.cells #[v0, v1] t (0, 0)) := by
  have h1 : (W.setCell ⟨b, 0, none⟩ v0).heap[b]? = some (.cells #[v0, u1] t (0, 0)) := by
    obtain ⟨hlt, hk⟩ := Array.getElem?_eq_some_iff.1 h
    show (W.heap.modify b _)[b]? = _
    rw [Array.getElem?_eq_getElem (by rw [Array.size_modify]; exact hlt), Array.getElem_modify_self, hk]
    rfl
  obtain ⟨hlt, hk⟩ := Array.getElem?_eq_some_iff.1 h1
  show (Array.modify (W.setCell ⟨b, 0, none⟩ v0).heap b _)[b]? = _
  rw [Array.getElem?_eq_getElem (by rw [Array.size_modify]; exact hlt), Array.getElem_modify_self, hk]
  rfl
theorem info_slot : (Tryz.prog.info? 58).map (fun i => (i.zero, i.size, i.bytes)) = some (some (.agg #[.string ⟨#[]⟩, .int .i64 0, .bool false, .int .i64 0, .int .i64 0, .string ⟨#[]⟩, .slice none 0 0]), 7, 88) := by kernel_rfl
theorem two_all {W : World} {b : Nat} {u0 u1 : Value} {t : TypeId} (h : W.heap[b]? = some (.cells #[u0, u1] t (0, 0))) : W.cell? ⟨b, 0, none⟩ = some u0 ∧ W.cell? ⟨b, 1, none⟩ = some u1 ∧ W.frozen? ⟨b, 0, none⟩ = false ∧ W.frozen? ⟨b, 1, none⟩ = false := by
  refine ⟨?_, ?_, ?_, ?_⟩ <;> simp [World.cell?, World.frozen?, h]
theorem cells_below9 {w W : World} {size : Nat} {a : Option Addr} {n : Nat} {xs : List Value} (h : Cells w size a n xs) (hb : Below w.heap.size w W) : Cells W size a n xs :=
  ⟨h.1, h.2.imp id fun ⟨ad, e, hc⟩ => ⟨ad, e, fun j u hu => by
    have h0 := hc j u hu
    have hlt := World.block_lt_of_cell? w _ h0
    rw [← h0]
    simp only [World.cell?, hb.block _ hlt]⟩⟩
end Go.Proofs.YtdogdbibhmhooaaGreat
