/- The walk of SchemaFirst: a right template cut to its first steps is right, and has the same versions so far. -/
import Derived.Test.YtibjjclfonpibaaMh12Cast
import Derived.Test.YtibjjclfonpibaaMh13Cast
import Derived.Deep.DeepCutAuto
import Derived.BigQuiet
import Derived.Test.YtibjjclfonpibaaMh10Cast
set_option linter.unusedVariables false
set_option linter.unusedSimpArgs false
set_option maxRecDepth 100000
namespace Go.Proofs.Ytibjjclfonpibaa
open Go.RowKit Go.Shelf
/-- what a version is in memory: its slots, its columns -/
def VerAt (w : World) (v : Sc.Ver) (sa : Option Addr) (sc : Nat) (ca : Option Addr) (cc : Nat) : Prop := SlotRow w sa sc v.slots ∧ Row w .i64 ca v.cols.length cc (v.cols.map Int.ofNat)
/-- what At, Right and Last come to, of templates that are looked at -/
def AtC : Prop := ∀ (t : TemplM) (L : List Sc.Ver) (v : Nat) (x : Sc.Ver) (w : World) (X : Value), greatT t = false → Sc.vers t = some L → L[v]? = some x → IsTempl w t X → Calls Try.prog 34 #[X, .int .i64 ((v + 1 : Nat) : Int)] w fun e w' =>
  (∃ sa sc ca cc, e = .returned (.tuple #[.agg #[.slice sa x.slots.length sc, .slice ca x.cols.length cc], .bool true]) ∧ VerAt w' x sa sc ca cc) ∧ Below w.heap.size w w'
namespace schemaFirstWalk
end schemaFirstWalk
end Go.Proofs.Ytibjjclfonpibaa

/- Slots in a growing row of one's own (no walk): what each is stays where it was read. -/
set_option linter.unusedVariables false
set_option maxRecDepth 100000
namespace Go.Proofs.Ytibjjclfonpibaa
open Go.RowKit Go.Shelf
/-- seven cells each, of slots whose values lie in w -/
def SCells (w : World) (l : List SlotM) (cs : List Value) : Prop := cs.length = l.length * 7 ∧ (∀ u ∈ cs, u.oneCell' = true) ∧
  ∀ (i : Nat) (s : SlotM), l[i]? = some s → ∃ c0 c1 c2 c3 c4 c5 c6, (cs[i * 7]? = some c0 ∧ cs[i * 7 + 1]? = some c1 ∧ cs[i * 7 + 2]? = some c2 ∧ cs[i * 7 + 3]? = some c3 ∧ cs[i * 7 + 4]? = some c4 ∧ cs[i * 7 + 5]? = some c5 ∧ cs[i * 7 + 6]? = some c6) ∧ Slot7 w s c0 c1 c2 c3 c4 c5 c6
theorem sCells_nil (w : World) : SCells w [] [] := ⟨rfl, by simp, fun i s h => by simp at h⟩
theorem sCells_append {w : World} {l r : List SlotM} {cs ds : List Value} (h : SCells w l cs) (k : SCells w r ds) : SCells w (l ++ r) (cs ++ ds) := by
  have hlen := h.1
  refine ⟨by rw [List.length_append, List.length_append, h.1, k.1]; omega, fun u hu => (List.mem_append.1 hu).elim (h.2.1 u) (k.2.1 u), fun i s hs => ?_⟩
  rcases Nat.lt_or_ge i l.length with hlt | hge
  · rw [List.getElem?_append_left hlt] at hs
    obtain ⟨c0, c1, c2, c3, c4, c5, c6, hc, h7⟩ := h.2.2 i s hs
    refine ⟨c0, c1, c2, c3, c4, c5, c6, ?_, h7⟩
    rw [List.getElem?_append_left (by omega), List.getElem?_append_left (by omega), List.getElem?_append_left (by omega), List.getElem?_append_left (by omega), List.getElem?_append_left (by omega), List.getElem?_append_left (by omega), List.getElem?_append_left (by omega)]
    exact hc
  · rw [List.getElem?_append_right hge] at hs
    obtain ⟨c0, c1, c2, c3, c4, c5, c6, hc, h7⟩ := k.2.2 _ s hs
    refine ⟨c0, c1, c2, c3, c4, c5, c6, ?_, h7⟩
    rw [List.getElem?_append_right (by omega), List.getElem?_append_right (by omega), List.getElem?_append_right (by omega), List.getElem?_append_right (by omega), List.getElem?_append_right (by omega), List.getElem?_append_right (by omega), List.getElem?_append_right (by omega)]
    have e : ∀ j, i * 7 + j - cs.length = (i - l.length) * 7 + j := fun j => by rw [hlen]; omega
    rw [show i * 7 - cs.length = (i - l.length) * 7 by rw [hlen]; omega, e 1, e 2, e 3, e 4, e 5, e 6]
    exact hc
theorem slot7_one {w : World} {s : SlotM} {c0 c1 c2 c3 c4 c5 c6 : Value} (h : Slot7 w s c0 c1 c2 c3 c4 c5 c6) : ∀ u ∈ [c0, c1, c2, c3, c4, c5, c6], u.oneCell' = true := by
  obtain ⟨h1, h2, rfl, rfl, rfl, h3⟩ := h
  cases hd : s.df with
  | mk k n t l =>
    rw [hd] at h3
    unfold Is at h3
    obtain ⟨_, _, _, a, cap, e, _⟩ := h3
    injection e with e
    injection e with e
    injection e with e3 e
    injection e with e4 e
    injection e with e5 e
    injection e with e6 e
    subst e3 e4 e5 e6
    simp [Value.oneCell']
/-- one slot's -/
theorem sCells_one {w : World} {s : SlotM} {c0 c1 c2 c3 c4 c5 c6 : Value} (h : Slot7 w s c0 c1 c2 c3 c4 c5 c6) : SCells w [s] [c0, c1, c2, c3, c4, c5, c6] :=
  ⟨rfl, slot7_one h, fun i t ht => by
    have hi : i < 1 := (List.getElem?_eq_some_iff.1 ht).1
    obtain rfl : i = 0 := by omega
    simp only [List.getElem?_cons_zero, Option.some.injEq] at ht
    subst ht
    exact ⟨_, _, _, _, _, _, _, ⟨rfl, rfl, rfl, rfl, rfl, rfl, rfl⟩, h⟩⟩
/-- a row of slots as cells -/
theorem sCells_row {w : World} {a : Option Addr} {cap : Nat} {l : List SlotM} (h : SlotRow w a cap l) : ∃ cs, SCells w l cs ∧ Cells w 7 a l.length cs := by
  obtain ⟨h1, h2, h3⟩ := h
  rcases h3 with h3 | ⟨b, off, rfl, hc⟩
  · subst h3
    exact ⟨[], sCells_nil w, rfl, .inl rfl⟩
  · clear h1 h2
    suffices H : ∀ (k : Nat), k ≤ l.length → ∃ cs, SCells w (l.take k) cs ∧ ∀ j u, cs[j]? = some u → w.cell? ⟨b, off + j, none⟩ = some u by
      obtain ⟨cs, g1, g2⟩ := H l.length (Nat.le_refl _)
      rw [List.take_length] at g1
      exact ⟨cs, g1, g1.1, .inr ⟨_, rfl, fun j u hu => by rw [Addr.add_lit]; exact g2 j u hu⟩⟩
    intro k
    induction k with
    | zero => intro _; exact ⟨[], by simpa using sCells_nil w, fun j u h => by simp at h⟩
    | succ k ih =>
      intro hk
      obtain ⟨cs, g1, g2⟩ := ih (by omega)
      have hs : l[k]? = some l[k] := List.getElem?_eq_getElem (by omega)
      obtain ⟨c0, c1, c2, c3, c4, c5, c6, ⟨q0, q1, q2, q3, q4, q5, q6⟩, h7⟩ := hc k _ hs
      refine ⟨cs ++ [c0, c1, c2, c3, c4, c5, c6], ?_, fun j u hu => ?_⟩
      · rw [List.take_add_one, hs]
        exact sCells_append g1 (sCells_one h7)
      · have hlen : cs.length = k * 7 := by rw [g1.1, List.length_take, Nat.min_eq_left (by omega)]
        rcases Nat.lt_or_ge j cs.length with hlt | hge
        · rw [List.getElem?_append_left hlt] at hu
          exact g2 j u hu
        · rw [List.getElem?_append_right hge] at hu
          obtain ⟨m, rfl⟩ : ∃ m, j = k * 7 + m := ⟨j - k * 7, by omega⟩
          rw [hlen, show k * 7 + m - k * 7 = m by omega] at hu
          have hm : m < 7 := (List.getElem?_eq_some_iff.1 hu).1
          rw [show off + (k * 7 + m) = off + k * 7 + m by omega]
          match m, hm with
          | 0, _ => cases hu; exact q0
          | 1, _ => cases hu; exact q1
          | 2, _ => cases hu; exact q2
          | 3, _ => cases hu; exact q3
          | 4, _ => cases hu; exact q4
          | 5, _ => cases hu; exact q5
          | 6, _ => cases hu; exact q6
/-- a row of one's own is a row of slots -/
theorem slotRow_own {w W : World} {B : Nat} {v : Value} {l : List SlotM} {cs : List Value} (h : W.ownsRow B 47 7 v l.length cs) (hs : SCells w l cs) (hb : Below w.heap.size w W) : ∃ a cap, v = .slice a l.length cap ∧ SlotRow W a cap l := by
  obtain ⟨h1, h2⟩ := h
  rcases h2 with ⟨rfl, hn⟩ | ⟨g, cap, cur, rfl, hg, hh, hn, hm, hsz, ht⟩
  · exact ⟨none, 0, by rw [hn], by omega, by unfold maxLen; omega, .inl (List.length_eq_zero_iff.1 hn)⟩
  · refine ⟨_, cap, rfl, hn, hm, .inr ⟨g, 0, rfl, fun i s hi => ?_⟩⟩
    obtain ⟨c0, c1, c2, c3, c4, c5, c6, ⟨q0, q1, q2, q3, q4, q5, q6⟩, h7⟩ := hs.2.2 i s hi
    have hil : i < l.length := (List.getElem?_eq_some_iff.1 hi).1
    have cell : ∀ j u, cs[j]? = some u → W.cell? ⟨g, 0 + j, none⟩ = some u := fun j u hu => by
      rw [← ht, List.getElem?_take] at hu
      split at hu
      · rw [Array.getElem?_toList] at hu
        simp [World.cell?, hh, hu]
      · cases hu
    refine ⟨c0, c1, c2, c3, c4, c5, c6, ⟨?_, ?_, ?_, ?_, ?_, ?_, ?_⟩, slot7_below hb h7⟩
    · exact cell _ _ q0
    · exact cell _ _ q1
    · exact cell _ _ q2
    · exact cell _ _ q3
    · exact cell _ _ q4
    · exact cell _ _ q5
    · exact cell _ _ q6
theorem set_nth {α : Type} (cs : List α) (i j : Nat) (c : α) (hi : i < cs.length) : (cs.set i c)[j]? = if j = i then some c else cs[j]? := by
  rw [List.getElem?_set]
  by_cases h : i = j
  · subst h; simp [hi]
  · rw [if_neg h, if_neg (fun e => h e.symm)]
/-- a slot's name is set -/
theorem sCells_setNm {w : World} {l : List SlotM} {cs : List Value} (h : SCells w l cs) (c : Nat) (nm : ByteArray) (hn : nm.size ≤ maxLen) : SCells w (l.modify c (fun t => Sc.setNm t nm)) (cs.set (c * 7) (.string nm)) := by
  refine ⟨by rw [List.length_set, List.length_modify, h.1], fun u hu => ?_, fun i s hs => ?_⟩
  · rcases List.mem_or_eq_of_mem_set hu with hu | rfl
    · exact h.2.1 u hu
    · rfl
  · rw [List.getElem?_modify] at hs
    obtain ⟨t, ht, rfl⟩ := Option.map_eq_some_iff.1 hs
    obtain ⟨c0, c1, c2, c3, c4, c5, c6, ⟨q0, q1, q2, q3, q4, q5, q6⟩, h7⟩ := h.2.2 i t ht
    by_cases hic : c = i
    · subst hic
      have hlt : c * 7 < cs.length := (List.getElem?_eq_some_iff.1 q0).1
      refine ⟨.string nm, c1, c2, c3, c4, c5, c6, ⟨?_, ?_, ?_, ?_, ?_, ?_, ?_⟩, ?_⟩
      · rw [set_nth _ _ _ _ hlt, if_pos rfl]
      · rw [set_nth _ _ _ _ hlt, if_neg (by omega), q1]
      · rw [set_nth _ _ _ _ hlt, if_neg (by omega), q2]
      · rw [set_nth _ _ _ _ hlt, if_neg (by omega), q3]
      · rw [set_nth _ _ _ _ hlt, if_neg (by omega), q4]
      · rw [set_nth _ _ _ _ hlt, if_neg (by omega), q5]
      · rw [set_nth _ _ _ _ hlt, if_neg (by omega), q6]
      · obtain ⟨k1, k2, k3, k4, k5, k6⟩ := h7
        rw [if_pos rfl]
        exact ⟨hn, k2, rfl, k4, k5, k6⟩
    · rw [if_neg hic]
      refine ⟨c0, c1, c2, c3, c4, c5, c6, ⟨?_, ?_, ?_, ?_, ?_, ?_, ?_⟩, h7⟩
      · rw [List.getElem?_set_ne (by omega), q0]
      · rw [List.getElem?_set_ne (by omega), q1]
      · rw [List.getElem?_set_ne (by omega), q2]
      · rw [List.getElem?_set_ne (by omega), q3]
      · rw [List.getElem?_set_ne (by omega), q4]
      · rw [List.getElem?_set_ne (by omega), q5]
      · rw [List.getElem?_set_ne (by omega), q6]
/-- a slot's kinds are set -/
theorem sCells_setTy {w : World} {l : List SlotM} {cs : List Value} (h : SCells w l cs) (c : Nat) (ty : Int) (hn : I64 ty) : SCells w (l.modify c (fun t => Sc.setTy t ty)) (cs.set (c * 7 + 1) (.int .i64 ty)) := by
  refine ⟨by rw [List.length_set, List.length_modify, h.1], fun u hu => ?_, fun i s hs => ?_⟩
  · rcases List.mem_or_eq_of_mem_set hu with hu | rfl
    · exact h.2.1 u hu
    · rfl
  · rw [List.getElem?_modify] at hs
    obtain ⟨t, ht, rfl⟩ := Option.map_eq_some_iff.1 hs
    obtain ⟨c0, c1, c2, c3, c4, c5, c6, ⟨q0, q1, q2, q3, q4, q5, q6⟩, h7⟩ := h.2.2 i t ht
    by_cases hic : c = i
    · subst hic
      have hlt : c * 7 + 1 < cs.length := (List.getElem?_eq_some_iff.1 q1).1
      refine ⟨c0, .int .i64 ty, c2, c3, c4, c5, c6, ⟨?_, ?_, ?_, ?_, ?_, ?_, ?_⟩, ?_⟩
      · rw [set_nth _ _ _ _ hlt, if_neg (by omega), q0]
      · rw [set_nth _ _ _ _ hlt, if_pos rfl]
      · rw [set_nth _ _ _ _ hlt, if_neg (by omega), q2]
      · rw [set_nth _ _ _ _ hlt, if_neg (by omega), q3]
      · rw [set_nth _ _ _ _ hlt, if_neg (by omega), q4]
      · rw [set_nth _ _ _ _ hlt, if_neg (by omega), q5]
      · rw [set_nth _ _ _ _ hlt, if_neg (by omega), q6]
      · obtain ⟨k1, k2, k3, k4, k5, k6⟩ := h7
        rw [if_pos rfl]
        exact ⟨k1, hn, k3, rfl, k5, k6⟩
    · rw [if_neg hic]
      refine ⟨c0, c1, c2, c3, c4, c5, c6, ⟨?_, ?_, ?_, ?_, ?_, ?_, ?_⟩, h7⟩
      · rw [List.getElem?_set_ne (by omega), q0]
      · rw [List.getElem?_set_ne (by omega), q1]
      · rw [List.getElem?_set_ne (by omega), q2]
      · rw [List.getElem?_set_ne (by omega), q3]
      · rw [List.getElem?_set_ne (by omega), q4]
      · rw [List.getElem?_set_ne (by omega), q5]
      · rw [List.getElem?_set_ne (by omega), q6]
end Go.Proofs.Ytibjjclfonpibaa

/- Bits of numbers from 0 on (no walk). -/
set_option linter.unusedVariables false
namespace Go.Proofs.Ytibjjclfonpibaa
open Go.RowKit Go.Shelf
namespace Sc
theorem ofI (a : Nat) (ha : a < 9223372036854775808) : (BitVec.ofInt 64 (a : Int)).toNat = a := by
  rw [BitVec.ofInt_natCast, BitVec.toNat_ofNat]; exact Nat.mod_eq_of_lt (by omega)
theorem wrapI (n : Nat) (h : n < 9223372036854775808) : IntKind.i64.wrap (n : Int) = (n : Int) := by
  simp [IntKind.wrap, IntKind.bits, IntKind.signed]
  split <;> omega
theorem andI (a b : Nat) (ha : a < 9223372036854775808) (hb : b < 9223372036854775808) : bits .and .i64 (a : Int) (b : Int) = ((a &&& b : Nat) : Int) := by
  have hx : a &&& b < 2 ^ 63 := Nat.and_lt_two_pow _ (by omega)
  show IntKind.i64.wrap ((BitVec.ofInt 64 (a : Int) &&& BitVec.ofInt 64 (b : Int)).toNat : Int) = _
  rw [BitVec.toNat_and, ofI a ha, ofI b hb]
  exact wrapI _ (by omega)
theorem orI' (a b : Nat) (ha : a < 9223372036854775808) (hb : b < 9223372036854775808) : bits .or .i64 (a : Int) (b : Int) = ((a ||| b : Nat) : Int) := by
  have hx : a ||| b < 2 ^ 63 := Nat.or_lt_two_pow (by omega) (by omega)
  show IntKind.i64.wrap ((BitVec.ofInt 64 (a : Int) ||| BitVec.ofInt 64 (b : Int)).toNat : Int) = _
  rw [BitVec.toNat_or, ofI a ha, ofI b hb]
  exact wrapI _ (by omega)
theorem and_pow (t k : Nat) : (t &&& 2 ^ k = 0) ↔ ¬ t / 2 ^ k % 2 = 1 := by
  have e : t.testBit k = decide (t / 2 ^ k % 2 = 1) := by
    rw [Nat.testBit_eq_decide_div_mod_eq]
  constructor
  · intro h hk
    have h2 : (t &&& 2 ^ k).testBit k = false := by rw [h]; exact Nat.zero_testBit k
    rw [Nat.testBit_and, e, Nat.testBit_two_pow_self] at h2
    simp [hk] at h2
  · intro h
    refine Nat.eq_of_testBit_eq fun i => ?_
    rw [Nat.testBit_and, Nat.zero_testBit]
    by_cases hi : k = i
    · subst hi
      rw [e]
      simp [h]
    · rw [Nat.testBit_two_pow_of_ne hi, Bool.and_false]
theorem and_has (t k : Nat) : decide ((t &&& 2 ^ k) = 0) = !has t k := by
  unfold has
  by_cases h : t / 2 ^ k % 2 = 1
  · rw [decide_eq_true h, decide_eq_false (fun e => ((and_pow t k).1 e) h)]; rfl
  · rw [decide_eq_false h, decide_eq_true ((and_pow t k).2 h)]; rfl
theorem small_or : ∀ a b : Nat, a < 64 → b < 64 → a ||| b < 64 := fun a b ha hb => Nat.or_lt_two_pow (n := 6) ha hb
/-- what one takes that the other does not -/
theorem bitsNot (a b : Nat) (ha : a < 64) (hb : b < 64) : bits .andNot .i64 (a : Int) (b : Int) = ((a &&& (63 - b) : Nat) : Int) := by
  have H : ∀ (a b : Fin 64), bits .andNot .i64 ((a.val : Nat) : Int) ((b.val : Nat) : Int) = ((a.val &&& (63 - b.val) : Nat) : Int) := by decide +kernel
  exact H ⟨a, ha⟩ ⟨b, hb⟩
theorem not_or (a b : Nat) (ha : a < 64) (hb : b < 64) : (a &&& (63 - b) = 0) ↔ b ||| a = b := by
  have H : ∀ (a b : Fin 64), (a.val &&& (63 - b.val) = 0) ↔ b.val ||| a.val = b.val := by decide +kernel
  exact H ⟨a, ha⟩ ⟨b, hb⟩
end Sc
end Go.Proofs.Ytibjjclfonpibaa
