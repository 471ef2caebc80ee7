/- Package utf's Put and Text. -/
import Derived.Test.YtcicjpdjbfgbhaaDoorMh2Cell
import Derived.Laws.BytesArg
import Derived.Test.YtcicjpdjbfgbhaaDoorMh35Cell
import Derived.Test.YtcicjpdjbfgbhaaDoorMh19Cell
import Derived.Test.YtcicjpdjbfgbhaaDoorMh9Cell
import Derived.Test.YtcicjpdjbfgbhaaDoorMh5Cell
import Derived.Test.YtcicjpdjbfgbhaaDoorMh0Cell
import Derived.Deep.QuietTactic
import Derived.BigQuiet
import Derived.Deep.RegionWith
import Derived.Lib.ConvBytes
import Derived.Deep.RegionHeld3
import Derived.Deep.DeepCutAuto
import Derived.Test.YtcicjpdjbfgbhaaDoorMh24Cell
import Derived.Test.YtcicjpdjbfgbhaaDoorMh22Cell
namespace Go.Proofs.YtcicjpdjbfgbhaaDoor
open Go.RowKit Go.Shelf
def U.okAll (l : List Int) : Bool := l.all fun c => U.size c != 0
/-- the text of codes; whether all are codes -/
def U.text (l : List Int) : ByteArray × Bool := if U.okAll l then (strOfNums (l.flatMap U.put), true) else (ByteArray.empty, false)
end Go.Proofs.YtcicjpdjbfgbhaaDoor

/- Layer 14, the document: get, Scan, Parse. -/
set_option linter.unusedVariables false
set_option linter.unusedSimpArgs false
namespace Go.Proofs.YtcicjpdjbfgbhaaDoor
open Go.RowKit Go.Shelf
namespace Vt
theorem txt_err {f : Nat} : ∀ {l : List Int} {p : Nat} {acc : List Int} {a : Nat} {er : Int}, l.length + 1 ≤ p + f → p ≤ l.length → txt f l p acc = .inl (a, er) → er ≠ 0 := by
  induction f with
  | zero => intro l p acc a er hf hp h; omega
  | succ f ih =>
    intro l p acc a er hf hp h
    simp only [txt] at h
    split at h
    · cases h; decide
    · split at h
      · cases h
      · split at h
        · split at h
          · exact ih (by omega) (by omega) h
          · cases h; decide
        · exact ih (by omega) (by omega) h
theorem items_err {rv : Nat → Out (PV × Nat)} {l : List Int} (hrv : ∀ p a er, rv p = .inl (a, er) → er ≠ 0) (hpl : ∀ p v q, rv p = .inr (v, q) → p + szV v ≤ q ∧ q ≤ l.length) {f : Nat} : ∀ {p : Nat} {acc : List PV} {a : Nat} {er : Int}, p ≤ l.length → l.length + 1 ≤ p + f → items rv l f p acc = .inl (a, er) → er ≠ 0 := by
  induction f with
  | zero => intro p acc a er hp hf h; omega
  | succ f ih =>
    intro p acc a er hp hf h
    simp only [items] at h
    split at h
    · rename_i e he
      cases h
      exact hrv _ _ _ he
    · rename_i v q hv
      have h1 := hpl _ _ _ hv
      have h2 := szV_pos v
      split at h
      · cases h; decide
      · split at h
        · exact ih (by omega) (by omega) h
        · split at h
          · cases h
          · cases h; decide
theorem flat_err {l : List Int} {p : Nat} {a : Nat} {er : Int} (hp : p < l.length) (h : flat l p = .inl (a, er)) : er ≠ 0 := by
  unfold flat txV wdV at h
  split at h
  · split at h
    · rename_i e he
      cases h
      exact txt_err (by omega) (by omega) he
    · cases h
  · split at h
    · split at h
      · cases h
      · cases h; decide
    · split at h
      · split at h
        · cases h
        · rename_i he; cases h; exact he
      · split at h
        · split at h
          · cases h
          · cases h; decide
        · cases h; decide
theorem one_err {sub : Nat → Out (List PV × Nat)} {l : List Int} (hs : ∀ p a er, p < l.length → sub p = .inl (a, er) → er ≠ 0) {p : Nat} {a : Nat} {er : Int} (h : one sub l p = .inl (a, er)) : er ≠ 0 := by
  unfold one lsV at h
  split at h
  · cases h; decide
  · split at h
    · split at h
      · rename_i e he
        cases h
        exact hs _ _ _ (by omega) he
      · cases h
    · exact flat_err (by omega) h
theorem val_err (l : List Int) : ∀ d p a er, val d l p = .inl (a, er) → er ≠ 0 := by
  intro d
  induction d with
  | zero => intro p a er h; exact one_err (fun p a er _ h => by cases h; decide) h
  | succ d ih =>
    intro p a er h
    refine one_err (fun p a er hp h => ?_) h
    unfold lst at h
    split at h
    · cases h; decide
    · split at h
      · cases h
      · exact items_err (fun p a er h => ih p a er h) (fun p v q h => val_place l d p v q h) (by omega) (by omega) h
end Vt
end Go.Proofs.YtcicjpdjbfgbhaaDoor

/- Layer 14: what Parse and Scan say of a right value's text, and of what stands behind it (no walk). -/
set_option linter.unusedVariables false
set_option linter.unusedSimpArgs false
namespace Go.Proofs.YtcicjpdjbfgbhaaDoor
open Go.RowKit Go.Shelf
theorem text_bytes14 : ∀ v : PV, numsV v → ∀ x ∈ textV v, 0 ≤ x ∧ x ≤ 255 := by
  intro v
  induction v using pv_ind with
  | h k n s l ih =>
    intro hn x hx
    unfold numsV at hn
    have hs : ∀ y ∈ strB s, 0 ≤ y ∧ y ≤ 255 := fun y hy => by
      obtain ⟨i, hi⟩ := List.getElem?_of_mem hy
      have := strB_bytes s i
      rwa [hi] at this
    have hq : ∀ l : List Int, (∀ y ∈ l, 0 ≤ y ∧ y ≤ 255) → ∀ y ∈ quoteB l, 0 ≤ y ∧ y ≤ 255 := by
      intro l
      induction l with
      | nil => intro _ y hy; simp [quoteB] at hy
      | cons z r ih2 =>
        intro h y hy
        have hz := h z (by simp)
        simp only [quoteB, List.mem_append] at hy
        rcases hy with hy | hy
        · split at hy <;> simp at hy <;> omega
        · exact ih2 (fun u hu => h u (by simp [hu])) y hy
    have hM : ∀ l : List PV, (∀ x ∈ l, numsV x → ∀ y ∈ textV x, 0 ≤ y ∧ y ≤ 255) → numsV.numsL l → ∀ y ∈ textM l, 0 ≤ y ∧ y ≤ 255 := by
      intro l
      induction l with
      | nil => intro _ _ y hy; simp [textM] at hy
      | cons z r ih2 =>
        intro h m y hy
        unfold numsV.numsL at m
        simp only [textM, List.mem_cons, List.mem_append] at hy
        rcases hy with rfl | hy | hy
        · omega
        · exact h z (by simp) m.1 y hy
        · exact ih2 (fun u hu => h u (by simp [hu])) m.2 y hy
    simp only [textV] at hx
    split at hx
    · simp at hx; omega
    split at hx
    · split at hx <;> simp at hx <;> omega
    split at hx
    · exact prt_bytes n x hx
    split at hx
    · simp only [List.mem_cons] at hx
      rcases hx with rfl | hx
      · omega
      · exact hs x hx
    split at hx
    · simp only [List.mem_cons, List.mem_append, List.not_mem_nil, or_false] at hx
      rcases hx with (rfl | hx) | rfl
      · omega
      · exact hq _ hs x hx
      · omega
    split at hx
    · simp only [List.mem_cons, List.mem_append, List.not_mem_nil, or_false] at hx
      rcases hx with (rfl | hx) | rfl
      · omega
      · cases l with
        | nil => simp [textL] at hx
        | cons z r =>
          have m := hn.2
          unfold numsV.numsL at m
          simp only [textL, List.mem_append] at hx
          rcases hx with hx | hx
          · exact ih z (by simp) m.1 x hx
          · exact hM r (fun u hu => ih u (by simp [hu])) m.2 x hx
      · omega
    · simp at hx
/-- a right value's text is short -/
theorem text_short14 : ∀ v : PV, okV v = true → numsV v → (textV v).length + 1 ≤ 410 * szV v := by
  intro v
  induction v using pv_ind with
  | h k n s l ih =>
    intro ho hn
    unfold numsV at hn
    simp only [szV]
    rcases okV_kind ho with rfl | rfl | rfl | rfl | rfl | rfl
    · rw [text0]; simp; omega
    · rw [text1]; split <;> simp <;> omega
    · rw [text2]; have := M.prt_len n hn.1.1 hn.1.2; omega
    · rw [text3]; rw [okV3] at ho; simp only [Bool.and_eq_true] at ho
      have h2 := ho.1.2
      simp [nameB] at h2
      simp; omega
    · rw [text4]; rw [okV4] at ho; simp only [Bool.and_eq_true, decide_eq_true_eq] at ho
      have := quote_len (strB s)
      rw [strB_len] at this
      simp; omega
    · rw [text5]; rw [okV5] at ho; simp only [Bool.and_eq_true] at ho
      have ho2 := ho.2
      have hn2 := hn.2
      have hM : ∀ l : List PV, (∀ x ∈ l, okV x = true → numsV x → (textV x).length + 1 ≤ 410 * szV x) → okL l = true → numsV.numsL l → (textM l).length ≤ 410 * szL l := by
        intro l
        induction l with
        | nil => intro _ _ _; simp [textM]
        | cons x r ih2 =>
          intro ih o m
          simp only [okL, Bool.and_eq_true] at o
          unfold numsV.numsL at m
          have h1 := ih x (by simp) o.1 m.1
          have h2 := ih2 (fun z hz => ih z (by simp [hz])) o.2 m.2
          simp only [textM, szL, List.length_cons, List.length_append]
          omega
      cases l with
      | nil => simp [textL]; omega
      | cons x r =>
        simp only [okL, Bool.and_eq_true] at ho2
        unfold numsV.numsL at hn2
        have h1 := ih x (by simp) ho2.1 hn2.1
        have h2 := hM r (fun z hz => ih z (by simp [hz])) ho2.2 hn2.2
        simp only [textL, szL, List.length_cons, List.length_append, List.length_nil]
        omega
end Go.Proofs.YtcicjpdjbfgbhaaDoor
namespace Go.Proofs.YtcicjpdjbfgbhaaDoor.Vt
open Go.RowKit Go.Shelf
theorem right_ok {v : PV} (h : rightV v = true) : deepV v ≤ 4 ∧ szV v ≤ 100 ∧ okV v = true := by simpa [rightV, and_assoc] using h
theorem scan_text {v : PV} {r : List Int} (hr : rightV v = true) (hn : numsV v) (he : EndsK v r) : scan (textV v ++ r) 0 = (v, ((textV v).length : Int), 0) := by
  obtain ⟨h1, _, h2⟩ := right_ok hr
  have h := (val_fwd v h2 hn 4 (textV v ++ r) 0 r rfl he).1 h1
  unfold scan
  rw [if_pos (by simp; omega), show (0 : Int).toNat = 0 from rfl, h, Nat.zero_add]
  simp only [hr, if_true]
theorem ends_own (v : PV) : EndsK v [] := by
  cases v with | mk k n s l => exact .inr (.inr ends_nil)
theorem parse_text {v : PV} (hr : rightV v = true) (hn : numsV v) : parse (textV v) = (v, ((textV v).length : Int), 0) := by
  have h := scan_text hr hn (ends_own v)
  rw [List.append_nil] at h
  unfold parse
  rw [h, if_neg (by simp)]
theorem parse_back {s : ByteArray} {v : PV} {x : Int} (h : parse (strB s) = (v, x, 0)) : rightV v = true ∧ strOfNums (textV v) = s := by
  have hb : ∀ x ∈ strB s, 0 ≤ x ∧ x ≤ 255 := fun y hy => by
    obtain ⟨i, hi⟩ := List.getElem?_of_mem hy
    have := strB_bytes s i
    rwa [hi] at this
  unfold parse at h
  split at h
  · simp at h
  · rename_i hc
    rw [h] at hc
    unfold scan at h
    split at h
    · split at h
      · rename_i q e hv
        simp only [Prod.mk.injEq] at h
        exact absurd h.2.2 (val_err _ _ _ _ _ hv)
      · rename_i v' q hv
        split at h
        · rename_i hr
          simp only [Prod.mk.injEq] at h
          obtain ⟨rfl, rfl, _⟩ := h
          refine ⟨hr, ?_⟩
          have hp := val_back _ hb 4 0 _ _ hv
          have hq : (strB s).length ≤ q := by simp at hc; omega
          have : part (strB s) 0 q = strB s := by unfold part; rw [List.take_of_length_le hq]; rfl
          rw [← hp, this, strOfNums_strB]
        · simp at h
    · simp at h
end Go.Proofs.YtcicjpdjbfgbhaaDoor.Vt

/- Layer 15: a value's field: the mathematics (no walk). -/
set_option linter.unusedVariables false
set_option linter.unusedSimpArgs false
namespace Go.Proofs.YtcicjpdjbfgbhaaDoor
open Go.RowKit Go.Shelf
/-- the one kind whose values stand in a slot's fields as they are -/
def bareT (ty : Int) : Bool := decide (ty = 8) || decide (ty = 16)
/-- a value that fits a slot of one bare kind -/
theorem fits_bare {ty : Int} {v : PV} (h : Sc.fits ty v = true) (hb : bareT ty = true) : ∃ s, v = .mk (if ty = 16 then 4 else 3) 0 s [] ∧ s.size ≤ 200 := by
  simp only [Sc.fits, Bool.and_eq_true] at h
  obtain ⟨hr, hh⟩ := h
  obtain ⟨_, _, ho⟩ := Vt.right_ok hr
  cases v with
  | mk k n s l =>
  have hsz : ∀ s : ByteArray, nameB (strB s) = true → s.size ≤ 200 := fun s h => by
    simp [nameB] at h; have := h.1.1.2; rw [strB_len] at this; omega
  simp only [bareT, Bool.or_eq_true, decide_eq_true_eq] at hb
  rcases hb with rfl | rfl
  · have hk9 : Sc.has (Int.toNat 8) k.toNat = true := hh
    clear hh hr
    rcases okV_kind ho with rfl | rfl | rfl | rfl | rfl | rfl <;> first | (exact absurd hk9 (by decide)) | skip
    rw [okV3] at ho; simp only [Bool.and_eq_true, beq_iff_eq] at ho
    obtain ⟨⟨rfl, h2⟩, h3⟩ := ho
    obtain rfl := List.isEmpty_iff.1 h3
    exact ⟨s, rfl, hsz s h2⟩
  · have hk9 : Sc.has (Int.toNat 16) k.toNat = true := hh
    clear hh hr
    rcases okV_kind ho with rfl | rfl | rfl | rfl | rfl | rfl <;> first | (exact absurd hk9 (by decide)) | skip
    rw [okV4] at ho; simp only [Bool.and_eq_true, beq_iff_eq, decide_eq_true_eq] at ho
    obtain ⟨⟨⟨rfl, h2⟩, _⟩, h3⟩ := ho
    obtain rfl := List.isEmpty_iff.1 h3
    exact ⟨s, rfl, h2⟩
/-- a value's field -/
def fieldT (ty : Int) (v : PV) : ByteArray := if Sc.fits ty v = true then (if bareT ty = true then (match v with | .mk _ _ s _ => s) else strOfNums (textV v)) else ⟨#[]⟩
/-- the value of a slot's bare field -/
def bareV (ty : Int) (s : ByteArray) : PV := .mk (if ty = 16 then 4 else 3) 0 s []
/-- what a field says: a value, an error's number -/
def sayT (ty : Int) (s : ByteArray) : PV × Int :=
  if bareT ty = true then (if ty = 16 ∧ rightV (bareV ty s) = false then (.mk 0 0 ⟨#[]⟩ [], 4) else (bareV ty s, 0))
  else ((Vt.parse (strB s)).1, (Vt.parse (strB s)).2.2)
/-- the value of a field; an error's number -/
def ofField (ty : Int) (s : ByteArray) : PV × Int := if (sayT ty s).2 ≠ 0 then (.mk 0 0 ⟨#[]⟩ [], (sayT ty s).2) else if Sc.fits ty (sayT ty s).1 = true then ((sayT ty s).1, 0) else (.mk 0 0 ⟨#[]⟩ [], 8)
theorem of_field {ty : Int} {v : PV} (h : Sc.fits ty v = true) (hn : numsV v) : ofField ty (fieldT ty v) = (v, 0) := by
  have hr : rightV v = true := by simp only [Sc.fits, Bool.and_eq_true] at h; exact h.1
  have hs : sayT ty (fieldT ty v) = (v, 0) := by
    unfold sayT fieldT
    rw [if_pos h]
    cases hb : bareT ty with
    | true =>
      obtain ⟨s, rfl, _⟩ := fits_bare h hb
      simp only [if_true]
      have e : bareV ty s = .mk (if ty = 16 then 4 else 3) 0 s [] := rfl
      rw [e, hr]
      simp
    | false =>
      simp only [Bool.false_eq_true, if_false]
      rw [strB_strOfNums _ (text_bytes14 _ hn), Vt.parse_text hr hn]
  unfold ofField
  rw [hs]
  simp [h]
end Go.Proofs.YtcicjpdjbfgbhaaDoor

/- Bits of numbers from 0 on (no walk). -/
set_option linter.unusedVariables false
namespace Go.Proofs.YtcicjpdjbfgbhaaDoor
open Go.RowKit Go.Shelf
namespace Sc
theorem ofI (a : Nat) (ha : a < 9223372036854775808) : (BitVec.ofInt 64 (a : Int)).toNat = a := by
  rw [BitVec.ofInt_natCast, BitVec.toNat_ofNat]; exact Nat.mod_eq_of_lt (by omega)
theorem wrapI (n : Nat) (h : n < 9223372036854775808) : IntKind.i64.wrap (n : Int) = (n : Int) := by
  simp [IntKind.wrap, IntKind.bits, IntKind.signed]
  split <;> omega
theorem andI (a b : Nat) (ha : a < 9223372036854775808) (hb : b < 9223372036854775808) : bits .and .i64 (a : Int) (b : Int) = ((a &&& b : Nat) : Int) := by
  have hx : a &&& b < 2 ^ 63 := Nat.and_lt_two_pow _ (by omega)
  show IntKind.i64.wrap ((BitVec.ofInt 64 (a : Int) &&& BitVec.ofInt 64 (b : Int)).toNat : Int) = _
  rw [BitVec.toNat_and, ofI a ha, ofI b hb]
  exact wrapI _ (by omega)
theorem and_pow (t k : Nat) : (t &&& 2 ^ k = 0) ↔ ¬ t / 2 ^ k % 2 = 1 := by
  have e : t.testBit k = decide (t / 2 ^ k % 2 = 1) := by
    rw [Nat.testBit_eq_decide_div_mod_eq]
  constructor
  · intro h hk
    have h2 : (t &&& 2 ^ k).testBit k = false := by rw [h]; exact Nat.zero_testBit k
    rw [Nat.testBit_and, e, Nat.testBit_two_pow_self] at h2
    simp [hk] at h2
  · intro h
    refine Nat.eq_of_testBit_eq fun i => ?_
    rw [Nat.testBit_and, Nat.zero_testBit]
    by_cases hi : k = i
    · subst hi
      rw [e]
      simp [h]
    · rw [Nat.testBit_two_pow_of_ne hi, Bool.and_false]
theorem and_has (t k : Nat) : decide ((t &&& 2 ^ k) = 0) = !has t k := by
  unfold has
  by_cases h : t / 2 ^ k % 2 = 1
  · rw [decide_eq_true h, decide_eq_false (fun e => ((and_pow t k).1 e) h)]; rfl
  · rw [decide_eq_false h, decide_eq_true ((and_pow t k).2 h)]; rfl
end Sc
end Go.Proofs.YtcicjpdjbfgbhaaDoor

/- The document's Has, Fits of layer 10. -/
set_option linter.unusedVariables false
set_option maxRecDepth 100000
namespace Go.Proofs.YtcicjpdjbfgbhaaDoor
open Go.RowKit Go.Shelf
theorem slot7_form {w : World} {s : SlotM} {x : Value} (h : IsSlot w s x) : ∃ k n t a len cap, x = .agg #[.string s.nm, .int .i64 s.ty, .bool s.rq, .int .i64 k, .int .i64 n, .string t, .slice a len cap] ∧ I64 s.ty ∧ s.nm.size ≤ maxLen ∧ Is w s.df (.agg #[.int .i64 k, .int .i64 n, .string t, .slice a len cap]) := by
  obtain ⟨c0, c1, c2, c3, c4, c5, c6, rfl, h1, h2, rfl, rfl, rfl, h3⟩ := h
  have h4 := h3
  cases hd : s.df with
  | mk k n t l =>
    rw [hd] at h4
    unfold Is at h4
    obtain ⟨_, _, _, a, cap, e, _⟩ := h4
    simp only [Value.agg.injEq, Array.mk.injEq, List.cons.injEq, and_true] at e
    obtain ⟨rfl, rfl, rfl, rfl⟩ := e
    rw [hd] at h3
    exact ⟨_, _, _, _, _, _, rfl, h2, h1, h3⟩
theorem right_kind {k n : Int} {s : ByteArray} {l : List PV} (h : rightV (.mk k n s l) = true) : 0 ≤ k ∧ k ≤ 5 := by
  unfold rightV at h
  simp only [Bool.and_eq_true] at h
  have h2 := h.2
  refine Decidable.byContradiction fun hn => ?_
  have e : okV (.mk k n s l) = false := by
    unfold okV
    rw [if_neg (by omega), if_neg (by omega), if_neg (by omega), if_neg (by omega), if_neg (by omega), if_neg (by omega)]
  rw [e] at h2
  cases h2
end Go.Proofs.YtcicjpdjbfgbhaaDoor
