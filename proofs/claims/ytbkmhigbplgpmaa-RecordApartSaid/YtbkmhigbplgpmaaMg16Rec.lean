/- Package bin: node. -/
import Derived.Test.YtbkmhigbplgpmaaMg14Rec
import Derived.Test.YtbkmhigbplgpmaaValCopyq
import Derived.Test.YtbkmhigbplgpmaaMg12Rec
import Derived.Test.YtbkmhigbplgpmaaMg13Rec
import Derived.Test.YtbkmhigbplgpmaaMg11Rec
import Derived.Test.YtbkmhigbplgpmaaMg3Rec
namespace Go.Proofs.Ytbkmhigbplgpmaa
open Go.RowKit Go.Shelf
attribute [local go_sem] Oper.semAt_some
theorem vat_grown {W W' : World} {b p : Nat} {cs : Array Value} (h : VAt W b cs) (hg : W.grownBy W' (some p)) (hne : b ≠ p) : VAt W' b cs := (hg.block b (vat_lt h) (by simpa using hne)).trans h
theorem grown_new {w W : World} {row : Option Nat} (h : w.grownBy W row) {b : Nat} (hb : w.heap.size ≤ b) (i : Nat) (v : Value) : w.grownBy (W.setCell ⟨b, i, none⟩ v) row :=
  ⟨h.os, h.tape, h.output, Nat.le_trans h.size (KeepsWalks.setCell W _ v).size, fun k hk hne => (Below.heap_setCell _ _ _ k (by show k ≠ b; omega)).trans (h.block k hk hne)⟩
theorem grown_new4 {w W : World} {row : Option Nat} (h : w.grownBy W row) {b : Nat} (hb : w.heap.size ≤ b) (i0 i1 i2 i3 : Nat) (d0 d1 d2 d3 : Value) :
    w.grownBy ((((W.setCell ⟨b, i0, none⟩ d0).setCell ⟨b, i1, none⟩ d1).setCell ⟨b, i2, none⟩ d2).setCell ⟨b, i3, none⟩ d3) row :=
  grown_new (grown_new (grown_new (grown_new h hb i0 d0) hb i1 d1) hb i2 d2) hb i3 d3
theorem grown_alloc {w W : World} {row : Option Nat} (h : w.grownBy W row) (o : Obj) : w.grownBy (W.alloc o) row := grown_then h (grown_of_below ((Below.refl _ W).alloc (Nat.le_refl _) o) row)
theorem is_flat' (w : World) (k n : Int) (s : ByteArray) (hk : I64 k) (hn : I64 n) (hs : s.size ≤ maxLen) : Is w (.mk k n s []) (.agg #[.int .i64 k, .int .i64 n, .string s, .slice none 0 0]) := by
  unfold Is
  exact ⟨hk, hn, hs, none, 0, rfl, Nat.le_refl _, by unfold maxLen; omega, .inl rfl⟩
theorem fresh_flat (B : Nat) (w : World) (k n : Int) (s : ByteArray) (hk : I64 k) (hn : I64 n) (hs : s.size ≤ maxLen) : Fresh B w (.mk k n s []) (.agg #[.int .i64 k, .int .i64 n, .string s, .slice none 0 0]) := fun w' _ => is_flat' w' k n s hk hn hs
theorem txt_size {n : Nat} {s : Bn.St} (h : (Bn.lf s).length ≤ maxLen) : (Bn.txt n s).1.size ≤ maxLen := by
  cases s with
  | none => simp [Bn.txt, ByteArray.size]
  | some l =>
    simp only [Bn.txt, Bn.lf] at *
    split
    · have : (strOfNums (l.take n)).size = (l.take n).length := by simp [strOfNums, ByteArray.size]
      rw [this, List.length_take]; omega
    · simp [ByteArray.size]
theorem num_len (n : Nat) (s : Bn.St) : (Bn.lf (Bn.num n s).2).length ≤ (Bn.lf s).length := by
  cases s with
  | none => simp [Bn.num, Bn.lf]
  | some l =>
    simp only [Bn.num]
    split <;> simp [Bn.lf]
theorem rNum_len (s : Bn.St) : (Bn.lf (Bn.rNum s).2).length ≤ (Bn.lf s).length := by
  unfold Bn.rNum
  split
  · simp [Bn.lf]
  · exact num_len 4 s
theorem rLong_bd (s : Bn.St) : I64 (Bn.rLong s).1 := by
  unfold Bn.rLong I64
  rw [IntKind.wrap_i64]
  constructor <;> (show _ ≤ _; omega)
theorem val4 : (Try.prog.info? 31).map (·.size) = some 4 := by
  obtain ⟨i0, hi, hz0, hz1, hz2⟩ := info_parts info_val
  rw [hi]; simp [hz1]
end Go.Proofs.Ytbkmhigbplgpmaa

/- Package bin: list; node of every depth. -/
namespace Go.Proofs.Ytbkmhigbplgpmaa
open Go.RowKit Go.Shelf
attribute [local go_sem] Oper.semAt_some
theorem rep_len (g : Bn.St → PV × Bn.St) (n : Nat) (s : Bn.St) : (Bn.rep g n s).1.length = n := by
  induction n with
  | zero => rfl
  | succ n ih => simp [Bn.rep, ih]
/-- values that lie in a block of the call's own: so many are there -/
def Filled (g : Nat) (n : Nat) (xs : List PV) (wr : World) : Prop :=
  ∃ C, VAt wr g C ∧ C.size = n * 4 ∧ ∀ (i : Nat) (y : PV), xs[i]? = some y → ∃ c0 c1 c2 c3, (C[i * 4]? = some c0 ∧ C[i * 4 + 1]? = some c1 ∧ C[i * 4 + 2]? = some c2 ∧ C[i * 4 + 3]? = some c3) ∧ Fresh (g + 1) wr y (.agg #[c0, c1, c2, c3])
theorem filled_step {g n q : Nat} {xs : List PV} {wr w' : World} {y : PV} {d0 d1 d2 d3 : Value} {p : Nat} (h : Filled g n xs wr) (hp : p < g) (hg : wr.grownBy w' (some p)) (hq : xs.length = q) (hn : q < n) (hf : Fresh (g + 1) w' y (.agg #[d0, d1, d2, d3])) :
    Filled g n (xs ++ [y]) ((((w'.setCell ⟨g, q * 4, none⟩ d0).setCell ⟨g, q * 4 + 1, none⟩ d1).setCell ⟨g, q * 4 + 2, none⟩ d2).setCell ⟨g, q * 4 + 3, none⟩ d3) := by
  obtain ⟨C, c1, c2, c3⟩ := h
  have c1' := vat_grown c1 hg (by omega)
  have hset : ∀ b, g + 1 ≤ b → (((((w'.setCell ⟨g, q * 4, none⟩ d0).setCell ⟨g, q * 4 + 1, none⟩ d1).setCell ⟨g, q * 4 + 2, none⟩ d2).setCell ⟨g, q * 4 + 3, none⟩ d3).heap[b]? = w'.heap[b]?) := fun b hb' => by
    rw [Below.heap_setCell _ _ _ b (by show b ≠ g; omega), Below.heap_setCell _ _ _ b (by show b ≠ g; omega), Below.heap_setCell _ _ _ b (by show b ≠ g; omega), Below.heap_setCell _ _ _ b (by show b ≠ g; omega)]
  have hss : ((((w'.setCell ⟨g, q * 4, none⟩ d0).setCell ⟨g, q * 4 + 1, none⟩ d1).setCell ⟨g, q * 4 + 2, none⟩ d2).setCell ⟨g, q * 4 + 3, none⟩ d3).heap.size = w'.heap.size := by simp
  refine ⟨_, vat_set (vat_set (vat_set (vat_set c1' _ d0) _ d1) _ d2) _ d3, by simp [c2], fun i z hz => ?_⟩
  rcases Nat.lt_or_ge i q with hlt | hge
  · rw [List.getElem?_append_left (by omega)] at hz
    obtain ⟨e0, e1, e2, e3, ⟨u0, u1, u2, u3⟩, hfr⟩ := c3 i z hz
    refine ⟨e0, e1, e2, e3, ⟨?_, ?_, ?_, ?_⟩, fresh_later (fresh_later hfr hg.size (fun b h1 h2 => hg.block b h2 (by simp; omega))) (by rw [hss]; exact Nat.le_refl _) fun b h1 _ => hset b h1⟩
    · rw [Array.getElem?_setIfInBounds_ne (by omega), Array.getElem?_setIfInBounds_ne (by omega), Array.getElem?_setIfInBounds_ne (by omega), Array.getElem?_setIfInBounds_ne (by omega), u0]
    · rw [Array.getElem?_setIfInBounds_ne (by omega), Array.getElem?_setIfInBounds_ne (by omega), Array.getElem?_setIfInBounds_ne (by omega), Array.getElem?_setIfInBounds_ne (by omega), u1]
    · rw [Array.getElem?_setIfInBounds_ne (by omega), Array.getElem?_setIfInBounds_ne (by omega), Array.getElem?_setIfInBounds_ne (by omega), Array.getElem?_setIfInBounds_ne (by omega), u2]
    · rw [Array.getElem?_setIfInBounds_ne (by omega), Array.getElem?_setIfInBounds_ne (by omega), Array.getElem?_setIfInBounds_ne (by omega), Array.getElem?_setIfInBounds_ne (by omega), u3]
  · have hil : i < (xs ++ [y]).length := (List.getElem?_eq_some_iff.1 hz).1
    rw [List.length_append, hq] at hil
    simp only [List.length_cons, List.length_nil] at hil
    obtain rfl : i = q := by omega
    rw [List.getElem?_append_right (by omega), hq, Nat.sub_self] at hz
    simp at hz
    subst hz
    refine ⟨d0, d1, d2, d3, ⟨?_, ?_, ?_, ?_⟩, fresh_later hf (by rw [hss]; exact Nat.le_refl _) fun b h1 _ => hset b h1⟩
    · rw [Array.getElem?_setIfInBounds_ne (by omega), Array.getElem?_setIfInBounds_ne (by omega), Array.getElem?_setIfInBounds_ne (by omega), Array.getElem?_setIfInBounds_self_of_lt (by omega)]
    · rw [Array.getElem?_setIfInBounds_ne (by omega), Array.getElem?_setIfInBounds_ne (by omega), Array.getElem?_setIfInBounds_self_of_lt (by simp; omega)]
    · rw [Array.getElem?_setIfInBounds_ne (by omega), Array.getElem?_setIfInBounds_self_of_lt (by simp; omega)]
    · rw [Array.getElem?_setIfInBounds_self_of_lt (by simp; omega)]
theorem filled_isL {g n : Nat} {xs : List PV} {wr w2 : World} (h : Filled g n xs wr) (ha : ∀ b : Nat, g ≤ b → b < wr.heap.size → w2.heap[b]? = wr.heap[b]?) : IsL w2 g xs 0 := by
  obtain ⟨C, c1, c2, c3⟩ := h
  have c1' : VAt w2 g C := (ha g (Nat.le_refl _) (vat_lt c1)).trans c1
  refine isL_of fun i y hy => ?_
  obtain ⟨e0, e1, e2, e3, ⟨u0, u1, u2, u3⟩, hf⟩ := c3 i y hy
  rw [Nat.zero_add]
  exact ⟨e0, e1, e2, e3, ⟨vat_cell c1' _ _ u0, vat_cell c1' _ _ u1, vat_cell c1' _ _ u2, vat_cell c1' _ _ u3⟩, hf w2 fun b h1 h2 => ha b (by omega) h2⟩
theorem is_form {w : World} {v : PV} {x : Value} (h : Is w v x) : ∃ (k n : Int) (s : ByteArray) (a : Option Addr) (len cap : Nat), x = .agg #[.int .i64 k, .int .i64 n, .string s, .slice a len cap] := by
  cases v with
  | mk k n s l =>
  unfold Is at h
  obtain ⟨_, _, _, a, cap, e, _⟩ := h
  exact ⟨_, _, _, _, _, _, e⟩
end Go.Proofs.Ytbkmhigbplgpmaa

/- The document's each: is a value, and all in it, right by itself? (made by gen_each.py) -/
namespace Go.Proofs.Ytbkmhigbplgpmaa
open Go.RowKit Go.Shelf
attribute [local go_sem] Oper.semAt_some
theorem emp_iff (s : ByteArray) : s.toList.isEmpty = true ↔ s = ⟨#[]⟩ := by
  rw [toList_data]
  constructor
  · intro h
    apply ByteArray.ext
    apply Array.toList_inj.1
    rw [List.isEmpty_iff.1 h]
  · intro h; rw [h]; rfl
end Go.Proofs.Ytbkmhigbplgpmaa

/- The document's Nodes and Right. -/
namespace Go.Proofs.Ytbkmhigbplgpmaa
open Go.RowKit Go.Shelf
theorem rd_ok : ∀ v : PV, okV v = true → rdV v = deepV v := by
  intro v
  induction v using pv_ind with
  | h k m s l ih =>
    intro ho
    obtain ⟨_, _, _, hl5, _, hol, _, _⟩ := ok_parts ho
    simp only [rdV, deepV]
    by_cases hk : k = 5
    · rw [if_pos hk, if_pos hk]
      have key : ∀ (l : List PV), (∀ y ∈ l, rdV y = deepV y) → ∀ z : Nat, rdL (z : Int) l = ((max z (deepL l) : Nat) : Int) := by
        intro l
        induction l with
        | nil => intro _ z; simp [rdL, deepL]
        | cons x r ih2 =>
          intro h z
          simp only [rdL, deepL]
          have hx := h x (by simp)
          have h2 := ih2 (fun y hy => h y (by simp [hy]))
          by_cases hz : (z : Int) < rdV x
          · rw [if_pos hz, hx, h2]; congr 1; omega
          · rw [if_neg hz, h2]; congr 1; omega
      have := key l (fun y hy => ih y hy (okL_mem hol y hy)) 0
      simp only [Int.natCast_zero] at this
      rw [this]; omega
    · have hl := hl5 hk
      subst hl
      rw [if_neg hk, if_neg hk]
      simp [rdL, deepL]
theorem cnt_ok : ∀ v : PV, okV v = true → ∀ d n : Nat, deepV v ≤ d → szV v ≤ n → cntV v n d = (n : Int) - szV v := by
  intro v
  induction v using pv_ind with
  | h k m s l ih =>
    intro ho d n hd hn
    obtain ⟨_, _, _, hl5, _, hol, _, _⟩ := ok_parts ho
    simp only [cntV, szV, deepV] at *
    rw [if_neg (by omega)]
    by_cases hk : k = 5
    · rw [if_pos hk] at hd
      have key : ∀ (l : List PV), (∀ y ∈ l, okV y = true → ∀ d n : Nat, deepV y ≤ d → szV y ≤ n → cntV y n d = (n : Int) - szV y) → (∀ y ∈ l, okV y = true) → ∀ d n : Nat, deepL l ≤ d → szL l ≤ n → cntL l n d = (n : Int) - szL l := by
        intro l
        induction l with
        | nil => intro _ _ d n _ _; simp [cntL, szL]
        | cons x r ih2 =>
          intro h ho d n hd hn
          simp only [cntL, szL, deepL] at *
          have h1 := h x (by simp) (ho x (by simp)) d n (by omega) (by omega)
          rw [if_neg (by rw [h1]; omega), h1]
          have h2 := ih2 (fun y hy => h y (by simp [hy])) (fun y hy => ho y (by simp [hy])) d (n - szV x) (by omega) (by omega)
          rw [show ((n - szV x : Nat) : Int) = (n : Int) - szV x by omega] at h2
          rw [h2]; omega
      have h3 := key l (fun y hy => ih y hy) (okL_mem hol) (d - 1) (n - 1) (by omega) (by omega)
      rw [show ((n - 1 : Nat) : Int) = (n : Int) - 1 by omega, show ((d - 1 : Nat) : Int) = (d : Int) - 1 by omega] at h3
      rw [h3]; omega
    · have hl := hl5 hk
      subst hl
      simp [cntL, szL]
theorem right_eq (v : PV) : rightV v = (okV v && decide (rdV v ≤ 4) && decide (1001 - cntV v 1001 1000 ≤ 100)) := by
  unfold rightV
  cases ho : okV v with
  | false => simp
  | true =>
    rw [rd_ok v ho]
    by_cases hd : deepV v ≤ 4
    · have hd2 : decide ((deepV v : Int) ≤ 4) = true := by simp; omega
      rw [decide_eq_true hd, hd2]
      simp only [Bool.true_and, Bool.and_true]
      by_cases hs : szV v ≤ 1001
      · have h := cnt_ok v ho 1000 1001 (by omega) hs
        rw [show ((1001 : Nat) : Int) = 1001 from rfl, show ((1000 : Nat) : Int) = 1000 from rfl] at h
        rw [h, Bool.eq_iff_iff]
        simp only [decide_eq_true_eq]; omega
      · have h := cnt_bd v 1001 1000 (by omega)
        rw [Bool.eq_iff_iff]
        simp only [decide_eq_true_eq]; omega
    · have hd2 : decide ((deepV v : Int) ≤ 4) = false := by simp; omega
      rw [decide_eq_false hd, hd2]
      simp
end Go.Proofs.Ytbkmhigbplgpmaa

/- The document's Has, Fits of layer 10. -/
set_option linter.unusedVariables false
set_option maxRecDepth 100000
namespace Go.Proofs.Ytbkmhigbplgpmaa
open Go.RowKit Go.Shelf
theorem slot7_form {w : World} {s : SlotM} {x : Value} (h : IsSlot w s x) : ∃ k n t a len cap, x = .agg #[.string s.nm, .int .i64 s.ty, .bool s.rq, .int .i64 k, .int .i64 n, .string t, .slice a len cap] ∧ I64 s.ty ∧ s.nm.size ≤ maxLen ∧ Is w s.df (.agg #[.int .i64 k, .int .i64 n, .string t, .slice a len cap]) := by
  obtain ⟨c0, c1, c2, c3, c4, c5, c6, rfl, h1, h2, rfl, rfl, rfl, h3⟩ := h
  have h4 := h3
  cases hd : s.df with
  | mk k n t l =>
    rw [hd] at h4
    unfold Is at h4
    obtain ⟨_, _, _, a, cap, e, _⟩ := h4
    simp only [Value.agg.injEq, Array.mk.injEq, List.cons.injEq, and_true] at e
    obtain ⟨rfl, rfl, rfl, rfl⟩ := e
    rw [hd] at h3
    exact ⟨_, _, _, _, _, _, rfl, h2, h1, h3⟩
theorem right_kind {k n : Int} {s : ByteArray} {l : List PV} (h : rightV (.mk k n s l) = true) : 0 ≤ k ∧ k ≤ 5 := by
  unfold rightV at h
  simp only [Bool.and_eq_true] at h
  have h2 := h.2
  refine Decidable.byContradiction fun hn => ?_
  have e : okV (.mk k n s l) = false := by
    unfold okV
    rw [if_neg (by omega), if_neg (by omega), if_neg (by omega), if_neg (by omega), if_neg (by omega), if_neg (by omega)]
  rw [e] at h2
  cases h2
abbrev sObj (w : World) (nm : ByteArray) (ty : Int) (rq : Bool) (k n : Int) (t : ByteArray) (a : Option Addr) (len cap : Nat) : World := w.alloc (.cells #[.string nm, .int .i64 ty, .bool rq, .int .i64 k, .int .i64 n, .string t, .slice a len cap] 50)
end Go.Proofs.Ytbkmhigbplgpmaa

/- The document's Great of layer 10. -/
set_option linter.unusedVariables false
set_option maxRecDepth 100000
namespace Go.Proofs.Ytbkmhigbplgpmaa
open Go.RowKit Go.Shelf
def greatS (s : SlotM) : Bool := greatV s.df || decide (300 < s.nm.size)
def greatP (t : StepM) : Bool := greatV t.sl.df || decide (300 < t.sl.nm.size) || decide (30 < t.od.length)
def greatT (t : TemplM) : Bool := (decide (30 < t.slots.length) || decide (30 < t.steps.length) || decide (300 < t.nm.size)) || (t.slots.any greatS || t.steps.any greatP)
theorem slotAt_form {w : World} {b o : Nat} {s : SlotM} (h : SlotAt w b o s) : ∃ k n t a len cap,
    (w.cell? ⟨b, o, none⟩ = some (.string s.nm) ∧ w.cell? ⟨b, o + 1, none⟩ = some (.int .i64 s.ty) ∧ w.cell? ⟨b, o + 2, none⟩ = some (.bool s.rq) ∧ w.cell? ⟨b, o + 3, none⟩ = some (.int .i64 k) ∧ w.cell? ⟨b, o + 4, none⟩ = some (.int .i64 n) ∧ w.cell? ⟨b, o + 5, none⟩ = some (.string t) ∧ w.cell? ⟨b, o + 6, none⟩ = some (.slice a len cap)) ∧
    I64 s.ty ∧ s.nm.size ≤ maxLen ∧ Is w s.df (.agg #[.int .i64 k, .int .i64 n, .string t, .slice a len cap]) := by
  obtain ⟨c0, c1, c2, c3, c4, c5, c6, ⟨g0, g1, g2, g3, g4, g5, g6⟩, h1, h2, rfl, rfl, rfl, h3⟩ := h
  have h4 := h3
  cases hd : s.df with
  | mk k n t l =>
    rw [hd] at h4
    unfold Is at h4
    obtain ⟨_, _, _, a, cap, e, _⟩ := h4
    simp only [Value.agg.injEq, Array.mk.injEq, List.cons.injEq, and_true] at e
    obtain ⟨rfl, rfl, rfl, rfl⟩ := e
    rw [hd] at h3
    exact ⟨_, _, _, _, _, _, ⟨g0, g1, g2, g3, g4, g5, g6⟩, h2, h1, h3⟩
theorem any_take {α : Type} (p : α → Bool) (l : List α) (h : ∀ (q : Nat) (x : α), l[q]? = some x → p x = false) : l.any p = false := by
  rw [List.any_eq_false]
  intro x hx
  obtain ⟨i, hi⟩ := List.mem_iff_getElem?.1 hx
  simp [h i x hi]
theorem any_at {α : Type} (p : α → Bool) (l : List α) (q : Nat) (x : α) (h : l[q]? = some x) (hp : p x = true) : l.any p = true := List.any_eq_true.2 ⟨x, List.mem_of_getElem? h, hp⟩
set_option maxRecDepth 100000 in
set_option maxHeartbeats 4000000 in
theorem refGreat10_any (t : TemplM) (w : World) (x : Value) (hi : IsTempl w t x) : Calls Try.prog 5 #[x] w fun e w' => e = .returned (.bool (greatT t)) ∧ Below w.heap.size w w' := by
  obtain ⟨nm, slots, steps⟩ := t
  obtain ⟨hnm, sa, sc, ta, tc, rfl, ⟨hs1, hs2, hs3⟩, ⟨ht1, ht2, ht3⟩⟩ := hi
  simp only at hnm hs1 ht1 hs3 ht3 ⊢
  have hB0 := (Below.refl _ w).alloc (Nat.le_refl _) (.cells #[.string nm, .slice sa slots.length sc, .slice ta steps.length tc] 25)
  have hcx : ∀ W, Below (w.alloc (.cells #[.string nm, .slice sa slots.length sc, .slice ta steps.length tc] 25)).heap.size (w.alloc (.cells #[.string nm, .slice sa slots.length sc, .slice ta steps.length tc] 25)) W → W.cell? ⟨w.heap.size, 0, none⟩ = some (.string nm) ∧ W.cell? ⟨w.heap.size, 1, none⟩ = some (.slice sa slots.length sc) ∧ W.cell? ⟨w.heap.size, 2, none⟩ = some (.slice ta steps.length tc) := fun W hb =>
    ⟨cell_below hb (by simp), cell_below hb (by simp), cell_below hb (by simp)⟩
  obtain ⟨x0, x1, x2⟩ := hcx _ (Below.refl _ _)
  unfold maxLen at hnm hs2 ht2
  have HCX := Lib.hid hcx
  clear hcx
  unfold greatT
  by_cases h1 : (decide (30 < slots.length) || decide (30 < steps.length) || decide (300 < nm.size)) = true
  · simp only [h1, Bool.true_or]
    simp only [Bool.or_eq_true, decide_eq_true_eq] at h1
    by_cases k1 : 30 < slots.length
    · have d1 : decide ((30 : Int) < (slots.length : Int)) = true := by simp; omega
      clear hs3 ht3
      go_enter Try.func5, Try.ntmps5
      go_wp2
      go_ret
      exact ⟨rfl, hB0⟩
    · have d1 : decide ((30 : Int) < (slots.length : Int)) = false := by simp; omega
      by_cases k2 : 30 < steps.length
      · have d2 : decide ((30 : Int) < (steps.length : Int)) = true := by simp; omega
        clear hs3 ht3
        go_enter Try.func5, Try.ntmps5
        go_wp2
        go_ret
        exact ⟨rfl, hB0⟩
      · have d2 : decide ((30 : Int) < (steps.length : Int)) = false := by simp; omega
        have d3 : decide ((300 : Int) < (nm.size : Int)) = true := by simp; omega
        clear hs3 ht3
        go_enter Try.func5, Try.ntmps5
        go_wp2
        go_ret
        exact ⟨rfl, hB0⟩
  · simp only [Bool.not_eq_true] at h1
    rw [h1, Bool.false_or]
    simp only [Bool.or_eq_false_iff, decide_eq_false_iff_not] at h1
    have d1 : decide ((30 : Int) < (slots.length : Int)) = false := by simp; omega
    have d2 : decide ((30 : Int) < (steps.length : Int)) = false := by simp; omega
    have d3 : decide ((300 : Int) < (nm.size : Int)) = false := by simp; omega
    have HS3 := Lib.hid hs3; have HT3 := Lib.hid ht3
    clear hs3 ht3
    have hl30 : slots.length ≤ 30 := by omega
    have hp30 : steps.length ≤ 30 := by omega
    clear h1
    obtain ⟨G, hG⟩ : ∃ G, (slots.any greatS || steps.any greatP) = G := ⟨_, rfl⟩
    rw [hG]
    have HGG := Lib.hid hG
    clear hG
    go_enter Try.func5, Try.ntmps5
    go_wp2
    obtain ⟨W1, hW1⟩ : ∃ W1, w.alloc (.cells #[.string nm, .slice sa slots.length sc, .slice ta steps.length tc] 25) = W1 := ⟨_, rfl⟩
    rw [hW1] at HCX hB0 ⊢
    obtain ⟨bT, hbT⟩ : ∃ bT, w.heap.size = bT := ⟨_, rfl⟩
    have HB0 := Lib.hid hB0
    rw [hbT] at HCX ⊢
    clear x0 x1 x2 hW1 hB0
    go_loopw [3] (fun i wr => ∃ q : Nat, q ≤ slots.length ∧ i = .int .i64 (q : Int) ∧ Below W1.heap.size W1 wr ∧ ∀ j s, j < q → slots[j]? = some s → greatS s = false) (fun i _ => slots.length - (intOf i).toNat)
    case atStart => exact ⟨0, Nat.zero_le _, rfl, Below.refl _ _, fun j s h => by omega⟩
    case round =>
      obtain ⟨q, hq, rfl, hbl, hno⟩ := hrel
      obtain ⟨x0, x1, x2⟩ := HCX.out _ hbl
      have HNO := Lib.hid hno
      clear hno
      rcases Nat.lt_or_ge q slots.length with hlt | hge
      · have hd : decide ((q : Int) < (slots.length : Int)) = true := by simp; omega
        obtain ⟨s, hs⟩ : ∃ s, slots[q]? = some s := ⟨slots[q], List.getElem?_eq_getElem hlt⟩
        obtain ⟨b, off, rfl, hrow⟩ : ∃ b off, sa = some ⟨b, off, none⟩ ∧ ∀ i s, slots[i]? = some s → SlotAt w b (off + i * 7) s := by
          rcases HS3.out with h | h
          · subst h; simp at hlt
          · exact h
        obtain ⟨k, n, t, a, len, cap, ⟨g0, g1, g2, g3, g4, g5, g6⟩, hI, hsn, hdf⟩ := slotAt_form (slotAt_below (HB0.out.trans (hbl.mono HB0.out.size)) (hrow q s hs))
        have hGr := great_any s.df wr _ hdf
        have HS := Lib.hid hs; have HR := Lib.hid hrow
        unfold maxLen at hsn
        clear hs hrow hdf
        obtain ⟨gv, hgv⟩ : ∃ gv, greatV s.df = gv := ⟨_, rfl⟩
        rw [hgv] at hGr
        have HG := Lib.hid hgv
        clear hgv
        cases gv with
        | true =>
          have hcon : slots.any greatS = true := any_at _ _ q s HS.out (by simp [greatS, HG.out])
          go_wp2_with (go_at_call 16; (with_reducible refine hGr.mono ?_); rintro e w2 ⟨rfl, hB2⟩; obtain ⟨y0, y1, y2⟩ := HCX.out _ (hbl.trans (hB2.mono hbl.size)))
          go_ret
          exact ⟨ret_bool (by rw [← HGG.out, hcon]; rfl), HB0.out.trans ((hbl.trans (hB2.mono hbl.size)).mono HB0.out.size)⟩
        | false =>
          by_cases hb : 300 < s.nm.size
          · have hcon : slots.any greatS = true := any_at _ _ q s HS.out (by simp [greatS, hb])
            have d4 : decide ((300 : Int) < (s.nm.size : Int)) = true := by simp; omega
            go_wp2_with (go_at_call 16; (with_reducible refine hGr.mono ?_); rintro e w2 ⟨rfl, hB2⟩; obtain ⟨y0, y1, y2⟩ := HCX.out _ (hbl.trans (hB2.mono hbl.size)); have f0 := cell_below hB2 g0)
            go_ret
            exact ⟨ret_bool (by rw [← HGG.out, hcon]; rfl), HB0.out.trans ((hbl.trans (hB2.mono hbl.size)).mono HB0.out.size)⟩
          · have d4 : decide ((300 : Int) < (s.nm.size : Int)) = false := by simp; omega
            go_wp2_with (go_at_call 16; (with_reducible refine hGr.mono ?_); rintro e w2 ⟨rfl, hB2⟩; obtain ⟨y0, y1, y2⟩ := HCX.out _ (hbl.trans (hB2.mono hbl.size)); have f0 := cell_below hB2 g0)
            go_roundw
            case rel => exact ⟨q + 1, by omega, by go_num, hbl.trans (hB2.mono hbl.size), fun j s' hj hs' => by
              rcases Nat.lt_or_ge j q with h | h
              · exact HNO.out j s' h hs'
              · obtain rfl : j = q := by omega
                rw [HS.out] at hs'
                cases hs'
                simp [greatS, HG.out, hb]⟩
            case measure => simp [intOf]; omega
      · obtain rfl : q = slots.length := by omega
        have hd : decide ((slots.length : Int) < (slots.length : Int)) = false := by simp
        have hcon : slots.any greatS = false := any_take _ _ (fun j s h => HNO.out j s ((List.getElem?_eq_some_iff.1 h).1) h)
        have HF1 := Lib.hid hcon
        go_wp2
        obtain ⟨W2, hW2⟩ : ∃ W2, wr = W2 := ⟨_, rfl⟩
        rw [hW2] at hbl ⊢
        clear hW2 x0 x1 x2 HNO hcon
        go_loopw [4] (fun i wr => ∃ q : Nat, q ≤ steps.length ∧ i = .int .i64 (q : Int) ∧ Below W1.heap.size W1 wr ∧ ∀ j s, j < q → steps[j]? = some s → greatP s = false) (fun i _ => steps.length - (intOf i).toNat)
        case atStart => exact ⟨0, Nat.zero_le _, rfl, hbl, fun j s h => by omega⟩
        case round =>
          clear hbl
          obtain ⟨q, hq, rfl, hbl, hno⟩ := hrel
          obtain ⟨x0, x1, x2⟩ := HCX.out _ hbl
          have HNO := Lib.hid hno
          clear hno
          rcases Nat.lt_or_ge q steps.length with hlt | hge
          · have hd : decide ((q : Int) < (steps.length : Int)) = true := by simp; omega
            obtain ⟨s, hs⟩ : ∃ s, steps[q]? = some s := ⟨steps[q], List.getElem?_eq_getElem hlt⟩
            obtain ⟨b, off, rfl, hrow⟩ : ∃ b off, ta = some ⟨b, off, none⟩ ∧ ∀ i s, steps[i]? = some s → StepAt w b (off + i * 10) s := by
              rcases HT3.out with h | h
              · subst h; simp at hlt
              · exact h
            obtain ⟨oa, oc, ⟨e0, e1, e9⟩, _, _, hsl, hod, _⟩ := stepAt_below (HB0.out.trans (hbl.mono HB0.out.size)) (hrow q s hs)
            obtain ⟨k, n, t, a, len, cap, ⟨g0, g1, g2, g3, g4, g5, g6⟩, hI, hsn, hdf⟩ := slotAt_form hsl
            have hGr := great_any s.sl.df wr _ hdf
            have hoc := hod.2.1
            have hoc2 := hod.2.2.1
            have HS := Lib.hid hs; have HR := Lib.hid hrow
            unfold maxLen at hsn hoc2
            clear hs hrow hdf hsl hod
            obtain ⟨gv, hgv⟩ : ∃ gv, greatV s.sl.df = gv := ⟨_, rfl⟩
            rw [hgv] at hGr
            have HG := Lib.hid hgv
            clear hgv
            cases gv with
            | true =>
              have hcon : steps.any greatP = true := any_at _ _ q s HS.out (by simp [greatP, HG.out])
              go_wp2_with (go_at_call 16; (with_reducible refine hGr.mono ?_); rintro e w2 ⟨rfl, hB2⟩; obtain ⟨y0, y1, y2⟩ := HCX.out _ (hbl.trans (hB2.mono hbl.size)))
              go_ret
              exact ⟨ret_bool (by rw [← HGG.out, HF1.out, hcon]; rfl), HB0.out.trans ((hbl.trans (hB2.mono hbl.size)).mono HB0.out.size)⟩
            | false =>
              by_cases hb : 300 < s.sl.nm.size
              · have hcon : steps.any greatP = true := any_at _ _ q s HS.out (by simp [greatP, hb])
                have d4 : decide ((300 : Int) < (s.sl.nm.size : Int)) = true := by simp; omega
                go_wp2_with (go_at_call 16; (with_reducible refine hGr.mono ?_); rintro e w2 ⟨rfl, hB2⟩; obtain ⟨y0, y1, y2⟩ := HCX.out _ (hbl.trans (hB2.mono hbl.size)); have f0 := cell_below hB2 g0)
                go_ret
                exact ⟨ret_bool (by rw [← HGG.out, HF1.out, hcon]; rfl), HB0.out.trans ((hbl.trans (hB2.mono hbl.size)).mono HB0.out.size)⟩
              · have d4 : decide ((300 : Int) < (s.sl.nm.size : Int)) = false := by simp; omega
                by_cases hbo : 30 < s.od.length
                · have hcon : steps.any greatP = true := any_at _ _ q s HS.out (by simp [greatP, hbo])
                  have d5 : decide ((30 : Int) < (s.od.length : Int)) = true := by simp; omega
                  go_wp2_with (go_at_call 16; (with_reducible refine hGr.mono ?_); rintro e w2 ⟨rfl, hB2⟩; obtain ⟨y0, y1, y2⟩ := HCX.out _ (hbl.trans (hB2.mono hbl.size)); have f0 := cell_below hB2 g0; have f9 := cell_below hB2 e9)
                  go_ret
                  exact ⟨ret_bool (by rw [← HGG.out, HF1.out, hcon]; rfl), HB0.out.trans ((hbl.trans (hB2.mono hbl.size)).mono HB0.out.size)⟩
                · have d5 : decide ((30 : Int) < (s.od.length : Int)) = false := by simp; omega
                  go_wp2_with (go_at_call 16; (with_reducible refine hGr.mono ?_); rintro e w2 ⟨rfl, hB2⟩; obtain ⟨y0, y1, y2⟩ := HCX.out _ (hbl.trans (hB2.mono hbl.size)); have f0 := cell_below hB2 g0; have f9 := cell_below hB2 e9)
                  go_roundw
                  case rel => exact ⟨q + 1, by omega, by go_num, hbl.trans (hB2.mono hbl.size), fun j s' hj hs' => by
                    rcases Nat.lt_or_ge j q with h | h
                    · exact HNO.out j s' h hs'
                    · obtain rfl : j = q := by omega
                      rw [HS.out] at hs'
                      cases hs'
                      simp [greatP, HG.out, hb, hbo]⟩
                  case measure => simp [intOf]; omega
          · obtain rfl : q = steps.length := by omega
            have hd : decide ((steps.length : Int) < (steps.length : Int)) = false := by simp
            have hcon : steps.any greatP = false := any_take _ _ (fun j s h => HNO.out j s ((List.getElem?_eq_some_iff.1 h).1) h)
            go_wp2
            go_ret
            exact ⟨ret_bool (by rw [← HGG.out, HF1.out, hcon]; rfl), HB0.out.trans (hbl.mono HB0.out.size)⟩
end Go.Proofs.Ytbkmhigbplgpmaa
