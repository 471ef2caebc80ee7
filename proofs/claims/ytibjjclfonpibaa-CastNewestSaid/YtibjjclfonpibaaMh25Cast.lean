/- The program's schema: the model's step, as the program tells it, kind by kind (no walk). -/
import Derived.Test.YtibjjclfonpibaaMh24Cast
import Derived.Test.YtibjjclfonpibaaMh15Cast
import Derived.Test.YtibjjclfonpibaaMh13Cast
import Derived.Test.YtibjjclfonpibaaMh12Cast
import Derived.Laws.ResultCell
import Derived.Laws.Rows
set_option linter.unusedVariables false
set_option linter.unusedSimpArgs false
namespace Go.Proofs.Ytibjjclfonpibaa
open Go.RowKit Go.Shelf
namespace Sc
theorem eqN_self (a : ByteArray) : eqN a a = true := (eqN_iff a a).2 rfl
theorem eqN_empty (a : ByteArray) : eqN a ⟨#[]⟩ = decide (a.size = 0) := by
  rw [Bool.eq_iff_iff, eqN_iff, decide_eq_true_eq]
  constructor
  · rintro rfl; rfl
  · intro h; exact ByteArray.ext (Array.eq_empty_of_size_eq_zero h)
theorem nil_dec (l : List Int) : decide (l = []) = l.isEmpty := by cases l <;> simp
def hasB (x : Ver) (c : Int) : Bool := decide (0 ≤ c) && decide (c < (x.cols.length : Int))
theorem cmp_self (v : PV) : (cmpV v v == 0) = true := (same_bool v v).2 rfl
theorem rest1 (s : StepM) (hk : s.kd = 1) : rest s = onlyB s ⟨0, 0, s.sl, []⟩ := by
  unfold rest onlyB
  rw [hk, eqN_self, cmp_self, nil_dec]
  cases s.od.isEmpty <;> by_cases h : s.col = 0 <;> simp [h]
theorem rest2 (s : StepM) (hk : s.kd = 2) : rest s = onlyB s ⟨0, s.col, ⟨⟨#[]⟩, 0, false, nilV⟩, []⟩ := by
  unfold rest onlyB
  rw [hk, eqN_empty, nil_dec]
  cases s.od.isEmpty <;> by_cases h : s.sl.nm.size = 0 <;> by_cases h2 : s.sl.ty = 0 <;> cases s.sl.rq <;> by_cases h3 : cmpV s.sl.df nilV = 0 <;> simp [h, h2, h3]
theorem rest3 (s : StepM) (hk : s.kd = 3) : rest s = onlyB s ⟨0, s.col, ⟨s.sl.nm, 0, false, nilV⟩, []⟩ := by
  unfold rest onlyB
  rw [hk, eqN_self, nil_dec]
  cases s.od.isEmpty <;> by_cases h2 : s.sl.ty = 0 <;> cases s.sl.rq <;> by_cases h3 : cmpV s.sl.df nilV = 0 <;> simp [h2, h3]
theorem rest4 (s : StepM) (hk : s.kd = 4) : rest s = onlyB s ⟨0, s.col, ⟨⟨#[]⟩, s.sl.ty, false, nilV⟩, []⟩ := by
  unfold rest onlyB
  rw [hk, eqN_empty, nil_dec]
  cases s.od.isEmpty <;> by_cases h : s.sl.nm.size = 0 <;> cases s.sl.rq <;> by_cases h3 : cmpV s.sl.df nilV = 0 <;> simp [h, h3]
theorem rest5 (s : StepM) (hk : s.kd = 5) : rest s = onlyB s ⟨0, 0, ⟨⟨#[]⟩, 0, false, nilV⟩, s.od⟩ := by
  unfold rest onlyB
  rw [hk, eqN_empty]
  by_cases h : s.sl.nm.size = 0 <;> by_cases h2 : s.sl.ty = 0 <;> cases s.sl.rq <;> by_cases h3 : cmpV s.sl.df nilV = 0 <;> by_cases h4 : s.col = 0 <;> simp [h, h2, h3, h4]
theorem step_other {x : Ver} {s : StepM} (h : s.kd < 1 ∨ 5 < s.kd) : step x s = none := by
  unfold step
  split
  · rfl
  · rw [if_neg (by omega), if_neg (by omega), if_pos (by omega)]
theorem step1 {x : Ver} {s : StepM} (hk : s.kd = 1) : step x s = if (onlyB s ⟨0, 0, s.sl, []⟩ && (decide (x.cols.length ≤ 7) && (sound s.sl && (!s.sl.rq && decide (colI x s.sl.nm < 0))))) = true then some ⟨x.slots ++ [s.sl], x.cols ++ [x.slots.length]⟩ else none := by
  unfold step
  rw [rest1 s hk, if_pos hk]
  cases onlyB s ⟨0, 0, s.sl, []⟩ with
  | false => simp
  | true =>
    rw [if_neg (by simp)]
    simp only [Bool.true_and, Bool.and_eq_true, decide_eq_true_eq, colI_neg, Bool.not_eq_true']
theorem step2 {x : Ver} {s : StepM} (hk : s.kd = 2) : step x s = if (onlyB s ⟨0, s.col, ⟨⟨#[]⟩, 0, false, nilV⟩, []⟩ && (hasB x s.col && !decide (x.cols.length = 1))) = true then some ⟨x.slots, x.cols.eraseIdx s.col.toNat⟩ else none := by
  unfold step hasB
  rw [rest2 s hk]
  cases onlyB s ⟨0, s.col, ⟨⟨#[]⟩, 0, false, nilV⟩, []⟩ with
  | false => simp
  | true =>
    rw [if_neg (by simp), if_neg (by omega), if_neg (by omega)]
    simp only [Bool.true_and, Bool.and_eq_true, decide_eq_true_eq, Bool.not_eq_true', decide_eq_false_iff_not]
    by_cases h1 : 0 ≤ s.col ∧ s.col < (x.cols.length : Int)
    · rw [if_neg (by omega), if_pos hk]
      by_cases h2 : 2 ≤ x.cols.length
      · rw [if_pos h2, if_pos ⟨h1, by omega⟩]
      · rw [if_neg h2, if_neg (by omega)]
    · rw [if_pos (by omega), if_neg (by omega)]
theorem step3 {x : Ver} {s : StepM} (hk : s.kd = 3) : step x s = if (onlyB s ⟨0, s.col, ⟨s.sl.nm, 0, false, nilV⟩, []⟩ && (hasB x s.col && (nameB (strB s.sl.nm) && decide (colI x s.sl.nm < 0)))) = true then some ⟨x.slots.modify (x.cols[s.col.toNat]?.getD 0) (fun t => setNm t s.sl.nm), x.cols⟩ else none := by
  unfold step hasB
  rw [rest3 s hk]
  cases onlyB s ⟨0, s.col, ⟨s.sl.nm, 0, false, nilV⟩, []⟩ with
  | false => simp
  | true =>
    rw [if_neg (by simp), if_neg (by omega), if_neg (by omega)]
    simp only [Bool.true_and, Bool.and_eq_true, decide_eq_true_eq, colI_neg]
    by_cases h1 : 0 ≤ s.col ∧ s.col < (x.cols.length : Int)
    · rw [if_neg (by omega), if_neg (by omega), if_pos hk]
      by_cases h2 : nameB (strB s.sl.nm) = true ∧ col x s.sl.nm = none
      · rw [if_pos h2, if_pos ⟨h1, h2⟩]
      · rw [if_neg h2, if_neg (fun h => h2 h.2)]
    · rw [if_pos (by omega), if_neg (fun h => h1 h.1)]
/-- what the column's slot takes -/
def oldTy (x : Ver) (c : Int) : Nat := (slotOf x (x.cols[c.toNat]?.getD 0)).ty.toNat
theorem step4 {x : Ver} {s : StepM} (hk : s.kd = 4) : step x s = if (onlyB s ⟨0, s.col, ⟨⟨#[]⟩, s.sl.ty, false, nilV⟩, []⟩ && (hasB x s.col && ((decide (0 < s.sl.ty) && decide (s.sl.ty < 64)) && !decide (oldTy x s.col ||| s.sl.ty.toNat = oldTy x s.col)))) = true then some ⟨x.slots.modify (x.cols[s.col.toNat]?.getD 0) (fun t => setTy t ((oldTy x s.col ||| s.sl.ty.toNat : Nat) : Int)), x.cols⟩ else none := by
  unfold step hasB
  rw [rest4 s hk]
  cases onlyB s ⟨0, s.col, ⟨⟨#[]⟩, s.sl.ty, false, nilV⟩, []⟩ with
  | false => simp
  | true =>
    rw [if_neg (by simp), if_neg (by omega), if_neg (by omega)]
    simp only [Bool.true_and, Bool.and_eq_true, decide_eq_true_eq, Bool.not_eq_true', decide_eq_false_iff_not]
    by_cases h1 : 0 ≤ s.col ∧ s.col < (x.cols.length : Int)
    · rw [if_neg (by omega), if_neg (by omega), if_neg (by omega)]
      show (if 1 ≤ s.sl.ty ∧ s.sl.ty ≤ 63 ∧ oldTy x s.col ||| s.sl.ty.toNat ≠ oldTy x s.col then _ else _) = _
      by_cases h2 : 1 ≤ s.sl.ty ∧ s.sl.ty ≤ 63 ∧ oldTy x s.col ||| s.sl.ty.toNat ≠ oldTy x s.col
      · rw [if_pos h2, if_pos ⟨h1, ⟨by omega, by omega⟩, h2.2.2⟩]; rfl
      · rw [if_neg h2, if_neg (fun h => h2 ⟨by omega, by omega, h.2.2⟩)]
    · rw [if_pos (by omega), if_neg (fun h => h1 h.1)]
theorem step5 {x : Ver} {s : StepM} (hk : s.kd = 5) : step x s = if (onlyB s ⟨0, 0, ⟨⟨#[]⟩, 0, false, nilV⟩, s.od⟩ && (decide (s.od.length = x.cols.length) && once s.od x.cols.length)) = true then some ⟨x.slots, s.od.map fun i => x.cols[i.toNat]?.getD 0⟩ else none := by
  unfold step
  rw [rest5 s hk]
  cases onlyB s ⟨0, 0, ⟨⟨#[]⟩, 0, false, nilV⟩, s.od⟩ with
  | false => simp
  | true =>
    rw [if_neg (by simp), if_neg (by omega), if_pos hk]
    simp only [Bool.true_and, Bool.and_eq_true, decide_eq_true_eq]
end Sc
end Go.Proofs.Ytibjjclfonpibaa

/- The document's template of the example: Two. -/
set_option linter.unusedVariables false
set_option linter.unusedSimpArgs false
set_option maxRecDepth 100000
namespace Go.Proofs.Ytibjjclfonpibaa
open Go.RowKit Go.Shelf
def intV (n : Int) : PV := .mk 2 n ⟨#[]⟩ []
def twoT : TemplM := ⟨⟨#[116]⟩, [⟨⟨#[97]⟩, 4, false, intV 0⟩, ⟨⟨#[98]⟩, 4, true, intV 0⟩], [⟨2, 0, ⟨⟨#[]⟩, 0, false, Sc.nilV⟩, []⟩, ⟨1, 0, ⟨⟨#[99]⟩, 5, false, Sc.nilV⟩, []⟩]⟩
theorem val_info4 : (Try.prog.info? 39).map (·.size) = some 4 := by kernel_rfl
theorem templ_info3 : (Try.prog.info? 25).map (·.size) = some 3 := by kernel_rfl
set_option maxRecDepth 100000 in
theorem refInt03_any (n : Int) (w : World) : Calls Try.prog 10 #[.int .i64 n] w fun e w' => e = .returned (.agg #[.int .i64 2, .int .i64 n, .string ⟨#[]⟩, .slice none 0 0]) ∧ Below w.heap.size w w' := by
  have hB : ∀ c, Below w.heap.size w (w.alloc (.cells c 39)) := fun c => (Below.refl _ w).alloc (Nat.le_refl _) _
  go_enter Try.func10, Try.ntmps10
  go_wp2
  exact bodyPost_ret (results_cell_row Try.results10 _ _ w.heap.size _ _ _ _ rfl (World.alloc_heap_new w _) Try.underlying39 rfl val_info4) rfl ⟨rfl, hB _⟩
theorem heap_set10 (W : World) (b' i : Nat) (v : Value) (b : Nat) (h : b ≠ b') : (W.setCell ⟨b', i, none⟩ v).heap[b]? = W.heap[b]? := Below.heap_setCell W ⟨b', i, none⟩ v b h
/-- a template's block -/
def TAt (W : World) (b : Nat) (cs : Array Value) : Prop := W.heap[b]? = some (.cells cs 25 (0, 0))
theorem tat_set3 {W : World} {b : Nat} {c0 c1 c2 : Value} (h : TAt W b #[c0, c1, c2]) (d0 d1 d2 : Value) : TAt (((W.setCell ⟨b, 0, none⟩ d0).setCell ⟨b, 1, none⟩ d1).setCell ⟨b, 2, none⟩ d2) b #[d0, d1, d2] := by
  have st : ∀ (W : World) (cs : Array Value) (i : Nat) (c : Value), TAt W b cs → TAt (W.setCell ⟨b, i, none⟩ c) b (cs.setIfInBounds i c) := fun W cs i c h => by
    obtain ⟨hlt, hk⟩ := Array.getElem?_eq_some_iff.1 h
    show (W.heap.modify b _)[b]? = _
    rw [Array.getElem?_eq_getElem (by rw [Array.size_modify]; exact hlt), Array.getElem_modify_self, hk]
    rfl
  exact st _ _ 2 _ (st _ _ 1 _ (st _ _ 0 _ h))
theorem two_at {w1 W : World} {b : Nat} {c0 c1 c2 : Value} (hz : w1.heap[b]? = some (.cells #[c0, c1, c2] 25 (0, 0))) (hb : Below w1.heap.size w1 W) : TAt W b #[c0, c1, c2] := (hb.block b (Array.getElem?_eq_some_iff.1 hz).1).trans hz
theorem two_cellsT {w1 W : World} {b : Nat} {c0 c1 c2 : Value} (hz : w1.heap[b]? = some (.cells #[c0, c1, c2] 25 (0, 0))) (hb : Below w1.heap.size w1 W) : W.cell? ⟨b, 0, none⟩ = some c0 ∧ W.cell? ⟨b, 1, none⟩ = some c1 ∧ W.cell? ⟨b, 2, none⟩ = some c2 ∧ W.frozen? ⟨b, 0, none⟩ = false ∧ W.frozen? ⟨b, 1, none⟩ = false ∧ W.frozen? ⟨b, 2, none⟩ = false := by
  have h := two_at hz hb
  unfold TAt at h
  refine ⟨?_, ?_, ?_, ?_, ?_, ?_⟩ <;> simp [World.cell?, World.frozen?, h]
theorem nil_is (W : World) : Is W Sc.nilV (.agg #[.int .i64 0, .int .i64 0, .string ⟨#[]⟩, .slice none 0 0]) := by
  unfold Sc.nilV Is
  exact ⟨by unfold I64; omega, by unfold I64; omega, Nat.zero_le _, none, 0, rfl, Nat.le_refl _, Nat.zero_le _, .inl rfl⟩
theorem int_is (W : World) : Is W (intV 0) (.agg #[.int .i64 2, .int .i64 0, .string ⟨#[]⟩, .slice none 0 0]) := by
  unfold intV Is
  exact ⟨by unfold I64; omega, by unfold I64; omega, Nat.zero_le _, none, 0, rfl, Nat.le_refl _, Nat.zero_le _, .inl rfl⟩
theorem two_is (W : World) (b1 b2 : Nat) (h1 : W.heap[b1]? = some (.cells #[.string ⟨#[97]⟩, .int .i64 4, .bool false, .int .i64 2, .int .i64 0, .string ⟨#[]⟩, .slice none 0 0, .string ⟨#[98]⟩, .int .i64 4, .bool true, .int .i64 2, .int .i64 0, .string ⟨#[]⟩, .slice none 0 0] 47 (0, 0))) (h2 : W.heap[b2]? = some (.cells #[.int .i64 2, .int .i64 0, .string ⟨#[]⟩, .int .i64 0, .bool false, .int .i64 0, .int .i64 0, .string ⟨#[]⟩, .slice none 0 0, .slice none 0 0, .int .i64 1, .int .i64 0, .string ⟨#[99]⟩, .int .i64 5, .bool false, .int .i64 0, .int .i64 0, .string ⟨#[]⟩, .slice none 0 0, .slice none 0 0] 50 (0, 0))) :
    IsTempl W twoT (.agg #[.string ⟨#[116]⟩, .slice (some ⟨b1, 0, none⟩) 2 2, .slice (some ⟨b2, 0, none⟩) 2 2]) := by
  have c1 : ∀ i, W.cell? ⟨b1, i, none⟩ = (#[.string ⟨#[97]⟩, .int .i64 4, .bool false, .int .i64 2, .int .i64 0, .string ⟨#[]⟩, .slice none 0 0, .string ⟨#[98]⟩, .int .i64 4, .bool true, .int .i64 2, .int .i64 0, .string ⟨#[]⟩, .slice none 0 0] : Array Value)[i]? := fun i => by simp [World.cell?, h1]
  have c2 : ∀ i, W.cell? ⟨b2, i, none⟩ = (#[.int .i64 2, .int .i64 0, .string ⟨#[]⟩, .int .i64 0, .bool false, .int .i64 0, .int .i64 0, .string ⟨#[]⟩, .slice none 0 0, .slice none 0 0, .int .i64 1, .int .i64 0, .string ⟨#[99]⟩, .int .i64 5, .bool false, .int .i64 0, .int .i64 0, .string ⟨#[]⟩, .slice none 0 0, .slice none 0 0] : Array Value)[i]? := fun i => by simp [World.cell?, h2]
  have i64s : ∀ n : Int, 0 ≤ n → n ≤ 9 → I64 n := fun n h h' => by unfold I64; omega
  refine ⟨by decide, some ⟨b1, 0, none⟩, 2, some ⟨b2, 0, none⟩, 2, rfl, ⟨Nat.le_refl _, by decide, .inr ⟨b1, 0, rfl, fun i s hs => ?_⟩⟩, ⟨Nat.le_refl _, by decide, .inr ⟨b2, 0, rfl, fun i s hs => ?_⟩⟩⟩
  · match i, hs with
    | 0, hs =>
      simp only [twoT, List.getElem?_cons_zero, Option.some.injEq] at hs
      subst hs
      exact ⟨_, _, _, _, _, _, _, ⟨c1 0, c1 1, c1 2, c1 3, c1 4, c1 5, c1 6⟩, Nat.le_of_lt (by decide), i64s 4 (by omega) (by omega), rfl, rfl, rfl, int_is W⟩
    | 1, hs =>
      simp only [twoT, List.getElem?_cons_succ, List.getElem?_cons_zero, Option.some.injEq] at hs
      subst hs
      exact ⟨_, _, _, _, _, _, _, ⟨c1 7, c1 8, c1 9, c1 10, c1 11, c1 12, c1 13⟩, Nat.le_of_lt (by decide), i64s 4 (by omega) (by omega), rfl, rfl, rfl, int_is W⟩
    | i + 2, hs => simp [twoT] at hs
  · have hrow : Row W .i64 none 0 0 [] := ⟨rfl, Nat.le_refl _, by unfold maxLen; omega, .inl rfl⟩
    match i, hs with
    | 0, hs =>
      simp only [twoT, List.getElem?_cons_zero, Option.some.injEq] at hs
      subst hs
      exact ⟨none, 0, ⟨c2 0, c2 1, c2 9⟩, i64s 2 (by omega) (by omega), i64s 0 (by omega) (by omega), ⟨_, _, _, _, _, _, _, ⟨c2 2, c2 3, c2 4, c2 5, c2 6, c2 7, c2 8⟩, Nat.zero_le _, i64s 0 (by omega) (by omega), rfl, rfl, rfl, nil_is W⟩, hrow, by simp⟩
    | 1, hs =>
      simp only [twoT, List.getElem?_cons_succ, List.getElem?_cons_zero, Option.some.injEq] at hs
      subst hs
      exact ⟨none, 0, ⟨c2 10, c2 11, c2 19⟩, i64s 1 (by omega) (by omega), i64s 0 (by omega) (by omega), ⟨_, _, _, _, _, _, _, ⟨c2 12, c2 13, c2 14, c2 15, c2 16, c2 17, c2 18⟩, Nat.le_of_lt (by decide), i64s 5 (by omega) (by omega), rfl, rfl, rfl, nil_is W⟩, hrow, by simp⟩
    | i + 2, hs => simp [twoT] at hs
set_option maxRecDepth 100000 in
set_option maxHeartbeats 4000000 in
theorem refTwo_any (w : World) : Calls Try.prog 9 #[] w fun e w' => (∃ X, e = .returned X ∧ IsTempl w' twoT X) ∧ Below w.heap.size w w' := by
  have hA0 := (Below.refl _ w).alloc (Nat.le_refl _) (.cells #[.string ⟨#[]⟩, .slice none 0 0, .slice none 0 0] 25)
  have hI := refInt03_any 0 (w.alloc (.cells #[.string ⟨#[]⟩, .slice none 0 0, .slice none 0 0] 25))
  go_enter Try.func9, Try.ntmps9
  go_wp2_with (go_at_call 10; (with_reducible refine hI.mono ?_); rintro e w1 ⟨rfl, hB1⟩; have hz : w1.heap[w.heap.size]? = some (.cells #[.string ⟨#[]⟩, .slice none 0 0, .slice none 0 0] 25 (0, 0)) := (hB1.block _ (by simp)).trans (World.alloc_heap_new w _); have hA3 := (((Below.refl _ w1).alloc (Nat.le_refl _) (.cells #[.int .i64 2, .int .i64 0, .string ⟨#[]⟩, .slice none 0 0] 39)).alloc (by simp) (.cells #[.string ⟨#[97]⟩, .int .i64 4, .bool false, .int .i64 2, .int .i64 0, .string ⟨#[]⟩, .slice none 0 0, .string ⟨#[98]⟩, .int .i64 4, .bool true, .int .i64 2, .int .i64 0, .string ⟨#[]⟩, .slice none 0 0] 47)).alloc (by simp; omega) (.cells #[.int .i64 2, .int .i64 0, .string ⟨#[]⟩, .int .i64 0, .bool false, .int .i64 0, .int .i64 0, .string ⟨#[]⟩, .slice none 0 0, .slice none 0 0, .int .i64 1, .int .i64 0, .string ⟨#[99]⟩, .int .i64 5, .bool false, .int .i64 0, .int .i64 0, .string ⟨#[]⟩, .slice none 0 0, .slice none 0 0] 50); obtain ⟨z0, z1, z2, f0, f1, f2⟩ := two_cellsT hz hA3)
  have hC1 := hA0.trans (hB1.mono hA0.size)
  have hA4 := (Below.refl _ w1).alloc (Nat.le_refl _) (.cells #[.int .i64 2, .int .i64 0, .string ⟨#[]⟩, .slice none 0 0] 39)
  have hB5 := World.alloc_heap_new (w1.alloc (.cells #[.int .i64 2, .int .i64 0, .string ⟨#[]⟩, .slice none 0 0] 39)) (.cells #[.string ⟨#[97]⟩, .int .i64 4, .bool false, .int .i64 2, .int .i64 0, .string ⟨#[]⟩, .slice none 0 0, .string ⟨#[98]⟩, .int .i64 4, .bool true, .int .i64 2, .int .i64 0, .string ⟨#[]⟩, .slice none 0 0] 47)
  have hC5 := World.alloc_heap_new ((w1.alloc (.cells #[.int .i64 2, .int .i64 0, .string ⟨#[]⟩, .slice none 0 0] 39)).alloc (.cells #[.string ⟨#[97]⟩, .int .i64 4, .bool false, .int .i64 2, .int .i64 0, .string ⟨#[]⟩, .slice none 0 0, .string ⟨#[98]⟩, .int .i64 4, .bool true, .int .i64 2, .int .i64 0, .string ⟨#[]⟩, .slice none 0 0] 47)) (.cells #[.int .i64 2, .int .i64 0, .string ⟨#[]⟩, .int .i64 0, .bool false, .int .i64 0, .int .i64 0, .string ⟨#[]⟩, .slice none 0 0, .slice none 0 0, .int .i64 1, .int .i64 0, .string ⟨#[99]⟩, .int .i64 5, .bool false, .int .i64 0, .int .i64 0, .string ⟨#[]⟩, .slice none 0 0, .slice none 0 0] 50)
  have hlt : w.heap.size < w1.heap.size := by have := hB1.size; simp at this; omega
  refine bodyPost_ret (results_cell_row Try.results9 _ _ w.heap.size _ _ _ _ rfl (tat_set3 (two_at hz hA3) _ _ _) Try.underlying25 rfl templ_info3) rfl ?_
  refine ⟨⟨_, rfl, two_is _ (w1.heap.size + 1) (w1.heap.size + 1 + 1) ?_ ?_⟩, ?_⟩
  · rw [heap_set10 _ _ _ _ _ (by omega), heap_set10 _ _ _ _ _ (by omega), heap_set10 _ _ _ _ _ (by omega)]
    rw [World.size_alloc] at hB5
    exact (((Below.refl _ _).alloc (Nat.le_refl _) _).block _ (by simp)).trans hB5
  · rw [heap_set10 _ _ _ _ _ (by omega), heap_set10 _ _ _ _ _ (by omega), heap_set10 _ _ _ _ _ (by omega)]
    rw [World.size_alloc, World.size_alloc] at hC5
    exact hC5
  · exact ((((hC1.trans (hA3.mono hC1.size)).setCell (p := ⟨w.heap.size, 0, none⟩) (Nat.le_refl _) _).setCell (p := ⟨w.heap.size, 1, none⟩) (Nat.le_refl _) _).setCell (p := ⟨w.heap.size, 2, none⟩) (Nat.le_refl _) _)
end Go.Proofs.Ytibjjclfonpibaa
