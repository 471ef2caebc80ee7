/- Layer 14: name, number, word. -/
import Derived.Test.YtfapoicnkdallaaMh18Thre
import Derived.Test.YtfapoicnkdallaaMh21Thre
set_option linter.unusedVariables false
set_option linter.unusedSimpArgs false
namespace Go.Proofs.Ytfapoicnkdallaa
open Go.RowKit Go.Shelf
attribute [local go_sem] Oper.semAt_some
/-- what a reader's value comes to; n: how many values have begun, itself too -/
def VtR (p : Nat) (s : ByteArray) (o n : Nat) (w : World) (R : Vt.Out (PV × Nat)) (e : Ending) (w' : World) : Prop := match R with
  | .inl (a, er) => e = .panicked (wrongT (a : Int) er) ∧ w.grownBy w' (some p)
  | .inr (v, q) => (∃ v' d0 d1 d2 a len cap, e = .returned (.agg #[.int .i64 d0, .int .i64 d1, .string d2, .slice a len cap]) ∧ Fresh w.heap.size w' v' (.agg #[.int .i64 d0, .int .i64 d1, .string d2, .slice a len cap]) ∧ (n + szV v ≤ 101 → v' = v)) ∧ RV w' p s q o (n + szV v - 1) ∧ w.grownBy w' (some p)
theorem rv_other4 {W : World} {p b : Nat} {s : ByteArray} {a o n : Nat} (h : RV W p s a o n) (hne : p ≠ b) (d0 d1 d2 d3 : Value) : RV ((((W.setCell ⟨b, 0, none⟩ d0).setCell ⟨b, 1, none⟩ d1).setCell ⟨b, 2, none⟩ d2).setCell ⟨b, 3, none⟩ d3) p s a o n :=
  rv_other (rv_other (rv_other (rv_other h hne 0 d0) hne 1 d1) hne 2 d2) hne 3 d3
theorem vt_end {w W : World} {p : Nat} {s : ByteArray} {q o n : Nat} {v v' : PV} {d0 d1 : Int} {d2 : ByteArray} {a : Option Addr} {len cap : Nat} (hp : p < w.heap.size) (hR : RV W p s q o (n + szV v - 1)) (hG : w.grownBy W (some p))
    (hF : Fresh (w.heap.size + 1) W v' (.agg #[.int .i64 d0, .int .i64 d1, .string d2, .slice a len cap])) (hv : n + szV v ≤ 101 → v' = v) :
    VtR p s o n w (.inr (v, q)) (.returned (.agg #[.int .i64 d0, .int .i64 d1, .string d2, .slice a len cap])) ((((W.setCell ⟨w.heap.size, 0, none⟩ (.int .i64 d0)).setCell ⟨w.heap.size, 1, none⟩ (.int .i64 d1)).setCell ⟨w.heap.size, 2, none⟩ (.string d2)).setCell ⟨w.heap.size, 3, none⟩ (.slice a len cap)) := by
  refine ⟨⟨v', d0, d1, d2, a, len, cap, rfl, fresh_mono (fresh_later hF (by simp) fun b h1 _ => ?_) (Nat.le_succ _), hv⟩, rv_other4 hR (by omega) _ _ _ _, grown_new4 hG (Nat.le_refl _) _ _ _ _ _ _ _ _⟩
  rw [Below.heap_setCell _ _ _ b (by show b ≠ w.heap.size; omega), Below.heap_setCell _ _ _ b (by show b ≠ w.heap.size; omega), Below.heap_setCell _ _ _ b (by show b ≠ w.heap.size; omega), Below.heap_setCell _ _ _ b (by show b ≠ w.heap.size; omega)]
theorem vt_begin {w : World} {p : Nat} {s : ByteArray} {a o n a' o' n' : Nat} (hr : RV w p s a o n) (i : Nat) (c : Value) (h1 : RV (w.setCell ⟨p, i, none⟩ c) p s a' o' n') :
    RV ((w.setCell ⟨p, i, none⟩ c).alloc (.cells vzero 25)) p s a' o' n' ∧ VAt ((w.setCell ⟨p, i, none⟩ c).alloc (.cells vzero 25)) w.heap.size vzero ∧ w.grownBy ((w.setCell ⟨p, i, none⟩ c).alloc (.cells vzero 25)) (some p) ∧ ((w.setCell ⟨p, i, none⟩ c).alloc (.cells vzero 25)).heap.size = w.heap.size + 1 := by
  have hs : (w.setCell ⟨p, i, none⟩ c).heap.size = w.heap.size := by simp
  have hA := (Below.refl (w.setCell ⟨p, i, none⟩ c).heap.size (w.setCell ⟨p, i, none⟩ c)).alloc (Nat.le_refl _) (.cells vzero 25)
  have hz := vat_alloc (w.setCell ⟨p, i, none⟩ c) vzero
  rw [hs] at hz
  exact ⟨rv_below h1 hA, hz, grownV_two (grownV_set w p i c) (grownV_of_below hA _), by rw [World.size_alloc, hs]⟩
theorem vat_kept {W W' : World} {b : Nat} {cs : Array Value} {row : Option Nat} (h : VAt W b cs) (hg : W.grownBy W' row) (hne : some b ≠ row) : VAt W' b cs := (hg.block b (vat_lt h) hne).trans h
abbrev lettersC : ByteArray := ⟨#[65, 66, 67, 68, 69, 70, 71, 72, 73, 74, 75, 76, 77, 78, 79, 80, 81, 82, 83, 84, 85, 86, 87, 88, 89, 90, 97, 98, 99, 100, 101, 102, 103, 104, 105, 106, 107, 108, 109, 110, 111, 112, 113, 114, 115, 116, 117, 118, 119, 120, 121, 122]⟩
abbrev digitsC : ByteArray := ⟨#[48, 49, 50, 51, 52, 53, 54, 55, 56, 57]⟩
abbrev inNamesC : ByteArray := ⟨#[65, 66, 67, 68, 69, 70, 71, 72, 73, 74, 75, 76, 77, 78, 79, 80, 81, 82, 83, 84, 85, 86, 87, 88, 89, 90, 97, 98, 99, 100, 101, 102, 103, 104, 105, 106, 107, 108, 109, 110, 111, 112, 113, 114, 115, 116, 117, 118, 119, 120, 121, 122, 48, 49, 50, 51, 52, 53, 54, 55, 56, 57, 95, 45]⟩
theorem all_bytes {p q : Int → Bool} (h : ((List.range 256).all fun i => p (i : Int) == q (i : Int)) = true) (x : Int) (h0 : 0 ≤ x) (h1 : x ≤ 255) : p x = q x := by
  rw [List.all_eq_true] at h
  have := h x.toNat (by rw [List.mem_range]; omega)
  rw [Int.toNat_of_nonneg h0] at this
  simpa using this
theorem letters_are (x : Int) (h0 : 0 ≤ x) (h1 : x ≤ 255) : (strB lettersC).contains x = letterB x := all_bytes (p := fun x => (strB lettersC).contains x) (q := letterB) (by kernel_rfl) x h0 h1
theorem digits_are (x : Int) (h0 : 0 ≤ x) (h1 : x ≤ 255) : (strB digitsC).contains x = M.isD x := all_bytes (p := fun x => (strB digitsC).contains x) (q := M.isD) (by kernel_rfl) x h0 h1
theorem inNames_are (x : Int) (h0 : 0 ≤ x) (h1 : x ≤ 255) : (strB inNamesC).contains x = withinB x := all_bytes (p := fun x => (strB inNamesC).contains x) (q := withinB) (by kernel_rfl) x h0 h1
theorem part_sub (s : ByteArray) (a q : Nat) : strB (s.extract a q) = Vt.part (strB s) a q := strB_sub s a q
theorem part_nums (s : ByteArray) (a q : Nat) : strOfNums (Vt.part (strB s) a q) = s.extract a q := by rw [← part_sub, strOfNums_strB]
set_option maxRecDepth 100000 in
set_option maxHeartbeats 2000000 in
theorem vname_any (s : ByteArray) (p a o n : Nat) (w : World) (hsm : s.size ≤ 1000000) (hn : 1 ≤ n) (ha : a < s.size) (hr : RV w p s a o n) :
    Calls Try.prog 67 #[.pointer (some ⟨p, 0, none⟩)] w (VtR p s o n w (if nameB (Vt.part (strB s) (a + 1) (Vt.runTo withinB (strB s) (a + 1))) then .inr (.mk 3 0 (strOfNums (Vt.part (strB s) (a + 1) (Vt.runTo withinB (strB s) (a + 1)))) [], Vt.runTo withinB (strB s) (a + 1)) else .inl (a + 1, 2))) := by
  have hpw := rv_lt hr
  obtain ⟨hr1, hz1, hg1, hs1⟩ := vt_begin hr 1 (.int .i64 ((a : Int) + 1)) (rv_atI hr (a + 1) ((a : Int) + 1) (by push_cast; rfl))
  obtain ⟨⟨b0, b1, b2, b3⟩, e1, e2, e3⟩ := rv_cells hr
  obtain ⟨⟨c0, c1, c2, c3⟩, f1, f2, f3⟩ := rv_cells hr1
  have hRun := vrun_any inNamesC withinB inNames_are s p (a + 1) o n _ hsm (by omega) hr1
  have hrl := Vt.runTo_le withinB (strB s) (a + 1) (by rw [strB_len]; omega)
  rw [strB_len] at hrl
  obtain ⟨q, hq⟩ : ∃ q, Vt.runTo withinB (strB s) (a + 1) = q := ⟨_, rfl⟩
  rw [hq] at hRun hrl ⊢
  clear hq
  rw [part_nums, ← part_sub]
  have hN := fun w => isName_any (s.extract (a + 1) q) w (by simp; unfold maxLen; omega)
  have hC := fun w => clone_any (s.extract (a + 1) q) w (by simp; omega)
  have hxs : (s.extract (a + 1) q).size ≤ maxLen := by simp; unfold maxLen; omega
  obtain ⟨x, hx⟩ : ∃ x, s.extract (a + 1) q = x := ⟨_, rfl⟩
  simp only [hx] at hN hC hxs ⊢
  obtain ⟨g, hg⟩ : ∃ g, nameB (strB x) = g := ⟨_, rfl⟩
  simp only [hg] at hN ⊢
  unfold RunR at hRun
  rw [hx] at hRun
  cases g with
  | true =>
    simp only [if_true]
    go_enter Try.func67, Try.ntmps67
    go_wp2_with (first
      | (go_at_call 77; (with_reducible refine hRun.mono ?_); rintro e w1 ⟨rfl, hr2, hg2⟩)
      | (go_at_call 41; (with_reducible refine (hN _).mono ?_); rintro e w2 ⟨rfl, rfl⟩)
      | (go_at_call 78; (with_reducible refine (hC _).mono ?_); rintro e w3 ⟨rfl, hB3⟩; have hz3 := vat_below hB3 (vat_kept hz1 hg2 (fun e => by cases e; omega)); obtain ⟨⟨y0, y1, y2, y3⟩, x0, x1, x2, x3⟩ := box4 hz3))
    refine bodyPost_ret (results_cell_row Try.results67 _ _ w.heap.size _ _ _ _ rfl (vat_set4 hz3 _ _ _ _) Try.underlying25 rfl val4) rfl ?_
    exact vt_end (v := .mk 3 0 x []) hpw (rv_below hr2 hB3) (grownV_two (grownV_two hg1 hg2) (grownV_of_below hB3 _)) (fresh_flat _ _ 3 0 x ⟨by omega, by omega⟩ ⟨by omega, by omega⟩ hxs) (fun _ => rfl)
  | false =>
    simp only [Bool.false_eq_true, if_false]
    go_enter Try.func67, Try.ntmps67
    go_wp2_with (first
      | (go_at_call 77; (with_reducible refine hRun.mono ?_); rintro e w1 ⟨rfl, hr2, hg2⟩)
      | (go_at_call 41; (with_reducible refine (hN _).mono ?_); rintro e w2 ⟨rfl, rfl⟩))
    exact ⟨rfl, rfl, grownV_two hg1 hg2⟩
end Go.Proofs.Ytfapoicnkdallaa
