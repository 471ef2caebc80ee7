/- Layer 6's arithmetic: numbers as bytes, the highest first. No walk. -/
import Derived.Laws.BitsAllLaws
import Derived.Test.YtcicjpdjbfgbhaaDoorMh4Cell
import Derived.Test.YtcicjpdjbfgbhaaDoorMh0Cell
import Derived.Test.YtcicjpdjbfgbhaaDoorMh13Cell
import Derived.Laws.MakeOwn
import Derived.RegionTactic
import Derived.Lib.AppendZeros
import Derived.Lib.SliceRun
import Derived.Test.YtcicjpdjbfgbhaaDoorMh9Cell
import Derived.Test.YtcicjpdjbfgbhaaDoorMh14Cell
import Derived.Test.YtcicjpdjbfgbhaaDoorMh23Cell
namespace Go.Proofs.YtcicjpdjbfgbhaaDoor
namespace Bn
/-- the number of bytes, the highest first -/
def jn (l : List Int) : Nat := l.foldl (fun n x => n * 256 + x.toNat) 0
theorem or64 (a b : Nat) (hb : b < 256) (h : a < 72057594037927936) : bits .or .u64 ((a * 256 : Nat) : Int) (b : Int) = ((a * 256 + b : Nat) : Int) := by
  show IntKind.u64.wrap ((BitVec.ofInt 64 ((a * 256 : Nat) : Int) ||| BitVec.ofInt 64 (b : Int)).toNat : Int) = _
  have e : ∀ n : Nat, n < 18446744073709551616 → (BitVec.ofInt 64 (n : Int)).toNat = n := fun n hn => by simp; omega
  rw [BitVec.toNat_or, e _ (by omega), e _ (by omega), Nat.mul_comm, show (256 : Nat) = 2 ^ 8 from rfl, ← Nat.two_pow_add_eq_or_of_lt (by omega), IntKind.wrap_u64]
  omega
end Bn
end Go.Proofs.YtcicjpdjbfgbhaaDoor

/- What a reader reads, without a walk. -/
namespace Go.Proofs.YtcicjpdjbfgbhaaDoor
namespace Bn
/-- a reader's state: what is left; none: it is bad -/
abbrev St := Option (List Int)
/-- a number of so many bytes -/
def num (n : Nat) : St → Nat × St
  | none => (0, none)
  | some l => if n ≤ l.length then (jn (l.take n), some (l.drop n)) else (0, none)
def rByte (s : St) : Nat × St := num 1 s
def rNum (s : St) : Nat × St := if 2147483647 < (num 4 s).1 then (0, none) else num 4 s
def rLong (s : St) : Int × St := (IntKind.i64.wrap ((num 8 s).1 : Int), (num 8 s).2)
/-- the text of so many bytes -/
def txt (n : Nat) : St → ByteArray × St
  | none => (⟨#[]⟩, none)
  | some l => if n ≤ l.length then (strOfNums (l.take n), some (l.drop n)) else (⟨#[]⟩, none)
def rText (s : St) : ByteArray × St := txt (rNum s).1 (rNum s).2
/-- so many things, one behind the other -/
def rep (g : St → PV × St) : Nat → St → List PV × St
  | 0, s => ([], s)
  | n + 1, s => ((rep g n s).1 ++ [(g (rep g n s).2).1], (g (rep g n s).2).2)
/-- a value, its list's values as told -/
def node (lst : Nat → St → List PV × St) (s : St) : PV × St :=
  if (rByte s).1 = 1 then (.mk 1 (rByte (rByte s).2).1 ⟨#[]⟩ [], (rByte (rByte s).2).2)
  else if (rByte s).1 = 2 then (.mk 2 (rLong (rByte s).2).1 ⟨#[]⟩ [], (rLong (rByte s).2).2)
  else if (rByte s).1 = 3 ∨ (rByte s).1 = 4 then (.mk (rByte s).1 0 (rText (rByte s).2).1 [], (rText (rByte s).2).2)
  else if (rByte s).1 = 5 then (.mk 5 0 ⟨#[]⟩ (lst (rNum (rByte s).2).1 (rNum (rByte s).2).2).1, (lst (rNum (rByte s).2).1 (rNum (rByte s).2).2).2)
  else (.mk (rByte s).1 0 ⟨#[]⟩ [], (rByte s).2)
/-- a list's values, so deep at most -/
def lst (g : Option (St → PV × St)) (n : Nat) (s : St) : List PV × St :=
  match g with
  | none => ([], none)
  | some g => if 20 < n then ([], none) else rep g n s
def get : Nat → St → PV × St
  | 0 => node (lst none)
  | d + 1 => node (lst (some (get d)))
end Bn
end Go.Proofs.YtcicjpdjbfgbhaaDoor

/- Package bin: a reader in memory; Read, Left, Bad, Done, fail; what is taken. -/
namespace Go.Proofs.YtcicjpdjbfgbhaaDoor
open Go.RowKit Go.Shelf
attribute [local go_sem] Oper.semAt_some
/-- nothing left, and not bad -/
def Bn.done (s : Bn.St) : Bool := match s with
  | some [] => true
  | _ => false
end Go.Proofs.YtcicjpdjbfgbhaaDoor

/- Package bin: put, Value. -/
namespace Go.Proofs.YtcicjpdjbfgbhaaDoor
open Go.RowKit Go.Shelf
attribute [local go_sem] Oper.semAt_some
theorem okL_mem {l : List PV} (h : okL l = true) : ∀ x ∈ l, okV x = true := by
  induction l with
  | nil => simp
  | cons y r ih =>
    intro x hx
    simp only [okL, Bool.and_eq_true] at h
    rcases List.mem_cons.1 hx with rfl | hx
    · exact h.1
    · exact ih h.2 x hx
end Go.Proofs.YtcicjpdjbfgbhaaDoor

/- Package bin: node. -/
namespace Go.Proofs.YtcicjpdjbfgbhaaDoor
open Go.RowKit Go.Shelf
attribute [local go_sem] Oper.semAt_some
theorem grown_new {w W : World} {row : Option Nat} (h : w.grownBy W row) {b : Nat} (hb : w.heap.size ≤ b) (i : Nat) (v : Value) : w.grownBy (W.setCell ⟨b, i, none⟩ v) row :=
  ⟨h.os, h.tape, h.output, Nat.le_trans h.size (KeepsWalks.setCell W _ v).size, fun k hk hne => (Below.heap_setCell _ _ _ k (by show k ≠ b; omega)).trans (h.block k hk hne)⟩
theorem grown_new4 {w W : World} {row : Option Nat} (h : w.grownBy W row) {b : Nat} (hb : w.heap.size ≤ b) (i0 i1 i2 i3 : Nat) (d0 d1 d2 d3 : Value) :
    w.grownBy ((((W.setCell ⟨b, i0, none⟩ d0).setCell ⟨b, i1, none⟩ d1).setCell ⟨b, i2, none⟩ d2).setCell ⟨b, i3, none⟩ d3) row :=
  grown_new (grown_new (grown_new (grown_new h hb i0 d0) hb i1 d1) hb i2 d2) hb i3 d3
theorem is_flat' (w : World) (k n : Int) (s : ByteArray) (hk : I64 k) (hn : I64 n) (hs : s.size ≤ maxLen) : Is w (.mk k n s []) (.agg #[.int .i64 k, .int .i64 n, .string s, .slice none 0 0]) := by
  unfold Is
  exact ⟨hk, hn, hs, none, 0, rfl, Nat.le_refl _, by unfold maxLen; omega, .inl rfl⟩
theorem fresh_flat (B : Nat) (w : World) (k n : Int) (s : ByteArray) (hk : I64 k) (hn : I64 n) (hs : s.size ≤ maxLen) : Fresh B w (.mk k n s []) (.agg #[.int .i64 k, .int .i64 n, .string s, .slice none 0 0]) := fun w' _ => is_flat' w' k n s hk hn hs
theorem val4 : (Tryd.prog.info? 24).map (·.size) = some 4 := by
  obtain ⟨i0, hi, hz0, hz1, hz2⟩ := info_parts info_val
  rw [hi]; simp [hz1]
end Go.Proofs.YtcicjpdjbfgbhaaDoor

/- Layer 14: name, number, word. -/
set_option linter.unusedVariables false
set_option linter.unusedSimpArgs false
namespace Go.Proofs.YtcicjpdjbfgbhaaDoor
open Go.RowKit Go.Shelf
attribute [local go_sem] Oper.semAt_some
/-- what a reader's value comes to; n: how many values have begun, itself too -/
def VtR (p : Nat) (s : ByteArray) (o n : Nat) (w : World) (R : Vt.Out (PV × Nat)) (e : Ending) (w' : World) : Prop := match R with
  | .inl (a, er) => e = .panicked (wrongT (a : Int) er) ∧ w.grownBy w' (some p)
  | .inr (v, q) => (∃ v' d0 d1 d2 a len cap, e = .returned (.agg #[.int .i64 d0, .int .i64 d1, .string d2, .slice a len cap]) ∧ Fresh w.heap.size w' v' (.agg #[.int .i64 d0, .int .i64 d1, .string d2, .slice a len cap]) ∧ (n + szV v ≤ 101 → v' = v)) ∧ RV w' p s q o (n + szV v - 1) ∧ w.grownBy w' (some p)
theorem rv_other4 {W : World} {p b : Nat} {s : ByteArray} {a o n : Nat} (h : RV W p s a o n) (hne : p ≠ b) (d0 d1 d2 d3 : Value) : RV ((((W.setCell ⟨b, 0, none⟩ d0).setCell ⟨b, 1, none⟩ d1).setCell ⟨b, 2, none⟩ d2).setCell ⟨b, 3, none⟩ d3) p s a o n :=
  rv_other (rv_other (rv_other (rv_other h hne 0 d0) hne 1 d1) hne 2 d2) hne 3 d3
theorem vt_end {w W : World} {p : Nat} {s : ByteArray} {q o n : Nat} {v v' : PV} {d0 d1 : Int} {d2 : ByteArray} {a : Option Addr} {len cap : Nat} (hp : p < w.heap.size) (hR : RV W p s q o (n + szV v - 1)) (hG : w.grownBy W (some p))
    (hF : Fresh (w.heap.size + 1) W v' (.agg #[.int .i64 d0, .int .i64 d1, .string d2, .slice a len cap])) (hv : n + szV v ≤ 101 → v' = v) :
    VtR p s o n w (.inr (v, q)) (.returned (.agg #[.int .i64 d0, .int .i64 d1, .string d2, .slice a len cap])) ((((W.setCell ⟨w.heap.size, 0, none⟩ (.int .i64 d0)).setCell ⟨w.heap.size, 1, none⟩ (.int .i64 d1)).setCell ⟨w.heap.size, 2, none⟩ (.string d2)).setCell ⟨w.heap.size, 3, none⟩ (.slice a len cap)) := by
  refine ⟨⟨v', d0, d1, d2, a, len, cap, rfl, fresh_mono (fresh_later hF (by simp) fun b h1 _ => ?_) (Nat.le_succ _), hv⟩, rv_other4 hR (by omega) _ _ _ _, grown_new4 hG (Nat.le_refl _) _ _ _ _ _ _ _ _⟩
  rw [Below.heap_setCell _ _ _ b (by show b ≠ w.heap.size; omega), Below.heap_setCell _ _ _ b (by show b ≠ w.heap.size; omega), Below.heap_setCell _ _ _ b (by show b ≠ w.heap.size; omega), Below.heap_setCell _ _ _ b (by show b ≠ w.heap.size; omega)]
theorem vt_begin {w : World} {p : Nat} {s : ByteArray} {a o n a' o' n' : Nat} (hr : RV w p s a o n) (i : Nat) (c : Value) (h1 : RV (w.setCell ⟨p, i, none⟩ c) p s a' o' n') :
    RV ((w.setCell ⟨p, i, none⟩ c).alloc (.cells vzero 24)) p s a' o' n' ∧ VAt ((w.setCell ⟨p, i, none⟩ c).alloc (.cells vzero 24)) w.heap.size vzero ∧ w.grownBy ((w.setCell ⟨p, i, none⟩ c).alloc (.cells vzero 24)) (some p) ∧ ((w.setCell ⟨p, i, none⟩ c).alloc (.cells vzero 24)).heap.size = w.heap.size + 1 := by
  have hs : (w.setCell ⟨p, i, none⟩ c).heap.size = w.heap.size := by simp
  have hA := (Below.refl (w.setCell ⟨p, i, none⟩ c).heap.size (w.setCell ⟨p, i, none⟩ c)).alloc (Nat.le_refl _) (.cells vzero 24)
  have hz := vat_alloc (w.setCell ⟨p, i, none⟩ c) vzero
  rw [hs] at hz
  exact ⟨rv_below h1 hA, hz, grownV_two (grownV_set w p i c) (grownV_of_below hA _), by rw [World.size_alloc, hs]⟩
theorem vat_kept {W W' : World} {b : Nat} {cs : Array Value} {row : Option Nat} (h : VAt W b cs) (hg : W.grownBy W' row) (hne : some b ≠ row) : VAt W' b cs := (hg.block b (vat_lt h) hne).trans h
abbrev lettersC : ByteArray := ⟨#[65, 66, 67, 68, 69, 70, 71, 72, 73, 74, 75, 76, 77, 78, 79, 80, 81, 82, 83, 84, 85, 86, 87, 88, 89, 90, 97, 98, 99, 100, 101, 102, 103, 104, 105, 106, 107, 108, 109, 110, 111, 112, 113, 114, 115, 116, 117, 118, 119, 120, 121, 122]⟩
abbrev digitsC : ByteArray := ⟨#[48, 49, 50, 51, 52, 53, 54, 55, 56, 57]⟩
abbrev inNamesC : ByteArray := ⟨#[65, 66, 67, 68, 69, 70, 71, 72, 73, 74, 75, 76, 77, 78, 79, 80, 81, 82, 83, 84, 85, 86, 87, 88, 89, 90, 97, 98, 99, 100, 101, 102, 103, 104, 105, 106, 107, 108, 109, 110, 111, 112, 113, 114, 115, 116, 117, 118, 119, 120, 121, 122, 48, 49, 50, 51, 52, 53, 54, 55, 56, 57, 95, 45]⟩
theorem all_bytes {p q : Int → Bool} (h : ((List.range 256).all fun i => p (i : Int) == q (i : Int)) = true) (x : Int) (h0 : 0 ≤ x) (h1 : x ≤ 255) : p x = q x := by
  rw [List.all_eq_true] at h
  have := h x.toNat (by rw [List.mem_range]; omega)
  rw [Int.toNat_of_nonneg h0] at this
  simpa using this
theorem letters_are (x : Int) (h0 : 0 ≤ x) (h1 : x ≤ 255) : (strB lettersC).contains x = letterB x := all_bytes (p := fun x => (strB lettersC).contains x) (q := letterB) (by kernel_rfl) x h0 h1
theorem digits_are (x : Int) (h0 : 0 ≤ x) (h1 : x ≤ 255) : (strB digitsC).contains x = M.isD x := all_bytes (p := fun x => (strB digitsC).contains x) (q := M.isD) (by kernel_rfl) x h0 h1
theorem inNames_are (x : Int) (h0 : 0 ≤ x) (h1 : x ≤ 255) : (strB inNamesC).contains x = withinB x := all_bytes (p := fun x => (strB inNamesC).contains x) (q := withinB) (by kernel_rfl) x h0 h1
theorem part_sub (s : ByteArray) (a q : Nat) : strB (s.extract a q) = Vt.part (strB s) a q := strB_sub s a q
theorem part_nums (s : ByteArray) (a q : Nat) : strOfNums (Vt.part (strB s) a q) = s.extract a q := by rw [← part_sub, strOfNums_strB]
set_option maxRecDepth 100000 in
set_option maxHeartbeats 2000000 in
theorem vname_any (s : ByteArray) (p a o n : Nat) (w : World) (hsm : s.size ≤ 1000000) (hn : 1 ≤ n) (ha : a < s.size) (hr : RV w p s a o n) :
    Calls Tryd.prog 83 #[.pointer (some ⟨p, 0, none⟩)] w (VtR p s o n w (if nameB (Vt.part (strB s) (a + 1) (Vt.runTo withinB (strB s) (a + 1))) then .inr (.mk 3 0 (strOfNums (Vt.part (strB s) (a + 1) (Vt.runTo withinB (strB s) (a + 1)))) [], Vt.runTo withinB (strB s) (a + 1)) else .inl (a + 1, 2))) := by
  have hpw := rv_lt hr
  obtain ⟨hr1, hz1, hg1, hs1⟩ := vt_begin hr 1 (.int .i64 ((a : Int) + 1)) (rv_atI hr (a + 1) ((a : Int) + 1) (by push_cast; rfl))
  obtain ⟨⟨b0, b1, b2, b3⟩, e1, e2, e3⟩ := rv_cells hr
  obtain ⟨⟨c0, c1, c2, c3⟩, f1, f2, f3⟩ := rv_cells hr1
  have hRun := vrun_any inNamesC withinB inNames_are s p (a + 1) o n _ hsm (by omega) hr1
  have hrl := Vt.runTo_le withinB (strB s) (a + 1) (by rw [strB_len]; omega)
  rw [strB_len] at hrl
  obtain ⟨q, hq⟩ : ∃ q, Vt.runTo withinB (strB s) (a + 1) = q := ⟨_, rfl⟩
  rw [hq] at hRun hrl ⊢
  clear hq
  rw [part_nums, ← part_sub]
  have hN := fun w => isName_any (s.extract (a + 1) q) w (by simp; unfold maxLen; omega)
  have hC := fun w => clone_any (s.extract (a + 1) q) w (by simp; omega)
  have hxs : (s.extract (a + 1) q).size ≤ maxLen := by simp; unfold maxLen; omega
  obtain ⟨x, hx⟩ : ∃ x, s.extract (a + 1) q = x := ⟨_, rfl⟩
  simp only [hx] at hN hC hxs ⊢
  obtain ⟨g, hg⟩ : ∃ g, nameB (strB x) = g := ⟨_, rfl⟩
  simp only [hg] at hN ⊢
  unfold RunR at hRun
  rw [hx] at hRun
  cases g with
  | true =>
    simp only [if_true]
    go_enter Tryd.func83, Tryd.ntmps83
    go_wp2_with (first
      | (go_at_call 89; (with_reducible refine hRun.mono ?_); rintro e w1 ⟨rfl, hr2, hg2⟩)
      | (go_at_call 37; (with_reducible refine (hN _).mono ?_); rintro e w2 ⟨rfl, rfl⟩)
      | (go_at_call 30; (with_reducible refine (hC _).mono ?_); rintro e w3 ⟨rfl, hB3⟩; have hz3 := vat_below hB3 (vat_kept hz1 hg2 (fun e => by cases e; omega)); obtain ⟨⟨y0, y1, y2, y3⟩, x0, x1, x2, x3⟩ := box4 hz3))
    refine bodyPost_ret (results_cell_row Tryd.results83 _ _ w.heap.size _ _ _ _ rfl (vat_set4 hz3 _ _ _ _) Tryd.underlying24 rfl val4) rfl ?_
    exact vt_end (v := .mk 3 0 x []) hpw (rv_below hr2 hB3) (grownV_two (grownV_two hg1 hg2) (grownV_of_below hB3 _)) (fresh_flat _ _ 3 0 x ⟨by omega, by omega⟩ ⟨by omega, by omega⟩ hxs) (fun _ => rfl)
  | false =>
    simp only [Bool.false_eq_true, if_false]
    go_enter Tryd.func83, Tryd.ntmps83
    go_wp2_with (first
      | (go_at_call 89; (with_reducible refine hRun.mono ?_); rintro e w1 ⟨rfl, hr2, hg2⟩)
      | (go_at_call 37; (with_reducible refine (hN _).mono ?_); rintro e w2 ⟨rfl, rfl⟩))
    exact ⟨rfl, rfl, grownV_two hg1 hg2⟩
end Go.Proofs.YtcicjpdjbfgbhaaDoor
