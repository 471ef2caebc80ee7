/- Layer 14: the reader in memory; within, here, skip, run. -/
import Derived.Test.YtfapoicnkdallaaMh15Thre
import Derived.Test.YtfapoicnkdallaaMh16Thre
set_option linter.unusedVariables false
namespace Go.Proofs.Ytfapoicnkdallaa
open Go.RowKit Go.Shelf
/-- the reader: its text, its place, how many lists are open, how many values have begun -/
def RV (w : World) (p : Nat) (s : ByteArray) (a o n : Nat) : Prop := w.heap[p]? = some (.cells #[.string s, .int .i64 (a : Int), .int .i64 (o : Int), .int .i64 (n : Int)] 41 (0, 0))
theorem rv_lt {w : World} {p : Nat} {s : ByteArray} {a o n : Nat} (h : RV w p s a o n) : p < w.heap.size := (Array.getElem?_eq_some_iff.1 h).1
theorem rv_cells {w : World} {p : Nat} {s : ByteArray} {a o n : Nat} (h : RV w p s a o n) : (w.cell? ⟨p, 0, none⟩ = some (.string s) ∧ w.cell? ⟨p, 1, none⟩ = some (.int .i64 (a : Int)) ∧ w.cell? ⟨p, 2, none⟩ = some (.int .i64 (o : Int)) ∧ w.cell? ⟨p, 3, none⟩ = some (.int .i64 (n : Int))) ∧
    w.frozen? ⟨p, 1, none⟩ = false ∧ w.frozen? ⟨p, 2, none⟩ = false ∧ w.frozen? ⟨p, 3, none⟩ = false := by
  refine ⟨⟨?_, ?_, ?_, ?_⟩, ?_, ?_, ?_⟩ <;> simp [World.cell?, World.frozen?, show w.heap[p]? = _ from h]
theorem rv_kept {w w' : World} {p : Nat} {s : ByteArray} {a o n : Nat} {row : Option Nat} (h : RV w p s a o n) (hg : w.grownBy w' row) (hne : some p ≠ row) : RV w' p s a o n := (hg.block p (rv_lt h) hne).trans h
theorem rv_below {w w' : World} {p : Nat} {s : ByteArray} {a o n : Nat} (h : RV w p s a o n) (hb : Below w.heap.size w w') : RV w' p s a o n := (hb.block p (rv_lt h)).trans h
theorem rv_drew {w : World} {p : Nat} {s : ByteArray} {a o n : Nat} (h : RV w p s a o n) (k : Nat) : RV (w.drewN k) p s a o n := h
theorem rv_set {w : World} {p : Nat} {s : ByteArray} {a o n : Nat} (h : RV w p s a o n) (i : Nat) (c : Value) {cs : Array Value} (hc : cs = (#[.string s, .int .i64 (a : Int), .int .i64 (o : Int), .int .i64 (n : Int)] : Array Value).setIfInBounds i c) : (w.setCell ⟨p, i, none⟩ c).heap[p]? = some (.cells cs 41 (0, 0)) := by
  obtain ⟨hlt, hk⟩ := Array.getElem?_eq_some_iff.1 h
  show (w.heap.modify p _)[p]? = _
  rw [Array.getElem?_eq_getElem (by rw [Array.size_modify]; exact hlt), Array.getElem_modify_self, hk, hc]
  rfl
theorem rv_at {w : World} {p : Nat} {s : ByteArray} {a o n : Nat} (h : RV w p s a o n) (q : Nat) : RV (w.setCell ⟨p, 1, none⟩ (.int .i64 (q : Int))) p s q o n := rv_set h 1 _ rfl
theorem rv_open {w : World} {p : Nat} {s : ByteArray} {a o n : Nat} (h : RV w p s a o n) (q : Nat) : RV (w.setCell ⟨p, 2, none⟩ (.int .i64 (q : Int))) p s a q n := rv_set h 2 _ rfl
theorem rv_nodes {w : World} {p : Nat} {s : ByteArray} {a o n : Nat} (h : RV w p s a o n) (q : Nat) : RV (w.setCell ⟨p, 3, none⟩ (.int .i64 (q : Int))) p s a o q := rv_set h 3 _ rfl
theorem rv_other {W : World} {p b : Nat} {s : ByteArray} {a o n : Nat} (h : RV W p s a o n) (hne : p ≠ b) (i : Nat) (c : Value) : RV (W.setCell ⟨b, i, none⟩ c) p s a o n := (Below.heap_setCell W ⟨b, i, none⟩ c p hne).trans h
theorem grownV_of_below {A B : World} (h : Below A.heap.size A B) (row : Option Nat) : A.grownBy B row := by
  obtain ⟨h1, h2, h3, h4, h5⟩ := h
  exact ⟨h1, h2, h3, h4, fun k hk _ => h5 k hk⟩
theorem grownV_set (W : World) (b i : Nat) (v : Value) : W.grownBy (W.setCell ⟨b, i, none⟩ v) (some b) :=
  ⟨rfl, rfl, rfl, (KeepsWalks.setCell W _ v).size, fun k _ hk => Below.heap_setCell _ _ _ k (fun e => hk (by rw [e]))⟩
theorem grownV_drew (W : World) (k : Nat) (row : Option Nat) : W.grownBy (W.drewN k) row := ⟨rfl, rfl, rfl, Nat.le_refl _, fun _ _ _ => rfl⟩
/-- .. behind what has grown from w on: a block that w had not, or the one that may turn -/
theorem grownV_then {w W V : World} {row row' : Option Nat} (h : w.grownBy W row) (k : W.grownBy V row') (hr : ∀ b, row' = some b → w.heap.size ≤ b ∨ row = some b) : w.grownBy V row := by
  obtain ⟨a1, a2, a3, a4, a5⟩ := h
  obtain ⟨b1, b2, b3, b4, b5⟩ := k
  exact ⟨b1.trans a1, b2.trans a2, b3.trans a3, Nat.le_trans a4 b4, fun j hj hne => (b5 j (by omega) (fun e => by
    rcases hr j e.symm with h | h
    · omega
    · exact hne h.symm)).trans (a5 j hj hne)⟩
theorem grownV_two {w W V : World} {r : Option Nat} (h : w.grownBy W r) (k : W.grownBy V r) : w.grownBy V r := grownV_then h k (fun _ e => .inr e)
theorem grownV_rfl (W : World) (r : Option Nat) : W.grownBy W r := ⟨rfl, rfl, rfl, Nat.le_refl _, fun _ _ _ => rfl⟩
/-- what a reader gives up by -/
def wrongT (a e : Int) : List PanicEntry := [{ v := .iface 50 (.agg #[.int .i64 a, .int .i64 e]), recovered := false }]
theorem vidx_contains (l : List UInt8) (c : UInt8) : 0 ≤ Lib.indexByte l c ↔ c ∈ l := by
  induction l with
  | nil => simp [Lib.indexByte]
  | cons b l ih =>
    have hge := Lib.indexByte_ge l c
    by_cases h : b = c
    · subst h; simp [Lib.indexByte]
    · have h1 : (b == c) = false := by simpa using h
      unfold Lib.indexByte
      rw [h1]
      by_cases h2 : Lib.indexByte l c = -1
      · have h3 : (Lib.indexByte l c == -1) = true := by simpa using h2
        rw [h3]
        have : ¬ c ∈ l := fun hc => by have := ih.2 hc; omega
        simp [this]; exact fun e => h e.symm
      · have h3 : (Lib.indexByte l c == -1) = false := by simpa using h2
        rw [h3]
        have : c ∈ l := ih.1 (by omega)
        simp [this]; omega
theorem vtoU8 (x : Int) (h0 : 0 ≤ x) (h1 : x ≤ 255) : ((x.toNat.toUInt8).toNat : Int) = x := by
  simp [Nat.toUInt8]; omega
theorem vmem_strB (s : ByteArray) (x : Int) (h0 : 0 ≤ x) (h1 : x ≤ 255) : x ∈ strB s ↔ x.toNat.toUInt8 ∈ s.data.toList := by
  unfold strB
  rw [List.mem_map]
  constructor
  · rintro ⟨b, hb, rfl⟩
    have : ((b.toNat : Int)).toNat.toUInt8 = b := by simp [Nat.toUInt8]
    rw [this]; exact hb
  · intro h
    exact ⟨_, h, vtoU8 x h0 h1⟩
theorem vwithin_any (c : ByteArray) (x : Int) (w : World) (h0 : 0 ≤ x) (h1 : x ≤ 255) :
    Calls Try.prog 68 #[.string c, .int .u8 x] w fun e w' => e = .returned (.bool ((strB c).contains x)) ∧ w = w' := by
  have hI := Try.strings_IndexByte c x w
  have hge := Lib.indexByte_ge c.data.toList x.toNat.toUInt8
  have hc := vidx_contains c.data.toList x.toNat.toUInt8
  rw [← vmem_strB c x h0 h1] at hc
  obtain ⟨i, hi⟩ : ∃ i, Lib.indexByte c.data.toList x.toNat.toUInt8 = i := ⟨_, rfl⟩
  rw [hi] at hI hge hc
  clear hi
  obtain ⟨g, hg⟩ : ∃ g, (strB c).contains x = g := ⟨_, rfl⟩
  have hgc : g = true ↔ 0 ≤ i := by rw [← hg, hc, List.contains_iff_mem]
  rw [hg]
  clear hg hc
  have HG := Lib.hid hgc; clear hgc
  go_enter Try.func68, Try.ntmps68
  go_wp2_with (go_at_call 79; (with_reducible refine hI.mono ?_); rintro e w' ⟨rfl, rfl⟩)
  go_ret
  exact ⟨ret_bool (by rw [Bool.eq_iff_iff, HG.out]; simp), rfl⟩
/-- the byte at a place, or that the text ends there -/
def HereR (s : ByteArray) (a : Nat) (w : World) (e : Ending) (w' : World) : Prop := (if a < s.size then e = .returned (.int .u8 ((strB s)[a]?.getD 0)) else e = .panicked (wrongT a 2)) ∧ ∃ k, w' = w.drewN k
set_option maxRecDepth 100000 in
theorem here_any (s : ByteArray) (p a o n : Nat) (w : World) (hsm : s.size ≤ 1000000) (ha : a ≤ s.size) (hr : RV w p s a o n) :
    Calls Try.prog 64 #[.pointer (some ⟨p, 0, none⟩)] w (HereR s a w) := by
  obtain ⟨⟨c0, c1, c2, c3⟩, _⟩ := rv_cells hr
  unfold HereR
  by_cases h : a < s.size
  · simp only [if_pos h]
    have hx := strB_at s a h
    simp only [hx]
    have h1 : ((a : Int) == (s.size : Int)) = false := by simp; omega
    have h2 : (0 : Int) ≤ (a : Int) ∧ (a : Int) < (s.size : Int) := by omega
    clear hx hr
    go_enter Try.func64, Try.ntmps64
    go_wp2
    go_region
    go_wp2
    go_region
    go_wp2
    go_ret
    exact ⟨rfl, 2, rfl⟩
  · simp only [if_neg h]
    have h1 : ((a : Int) == (s.size : Int)) = true := by simp; omega
    clear hr
    go_enter Try.func64, Try.ntmps64
    go_wp2
    go_region
    go_wp2
    exact ⟨rfl, rfl, 1, rfl⟩
end Go.Proofs.Ytfapoicnkdallaa
