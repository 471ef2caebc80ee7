/- What a reader reads, without a walk. -/
import Derived.Test.YtdogdbibhmhooaaGreatMh8Regi
import Derived.Test.YtdogdbibhmhooaaGreatMh0Regi
import Derived.RegionTactic
namespace Go.Proofs.YtdogdbibhmhooaaGreat
namespace Bn
/-- a reader's state: what is left; none: it is bad -/
abbrev St := Option (List Int)
def lf : St → List Int
  | none => []
  | some l => l
/-- a number of so many bytes -/
def num (n : Nat) : St → Nat × St
  | none => (0, none)
  | some l => if n ≤ l.length then (jn (l.take n), some (l.drop n)) else (0, none)
def rByte (s : St) : Nat × St := num 1 s
def rNum (s : St) : Nat × St := if 2147483647 < (num 4 s).1 then (0, none) else num 4 s
def rLong (s : St) : Int × St := (IntKind.i64.wrap ((num 8 s).1 : Int), (num 8 s).2)
/-- the text of so many bytes -/
def txt (n : Nat) : St → ByteArray × St
  | none => (⟨#[]⟩, none)
  | some l => if n ≤ l.length then (strOfNums (l.take n), some (l.drop n)) else (⟨#[]⟩, none)
def rText (s : St) : ByteArray × St := txt (rNum s).1 (rNum s).2
/-- so many things, one behind the other -/
def rep (g : St → PV × St) : Nat → St → List PV × St
  | 0, s => ([], s)
  | n + 1, s => ((rep g n s).1 ++ [(g (rep g n s).2).1], (g (rep g n s).2).2)
/-- a value, its list's values as told -/
def node (lst : Nat → St → List PV × St) (s : St) : PV × St :=
  if (rByte s).1 = 1 then (.mk 1 (rByte (rByte s).2).1 ⟨#[]⟩ [], (rByte (rByte s).2).2)
  else if (rByte s).1 = 2 then (.mk 2 (rLong (rByte s).2).1 ⟨#[]⟩ [], (rLong (rByte s).2).2)
  else if (rByte s).1 = 3 ∨ (rByte s).1 = 4 then (.mk (rByte s).1 0 (rText (rByte s).2).1 [], (rText (rByte s).2).2)
  else if (rByte s).1 = 5 then (.mk 5 0 ⟨#[]⟩ (lst (rNum (rByte s).2).1 (rNum (rByte s).2).2).1, (lst (rNum (rByte s).2).1 (rNum (rByte s).2).2).2)
  else (.mk (rByte s).1 0 ⟨#[]⟩ [], (rByte s).2)
/-- a list's values, so deep at most -/
def lst (g : Option (St → PV × St)) (n : Nat) (s : St) : List PV × St :=
  match g with
  | none => ([], none)
  | some g => if 20 < n then ([], none) else rep g n s
def get : Nat → St → PV × St
  | 0 => node (lst none)
  | d + 1 => node (lst (some (get d)))
/-- what reads a list's values, so deep at most -/
def getL : Nat → Option (St → PV × St)
  | 0 => none
  | d + 1 => some (get d)
theorem get_node (d : Nat) : get d = node (lst (getL d)) := by cases d <;> rfl
theorem num_lt (n : Nat) (s : St) (h : ∀ x ∈ lf s, 0 ≤ x ∧ x ≤ 255) : (num n s).1 < 256 ^ n := by
  cases s with
  | none => exact Nat.pow_pos (by omega)
  | some l =>
    simp only [num]
    split
    · rename_i hn
      have := jn_lt (l.take n) fun x hx => h x (List.mem_of_mem_take hx)
      rwa [List.length_take, Nat.min_eq_left hn] at this
    · exact Nat.pow_pos (by omega)
end Bn
end Go.Proofs.YtdogdbibhmhooaaGreat

/- Slices of bytes: their parts, as run equations. -/
set_option maxRecDepth 100000
namespace Go.Proofs.YtdogdbibhmhooaaGreat
open Go.RowKit Go.Shelf
theorem size_u8 (w : World) : (sizeOf (Tryz.prog.elem 26)).run Tryz.prog w = .ok 1 w := by kernel_rfl
theorem row_at {W : World} {a : Option Addr} {n c : Nat} {l : List Int} (h : Row W .u8 a n c l) (q k m : Nat) (hk : q + k ≤ n) (hm : q + k ≤ m) (hc : m ≤ c) : Row W .u8 (if m = q then a else a.map (·.add (q * 1))) k (m - q) ((l.drop q).take k) := by
  obtain ⟨h1, h2, h3, h4⟩ := h
  refine ⟨by simp; omega, by omega, by omega, ?_⟩
  rcases h4 with h0 | ⟨b, off, rfl, hcl⟩
  · exact .inl (by omega)
  · by_cases hmq : m = q
    · exact .inl (by omega)
    · rw [if_neg hmq]
      refine .inr ⟨b, off + q, by simp [Addr.add], fun i hi => ?_⟩
      have := hcl (q + i) (by omega)
      rw [← Nat.add_assoc] at this
      rw [this, List.getElem?_take, if_pos hi, List.getElem?_drop]
/-- .. in the same block -/
theorem sub_low' (a : Option Addr) (n c q : Nat) (hq : q ≤ n) : ∃ a', (∀ W, (Instr.slice 26 (.slice a n c) (some (.int .i64 (q : Int))) none none).run Tryz.prog W = .ok (.slice a' (n - q) (c - q)) W) ∧
    (∀ W l, Row W .u8 a n c l → Row W .u8 a' (n - q) (c - q) (l.drop q)) ∧ ∀ ad', a' = some ad' → ∃ ad, a = some ad ∧ ad'.block = ad.block := by
  refine ⟨if c = q then a else a.map (·.add (q * 1)), fun W => ?_, fun W l h => ?_, fun ad' e => ?_⟩
  · have h1 := run_slice_l (P := Tryz.prog) W 26 a n c Tryz.underlying26 .i64 (q : Int) (by omega) (by omega)
    rw [size_u8 W] at h1
    simpa [Result.andThen, sliced] using h1
  · have := row_at h q (n - q) c (by omega) (by have := h.2.1; omega) (Nat.le_refl _)
    rwa [List.take_of_length_le (by have := h.1; simp; omega)] at this
  · split at e
    · exact ⟨ad', e, rfl⟩
    · cases a with
      | none => simp at e
      | some ad =>
        simp at e
        exact ⟨ad, rfl, by rw [← e]; unfold Addr.add; split <;> rfl⟩
/-- b[:q] -/
theorem sub_high (a : Option Addr) (n c q : Nat) (hq : q ≤ n) (hnc : n ≤ c) : ∃ a', (∀ W, (Instr.slice 26 (.slice a n c) none (some (.int .i64 (q : Int))) none).run Tryz.prog W = .ok (.slice a' q c) W) ∧
    ∀ W l, Row W .u8 a n c l → Row W .u8 a' q c (l.take q) := by
  refine ⟨if c = 0 then a else a.map (·.add (0 * 1)), fun W => ?_, fun W l h => ?_⟩
  · have h1 := run_slice_h (P := Tryz.prog) W 26 a n c Tryz.underlying26 .i64 (q : Int) (by omega) (by omega)
    rw [size_u8 W] at h1
    simpa [Result.andThen, sliced] using h1
  · have := row_at h 0 q c (by omega) (by omega) (Nat.le_refl _)
    simpa using this
theorem conv_row {w : World} {a : Option Addr} {n c : Nat} {l : List Int} (h : Row w .u8 a n c l) : (convert 26 9 (.slice a n c)).run Tryz.prog w = .ok (.string (strOfNums l)) w := by
  obtain ⟨h1, _, _, h4⟩ := h
  cases a with
  | none =>
    obtain rfl : n = 0 := by rcases h4 with h | ⟨_, _, h, _⟩ <;> first | exact h | cases h
    obtain rfl : l = [] := List.length_eq_zero_iff.1 h1
    exact run_convert_bytes_nil w _ _ Tryz.underlying26 Tryz.underlying5 0 c _ Tryz.underlying9
  | some ad =>
    rcases h4 with rfl | ⟨b, off, e, hc⟩
    · obtain rfl : l = [] := List.length_eq_zero_iff.1 h1
      obtain ⟨b, off, sp⟩ := ad
      rw [run_convert_bytes_string w 26 9 5 _ 0 c Tryz.underlying26 Tryz.underlying5 Tryz.underlying9,
        run_bytesToString w ⟨b, off, sp⟩ 0 c [] (run_loadCells_list (P := Tryz.prog) w ⟨b, off, sp⟩ [] (by simp))]
      rfl
    · cases e
      exact run_convert_bytes_arg w _ _ Tryz.underlying26 Tryz.underlying5 b off n c l h1 (fun i hi => by simpa [List.getD] using hc i hi) _ Tryz.underlying9
end Go.Proofs.YtdogdbibhmhooaaGreat

/- Package bin: a reader in memory; Read, Left, Bad, Done, fail; what is taken. -/
namespace Go.Proofs.YtdogdbibhmhooaaGreat
open Go.RowKit Go.Shelf
attribute [local go_sem] Oper.semAt_some
def RdAt (W : World) (p : Nat) (v : Value) (bad : Bool) : Prop := W.heap[p]? = some (.cells #[v, .bool bad] 69 (0, 0))
theorem rdAt_cells {W : World} {p : Nat} {v : Value} {bad : Bool} (h : RdAt W p v bad) : (W.cell? ⟨p, 0, none⟩ = some v ∧ W.cell? ⟨p, 1, none⟩ = some (.bool bad)) ∧ (W.frozen? ⟨p, 0, none⟩ = false ∧ W.frozen? ⟨p, 1, none⟩ = false) := by
  simp [World.cell?, World.frozen?, show W.heap[p]? = _ from h]
theorem rdAt_lt {W : World} {p : Nat} {v : Value} {bad : Bool} (h : RdAt W p v bad) : p < W.heap.size := (Array.getElem?_eq_some_iff.1 h).1
theorem rdAt_left {W : World} {p : Nat} {v : Value} {bad : Bool} (h : RdAt W p v bad) (v' : Value) : RdAt (W.setCell ⟨p, 0, none⟩ v') p v' bad := by
  obtain ⟨hlt, hk⟩ := Array.getElem?_eq_some_iff.1 h
  show (W.heap.modify p _)[p]? = _
  rw [Array.getElem?_eq_getElem (by rw [Array.size_modify]; exact hlt), Array.getElem_modify_self, hk]
  rfl
theorem rdAt_bad {W : World} {p : Nat} {v : Value} {bad : Bool} (h : RdAt W p v bad) (b : Bool) : RdAt (W.setCell ⟨p, 1, none⟩ (.bool b)) p v b := by
  obtain ⟨hlt, hk⟩ := Array.getElem?_eq_some_iff.1 h
  show (W.heap.modify p _)[p]? = _
  rw [Array.getElem?_eq_getElem (by rw [Array.size_modify]; exact hlt), Array.getElem_modify_self, hk]
  rfl
theorem grown_refl (W : World) (row : Option Nat) : W.grownBy W row := ⟨rfl, rfl, rfl, Nat.le_refl _, fun _ _ _ => rfl⟩
theorem grown_set1 {W : World} (b i : Nat) (v : Value) : W.grownBy (W.setCell ⟨b, i, none⟩ v) (some b) :=
  ⟨rfl, rfl, rfl, (KeepsWalks.setCell W _ v).size, fun k _ hk => Below.heap_setCell _ _ _ k (fun e => hk (by rw [e]))⟩
theorem grown_then {A C D : World} {row : Option Nat} (h : A.grownBy C row) (k : C.grownBy D row) : A.grownBy D row :=
  ⟨k.os.trans h.os, k.tape.trans h.tape, k.output.trans h.output, Nat.le_trans h.size k.size, fun i hi hne => by rw [k.block i (Nat.lt_of_lt_of_le hi h.size) hne, h.block i hi hne]⟩
theorem grown_of_below {W W' : World} (h : Below W.heap.size W W') (row : Option Nat) : W.grownBy W' row := ⟨h.os, h.tape, h.output, h.size, fun k hk _ => h.block k hk⟩
/-- bytes that lie beside a reader -/
theorem row_kept {W W' : World} {p : Nat} {v : Value} {bad : Bool} (h : RdAt W p v bad) (hv : ∀ k x, v ≠ .int k x) (hg : W.grownBy W' (some p)) {a : Option Addr} {n c : Nat} {l : List Int} (hr : Row W .u8 a n c l) : Row W' .u8 a n c l := by
  obtain ⟨h1, h2, h3, h4⟩ := hr
  refine ⟨h1, h2, h3, ?_⟩
  rcases h4 with h4 | ⟨b, off, rfl, hc⟩
  · exact .inl h4
  · refine .inr ⟨b, off, rfl, fun i hi => ?_⟩
    have h0 := hc i hi
    have hbk : b < W.heap.size := by
      simp only [World.cell?] at h0
      rcases Nat.lt_or_ge b W.heap.size with h | h
      · exact h
      · rw [Array.getElem?_eq_none h] at h0; cases h0
    have hne : b ≠ p := by
      rintro rfl
      simp only [World.cell?, show W.heap[b]? = _ from h] at h0
      rcases hx : off + i with _ | _ | x
      · rw [hx] at h0; simp at h0; exact hv _ _ h0
      · rw [hx] at h0; simp at h0
      · rw [hx] at h0; simp at h0
    rw [← h0]
    simp only [World.cell?, hg.block b hbk (by simpa using hne)]
/-- it leads to a block of bytes, if anywhere -/
def U8 (W : World) (a : Option Addr) : Prop := ∀ ad, a = some ad → ∃ cs fr, W.heap[ad.block]? = some (.cells cs 5 fr)
theorem u8_below {W W' : World} {a : Option Addr} (h : U8 W a) (hb : Below W.heap.size W W') : U8 W' a := fun ad e => by
  obtain ⟨cs, fr, h1⟩ := h ad e
  exact ⟨cs, fr, (hb.block _ (Array.getElem?_eq_some_iff.1 h1).1).trans h1⟩
/-- a reader in memory: what it has left -/
def RD (W : World) (p : Nat) (s : Bn.St) : Prop := ∃ a cap, RdAt W p (.slice a (Bn.lf s).length cap) s.isNone ∧ Row W .u8 a (Bn.lf s).length cap (Bn.lf s) ∧ Bytes (Bn.lf s) ∧ U8 W a
/-- what leaves the reader and all blocks of bytes as they are leaves what it has left -/
theorem rd_kept {W W' : World} {p : Nat} {s : Bn.St} (h : RD W p s) (hp : W'.heap[p]? = W.heap[p]?) (hu : ∀ (b : Nat) (cs : Array Value) (fr : Nat × Nat), W.heap[b]? = some (Obj.cells cs 5 fr) → W'.heap[b]? = W.heap[b]?) : RD W' p s := by
  obtain ⟨a, cap, h1, h2, h3, h4⟩ := h
  refine ⟨a, cap, hp.trans h1, ?_, h3, fun ad e => ?_⟩
  · obtain ⟨r1, r2, r3, r4⟩ := h2
    refine ⟨r1, r2, r3, ?_⟩
    rcases r4 with r4 | ⟨b, off, rfl, hc⟩
    · exact .inl r4
    · refine .inr ⟨b, off, rfl, fun i hi => ?_⟩
      obtain ⟨cs, fr, h5⟩ := h4 _ rfl
      rw [← hc i hi]
      simp only [World.cell?, hu b cs fr h5]
  · obtain ⟨cs, fr, h5⟩ := h4 ad e
    exact ⟨cs, fr, (hu _ cs fr h5).trans h5⟩
theorem rd_lt {W : World} {p : Nat} {s : Bn.St} (h : RD W p s) : p < W.heap.size := by
  obtain ⟨a, cap, h1, _⟩ := h
  exact rdAt_lt h1
theorem rd_below {W W' : World} {p : Nat} {s : Bn.St} (h : RD W p s) (hb : Below W.heap.size W W') : RD W' p s := by
  obtain ⟨a, cap, h1, h2, h3, h4⟩ := h
  exact ⟨a, cap, (hb.block p (rdAt_lt h1)).trans h1, row_below h2 hb rfl, h3, u8_below h4 hb⟩
theorem rd_none {W : World} {p : Nat} (h : RdAt W p (.slice none 0 0) true) : RD W p none := ⟨none, 0, h, ⟨rfl, Nat.le_refl _, by unfold maxLen; omega, .inl rfl⟩, fun i => by simp [Bn.lf], fun _ e => by cases e⟩
set_option maxHeartbeats 1000000 in
theorem rdBad_any (p : Nat) (s : Bn.St) (w : World) (h : RD w p s) : Calls Tryz.prog 46 #[.pointer (some ⟨p, 0, none⟩)] w fun e w' => e = .returned (.bool s.isNone) ∧ w = w' := by
  obtain ⟨a, cap, h1, _⟩ := h
  obtain ⟨⟨c0, c1⟩, _⟩ := rdAt_cells h1
  generalize s.isNone = b at *
  clear h1
  go_enter Tryz.func46, Tryz.ntmps46
  go_wp2
  all_goals (go_ret; exact ⟨rfl, rfl⟩)
set_option maxHeartbeats 1000000 in
theorem rdLeft_any (p : Nat) (s : Bn.St) (w : World) (h : RD w p s) : Calls Tryz.prog 24 #[.pointer (some ⟨p, 0, none⟩)] w fun e w' => e = .returned (.int .i64 ((Bn.lf s).length : Int)) ∧ w = w' := by
  have hB := rdBad_any p s w h
  obtain ⟨a, cap, h1, _⟩ := h
  obtain ⟨⟨c0, c1⟩, _⟩ := rdAt_cells h1
  clear h1
  cases s with
  | none =>
    simp only [Option.isNone_none, Bn.lf] at *
    go_enter Tryz.func24, Tryz.ntmps24
    go_wp2_with (first | (go_at_call 46; (with_reducible refine hB.mono ?_); rintro e w' ⟨rfl, rfl⟩))
    all_goals (go_ret; exact ⟨rfl, rfl⟩)
  | some l =>
    simp only [Option.isNone_some, Bn.lf] at *
    go_enter Tryz.func24, Tryz.ntmps24
    go_wp2_with (first | (go_at_call 46; (with_reducible refine hB.mono ?_); rintro e w' ⟨rfl, rfl⟩))
    all_goals (go_ret; exact ⟨rfl, rfl⟩)
/-- nothing left, and not bad -/
def Bn.done (s : Bn.St) : Bool := match s with
  | some [] => true
  | _ => false
set_option maxHeartbeats 1000000 in
theorem rdDone_any (p : Nat) (s : Bn.St) (w : World) (h : RD w p s) : Calls Tryz.prog 41 #[.pointer (some ⟨p, 0, none⟩)] w fun e w' => e = .returned (.bool (Bn.done s)) ∧ w = w' := by
  have hB := rdBad_any p s w h
  have hL := rdLeft_any p s w h
  clear h
  cases s with
  | none =>
    simp only [Option.isNone_none, Bn.lf] at *
    go_enter Tryz.func41, Tryz.ntmps41
    go_wp2_with (first | (go_at_call 46; (with_reducible refine hB.mono ?_); rintro e w' ⟨rfl, rfl⟩) | (go_at_call 24; (with_reducible refine hL.mono ?_); rintro e w' ⟨rfl, rfl⟩))
    all_goals (go_ret; exact ⟨rfl, rfl⟩)
  | some l =>
    simp only [Option.isNone_some, Bn.lf] at *
    have hd : Bn.done (some l) = decide (l.length = 0) := by cases l <;> simp [Bn.done]
    rw [hd]
    have HD := Lib.hid hd; clear hd
    go_enter Tryz.func41, Tryz.ntmps41
    go_wp2_with (first | (go_at_call 46; (with_reducible refine hB.mono ?_); rintro e w' ⟨rfl, rfl⟩) | (go_at_call 24; (with_reducible refine hL.mono ?_); rintro e w' ⟨rfl, rfl⟩))
    all_goals (go_ret; exact ⟨ret_bool (by simp [Bool.beq_eq_decide_eq]), rfl⟩)
set_option maxHeartbeats 1000000 in
theorem rdFail_any (p : Nat) (s : Bn.St) (w : World) (h : RD w p s) : Calls Tryz.prog 124 #[.pointer (some ⟨p, 0, none⟩)] w fun e w' => (∃ v, e = .returned v) ∧ RD w' p none ∧ w.grownBy w' (some p) := by
  obtain ⟨a, cap, h1, _⟩ := h
  obtain ⟨⟨c0, c1⟩, f0, f1⟩ := rdAt_cells h1
  have h2 := rdAt_left h1 (.slice none 0 0)
  obtain ⟨⟨d0, d1⟩, g0, g1⟩ := rdAt_cells h2
  have hE := rdAt_bad h2 true
  have hG := grown_then (grown_set1 (W := w) p 0 (.slice none 0 0)) (grown_set1 p 1 (.bool true))
  generalize s.isNone = b at *
  clear h1 h2
  go_enter Tryz.func124, Tryz.ntmps124
  go_wp2
  refine bodyPost_end (results_none rfl _ _ _) rfl ?_
  exact ⟨⟨_, rfl⟩, rd_none hE, hG⟩
end Go.Proofs.YtdogdbibhmhooaaGreat

/- Package bin: take, of each kind of thing (made by gen_bintake.py: one block, three times). -/
namespace Go.Proofs.YtdogdbibhmhooaaGreat
open Go.RowKit Go.Shelf
attribute [local go_sem] Oper.semAt_some
theorem rd_ahead {W : World} {p : Nat} {l : List Int} {n : Nat} {a a' : Option Addr} {cap c' : Nat} (h1 : RdAt W p (.slice a l.length cap) false) (hr : Row W .u8 a' (l.length - n) c' (l.drop n)) (hb : Bytes l) (hu : U8 W a) (ha : ∀ ad', a' = some ad' → ∃ ad, a = some ad ∧ ad'.block = ad.block) :
    RD (W.setCell ⟨p, 0, none⟩ (.slice a' (l.length - n) c')) p (some (l.drop n)) := by
  refine ⟨a', c', ?_, ?_, ?_, ?_⟩
  · simpa [Bn.lf] using rdAt_left h1 (.slice a' (l.length - n) c')
  · have := row_kept h1 (by intro k x e; cases e) (grown_set1 p 0 (.slice a' (l.length - n) c')) hr
    simpa [Bn.lf] using this
  · intro i
    simp only [Bn.lf, List.getElem?_drop]
    exact hb (n + i)
  · intro ad' e
    obtain ⟨ad, e2, e3⟩ := ha ad' e
    obtain ⟨cs, fr, h5⟩ := hu ad e2
    refine ⟨cs, fr, ?_⟩
    rw [e3, Below.heap_setCell _ _ _ ad.block (fun e4 => ?_)]
    · exact h5
    · rw [e4, show W.heap[p]? = _ from h1] at h5
      cases h5
set_option maxHeartbeats 2000000 in
theorem takeInt_ok (f : Nat) (hf : f = 125 ∨ f = 102) (n : Nat) (x : Int) (ok : Bool) (p : Nat) (l : List Int) (w : World) (h : RD w p (some l)) (hn : n ≤ l.length)
    (hr : ∀ W a c, Row W .u8 a n c (l.take n) → Calls Tryz.prog f #[.slice a n c] W fun e w' => e = .returned (.tuple #[.int .i64 x, .bool ok]) ∧ W = w') :
    Calls Tryz.prog 101 #[.pointer (some ⟨p, 0, none⟩), .int .i64 (n : Int), .func (.func f) #[] #[]] w fun e w' => e = .returned (if ok = true then Value.int .i64 x else Value.int .i64 0) ∧ RD w' p (if ok = true then some (l.drop n) else none) ∧ w.grownBy w' (some p) := by
  have hB := rdBad_any p _ w h
  have hL := rdLeft_any p _ w h
  have hF := rdFail_any p _ w h
  obtain ⟨a, cap, h1, h2, h3, h4⟩ := h
  obtain ⟨⟨c0, c1⟩, f0, f1⟩ := rdAt_cells h1
  simp only [Option.isNone_some, Bn.lf] at *
  obtain ⟨a1, hs1, hr1⟩ := sub_high a l.length cap n hn h2.2.1
  obtain ⟨a2, hs2, hr2, ha2⟩ := sub_low' a l.length cap n hn
  have hcall := hr w a1 cap (hr1 w l h2)
  have hE := rd_ahead h1 (hr2 w l h2) h3 h4 ha2
  have hm := h2.2.2.1
  have hcp := h2.2.1
  unfold maxLen at hm
  clear hr hr1 hr2 h1 h2 h3 h4 ha2
  cases ok with
  | true =>
    simp only [if_true]
    rcases hf with rfl | rfl
    all_goals (
      go_enter Tryz.func101, Tryz.ntmps101
      go_wp2_with (first
        | (go_at_call 24; (with_reducible refine hL.mono ?_); rintro e w' ⟨rfl, rfl⟩)
        | (go_at_call 46; (with_reducible refine hB.mono ?_); rintro e w' ⟨rfl, rfl⟩)
        | (go_at_call 125; (with_reducible refine hcall.mono ?_); rintro e w' ⟨rfl, rfl⟩)
        | (go_at_call 102; (with_reducible refine hcall.mono ?_); rintro e w' ⟨rfl, rfl⟩))
      all_goals (go_ret; exact ⟨rfl, hE, grown_set1 p 0 _⟩))
  | false =>
    simp only [Bool.false_eq_true, if_false]
    rcases hf with rfl | rfl
    all_goals (
      go_enter Tryz.func101, Tryz.ntmps101
      go_wp2_with (first
        | (go_at_call 24; (with_reducible refine hL.mono ?_); rintro e w' ⟨rfl, rfl⟩)
        | (go_at_call 46; (with_reducible refine hB.mono ?_); rintro e w' ⟨rfl, rfl⟩)
        | (go_at_call 124; (with_reducible refine hF.mono ?_); rintro e w' ⟨⟨v, rfl⟩, hN, hG⟩)
        | (go_at_call 125; (with_reducible refine hcall.mono ?_); rintro e w' ⟨rfl, rfl⟩)
        | (go_at_call 102; (with_reducible refine hcall.mono ?_); rintro e w' ⟨rfl, rfl⟩))
      all_goals (go_ret; exact ⟨rfl, hN, hG⟩))
set_option maxHeartbeats 2000000 in
theorem takeInt_short (f : Value) (n : Nat) (p : Nat) (s : Bn.St) (w : World) (h : RD w p s) (hn : s = none ∨ (Bn.lf s).length < n) :
    Calls Tryz.prog 101 #[.pointer (some ⟨p, 0, none⟩), .int .i64 (n : Int), f] w fun e w' => e = .returned (.int .i64 0) ∧ RD w' p none ∧ w.grownBy w' (some p) := by
  have hB := rdBad_any p _ w h
  have hL := rdLeft_any p _ w h
  have hF := rdFail_any p _ w h
  clear h
  cases s with
  | none =>
    simp only [Option.isNone_none, Bn.lf, List.length_nil] at *
    rcases Nat.eq_zero_or_pos n with rfl | h0
    all_goals (
      go_enter Tryz.func101, Tryz.ntmps101
      go_wp2_with (first
        | (go_at_call 24; (with_reducible refine hL.mono ?_); rintro e w' ⟨rfl, rfl⟩)
        | (go_at_call 46; (with_reducible refine hB.mono ?_); rintro e w' ⟨rfl, rfl⟩)
        | (go_at_call 124; (with_reducible refine hF.mono ?_); rintro e w' ⟨⟨v, rfl⟩, hN, hG⟩))
      all_goals (go_ret; exact ⟨rfl, hN, hG⟩))
  | some l =>
    simp only [Option.isNone_some, Bn.lf] at *
    have hlt : l.length < n := by
      rcases hn with h | h
      · cases h
      · exact h
    clear hn
    go_enter Tryz.func101, Tryz.ntmps101
    go_wp2_with (first
      | (go_at_call 24; (with_reducible refine hL.mono ?_); rintro e w' ⟨rfl, rfl⟩)
      | (go_at_call 124; (with_reducible refine hF.mono ?_); rintro e w' ⟨⟨v, rfl⟩, hN, hG⟩))
    all_goals (go_ret; exact ⟨rfl, hN, hG⟩)
set_option maxHeartbeats 2000000 in
theorem takeLong_ok (f : Nat) (hf : f = 149) (n : Nat) (x : Int) (ok : Bool) (p : Nat) (l : List Int) (w : World) (h : RD w p (some l)) (hn : n ≤ l.length)
    (hr : ∀ W a c, Row W .u8 a n c (l.take n) → Calls Tryz.prog f #[.slice a n c] W fun e w' => e = .returned (.tuple #[.int .i64 x, .bool ok]) ∧ W = w') :
    Calls Tryz.prog 148 #[.pointer (some ⟨p, 0, none⟩), .int .i64 (n : Int), .func (.func f) #[] #[]] w fun e w' => e = .returned (if ok = true then Value.int .i64 x else Value.int .i64 0) ∧ RD w' p (if ok = true then some (l.drop n) else none) ∧ w.grownBy w' (some p) := by
  have hB := rdBad_any p _ w h
  have hL := rdLeft_any p _ w h
  have hF := rdFail_any p _ w h
  obtain ⟨a, cap, h1, h2, h3, h4⟩ := h
  obtain ⟨⟨c0, c1⟩, f0, f1⟩ := rdAt_cells h1
  simp only [Option.isNone_some, Bn.lf] at *
  obtain ⟨a1, hs1, hr1⟩ := sub_high a l.length cap n hn h2.2.1
  obtain ⟨a2, hs2, hr2, ha2⟩ := sub_low' a l.length cap n hn
  have hcall := hr w a1 cap (hr1 w l h2)
  have hE := rd_ahead h1 (hr2 w l h2) h3 h4 ha2
  have hm := h2.2.2.1
  have hcp := h2.2.1
  unfold maxLen at hm
  clear hr hr1 hr2 h1 h2 h3 h4 ha2
  cases ok with
  | true =>
    simp only [if_true]
    subst hf
    all_goals (
      go_enter Tryz.func148, Tryz.ntmps148
      go_wp2_with (first
        | (go_at_call 24; (with_reducible refine hL.mono ?_); rintro e w' ⟨rfl, rfl⟩)
        | (go_at_call 46; (with_reducible refine hB.mono ?_); rintro e w' ⟨rfl, rfl⟩)
        | (go_at_call 149; (with_reducible refine hcall.mono ?_); rintro e w' ⟨rfl, rfl⟩))
      all_goals (go_ret; exact ⟨rfl, hE, grown_set1 p 0 _⟩))
  | false =>
    simp only [Bool.false_eq_true, if_false]
    subst hf
    all_goals (
      go_enter Tryz.func148, Tryz.ntmps148
      go_wp2_with (first
        | (go_at_call 24; (with_reducible refine hL.mono ?_); rintro e w' ⟨rfl, rfl⟩)
        | (go_at_call 46; (with_reducible refine hB.mono ?_); rintro e w' ⟨rfl, rfl⟩)
        | (go_at_call 124; (with_reducible refine hF.mono ?_); rintro e w' ⟨⟨v, rfl⟩, hN, hG⟩)
        | (go_at_call 149; (with_reducible refine hcall.mono ?_); rintro e w' ⟨rfl, rfl⟩))
      all_goals (go_ret; exact ⟨rfl, hN, hG⟩))
set_option maxHeartbeats 2000000 in
theorem takeLong_short (f : Value) (n : Nat) (p : Nat) (s : Bn.St) (w : World) (h : RD w p s) (hn : s = none ∨ (Bn.lf s).length < n) :
    Calls Tryz.prog 148 #[.pointer (some ⟨p, 0, none⟩), .int .i64 (n : Int), f] w fun e w' => e = .returned (.int .i64 0) ∧ RD w' p none ∧ w.grownBy w' (some p) := by
  have hB := rdBad_any p _ w h
  have hL := rdLeft_any p _ w h
  have hF := rdFail_any p _ w h
  clear h
  cases s with
  | none =>
    simp only [Option.isNone_none, Bn.lf, List.length_nil] at *
    rcases Nat.eq_zero_or_pos n with rfl | h0
    all_goals (
      go_enter Tryz.func148, Tryz.ntmps148
      go_wp2_with (first
        | (go_at_call 24; (with_reducible refine hL.mono ?_); rintro e w' ⟨rfl, rfl⟩)
        | (go_at_call 46; (with_reducible refine hB.mono ?_); rintro e w' ⟨rfl, rfl⟩)
        | (go_at_call 124; (with_reducible refine hF.mono ?_); rintro e w' ⟨⟨v, rfl⟩, hN, hG⟩))
      all_goals (go_ret; exact ⟨rfl, hN, hG⟩))
  | some l =>
    simp only [Option.isNone_some, Bn.lf] at *
    have hlt : l.length < n := by
      rcases hn with h | h
      · cases h
      · exact h
    clear hn
    go_enter Tryz.func148, Tryz.ntmps148
    go_wp2_with (first
      | (go_at_call 24; (with_reducible refine hL.mono ?_); rintro e w' ⟨rfl, rfl⟩)
      | (go_at_call 124; (with_reducible refine hF.mono ?_); rintro e w' ⟨⟨v, rfl⟩, hN, hG⟩))
    all_goals (go_ret; exact ⟨rfl, hN, hG⟩)
set_option maxHeartbeats 2000000 in
theorem takeStr_ok (f : Nat) (hf : f = 105) (n : Nat) (x : ByteArray) (ok : Bool) (p : Nat) (l : List Int) (w : World) (h : RD w p (some l)) (hn : n ≤ l.length)
    (hr : ∀ W a c, Row W .u8 a n c (l.take n) → Calls Tryz.prog f #[.slice a n c] W fun e w' => e = .returned (.tuple #[.string x, .bool ok]) ∧ W = w') :
    Calls Tryz.prog 104 #[.pointer (some ⟨p, 0, none⟩), .int .i64 (n : Int), .func (.func f) #[] #[]] w fun e w' => e = .returned (if ok = true then Value.string x else Value.string ⟨#[]⟩) ∧ RD w' p (if ok = true then some (l.drop n) else none) ∧ w.grownBy w' (some p) := by
  have hB := rdBad_any p _ w h
  have hL := rdLeft_any p _ w h
  have hF := rdFail_any p _ w h
  obtain ⟨a, cap, h1, h2, h3, h4⟩ := h
  obtain ⟨⟨c0, c1⟩, f0, f1⟩ := rdAt_cells h1
  simp only [Option.isNone_some, Bn.lf] at *
  obtain ⟨a1, hs1, hr1⟩ := sub_high a l.length cap n hn h2.2.1
  obtain ⟨a2, hs2, hr2, ha2⟩ := sub_low' a l.length cap n hn
  have hcall := hr w a1 cap (hr1 w l h2)
  have hE := rd_ahead h1 (hr2 w l h2) h3 h4 ha2
  have hm := h2.2.2.1
  have hcp := h2.2.1
  unfold maxLen at hm
  clear hr hr1 hr2 h1 h2 h3 h4 ha2
  cases ok with
  | true =>
    simp only [if_true]
    subst hf
    all_goals (
      go_enter Tryz.func104, Tryz.ntmps104
      go_wp2_with (first
        | (go_at_call 24; (with_reducible refine hL.mono ?_); rintro e w' ⟨rfl, rfl⟩)
        | (go_at_call 46; (with_reducible refine hB.mono ?_); rintro e w' ⟨rfl, rfl⟩)
        | (go_at_call 105; (with_reducible refine hcall.mono ?_); rintro e w' ⟨rfl, rfl⟩))
      all_goals (go_ret; exact ⟨rfl, hE, grown_set1 p 0 _⟩))
  | false =>
    simp only [Bool.false_eq_true, if_false]
    subst hf
    all_goals (
      go_enter Tryz.func104, Tryz.ntmps104
      go_wp2_with (first
        | (go_at_call 24; (with_reducible refine hL.mono ?_); rintro e w' ⟨rfl, rfl⟩)
        | (go_at_call 46; (with_reducible refine hB.mono ?_); rintro e w' ⟨rfl, rfl⟩)
        | (go_at_call 124; (with_reducible refine hF.mono ?_); rintro e w' ⟨⟨v, rfl⟩, hN, hG⟩)
        | (go_at_call 105; (with_reducible refine hcall.mono ?_); rintro e w' ⟨rfl, rfl⟩))
      all_goals (go_ret; exact ⟨rfl, hN, hG⟩))
set_option maxHeartbeats 2000000 in
theorem takeStr_short (f : Value) (n : Nat) (p : Nat) (s : Bn.St) (w : World) (h : RD w p s) (hn : s = none ∨ (Bn.lf s).length < n) :
    Calls Tryz.prog 104 #[.pointer (some ⟨p, 0, none⟩), .int .i64 (n : Int), f] w fun e w' => e = .returned (.string ⟨#[]⟩) ∧ RD w' p none ∧ w.grownBy w' (some p) := by
  have hB := rdBad_any p _ w h
  have hL := rdLeft_any p _ w h
  have hF := rdFail_any p _ w h
  clear h
  cases s with
  | none =>
    simp only [Option.isNone_none, Bn.lf, List.length_nil] at *
    rcases Nat.eq_zero_or_pos n with rfl | h0
    all_goals (
      go_enter Tryz.func104, Tryz.ntmps104
      go_wp2_with (first
        | (go_at_call 24; (with_reducible refine hL.mono ?_); rintro e w' ⟨rfl, rfl⟩)
        | (go_at_call 46; (with_reducible refine hB.mono ?_); rintro e w' ⟨rfl, rfl⟩)
        | (go_at_call 124; (with_reducible refine hF.mono ?_); rintro e w' ⟨⟨v, rfl⟩, hN, hG⟩))
      all_goals (go_ret; exact ⟨rfl, hN, hG⟩))
  | some l =>
    simp only [Option.isNone_some, Bn.lf] at *
    have hlt : l.length < n := by
      rcases hn with h | h
      · cases h
      · exact h
    clear hn
    go_enter Tryz.func104, Tryz.ntmps104
    go_wp2_with (first
      | (go_at_call 24; (with_reducible refine hL.mono ?_); rintro e w' ⟨rfl, rfl⟩)
      | (go_at_call 124; (with_reducible refine hF.mono ?_); rintro e w' ⟨⟨v, rfl⟩, hN, hG⟩))
    all_goals (go_ret; exact ⟨rfl, hN, hG⟩)
end Go.Proofs.YtdogdbibhmhooaaGreat
