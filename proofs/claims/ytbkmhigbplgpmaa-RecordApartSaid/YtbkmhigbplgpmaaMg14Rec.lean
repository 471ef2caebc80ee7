/- What a reader reads, without a walk. -/
import Derived.Test.YtbkmhigbplgpmaaMg12Rec
import Derived.Test.YtbkmhigbplgpmaaMg1Rec
import Derived.Test.YtbkmhigbplgpmaaMg0Rec
import Derived.Test.YtbkmhigbplgpmaaMg13Rec
import Derived.RegionTactic
namespace Go.Proofs.Ytbkmhigbplgpmaa
namespace Bn
/-- a reader's state: what is left; none: it is bad -/
abbrev St := Option (List Int)
def lf : St → List Int
  | none => []
  | some l => l
/-- a number of so many bytes -/
def num (n : Nat) : St → Nat × St
  | none => (0, none)
  | some l => if n ≤ l.length then (jn (l.take n), some (l.drop n)) else (0, none)
def rByte (s : St) : Nat × St := num 1 s
def rNum (s : St) : Nat × St := if 2147483647 < (num 4 s).1 then (0, none) else num 4 s
def rLong (s : St) : Int × St := (IntKind.i64.wrap ((num 8 s).1 : Int), (num 8 s).2)
/-- the text of so many bytes -/
def txt (n : Nat) : St → ByteArray × St
  | none => (⟨#[]⟩, none)
  | some l => if n ≤ l.length then (strOfNums (l.take n), some (l.drop n)) else (⟨#[]⟩, none)
def rText (s : St) : ByteArray × St := txt (rNum s).1 (rNum s).2
/-- so many things, one behind the other -/
def rep (g : St → PV × St) : Nat → St → List PV × St
  | 0, s => ([], s)
  | n + 1, s => ((rep g n s).1 ++ [(g (rep g n s).2).1], (g (rep g n s).2).2)
/-- a value, its list's values as told -/
def node (lst : Nat → St → List PV × St) (s : St) : PV × St :=
  if (rByte s).1 = 1 then (.mk 1 (rByte (rByte s).2).1 ⟨#[]⟩ [], (rByte (rByte s).2).2)
  else if (rByte s).1 = 2 then (.mk 2 (rLong (rByte s).2).1 ⟨#[]⟩ [], (rLong (rByte s).2).2)
  else if (rByte s).1 = 3 ∨ (rByte s).1 = 4 then (.mk (rByte s).1 0 (rText (rByte s).2).1 [], (rText (rByte s).2).2)
  else if (rByte s).1 = 5 then (.mk 5 0 ⟨#[]⟩ (lst (rNum (rByte s).2).1 (rNum (rByte s).2).2).1, (lst (rNum (rByte s).2).1 (rNum (rByte s).2).2).2)
  else (.mk (rByte s).1 0 ⟨#[]⟩ [], (rByte s).2)
/-- a list's values, so deep at most -/
def lst (g : Option (St → PV × St)) (n : Nat) (s : St) : List PV × St :=
  match g with
  | none => ([], none)
  | some g => if 20 < n then ([], none) else rep g n s
def get : Nat → St → PV × St
  | 0 => node (lst none)
  | d + 1 => node (lst (some (get d)))
/-- what reads a list's values, so deep at most -/
def getL : Nat → Option (St → PV × St)
  | 0 => none
  | d + 1 => some (get d)
theorem get_node (d : Nat) : get d = node (lst (getL d)) := by cases d <;> rfl
theorem num_lt (n : Nat) (s : St) (h : ∀ x ∈ lf s, 0 ≤ x ∧ x ≤ 255) : (num n s).1 < 256 ^ n := by
  cases s with
  | none => exact Nat.pow_pos (by omega)
  | some l =>
    simp only [num]
    split
    · rename_i hn
      have := jn_lt (l.take n) fun x hx => h x (List.mem_of_mem_take hx)
      rwa [List.length_take, Nat.min_eq_left hn] at this
    · exact Nat.pow_pos (by omega)
theorem num_none (n : Nat) : num n none = (0, none) := rfl
end Bn
end Go.Proofs.Ytbkmhigbplgpmaa

/- Slices of bytes: their parts, as run equations. -/
set_option maxRecDepth 100000
namespace Go.Proofs.Ytbkmhigbplgpmaa
open Go.RowKit Go.Shelf
theorem size_u8 (w : World) : (sizeOf (Try.prog.elem 94)).run Try.prog w = .ok 1 w := by kernel_rfl
theorem row_at {W : World} {a : Option Addr} {n c : Nat} {l : List Int} (h : Row W .u8 a n c l) (q k m : Nat) (hk : q + k ≤ n) (hm : q + k ≤ m) (hc : m ≤ c) : Row W .u8 (if m = q then a else a.map (·.add (q * 1))) k (m - q) ((l.drop q).take k) := by
  obtain ⟨h1, h2, h3, h4⟩ := h
  refine ⟨by simp; omega, by omega, by omega, ?_⟩
  rcases h4 with h0 | ⟨b, off, rfl, hcl⟩
  · exact .inl (by omega)
  · by_cases hmq : m = q
    · exact .inl (by omega)
    · rw [if_neg hmq]
      refine .inr ⟨b, off + q, by simp [Addr.add], fun i hi => ?_⟩
      have := hcl (q + i) (by omega)
      rw [← Nat.add_assoc] at this
      rw [this, List.getElem?_take, if_pos hi, List.getElem?_drop]
/-- b[q:] -/
theorem sub_low (a : Option Addr) (n c q : Nat) (hq : q ≤ n) : ∃ a', (∀ W, (Instr.slice 94 (.slice a n c) (some (.int .i64 (q : Int))) none none).run Try.prog W = .ok (.slice a' (n - q) (c - q)) W) ∧
    ∀ W l, Row W .u8 a n c l → Row W .u8 a' (n - q) (c - q) (l.drop q) := by
  refine ⟨if c = q then a else a.map (·.add (q * 1)), fun W => ?_, fun W l h => ?_⟩
  · have h1 := run_slice_l (P := Try.prog) W 94 a n c Try.underlying94 .i64 (q : Int) (by omega) (by omega)
    rw [size_u8 W] at h1
    simpa [Result.andThen, sliced] using h1
  · have := row_at h q (n - q) c (by omega) (by have := h.2.1; omega) (Nat.le_refl _)
    rwa [List.take_of_length_le (by have := h.1; simp; omega)] at this
/-- .. in the same block -/
theorem sub_low' (a : Option Addr) (n c q : Nat) (hq : q ≤ n) : ∃ a', (∀ W, (Instr.slice 94 (.slice a n c) (some (.int .i64 (q : Int))) none none).run Try.prog W = .ok (.slice a' (n - q) (c - q)) W) ∧
    (∀ W l, Row W .u8 a n c l → Row W .u8 a' (n - q) (c - q) (l.drop q)) ∧ ∀ ad', a' = some ad' → ∃ ad, a = some ad ∧ ad'.block = ad.block := by
  refine ⟨if c = q then a else a.map (·.add (q * 1)), fun W => ?_, fun W l h => ?_, fun ad' e => ?_⟩
  · have h1 := run_slice_l (P := Try.prog) W 94 a n c Try.underlying94 .i64 (q : Int) (by omega) (by omega)
    rw [size_u8 W] at h1
    simpa [Result.andThen, sliced] using h1
  · have := row_at h q (n - q) c (by omega) (by have := h.2.1; omega) (Nat.le_refl _)
    rwa [List.take_of_length_le (by have := h.1; simp; omega)] at this
  · split at e
    · exact ⟨ad', e, rfl⟩
    · cases a with
      | none => simp at e
      | some ad =>
        simp at e
        exact ⟨ad, rfl, by rw [← e]; unfold Addr.add; split <;> rfl⟩
/-- b[:q] -/
theorem sub_high (a : Option Addr) (n c q : Nat) (hq : q ≤ n) (hnc : n ≤ c) : ∃ a', (∀ W, (Instr.slice 94 (.slice a n c) none (some (.int .i64 (q : Int))) none).run Try.prog W = .ok (.slice a' q c) W) ∧
    ∀ W l, Row W .u8 a n c l → Row W .u8 a' q c (l.take q) := by
  refine ⟨if c = 0 then a else a.map (·.add (0 * 1)), fun W => ?_, fun W l h => ?_⟩
  · have h1 := run_slice_h (P := Try.prog) W 94 a n c Try.underlying94 .i64 (q : Int) (by omega) (by omega)
    rw [size_u8 W] at h1
    simpa [Result.andThen, sliced] using h1
  · have := row_at h 0 q c (by omega) (by omega) (Nat.le_refl _)
    simpa using this
/-- b[q:r] -/
theorem sub_both (a : Option Addr) (n c q r : Nat) (hq : q ≤ r) (hr : r ≤ n) (hnc : n ≤ c) : ∃ a', (∀ W, (Instr.slice 94 (.slice a n c) (some (.int .i64 (q : Int))) (some (.int .i64 (r : Int))) none).run Try.prog W = .ok (.slice a' (r - q) (c - q)) W) ∧
    ∀ W l, Row W .u8 a n c l → Row W .u8 a' (r - q) (c - q) ((l.drop q).take (r - q)) := by
  refine ⟨if c = q then a else a.map (·.add (q * 1)), fun W => ?_, fun W l h => ?_⟩
  · have h1 := run_slice_lh (P := Try.prog) W 94 a n c Try.underlying94 .i64 .i64 (q : Int) (r : Int) (by omega) (by omega) (by omega)
    rw [size_u8 W] at h1
    simpa [Result.andThen, sliced] using h1
  · exact row_at h q (r - q) c (by omega) (by omega) (Nat.le_refl _)
theorem conv_row {w : World} {a : Option Addr} {n c : Nat} {l : List Int} (h : Row w .u8 a n c l) : (convert 94 9 (.slice a n c)).run Try.prog w = .ok (.string (strOfNums l)) w := by
  obtain ⟨h1, _, _, h4⟩ := h
  cases a with
  | none =>
    obtain rfl : n = 0 := by rcases h4 with h | ⟨_, _, h, _⟩ <;> first | exact h | cases h
    obtain rfl : l = [] := List.length_eq_zero_iff.1 h1
    exact run_convert_bytes_nil w _ _ Try.underlying94 Try.underlying5 0 c _ Try.underlying9
  | some ad =>
    rcases h4 with rfl | ⟨b, off, e, hc⟩
    · obtain rfl : l = [] := List.length_eq_zero_iff.1 h1
      obtain ⟨b, off, sp⟩ := ad
      rw [run_convert_bytes_string w 94 9 5 _ 0 c Try.underlying94 Try.underlying5 Try.underlying9,
        run_bytesToString w ⟨b, off, sp⟩ 0 c [] (run_loadCells_list (P := Try.prog) w ⟨b, off, sp⟩ [] (by simp))]
      rfl
    · cases e
      exact run_convert_bytes_arg w _ _ Try.underlying94 Try.underlying5 b off n c l h1 (fun i hi => by simpa [List.getD] using hc i hi) _ Try.underlying9
theorem strOf_inj {l r : List Int} (hl : Bytes l) (hr : Bytes r) : (strOfNums l = strOfNums r) ↔ l = r := by
  constructor
  · intro h
    have := congrArg strB h
    have f : ∀ l, Bytes l → ∀ x ∈ l, 0 ≤ x ∧ x ≤ 255 := fun l hl x hx => by
      obtain ⟨i, hi, rfl⟩ := List.getElem_of_mem hx
      have := hl i
      rwa [List.getElem?_eq_getElem hi] at this
    rwa [strB_strOfNums l (f l hl), strB_strOfNums r (f r hr)] at this
  · intro h; rw [h]
end Go.Proofs.Ytbkmhigbplgpmaa

/- Package bin: a reader in memory; Read, Left, Bad, Done, fail; what is taken. -/
namespace Go.Proofs.Ytbkmhigbplgpmaa
open Go.RowKit Go.Shelf
attribute [local go_sem] Oper.semAt_some
theorem grown_refl (W : World) (row : Option Nat) : W.grownBy W row := ⟨rfl, rfl, rfl, Nat.le_refl _, fun _ _ _ => rfl⟩
theorem grown_set1 {W : World} (b i : Nat) (v : Value) : W.grownBy (W.setCell ⟨b, i, none⟩ v) (some b) :=
  ⟨rfl, rfl, rfl, (KeepsWalks.setCell W _ v).size, fun k _ hk => Below.heap_setCell _ _ _ k (fun e => hk (by rw [e]))⟩
theorem grown_then {A C D : World} {row : Option Nat} (h : A.grownBy C row) (k : C.grownBy D row) : A.grownBy D row :=
  ⟨k.os.trans h.os, k.tape.trans h.tape, k.output.trans h.output, Nat.le_trans h.size k.size, fun i hi hne => by rw [k.block i (Nat.lt_of_lt_of_le hi h.size) hne, h.block i hi hne]⟩
theorem grown_of_below {W W' : World} (h : Below W.heap.size W W') (row : Option Nat) : W.grownBy W' row := ⟨h.os, h.tape, h.output, h.size, fun k hk _ => h.block k hk⟩
/-- it leads to a block of bytes, if anywhere -/
def U8 (W : World) (a : Option Addr) : Prop := ∀ ad, a = some ad → ∃ cs fr, W.heap[ad.block]? = some (.cells cs 5 fr)
theorem u8_below {W W' : World} {a : Option Addr} (h : U8 W a) (hb : Below W.heap.size W W') : U8 W' a := fun ad e => by
  obtain ⟨cs, fr, h1⟩ := h ad e
  exact ⟨cs, fr, (hb.block _ (Array.getElem?_eq_some_iff.1 h1).1).trans h1⟩
/-- nothing left, and not bad -/
def Bn.done (s : Bn.St) : Bool := match s with
  | some [] => true
  | _ => false
end Go.Proofs.Ytbkmhigbplgpmaa

/- Package bin: take, of each kind of thing (made by gen_bintake.py: one block, three times). -/
namespace Go.Proofs.Ytbkmhigbplgpmaa
open Go.RowKit Go.Shelf
attribute [local go_sem] Oper.semAt_some
end Go.Proofs.Ytbkmhigbplgpmaa

/- Package bin: a reader's Byte, Num, Long, Text; Read. -/
namespace Go.Proofs.Ytbkmhigbplgpmaa
open Go.RowKit Go.Shelf
attribute [local go_sem] Oper.semAt_some
theorem bytes_take {l : List Int} (h : Bytes l) (n : Nat) : Bytes (l.take n) := by
  intro i
  rw [List.getElem?_take]
  split
  · exact h i
  · simp
theorem jn_small {l : List Int} (h : Bytes l) (n : Nat) (hn : n ≤ l.length) : Bn.jn (l.take n) < 256 ^ n := by
  have := Bn.jn_lt (l.take n) fun x hx => bytes_all h x (List.mem_of_mem_take hx)
  rwa [List.length_take, Nat.min_eq_left hn] at this
end Go.Proofs.Ytbkmhigbplgpmaa

/- Package bin: Read (bytes.Clone). -/
namespace Go.Proofs.Ytbkmhigbplgpmaa
open Go.RowKit Go.Shelf
attribute [local go_sem] Oper.semAt_some
theorem u8_own {w : World} {base : Nat} {a : Option Addr} {n m c : Nat} {xs : List Value} (h : w.ownsRow base 5 1 (.slice a m c) n xs) : U8 w a := fun ad e => by
  subst e
  rcases h.2 with ⟨h1, _⟩ | ⟨g, cap, cur, h1, _, hg, _⟩
  · cases h1
  · cases h1; exact ⟨_, _, hg⟩
end Go.Proofs.Ytbkmhigbplgpmaa
