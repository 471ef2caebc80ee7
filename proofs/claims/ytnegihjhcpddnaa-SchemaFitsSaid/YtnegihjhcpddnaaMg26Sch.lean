/- Package bin: node. -/
import Derived.Test.YtnegihjhcpddnaaMg24Sch
import Derived.Test.YtnegihjhcpddnaaValCopyq
namespace Go.Proofs.Ytnegihjhcpddnaa
open Go.RowKit Go.Shelf
attribute [local go_sem] Oper.semAt_some
theorem vat_grown {W W' : World} {b p : Nat} {cs : Array Value} (h : VAt W b cs) (hg : W.grownBy W' (some p)) (hne : b ≠ p) : VAt W' b cs := (hg.block b (vat_lt h) (by simpa using hne)).trans h
theorem grown_new {w W : World} {row : Option Nat} (h : w.grownBy W row) {b : Nat} (hb : w.heap.size ≤ b) (i : Nat) (v : Value) : w.grownBy (W.setCell ⟨b, i, none⟩ v) row :=
  ⟨h.os, h.tape, h.output, Nat.le_trans h.size (KeepsWalks.setCell W _ v).size, fun k hk hne => (Below.heap_setCell _ _ _ k (by show k ≠ b; omega)).trans (h.block k hk hne)⟩
theorem grown_new4 {w W : World} {row : Option Nat} (h : w.grownBy W row) {b : Nat} (hb : w.heap.size ≤ b) (i0 i1 i2 i3 : Nat) (d0 d1 d2 d3 : Value) :
    w.grownBy ((((W.setCell ⟨b, i0, none⟩ d0).setCell ⟨b, i1, none⟩ d1).setCell ⟨b, i2, none⟩ d2).setCell ⟨b, i3, none⟩ d3) row :=
  grown_new (grown_new (grown_new (grown_new h hb i0 d0) hb i1 d1) hb i2 d2) hb i3 d3
theorem grown_alloc {w W : World} {row : Option Nat} (h : w.grownBy W row) (o : Obj) : w.grownBy (W.alloc o) row := grown_then h (grown_of_below ((Below.refl _ W).alloc (Nat.le_refl _) o) row)
theorem is_flat' (w : World) (k n : Int) (s : ByteArray) (hk : I64 k) (hn : I64 n) (hs : s.size ≤ maxLen) : Is w (.mk k n s []) (.agg #[.int .i64 k, .int .i64 n, .string s, .slice none 0 0]) := by
  unfold Is
  exact ⟨hk, hn, hs, none, 0, rfl, Nat.le_refl _, by unfold maxLen; omega, .inl rfl⟩
theorem fresh_flat (B : Nat) (w : World) (k n : Int) (s : ByteArray) (hk : I64 k) (hn : I64 n) (hs : s.size ≤ maxLen) : Fresh B w (.mk k n s []) (.agg #[.int .i64 k, .int .i64 n, .string s, .slice none 0 0]) := fun w' _ => is_flat' w' k n s hk hn hs
theorem txt_size {n : Nat} {s : Bn.St} (h : (Bn.lf s).length ≤ maxLen) : (Bn.txt n s).1.size ≤ maxLen := by
  cases s with
  | none => simp [Bn.txt, ByteArray.size]
  | some l =>
    simp only [Bn.txt, Bn.lf] at *
    split
    · have : (strOfNums (l.take n)).size = (l.take n).length := by simp [strOfNums, ByteArray.size]
      rw [this, List.length_take]; omega
    · simp [ByteArray.size]
theorem num_len (n : Nat) (s : Bn.St) : (Bn.lf (Bn.num n s).2).length ≤ (Bn.lf s).length := by
  cases s with
  | none => simp [Bn.num, Bn.lf]
  | some l =>
    simp only [Bn.num]
    split <;> simp [Bn.lf]
theorem rNum_len (s : Bn.St) : (Bn.lf (Bn.rNum s).2).length ≤ (Bn.lf s).length := by
  unfold Bn.rNum
  split
  · simp [Bn.lf]
  · exact num_len 4 s
theorem rLong_bd (s : Bn.St) : I64 (Bn.rLong s).1 := by
  unfold Bn.rLong I64
  rw [IntKind.wrap_i64]
  constructor <;> (show _ ≤ _; omega)
theorem val4 : (Try.prog.info? 24).map (·.size) = some 4 := by
  obtain ⟨i0, hi, hz0, hz1, hz2⟩ := info_parts info_val
  rw [hi]; simp [hz1]
end Go.Proofs.Ytnegihjhcpddnaa

/- Package bin: list; node of every depth. -/
namespace Go.Proofs.Ytnegihjhcpddnaa
open Go.RowKit Go.Shelf
attribute [local go_sem] Oper.semAt_some
theorem rep_len (g : Bn.St → PV × Bn.St) (n : Nat) (s : Bn.St) : (Bn.rep g n s).1.length = n := by
  induction n with
  | zero => rfl
  | succ n ih => simp [Bn.rep, ih]
/-- values that lie in a block of the call's own: so many are there -/
def Filled (g : Nat) (n : Nat) (xs : List PV) (wr : World) : Prop :=
  ∃ C, VAt wr g C ∧ C.size = n * 4 ∧ ∀ (i : Nat) (y : PV), xs[i]? = some y → ∃ c0 c1 c2 c3, (C[i * 4]? = some c0 ∧ C[i * 4 + 1]? = some c1 ∧ C[i * 4 + 2]? = some c2 ∧ C[i * 4 + 3]? = some c3) ∧ Fresh (g + 1) wr y (.agg #[c0, c1, c2, c3])
theorem filled_step {g n q : Nat} {xs : List PV} {wr w' : World} {y : PV} {d0 d1 d2 d3 : Value} {p : Nat} (h : Filled g n xs wr) (hp : p < g) (hg : wr.grownBy w' (some p)) (hq : xs.length = q) (hn : q < n) (hf : Fresh (g + 1) w' y (.agg #[d0, d1, d2, d3])) :
    Filled g n (xs ++ [y]) ((((w'.setCell ⟨g, q * 4, none⟩ d0).setCell ⟨g, q * 4 + 1, none⟩ d1).setCell ⟨g, q * 4 + 2, none⟩ d2).setCell ⟨g, q * 4 + 3, none⟩ d3) := by
  obtain ⟨C, c1, c2, c3⟩ := h
  have c1' := vat_grown c1 hg (by omega)
  have hset : ∀ b, g + 1 ≤ b → (((((w'.setCell ⟨g, q * 4, none⟩ d0).setCell ⟨g, q * 4 + 1, none⟩ d1).setCell ⟨g, q * 4 + 2, none⟩ d2).setCell ⟨g, q * 4 + 3, none⟩ d3).heap[b]? = w'.heap[b]?) := fun b hb' => by
    rw [Below.heap_setCell _ _ _ b (by show b ≠ g; omega), Below.heap_setCell _ _ _ b (by show b ≠ g; omega), Below.heap_setCell _ _ _ b (by show b ≠ g; omega), Below.heap_setCell _ _ _ b (by show b ≠ g; omega)]
  have hss : ((((w'.setCell ⟨g, q * 4, none⟩ d0).setCell ⟨g, q * 4 + 1, none⟩ d1).setCell ⟨g, q * 4 + 2, none⟩ d2).setCell ⟨g, q * 4 + 3, none⟩ d3).heap.size = w'.heap.size := by simp
  refine ⟨_, vat_set (vat_set (vat_set (vat_set c1' _ d0) _ d1) _ d2) _ d3, by simp [c2], fun i z hz => ?_⟩
  rcases Nat.lt_or_ge i q with hlt | hge
  · rw [List.getElem?_append_left (by omega)] at hz
    obtain ⟨e0, e1, e2, e3, ⟨u0, u1, u2, u3⟩, hfr⟩ := c3 i z hz
    refine ⟨e0, e1, e2, e3, ⟨?_, ?_, ?_, ?_⟩, fresh_later (fresh_later hfr hg.size (fun b h1 h2 => hg.block b h2 (by simp; omega))) (by rw [hss]; exact Nat.le_refl _) fun b h1 _ => hset b h1⟩
    · rw [Array.getElem?_setIfInBounds_ne (by omega), Array.getElem?_setIfInBounds_ne (by omega), Array.getElem?_setIfInBounds_ne (by omega), Array.getElem?_setIfInBounds_ne (by omega), u0]
    · rw [Array.getElem?_setIfInBounds_ne (by omega), Array.getElem?_setIfInBounds_ne (by omega), Array.getElem?_setIfInBounds_ne (by omega), Array.getElem?_setIfInBounds_ne (by omega), u1]
    · rw [Array.getElem?_setIfInBounds_ne (by omega), Array.getElem?_setIfInBounds_ne (by omega), Array.getElem?_setIfInBounds_ne (by omega), Array.getElem?_setIfInBounds_ne (by omega), u2]
    · rw [Array.getElem?_setIfInBounds_ne (by omega), Array.getElem?_setIfInBounds_ne (by omega), Array.getElem?_setIfInBounds_ne (by omega), Array.getElem?_setIfInBounds_ne (by omega), u3]
  · have hil : i < (xs ++ [y]).length := (List.getElem?_eq_some_iff.1 hz).1
    rw [List.length_append, hq] at hil
    simp only [List.length_cons, List.length_nil] at hil
    obtain rfl : i = q := by omega
    rw [List.getElem?_append_right (by omega), hq, Nat.sub_self] at hz
    simp at hz
    subst hz
    refine ⟨d0, d1, d2, d3, ⟨?_, ?_, ?_, ?_⟩, fresh_later hf (by rw [hss]; exact Nat.le_refl _) fun b h1 _ => hset b h1⟩
    · rw [Array.getElem?_setIfInBounds_ne (by omega), Array.getElem?_setIfInBounds_ne (by omega), Array.getElem?_setIfInBounds_ne (by omega), Array.getElem?_setIfInBounds_self_of_lt (by omega)]
    · rw [Array.getElem?_setIfInBounds_ne (by omega), Array.getElem?_setIfInBounds_ne (by omega), Array.getElem?_setIfInBounds_self_of_lt (by simp; omega)]
    · rw [Array.getElem?_setIfInBounds_ne (by omega), Array.getElem?_setIfInBounds_self_of_lt (by simp; omega)]
    · rw [Array.getElem?_setIfInBounds_self_of_lt (by simp; omega)]
theorem filled_isL {g n : Nat} {xs : List PV} {wr w2 : World} (h : Filled g n xs wr) (ha : ∀ b : Nat, g ≤ b → b < wr.heap.size → w2.heap[b]? = wr.heap[b]?) : IsL w2 g xs 0 := by
  obtain ⟨C, c1, c2, c3⟩ := h
  have c1' : VAt w2 g C := (ha g (Nat.le_refl _) (vat_lt c1)).trans c1
  refine isL_of fun i y hy => ?_
  obtain ⟨e0, e1, e2, e3, ⟨u0, u1, u2, u3⟩, hf⟩ := c3 i y hy
  rw [Nat.zero_add]
  exact ⟨e0, e1, e2, e3, ⟨vat_cell c1' _ _ u0, vat_cell c1' _ _ u1, vat_cell c1' _ _ u2, vat_cell c1' _ _ u3⟩, hf w2 fun b h1 h2 => ha b (by omega) h2⟩
theorem is_form {w : World} {v : PV} {x : Value} (h : Is w v x) : ∃ (k n : Int) (s : ByteArray) (a : Option Addr) (len cap : Nat), x = .agg #[.int .i64 k, .int .i64 n, .string s, .slice a len cap] := by
  cases v with
  | mk k n s l =>
  unfold Is at h
  obtain ⟨_, _, _, a, cap, e, _⟩ := h
  exact ⟨_, _, _, _, _, _, e⟩
end Go.Proofs.Ytnegihjhcpddnaa
