/- Values made: Symbol, Int, Clone, Copy. -/
import Derived.Test.YtibjjclfonpibaaGreatMh0Cast
import Derived.Lib.UnsafeStr
import Derived.Lib.Strings
import Derived.Lib.BufferWrite
import Derived.Laws.MakeOwn
import Derived.Deep.RegionHeld3
import Derived.Deep.DeepCutAuto
namespace Go.Proofs.YtibjjclfonpibaaGreat
open Go.RowKit Go.Shelf
set_option maxRecDepth 100000 in
set_option maxHeartbeats 4000000 in
theorem sclone_any (s : ByteArray) (w : World) (hs : s.size ≤ 140737488355328) :
    Calls Tryz.prog 102 #[.string s] w fun e w' => e = .returned (.string s) ∧ Below w.heap.size w w' := by
  by_cases h0 : s.size = 0
  · obtain rfl : s = ⟨#[]⟩ := ByteArray.ext (Array.eq_empty_of_size_eq_zero h0)
    go_enter Tryz.func102, Tryz.ntmps102
    go_wp2
    go_ret
    exact ⟨rfl, Below.refl _ _⟩
  · have hd : ((s.size : Int) == 0) = false := beq_eq_false_iff_ne.2 (by omega)
    obtain ⟨i0, hi, hz0, hz1, hz2⟩ := info_parts info_u8
    have hls : s.data.toList.length = s.size := by simp
    have hsz : (madeCells (Value.int .u8 0).cells (((s.size : Nat) : Int).toNat * i0.size)).size = s.size := by rw [size_madeCells, hz1]; simp
    have hmk : ∀ W : World, (Instr.makeSlice 122 (.int .i64 (s.size : Int)) (.int .i64 (s.size : Int))).run Tryz.prog W =
        .ok (.slice (some ⟨W.heap.size, 0, none⟩) s.size s.size) (W.alloc (.cells (madeCells (Value.int .u8 0).cells (((s.size : Nat) : Int).toNat * i0.size)) 5)) := fun W => by
      have h := run_make (P := Tryz.prog) W 122 5 i0 (.int .u8 0) Tryz.underlying122 hi hz0 .i64 .i64 (s.size : Int) (s.size : Int) (by omega) (by omega) (by rw [hz2]; omega) (by omega)
      simpa using h
    generalize (madeCells (Value.int .u8 0).cells (((s.size : Nat) : Int).toNat * i0.size)) = M at hsz hmk
    have hcp := Lib.run_copy_row_string (P := Tryz.prog) (w.alloc (.cells M 5)) 122 9 3 5 w.heap.size 0 s.size s.size s M 5 Tryz.underlying122 (by rw [hi]; simp [hz1]) (heap_alloc_new w _) (Nat.le_refl _) (by omega)
    have hY : (M.toList.take 0 ++ Lib.byteCells s.data.toList ++ M.toList.drop (0 + s.size)) = Lib.byteCells s.data.toList := by
      rw [List.take_zero, List.nil_append, List.drop_of_length_le (by rw [Array.length_toList]; omega), List.append_nil]
    rw [hY] at hcp
    have hg := setRow_heap (w.alloc (.cells M 5)) _ M (Lib.byteCells s.data.toList).toArray 5 (0, 0) (heap_alloc_new w _)
    have hus := Lib.run_unsafeString_row (P := Tryz.prog) ((w.alloc (.cells M 5)).setRow w.heap.size (Lib.byteCells s.data.toList).toArray) 136 3 9 5 Tryz.underlying136 (by simp [Program.cellsOf, hi, hz1]) w.heap.size s.size (by unfold World.shape?; rw [hg]; simp [Lib.byteCells_length, hls]) s.data.toList
      (fun e => h0 (by rw [← hls, e]; rfl)) (by omega) (by omega)
      (fun j x hx => Lib.cells_of_row hg s.size j _ (by rw [List.take_of_length_le (by rw [List.toList_toArray, Lib.byteCells_length, hls]; exact Nat.le_refl _), List.toList_toArray]; simp [Lib.byteCells, hx]))
    rw [hls] at hus
    have hB1 := (Below.refl w.heap.size w).alloc (Nat.le_refl _) (.cells M 5)
    have hB2 : Below w.heap.size (w.alloc (.cells M 5)) ((w.alloc (.cells M 5)).setRow w.heap.size (Lib.byteCells s.data.toList).toArray) := ⟨rfl, rfl, rfl, by simp, fun k hk => setRow_other _ _ _ _ (by omega)⟩
    clear hg hY hsz
    go_enter Tryz.func102, Tryz.ntmps102
    go_wp2
    go_ret
    exact ⟨rfl, Lib.below_freeze (hB1.trans hB2) (p := ⟨w.heap.size, 0, none⟩) (Nat.le_refl _) _⟩
theorem clone_any (s : ByteArray) (w : World) (hs : s.size ≤ 140737488355328) :
    Calls Tryz.prog 84 #[.string s] w fun e w' => e = .returned (.string s) ∧ Below w.heap.size w w' := by
  have hc := fun w => sclone_any s w hs
  go_enter Tryz.func84, Tryz.ntmps84
  go_wp2_with (first | (go_at_call 102; (with_reducible refine (hc _).mono ?_); rintro e w' ⟨rfl, hb⟩))
  go_ret
  exact ⟨rfl, hb⟩
theorem cell_alloc {w : World} {o : Obj} {p : Addr} {c : Value} (h : w.cell? p = some c) : (w.alloc o).cell? p = some c := cell_below ((Below.refl _ w).alloc (Nat.le_refl _) o) h
/-- reads as that value wherever what lies from B on is as it is -/
def Fresh (B : Nat) (w : World) (v : PV) (x : Value) : Prop := ∀ w', (∀ b, B ≤ b → b < w.heap.size → w'.heap[b]? = w.heap[b]?) → Is w' v x
theorem fresh_mono {B B' : Nat} {w : World} {v : PV} {x : Value} (h : Fresh B w v x) (hb : B' ≤ B) : Fresh B' w v x := fun w' h' => h w' fun b h1 h2 => h' b (Nat.le_trans hb h1) h2
theorem fresh_later {B : Nat} {w w1 : World} {v : PV} {x : Value} (h : Fresh B w v x) (hs : w.heap.size ≤ w1.heap.size) (hb : ∀ b, B ≤ b → b < w.heap.size → w1.heap[b]? = w.heap[b]?) : Fresh B w1 v x :=
  fun w' h' => h w' fun b h1 h2 => (h' b h1 (by omega)).trans (hb b h1 h2)
/-- right values' texts are short, and so are their lists -/
def small : PV → Prop
  | .mk _ _ s l => s.size ≤ 140737488355328 ∧ l.length ≤ 1000 ∧ smallL l
where smallL : List PV → Prop
  | [] => True
  | x :: r => small x ∧ smallL r
theorem small_mem {l : List PV} (h : small.smallL l) : ∀ x ∈ l, small x := by
  induction l with
  | nil => simp
  | cons y r ih =>
    intro x hx
    unfold small.smallL at h
    rcases List.mem_cons.1 hx with rfl | hx
    · exact h.1
    · exact ih h.2 x hx
/-- what a copy is: new memory, the same -/
def Copied (B : Nat) (w : World) (v : PV) (x : Value) : Prop := Fresh B w v x ∧
  match v with
  | .mk k n s l => ∃ a, x = .agg #[.int .i64 k, .int .i64 n, .string s, .slice a l.length l.length] ∧ (l = [] ∧ a = none ∨ l ≠ [] ∧ ∃ g C, a = some ⟨g, 0, none⟩ ∧ B ≤ g ∧ w.heap[g]? = some (.cells C 42 (0, 0)) ∧ C.size = l.length * 4 ∧
      ∀ i y, l[i]? = some y → ∃ c0 c1 c2 c3, C[i * 4]? = some c0 ∧ C[i * 4 + 1]? = some c1 ∧ C[i * 4 + 2]? = some c2 ∧ C[i * 4 + 3]? = some c3 ∧ Fresh (g + 1) w y (.agg #[c0, c1, c2, c3]))
/-- cells of values' fields, all of them -/
def VAt (W : World) (b : Nat) (cs : Array Value) : Prop := W.heap[b]? = some (.cells cs 42 (0, 0))
theorem vat_lt {W : World} {b : Nat} {cs : Array Value} (h : VAt W b cs) : b < W.heap.size := (Array.getElem?_eq_some_iff.1 h).1
theorem vat_cell {W : World} {b : Nat} {cs : Array Value} (h : VAt W b cs) (i : Nat) (c : Value) (hc : cs[i]? = some c) : W.cell? ⟨b, i, none⟩ = some c := by
  simp [World.cell?, show W.heap[b]? = _ from h, hc]
theorem vat_frozen {W : World} {b : Nat} {cs : Array Value} (h : VAt W b cs) (i : Nat) : W.frozen? ⟨b, i, none⟩ = false := by simp [World.frozen?, show W.heap[b]? = _ from h]
theorem vat_below {W W' : World} {b : Nat} {cs : Array Value} (hb : Below W.heap.size W W') (h : VAt W b cs) : VAt W' b cs := (hb.block b (vat_lt h)).trans h
theorem vat_alloc_drew (W : World) (cs : Array Value) : VAt ((W.alloc (.cells cs 42)).drew) W.heap.size cs := World.alloc_heap_new W _
theorem vat_alloc (W : World) (cs : Array Value) : VAt (W.alloc (.cells cs 42)) W.heap.size cs := World.alloc_heap_new W _
theorem vat_set {W : World} {b : Nat} {cs : Array Value} (h : VAt W b cs) (i : Nat) (c : Value) : VAt (W.setCell ⟨b, i, none⟩ c) b (cs.setIfInBounds i c) := by
  obtain ⟨hlt, hk⟩ := Array.getElem?_eq_some_iff.1 h
  show (W.heap.modify b _)[b]? = _
  rw [Array.getElem?_eq_getElem (by rw [Array.size_modify]; exact hlt), Array.getElem_modify_self, hk]
  rfl
theorem vat_other {W : World} {b b' : Nat} {cs : Array Value} (h : VAt W b cs) (hne : b ≠ b') (i : Nat) (c : Value) : VAt (W.setCell ⟨b', i, none⟩ c) b cs := (Below.heap_setCell W ⟨b', i, none⟩ c b hne).trans h
theorem box4 {W : World} {b : Nat} {c0 c1 c2 c3 : Value} (h : VAt W b #[c0, c1, c2, c3]) : (W.cell? ⟨b, 0, none⟩ = some c0 ∧ W.cell? ⟨b, 1, none⟩ = some c1 ∧ W.cell? ⟨b, 2, none⟩ = some c2 ∧ W.cell? ⟨b, 3, none⟩ = some c3) ∧
    (W.frozen? ⟨b, 0, none⟩ = false ∧ W.frozen? ⟨b, 1, none⟩ = false ∧ W.frozen? ⟨b, 2, none⟩ = false ∧ W.frozen? ⟨b, 3, none⟩ = false) :=
  ⟨⟨vat_cell h 0 _ rfl, vat_cell h 1 _ rfl, vat_cell h 2 _ rfl, vat_cell h 3 _ rfl⟩, vat_frozen h 0, vat_frozen h 1, vat_frozen h 2, vat_frozen h 3⟩
theorem vat_set4 {W : World} {b : Nat} {c0 c1 c2 c3 : Value} (h : VAt W b #[c0, c1, c2, c3]) (d0 d1 d2 d3 : Value) :
    VAt ((((W.setCell ⟨b, 0, none⟩ d0).setCell ⟨b, 1, none⟩ d1).setCell ⟨b, 2, none⟩ d2).setCell ⟨b, 3, none⟩ d3) b #[d0, d1, d2, d3] :=
  vat_set (vat_set (vat_set (vat_set h 0 d0) 1 d1) 2 d2) 3 d3
theorem vat_other4 {W : World} {b b' : Nat} {cs : Array Value} (h : VAt W b cs) (hne : b ≠ b') (i0 i1 i2 i3 : Nat) (d0 d1 d2 d3 : Value) :
    VAt ((((W.setCell ⟨b', i0, none⟩ d0).setCell ⟨b', i1, none⟩ d1).setCell ⟨b', i2, none⟩ d2).setCell ⟨b', i3, none⟩ d3) b cs :=
  vat_other (vat_other (vat_other (vat_other h hne i0 d0) hne i1 d1) hne i2 d2) hne i3 d3
theorem below_set4 {B : Nat} {w W : World} (h : Below B w W) {b : Nat} (hb : B ≤ b) (i0 i1 i2 i3 : Nat) (d0 d1 d2 d3 : Value) :
    Below B w ((((W.setCell ⟨b, i0, none⟩ d0).setCell ⟨b, i1, none⟩ d1).setCell ⟨b, i2, none⟩ d2).setCell ⟨b, i3, none⟩ d3) :=
  (((h.setCell (p := ⟨b, i0, none⟩) hb d0).setCell (p := ⟨b, i1, none⟩) hb d1).setCell (p := ⟨b, i2, none⟩) hb d2).setCell (p := ⟨b, i3, none⟩) hb d3
theorem cell_set4 {W : World} {p : Addr} {c : Value} {b : Nat} {i0 i1 i2 i3 : Nat} {d0 d1 d2 d3 : Value} (h : W.cell? p = some c) (hne : p.block ≠ b) :
    ((((W.setCell ⟨b, i0, none⟩ d0).setCell ⟨b, i1, none⟩ d1).setCell ⟨b, i2, none⟩ d2).setCell ⟨b, i3, none⟩ d3).cell? p = some c := by
  have h1 : ∀ (W : World) (i : Nat) (d : Value), (W.setCell ⟨b, i, none⟩ d).cell? p = W.cell? p := fun W i d => by
    simp only [World.cell?, Below.heap_setCell W ⟨b, i, none⟩ d p.block hne]
  rw [h1, h1, h1, h1, h]
abbrev vzero : Array Value := #[.int .i64 0, .int .i64 0, .string ⟨#[]⟩, .slice none 0 0]
theorem after3 {w w' : World} {o1 o2 : Obj} {c0 c1 c2 c3 : Value} (hb : Below ((((w.alloc o1).alloc o2).alloc (.cells #[c0, c1, c2, c3] 42)).drew).heap.size ((((w.alloc o1).alloc o2).alloc (.cells #[c0, c1, c2, c3] 42)).drew) w') :
    VAt w' (w.heap.size + 1 + 1) #[c0, c1, c2, c3] := by
  have hq := vat_below hb (vat_alloc_drew _ _)
  rwa [World.size_alloc, World.size_alloc] at hq
theorem copyA {w w' : World} {k n : Int} {s : ByteArray} {a : Option Addr} {len cap : Nat} (hb : Below (((w.alloc (.cells #[.int .i64 k, .int .i64 n, .string s, .slice a len cap] 42)).alloc (.cells #[.int .i64 0, .int .i64 0, .string ⟨#[]⟩, .slice none 0 0] 42)).drew).heap.size
      (((w.alloc (.cells #[.int .i64 k, .int .i64 n, .string s, .slice a len cap] 42)).alloc (.cells #[.int .i64 0, .int .i64 0, .string ⟨#[]⟩, .slice none 0 0] 42)).drew) w') (cs : Array Value) :
    w.heap.size + 1 < w'.heap.size ∧ VAt (w'.alloc (.cells cs 42)) w'.heap.size cs ∧ VAt (w'.alloc (.cells cs 42)) (w.heap.size + 1) vzero ∧ (w'.alloc (.cells cs 42)).cell? ⟨w.heap.size, 3, none⟩ = some (.slice a len cap) ∧
      Below w.heap.size w (w'.alloc (.cells cs 42)) := by
  have hB0 := ((Below.refl _ w).alloc (Nat.le_refl _) (Obj.cells #[.int .i64 k, .int .i64 n, .string s, .slice a len cap] 42))
  have hB1 := (hB0.alloc hB0.size (Obj.cells #[.int .i64 0, .int .i64 0, .string ⟨#[]⟩, .slice none 0 0] 42)).drew
  have hB := hB1.trans (hb.mono hB1.size)
  have hz := vat_below hb (vat_alloc_drew _ _)
  rw [World.size_alloc] at hz
  refine ⟨?_, vat_alloc _ _, vat_below ((Below.refl _ w').alloc (Nat.le_refl _) _) hz, cell_alloc (cell_below hb (by simp)), hB.alloc hB.size _⟩
  have := hb.size
  simp at this
  omega
theorem copyB {w w' : World} {k n : Int} {s : ByteArray} {a : Option Addr} {len cap : Nat} {z0 z1 z2 z3 : Value} (hb : Below ((((w.alloc (.cells #[.int .i64 k, .int .i64 n, .string s, .slice a len cap] 42)).alloc (.cells #[.int .i64 0, .int .i64 0, .string ⟨#[]⟩, .slice none 0 0] 42)).alloc (.cells #[z0, z1, z2, z3] 42)).drew).heap.size
      ((((w.alloc (.cells #[.int .i64 k, .int .i64 n, .string s, .slice a len cap] 42)).alloc (.cells #[.int .i64 0, .int .i64 0, .string ⟨#[]⟩, .slice none 0 0] 42)).alloc (.cells #[z0, z1, z2, z3] 42)).drew) w') (d0 d1 d2 d3 : Value) (W : World)
    (hW : W = ((((w'.setCell ⟨w.heap.size + 1 + 1, 0, none⟩ d0).setCell ⟨w.heap.size + 1 + 1, 1, none⟩ d1).setCell ⟨w.heap.size + 1 + 1, 2, none⟩ d2).setCell ⟨w.heap.size + 1 + 1, 3, none⟩ d3)) :
    w.heap.size + 1 < w.heap.size + 1 + 1 ∧ VAt W (w.heap.size + 1 + 1) #[d0, d1, d2, d3] ∧ VAt W (w.heap.size + 1) vzero ∧ W.cell? ⟨w.heap.size, 3, none⟩ = some (.slice a len cap) ∧ Below w.heap.size w W := by
  subst hW
  have hB0 := ((Below.refl _ w).alloc (Nat.le_refl _) (Obj.cells #[.int .i64 k, .int .i64 n, .string s, .slice a len cap] 42))
  have hB1 := (hB0.alloc hB0.size (Obj.cells #[.int .i64 0, .int .i64 0, .string ⟨#[]⟩, .slice none 0 0] 42))
  have hB2 := (hB1.alloc hB1.size (Obj.cells #[z0, z1, z2, z3] 42)).drew
  have hB := hB2.trans (hb.mono hB2.size)
  have hq := after3 hb
  have hz : VAt w' (w.heap.size + 1) vzero := by
    refine vat_below hb ?_
    have h := vat_below ((Below.refl _ _).alloc (Nat.le_refl _) (.cells #[z0, z1, z2, z3] 42)) (vat_alloc (w.alloc (.cells #[.int .i64 k, .int .i64 n, .string s, .slice a len cap] 42)) vzero)
    rw [World.size_alloc] at h
    exact h
  exact ⟨by omega, vat_set4 hq _ _ _ _, vat_other4 hz (by omega) _ _ _ _ _ _ _ _, cell_set4 (cell_below hb (cell_below (⟨rfl, rfl, rfl, Nat.le_refl _, fun _ _ => rfl⟩ : Below _ _ (World.drew _)) (cell_alloc (cell_alloc (by simp))))) (by simp; omega), below_set4 hB (by omega) _ _ _ _ _ _ _ _⟩
theorem info_val : (Tryz.prog.info? 42).map (fun i => (i.zero, i.size, i.bytes)) = some (some (.agg vzero), 4, 56) := by kernel_rfl
/-- what is so ahead of each round: so many things are copied -/
def CInv (B b3 g : Nat) (k n : Int) (s : ByteArray) (l : List PV) (a : Option Addr) (cap : Nat) (w : World) (q : Nat) (wr : World) : Prop :=
  VAt wr b3 #[.int .i64 k, .int .i64 n, .string s, .slice (some ⟨g, 0, none⟩) l.length l.length] ∧ VAt wr (B + 1) vzero ∧ wr.cell? ⟨B, 3, none⟩ = some (.slice a l.length cap) ∧ Below B w wr ∧
  ∃ C, VAt wr g C ∧ C.size = l.length * 4 ∧ ∀ i y, i < q → l[i]? = some y → ∃ c0 c1 c2 c3, (C[i * 4]? = some c0 ∧ C[i * 4 + 1]? = some c1 ∧ C[i * 4 + 2]? = some c2 ∧ C[i * 4 + 3]? = some c3) ∧ Fresh (g + 1) wr y (.agg #[c0, c1, c2, c3])
theorem cinv_step {B b3 g : Nat} {k n : Int} {s : ByteArray} {l : List PV} {a : Option Addr} {cap : Nat} {w : World} {q : Nat} {wr w' : World} {o : Obj} {y : PV} {d0 d1 d2 d3 : Value}
    (h : CInv B b3 g k n s l a cap w q wr) (h1 : B + 1 < b3) (h2 : b3 < g) (hy : l[q]? = some y) (hb : Below ((wr.alloc o).drew).heap.size ((wr.alloc o).drew) w') (hf : Fresh ((wr.alloc o).drew).heap.size w' y (.agg #[d0, d1, d2, d3])) :
    CInv B b3 g k n s l a cap w (q + 1) ((((w'.setCell ⟨g, q * 4, none⟩ d0).setCell ⟨g, q * 4 + 1, none⟩ d1).setCell ⟨g, q * 4 + 2, none⟩ d2).setCell ⟨g, q * 4 + 3, none⟩ d3) := by
  obtain ⟨a1, a2, a3, a4, C, c1, c2, c3⟩ := h
  have hbw : Below wr.heap.size wr w' := (((Below.refl _ wr).alloc (Nat.le_refl _) o).drew).trans (hb.mono (by simp))
  have hql : q < l.length := (List.getElem?_eq_some_iff.1 hy).1
  have hgw := vat_lt c1
  have hsz : (wr.alloc o).drew.heap.size = wr.heap.size + 1 := by simp
  refine ⟨vat_other4 (vat_below hbw a1) (by omega) _ _ _ _ _ _ _ _, vat_other4 (vat_below hbw a2) (by omega) _ _ _ _ _ _ _ _, cell_set4 (cell_below hbw a3) (by simp; omega), below_set4 (a4.trans (hbw.mono (by omega))) (by omega) _ _ _ _ _ _ _ _,
    _, vat_set (vat_set (vat_set (vat_set (vat_below hbw c1) _ d0) _ d1) _ d2) _ d3, by simp [c2], fun i z hi hz => ?_⟩
  have hil : i < l.length := (List.getElem?_eq_some_iff.1 hz).1
  have hset : ∀ b, g + 1 ≤ b → (((((w'.setCell ⟨g, q * 4, none⟩ d0).setCell ⟨g, q * 4 + 1, none⟩ d1).setCell ⟨g, q * 4 + 2, none⟩ d2).setCell ⟨g, q * 4 + 3, none⟩ d3).heap[b]? = w'.heap[b]?) := fun b hb' => by
    rw [Below.heap_setCell _ _ _ b (by show b ≠ g; omega), Below.heap_setCell _ _ _ b (by show b ≠ g; omega), Below.heap_setCell _ _ _ b (by show b ≠ g; omega), Below.heap_setCell _ _ _ b (by show b ≠ g; omega)]
  have hss : ((((w'.setCell ⟨g, q * 4, none⟩ d0).setCell ⟨g, q * 4 + 1, none⟩ d1).setCell ⟨g, q * 4 + 2, none⟩ d2).setCell ⟨g, q * 4 + 3, none⟩ d3).heap.size = w'.heap.size := by simp
  rcases Nat.lt_or_ge i q with hlt | hge
  · obtain ⟨e0, e1, e2, e3, ⟨u0, u1, u2, u3⟩, hfr⟩ := c3 i z hlt hz
    refine ⟨e0, e1, e2, e3, ⟨?_, ?_, ?_, ?_⟩, fresh_later (fresh_later hfr hbw.size (fun b h1 h2 => hbw.block b h2)) (by rw [hss]; exact Nat.le_refl _) fun b h1 _ => hset b h1⟩
    · rw [Array.getElem?_setIfInBounds_ne (by omega), Array.getElem?_setIfInBounds_ne (by omega), Array.getElem?_setIfInBounds_ne (by omega), Array.getElem?_setIfInBounds_ne (by omega), u0]
    · rw [Array.getElem?_setIfInBounds_ne (by omega), Array.getElem?_setIfInBounds_ne (by omega), Array.getElem?_setIfInBounds_ne (by omega), Array.getElem?_setIfInBounds_ne (by omega), u1]
    · rw [Array.getElem?_setIfInBounds_ne (by omega), Array.getElem?_setIfInBounds_ne (by omega), Array.getElem?_setIfInBounds_ne (by omega), Array.getElem?_setIfInBounds_ne (by omega), u2]
    · rw [Array.getElem?_setIfInBounds_ne (by omega), Array.getElem?_setIfInBounds_ne (by omega), Array.getElem?_setIfInBounds_ne (by omega), Array.getElem?_setIfInBounds_ne (by omega), u3]
  · obtain rfl : i = q := by omega
    rw [hy] at hz; cases hz
    refine ⟨d0, d1, d2, d3, ⟨?_, ?_, ?_, ?_⟩, fresh_later (fresh_mono hf (by omega)) (by rw [hss]; exact Nat.le_refl _) fun b h1 _ => hset b h1⟩
    · rw [Array.getElem?_setIfInBounds_ne (by omega), Array.getElem?_setIfInBounds_ne (by omega), Array.getElem?_setIfInBounds_ne (by omega), Array.getElem?_setIfInBounds_self_of_lt (by omega)]
    · rw [Array.getElem?_setIfInBounds_ne (by omega), Array.getElem?_setIfInBounds_ne (by omega), Array.getElem?_setIfInBounds_self_of_lt (by simp; omega)]
    · rw [Array.getElem?_setIfInBounds_ne (by omega), Array.getElem?_setIfInBounds_self_of_lt (by simp; omega)]
    · rw [Array.getElem?_setIfInBounds_self_of_lt (by simp; omega)]
/-- what the copy of a list's value is, at the end -/
theorem cinv_end {B b3 g : Nat} {k n : Int} {s : ByteArray} {l : List PV} {a : Option Addr} {cap : Nat} {w wr w' : World} (h : CInv B b3 g k n s l a cap w l.length wr) (h1 : B + 1 < b3) (h2 : b3 < g) (hk : I64 k) (hn : I64 n) (hs : s.size ≤ maxLen) (hl : l.length ≤ 1000) (hne : l ≠ [])
    (hsz : wr.heap.size ≤ w'.heap.size) (hb : ∀ b, B + 2 ≤ b → b < wr.heap.size → w'.heap[b]? = wr.heap[b]?) :
    Copied B w' (.mk k n s l) (.agg #[.int .i64 k, .int .i64 n, .string s, .slice (some ⟨g, 0, none⟩) l.length l.length]) := by
  obtain ⟨a1, a2, a3, a4, C, c1, c2, c3⟩ := h
  have hgw := vat_lt c1
  have c1' : VAt w' g C := (hb g (by omega) hgw).trans c1
  have c3' : ∀ i y, l[i]? = some y → ∃ c0 c1 c2 c3, (C[i * 4]? = some c0 ∧ C[i * 4 + 1]? = some c1 ∧ C[i * 4 + 2]? = some c2 ∧ C[i * 4 + 3]? = some c3) ∧ Fresh (g + 1) w' y (.agg #[c0, c1, c2, c3]) := fun i y hy => by
    obtain ⟨e0, e1, e2, e3, hu, hf⟩ := c3 i y (List.getElem?_eq_some_iff.1 hy).1 hy
    exact ⟨e0, e1, e2, e3, hu, fresh_later hf hsz fun b h1 h2 => hb b (by omega) h2⟩
  refine ⟨fun w2 hw2 => ?_, _, rfl, .inr ⟨hne, g, C, rfl, by omega, c1', c2, fun i y hy => ?_⟩⟩
  · unfold Is
    have c1'' : VAt w2 g C := (hw2 g (by omega) (vat_lt c1')).trans c1'
    refine ⟨hk, hn, hs, _, _, rfl, Nat.le_refl _, by unfold maxLen; omega, .inr ⟨g, 0, rfl, isL_of fun i y hy => ?_⟩⟩
    obtain ⟨e0, e1, e2, e3, ⟨u0, u1, u2, u3⟩, hf⟩ := c3' i y hy
    rw [Nat.zero_add]
    exact ⟨e0, e1, e2, e3, ⟨vat_cell c1'' _ _ u0, vat_cell c1'' _ _ u1, vat_cell c1'' _ _ u2, vat_cell c1'' _ _ u3⟩, hf w2 fun b h1 h2 => hw2 b (by omega) h2⟩
  · obtain ⟨e0, e1, e2, e3, ⟨u0, u1, u2, u3⟩, hf⟩ := c3' i y hy
    exact ⟨e0, e1, e2, e3, u0, u1, u2, u3, hf⟩
set_option maxHeartbeats 4000000 in
theorem copy_any (v : PV) : small v → ∀ w x, Is w v x → Calls Tryz.prog 64 #[x] w fun e w' => ∃ x', e = .returned x' ∧ Below w.heap.size w w' ∧ Copied w.heap.size w' v x' := by
  induction v using pv_ind with
  | h k n s l ih =>
    intro hsm w x hi
    unfold small at hsm
    obtain ⟨hs, hl, hL⟩ := hsm
    unfold Is at hi
    obtain ⟨h1, h2, h3, a, cap, rfl, h4, h5, h6⟩ := hi
    have hcl := fun w => clone_any s w hs
    have HI := Lib.hid (fun x hx => ih x hx (small_mem hL x hx))
    have hB0 := ((Below.refl _ w).alloc (Nat.le_refl _) (Obj.cells #[.int .i64 k, .int .i64 n, .string s, .slice a l.length cap] 42))
    have hB1 := (hB0.alloc hB0.size (Obj.cells vzero 42)).drew
    have hB2 := ((hB0.alloc hB0.size (Obj.cells vzero 42)).alloc (Nat.le_trans hB0.size (by simp)) (Obj.cells vzero 42)).drew
    clear ih hL
    go_enter Tryz.func64, Tryz.ntmps64
    go_upto_region 1 with fail
    go_cut [3] (fun s3 W => ∃ b3, s3 = .pointer (some ⟨b3, 0, none⟩) ∧ w.heap.size + 1 < b3 ∧ VAt W b3 #[.int .i64 k, .int .i64 n, .string s, .slice none 0 0] ∧ VAt W (w.heap.size + 1) vzero ∧ W.cell? ⟨w.heap.size, 3, none⟩ = some (.slice a l.length cap) ∧ Below w.heap.size w W)
    case first =>
      go_region_held3 (fun W => W.cell? ⟨w.heap.size, 0, none⟩ = some (.int .i64 k) ∧ W.cell? ⟨w.heap.size, 1, none⟩ = some (.int .i64 n) ∧ W.cell? ⟨w.heap.size, 2, none⟩ = some (.string s)) (first | ((try dsimp only); refine ⟨?_, ?_, ?_⟩ <;> first | (with_reducible refine cell_set4 ?_ (by first | (simp; done) | (simp; omega)); go_keep) | (go_keep; done) | (with_reducible refine cell_below hb ?_; go_keep) | (with_reducible refine cell_alloc ?_; go_keep) | (with_reducible refine cell_alloc (cell_below hb ?_); go_keep))) (first
          | (go_at_call 84; (with_reducible refine (hcl _).mono ?_); rintro e w' ⟨rfl, hb⟩; first | (with_reducible have hq := after3 hb; obtain ⟨⟨q0, q1, q2, q3⟩, f0, f1, f2, f3⟩ := box4 hq) | skip))
      all_goals (go_wp2_with fail; go_meet)
      all_goals (first
        | exact ⟨_, rfl, copyA hb _⟩
        | exact ⟨_, rfl, copyB hb _ _ _ _ _ rfl⟩)
    case rest =>
      obtain ⟨b3, rfl, hb3, hbox, hres, hce, hB⟩ := hcut
      have hb3w := vat_lt hbox
      have hp := box4 hbox
      obtain ⟨⟨p0, p1, p2, p3⟩, q0, q1, q2, q3⟩ := hp
      have hr := box4 hres
      obtain ⟨⟨r0, r1, r2, r3⟩, t0, t1, t2, t3⟩ := hr
      have hi4 : (Tryz.prog.info? 42).map (·.size) = some 4 := by
        obtain ⟨i0, hi, hz0, hz1, hz2⟩ := info_parts info_val
        rw [hi]; simp [hz1]
      by_cases hl0 : l = []
      · subst hl0
        go_wp2_with fail
        go_loopw [4, 5, 26] (fun _ _ i wr => i = .int .i64 0 ∧ wr = wc) (fun _ _ _ _ => 0)
        case atStart => exact ⟨rfl, rfl⟩
        case round =>
          obtain ⟨rfl, rfl⟩ := hrel
          go_wp2_with fail
          refine bodyPost_ret (results_cell_row Tryz.results64 _ _ (w.heap.size + 1) _ _ _ _ rfl (vat_set4 hres _ _ _ _) Tryz.underlying42 rfl hi4) rfl ⟨_, rfl, below_set4 hB (by omega) _ _ _ _ _ _ _ _, fun w2 _ => ?_, none, rfl, .inl ⟨rfl, rfl⟩⟩
          unfold Is
          exact ⟨h1, h2, h3, none, 0, rfl, Nat.le_refl _, by unfold maxLen; omega, .inl rfl⟩
      · have hlp : 0 < l.length := by cases l with | nil => exact absurd rfl hl0 | cons x r => simp
        have hdp : decide (0 < (l.length : Int)) = true := by simp; omega
        obtain ⟨ba, oa, rfl, hIs⟩ : ∃ b off, a = some ⟨b, off, none⟩ ∧ IsL w b l off := by
          rcases h6 with h | h
          · exact absurd h hl0
          · exact h
        obtain ⟨i0, hi, hz0, hz1, hz2⟩ := info_parts info_val
        obtain ⟨M, hM⟩ : ∃ M, madeCells (Value.agg vzero).cells (((l.length : Nat) : Int).toNat * i0.size) = M := ⟨_, rfl⟩
        have hMs : M.size = l.length * 4 := by rw [← hM, size_madeCells, hz1]; simp
        have hmk : ∀ W : World, (Instr.makeSlice 26 (.int .i64 (l.length : Int)) (.int .i64 (l.length : Int))).run Tryz.prog W = .ok (.slice (some ⟨W.heap.size, 0, none⟩) l.length l.length) (W.alloc (.cells M 42)) := fun W => by
          have h := run_make (P := Tryz.prog) W 26 42 i0 (.agg vzero) Tryz.underlying26 hi hz0 .i64 .i64 (l.length : Int) (l.length : Int) (by omega) (by omega) (by rw [hz2]; omega) (by omega)
          rw [hM] at h
          simpa using h
        have p3' : ∀ o, (wc.alloc o).cell? ⟨b3, 3, none⟩ = some (.slice none 0 0) := fun o => cell_alloc p3
        have q3' : ∀ o, (wc.alloc o).frozen? ⟨b3, 3, none⟩ = false := fun o => vat_frozen (vat_below ((Below.refl _ wc).alloc (Nat.le_refl _) o) hbox) 3
        have ce2 : ∀ o d, ((wc.alloc o).setCell ⟨b3, 3, none⟩ d).cell? ⟨w.heap.size, 3, none⟩ = some (.slice (some ⟨ba, oa, none⟩) l.length cap) := fun o d => by
          have h : (wc.alloc o).cell? ⟨w.heap.size, 3, none⟩ = some (.slice (some ⟨ba, oa, none⟩) l.length cap) := cell_alloc hce
          rw [← h]
          simp only [World.cell?, Below.heap_setCell (wc.alloc o) ⟨b3, 3, none⟩ d w.heap.size (show w.heap.size ≠ b3 by omega)]
        clear hM hi hz0 hz1 hz2 h6
        have hbox1 := vat_set (vat_below ((Below.refl _ wc).alloc (Nat.le_refl _) (.cells M 42)) hbox) 3 (.slice (some ⟨wc.heap.size, 0, none⟩) l.length l.length)
        have hres1 := vat_other (vat_below ((Below.refl _ wc).alloc (Nat.le_refl _) (.cells M 42)) hres) (show w.heap.size + 1 ≠ b3 by omega) 3 (.slice (some ⟨wc.heap.size, 0, none⟩) l.length l.length)
        have hM1 := vat_other (vat_alloc wc M) (show wc.heap.size ≠ b3 by omega) 3 (.slice (some ⟨wc.heap.size, 0, none⟩) l.length l.length)
        have hinv : CInv w.heap.size b3 wc.heap.size k n s l (some ⟨ba, oa, none⟩) cap w 0 ((wc.alloc (.cells M 42)).setCell ⟨b3, 3, none⟩ (.slice (some ⟨wc.heap.size, 0, none⟩) l.length l.length)) :=
          ⟨hbox1, hres1, ce2 _ _, (hB.alloc hB.size _).setCell (p := ⟨b3, 3, none⟩) (by show w.heap.size ≤ b3; omega) _, M, hM1, hMs, fun i y hi _ => by omega⟩
        have HINV := Lib.hid hinv
        obtain ⟨g, hg⟩ : ∃ g, wc.heap.size = g := ⟨_, rfl⟩
        rw [hg] at HINV
        clear hbox1 hres1 hM1 hinv
        go_wp2_with fail
        go_loopw [4, 5, 26] (fun _ _ i wr => ∃ q : Nat, q ≤ l.length ∧ i = .int .i64 (q : Int) ∧ CInv w.heap.size b3 g k n s l (some ⟨ba, oa, none⟩) cap w q wr) (fun _ _ i _ => l.length - (intOf i).toNat)
        case atStart => exact ⟨0, Nat.zero_le _, rfl, HINV.out⟩
        case round =>
          obtain ⟨q, hq, rfl, hinv⟩ := hrel
          rw [hg] at hb3w
          clear p0 p1 p2 p3 q0 q1 q2 q3 r0 r1 r2 r3 t0 t1 t2 t3 p3' q3' ce2 hmk hce hres hbox HINV
          rcases Nat.lt_or_ge q l.length with hlt | hge
          · have hd : decide (q < l.length) = true := by simpa using hlt
            obtain ⟨y, hy⟩ : ∃ y, l[q]? = some y := ⟨l[q], List.getElem?_eq_getElem hlt⟩
            have hcall := HI.out y (List.mem_of_getElem? hy)
            cases y with
            | mk yk yn ys yl =>
            obtain ⟨a1, a2, a3, a4, C, c1, c2, c3⟩ := hinv
            obtain ⟨ya, yc, ⟨g0, g1, g2, g3⟩, hiy⟩ := isL_val (isL_below a4 hIs) q _ _ _ _ hy
            have u3 := (box4 a1).1.2.2.2
            have hHI := Lib.hid (⟨a1, a2, a3, a4, C, c1, c2, c3⟩ : CInv w.heap.size b3 g k n s l (some ⟨ba, oa, none⟩) cap w q wr)
            obtain ⟨x0, hx0⟩ : ∃ x, C[q * 4]? = some x := ⟨C[q * 4]'(by omega), Array.getElem?_eq_getElem (by omega)⟩
            obtain ⟨x1, hx1⟩ : ∃ x, C[q * 4 + 1]? = some x := ⟨C[q * 4 + 1]'(by omega), Array.getElem?_eq_getElem (by omega)⟩
            obtain ⟨x2, hx2⟩ : ∃ x, C[q * 4 + 2]? = some x := ⟨C[q * 4 + 2]'(by omega), Array.getElem?_eq_getElem (by omega)⟩
            obtain ⟨x3, hx3⟩ : ∃ x, C[q * 4 + 3]? = some x := ⟨C[q * 4 + 3]'(by omega), Array.getElem?_eq_getElem (by omega)⟩
            have hbw := ((Below.refl _ wr).alloc (Nat.le_refl _) (.cells #[.int .i64 yk, .int .i64 yn, .string ys, .slice ya yl.length yc] 42)).drew
            have hC := Lib.hid (vat_below hbw c1)
            have hiy2 := Lib.hid (is_below hbw _ _ hiy)
            have HC := Lib.hid hcall
            have HY := Lib.hid hy
            have hgw := vat_lt c1
            have hbw3 := vat_lt a1
            clear a2 a3 a4 c3 hiy hcall hbw hIs hy c1 a1 hl0 hi4
            go_wp2_with fail
            go_region_held3 (fun W => W.cell? ⟨b3, 3, none⟩ = some (.slice (some ⟨g, 0, none⟩) l.length l.length) ∧ (W.cell? ⟨wr.heap.size, 0, none⟩ = some (.int .i64 yk) ∧ W.cell? ⟨wr.heap.size, 1, none⟩ = some (.int .i64 yn)) ∧ (W.cell? ⟨wr.heap.size, 2, none⟩ = some (.string ys) ∧ W.cell? ⟨wr.heap.size, 3, none⟩ = some (.slice ya yl.length yc)))
              (first | ((try dsimp only); refine ⟨?_, ⟨?_, ?_⟩, ?_, ?_⟩ <;> first | (with_reducible refine cell_set4 ?_ (by first | (simp; done) | (simp; omega)); go_keep) | (go_keep; done) | (with_reducible refine cell_below hb ?_; go_keep) | (with_reducible refine cell_alloc ?_; go_keep))) (first
              | (go_at_call 64; (with_reducible refine (HC.out _ _ hiy2.out).mono ?_); rintro e w' ⟨x', rfl, hb, hfr, xa, rfl, hxa⟩; have hCC := vat_below hb hC.out; have z0 := vat_cell hCC _ _ hx0; have z1 := vat_cell hCC _ _ hx1; have z2 := vat_cell hCC _ _ hx2; have z3 := vat_cell hCC _ _ hx3; have y0 := vat_frozen hCC (q * 4); have y1 := vat_frozen hCC (q * 4 + 1); have y2 := vat_frozen hCC (q * 4 + 2); have y3 := vat_frozen hCC (q * 4 + 3)))
            all_goals (
              go_wp2_with fail
              go_roundw
              all_goals (first
                | (case' rel => exact ⟨q + 1, by omega, by go_num, cinv_step hHI.out hb3 hb3w HY.out hb hfr⟩)
                | (case' measure => simp [intOf]; omega)))
          · obtain rfl : q = l.length := by omega
            have hd : decide (l.length < l.length) = false := by simp
            have a1 := hinv.1
            have a2 := hinv.2.1
            have hgw := vat_lt hinv.2.2.2.2.choose_spec.1
            have hBe := hinv.2.2.2.1
            obtain ⟨⟨p0, p1, p2, p3⟩, q0, q1, q2, q3⟩ := box4 a1
            obtain ⟨⟨r0, r1, r2, r3⟩, t0, t1, t2, t3⟩ := box4 a2
            have HI2 := Lib.hid hinv
            have HA2 := Lib.hid a2
            clear hinv a1 a2 hIs
            go_wp2_with fail
            refine bodyPost_ret (results_cell_row Tryz.results64 _ _ (w.heap.size + 1) _ _ _ _ rfl (vat_set4 HA2.out _ _ _ _) Tryz.underlying42 rfl hi4) rfl ⟨_, rfl, below_set4 hBe (by omega) _ _ _ _ _ _ _ _, ?_⟩
            refine cinv_end HI2.out hb3 hb3w h1 h2 h3 hl hl0 (by simp) fun b hb1 _ => ?_
            rw [Below.heap_setCell _ _ _ b (by show b ≠ w.heap.size + 1; omega), Below.heap_setCell _ _ _ b (by show b ≠ w.heap.size + 1; omega), Below.heap_setCell _ _ _ b (by show b ≠ w.heap.size + 1; omega), Below.heap_setCell _ _ _ b (by show b ≠ w.heap.size + 1; omega)]
end Go.Proofs.YtibjjclfonpibaaGreat
