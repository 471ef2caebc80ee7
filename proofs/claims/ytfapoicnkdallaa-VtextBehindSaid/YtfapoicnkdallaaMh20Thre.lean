/- Values made: Symbol, Int, Clone, Copy. -/
import Derived.Test.YtfapoicnkdallaaMh2Thre
import Derived.Lib.UnsafeStr
import Derived.Lib.Strings
import Derived.Lib.BufferWrite
import Derived.Laws.MakeOwn
import Derived.Deep.RegionHeld3
import Derived.Deep.DeepCutAuto
namespace Go.Proofs.Ytfapoicnkdallaa
open Go.RowKit Go.Shelf
set_option maxRecDepth 100000 in
set_option maxHeartbeats 4000000 in
theorem sclone_any (s : ByteArray) (w : World) (hs : s.size ≤ 140737488355328) :
    Calls Try.prog 84 #[.string s] w fun e w' => e = .returned (.string s) ∧ Below w.heap.size w w' := by
  by_cases h0 : s.size = 0
  · obtain rfl : s = ⟨#[]⟩ := ByteArray.ext (Array.eq_empty_of_size_eq_zero h0)
    go_enter Try.func84, Try.ntmps84
    go_wp2
    go_ret
    exact ⟨rfl, Below.refl _ _⟩
  · have hd : ((s.size : Int) == 0) = false := beq_eq_false_iff_ne.2 (by omega)
    obtain ⟨i0, hi, hz0, hz1, hz2⟩ := info_parts info_u8
    have hls : s.data.toList.length = s.size := by simp
    have hsz : (madeCells (Value.int .u8 0).cells (((s.size : Nat) : Int).toNat * i0.size)).size = s.size := by rw [size_madeCells, hz1]; simp
    have hmk : ∀ W : World, (Instr.makeSlice 47 (.int .i64 (s.size : Int)) (.int .i64 (s.size : Int))).run Try.prog W =
        .ok (.slice (some ⟨W.heap.size, 0, none⟩) s.size s.size) (W.alloc (.cells (madeCells (Value.int .u8 0).cells (((s.size : Nat) : Int).toNat * i0.size)) 5)) := fun W => by
      have h := run_make (P := Try.prog) W 47 5 i0 (.int .u8 0) Try.underlying47 hi hz0 .i64 .i64 (s.size : Int) (s.size : Int) (by omega) (by omega) (by rw [hz2]; omega) (by omega)
      simpa using h
    generalize (madeCells (Value.int .u8 0).cells (((s.size : Nat) : Int).toNat * i0.size)) = M at hsz hmk
    have hcp := Lib.run_copy_row_string (P := Try.prog) (w.alloc (.cells M 5)) 47 9 3 5 w.heap.size 0 s.size s.size s M 5 Try.underlying47 (by rw [hi]; simp [hz1]) (heap_alloc_new w _) (Nat.le_refl _) (by omega)
    have hY : (M.toList.take 0 ++ Lib.byteCells s.data.toList ++ M.toList.drop (0 + s.size)) = Lib.byteCells s.data.toList := by
      rw [List.take_zero, List.nil_append, List.drop_of_length_le (by rw [Array.length_toList]; omega), List.append_nil]
    rw [hY] at hcp
    have hg := setRow_heap (w.alloc (.cells M 5)) _ M (Lib.byteCells s.data.toList).toArray 5 (0, 0) (heap_alloc_new w _)
    have hus := Lib.run_unsafeString_row (P := Try.prog) ((w.alloc (.cells M 5)).setRow w.heap.size (Lib.byteCells s.data.toList).toArray) 107 3 9 5 Try.underlying107 (by simp [Program.cellsOf, hi, hz1]) w.heap.size s.size (by unfold World.shape?; rw [hg]; simp [Lib.byteCells_length, hls]) s.data.toList
      (fun e => h0 (by rw [← hls, e]; rfl)) (by omega) (by omega)
      (fun j x hx => Lib.cells_of_row hg s.size j _ (by rw [List.take_of_length_le (by rw [List.toList_toArray, Lib.byteCells_length, hls]; exact Nat.le_refl _), List.toList_toArray]; simp [Lib.byteCells, hx]))
    rw [hls] at hus
    have hB1 := (Below.refl w.heap.size w).alloc (Nat.le_refl _) (.cells M 5)
    have hB2 : Below w.heap.size (w.alloc (.cells M 5)) ((w.alloc (.cells M 5)).setRow w.heap.size (Lib.byteCells s.data.toList).toArray) := ⟨rfl, rfl, rfl, by simp, fun k hk => setRow_other _ _ _ _ (by omega)⟩
    clear hg hY hsz
    go_enter Try.func84, Try.ntmps84
    go_wp2
    go_ret
    exact ⟨rfl, Lib.below_freeze (hB1.trans hB2) (p := ⟨w.heap.size, 0, none⟩) (Nat.le_refl _) _⟩
theorem clone_any (s : ByteArray) (w : World) (hs : s.size ≤ 140737488355328) :
    Calls Try.prog 78 #[.string s] w fun e w' => e = .returned (.string s) ∧ Below w.heap.size w w' := by
  have hc := fun w => sclone_any s w hs
  go_enter Try.func78, Try.ntmps78
  go_wp2_with (first | (go_at_call 84; (with_reducible refine (hc _).mono ?_); rintro e w' ⟨rfl, hb⟩))
  go_ret
  exact ⟨rfl, hb⟩
/-- reads as that value wherever what lies from B on is as it is -/
def Fresh (B : Nat) (w : World) (v : PV) (x : Value) : Prop := ∀ w', (∀ b, B ≤ b → b < w.heap.size → w'.heap[b]? = w.heap[b]?) → Is w' v x
theorem fresh_is {B : Nat} {w : World} {v : PV} {x : Value} (h : Fresh B w v x) : Is w v x := h w fun _ _ _ => rfl
theorem fresh_mono {B B' : Nat} {w : World} {v : PV} {x : Value} (h : Fresh B w v x) (hb : B' ≤ B) : Fresh B' w v x := fun w' h' => h w' fun b h1 h2 => h' b (Nat.le_trans hb h1) h2
theorem fresh_later {B : Nat} {w w1 : World} {v : PV} {x : Value} (h : Fresh B w v x) (hs : w.heap.size ≤ w1.heap.size) (hb : ∀ b, B ≤ b → b < w.heap.size → w1.heap[b]? = w.heap[b]?) : Fresh B w1 v x :=
  fun w' h' => h w' fun b h1 h2 => (h' b h1 (by omega)).trans (hb b h1 h2)
/-- cells of values' fields, all of them -/
def VAt (W : World) (b : Nat) (cs : Array Value) : Prop := W.heap[b]? = some (.cells cs 25 (0, 0))
theorem vat_lt {W : World} {b : Nat} {cs : Array Value} (h : VAt W b cs) : b < W.heap.size := (Array.getElem?_eq_some_iff.1 h).1
theorem vat_cell {W : World} {b : Nat} {cs : Array Value} (h : VAt W b cs) (i : Nat) (c : Value) (hc : cs[i]? = some c) : W.cell? ⟨b, i, none⟩ = some c := by
  simp [World.cell?, show W.heap[b]? = _ from h, hc]
theorem vat_frozen {W : World} {b : Nat} {cs : Array Value} (h : VAt W b cs) (i : Nat) : W.frozen? ⟨b, i, none⟩ = false := by simp [World.frozen?, show W.heap[b]? = _ from h]
theorem vat_below {W W' : World} {b : Nat} {cs : Array Value} (hb : Below W.heap.size W W') (h : VAt W b cs) : VAt W' b cs := (hb.block b (vat_lt h)).trans h
theorem vat_alloc (W : World) (cs : Array Value) : VAt (W.alloc (.cells cs 25)) W.heap.size cs := World.alloc_heap_new W _
theorem vat_set {W : World} {b : Nat} {cs : Array Value} (h : VAt W b cs) (i : Nat) (c : Value) : VAt (W.setCell ⟨b, i, none⟩ c) b (cs.setIfInBounds i c) := by
  obtain ⟨hlt, hk⟩ := Array.getElem?_eq_some_iff.1 h
  show (W.heap.modify b _)[b]? = _
  rw [Array.getElem?_eq_getElem (by rw [Array.size_modify]; exact hlt), Array.getElem_modify_self, hk]
  rfl
theorem vat_other {W : World} {b b' : Nat} {cs : Array Value} (h : VAt W b cs) (hne : b ≠ b') (i : Nat) (c : Value) : VAt (W.setCell ⟨b', i, none⟩ c) b cs := (Below.heap_setCell W ⟨b', i, none⟩ c b hne).trans h
theorem box4 {W : World} {b : Nat} {c0 c1 c2 c3 : Value} (h : VAt W b #[c0, c1, c2, c3]) : (W.cell? ⟨b, 0, none⟩ = some c0 ∧ W.cell? ⟨b, 1, none⟩ = some c1 ∧ W.cell? ⟨b, 2, none⟩ = some c2 ∧ W.cell? ⟨b, 3, none⟩ = some c3) ∧
    (W.frozen? ⟨b, 0, none⟩ = false ∧ W.frozen? ⟨b, 1, none⟩ = false ∧ W.frozen? ⟨b, 2, none⟩ = false ∧ W.frozen? ⟨b, 3, none⟩ = false) :=
  ⟨⟨vat_cell h 0 _ rfl, vat_cell h 1 _ rfl, vat_cell h 2 _ rfl, vat_cell h 3 _ rfl⟩, vat_frozen h 0, vat_frozen h 1, vat_frozen h 2, vat_frozen h 3⟩
theorem vat_set4 {W : World} {b : Nat} {c0 c1 c2 c3 : Value} (h : VAt W b #[c0, c1, c2, c3]) (d0 d1 d2 d3 : Value) :
    VAt ((((W.setCell ⟨b, 0, none⟩ d0).setCell ⟨b, 1, none⟩ d1).setCell ⟨b, 2, none⟩ d2).setCell ⟨b, 3, none⟩ d3) b #[d0, d1, d2, d3] :=
  vat_set (vat_set (vat_set (vat_set h 0 d0) 1 d1) 2 d2) 3 d3
theorem below_set4 {B : Nat} {w W : World} (h : Below B w W) {b : Nat} (hb : B ≤ b) (i0 i1 i2 i3 : Nat) (d0 d1 d2 d3 : Value) :
    Below B w ((((W.setCell ⟨b, i0, none⟩ d0).setCell ⟨b, i1, none⟩ d1).setCell ⟨b, i2, none⟩ d2).setCell ⟨b, i3, none⟩ d3) :=
  (((h.setCell (p := ⟨b, i0, none⟩) hb d0).setCell (p := ⟨b, i1, none⟩) hb d1).setCell (p := ⟨b, i2, none⟩) hb d2).setCell (p := ⟨b, i3, none⟩) hb d3
abbrev vzero : Array Value := #[.int .i64 0, .int .i64 0, .string ⟨#[]⟩, .slice none 0 0]
theorem info_val : (Try.prog.info? 25).map (fun i => (i.zero, i.size, i.bytes)) = some (some (.agg vzero), 4, 56) := by kernel_rfl
end Go.Proofs.Ytfapoicnkdallaa
