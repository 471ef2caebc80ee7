/- Rows of own things, over a predicate; blocks of cells (no walk). -/
import Derived.Test.YtcicjpdjbfgbhaaDoorMh13Cell
import Derived.Test.YtcicjpdjbfgbhaaDoorMh4Cell
import Derived.Lib.UnsafeStr
import Derived.Lib.Strings
import Derived.Lib.BufferWrite
import Derived.Laws.MakeOwn
import Derived.Deep.RegionHeld3
import Derived.Deep.DeepCutAuto
set_option linter.unusedVariables false
set_option linter.unusedSimpArgs false
set_option maxRecDepth 100000
namespace Go.Proofs.YtcicjpdjbfgbhaaDoor
open Go.RowKit Go.Shelf
/-- a thing wherever what lies from B on is as it is -/
def FreshC {α : Type} (P : World → α → Value → Prop) (B : Nat) (W : World) (x : α) (v : Value) : Prop := ∀ W' : World, (∀ b, B ≤ b → b < W.heap.size → W'.heap[b]? = W.heap[b]?) → P W' x v
theorem freshC_mono {α : Type} {P : World → α → Value → Prop} {B B' : Nat} {W : World} {x : α} {v : Value} (h : FreshC P B W x v) (hb : B' ≤ B) : FreshC P B' W x v := fun W' k => h W' fun b h1 h2 => k b (by omega) h2
theorem freshC_later {α : Type} {P : World → α → Value → Prop} {B : Nat} {W W1 : World} {x : α} {v : Value} (h : FreshC P B W x v) (hs : W.heap.size ≤ W1.heap.size) (hb : ∀ b, B ≤ b → b < W.heap.size → W1.heap[b]? = W.heap[b]?) : FreshC P B W1 x v :=
  fun W' k => h W' fun b h1 h2 => (k b h1 (by omega)).trans (hb b h1 h2)
def GEl {α : Type} (P : World → α → Value → Prop) (n : Nat) (B : Nat) (W : World) (u : Value) (ys : List α) (cs : List Value) : Prop :=
  ∀ (i : Nat) (y : α), ys[i]? = some y → ∃ (ds : List Value) (E F : Nat), ds.length = n ∧ (∀ j, j < n → cs[i * n + j]? = ds[j]?) ∧ (B ≤ E ∧ F ≤ W.heap.size ∧ ∀ g, u.ownBlock = some g → g < E ∨ F ≤ g) ∧ ∀ W' : World, (∀ b, E ≤ b → b < F → W'.heap[b]? = W.heap[b]?) → P W' y (.agg ds.toArray)
def GRow {α : Type} (P : World → α → Value → Prop) (n : Nat) (e : TypeId) (B : Nat) (W : World) (u : Value) (ys : List α) : Prop := ∃ cs, W.ownsRow B e n u ys.length cs ∧ GEl P n B W u ys cs
theorem grow_nil {α : Type} (P : World → α → Value → Prop) (n : Nat) (e : TypeId) (B : Nat) (W : World) : GRow P n e B W (.slice none 0 0) ([] : List α) := ⟨[], World.ownsRow_nil _ _ _ _, fun i y h => by simp at h⟩
theorem own_kept8 {B : Nat} {W W' : World} {e : TypeId} {size n : Nat} {v : Value} {xs : List Value} (h : W.ownsRow B e size v n xs) (hb : ∀ b, B ≤ b → b < W.heap.size → W'.heap[b]? = W.heap[b]?) : W'.ownsRow B e size v n xs := by
  refine ⟨h.1, ?_⟩
  rcases h.2 with hn | ⟨g, cap, cur, rfl, hg, hh, r⟩
  · exact .inl hn
  · exact .inr ⟨g, cap, cur, rfl, hg, (hb g hg (Array.getElem?_eq_some_iff.1 hh).1).trans hh, r⟩
theorem own_blk8 {w : World} {base : Nat} {e : TypeId} {size : Nat} {v : Value} {n : Nat} {xs : List Value} (h : w.ownsRow base e size v n xs) : ∀ b, v.ownBlock = some b → b < w.heap.size ∧ base ≤ b := by
  intro b hb
  rcases h.2 with ⟨rfl, _⟩ | ⟨g, cap, cur, rfl, h1, hg, _⟩
  · simp [Value.ownBlock] at hb
  · obtain rfl : g = b := by simpa [Value.ownBlock] using hb
    exact ⟨(Array.getElem?_eq_some_iff.1 hg).1, h1⟩
theorem grow_keep {α : Type} {P : World → α → Value → Prop} {n : Nat} {e : TypeId} {B : Nat} {W W' : World} {u : Value} {ys : List α} (h : GRow P n e B W u ys) (hs : W.heap.size ≤ W'.heap.size) (hb : ∀ b, B ≤ b → b < W.heap.size → W'.heap[b]? = W.heap[b]?) : GRow P n e B W' u ys := by
  obtain ⟨cs, h1, h2⟩ := h
  refine ⟨cs, own_kept8 h1 hb, fun i y hy => ?_⟩
  obtain ⟨ds, E, F, hd, hc, ⟨q1, q2, q3⟩, hi⟩ := h2 i y hy
  exact ⟨ds, E, F, hd, hc, ⟨q1, Nat.le_trans q2 hs, q3⟩, fun W2 h => hi W2 fun b b1 b2 => (h b b1 b2).trans (hb b (by omega) (by omega))⟩
/-- one more -/
theorem gel_step {α : Type} {P : World → α → Value → Prop} {n : Nat} {e : TypeId} {B p : Nat} {w0 w4 w5 w6 : World} {u v' : Value} {ys : List α} {cs : List Value} {y : α} {ds : List Value} (hown : w0.ownsRow B e n u ys.length cs) (h : GEl P n B w0 u ys cs) (hp : p < B) (hB : B ≤ w0.heap.size)
    (hg : w0.grownBy w4 (some p)) (hF : FreshC P w0.heap.size w4 y (.agg ds.toArray)) (hd : ds.length = n) (h5 : Below w4.heap.size w4 w5) (hg6 : w5.grownBy w6 u.ownBlock) (hv : v'.ownBlock = u.ownBlock ∨ v'.ownBlock = some w5.heap.size) :
    GEl P n B w6 v' (ys ++ [y]) (cs ++ ds) := by
  have hlen : cs.length = ys.length * n := hown.1
  have hub := own_blk8 hown
  have hs1 := hg.size
  have hs2 := h5.size
  have hs3 := hg6.size
  have h6 : ∀ b, b < w4.heap.size → some b ≠ u.ownBlock → w6.heap[b]? = w4.heap[b]? := fun b hb hne => (hg6.block b (by omega) hne).trans (h5.block b hb)
  intro i z hz
  rcases Nat.lt_or_ge i ys.length with hlt | hge
  · rw [List.getElem?_append_left hlt] at hz
    obtain ⟨es, E, F, hd', hc, ⟨q1, q2, q3⟩, hi⟩ := h i z hz
    refine ⟨es, E, F, hd', fun j hj => ?_, ⟨q1, by omega, fun g hg => ?_⟩, fun W' h' => hi W' fun b b1 b2 => ?_⟩
    · rw [List.getElem?_append_left, hc j hj]
      rw [hlen]
      have := Nat.mul_le_mul_right n (show i + 1 ≤ ys.length by omega)
      rw [Nat.add_mul] at this
      omega
    · rcases hv with hv | hv
      · exact q3 g (hv ▸ hg)
      · rw [hv] at hg; cases hg; exact .inr (by omega)
    · rw [h' b b1 b2, h6 b (by omega) (fun e => by rcases q3 b e.symm with h | h <;> omega), hg.block b (by omega) (by simp; omega)]
  · have hil : i < (ys ++ [y]).length := (List.getElem?_eq_some_iff.1 hz).1
    rw [List.length_append] at hil
    simp only [List.length_cons, List.length_nil] at hil
    obtain rfl : i = ys.length := by omega
    rw [List.getElem?_append_right (by omega), Nat.sub_self] at hz
    simp at hz
    subst hz
    refine ⟨ds, w0.heap.size, w4.heap.size, hd, fun j hj => ?_, ⟨hB, by omega, fun g hg => ?_⟩, fun W' h' => hF W' fun b b1 b2 => ?_⟩
    · rw [List.getElem?_append_right (by omega), show ys.length * n + j - cs.length = j by omega]
    · rcases hv with hv | hv
      · exact .inl (hub g (hv ▸ hg)).1
      · rw [hv] at hg; cases hg; exact .inr (by omega)
    · rw [h' b b1 b2, h6 b b2 (fun e => by have := (hub b e.symm).1; omega)]
/-- the row, opened wherever what lies from B on is as it is -/
theorem grow_at {α : Type} {P : World → α → Value → Prop} {n : Nat} {e : TypeId} {B : Nat} {W : World} {u : Value} {ys : List α} (h : GRow P n e B W u ys) {W' : World} (hb : ∀ b, B ≤ b → b < W.heap.size → W'.heap[b]? = W.heap[b]?) :
    ∃ a cap, u = .slice a ys.length cap ∧ ys.length ≤ cap ∧ cap ≤ maxLen ∧ (ys = [] ∨ ∃ b, a = some ⟨b, 0, none⟩ ∧ ∀ (i : Nat) (y : α), ys[i]? = some y → ∃ ds : List Value, ds.length = n ∧ (∀ j c, ds[j]? = some c → W'.cell? ⟨b, i * n + j, none⟩ = some c) ∧ P W' y (.agg ds.toArray)) := by
  obtain ⟨cs, h1, h2⟩ := h
  rcases h1.2 with ⟨rfl, hn⟩ | ⟨g, cap, cur, rfl, hg, hh, hc1, hc2, hc3, hc4⟩
  · exact ⟨none, 0, by rw [hn], by omega, by unfold maxLen; omega, .inl (List.length_eq_zero_iff.1 hn)⟩
  · refine ⟨_, cap, rfl, hc1, hc2, .inr ⟨g, rfl, fun i y hy => ?_⟩⟩
    obtain ⟨ds, E, F, hd, hc, ⟨q1, q2, q3⟩, hi⟩ := h2 i y hy
    have hv := (hb g hg (Array.getElem?_eq_some_iff.1 hh).1).trans hh
    have hil : i < ys.length := (List.getElem?_eq_some_iff.1 hy).1
    refine ⟨ds, hd, fun j c hj => ?_, hi W' fun b b1 b2 => hb b (by omega) (by omega)⟩
    have hjn : j < n := by rw [← hd]; exact (List.getElem?_eq_some_iff.1 hj).1
    have hlt : i * n + j < ys.length * n := by
      have := Nat.mul_le_mul_right n (show i + 1 ≤ ys.length by omega)
      rw [Nat.add_mul] at this
      omega
    have hjc := hc j hjn
    rw [hj, ← hc4, List.getElem?_take, if_pos hlt, Array.getElem?_toList] at hjc
    simp [World.cell?, hv, hjc]
/-- a block of cells -/
def CA (W : World) (b : Nat) (t : TypeId) (cs : Array Value) : Prop := W.heap[b]? = some (.cells cs t (0, 0))
theorem ca_lt {W : World} {b : Nat} {t : TypeId} {cs : Array Value} (h : CA W b t cs) : b < W.heap.size := (Array.getElem?_eq_some_iff.1 h).1
theorem ca_alloc (W : World) (t : TypeId) (cs : Array Value) : CA (W.alloc (.cells cs t)) W.heap.size t cs := World.alloc_heap_new W _
theorem ca_below {W W' : World} {b : Nat} {t : TypeId} {cs : Array Value} (h : CA W b t cs) (hb : Below W.heap.size W W') : CA W' b t cs := (hb.block b (ca_lt h)).trans h
theorem ca_cell {W : World} {b : Nat} {t : TypeId} {cs : Array Value} (h : CA W b t cs) (i : Nat) (c : Value) (hc : cs[i]? = some c) : W.cell? ⟨b, i, none⟩ = some c := by
  simp [World.cell?, show W.heap[b]? = _ from h, hc]
end Go.Proofs.YtcicjpdjbfgbhaaDoor

/- Values made: Symbol, Int, Clone, Copy. -/
namespace Go.Proofs.YtcicjpdjbfgbhaaDoor
open Go.RowKit Go.Shelf
theorem symbol_any (s : ByteArray) (w : World) : Calls Tryd.prog 13 #[.string s] w fun e w' => e = .returned (.agg #[.int .i64 3, .int .i64 0, .string s, .slice none 0 0]) ∧ Below w.heap.size w w' := by
  have hB := (Below.refl _ w).alloc (Nat.le_refl _) (Obj.cells #[.int .i64 3, .int .i64 0, .string s, .slice none 0 0] 24)
  go_enter Tryd.func13, Tryd.ntmps13
  go_wp2
  exact bodyPost_ret (v := .agg #[.int .i64 3, .int .i64 0, .string s, .slice none 0 0]) (by simp [results, Tryd.results13, go_sem]) rfl ⟨rfl, hB⟩
theorem int_any (n : Int) (w : World) : Calls Tryd.prog 16 #[.int .i64 n] w fun e w' => e = .returned (.agg #[.int .i64 2, .int .i64 n, .string ⟨#[]⟩, .slice none 0 0]) ∧ Below w.heap.size w w' := by
  have hB := (Below.refl _ w).alloc (Nat.le_refl _) (Obj.cells #[.int .i64 2, .int .i64 n, .string ⟨#[]⟩, .slice none 0 0] 24)
  go_enter Tryd.func16, Tryd.ntmps16
  go_wp2
  exact bodyPost_ret (v := .agg #[.int .i64 2, .int .i64 n, .string ⟨#[]⟩, .slice none 0 0]) (by simp [results, Tryd.results16, go_sem]) rfl ⟨rfl, hB⟩
set_option maxRecDepth 100000 in
set_option maxHeartbeats 4000000 in
theorem sclone_any (s : ByteArray) (w : World) (hs : s.size ≤ 140737488355328) :
    Calls Tryd.prog 51 #[.string s] w fun e w' => e = .returned (.string s) ∧ Below w.heap.size w w' := by
  by_cases h0 : s.size = 0
  · obtain rfl : s = ⟨#[]⟩ := ByteArray.ext (Array.eq_empty_of_size_eq_zero h0)
    go_enter Tryd.func51, Tryd.ntmps51
    go_wp2
    go_ret
    exact ⟨rfl, Below.refl _ _⟩
  · have hd : ((s.size : Int) == 0) = false := beq_eq_false_iff_ne.2 (by omega)
    obtain ⟨i0, hi, hz0, hz1, hz2⟩ := info_parts info_u8
    have hls : s.data.toList.length = s.size := by simp
    have hsz : (madeCells (Value.int .u8 0).cells (((s.size : Nat) : Int).toNat * i0.size)).size = s.size := by rw [size_madeCells, hz1]; simp
    have hmk : ∀ W : World, (Instr.makeSlice 58 (.int .i64 (s.size : Int)) (.int .i64 (s.size : Int))).run Tryd.prog W =
        .ok (.slice (some ⟨W.heap.size, 0, none⟩) s.size s.size) (W.alloc (.cells (madeCells (Value.int .u8 0).cells (((s.size : Nat) : Int).toNat * i0.size)) 5)) := fun W => by
      have h := run_make (P := Tryd.prog) W 58 5 i0 (.int .u8 0) Tryd.underlying58 hi hz0 .i64 .i64 (s.size : Int) (s.size : Int) (by omega) (by omega) (by rw [hz2]; omega) (by omega)
      simpa using h
    generalize (madeCells (Value.int .u8 0).cells (((s.size : Nat) : Int).toNat * i0.size)) = M at hsz hmk
    have hcp := Lib.run_copy_row_string (P := Tryd.prog) (w.alloc (.cells M 5)) 58 9 3 5 w.heap.size 0 s.size s.size s M 5 Tryd.underlying58 (by rw [hi]; simp [hz1]) (heap_alloc_new w _) (Nat.le_refl _) (by omega)
    have hY : (M.toList.take 0 ++ Lib.byteCells s.data.toList ++ M.toList.drop (0 + s.size)) = Lib.byteCells s.data.toList := by
      rw [List.take_zero, List.nil_append, List.drop_of_length_le (by rw [Array.length_toList]; omega), List.append_nil]
    rw [hY] at hcp
    have hg := setRow_heap (w.alloc (.cells M 5)) _ M (Lib.byteCells s.data.toList).toArray 5 (0, 0) (heap_alloc_new w _)
    have hus := Lib.run_unsafeString_row (P := Tryd.prog) ((w.alloc (.cells M 5)).setRow w.heap.size (Lib.byteCells s.data.toList).toArray) 96 3 9 5 Tryd.underlying96 (by simp [Program.cellsOf, hi, hz1]) w.heap.size s.size (by unfold World.shape?; rw [hg]; simp [Lib.byteCells_length, hls]) s.data.toList
      (fun e => h0 (by rw [← hls, e]; rfl)) (by omega) (by omega)
      (fun j x hx => Lib.cells_of_row hg s.size j _ (by rw [List.take_of_length_le (by rw [List.toList_toArray, Lib.byteCells_length, hls]; exact Nat.le_refl _), List.toList_toArray]; simp [Lib.byteCells, hx]))
    rw [hls] at hus
    have hB1 := (Below.refl w.heap.size w).alloc (Nat.le_refl _) (.cells M 5)
    have hB2 : Below w.heap.size (w.alloc (.cells M 5)) ((w.alloc (.cells M 5)).setRow w.heap.size (Lib.byteCells s.data.toList).toArray) := ⟨rfl, rfl, rfl, by simp, fun k hk => setRow_other _ _ _ _ (by omega)⟩
    clear hg hY hsz
    go_enter Tryd.func51, Tryd.ntmps51
    go_wp2
    go_ret
    exact ⟨rfl, Lib.below_freeze (hB1.trans hB2) (p := ⟨w.heap.size, 0, none⟩) (Nat.le_refl _) _⟩
theorem clone_any (s : ByteArray) (w : World) (hs : s.size ≤ 140737488355328) :
    Calls Tryd.prog 30 #[.string s] w fun e w' => e = .returned (.string s) ∧ Below w.heap.size w w' := by
  have hc := fun w => sclone_any s w hs
  go_enter Tryd.func30, Tryd.ntmps30
  go_wp2_with (first | (go_at_call 51; (with_reducible refine (hc _).mono ?_); rintro e w' ⟨rfl, hb⟩))
  go_ret
  exact ⟨rfl, hb⟩
theorem cell_alloc {w : World} {o : Obj} {p : Addr} {c : Value} (h : w.cell? p = some c) : (w.alloc o).cell? p = some c := cell_below ((Below.refl _ w).alloc (Nat.le_refl _) o) h
/-- reads as that value wherever what lies from B on is as it is -/
def Fresh (B : Nat) (w : World) (v : PV) (x : Value) : Prop := ∀ w', (∀ b, B ≤ b → b < w.heap.size → w'.heap[b]? = w.heap[b]?) → Is w' v x
theorem fresh_is {B : Nat} {w : World} {v : PV} {x : Value} (h : Fresh B w v x) : Is w v x := h w fun _ _ _ => rfl
theorem fresh_mono {B B' : Nat} {w : World} {v : PV} {x : Value} (h : Fresh B w v x) (hb : B' ≤ B) : Fresh B' w v x := fun w' h' => h w' fun b h1 h2 => h' b (Nat.le_trans hb h1) h2
theorem fresh_later {B : Nat} {w w1 : World} {v : PV} {x : Value} (h : Fresh B w v x) (hs : w.heap.size ≤ w1.heap.size) (hb : ∀ b, B ≤ b → b < w.heap.size → w1.heap[b]? = w.heap[b]?) : Fresh B w1 v x :=
  fun w' h' => h w' fun b h1 h2 => (h' b h1 (by omega)).trans (hb b h1 h2)
/-- right values' texts are short, and so are their lists -/
def small : PV → Prop
  | .mk _ _ s l => s.size ≤ 140737488355328 ∧ l.length ≤ 1000 ∧ smallL l
where smallL : List PV → Prop
  | [] => True
  | x :: r => small x ∧ smallL r
theorem small_mem {l : List PV} (h : small.smallL l) : ∀ x ∈ l, small x := by
  induction l with
  | nil => simp
  | cons y r ih =>
    intro x hx
    unfold small.smallL at h
    rcases List.mem_cons.1 hx with rfl | hx
    · exact h.1
    · exact ih h.2 x hx
/-- cells of values' fields, all of them -/
def VAt (W : World) (b : Nat) (cs : Array Value) : Prop := W.heap[b]? = some (.cells cs 24 (0, 0))
theorem vat_lt {W : World} {b : Nat} {cs : Array Value} (h : VAt W b cs) : b < W.heap.size := (Array.getElem?_eq_some_iff.1 h).1
theorem vat_cell {W : World} {b : Nat} {cs : Array Value} (h : VAt W b cs) (i : Nat) (c : Value) (hc : cs[i]? = some c) : W.cell? ⟨b, i, none⟩ = some c := by
  simp [World.cell?, show W.heap[b]? = _ from h, hc]
theorem vat_frozen {W : World} {b : Nat} {cs : Array Value} (h : VAt W b cs) (i : Nat) : W.frozen? ⟨b, i, none⟩ = false := by simp [World.frozen?, show W.heap[b]? = _ from h]
theorem vat_below {W W' : World} {b : Nat} {cs : Array Value} (hb : Below W.heap.size W W') (h : VAt W b cs) : VAt W' b cs := (hb.block b (vat_lt h)).trans h
theorem vat_alloc_drew (W : World) (cs : Array Value) : VAt ((W.alloc (.cells cs 24)).drew) W.heap.size cs := World.alloc_heap_new W _
theorem vat_alloc (W : World) (cs : Array Value) : VAt (W.alloc (.cells cs 24)) W.heap.size cs := World.alloc_heap_new W _
theorem vat_set {W : World} {b : Nat} {cs : Array Value} (h : VAt W b cs) (i : Nat) (c : Value) : VAt (W.setCell ⟨b, i, none⟩ c) b (cs.setIfInBounds i c) := by
  obtain ⟨hlt, hk⟩ := Array.getElem?_eq_some_iff.1 h
  show (W.heap.modify b _)[b]? = _
  rw [Array.getElem?_eq_getElem (by rw [Array.size_modify]; exact hlt), Array.getElem_modify_self, hk]
  rfl
theorem vat_other {W : World} {b b' : Nat} {cs : Array Value} (h : VAt W b cs) (hne : b ≠ b') (i : Nat) (c : Value) : VAt (W.setCell ⟨b', i, none⟩ c) b cs := (Below.heap_setCell W ⟨b', i, none⟩ c b hne).trans h
theorem box4 {W : World} {b : Nat} {c0 c1 c2 c3 : Value} (h : VAt W b #[c0, c1, c2, c3]) : (W.cell? ⟨b, 0, none⟩ = some c0 ∧ W.cell? ⟨b, 1, none⟩ = some c1 ∧ W.cell? ⟨b, 2, none⟩ = some c2 ∧ W.cell? ⟨b, 3, none⟩ = some c3) ∧
    (W.frozen? ⟨b, 0, none⟩ = false ∧ W.frozen? ⟨b, 1, none⟩ = false ∧ W.frozen? ⟨b, 2, none⟩ = false ∧ W.frozen? ⟨b, 3, none⟩ = false) :=
  ⟨⟨vat_cell h 0 _ rfl, vat_cell h 1 _ rfl, vat_cell h 2 _ rfl, vat_cell h 3 _ rfl⟩, vat_frozen h 0, vat_frozen h 1, vat_frozen h 2, vat_frozen h 3⟩
theorem vat_set4 {W : World} {b : Nat} {c0 c1 c2 c3 : Value} (h : VAt W b #[c0, c1, c2, c3]) (d0 d1 d2 d3 : Value) :
    VAt ((((W.setCell ⟨b, 0, none⟩ d0).setCell ⟨b, 1, none⟩ d1).setCell ⟨b, 2, none⟩ d2).setCell ⟨b, 3, none⟩ d3) b #[d0, d1, d2, d3] :=
  vat_set (vat_set (vat_set (vat_set h 0 d0) 1 d1) 2 d2) 3 d3
theorem vat_other4 {W : World} {b b' : Nat} {cs : Array Value} (h : VAt W b cs) (hne : b ≠ b') (i0 i1 i2 i3 : Nat) (d0 d1 d2 d3 : Value) :
    VAt ((((W.setCell ⟨b', i0, none⟩ d0).setCell ⟨b', i1, none⟩ d1).setCell ⟨b', i2, none⟩ d2).setCell ⟨b', i3, none⟩ d3) b cs :=
  vat_other (vat_other (vat_other (vat_other h hne i0 d0) hne i1 d1) hne i2 d2) hne i3 d3
theorem below_set4 {B : Nat} {w W : World} (h : Below B w W) {b : Nat} (hb : B ≤ b) (i0 i1 i2 i3 : Nat) (d0 d1 d2 d3 : Value) :
    Below B w ((((W.setCell ⟨b, i0, none⟩ d0).setCell ⟨b, i1, none⟩ d1).setCell ⟨b, i2, none⟩ d2).setCell ⟨b, i3, none⟩ d3) :=
  (((h.setCell (p := ⟨b, i0, none⟩) hb d0).setCell (p := ⟨b, i1, none⟩) hb d1).setCell (p := ⟨b, i2, none⟩) hb d2).setCell (p := ⟨b, i3, none⟩) hb d3
theorem cell_set4 {W : World} {p : Addr} {c : Value} {b : Nat} {i0 i1 i2 i3 : Nat} {d0 d1 d2 d3 : Value} (h : W.cell? p = some c) (hne : p.block ≠ b) :
    ((((W.setCell ⟨b, i0, none⟩ d0).setCell ⟨b, i1, none⟩ d1).setCell ⟨b, i2, none⟩ d2).setCell ⟨b, i3, none⟩ d3).cell? p = some c := by
  have h1 : ∀ (W : World) (i : Nat) (d : Value), (W.setCell ⟨b, i, none⟩ d).cell? p = W.cell? p := fun W i d => by
    simp only [World.cell?, Below.heap_setCell W ⟨b, i, none⟩ d p.block hne]
  rw [h1, h1, h1, h1, h]
abbrev vzero : Array Value := #[.int .i64 0, .int .i64 0, .string ⟨#[]⟩, .slice none 0 0]
theorem info_val : (Tryd.prog.info? 24).map (fun i => (i.zero, i.size, i.bytes)) = some (some (.agg vzero), 4, 56) := by kernel_rfl
end Go.Proofs.YtcicjpdjbfgbhaaDoor
