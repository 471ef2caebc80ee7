/- What all my texts share: endings, rows of integers, new cells. -/
import Derived.Test.YtdogdbibhmhooaaGreatRows
import Derived.WalkKit
import Derived.WalkSpells
import Derived.WalkLawsBesides
import Derived.Lib.Hide
import Derived.RangeFuncBox
import Derived.Maps.AppendAt
import Derived.Laws.BytesArg
import Derived.Lib.ConvBytes
import Derived.RangeFuncNested
import Derived.RangeFuncBound
import Derived.RangeFuncCalls
import Derived.RangeFuncLeaves
import Derived.Shelf.Abstract
import Derived.Shelf.RegionOpen
import Derived.OwnWalkIn
import Derived.TacticsInMore
import Derived.LoopNIn
import Derived.LoopIn
import Derived.Deep.Slices
namespace Go.Proofs.YtdogdbibhmhooaaGreat
open Go.RowKit
theorem ret_int {k : IntKind} {a b : Int} (h : a = b) : Ending.returned (.int k a) = .returned (.int k b) := by rw [h]
theorem ret_bool {a b : Bool} (h : a = b) : Ending.returned (.bool a) = .returned (.bool b) := by rw [h]
theorem ret_int2 {k l : IntKind} {a b c d : Int} (h : a = b) (h' : c = d) : Ending.returned (.tuple #[.int k a, .int l c]) = .returned (.tuple #[.int k b, .int l d]) := by rw [h, h']
theorem ret_iib {k l : IntKind} {a b c d : Int} {x y : Bool} (h : a = b) (h' : c = d) (h'' : x = y) : Ending.returned (.tuple #[.int k a, .int l c, .bool x]) = .returned (.tuple #[.int k b, .int l d, .bool y]) := by rw [h, h', h'']
/-- a slice of integers: these are its elements, wherever they lie -/
def Row (w : World) (k : IntKind) (a : Option Addr) (len cap : Nat) (l : List Int) : Prop :=
  l.length = len ∧ len ≤ cap ∧ cap ≤ maxLen ∧ (len = 0 ∨ ∃ b off, a = some ⟨b, off, none⟩ ∧ ∀ i, i < len → w.cell? ⟨b, off + i, none⟩ = some (.int k (l[i]?.getD 0)))

theorem cells_new (w : World) (l : List Value) (t : TypeId) : ∀ j u, l[j]? = some u → (w.alloc (.cells l.toArray t)).cell? ((⟨w.heap.size, 0, none⟩ : Addr).add j) = some u := by
  intro j u hj
  have hlt : j < l.length := by
    rcases Nat.lt_or_ge j l.length with h | h
    · exact h
    · rw [List.getElem?_eq_none h] at hj; cases hj
  simp only [Addr.add_lit]
  rw [World.cell?_alloc_at _ _ _ _ (by simp)]
  simpa using hj
theorem ownsRow_mono {w : World} {base base' : Nat} {e : TypeId} {size : Nat} {v : Value} {n : Nat} {xs : List Value} (h : w.ownsRow base e size v n xs) (hb : base' ≤ base) : w.ownsRow base' e size v n xs := by
  refine ⟨h.1, ?_⟩
  rcases h.2 with h | ⟨g, cap, cur, h1, h2, h3⟩
  · exact .inl h
  · exact .inr ⟨g, cap, cur, h1, Nat.le_trans hb h2, h3⟩
/-- a box that lies below an owned row is left alone by what grows the row -/
theorem boxed_past {W W' : World} {B : Nat} {t : TypeId} {u : Value} (hb : Boxed W B t u) {v : Value} (hg : W.grownBy W' v.ownBlock) {base : Nat} {e : TypeId} {size n : Nat} {xs : List Value} (hrow : W.ownsRow base e size v n xs) (hlt : B < base) : Boxed W' B t u :=
  hb.kept hg (fun h => by have := (hrow.lt B h.symm).1; omega)
theorem keepsOthers_grown {W W' : World} {v : Value} (hg : W.grownBy W' v.ownBlock) {base : Nat} {e : TypeId} {size n : Nat} {xs : List Value} (hrow : W.ownsRow base e size v n xs) : KeepsOthers W W' :=
  KeepsOthers.of_grownBy hg fun j o ej hj => by
    rcases hrow.2 with ⟨rfl, _⟩ | ⟨g, cap, cur, rfl, _, hgb, _⟩
    · simp [Value.ownBlock] at ej
    · obtain rfl : g = j := by simpa [Value.ownBlock] using ej
      rw [hgb] at hj; cases hj; rfl
theorem below_grown {W W' : World} {v : Value} (hg : W.grownBy W' v.ownBlock) {base : Nat} {e : TypeId} {size n : Nat} {xs : List Value} (hrow : W.ownsRow base e size v n xs) (hb : base ≤ W.heap.size) : Below base W W' :=
  (Below.refl base W).grown hg hb (fun k hk => (hrow.lt k hk).1)
theorem below_drewN {B : Nat} {a w : World} (h : Below B a w) (n : Nat) : Below B a (w.drewN n) := h.trans ⟨rfl, rfl, rfl, Nat.le_refl _, fun _ _ => rfl⟩
/-- what is owned stays owned where nothing that was there has turned -/
theorem ownsRow_below {w w' : World} {base : Nat} {e : TypeId} {size : Nat} {v : Value} {n : Nat} {xs : List Value} (h : w.ownsRow base e size v n xs) (hb : Below w.heap.size w w') : w'.ownsRow base e size v n xs := by
  refine ⟨h.1, ?_⟩
  rcases h.2 with hn | ⟨g, cap, cur, rfl, hg, hh, r⟩
  · exact .inl hn
  · exact .inr ⟨g, cap, cur, rfl, hg, (hb.block g (Array.getElem?_eq_some_iff.1 hh).1).trans hh, r⟩
/-- a slice value's cells, wherever they lie; of an empty one's address nothing is asked -/
def Cells (w : World) (size : Nat) (a : Option Addr) (n : Nat) (xs : List Value) : Prop :=
  xs.length = n * size ∧ (n = 0 ∨ ∃ ad, a = some ad ∧ ∀ j u, xs[j]? = some u → w.cell? (ad.add j) = some u)
theorem cells_of_row {w : World} {k : IntKind} {a : Option Addr} {n c : Nat} {l : List Int} (h : Row w k a n c l) : Cells w 1 a n (l.map (Value.int k)) := by
  obtain ⟨h1, _, _, h4⟩ := h
  refine ⟨by simp [h1], ?_⟩
  rcases h4 with h | ⟨b, off, rfl, hc⟩
  · exact .inl h
  · refine .inr ⟨_, rfl, fun j u hu => ?_⟩
    have hj : j < n := by
      rcases Nat.lt_or_ge j n with h | h
      · exact h
      · rw [List.getElem?_eq_none (by simp; omega)] at hu; cases hu
    rw [Addr.add_lit, hc j hj, ← hu]
    simp [List.getElem?_eq_getElem (show j < l.length by omega)]
section
variable {P : Program} (w : World)
theorem run_append_cells (base : Nat) (t ty e : TypeId) (i : TypeInfo) (z : Value) (size bytes : Nat) (ht : P.underlying t = some (.slice e)) (hi : P.info? e = some i) (hz : i.zero = some z)
    (hsize : i.size = size) (hby : i.bytes = bytes) (hzs : z.cells.size = size) (hsz : 0 < size) (v : Value) (n : Nat) (xs : List Value) (hown : w.ownsRow base e size v n xs)
    (a : Option Addr) (m c : Nat) (news : List Value) (hr : Cells w size a m news) (h1 : ∀ u ∈ news, u.oneCell' = true) (h63 : n + m ≤ maxLen) (hbytes : (n + m) * bytes ≤ 140737488355328) (hbase : base ≤ w.heap.size) :
    ∃ v' w', (Builtin.append_ #[t, t] ty #[v, .slice a m c]).run P w = .ok v' w' ∧ w'.ownsRow base e size v' (n + m) (xs ++ news) ∧ w.grownBy w' v.ownBlock := by
  obtain ⟨hl, hr⟩ := hr
  cases a with
  | none =>
    obtain rfl : m = 0 := by rcases hr with h | ⟨_, h, _⟩ <;> first | exact h | cases h
    obtain rfl : news = [] := List.length_eq_zero_iff.1 (by simpa using hl)
    refine ⟨v, w, ?_, by simpa using hown, ⟨rfl, rfl, rfl, Nat.le_refl _, fun _ _ _ => rfl⟩⟩
    rcases hown.2 with ⟨rfl, rfl⟩ | ⟨g, cap, cur, rfl, _, _, hnc, _⟩
    · simp [Builtin.append_, run_underlying ht, sizeOf, typeInfo, hi, Builtin.lenOf, Builtin.firstCells]
    · simp [Builtin.append_, run_underlying ht, sizeOf, typeInfo, hi, Builtin.lenOf, Builtin.firstCells, hnc, storeCells]
  | some ad =>
    have hc : ∀ j u, news[j]? = some u → w.cell? (ad.add j) = some u := by
      rcases hr with rfl | ⟨ad', e, h⟩
      · intro j u hu
        obtain rfl : news = [] := List.length_eq_zero_iff.1 (by simpa using hl)
        simp at hu
      · cases e; exact h
    obtain ⟨v', w', hrun, h2, h3, _⟩ := run_append_own_at (P := P) w base t ty e i z size bytes ht hi hz hsize hby hzs hsz v n xs hown ad m c news hl hc h1 h63 hbytes hbase
    exact ⟨v', w', hrun, h2, h3⟩
theorem wpList_append_cells {ops : Array Oper} {rest : List Oper} {o : Oper} {a : Act} {Q : Exit → Act → World → Prop} (hgd : o.guard = none) (s x : Operand) (t : TypeId)
    (ho : o.op = .call { callee := .builtin .append, args := #[s, x], argTypes := #[t, t] }) (base : Nat) (e : TypeId) (i : TypeInfo) (z : Value) (size bytes : Nat) (ht : P.underlying t = some (.slice e)) (hi : P.info? e = some i) (hz : i.zero = some z)
    (hsize : i.size = size) (hby : i.bytes = bytes) (hzs : z.cells.size = size) (hsz : 0 < size) (v : Value) (n : Nat) (xs : List Value) (hs : a.eval s = v) (hown : w.ownsRow base e size v n xs)
    (A : Option Addr) (m c : Nat) (news : List Value) (hx : a.eval x = .slice A m c) (hr : Cells w size A m news) (h1 : ∀ u ∈ news, u.oneCell' = true) (h63 : n + m ≤ maxLen) (hbytes : (n + m) * bytes ≤ 140737488355328) (hbase : base ≤ w.heap.size)
    (h : ∀ v' w', w'.ownsRow base e size v' (n + m) (xs ++ news) → w.grownBy w' v.ownBlock → wpList P ops Q rest (a.put o.dst v') w') : wpList P ops Q (o :: rest) a w :=
  wpList_plain hgd fun K hK => by
    obtain ⟨v', w', hrun, h2, h3⟩ := run_append_cells (P := P) w base t o.type e i z size bytes ht hi hz hsize hby hzs hsz v n xs hown A m c news hr h1 h63 hbytes hbase
    unfold Oper.wp execOp
    simp only [ho, resolve, invoke, builtin, Sem.run_bind, Sem.run_pure, Result.andThen_ok, List.map_toArray, List.map_cons, List.map_nil, hs, hx, hrun]
    exact hK _ _ (h v' w' h2 h3)
end
end Go.Proofs.YtdogdbibhmhooaaGreat

/- What all layers' texts share: texts as bytes, rows of bytes, conversions. -/
namespace Go.Proofs.YtdogdbibhmhooaaGreat
open Go.RowKit Go.Shelf
def Bytes (l : List Int) : Prop := ∀ i : Nat, 0 ≤ l[i]?.getD 0 ∧ l[i]?.getD 0 ≤ 255
theorem pair_eta {α β : Type} (p : α × β) : ∃ a b, p = (a, b) := ⟨p.1, p.2, rfl⟩
/-- a text's bytes, as numbers -/
def strB (s : ByteArray) : List Int := s.data.toList.map fun b => (b.toNat : Int)
theorem strB_len (s : ByteArray) : (strB s).length = s.size := by simp [strB]
theorem strB_at (s : ByteArray) (i : Nat) (h : i < s.size) : (strB s)[i]?.getD 0 = (s[i].toNat : Int) := by
  simp only [strB, List.getElem?_map, Array.getElem?_toList]
  rw [Array.getElem?_eq_getElem (by simpa using h)]; rfl
theorem strB_bytes (s : ByteArray) : Bytes (strB s) := by
  intro i
  simp only [strB, List.getElem?_map, Array.getElem?_toList]
  cases s.data[i]? with
  | none => simp
  | some b => simp; have := b.toNat_lt; omega
theorem u8_bd (b : UInt8) : 0 ≤ (b.toNat : Int) ∧ (b.toNat : Int) ≤ 255 := by have := b.toNat_lt; omega
def u8s (l : List Int) : List Value := l.map (Value.int .u8)
theorem u8s_append (l r : List Int) : u8s (l ++ r) = u8s l ++ u8s r := by simp [u8s]
theorem info_u8 : (Tryz.prog.info? 5).map (fun i => (i.zero, i.size, i.bytes)) = some (some (.int .u8 0), 1, 1) := by kernel_rfl
theorem ownsRow_nth {w : World} {base : Nat} {e : TypeId} {size : Nat} {v : Value} {n m : Nat} {xs ys : List Value} (h : w.ownsRow base e size v n xs) (h1 : n = m) (h2 : xs = ys) : w.ownsRow base e size v m ys := by
  subst h1 h2; exact h
/-- what a round keeps for an iterator that reads its own box between two rounds -/
def KeepsBox (b : Nat) (t : TypeId) (A B : World) : Prop := ∀ v, Boxed A b t v → Boxed B b t v
theorem keepsBox_t {b : Nat} {t : TypeId} {A B C : World} (h : KeepsBox b t A B) (k : KeepsBox b t B C) : KeepsBox b t A C := fun v hv => k v (h v hv)
theorem keepsBox_b {b : Nat} {t : TypeId} (W : World) (l : Nat) (o o' : Obj) (hl : W.heap[l]? = some o) (ho : o.isCells = false) : KeepsBox b t W (W.putObj l o') := fun v hv =>
  hv.kept (grownBy_putObj' W l o') (fun e => by
    cases e
    have h : W.heap[b]? = some (.cells #[v] t (0, 0)) := hv
    rw [h] at hl; cases hl; simp [Obj.isCells] at ho)
theorem keepsBox_of {b : Nat} {t : TypeId} {A B : World} {row : Option Nat} (hg : A.grownBy B row) (hne : some b ≠ row) : KeepsBox b t A B := fun _ hv => hv.kept hg hne
theorem info_int : (Tryz.prog.info? 3).map (fun i => (i.zero, i.size, i.bytes)) = some (some (.int .i64 0), 1, 8) := by kernel_rfl
def i64s (l : List Int) : List Value := l.map (Value.int .i64)
theorem take_succ_getD (l : List Int) (k : Nat) (h : k < l.length) : l.take (k + 1) = l.take k ++ [l[k]?.getD 0] := by
  rw [List.take_succ_eq_append_getElem h, List.getElem?_eq_getElem h]; rfl
/-- the bytes of two lists of the same -/
theorem getD_ext (l r : List Int) (h : l.length = r.length) (hc : ∀ i, i < l.length → l[i]?.getD 0 = r[i]?.getD 0) : l = r := by
  apply List.ext_getElem h
  intro i h1 h2
  have := hc i h1
  rwa [List.getElem?_eq_getElem h1, List.getElem?_eq_getElem h2] at this
theorem owns_built (w : World) (l : List Value) (e : TypeId) (n : Nat) (hn : l.length = n) (hm : n ≤ maxLen) :
    (w.alloc (.cells l.toArray e)).ownsRow w.heap.size e 1 (.slice (some ⟨w.heap.size, 0, none⟩) n n) n l :=
  ⟨by omega, .inr ⟨w.heap.size, n, l.toArray, rfl, Nat.le_refl _, World.alloc_heap_new w _, Nat.le_refl _, hm, by simpa using hn, by simp [← hn]⟩⟩
theorem row_of_owns {w : World} {base : Nat} {e : TypeId} {v : Value} {n : Nat} {k : IntKind} {l : List Int} (h : w.ownsRow base e 1 v n (l.map (Value.int k))) :
    ∃ a cap, v = .slice a n cap ∧ Row w k a n cap l := by
  obtain ⟨h1, h2⟩ := h
  have hl : l.length = n := by simpa using h1
  rcases h2 with ⟨rfl, rfl⟩ | ⟨g, cap, cur, rfl, hb, hg, hn, hc, hs, ht⟩
  · exact ⟨none, 0, rfl, hl, Nat.le_refl _, by unfold maxLen; omega, .inl rfl⟩
  · refine ⟨_, cap, rfl, hl, hn, hc, .inr ⟨g, 0, rfl, fun i hi => ?_⟩⟩
    rw [Nat.mul_one] at ht
    have h1 : (l.map (Value.int k))[i]? = some (.int k (l[i]?.getD 0)) := by
      simp [List.getElem?_eq_getElem (show i < l.length by omega)]
    rw [← ht, List.getElem?_take, if_pos hi] at h1
    simp only [World.cell?, hg, Nat.zero_add]
    simpa using h1
theorem row_below {w w' : World} {B : Nat} {k : IntKind} {a : Option Addr} {n c : Nat} {l : List Int} (h : Row w k a n c l) (hb : Below B w w') (hB : B = w.heap.size) : Row w' k a n c l := by
  subst hB
  obtain ⟨h1, h2, h3, h4⟩ := h
  refine ⟨h1, h2, h3, ?_⟩
  rcases h4 with h | ⟨b, off, rfl, hc⟩
  · exact .inl h
  · refine .inr ⟨b, off, rfl, fun i hi => ?_⟩
    have h0 := hc i hi
    have hbk : b < w.heap.size := by
      simp only [World.cell?] at h0
      rcases Nat.lt_or_ge b w.heap.size with h | h
      · exact h
      · rw [Array.getElem?_eq_none h] at h0; cases h0
    exact (hb.cell (p := ⟨b, off + i, none⟩) hbk).trans h0
theorem conv_bytes (w : World) (s : ByteArray) (hs : s.size ≤ maxLen) : ∃ cap w', (convert 9 26 (.string s)).run Tryz.prog w = .ok (.slice (some ⟨w.heap.size, 0, none⟩) s.size cap) w' ∧
    Row w' .u8 (some ⟨w.heap.size, 0, none⟩) s.size cap (strB s) ∧ Below w.heap.size w w' := by
  refine ⟨_, _, Lib.run_convert_string_bytes w _ _ _ s Tryz.underlying9 Tryz.underlying26 Tryz.underlying5, ⟨strB_len s, grownCap_ge _ _ _ _, grownCap_le_maxLen _ _ _ _ hs, .inr ⟨_, 0, rfl, fun i hi => ?_⟩⟩, ?_⟩
  · rw [Nat.zero_add, Lib.bytesWorld_cell w _ s i hi, strB_at s i hi]
    simp only [List.getD, Array.getElem?_toList]
    rw [Array.getElem?_eq_getElem (by simpa using hi)]
    rfl
  · have h := Lib.bytesWorld_at_old w 5 s
    exact ⟨by simp [Lib.bytesWorld, World.freeze, World.alloc, World.drew, -World.alloc_eq, -World.drew_eq], rfl, rfl, by rw [Lib.bytesWorld_size]; omega, h⟩
theorem wf_i64 {n : Int} (h : (Lit.int .i64 n).wf = true) : -9223372036854775808 ≤ n ∧ n ≤ 9223372036854775807 := by simpa [Lit.wf, IntKind.min, IntKind.max, IntKind.signed, IntKind.bits] using h
theorem strOfNums_strB (s : ByteArray) : strOfNums (strB s) = s := by
  apply ByteArray.ext
  apply Array.toList_inj.1
  simp only [strOfNums, strB, List.map_map]
  conv => rhs; rw [← List.map_id s.data.toList]
  apply List.map_congr_left
  intro x _
  simp
theorem toList_data (s : ByteArray) : s.toList = s.data.toList := by
  have h : ∀ (n i : Nat) (r : List UInt8), s.size - i = n → ByteArray.toList.loop s i r = r.reverse ++ s.data.toList.drop i := by
    intro n
    induction n with
    | zero =>
      intro i r h
      rw [ByteArray.toList.loop, if_neg (by omega), List.drop_eq_nil_of_le (by simp; omega)]; simp
    | succ n ih =>
      intro i r h
      have hi : i < s.data.toList.length := by simp; omega
      rw [ByteArray.toList.loop, if_pos (by omega), ih _ _ (by omega), List.drop_eq_getElem_cons hi]
      simp only [List.reverse_cons, List.append_assoc, List.cons_append, List.nil_append]
      congr 2
      have : s.get! i = s.data[i]! := rfl
      rw [this, getElem!_pos s.data i (by simpa using hi)]; rfl
  exact (h _ 0 [] rfl)
end Go.Proofs.YtdogdbibhmhooaaGreat

/- Values: the pure ones, and how they lie in memory. -/
namespace Go.Proofs.YtdogdbibhmhooaaGreat
open Go.RowKit Go.Shelf
/-- a value: its kind, its number, its text, what is in it -/
inductive PV where
  | mk (k n : Int) (s : ByteArray) (l : List PV)
theorem pv_ind {p : PV → Prop} (h : ∀ k n s l, (∀ x ∈ l, p x) → p (.mk k n s l)) : ∀ v, p v := by
  intro v
  refine PV.rec (motive_1 := p) (motive_2 := fun l => ∀ x ∈ l, p x) (fun k n s l ih => h k n s l ih) (by simp) (fun x r hx hr y hy => ?_) v
  rcases List.mem_cons.1 hy with rfl | hy
  · exact hx
  · exact hr y hy
/-- an int of 64 bits -/
def I64 (n : Int) : Prop := -9223372036854775808 ≤ n ∧ n ≤ 9223372036854775807
mutual
/-- a value in memory -/
def Is (w : World) : PV → Value → Prop
  | .mk k n s l, v => I64 k ∧ I64 n ∧ s.size ≤ maxLen ∧ ∃ a cap, v = .agg #[.int .i64 k, .int .i64 n, .string s, .slice a l.length cap] ∧ l.length ≤ cap ∧ cap ≤ maxLen ∧
      (l = [] ∨ ∃ b off, a = some ⟨b, off, none⟩ ∧ IsL w b l off)
/-- values that lie one behind the other -/
def IsL (w : World) (b : Nat) : List PV → Nat → Prop
  | [], _ => True
  | x :: r, off => (∃ c0 c1 c2 c3, (w.cell? ⟨b, off, none⟩ = some c0 ∧ w.cell? ⟨b, off + 1, none⟩ = some c1 ∧ w.cell? ⟨b, off + 2, none⟩ = some c2 ∧ w.cell? ⟨b, off + 3, none⟩ = some c3) ∧ Is w x (.agg #[c0, c1, c2, c3])) ∧ IsL w b r (off + 4)
end
theorem isL_at {w : World} {b : Nat} : ∀ {l : List PV} {off : Nat}, IsL w b l off → ∀ i x, l[i]? = some x → ∃ c0 c1 c2 c3, (w.cell? ⟨b, off + i * 4, none⟩ = some c0 ∧ w.cell? ⟨b, off + i * 4 + 1, none⟩ = some c1 ∧ w.cell? ⟨b, off + i * 4 + 2, none⟩ = some c2 ∧ w.cell? ⟨b, off + i * 4 + 3, none⟩ = some c3) ∧ Is w x (.agg #[c0, c1, c2, c3]) := by
  intro l
  induction l with
  | nil => intro off _ i x h; simp at h
  | cons y r ih =>
    intro off h i x hx
    unfold IsL at h
    cases i with
    | zero => simp at hx; subst hx; simpa using h.1
    | succ i =>
      have := ih h.2 i x (by simpa using hx)
      simpa [Nat.succ_mul, Nat.add_assoc, Nat.add_comm, Nat.add_left_comm] using this
theorem isL_of {w : World} {b : Nat} : ∀ {l : List PV} {off : Nat}, (∀ i x, l[i]? = some x → ∃ c0 c1 c2 c3, (w.cell? ⟨b, off + i * 4, none⟩ = some c0 ∧ w.cell? ⟨b, off + i * 4 + 1, none⟩ = some c1 ∧ w.cell? ⟨b, off + i * 4 + 2, none⟩ = some c2 ∧ w.cell? ⟨b, off + i * 4 + 3, none⟩ = some c3) ∧ Is w x (.agg #[c0, c1, c2, c3])) → IsL w b l off := by
  intro l
  induction l with
  | nil => intro off _; unfold IsL; trivial
  | cons y r ih =>
    intro off h
    unfold IsL
    refine ⟨by simpa using h 0 y rfl, ih fun i x hx => ?_⟩
    have := h (i + 1) x (by simpa using hx)
    simpa [Nat.succ_mul, Nat.add_assoc, Nat.add_comm, Nat.add_left_comm] using this
/-- the value at a place, its cells as they are -/
theorem isL_val {w : World} {b off : Nat} {l : List PV} (h : IsL w b l off) (i : Nat) (k n : Int) (s : ByteArray) (r : List PV) (hx : l[i]? = some (.mk k n s r)) : ∃ a cap,
    (w.cell? ⟨b, off + i * 4, none⟩ = some (.int .i64 k) ∧ w.cell? ⟨b, off + i * 4 + 1, none⟩ = some (.int .i64 n) ∧ w.cell? ⟨b, off + i * 4 + 2, none⟩ = some (.string s) ∧ w.cell? ⟨b, off + i * 4 + 3, none⟩ = some (.slice a r.length cap)) ∧
    Is w (.mk k n s r) (.agg #[.int .i64 k, .int .i64 n, .string s, .slice a r.length cap]) := by
  obtain ⟨c0, c1, c2, c3, ⟨g0, g1, g2, g3⟩, hi⟩ := isL_at h i _ hx
  have h2 := hi
  unfold Is at h2
  obtain ⟨_, _, _, a, cap, e, _⟩ := h2
  simp only [Value.agg.injEq, Array.mk.injEq, List.cons.injEq, and_true] at e
  obtain ⟨rfl, rfl, rfl, rfl⟩ := e
  exact ⟨a, cap, ⟨g0, g1, g2, g3⟩, hi⟩
theorem cell_below {w w' : World} (hb : Below w.heap.size w w') {p : Addr} {v : Value} (h : w.cell? p = some v) : w'.cell? p = some v := by
  have hbk : p.block < w.heap.size := by
    simp only [World.cell?] at h
    rcases Nat.lt_or_ge p.block w.heap.size with h' | h'
    · exact h'
    · rw [Array.getElem?_eq_none h'] at h; cases h
  exact (hb.cell hbk).trans h
theorem is_below {w w' : World} (hb : Below w.heap.size w w') : ∀ v x, Is w v x → Is w' v x := by
  intro v
  induction v using pv_ind with
  | h k n s l ih =>
    intro x h
    unfold Is at h ⊢
    obtain ⟨h1, h2, h3, a, cap, rfl, h4, h5, h6⟩ := h
    refine ⟨h1, h2, h3, a, cap, rfl, h4, h5, ?_⟩
    rcases h6 with h6 | ⟨b, off, rfl, h6⟩
    · exact .inl h6
    · refine .inr ⟨b, off, rfl, isL_of fun i y hy => ?_⟩
      obtain ⟨c0, c1, c2, c3, ⟨g0, g1, g2, g3⟩, hi⟩ := isL_at h6 i y hy
      exact ⟨c0, c1, c2, c3, ⟨cell_below hb g0, cell_below hb g1, cell_below hb g2, cell_below hb g3⟩, ih y (List.mem_of_getElem? hy) _ hi⟩
theorem isL_below {w w' : World} (hb : Below w.heap.size w w') {b : Nat} {l : List PV} {off : Nat} (h : IsL w b l off) : IsL w' b l off :=
  isL_of fun i y hy => by
    obtain ⟨c0, c1, c2, c3, ⟨g0, g1, g2, g3⟩, hi⟩ := isL_at h i y hy
    exact ⟨c0, c1, c2, c3, ⟨cell_below hb g0, cell_below hb g1, cell_below hb g2, cell_below hb g3⟩, is_below hb _ _ hi⟩
mutual
/-- how many nodes -/
def szV : PV → Nat
  | .mk _ _ _ l => szL l + 1
def szL : List PV → Nat
  | [] => 0
  | x :: r => szV x + szL r
end
mutual
/-- how deep, as the program says it -/
def deepV : PV → Nat
  | .mk k _ _ l => deepL l + (if k = 5 then 1 else 0)
def deepL : List PV → Nat
  | [] => 0
  | x :: r => max (deepV x) (deepL r)
end
theorem deep_le : ∀ v, deepV v ≤ szV v := by
  intro v
  induction v using pv_ind with
  | h k n s l ih =>
    have : deepL l ≤ szL l := by
      clear k n s
      induction l with
      | nil => simp [deepL, szL]
      | cons x r ih2 =>
        have h1 := ih x (by simp)
        have h2 := ih2 fun y hy => ih y (by simp [hy])
        simp only [deepL, szL]
        omega
    simp only [deepV, szV]
    split <;> omega
theorem szL_append (l r : List PV) : szL (l ++ r) = szL l + szL r := by
  induction l with
  | nil => simp [szL]
  | cons x l ih => simp only [List.cons_append, szL, ih]; omega
theorem szL_mem {l : List PV} {x : PV} (h : x ∈ l) : szV x ≤ szL l := by
  induction l with
  | nil => simp at h
  | cons y r ih =>
    simp only [szL]
    rcases List.mem_cons.1 h with rfl | h
    · omega
    · have := ih h; omega
end Go.Proofs.YtdogdbibhmhooaaGreat

/- Values that came in: opened. -/
set_option maxRecDepth 100000
namespace Go.Proofs.YtdogdbibhmhooaaGreat
open Go.RowKit Go.ChangeShapes Go.WideShapes
theorem cellsOf_val : Tryz.prog.cellsOf 56 = 4 := by kernel_rfl
theorem cells_four {W : World} {a : Addr} {cs : List Value} (h : W.cells? 0 a 4 = some cs) : ∃ c0 c1 c2 c3, cs = [c0, c1, c2, c3] ∧ W.cell? (a.add 0) = some c0 ∧ W.cell? (a.add 1) = some c1 ∧ W.cell? (a.add 2) = some c2 ∧ W.cell? (a.add 3) = some c3 := by
  obtain ⟨_, hlen, hc⟩ := World.cells?_some h
  match cs, hlen with
  | [c0, c1, c2, c3], _ => exact ⟨c0, c1, c2, c3, rfl, hc 0 (by omega), hc 1 (by omega), hc 2 (by omega), hc 3 (by omega)⟩
instance : Inhabited PV := ⟨.mk 0 0 ⟨#[]⟩ []⟩
/-- whatever reads as a value is one -/
theorem open_value {H : Type} {enc : TypeId × Value → H} {W : World} {spare : Nat → Bool} {held : Bool} (fuel : Nat) : ∀ (cs : List Value) (x : DataW H × List MemPlace), DataW.trod enc Tryz.prog W 0 spare held fuel 56 cs = some x →
    ∃ c0 c1 c2 c3, cs = [c0, c1, c2, c3] ∧ ∃ t : PV, Is W t (.agg #[c0, c1, c2, c3]) := by
  induction fuel using Nat.strongRecOn with
  | _ fuel ih =>
    intro cs x h
    obtain ⟨xs, n, hfu, _, hlen, hxl, hf⟩ := DataW.trod_struct Tryz.underlying56 h
    rw [cellsOf_val] at hlen
    match cs, hlen with
    | [c0, c1, c2, c3], _ =>
    have h0 := hf 0 _ rfl
    have h1 := hf 1 _ rfl
    have h2 := hf 2 _ rfl
    have h3 := hf 3 _ rfl
    have hxl' : xs.length = 4 := hxl
    match xs, hxl' with
    | [x0, x1, x2, x3], _ =>
    replace h0 : DataW.trod enc Tryz.prog W 0 spare held n 3 [c0] = some x0 := h0
    replace h1 : DataW.trod enc Tryz.prog W 0 spare held n 2 [c1] = some x1 := h1
    replace h2 : DataW.trod enc Tryz.prog W 0 spare held n 9 [c2] = some x2 := h2
    replace h3 : DataW.trod enc Tryz.prog W 0 spare held n 54 [c3] = some x3 := h3
    obtain ⟨k, e0, _, wk⟩ := DataW.trod_int Tryz.underlying3 h0
    obtain ⟨m, e1, _, wm⟩ := DataW.trod_int Tryz.underlying2 h1
    obtain ⟨s, e2, _, ws⟩ := DataW.trod_string Tryz.underlying9 h2
    simp only [List.cons.injEq, and_true] at e0 e1 e2
    subst e0 e1 e2
    refine ⟨_, _, _, _, rfl, ?_⟩
    rcases DataW.trod_slice Tryz.underlying54 h3 with ⟨e3, _⟩ | ⟨a, len, cap, elems, rest, n', hn', e3, _, _, hl, hm, hlen, hel, _, _⟩
    · simp only [List.cons.injEq, and_true] at e3
      subst e3
      refine ⟨.mk k m s [], ?_⟩
      unfold Is
      exact ⟨wf_i64 wk, wf_i64 wm, ws, none, 0, rfl, Nat.le_refl _, by unfold maxLen; omega, .inl rfl⟩
    · simp only [List.cons.injEq, and_true] at e3
      subst e3
      have each : ∀ i, i < len → ∃ t : PV, ∃ c0 c1 c2 c3, (W.cell? ((a.add (i * 4)).add 0) = some c0 ∧ W.cell? ((a.add (i * 4)).add 1) = some c1 ∧ W.cell? ((a.add (i * 4)).add 2) = some c2 ∧ W.cell? ((a.add (i * 4)).add 3) = some c3) ∧ Is W t (.agg #[c0, c1, c2, c3]) := fun i hi => by
        have he := hel i hi
        rw [cellsOf_val, List.getElem?_eq_getElem (by omega)] at he
        obtain ⟨cs', g1, g2⟩ := Option.bind_eq_some_iff.1 he
        obtain ⟨d0, d1, d2, d3, rfl, q0, q1, q2, q3⟩ := cells_four g1
        obtain ⟨_, _, _, _, e, t, ht⟩ := ih n' (by omega) _ _ g2
        simp only [List.cons.injEq, and_true] at e
        obtain ⟨rfl, rfl, rfl, rfl⟩ := e
        exact ⟨t, d0, d1, d2, d3, ⟨q0, q1, q2, q3⟩, ht⟩
      obtain ⟨f, hf⟩ := Go.Deep.choose_lt each
      refine ⟨.mk k m s ((List.range len).map f), ?_⟩
      unfold Is
      refine ⟨wf_i64 wk, wf_i64 wm, ws, some a, cap, by simp, by simpa using hl, hm, ?_⟩
      rcases Nat.eq_zero_or_pos len with hz | hz
      · subst hz; exact .inl rfl
      · obtain ⟨b, off, spot⟩ := a
        have hspot : spot = none := by
          obtain ⟨c0, _, _, _, ⟨q0, _⟩, _⟩ := hf 0 hz
          simpa [Addr.add] using World.cell?_spot q0
        subst hspot
        refine .inr ⟨b, off, rfl, isL_of fun i y hy => ?_⟩
        have hi : i < len := by
          have := (List.getElem?_eq_some_iff.1 hy).1
          simpa using this
        obtain ⟨c0, c1, c2, c3, ⟨q0, q1, q2, q3⟩, ht⟩ := hf i hi
        have hyf : f i = y := by
          rw [List.getElem?_map, List.getElem?_range hi] at hy
          simpa using hy
        subst hyf
        simp only [Addr.add_lit, Nat.add_zero] at q0 q1 q2 q3
        exact ⟨c0, c1, c2, c3, ⟨q0, q1, q2, q3⟩, ht⟩
end Go.Proofs.YtdogdbibhmhooaaGreat
