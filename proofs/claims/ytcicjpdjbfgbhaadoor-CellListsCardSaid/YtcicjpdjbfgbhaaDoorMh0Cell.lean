/- What all my texts share: endings, rows of integers, new cells. -/
import Derived.Test.YtcicjpdjbfgbhaaDoorRows
import Derived.WalkKit
import Derived.WalkSpells
import Derived.WalkLawsBesides
import Derived.Lib.Hide
import Derived.RangeFuncBox
import Derived.Maps.AppendAt
import Derived.Laws.BytesArg
import Derived.Lib.ConvBytes
import Derived.RangeFuncNested
import Derived.RangeFuncBound
import Derived.RangeFuncCalls
import Derived.RangeFuncLeaves
import Derived.Shelf.Abstract
import Derived.Shelf.RegionOpen
import Derived.OwnWalkIn
import Derived.TacticsInMore
import Derived.LoopNIn
import Derived.LoopIn
namespace Go.Proofs.YtcicjpdjbfgbhaaDoor
open Go.RowKit
theorem ret_int {k : IntKind} {a b : Int} (h : a = b) : Ending.returned (.int k a) = .returned (.int k b) := by rw [h]
theorem ret_bool {a b : Bool} (h : a = b) : Ending.returned (.bool a) = .returned (.bool b) := by rw [h]
theorem ret_int2 {k l : IntKind} {a b c d : Int} (h : a = b) (h' : c = d) : Ending.returned (.tuple #[.int k a, .int l c]) = .returned (.tuple #[.int k b, .int l d]) := by rw [h, h']
theorem ret_iib {k l : IntKind} {a b c d : Int} {x y : Bool} (h : a = b) (h' : c = d) (h'' : x = y) : Ending.returned (.tuple #[.int k a, .int l c, .bool x]) = .returned (.tuple #[.int k b, .int l d, .bool y]) := by rw [h, h', h'']
/-- a slice of integers: these are its elements, wherever they lie -/
def Row (w : World) (k : IntKind) (a : Option Addr) (len cap : Nat) (l : List Int) : Prop :=
  l.length = len ∧ len ≤ cap ∧ cap ≤ maxLen ∧ (len = 0 ∨ ∃ b off, a = some ⟨b, off, none⟩ ∧ ∀ i, i < len → w.cell? ⟨b, off + i, none⟩ = some (.int k (l[i]?.getD 0)))

theorem cells_new (w : World) (l : List Value) (t : TypeId) : ∀ j u, l[j]? = some u → (w.alloc (.cells l.toArray t)).cell? ((⟨w.heap.size, 0, none⟩ : Addr).add j) = some u := by
  intro j u hj
  have hlt : j < l.length := by
    rcases Nat.lt_or_ge j l.length with h | h
    · exact h
    · rw [List.getElem?_eq_none h] at hj; cases hj
  simp only [Addr.add_lit]
  rw [World.cell?_alloc_at _ _ _ _ (by simp)]
  simpa using hj
theorem ownsRow_mono {w : World} {base base' : Nat} {e : TypeId} {size : Nat} {v : Value} {n : Nat} {xs : List Value} (h : w.ownsRow base e size v n xs) (hb : base' ≤ base) : w.ownsRow base' e size v n xs := by
  refine ⟨h.1, ?_⟩
  rcases h.2 with h | ⟨g, cap, cur, h1, h2, h3⟩
  · exact .inl h
  · exact .inr ⟨g, cap, cur, h1, Nat.le_trans hb h2, h3⟩
theorem keepsOthers_grown {W W' : World} {v : Value} (hg : W.grownBy W' v.ownBlock) {base : Nat} {e : TypeId} {size n : Nat} {xs : List Value} (hrow : W.ownsRow base e size v n xs) : KeepsOthers W W' :=
  KeepsOthers.of_grownBy hg fun j o ej hj => by
    rcases hrow.2 with ⟨rfl, _⟩ | ⟨g, cap, cur, rfl, _, hgb, _⟩
    · simp [Value.ownBlock] at ej
    · obtain rfl : g = j := by simpa [Value.ownBlock] using ej
      rw [hgb] at hj; cases hj; rfl
theorem below_grown {W W' : World} {v : Value} (hg : W.grownBy W' v.ownBlock) {base : Nat} {e : TypeId} {size n : Nat} {xs : List Value} (hrow : W.ownsRow base e size v n xs) (hb : base ≤ W.heap.size) : Below base W W' :=
  (Below.refl base W).grown hg hb (fun k hk => (hrow.lt k hk).1)
theorem below_drewN {B : Nat} {a w : World} (h : Below B a w) (n : Nat) : Below B a (w.drewN n) := h.trans ⟨rfl, rfl, rfl, Nat.le_refl _, fun _ _ => rfl⟩
/-- what is owned stays owned where nothing that was there has turned -/
theorem ownsRow_below {w w' : World} {base : Nat} {e : TypeId} {size : Nat} {v : Value} {n : Nat} {xs : List Value} (h : w.ownsRow base e size v n xs) (hb : Below w.heap.size w w') : w'.ownsRow base e size v n xs := by
  refine ⟨h.1, ?_⟩
  rcases h.2 with hn | ⟨g, cap, cur, rfl, hg, hh, r⟩
  · exact .inl hn
  · exact .inr ⟨g, cap, cur, rfl, hg, (hb.block g (Array.getElem?_eq_some_iff.1 hh).1).trans hh, r⟩
/-- a slice value's cells, wherever they lie; of an empty one's address nothing is asked -/
def Cells (w : World) (size : Nat) (a : Option Addr) (n : Nat) (xs : List Value) : Prop :=
  xs.length = n * size ∧ (n = 0 ∨ ∃ ad, a = some ad ∧ ∀ j u, xs[j]? = some u → w.cell? (ad.add j) = some u)
theorem cells_of_row {w : World} {k : IntKind} {a : Option Addr} {n c : Nat} {l : List Int} (h : Row w k a n c l) : Cells w 1 a n (l.map (Value.int k)) := by
  obtain ⟨h1, _, _, h4⟩ := h
  refine ⟨by simp [h1], ?_⟩
  rcases h4 with h | ⟨b, off, rfl, hc⟩
  · exact .inl h
  · refine .inr ⟨_, rfl, fun j u hu => ?_⟩
    have hj : j < n := by
      rcases Nat.lt_or_ge j n with h | h
      · exact h
      · rw [List.getElem?_eq_none (by simp; omega)] at hu; cases hu
    rw [Addr.add_lit, hc j hj, ← hu]
    simp [List.getElem?_eq_getElem (show j < l.length by omega)]
section
variable {P : Program} (w : World)
end
end Go.Proofs.YtcicjpdjbfgbhaaDoor

/- What all layers' texts share: texts as bytes, rows of bytes, conversions. -/
namespace Go.Proofs.YtcicjpdjbfgbhaaDoor
open Go.RowKit Go.Shelf
def Bytes (l : List Int) : Prop := ∀ i : Nat, 0 ≤ l[i]?.getD 0 ∧ l[i]?.getD 0 ≤ 255
theorem pair_eta {α β : Type} (p : α × β) : ∃ a b, p = (a, b) := ⟨p.1, p.2, rfl⟩
/-- a text's bytes, as numbers -/
def strB (s : ByteArray) : List Int := s.data.toList.map fun b => (b.toNat : Int)
theorem strB_len (s : ByteArray) : (strB s).length = s.size := by simp [strB]
theorem strB_at (s : ByteArray) (i : Nat) (h : i < s.size) : (strB s)[i]?.getD 0 = (s[i].toNat : Int) := by
  simp only [strB, List.getElem?_map, Array.getElem?_toList]
  rw [Array.getElem?_eq_getElem (by simpa using h)]; rfl
theorem strB_bytes (s : ByteArray) : Bytes (strB s) := by
  intro i
  simp only [strB, List.getElem?_map, Array.getElem?_toList]
  cases s.data[i]? with
  | none => simp
  | some b => simp; have := b.toNat_lt; omega
theorem u8_bd (b : UInt8) : 0 ≤ (b.toNat : Int) ∧ (b.toNat : Int) ≤ 255 := by have := b.toNat_lt; omega
def u8s (l : List Int) : List Value := l.map (Value.int .u8)
theorem u8s_append (l r : List Int) : u8s (l ++ r) = u8s l ++ u8s r := by simp [u8s]
theorem info_u8 : (Tryd.prog.info? 5).map (fun i => (i.zero, i.size, i.bytes)) = some (some (.int .u8 0), 1, 1) := by kernel_rfl
theorem ownsRow_nth {w : World} {base : Nat} {e : TypeId} {size : Nat} {v : Value} {n m : Nat} {xs ys : List Value} (h : w.ownsRow base e size v n xs) (h1 : n = m) (h2 : xs = ys) : w.ownsRow base e size v m ys := by
  subst h1 h2; exact h
/-- what a round keeps for an iterator that reads its own box between two rounds -/
def KeepsBox (b : Nat) (t : TypeId) (A B : World) : Prop := ∀ v, Boxed A b t v → Boxed B b t v
theorem keepsBox_t {b : Nat} {t : TypeId} {A B C : World} (h : KeepsBox b t A B) (k : KeepsBox b t B C) : KeepsBox b t A C := fun v hv => k v (h v hv)
theorem keepsBox_b {b : Nat} {t : TypeId} (W : World) (l : Nat) (o o' : Obj) (hl : W.heap[l]? = some o) (ho : o.isCells = false) : KeepsBox b t W (W.putObj l o') := fun v hv =>
  hv.kept (grownBy_putObj' W l o') (fun e => by
    cases e
    have h : W.heap[b]? = some (.cells #[v] t (0, 0)) := hv
    rw [h] at hl; cases hl; simp [Obj.isCells] at ho)
theorem keepsBox_of {b : Nat} {t : TypeId} {A B : World} {row : Option Nat} (hg : A.grownBy B row) (hne : some b ≠ row) : KeepsBox b t A B := fun _ hv => hv.kept hg hne
theorem conv_owned (w : World) (base n : Nat) (v : Value) (xs : List Int) (h : w.ownsRow base 5 1 v n (u8s xs)) :
    (convert 58 9 v).run Tryd.prog w = .ok (.string (strOfNums xs)) w := by
  obtain ⟨hlen, h2⟩ := h
  have hl : xs.length = n := by simpa [u8s] using hlen
  rcases h2 with ⟨rfl, rfl⟩ | ⟨g, cap, cur, rfl, hb, hg, hn, hc, hs, ht⟩
  · obtain rfl : xs = [] := List.length_eq_zero_iff.1 hl
    exact run_convert_bytes_nil w _ _ Tryd.underlying58 Tryd.underlying5 0 0 _ Tryd.underlying9
  · refine run_convert_bytes_arg w _ _ Tryd.underlying58 Tryd.underlying5 g 0 n cap xs hl (fun i hi => ?_) _ Tryd.underlying9
    rw [Nat.mul_one] at ht
    have h1 : (u8s xs)[i]? = some (.int .u8 (xs.getD i 0)) := by
      simp [u8s, List.getD, List.getElem?_eq_getElem (show i < xs.length by omega)]
    rw [← ht, List.getElem?_take, if_pos hi] at h1
    simp only [World.cell?, hg, Nat.zero_add]
    simpa using h1
theorem take_succ_getD (l : List Int) (k : Nat) (h : k < l.length) : l.take (k + 1) = l.take k ++ [l[k]?.getD 0] := by
  rw [List.take_succ_eq_append_getElem h, List.getElem?_eq_getElem h]; rfl
theorem owns_built (w : World) (l : List Value) (e : TypeId) (n : Nat) (hn : l.length = n) (hm : n ≤ maxLen) :
    (w.alloc (.cells l.toArray e)).ownsRow w.heap.size e 1 (.slice (some ⟨w.heap.size, 0, none⟩) n n) n l :=
  ⟨by omega, .inr ⟨w.heap.size, n, l.toArray, rfl, Nat.le_refl _, World.alloc_heap_new w _, Nat.le_refl _, hm, by simpa using hn, by simp [← hn]⟩⟩
theorem row_below {w w' : World} {B : Nat} {k : IntKind} {a : Option Addr} {n c : Nat} {l : List Int} (h : Row w k a n c l) (hb : Below B w w') (hB : B = w.heap.size) : Row w' k a n c l := by
  subst hB
  obtain ⟨h1, h2, h3, h4⟩ := h
  refine ⟨h1, h2, h3, ?_⟩
  rcases h4 with h | ⟨b, off, rfl, hc⟩
  · exact .inl h
  · refine .inr ⟨b, off, rfl, fun i hi => ?_⟩
    have h0 := hc i hi
    have hbk : b < w.heap.size := by
      simp only [World.cell?] at h0
      rcases Nat.lt_or_ge b w.heap.size with h | h
      · exact h
      · rw [Array.getElem?_eq_none h] at h0; cases h0
    exact (hb.cell (p := ⟨b, off + i, none⟩) hbk).trans h0
theorem conv_bytes (w : World) (s : ByteArray) (hs : s.size ≤ maxLen) : ∃ cap w', (convert 9 58 (.string s)).run Tryd.prog w = .ok (.slice (some ⟨w.heap.size, 0, none⟩) s.size cap) w' ∧
    Row w' .u8 (some ⟨w.heap.size, 0, none⟩) s.size cap (strB s) ∧ Below w.heap.size w w' := by
  refine ⟨_, _, Lib.run_convert_string_bytes w _ _ _ s Tryd.underlying9 Tryd.underlying58 Tryd.underlying5, ⟨strB_len s, grownCap_ge _ _ _ _, grownCap_le_maxLen _ _ _ _ hs, .inr ⟨_, 0, rfl, fun i hi => ?_⟩⟩, ?_⟩
  · rw [Nat.zero_add, Lib.bytesWorld_cell w _ s i hi, strB_at s i hi]
    simp only [List.getD, Array.getElem?_toList]
    rw [Array.getElem?_eq_getElem (by simpa using hi)]
    rfl
  · have h := Lib.bytesWorld_at_old w 5 s
    exact ⟨by simp [Lib.bytesWorld, World.freeze, World.alloc, World.drew, -World.alloc_eq, -World.drew_eq], rfl, rfl, by rw [Lib.bytesWorld_size]; omega, h⟩
theorem wf_i64 {n : Int} (h : (Lit.int .i64 n).wf = true) : -9223372036854775808 ≤ n ∧ n ≤ 9223372036854775807 := by simpa [Lit.wf, IntKind.min, IntKind.max, IntKind.signed, IntKind.bits] using h
theorem strOfNums_strB (s : ByteArray) : strOfNums (strB s) = s := by
  apply ByteArray.ext
  apply Array.toList_inj.1
  simp only [strOfNums, strB, List.map_map]
  conv => rhs; rw [← List.map_id s.data.toList]
  apply List.map_congr_left
  intro x _
  simp
theorem strB_strOfNums (l : List Int) (h : ∀ x ∈ l, 0 ≤ x ∧ x ≤ 255) : strB (strOfNums l) = l := by
  simp only [strB, strOfNums]
  rw [List.map_map]
  conv => rhs; rw [← List.map_id l]
  apply List.map_congr_left
  intro x hx
  have := h x hx
  simp only [Function.comp, id, UInt8.toNat_ofNat']
  omega
theorem toList_data (s : ByteArray) : s.toList = s.data.toList := by
  have h : ∀ (n i : Nat) (r : List UInt8), s.size - i = n → ByteArray.toList.loop s i r = r.reverse ++ s.data.toList.drop i := by
    intro n
    induction n with
    | zero =>
      intro i r h
      rw [ByteArray.toList.loop, if_neg (by omega), List.drop_eq_nil_of_le (by simp; omega)]; simp
    | succ n ih =>
      intro i r h
      have hi : i < s.data.toList.length := by simp; omega
      rw [ByteArray.toList.loop, if_pos (by omega), ih _ _ (by omega), List.drop_eq_getElem_cons hi]
      simp only [List.reverse_cons, List.append_assoc, List.cons_append, List.nil_append]
      congr 2
      have : s.get! i = s.data[i]! := rfl
      rw [this, getElem!_pos s.data i (by simpa using hi)]; rfl
  exact (h _ 0 [] rfl)
theorem toList_lit (s : ByteArray) (l : List UInt8) (r : List Int) (h : l.map (fun b => (b.toNat : Int)) = r) (_ : 0 < l.length) : s.toList = l ↔ strB s = r := by
  rw [toList_data, strB, ← h]
  constructor
  · intro h; rw [h]
  · intro h
    exact (List.map_inj_right (fun a b hab => by apply UInt8.toNat_inj.1; have hab : (a.toNat : Int) = b.toNat := hab; omega)).1 h
end Go.Proofs.YtcicjpdjbfgbhaaDoor

/- Things of JSON: the pure ones, and how they lie in memory. -/
namespace Go.Proofs.YtcicjpdjbfgbhaaDoor
open Go.RowKit Go.Shelf
/-- a thing: its kind, its number, its text, its names, what is in it -/
inductive JV where
  | mk (k n : Int) (s : ByteArray) (ns : List ByteArray) (l : List JV)
theorem jv_ind {p : JV → Prop} (h : ∀ k n s ns l, (∀ x ∈ l, p x) → p (.mk k n s ns l)) : ∀ v, p v := by
  intro v
  refine JV.rec (motive_1 := p) (motive_2 := fun l => ∀ x ∈ l, p x) (fun k n s ns l ih => h k n s ns l ih) (by simp) (fun x r hx hr y hy => ?_) v
  rcases List.mem_cons.1 hy with rfl | hy
  · exact hx
  · exact hr y hy
/-- an int of 64 bits -/
def J64 (n : Int) : Prop := -9223372036854775808 ≤ n ∧ n ≤ 9223372036854775807
/-- texts in a row -/
def NRow (w : World) (a : Option Addr) (cap : Nat) (ns : List ByteArray) : Prop := ns.length ≤ cap ∧ cap ≤ maxLen ∧ (∀ s ∈ ns, s.size ≤ maxLen) ∧ (ns = [] ∨ ∃ b off, a = some ⟨b, off, none⟩ ∧ ∀ i t, ns[i]? = some t → w.cell? ⟨b, off + i, none⟩ = some (.string t))
mutual
/-- a thing in memory -/
def IsJ (w : World) : JV → Value → Prop
  | .mk k n s ns l, v => J64 k ∧ J64 n ∧ s.size ≤ maxLen ∧ ∃ na nc a cap, v = .agg #[.int .i64 k, .int .i64 n, .string s, .slice na ns.length nc, .slice a l.length cap] ∧ NRow w na nc ns ∧ l.length ≤ cap ∧ cap ≤ maxLen ∧
      (l = [] ∨ ∃ b off, a = some ⟨b, off, none⟩ ∧ IsJL w b l off)
/-- things that lie one behind the other -/
def IsJL (w : World) (b : Nat) : List JV → Nat → Prop
  | [], _ => True
  | x :: r, off => (∃ c0 c1 c2 c3 c4, (w.cell? ⟨b, off, none⟩ = some c0 ∧ w.cell? ⟨b, off + 1, none⟩ = some c1 ∧ w.cell? ⟨b, off + 2, none⟩ = some c2 ∧ w.cell? ⟨b, off + 3, none⟩ = some c3 ∧ w.cell? ⟨b, off + 4, none⟩ = some c4) ∧ IsJ w x (.agg #[c0, c1, c2, c3, c4])) ∧ IsJL w b r (off + 5)
end
theorem isJL_at {w : World} {b : Nat} : ∀ {l : List JV} {off : Nat}, IsJL w b l off → ∀ i x, l[i]? = some x → ∃ c0 c1 c2 c3 c4, (w.cell? ⟨b, off + i * 5, none⟩ = some c0 ∧ w.cell? ⟨b, off + i * 5 + 1, none⟩ = some c1 ∧ w.cell? ⟨b, off + i * 5 + 2, none⟩ = some c2 ∧ w.cell? ⟨b, off + i * 5 + 3, none⟩ = some c3 ∧ w.cell? ⟨b, off + i * 5 + 4, none⟩ = some c4) ∧ IsJ w x (.agg #[c0, c1, c2, c3, c4]) := by
  intro l
  induction l with
  | nil => intro off _ i x h; simp at h
  | cons y r ih =>
    intro off h i x hx
    unfold IsJL at h
    cases i with
    | zero => simp at hx; subst hx; simpa using h.1
    | succ i =>
      have := ih h.2 i x (by simpa using hx)
      simpa [Nat.succ_mul, Nat.add_assoc, Nat.add_comm, Nat.add_left_comm] using this
theorem isJL_of {w : World} {b : Nat} : ∀ {l : List JV} {off : Nat}, (∀ i x, l[i]? = some x → ∃ c0 c1 c2 c3 c4, (w.cell? ⟨b, off + i * 5, none⟩ = some c0 ∧ w.cell? ⟨b, off + i * 5 + 1, none⟩ = some c1 ∧ w.cell? ⟨b, off + i * 5 + 2, none⟩ = some c2 ∧ w.cell? ⟨b, off + i * 5 + 3, none⟩ = some c3 ∧ w.cell? ⟨b, off + i * 5 + 4, none⟩ = some c4) ∧ IsJ w x (.agg #[c0, c1, c2, c3, c4])) → IsJL w b l off := by
  intro l
  induction l with
  | nil => intro off _; unfold IsJL; trivial
  | cons y r ih =>
    intro off h
    unfold IsJL
    refine ⟨by simpa using h 0 y rfl, ih fun i x hx => ?_⟩
    have := h (i + 1) x (by simpa using hx)
    simpa [Nat.succ_mul, Nat.add_assoc, Nat.add_comm, Nat.add_left_comm] using this
/-- the thing at a place, its cells as they are -/
theorem isJL_val {w : World} {b off : Nat} {l : List JV} (h : IsJL w b l off) (i : Nat) (k n : Int) (s : ByteArray) (ns : List ByteArray) (r : List JV) (hx : l[i]? = some (.mk k n s ns r)) : ∃ na nc a cap,
    (w.cell? ⟨b, off + i * 5, none⟩ = some (.int .i64 k) ∧ w.cell? ⟨b, off + i * 5 + 1, none⟩ = some (.int .i64 n) ∧ w.cell? ⟨b, off + i * 5 + 2, none⟩ = some (.string s) ∧ w.cell? ⟨b, off + i * 5 + 3, none⟩ = some (.slice na ns.length nc) ∧ w.cell? ⟨b, off + i * 5 + 4, none⟩ = some (.slice a r.length cap)) ∧
    IsJ w (.mk k n s ns r) (.agg #[.int .i64 k, .int .i64 n, .string s, .slice na ns.length nc, .slice a r.length cap]) := by
  obtain ⟨c0, c1, c2, c3, c4, ⟨g0, g1, g2, g3, g4⟩, hi⟩ := isJL_at h i _ hx
  have h2 := hi
  unfold IsJ at h2
  obtain ⟨_, _, _, na, nc, a, cap, e, _⟩ := h2
  simp only [Value.agg.injEq, Array.mk.injEq, List.cons.injEq, and_true] at e
  obtain ⟨rfl, rfl, rfl, rfl, rfl⟩ := e
  exact ⟨na, nc, a, cap, ⟨g0, g1, g2, g3, g4⟩, hi⟩
theorem cellJ_below {w w' : World} (hb : Below w.heap.size w w') {p : Addr} {v : Value} (h : w.cell? p = some v) : w'.cell? p = some v := by
  have hbk : p.block < w.heap.size := by
    simp only [World.cell?] at h
    rcases Nat.lt_or_ge p.block w.heap.size with h' | h'
    · exact h'
    · rw [Array.getElem?_eq_none h'] at h; cases h
  exact (hb.cell hbk).trans h
theorem nrow_below {w w' : World} (hb : Below w.heap.size w w') {a : Option Addr} {cap : Nat} {ns : List ByteArray} (h : NRow w a cap ns) : NRow w' a cap ns :=
  ⟨h.1, h.2.1, h.2.2.1, h.2.2.2.imp id fun ⟨b, off, ha, hc⟩ => ⟨b, off, ha, fun i t hi => cellJ_below hb (hc i t hi)⟩⟩
theorem isJ_below {w w' : World} (hb : Below w.heap.size w w') : ∀ v x, IsJ w v x → IsJ w' v x := by
  intro v
  induction v using jv_ind with
  | h k n s ns l ih =>
    intro x h
    unfold IsJ at h ⊢
    obtain ⟨h1, h2, h3, na, nc, a, cap, rfl, hn, h4, h5, h6⟩ := h
    refine ⟨h1, h2, h3, na, nc, a, cap, rfl, nrow_below hb hn, h4, h5, ?_⟩
    rcases h6 with h6 | ⟨b, off, rfl, h6⟩
    · exact .inl h6
    · refine .inr ⟨b, off, rfl, isJL_of fun i y hy => ?_⟩
      obtain ⟨c0, c1, c2, c3, c4, ⟨g0, g1, g2, g3, g4⟩, hi⟩ := isJL_at h6 i y hy
      exact ⟨c0, c1, c2, c3, c4, ⟨cellJ_below hb g0, cellJ_below hb g1, cellJ_below hb g2, cellJ_below hb g3, cellJ_below hb g4⟩, ih y (List.mem_of_getElem? hy) _ hi⟩
theorem isJL_below {w w' : World} (hb : Below w.heap.size w w') {b : Nat} {l : List JV} {off : Nat} (h : IsJL w b l off) : IsJL w' b l off :=
  isJL_of fun i y hy => by
    obtain ⟨c0, c1, c2, c3, c4, ⟨g0, g1, g2, g3, g4⟩, hi⟩ := isJL_at h i y hy
    exact ⟨c0, c1, c2, c3, c4, ⟨cellJ_below hb g0, cellJ_below hb g1, cellJ_below hb g2, cellJ_below hb g3, cellJ_below hb g4⟩, isJ_below hb _ _ hi⟩
/-- the empty thing -/
theorem isJ_nil (w : World) : IsJ w (.mk 0 0 ⟨#[]⟩ [] []) (.agg #[.int .i64 0, .int .i64 0, .string ⟨#[]⟩, .slice none 0 0, .slice none 0 0]) := by
  unfold IsJ
  exact ⟨by unfold J64; omega, by unfold J64; omega, Nat.zero_le _, none, 0, none, 0, rfl, ⟨Nat.le_refl _, by unfold maxLen; omega, by simp, .inl rfl⟩, Nat.le_refl _, by unfold maxLen; omega, .inl rfl⟩
mutual
/-- how much: things and names -/
def szJ : JV → Nat
  | .mk _ _ _ ns l => szJL l + 1 + ns.length
def szJL : List JV → Nat
  | [] => 0
  | x :: r => szJ x + szJL r
end
theorem szJ_pos (v : JV) : 0 < szJ v := by cases v; simp [szJ]; omega
theorem szJL_mem {l : List JV} {x : JV} (h : x ∈ l) : szJ x ≤ szJL l := by
  induction l with
  | nil => simp at h
  | cons y r ih =>
    simp only [szJL]
    rcases List.mem_cons.1 h with rfl | h
    · omega
    · have := ih h; omega
theorem len_szJL (l : List JV) : l.length ≤ szJL l := by
  induction l with
  | nil => simp
  | cons y r ih => simp only [szJL, List.length_cons]; have := szJ_pos y; omega
/-- a struct that was laid into a new cell -/
abbrev jobj (k n : Int) (s : ByteArray) (na : Option Addr) (nl nc : Nat) (a : Option Addr) (len cap : Nat) : Obj := Obj.cells #[.int .i64 k, .int .i64 n, .string s, .slice na nl nc, .slice a len cap] 30
end Go.Proofs.YtcicjpdjbfgbhaaDoor
