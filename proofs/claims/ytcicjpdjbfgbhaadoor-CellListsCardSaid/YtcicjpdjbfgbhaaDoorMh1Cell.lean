/- Things of JSON: blocks of one of them; the empty one. -/
import Derived.Test.YtcicjpdjbfgbhaaDoorMh0Cell
import Derived.Laws.ResultCell
import Derived.Laws.Rows
import Derived.Maps.OwnSet
import Derived.Maps.Views
import Derived.Laws.BitsAllLaws
import Derived.Below
namespace Go.Proofs.YtcicjpdjbfgbhaaDoor
open Go.RowKit Go.Shelf
/-- a block of a thing's cells, all of them -/
def JAt (W : World) (b : Nat) (cs : Array Value) : Prop := W.heap[b]? = some (.cells cs 30 (0, 0))
theorem jat_lt {W : World} {b : Nat} {cs : Array Value} (h : JAt W b cs) : b < W.heap.size := (Array.getElem?_eq_some_iff.1 h).1
theorem jat_cell {W : World} {b : Nat} {cs : Array Value} (h : JAt W b cs) (i : Nat) (c : Value) (hc : cs[i]? = some c) : W.cell? ⟨b, i, none⟩ = some c := by
  simp [World.cell?, show W.heap[b]? = _ from h, hc]
theorem jat_frozen {W : World} {b : Nat} {cs : Array Value} (h : JAt W b cs) (i : Nat) : W.frozen? ⟨b, i, none⟩ = false := by simp [World.frozen?, show W.heap[b]? = _ from h]
theorem jat_below {W W' : World} {b : Nat} {cs : Array Value} (hb : Below W.heap.size W W') (h : JAt W b cs) : JAt W' b cs := (hb.block b (jat_lt h)).trans h
theorem jat_alloc (W : World) (cs : Array Value) : JAt (W.alloc (.cells cs 30)) W.heap.size cs := World.alloc_heap_new W _
theorem jat_alloc_drew (W : World) (cs : Array Value) : JAt ((W.alloc (.cells cs 30)).drew) W.heap.size cs := World.alloc_heap_new W _
theorem jat_old {W : World} {b : Nat} {cs : Array Value} (h : JAt W b cs) (o : Obj) : JAt (W.alloc o) b cs := jat_below ((Below.refl _ W).alloc (Nat.le_refl _) _) h
theorem jat_set {W : World} {b : Nat} {cs : Array Value} (h : JAt W b cs) (i : Nat) (c : Value) : JAt (W.setCell ⟨b, i, none⟩ c) b (cs.setIfInBounds i c) := by
  obtain ⟨hlt, hk⟩ := Array.getElem?_eq_some_iff.1 h
  show (W.heap.modify b _)[b]? = _
  rw [Array.getElem?_eq_getElem (by rw [Array.size_modify]; exact hlt), Array.getElem_modify_self, hk]
  rfl
theorem jat_other {W : World} {b b' : Nat} {cs : Array Value} (h : JAt W b cs) (hne : b ≠ b') (i : Nat) (c : Value) : JAt (W.setCell ⟨b', i, none⟩ c) b cs := (Below.heap_setCell W ⟨b', i, none⟩ c b hne).trans h
theorem jbox5 {W : World} {b : Nat} {c0 c1 c2 c3 c4 : Value} (h : JAt W b #[c0, c1, c2, c3, c4]) : (W.cell? ⟨b, 0, none⟩ = some c0 ∧ W.cell? ⟨b, 1, none⟩ = some c1 ∧ W.cell? ⟨b, 2, none⟩ = some c2 ∧ W.cell? ⟨b, 3, none⟩ = some c3 ∧ W.cell? ⟨b, 4, none⟩ = some c4) ∧
    (W.frozen? ⟨b, 0, none⟩ = false ∧ W.frozen? ⟨b, 1, none⟩ = false ∧ W.frozen? ⟨b, 2, none⟩ = false ∧ W.frozen? ⟨b, 3, none⟩ = false ∧ W.frozen? ⟨b, 4, none⟩ = false) :=
  ⟨⟨jat_cell h 0 _ rfl, jat_cell h 1 _ rfl, jat_cell h 2 _ rfl, jat_cell h 3 _ rfl, jat_cell h 4 _ rfl⟩, jat_frozen h 0, jat_frozen h 1, jat_frozen h 2, jat_frozen h 3, jat_frozen h 4⟩
theorem jat_set5 {W : World} {b : Nat} {c0 c1 c2 c3 c4 : Value} (h : JAt W b #[c0, c1, c2, c3, c4]) (d0 d1 d2 d3 d4 : Value) :
    JAt (((((W.setCell ⟨b, 0, none⟩ d0).setCell ⟨b, 1, none⟩ d1).setCell ⟨b, 2, none⟩ d2).setCell ⟨b, 3, none⟩ d3).setCell ⟨b, 4, none⟩ d4) b #[d0, d1, d2, d3, d4] :=
  jat_set (jat_set (jat_set (jat_set (jat_set h 0 d0) 1 d1) 2 d2) 3 d3) 4 d4
theorem jbelow_set5 {B : Nat} {w W : World} (h : Below B w W) {b : Nat} (hb : B ≤ b) (i0 i1 i2 i3 i4 : Nat) (d0 d1 d2 d3 d4 : Value) :
    Below B w (((((W.setCell ⟨b, i0, none⟩ d0).setCell ⟨b, i1, none⟩ d1).setCell ⟨b, i2, none⟩ d2).setCell ⟨b, i3, none⟩ d3).setCell ⟨b, i4, none⟩ d4) :=
  ((((h.setCell (p := ⟨b, i0, none⟩) hb d0).setCell (p := ⟨b, i1, none⟩) hb d1).setCell (p := ⟨b, i2, none⟩) hb d2).setCell (p := ⟨b, i3, none⟩) hb d3).setCell (p := ⟨b, i4, none⟩) hb d4
theorem jresults_row_tmp {P : Program} {fn : Func} {p u : Tmp} {ty : TypeId} (h : fn.results = #[.cell p ty, .tmp u]) (tmps : Array Value) (w : World) (g : Nat) (t : TypeId) (cs : Array Value) (fr : Nat × Nat) (d : TypeDesc)
    (hp : tmps.getD p undef = .pointer (some ⟨g, 0, none⟩)) (hg : w.heap[g]? = some (.cells cs t fr))
    (hu : P.underlying ty = some d) (hd : (match d with | .struct _ | .array _ _ => true | _ => false) = true) (hi : (P.info? ty).map (·.size) = some cs.size) :
    (results fn tmps).run P w = .ok (.tuple #[.agg cs, tmps.getD u undef]) w := by
  rw [results_cell_tmp h, hp]
  simp [asAddr, run_loadVar_row w g t ty cs fr d hg hu hd hi, Result.andThen]
theorem json_info : (Tryd.prog.info? 30).map (·.size) = some 5 := by kernel_rfl
abbrev jzero : Array Value := #[.int .i64 0, .int .i64 0, .string ⟨#[]⟩, .slice none 0 0, .slice none 0 0]
theorem jbuild_zero (w : World) : (Instr.build 30 #[]).run Tryd.prog w = .ok (.agg jzero) w := by
  kernel_rfl
def JV.nil : JV := .mk 0 0 ⟨#[]⟩ [] []
theorem isJ_zero (w : World) : IsJ w JV.nil (.agg jzero) := isJ_nil w
end Go.Proofs.YtcicjpdjbfgbhaaDoor

/- A set of names that the call makes; the program's add. -/
set_option linter.unusedVariables false
namespace Go.Proofs.YtcicjpdjbfgbhaaDoor
open Go.RowKit Go.Shelf Go.Maps
theorem lawName : Keyed Tryd.prog 9 := string_keyed Tryd.underlying9
theorem zeroUnit (w : World) : (zeroValue 108).run Tryd.prog w = .ok (.agg #[]) w := by kernel_rfl
theorem buildUnit (w : World) : (Instr.build 108 #[]).run Tryd.prog w = .ok (.agg #[]) w := by kernel_rfl
/-- is a text among some? -/
def hasN (hs : List ByteArray) (t : ByteArray) : Bool := hs.any fun s => decide (s.data.toList = t.data.toList)
theorem hasN_iff (hs : List ByteArray) (t : ByteArray) : hasN hs t = true ↔ t ∈ hs := by
  unfold hasN
  rw [List.any_eq_true]
  constructor
  · rintro ⟨s, h1, h2⟩
    obtain rfl : s = t := ByteArray.ext (Array.toList_inj.1 (of_decide_eq_true h2))
    exact h1
  · exact fun h => ⟨t, h, by simp⟩
/-- block b of w is a set of at most n names: these -/
def NSet (w : World) (b n : Nat) (hs : List ByteArray) : Prop := ∃ D : DataW Unit, w.ownsMap Tryd.prog 9 unitElem b n D ∧ ∀ t : ByteArray, Maps.has D (.string t.data.toList) = hasN hs t
theorem nset_made (w : World) : NSet (w.alloc (.map #[] 0)) w.heap.size 0 [] := ⟨_, World.ownsMap_made _ _ _ _, fun t => by simp [Maps.has_eq, hasN]⟩
theorem nset_below {w w' : World} {b n : Nat} {hs : List ByteArray} (h : NSet w b n hs) (hb : Below w.heap.size w w') : NSet w' b n hs := by
  obtain ⟨D, ⟨es, clock, hk, h3⟩, h2⟩ := h
  exact ⟨D, ⟨es, clock, (hb.block b ((Array.getElem?_eq_some_iff.1 hk).1)).trans hk, h3⟩, h2⟩
theorem nset_put {D : DataW Unit} {hs : List ByteArray} (hD : Maps.IsMap D) (h : ∀ t : ByteArray, Maps.has D (.string t.data.toList) = hasN hs t) (s : ByteArray) (d : DataW Unit) : ∀ t : ByteArray, Maps.has (D.put (.string s.data.toList) d) (.string t.data.toList) = hasN (s :: hs) t := by
  intro t
  by_cases hts : t = s
  · subst hts
    rw [Maps.has_put_same hD (by trivial)]
    exact ((hasN_iff _ _).2 (List.mem_cons_self ..)).symm
  · rw [Maps.has_put_other (fun he => hts (ByteArray.ext (Array.toList_inj.1 (by injection he)))), h t]
    have : ¬ s.data.toList = t.data.toList := fun he => hts (ByteArray.ext (Array.toList_inj.1 he.symm))
    unfold hasN
    rw [List.any_cons, decide_eq_false this, Bool.false_or]
set_option maxRecDepth 100000 in
set_option maxHeartbeats 4000000 in
theorem nameAdd_any (b n : Nat) (hs : List ByteArray) (t : ByteArray) (w : World) (h : NSet w b n hs) (hn : n < 1000000) (ht : t.size ≤ maxLen) :
    Calls Tryd.prog 62 #[.map (some b), .string t] w fun e w' => e = .returned (.bool (!hasN hs t)) ∧ NSet w' b (n + 1) (t :: hs) ∧ w.grownBy w' (some b) := by
  obtain ⟨D, hown, hD⟩ := h
  have hkey := Go.WideMaps.keyOf_string_mk (P := Tryd.prog) Tryd.underlying9 ht
  have hbu := buildUnit
  have hh := hD t
  obtain ⟨B, hB⟩ : ∃ B, hasN hs t = B := ⟨_, rfl⟩
  rw [hB] at hh ⊢
  have HD := Lib.hid hD
  clear hD hB
  go_enter Tryd.func62, Tryd.ntmps62
  go_wp2_with (first
    | (at_lookup; refine wpList_lookup_own_unit _ rfl _ _ 90 rfl 9 108 lawName Tryd.underlying90 (zeroUnit _) b n D rfl hown _ _ rfl hkey ?_; rw [hh])
    | (at_mapUpdate; refine wpList_mapUpdate_own _ rfl _ _ _ 90 rfl 9 108 lawName Tryd.underlying90 (unitElem (H := Unit)) b n D rfl (hown.alloc _) (by unfold maxLen; omega) _ _ _ rfl rfl hkey _ [] unitElem_mk ?_; intro w1 hown1 hgrow1))
  go_ret
  exact ⟨rfl, ⟨_, hown1, nset_put hown.isMap HD.out t _⟩, (World.grownBy_alloc w _ (some b)).trans hgrow1⟩
end Go.Proofs.YtcicjpdjbfgbhaaDoor

/- Plain mathematics of UTF-8, as the program's layer 1 computes it: no program is mentioned here. -/
namespace Go.Proofs.YtcicjpdjbfgbhaaDoor.U
/-- how many bytes a code has; 0: it is none -/
def size (c : Int) : Int := if c < 0 ∨ (55296 ≤ c ∧ c ≤ 57343) ∨ 1114111 < c then 0 else if c < 128 then 1 else if c < 2048 then 2 else if c < 65536 then 3 else 4
/-- the bits of the first byte, and how many bytes it asks for -/
def fst (x : Int) : Int × Nat := if x < 128 then (x, 1) else if 192 ≤ x ∧ x < 224 then (x - 192, 2) else if 224 ≤ x ∧ x < 240 then (x - 224, 3) else if 240 ≤ x ∧ x < 248 then (x - 240, 4) else (0, 0)
def cont (x : Int) : Bool := decide (128 ≤ x ∧ x < 192)
/-- n more bytes behind the bits c -/
def conts : List Int → Nat → Int → Option Int
  | _, 0, c => some c
  | [], _ + 1, _ => none
  | x :: r, n + 1, c => if cont x then conts r n (c * 64 + (x - 128)) else none
theorem conts_zero (l : List Int) (c : Int) : conts l 0 c = some c := by cases l <;> rfl
theorem conts_succ (x : Int) (r : List Int) (n : Nat) (c : Int) : conts (x :: r) (n + 1) c = if cont x then conts r n (c * 64 + (x - 128)) else none := rfl
/-- n bytes' code, if they are just its bytes -/
def got (n : Nat) : Option Int → Int × Nat
  | none => (0, 0)
  | some c => if size c = n then (c, n) else (0, 0)
/-- the code at the beginning, and how many bytes it has; n = 0: there is none -/
def get (l : List Int) : Int × Nat :=
  match l with
  | [] => (0, 0)
  | x :: r => if (fst x).2 = 0 ∨ r.length + 1 < (fst x).2 then (0, 0) else
    got (fst x).2 (conts r ((fst x).2 - 1) (fst x).1)
def put (c : Int) : List Int :=
  if size c = 1 then [c] else if size c = 2 then [192 + c / 64, 128 + c % 64] else
  if size c = 3 then [224 + c / 4096, 128 + c / 64 % 64, 128 + c % 64] else
  if size c = 4 then [240 + c / 262144, 128 + c / 4096 % 64, 128 + c / 64 % 64, 128 + c % 64] else []

theorem fst_bd (x : Int) (h0 : 0 ≤ x) : 0 ≤ (fst x).1 ∧ (fst x).1 ≤ 127 ∧ (fst x).2 ≤ 4 := by
  unfold fst
  repeat' (split; · simp; omega)
  simp

theorem u8_all (p : Int → Bool) (h : ((List.range 256).all fun n => p (n : Int)) = true) (x : Int) (h0 : 0 ≤ x) (h1 : x ≤ 255) : p x = true := by
  have := List.all_eq_true.1 h x.toNat (by simp; omega)
  rwa [show ((x.toNat : Nat) : Int) = x from by omega] at this

theorem and224 (x : Int) (h0 : 0 ≤ x) (h1 : x ≤ 255) : bits .and .u8 x 224 = x / 32 * 32 := by
  have := u8_all (fun x => bits .and .u8 x 224 == x / 32 * 32) (by decide +kernel) x h0 h1
  simpa using this
theorem and240 (x : Int) (h0 : 0 ≤ x) (h1 : x ≤ 255) : bits .and .u8 x 240 = x / 16 * 16 := by
  have := u8_all (fun x => bits .and .u8 x 240 == x / 16 * 16) (by decide +kernel) x h0 h1
  simpa using this
theorem and248 (x : Int) (h0 : 0 ≤ x) (h1 : x ≤ 255) : bits .and .u8 x 248 = x / 8 * 8 := by
  have := u8_all (fun x => bits .and .u8 x 248 == x / 8 * 8) (by decide +kernel) x h0 h1
  simpa using this
theorem and192 (x : Int) (h0 : 0 ≤ x) (h1 : x ≤ 255) : bits .and .u8 x 192 = x / 64 * 64 := by
  have := u8_all (fun x => bits .and .u8 x 192 == x / 64 * 64) (by decide +kernel) x h0 h1
  simpa using this
theorem and31 (x : Int) (h0 : 0 ≤ x) (h1 : x ≤ 255) : bits .and .u8 x 31 = x % 32 := by
  have := u8_all (fun x => bits .and .u8 x 31 == x % 32) (by decide +kernel) x h0 h1
  simpa using this
theorem and15 (x : Int) (h0 : 0 ≤ x) (h1 : x ≤ 255) : bits .and .u8 x 15 = x % 16 := by
  have := u8_all (fun x => bits .and .u8 x 15 == x % 16) (by decide +kernel) x h0 h1
  simpa using this
theorem and7 (x : Int) (h0 : 0 ≤ x) (h1 : x ≤ 255) : bits .and .u8 x 7 = x % 8 := by
  have := u8_all (fun x => bits .and .u8 x 7 == x % 8) (by decide +kernel) x h0 h1
  simpa using this
theorem and63 (x : Int) (h0 : 0 ≤ x) (h1 : x ≤ 255) : bits .and .u8 x 63 = x % 64 := by
  have := u8_all (fun x => bits .and .u8 x 63 == x % 64) (by decide +kernel) x h0 h1
  simpa using this
theorem i64_or_nat (a b : Nat) (ha : a < 2 ^ 62) (hb : b < 2 ^ 62) : bits .or .i64 (a : Int) (b : Int) = ((a ||| b : Nat) : Int) := by
  have hx : a ||| b < 2 ^ 62 := Nat.or_lt_two_pow ha hb
  show IntKind.i64.wrap ((BitVec.ofInt 64 (a : Int) ||| BitVec.ofInt 64 (b : Int)).toNat : Int) = _
  have e : ∀ x : Nat, x < 2 ^ 62 → (BitVec.ofInt 64 (x : Int)).toNat = x := by
    intro x hx; rw [BitVec.ofInt_natCast, BitVec.toNat_ofNat]; exact Nat.mod_eq_of_lt (by omega)
  rw [BitVec.toNat_or, e a ha, e b hb, IntKind.wrap_i64]
  omega
/-- two numbers without a bit in common, put together -/
theorem i64_or_join (x y : Int) (i : Nat) (h0 : 0 ≤ x) (h1 : x < 4611686018427387904) (h2 : 0 ≤ y) (h3 : y < 2 ^ i) (hi : i ≤ 60) (hx : x % 2 ^ i = 0) : bits .or .i64 x y = x + y := by
  obtain ⟨X, rfl⟩ := Int.eq_ofNat_of_zero_le h0
  obtain ⟨Y, rfl⟩ := Int.eq_ofNat_of_zero_le h2
  have hY : Y < 2 ^ i := by exact_mod_cast h3
  have hX : X % 2 ^ i = 0 := by exact_mod_cast hx
  have hp : 2 ^ i ≤ 2 ^ 60 := Nat.pow_le_pow_right (by decide) hi
  rw [i64_or_nat X Y (by omega) (by omega), nat_join i X Y hX hY]
  rfl
theorem or64 (c y : Int) (h0 : 0 ≤ c) (h1 : c < 70368744177664) (h2 : 0 ≤ y) (h3 : y < 64) : bits .or .i64 (c * 64) y = c * 64 + y :=
  i64_or_join (c * 64) y 6 (by omega) (by omega) h2 (by omega) (by omega) (by omega)
end Go.Proofs.YtcicjpdjbfgbhaaDoor.U
