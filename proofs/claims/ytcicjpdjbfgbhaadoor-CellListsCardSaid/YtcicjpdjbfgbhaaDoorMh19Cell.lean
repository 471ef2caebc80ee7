/- Values that came in: opened. -/
import Derived.Test.YtcicjpdjbfgbhaaDoorMh4Cell
import Derived.Deep.Slices
import Derived.Test.YtcicjpdjbfgbhaaDoorMh0Cell
import Derived.Test.YtcicjpdjbfgbhaaDoorMh13Cell
import Derived.Test.YtcicjpdjbfgbhaaDoorMh9Cell
import Derived.Test.YtcicjpdjbfgbhaaDoorMh7Cell
set_option maxRecDepth 100000
namespace Go.Proofs.YtcicjpdjbfgbhaaDoor
open Go.RowKit Go.ChangeShapes Go.WideShapes
theorem cellsOf_val : Tryd.prog.cellsOf 24 = 4 := by kernel_rfl
theorem cells_four {W : World} {a : Addr} {cs : List Value} (h : W.cells? 0 a 4 = some cs) : ∃ c0 c1 c2 c3, cs = [c0, c1, c2, c3] ∧ W.cell? (a.add 0) = some c0 ∧ W.cell? (a.add 1) = some c1 ∧ W.cell? (a.add 2) = some c2 ∧ W.cell? (a.add 3) = some c3 := by
  obtain ⟨_, hlen, hc⟩ := World.cells?_some h
  match cs, hlen with
  | [c0, c1, c2, c3], _ => exact ⟨c0, c1, c2, c3, rfl, hc 0 (by omega), hc 1 (by omega), hc 2 (by omega), hc 3 (by omega)⟩
instance : Inhabited PV := ⟨.mk 0 0 ⟨#[]⟩ []⟩
/-- whatever reads as a value is one -/
theorem open_value {H : Type} {enc : TypeId × Value → H} {W : World} {spare : Nat → Bool} {held : Bool} (fuel : Nat) : ∀ (cs : List Value) (x : DataW H × List MemPlace), DataW.trod enc Tryd.prog W 0 spare held fuel 24 cs = some x →
    ∃ c0 c1 c2 c3, cs = [c0, c1, c2, c3] ∧ ∃ t : PV, Is W t (.agg #[c0, c1, c2, c3]) := by
  induction fuel using Nat.strongRecOn with
  | _ fuel ih =>
    intro cs x h
    obtain ⟨xs, n, hfu, _, hlen, hxl, hf⟩ := DataW.trod_struct Tryd.underlying24 h
    rw [cellsOf_val] at hlen
    match cs, hlen with
    | [c0, c1, c2, c3], _ =>
    have h0 := hf 0 _ rfl
    have h1 := hf 1 _ rfl
    have h2 := hf 2 _ rfl
    have h3 := hf 3 _ rfl
    have hxl' : xs.length = 4 := hxl
    match xs, hxl' with
    | [x0, x1, x2, x3], _ =>
    replace h0 : DataW.trod enc Tryd.prog W 0 spare held n 3 [c0] = some x0 := h0
    replace h1 : DataW.trod enc Tryd.prog W 0 spare held n 2 [c1] = some x1 := h1
    replace h2 : DataW.trod enc Tryd.prog W 0 spare held n 9 [c2] = some x2 := h2
    replace h3 : DataW.trod enc Tryd.prog W 0 spare held n 22 [c3] = some x3 := h3
    obtain ⟨k, e0, _, wk⟩ := DataW.trod_int Tryd.underlying3 h0
    obtain ⟨m, e1, _, wm⟩ := DataW.trod_int Tryd.underlying2 h1
    obtain ⟨s, e2, _, ws⟩ := DataW.trod_string Tryd.underlying9 h2
    simp only [List.cons.injEq, and_true] at e0 e1 e2
    subst e0 e1 e2
    refine ⟨_, _, _, _, rfl, ?_⟩
    rcases DataW.trod_slice Tryd.underlying22 h3 with ⟨e3, _⟩ | ⟨a, len, cap, elems, rest, n', hn', e3, _, _, hl, hm, hlen, hel, _, _⟩
    · simp only [List.cons.injEq, and_true] at e3
      subst e3
      refine ⟨.mk k m s [], ?_⟩
      unfold Is
      exact ⟨wf_i64 wk, wf_i64 wm, ws, none, 0, rfl, Nat.le_refl _, by unfold maxLen; omega, .inl rfl⟩
    · simp only [List.cons.injEq, and_true] at e3
      subst e3
      have each : ∀ i, i < len → ∃ t : PV, ∃ c0 c1 c2 c3, (W.cell? ((a.add (i * 4)).add 0) = some c0 ∧ W.cell? ((a.add (i * 4)).add 1) = some c1 ∧ W.cell? ((a.add (i * 4)).add 2) = some c2 ∧ W.cell? ((a.add (i * 4)).add 3) = some c3) ∧ Is W t (.agg #[c0, c1, c2, c3]) := fun i hi => by
        have he := hel i hi
        rw [cellsOf_val, List.getElem?_eq_getElem (by omega)] at he
        obtain ⟨cs', g1, g2⟩ := Option.bind_eq_some_iff.1 he
        obtain ⟨d0, d1, d2, d3, rfl, q0, q1, q2, q3⟩ := cells_four g1
        obtain ⟨_, _, _, _, e, t, ht⟩ := ih n' (by omega) _ _ g2
        simp only [List.cons.injEq, and_true] at e
        obtain ⟨rfl, rfl, rfl, rfl⟩ := e
        exact ⟨t, d0, d1, d2, d3, ⟨q0, q1, q2, q3⟩, ht⟩
      obtain ⟨f, hf⟩ := Go.Deep.choose_lt each
      refine ⟨.mk k m s ((List.range len).map f), ?_⟩
      unfold Is
      refine ⟨wf_i64 wk, wf_i64 wm, ws, some a, cap, by simp, by simpa using hl, hm, ?_⟩
      rcases Nat.eq_zero_or_pos len with hz | hz
      · subst hz; exact .inl rfl
      · obtain ⟨b, off, spot⟩ := a
        have hspot : spot = none := by
          obtain ⟨c0, _, _, _, ⟨q0, _⟩, _⟩ := hf 0 hz
          simpa [Addr.add] using World.cell?_spot q0
        subst hspot
        refine .inr ⟨b, off, rfl, isL_of fun i y hy => ?_⟩
        have hi : i < len := by
          have := (List.getElem?_eq_some_iff.1 hy).1
          simpa using this
        obtain ⟨c0, c1, c2, c3, ⟨q0, q1, q2, q3⟩, ht⟩ := hf i hi
        have hyf : f i = y := by
          rw [List.getElem?_map, List.getElem?_range hi] at hy
          simpa using hy
        subst hyf
        simp only [Addr.add_lit, Nat.add_zero] at q0 q1 q2 q3
        exact ⟨c0, c1, c2, c3, ⟨q0, q1, q2, q3⟩, ht⟩
/-- .. an argument -/
theorem open_arg {H : Type} {enc : TypeId × Value → H} {W : World} {spare : Nat → Bool} {held : Bool} {v : Value} {d : DataW H} {p : List MemPlace} (h : DataW.Trod enc Tryd.prog W 0 spare held 24 v d p) :
    ∃ c0 c1 c2 c3, v = .agg #[c0, c1, c2, c3] ∧ ∃ t : PV, Is W t (.agg #[c0, c1, c2, c3]) := by
  obtain ⟨fuel, hf⟩ := h
  obtain ⟨c0, c1, c2, c3, e, t, ht⟩ := open_value fuel _ _ hf
  refine ⟨c0, c1, c2, c3, ?_, t, ht⟩
  cases v <;> first
    | (simp [Value.cells] at e; done)
    | skip
  rename_i cells
  have e' : cells.toList = [c0, c1, c2, c3] := e
  rw [show cells = #[c0, c1, c2, c3] from by rw [← Array.toList_inj, e']]
end Go.Proofs.YtcicjpdjbfgbhaaDoor

/- Slots, steps and templates: the pure ones, how they lie in memory, and those that came in, opened. -/
set_option linter.unusedVariables false
set_option maxRecDepth 100000
namespace Go.Proofs.YtcicjpdjbfgbhaaDoor
open Go.RowKit Go.ChangeShapes Go.WideShapes Go.Shelf
structure SlotM where
  nm : ByteArray
  ty : Int
  rq : Bool
  df : PV
instance : Inhabited SlotM := ⟨⟨⟨#[]⟩, 0, false, default⟩⟩
structure StepM where
  kd : Int
  col : Int
  sl : SlotM
  od : List Int
instance : Inhabited StepM := ⟨⟨0, 0, default, []⟩⟩
/-- seven cells are a slot -/
def Slot7 (w : World) (s : SlotM) (c0 c1 c2 c3 c4 c5 c6 : Value) : Prop :=
  s.nm.size ≤ maxLen ∧ I64 s.ty ∧ c0 = .string s.nm ∧ c1 = .int .i64 s.ty ∧ c2 = .bool s.rq ∧ Is w s.df (.agg #[c3, c4, c5, c6])
def IsSlot (w : World) (s : SlotM) (x : Value) : Prop := ∃ c0 c1 c2 c3 c4 c5 c6, x = .agg #[c0, c1, c2, c3, c4, c5, c6] ∧ Slot7 w s c0 c1 c2 c3 c4 c5 c6
/- they stay where memory is made -/
theorem slot7_below {w w' : World} (hb : Below w.heap.size w w') {s : SlotM} {c0 c1 c2 c3 c4 c5 c6 : Value} (h : Slot7 w s c0 c1 c2 c3 c4 c5 c6) : Slot7 w' s c0 c1 c2 c3 c4 c5 c6 :=
  ⟨h.1, h.2.1, h.2.2.1, h.2.2.2.1, h.2.2.2.2.1, is_below hb _ _ h.2.2.2.2.2⟩
theorem isSlot_below {w w' : World} (hb : Below w.heap.size w w') {s : SlotM} {x : Value} (h : IsSlot w s x) : IsSlot w' s x := by
  obtain ⟨c0, c1, c2, c3, c4, c5, c6, rfl, h⟩ := h
  exact ⟨c0, c1, c2, c3, c4, c5, c6, rfl, slot7_below hb h⟩
/- opened -/
end Go.Proofs.YtcicjpdjbfgbhaaDoor

/- Versions of templates: the mathematics (no program is mentioned here). -/
set_option linter.unusedVariables false
namespace Go.Proofs.YtcicjpdjbfgbhaaDoor
namespace Sc
def kindV : PV → Int
  | .mk k _ _ _ => k
def nilV : PV := .mk 0 0 ⟨#[]⟩ []
/-- is a kind one of some? -/
def has (ty k : Nat) : Bool := decide (ty / 2 ^ k % 2 = 1)
/-- does a value fit a slot of these types (from 0 on)? -/
def fits (ty : Int) (v : PV) : Bool := rightV v && has ty.toNat (kindV v).toNat
def sound (s : SlotM) : Bool := nameB (strB s.nm) && decide (0 < s.ty) && decide (s.ty < 64) && fits s.ty s.df
structure Ver where
  slots : List SlotM
  cols : List Nat
def eqN (a b : ByteArray) : Bool := decide (a.data.toList = b.data.toList)
def slotOf (x : Ver) (c : Nat) : SlotM := x.slots[c]?.getD default
/-- the slot's number of the column of a name -/
def col (x : Ver) (nm : ByteArray) : Option Nat := x.cols.find? fun c => eqN (slotOf x c).nm nm
/-- of a step, is all that its kind doesn't tell nothing? -/
def rest (s : StepM) : Bool :=
  (decide (s.kd = 1) || (!s.sl.rq && decide (cmpV s.sl.df nilV = 0))) && (decide (s.kd = 5) || s.od.isEmpty) && (decide (s.kd = 1) || decide (s.kd = 3) || decide (s.sl.nm.size = 0)) && (decide (s.kd = 1) || decide (s.kd = 4) || decide (s.sl.ty = 0)) &&
  ((!decide (s.kd = 1) && !decide (s.kd = 5)) || decide (s.col = 0))
def setNm (s : SlotM) (nm : ByteArray) : SlotM := { s with nm := nm }
def setTy (s : SlotM) (ty : Int) : SlotM := { s with ty := ty }
def once (od : List Int) (n : Nat) : Bool := (List.range n).all fun k => decide ((od.filter fun x => decide (x = (k : Int))).length = 1)
/-- a version behind a step; none: it can't be done -/
def step (x : Ver) (s : StepM) : Option Ver :=
  if rest s = false then none
  else if s.kd = 1 then (if x.cols.length ≤ 7 ∧ sound s.sl = true ∧ s.sl.rq = false ∧ col x s.sl.nm = none then some ⟨x.slots ++ [s.sl], x.cols ++ [x.slots.length]⟩ else none)
  else if s.kd = 5 then (if s.od.length = x.cols.length ∧ once s.od x.cols.length = true then some ⟨x.slots, s.od.map fun i => x.cols[i.toNat]?.getD 0⟩ else none)
  else if s.kd < 1 ∨ 5 < s.kd ∨ s.col < 0 ∨ x.cols.length ≤ s.col then none
  else if s.kd = 2 then (if 2 ≤ x.cols.length then some ⟨x.slots, x.cols.eraseIdx s.col.toNat⟩ else none)
  else if s.kd = 3 then (if nameB (strB s.sl.nm) = true ∧ col x s.sl.nm = none then some ⟨x.slots.modify (x.cols[s.col.toNat]?.getD 0) (fun t => setNm t s.sl.nm), x.cols⟩ else none)
  else (let c := x.cols[s.col.toNat]?.getD 0; let old := (slotOf x c).ty.toNat
    if 1 ≤ s.sl.ty ∧ s.sl.ty ≤ 63 ∧ old ||| s.sl.ty.toNat ≠ old then some ⟨x.slots.modify c (fun t => setTy t ((old ||| s.sl.ty.toNat : Nat) : Int)), x.cols⟩ else none)
/-- all versions from one on -/
def run : Ver → List StepM → Option (List Ver)
  | x, [] => some [x]
  | x, s :: r => match step x s with
    | none => none
    | some y => (run y r).map (x :: ·)
/-- the first one -/
def first (l : List SlotM) : Ver := ⟨l, List.range l.length⟩
end Sc
end Go.Proofs.YtcicjpdjbfgbhaaDoor

/- Package num's Parse and Scan. -/
namespace Go.Proofs.YtcicjpdjbfgbhaaDoor
open Go.RowKit Go.Shelf
/-- so many digits' number, and the next digit's place -/
theorem M.next (l : List Int) (h : ∀ x ∈ l, M.isD x = true) (k : Nat) (hk : k < l.length) : 48 ≤ l[k]?.getD 0 ∧ l[k]?.getD 0 ≤ 57 ∧
    M.val (l.take (k + 1)) = M.val (l.take k) * 10 + (l[k]?.getD 0 - 48).toNat ∧ M.val (l.take k) < 10 ^ k := by
  have hm : l[k]?.getD 0 ∈ l := by rw [List.getElem?_eq_getElem hk]; exact List.getElem_mem hk
  have h1 := h _ hm
  simp [M.isD] at h1
  refine ⟨h1.1, h1.2, ?_, ?_⟩
  · rw [take_succ_getD l k hk, M.val_snoc]
  · have := M.val_lt (l.take k) (fun x hx => h x (List.mem_of_mem_take hx))
    rwa [List.length_take, Nat.min_eq_left (by omega)] at this
set_option maxHeartbeats 1000000 in
theorem numParse_any (s : ByteArray) (w : World) (hsm : s.size ≤ maxLen) :
    Calls Tryd.prog 95 #[.string s] w fun e w' => e = .returned (.tuple #[.int .i64 (M.parse (strB s)).1, .int .i64 (M.parse (strB s)).2]) ∧ w = w' := by
  have hfo := formed_any s w hsm
  have hsg := sign_any s 0 w hsm (Nat.zero_le _)
  rw [show ((0 : Nat) : Int) = 0 from rfl] at hsg
  by_cases hf : M.formed (strB s)
  · have hfd : decide (M.formed (strB s)) = true := decide_eq_true hf
    rw [hfd] at hfo
    have hfm := M.formed_fm _ hf
    have hsl := M.sgn_le (strB s) 0 (Nat.zero_le _)
    rw [strB_len] at hsl
    have hpa : M.parse (strB s) = M.sg (M.val ((strB s).drop (M.sgn (strB s) 0))) (decide (0 < M.sgn (strB s) 0)) := by unfold M.parse; rw [if_pos hf]
    obtain ⟨p, hp⟩ : ∃ p, M.sgn (strB s) 0 = p := ⟨_, rfl⟩
    rw [hp] at hsg hsl hpa hfm
    obtain ⟨l, hl⟩ : ∃ l, (strB s).drop p = l := ⟨_, rfl⟩
    have hll : l.length = s.size - p := by rw [← hl]; simp [strB_len]
    have hlx : ∀ k, l[k]?.getD 0 = (strB s)[p + k]?.getD 0 := fun k => by rw [← hl]; simp
    rw [hl] at hpa hfm
    unfold maxLen at hsm
    obtain ⟨g, hg⟩ : ∃ g, M.parse (strB s) = g := ⟨_, rfl⟩
    rw [hg] at hpa ⊢
    clear hfd hf hp hl hg
    by_cases h19 : s.size - p > 19
    · have hv := M.long_val l hfm (by omega)
      obtain rfl : g = (0, 5) := by rw [hpa]; unfold M.sg; split <;> (rw [if_neg (by omega)])
      have hd : decide (19 < (s.size : Int) - p) = true := by simp; omega
      have HPA := Lib.hid hpa; clear hpa
      have HFM := Lib.hid hfm; clear hfm
      go_enter Tryd.func95, Tryd.ntmps95
      go_wp2_with (first | (go_at_call 97; (with_reducible refine hfo.mono ?_); rintro e w' ⟨rfl, rfl⟩) | (go_at_call 94; (with_reducible refine hsg.mono ?_); rintro e w' ⟨rfl, rfl⟩))
      go_ret2
      exact ⟨rfl, rfl⟩
    · have hd : decide (19 < (s.size : Int) - p) = false := by simp; omega
      have HPA := Lib.hid hpa; clear hpa
      have hnx := M.next l hfm.2.1
      have HFM := Lib.hid hfm; clear hfm
      have hsn := fun w => signed_any (M.val l) (decide (0 < p)) w
      rw [← HPA.out] at hsn
      have hvl : (M.val l : Int) ≤ 18446744073709551615 := by
        have := M.val_lt l HFM.out.2.1
        have := Nat.pow_le_pow_right (show 0 < 10 by omega) (show l.length ≤ 19 by omega)
        omega
      go_enter Tryd.func95, Tryd.ntmps95
      go_wp2_with (first | (go_at_call 97; (with_reducible refine hfo.mono ?_); rintro e w' ⟨rfl, rfl⟩) | (go_at_call 94; (with_reducible refine hsg.mono ?_); rintro e w' ⟨rfl, rfl⟩))
      go_loop [5, 6] (fun m i => ∃ k : Nat, k ≤ s.size - p ∧ m = .int .u64 (M.val (l.take k) : Nat) ∧ i = .int .i64 (p + k : Nat)) (fun _ i => s.size - (intOf i).toNat)
      case atStart => exact ⟨0, Nat.zero_le _, rfl, rfl⟩
      case round =>
        obtain ⟨k, hk, rfl, rfl⟩ := hrel
        rcases Nat.lt_or_ge k (s.size - p) with hlt | hge
        · obtain ⟨hx0, hx1, hv, hvb⟩ := hnx k (by omega)
          have hpk : p + k < s.size := by omega
          rw [hlx k, strB_at s (p + k) hpk] at hx0 hx1 hv
          have hb := Nat.pow_le_pow_right (show 0 < 10 by omega) (show k ≤ 18 by omega)
          have hb : M.val (l.take k) ≤ 1000000000000000000 := by omega
          have HV := Lib.hid hv; clear hv hnx
          obtain ⟨v, hve⟩ : ∃ v, M.val (l.take k) = v := ⟨_, rfl⟩
          rw [hve] at hb hvb HV ⊢
          have HVE := Lib.hid hve; clear hve hvb
          have hd2 : decide (p + k < s.size) = true := by simpa using hpk
          go_wp2
          go_round
          case rel => exact ⟨k + 1, by omega, by rw [HV.out]; go_num, by go_num⟩
          case measure => simp [intOf]; omega
        · obtain rfl : k = s.size - p := by omega
          have hd2 : decide (p + (s.size - p) < s.size) = false := by simp; omega
          have hv : M.val (l.take (s.size - p)) = M.val l := by rw [List.take_of_length_le (by omega)]
          rw [hv]; clear hv hnx
          go_wp2_with (first | (go_at_call 98; (with_reducible refine (hsn _ hvl).mono ?_); rintro e w' ⟨rfl, rfl⟩))
          go_ret2
          exact ⟨rfl, rfl⟩
  · have hfd : decide (M.formed (strB s)) = false := decide_eq_false hf
    rw [hfd] at hfo
    have hpa : M.parse (strB s) = (0, 2) := by unfold M.parse; rw [if_neg hf]
    rw [hpa]
    clear hpa hfd hf hsg
    go_enter Tryd.func95, Tryd.ntmps95
    go_wp2_with (first | (go_at_call 97; (with_reducible refine hfo.mono ?_); rintro e w' ⟨rfl, rfl⟩))
    go_ret2
    exact ⟨rfl, rfl⟩
theorem strB_sub (s : ByteArray) (a e : Nat) : strB (s.extract a e) = ((strB s).take e).drop a := by
  simp [strB, List.drop_take, List.map_take, List.map_drop]
theorem sub_size (s : ByteArray) (a e : Nat) (h : e ≤ s.size) : (s.extract a e).size = e - a := by simp; omega
set_option maxHeartbeats 1000000 in
theorem numScan_any (s : ByteArray) (p : Int) (w : World) (hsm : s.size ≤ maxLen) (hp : -9223372036854775808 ≤ p) (hp' : p ≤ 9223372036854775807) :
    Calls Tryd.prog 91 #[.string s, .int .i64 p] w fun e w' => e = .returned (.tuple #[.int .i64 (M.scan (strB s) p).1, .int .i64 (M.scan (strB s) p).2.1, .int .i64 (M.scan (strB s) p).2.2]) ∧ w = w' := by
  by_cases hin : 0 ≤ p ∧ p ≤ s.size
  · obtain ⟨q, rfl⟩ := Int.eq_ofNat_of_zero_le hin.1
    have hq : q ≤ s.size := by omega
    have hsg := fun w => sign_any s q w hsm (by omega)
    have hsl := M.sgn_le (strB s) q (by rw [strB_len]; exact hq)
    rw [strB_len] at hsl
    have hrn := fun w => run_any s (M.sgn (strB s) q) w hsm hsl.2.1
    have hrl := M.runTo_le (strB s) (M.sgn (strB s) q) (by rw [strB_len]; exact hsl.2.1)
    rw [strB_len] at hrl
    have hsc : M.scan (strB s) (q : Int) = if (M.parse (strB (s.extract q (M.runTo (strB s) (M.sgn (strB s) q))))).2 = 0 then ((M.parse (strB (s.extract q (M.runTo (strB s) (M.sgn (strB s) q))))).1, (M.runTo (strB s) (M.sgn (strB s) q) : Int), 0)
        else (0, (q : Int), (M.parse (strB (s.extract q (M.runTo (strB s) (M.sgn (strB s) q))))).2) := by
      unfold M.scan; rw [if_pos (by rw [strB_len]; omega), Int.toNat_natCast, strB_sub]
    obtain ⟨f, hf⟩ : ∃ f, M.sgn (strB s) q = f := ⟨_, rfl⟩
    simp only [hf] at hsg hsl hrn hrl hsc
    obtain ⟨e, he⟩ : ∃ e, M.runTo (strB s) f = e := ⟨_, rfl⟩
    simp only [he] at hrn hrl hsc
    have hpa := fun w => numParse_any (s.extract q e) w (by rw [sub_size _ _ _ hrl.2]; unfold maxLen at *; omega)
    obtain ⟨r, hr⟩ : ∃ r, M.parse (strB (s.extract q e)) = r := ⟨_, rfl⟩
    simp only [hr] at hpa hsc
    unfold maxLen at hsm
    clear hf he hr
    by_cases h0 : r.2 = 0
    · rw [if_pos h0] at hsc
      have hn : (r.2 != 0) = false := by simpa using h0
      rw [hsc]; clear hsc h0
      obtain ⟨r1, r2⟩ := r
      go_enter Tryd.func91, Tryd.ntmps91
      go_wp2_with (first | (go_at_call 94; (with_reducible refine (hsg _).mono ?_); rintro e w' ⟨rfl, rfl⟩) | (go_at_call 93; (with_reducible refine (hrn _).mono ?_); rintro e w' ⟨rfl, rfl⟩) | (go_at_call 95; (with_reducible refine (hpa _).mono ?_); rintro e w' ⟨rfl, rfl⟩))
      go_ret3
      exact ⟨rfl, rfl⟩
    · rw [if_neg h0] at hsc
      have hn : (r.2 != 0) = true := by simpa using h0
      rw [hsc]; clear hsc h0
      obtain ⟨r1, r2⟩ := r
      go_enter Tryd.func91, Tryd.ntmps91
      go_wp2_with (first | (go_at_call 94; (with_reducible refine (hsg _).mono ?_); rintro e w' ⟨rfl, rfl⟩) | (go_at_call 93; (with_reducible refine (hrn _).mono ?_); rintro e w' ⟨rfl, rfl⟩) | (go_at_call 95; (with_reducible refine (hpa _).mono ?_); rintro e w' ⟨rfl, rfl⟩))
      go_ret3
      exact ⟨rfl, rfl⟩
  · have hsc : M.scan (strB s) p = (0, p, 2) := by unfold M.scan; rw [if_neg (by rw [strB_len]; exact hin)]
    rw [hsc]; clear hsc
    unfold maxLen at hsm
    by_cases h0 : p < 0
    · have hd : decide (p < 0) = true := by simpa using h0
      go_enter Tryd.func91, Tryd.ntmps91
      go_wp2
      go_ret3
      exact ⟨rfl, rfl⟩
    · have hd : decide (p < 0) = false := by simpa using h0
      have hd2 : decide ((s.size : Int) < p) = true := by simp; omega
      go_enter Tryd.func91, Tryd.ntmps91
      go_wp2
      go_ret3
      exact ⟨rfl, rfl⟩
end Go.Proofs.YtcicjpdjbfgbhaaDoor
