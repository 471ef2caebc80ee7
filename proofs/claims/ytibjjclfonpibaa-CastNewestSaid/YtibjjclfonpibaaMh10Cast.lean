/- Values: what the statements want of the order and of the texts. -/
import Derived.Test.YtibjjclfonpibaaMh7Cast
import Derived.Test.YtibjjclfonpibaaMh9Cast
import Derived.Test.YtibjjclfonpibaaMh1Cast
import Derived.Test.YtibjjclfonpibaaMh5Cast
import Derived.Test.YtibjjclfonpibaaMh0Cast
import Derived.Lib.AppendStr
import Derived.Deep.RegionWith
import Derived.Deep.RegionLaw
import Derived.Test.YtibjjclfonpibaaMh2Cast
import Derived.Test.YtibjjclfonpibaaMh6Cast
import Derived.Laws.BytesArg
import Derived.Deep.QuietTactic
import Derived.BigQuiet
import Derived.Laws.BitsAllLaws
import Derived.Maps.OwnIn
import Derived.Laws.MakeOwn
import Derived.RegionTactic
namespace Go.Proofs.Ytibjjclfonpibaa
open Go.RowKit Go.Shelf
theorem cmpI_bd (a b : Int) : cmpI a b = -1 ∨ cmpI a b = 0 ∨ cmpI a b = 1 := by unfold cmpI; split <;> (try split) <;> simp
theorem cmpB_zero : ∀ l r : List Int, cmpB l r = 0 ↔ l = r := by
  intro l
  induction l with
  | nil => intro r; cases r <;> simp [cmpB]
  | cons x l ih =>
    intro r
    cases r with
    | nil => simp [cmpB]
    | cons y r =>
      simp only [cmpB, List.cons.injEq]
      split
      · rename_i h
        rw [cmpI_zero]
        exact ⟨fun e => absurd e h, fun e => absurd (by omega : x - y = 0) h⟩
      · rename_i h
        rw [ih r]
        have : x = y := by omega
        simp [this]
theorem cmpB_bd : ∀ l r : List Int, cmpB l r = -1 ∨ cmpB l r = 0 ∨ cmpB l r = 1 := by
  intro l
  induction l with
  | nil => intro r; cases r <;> simp [cmpB]
  | cons x l ih =>
    intro r
    cases r with
    | nil => simp [cmpB]
    | cons y r =>
      simp only [cmpB]
      split
      · exact cmpI_bd _ _
      · exact ih r
theorem orI_zero (x y : Int) : orI x y = 0 ↔ x = 0 ∧ y = 0 := by
  unfold orI
  split
  · rename_i h; exact ⟨fun e => absurd e h, fun e => absurd e.1 h⟩
  · rename_i h; have : x = 0 := by omega
    simp [this]
theorem cmpV_zero : ∀ v v' : PV, cmpV v v' = 0 ↔ v = v' := by
  intro v
  induction v using pv_ind with
  | h k n s l ih =>
    intro v'
    cases v' with
    | mk k' n' s' l' =>
    have hl : ∀ l', cmpL l l' = 0 ↔ l = l' := by
      clear k n s k' n' s' l'
      induction l with
      | nil => intro l'; cases l' <;> simp [cmpL]
      | cons x r ih2 =>
        intro l'
        cases l' with
        | nil => simp [cmpL]
        | cons y r' =>
          simp only [cmpL, List.cons.injEq]
          have hx := ih x (by simp) y
          split
          · rename_i h
            rw [cmpI_zero]
            exact ⟨fun e => absurd e h, fun e => absurd (hx.2 e.1) h⟩
          · rename_i h
            rw [ih2 (fun z hz => ih z (by simp [hz])) r']
            have hxy := hx.1 (by omega)
            simp [hxy]
    simp only [cmpV, PV.mk.injEq]
    split
    · rename_i h
      constructor
      · intro e; exact absurd e h
      · rintro ⟨rfl, rfl, _⟩; exact absurd ((orI_zero _ _).2 ⟨cmpI_self _, cmpI_self _⟩) h
    · rename_i h
      have h0 := (orI_zero _ _).1 (by omega : orI (cmpI k k') (cmpI n n') = 0)
      have hk := (cmpI_zero _ _).1 h0.1
      have hn := (cmpI_zero _ _).1 h0.2
      split
      · rename_i hs
        rw [cmpB_zero]
        constructor
        · intro e; exact absurd e hs
        · rintro ⟨_, _, rfl, _⟩; exact absurd rfl hs
      · rename_i hs
        have hss : s = s' := strB_inj (by simpa using hs)
        rw [hl l']
        simp [hk, hn, hss]
theorem cmpL_bd : ∀ l l' : List PV, cmpL l l' = -1 ∨ cmpL l l' = 0 ∨ cmpL l l' = 1 := by
  intro l
  induction l with
  | nil => intro l'; cases l' <;> simp [cmpL]
  | cons x r ih =>
    intro l'
    cases l' with
    | nil => simp [cmpL]
    | cons y r' =>
      simp only [cmpL]
      split
      · exact cmpI_bd _ _
      · exact ih r'
theorem cmpV_bd (v v' : PV) : cmpV v v' = -1 ∨ cmpV v v' = 0 ∨ cmpV v v' = 1 := by
  cases v with
  | mk k n s l =>
  cases v' with
  | mk k' n' s' l' =>
  simp only [cmpV]
  split
  · unfold orI; split <;> exact cmpI_bd _ _
  · split
    · exact cmpB_bd _ _
    · exact cmpL_bd _ _
/-! ### lists of two -/
def two (a b : PV) : PV := .mk 5 0 ⟨#[]⟩ [a, b]
/-! ### texts -/
end Go.Proofs.Ytibjjclfonpibaa

/- Versions of templates: the mathematics (no program is mentioned here). -/
set_option linter.unusedVariables false
namespace Go.Proofs.Ytibjjclfonpibaa
namespace Sc
def kindV : PV → Int
  | .mk k _ _ _ => k
def nilV : PV := .mk 0 0 ⟨#[]⟩ []
/-- is a kind one of some? -/
def has (ty k : Nat) : Bool := decide (ty / 2 ^ k % 2 = 1)
/-- does a value fit a slot of these types (from 0 on)? -/
def fits (ty : Int) (v : PV) : Bool := rightV v && has ty.toNat (kindV v).toNat
def sound (s : SlotM) : Bool := nameB (strB s.nm) && decide (0 < s.ty) && decide (s.ty < 64) && fits s.ty s.df
structure Ver where
  slots : List SlotM
  cols : List Nat
def eqN (a b : ByteArray) : Bool := decide (a.data.toList = b.data.toList)
theorem eqN_iff (a b : ByteArray) : eqN a b = true ↔ a = b := by
  unfold eqN
  rw [decide_eq_true_eq]
  exact ⟨fun h => ByteArray.ext (Array.toList_inj.1 h), fun h => by rw [h]⟩
def slotOf (x : Ver) (c : Nat) : SlotM := x.slots[c]?.getD default
/-- the slot's number of the column of a name -/
def col (x : Ver) (nm : ByteArray) : Option Nat := x.cols.find? fun c => eqN (slotOf x c).nm nm
def colI (x : Ver) (nm : ByteArray) : Int := match col x nm with
  | none => -1
  | some c => c
/-- of a step, is all that its kind doesn't tell nothing? -/
def rest (s : StepM) : Bool :=
  (decide (s.kd = 1) || (!s.sl.rq && decide (cmpV s.sl.df nilV = 0))) && (decide (s.kd = 5) || s.od.isEmpty) && (decide (s.kd = 1) || decide (s.kd = 3) || decide (s.sl.nm.size = 0)) && (decide (s.kd = 1) || decide (s.kd = 4) || decide (s.sl.ty = 0)) &&
  ((!decide (s.kd = 1) && !decide (s.kd = 5)) || decide (s.col = 0))
def setNm (s : SlotM) (nm : ByteArray) : SlotM := { s with nm := nm }
def setTy (s : SlotM) (ty : Int) : SlotM := { s with ty := ty }
def once (od : List Int) (n : Nat) : Bool := (List.range n).all fun k => decide ((od.filter fun x => decide (x = (k : Int))).length = 1)
/-- a version behind a step; none: it can't be done -/
def step (x : Ver) (s : StepM) : Option Ver :=
  if rest s = false then none
  else if s.kd = 1 then (if x.cols.length ≤ 7 ∧ sound s.sl = true ∧ s.sl.rq = false ∧ col x s.sl.nm = none then some ⟨x.slots ++ [s.sl], x.cols ++ [x.slots.length]⟩ else none)
  else if s.kd = 5 then (if s.od.length = x.cols.length ∧ once s.od x.cols.length = true then some ⟨x.slots, s.od.map fun i => x.cols[i.toNat]?.getD 0⟩ else none)
  else if s.kd < 1 ∨ 5 < s.kd ∨ s.col < 0 ∨ x.cols.length ≤ s.col then none
  else if s.kd = 2 then (if 2 ≤ x.cols.length then some ⟨x.slots, x.cols.eraseIdx s.col.toNat⟩ else none)
  else if s.kd = 3 then (if nameB (strB s.sl.nm) = true ∧ col x s.sl.nm = none then some ⟨x.slots.modify (x.cols[s.col.toNat]?.getD 0) (fun t => setNm t s.sl.nm), x.cols⟩ else none)
  else (let c := x.cols[s.col.toNat]?.getD 0; let old := (slotOf x c).ty.toNat
    if 1 ≤ s.sl.ty ∧ s.sl.ty ≤ 63 ∧ old ||| s.sl.ty.toNat ≠ old then some ⟨x.slots.modify c (fun t => setTy t ((old ||| s.sl.ty.toNat : Nat) : Int)), x.cols⟩ else none)
/-- all versions from one on -/
def run : Ver → List StepM → Option (List Ver)
  | x, [] => some [x]
  | x, s :: r => match step x s with
    | none => none
    | some y => (run y r).map (x :: ·)
/-- the first one -/
def first (l : List SlotM) : Ver := ⟨l, List.range l.length⟩
def firstOk (l : List SlotM) : Bool := l.all sound && (List.range l.length).all fun i => (List.range i).all fun j => !eqN (l[j]?.getD default).nm (l[i]?.getD default).nm
/-- all versions; none, if it isn't right -/
def vers (t : TemplM) : Option (List Ver) :=
  if nameB (strB t.nm) = true ∧ 1 ≤ t.slots.length ∧ t.slots.length ≤ 8 ∧ t.steps.length ≤ 8 ∧ firstOk t.slots = true then run (first t.slots) t.steps else none
theorem run_length : ∀ (l : List StepM) (x : Ver) (L : List Ver), run x l = some L → L.length = l.length + 1 := by
  intro l
  induction l with
  | nil => intro x L h; simp only [run, Option.some.injEq] at h; subst h; rfl
  | cons s r ih =>
    intro x L h
    simp only [run] at h
    split at h
    · cases h
    · rename_i y hy
      cases hr : run y r with
      | none => rw [hr] at h; cases h
      | some M =>
        rw [hr] at h
        simp only [Option.map_some, Option.some.injEq] at h
        subst h
        have := ih y M hr
        simp [this]
theorem vers_length {t : TemplM} {L : List Ver} (h : vers t = some L) : L.length = t.steps.length + 1 ∧ t.steps.length ≤ 8 := by
  unfold vers at h
  split at h
  · rename_i hc
    exact ⟨run_length _ _ _ h, hc.2.2.2.1⟩
  · cases h
end Sc
end Go.Proofs.Ytibjjclfonpibaa

/- Package utf's Put and Text. -/
namespace Go.Proofs.Ytibjjclfonpibaa
open Go.RowKit Go.Shelf
def U.okAll (l : List Int) : Bool := l.all fun c => U.size c != 0
/-- the text of codes; whether all are codes -/
def U.text (l : List Int) : ByteArray × Bool := if U.okAll l then (strOfNums (l.flatMap U.put), true) else (ByteArray.empty, false)
end Go.Proofs.Ytibjjclfonpibaa

/- The document's comparisons of two slices (douaneref01's Bytes and Ints). -/
namespace Go.Proofs.Ytibjjclfonpibaa
open Go.RowKit Go.Shelf
def RBytes (l r : List Int) (w : World) (e : Ending) (w' : World) : Prop := e = .returned (.bool (decide (l = r))) ∧ ∃ n, w' = w.drewN n
end Go.Proofs.Ytibjjclfonpibaa

/- The document's answer for layer 1 (douaneref01): its small functions, and what the two answers have in common. -/
namespace Go.Proofs.Ytibjjclfonpibaa
namespace U
/-- what stands at the beginning is this code's bytes -/
def At (r : List Int) (c : Int) (n : Nat) : Prop := 0 < n ∧ size c = n ∧ ∃ t, r = put c ++ t
def lead (x : Int) : Int := if 240 ≤ x then x - 240 else if 224 ≤ x then x - 224 else if 192 ≤ x then x - 192 else x
end U
open Go.RowKit Go.Shelf
end Go.Proofs.Ytibjjclfonpibaa

/- Layer 6's arithmetic: numbers as bytes, the highest first. No walk. -/
namespace Go.Proofs.Ytibjjclfonpibaa
namespace Bn
/-- the number of bytes, the highest first -/
def jn (l : List Int) : Nat := l.foldl (fun n x => n * 256 + x.toNat) 0
theorem or64 (a b : Nat) (hb : b < 256) (h : a < 72057594037927936) : bits .or .u64 ((a * 256 : Nat) : Int) (b : Int) = ((a * 256 + b : Nat) : Int) := by
  show IntKind.u64.wrap ((BitVec.ofInt 64 ((a * 256 : Nat) : Int) ||| BitVec.ofInt 64 (b : Int)).toNat : Int) = _
  have e : ∀ n : Nat, n < 18446744073709551616 → (BitVec.ofInt 64 (n : Int)).toNat = n := fun n hn => by simp; omega
  rw [BitVec.toNat_or, e _ (by omega), e _ (by omega), Nat.mul_comm, show (256 : Nat) = 2 ^ 8 from rfl, ← Nat.two_pow_add_eq_or_of_lt (by omega), IntKind.wrap_u64]
  omega
end Bn
end Go.Proofs.Ytibjjclfonpibaa

/- append(own, src...), wherever src lies (nil too): what the slice is behind it, and in which block. -/
namespace Go.Proofs.Ytibjjclfonpibaa
open Go.RowKit Go.Shelf
section
variable {P : Program} (w : World)
theorem run_append_at (base : Nat) (t ty e : TypeId) (i : TypeInfo) (z : Value) (size bytes : Nat) (ht : P.underlying t = some (.slice e)) (hi : P.info? e = some i) (hz : i.zero = some z)
    (hsize : i.size = size) (hby : i.bytes = bytes) (hzs : z.cells.size = size) (hsz : 0 < size) (v : Value) (n : Nat) (xs : List Value) (hown : w.ownsRow base e size v n xs)
    (a : Option Addr) (m c : Nat) (news : List Value) (hr : Cells w size a m news) (h1 : ∀ u ∈ news, u.oneCell' = true) (h63 : n + m ≤ maxLen) (hbytes : (n + m) * bytes ≤ 140737488355328) (hbase : base ≤ w.heap.size) :
    ∃ v' w', (Builtin.append_ #[t, t] ty #[v, .slice a m c]).run P w = .ok v' w' ∧ w'.ownsRow base e size v' (n + m) (xs ++ news) ∧ w.grownBy w' v.ownBlock ∧ (v'.ownBlock = v.ownBlock ∨ v'.ownBlock = some w.heap.size) := by
  obtain ⟨hl, hr⟩ := hr
  cases a with
  | none =>
    obtain rfl : m = 0 := by rcases hr with h | ⟨_, h, _⟩ <;> first | exact h | cases h
    obtain rfl : news = [] := List.length_eq_zero_iff.1 (by simpa using hl)
    refine ⟨v, w, ?_, by simpa using hown, ⟨rfl, rfl, rfl, Nat.le_refl _, fun _ _ _ => rfl⟩, .inl rfl⟩
    rcases hown.2 with ⟨rfl, rfl⟩ | ⟨g, cap, cur, rfl, _, _, hnc, _⟩
    · simp [Builtin.append_, run_underlying ht, sizeOf, typeInfo, hi, Builtin.lenOf, Builtin.firstCells]
    · simp [Builtin.append_, run_underlying ht, sizeOf, typeInfo, hi, Builtin.lenOf, Builtin.firstCells, hnc, storeCells]
  | some ad =>
    have hc : ∀ j u, news[j]? = some u → w.cell? (ad.add j) = some u := by
      rcases hr with rfl | ⟨ad', e, h⟩
      · intro j u hu
        obtain rfl : news = [] := List.length_eq_zero_iff.1 (by simpa using hl)
        simp at hu
      · cases e; exact h
    obtain ⟨v', w', hrun, h2, h3, _, h5⟩ := run_append_own_at (P := P) w base t ty e i z size bytes ht hi hz hsize hby hzs hsz v n xs hown ad m c news hl hc h1 h63 hbytes hbase
    exact ⟨v', w', hrun, h2, h3, h5⟩
theorem wpList_append_at {ops : Array Oper} {rest : List Oper} {o : Oper} {a : Act} {Q : Exit → Act → World → Prop} (hgd : o.guard = none) (s x : Operand) (t : TypeId)
    (ho : o.op = .call { callee := .builtin .append, args := #[s, x], argTypes := #[t, t] }) (base : Nat) (e : TypeId) (i : TypeInfo) (z : Value) (size bytes : Nat) (ht : P.underlying t = some (.slice e)) (hi : P.info? e = some i) (hz : i.zero = some z)
    (hsize : i.size = size) (hby : i.bytes = bytes) (hzs : z.cells.size = size) (hsz : 0 < size) (v : Value) (n : Nat) (xs : List Value) (hs : a.eval s = v) (hown : w.ownsRow base e size v n xs)
    (A : Option Addr) (m c : Nat) (news : List Value) (hx : a.eval x = .slice A m c) (hr : Cells w size A m news) (h1 : ∀ u ∈ news, u.oneCell' = true) (h63 : n + m ≤ maxLen) (hbytes : (n + m) * bytes ≤ 140737488355328) (hbase : base ≤ w.heap.size)
    (h : ∀ v' w', w'.ownsRow base e size v' (n + m) (xs ++ news) → w.grownBy w' v.ownBlock → (v'.ownBlock = v.ownBlock ∨ v'.ownBlock = some w.heap.size) → wpList P ops Q rest (a.put o.dst v') w') : wpList P ops Q (o :: rest) a w :=
  wpList_plain hgd fun K hK => by
    obtain ⟨v', w', hrun, h2, h3, h4⟩ := run_append_at (P := P) w base t o.type e i z size bytes ht hi hz hsize hby hzs hsz v n xs hown A m c news hr h1 h63 hbytes hbase
    unfold Oper.wp execOp
    simp only [ho, resolve, invoke, builtin, Sem.run_bind, Sem.run_pure, Result.andThen_ok, List.map_toArray, List.map_cons, List.map_nil, hs, hx, hrun]
    exact hK _ _ (h v' w' h2 h3 h4)
theorem wpListIn_append_at {F : Fence} {nF : Nat} {ops : Array Oper} {rest : List Oper} {o : Oper} {a : Act} {Q : Exit → Act → World → Prop} (hgd : o.guard = none) (s x : Operand) (t : TypeId)
    (ho : o.op = .call { callee := .builtin .append, args := #[s, x], argTypes := #[t, t] }) (base : Nat) (e : TypeId) (i : TypeInfo) (z : Value) (size bytes : Nat) (ht : P.underlying t = some (.slice e)) (hi : P.info? e = some i) (hz : i.zero = some z)
    (hsize : i.size = size) (hby : i.bytes = bytes) (hzs : z.cells.size = size) (hsz : 0 < size) (v : Value) (n : Nat) (xs : List Value) (hs : a.eval s = v) (hown : w.ownsRow base e size v n xs)
    (A : Option Addr) (m c : Nat) (news : List Value) (hx : a.eval x = .slice A m c) (hr : Cells w size A m news) (h1 : ∀ u ∈ news, u.oneCell' = true) (h63 : n + m ≤ maxLen) (hbytes : (n + m) * bytes ≤ 140737488355328) (hbase : base ≤ w.heap.size)
    (h : ∀ v' w', w'.ownsRow base e size v' (n + m) (xs ++ news) → w.grownBy w' v.ownBlock → (v'.ownBlock = v.ownBlock ∨ v'.ownBlock = some w.heap.size) → wpListIn F nF P ops Q rest (a.put o.dst v') w') : wpListIn F nF P ops Q (o :: rest) a w := by
  refine wpListIn_plain hgd fun K hK => ?_
  obtain ⟨v', w', hrun, h2, h3, h4⟩ := run_append_at (P := P) w base t o.type e i z size bytes ht hi hz hsize hby hzs hsz v n xs hown A m c news hr h1 h63 hbytes hbase
  unfold Oper.wpIn
  refine ⟨by simp [Oper.about, ho, resolve, Target.leads, Sem.run_pure], ?_⟩
  rw [Oper.semAt_plain F _ _ (by rw [ho]; intro c hc'; cases hc')]
  simp [execOp, ho, resolve, invoke, builtin, hs, hx, hrun, Result.andThen]
  exact hK _ _ (h v' w' h2 h3 h4)
/-- the same as one step of a region that draws -/
theorem step_append_at {ops : Array Oper} {o : Oper} {a : Act} {K : Act → World → Prop} {Q : Exit → Act → World → Prop} {E : Prop} (hgd : o.guard = none) (s x : Operand) (t : TypeId)
    (ho : o.op = .call { callee := .builtin .append, args := #[s, x], argTypes := #[t, t] }) (base : Nat) (e : TypeId) (i : TypeInfo) (z : Value) (size bytes : Nat) (ht : P.underlying t = some (.slice e)) (hi : P.info? e = some i) (hz : i.zero = some z)
    (hsize : i.size = size) (hby : i.bytes = bytes) (hzs : z.cells.size = size) (hsz : 0 < size) (v : Value) (n : Nat) (xs : List Value) (hs : a.eval s = v) (hown : w.ownsRow base e size v n xs)
    (A : Option Addr) (m c : Nat) (news : List Value) (hx : a.eval x = .slice A m c) (hr : Cells w size A m news) (h1 : ∀ u ∈ news, u.oneCell' = true) (h63 : n + m ≤ maxLen) (hbytes : (n + m) * bytes ≤ 140737488355328) (hbase : base ≤ w.heap.size)
    (h : ∀ v' w', w'.ownsRow base e size v' (n + m) (xs ++ news) → w.grownBy w' v.ownBlock → (v'.ownBlock = v.ownBlock ∨ v'.ownBlock = some w.heap.size) → K (a.put o.dst v') w') : if Region.wanted o (yielded ops a.tmps) = true then Oper.wp P o a w K Q else E := by
  have hw : Region.wanted o (yielded ops a.tmps) = true := by simp [Region.wanted, hgd]
  rw [if_pos hw]
  obtain ⟨v', w', hrun, h2, h3, h4⟩ := run_append_at (P := P) w base t o.type e i z size bytes ht hi hz hsize hby hzs hsz v n xs hown A m c news hr h1 h63 hbytes hbase
  unfold Oper.wp
  simp [execOp, ho, resolve, invoke, builtin, hs, hx, hrun, Result.andThen]
  exact h v' w' h2 h3 h4
end
end Go.Proofs.Ytibjjclfonpibaa

/- What a reader reads, without a walk. -/
namespace Go.Proofs.Ytibjjclfonpibaa
namespace Bn
/-- a reader's state: what is left; none: it is bad -/
abbrev St := Option (List Int)
/-- a number of so many bytes -/
def num (n : Nat) : St → Nat × St
  | none => (0, none)
  | some l => if n ≤ l.length then (jn (l.take n), some (l.drop n)) else (0, none)
def rByte (s : St) : Nat × St := num 1 s
def rNum (s : St) : Nat × St := if 2147483647 < (num 4 s).1 then (0, none) else num 4 s
def rLong (s : St) : Int × St := (IntKind.i64.wrap ((num 8 s).1 : Int), (num 8 s).2)
/-- the text of so many bytes -/
def txt (n : Nat) : St → ByteArray × St
  | none => (⟨#[]⟩, none)
  | some l => if n ≤ l.length then (strOfNums (l.take n), some (l.drop n)) else (⟨#[]⟩, none)
def rText (s : St) : ByteArray × St := txt (rNum s).1 (rNum s).2
/-- so many things, one behind the other -/
def rep (g : St → PV × St) : Nat → St → List PV × St
  | 0, s => ([], s)
  | n + 1, s => ((rep g n s).1 ++ [(g (rep g n s).2).1], (g (rep g n s).2).2)
/-- a value, its list's values as told -/
def node (lst : Nat → St → List PV × St) (s : St) : PV × St :=
  if (rByte s).1 = 1 then (.mk 1 (rByte (rByte s).2).1 ⟨#[]⟩ [], (rByte (rByte s).2).2)
  else if (rByte s).1 = 2 then (.mk 2 (rLong (rByte s).2).1 ⟨#[]⟩ [], (rLong (rByte s).2).2)
  else if (rByte s).1 = 3 ∨ (rByte s).1 = 4 then (.mk (rByte s).1 0 (rText (rByte s).2).1 [], (rText (rByte s).2).2)
  else if (rByte s).1 = 5 then (.mk 5 0 ⟨#[]⟩ (lst (rNum (rByte s).2).1 (rNum (rByte s).2).2).1, (lst (rNum (rByte s).2).1 (rNum (rByte s).2).2).2)
  else (.mk (rByte s).1 0 ⟨#[]⟩ [], (rByte s).2)
/-- a list's values, so deep at most -/
def lst (g : Option (St → PV × St)) (n : Nat) (s : St) : List PV × St :=
  match g with
  | none => ([], none)
  | some g => if 20 < n then ([], none) else rep g n s
def get : Nat → St → PV × St
  | 0 => node (lst none)
  | d + 1 => node (lst (some (get d)))
end Bn
end Go.Proofs.Ytibjjclfonpibaa

/- Package bin: a reader in memory; Read, Left, Bad, Done, fail; what is taken. -/
namespace Go.Proofs.Ytibjjclfonpibaa
open Go.RowKit Go.Shelf
attribute [local go_sem] Oper.semAt_some
/-- nothing left, and not bad -/
def Bn.done (s : Bn.St) : Bool := match s with
  | some [] => true
  | _ => false
end Go.Proofs.Ytibjjclfonpibaa
