/- append(own, src...), wherever src lies (nil too): what the slice is behind it, and in which block. -/
import Derived.Test.YtpiajoffddjjfaaGreatDoorStr
import Derived.Maps.OwnIn
import Derived.Deep.RegionLaw
import Derived.Test.YtpiajoffddjjfaaGreatDoorMg3Jso
import Derived.Test.YtpiajoffddjjfaaGreatDoorTokQuoteq
import Derived.Test.YtpiajoffddjjfaaGreatDoorMg10Jso
namespace Go.Proofs.YtpiajoffddjjfaaGreatDoor
open Go.RowKit Go.Shelf
section
variable {P : Program} (w : World)
theorem run_append_at (base : Nat) (t ty e : TypeId) (i : TypeInfo) (z : Value) (size bytes : Nat) (ht : P.underlying t = some (.slice e)) (hi : P.info? e = some i) (hz : i.zero = some z)
    (hsize : i.size = size) (hby : i.bytes = bytes) (hzs : z.cells.size = size) (hsz : 0 < size) (v : Value) (n : Nat) (xs : List Value) (hown : w.ownsRow base e size v n xs)
    (a : Option Addr) (m c : Nat) (news : List Value) (hr : Cells w size a m news) (h1 : ∀ u ∈ news, u.oneCell' = true) (h63 : n + m ≤ maxLen) (hbytes : (n + m) * bytes ≤ 140737488355328) (hbase : base ≤ w.heap.size) :
    ∃ v' w', (Builtin.append_ #[t, t] ty #[v, .slice a m c]).run P w = .ok v' w' ∧ w'.ownsRow base e size v' (n + m) (xs ++ news) ∧ w.grownBy w' v.ownBlock ∧ (v'.ownBlock = v.ownBlock ∨ v'.ownBlock = some w.heap.size) := by
  obtain ⟨hl, hr⟩ := hr
  cases a with
  | none =>
    obtain rfl : m = 0 := by rcases hr with h | ⟨_, h, _⟩ <;> first | exact h | cases h
    obtain rfl : news = [] := List.length_eq_zero_iff.1 (by simpa using hl)
    refine ⟨v, w, ?_, by simpa using hown, ⟨rfl, rfl, rfl, Nat.le_refl _, fun _ _ _ => rfl⟩, .inl rfl⟩
    rcases hown.2 with ⟨rfl, rfl⟩ | ⟨g, cap, cur, rfl, _, _, hnc, _⟩
    · simp [Builtin.append_, run_underlying ht, sizeOf, typeInfo, hi, Builtin.lenOf, Builtin.firstCells]
    · simp [Builtin.append_, run_underlying ht, sizeOf, typeInfo, hi, Builtin.lenOf, Builtin.firstCells, hnc, storeCells]
  | some ad =>
    have hc : ∀ j u, news[j]? = some u → w.cell? (ad.add j) = some u := by
      rcases hr with rfl | ⟨ad', e, h⟩
      · intro j u hu
        obtain rfl : news = [] := List.length_eq_zero_iff.1 (by simpa using hl)
        simp at hu
      · cases e; exact h
    obtain ⟨v', w', hrun, h2, h3, _, h5⟩ := run_append_own_at (P := P) w base t ty e i z size bytes ht hi hz hsize hby hzs hsz v n xs hown ad m c news hl hc h1 h63 hbytes hbase
    exact ⟨v', w', hrun, h2, h3, h5⟩
theorem wpList_append_at {ops : Array Oper} {rest : List Oper} {o : Oper} {a : Act} {Q : Exit → Act → World → Prop} (hgd : o.guard = none) (s x : Operand) (t : TypeId)
    (ho : o.op = .call { callee := .builtin .append, args := #[s, x], argTypes := #[t, t] }) (base : Nat) (e : TypeId) (i : TypeInfo) (z : Value) (size bytes : Nat) (ht : P.underlying t = some (.slice e)) (hi : P.info? e = some i) (hz : i.zero = some z)
    (hsize : i.size = size) (hby : i.bytes = bytes) (hzs : z.cells.size = size) (hsz : 0 < size) (v : Value) (n : Nat) (xs : List Value) (hs : a.eval s = v) (hown : w.ownsRow base e size v n xs)
    (A : Option Addr) (m c : Nat) (news : List Value) (hx : a.eval x = .slice A m c) (hr : Cells w size A m news) (h1 : ∀ u ∈ news, u.oneCell' = true) (h63 : n + m ≤ maxLen) (hbytes : (n + m) * bytes ≤ 140737488355328) (hbase : base ≤ w.heap.size)
    (h : ∀ v' w', w'.ownsRow base e size v' (n + m) (xs ++ news) → w.grownBy w' v.ownBlock → (v'.ownBlock = v.ownBlock ∨ v'.ownBlock = some w.heap.size) → wpList P ops Q rest (a.put o.dst v') w') : wpList P ops Q (o :: rest) a w :=
  wpList_plain hgd fun K hK => by
    obtain ⟨v', w', hrun, h2, h3, h4⟩ := run_append_at (P := P) w base t o.type e i z size bytes ht hi hz hsize hby hzs hsz v n xs hown A m c news hr h1 h63 hbytes hbase
    unfold Oper.wp execOp
    simp only [ho, resolve, invoke, builtin, Sem.run_bind, Sem.run_pure, Result.andThen_ok, List.map_toArray, List.map_cons, List.map_nil, hs, hx, hrun]
    exact hK _ _ (h v' w' h2 h3 h4)
theorem wpListIn_append_at {F : Fence} {nF : Nat} {ops : Array Oper} {rest : List Oper} {o : Oper} {a : Act} {Q : Exit → Act → World → Prop} (hgd : o.guard = none) (s x : Operand) (t : TypeId)
    (ho : o.op = .call { callee := .builtin .append, args := #[s, x], argTypes := #[t, t] }) (base : Nat) (e : TypeId) (i : TypeInfo) (z : Value) (size bytes : Nat) (ht : P.underlying t = some (.slice e)) (hi : P.info? e = some i) (hz : i.zero = some z)
    (hsize : i.size = size) (hby : i.bytes = bytes) (hzs : z.cells.size = size) (hsz : 0 < size) (v : Value) (n : Nat) (xs : List Value) (hs : a.eval s = v) (hown : w.ownsRow base e size v n xs)
    (A : Option Addr) (m c : Nat) (news : List Value) (hx : a.eval x = .slice A m c) (hr : Cells w size A m news) (h1 : ∀ u ∈ news, u.oneCell' = true) (h63 : n + m ≤ maxLen) (hbytes : (n + m) * bytes ≤ 140737488355328) (hbase : base ≤ w.heap.size)
    (h : ∀ v' w', w'.ownsRow base e size v' (n + m) (xs ++ news) → w.grownBy w' v.ownBlock → (v'.ownBlock = v.ownBlock ∨ v'.ownBlock = some w.heap.size) → wpListIn F nF P ops Q rest (a.put o.dst v') w') : wpListIn F nF P ops Q (o :: rest) a w := by
  refine wpListIn_plain hgd fun K hK => ?_
  obtain ⟨v', w', hrun, h2, h3, h4⟩ := run_append_at (P := P) w base t o.type e i z size bytes ht hi hz hsize hby hzs hsz v n xs hown A m c news hr h1 h63 hbytes hbase
  unfold Oper.wpIn
  refine ⟨by simp [Oper.about, ho, resolve, Target.leads, Sem.run_pure], ?_⟩
  rw [Oper.semAt_plain F _ _ (by rw [ho]; intro c hc'; cases hc')]
  simp [execOp, ho, resolve, invoke, builtin, hs, hx, hrun, Result.andThen]
  exact hK _ _ (h v' w' h2 h3 h4)
/-- the same as one step of a region that draws -/
theorem step_append_at {ops : Array Oper} {o : Oper} {a : Act} {K : Act → World → Prop} {Q : Exit → Act → World → Prop} {E : Prop} (hgd : o.guard = none) (s x : Operand) (t : TypeId)
    (ho : o.op = .call { callee := .builtin .append, args := #[s, x], argTypes := #[t, t] }) (base : Nat) (e : TypeId) (i : TypeInfo) (z : Value) (size bytes : Nat) (ht : P.underlying t = some (.slice e)) (hi : P.info? e = some i) (hz : i.zero = some z)
    (hsize : i.size = size) (hby : i.bytes = bytes) (hzs : z.cells.size = size) (hsz : 0 < size) (v : Value) (n : Nat) (xs : List Value) (hs : a.eval s = v) (hown : w.ownsRow base e size v n xs)
    (A : Option Addr) (m c : Nat) (news : List Value) (hx : a.eval x = .slice A m c) (hr : Cells w size A m news) (h1 : ∀ u ∈ news, u.oneCell' = true) (h63 : n + m ≤ maxLen) (hbytes : (n + m) * bytes ≤ 140737488355328) (hbase : base ≤ w.heap.size)
    (h : ∀ v' w', w'.ownsRow base e size v' (n + m) (xs ++ news) → w.grownBy w' v.ownBlock → (v'.ownBlock = v.ownBlock ∨ v'.ownBlock = some w.heap.size) → K (a.put o.dst v') w') : if Region.wanted o (yielded ops a.tmps) = true then Oper.wp P o a w K Q else E := by
  have hw : Region.wanted o (yielded ops a.tmps) = true := by simp [Region.wanted, hgd]
  rw [if_pos hw]
  obtain ⟨v', w', hrun, h2, h3, h4⟩ := run_append_at (P := P) w base t o.type e i z size bytes ht hi hz hsize hby hzs hsz v n xs hown A m c news hr h1 h63 hbytes hbase
  unfold Oper.wp
  simp [execOp, ho, resolve, invoke, builtin, hs, hx, hrun, Result.andThen]
  exact h v' w' h2 h3 h4
end
theorem info_u8' : ∃ i, Tryz.prog.info? 5 = some i ∧ i.zero = some (.int .u8 0) ∧ i.size = 1 ∧ i.bytes = 1 := info_parts info_u8
/-- an own row of bytes that lies in a block with nothing else: as a slice that is read -/
theorem row_own {w : World} {base : Nat} {v : Value} {n : Nat} {l : List Int} (h : w.ownsRow base 5 1 v n (u8s l)) : ∃ a cap, v = .slice a n cap ∧ Row w .u8 a n cap l ∧ (∀ ad, a = some ad → v.ownBlock = some ad.block ∧ ∃ cs, w.heap[ad.block]? = some (.cells cs 5 (0, 0))) := by
  obtain ⟨h1, h2⟩ := id h
  obtain ⟨a, cap, e, hr⟩ := row_of_owns (k := .u8) h
  refine ⟨a, cap, e, hr, ?_⟩
  rintro ad rfl
  rcases h2 with ⟨e2, _⟩ | ⟨g, cap', cur, e2, _, hg, _⟩
  · rw [e] at e2; cases e2
  · rw [e] at e2; cases e2
    exact ⟨by rw [e]; rfl, cur, hg⟩
end Go.Proofs.YtpiajoffddjjfaaGreatDoor

/- Printing JSON: the text of a thing; what appends keep (no walk). -/
set_option linter.unusedVariables false
namespace Go.Proofs.YtpiajoffddjjfaaGreatDoor
open Go.RowKit Go.Shelf
mutual
/-- a thing's text -/
def txJ : JV → List Int
  | .mk k n s ns l => if k = 1 then (if n = 1 then [116, 114, 117, 101] else [102, 97, 108, 115, 101]) else if k = 2 then M.prt n else if k = 4 then K.quote (strB s) else if k = 5 then [91] ++ (txs l false ns).drop 1 ++ [93]
    else if k = 6 then [123] ++ (txs l true ns).drop 1 ++ [125] else [110, 117, 108, 108]
/-- the texts of a row of things, a comma ahead of each -/
def txs : List JV → Bool → List ByteArray → List Int
  | [], _, _ => []
  | x :: r, o, ns => 44 :: ((if o = true then K.quote (strB (ns.headD ⟨#[]⟩)) ++ [58] else []) ++ txJ x ++ txs r o ns.tail)
end
def piece (o : Bool) (nm : ByteArray) (y : JV) : List Int := (if o = true then K.quote (strB nm) ++ [58] else []) ++ txJ y
theorem txs_append (l r : List JV) (o : Bool) (ns : List ByteArray) : txs (l ++ r) o ns = txs l o ns ++ txs r o (ns.drop l.length) := by
  induction l generalizing ns with
  | nil => simp [txs]
  | cons x l ih =>
    simp only [List.cons_append, txs, ih, List.length_cons]
    rw [show ns.tail.drop l.length = ns.drop (l.length + 1) by rw [List.drop_tail]]
    simp
theorem txs_step (l : List JV) (o : Bool) (ns : List ByteArray) (q : Nat) (y : JV) (h : l[q]? = some y) : txs (l.take (q + 1)) o ns = txs (l.take q) o ns ++ 44 :: piece o (ns[q]?.getD ⟨#[]⟩) y := by
  have hq := (List.getElem?_eq_some_iff.1 h).1
  rw [List.take_add_one, h, Option.toList_some, txs_append, List.length_take, Nat.min_eq_left (by omega)]
  have : (ns.drop q).headD ⟨#[]⟩ = ns[q]?.getD ⟨#[]⟩ := by rw [List.headD_eq_head?_getD, List.head?_drop]
  simp only [txs, piece, this, List.append_nil]
/-- the texts so far, commas between them -/
def Jt (l : List JV) (o : Bool) (ns : List ByteArray) (q : Nat) : List Int := (txs (l.take q) o ns).drop 1
theorem jt_zero (l : List JV) (o : Bool) (ns : List ByteArray) : Jt l o ns 0 = [] := by simp [Jt, txs]
theorem jt_one (l : List JV) (o : Bool) (ns : List ByteArray) (y : JV) (h : l[0]? = some y) : Jt l o ns 1 = piece o (ns[0]?.getD ⟨#[]⟩) y := by
  unfold Jt
  rw [txs_step l o ns 0 y h]
  simp [txs]
theorem txs_ne (l : List JV) (o : Bool) (ns : List ByteArray) (h : l ≠ []) : 0 < (txs l o ns).length := by
  cases l with
  | nil => exact absurd rfl h
  | cons x r => simp [txs]
theorem jt_step (l : List JV) (o : Bool) (ns : List ByteArray) (q : Nat) (y : JV) (h : l[q]? = some y) (h0 : 0 < q) : Jt l o ns (q + 1) = Jt l o ns q ++ [44] ++ piece o (ns[q]?.getD ⟨#[]⟩) y := by
  have hq := (List.getElem?_eq_some_iff.1 h).1
  unfold Jt
  rw [txs_step l o ns q y h, List.drop_append_of_le_length (txs_ne _ _ _ (fun e => by
    have h9 : (l.take q).length = 0 := by rw [e]; rfl
    rw [List.length_take] at h9
    omega))]
  simp
theorem jt_len (l : List JV) (o : Bool) (ns : List ByteArray) (q : Nat) : (Jt l o ns q).length ≤ ((txs l o ns).drop 1).length := by
  unfold Jt
  have h := congrArg List.length (txs_append (l.take q) (l.drop q) o ns)
  rw [List.take_append_drop, List.length_append] at h
  simp only [List.length_drop]
  omega
theorem jt_all (l : List JV) (o : Bool) (ns : List ByteArray) : Jt l o ns l.length = (txs l o ns).drop 1 := by unfold Jt; rw [List.take_length]
/-- things that can be told -/
inductive PrJ : JV → Prop where
  | mk (k n : Int) (s : ByteArray) (ns : List ByteArray) (l : List JV) (h4 : k = 4 → s.size ≤ 100000 ∧ K.quote (strB s) ≠ []) (h6 : k = 6 → ns.length = l.length ∧ ∀ t ∈ ns, t.size ≤ 100000 ∧ K.quote (strB t) ≠ []) (hl : ∀ x ∈ l, PrJ x) : PrJ (.mk k n s ns l)
/-- what is not a block of several bytes -/
def Small (o : Obj) : Prop := ∀ cs f, o = .cells cs 5 f → cs.size ≤ 1
/-- appends onto v keep all small blocks but its own -/
def KZ (w : World) (v : Value) (w' : World) : Prop := ∀ z o, w.heap[z]? = some o → Small o → some z ≠ v.ownBlock → w'.heap[z]? = some o
def Apart (w : World) (v v' : Value) : Prop := ∀ z o, w.heap[z]? = some o → Small o → some z ≠ v.ownBlock → some z ≠ v'.ownBlock
theorem kz_grown {w w' : World} {v : Value} (hg : w.grownBy w' v.ownBlock) : KZ w v w' := fun z o hz _ hne => (hg.block z (Array.getElem?_eq_some_iff.1 hz).1 hne).trans hz
theorem kz_below {w w' : World} {v : Value} (hb : Below w.heap.size w w') : KZ w v w' := fun z o hz _ _ => (hb.block z (Array.getElem?_eq_some_iff.1 hz).1).trans hz
theorem kz_trans {w w1 w2 : World} {v v1 : Value} (h : KZ w v w1) (ha : Apart w v v1) (k : KZ w1 v1 w2) : KZ w v w2 := fun z o hz hs hne => k z o (h z o hz hs hne) hs (ha z o hz hs hne)
theorem apart_trans {w w1 : World} {v v1 v2 : Value} (h : KZ w v w1) (ha : Apart w v v1) (k : Apart w1 v1 v2) : Apart w v v2 := fun z o hz hs hne => k z o (h z o hz hs hne) hs (ha z o hz hs hne)
theorem kz_refl (w : World) (v : Value) : KZ w v w := fun _ _ h _ _ => h
theorem apart_refl (w : World) (v : Value) : Apart w v v := fun _ _ _ _ h => h
/-- a row of two bytes and more is no small block -/
theorem owns_big {w0 w : World} {v : Value} {xs : List Int} (h : Owns w0 w v xs) (h2 : 2 ≤ xs.length) {z : Nat} {o : Obj} (hz : w.heap[z]? = some o) (hs : Small o) : some z ≠ v.ownBlock := by
  intro e
  rcases h.1.2 with ⟨rfl, hn⟩ | ⟨g, cap, cur, rfl, hg, hh, hc1, hc2, hc3, hc4⟩
  · cases e
  · simp only [Value.ownBlock, Option.some.injEq] at e
    subst e
    rw [hz] at hh
    have := hs cur (0, 0) (by injection hh)
    omega
/-- whatever was appended: two bytes and more behind it -/
theorem apart_big {w0 w w' : World} {v v' : Value} {xs : List Int} (h : Owns w0 w' v' xs) (h2 : 2 ≤ xs.length) (hk : KZ w v w') : Apart w v v' := fun z o hz hs hne => owns_big h h2 (hk z o hz hs hne) hs
/-- .. or by the law that says where -/
theorem apart_at {w w' : World} {v v' : Value} (h : v'.ownBlock = v.ownBlock ∨ v'.ownBlock = some w.heap.size) : Apart w v v' := fun z o hz hs hne => by
  rcases h with h | h
  · rw [h]; exact hne
  · rw [h]
    intro e
    have := (Array.getElem?_eq_some_iff.1 hz).1
    injection e with e
    omega
theorem small_json (cs : Array Value) (f : Nat × Nat) : Small (.cells cs 25 f) := fun cs' f' e => by
  injection e with _ e _
  exact absurd e (by decide)
theorem small_one (c : Value) (t : TypeId) (f : Nat × Nat) : Small (.cells #[c] t f) := fun cs' f' e => by
  injection e with e _ _
  subst e
  simp
/-- what add comes to -/
def AddR (w0 w : World) (v : Value) (xs T : List Int) (e : Ending) (w' : World) : Prop := ∃ v', e = .returned v' ∧ Owns w0 w' v' (xs ++ T) ∧ KZ w v w'
/-- .. and addParts -/
def PartsR (w0 w : World) (v : Value) (xs T : List Int) (e : Ending) (w' : World) : Prop := ∃ v', e = .returned v' ∧ Owns w0 w' v' (xs ++ T) ∧ KZ w v w' ∧ Apart w v v'
end Go.Proofs.YtpiajoffddjjfaaGreatDoor
