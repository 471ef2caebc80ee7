/- Package utf's Put and Text. -/
import Derived.Test.YtdogdbibhmhooaaGreatMh3Regi
import Derived.Laws.BytesArg
import Derived.Laws.BitsAllLaws
import Derived.Test.YtdogdbibhmhooaaGreatMh0Regi
import Derived.Maps.OwnIn
import Derived.Deep.RegionLaw
import Derived.Laws.MakeOwn
namespace Go.Proofs.YtdogdbibhmhooaaGreat
open Go.RowKit Go.Shelf
def U.okAll (l : List Int) : Bool := l.all fun c => U.size c != 0
/-- the text of codes; whether all are codes -/
def U.text (l : List Int) : ByteArray × Bool := if U.okAll l then (strOfNums (l.flatMap U.put), true) else (ByteArray.empty, false)
end Go.Proofs.YtdogdbibhmhooaaGreat

/- Layer 6's arithmetic: numbers as bytes, the highest first. No walk. -/
namespace Go.Proofs.YtdogdbibhmhooaaGreat
namespace Bn
/-- a number's bytes, so many, the highest first -/
def spl (n : Nat) : Nat → List Int
  | 0 => []
  | k + 1 => ((n / 256 ^ k % 256 : Nat) : Int) :: spl n k
/-- the number of bytes, the highest first -/
def jn (l : List Int) : Nat := l.foldl (fun n x => n * 256 + x.toNat) 0
theorem spl_len (n k : Nat) : (spl n k).length = k := by
  induction k with
  | zero => rfl
  | succ k ih => simp [spl, ih]
theorem spl_bd (n k : Nat) : ∀ x ∈ spl n k, 0 ≤ x ∧ x ≤ 255 := by
  induction k with
  | zero => simp [spl]
  | succ k ih =>
    intro x hx
    simp only [spl, List.mem_cons] at hx
    rcases hx with rfl | hx
    · have : n / 256 ^ k % 256 < 256 := Nat.mod_lt _ (by omega)
      omega
    · exact ih x hx
theorem jn_snoc (l : List Int) (x : Int) : jn (l ++ [x]) = jn l * 256 + x.toNat := by simp [jn]
theorem foldl_jn (l : List Int) (c : Nat) : l.foldl (fun n x => n * 256 + x.toNat) c = c * 256 ^ l.length + jn l := by
  unfold jn
  induction l generalizing c with
  | nil => simp
  | cons x l ih =>
    simp only [List.foldl_cons, List.length_cons]
    rw [ih, ih (0 * 256 + x.toNat)]
    rw [Nat.pow_succ, Nat.add_mul]
    simp only [Nat.zero_mul, Nat.zero_add, Nat.mul_assoc, Nat.mul_comm, Nat.add_assoc]
theorem jn_cons (x : Int) (l : List Int) : jn (x :: l) = x.toNat * 256 ^ l.length + jn l := by
  have := foldl_jn l (0 * 256 + x.toNat)
  rw [Nat.zero_mul, Nat.zero_add] at this
  rw [← this]; simp [jn]
theorem jn_lt (l : List Int) (h : ∀ x ∈ l, 0 ≤ x ∧ x ≤ 255) : jn l < 256 ^ l.length := by
  induction l with
  | nil => simp [jn]
  | cons x l ih =>
    rw [jn_cons, List.length_cons, Nat.pow_succ]
    have h1 := ih fun y hy => h y (by simp [hy])
    have h2 := h x (by simp)
    have h3 : x.toNat ≤ 255 := by omega
    have h4 : x.toNat * 256 ^ l.length ≤ 255 * 256 ^ l.length := Nat.mul_le_mul_right _ h3
    omega
/-- what is put is read again -/
theorem jn_spl (n k : Nat) : jn (spl n k) = n % 256 ^ k := by
  induction k with
  | zero => simp [spl, jn, Nat.mod_one]
  | succ k ih =>
    rw [spl, jn_cons, ih, spl_len, Int.toNat_natCast, Nat.pow_succ, Nat.mod_mul, Nat.mul_comm, Nat.add_comm]
theorem pow7 (k : Nat) (h : k ≤ 7) : 256 ^ k ≤ 72057594037927936 := Nat.le_trans (Nat.pow_le_pow_right (by omega) h) (by decide)
theorem div_step (n k : Nat) : n / 256 ^ k / 256 = n / 256 ^ (k + 1) := by rw [Nat.div_div_eq_div_mul, Nat.pow_succ]
theorem or64 (a b : Nat) (hb : b < 256) (h : a < 72057594037927936) : bits .or .u64 ((a * 256 : Nat) : Int) (b : Int) = ((a * 256 + b : Nat) : Int) := by
  show IntKind.u64.wrap ((BitVec.ofInt 64 ((a * 256 : Nat) : Int) ||| BitVec.ofInt 64 (b : Int)).toNat : Int) = _
  have e : ∀ n : Nat, n < 18446744073709551616 → (BitVec.ofInt 64 (n : Int)).toNat = n := fun n hn => by simp; omega
  rw [BitVec.toNat_or, e _ (by omega), e _ (by omega), Nat.mul_comm, show (256 : Nat) = 2 ^ 8 from rfl, ← Nat.two_pow_add_eq_or_of_lt (by omega), IntKind.wrap_u64]
  omega
end Bn
end Go.Proofs.YtdogdbibhmhooaaGreat

/- append(own, src...), wherever src lies (nil too): what the slice is behind it, and in which block. -/
namespace Go.Proofs.YtdogdbibhmhooaaGreat
open Go.RowKit Go.Shelf
section
variable {P : Program} (w : World)
theorem run_append_at (base : Nat) (t ty e : TypeId) (i : TypeInfo) (z : Value) (size bytes : Nat) (ht : P.underlying t = some (.slice e)) (hi : P.info? e = some i) (hz : i.zero = some z)
    (hsize : i.size = size) (hby : i.bytes = bytes) (hzs : z.cells.size = size) (hsz : 0 < size) (v : Value) (n : Nat) (xs : List Value) (hown : w.ownsRow base e size v n xs)
    (a : Option Addr) (m c : Nat) (news : List Value) (hr : Cells w size a m news) (h1 : ∀ u ∈ news, u.oneCell' = true) (h63 : n + m ≤ maxLen) (hbytes : (n + m) * bytes ≤ 140737488355328) (hbase : base ≤ w.heap.size) :
    ∃ v' w', (Builtin.append_ #[t, t] ty #[v, .slice a m c]).run P w = .ok v' w' ∧ w'.ownsRow base e size v' (n + m) (xs ++ news) ∧ w.grownBy w' v.ownBlock ∧ (v'.ownBlock = v.ownBlock ∨ v'.ownBlock = some w.heap.size) := by
  obtain ⟨hl, hr⟩ := hr
  cases a with
  | none =>
    obtain rfl : m = 0 := by rcases hr with h | ⟨_, h, _⟩ <;> first | exact h | cases h
    obtain rfl : news = [] := List.length_eq_zero_iff.1 (by simpa using hl)
    refine ⟨v, w, ?_, by simpa using hown, ⟨rfl, rfl, rfl, Nat.le_refl _, fun _ _ _ => rfl⟩, .inl rfl⟩
    rcases hown.2 with ⟨rfl, rfl⟩ | ⟨g, cap, cur, rfl, _, _, hnc, _⟩
    · simp [Builtin.append_, run_underlying ht, sizeOf, typeInfo, hi, Builtin.lenOf, Builtin.firstCells]
    · simp [Builtin.append_, run_underlying ht, sizeOf, typeInfo, hi, Builtin.lenOf, Builtin.firstCells, hnc, storeCells]
  | some ad =>
    have hc : ∀ j u, news[j]? = some u → w.cell? (ad.add j) = some u := by
      rcases hr with rfl | ⟨ad', e, h⟩
      · intro j u hu
        obtain rfl : news = [] := List.length_eq_zero_iff.1 (by simpa using hl)
        simp at hu
      · cases e; exact h
    obtain ⟨v', w', hrun, h2, h3, _, h5⟩ := run_append_own_at (P := P) w base t ty e i z size bytes ht hi hz hsize hby hzs hsz v n xs hown ad m c news hl hc h1 h63 hbytes hbase
    exact ⟨v', w', hrun, h2, h3, h5⟩
theorem wpList_append_at {ops : Array Oper} {rest : List Oper} {o : Oper} {a : Act} {Q : Exit → Act → World → Prop} (hgd : o.guard = none) (s x : Operand) (t : TypeId)
    (ho : o.op = .call { callee := .builtin .append, args := #[s, x], argTypes := #[t, t] }) (base : Nat) (e : TypeId) (i : TypeInfo) (z : Value) (size bytes : Nat) (ht : P.underlying t = some (.slice e)) (hi : P.info? e = some i) (hz : i.zero = some z)
    (hsize : i.size = size) (hby : i.bytes = bytes) (hzs : z.cells.size = size) (hsz : 0 < size) (v : Value) (n : Nat) (xs : List Value) (hs : a.eval s = v) (hown : w.ownsRow base e size v n xs)
    (A : Option Addr) (m c : Nat) (news : List Value) (hx : a.eval x = .slice A m c) (hr : Cells w size A m news) (h1 : ∀ u ∈ news, u.oneCell' = true) (h63 : n + m ≤ maxLen) (hbytes : (n + m) * bytes ≤ 140737488355328) (hbase : base ≤ w.heap.size)
    (h : ∀ v' w', w'.ownsRow base e size v' (n + m) (xs ++ news) → w.grownBy w' v.ownBlock → (v'.ownBlock = v.ownBlock ∨ v'.ownBlock = some w.heap.size) → wpList P ops Q rest (a.put o.dst v') w') : wpList P ops Q (o :: rest) a w :=
  wpList_plain hgd fun K hK => by
    obtain ⟨v', w', hrun, h2, h3, h4⟩ := run_append_at (P := P) w base t o.type e i z size bytes ht hi hz hsize hby hzs hsz v n xs hown A m c news hr h1 h63 hbytes hbase
    unfold Oper.wp execOp
    simp only [ho, resolve, invoke, builtin, Sem.run_bind, Sem.run_pure, Result.andThen_ok, List.map_toArray, List.map_cons, List.map_nil, hs, hx, hrun]
    exact hK _ _ (h v' w' h2 h3 h4)
theorem wpListIn_append_at {F : Fence} {nF : Nat} {ops : Array Oper} {rest : List Oper} {o : Oper} {a : Act} {Q : Exit → Act → World → Prop} (hgd : o.guard = none) (s x : Operand) (t : TypeId)
    (ho : o.op = .call { callee := .builtin .append, args := #[s, x], argTypes := #[t, t] }) (base : Nat) (e : TypeId) (i : TypeInfo) (z : Value) (size bytes : Nat) (ht : P.underlying t = some (.slice e)) (hi : P.info? e = some i) (hz : i.zero = some z)
    (hsize : i.size = size) (hby : i.bytes = bytes) (hzs : z.cells.size = size) (hsz : 0 < size) (v : Value) (n : Nat) (xs : List Value) (hs : a.eval s = v) (hown : w.ownsRow base e size v n xs)
    (A : Option Addr) (m c : Nat) (news : List Value) (hx : a.eval x = .slice A m c) (hr : Cells w size A m news) (h1 : ∀ u ∈ news, u.oneCell' = true) (h63 : n + m ≤ maxLen) (hbytes : (n + m) * bytes ≤ 140737488355328) (hbase : base ≤ w.heap.size)
    (h : ∀ v' w', w'.ownsRow base e size v' (n + m) (xs ++ news) → w.grownBy w' v.ownBlock → (v'.ownBlock = v.ownBlock ∨ v'.ownBlock = some w.heap.size) → wpListIn F nF P ops Q rest (a.put o.dst v') w') : wpListIn F nF P ops Q (o :: rest) a w := by
  refine wpListIn_plain hgd fun K hK => ?_
  obtain ⟨v', w', hrun, h2, h3, h4⟩ := run_append_at (P := P) w base t o.type e i z size bytes ht hi hz hsize hby hzs hsz v n xs hown A m c news hr h1 h63 hbytes hbase
  unfold Oper.wpIn
  refine ⟨by simp [Oper.about, ho, resolve, Target.leads, Sem.run_pure], ?_⟩
  rw [Oper.semAt_plain F _ _ (by rw [ho]; intro c hc'; cases hc')]
  simp [execOp, ho, resolve, invoke, builtin, hs, hx, hrun, Result.andThen]
  exact hK _ _ (h v' w' h2 h3 h4)
/-- the same as one step of a region that draws -/
theorem step_append_at {ops : Array Oper} {o : Oper} {a : Act} {K : Act → World → Prop} {Q : Exit → Act → World → Prop} {E : Prop} (hgd : o.guard = none) (s x : Operand) (t : TypeId)
    (ho : o.op = .call { callee := .builtin .append, args := #[s, x], argTypes := #[t, t] }) (base : Nat) (e : TypeId) (i : TypeInfo) (z : Value) (size bytes : Nat) (ht : P.underlying t = some (.slice e)) (hi : P.info? e = some i) (hz : i.zero = some z)
    (hsize : i.size = size) (hby : i.bytes = bytes) (hzs : z.cells.size = size) (hsz : 0 < size) (v : Value) (n : Nat) (xs : List Value) (hs : a.eval s = v) (hown : w.ownsRow base e size v n xs)
    (A : Option Addr) (m c : Nat) (news : List Value) (hx : a.eval x = .slice A m c) (hr : Cells w size A m news) (h1 : ∀ u ∈ news, u.oneCell' = true) (h63 : n + m ≤ maxLen) (hbytes : (n + m) * bytes ≤ 140737488355328) (hbase : base ≤ w.heap.size)
    (h : ∀ v' w', w'.ownsRow base e size v' (n + m) (xs ++ news) → w.grownBy w' v.ownBlock → (v'.ownBlock = v.ownBlock ∨ v'.ownBlock = some w.heap.size) → K (a.put o.dst v') w') : if Region.wanted o (yielded ops a.tmps) = true then Oper.wp P o a w K Q else E := by
  have hw : Region.wanted o (yielded ops a.tmps) = true := by simp [Region.wanted, hgd]
  rw [if_pos hw]
  obtain ⟨v', w', hrun, h2, h3, h4⟩ := run_append_at (P := P) w base t o.type e i z size bytes ht hi hz hsize hby hzs hsz v n xs hown A m c news hr h1 h63 hbytes hbase
  unfold Oper.wp
  simp [execOp, ho, resolve, invoke, builtin, hs, hx, hrun, Result.andThen]
  exact h v' w' h2 h3 h4
end
end Go.Proofs.YtdogdbibhmhooaaGreat

/- Package bin: split, join, Byte, Num, Long. -/
namespace Go.Proofs.YtdogdbibhmhooaaGreat
open Go.RowKit Go.Shelf
attribute [local go_sem] Oper.semAt_some
/-- bytes that the call has made -/
def Got (w : World) (l : List Int) (e : Ending) (w' : World) : Prop := ∃ v, e = .returned v ∧ w'.ownsRow w.heap.size 5 1 v l.length (u8s l) ∧ Below w.heap.size w w'
/-- a block of bytes, all of it -/
def BAt (W : World) (b : Nat) (cs : Array Value) : Prop := W.heap[b]? = some (.cells cs 5 (0, 0))
theorem bat_cell {W : World} {b : Nat} {cs : Array Value} (h : BAt W b cs) (i : Nat) (hi : i < cs.size) : W.cell? ⟨b, i, none⟩ = some cs[i] := by
  simp [World.cell?, show W.heap[b]? = _ from h, hi]
theorem bat_frozen {W : World} {b : Nat} {cs : Array Value} (h : BAt W b cs) (i : Nat) : W.frozen? ⟨b, i, none⟩ = false := by simp [World.frozen?, show W.heap[b]? = _ from h]
theorem bat_set {W : World} {b : Nat} {cs : Array Value} (h : BAt W b cs) (i : Nat) (c : Value) : BAt (W.setCell ⟨b, i, none⟩ c) b (cs.setIfInBounds i c) := by
  obtain ⟨hlt, hk⟩ := Array.getElem?_eq_some_iff.1 h
  show (W.heap.modify b _)[b]? = _
  rw [Array.getElem?_eq_getElem (by rw [Array.size_modify]; exact hlt), Array.getElem_modify_self, hk]
  rfl
theorem bat_owns {W : World} {b base : Nat} {cs : Array Value} {n : Nat} {xs : List Value} (h : BAt W b cs) (hb : base ≤ b) (hn : n ≤ maxLen) (hx : cs.toList = xs) (hl : xs.length = n) : W.ownsRow base 5 1 (.slice (some ⟨b, 0, none⟩) n n) n xs := by
  subst hx
  have hl : cs.size = n := by simpa using hl
  exact ⟨by simp [hl], .inr ⟨b, n, cs, rfl, hb, h, Nat.le_refl _, hn, by simp [hl], List.take_of_length_le (by simp [hl])⟩⟩
theorem spl_store (n size k j : Nat) (cs : Array Value) (hs : cs.size = size) (hj : j + k + 1 = size) (hc : cs.toList.drop (size - k) = u8s (Bn.spl n k)) (x : Int) (hx : x = ((n / 256 ^ k % 256 : Nat) : Int)) :
    (cs.setIfInBounds j (.int .u8 x)).toList.drop (size - (k + 1)) = u8s (Bn.spl n (k + 1)) := by
  subst hx
  have e1 : size - (k + 1) = j := by omega
  have e2 : size - k = j + 1 := by omega
  rw [e2] at hc
  rw [e1, Array.toList_setIfInBounds, List.drop_eq_getElem_cons (by simp; omega)]
  simp only [List.getElem_set_self, Bn.spl, u8s, List.map_cons]
  congr 1
  rw [List.drop_set_of_lt (by omega)]
  exact hc
set_option maxRecDepth 100000 in
set_option maxHeartbeats 1000000 in
theorem split_any (n size : Nat) (w : World) (hn : n < 18446744073709551616) (h1 : 1 ≤ size) (h8 : size ≤ 8) :
    Calls Tryz.prog 92 #[.int .u64 n, .int .i64 size] w (Got w (Bn.spl n size)) := by
  obtain ⟨i0, hi, hz0, hz1, hz2⟩ := info_parts info_u8
  have hsz : (madeCells (Value.int .u8 0).cells (((size : Nat) : Int).toNat * i0.size)).size = size := by rw [size_madeCells, hz1]; simp
  have hmk : ∀ W : World, (Instr.makeSlice 26 (.int .i64 (size : Int)) (.int .i64 (size : Int))).run Tryz.prog W =
      .ok (.slice (some ⟨W.heap.size, 0, none⟩) size size) (W.alloc (.cells (madeCells (Value.int .u8 0).cells (((size : Nat) : Int).toNat * i0.size)) 5)) := fun W => by
    have h := run_make (P := Tryz.prog) W 26 5 i0 (.int .u8 0) Tryz.underlying26 hi hz0 .i64 .i64 (size : Int) (size : Int) (by omega) (by omega) (by rw [hz2]; omega) (by omega)
    simpa using h
  generalize (madeCells (Value.int .u8 0).cells (((size : Nat) : Int).toNat * i0.size)) = M at hsz hmk
  have hB0 := (Below.refl w.heap.size w).alloc (Nat.le_refl _) (.cells M 5)
  have hA0 : BAt (w.alloc (.cells M 5)) w.heap.size M := World.alloc_heap_new w _
  clear hi hz0 hz1 hz2
  go_enter Tryz.func92, Tryz.ntmps92
  go_wp2
  go_loopw [0, 11] (fun c i wr => ∃ (k : Nat) (cs : Array Value), k ≤ size ∧ i = .int .i64 (k : Int) ∧ c = .int .u64 ((n / 256 ^ k : Nat) : Int) ∧ BAt wr w.heap.size cs ∧ cs.size = size ∧ cs.toList.drop (size - k) = u8s (Bn.spl n k) ∧ Below w.heap.size w wr) (fun _ i _ => size - (intOf i).toNat)
  case atStart => exact ⟨0, M, Nat.zero_le _, rfl, by simp, hA0, hsz, by simp [Bn.spl, u8s, ← hsz], hB0⟩
  case round =>
    obtain ⟨k, cs, hk, rfl, rfl, hA, hcs, hd, hB⟩ := hrel
    by_cases hlt : k < size
    · obtain ⟨j, hj⟩ : ∃ j, j + k + 1 = size := ⟨size - k - 1, by omega⟩
      obtain ⟨v0, hc⟩ : ∃ v, wr.cell? ⟨w.heap.size, j, none⟩ = some v := ⟨_, bat_cell hA j (by omega)⟩
      have hf := bat_frozen hA j
      have hsub : (size : Int) - 1 - (k : Int) = (j : Int) := by omega
      have hlt2 : n / 256 ^ k < 18446744073709551616 := Nat.lt_of_le_of_lt (Nat.div_le_self _ _) hn
      have hst := Bn.div_step n k
      have HS := Lib.hid (spl_store n size k j cs hcs hj hd)
      generalize hm : n / 256 ^ k = m at *
      have HM := Lib.hid hm; clear hm
      have HST := Lib.hid hst; clear hst
      have hjs : j < size := by omega
      have HD := Lib.hid hd; clear hd
      have HJ := Lib.hid hj; clear hj
      go_wp2
      go_roundw
      all_goals (first
        | (case' rel => exact ⟨k + 1, _, by omega, by go_num, by rw [← HST.out]; rfl, bat_set hA _ _, by simp [hcs], HS.out _ (by omega), hB.setCell (p := ⟨w.heap.size, j, none⟩) (Nat.le_refl _) _⟩)
        | (case' measure => simp [intOf]; omega))
    · obtain rfl : k = size := by omega
      go_wp2
      go_ret
      rw [Nat.sub_self, List.drop_zero] at hd
      exact ⟨_, rfl, by rw [Bn.spl_len]; exact bat_owns hA (Nat.le_refl _) (by unfold maxLen; omega) hd (by simp [u8s, Bn.spl_len]), hB⟩
theorem jn_take (l : List Int) (k : Nat) (h : k < l.length) : Bn.jn (l.take (k + 1)) = Bn.jn (l.take k) * 256 + (l[k]?.getD 0).toNat := by
  rw [take_succ_getD _ _ h, Bn.jn_snoc]
theorem bytes_all {l : List Int} (h : Bytes l) : ∀ x ∈ l, 0 ≤ x ∧ x ≤ 255 := by
  intro x hx
  obtain ⟨i, hi, rfl⟩ := List.getElem_of_mem hx
  have := h i
  rwa [List.getElem?_eq_getElem hi] at this
set_option maxRecDepth 100000 in
set_option maxHeartbeats 1000000 in
theorem join_any (a : Option Addr) (len cap : Nat) (l : List Int) (w : World) (h : Row w .u8 a len cap l) (hl : Bytes l) (h8 : len ≤ 8) :
    Calls Tryz.prog 103 #[.slice a len cap] w fun e w' => e = .returned (.int .u64 (Bn.jn l : Nat)) ∧ w = w' := by
  obtain ⟨k1, k2, k3, k4⟩ := h
  have HB := Lib.hid hl
  have K4 := Lib.hid k4; clear k4
  have K1 := Lib.hid k1; clear k1
  have hbd : ∀ k, k ≤ 7 → Bn.jn (l.take k) < 72057594037927936 := fun k hk =>
    Nat.lt_of_lt_of_le (Bn.jn_lt _ fun x hx => bytes_all hl x (List.mem_of_mem_take hx)) (Nat.le_trans (Nat.pow_le_pow_right (by omega) (by rw [List.length_take]; omega)) (Bn.pow7 7 (Nat.le_refl _)))
  have HBD := Lib.hid hbd; clear hbd hl
  go_enter Tryz.func103, Tryz.ntmps103
  go_wp2
  go_loop [3, 8] (fun c i => ∃ k : Nat, k ≤ len ∧ i = .int .i64 k ∧ c = .int .u64 (Bn.jn (l.take k) : Nat)) (fun _ i => len - (intOf i).toNat)
  case atStart => exact ⟨0, by omega, rfl, rfl⟩
  case round =>
    obtain ⟨k, hk, rfl, rfl⟩ := hrel
    by_cases hlt : k < len
    · rcases K4.out with h0 | ⟨B', off', rfl, hc'⟩
      · exact absurd h0 (by omega)
      have c1 := hc' k hlt
      have HR := Lib.hid (jn_take l k (by rw [K1.out]; exact hlt))
      have hx := HB.out k
      have hb := HBD.out k (by omega)
      generalize l[k]?.getD 0 = x at c1 HR hx
      generalize Bn.jn (l.take k) = c at hb HR
      obtain ⟨hx0, hx1⟩ := hx
      obtain ⟨y, rfl⟩ := Int.eq_ofNat_of_zero_le hx0
      rw [Int.toNat_natCast] at HR
      have ho := Bn.or64 c y (by omega) hb
      have hsh : (c : Int) * 256 = ((c * 256 : Nat) : Int) := by omega
      rw [← hsh] at ho
      have hsl : IntKind.u64.wrap ((c : Int) * 2 ^ min (Int.toNat 8) IntKind.u64.bits) = (c : Int) * 256 := by
        rw [show min (Int.toNat 8) IntKind.u64.bits = 8 from rfl, IntKind.wrap_u64]; omega
      clear hc' hsh
      go_wp2
      go_round
      case rel => exact ⟨k + 1, by omega, by go_num, by rw [HR.out]; simp⟩
      case measure => simp [intOf]; omega
    · obtain rfl : k = len := by omega
      have HE : Hid (l.take k = l) := Lib.hid (List.take_of_length_le (by rw [K1.out]; omega))
      go_wp2
      go_ret
      exact ⟨ret_int (by rw [HE.out]), rfl⟩
/-- a number's bytes, if it is none below 0 or above the most -/
def spn (n : Int) (most : Int) (size : Nat) : List Int := if n < 0 ∨ most < n then [] else Bn.spl n.toNat size
set_option maxHeartbeats 1000000 in
theorem byte_any (n : Int) (w : World) : Calls Tryz.prog 94 #[.int .i64 n] w (Got w (spn n 255 1)) := by
  unfold spn
  by_cases hg : n < 0 ∨ 255 < n
  · rw [if_pos hg]
    rcases Int.lt_or_le n 0 with h0 | h0
    · have d0 : decide (n < 0) = true := by simpa using h0
      clear hg
      go_enter Tryz.func94, Tryz.ntmps94
      go_wp2
      go_ret
      exact ⟨_, rfl, World.ownsRow_nil _ _ _ _, Below.refl _ _⟩
    · have d0 : decide (n < 0) = false := by simpa using h0
      have d1 : decide (255 < n) = true := by simp; omega
      clear hg
      go_enter Tryz.func94, Tryz.ntmps94
      go_wp2
      go_ret
      exact ⟨_, rfl, World.ownsRow_nil _ _ _ _, Below.refl _ _⟩
  · rw [if_neg hg]
    obtain ⟨m, rfl⟩ := Int.eq_ofNat_of_zero_le (show 0 ≤ n by omega)
    rw [Int.toNat_natCast]
    have hS : ∀ w, Calls Tryz.prog 92 #[.int .u64 m, .int .i64 1] w (Got w (Bn.spl m 1)) := fun w => split_any m 1 w (by omega) (by omega) (by omega)
    have hm : (m : Int) ≤ 255 := by omega
    have hm2 : (0 : Int) ≤ (m : Int) := by omega
    clear hg
    generalize Bn.spl m 1 = l at *
    go_enter Tryz.func94, Tryz.ntmps94
    go_wp2_with (first | (go_at_call 92; (with_reducible refine (hS _).mono ?_); rintro e w' ⟨v, rfl, ho, hb⟩))
    go_ret
    exact ⟨_, rfl, ho, hb⟩
set_option maxHeartbeats 1000000 in
theorem num_any (n : Int) (w : World) : Calls Tryz.prog 60 #[.int .i64 n] w (Got w (spn n 2147483647 4)) := by
  unfold spn
  by_cases hg : n < 0 ∨ 2147483647 < n
  · rw [if_pos hg]
    rcases Int.lt_or_le n 0 with h0 | h0
    · have d0 : decide (n < 0) = true := by simpa using h0
      clear hg
      go_enter Tryz.func60, Tryz.ntmps60
      go_wp2
      go_ret
      exact ⟨_, rfl, World.ownsRow_nil _ _ _ _, Below.refl _ _⟩
    · have d0 : decide (n < 0) = false := by simpa using h0
      have d1 : decide (2147483647 < n) = true := by simp; omega
      clear hg
      go_enter Tryz.func60, Tryz.ntmps60
      go_wp2
      go_ret
      exact ⟨_, rfl, World.ownsRow_nil _ _ _ _, Below.refl _ _⟩
  · rw [if_neg hg]
    obtain ⟨m, rfl⟩ := Int.eq_ofNat_of_zero_le (show 0 ≤ n by omega)
    rw [Int.toNat_natCast]
    have hS : ∀ w, Calls Tryz.prog 92 #[.int .u64 m, .int .i64 4] w (Got w (Bn.spl m 4)) := fun w => split_any m 4 w (by omega) (by omega) (by omega)
    have hm : (m : Int) ≤ 2147483647 := by omega
    have hm2 : (0 : Int) ≤ (m : Int) := by omega
    clear hg
    generalize Bn.spl m 4 = l at *
    go_enter Tryz.func60, Tryz.ntmps60
    go_wp2_with (first | (go_at_call 92; (with_reducible refine (hS _).mono ?_); rintro e w' ⟨v, rfl, ho, hb⟩))
    go_ret
    exact ⟨_, rfl, ho, hb⟩
/-- a long's bytes -/
def spl64 (n : Int) : List Int := Bn.spl (IntKind.u64.wrap n).toNat 8
set_option maxHeartbeats 1000000 in
theorem long_any (n : Int) (w : World) : Calls Tryz.prog 113 #[.int .i64 n] w (Got w (spl64 n)) := by
  obtain ⟨m, hm⟩ : ∃ m : Nat, IntKind.u64.wrap n = (m : Int) := ⟨(IntKind.u64.wrap n).toNat, by rw [IntKind.wrap_u64]; omega⟩
  have hlt : m < 18446744073709551616 := by rw [IntKind.wrap_u64] at hm; omega
  unfold spl64
  rw [hm, Int.toNat_natCast]
  have hS : ∀ w, Calls Tryz.prog 92 #[.int .u64 m, .int .i64 8] w (Got w (Bn.spl m 8)) := fun w => split_any m 8 w hlt (by omega) (by omega)
  generalize Bn.spl m 8 = l at *
  go_enter Tryz.func113, Tryz.ntmps113
  go_wp2_with (first | (go_at_call 92; (with_reducible refine (hS _).mono ?_); rintro e w' ⟨v, rfl, ho, hb⟩))
  go_ret
  exact ⟨_, rfl, ho, hb⟩
end Go.Proofs.YtdogdbibhmhooaaGreat
