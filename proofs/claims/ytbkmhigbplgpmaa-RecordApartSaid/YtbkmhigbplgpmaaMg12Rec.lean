/- The document's answer for layer 1: Get, by trying. -/
import Derived.Test.YtbkmhigbplgpmaaMg11Rec
import Derived.Deep.RegionWith
import Derived.Lib.ConvBytes
import Derived.Test.YtbkmhigbplgpmaaValRightq
import Derived.Test.YtbkmhigbplgpmaaMg3Rec
import Derived.Deep.RegionHeld3
import Derived.Deep.DeepCutAuto
import Derived.Laws.BitsAllLaws
import Derived.Test.YtbkmhigbplgpmaaMg0Rec
import Derived.Maps.OwnIn
import Derived.Deep.RegionLaw
namespace Go.Proofs.Ytbkmhigbplgpmaa
open Go.RowKit Go.Shelf
theorem U.get_zero (r : List Int) (h : (U.get r).2 = 0) : U.get r = (0, 0) := by
  have hg : ∀ n o, (U.got n o).2 = 0 → 0 < n → U.got n o = (0, 0) := by
    intro n o h hn
    cases o with
    | none => rfl
    | some c => simp only [U.got] at h ⊢; split at h <;> simp_all
  cases r with
  | nil => rfl
  | cons x r =>
    simp only [U.get] at h ⊢
    split
    · rfl
    · rename_i hc
      rw [if_neg hc] at h
      exact hg _ _ h (by omega)
end Go.Proofs.Ytbkmhigbplgpmaa

/- The document's answer for layer 1: Codes and Text. -/
namespace Go.Proofs.Ytbkmhigbplgpmaa
open Go.RowKit Go.Shelf
end Go.Proofs.Ytbkmhigbplgpmaa

/- The document's Right: Valid, IsName, each, Nodes. -/
namespace Go.Proofs.Ytbkmhigbplgpmaa
open Go.RowKit Go.Shelf
attribute [local go_sem] Oper.semAt_some
/-- is a name right from a place on? -/
def nmF (l : List Int) (q : Nat) : Bool := (if q = 0 then letterB (l[0]?.getD 0) else true) && (l.drop q).all withinB
theorem nmF_step (l : List Int) (q : Nat) (h : q < l.length) : nmF l q = ((if q = 0 then letterB (l[q]?.getD 0) else withinB (l[q]?.getD 0)) && nmF l (q + 1)) := by
  unfold nmF
  rw [if_neg (show ¬ q + 1 = 0 by omega), Bool.true_and, List.drop_eq_getElem_cons h, List.all_cons, List.getElem?_eq_getElem h]
  by_cases h0 : q = 0
  · subst h0
    simp only [if_true]
    rw [List.getElem?_eq_getElem h]
    simp only [Option.getD_some]
    cases hl : letterB l[0] with
    | false => simp
    | true => simp [withinB, hl]
  · simp only [if_neg h0]
    rfl
theorem ok_iff (q : Nat) (x : Int) : (if q = 0 then letterB x else withinB x) = true ↔ (q = 0 ∧ ((65 ≤ x ∧ x ≤ 90) ∨ (97 ≤ x ∧ x ≤ 122))) ∨ (q ≠ 0 ∧ (((65 ≤ x ∧ x ≤ 90) ∨ (97 ≤ x ∧ x ≤ 122)) ∨ (48 ≤ x ∧ x ≤ 57) ∨ x = 95 ∨ x = 45)) := by
  by_cases h : q = 0
  · simp [h, letterB]
  · simp [h, letterB, withinB, or_assoc]
theorem name_ret {q : Nat} {x : Int} {b r : Bool} (h : r = ((if q = 0 then letterB x else withinB x) && b)) (hn : ¬ ((q = 0 ∧ ((65 ≤ x ∧ x ≤ 90) ∨ (97 ≤ x ∧ x ≤ 122))) ∨ (q ≠ 0 ∧ (((65 ≤ x ∧ x ≤ 90) ∨ (97 ≤ x ∧ x ≤ 122)) ∨ (48 ≤ x ∧ x ≤ 57) ∨ x = 95 ∨ x = 45)))) : r = false := by
  have : (if q = 0 then letterB x else withinB x) = false := by rw [Bool.eq_false_iff]; exact fun h => hn ((ok_iff q x).1 h)
  rw [h, this, Bool.false_and]
theorem name_on {q : Nat} {x : Int} {b r : Bool} (h : r = ((if q = 0 then letterB x else withinB x) && b)) (hn : (q = 0 ∧ ((65 ≤ x ∧ x ≤ 90) ∨ (97 ≤ x ∧ x ≤ 122))) ∨ (q ≠ 0 ∧ (((65 ≤ x ∧ x ≤ 90) ∨ (97 ≤ x ∧ x ≤ 122)) ∨ (48 ≤ x ∧ x ≤ 57) ∨ x = 95 ∨ x = 45))) : b = r := by
  rw [h, (ok_iff q x).2 hn, Bool.true_and]
end Go.Proofs.Ytbkmhigbplgpmaa

/- Layer 6's arithmetic: numbers as bytes, the highest first. No walk. -/
namespace Go.Proofs.Ytbkmhigbplgpmaa
namespace Bn
/-- a number's bytes, so many, the highest first -/
def spl (n : Nat) : Nat → List Int
  | 0 => []
  | k + 1 => ((n / 256 ^ k % 256 : Nat) : Int) :: spl n k
/-- the number of bytes, the highest first -/
def jn (l : List Int) : Nat := l.foldl (fun n x => n * 256 + x.toNat) 0
theorem spl_len (n k : Nat) : (spl n k).length = k := by
  induction k with
  | zero => rfl
  | succ k ih => simp [spl, ih]
theorem spl_bd (n k : Nat) : ∀ x ∈ spl n k, 0 ≤ x ∧ x ≤ 255 := by
  induction k with
  | zero => simp [spl]
  | succ k ih =>
    intro x hx
    simp only [spl, List.mem_cons] at hx
    rcases hx with rfl | hx
    · have : n / 256 ^ k % 256 < 256 := Nat.mod_lt _ (by omega)
      omega
    · exact ih x hx
theorem jn_snoc (l : List Int) (x : Int) : jn (l ++ [x]) = jn l * 256 + x.toNat := by simp [jn]
theorem jn_nil : jn [] = 0 := rfl
theorem foldl_jn (l : List Int) (c : Nat) : l.foldl (fun n x => n * 256 + x.toNat) c = c * 256 ^ l.length + jn l := by
  unfold jn
  induction l generalizing c with
  | nil => simp
  | cons x l ih =>
    simp only [List.foldl_cons, List.length_cons]
    rw [ih, ih (0 * 256 + x.toNat)]
    rw [Nat.pow_succ, Nat.add_mul]
    simp only [Nat.zero_mul, Nat.zero_add, Nat.mul_assoc, Nat.mul_comm, Nat.add_assoc]
theorem jn_cons (x : Int) (l : List Int) : jn (x :: l) = x.toNat * 256 ^ l.length + jn l := by
  have := foldl_jn l (0 * 256 + x.toNat)
  rw [Nat.zero_mul, Nat.zero_add] at this
  rw [← this]; simp [jn]
theorem jn_lt (l : List Int) (h : ∀ x ∈ l, 0 ≤ x ∧ x ≤ 255) : jn l < 256 ^ l.length := by
  induction l with
  | nil => simp [jn]
  | cons x l ih =>
    rw [jn_cons, List.length_cons, Nat.pow_succ]
    have h1 := ih fun y hy => h y (by simp [hy])
    have h2 := h x (by simp)
    have h3 : x.toNat ≤ 255 := by omega
    have h4 : x.toNat * 256 ^ l.length ≤ 255 * 256 ^ l.length := Nat.mul_le_mul_right _ h3
    omega
/-- what is put is read again -/
theorem jn_spl (n k : Nat) : jn (spl n k) = n % 256 ^ k := by
  induction k with
  | zero => simp [spl, jn, Nat.mod_one]
  | succ k ih =>
    rw [spl, jn_cons, ih, spl_len, Int.toNat_natCast, Nat.pow_succ, Nat.mod_mul, Nat.mul_comm, Nat.add_comm]
/-- .. and bytes are those of their number -/
theorem spl_jn (l : List Int) (h : ∀ x ∈ l, 0 ≤ x ∧ x ≤ 255) : spl (jn l) l.length = l := by
  have key : ∀ (l : List Int) (c : Nat), (∀ x ∈ l, 0 ≤ x ∧ x ≤ 255) → spl (c * 256 ^ l.length + jn l) l.length = l := by
    intro l
    induction l with
    | nil => intro c _; rfl
    | cons x l ih =>
      intro c h
      have h1 := jn_lt l fun y hy => h y (by simp [hy])
      have h2 := h x (by simp)
      have hp : 0 < 256 ^ l.length := Nat.pow_pos (by omega)
      rw [List.length_cons, jn_cons, spl]
      have e : c * 256 ^ (l.length + 1) + (x.toNat * 256 ^ l.length + jn l) = (c * 256 + x.toNat) * 256 ^ l.length + jn l := by
        rw [Nat.pow_succ, Nat.add_mul, Nat.mul_assoc, Nat.mul_comm 256, Nat.add_assoc]
      rw [e, ih _ fun y hy => h y (by simp [hy])]
      have e2 : ((c * 256 + x.toNat) * 256 ^ l.length + jn l) / 256 ^ l.length = c * 256 + x.toNat := by
        rw [Nat.mul_comm, Nat.mul_add_div hp, Nat.div_eq_of_lt h1, Nat.add_zero]
      rw [e2]
      congr 1
      omega
  have := key l 0 h
  rwa [Nat.zero_mul, Nat.zero_add] at this
theorem pow7 (k : Nat) (h : k ≤ 7) : 256 ^ k ≤ 72057594037927936 := Nat.le_trans (Nat.pow_le_pow_right (by omega) h) (by decide)
theorem pow8 (k : Nat) (h : k ≤ 8) : 256 ^ k ≤ 18446744073709551616 := Nat.le_trans (Nat.pow_le_pow_right (by omega) h) (by decide)
theorem div_step (n k : Nat) : n / 256 ^ k / 256 = n / 256 ^ (k + 1) := by rw [Nat.div_div_eq_div_mul, Nat.pow_succ]
theorem spl4 (n : Nat) : spl n 4 = [((n / 16777216 % 256 : Nat) : Int), ((n / 65536 % 256 : Nat) : Int), ((n / 256 % 256 : Nat) : Int), ((n % 256 : Nat) : Int)] := by
  simp [spl]
theorem or64 (a b : Nat) (hb : b < 256) (h : a < 72057594037927936) : bits .or .u64 ((a * 256 : Nat) : Int) (b : Int) = ((a * 256 + b : Nat) : Int) := by
  show IntKind.u64.wrap ((BitVec.ofInt 64 ((a * 256 : Nat) : Int) ||| BitVec.ofInt 64 (b : Int)).toNat : Int) = _
  have e : ∀ n : Nat, n < 18446744073709551616 → (BitVec.ofInt 64 (n : Int)).toNat = n := fun n hn => by simp; omega
  rw [BitVec.toNat_or, e _ (by omega), e _ (by omega), Nat.mul_comm, show (256 : Nat) = 2 ^ 8 from rfl, ← Nat.two_pow_add_eq_or_of_lt (by omega), IntKind.wrap_u64]
  omega
end Bn
end Go.Proofs.Ytbkmhigbplgpmaa

/- append(own, src...), wherever src lies (nil too): what the slice is behind it, and in which block. -/
namespace Go.Proofs.Ytbkmhigbplgpmaa
open Go.RowKit Go.Shelf
section
variable {P : Program} (w : World)
theorem run_append_at (base : Nat) (t ty e : TypeId) (i : TypeInfo) (z : Value) (size bytes : Nat) (ht : P.underlying t = some (.slice e)) (hi : P.info? e = some i) (hz : i.zero = some z)
    (hsize : i.size = size) (hby : i.bytes = bytes) (hzs : z.cells.size = size) (hsz : 0 < size) (v : Value) (n : Nat) (xs : List Value) (hown : w.ownsRow base e size v n xs)
    (a : Option Addr) (m c : Nat) (news : List Value) (hr : Cells w size a m news) (h1 : ∀ u ∈ news, u.oneCell' = true) (h63 : n + m ≤ maxLen) (hbytes : (n + m) * bytes ≤ 140737488355328) (hbase : base ≤ w.heap.size) :
    ∃ v' w', (Builtin.append_ #[t, t] ty #[v, .slice a m c]).run P w = .ok v' w' ∧ w'.ownsRow base e size v' (n + m) (xs ++ news) ∧ w.grownBy w' v.ownBlock ∧ (v'.ownBlock = v.ownBlock ∨ v'.ownBlock = some w.heap.size) := by
  obtain ⟨hl, hr⟩ := hr
  cases a with
  | none =>
    obtain rfl : m = 0 := by rcases hr with h | ⟨_, h, _⟩ <;> first | exact h | cases h
    obtain rfl : news = [] := List.length_eq_zero_iff.1 (by simpa using hl)
    refine ⟨v, w, ?_, by simpa using hown, ⟨rfl, rfl, rfl, Nat.le_refl _, fun _ _ _ => rfl⟩, .inl rfl⟩
    rcases hown.2 with ⟨rfl, rfl⟩ | ⟨g, cap, cur, rfl, _, _, hnc, _⟩
    · simp [Builtin.append_, run_underlying ht, sizeOf, typeInfo, hi, Builtin.lenOf, Builtin.firstCells]
    · simp [Builtin.append_, run_underlying ht, sizeOf, typeInfo, hi, Builtin.lenOf, Builtin.firstCells, hnc, storeCells]
  | some ad =>
    have hc : ∀ j u, news[j]? = some u → w.cell? (ad.add j) = some u := by
      rcases hr with rfl | ⟨ad', e, h⟩
      · intro j u hu
        obtain rfl : news = [] := List.length_eq_zero_iff.1 (by simpa using hl)
        simp at hu
      · cases e; exact h
    obtain ⟨v', w', hrun, h2, h3, _, h5⟩ := run_append_own_at (P := P) w base t ty e i z size bytes ht hi hz hsize hby hzs hsz v n xs hown ad m c news hl hc h1 h63 hbytes hbase
    exact ⟨v', w', hrun, h2, h3, h5⟩
theorem wpList_append_at {ops : Array Oper} {rest : List Oper} {o : Oper} {a : Act} {Q : Exit → Act → World → Prop} (hgd : o.guard = none) (s x : Operand) (t : TypeId)
    (ho : o.op = .call { callee := .builtin .append, args := #[s, x], argTypes := #[t, t] }) (base : Nat) (e : TypeId) (i : TypeInfo) (z : Value) (size bytes : Nat) (ht : P.underlying t = some (.slice e)) (hi : P.info? e = some i) (hz : i.zero = some z)
    (hsize : i.size = size) (hby : i.bytes = bytes) (hzs : z.cells.size = size) (hsz : 0 < size) (v : Value) (n : Nat) (xs : List Value) (hs : a.eval s = v) (hown : w.ownsRow base e size v n xs)
    (A : Option Addr) (m c : Nat) (news : List Value) (hx : a.eval x = .slice A m c) (hr : Cells w size A m news) (h1 : ∀ u ∈ news, u.oneCell' = true) (h63 : n + m ≤ maxLen) (hbytes : (n + m) * bytes ≤ 140737488355328) (hbase : base ≤ w.heap.size)
    (h : ∀ v' w', w'.ownsRow base e size v' (n + m) (xs ++ news) → w.grownBy w' v.ownBlock → (v'.ownBlock = v.ownBlock ∨ v'.ownBlock = some w.heap.size) → wpList P ops Q rest (a.put o.dst v') w') : wpList P ops Q (o :: rest) a w :=
  wpList_plain hgd fun K hK => by
    obtain ⟨v', w', hrun, h2, h3, h4⟩ := run_append_at (P := P) w base t o.type e i z size bytes ht hi hz hsize hby hzs hsz v n xs hown A m c news hr h1 h63 hbytes hbase
    unfold Oper.wp execOp
    simp only [ho, resolve, invoke, builtin, Sem.run_bind, Sem.run_pure, Result.andThen_ok, List.map_toArray, List.map_cons, List.map_nil, hs, hx, hrun]
    exact hK _ _ (h v' w' h2 h3 h4)
theorem wpListIn_append_at {F : Fence} {nF : Nat} {ops : Array Oper} {rest : List Oper} {o : Oper} {a : Act} {Q : Exit → Act → World → Prop} (hgd : o.guard = none) (s x : Operand) (t : TypeId)
    (ho : o.op = .call { callee := .builtin .append, args := #[s, x], argTypes := #[t, t] }) (base : Nat) (e : TypeId) (i : TypeInfo) (z : Value) (size bytes : Nat) (ht : P.underlying t = some (.slice e)) (hi : P.info? e = some i) (hz : i.zero = some z)
    (hsize : i.size = size) (hby : i.bytes = bytes) (hzs : z.cells.size = size) (hsz : 0 < size) (v : Value) (n : Nat) (xs : List Value) (hs : a.eval s = v) (hown : w.ownsRow base e size v n xs)
    (A : Option Addr) (m c : Nat) (news : List Value) (hx : a.eval x = .slice A m c) (hr : Cells w size A m news) (h1 : ∀ u ∈ news, u.oneCell' = true) (h63 : n + m ≤ maxLen) (hbytes : (n + m) * bytes ≤ 140737488355328) (hbase : base ≤ w.heap.size)
    (h : ∀ v' w', w'.ownsRow base e size v' (n + m) (xs ++ news) → w.grownBy w' v.ownBlock → (v'.ownBlock = v.ownBlock ∨ v'.ownBlock = some w.heap.size) → wpListIn F nF P ops Q rest (a.put o.dst v') w') : wpListIn F nF P ops Q (o :: rest) a w := by
  refine wpListIn_plain hgd fun K hK => ?_
  obtain ⟨v', w', hrun, h2, h3, h4⟩ := run_append_at (P := P) w base t o.type e i z size bytes ht hi hz hsize hby hzs hsz v n xs hown A m c news hr h1 h63 hbytes hbase
  unfold Oper.wpIn
  refine ⟨by simp [Oper.about, ho, resolve, Target.leads, Sem.run_pure], ?_⟩
  rw [Oper.semAt_plain F _ _ (by rw [ho]; intro c hc'; cases hc')]
  simp [execOp, ho, resolve, invoke, builtin, hs, hx, hrun, Result.andThen]
  exact hK _ _ (h v' w' h2 h3 h4)
/-- the same as one step of a region that draws -/
theorem step_append_at {ops : Array Oper} {o : Oper} {a : Act} {K : Act → World → Prop} {Q : Exit → Act → World → Prop} {E : Prop} (hgd : o.guard = none) (s x : Operand) (t : TypeId)
    (ho : o.op = .call { callee := .builtin .append, args := #[s, x], argTypes := #[t, t] }) (base : Nat) (e : TypeId) (i : TypeInfo) (z : Value) (size bytes : Nat) (ht : P.underlying t = some (.slice e)) (hi : P.info? e = some i) (hz : i.zero = some z)
    (hsize : i.size = size) (hby : i.bytes = bytes) (hzs : z.cells.size = size) (hsz : 0 < size) (v : Value) (n : Nat) (xs : List Value) (hs : a.eval s = v) (hown : w.ownsRow base e size v n xs)
    (A : Option Addr) (m c : Nat) (news : List Value) (hx : a.eval x = .slice A m c) (hr : Cells w size A m news) (h1 : ∀ u ∈ news, u.oneCell' = true) (h63 : n + m ≤ maxLen) (hbytes : (n + m) * bytes ≤ 140737488355328) (hbase : base ≤ w.heap.size)
    (h : ∀ v' w', w'.ownsRow base e size v' (n + m) (xs ++ news) → w.grownBy w' v.ownBlock → (v'.ownBlock = v.ownBlock ∨ v'.ownBlock = some w.heap.size) → K (a.put o.dst v') w') : if Region.wanted o (yielded ops a.tmps) = true then Oper.wp P o a w K Q else E := by
  have hw : Region.wanted o (yielded ops a.tmps) = true := by simp [Region.wanted, hgd]
  rw [if_pos hw]
  obtain ⟨v', w', hrun, h2, h3, h4⟩ := run_append_at (P := P) w base t o.type e i z size bytes ht hi hz hsize hby hzs hsz v n xs hown A m c news hr h1 h63 hbytes hbase
  unfold Oper.wp
  simp [execOp, ho, resolve, invoke, builtin, hs, hx, hrun, Result.andThen]
  exact h v' w' h2 h3 h4
end
theorem info_u8' : ∃ i, Try.prog.info? 5 = some i ∧ i.zero = some (.int .u8 0) ∧ i.size = 1 ∧ i.bytes = 1 := info_parts info_u8
/-- an own row of bytes that lies in a block with nothing else: as a slice that is read -/
theorem row_own {w : World} {base : Nat} {v : Value} {n : Nat} {l : List Int} (h : w.ownsRow base 5 1 v n (u8s l)) : ∃ a cap, v = .slice a n cap ∧ Row w .u8 a n cap l ∧ (∀ ad, a = some ad → v.ownBlock = some ad.block ∧ ∃ cs, w.heap[ad.block]? = some (.cells cs 5 (0, 0))) := by
  obtain ⟨h1, h2⟩ := id h
  obtain ⟨a, cap, e, hr⟩ := row_of_owns (k := .u8) h
  refine ⟨a, cap, e, hr, ?_⟩
  rintro ad rfl
  rcases h2 with ⟨e2, _⟩ | ⟨g, cap', cur, e2, _, hg, _⟩
  · rw [e] at e2; cases e2
  · rw [e] at e2; cases e2
    exact ⟨by rw [e]; rfl, cur, hg⟩
end Go.Proofs.Ytbkmhigbplgpmaa
