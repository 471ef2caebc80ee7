/- The contracts of package num's plain functions, and of the document's sum. -/
import Derived.Test.YtcicjpdjbfgbhaaDoorMh0Cell
import Derived.Test.YtcicjpdjbfgbhaaDoorMh6Cell
namespace Go.Proofs.YtcicjpdjbfgbhaaDoor
open Go.RowKit Go.Shelf
theorem ret_ii {k l : IntKind} {x y : Int} {q : Int × Int} (h : (x, y) = q) : Ending.returned (.tuple #[.int k x, .int l y]) = .returned (.tuple #[.int k q.1, .int l q.2]) := by rw [← h]
theorem size_any (n : Int) (w : World) (h : -9223372036854775808 ≤ n) (h' : n ≤ 9223372036854775807) :
    Calls Tryd.prog 67 #[.int .i64 n] w fun e w' => e = .returned (.int .u64 (n.natAbs : Int)) ∧ w = w' := by
  go_enter Tryd.func67, Tryd.ntmps67
  go_wp2
  all_goals
    go_ret
    refine ⟨ret_int ?_, rfl⟩
    try simp only [IntKind.wrap_u64] at *
    omega
theorem signed_any (m : Nat) (b : Bool) (w : World) (h : (m : Int) ≤ 18446744073709551615) :
    Calls Tryd.prog 98 #[.int .u64 m, .bool b] w fun e w' => e = .returned (.tuple #[.int .i64 (M.sg m b).1, .int .i64 (M.sg m b).2]) ∧ w = w' := by
  obtain ⟨g, hg⟩ : ∃ g, M.sg m b = g := ⟨_, rfl⟩
  rw [hg]
  have HG := Lib.hid hg; clear hg
  go_enter Tryd.func98, Tryd.ntmps98
  cases b <;> go_wp2
  all_goals
    go_ret2
    refine ⟨ret_ii ?_, rfl⟩
    rw [← HG.out]
    unfold M.sg
    try simp only [IntKind.wrap_u64, wrap64] at *
    (repeat' split) <;> simp at * <;> omega
set_option maxHeartbeats 1000000 in
theorem sign_any (s : ByteArray) (p : Nat) (w : World) (hsm : s.size ≤ maxLen) (hp : p ≤ maxLen) :
    Calls Tryd.prog 94 #[.string s, .int .i64 p] w fun e w' => e = .returned (.int .i64 (M.sgn (strB s) p : Nat)) ∧ w = w' := by
  unfold maxLen at hsm hp
  rcases Nat.lt_or_ge p s.size with hlt | hge
  · have hx := strB_at s p hlt
    have hd : decide (p < s.size) = true := by simpa using hlt
    by_cases h45 : (s[p].toNat : Int) = 45
    · have hg : M.sgn (strB s) p = p + 1 := by unfold M.sgn; rw [hx, if_pos h45]
      have he : ((s[p].toNat : Int) == 45) = true := by simpa using h45
      rw [hg]; clear hg hx
      go_enter Tryd.func94, Tryd.ntmps94
      go_wp2
      go_ret
      exact ⟨ret_int (by omega), rfl⟩
    · have hg : M.sgn (strB s) p = p := by unfold M.sgn; rw [hx, if_neg h45]
      have he : ((s[p].toNat : Int) == 45) = false := by simpa using h45
      rw [hg]; clear hg hx
      go_enter Tryd.func94, Tryd.ntmps94
      go_wp2
      go_ret
      exact ⟨rfl, rfl⟩
  · have hg : M.sgn (strB s) p = p := by unfold M.sgn; rw [List.getElem?_eq_none (by rw [strB_len]; exact hge)]; rfl
    have hd : decide (p < s.size) = false := by simpa using hge
    rw [hg]; clear hg
    go_enter Tryd.func94, Tryd.ntmps94
    go_wp2
    go_ret
    exact ⟨rfl, rfl⟩
set_option maxHeartbeats 1000000 in
theorem run_any (s : ByteArray) (p : Nat) (w : World) (hsm : s.size ≤ maxLen) (hp : p ≤ s.size) :
    Calls Tryd.prog 93 #[.string s, .int .i64 p] w fun e w' => e = .returned (.int .i64 (M.runTo (strB s) p : Nat)) ∧ w = w' := by
  unfold maxLen at hsm
  obtain ⟨r, hr⟩ : ∃ r, M.runTo (strB s) p = r := ⟨_, rfl⟩
  rw [hr]
  have HR := Lib.hid hr; clear hr
  go_enter Tryd.func93, Tryd.ntmps93
  go_wp2
  go_loop [1] (fun i => ∃ q : Nat, q ≤ s.size ∧ i = .int .i64 q ∧ M.runTo (strB s) q = r) (fun i => s.size - (intOf i).toNat)
  case atStart => exact ⟨p, hp, rfl, HR.out⟩
  case round =>
    obtain ⟨q, hq, rfl, hrq⟩ := hrel
    rcases Nat.lt_or_ge q s.size with hlt | hge
    · have hx := strB_at s q hlt
      have hd : decide (q < s.size) = true := by simpa using hlt
      by_cases hdg : M.isD (s[q].toNat : Int) = true
      · have hstep := M.runTo_step (strB s) q (by rw [strB_len]; exact hlt) (by rw [hx]; exact hdg)
        rw [hrq] at hstep
        have HS := Lib.hid hstep; clear hstep hrq hx
        simp [M.isD] at hdg
        have h1 : decide (48 ≤ (s[q].toNat : Int)) = true := by simp; omega
        have h2 : decide ((s[q].toNat : Int) ≤ 57) = true := by simp; omega
        go_wp2
        go_round
        case rel => exact ⟨q + 1, by omega, by go_num, HS.out.symm⟩
        case measure => simp [intOf]; omega
      · have hstop := M.runTo_stop (strB s) q (fun _ => by rw [hx]; simpa using hdg)
        rw [hrq] at hstop
        have HS := Lib.hid hstop; clear hstop hrq hx
        simp [M.isD] at hdg
        go_wp2
        all_goals (first | (exfalso; omega) | (go_ret; exact ⟨ret_int (by rw [HS.out]), rfl⟩))
    · have hstop := M.runTo_stop (strB s) q (fun h => by rw [strB_len] at h; omega)
      rw [hrq] at hstop
      have HS := Lib.hid hstop; clear hstop hrq
      have hd : decide (q < s.size) = false := by simpa using hge
      go_wp2
      go_ret
      exact ⟨ret_int (by rw [HS.out]), rfl⟩
set_option maxHeartbeats 1000000 in
theorem formed_any (s : ByteArray) (w : World) (hsm : s.size ≤ maxLen) :
    Calls Tryd.prog 97 #[.string s] w fun e w' => e = .returned (.bool (decide (M.formed (strB s)))) ∧ w = w' := by
  have hsg := sign_any s 0 w hsm (Nat.zero_le _)
  rw [show ((0 : Nat) : Int) = 0 from rfl] at hsg
  have hsl := M.sgn_le (strB s) 0 (Nat.zero_le _)
  have hf : M.formed (strB s) ↔ M.sgn (strB s) 0 < s.size ∧ M.runTo (strB s) (M.sgn (strB s) 0) = s.size ∧ ((strB s)[M.sgn (strB s) 0]?.getD 0 ≠ 48 ∨ strB s = [48]) := by unfold M.formed; rw [strB_len]
  obtain ⟨p, hp⟩ : ∃ p, M.sgn (strB s) 0 = p := ⟨_, rfl⟩
  rw [hp] at hsg hsl hf
  rw [strB_len] at hsl
  have hrn := fun w => run_any s p w hsm hsl.2.1
  have hrl := M.runTo_le (strB s) p (by rw [strB_len]; exact hsl.2.1)
  obtain ⟨q, hq⟩ : ∃ q, M.runTo (strB s) p = q := ⟨_, rfl⟩
  simp only [hq] at hrn hrl hf
  rw [strB_len] at hrl
  have HP := Lib.hid hp; clear hp
  have HQ := Lib.hid hq; clear hq
  unfold maxLen at hsm
  obtain ⟨g, hg⟩ : ∃ g, decide (M.formed (strB s)) = g := ⟨_, rfl⟩
  rw [hg]
  have hz : s.toList = [48] ↔ strB s = [48] := toList_lit s [48] [48] rfl (by decide)
  rcases Nat.lt_or_ge p s.size with hlt | hge
  · have hx := strB_at s p hlt
    rw [hx] at hf
    rw [← hz] at hf
    clear hx hz
    have hgf : g = true ↔ (q = s.size ∧ ((s[p].toNat : Int) ≠ 48 ∨ s.toList = [48])) := by rw [← hg, decide_eq_true_iff, hf]; exact ⟨fun h => h.2, fun h => ⟨hlt, h⟩⟩
    clear hf hg
    have HGF := Lib.hid hgf; clear hgf
    have hd : ((p : Int) == (s.size : Int)) = false := by simp; omega
    go_enter Tryd.func97, Tryd.ntmps97
    go_wp2_with (first | (go_at_call 94; (with_reducible refine hsg.mono ?_); rintro e w' ⟨rfl, rfl⟩) | (go_at_call 93; (with_reducible refine (hrn _).mono ?_); rintro e w' ⟨rfl, rfl⟩))
    all_goals go_ret
    all_goals refine ⟨ret_bool ?_, rfl⟩
    all_goals
      have hgf := HGF.out
      rw [Bool.eq_iff_iff, hgf]
      by_cases hT : s.toList = [48] <;> simp [hT] <;> omega
  · have hg' : g = false := by rw [← hg]; simp; intro h; rw [hf] at h; omega
    subst hg'
    clear hg hf hz
    have hd : ((p : Int) == (s.size : Int)) = true := by simp; omega
    go_enter Tryd.func97, Tryd.ntmps97
    go_wp2_with (first | (go_at_call 94; (with_reducible refine hsg.mono ?_); rintro e w' ⟨rfl, rfl⟩))
    go_ret
    exact ⟨rfl, rfl⟩
def Prt (w : World) (n : Int) (e : Ending) (w' : World) : Prop := e = .returned (.string (strOfNums (M.prt n))) ∧ Below w.heap.size w w'
theorem prt_bytes (n : Int) : ∀ x ∈ M.prt n, 0 ≤ x ∧ x ≤ 255 := by
  intro x hx
  unfold M.prt at hx
  rw [List.mem_append] at hx
  rcases hx with hx | hx
  · split at hx <;> simp at hx; omega
  · have := M.D_digits _ x hx
    simp [M.isD] at this; omega
end Go.Proofs.YtcicjpdjbfgbhaaDoor

/- Package num's iterator over a number's digits. -/
namespace Go.Proofs.YtcicjpdjbfgbhaaDoor
open Go.RowKit Go.Shelf
attribute [local go_sem] Oper.semAt_some
/-- a number's digits, the last one first -/
def M.dg (m : Nat) : List Int := if m < 10 then [(m : Int)] else ((m % 10 : Nat) : Int) :: M.dg (m / 10)
termination_by m
decreasing_by omega
theorem M.dg_lt (m : Nat) (h : m < 10) : M.dg m = [(m : Int)] := by rw [M.dg, if_pos h]
theorem M.dg_ge (m : Nat) (h : ¬ m < 10) : M.dg m = ((m % 10 : Nat) : Int) :: M.dg (m / 10) := by rw [M.dg, if_neg h]
theorem M.dg_D (m : Nat) : M.D m = (M.dg m).reverse.map (48 + ·) := by
  induction m using Nat.strongRecOn with
  | _ m ih =>
    by_cases h : m < 10
    · rw [M.D_lt m h, M.dg_lt m h]; rfl
    · rw [M.D_ge m h, M.dg_ge m h, ih _ (by omega)]; simp
theorem M.dg_len (m : Nat) : (M.dg m).length = (M.D m).length := by rw [M.dg_D]; simp

set_option maxRecDepth 100000 in
set_option maxHeartbeats 2000000 in
theorem digits1_in (n : Nat) (hn : 1 ≤ n) (l Bs : Nat) (m : Nat) (hm : m ≤ 18446744073709551615) (J Jx : List Int → World → Prop)
    (hY : ∀ pre x W, J pre W → pre.length < 20 → YieldAt Fence.wide (n - 1) Tryd.prog l #[.int .u8 x] W fun e W' =>
      (e = .returned (.bool true) ∧ J (pre ++ [x]) W' ∧ True) ∨ (e = .returned (.bool false) ∧ Jx (pre ++ [x]) W'))
    (W : World) (hBs : Boxed W Bs 101 (.int .u64 m)) (h0 : J [] W) :
    CallsIn Fence.wide n Tryd.prog 73 #[.func (.yield l) #[] #[], .pointer (some ⟨Bs, 0, none⟩)] W fun e W' => (∃ v, e = .returned v) ∧
      ((∃ ys, ys = M.dg m ∧ J ys W') ∨ (∃ pre, pre <+: M.dg m ∧ Jx pre W')) := by
  have hlen : (M.dg m).length ≤ 20 := by rw [M.dg_len]; exact M.D_len_le 19 m (by omega)
  refine callsIn_of_wp Tryd.func73 rfl trivial ?_ rfl
  simp only [Tryd.ntmps73, List.size_toArray, List.length_cons, List.length_nil, Nat.reduceAdd, Nat.reduceSub, Array.replicate_succ, Array.replicate_zero, List.push_toArray, List.append_toArray, List.nil_append, List.cons_append]
  have hcx := hBs.cell
  gi_wp2
  gi_loopw [3] (fun i wr => ∃ (r : Nat) (pre : List Int), r ≤ m ∧ i = .int .u64 r ∧ J pre wr ∧ pre ++ M.dg r = M.dg m) (fun i _ => (intOf i).toNat)
  case atStart => exact ⟨m, [], Nat.le_refl _, rfl, h0, rfl⟩
  case round =>
    obtain ⟨r, pre, hr, rfl, hJs, hcd⟩ := hrel
    have hpl : pre.length < 20 := by
      have h1 := congrArg List.length hcd
      have h2 := M.D_pos r
      rw [← M.dg_len] at h2
      simp at h1; omega
    obtain ⟨fn, tmps, assign, body, hy, hR⟩ := hY _ ((r % 10 : Nat) : Int) wr hJs hpl
    have hpm : ((r % 10 : Nat) : Int) = (r : Int) % 10 := by omega
    rw [hpm] at hy
    have HPM := Lib.hid hpm; clear hpm
    by_cases h10 : r < 10
    · have HD : Hid (pre ++ [((r % 10 : Nat) : Int)] = M.dg m) := Lib.hid (by rw [← hcd, M.dg_lt r h10, show r % 10 = r by omega])
      have HC := Lib.hid hcd; clear hcd
      have hd : decide (10 ≤ r) = false := by simp; omega
      gi_wp2
      refine hR.mono ?_
      rintro e W3 (⟨rfl, hJ3, _⟩ | ⟨rfl, hJx3⟩)
      · gi_wp2
        refine bodyPost_end (results_none rfl _ _ _) rfl ?_
        exact ⟨⟨_, rfl⟩, .inl ⟨_, HD.out, hJ3⟩⟩
      · gi_wp2
        refine bodyPost_end (results_none rfl _ _ _) rfl ?_
        exact ⟨⟨_, rfl⟩, .inr ⟨_, ⟨[], by rw [List.append_nil, HD.out]⟩, hJx3⟩⟩
    · have HD : Hid ((pre ++ [((r % 10 : Nat) : Int)]) ++ M.dg (r / 10) = M.dg m) := Lib.hid (by rw [← hcd, M.dg_ge r h10]; simp)
      have HC := Lib.hid hcd; clear hcd
      have hd : decide (10 ≤ r) = true := by simp; omega
      gi_wp2
      refine hR.mono ?_
      rintro e W3 (⟨rfl, hJ3, _⟩ | ⟨rfl, hJx3⟩)
      · gi_wp2
        go_roundw
        case rel => exact ⟨r / 10, _, by omega, by go_num, hJ3, HD.out⟩
        case measure => simp [intOf]; omega
      · gi_wp2
        refine bodyPost_end (results_none rfl _ _ _) rfl ?_
        exact ⟨⟨_, rfl⟩, .inr ⟨_, ⟨_, HD.out⟩, hJx3⟩⟩
set_option maxHeartbeats 1000000 in
theorem digits_in (n : Nat) (m : Int) (w : World) :
    CallsIn Fence.wide n Tryd.prog 66 #[.int .u64 m] w fun e w' => e = .returned (.func (.func 73) #[] #[.pointer (some ⟨w.heap.size, 0, none⟩)]) ∧ w' = w.alloc (.cells #[.int .u64 m] 101) := by
  refine callsIn_of_wp Tryd.func66 rfl trivial ?_ rfl
  simp only [Tryd.ntmps66, List.size_toArray, List.length_cons, List.length_nil, Nat.reduceAdd, Nat.reduceSub, Array.replicate_succ, Array.replicate_zero, List.push_toArray, List.append_toArray, List.nil_append, List.cons_append]
  gi_wp2
  go_ret
  exact ⟨rfl, rfl⟩
theorem digits_stops (n : Nat) (hn : 1 ≤ n) (Bs : Nat) (m : Nat) (hm : m ≤ 18446744073709551615) (w : World) (hBs : Boxed w Bs 101 (.int .u64 m)) :
    SeqStopsK Fence.wide n Tryd.prog 73 #[.pointer (some ⟨Bs, 0, none⟩)] (fun x : Int => #[Value.int .u8 x]) (fun _ _ => True) (fun ys => ys = M.dg m)
      (fun pre => pre <+: M.dg m) 20 w := fun l J Jx W hW _ _ hY h0 =>
  digits1_in n hn l Bs m hm J Jx hY W ((hW.block Bs hBs.lt).trans hBs) h0

/-- a block of bytes that is a variable's array -/
def Arr (W : World) (B : Nat) (t : TypeId) (xs : List Int) : Prop := W.heap[B]? = some (.cells (u8s xs).toArray t (0, 0))
theorem Arr.lt {W : World} {B : Nat} {t : TypeId} {xs : List Int} (h : Arr W B t xs) : B < W.heap.size := (Array.getElem?_eq_some_iff.1 h).1
theorem Arr.cell {W : World} {B : Nat} {t : TypeId} {xs : List Int} (h : Arr W B t xs) (i : Nat) (hi : i < xs.length) : W.cell? ⟨B, i, none⟩ = some (.int .u8 (xs[i]?.getD 0)) := by
  simp [World.cell?, show W.heap[B]? = _ from h, u8s, List.getElem?_eq_getElem hi]
theorem Arr.frozen {W : World} {B : Nat} {t : TypeId} {xs : List Int} (h : Arr W B t xs) (i : Nat) : W.frozen? ⟨B, i, none⟩ = false := by simp [World.frozen?, show W.heap[B]? = _ from h]
theorem Arr.kept {W W' : World} {row : Option Nat} {B : Nat} {t : TypeId} {xs : List Int} (h : Arr W B t xs) (hg : W.grownBy W' row) (hne : some B ≠ row) : Arr W' B t xs := (hg.block B h.lt hne).trans h
theorem Arr.alloc {W : World} {B : Nat} {t : TypeId} {xs : List Int} (h : Arr W B t xs) (o : Obj) : Arr (W.alloc o) B t xs := h.kept (World.grownBy_alloc W o none) (by simp)
theorem Arr.other {W : World} {B B' : Nat} {t : TypeId} {xs : List Int} (h : Arr W B t xs) (hne : B ≠ B') (u : Value) : Arr (W.setCell ⟨B', 0, none⟩ u) B t xs := h.kept (grownBy_setCell' W B' u) (fun e => hne (by cases e; rfl))
theorem Arr.set {W : World} {B : Nat} {t : TypeId} {xs : List Int} (h : Arr W B t xs) (i : Nat) (x : Int) : Arr (W.setCell ⟨B, i, none⟩ (.int .u8 x)) B t (xs.set i x) := by
  obtain ⟨hlt, hk⟩ := Array.getElem?_eq_some_iff.1 h
  show (W.heap.modify B _)[B]? = _
  rw [Array.getElem?_eq_getElem (by rw [Array.size_modify]; exact hlt), Array.getElem_modify_self, hk]
  simp [u8s, List.map_set]
theorem grownBy_setAt (W : World) (b i : Nat) (v : Value) : W.grownBy (W.setCell ⟨b, i, none⟩ v) (some b) :=
  ⟨rfl, rfl, rfl, (KeepsWalks.setCell W _ v).size, fun k _ hk => Below.heap_setCell _ _ _ k (fun e => hk (by rw [e]))⟩
theorem Boxed.otherAt {W : World} {B B' : Nat} {t : TypeId} {v : Value} (h : Boxed W B t v) (hne : B ≠ B') (i : Nat) (u : Value) : Boxed (W.setCell ⟨B', i, none⟩ u) B t v := h.kept (grownBy_setAt W B' i u) (fun e => hne (by cases e; rfl))
theorem arr_own {β : Type} (B : Nat) (t : TypeId) (f : β → List Int) : Own (fun s W => Arr W B t (f s)) := fun s X Y row hs hg hrow =>
  hs.kept hg (fun e' => by obtain ⟨o, ho, hc⟩ := hrow B e'.symm; rw [show X.heap[B]? = _ from hs] at ho; cases ho; cases hc)
theorem Arr.new (W : World) (t : TypeId) (xs : List Int) (cs : Array Value) (h : cs = (u8s xs).toArray) : Arr (W.alloc (.cells cs t)) W.heap.size t xs := by subst h; exact World.alloc_heap_new W _
/-- the twenty bytes of room, behind so many digits -/
def M.room (pre : List Int) : List Int := List.replicate (20 - pre.length) 0 ++ pre.reverse.map fun x => (48 + x) % 256
theorem M.room_len (pre : List Int) (h : pre.length ≤ 20) : (M.room pre).length = 20 := by simp [M.room]; omega
theorem M.room_step (pre : List Int) (x : Int) (h : pre.length < 20) : (M.room pre).set (19 - pre.length) ((48 + x) % 256) = M.room (pre ++ [x]) := by
  unfold M.room
  have e : 20 - pre.length = (19 - pre.length) + 1 := by omega
  rw [e, List.replicate_succ', List.append_assoc, List.set_append_right _ _ (by simp)]
  simp
theorem M.dg_digits (m : Nat) : ∀ x ∈ M.dg m, 0 ≤ x ∧ x ≤ 9 := by
  induction m using Nat.strongRecOn with
  | _ m ih =>
    intro x hx
    by_cases h : m < 10
    · rw [M.dg_lt m h] at hx; simp at hx; omega
    · rw [M.dg_ge m h] at hx
      simp only [List.mem_cons] at hx
      rcases hx with rfl | hx
      · omega
      · exact ih _ (by omega) x hx
theorem M.room_end (m : Nat) : M.room (M.dg m) = List.replicate (20 - (M.dg m).length) 0 ++ (M.dg m).reverse.map (48 + ·) := by
  unfold M.room
  congr 1
  refine List.map_congr_left fun x hx => ?_
  have := M.dg_digits m x (by simpa using hx)
  omega
end Go.Proofs.YtcicjpdjbfgbhaaDoor
