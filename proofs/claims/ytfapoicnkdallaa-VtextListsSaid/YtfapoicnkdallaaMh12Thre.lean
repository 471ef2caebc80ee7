/- Package utf's iterator over a text's codes, and what ranges over it. -/
import Derived.Test.YtfapoicnkdallaaMh11Thre
import Derived.RangeFuncBox
import Derived.RangeFuncNested
import Derived.RangeFuncBound
import Derived.RangeFuncCalls
import Derived.RangeFuncLeaves
import Derived.Shelf.Abstract
import Derived.Shelf.RegionOpen
import Derived.OwnWalkIn
import Derived.TacticsInMore
import Derived.LoopNIn
import Derived.LoopIn
namespace Go.Proofs.Ytfapoicnkdallaa
open Go.RowKit Go.Shelf
attribute [local go_sem] Oper.semAt_some
namespace U
/-- a text's codes from a place on, each with the place behind it, as far as they go -/
def cds : Nat → List Int → Nat → List (Int × Nat)
  | 0, _, _ => []
  | f + 1, l, p => if 0 < (getAt l p).2 then ((getAt l p).1, p + (getAt l p).2) :: cds f l (p + (getAt l p).2) else []
theorem got_le (n : Nat) (o : Option Int) : (got n o).2 ≤ n := by
  cases o with
  | none => simp [got]
  | some c => simp only [got]; split <;> simp
theorem getAt_le (l : List Int) (p : Nat) (h : p ≤ l.length) : p + (getAt l p).2 ≤ l.length ∧ (getAt l p).2 ≤ 4 := by
  by_cases hp : p < l.length
  · obtain ⟨_, h2⟩ := getAt_eq l p _ hp rfl
    rw [h2]
    split
    · simp; omega
    · have := got_le (fst (l[p]?.getD 0)).2 (conts (l.drop (p + 1)) ((fst (l[p]?.getD 0)).2 - 1) (fst (l[p]?.getD 0)).1)
      have h4 : (fst (l[p]?.getD 0)).2 ≤ 4 := by unfold fst; (repeat' split) <;> simp
      omega
  · unfold getAt; rw [if_neg (by omega)]; simp; omega
theorem size_bd (c : Int) : size c = 0 ∨ (0 ≤ c ∧ c ≤ 1114111) := by
  unfold size; repeat' split
  all_goals (first | (left; rfl) | (right; omega))
theorem getAt_code (l : List Int) (p : Nat) : 0 ≤ (getAt l p).1 ∧ (getAt l p).1 ≤ 1114111 := by
  by_cases hp : p < l.length
  · obtain ⟨_, h2⟩ := getAt_eq l p _ hp rfl
    rw [h2]
    split
    · simp
    · rename_i hn
      cases conts (l.drop (p + 1)) ((fst (l[p]?.getD 0)).2 - 1) (fst (l[p]?.getD 0)).1 with
      | none => simp [got]
      | some c =>
        simp only [got]
        split
        · rename_i hs
          rcases size_bd c with h | h
          · rw [h] at hs; omega
          · simpa using h
        · simp
  · unfold getAt; rw [if_neg (by omega)]; simp
end U
/-- what has come, and what is to come -/
theorem cds_step (f : Nat) (l : List Int) (p : Nat) (h : 0 < (getAt l p).2) : U.cds (f + 1) l p = ((getAt l p).1, p + (getAt l p).2) :: U.cds f l (p + (getAt l p).2) := by
  simp only [U.cds]; rw [if_pos h]
theorem cds_stop (f : Nat) (l : List Int) (p : Nat) (h : ¬ 0 < (getAt l p).2) : U.cds (f + 1) l p = [] := by
  simp only [U.cds]; rw [if_neg h]

set_option maxRecDepth 100000 in
set_option maxHeartbeats 2000000 in
theorem codes1_in (n : Nat) (hn : 1 ≤ n) (l Bs : Nat) (s : ByteArray) (hsm : s.size ≤ maxLen) (J Jx : List (Int × Nat) → World → Prop)
    (hY : ∀ pre x W, J pre W → pre.length < s.size → YieldAt Fence.wide (n - 1) Try.prog l #[.int .i64 x.1, .int .i64 (x.2 : Int)] W fun e W' =>
      (e = .returned (.bool true) ∧ J (pre ++ [x]) W' ∧ KeepsBox Bs 9 W W') ∨ (e = .returned (.bool false) ∧ Jx (pre ++ [x]) W'))
    (W : World) (hBs : Boxed W Bs 9 (.string s)) (h0 : J [] W) :
    CallsIn Fence.wide n Try.prog 72 #[.func (.yield l) #[] #[], .pointer (some ⟨Bs, 0, none⟩)] W fun e W' => (∃ v, e = .returned v) ∧
      ((∃ ys, ys = U.cds s.size (strB s) 0 ∧ J ys W') ∨ (∃ pre, pre <+: U.cds s.size (strB s) 0 ∧ Jx pre W')) := by
  refine callsIn_of_wp Try.func72 rfl trivial ?_ rfl
  simp only [Try.ntmps72, List.size_toArray, List.length_cons, List.length_nil, Nat.reduceAdd, Nat.reduceSub, Array.replicate_succ, Array.replicate_zero, List.push_toArray, List.append_toArray, List.nil_append, List.cons_append]
  gi_wp2
  gi_loopw [3] (fun i wr => ∃ (p f : Nat) (pre : List (Int × Nat)), p ≤ s.size ∧ i = .int .i64 p ∧ J pre wr ∧ Boxed wr Bs 9 (.string s) ∧ pre ++ U.cds f (strB s) p = U.cds s.size (strB s) 0 ∧ s.size ≤ p + f ∧ pre.length ≤ p)
    (fun i _ => s.size - (intOf i).toNat)
  case atStart => exact ⟨0, s.size, [], Nat.zero_le _, rfl, h0, hBs, rfl, by omega, by simp⟩
  case round =>
    obtain ⟨p, f, pre, hp, rfl, hJs, hnx, hcd, hpf, hpl⟩ := hrel
    have hcx := hnx.cell
    have hle := U.getAt_le (strB s) p (by rw [strB_len]; exact hp)
    rw [strB_len] at hle
    have hcode := U.getAt_code (strB s) p
    have hget : ∀ w, Calls Try.prog 73 #[.string s, .int .i64 (p : Int)] w _ := fun w => getS_any s p w hsm (by omega) (by unfold maxLen at hsm; omega)
    have hcs := cds_step (f - 1) (strB s) p
    have hcn := cds_stop (f - 1) (strB s) p
    have hsz : p = s.size → (getAt (strB s) p).2 = 0 := fun e => by omega
    obtain ⟨c, m, hcm⟩ := pair_eta (getAt (strB s) (p : Int))
    simp only [hcm] at hle hget hcs hcn hsz hcode
    have HM := Lib.hid hcm; clear hcm
    unfold maxLen at hsm
    by_cases hm : 0 < m
    · have hplt : p < s.size := by omega
      have hf : f = f - 1 + 1 := by omega
      have hcd2 : (pre ++ [(c, p + m)]) ++ U.cds (f - 1) (strB s) (p + m) = U.cds s.size (strB s) 0 := by
        rw [← hcd, hf, hcs hm]; simp
      have HD := Lib.hid hcd2; clear hcd2 hcd
      have HS := Lib.hid hcs; clear hcs
      have HN := Lib.hid hcn; clear hcn
      have HZ := Lib.hid hsz; clear hsz
      have HF := Lib.hid hf; clear hf
      have hd : decide (0 < m) = true := by simpa using hm
      obtain ⟨fn, tmps, assign, body, hy, hR⟩ := hY _ (c, p + m) wr hJs (by omega)
      dsimp only at hy
      have hpm : ((p + m : Nat) : Int) = (p : Int) + m := by omega
      rw [hpm] at hy
      have HPM := Lib.hid hpm; clear hpm
      gi_wp2_with (refine ⟨trivial, ?_⟩; gi_at_call 73; refine (callsIn_wide.2 (hget _)).mono ?_; rintro e w' ⟨rfl, rfl⟩)
      refine hR.mono ?_
      rintro e W3 (⟨rfl, hJ3, hk3⟩ | ⟨rfl, hJx3⟩)
      · gi_wp2
        go_roundw
        case rel => exact ⟨p + m, f - 1, pre ++ [(c, p + m)], hle.1, by rw [HPM.out], hJ3, hk3 _ hnx, HD.out, by omega, by simp; omega⟩
        case measure => simp [intOf]; omega
      · gi_wp2
        refine bodyPost_ret (results_none rfl _ _ _) rfl ?_
        exact ⟨⟨_, rfl⟩, .inr ⟨_, ⟨U.cds (f - 1) (strB s) (p + m), HD.out⟩, hJx3⟩⟩
    · have hm0 : m = 0 := by omega
      subst hm0
      have hcd2 : pre = U.cds s.size (strB s) 0 := by
        rw [← hcd]
        cases f with
        | zero => simp [U.cds]
        | succ f => rw [show f + 1 - 1 = f from rfl] at hcn; rw [hcn (by simp)]; simp
      have HD := Lib.hid hcd2; clear hcd2 hcd hcs hcn hsz
      gi_wp2_with (refine ⟨trivial, ?_⟩; gi_at_call 73; refine (callsIn_wide.2 (hget _)).mono ?_; rintro e w' ⟨rfl, rfl⟩)
      all_goals
        refine ⟨fun _ h => (by cases h), ?_⟩
        gi_wp2
        refine bodyPost_ret (results_none rfl _ _ _) rfl ?_
        exact ⟨⟨_, rfl⟩, .inl ⟨_, HD.out, hJs⟩⟩

set_option maxHeartbeats 1000000 in
theorem codes_in (n : Nat) (s : ByteArray) (w : World) :
    CallsIn Fence.wide n Try.prog 59 #[.string s] w fun e w' => e = .returned (.func (.func 72) #[] #[.pointer (some ⟨w.heap.size, 0, none⟩)]) ∧ w' = w.alloc (.cells #[.string s] 9) := by
  refine callsIn_of_wp Try.func59 rfl trivial ?_ rfl
  simp only [Try.ntmps59, List.size_toArray, List.length_cons, List.length_nil, Nat.reduceAdd, Nat.reduceSub, Array.replicate_succ, Array.replicate_zero, List.push_toArray, List.append_toArray, List.nil_append, List.cons_append]
  gi_wp2
  go_ret
  exact ⟨rfl, rfl⟩

theorem codes_stops (n : Nat) (hn : 1 ≤ n) (Bs : Nat) (s : ByteArray) (hsm : s.size ≤ maxLen) (w : World) (hBs : Boxed w Bs 9 (.string s)) :
    SeqStopsK Fence.wide n Try.prog 72 #[.pointer (some ⟨Bs, 0, none⟩)] (fun x : Int × Nat => #[Value.int .i64 x.1, Value.int .i64 (x.2 : Int)]) (KeepsBox Bs 9) (fun ys => ys = U.cds s.size (strB s) 0)
      (fun pre => pre <+: U.cds s.size (strB s) 0) s.size w := fun l J Jx W hW _ _ hY h0 =>
  codes1_in n hn l Bs s hsm J Jx hY W ((hW.block Bs hBs.lt).trans hBs) h0

/-- the place behind the last code -/
def U.lastEnd (l : List (Int × Nat)) : Nat := match l.getLast? with | some x => x.2 | none => 0
theorem U.lastEnd_snoc (l : List (Int × Nat)) (x : Int × Nat) : U.lastEnd (l ++ [x]) = x.2 := by simp [U.lastEnd]

def U.validS (s : ByteArray) : Bool := decide (U.lastEnd (U.cds s.size (strB s) 0) = s.size)
set_option maxRecDepth 100000 in
set_option maxHeartbeats 2000000 in
theorem valid_any (s : ByteArray) (w : World) (hsm : s.size ≤ maxLen) :
    Calls Try.prog 42 #[.string s] w fun e w' => e = .returned (.bool (U.validS s)) ∧ Below w.heap.size w w' := by
  refine (callsIn_wide (n := 100)).1 ?_
  refine callsIn_of_wp_marks Try.func42 rfl trivial ?_ rfl
  simp only [Try.ntmps42, List.size_toArray, List.length_cons, List.length_nil, Nat.reduceAdd, Nat.reduceSub, Array.replicate_succ, Array.replicate_zero, List.push_toArray, List.append_toArray, List.nil_append, List.cons_append]
  gi_wp2_with (refine ⟨trivial, ?_⟩; gi_at_call 59; refine (codes_in _ _ _).mono ?_; rintro e w' ⟨rfl, rfl⟩)
  have bO := Boxed.new w 3 (.int .i64 0)
  have bN := Boxed.new (w.alloc (.cells #[.int .i64 0] 3)) 9 (.string s)
  rw [World.size_alloc] at bN
  have hB0 : Below w.heap.size w ((w.alloc (.cells #[.int .i64 0] 3)).alloc (.cells #[.string s] 9)) := ((Below.refl _ w).alloc (Nat.le_refl _) _).alloc (by simp) _
  refine wpIn_rangeFunc_ownG rfl (by decide) (gf := 72) (lb := #[.pointer (some ⟨w.heap.size + 1, 0, none⟩)]) rfl trivial (enters_of Try.func72 (by kernel_rfl) rfl)
    (codes_stops _ (by decide) (w.heap.size + 1) s hsm _ bN) keepsBox_t (fun W l o o' _ hl ho _ => keepsBox_b W l o o' hl ho) (Below.refl _ _) (fun _ => rfl)
    (fun pre W => Boxed W w.heap.size 3 (.int .i64 (U.lastEnd pre : Int)) ∧ Below w.heap.size w W)
    (fun _ _ _ => False)
    (OwnFrom.and (Own.from (boxed_own _ _ _) _) (ownFrom_below (Nat.le_refl _) (by simp; omega)))
    (fun _ _ _ _ _ hs _ _ => hs)
    ⟨bO.alloc _, hB0⟩ ?a1 ?assign ?body ?done ?stop
  case assign =>
    intro l x W K hK
    gi_wp2
    exact hK
  case body =>
    rintro l pre x W ⟨hv, hB⟩ hlt
    have hc := hv.cell
    have hf := hv.frozen
    gi_wp2
    exact ⟨(KeepsOthers.setCell _ _ _).from _, keepsBox_of (grownBy_setCell' _ _ _) (by simp), by rw [U.lastEnd_snoc]; exact hv.set _, hB.setCell (p := ⟨w.heap.size, 0, none⟩) (Nat.le_refl _) _⟩
  case done =>
    rintro D ys W hD rfl ⟨hv, hB⟩ hK
    have hc := hv.cell
    gi_wp2
    refine ⟨by simp, .inl ⟨_, _, rfl, run_takeDeferred hK, ?_⟩⟩
    exact ⟨_, results_tmp (t := 2) rfl _ _ _, ret_bool (by rw [Bool.eq_iff_iff]; simp [U.validS]; omega), hB.trans (belowK_b (w := w) (Nat.le_refl _) W D _ _ (by simp at hD; omega) hK rfl rfl)⟩
  case stop =>
    rintro D c pre W _ _ h _
    exact h.elim

end Go.Proofs.Ytfapoicnkdallaa
