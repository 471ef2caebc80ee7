/- Layer 14: skip, run. -/
import Derived.Test.YtcicjpdjbfgbhaaGreatDoorMh22Cell
import Derived.Deep.QuietTactic
import Derived.BigQuiet
import Derived.Laws.BitsAllLaws
import Derived.Test.YtcicjpdjbfgbhaaGreatDoorMh4Cell
import Derived.Test.YtcicjpdjbfgbhaaGreatDoorMh0Cell
import Derived.Test.YtcicjpdjbfgbhaaGreatDoorMh13Cell
import Derived.Laws.MakeOwn
import Derived.RegionTactic
import Derived.Lib.AppendZeros
import Derived.Lib.SliceRun
import Derived.Test.YtcicjpdjbfgbhaaGreatDoorMh9Cell
import Derived.Test.YtcicjpdjbfgbhaaGreatDoorMh14Cell
set_option linter.unusedVariables false
set_option linter.unusedSimpArgs false
namespace Go.Proofs.YtcicjpdjbfgbhaaGreatDoor
open Go.RowKit Go.Shelf
attribute [local go_sem] Oper.semAt_some
theorem rv_atI {w : World} {p : Nat} {s : ByteArray} {a o n : Nat} (h : RV w p s a o n) (q : Nat) (z : Int) (hz : z = (q : Int)) : RV (w.setCell ⟨p, 1, none⟩ (.int .i64 z)) p s q o n := by subst hz; exact rv_at h q
theorem rv_openI {w : World} {p : Nat} {s : ByteArray} {a o n : Nat} (h : RV w p s a o n) (q : Nat) (z : Int) (hz : z = (q : Int)) : RV (w.setCell ⟨p, 2, none⟩ (.int .i64 z)) p s a q n := by subst hz; exact rv_open h q
theorem rv_nodesI {w : World} {p : Nat} {s : ByteArray} {a o n : Nat} (h : RV w p s a o n) (q : Nat) (z : Int) (hz : z = (q : Int)) : RV (w.setCell ⟨p, 3, none⟩ (.int .i64 z)) p s a o q := by subst hz; exact rv_nodes h q
/-- the reader goes on by one -/
def StepR (p : Nat) (s : ByteArray) (a o n : Nat) (w : World) (b : Bool) (e : Ending) (w' : World) : Prop :=
  if b then (∃ v, e = .returned v) ∧ RV w' p s (a + 1) o n ∧ w.grownBy w' (some p) else e = .panicked (wrongT a 2) ∧ w.grownBy w' (some p)
set_option maxRecDepth 100000 in
theorem skip_any (s : ByteArray) (p a o n : Nat) (w : World) (hsm : s.size ≤ 1000000) (ha : a < s.size) (hr : RV w p s a o n) :
    Calls Tryz.prog 97 #[.pointer (some ⟨p, 0, none⟩)] w (StepR p s a o n w (decide (a + 1 < s.size ∧ ((strB s)[a + 1]?.getD 0 = 34 ∨ (strB s)[a + 1]?.getD 0 = 92)))) := by
  obtain ⟨⟨c0, c1, c2, c3⟩, f1, f2, f3⟩ := rv_cells hr
  have hsz : (s.extract (a + 1) s.size).size = s.size - (a + 1) := by simp
  by_cases h : a + 1 < s.size
  · have hx := strB_at s (a + 1) h
    have hbx := u8_bd s[a + 1]
    have hW := fun w => vwithin_any ⟨#[34, 92]⟩ (s[a + 1].toNat : Int) w hbx.1 hbx.2
    have e2 : (strB ⟨#[34, 92]⟩) = [34, 92] := rfl
    simp only [e2] at hW
    have hne : (s.extract (a + 1) s.size).toList.isEmpty = false := toList_full (by rw [hsz]; omega)
    have hix : 0 < (s.extract (a + 1) s.size).size := by rw [hsz]; omega
    have hget : (s.extract (a + 1) s.size)[0] = s[a + 1] := by simp [ByteArray.getElem_eq_getElem_data]
    by_cases hc : (s[a + 1].toNat : Int) = 34 ∨ (s[a + 1].toNat : Int) = 92
    · have hd : decide (a + 1 < s.size ∧ ((strB s)[a + 1]?.getD 0 = 34 ∨ (strB s)[a + 1]?.getD 0 = 92)) = true := by rw [hx]; simp only [decide_eq_true_eq]; exact ⟨h, hc⟩
      rw [hd]
      have hcon : [(34 : Int), 92].contains (s[a + 1].toNat : Int) = true := by rw [List.contains_iff_mem]; rcases hc with h | h <;> simp [h]
      simp only [hcon] at hW
      unfold StepR
      simp only [if_true]
      clear hx hd hcon
      have HC := Lib.hid hc; clear hc
      go_enter Tryz.func97, Tryz.ntmps97
      go_wp2
      go_region
      go_wp2_with (go_at_call 92; (with_reducible refine (hW _).mono ?_); rintro e w' ⟨rfl, rfl⟩)
      refine bodyPost_end (results_none rfl _ _ _) rfl ?_
      exact ⟨⟨_, rfl⟩, rv_atI (rv_drew hr 1) (a + 1) _ (by push_cast; rfl), grownV_two (grownV_drew w 1 _) (grownV_set _ p 1 _)⟩
    · have hd : decide (a + 1 < s.size ∧ ((strB s)[a + 1]?.getD 0 = 34 ∨ (strB s)[a + 1]?.getD 0 = 92)) = false := by rw [hx]; simp only [decide_eq_false_iff_not]; exact fun k => hc k.2
      rw [hd]
      have hcon : [(34 : Int), 92].contains (s[a + 1].toNat : Int) = false := by
        rw [Bool.eq_false_iff]
        intro k
        rw [List.contains_iff_mem] at k
        simp at k
        exact hc (by omega)
      simp only [hcon] at hW
      unfold StepR
      simp only [Bool.false_eq_true, if_false]
      clear hx hd hcon
      have HC := Lib.hid hc; clear hc
      go_enter Tryz.func97, Tryz.ntmps97
      go_wp2
      go_region
      go_wp2_with (go_at_call 92; (with_reducible refine (hW _).mono ?_); rintro e w' ⟨rfl, rfl⟩)
      exact ⟨rfl, rfl, grownV_drew w 1 _⟩
  · have hd : decide (a + 1 < s.size ∧ ((strB s)[a + 1]?.getD 0 = 34 ∨ (strB s)[a + 1]?.getD 0 = 92)) = false := by simp only [decide_eq_false_iff_not]; omega
    rw [hd]
    have hne : (s.extract (a + 1) s.size).toList.isEmpty = true := toList_empty (by rw [hsz]; omega)
    unfold StepR
    simp only [Bool.false_eq_true, if_false]
    clear hr
    go_enter Tryz.func97, Tryz.ntmps97
    go_wp2
    go_region
    go_wp2
    exact ⟨rfl, rfl, grownV_drew w 1 _⟩
/-- what run comes to -/
def RunR (p : Nat) (s : ByteArray) (a q o n : Nat) (w : World) (e : Ending) (w' : World) : Prop := e = .returned (.string (s.extract a q)) ∧ RV w' p s q o n ∧ w.grownBy w' (some p)
set_option maxRecDepth 100000 in
set_option maxHeartbeats 2000000 in
theorem vrun_any (c : ByteArray) (f : Int → Bool) (hf : ∀ x, 0 ≤ x → x ≤ 255 → (strB c).contains x = f x) (s : ByteArray) (p a o n : Nat) (w : World) (hsm : s.size ≤ 1000000) (ha : a ≤ s.size) (hr : RV w p s a o n) :
    Calls Tryz.prog 98 #[.pointer (some ⟨p, 0, none⟩), .string c] w (RunR p s a (Vt.runTo f (strB s) a) o n w) := by
  have hW : ∀ x w, 0 ≤ x → x ≤ 255 → Calls Tryz.prog 92 #[.string c, .int .u8 x] w fun e w' => e = .returned (.bool (f x)) ∧ w = w' := fun x w h0 h1 => (vwithin_any c x w h0 h1).mono fun e w' h => by rw [hf x h0 h1] at h; exact h
  obtain ⟨r, hr'⟩ : ∃ r, Vt.runTo f (strB s) a = r := ⟨_, rfl⟩
  rw [hr']
  have hrl := Vt.runTo_le f (strB s) a (by rw [strB_len]; exact ha)
  rw [hr', strB_len] at hrl
  have HR := Lib.hid hr'; clear hr'
  obtain ⟨⟨c0, c1, c2, c3⟩, f1, f2, f3⟩ := rv_cells hr
  unfold RunR
  go_enter Tryz.func98, Tryz.ntmps98
  go_wp2
  go_loopw [] (fun wr => ∃ q : Nat, a ≤ q ∧ q ≤ s.size ∧ RV wr p s q o n ∧ w.grownBy wr (some p) ∧ Hid (Vt.runTo f (strB s) q = r)) (fun wr => s.size - (match wr.cell? ⟨p, 1, none⟩ with | some (.int _ q) => q.toNat | _ => 0))
  case atStart => exact ⟨a, Nat.le_refl _, ha, hr, grownV_rfl _ _, HR⟩
  case round =>
    clear hr c0 c1 c2 c3 f1 f2 f3
    obtain ⟨q, haq, hq, hr, hg, HQ⟩ := hrel
    obtain ⟨⟨c0, c1, c2, c3⟩, f1, f2, f3⟩ := rv_cells hr
    have hms : ∀ (W : World) (x : Nat), W.cell? ⟨p, 1, none⟩ = some (.int .i64 (x : Int)) → s.size - (match W.cell? ⟨p, 1, none⟩ with | some (.int _ q) => q.toNat | _ => 0) = s.size - x := fun W x h => by rw [h]; simp
    by_cases hlt : q < s.size
    · have hx := strB_at s q hlt
      have hu := u8_bd s[q]
      have hWx := fun k => (hW (s[q].toNat : Int) (wr.drewN k) hu.1 hu.2).mono fun e w' h => (⟨h.1, k, h.2.symm⟩ : e = _ ∧ ∃ m, w' = wr.drewN m)
      have d1 : decide (q < s.size) = true := by simpa using hlt
      by_cases hdg : f (s[q].toNat : Int) = true
      · have hstep := Vt.runTo_step f (strB s) q (by rw [strB_len]; exact hlt) (by rw [hx]; exact hdg)
        rw [HQ.out] at hstep
        simp only [hdg] at hWx
        have HS := Lib.hid hstep; clear hstep hx hdg hu
        have HM := Lib.hid hms; clear hms
        have HG := Lib.hid hg; clear hg
        clear hW hf
        go_wp2
        go_quiet (first | (go_at_call 92; exact hWx _))
        go_wp2_with fail
        go_roundw
        case rel => exact ⟨q + 1, by omega, by omega, rv_atI (rv_drew hr _) (q + 1) _ (by push_cast; rfl), grownV_two HG.out (grownV_two (grownV_drew _ _ _) (grownV_set _ p 1 _)), Lib.hid HS.out.symm⟩
        case measure =>
          have hr1 := rv_atI (rv_drew hr 0) (q + 1) _ rfl
          rw [HM.out wr q c1, HM.out _ (q + 1) (rv_cells (rv_atI (rv_drew hr _) (q + 1) _ (by push_cast; rfl))).1.2.1]
          omega
      · have hstop := Vt.runTo_stop f (strB s) q (fun _ => by rw [hx]; simpa using hdg)
        rw [HQ.out] at hstop
        have hdf : f (s[q].toNat : Int) = false := by simpa using hdg
        simp only [hdf] at hWx
        clear hx hdg hu hms hW hf hdf HR HQ
        subst hstop
        go_wp2
        go_quiet (first | (go_at_call 92; exact hWx _))
        go_wp2_with fail
        go_region
        go_wp2_with fail
        go_ret
        exact ⟨rfl, rv_drew (rv_drew hr _) 1, grownV_two hg (grownV_two (grownV_drew _ _ _) (grownV_drew _ 1 _))⟩
    · have hqe : q = s.size := by omega
      have hstop := Vt.runTo_stop f (strB s) q (fun k => by rw [strB_len] at k; omega)
      rw [HQ.out] at hstop
      have d1 : decide (q < s.size) = false := by simpa using hlt
      clear hms hW hf HR HQ
      subst hqe
      subst hstop
      go_wp2
      go_quiet (fail)
      go_wp2_with fail
      go_region
      go_wp2_with fail
      go_ret
      exact ⟨rfl, rv_drew (rv_drew hr _) 1, grownV_two hg (grownV_two (grownV_drew _ _ _) (grownV_drew _ 1 _))⟩
end Go.Proofs.YtcicjpdjbfgbhaaGreatDoor

/- Layer 6's arithmetic: numbers as bytes, the highest first. No walk. -/
namespace Go.Proofs.YtcicjpdjbfgbhaaGreatDoor
namespace Bn
/-- the number of bytes, the highest first -/
def jn (l : List Int) : Nat := l.foldl (fun n x => n * 256 + x.toNat) 0
theorem or64 (a b : Nat) (hb : b < 256) (h : a < 72057594037927936) : bits .or .u64 ((a * 256 : Nat) : Int) (b : Int) = ((a * 256 + b : Nat) : Int) := by
  show IntKind.u64.wrap ((BitVec.ofInt 64 ((a * 256 : Nat) : Int) ||| BitVec.ofInt 64 (b : Int)).toNat : Int) = _
  have e : ∀ n : Nat, n < 18446744073709551616 → (BitVec.ofInt 64 (n : Int)).toNat = n := fun n hn => by simp; omega
  rw [BitVec.toNat_or, e _ (by omega), e _ (by omega), Nat.mul_comm, show (256 : Nat) = 2 ^ 8 from rfl, ← Nat.two_pow_add_eq_or_of_lt (by omega), IntKind.wrap_u64]
  omega
end Bn
end Go.Proofs.YtcicjpdjbfgbhaaGreatDoor

/- What a reader reads, without a walk. -/
namespace Go.Proofs.YtcicjpdjbfgbhaaGreatDoor
namespace Bn
/-- a reader's state: what is left; none: it is bad -/
abbrev St := Option (List Int)
/-- a number of so many bytes -/
def num (n : Nat) : St → Nat × St
  | none => (0, none)
  | some l => if n ≤ l.length then (jn (l.take n), some (l.drop n)) else (0, none)
def rByte (s : St) : Nat × St := num 1 s
def rNum (s : St) : Nat × St := if 2147483647 < (num 4 s).1 then (0, none) else num 4 s
def rLong (s : St) : Int × St := (IntKind.i64.wrap ((num 8 s).1 : Int), (num 8 s).2)
/-- the text of so many bytes -/
def txt (n : Nat) : St → ByteArray × St
  | none => (⟨#[]⟩, none)
  | some l => if n ≤ l.length then (strOfNums (l.take n), some (l.drop n)) else (⟨#[]⟩, none)
def rText (s : St) : ByteArray × St := txt (rNum s).1 (rNum s).2
/-- so many things, one behind the other -/
def rep (g : St → PV × St) : Nat → St → List PV × St
  | 0, s => ([], s)
  | n + 1, s => ((rep g n s).1 ++ [(g (rep g n s).2).1], (g (rep g n s).2).2)
/-- a value, its list's values as told -/
def node (lst : Nat → St → List PV × St) (s : St) : PV × St :=
  if (rByte s).1 = 1 then (.mk 1 (rByte (rByte s).2).1 ⟨#[]⟩ [], (rByte (rByte s).2).2)
  else if (rByte s).1 = 2 then (.mk 2 (rLong (rByte s).2).1 ⟨#[]⟩ [], (rLong (rByte s).2).2)
  else if (rByte s).1 = 3 ∨ (rByte s).1 = 4 then (.mk (rByte s).1 0 (rText (rByte s).2).1 [], (rText (rByte s).2).2)
  else if (rByte s).1 = 5 then (.mk 5 0 ⟨#[]⟩ (lst (rNum (rByte s).2).1 (rNum (rByte s).2).2).1, (lst (rNum (rByte s).2).1 (rNum (rByte s).2).2).2)
  else (.mk (rByte s).1 0 ⟨#[]⟩ [], (rByte s).2)
/-- a list's values, so deep at most -/
def lst (g : Option (St → PV × St)) (n : Nat) (s : St) : List PV × St :=
  match g with
  | none => ([], none)
  | some g => if 20 < n then ([], none) else rep g n s
def get : Nat → St → PV × St
  | 0 => node (lst none)
  | d + 1 => node (lst (some (get d)))
end Bn
end Go.Proofs.YtcicjpdjbfgbhaaGreatDoor

/- Package bin: a reader in memory; Read, Left, Bad, Done, fail; what is taken. -/
namespace Go.Proofs.YtcicjpdjbfgbhaaGreatDoor
open Go.RowKit Go.Shelf
attribute [local go_sem] Oper.semAt_some
/-- nothing left, and not bad -/
def Bn.done (s : Bn.St) : Bool := match s with
  | some [] => true
  | _ => false
end Go.Proofs.YtcicjpdjbfgbhaaGreatDoor

/- Package bin: put, Value. -/
namespace Go.Proofs.YtcicjpdjbfgbhaaGreatDoor
open Go.RowKit Go.Shelf
attribute [local go_sem] Oper.semAt_some
/-- what a value that is formed has in it -/
theorem ok_parts {k n : Int} {s : ByteArray} {l : List PV} (h : okV (.mk k n s l) = true) : (0 ≤ k ∧ k ≤ 5) ∧ (k = 1 → n = 0 ∨ n = 1) ∧ s.size ≤ 200 ∧ (k ≠ 5 → l = []) ∧ l.length ≤ 20 ∧ okL l = true ∧ (k ≠ 3 → k ≠ 4 → s.toList.isEmpty = true) ∧ (k ≠ 1 → k ≠ 2 → n = 0) := by
  have hemp : ∀ s : ByteArray, s.toList.isEmpty = true → s.size ≤ 200 := fun s hs => by
    rw [toList_data] at hs; simp at hs; simp [ByteArray.size, hs]
  by_cases k0 : k = 0
  · subst k0; rw [okV0] at h; simp only [Bool.and_eq_true, beq_iff_eq, List.isEmpty_iff] at h; obtain ⟨⟨rfl, h2⟩, rfl⟩ := h
    exact ⟨by omega, by omega, hemp s (by simp [h2]), fun _ => rfl, by simp, rfl, fun _ _ => by simp [h2], fun _ _ => rfl⟩
  by_cases k1 : k = 1
  · subst k1; rw [okV1] at h; simp only [Bool.and_eq_true, Bool.or_eq_true, beq_iff_eq, List.isEmpty_iff] at h; obtain ⟨⟨h1, h2⟩, rfl⟩ := h
    exact ⟨by omega, fun _ => h1, hemp s (by simp [h2]), fun _ => rfl, by simp, rfl, fun _ _ => by simp [h2], fun h => absurd rfl h⟩
  by_cases k2 : k = 2
  · subst k2; rw [okV2] at h; simp only [Bool.and_eq_true, List.isEmpty_iff] at h; obtain ⟨h2, rfl⟩ := h
    exact ⟨by omega, by omega, hemp s (by simp [h2]), fun _ => rfl, by simp, rfl, fun _ _ => by simp [h2], fun _ h => absurd rfl h⟩
  by_cases k3 : k = 3
  · subst k3; rw [okV3] at h; simp only [Bool.and_eq_true, beq_iff_eq, List.isEmpty_iff] at h; obtain ⟨⟨rfl, h2⟩, rfl⟩ := h
    refine ⟨by omega, by omega, ?_, fun _ => rfl, by simp, rfl, fun h => absurd rfl h, fun _ _ => rfl⟩
    have := strB_len s
    simp only [nameB, Bool.and_eq_true, decide_eq_true_eq] at h2
    omega
  by_cases k4 : k = 4
  · subst k4; rw [okV4] at h; simp only [Bool.and_eq_true, beq_iff_eq, List.isEmpty_iff, decide_eq_true_eq] at h; obtain ⟨⟨⟨rfl, h2⟩, h3⟩, rfl⟩ := h
    exact ⟨by omega, by omega, h2, fun _ => rfl, by simp, rfl, fun _ h => absurd rfl h, fun _ _ => rfl⟩
  by_cases k5 : k = 5
  · subst k5; rw [okV5] at h; simp only [Bool.and_eq_true, beq_iff_eq, decide_eq_true_eq] at h; obtain ⟨⟨⟨rfl, h2⟩, h3⟩, h4⟩ := h
    exact ⟨by omega, by omega, hemp s h2, fun h => absurd rfl h, h3, h4, fun _ _ => h2, fun _ _ => rfl⟩
  · rw [okV6 _ _ _ _ k0 k1 k2 k3 k4 k5] at h; cases h
theorem okL_mem {l : List PV} (h : okL l = true) : ∀ x ∈ l, okV x = true := by
  induction l with
  | nil => simp
  | cons y r ih =>
    intro x hx
    simp only [okL, Bool.and_eq_true] at h
    rcases List.mem_cons.1 hx with rfl | hx
    · exact h.1
    · exact ih h.2 x hx
end Go.Proofs.YtcicjpdjbfgbhaaGreatDoor

/- Package bin: node. -/
namespace Go.Proofs.YtcicjpdjbfgbhaaGreatDoor
open Go.RowKit Go.Shelf
attribute [local go_sem] Oper.semAt_some
theorem grown_new {w W : World} {row : Option Nat} (h : w.grownBy W row) {b : Nat} (hb : w.heap.size ≤ b) (i : Nat) (v : Value) : w.grownBy (W.setCell ⟨b, i, none⟩ v) row :=
  ⟨h.os, h.tape, h.output, Nat.le_trans h.size (KeepsWalks.setCell W _ v).size, fun k hk hne => (Below.heap_setCell _ _ _ k (by show k ≠ b; omega)).trans (h.block k hk hne)⟩
theorem grown_new4 {w W : World} {row : Option Nat} (h : w.grownBy W row) {b : Nat} (hb : w.heap.size ≤ b) (i0 i1 i2 i3 : Nat) (d0 d1 d2 d3 : Value) :
    w.grownBy ((((W.setCell ⟨b, i0, none⟩ d0).setCell ⟨b, i1, none⟩ d1).setCell ⟨b, i2, none⟩ d2).setCell ⟨b, i3, none⟩ d3) row :=
  grown_new (grown_new (grown_new (grown_new h hb i0 d0) hb i1 d1) hb i2 d2) hb i3 d3
theorem is_flat' (w : World) (k n : Int) (s : ByteArray) (hk : I64 k) (hn : I64 n) (hs : s.size ≤ maxLen) : Is w (.mk k n s []) (.agg #[.int .i64 k, .int .i64 n, .string s, .slice none 0 0]) := by
  unfold Is
  exact ⟨hk, hn, hs, none, 0, rfl, Nat.le_refl _, by unfold maxLen; omega, .inl rfl⟩
theorem fresh_flat (B : Nat) (w : World) (k n : Int) (s : ByteArray) (hk : I64 k) (hn : I64 n) (hs : s.size ≤ maxLen) : Fresh B w (.mk k n s []) (.agg #[.int .i64 k, .int .i64 n, .string s, .slice none 0 0]) := fun w' _ => is_flat' w' k n s hk hn hs
theorem val4 : (Tryz.prog.info? 24).map (·.size) = some 4 := by
  obtain ⟨i0, hi, hz0, hz1, hz2⟩ := info_parts info_val
  rw [hi]; simp [hz1]
end Go.Proofs.YtcicjpdjbfgbhaaGreatDoor

/- Layer 14: name, number, word. -/
set_option linter.unusedVariables false
set_option linter.unusedSimpArgs false
namespace Go.Proofs.YtcicjpdjbfgbhaaGreatDoor
open Go.RowKit Go.Shelf
attribute [local go_sem] Oper.semAt_some
/-- what a reader's value comes to; n: how many values have begun, itself too -/
def VtR (p : Nat) (s : ByteArray) (o n : Nat) (w : World) (R : Vt.Out (PV × Nat)) (e : Ending) (w' : World) : Prop := match R with
  | .inl (a, er) => e = .panicked (wrongT (a : Int) er) ∧ w.grownBy w' (some p)
  | .inr (v, q) => (∃ v' d0 d1 d2 a len cap, e = .returned (.agg #[.int .i64 d0, .int .i64 d1, .string d2, .slice a len cap]) ∧ Fresh w.heap.size w' v' (.agg #[.int .i64 d0, .int .i64 d1, .string d2, .slice a len cap]) ∧ (n + szV v ≤ 101 → v' = v)) ∧ RV w' p s q o (n + szV v - 1) ∧ w.grownBy w' (some p)
theorem rv_other4 {W : World} {p b : Nat} {s : ByteArray} {a o n : Nat} (h : RV W p s a o n) (hne : p ≠ b) (d0 d1 d2 d3 : Value) : RV ((((W.setCell ⟨b, 0, none⟩ d0).setCell ⟨b, 1, none⟩ d1).setCell ⟨b, 2, none⟩ d2).setCell ⟨b, 3, none⟩ d3) p s a o n :=
  rv_other (rv_other (rv_other (rv_other h hne 0 d0) hne 1 d1) hne 2 d2) hne 3 d3
theorem vt_end {w W : World} {p : Nat} {s : ByteArray} {q o n : Nat} {v v' : PV} {d0 d1 : Int} {d2 : ByteArray} {a : Option Addr} {len cap : Nat} (hp : p < w.heap.size) (hR : RV W p s q o (n + szV v - 1)) (hG : w.grownBy W (some p))
    (hF : Fresh (w.heap.size + 1) W v' (.agg #[.int .i64 d0, .int .i64 d1, .string d2, .slice a len cap])) (hv : n + szV v ≤ 101 → v' = v) :
    VtR p s o n w (.inr (v, q)) (.returned (.agg #[.int .i64 d0, .int .i64 d1, .string d2, .slice a len cap])) ((((W.setCell ⟨w.heap.size, 0, none⟩ (.int .i64 d0)).setCell ⟨w.heap.size, 1, none⟩ (.int .i64 d1)).setCell ⟨w.heap.size, 2, none⟩ (.string d2)).setCell ⟨w.heap.size, 3, none⟩ (.slice a len cap)) := by
  refine ⟨⟨v', d0, d1, d2, a, len, cap, rfl, fresh_mono (fresh_later hF (by simp) fun b h1 _ => ?_) (Nat.le_succ _), hv⟩, rv_other4 hR (by omega) _ _ _ _, grown_new4 hG (Nat.le_refl _) _ _ _ _ _ _ _ _⟩
  rw [Below.heap_setCell _ _ _ b (by show b ≠ w.heap.size; omega), Below.heap_setCell _ _ _ b (by show b ≠ w.heap.size; omega), Below.heap_setCell _ _ _ b (by show b ≠ w.heap.size; omega), Below.heap_setCell _ _ _ b (by show b ≠ w.heap.size; omega)]
theorem vt_begin {w : World} {p : Nat} {s : ByteArray} {a o n a' o' n' : Nat} (hr : RV w p s a o n) (i : Nat) (c : Value) (h1 : RV (w.setCell ⟨p, i, none⟩ c) p s a' o' n') :
    RV ((w.setCell ⟨p, i, none⟩ c).alloc (.cells vzero 24)) p s a' o' n' ∧ VAt ((w.setCell ⟨p, i, none⟩ c).alloc (.cells vzero 24)) w.heap.size vzero ∧ w.grownBy ((w.setCell ⟨p, i, none⟩ c).alloc (.cells vzero 24)) (some p) ∧ ((w.setCell ⟨p, i, none⟩ c).alloc (.cells vzero 24)).heap.size = w.heap.size + 1 := by
  have hs : (w.setCell ⟨p, i, none⟩ c).heap.size = w.heap.size := by simp
  have hA := (Below.refl (w.setCell ⟨p, i, none⟩ c).heap.size (w.setCell ⟨p, i, none⟩ c)).alloc (Nat.le_refl _) (.cells vzero 24)
  have hz := vat_alloc (w.setCell ⟨p, i, none⟩ c) vzero
  rw [hs] at hz
  exact ⟨rv_below h1 hA, hz, grownV_two (grownV_set w p i c) (grownV_of_below hA _), by rw [World.size_alloc, hs]⟩
theorem vat_kept {W W' : World} {b : Nat} {cs : Array Value} {row : Option Nat} (h : VAt W b cs) (hg : W.grownBy W' row) (hne : some b ≠ row) : VAt W' b cs := (hg.block b (vat_lt h) hne).trans h
abbrev lettersC : ByteArray := ⟨#[65, 66, 67, 68, 69, 70, 71, 72, 73, 74, 75, 76, 77, 78, 79, 80, 81, 82, 83, 84, 85, 86, 87, 88, 89, 90, 97, 98, 99, 100, 101, 102, 103, 104, 105, 106, 107, 108, 109, 110, 111, 112, 113, 114, 115, 116, 117, 118, 119, 120, 121, 122]⟩
abbrev digitsC : ByteArray := ⟨#[48, 49, 50, 51, 52, 53, 54, 55, 56, 57]⟩
abbrev inNamesC : ByteArray := ⟨#[65, 66, 67, 68, 69, 70, 71, 72, 73, 74, 75, 76, 77, 78, 79, 80, 81, 82, 83, 84, 85, 86, 87, 88, 89, 90, 97, 98, 99, 100, 101, 102, 103, 104, 105, 106, 107, 108, 109, 110, 111, 112, 113, 114, 115, 116, 117, 118, 119, 120, 121, 122, 48, 49, 50, 51, 52, 53, 54, 55, 56, 57, 95, 45]⟩
theorem all_bytes {p q : Int → Bool} (h : ((List.range 256).all fun i => p (i : Int) == q (i : Int)) = true) (x : Int) (h0 : 0 ≤ x) (h1 : x ≤ 255) : p x = q x := by
  rw [List.all_eq_true] at h
  have := h x.toNat (by rw [List.mem_range]; omega)
  rw [Int.toNat_of_nonneg h0] at this
  simpa using this
theorem letters_are (x : Int) (h0 : 0 ≤ x) (h1 : x ≤ 255) : (strB lettersC).contains x = letterB x := all_bytes (p := fun x => (strB lettersC).contains x) (q := letterB) (by kernel_rfl) x h0 h1
theorem digits_are (x : Int) (h0 : 0 ≤ x) (h1 : x ≤ 255) : (strB digitsC).contains x = M.isD x := all_bytes (p := fun x => (strB digitsC).contains x) (q := M.isD) (by kernel_rfl) x h0 h1
theorem inNames_are (x : Int) (h0 : 0 ≤ x) (h1 : x ≤ 255) : (strB inNamesC).contains x = withinB x := all_bytes (p := fun x => (strB inNamesC).contains x) (q := withinB) (by kernel_rfl) x h0 h1
theorem part_sub (s : ByteArray) (a q : Nat) : strB (s.extract a q) = Vt.part (strB s) a q := strB_sub s a q
theorem part_nums (s : ByteArray) (a q : Nat) : strOfNums (Vt.part (strB s) a q) = s.extract a q := by rw [← part_sub, strOfNums_strB]
set_option maxRecDepth 100000 in
set_option maxHeartbeats 2000000 in
theorem vname_any (s : ByteArray) (p a o n : Nat) (w : World) (hsm : s.size ≤ 1000000) (hn : 1 ≤ n) (ha : a < s.size) (hr : RV w p s a o n) :
    Calls Tryz.prog 91 #[.pointer (some ⟨p, 0, none⟩)] w (VtR p s o n w (if nameB (Vt.part (strB s) (a + 1) (Vt.runTo withinB (strB s) (a + 1))) then .inr (.mk 3 0 (strOfNums (Vt.part (strB s) (a + 1) (Vt.runTo withinB (strB s) (a + 1)))) [], Vt.runTo withinB (strB s) (a + 1)) else .inl (a + 1, 2))) := by
  have hpw := rv_lt hr
  obtain ⟨hr1, hz1, hg1, hs1⟩ := vt_begin hr 1 (.int .i64 ((a : Int) + 1)) (rv_atI hr (a + 1) ((a : Int) + 1) (by push_cast; rfl))
  obtain ⟨⟨b0, b1, b2, b3⟩, e1, e2, e3⟩ := rv_cells hr
  obtain ⟨⟨c0, c1, c2, c3⟩, f1, f2, f3⟩ := rv_cells hr1
  have hRun := vrun_any inNamesC withinB inNames_are s p (a + 1) o n _ hsm (by omega) hr1
  have hrl := Vt.runTo_le withinB (strB s) (a + 1) (by rw [strB_len]; omega)
  rw [strB_len] at hrl
  obtain ⟨q, hq⟩ : ∃ q, Vt.runTo withinB (strB s) (a + 1) = q := ⟨_, rfl⟩
  rw [hq] at hRun hrl ⊢
  clear hq
  rw [part_nums, ← part_sub]
  have hN := fun w => isName_any (s.extract (a + 1) q) w (by simp; unfold maxLen; omega)
  have hC := fun w => clone_any (s.extract (a + 1) q) w (by simp; omega)
  have hxs : (s.extract (a + 1) q).size ≤ maxLen := by simp; unfold maxLen; omega
  obtain ⟨x, hx⟩ : ∃ x, s.extract (a + 1) q = x := ⟨_, rfl⟩
  simp only [hx] at hN hC hxs ⊢
  obtain ⟨g, hg⟩ : ∃ g, nameB (strB x) = g := ⟨_, rfl⟩
  simp only [hg] at hN ⊢
  unfold RunR at hRun
  rw [hx] at hRun
  cases g with
  | true =>
    simp only [if_true]
    go_enter Tryz.func91, Tryz.ntmps91
    go_wp2_with (first
      | (go_at_call 98; (with_reducible refine hRun.mono ?_); rintro e w1 ⟨rfl, hr2, hg2⟩)
      | (go_at_call 56; (with_reducible refine (hN _).mono ?_); rintro e w2 ⟨rfl, rfl⟩)
      | (go_at_call 21; (with_reducible refine (hC _).mono ?_); rintro e w3 ⟨rfl, hB3⟩; have hz3 := vat_below hB3 (vat_kept hz1 hg2 (fun e => by cases e; omega)); obtain ⟨⟨y0, y1, y2, y3⟩, x0, x1, x2, x3⟩ := box4 hz3))
    refine bodyPost_ret (results_cell_row Tryz.results91 _ _ w.heap.size _ _ _ _ rfl (vat_set4 hz3 _ _ _ _) Tryz.underlying24 rfl val4) rfl ?_
    exact vt_end (v := .mk 3 0 x []) hpw (rv_below hr2 hB3) (grownV_two (grownV_two hg1 hg2) (grownV_of_below hB3 _)) (fresh_flat _ _ 3 0 x ⟨by omega, by omega⟩ ⟨by omega, by omega⟩ hxs) (fun _ => rfl)
  | false =>
    simp only [Bool.false_eq_true, if_false]
    go_enter Tryz.func91, Tryz.ntmps91
    go_wp2_with (first
      | (go_at_call 98; (with_reducible refine hRun.mono ?_); rintro e w1 ⟨rfl, hr2, hg2⟩)
      | (go_at_call 56; (with_reducible refine (hN _).mono ?_); rintro e w2 ⟨rfl, rfl⟩))
    exact ⟨rfl, rfl, grownV_two hg1 hg2⟩
end Go.Proofs.YtcicjpdjbfgbhaaGreatDoor
