/- Layer 14: skip, run. -/
import Derived.Test.YtcicjpdjbfgbhaaDoorMh22Cell
import Derived.Deep.QuietTactic
import Derived.BigQuiet
set_option linter.unusedVariables false
set_option linter.unusedSimpArgs false
namespace Go.Proofs.YtcicjpdjbfgbhaaDoor
open Go.RowKit Go.Shelf
attribute [local go_sem] Oper.semAt_some
theorem rv_atI {w : World} {p : Nat} {s : ByteArray} {a o n : Nat} (h : RV w p s a o n) (q : Nat) (z : Int) (hz : z = (q : Int)) : RV (w.setCell ⟨p, 1, none⟩ (.int .i64 z)) p s q o n := by subst hz; exact rv_at h q
theorem rv_openI {w : World} {p : Nat} {s : ByteArray} {a o n : Nat} (h : RV w p s a o n) (q : Nat) (z : Int) (hz : z = (q : Int)) : RV (w.setCell ⟨p, 2, none⟩ (.int .i64 z)) p s a q n := by subst hz; exact rv_open h q
theorem rv_nodesI {w : World} {p : Nat} {s : ByteArray} {a o n : Nat} (h : RV w p s a o n) (q : Nat) (z : Int) (hz : z = (q : Int)) : RV (w.setCell ⟨p, 3, none⟩ (.int .i64 z)) p s a o q := by subst hz; exact rv_nodes h q
/-- the reader goes on by one -/
def StepR (p : Nat) (s : ByteArray) (a o n : Nat) (w : World) (b : Bool) (e : Ending) (w' : World) : Prop :=
  if b then (∃ v, e = .returned v) ∧ RV w' p s (a + 1) o n ∧ w.grownBy w' (some p) else e = .panicked (wrongT a 2) ∧ w.grownBy w' (some p)
set_option maxRecDepth 100000 in
theorem skip_any (s : ByteArray) (p a o n : Nat) (w : World) (hsm : s.size ≤ 1000000) (ha : a < s.size) (hr : RV w p s a o n) :
    Calls Tryd.prog 88 #[.pointer (some ⟨p, 0, none⟩)] w (StepR p s a o n w (decide (a + 1 < s.size ∧ ((strB s)[a + 1]?.getD 0 = 34 ∨ (strB s)[a + 1]?.getD 0 = 92)))) := by
  obtain ⟨⟨c0, c1, c2, c3⟩, f1, f2, f3⟩ := rv_cells hr
  have hsz : (s.extract (a + 1) s.size).size = s.size - (a + 1) := by simp
  by_cases h : a + 1 < s.size
  · have hx := strB_at s (a + 1) h
    have hbx := u8_bd s[a + 1]
    have hW := fun w => vwithin_any ⟨#[34, 92]⟩ (s[a + 1].toNat : Int) w hbx.1 hbx.2
    have e2 : (strB ⟨#[34, 92]⟩) = [34, 92] := rfl
    simp only [e2] at hW
    have hne : (s.extract (a + 1) s.size).toList.isEmpty = false := toList_full (by rw [hsz]; omega)
    have hix : 0 < (s.extract (a + 1) s.size).size := by rw [hsz]; omega
    have hget : (s.extract (a + 1) s.size)[0] = s[a + 1] := by simp [ByteArray.getElem_eq_getElem_data]
    by_cases hc : (s[a + 1].toNat : Int) = 34 ∨ (s[a + 1].toNat : Int) = 92
    · have hd : decide (a + 1 < s.size ∧ ((strB s)[a + 1]?.getD 0 = 34 ∨ (strB s)[a + 1]?.getD 0 = 92)) = true := by rw [hx]; simp only [decide_eq_true_eq]; exact ⟨h, hc⟩
      rw [hd]
      have hcon : [(34 : Int), 92].contains (s[a + 1].toNat : Int) = true := by rw [List.contains_iff_mem]; rcases hc with h | h <;> simp [h]
      simp only [hcon] at hW
      unfold StepR
      simp only [if_true]
      clear hx hd hcon
      have HC := Lib.hid hc; clear hc
      go_enter Tryd.func88, Tryd.ntmps88
      go_wp2
      go_region
      go_wp2_with (go_at_call 84; (with_reducible refine (hW _).mono ?_); rintro e w' ⟨rfl, rfl⟩)
      refine bodyPost_end (results_none rfl _ _ _) rfl ?_
      exact ⟨⟨_, rfl⟩, rv_atI (rv_drew hr 1) (a + 1) _ (by push_cast; rfl), grownV_two (grownV_drew w 1 _) (grownV_set _ p 1 _)⟩
    · have hd : decide (a + 1 < s.size ∧ ((strB s)[a + 1]?.getD 0 = 34 ∨ (strB s)[a + 1]?.getD 0 = 92)) = false := by rw [hx]; simp only [decide_eq_false_iff_not]; exact fun k => hc k.2
      rw [hd]
      have hcon : [(34 : Int), 92].contains (s[a + 1].toNat : Int) = false := by
        rw [Bool.eq_false_iff]
        intro k
        rw [List.contains_iff_mem] at k
        simp at k
        exact hc (by omega)
      simp only [hcon] at hW
      unfold StepR
      simp only [Bool.false_eq_true, if_false]
      clear hx hd hcon
      have HC := Lib.hid hc; clear hc
      go_enter Tryd.func88, Tryd.ntmps88
      go_wp2
      go_region
      go_wp2_with (go_at_call 84; (with_reducible refine (hW _).mono ?_); rintro e w' ⟨rfl, rfl⟩)
      exact ⟨rfl, rfl, grownV_drew w 1 _⟩
  · have hd : decide (a + 1 < s.size ∧ ((strB s)[a + 1]?.getD 0 = 34 ∨ (strB s)[a + 1]?.getD 0 = 92)) = false := by simp only [decide_eq_false_iff_not]; omega
    rw [hd]
    have hne : (s.extract (a + 1) s.size).toList.isEmpty = true := toList_empty (by rw [hsz]; omega)
    unfold StepR
    simp only [Bool.false_eq_true, if_false]
    clear hr
    go_enter Tryd.func88, Tryd.ntmps88
    go_wp2
    go_region
    go_wp2
    exact ⟨rfl, rfl, grownV_drew w 1 _⟩
/-- what run comes to -/
def RunR (p : Nat) (s : ByteArray) (a q o n : Nat) (w : World) (e : Ending) (w' : World) : Prop := e = .returned (.string (s.extract a q)) ∧ RV w' p s q o n ∧ w.grownBy w' (some p)
set_option maxRecDepth 100000 in
set_option maxHeartbeats 2000000 in
theorem vrun_any (c : ByteArray) (f : Int → Bool) (hf : ∀ x, 0 ≤ x → x ≤ 255 → (strB c).contains x = f x) (s : ByteArray) (p a o n : Nat) (w : World) (hsm : s.size ≤ 1000000) (ha : a ≤ s.size) (hr : RV w p s a o n) :
    Calls Tryd.prog 89 #[.pointer (some ⟨p, 0, none⟩), .string c] w (RunR p s a (Vt.runTo f (strB s) a) o n w) := by
  have hW : ∀ x w, 0 ≤ x → x ≤ 255 → Calls Tryd.prog 84 #[.string c, .int .u8 x] w fun e w' => e = .returned (.bool (f x)) ∧ w = w' := fun x w h0 h1 => (vwithin_any c x w h0 h1).mono fun e w' h => by rw [hf x h0 h1] at h; exact h
  obtain ⟨r, hr'⟩ : ∃ r, Vt.runTo f (strB s) a = r := ⟨_, rfl⟩
  rw [hr']
  have hrl := Vt.runTo_le f (strB s) a (by rw [strB_len]; exact ha)
  rw [hr', strB_len] at hrl
  have HR := Lib.hid hr'; clear hr'
  obtain ⟨⟨c0, c1, c2, c3⟩, f1, f2, f3⟩ := rv_cells hr
  unfold RunR
  go_enter Tryd.func89, Tryd.ntmps89
  go_wp2
  go_loopw [] (fun wr => ∃ q : Nat, a ≤ q ∧ q ≤ s.size ∧ RV wr p s q o n ∧ w.grownBy wr (some p) ∧ Hid (Vt.runTo f (strB s) q = r)) (fun wr => s.size - (match wr.cell? ⟨p, 1, none⟩ with | some (.int _ q) => q.toNat | _ => 0))
  case atStart => exact ⟨a, Nat.le_refl _, ha, hr, grownV_rfl _ _, HR⟩
  case round =>
    clear hr c0 c1 c2 c3 f1 f2 f3
    obtain ⟨q, haq, hq, hr, hg, HQ⟩ := hrel
    obtain ⟨⟨c0, c1, c2, c3⟩, f1, f2, f3⟩ := rv_cells hr
    have hms : ∀ (W : World) (x : Nat), W.cell? ⟨p, 1, none⟩ = some (.int .i64 (x : Int)) → s.size - (match W.cell? ⟨p, 1, none⟩ with | some (.int _ q) => q.toNat | _ => 0) = s.size - x := fun W x h => by rw [h]; simp
    by_cases hlt : q < s.size
    · have hx := strB_at s q hlt
      have hu := u8_bd s[q]
      have hWx := fun k => (hW (s[q].toNat : Int) (wr.drewN k) hu.1 hu.2).mono fun e w' h => (⟨h.1, k, h.2.symm⟩ : e = _ ∧ ∃ m, w' = wr.drewN m)
      have d1 : decide (q < s.size) = true := by simpa using hlt
      by_cases hdg : f (s[q].toNat : Int) = true
      · have hstep := Vt.runTo_step f (strB s) q (by rw [strB_len]; exact hlt) (by rw [hx]; exact hdg)
        rw [HQ.out] at hstep
        simp only [hdg] at hWx
        have HS := Lib.hid hstep; clear hstep hx hdg hu
        have HM := Lib.hid hms; clear hms
        have HG := Lib.hid hg; clear hg
        clear hW hf
        go_wp2
        go_quiet (first | (go_at_call 84; exact hWx _))
        go_wp2_with fail
        go_roundw
        case rel => exact ⟨q + 1, by omega, by omega, rv_atI (rv_drew hr _) (q + 1) _ (by push_cast; rfl), grownV_two HG.out (grownV_two (grownV_drew _ _ _) (grownV_set _ p 1 _)), Lib.hid HS.out.symm⟩
        case measure =>
          have hr1 := rv_atI (rv_drew hr 0) (q + 1) _ rfl
          rw [HM.out wr q c1, HM.out _ (q + 1) (rv_cells (rv_atI (rv_drew hr _) (q + 1) _ (by push_cast; rfl))).1.2.1]
          omega
      · have hstop := Vt.runTo_stop f (strB s) q (fun _ => by rw [hx]; simpa using hdg)
        rw [HQ.out] at hstop
        have hdf : f (s[q].toNat : Int) = false := by simpa using hdg
        simp only [hdf] at hWx
        clear hx hdg hu hms hW hf hdf HR HQ
        subst hstop
        go_wp2
        go_quiet (first | (go_at_call 84; exact hWx _))
        go_wp2_with fail
        go_region
        go_wp2_with fail
        go_ret
        exact ⟨rfl, rv_drew (rv_drew hr _) 1, grownV_two hg (grownV_two (grownV_drew _ _ _) (grownV_drew _ 1 _))⟩
    · have hqe : q = s.size := by omega
      have hstop := Vt.runTo_stop f (strB s) q (fun k => by rw [strB_len] at k; omega)
      rw [HQ.out] at hstop
      have d1 : decide (q < s.size) = false := by simpa using hlt
      clear hms hW hf HR HQ
      subst hqe
      subst hstop
      go_wp2
      go_quiet (fail)
      go_wp2_with fail
      go_region
      go_wp2_with fail
      go_ret
      exact ⟨rfl, rv_drew (rv_drew hr _) 1, grownV_two hg (grownV_two (grownV_drew _ _ _) (grownV_drew _ 1 _))⟩
end Go.Proofs.YtcicjpdjbfgbhaaDoor
