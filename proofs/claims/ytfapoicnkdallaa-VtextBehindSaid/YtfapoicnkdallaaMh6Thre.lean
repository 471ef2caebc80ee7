/- The contracts of package num's plain functions, and of the document's sum. -/
import Derived.Test.YtfapoicnkdallaaMh1Thre
import Derived.Test.YtfapoicnkdallaaMh5Thre
namespace Go.Proofs.Ytfapoicnkdallaa
open Go.RowKit Go.Shelf
theorem ret_ii {k l : IntKind} {x y : Int} {q : Int × Int} (h : (x, y) = q) : Ending.returned (.tuple #[.int k x, .int l y]) = .returned (.tuple #[.int k q.1, .int l q.2]) := by rw [← h]
theorem size_any (n : Int) (w : World) (h : -9223372036854775808 ≤ n) (h' : n ≤ 9223372036854775807) :
    Calls Try.prog 61 #[.int .i64 n] w fun e w' => e = .returned (.int .u64 (n.natAbs : Int)) ∧ w = w' := by
  go_enter Try.func61, Try.ntmps61
  go_wp2
  all_goals
    go_ret
    refine ⟨ret_int ?_, rfl⟩
    try simp only [IntKind.wrap_u64] at *
    omega
theorem signed_any (m : Nat) (b : Bool) (w : World) (h : (m : Int) ≤ 18446744073709551615) :
    Calls Try.prog 93 #[.int .u64 m, .bool b] w fun e w' => e = .returned (.tuple #[.int .i64 (M.sg m b).1, .int .i64 (M.sg m b).2]) ∧ w = w' := by
  obtain ⟨g, hg⟩ : ∃ g, M.sg m b = g := ⟨_, rfl⟩
  rw [hg]
  have HG := Lib.hid hg; clear hg
  go_enter Try.func93, Try.ntmps93
  cases b <;> go_wp2
  all_goals
    go_ret2
    refine ⟨ret_ii ?_, rfl⟩
    rw [← HG.out]
    unfold M.sg
    try simp only [IntKind.wrap_u64, wrap64] at *
    (repeat' split) <;> simp at * <;> omega
set_option maxHeartbeats 1000000 in
theorem sign_any (s : ByteArray) (p : Nat) (w : World) (hsm : s.size ≤ maxLen) (hp : p ≤ maxLen) :
    Calls Try.prog 87 #[.string s, .int .i64 p] w fun e w' => e = .returned (.int .i64 (M.sgn (strB s) p : Nat)) ∧ w = w' := by
  unfold maxLen at hsm hp
  rcases Nat.lt_or_ge p s.size with hlt | hge
  · have hx := strB_at s p hlt
    have hd : decide (p < s.size) = true := by simpa using hlt
    by_cases h45 : (s[p].toNat : Int) = 45
    · have hg : M.sgn (strB s) p = p + 1 := by unfold M.sgn; rw [hx, if_pos h45]
      have he : ((s[p].toNat : Int) == 45) = true := by simpa using h45
      rw [hg]; clear hg hx
      go_enter Try.func87, Try.ntmps87
      go_wp2
      go_ret
      exact ⟨ret_int (by omega), rfl⟩
    · have hg : M.sgn (strB s) p = p := by unfold M.sgn; rw [hx, if_neg h45]
      have he : ((s[p].toNat : Int) == 45) = false := by simpa using h45
      rw [hg]; clear hg hx
      go_enter Try.func87, Try.ntmps87
      go_wp2
      go_ret
      exact ⟨rfl, rfl⟩
  · have hg : M.sgn (strB s) p = p := by unfold M.sgn; rw [List.getElem?_eq_none (by rw [strB_len]; exact hge)]; rfl
    have hd : decide (p < s.size) = false := by simpa using hge
    rw [hg]; clear hg
    go_enter Try.func87, Try.ntmps87
    go_wp2
    go_ret
    exact ⟨rfl, rfl⟩
set_option maxHeartbeats 1000000 in
theorem run_any (s : ByteArray) (p : Nat) (w : World) (hsm : s.size ≤ maxLen) (hp : p ≤ s.size) :
    Calls Try.prog 86 #[.string s, .int .i64 p] w fun e w' => e = .returned (.int .i64 (M.runTo (strB s) p : Nat)) ∧ w = w' := by
  unfold maxLen at hsm
  obtain ⟨r, hr⟩ : ∃ r, M.runTo (strB s) p = r := ⟨_, rfl⟩
  rw [hr]
  have HR := Lib.hid hr; clear hr
  go_enter Try.func86, Try.ntmps86
  go_wp2
  go_loop [1] (fun i => ∃ q : Nat, q ≤ s.size ∧ i = .int .i64 q ∧ M.runTo (strB s) q = r) (fun i => s.size - (intOf i).toNat)
  case atStart => exact ⟨p, hp, rfl, HR.out⟩
  case round =>
    obtain ⟨q, hq, rfl, hrq⟩ := hrel
    rcases Nat.lt_or_ge q s.size with hlt | hge
    · have hx := strB_at s q hlt
      have hd : decide (q < s.size) = true := by simpa using hlt
      by_cases hdg : M.isD (s[q].toNat : Int) = true
      · have hstep := M.runTo_step (strB s) q (by rw [strB_len]; exact hlt) (by rw [hx]; exact hdg)
        rw [hrq] at hstep
        have HS := Lib.hid hstep; clear hstep hrq hx
        simp [M.isD] at hdg
        have h1 : decide (48 ≤ (s[q].toNat : Int)) = true := by simp; omega
        have h2 : decide ((s[q].toNat : Int) ≤ 57) = true := by simp; omega
        go_wp2
        go_round
        case rel => exact ⟨q + 1, by omega, by go_num, HS.out.symm⟩
        case measure => simp [intOf]; omega
      · have hstop := M.runTo_stop (strB s) q (fun _ => by rw [hx]; simpa using hdg)
        rw [hrq] at hstop
        have HS := Lib.hid hstop; clear hstop hrq hx
        simp [M.isD] at hdg
        go_wp2
        all_goals (first | (exfalso; omega) | (go_ret; exact ⟨ret_int (by rw [HS.out]), rfl⟩))
    · have hstop := M.runTo_stop (strB s) q (fun h => by rw [strB_len] at h; omega)
      rw [hrq] at hstop
      have HS := Lib.hid hstop; clear hstop hrq
      have hd : decide (q < s.size) = false := by simpa using hge
      go_wp2
      go_ret
      exact ⟨ret_int (by rw [HS.out]), rfl⟩
set_option maxHeartbeats 1000000 in
theorem formed_any (s : ByteArray) (w : World) (hsm : s.size ≤ maxLen) :
    Calls Try.prog 92 #[.string s] w fun e w' => e = .returned (.bool (decide (M.formed (strB s)))) ∧ w = w' := by
  have hsg := sign_any s 0 w hsm (Nat.zero_le _)
  rw [show ((0 : Nat) : Int) = 0 from rfl] at hsg
  have hsl := M.sgn_le (strB s) 0 (Nat.zero_le _)
  have hf : M.formed (strB s) ↔ M.sgn (strB s) 0 < s.size ∧ M.runTo (strB s) (M.sgn (strB s) 0) = s.size ∧ ((strB s)[M.sgn (strB s) 0]?.getD 0 ≠ 48 ∨ strB s = [48]) := by unfold M.formed; rw [strB_len]
  obtain ⟨p, hp⟩ : ∃ p, M.sgn (strB s) 0 = p := ⟨_, rfl⟩
  rw [hp] at hsg hsl hf
  rw [strB_len] at hsl
  have hrn := fun w => run_any s p w hsm hsl.2.1
  have hrl := M.runTo_le (strB s) p (by rw [strB_len]; exact hsl.2.1)
  obtain ⟨q, hq⟩ : ∃ q, M.runTo (strB s) p = q := ⟨_, rfl⟩
  simp only [hq] at hrn hrl hf
  rw [strB_len] at hrl
  have HP := Lib.hid hp; clear hp
  have HQ := Lib.hid hq; clear hq
  unfold maxLen at hsm
  obtain ⟨g, hg⟩ : ∃ g, decide (M.formed (strB s)) = g := ⟨_, rfl⟩
  rw [hg]
  have hz : s.toList = [48] ↔ strB s = [48] := toList_lit s [48] [48] rfl (by decide)
  rcases Nat.lt_or_ge p s.size with hlt | hge
  · have hx := strB_at s p hlt
    rw [hx] at hf
    rw [← hz] at hf
    clear hx hz
    have hgf : g = true ↔ (q = s.size ∧ ((s[p].toNat : Int) ≠ 48 ∨ s.toList = [48])) := by rw [← hg, decide_eq_true_iff, hf]; exact ⟨fun h => h.2, fun h => ⟨hlt, h⟩⟩
    clear hf hg
    have HGF := Lib.hid hgf; clear hgf
    have hd : ((p : Int) == (s.size : Int)) = false := by simp; omega
    go_enter Try.func92, Try.ntmps92
    go_wp2_with (first | (go_at_call 87; (with_reducible refine hsg.mono ?_); rintro e w' ⟨rfl, rfl⟩) | (go_at_call 86; (with_reducible refine (hrn _).mono ?_); rintro e w' ⟨rfl, rfl⟩))
    all_goals go_ret
    all_goals refine ⟨ret_bool ?_, rfl⟩
    all_goals
      have hgf := HGF.out
      rw [Bool.eq_iff_iff, hgf]
      by_cases hT : s.toList = [48] <;> simp [hT] <;> omega
  · have hg' : g = false := by rw [← hg]; simp; intro h; rw [hf] at h; omega
    subst hg'
    clear hg hf hz
    have hd : ((p : Int) == (s.size : Int)) = true := by simp; omega
    go_enter Try.func92, Try.ntmps92
    go_wp2_with (first | (go_at_call 87; (with_reducible refine hsg.mono ?_); rintro e w' ⟨rfl, rfl⟩))
    go_ret
    exact ⟨rfl, rfl⟩
def Prt (w : World) (n : Int) (e : Ending) (w' : World) : Prop := e = .returned (.string (strOfNums (M.prt n))) ∧ Below w.heap.size w w'
theorem prt_bytes (n : Int) : ∀ x ∈ M.prt n, 0 ≤ x ∧ x ≤ 255 := by
  intro x hx
  unfold M.prt at hx
  rw [List.mem_append] at hx
  rcases hx with hx | hx
  · split at hx <;> simp at hx; omega
  · have := M.D_digits _ x hx
    simp [M.isD] at this; omega
end Go.Proofs.Ytfapoicnkdallaa
