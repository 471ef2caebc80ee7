/- The contracts of package num's plain functions, and of the document's sum. -/
import Derived.Test.YtpiajoffddjjfaaGreatDoorStr
import Derived.Test.YtpiajoffddjjfaaGreatDoorNumMath
namespace Go.Proofs.YtpiajoffddjjfaaGreatDoor
open Go.RowKit Go.Shelf
theorem ret_ib {k : IntKind} {x : Int} {y : Bool} {q : Int × Bool} (h : (x, y) = q) : Ending.returned (.tuple #[.int k x, .bool y]) = .returned (.tuple #[.int k q.1, .bool q.2]) := by rw [← h]
theorem ret_ii {k l : IntKind} {x y : Int} {q : Int × Int} (h : (x, y) = q) : Ending.returned (.tuple #[.int k x, .int l y]) = .returned (.tuple #[.int k q.1, .int l q.2]) := by rw [← h]
theorem nb_t (p q : Prop) [Decidable p] [Decidable q] : ((!decide p == decide q) = true) = ¬ (p ↔ q) := by by_cases p <;> by_cases q <;> simp [*]
theorem nb_f (p q : Prop) [Decidable p] [Decidable q] : ((!decide p == decide q) = false) = (p ↔ q) := by by_cases p <;> by_cases q <;> simp [*]
theorem size_any (n : Int) (w : World) (h : -9223372036854775808 ≤ n) (h' : n ≤ 9223372036854775807) :
    Calls Tryz.prog 40 #[.int .i64 n] w fun e w' => e = .returned (.int .u64 (n.natAbs : Int)) ∧ w = w' := by
  go_enter Tryz.func40, Tryz.ntmps40
  go_wp2
  all_goals
    go_ret
    refine ⟨ret_int ?_, rfl⟩
    try simp only [IntKind.wrap_u64] at *
    omega
theorem signed_any (m : Nat) (b : Bool) (w : World) (h : (m : Int) ≤ 18446744073709551615) :
    Calls Tryz.prog 66 #[.int .u64 m, .bool b] w fun e w' => e = .returned (.tuple #[.int .i64 (M.sg m b).1, .int .i64 (M.sg m b).2]) ∧ w = w' := by
  obtain ⟨g, hg⟩ : ∃ g, M.sg m b = g := ⟨_, rfl⟩
  rw [hg]
  have HG := Lib.hid hg; clear hg
  go_enter Tryz.func66, Tryz.ntmps66
  cases b <;> go_wp2
  all_goals
    go_ret2
    refine ⟨ret_ii ?_, rfl⟩
    rw [← HG.out]
    unfold M.sg
    try simp only [IntKind.wrap_u64, wrap64] at *
    (repeat' split) <;> simp at * <;> omega
set_option maxHeartbeats 1000000 in
theorem sign_any (s : ByteArray) (p : Nat) (w : World) (hsm : s.size ≤ maxLen) (hp : p ≤ maxLen) :
    Calls Tryz.prog 65 #[.string s, .int .i64 p] w fun e w' => e = .returned (.int .i64 (M.sgn (strB s) p : Nat)) ∧ w = w' := by
  unfold maxLen at hsm hp
  rcases Nat.lt_or_ge p s.size with hlt | hge
  · have hx := strB_at s p hlt
    have hd : decide (p < s.size) = true := by simpa using hlt
    by_cases h45 : (s[p].toNat : Int) = 45
    · have hg : M.sgn (strB s) p = p + 1 := by unfold M.sgn; rw [hx, if_pos h45]
      have he : ((s[p].toNat : Int) == 45) = true := by simpa using h45
      rw [hg]; clear hg hx
      go_enter Tryz.func65, Tryz.ntmps65
      go_wp2
      go_ret
      exact ⟨ret_int (by omega), rfl⟩
    · have hg : M.sgn (strB s) p = p := by unfold M.sgn; rw [hx, if_neg h45]
      have he : ((s[p].toNat : Int) == 45) = false := by simpa using h45
      rw [hg]; clear hg hx
      go_enter Tryz.func65, Tryz.ntmps65
      go_wp2
      go_ret
      exact ⟨rfl, rfl⟩
  · have hg : M.sgn (strB s) p = p := by unfold M.sgn; rw [List.getElem?_eq_none (by rw [strB_len]; exact hge)]; rfl
    have hd : decide (p < s.size) = false := by simpa using hge
    rw [hg]; clear hg
    go_enter Tryz.func65, Tryz.ntmps65
    go_wp2
    go_ret
    exact ⟨rfl, rfl⟩
set_option maxHeartbeats 1000000 in
theorem run_any (s : ByteArray) (p : Nat) (w : World) (hsm : s.size ≤ maxLen) (hp : p ≤ s.size) :
    Calls Tryz.prog 75 #[.string s, .int .i64 p] w fun e w' => e = .returned (.int .i64 (M.runTo (strB s) p : Nat)) ∧ w = w' := by
  unfold maxLen at hsm
  obtain ⟨r, hr⟩ : ∃ r, M.runTo (strB s) p = r := ⟨_, rfl⟩
  rw [hr]
  have HR := Lib.hid hr; clear hr
  go_enter Tryz.func75, Tryz.ntmps75
  go_wp2
  go_loop [1] (fun i => ∃ q : Nat, q ≤ s.size ∧ i = .int .i64 q ∧ M.runTo (strB s) q = r) (fun i => s.size - (intOf i).toNat)
  case atStart => exact ⟨p, hp, rfl, HR.out⟩
  case round =>
    obtain ⟨q, hq, rfl, hrq⟩ := hrel
    rcases Nat.lt_or_ge q s.size with hlt | hge
    · have hx := strB_at s q hlt
      have hd : decide (q < s.size) = true := by simpa using hlt
      by_cases hdg : M.isD (s[q].toNat : Int) = true
      · have hstep := M.runTo_step (strB s) q (by rw [strB_len]; exact hlt) (by rw [hx]; exact hdg)
        rw [hrq] at hstep
        have HS := Lib.hid hstep; clear hstep hrq hx
        simp [M.isD] at hdg
        have h1 : decide (48 ≤ (s[q].toNat : Int)) = true := by simp; omega
        have h2 : decide ((s[q].toNat : Int) ≤ 57) = true := by simp; omega
        go_wp2
        go_round
        case rel => exact ⟨q + 1, by omega, by go_num, HS.out.symm⟩
        case measure => simp [intOf]; omega
      · have hstop := M.runTo_stop (strB s) q (fun _ => by rw [hx]; simpa using hdg)
        rw [hrq] at hstop
        have HS := Lib.hid hstop; clear hstop hrq hx
        simp [M.isD] at hdg
        go_wp2
        all_goals (first | (exfalso; omega) | (go_ret; exact ⟨ret_int (by rw [HS.out]), rfl⟩))
    · have hstop := M.runTo_stop (strB s) q (fun h => by rw [strB_len] at h; omega)
      rw [hrq] at hstop
      have HS := Lib.hid hstop; clear hstop hrq
      have hd : decide (q < s.size) = false := by simpa using hge
      go_wp2
      go_ret
      exact ⟨ret_int (by rw [HS.out]), rfl⟩
set_option maxHeartbeats 1000000 in
theorem formed_any (s : ByteArray) (w : World) (hsm : s.size ≤ maxLen) :
    Calls Tryz.prog 64 #[.string s] w fun e w' => e = .returned (.bool (decide (M.formed (strB s)))) ∧ w = w' := by
  have hsg := sign_any s 0 w hsm (Nat.zero_le _)
  rw [show ((0 : Nat) : Int) = 0 from rfl] at hsg
  have hsl := M.sgn_le (strB s) 0 (Nat.zero_le _)
  have hf : M.formed (strB s) ↔ M.sgn (strB s) 0 < s.size ∧ M.runTo (strB s) (M.sgn (strB s) 0) = s.size ∧ ((strB s)[M.sgn (strB s) 0]?.getD 0 ≠ 48 ∨ strB s = [48]) := by unfold M.formed; rw [strB_len]
  obtain ⟨p, hp⟩ : ∃ p, M.sgn (strB s) 0 = p := ⟨_, rfl⟩
  rw [hp] at hsg hsl hf
  rw [strB_len] at hsl
  have hrn := fun w => run_any s p w hsm hsl.2.1
  have hrl := M.runTo_le (strB s) p (by rw [strB_len]; exact hsl.2.1)
  obtain ⟨q, hq⟩ : ∃ q, M.runTo (strB s) p = q := ⟨_, rfl⟩
  simp only [hq] at hrn hrl hf
  rw [strB_len] at hrl
  have HP := Lib.hid hp; clear hp
  have HQ := Lib.hid hq; clear hq
  unfold maxLen at hsm
  obtain ⟨g, hg⟩ : ∃ g, decide (M.formed (strB s)) = g := ⟨_, rfl⟩
  rw [hg]
  have hz : s.toList = [48] ↔ strB s = [48] := toList_lit s [48] [48] rfl (by decide)
  rcases Nat.lt_or_ge p s.size with hlt | hge
  · have hx := strB_at s p hlt
    rw [hx] at hf
    rw [← hz] at hf
    clear hx hz
    have hgf : g = true ↔ (q = s.size ∧ ((s[p].toNat : Int) ≠ 48 ∨ s.toList = [48])) := by rw [← hg, decide_eq_true_iff, hf]; exact ⟨fun h => h.2, fun h => ⟨hlt, h⟩⟩
    clear hf hg
    have HGF := Lib.hid hgf; clear hgf
    have hd : ((p : Int) == (s.size : Int)) = false := by simp; omega
    go_enter Tryz.func64, Tryz.ntmps64
    go_wp2_with (first | (go_at_call 65; (with_reducible refine hsg.mono ?_); rintro e w' ⟨rfl, rfl⟩) | (go_at_call 75; (with_reducible refine (hrn _).mono ?_); rintro e w' ⟨rfl, rfl⟩))
    all_goals go_ret
    all_goals refine ⟨ret_bool ?_, rfl⟩
    all_goals
      have hgf := HGF.out
      rw [Bool.eq_iff_iff, hgf]
      by_cases hT : s.toList = [48] <;> simp [hT] <;> omega
  · have hg' : g = false := by rw [← hg]; simp; intro h; rw [hf] at h; omega
    subst hg'
    clear hg hf hz
    have hd : ((p : Int) == (s.size : Int)) = true := by simp; omega
    go_enter Tryz.func64, Tryz.ntmps64
    go_wp2_with (first | (go_at_call 65; (with_reducible refine hsg.mono ?_); rintro e w' ⟨rfl, rfl⟩))
    go_ret
    exact ⟨rfl, rfl⟩
theorem ret_str {a b : ByteArray} (h : a = b) : Ending.returned (.string a) = .returned (.string b) := by rw [h]
def Prt (w : World) (n : Int) (e : Ending) (w' : World) : Prop := e = .returned (.string (strOfNums (M.prt n))) ∧ Below w.heap.size w w'
theorem prt_bytes (n : Int) : ∀ x ∈ M.prt n, 0 ≤ x ∧ x ≤ 255 := by
  intro x hx
  unfold M.prt at hx
  rw [List.mem_append] at hx
  rcases hx with hx | hx
  · split at hx <;> simp at hx; omega
  · have := M.D_digits _ x hx
    simp [M.isD] at this; omega
end Go.Proofs.YtpiajoffddjjfaaGreatDoor

/- Package num's Parse and Scan. -/
namespace Go.Proofs.YtpiajoffddjjfaaGreatDoor
open Go.RowKit Go.Shelf
/-- so many digits' number, and the next digit's place -/
theorem M.next (l : List Int) (h : ∀ x ∈ l, M.isD x = true) (k : Nat) (hk : k < l.length) : 48 ≤ l[k]?.getD 0 ∧ l[k]?.getD 0 ≤ 57 ∧
    M.val (l.take (k + 1)) = M.val (l.take k) * 10 + (l[k]?.getD 0 - 48).toNat ∧ M.val (l.take k) < 10 ^ k := by
  have hm : l[k]?.getD 0 ∈ l := by rw [List.getElem?_eq_getElem hk]; exact List.getElem_mem hk
  have h1 := h _ hm
  simp [M.isD] at h1
  refine ⟨h1.1, h1.2, ?_, ?_⟩
  · rw [take_succ_getD l k hk, M.val_snoc]
  · have := M.val_lt (l.take k) (fun x hx => h x (List.mem_of_mem_take hx))
    rwa [List.length_take, Nat.min_eq_left (by omega)] at this
set_option maxHeartbeats 1000000 in
theorem numParse_any (s : ByteArray) (w : World) (hsm : s.size ≤ maxLen) :
    Calls Tryz.prog 57 #[.string s] w fun e w' => e = .returned (.tuple #[.int .i64 (M.parse (strB s)).1, .int .i64 (M.parse (strB s)).2]) ∧ w = w' := by
  have hfo := formed_any s w hsm
  have hsg := sign_any s 0 w hsm (Nat.zero_le _)
  rw [show ((0 : Nat) : Int) = 0 from rfl] at hsg
  by_cases hf : M.formed (strB s)
  · have hfd : decide (M.formed (strB s)) = true := decide_eq_true hf
    rw [hfd] at hfo
    have hfm := M.formed_fm _ hf
    have hsl := M.sgn_le (strB s) 0 (Nat.zero_le _)
    rw [strB_len] at hsl
    have hpa : M.parse (strB s) = M.sg (M.val ((strB s).drop (M.sgn (strB s) 0))) (decide (0 < M.sgn (strB s) 0)) := by unfold M.parse; rw [if_pos hf]
    obtain ⟨p, hp⟩ : ∃ p, M.sgn (strB s) 0 = p := ⟨_, rfl⟩
    rw [hp] at hsg hsl hpa hfm
    obtain ⟨l, hl⟩ : ∃ l, (strB s).drop p = l := ⟨_, rfl⟩
    have hll : l.length = s.size - p := by rw [← hl]; simp [strB_len]
    have hlx : ∀ k, l[k]?.getD 0 = (strB s)[p + k]?.getD 0 := fun k => by rw [← hl]; simp
    rw [hl] at hpa hfm
    unfold maxLen at hsm
    obtain ⟨g, hg⟩ : ∃ g, M.parse (strB s) = g := ⟨_, rfl⟩
    rw [hg] at hpa ⊢
    clear hfd hf hp hl hg
    by_cases h19 : s.size - p > 19
    · have hv := M.long_val l hfm (by omega)
      obtain rfl : g = (0, 5) := by rw [hpa]; unfold M.sg; split <;> (rw [if_neg (by omega)])
      have hd : decide (19 < (s.size : Int) - p) = true := by simp; omega
      have HPA := Lib.hid hpa; clear hpa
      have HFM := Lib.hid hfm; clear hfm
      go_enter Tryz.func57, Tryz.ntmps57
      go_wp2_with (first | (go_at_call 64; (with_reducible refine hfo.mono ?_); rintro e w' ⟨rfl, rfl⟩) | (go_at_call 65; (with_reducible refine hsg.mono ?_); rintro e w' ⟨rfl, rfl⟩))
      go_ret2
      exact ⟨rfl, rfl⟩
    · have hd : decide (19 < (s.size : Int) - p) = false := by simp; omega
      have HPA := Lib.hid hpa; clear hpa
      have hnx := M.next l hfm.2.1
      have HFM := Lib.hid hfm; clear hfm
      have hsn := fun w => signed_any (M.val l) (decide (0 < p)) w
      rw [← HPA.out] at hsn
      have hvl : (M.val l : Int) ≤ 18446744073709551615 := by
        have := M.val_lt l HFM.out.2.1
        have := Nat.pow_le_pow_right (show 0 < 10 by omega) (show l.length ≤ 19 by omega)
        omega
      go_enter Tryz.func57, Tryz.ntmps57
      go_wp2_with (first | (go_at_call 64; (with_reducible refine hfo.mono ?_); rintro e w' ⟨rfl, rfl⟩) | (go_at_call 65; (with_reducible refine hsg.mono ?_); rintro e w' ⟨rfl, rfl⟩))
      go_loop [5, 6] (fun m i => ∃ k : Nat, k ≤ s.size - p ∧ m = .int .u64 (M.val (l.take k) : Nat) ∧ i = .int .i64 (p + k : Nat)) (fun _ i => s.size - (intOf i).toNat)
      case atStart => exact ⟨0, Nat.zero_le _, rfl, rfl⟩
      case round =>
        obtain ⟨k, hk, rfl, rfl⟩ := hrel
        rcases Nat.lt_or_ge k (s.size - p) with hlt | hge
        · obtain ⟨hx0, hx1, hv, hvb⟩ := hnx k (by omega)
          have hpk : p + k < s.size := by omega
          rw [hlx k, strB_at s (p + k) hpk] at hx0 hx1 hv
          have hb := Nat.pow_le_pow_right (show 0 < 10 by omega) (show k ≤ 18 by omega)
          have hb : M.val (l.take k) ≤ 1000000000000000000 := by omega
          have HV := Lib.hid hv; clear hv hnx
          obtain ⟨v, hve⟩ : ∃ v, M.val (l.take k) = v := ⟨_, rfl⟩
          rw [hve] at hb hvb HV ⊢
          have HVE := Lib.hid hve; clear hve hvb
          have hd2 : decide (p + k < s.size) = true := by simpa using hpk
          go_wp2
          go_round
          case rel => exact ⟨k + 1, by omega, by rw [HV.out]; go_num, by go_num⟩
          case measure => simp [intOf]; omega
        · obtain rfl : k = s.size - p := by omega
          have hd2 : decide (p + (s.size - p) < s.size) = false := by simp; omega
          have hv : M.val (l.take (s.size - p)) = M.val l := by rw [List.take_of_length_le (by omega)]
          rw [hv]; clear hv hnx
          go_wp2_with (first | (go_at_call 66; (with_reducible refine (hsn _ hvl).mono ?_); rintro e w' ⟨rfl, rfl⟩))
          go_ret2
          exact ⟨rfl, rfl⟩
  · have hfd : decide (M.formed (strB s)) = false := decide_eq_false hf
    rw [hfd] at hfo
    have hpa : M.parse (strB s) = (0, 2) := by unfold M.parse; rw [if_neg hf]
    rw [hpa]
    clear hpa hfd hf hsg
    go_enter Tryz.func57, Tryz.ntmps57
    go_wp2_with (first | (go_at_call 64; (with_reducible refine hfo.mono ?_); rintro e w' ⟨rfl, rfl⟩))
    go_ret2
    exact ⟨rfl, rfl⟩
theorem strB_sub (s : ByteArray) (a e : Nat) : strB (s.extract a e) = ((strB s).take e).drop a := by
  simp [strB, List.drop_take, List.map_take, List.map_drop]
theorem ret_iii {k l m : IntKind} {a b c : Int} {q : Int × Int × Int} (h : (a, b, c) = q) : Ending.returned (.tuple #[.int k a, .int l b, .int m c]) = .returned (.tuple #[.int k q.1, .int l q.2.1, .int m q.2.2]) := by rw [← h]
theorem sub_size (s : ByteArray) (a e : Nat) (h : e ≤ s.size) : (s.extract a e).size = e - a := by simp; omega
end Go.Proofs.YtpiajoffddjjfaaGreatDoor
