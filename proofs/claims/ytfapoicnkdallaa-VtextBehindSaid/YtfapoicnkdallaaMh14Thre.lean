/- Package num's Parse and Scan. -/
import Derived.Test.YtfapoicnkdallaaMh6Thre
namespace Go.Proofs.Ytfapoicnkdallaa
open Go.RowKit Go.Shelf
/-- so many digits' number, and the next digit's place -/
theorem M.next (l : List Int) (h : ∀ x ∈ l, M.isD x = true) (k : Nat) (hk : k < l.length) : 48 ≤ l[k]?.getD 0 ∧ l[k]?.getD 0 ≤ 57 ∧
    M.val (l.take (k + 1)) = M.val (l.take k) * 10 + (l[k]?.getD 0 - 48).toNat ∧ M.val (l.take k) < 10 ^ k := by
  have hm : l[k]?.getD 0 ∈ l := by rw [List.getElem?_eq_getElem hk]; exact List.getElem_mem hk
  have h1 := h _ hm
  simp [M.isD] at h1
  refine ⟨h1.1, h1.2, ?_, ?_⟩
  · rw [take_succ_getD l k hk, M.val_snoc]
  · have := M.val_lt (l.take k) (fun x hx => h x (List.mem_of_mem_take hx))
    rwa [List.length_take, Nat.min_eq_left (by omega)] at this
set_option maxHeartbeats 1000000 in
theorem numParse_any (s : ByteArray) (w : World) (hsm : s.size ≤ maxLen) :
    Calls Try.prog 88 #[.string s] w fun e w' => e = .returned (.tuple #[.int .i64 (M.parse (strB s)).1, .int .i64 (M.parse (strB s)).2]) ∧ w = w' := by
  have hfo := formed_any s w hsm
  have hsg := sign_any s 0 w hsm (Nat.zero_le _)
  rw [show ((0 : Nat) : Int) = 0 from rfl] at hsg
  by_cases hf : M.formed (strB s)
  · have hfd : decide (M.formed (strB s)) = true := decide_eq_true hf
    rw [hfd] at hfo
    have hfm := M.formed_fm _ hf
    have hsl := M.sgn_le (strB s) 0 (Nat.zero_le _)
    rw [strB_len] at hsl
    have hpa : M.parse (strB s) = M.sg (M.val ((strB s).drop (M.sgn (strB s) 0))) (decide (0 < M.sgn (strB s) 0)) := by unfold M.parse; rw [if_pos hf]
    obtain ⟨p, hp⟩ : ∃ p, M.sgn (strB s) 0 = p := ⟨_, rfl⟩
    rw [hp] at hsg hsl hpa hfm
    obtain ⟨l, hl⟩ : ∃ l, (strB s).drop p = l := ⟨_, rfl⟩
    have hll : l.length = s.size - p := by rw [← hl]; simp [strB_len]
    have hlx : ∀ k, l[k]?.getD 0 = (strB s)[p + k]?.getD 0 := fun k => by rw [← hl]; simp
    rw [hl] at hpa hfm
    unfold maxLen at hsm
    obtain ⟨g, hg⟩ : ∃ g, M.parse (strB s) = g := ⟨_, rfl⟩
    rw [hg] at hpa ⊢
    clear hfd hf hp hl hg
    by_cases h19 : s.size - p > 19
    · have hv := M.long_val l hfm (by omega)
      obtain rfl : g = (0, 5) := by rw [hpa]; unfold M.sg; split <;> (rw [if_neg (by omega)])
      have hd : decide (19 < (s.size : Int) - p) = true := by simp; omega
      have HPA := Lib.hid hpa; clear hpa
      have HFM := Lib.hid hfm; clear hfm
      go_enter Try.func88, Try.ntmps88
      go_wp2_with (first | (go_at_call 92; (with_reducible refine hfo.mono ?_); rintro e w' ⟨rfl, rfl⟩) | (go_at_call 87; (with_reducible refine hsg.mono ?_); rintro e w' ⟨rfl, rfl⟩))
      go_ret2
      exact ⟨rfl, rfl⟩
    · have hd : decide (19 < (s.size : Int) - p) = false := by simp; omega
      have HPA := Lib.hid hpa; clear hpa
      have hnx := M.next l hfm.2.1
      have HFM := Lib.hid hfm; clear hfm
      have hsn := fun w => signed_any (M.val l) (decide (0 < p)) w
      rw [← HPA.out] at hsn
      have hvl : (M.val l : Int) ≤ 18446744073709551615 := by
        have := M.val_lt l HFM.out.2.1
        have := Nat.pow_le_pow_right (show 0 < 10 by omega) (show l.length ≤ 19 by omega)
        omega
      go_enter Try.func88, Try.ntmps88
      go_wp2_with (first | (go_at_call 92; (with_reducible refine hfo.mono ?_); rintro e w' ⟨rfl, rfl⟩) | (go_at_call 87; (with_reducible refine hsg.mono ?_); rintro e w' ⟨rfl, rfl⟩))
      go_loop [5, 6] (fun m i => ∃ k : Nat, k ≤ s.size - p ∧ m = .int .u64 (M.val (l.take k) : Nat) ∧ i = .int .i64 (p + k : Nat)) (fun _ i => s.size - (intOf i).toNat)
      case atStart => exact ⟨0, Nat.zero_le _, rfl, rfl⟩
      case round =>
        obtain ⟨k, hk, rfl, rfl⟩ := hrel
        rcases Nat.lt_or_ge k (s.size - p) with hlt | hge
        · obtain ⟨hx0, hx1, hv, hvb⟩ := hnx k (by omega)
          have hpk : p + k < s.size := by omega
          rw [hlx k, strB_at s (p + k) hpk] at hx0 hx1 hv
          have hb := Nat.pow_le_pow_right (show 0 < 10 by omega) (show k ≤ 18 by omega)
          have hb : M.val (l.take k) ≤ 1000000000000000000 := by omega
          have HV := Lib.hid hv; clear hv hnx
          obtain ⟨v, hve⟩ : ∃ v, M.val (l.take k) = v := ⟨_, rfl⟩
          rw [hve] at hb hvb HV ⊢
          have HVE := Lib.hid hve; clear hve hvb
          have hd2 : decide (p + k < s.size) = true := by simpa using hpk
          go_wp2
          go_round
          case rel => exact ⟨k + 1, by omega, by rw [HV.out]; go_num, by go_num⟩
          case measure => simp [intOf]; omega
        · obtain rfl : k = s.size - p := by omega
          have hd2 : decide (p + (s.size - p) < s.size) = false := by simp; omega
          have hv : M.val (l.take (s.size - p)) = M.val l := by rw [List.take_of_length_le (by omega)]
          rw [hv]; clear hv hnx
          go_wp2_with (first | (go_at_call 93; (with_reducible refine (hsn _ hvl).mono ?_); rintro e w' ⟨rfl, rfl⟩))
          go_ret2
          exact ⟨rfl, rfl⟩
  · have hfd : decide (M.formed (strB s)) = false := decide_eq_false hf
    rw [hfd] at hfo
    have hpa : M.parse (strB s) = (0, 2) := by unfold M.parse; rw [if_neg hf]
    rw [hpa]
    clear hpa hfd hf hsg
    go_enter Try.func88, Try.ntmps88
    go_wp2_with (first | (go_at_call 92; (with_reducible refine hfo.mono ?_); rintro e w' ⟨rfl, rfl⟩))
    go_ret2
    exact ⟨rfl, rfl⟩
theorem strB_sub (s : ByteArray) (a e : Nat) : strB (s.extract a e) = ((strB s).take e).drop a := by
  simp [strB, List.drop_take, List.map_take, List.map_drop]
theorem sub_size (s : ByteArray) (a e : Nat) (h : e ≤ s.size) : (s.extract a e).size = e - a := by simp; omega
set_option maxHeartbeats 1000000 in
theorem numScan_any (s : ByteArray) (p : Int) (w : World) (hsm : s.size ≤ maxLen) (hp : -9223372036854775808 ≤ p) (hp' : p ≤ 9223372036854775807) :
    Calls Try.prog 80 #[.string s, .int .i64 p] w fun e w' => e = .returned (.tuple #[.int .i64 (M.scan (strB s) p).1, .int .i64 (M.scan (strB s) p).2.1, .int .i64 (M.scan (strB s) p).2.2]) ∧ w = w' := by
  by_cases hin : 0 ≤ p ∧ p ≤ s.size
  · obtain ⟨q, rfl⟩ := Int.eq_ofNat_of_zero_le hin.1
    have hq : q ≤ s.size := by omega
    have hsg := fun w => sign_any s q w hsm (by omega)
    have hsl := M.sgn_le (strB s) q (by rw [strB_len]; exact hq)
    rw [strB_len] at hsl
    have hrn := fun w => run_any s (M.sgn (strB s) q) w hsm hsl.2.1
    have hrl := M.runTo_le (strB s) (M.sgn (strB s) q) (by rw [strB_len]; exact hsl.2.1)
    rw [strB_len] at hrl
    have hsc : M.scan (strB s) (q : Int) = if (M.parse (strB (s.extract q (M.runTo (strB s) (M.sgn (strB s) q))))).2 = 0 then ((M.parse (strB (s.extract q (M.runTo (strB s) (M.sgn (strB s) q))))).1, (M.runTo (strB s) (M.sgn (strB s) q) : Int), 0)
        else (0, (q : Int), (M.parse (strB (s.extract q (M.runTo (strB s) (M.sgn (strB s) q))))).2) := by
      unfold M.scan; rw [if_pos (by rw [strB_len]; omega), Int.toNat_natCast, strB_sub]
    obtain ⟨f, hf⟩ : ∃ f, M.sgn (strB s) q = f := ⟨_, rfl⟩
    simp only [hf] at hsg hsl hrn hrl hsc
    obtain ⟨e, he⟩ : ∃ e, M.runTo (strB s) f = e := ⟨_, rfl⟩
    simp only [he] at hrn hrl hsc
    have hpa := fun w => numParse_any (s.extract q e) w (by rw [sub_size _ _ _ hrl.2]; unfold maxLen at *; omega)
    obtain ⟨r, hr⟩ : ∃ r, M.parse (strB (s.extract q e)) = r := ⟨_, rfl⟩
    simp only [hr] at hpa hsc
    unfold maxLen at hsm
    clear hf he hr
    by_cases h0 : r.2 = 0
    · rw [if_pos h0] at hsc
      have hn : (r.2 != 0) = false := by simpa using h0
      rw [hsc]; clear hsc h0
      obtain ⟨r1, r2⟩ := r
      go_enter Try.func80, Try.ntmps80
      go_wp2_with (first | (go_at_call 87; (with_reducible refine (hsg _).mono ?_); rintro e w' ⟨rfl, rfl⟩) | (go_at_call 86; (with_reducible refine (hrn _).mono ?_); rintro e w' ⟨rfl, rfl⟩) | (go_at_call 88; (with_reducible refine (hpa _).mono ?_); rintro e w' ⟨rfl, rfl⟩))
      go_ret3
      exact ⟨rfl, rfl⟩
    · rw [if_neg h0] at hsc
      have hn : (r.2 != 0) = true := by simpa using h0
      rw [hsc]; clear hsc h0
      obtain ⟨r1, r2⟩ := r
      go_enter Try.func80, Try.ntmps80
      go_wp2_with (first | (go_at_call 87; (with_reducible refine (hsg _).mono ?_); rintro e w' ⟨rfl, rfl⟩) | (go_at_call 86; (with_reducible refine (hrn _).mono ?_); rintro e w' ⟨rfl, rfl⟩) | (go_at_call 88; (with_reducible refine (hpa _).mono ?_); rintro e w' ⟨rfl, rfl⟩))
      go_ret3
      exact ⟨rfl, rfl⟩
  · have hsc : M.scan (strB s) p = (0, p, 2) := by unfold M.scan; rw [if_neg (by rw [strB_len]; exact hin)]
    rw [hsc]; clear hsc
    unfold maxLen at hsm
    by_cases h0 : p < 0
    · have hd : decide (p < 0) = true := by simpa using h0
      go_enter Try.func80, Try.ntmps80
      go_wp2
      go_ret3
      exact ⟨rfl, rfl⟩
    · have hd : decide (p < 0) = false := by simpa using h0
      have hd2 : decide ((s.size : Int) < p) = true := by simp; omega
      go_enter Try.func80, Try.ntmps80
      go_wp2
      go_ret3
      exact ⟨rfl, rfl⟩
end Go.Proofs.Ytfapoicnkdallaa
