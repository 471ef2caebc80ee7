/- The contracts of layer 1's functions (package utf). -/
import Derived.Test.YtfapoicnkdallaaMh0Thre
import Derived.Test.YtfapoicnkdallaaMh1Thre
import Derived.Test.YtfapoicnkdallaaMh10Thre
namespace Go.Proofs.Ytfapoicnkdallaa
open Go.RowKit
set_option maxHeartbeats 400000 in
theorem uSize_any (c : Int) (w : World) :
    Calls Try.prog 83 #[.int .i64 c] w fun e w' => e = .returned (.int .i64 (U.size c)) ∧ w = w' := by
  go_enter Try.func83, Try.ntmps83
  go_wp2
  all_goals (go_ret; refine ⟨ret_int ?_, rfl⟩; simp only [U.size]; (repeat' split) <;> first | rfl | (exfalso; omega))
set_option maxHeartbeats 400000 in
theorem first_any (x : Int) (w : World) (h0 : 0 ≤ x) (h1 : x ≤ 255) :
    Calls Try.prog 82 #[.int .u8 x] w fun e w' => e = .returned (.tuple #[.int .i64 (U.fst x).1, .int .i64 ((U.fst x).2 : Int)]) ∧ w = w' := by
  have e1 := U.and224 x h0 h1
  have e2 := U.and240 x h0 h1
  have e3 := U.and248 x h0 h1
  have e4 := U.and31 x h0 h1
  have e5 := U.and15 x h0 h1
  have e6 := U.and7 x h0 h1
  go_enter Try.func82, Try.ntmps82
  go_wp2
  all_goals (go_ret2; refine ⟨ret_int2 ?_ ?_, rfl⟩)
  all_goals (clear e1 e2 e3 e4 e5 e6; try simp only [beq_iff_eq, beq_eq_false_iff_ne] at *)
  all_goals (unfold U.fst; (repeat' split) <;> first | rfl | omega | (simp; omega) | (simp; done))

def getAt (l : List Int) (at_ : Int) : Int × Nat := if 0 ≤ at_ ∧ at_ < l.length then U.get (l.drop at_.toNat) else (0, 0)

theorem getAt_eq (l : List Int) (q : Nat) (x : Int) (hq : q < l.length) (h : l[q]?.getD 0 = x) : l.drop q = x :: l.drop (q + 1) ∧
    getAt l q = if (U.fst x).2 = 0 ∨ l.length - q < (U.fst x).2 then (0, 0) else U.got (U.fst x).2 (U.conts (l.drop (q + 1)) ((U.fst x).2 - 1) (U.fst x).1) := by
  have hdrop : l.drop q = x :: l.drop (q + 1) := by
    rw [List.drop_eq_getElem_cons hq]; congr 1; rw [← h, List.getElem?_eq_getElem hq]; rfl
  refine ⟨hdrop, ?_⟩
  unfold getAt
  rw [if_pos (by omega), Int.toNat_natCast, hdrop]
  simp only [U.get, List.length_drop]
  rw [show l.length - (q + 1) + 1 = l.length - q by omega]

set_option maxRecDepth 100000 in
set_option maxHeartbeats 400000 in
theorem getS_any (s : ByteArray) (p : Int) (w : World) (hsm : s.size ≤ maxLen) (hp : -9223372036854775808 ≤ p) (hp' : p ≤ 9223372036854775807) :
    Calls Try.prog 73 #[.string s, .int .i64 p] w fun e w' => e = .returned (.tuple #[.int .i64 (getAt (strB s) p).1, .int .i64 ((getAt (strB s) p).2 : Int), .bool (decide (0 < (getAt (strB s) p).2))]) ∧ w = w' := by
  unfold maxLen at hsm
  obtain ⟨l, hls⟩ : ∃ l, strB s = l := ⟨_, rfl⟩
  have hl : l.length = s.size := by rw [← hls, strB_len]
  rw [hls]
  have HLS := Lib.hid hls; clear hls
  by_cases hneg : p < 0
  · have hd : decide (p < 0) = true := by simpa using hneg
    have hg : getAt l p = (0, 0) := by unfold getAt; rw [if_neg (by omega)]
    go_enter Try.func73, Try.ntmps73
    rw [hg]; clear hg hl
    go_wp2
    go_ret3
    exact ⟨rfl, rfl⟩
  obtain ⟨q, rfl⟩ := Int.eq_ofNat_of_zero_le (by omega : 0 ≤ p)
  have hd : decide ((q : Int) < 0) = false := by simp
  by_cases hge : s.size ≤ q
  · have hg : getAt l q = (0, 0) := by unfold getAt; rw [if_neg (by omega)]
    have hd2 : decide (s.size ≤ q) = true := by simpa using hge
    go_enter Try.func73, Try.ntmps73
    rw [hg]; clear hg hl
    go_wp2
    go_ret3
    exact ⟨rfl, rfl⟩
  have hlt : q < s.size := by omega
  have hd2 : decide (s.size ≤ q) = false := by simpa using hge
  have hxe : l[q]?.getD 0 = (s[q].toNat : Int) := by rw [← HLS.out]; exact strB_at s q hlt
  have hxb := u8_bd s[q]
  obtain ⟨hdrop, hgl⟩ := getAt_eq l q (s[q].toNat : Int) (by omega) hxe
  rw [hl] at hgl
  generalize getAt l (q : Int) = g at hgl ⊢
  have hfb := U.fst_bd (s[q].toNat : Int) hxb.1
  have hfirst := first_any (s[q].toNat : Int) w hxb.1 hxb.2
  obtain ⟨c0, n, hcn⟩ := pair_eta (U.fst (s[q].toNat : Int))
  rw [hcn] at hgl hfb hfirst
  simp only at hgl hfb hfirst
  have HL := Lib.hid hl; clear hl
  have HX := Lib.hid hxe; clear hxe
  have HD := Lib.hid hdrop; clear hdrop
  have HN := Lib.hid hcn; clear hcn
  have HG := Lib.hid hgl; clear hgl
  by_cases hn : n = 0
  · subst hn
    obtain rfl : g = (0, 0) := by rw [HG.out]; rfl
    go_enter Try.func73, Try.ntmps73
    go_wp2_with (first | (go_at_call 82; refine hfirst.mono ?_; rintro e w' ⟨rfl, rfl⟩))
    go_ret3
    exact ⟨rfl, rfl⟩
  have hn0 : ((n : Int) == 0) = false := by simp; omega
  by_cases hnl : s.size - q < n
  · obtain rfl : g = (0, 0) := by rw [HG.out, if_pos (.inr hnl)]
    have hgt : decide ((s.size : Int) - q < n) = true := by simp; omega
    go_enter Try.func73, Try.ntmps73
    go_wp2_with (first | (go_at_call 82; refine hfirst.mono ?_; rintro e w' ⟨rfl, rfl⟩))
    go_ret3
    exact ⟨rfl, rfl⟩
  have hgt : decide ((s.size : Int) - q < n) = false := by simp; omega
  have hnc : n ≤ 4 ∧ q + n ≤ s.size ∧ 0 < n := by omega
  obtain ⟨hn4, hqn, hn1⟩ := hnc
  have HG2 : Hid (g = U.got n (U.conts (l.drop (q + 1)) (n - 1) c0)) := Lib.hid (by rw [HG.out, if_neg (by omega)])
  clear HG
  go_enter Try.func73, Try.ntmps73
  go_wp2_with (first | (go_at_call 82; refine hfirst.mono ?_; rintro e w' ⟨rfl, rfl⟩))
  clear hfirst
  go_loop [7, 9, 10] (fun c i _ => ∃ (k : Nat) (cc : Int), 1 ≤ k ∧ k ≤ n ∧ i = .int .i64 k ∧ c = .int .i64 cc ∧ 0 ≤ cc ∧ ((k = 1 ∧ cc ≤ 127) ∨ (k = 2 ∧ cc ≤ 8191) ∨ (k = 3 ∧ cc ≤ 524287) ∨ (k = 4 ∧ cc ≤ 33554431)) ∧ U.conts (l.drop (q + k)) (n - k) cc = U.conts (l.drop (q + 1)) (n - 1) c0) (fun _ i _ => 5 - (intOf i).toNat)
  case atStart => exact ⟨1, c0, by omega, by omega, rfl, rfl, by omega, by omega, rfl⟩
  case round =>
    obtain ⟨k, cc, hk1, hkn, rfl, rfl, hc0, hcb, hcont⟩ := hrel
    have HK := Lib.hid hcont; clear hcont
    by_cases hkl : k < n
    · have hkq : q + k < s.size := by omega
      have hyb := u8_bd s[q + k]
      have e1 := U.and192 (s[q + k].toNat : Int) hyb.1 hyb.2
      have e2 := U.and63 (s[q + k].toNat : Int) hyb.1 hyb.2
      have e3 := U.or64 cc ((s[q + k].toNat : Int) % 64) hc0 (by omega) (by omega) (by omega)
      have hdr := (getAt_eq l (q + k) (s[q + k].toNat : Int) (by have := HL.out; omega) (by rw [← HLS.out]; exact strB_at s (q + k) hkq)).1
      have HK2 : Hid ((if U.cont (s[q + k].toNat : Int) then U.conts (l.drop (q + (k + 1))) (n - (k + 1)) (cc * 64 + ((s[q + k].toNat : Int) - 128)) else none) = U.conts (l.drop (q + 1)) (n - 1) c0) := by
        have h := HK.out
        rw [hdr, show n - k = (n - (k + 1)) + 1 by omega, U.conts_succ, show q + k + 1 = q + (k + 1) by omega] at h
        exact Lib.hid h
      clear hdr HK
      go_wp2
      · have hy1 : ((s[q + k].toNat : Int) / 64 * 64 != 128) = true := by assumption
        obtain rfl : g = (0, 0) := by
          have h := HK2.out
          have : U.cont (s[q + k].toNat : Int) = false := by simp only [U.cont, bne_iff_ne] at *; simp; omega
          rw [this] at h
          rw [HG2.out, ← h]; rfl
        go_ret3
        exact ⟨rfl, rfl⟩
      · have hy1 : ((s[q + k].toNat : Int) / 64 * 64 != 128) = false := by assumption
        have hyc : U.cont (s[q + k].toNat : Int) = true ∧ (s[q + k].toNat : Int) % 64 = (s[q + k].toNat : Int) - 128 := by simp only [U.cont, bne_eq_false_iff_eq] at *; simp; omega
        go_round
        case rel => exact ⟨k + 1, cc * 64 + (s[q + k].toNat : Int) % 64, by omega, by omega, by go_num, rfl, by omega, by omega, by rw [← HK2.out, hyc.1, hyc.2, if_pos rfl]⟩
        case measure => simp [intOf]; omega
    · obtain rfl : k = n := by omega
      have HK2 : Hid (U.conts (l.drop (q + 1)) (k - 1) c0 = some cc) := by
        have h := HK.out
        rw [Nat.sub_self, U.conts_zero] at h
        exact h.symm
      clear HK
      have hs := uSize_any cc
      by_cases hsz : U.size cc = k
      · obtain rfl : g = (cc, k) := by rw [HG2.out, HK2.out]; simp [U.got, hsz]
        have hb0 : (U.size cc != (k : Int)) = false := by simpa using hsz
        have HS := Lib.hid hsz; clear hsz
        go_wp2_with (first | (go_at_call 83; refine (hs _).mono ?_; rintro e w' ⟨rfl, rfl⟩))
        go_ret3
        exact ⟨ret_iib rfl rfl (by simp), rfl⟩
      · obtain rfl : g = (0, 0) := by rw [HG2.out, HK2.out]; simp [U.got, hsz]
        have hb0 : (U.size cc != (k : Int)) = true := by simpa using hsz
        go_wp2_with (first | (go_at_call 83; refine (hs _).mono ?_; rintro e w' ⟨rfl, rfl⟩))
        go_ret3
        exact ⟨rfl, rfl⟩
end Go.Proofs.Ytfapoicnkdallaa
