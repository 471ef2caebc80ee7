/- Package sum's More, Of, Put and Get. -/
import Derived.Test.YtdnijiehfokagaaSum
import Derived.RegionTactic
namespace Go.Proofs.Ytdnijiehfokagaa
open Go.RowKit Go.Shelf
attribute [local go_sem] Oper.semAt_some
theorem run_take_succ (t : List Int) (c : Nat) (l : List Int) (k : Nat) (h : k < l.length) : S.run t c (l.take (k + 1)) = S.nx t (S.run t c (l.take k)) (l[k]?.getD 0) := by
  rw [take_succ_getD _ _ h, S.run_snoc]
theorem xor_u8I (c : Nat) (x : Int) (h0 : 0 ≤ x) (h1 : x ≤ 255) : bits .xor .u8 ((c : Int) % 256) x = (((c % 256) ^^^ x.toNat : Nat) : Int) := by
  have := u8_xor ((c : Int) % 256) x (by omega) (by omega) h0 (by omega)
  rwa [show ((c : Int) % 256).toNat = c % 256 by omega] at this
set_option maxRecDepth 100000 in
set_option maxHeartbeats 1000000 in
theorem more_any (a : Option Addr) (len cap : Nat) (t : List Int) (s : Int) (b : Option Addr) (m d : Nat) (l : List Int) (w : World) (h : Row w .i64 a len cap t) (hb : Row w .u8 b m d l) (hl : Bytes l) (hs0 : -9223372036854775808 ≤ s) (hs1 : s ≤ 9223372036854775807) :
    Calls Try.prog 32 #[.slice a len cap, .int .i64 s, .slice b m d] w fun e w' => e = .returned (.int .i64 (S.more t s l)) ∧ w = w' := by
  have hT := isTable_any a len cap t w h
  have hF := fits_any s w
  by_cases ht : S.isT t = true
  · by_cases hs : S.num s = true
    · have hmo : S.more t s l = 4294967295 - (S.run t (4294967295 - s).toNat l : Int) := if_pos ⟨ht, hs⟩
      rw [ht] at hT
      rw [hs] at hF
      have hsb := (S.num_iff s).1 hs
      have hlen := S.isT_len ht
      obtain ⟨h1, h2, h3, h4⟩ := h
      obtain ⟨k1, k2, k3, k4⟩ := hb
      rcases h4 with h0 | ⟨B, off, rfl, hc⟩
      · omega
      have hnx := fun c (hc : c < 4294967296) (l : List Int) => S.run_lt ht l (c := c) hc
      have hat := S.isT_at ht
      obtain ⟨c0, hc0⟩ : ∃ c0, (4294967295 - s).toNat = c0 := ⟨_, rfl⟩
      have hc0' : s = 4294967295 - (c0 : Int) := by omega
      rw [hc0] at hmo
      have hlt0 : c0 < 4294967296 := by omega
      have hnot : bits .xor .u32 IntKind.u32.max s = (c0 : Int) := by
        rw [show IntKind.u32.max = 4294967295 from rfl]
        obtain ⟨q, rfl⟩ := Int.eq_ofNat_of_zero_le hsb.1
        rw [S.notI q (by omega)]; omega
      have HMO := Lib.hid hmo; clear hmo
      have HS := Lib.hid hs; clear hs
      have HT := Lib.hid ht; clear ht
      have HC := Lib.hid hc; clear hc
      have HAT := Lib.hid hat; clear hat
      have HNX := Lib.hid hnx; clear hnx
      have H1 := Lib.hid h1; clear h1
      have HL := Lib.hid hlen; clear hlen
      have K1 := Lib.hid k1; clear k1
      have K4 := Lib.hid k4; clear k4
      have HB := Lib.hid hl; clear hl
      have HC0 := Lib.hid hc0'; clear hc0 hc0'
      rw [HMO.out]
      obtain ⟨sl, sg⟩ := hsb
      unfold maxLen at k3
      go_enter Try.func32, Try.ntmps32
      go_wp2_with (first
        | (go_at_call 38; (with_reducible refine hT.mono ?_); rintro e w' ⟨rfl, rfl⟩)
        | (go_at_call 33; (with_reducible refine hF.mono ?_); rintro e w' ⟨rfl, rfl⟩))
      go_loop [7, 23] (fun c i => ∃ k : Nat, k ≤ m ∧ i = .int .i64 k ∧ c = .int .u32 (S.run t c0 (l.take k) : Nat)) (fun _ i => m - (intOf i).toNat)
      case atStart => exact ⟨0, by omega, rfl, rfl⟩
      case round =>
        obtain ⟨k, hk, rfl, rfl⟩ := hrel
        have hrl := HNX.out c0 hlt0 (l.take k)
        by_cases hlt : k < m
        · rcases K4.out with h0 | ⟨B', off', rfl, hc'⟩
          · exact absurd h0 (by omega)
          have c1 := hc' k hlt
          have HR : Hid (S.run t c0 (l.take (k + 1)) = S.nx t (S.run t c0 (l.take k)) (l[k]?.getD 0)) := Lib.hid (run_take_succ t c0 l k (by rw [K1.out]; exact hlt))
          have hx := HB.out k
          generalize l[k]?.getD 0 = x at c1 HR hx
          generalize S.run t c0 (l.take k) = c at hrl HR
          obtain ⟨hx0, hx1⟩ := hx
          clear hc'
          have e1 := xor_u8I c x hx0 hx1
          have hj : (c % 256) ^^^ x.toNat < 256 := S.xor_lt8 (by omega) (by omega)
          have HN : Hid (S.nx t c x = (t[(c % 256) ^^^ x.toNat]?.getD 0).toNat ^^^ (c / 256)) := Lib.hid rfl
          have c2 := HC.out ((c % 256) ^^^ x.toNat) (by rw [← H1.out, HL.out]; exact hj)
          have hy := HAT.out ((c % 256) ^^^ x.toNat)
          have H256 : len = 256 := by rw [← H1.out, HL.out]
          generalize (c % 256) ^^^ x.toNat = j at e1 hj HN c2 hy
          generalize t[j]?.getD 0 = y at HN c2 hy
          obtain ⟨y, rfl⟩ := Int.eq_ofNat_of_zero_le hy.1
          have hy2 : y < 4294967296 := by omega
          clear hy
          have e2 : bits .xor .u32 (y : Int) ((c : Int) / 256) = ((y ^^^ (c / 256) : Nat) : Int) := by
            have := u32_xor_nat y (c / 256) hy2 (by omega)
            rwa [show ((c / 256 : Nat) : Int) = (c : Int) / 256 by omega] at this
          have hjl : j < len := by omega
          have HH := Lib.hid H256; clear H256
          go_wp2
          go_round
          case rel => exact ⟨k + 1, by omega, by go_num, by rw [HR.out, HN.out]; simp⟩
          case measure => simp [intOf]; omega
        · obtain rfl : k = m := by omega
          have HE : Hid (l.take k = l) := Lib.hid (List.take_of_length_le (by rw [K1.out]; omega))
          have e3 : bits .xor .u32 IntKind.u32.max (S.run t c0 (l.take k) : Int) = 4294967295 - (S.run t c0 (l.take k) : Int) := S.notI (S.run t c0 (l.take k)) hrl
          go_wp2
          go_ret
          exact ⟨ret_int (by simp [HE.out]), rfl⟩
    · have hmo : S.more t s l = -1 := if_neg (fun h => hs h.2)
      have hs' : S.num s = false := by simpa using hs
      rw [ht] at hT
      rw [hs'] at hF
      rw [hmo]
      have HMO := Lib.hid hmo; clear hmo hs hs' ht
      go_enter Try.func32, Try.ntmps32
      go_wp2_with (first
        | (go_at_call 38; (with_reducible refine hT.mono ?_); rintro e w' ⟨rfl, rfl⟩)
        | (go_at_call 33; (with_reducible refine hF.mono ?_); rintro e w' ⟨rfl, rfl⟩))
      go_ret
      exact ⟨rfl, rfl⟩
  · have hmo : S.more t s l = -1 := if_neg (fun h => ht h.1)
    have ht' : S.isT t = false := by simpa using ht
    rw [ht'] at hT
    rw [hmo]
    have HMO := Lib.hid hmo; clear hmo ht ht' hF
    go_enter Try.func32, Try.ntmps32
    go_wp2_with (go_at_call 38; (with_reducible refine hT.mono ?_); rintro e w' ⟨rfl, rfl⟩)
    go_ret
    exact ⟨rfl, rfl⟩
set_option maxHeartbeats 1000000 in
theorem of_any (a : Option Addr) (len cap : Nat) (t : List Int) (b : Option Addr) (m d : Nat) (l : List Int) (w : World) (h : Row w .i64 a len cap t) (hb : Row w .u8 b m d l) (hl : Bytes l) :
    Calls Try.prog 26 #[.slice a len cap, .slice b m d] w fun e w' => e = .returned (.int .i64 (S.more t 0 l)) ∧ w = w' := by
  have hM := more_any a len cap t 0 b m d l w h hb hl (by omega) (by omega)
  generalize S.more t 0 l = r at hM
  go_enter Try.func26, Try.ntmps26
  go_wp2_with (go_at_call 32; (with_reducible refine hM.mono ?_); rintro e w' ⟨rfl, rfl⟩)
  go_ret
  exact ⟨rfl, rfl⟩
def MadeB (w : World) (l : List Int) (e : Ending) (w' : World) : Prop := ∃ v, e = .returned v ∧ w'.ownsRow w.heap.size 5 1 v l.length (u8s l) ∧ Below w.heap.size w w'
set_option maxHeartbeats 1000000 in
theorem put_any (n : Int) (w : World) :
    Calls Try.prog 20 #[.int .i64 n] w (MadeB w (S.put n)) := by
  go_enter Try.func20, Try.ntmps20
  go_wp2
  go_ret
  refine ⟨_, rfl, owns_built w [_, _, _, _] _ 4 rfl (by unfold maxLen; omega) |> fun h => ownsRow_nth h rfl (by simp [u8s, S.put]), (Below.refl _ w).alloc (Nat.le_refl _) _⟩
theorem or8 (a b : Int) (k : Nat) (hb : 0 ≤ b) (hb' : b < ((2 ^ k : Nat) : Int)) (q : Int) (hq : 0 ≤ q) (ha : a = ((2 ^ k : Nat) : Int) * q) (h0 : a < 4294967296) (h1 : b < 4294967296) : bits .or .i64 a b = a + b := by
  obtain ⟨b, rfl⟩ := Int.eq_ofNat_of_zero_le hb
  obtain ⟨q, rfl⟩ := Int.eq_ofNat_of_zero_le hq
  rw [← Int.natCast_mul] at ha
  subst ha
  have h2 : 2 ^ k * q < 4294967296 := by omega
  have h3 : b < 2 ^ k := by omega
  show IntKind.i64.wrap ((BitVec.ofInt 64 ((2 ^ k * q : Nat) : Int) ||| BitVec.ofInt 64 (b : Int)).toNat : Int) = _
  rw [BitVec.toNat_or, S.ofInt_i64 _ (by omega), S.ofInt_i64 b (by omega), ← Nat.two_pow_add_eq_or_of_lt h3]
  rw [S.wrap_i64_small _ (by omega) (by omega)]
  omega
set_option maxHeartbeats 1000000 in
theorem get_any (b : Option Addr) (m d : Nat) (l : List Int) (w : World) (hb : Row w .u8 b m d l) (hl : Bytes l) :
    Calls Try.prog 36 #[.slice b m d] w fun e w' => e = .returned (.int .i64 (S.get l)) ∧ ∃ n, w' = w.drewN n := by
  obtain ⟨k1, k2, k3, k4⟩ := hb
  by_cases hm : m = 4
  · subst hm
    rcases k4 with h0 | ⟨B, off, rfl, hc⟩
    · omega
    have hg : S.get l = l[0]?.getD 0 * 16777216 + l[1]?.getD 0 * 65536 + l[2]?.getD 0 * 256 + l[3]?.getD 0 := if_pos k1
    have c0 : w.cell? ⟨B, off, none⟩ = some (.int .u8 (l[0]?.getD 0)) := hc 0 (by omega)
    have c1 := hc 1 (by omega)
    have c2 := hc 2 (by omega)
    have c3 := hc 3 (by omega)
    have b0 := hl 0
    have b1 := hl 1
    have b2 := hl 2
    have b3 := hl 3
    have HG := Lib.hid hg; clear hg
    have K1 := Lib.hid k1; clear k1 hc hl
    rw [HG.out]
    generalize l[0]?.getD 0 = x0 at *
    generalize l[1]?.getD 0 = x1 at *
    generalize l[2]?.getD 0 = x2 at *
    generalize l[3]?.getD 0 = x3 at *
    obtain ⟨p0, q0⟩ := b0
    obtain ⟨p1, q1⟩ := b1
    obtain ⟨p2, q2⟩ := b2
    obtain ⟨p3, q3⟩ := b3
    go_enter Try.func36, Try.ntmps36
    go_wp2
    go_quiet (fail)
    go_wp2
    go_ret
    refine ⟨ret_int ?_, _, rfl⟩
    rw [or8 (x0 * 16777216) (x1 * 65536) 24 (by omega) (by omega) x0 p0 (by omega) (by omega) (by omega),
      or8 (x0 * 16777216 + x1 * 65536) (x2 * 256) 16 (by omega) (by omega) (x0 * 256 + x1) (by omega) (by omega) (by omega) (by omega),
      or8 (x0 * 16777216 + x1 * 65536 + x2 * 256) x3 8 (by omega) (by omega) (x0 * 65536 + x1 * 256 + x2) (by omega) (by omega) (by omega) (by omega)]
  · have hg : S.get l = -1 := if_neg (by rw [k1]; exact hm)
    have hd : ((m : Int) != 4) = true := by simp; omega
    rw [hg]
    have HG := Lib.hid hg; clear hg k1 k4
    go_enter Try.func36, Try.ntmps36
    go_wp2
    go_ret
    exact ⟨rfl, 0, rfl⟩
end Go.Proofs.Ytdnijiehfokagaa
