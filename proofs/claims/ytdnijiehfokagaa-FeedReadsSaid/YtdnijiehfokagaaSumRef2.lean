/- The document's answer for layer 4: More, Bits, Put and Get. -/
import Derived.Test.YtdnijiehfokagaaSumRef
namespace Go.Proofs.Ytdnijiehfokagaa
open Go.RowKit Go.Shelf
theorem xor_i64I (c : Nat) (x : Int) (h0 : 0 ≤ x) (h1 : x ≤ 255) : bits .xor .i64 ((c : Int) % 256) x = (((c % 256) ^^^ x.toNat : Nat) : Int) := by
  have := S.xorI64 (c % 256) x.toNat (by omega) (by omega)
  rwa [show ((c % 256 : Nat) : Int) = (c : Int) % 256 by omega, show ((x.toNat : Nat) : Int) = x by omega] at this
theorem xor_i64D (y c : Nat) (hy : y < 4294967296) (hc : c < 4294967296) : bits .xor .i64 (y : Int) ((c : Int) / 256) = ((y ^^^ (c / 256) : Nat) : Int) := by
  have := S.xorI64 y (c / 256) hy (by omega)
  rwa [show ((c / 256 : Nat) : Int) = (c : Int) / 256 by omega] at this
theorem bits_snoc (l : List Int) (k : Nat) (h : k < l.length) : S.bit (l.take (k + 1)) = S.row S.Poly ((S.bit (l.take k) ^^^ (l[k]?.getD 0).toNat) % 256) ^^^ (S.bit (l.take k) / 256) := by
  rw [take_succ_getD _ _ h]; simp [S.bit]
theorem bit_lt (l : List Int) : S.bit l < 4294967296 := by
  unfold S.bit
  generalize hc : (4294967295 : Nat) = c
  have : c < 4294967296 := by omega
  clear hc
  induction l generalizing c with
  | nil => exact this
  | cons x l ih => exact ih _ (S.xor_lt32 (S.row_lt (by decide) (by omega)) (by omega))
theorem xor_i64A (c : Nat) (x : Int) (hc : c < 4294967296) (h0 : 0 ≤ x) (h1 : x ≤ 255) : bits .xor .i64 (c : Int) x = ((c ^^^ x.toNat : Nat) : Int) := by
  have := S.xorI64 c x.toNat hc (by omega)
  rwa [show ((x.toNat : Nat) : Int) = x by omega] at this
set_option maxRecDepth 100000 in
set_option maxHeartbeats 1000000 in
theorem ref04Bits_any (b : Option Addr) (m d : Nat) (l : List Int) (w : World) (hb : Row w .u8 b m d l) (hl : Bytes l) :
    Calls Try.prog 23 #[.slice b m d] w fun e w' => e = .returned (.int .i64 (4294967295 - (S.bit l : Int))) ∧ w = w' := by
  obtain ⟨k1, k2, k3, k4⟩ := hb
  have K1 := Lib.hid k1; clear k1
  have K4 := Lib.hid k4; clear k4
  have HB := Lib.hid hl; clear hl
  unfold maxLen at k3
  go_enter Try.func23, Try.ntmps23
  go_wp2
  go_loop [3, 4] (fun c i => ∃ k : Nat, k ≤ m ∧ i = .int .i64 k ∧ c = .int .i64 (S.bit (l.take k) : Nat)) (fun _ i => m - (intOf i).toNat)
  case atStart => exact ⟨0, by omega, rfl, rfl⟩
  case round =>
    obtain ⟨k, hk, rfl, rfl⟩ := hrel
    have hrl := bit_lt (l.take k)
    by_cases hlt : k < m
    · rcases K4.out with h0 | ⟨B', off', rfl, hc'⟩
      · exact absurd h0 (by omega)
      have c1 := hc' k hlt
      have HR := Lib.hid (bits_snoc l k (by rw [K1.out]; exact hlt))
      have hx := HB.out k
      generalize l[k]?.getD 0 = x at c1 HR hx
      generalize S.bit (l.take k) = c at hrl HR
      obtain ⟨hx0, hx1⟩ := hx
      clear hc'
      have e1 := xor_i64A c x hrl hx0 hx1
      have hj : c ^^^ x.toNat < 4294967296 := S.xor_lt32 hrl (by omega)
      generalize c ^^^ x.toNat = j at e1 hj HR
      have hrow := fun w => ref04Row_any S.Poly (j % 256) w (by decide) (by omega)
      have hy2 := S.row_lt (p := S.Poly) (x := j % 256) (by decide) (by omega)
      generalize S.row S.Poly (j % 256) = y at HR hrow hy2
      rw [show ((S.Poly : Nat) : Int) = 3988292384 from rfl, show ((j % 256 : Nat) : Int) = (j : Int) % 256 by omega] at hrow
      have e2 := xor_i64D y c hy2 hrl
      go_wp2_with (go_at_call 28; (with_reducible refine (hrow _).mono ?_); rintro e w' ⟨rfl, rfl⟩)
      go_round
      case rel => exact ⟨k + 1, by omega, by go_num, by rw [HR.out]⟩
      case measure => simp [intOf]; omega
    · obtain rfl : k = m := by omega
      have HE : Hid (l.take k = l) := Lib.hid (List.take_of_length_le (by rw [K1.out]; omega))
      go_wp2
      go_ret
      exact ⟨ret_int (by simp [HE.out]), rfl⟩
set_option maxHeartbeats 1000000 in
theorem ref04Put_any (n : Int) (w : World) :
    Calls Try.prog 22 #[.int .i64 n] w (MadeB w (S.put n)) := by
  obtain ⟨m, hm⟩ : ∃ m : Nat, IntKind.u64.wrap n = (m : Int) := ⟨(IntKind.u64.wrap n).toNat, by rw [IntKind.wrap_u64]; omega⟩
  have HM : Hid ((m : Int) = n % 18446744073709551616) := Lib.hid (by rw [← hm, IntKind.wrap_u64])
  have hm2 : (m : Int) ≤ 18446744073709551615 := by have := HM.out; omega
  go_enter Try.func22, Try.ntmps22
  go_wp2
  go_ret
  have HM' := HM.out
  refine ⟨_, rfl, owns_built w [_, _, _, _] _ 4 rfl (by unfold maxLen; omega) |> fun h => ownsRow_nth h rfl (by simp [u8s, S.put]; omega), (Below.refl _ w).alloc (Nat.le_refl _) _⟩
set_option maxHeartbeats 1000000 in
theorem ref04Get_any (b : Option Addr) (m d : Nat) (l : List Int) (w : World) (hb : Row w .u8 b m d l) (hl : Bytes l) :
    Calls Try.prog 25 #[.slice b m d] w fun e w' => e = .returned (.int .i64 (S.get l)) ∧ ∃ n, w' = w.drewN n := by
  obtain ⟨k1, k2, k3, k4⟩ := hb
  by_cases hm : m = 4
  · subst hm
    rcases k4 with h0 | ⟨B, off, rfl, hc⟩
    · omega
    have hg : S.get l = l[0]?.getD 0 * 16777216 + l[1]?.getD 0 * 65536 + l[2]?.getD 0 * 256 + l[3]?.getD 0 := if_pos k1
    have c0 : w.cell? ⟨B, off, none⟩ = some (.int .u8 (l[0]?.getD 0)) := hc 0 (by omega)
    have c1 := hc 1 (by omega)
    have c2 := hc 2 (by omega)
    have c3 := hc 3 (by omega)
    have b0 := hl 0
    have b1 := hl 1
    have b2 := hl 2
    have b3 := hl 3
    have HG := Lib.hid hg; clear hg
    have K1 := Lib.hid k1; clear k1 hc hl
    rw [HG.out]
    generalize l[0]?.getD 0 = x0 at *
    generalize l[1]?.getD 0 = x1 at *
    generalize l[2]?.getD 0 = x2 at *
    generalize l[3]?.getD 0 = x3 at *
    obtain ⟨p0, q0⟩ := b0
    obtain ⟨p1, q1⟩ := b1
    obtain ⟨p2, q2⟩ := b2
    obtain ⟨p3, q3⟩ := b3
    go_enter Try.func25, Try.ntmps25
    go_wp2
    go_quiet (fail)
    go_wp2
    go_ret
    exact ⟨ret_int (by omega), _, rfl⟩
  · have hg : S.get l = -1 := if_neg (by rw [k1]; exact hm)
    have hd : ((m : Int) != 4) = true := by simp; omega
    rw [hg]
    have HG := Lib.hid hg; clear hg k1 k4
    go_enter Try.func25, Try.ntmps25
    go_wp2
    go_ret
    exact ⟨rfl, 0, rfl⟩
end Go.Proofs.Ytdnijiehfokagaa
