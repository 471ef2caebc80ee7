/- The walk of UtfOnly: what stands at a place is one code's bytes, and no beginning of them is one. -/
import Derived.Test.YtjkdmflpfaolaaaUtfLaw
import Derived.Deep.RegionWith
namespace Go.Proofs.Ytjkdmflpfaolaaa.utfOnlyWalk
open Go.RowKit Go.Shelf
set_option maxRecDepth 100000 in
set_option maxHeartbeats 1000000 in
theorem walk (a0 : Option Addr) (len0 cap0 : Nat) (z0 : List Int) (a1 : Int) (w : World) (w0 : IsRow .u8 w a0 len0 cap0 z0) (w1 : (Lit.int .i64 a1).wf = true) :
    Calls Try.prog 7 #[.slice a0 len0 cap0, .int .i64 a1] w fun e w' => e = .returned (.bool true) ∧ Below w.heap.size w w' := by
  have hal := alive_any w
  obtain ⟨hrow, hwf⟩ := row_of_isRow w0
  have hb := bytes_of hwf
  obtain ⟨p0, p1⟩ := wf_i64 w1
  have hlc := hrow.2.1
  have hcm := hrow.2.2.1
  unfold maxLen at hcm
  clear w0 w1 hwf
  by_cases h0 : 300 < len0
  · have d0 : decide (300 < len0) = true := by simpa using h0
    go_enter Try.func7, Try.ntmps7
    go_wp2_with (first | (go_at_call 8; (with_reducible refine hal.mono ?_); rintro e w' ⟨rfl, hb⟩))
    go_ret
    exact ⟨rfl, hb⟩
  have d0 : decide (300 < len0) = false := by simpa using h0
  have hg1 : ∀ w, Row w .u8 a0 len0 cap0 (z0.take len0) → _ := fun w h => Get_any a0 len0 cap0 (z0.take len0) a1 w h hb p0 p1
  obtain ⟨l, hl⟩ : ∃ l, z0.take len0 = l := ⟨_, rfl⟩
  rw [hl] at hrow hb hg1
  clear hl
  by_cases hpos : 0 < (getAt l a1).2
  · have hin : 0 ≤ a1 ∧ a1 < l.length := by
      unfold getAt at hpos
      split at hpos
      · assumption
      · simp at hpos
    obtain ⟨q, rfl⟩ := Int.eq_ofNat_of_zero_le hin.1
    have hll := hrow.1
    have hgl : getAt l q = U.get (l.drop q) := by unfold getAt; rw [if_pos hin, Int.toNat_natCast]
    have hrx : ∀ x ∈ l.drop q, 0 ≤ x := fun x hx => by
      obtain ⟨i, hi, rfl⟩ := List.getElem_of_mem (List.mem_of_mem_drop hx)
      have := (hb i).1; rwa [List.getElem?_eq_getElem hi] at this
    rw [hgl] at hpos
    have hat := U.at_of_get _ hrx hpos
    obtain ⟨_, htk, hn4, hnl⟩ := U.refC_of _ _ _ hat
    have hsh := U.get_short _ hrx
    rw [List.length_drop] at hnl
    simp only [hgl] at hg1
    obtain ⟨c, n, hcn⟩ := pair_eta (U.get (l.drop q))
    simp only [hcn] at hg1 hpos htk hn4 hnl hsh
    have hd : decide (0 < n) = true := by simpa using hpos
    have hr2 : ∀ w k, k ≤ n → Row w .u8 a0 len0 cap0 l → ∃ b off, a0 = some ⟨b, off, none⟩ ∧ Row w .u8 (some ⟨b, off + q, none⟩) k (cap0 - q) ((l.drop q).take k) := fun w k hk h => by
      obtain ⟨i1, i2, i3, i4⟩ := h
      rcases i4 with i4 | ⟨b, off, rfl, hc⟩
      · omega
      · refine ⟨b, off, rfl, by rw [List.length_take, List.length_drop]; omega, by omega, by unfold maxLen; omega, .inr ⟨b, off + q, rfl, fun i hi => ?_⟩⟩
        have := hc (q + i) (by omega)
        rw [List.getElem?_take, if_pos hi, List.getElem?_drop, Nat.add_assoc]; exact this
    have hbr : ∀ k, Bytes ((l.drop q).take k) := fun k i => by
      rw [List.getElem?_take]
      split
      · rw [List.getElem?_drop]; exact hb _
      · simp
    obtain ⟨b, off, rfl, _⟩ := hr2 w n (Nat.le_refl _) hrow
    have hput := put_any c
    have hdec : decide (U.put c = (l.drop q).take n) = true := by simpa using htk.symm
    have hR : ∀ w k, k ≤ n → Row w .u8 (some ⟨b, off, none⟩) len0 cap0 l → Row w .u8 (some ⟨b, off + q, none⟩) k (cap0 - q) ((l.drop q).take k) := fun w k hk h => by
      obtain ⟨b', off', e, h'⟩ := hr2 w k hk h
      cases e; exact h'
    have hsl := sub_u8 b off len0 cap0 q n (by omega) (by omega)
    have hwr : IntKind.i64.wrap ((q : Int) + n) = (q : Int) + n := IntWalk.i64_in _ (by omega)
    have h4 : decide ((4 : Int) < (n : Int)) = false := by simp; omega
    have HR := Lib.hid hR; clear hR hr2 htk
    have HS := Lib.hid hsh; clear hsh
    have HB := Lib.hid hbr; clear hbr
    have HC := Lib.hid hcn; clear hcn
    have HGL := Lib.hid hgl; clear hgl hat
    have hqn : q + n ≤ len0 := by omega
    clear hll
    go_enter Try.func7, Try.ntmps7
    go_wp2_with fail
    with_reducible refine hal.mono ?_
    rintro e wa ⟨rfl, hba⟩
    have hra := row_below hrow hba rfl
    go_wp2_with fail
    with_reducible refine (hg1 _ hra).mono ?_
    rintro e w' ⟨rfl, rfl⟩
    go_wp2
    go_region_with (first
      | (go_at_call 12; refine (hput _).mono ?_; rintro e w1 ⟨v, rfl, hown, hbl⟩; obtain ⟨a', c', rfl, hrw⟩ := row_of_owns hown)
      | (go_at_call 11; refine (refBytes_any _ _ _ _ _ _ (U.put c) ((l.drop q).take n) _ (by exact hrw) (by exact HR.out _ _ (Nat.le_refl _) (row_below hra ((Below.refl wa.heap.size wa).drew.trans (by exact hbl)) rfl))).mono ?_; rintro e w2 ⟨rfl, nq, rfl⟩))
    all_goals
      have hbw : Below w.heap.size w (w1.drewN nq) := below_drewN (hba.trans (((Below.refl wa.heap.size wa).drew.trans (by exact hbl)).mono hba.size)) nq
      have hr1 : Row (w1.drewN nq) .u8 (some ⟨b, off, none⟩) len0 cap0 l := row_below hrow hbw rfl
      clear hrw hown hput hsl hwr hg1 hbl hra hal
      have HRR := Lib.hid hr1; clear hr1
      generalize w1.drewN nq = wz at *
      go_wp2
      go_loop [8, 9] (fun i _ => ∃ k : Nat, k ≤ n ∧ i = .int .i64 k) (fun i _ => n - (intOf i).toNat)
      case atStart => exact ⟨0, Nat.zero_le _, rfl⟩
      case round =>
        obtain ⟨k, hk, rfl⟩ := hrel
        by_cases hkn : k < n
        · have hslk := sub_u8 b off len0 cap0 q k (by omega) (by omega)
          have hg := Get_any _ _ _ _ 0 wz (HR.out wz k hk HRR.out) (HB.out k) (by omega) (by omega)
          have hz : getAt ((l.drop q).take k) 0 = (0, 0) := by
            unfold getAt
            split
            · exact U.get_zero _ (HS.out k hkn)
            · rfl
          rw [hz] at hg
          clear hz
          go_wp2_with (first | (go_at_call 9; (with_reducible refine hg.mono ?_); rintro e w' ⟨rfl, rfl⟩))
          go_round
          case rel => exact ⟨k + 1, by omega, by go_num⟩
          case measure => simp [intOf]; omega
        · go_wp2
          go_ret
          exact ⟨rfl, hbw⟩
  · have hz : getAt l a1 = (0, 0) := by
      unfold getAt at hpos ⊢
      split
      · rename_i h; rw [if_pos h] at hpos; exact U.get_zero _ (by omega)
      · rfl
    simp only [hz] at hg1
    clear hz hpos
    go_enter Try.func7, Try.ntmps7
    go_wp2_with fail
    with_reducible refine hal.mono ?_
    rintro e wa ⟨rfl, hba⟩
    have hra := row_below hrow hba rfl
    go_wp2_with fail
    with_reducible refine (hg1 _ hra).mono ?_
    rintro e w' ⟨rfl, rfl⟩
    go_wp2
    go_ret
    exact ⟨rfl, hba⟩
end Go.Proofs.Ytjkdmflpfaolaaa.utfOnlyWalk
