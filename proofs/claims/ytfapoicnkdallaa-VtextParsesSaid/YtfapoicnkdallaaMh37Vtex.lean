/- The document's answer for layer 1: Get, by trying. -/
import Derived.Test.YtfapoicnkdallaaMh36Vtex
import Derived.Deep.RegionWith
namespace Go.Proofs.Ytfapoicnkdallaa
open Go.RowKit Go.Shelf
theorem U.get_zero (r : List Int) (h : (U.get r).2 = 0) : U.get r = (0, 0) := by
  have hg : ∀ n o, (U.got n o).2 = 0 → 0 < n → U.got n o = (0, 0) := by
    intro n o h hn
    cases o with
    | none => rfl
    | some c => simp only [U.got] at h ⊢; split at h <;> simp_all
  cases r with
  | nil => rfl
  | cons x r =>
    simp only [U.get] at h ⊢
    split
    · rfl
    · rename_i hc
      rw [if_neg hc] at h
      exact hg _ _ h (by omega)
set_option maxRecDepth 100000 in
set_option maxHeartbeats 1000000 in
theorem refGet_any (a : Option Addr) (len cap : Nat) (l : List Int) (p : Int) (w : World) (hr : Row w .u8 a len cap l) (hb : Bytes l) (hp : -9223372036854775808 ≤ p) (hp' : p ≤ 9223372036854775807) :
    Calls Try.prog 81 #[.slice a len cap, .int .i64 p] w fun e w' => e = .returned (.tuple #[.int .i64 (getAt l p).1, .int .i64 ((getAt l p).2 : Int), .bool (decide (0 < (getAt l p).2))]) ∧ Below w.heap.size w w' := by
  obtain ⟨hl, hlc, hcm, hrow⟩ := hr
  unfold maxLen at hcm
  by_cases hneg : p < 0
  · have hd : decide (p < 0) = true := by simpa using hneg
    have hg : getAt l p = (0, 0) := by unfold getAt; rw [if_neg (by omega)]
    go_enter Try.func81, Try.ntmps81
    rw [hg]; clear hg hl hrow
    go_wp2
    go_ret3
    exact ⟨rfl, Below.refl _ _⟩
  obtain ⟨q, rfl⟩ := Int.eq_ofNat_of_zero_le (by omega : 0 ≤ p)
  have hd : decide ((q : Int) < 0) = false := by simp
  by_cases hge : len ≤ q
  · have hg : getAt l q = (0, 0) := by unfold getAt; rw [if_neg (by omega)]
    have hd2 : decide (len ≤ q) = true := by simpa using hge
    go_enter Try.func81, Try.ntmps81
    rw [hg]; clear hg hl hrow
    go_wp2
    go_ret3
    exact ⟨rfl, Below.refl _ _⟩
  rcases hrow with h0 | ⟨b, off, rfl, hcell⟩
  · exact absurd h0 (by omega)
  have hlt : q < len := by omega
  have hd2 : decide (len ≤ q) = false := by simpa using hge
  have hgl : getAt l q = U.get (l.drop q) := by unfold getAt; rw [if_pos (by omega), Int.toNat_natCast]
  obtain ⟨r, hr⟩ : ∃ r, l.drop q = r := ⟨_, rfl⟩
  have hrl : r.length = len - q := by rw [← hr, List.length_drop, hl]
  have hri : ∀ i, r[i]?.getD 0 = l[q + i]?.getD 0 := fun i => by rw [← hr, List.getElem?_drop]
  have hrb : ∀ i : Nat, 0 ≤ r[i]?.getD 0 ∧ r[i]?.getD 0 ≤ 255 := fun i => by rw [hri]; exact hb _
  have hbd := U.refC_bd r hrb
  have hrx : ∀ x ∈ r, 0 ≤ x := fun x hx => by
    obtain ⟨i, hi, rfl⟩ := List.getElem_of_mem hx
    have := (hrb i).1; rwa [List.getElem?_eq_getElem hi] at this
  rw [hr] at hgl
  generalize getAt l (q : Int) = g at hgl ⊢
  have HG := Lib.hid hgl; clear hgl
  have HL := Lib.hid hl; clear hl
  have HR := Lib.hid hr; clear hr
  have HRL := Lib.hid hrl; clear hrl
  have HRI := Lib.hid hri; clear hri
  have HRB := Lib.hid hrb; clear hrb
  have HBD := Lib.hid hbd; clear hbd
  have HRX := Lib.hid hrx; clear hrx
  have HC := Lib.hid hcell
  have hb0 : b < w.heap.size := by
    have h0 := hcell q hlt
    simp only [World.cell?] at h0
    rcases Nat.lt_or_ge b w.heap.size with h | h
    · exact h
    · rw [Array.getElem?_eq_none h] at h0; cases h0
  clear hcell
  go_enter Try.func81, Try.ntmps81
  go_wp2
  go_loopw [7, 8, 9] (fun c i _ wr => ∃ (k : Nat) (cc : Int), 1 ≤ k ∧ k ≤ 5 ∧ q + k ≤ len + 1 ∧ i = .int .i64 k ∧ c = .int .i64 cc ∧ cc = U.refC r (k - 1) ∧ (∀ m, 1 ≤ m → m < k → U.put (U.refC r m) ≠ r.take m) ∧ Below w.heap.size w wr)
    (fun _ i _ _ => 5 - (intOf i).toNat)
  case atStart => exact ⟨1, 0, by omega, by omega, by omega, rfl, rfl, rfl, fun m h1 h2 => by omega, Below.refl _ _⟩
  case round =>
    obtain ⟨k, cc, hk1, hk5, hql, rfl, rfl, hcc, hno, hB⟩ := hrel
    have HNO := Lib.hid hno; clear hno
    have hcb : 0 ≤ cc ∧ cc ≤ 50331647 := by
      have h := HBD.out
      rw [hcc]
      refine ⟨h.1 _, ?_⟩
      obtain h | h | h | h | h : k = 1 ∨ k = 2 ∨ k = 3 ∨ k = 4 ∨ k = 5 := by omega
      all_goals subst h
      all_goals simp only [U.refC, Nat.reduceSub] at *
      all_goals omega
    have HCC := Lib.hid hcc; clear hcc
    by_cases hin : k ≤ 4 ∧ q + k ≤ len
    · obtain ⟨hk4, hqk⟩ := hin
      have hg1 : decide (k ≤ 4) = true := by simpa using hk4
      have hg2 : decide ((k : Int) ≤ (len : Int) - q) = true := by simp; omega
      have hx := (hB.cell (p := ⟨b, off + (q + k - 1), none⟩) hb0).trans (HC.out (q + k - 1) (by omega))
      have hxb := hb (q + k - 1)
      obtain ⟨x, hxe⟩ : ∃ x, l[q + k - 1]?.getD 0 = x := ⟨_, rfl⟩
      rw [hxe] at hx hxb
      have HX : Hid (r[k - 1]?.getD 0 = x) := Lib.hid (by rw [HRI.out, ← hxe, show q + (k - 1) = q + k - 1 by omega])
      clear hxe
      obtain ⟨y, hy⟩ : ∃ y, U.refC r k = y := ⟨_, rfl⟩
      have hyb : 0 ≤ y := by rw [← hy]; exact HBD.out.1 k
      have hcase : ((k : Int) == 1) = true ∧ 240 ≤ x ∧ x - 240 = y ∨ ((k : Int) == 1) = true ∧ x < 240 ∧ 224 ≤ x ∧ x - 224 = y ∨ ((k : Int) == 1) = true ∧ x < 224 ∧ 192 ≤ x ∧ x - 192 = y ∨
          ((k : Int) == 1) = true ∧ x < 192 ∧ x = y ∨ ((k : Int) == 1) = false ∧ cc * 64 + x % 64 = y := by
        have hx' := HX.out
        by_cases h1 : k = 1
        · subst h1
          simp only [U.refC, U.lead, Nat.sub_self] at hy hx'
          rw [hx'] at hy
          have e : (((1 : Nat) : Int) == 1) = true := by decide
          simp only [e, true_and]
          (repeat' split at hy) <;> omega
        · right; right; right; right
          refine ⟨by simp; omega, ?_⟩
          obtain ⟨m, rfl⟩ : ∃ m, k = m + 2 := ⟨k - 2, by omega⟩
          have hcc' := HCC.out
          rw [show m + 2 - 1 = m + 1 from rfl] at hcc' hx'
          simp only [U.refC] at hy
          rw [hx', ← hcc'] at hy
          exact hy
      have HY := Lib.hid hy; clear hy
      have hput := refPut_any y
      have hrow1 : ∀ w1, Below wr.heap.size wr w1 → Row w1 .u8 (some ⟨b, off + q, none⟩) k (cap - q) (r.take k) := by
        intro w1 h1
        refine ⟨by rw [List.length_take, HRL.out]; omega, by omega, by unfold maxLen; omega, .inr ⟨b, off + q, rfl, fun i hi => ?_⟩⟩
        have h2 := HC.out (q + i) (by omega)
        rw [List.getElem?_take, if_pos hi, HRI.out i, Nat.add_assoc]
        exact (h1.cell (p := ⟨b, off + (q + i), none⟩) (Nat.lt_of_lt_of_le hb0 hB.size)).trans ((hB.cell (p := ⟨b, off + (q + i), none⟩) hb0).trans h2)
      have HRW := Lib.hid hrow1; clear hrow1
      have hsl := sub_u8 b off len cap q k (by omega) (by omega)
      have hwr : IntKind.i64.wrap ((q : Int) + k) = (q : Int) + k := IntWalk.i64_in _ (by omega)
      rcases hcase with ⟨h1, h2, h3⟩ | ⟨h1, h2, h3, h4⟩ | ⟨h1, h2, h3, h4⟩ | ⟨h1, h2, h3⟩ | ⟨h1, h2⟩
      all_goals
        go_wp2
        go_region_with (first
          | (go_at_call 90; refine (hput _).mono ?_; rintro e w1 ⟨v, rfl, hown, hbl⟩; obtain ⟨a', c', rfl, hrw⟩ := row_of_owns hown)
          | (go_at_call 89; refine (refBytes_any _ _ _ _ _ _ (U.put y) (r.take k) _ (by exact hrw) (by exact HRW.out _ ((Below.refl wr.heap.size wr).drew.trans (by exact hbl)))).mono ?_; rintro e w2 ⟨rfl, nq, rfl⟩))
        all_goals
          have hBw : Below w.heap.size w (w1.drewN nq) := below_drewN (hB.trans (((Below.refl wr.heap.size wr).drew.trans (by exact hbl)).mono hB.size)) nq
          clear hrw hown hput hsl hwr h1 h2
          by_cases hm : U.put y = r.take k
          · have hdec : decide (U.put y = r.take k) = true := by simpa using hm
            have hat := U.at_of_take r y k (by omega) (by rw [HRL.out]; omega) hm
            obtain rfl : g = (y, k) := by rw [HG.out]; exact U.get_of r y k hat
            have HM := Lib.hid hm; clear hm hat
            go_wp2
            go_ret3
            exact ⟨ret_iib rfl rfl (by simp; omega), hBw⟩
          · have hdec : decide (U.put y = r.take k) = false := by simpa using hm
            have HM := Lib.hid hm; clear hm
            go_wp2
            go_roundw
            case rel => exact ⟨k + 1, y, by omega, by omega, by omega, by go_num, rfl, HY.out.symm, fun m h1 h2 => by
              rcases Nat.lt_or_ge m k with h | h
              · exact HNO.out m h1 h
              · obtain rfl : m = k := by omega
                rw [HY.out]; exact HM.out, hBw⟩
            case measure => simp [intOf]; omega
    · obtain rfl : g = (0, 0) := by
        rw [HG.out]
        rcases Nat.eq_zero_or_pos (U.get r).2 with h | h
        · exact U.get_zero r h
        · obtain ⟨e1, e2, e3, e4⟩ := U.refC_of r _ _ (U.at_of_get r HRX.out h)
          have := HRL.out
          exact absurd (by rw [e1, e2]) (HNO.out (U.get r).2 h (by omega))
      by_cases hk : k ≤ 4
      · have hg1 : decide (k ≤ 4) = true := by simpa using hk
        have hg2 : decide ((k : Int) ≤ (len : Int) - q) = false := by simp; omega
        go_wp2
        go_ret3
        exact ⟨rfl, hB⟩
      · have hg1 : decide (k ≤ 4) = false := by simpa using hk
        go_wp2
        go_ret3
        exact ⟨rfl, hB⟩
end Go.Proofs.Ytfapoicnkdallaa
