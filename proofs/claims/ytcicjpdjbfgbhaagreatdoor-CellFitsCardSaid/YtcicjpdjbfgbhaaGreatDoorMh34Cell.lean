/- The document's answer for layer 1: Get, by trying. -/
import Derived.Test.YtcicjpdjbfgbhaaGreatDoorMh33Cell
import Derived.Deep.RegionWith
import Derived.Lib.ConvBytes
import Derived.Test.YtcicjpdjbfgbhaaGreatDoorMh9Cell
import Derived.Test.YtcicjpdjbfgbhaaGreatDoorMh5Cell
import Derived.Deep.RegionHeld3
import Derived.Deep.DeepCutAuto
import Derived.Test.YtcicjpdjbfgbhaaGreatDoorMh23Cell
namespace Go.Proofs.YtcicjpdjbfgbhaaGreatDoor
open Go.RowKit Go.Shelf
theorem U.get_zero (r : List Int) (h : (U.get r).2 = 0) : U.get r = (0, 0) := by
  have hg : ∀ n o, (U.got n o).2 = 0 → 0 < n → U.got n o = (0, 0) := by
    intro n o h hn
    cases o with
    | none => rfl
    | some c => simp only [U.got] at h ⊢; split at h <;> simp_all
  cases r with
  | nil => rfl
  | cons x r =>
    simp only [U.get] at h ⊢
    split
    · rfl
    · rename_i hc
      rw [if_neg hc] at h
      exact hg _ _ h (by omega)
set_option maxRecDepth 100000 in
set_option maxHeartbeats 1000000 in
theorem refGet_any (a : Option Addr) (len cap : Nat) (l : List Int) (p : Int) (w : World) (hr : Row w .u8 a len cap l) (hb : Bytes l) (hp : -9223372036854775808 ≤ p) (hp' : p ≤ 9223372036854775807) :
    Calls Tryz.prog 82 #[.slice a len cap, .int .i64 p] w fun e w' => e = .returned (.tuple #[.int .i64 (getAt l p).1, .int .i64 ((getAt l p).2 : Int), .bool (decide (0 < (getAt l p).2))]) ∧ Below w.heap.size w w' := by
  obtain ⟨hl, hlc, hcm, hrow⟩ := hr
  unfold maxLen at hcm
  by_cases hneg : p < 0
  · have hd : decide (p < 0) = true := by simpa using hneg
    have hg : getAt l p = (0, 0) := by unfold getAt; rw [if_neg (by omega)]
    go_enter Tryz.func82, Tryz.ntmps82
    rw [hg]; clear hg hl hrow
    go_wp2
    go_ret3
    exact ⟨rfl, Below.refl _ _⟩
  obtain ⟨q, rfl⟩ := Int.eq_ofNat_of_zero_le (by omega : 0 ≤ p)
  have hd : decide ((q : Int) < 0) = false := by simp
  by_cases hge : len ≤ q
  · have hg : getAt l q = (0, 0) := by unfold getAt; rw [if_neg (by omega)]
    have hd2 : decide (len ≤ q) = true := by simpa using hge
    go_enter Tryz.func82, Tryz.ntmps82
    rw [hg]; clear hg hl hrow
    go_wp2
    go_ret3
    exact ⟨rfl, Below.refl _ _⟩
  rcases hrow with h0 | ⟨b, off, rfl, hcell⟩
  · exact absurd h0 (by omega)
  have hlt : q < len := by omega
  have hd2 : decide (len ≤ q) = false := by simpa using hge
  have hgl : getAt l q = U.get (l.drop q) := by unfold getAt; rw [if_pos (by omega), Int.toNat_natCast]
  obtain ⟨r, hr⟩ : ∃ r, l.drop q = r := ⟨_, rfl⟩
  have hrl : r.length = len - q := by rw [← hr, List.length_drop, hl]
  have hri : ∀ i, r[i]?.getD 0 = l[q + i]?.getD 0 := fun i => by rw [← hr, List.getElem?_drop]
  have hrb : ∀ i : Nat, 0 ≤ r[i]?.getD 0 ∧ r[i]?.getD 0 ≤ 255 := fun i => by rw [hri]; exact hb _
  have hbd := U.refC_bd r hrb
  have hrx : ∀ x ∈ r, 0 ≤ x := fun x hx => by
    obtain ⟨i, hi, rfl⟩ := List.getElem_of_mem hx
    have := (hrb i).1; rwa [List.getElem?_eq_getElem hi] at this
  rw [hr] at hgl
  generalize getAt l (q : Int) = g at hgl ⊢
  have HG := Lib.hid hgl; clear hgl
  have HL := Lib.hid hl; clear hl
  have HR := Lib.hid hr; clear hr
  have HRL := Lib.hid hrl; clear hrl
  have HRI := Lib.hid hri; clear hri
  have HRB := Lib.hid hrb; clear hrb
  have HBD := Lib.hid hbd; clear hbd
  have HRX := Lib.hid hrx; clear hrx
  have HC := Lib.hid hcell
  have hb0 : b < w.heap.size := by
    have h0 := hcell q hlt
    simp only [World.cell?] at h0
    rcases Nat.lt_or_ge b w.heap.size with h | h
    · exact h
    · rw [Array.getElem?_eq_none h] at h0; cases h0
  clear hcell
  go_enter Tryz.func82, Tryz.ntmps82
  go_wp2
  go_loopw [7, 8, 9] (fun c i _ wr => ∃ (k : Nat) (cc : Int), 1 ≤ k ∧ k ≤ 5 ∧ q + k ≤ len + 1 ∧ i = .int .i64 k ∧ c = .int .i64 cc ∧ cc = U.refC r (k - 1) ∧ (∀ m, 1 ≤ m → m < k → U.put (U.refC r m) ≠ r.take m) ∧ Below w.heap.size w wr)
    (fun _ i _ _ => 5 - (intOf i).toNat)
  case atStart => exact ⟨1, 0, by omega, by omega, by omega, rfl, rfl, rfl, fun m h1 h2 => by omega, Below.refl _ _⟩
  case round =>
    obtain ⟨k, cc, hk1, hk5, hql, rfl, rfl, hcc, hno, hB⟩ := hrel
    have HNO := Lib.hid hno; clear hno
    have hcb : 0 ≤ cc ∧ cc ≤ 50331647 := by
      have h := HBD.out
      rw [hcc]
      refine ⟨h.1 _, ?_⟩
      obtain h | h | h | h | h : k = 1 ∨ k = 2 ∨ k = 3 ∨ k = 4 ∨ k = 5 := by omega
      all_goals subst h
      all_goals simp only [U.refC, Nat.reduceSub] at *
      all_goals omega
    have HCC := Lib.hid hcc; clear hcc
    by_cases hin : k ≤ 4 ∧ q + k ≤ len
    · obtain ⟨hk4, hqk⟩ := hin
      have hg1 : decide (k ≤ 4) = true := by simpa using hk4
      have hg2 : decide ((k : Int) ≤ (len : Int) - q) = true := by simp; omega
      have hx := (hB.cell (p := ⟨b, off + (q + k - 1), none⟩) hb0).trans (HC.out (q + k - 1) (by omega))
      have hxb := hb (q + k - 1)
      obtain ⟨x, hxe⟩ : ∃ x, l[q + k - 1]?.getD 0 = x := ⟨_, rfl⟩
      rw [hxe] at hx hxb
      have HX : Hid (r[k - 1]?.getD 0 = x) := Lib.hid (by rw [HRI.out, ← hxe, show q + (k - 1) = q + k - 1 by omega])
      clear hxe
      obtain ⟨y, hy⟩ : ∃ y, U.refC r k = y := ⟨_, rfl⟩
      have hyb : 0 ≤ y := by rw [← hy]; exact HBD.out.1 k
      have hcase : ((k : Int) == 1) = true ∧ 240 ≤ x ∧ x - 240 = y ∨ ((k : Int) == 1) = true ∧ x < 240 ∧ 224 ≤ x ∧ x - 224 = y ∨ ((k : Int) == 1) = true ∧ x < 224 ∧ 192 ≤ x ∧ x - 192 = y ∨
          ((k : Int) == 1) = true ∧ x < 192 ∧ x = y ∨ ((k : Int) == 1) = false ∧ cc * 64 + x % 64 = y := by
        have hx' := HX.out
        by_cases h1 : k = 1
        · subst h1
          simp only [U.refC, U.lead, Nat.sub_self] at hy hx'
          rw [hx'] at hy
          have e : (((1 : Nat) : Int) == 1) = true := by decide
          simp only [e, true_and]
          (repeat' split at hy) <;> omega
        · right; right; right; right
          refine ⟨by simp; omega, ?_⟩
          obtain ⟨m, rfl⟩ : ∃ m, k = m + 2 := ⟨k - 2, by omega⟩
          have hcc' := HCC.out
          rw [show m + 2 - 1 = m + 1 from rfl] at hcc' hx'
          simp only [U.refC] at hy
          rw [hx', ← hcc'] at hy
          exact hy
      have HY := Lib.hid hy; clear hy
      have hput := refPut_any y
      have hrow1 : ∀ w1, Below wr.heap.size wr w1 → Row w1 .u8 (some ⟨b, off + q, none⟩) k (cap - q) (r.take k) := by
        intro w1 h1
        refine ⟨by rw [List.length_take, HRL.out]; omega, by omega, by unfold maxLen; omega, .inr ⟨b, off + q, rfl, fun i hi => ?_⟩⟩
        have h2 := HC.out (q + i) (by omega)
        rw [List.getElem?_take, if_pos hi, HRI.out i, Nat.add_assoc]
        exact (h1.cell (p := ⟨b, off + (q + i), none⟩) (Nat.lt_of_lt_of_le hb0 hB.size)).trans ((hB.cell (p := ⟨b, off + (q + i), none⟩) hb0).trans h2)
      have HRW := Lib.hid hrow1; clear hrow1
      have hsl := sub_u8 b off len cap q k (by omega) (by omega)
      have hwr : IntKind.i64.wrap ((q : Int) + k) = (q : Int) + k := IntWalk.i64_in _ (by omega)
      rcases hcase with ⟨h1, h2, h3⟩ | ⟨h1, h2, h3, h4⟩ | ⟨h1, h2, h3, h4⟩ | ⟨h1, h2, h3⟩ | ⟨h1, h2⟩
      all_goals
        go_wp2
        go_region_with (first
          | (go_at_call 87; refine (hput _).mono ?_; rintro e w1 ⟨v, rfl, hown, hbl⟩; obtain ⟨a', c', rfl, hrw⟩ := row_of_owns hown)
          | (go_at_call 86; refine (refBytes_any _ _ _ _ _ _ (U.put y) (r.take k) _ (by exact hrw) (by exact HRW.out _ ((Below.refl wr.heap.size wr).drew.trans (by exact hbl)))).mono ?_; rintro e w2 ⟨rfl, nq, rfl⟩))
        all_goals
          have hBw : Below w.heap.size w (w1.drewN nq) := below_drewN (hB.trans (((Below.refl wr.heap.size wr).drew.trans (by exact hbl)).mono hB.size)) nq
          clear hrw hown hput hsl hwr h1 h2
          by_cases hm : U.put y = r.take k
          · have hdec : decide (U.put y = r.take k) = true := by simpa using hm
            have hat := U.at_of_take r y k (by omega) (by rw [HRL.out]; omega) hm
            obtain rfl : g = (y, k) := by rw [HG.out]; exact U.get_of r y k hat
            have HM := Lib.hid hm; clear hm hat
            go_wp2
            go_ret3
            exact ⟨ret_iib rfl rfl (by simp; omega), hBw⟩
          · have hdec : decide (U.put y = r.take k) = false := by simpa using hm
            have HM := Lib.hid hm; clear hm
            go_wp2
            go_roundw
            case rel => exact ⟨k + 1, y, by omega, by omega, by omega, by go_num, rfl, HY.out.symm, fun m h1 h2 => by
              rcases Nat.lt_or_ge m k with h | h
              · exact HNO.out m h1 h
              · obtain rfl : m = k := by omega
                rw [HY.out]; exact HM.out, hBw⟩
            case measure => simp [intOf]; omega
    · obtain rfl : g = (0, 0) := by
        rw [HG.out]
        rcases Nat.eq_zero_or_pos (U.get r).2 with h | h
        · exact U.get_zero r h
        · obtain ⟨e1, e2, e3, e4⟩ := U.refC_of r _ _ (U.at_of_get r HRX.out h)
          have := HRL.out
          exact absurd (by rw [e1, e2]) (HNO.out (U.get r).2 h (by omega))
      by_cases hk : k ≤ 4
      · have hg1 : decide (k ≤ 4) = true := by simpa using hk
        have hg2 : decide ((k : Int) ≤ (len : Int) - q) = false := by simp; omega
        go_wp2
        go_ret3
        exact ⟨rfl, hB⟩
      · have hg1 : decide (k ≤ 4) = false := by simpa using hk
        go_wp2
        go_ret3
        exact ⟨rfl, hB⟩
end Go.Proofs.YtcicjpdjbfgbhaaGreatDoor

/- The document's answer for layer 1: Codes and Text. -/
namespace Go.Proofs.YtcicjpdjbfgbhaaGreatDoor
open Go.RowKit Go.Shelf
set_option maxRecDepth 100000 in
set_option maxHeartbeats 2000000 in
theorem refCodes_any (s : ByteArray) (w : World) (hsm : s.size ≤ 1099511627776) :
    Calls Tryz.prog 75 #[.string s] w (Cds w s) := by
  obtain ⟨i0, hi, hz0, hz1, hz2⟩ := info_parts info_int
  have hmx : s.size ≤ maxLen := by unfold maxLen; omega
  go_enter Tryz.func75, Tryz.ntmps75
  go_wp2
  go_loopw [4, 5, 6, 7, 8] (fun o i _ _ _ wr => ∃ (p f : Nat) (pre : List (Int × Nat)) (v : Value), p ≤ s.size ∧ i = .int .i64 p ∧ v = o ∧ wr.ownsRow w.heap.size 3 1 v pre.length (i64s (pre.map (·.1))) ∧ Below w.heap.size w wr ∧
      pre ++ U.cds f (strB s) p = U.cds s.size (strB s) 0 ∧ s.size ≤ p + f ∧ pre.length ≤ p ∧ U.lastEnd pre = p)
    (fun _ i _ _ _ _ => s.size - (intOf i).toNat)
  case atStart => exact ⟨0, s.size, [], _, Nat.zero_le _, rfl, rfl, World.ownsRow_nil _ _ _ _, Below.refl _ _, rfl, by omega, by simp, rfl⟩
  case round =>
    obtain ⟨p, f, pre, v, hp, rfl, rfl, hown, hB, hcd, hpf, hpl, hle⟩ := hrel
    have HC := Lib.hid hcd; clear hcd
    have HE := Lib.hid hle; clear hle
    by_cases hlt : p < s.size
    · obtain ⟨cap, w1, hcv, hrow, hb1⟩ := conv_bytes wr s hmx
      have hget := refGet_any _ _ _ _ (p : Int) w1 hrow (strB_bytes s) (by omega) (by omega)
      have hle := U.getAt_le (strB s) p (by rw [strB_len]; exact hp)
      rw [strB_len] at hle
      have hcs := cds_step (f - 1) (strB s) p
      have hcn := cds_stop (f - 1) (strB s) p
      obtain ⟨c, m, hcm⟩ := pair_eta (getAt (strB s) (p : Int))
      simp only [hcm] at hle hget hcs hcn
      have HM := Lib.hid hcm; clear hcm
      have hf : f = f - 1 + 1 := by omega
      have hown1 := ownsRow_below hown hb1
      by_cases hm : 0 < m
      · have HD : Hid ((pre ++ [(c, p + m)]) ++ U.cds (f - 1) (strB s) (p + m) = U.cds s.size (strB s) 0) := Lib.hid (by
          rw [← HC.out, hf, hcs hm]; simp)
        clear hcs hcn
        have HF := Lib.hid hf; clear hf
        have hd : decide (0 < m) = true := by simpa using hm
        go_wp2_with (first
          | (go_at_call 82; refine hget.mono ?_; rintro e w2 ⟨rfl, hb2⟩; have hown2 := (ownsRow_below hown1 hb2).alloc (.cells #[.int .i64 c] 3))
          | (at_builtin; refine wpList_append_own _ rfl _ _ 86 rfl w.heap.size 3 i0 (.int .i64 0) 1 8 Tryz.underlying86 hi hz0 hz1 hz2 rfl (by decide) v _ _ rfl hown2 ⟨w2.heap.size, 0, none⟩ 1 1 [.int .i64 c] rfl rfl (cells_new _ [_] _) (by simp [Value.oneCell']) ?b1 ?b2 ?b3 ?_))
        case b1 => unfold maxLen; omega
        case b2 => omega
        case b3 => have := hB.size; have := hb1.size; have := hb2.size; simp; omega
        intro v' w3 hown3 hg _
        have hbl : Below w.heap.size w w3 := (((hB.trans (hb1.mono hB.size)).trans (hb2.mono (Nat.le_trans hB.size hb1.size))).alloc (by have := hB.size; have := hb1.size; have := hb2.size; omega) _).trans (below_grown hg hown2 (by have := hB.size; have := hb1.size; have := hb2.size; simp; omega))
        have HV := Lib.hid hown3; clear hown3 hown2 hown1 hown hcv
        go_wp2
        go_roundw
        case rel => exact ⟨p + m, f - 1, pre ++ [(c, p + m)], v', hle.1, by go_num, rfl, ownsRow_nth HV.out (by simp) (by simp [i64s]), hbl, HD.out, by omega, by simp; omega, U.lastEnd_snoc _ _⟩
        case measure => simp [intOf]; omega
      · have hm0 : m = 0 := by omega
        subst hm0
        have HD : Hid (pre = U.cds s.size (strB s) 0) := Lib.hid (by rw [← HC.out, hf, hcn hm, List.append_nil])
        clear hcs hcn hf
        have hd : decide (0 < 0) = false := by simp
        go_wp2_with (first
          | (go_at_call 82; refine hget.mono ?_; rintro e w2 ⟨rfl, hb2⟩; have hown2 := ownsRow_below hown1 hb2))
        go_ret2
        exact ⟨v, by rw [← HD.out, HE.out]; rfl, by rw [← HD.out]; exact hown2, (hB.trans (hb1.mono hB.size)).trans (hb2.mono (Nat.le_trans hB.size hb1.size))⟩
    · obtain rfl : p = s.size := by omega
      have HD : Hid (pre = U.cds s.size (strB s) 0) := Lib.hid (by
        rw [← HC.out]
        cases f with
        | zero => simp [U.cds]
        | succ f => rw [cds_stop f _ _ (by unfold getAt; rw [if_neg (by rw [strB_len]; omega)]; simp), List.append_nil])
      go_wp2
      go_ret2
      exact ⟨v, by rw [← HD.out, HE.out]; rfl, by rw [← HD.out]; exact hown, hB⟩
end Go.Proofs.YtcicjpdjbfgbhaaGreatDoor

/- The document's Right: Valid, IsName, each, Nodes. -/
namespace Go.Proofs.YtcicjpdjbfgbhaaGreatDoor
open Go.RowKit Go.Shelf
attribute [local go_sem] Oper.semAt_some
set_option maxHeartbeats 1000000 in
theorem refValid_any (s : ByteArray) (w : World) (hs : s.size ≤ 1099511627776) : Calls Tryz.prog 65 #[.string s] w fun e w' => e = .returned (.bool (U.validS s)) ∧ Below w.heap.size w w' := by
  have hC := refCodes_any s w hs
  have hd : U.validS s = decide (U.lastEnd (U.cds s.size (strB s) 0) = s.size) := rfl
  rw [hd]
  unfold Cds at hC
  generalize U.lastEnd (U.cds s.size (strB s) 0) = m at *
  generalize U.cds s.size (strB s) 0 = cs at *
  clear hd
  have hsz : s.size ≤ maxLen := by unfold maxLen; omega
  unfold maxLen at hsz
  go_enter Tryz.func65, Tryz.ntmps65
  go_wp2_with (first | (go_at_call 75; (with_reducible refine hC.mono ?_); rintro e w1 ⟨v, rfl, _, hb⟩))
  go_ret
  exact ⟨ret_bool (by rw [Bool.eq_iff_iff]; simp; omega), hb⟩
/-- is a name right from a place on? -/
def nmF (l : List Int) (q : Nat) : Bool := (if q = 0 then letterB (l[0]?.getD 0) else true) && (l.drop q).all withinB
theorem nmF_step (l : List Int) (q : Nat) (h : q < l.length) : nmF l q = ((if q = 0 then letterB (l[q]?.getD 0) else withinB (l[q]?.getD 0)) && nmF l (q + 1)) := by
  unfold nmF
  rw [if_neg (show ¬ q + 1 = 0 by omega), Bool.true_and, List.drop_eq_getElem_cons h, List.all_cons, List.getElem?_eq_getElem h]
  by_cases h0 : q = 0
  · subst h0
    simp only [if_true]
    rw [List.getElem?_eq_getElem h]
    simp only [Option.getD_some]
    cases hl : letterB l[0] with
    | false => simp
    | true => simp [withinB, hl]
  · simp only [if_neg h0]
    rfl
theorem ok_iff (q : Nat) (x : Int) : (if q = 0 then letterB x else withinB x) = true ↔ (q = 0 ∧ ((65 ≤ x ∧ x ≤ 90) ∨ (97 ≤ x ∧ x ≤ 122))) ∨ (q ≠ 0 ∧ (((65 ≤ x ∧ x ≤ 90) ∨ (97 ≤ x ∧ x ≤ 122)) ∨ (48 ≤ x ∧ x ≤ 57) ∨ x = 95 ∨ x = 45)) := by
  by_cases h : q = 0
  · simp [h, letterB]
  · simp [h, letterB, withinB, or_assoc]
theorem name_ret {q : Nat} {x : Int} {b r : Bool} (h : r = ((if q = 0 then letterB x else withinB x) && b)) (hn : ¬ ((q = 0 ∧ ((65 ≤ x ∧ x ≤ 90) ∨ (97 ≤ x ∧ x ≤ 122))) ∨ (q ≠ 0 ∧ (((65 ≤ x ∧ x ≤ 90) ∨ (97 ≤ x ∧ x ≤ 122)) ∨ (48 ≤ x ∧ x ≤ 57) ∨ x = 95 ∨ x = 45)))) : r = false := by
  have : (if q = 0 then letterB x else withinB x) = false := by rw [Bool.eq_false_iff]; exact fun h => hn ((ok_iff q x).1 h)
  rw [h, this, Bool.false_and]
theorem name_on {q : Nat} {x : Int} {b r : Bool} (h : r = ((if q = 0 then letterB x else withinB x) && b)) (hn : (q = 0 ∧ ((65 ≤ x ∧ x ≤ 90) ∨ (97 ≤ x ∧ x ≤ 122))) ∨ (q ≠ 0 ∧ (((65 ≤ x ∧ x ≤ 90) ∨ (97 ≤ x ∧ x ≤ 122)) ∨ (48 ≤ x ∧ x ≤ 57) ∨ x = 95 ∨ x = 45))) : b = r := by
  rw [h, (ok_iff q x).2 hn, Bool.true_and]
set_option maxRecDepth 100000 in
set_option maxHeartbeats 4000000 in
theorem refIsName_any (s : ByteArray) (w : World) (hs : s.size ≤ maxLen) : Calls Tryz.prog 64 #[.string s] w fun e w' => e = .returned (.bool (nameB (strB s))) ∧ w = w' := by
  unfold maxLen at hs
  have hl := strB_len s
  obtain ⟨r, hr⟩ : ∃ r, nameB (strB s) = r := ⟨_, rfl⟩
  rw [hr]
  by_cases h0 : s.size < 1
  · have d0 : decide ((s.size : Int) < 1) = true := by simp; omega
    obtain rfl : r = false := by
      rw [← hr]; unfold nameB
      have : strB s = [] := List.length_eq_zero_iff.1 (by omega)
      rw [this]; rfl
    clear hr
    go_enter Tryz.func64, Tryz.ntmps64
    go_wp2
    go_ret
    exact ⟨rfl, rfl⟩
  have d0 : decide ((s.size : Int) < 1) = false := by simp; omega
  by_cases h40 : 40 < s.size
  · have d1 : decide ((40 : Int) < (s.size : Int)) = true := by simp; omega
    obtain rfl : r = false := by
      rw [← hr]; unfold nameB
      have : decide ((strB s).length ≤ 40) = false := by simp; omega
      rw [this]; simp
    clear hr
    go_enter Tryz.func64, Tryz.ntmps64
    go_wp2
    go_ret
    exact ⟨rfl, rfl⟩
  have d1 : decide ((40 : Int) < (s.size : Int)) = false := by simp; omega
  have hnm : nmF (strB s) 0 = r := by
    rw [← hr, nameB_cons _ (fun e => by rw [e] at hl; simp at hl; omega)]
    have : decide ((strB s).length ≤ 40) = true := by simp; omega
    rw [this, Bool.true_and]
    simp [nmF]
  have HN := Lib.hid hnm
  have HL := Lib.hid hl
  clear hr hnm hl
  go_enter Tryz.func64, Tryz.ntmps64
  go_wp2
  go_loop [3, 4, 5] (fun i _ _ => ∃ q : Nat, q ≤ s.size ∧ i = .int .i64 q ∧ Hid (nmF (strB s) q = r)) (fun i _ _ => s.size - (intOf i).toNat)
  case atStart => exact ⟨0, Nat.zero_le _, rfl, HN.out⟩
  case round =>
    obtain ⟨q, hq, rfl, HQ⟩ := hrel
    by_cases hqs : q < s.size
    · have hdq : decide (q < s.size) = true := by simpa using hqs
      have hst := nmF_step (strB s) q (by rw [HL.out]; exact hqs)
      rw [HQ.out, strB_at s q hqs] at hst
      have hbd := u8_bd s[q]
      have HST := Lib.hid hst
      clear hst
      go_upto_region 7 with fail
      generalize ((s[q].toNat : Nat) : Int) = x at *
      go_wp2_with fail
      all_goals (try simp only [Bool.not_eq_eq_eq_not, Bool.not_true, Bool.not_false, decide_eq_false_iff_not, decide_eq_true_eq, beq_iff_eq, beq_eq_false_iff_ne, ne_eq] at *)
      all_goals (first
        | (have hrf : r = false := name_ret HST.out (by omega)
           subst hrf
           go_ret
           exact ⟨rfl, rfl⟩)
        | (have hb := name_on HST.out (by omega)
           refine ⟨⟨q + 1, by omega, by go_num, Lib.hid hb⟩, ?_⟩
           simp [intOf]; omega)
        | (have hb := name_on HST.out (by omega)
           refine ⟨⟨q + 1, by omega, by simp; omega, Lib.hid hb⟩, ?_⟩
           simp; omega)
        | (exfalso
           have h57 : x ≤ 57 := by omega
           simp_all))
    · obtain rfl : q = s.size := by omega
      have hdq : decide (s.size < s.size) = false := by simp
      have hr : r = true := by
        rw [← HQ.out]; unfold nmF
        rw [if_neg (by omega), List.drop_of_length_le (by rw [HL.out]; exact Nat.le_refl _)]; rfl
      subst hr
      go_wp2
      go_ret
      exact ⟨rfl, rfl⟩
end Go.Proofs.YtcicjpdjbfgbhaaGreatDoor

/- Package bin: list; node of every depth. -/
namespace Go.Proofs.YtcicjpdjbfgbhaaGreatDoor
open Go.RowKit Go.Shelf
attribute [local go_sem] Oper.semAt_some
theorem is_form {w : World} {v : PV} {x : Value} (h : Is w v x) : ∃ (k n : Int) (s : ByteArray) (a : Option Addr) (len cap : Nat), x = .agg #[.int .i64 k, .int .i64 n, .string s, .slice a len cap] := by
  cases v with
  | mk k n s l =>
  unfold Is at h
  obtain ⟨_, _, _, a, cap, e, _⟩ := h
  exact ⟨_, _, _, _, _, _, e⟩
end Go.Proofs.YtcicjpdjbfgbhaaGreatDoor
