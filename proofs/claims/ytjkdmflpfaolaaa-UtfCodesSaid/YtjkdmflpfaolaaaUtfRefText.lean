/- The document's answer for layer 1: Codes and Text. -/
import Derived.Test.YtjkdmflpfaolaaaUtfRefGet
import Derived.Lib.ConvBytes
namespace Go.Proofs.Ytjkdmflpfaolaaa
open Go.RowKit Go.Shelf
theorem conv_bytes (w : World) (s : ByteArray) (hs : s.size ≤ maxLen) : ∃ cap w', (convert 9 22 (.string s)).run Try.prog w = .ok (.slice (some ⟨w.heap.size, 0, none⟩) s.size cap) w' ∧
    Row w' .u8 (some ⟨w.heap.size, 0, none⟩) s.size cap (strB s) ∧ Below w.heap.size w w' := by
  refine ⟨_, _, Lib.run_convert_string_bytes w _ _ _ s Try.underlying9 Try.underlying22 Try.underlying5, ⟨strB_len s, grownCap_ge _ _ _ _, grownCap_le_maxLen _ _ _ _ hs, .inr ⟨_, 0, rfl, fun i hi => ?_⟩⟩, ?_⟩
  · rw [Nat.zero_add, Lib.bytesWorld_cell w _ s i hi, strB_at s i hi]
    simp only [List.getD, Array.getElem?_toList]
    rw [Array.getElem?_eq_getElem (by simpa using hi)]
    rfl
  · have h := Lib.bytesWorld_at_old w 5 s
    exact ⟨by simp [Lib.bytesWorld, World.freeze, World.alloc, World.drew, -World.alloc_eq, -World.drew_eq], rfl, rfl, by rw [Lib.bytesWorld_size]; omega, h⟩
set_option maxRecDepth 100000 in
set_option maxHeartbeats 2000000 in
theorem refCodes_any (s : ByteArray) (w : World) (hsm : s.size ≤ 1099511627776) :
    Calls Try.prog 15 #[.string s] w (Cds w s) := by
  obtain ⟨i0, hi, hz0, hz1, hz2⟩ := info_parts info_int
  have hmx : s.size ≤ maxLen := by unfold maxLen; omega
  go_enter Try.func15, Try.ntmps15
  go_wp2
  go_loopw [4, 5, 6, 7, 8] (fun o i _ _ _ wr => ∃ (p f : Nat) (pre : List (Int × Nat)) (v : Value), p ≤ s.size ∧ i = .int .i64 p ∧ v = o ∧ wr.ownsRow w.heap.size 3 1 v pre.length (i64s (pre.map (·.1))) ∧ Below w.heap.size w wr ∧
      pre ++ U.cds f (strB s) p = U.cds s.size (strB s) 0 ∧ s.size ≤ p + f ∧ pre.length ≤ p ∧ U.lastEnd pre = p)
    (fun _ i _ _ _ _ => s.size - (intOf i).toNat)
  case atStart => exact ⟨0, s.size, [], _, Nat.zero_le _, rfl, rfl, World.ownsRow_nil _ _ _ _, Below.refl _ _, rfl, by omega, by simp, rfl⟩
  case round =>
    obtain ⟨p, f, pre, v, hp, rfl, rfl, hown, hB, hcd, hpf, hpl, hle⟩ := hrel
    have HC := Lib.hid hcd; clear hcd
    have HE := Lib.hid hle; clear hle
    by_cases hlt : p < s.size
    · obtain ⟨cap, w1, hcv, hrow, hb1⟩ := conv_bytes wr s hmx
      have hget := refGet_any _ _ _ _ (p : Int) w1 hrow (strB_bytes s) (by omega) (by omega)
      have hle := U.getAt_le (strB s) p (by rw [strB_len]; exact hp)
      rw [strB_len] at hle
      have hcs := cds_step (f - 1) (strB s) p
      have hcn := cds_stop (f - 1) (strB s) p
      obtain ⟨c, m, hcm⟩ := pair_eta (getAt (strB s) (p : Int))
      simp only [hcm] at hle hget hcs hcn
      have HM := Lib.hid hcm; clear hcm
      have hf : f = f - 1 + 1 := by omega
      have hown1 := ownsRow_below hown hb1
      by_cases hm : 0 < m
      · have HD : Hid ((pre ++ [(c, p + m)]) ++ U.cds (f - 1) (strB s) (p + m) = U.cds s.size (strB s) 0) := Lib.hid (by
          rw [← HC.out, hf, hcs hm]; simp)
        clear hcs hcn
        have HF := Lib.hid hf; clear hf
        have hd : decide (0 < m) = true := by simpa using hm
        go_wp2_with (first
          | (go_at_call 10; refine hget.mono ?_; rintro e w2 ⟨rfl, hb2⟩; have hown2 := (ownsRow_below hown1 hb2).alloc (.cells #[.int .i64 c] 3))
          | (at_builtin; refine wpList_append_own _ rfl _ _ 29 rfl w.heap.size 3 i0 (.int .i64 0) 1 8 Try.underlying29 hi hz0 hz1 hz2 rfl (by decide) v _ _ rfl hown2 ⟨w2.heap.size, 0, none⟩ 1 1 [.int .i64 c] rfl rfl (cells_new _ [_] _) (by simp [Value.oneCell']) ?b1 ?b2 ?b3 ?_))
        case b1 => unfold maxLen; omega
        case b2 => omega
        case b3 => have := hB.size; have := hb1.size; have := hb2.size; simp; omega
        intro v' w3 hown3 hg _
        have hbl : Below w.heap.size w w3 := (((hB.trans (hb1.mono hB.size)).trans (hb2.mono (Nat.le_trans hB.size hb1.size))).alloc (by have := hB.size; have := hb1.size; have := hb2.size; omega) _).trans (below_grown hg hown2 (by have := hB.size; have := hb1.size; have := hb2.size; simp; omega))
        have HV := Lib.hid hown3; clear hown3 hown2 hown1 hown hcv
        go_wp2
        go_roundw
        case rel => exact ⟨p + m, f - 1, pre ++ [(c, p + m)], v', hle.1, by go_num, rfl, ownsRow_nth HV.out (by simp) (by simp [i64s]), hbl, HD.out, by omega, by simp; omega, U.lastEnd_snoc _ _⟩
        case measure => simp [intOf]; omega
      · have hm0 : m = 0 := by omega
        subst hm0
        have HD : Hid (pre = U.cds s.size (strB s) 0) := Lib.hid (by rw [← HC.out, hf, hcn hm, List.append_nil])
        clear hcs hcn hf
        have hd : decide (0 < 0) = false := by simp
        go_wp2_with (first
          | (go_at_call 10; refine hget.mono ?_; rintro e w2 ⟨rfl, hb2⟩; have hown2 := ownsRow_below hown1 hb2))
        go_ret2
        exact ⟨v, by rw [← HD.out, HE.out]; rfl, by rw [← HD.out]; exact hown2, (hB.trans (hb1.mono hB.size)).trans (hb2.mono (Nat.le_trans hB.size hb1.size))⟩
    · obtain rfl : p = s.size := by omega
      have HD : Hid (pre = U.cds s.size (strB s) 0) := Lib.hid (by
        rw [← HC.out]
        cases f with
        | zero => simp [U.cds]
        | succ f => rw [cds_stop f _ _ (by unfold getAt; rw [if_neg (by rw [strB_len]; omega)]; simp), List.append_nil])
      go_wp2
      go_ret2
      exact ⟨v, by rw [← HD.out, HE.out]; rfl, by rw [← HD.out]; exact hown, hB⟩
theorem strOfNums_append (a b : List Int) : strOfNums a ++ strOfNums b = strOfNums (a ++ b) := by
  apply ByteArray.ext
  simp [strOfNums]
set_option maxRecDepth 100000 in
set_option maxHeartbeats 1000000 in
theorem refText_any (a : Option Addr) (len cap : Nat) (l : List Int) (w : World) (hr : Row w .i64 a len cap l) (hlb : len ≤ 1099511627776) :
    Calls Try.prog 17 #[.slice a len cap] w fun e w' => e = .returned (.tuple #[.string (U.text l).1, .bool (U.text l).2]) ∧ Below w.heap.size w w' := by
  obtain ⟨hl, hlc, hcm, hrow⟩ := hr
  unfold maxLen at hcm
  obtain ⟨t, ht⟩ : ∃ t, U.text l = t := ⟨_, rfl⟩
  rw [ht]
  have HX := Lib.hid ht; clear ht
  have HL := Lib.hid hl; clear hl
  have HR := Lib.hid hrow; clear hrow
  go_enter Try.func17, Try.ntmps17
  go_wp2
  go_loopw [4, 5] (fun b i wr => ∃ (k : Nat) (x : ByteArray), k ≤ len ∧ i = .int .i64 k ∧ b = .string x ∧ x = strOfNums ((l.take k).flatMap U.put) ∧ Below w.heap.size w wr ∧ U.okAll (l.take k) = true)
    (fun _ i _ => len - (intOf i).toNat)
  case atStart => exact ⟨0, _, Nat.zero_le _, rfl, rfl, rfl, Below.refl _ _, rfl⟩
  case round =>
    obtain ⟨k, s, hk, rfl, rfl, hs, hB, hok⟩ := hrel
    have hsz : s.size ≤ 4398046511104 := by
      rw [hs, strOfNums_size]; have := flat_le (l.take k); rw [List.length_take] at this; have := Nat.min_le_left k l.length; omega
    have HS := Lib.hid hs; clear hs
    have HO := Lib.hid hok; clear hok
    by_cases hlt : k < len
    · rcases HR.out with h0 | ⟨b, off, rfl, hcell⟩
      · exact absurd h0 (by omega)
      have hc0 := hcell k hlt
      have hbk : b < w.heap.size := by
        simp only [World.cell?] at hc0
        rcases Nat.lt_or_ge b w.heap.size with h | h
        · exact h
        · rw [Array.getElem?_eq_none h] at hc0; cases hc0
      have hcw : wr.cell? ⟨b, off + k, none⟩ = some (.int .i64 (l[k]?.getD 0)) := (hB.cell (p := ⟨b, off + k, none⟩) hbk).trans hc0
      have htk := take_succ_getD l k (by have := HL.out; omega)
      generalize l[k]?.getD 0 = x at hc0 hcw htk
      have hcode := refCode_any x
      have hput := refPut_any x
      have HT := Lib.hid htk; clear htk
      clear hcell hc0
      by_cases hz : U.size x = 0
      · have hz' : (U.size x != 0) = false := by simpa using hz
        rw [hz'] at hcode
        have HZ := Lib.hid hz; clear hz
        have hno : U.okAll l = false := by
          have hl := HL.out
          have h1 : U.okAll (l.take (k + 1)) = false := by rw [HT.out]; simp [U.okAll, HZ.out]
          rw [← List.take_append_drop (k + 1) l]
          simp only [U.okAll, List.all_append] at h1 ⊢
          rw [h1]; rfl
        obtain rfl : t = (ByteArray.empty, false) := by rw [← HX.out]; simp [U.text, hno]
        clear hno
        go_wp2_with (first
          | (go_at_call 23; refine (hcode _).mono ?_; rintro e w' ⟨rfl, rfl⟩))
        go_ret2
        exact ⟨rfl, hB⟩
      · have hz' : (U.size x != 0) = true := by simpa using hz
        rw [hz'] at hcode
        have HZ := Lib.hid hz; clear hz
        have HOK : Hid (U.okAll (l.take (k + 1)) = true) := by
          have h1 := HO.out
          have h2 := HZ.out
          refine Lib.hid ?_
          rw [HT.out]
          simp only [U.okAll, List.all_append, Bool.and_eq_true] at h1 ⊢
          exact ⟨h1, by simpa using h2⟩
        have hsx : s.size + (strOfNums (U.put x)).size ≤ maxLen := by rw [strOfNums_size]; have := put_le x; unfold maxLen; omega
        unfold maxLen at hsx
        go_wp2_with (first
          | (go_at_call 23; refine (hcode _).mono ?_; rintro e w' ⟨rfl, rfl⟩)
          | (go_at_call 13; refine (hput _).mono ?_; rintro e w' ⟨v', rfl, hown', hb1⟩; have hcv := conv_owned w' _ _ v' _ hown'; have hcw' := (hb1.cell (p := ⟨b, off + k, none⟩) (Nat.lt_of_lt_of_le hbk hB.size)).trans hcw))
        go_roundw
        case rel => exact ⟨k + 1, _, by omega, by go_num, rfl, by rw [HT.out, HS.out, strOfNums_append]; simp, hB.trans (hb1.mono hB.size), HOK.out⟩
        case measure => simp [intOf]; omega
    · obtain rfl : k = len := by omega
      have hl := HL.out
      have hall : l.take k = l := List.take_of_length_le (by omega)
      have hok := HO.out
      have hs := HS.out
      rw [hall] at hok hs
      obtain rfl : t = (s, true) := by rw [← HX.out, hs]; simp [U.text, hok]
      clear hl hall hok hs
      go_wp2
      go_ret2
      exact ⟨rfl, hB⟩
end Go.Proofs.Ytjkdmflpfaolaaa
