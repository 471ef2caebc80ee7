/- Package utf's Put and Text. -/
import Derived.Test.YtiflnciapboccaaDoorUtfSeq
import Derived.Laws.BytesArg
namespace Go.Proofs.YtiflnciapboccaaDoor
open Go.RowKit Go.Shelf
def U.okAll (l : List Int) : Bool := l.all fun c => U.size c != 0
/-- the text of codes; whether all are codes -/
def U.text (l : List Int) : ByteArray × Bool := if U.okAll l then (strOfNums (l.flatMap U.put), true) else (ByteArray.empty, false)
theorem put_le (c : Int) : (U.put c).length ≤ 4 := by
  rw [put_len]
  unfold U.size; (repeat' split) <;> decide
theorem flat_le (l : List Int) : (l.flatMap U.put).length ≤ 4 * l.length := by
  induction l with
  | nil => simp
  | cons x l ih => have := put_le x; simp only [List.flatMap_cons, List.length_append, List.length_cons]; omega
set_option maxRecDepth 100000 in
set_option maxHeartbeats 1000000 in
theorem text_any (a : Option Addr) (len cap : Nat) (l : List Int) (w : World) (hr : Row w .i64 a len cap l) (hlb : len ≤ 1099511627776) :
    Calls Tryd.prog 60 #[.slice a len cap] w fun e w' => e = .returned (.tuple #[.string (U.text l).1, .bool (U.text l).2]) ∧ Below w.heap.size w w' := by
  obtain ⟨hl, hlc, hcm, hrow⟩ := hr
  unfold maxLen at hcm
  obtain ⟨t, ht⟩ : ∃ t, U.text l = t := ⟨_, rfl⟩
  rw [ht]
  have HX := Lib.hid ht; clear ht
  have HL := Lib.hid hl; clear hl
  have HR := Lib.hid hrow; clear hrow
  go_enter Tryd.func60, Tryd.ntmps60
  go_wp2
  go_loopw [4, 6, 9] (fun b _ i wr => ∃ (k : Nat) (v : Value), k ≤ len ∧ i = .int .i64 k ∧ v = b ∧ wr.ownsRow w.heap.size 5 1 v ((l.take k).flatMap U.put).length (u8s ((l.take k).flatMap U.put)) ∧ Below w.heap.size w wr ∧ U.okAll (l.take k) = true)
    (fun _ _ i _ => len - (intOf i).toNat)
  case atStart => exact ⟨0, _, Nat.zero_le _, rfl, rfl, World.ownsRow_nil _ _ _ _, Below.refl _ _, rfl⟩
  case round =>
    obtain ⟨k, v, hk, rfl, rfl, hown, hB, hok⟩ := hrel
    by_cases hlt : k < len
    · rcases HR.out with h0 | ⟨b, off, rfl, hcell⟩
      · exact absurd h0 (by omega)
      have hc0 := hcell k hlt
      have hbk : b < w.heap.size := by
        simp only [World.cell?] at hc0
        rcases Nat.lt_or_ge b w.heap.size with h | h
        · exact h
        · rw [Array.getElem?_eq_none h] at hc0; cases hc0
      have hcw : wr.cell? ⟨b, off + k, none⟩ = some (.int .i64 (l[k]?.getD 0)) := (hB.cell (p := ⟨b, off + k, none⟩) hbk).trans hc0
      have hs := uSize_any (l[k]?.getD 0)
      have ha := add_any (l[k]?.getD 0) w.heap.size _ v _ wr hB.size hown (by have := flat_le (l.take k); rw [List.length_take] at this; have := Nat.min_le_left k l.length; omega)
      have htk := take_succ_getD l k (by have := HL.out; omega)
      generalize l[k]?.getD 0 = x at hc0 hcw hs ha htk
      have HT := Lib.hid htk; clear htk
      have HO := Lib.hid hok; clear hok
      clear hcell hc0
      by_cases hz : U.size x = 0
      · have hz' : (U.size x == 0) = true := by simpa using hz
        have HZ := Lib.hid hz; clear hz
        go_wp2_with (first
          | (go_at_call 58; refine (hs _).mono ?_; rintro e w' ⟨rfl, rfl⟩))
        have hno : U.okAll l = false := by
          have hl := HL.out
          have h1 : U.okAll (l.take (k + 1)) = false := by rw [HT.out]; simp [U.okAll, HZ.out]
          rw [← List.take_append_drop (k + 1) l]
          simp only [U.okAll, List.all_append] at h1 ⊢
          rw [h1]; rfl
        obtain rfl : t = (ByteArray.empty, false) := by rw [← HX.out]; simp [U.text, hno]
        go_ret2
        exact ⟨rfl, hB⟩
      · have hz' : (U.size x == 0) = false := by simpa using hz
        have HZ := Lib.hid hz; clear hz
        go_wp2_with (first
          | (go_at_call 58; refine (hs _).mono ?_; rintro e w' ⟨rfl, rfl⟩)
          | (go_at_call 68; refine ha.mono ?_; rintro e w' ⟨v', rfl, hown', hg⟩))
        have HOK : Hid (U.okAll (l.take (k + 1)) = true) := by
          have h1 := HO.out
          have h2 := HZ.out
          refine Lib.hid ?_
          rw [HT.out]
          simp only [U.okAll, List.all_append, Bool.and_eq_true] at h1 ⊢
          exact ⟨h1, by simpa using h2⟩
        go_roundw
        case rel => exact ⟨k + 1, v', by omega, by go_num, rfl, ownsRow_nth hown' (by rw [HT.out]; simp) (by rw [HT.out]; simp), hB.trans (below_grown hg hown hB.size), HOK.out⟩
        case measure => simp [intOf]; omega
    · obtain rfl : k = len := by omega
      have hl := HL.out
      have hall : l.take k = l := List.take_of_length_le (by omega)
      rw [hall] at hok hown
      obtain rfl : t = (strOfNums (l.flatMap U.put), true) := by rw [← HX.out]; simp [U.text, hok]
      have hcv := conv_owned wr _ _ v _ hown
      clear hl hall hok
      go_wp2
      go_ret2
      exact ⟨rfl, hB⟩
end Go.Proofs.YtiflnciapboccaaDoor
