/- Package utf's Put and Text. -/
import Derived.Test.YtpiajoffddjjfaaGreatDoorUtfSeqq
import Derived.Laws.BytesArg
import Derived.Test.YtpiajoffddjjfaaGreatDoorMg20Jso
import Derived.Test.YtpiajoffddjjfaaGreatDoorTok1q
import Derived.Test.YtpiajoffddjjfaaGreatDoorMg8Jso
namespace Go.Proofs.YtpiajoffddjjfaaGreatDoor
open Go.RowKit Go.Shelf
def U.okAll (l : List Int) : Bool := l.all fun c => U.size c != 0
/-- the text of codes; whether all are codes -/
def U.text (l : List Int) : ByteArray × Bool := if U.okAll l then (strOfNums (l.flatMap U.put), true) else (ByteArray.empty, false)
theorem put_le (c : Int) : (U.put c).length ≤ 4 := by
  rw [put_len]
  unfold U.size; (repeat' split) <;> decide
theorem flat_le (l : List Int) : (l.flatMap U.put).length ≤ 4 * l.length := by
  induction l with
  | nil => simp
  | cons x l ih => have := put_le x; simp only [List.flatMap_cons, List.length_append, List.length_cons]; omega
set_option maxRecDepth 100000 in
set_option maxHeartbeats 1000000 in
theorem text_any (a : Option Addr) (len cap : Nat) (l : List Int) (w : World) (hr : Row w .i64 a len cap l) (hlb : len ≤ 1099511627776) :
    Calls Tryz.prog 69 #[.slice a len cap] w fun e w' => e = .returned (.tuple #[.string (U.text l).1, .bool (U.text l).2]) ∧ Below w.heap.size w w' := by
  obtain ⟨hl, hlc, hcm, hrow⟩ := hr
  unfold maxLen at hcm
  obtain ⟨t, ht⟩ : ∃ t, U.text l = t := ⟨_, rfl⟩
  rw [ht]
  have HX := Lib.hid ht; clear ht
  have HL := Lib.hid hl; clear hl
  have HR := Lib.hid hrow; clear hrow
  go_enter Tryz.func69, Tryz.ntmps69
  go_wp2
  go_loopw [4, 6, 9] (fun b _ i wr => ∃ (k : Nat) (v : Value), k ≤ len ∧ i = .int .i64 k ∧ v = b ∧ wr.ownsRow w.heap.size 5 1 v ((l.take k).flatMap U.put).length (u8s ((l.take k).flatMap U.put)) ∧ Below w.heap.size w wr ∧ U.okAll (l.take k) = true)
    (fun _ _ i _ => len - (intOf i).toNat)
  case atStart => exact ⟨0, _, Nat.zero_le _, rfl, rfl, World.ownsRow_nil _ _ _ _, Below.refl _ _, rfl⟩
  case round =>
    obtain ⟨k, v, hk, rfl, rfl, hown, hB, hok⟩ := hrel
    by_cases hlt : k < len
    · rcases HR.out with h0 | ⟨b, off, rfl, hcell⟩
      · exact absurd h0 (by omega)
      have hc0 := hcell k hlt
      have hbk : b < w.heap.size := by
        simp only [World.cell?] at hc0
        rcases Nat.lt_or_ge b w.heap.size with h | h
        · exact h
        · rw [Array.getElem?_eq_none h] at hc0; cases hc0
      have hcw : wr.cell? ⟨b, off + k, none⟩ = some (.int .i64 (l[k]?.getD 0)) := (hB.cell (p := ⟨b, off + k, none⟩) hbk).trans hc0
      have hs := uSize_any (l[k]?.getD 0)
      have ha := add_any (l[k]?.getD 0) w.heap.size _ v _ wr hB.size hown (by have := flat_le (l.take k); rw [List.length_take] at this; have := Nat.min_le_left k l.length; omega)
      have htk := take_succ_getD l k (by have := HL.out; omega)
      generalize l[k]?.getD 0 = x at hc0 hcw hs ha htk
      have HT := Lib.hid htk; clear htk
      have HO := Lib.hid hok; clear hok
      clear hcell hc0
      by_cases hz : U.size x = 0
      · have hz' : (U.size x == 0) = true := by simpa using hz
        have HZ := Lib.hid hz; clear hz
        go_wp2_with (first
          | (go_at_call 42; refine (hs _).mono ?_; rintro e w' ⟨rfl, rfl⟩))
        have hno : U.okAll l = false := by
          have hl := HL.out
          have h1 : U.okAll (l.take (k + 1)) = false := by rw [HT.out]; simp [U.okAll, HZ.out]
          rw [← List.take_append_drop (k + 1) l]
          simp only [U.okAll, List.all_append] at h1 ⊢
          rw [h1]; rfl
        obtain rfl : t = (ByteArray.empty, false) := by rw [← HX.out]; simp [U.text, hno]
        go_ret2
        exact ⟨rfl, hB⟩
      · have hz' : (U.size x == 0) = false := by simpa using hz
        have HZ := Lib.hid hz; clear hz
        go_wp2_with (first
          | (go_at_call 42; refine (hs _).mono ?_; rintro e w' ⟨rfl, rfl⟩)
          | (go_at_call 77; refine ha.mono ?_; rintro e w' ⟨v', rfl, hown', hg⟩))
        have HOK : Hid (U.okAll (l.take (k + 1)) = true) := by
          have h1 := HO.out
          have h2 := HZ.out
          refine Lib.hid ?_
          rw [HT.out]
          simp only [U.okAll, List.all_append, Bool.and_eq_true] at h1 ⊢
          exact ⟨h1, by simpa using h2⟩
        go_roundw
        case rel => exact ⟨k + 1, v', by omega, by go_num, rfl, ownsRow_nth hown' (by rw [HT.out]; simp) (by rw [HT.out]; simp), hB.trans (below_grown hg hown hB.size), HOK.out⟩
        case measure => simp [intOf]; omega
    · obtain rfl : k = len := by omega
      have hl := HL.out
      have hall : l.take k = l := List.take_of_length_le (by omega)
      rw [hall] at hok hown
      obtain rfl : t = (strOfNums (l.flatMap U.put), true) := by rw [← HX.out]; simp [U.text, hok]
      have hcv := conv_owned wr _ _ v _ hown
      clear hl hall hok
      go_wp2
      go_ret2
      exact ⟨rfl, hB⟩
end Go.Proofs.YtpiajoffddjjfaaGreatDoor

/- Layer 7: unit, escaped, escape. -/
namespace Go.Proofs.YtpiajoffddjjfaaGreatDoor
open Go.RowKit Go.Shelf
/-- the library's variable for a wrong text holds an error, whichever -/
def Err (w : World) : Prop := ∃ ev, w.cell? ⟨1, 0, none⟩ = some ev ∧ (ev = .nilIface ∨ ∃ te pe, ev = .iface te pe)
theorem cell_lt {w : World} {b o : Nat} {v : Value} (h : w.cell? ⟨b, o, none⟩ = some v) : b < w.heap.size := by
  simp only [World.cell?] at h
  rcases Nat.lt_or_ge b w.heap.size with h1 | h1
  · exact h1
  · rw [Array.getElem?_eq_none h1] at h; cases h
theorem err_below {w w' : World} (h : Err w) (hb : Below w.heap.size w w') : Err w' := by
  obtain ⟨ev, h1, h2⟩ := h
  exact ⟨ev, (hb.cell (p := ⟨1, 0, none⟩) (cell_lt h1)).trans h1, h2⟩
set_option maxHeartbeats 1000000 in
theorem pub16_any (s : ByteArray) (w : World) (hE : Err w) (hs : s.size = 4) (g : Int) (hg : K.hex4 ((strB s)[0]?.getD 0) ((strB s)[1]?.getD 0) ((strB s)[2]?.getD 0) ((strB s)[3]?.getD 0) = g) :
    Calls Tryz.prog 82 #[.string s, .int .i64 16, .int .i64 16] w fun e w' =>
      ((g < 0 ∧ ∃ N, e = .returned (.tuple #[.int .u64 0, .iface 131 (.pointer (some ⟨N, 0, none⟩))])) ∨ (0 ≤ g ∧ g ≤ 65535 ∧ e = .returned (.tuple #[.int .u64 g, .nilIface]))) ∧ Below w.heap.size w w' := by
  have hP := parse16_any s w hs g hg
  rcases Int.lt_or_le g 0 with h0 | h0
  · have hP2 : Calls Tryz.prog 85 #[.string s, .int .i64 16, .int .i64 16] w fun e w' => e = .returned (.tuple #[.int .u64 0, .iface 129 (.int .i64 2)]) ∧ Below w.heap.size w w' :=
      hP.mono fun e w' ⟨h, hB⟩ => ⟨by rcases h with ⟨_, h⟩ | ⟨h1, _⟩; exact h; omega, hB⟩
    clear hP
    go_enter Tryz.func82, Tryz.ntmps82
    go_wp2_with (first | (go_at_call 85; ((with_reducible refine hP2.mono ?_)); rintro e w1 ⟨rfl, hB1⟩; obtain ⟨ev, hv, hev⟩ := err_below hE hB1) | (go_at_call 86; (with_reducible refine (Tryz.strconv_toError_syntax _ s _ _ ev _ (by omega) hv hev).mono ?_); rintro e w2 ⟨N, rfl, _, _, hB2⟩))
    go_ret2
    exact ⟨.inl ⟨h0, N, rfl⟩, hB1.trans (hB2.mono hB1.size)⟩
  · have hP2 : Calls Tryz.prog 85 #[.string s, .int .i64 16, .int .i64 16] w fun e w' => (e = .returned (.tuple #[.int .u64 g, .nilIface]) ∧ g ≤ 65535) ∧ Below w.heap.size w w' :=
      hP.mono fun e w' ⟨h, hB⟩ => ⟨by rcases h with ⟨h1, _⟩ | ⟨_, h2, h⟩; omega; exact ⟨h, h2⟩, hB⟩
    clear hP
    go_enter Tryz.func82, Tryz.ntmps82
    go_wp2_with (first | (go_at_call 85; (with_reducible refine hP2.mono ?_); rintro e w1 ⟨⟨rfl, hg5⟩, hB1⟩))
    go_ret2
    exact ⟨.inr ⟨h0, hg5, rfl⟩, hB1⟩
end Go.Proofs.YtpiajoffddjjfaaGreatDoor

/- Layer 7: unit, escaped, escape. -/
namespace Go.Proofs.YtpiajoffddjjfaaGreatDoor
open Go.RowKit Go.Shelf
namespace K
theorem row_at0 (l : List Int) (p q i : Nat) (h : p + i < q) : (row l p q)[i]?.getD 0 = l[p + i]?.getD 0 := by
  unfold row
  rw [List.getElem?_drop, List.getElem?_take, if_pos (by omega)]
theorem hasPrefix_eq (t : ByteArray) (h : 2 ≤ t.size) : Lib.hasPrefix t.data.toList [92, 117] = decide ((strB t)[0]?.getD 0 = 92 ∧ (strB t)[1]?.getD 0 = 117) := by
  have hl : 2 ≤ t.data.toList.length := by simpa using h
  unfold strB Lib.hasPrefix
  match t.data.toList, hl with
  | a :: b :: r, _ =>
    have h : ∀ x n : UInt8, n = x ↔ (x.toNat : Int) = (n.toNat : Int) := fun x n => by rw [← UInt8.toNat_inj]; omega
    simp only [List.isPrefixOf, Bool.and_true, List.map_cons, List.getElem?_cons_zero, Option.getD_some, List.getElem?_cons_succ]
    rw [Bool.eq_iff_iff]
    simp [h]
theorem i64_and1023 (n : Int) : bits .and .i64 n 1023 = n % 1024 := by
  have h63 : (BitVec.ofInt 64 1023).toNat = 2 ^ 10 - 1 := by decide
  have key : (BitVec.ofInt 64 n &&& BitVec.ofInt 64 1023).toNat = (n % ((2 ^ 64 : Nat) : Int)).toNat % 2 ^ 10 := by
    rw [BitVec.toNat_and, BitVec.toNat_ofInt, h63, Nat.and_two_pow_sub_one_eq_mod]
  show IntKind.i64.wrap ((BitVec.ofInt 64 n &&& BitVec.ofInt 64 1023).toNat : Nat) = n % 1024
  rw [key, IntKind.wrap_i64]
  omega
end K
set_option maxHeartbeats 1000000 in
theorem unit_any (s : ByteArray) (p : Nat) (w : World) (hsm : s.size ≤ 100000) (hp : p ≤ s.size) (hE : Err w) :
    Calls Tryz.prog 76 #[.string s, .int .i64 p] w fun e w' => e = .returned (.tuple #[.int .i64 (if 0 ≤ K.unit (strB s) p then K.unit (strB s) p else 0), .bool (decide (0 ≤ K.unit (strB s) p))]) ∧ K.unit (strB s) p ≤ 65535 ∧ Below w.heap.size w w' := by
  obtain ⟨u, hu⟩ : ∃ u, K.unit (strB s) p = u := ⟨_, rfl⟩
  rw [hu]
  unfold K.unit at hu
  rw [strB_len] at hu
  by_cases h6 : p + 6 ≤ s.size
  · have hrow := strB_sub s p s.size
    have hrs : (s.extract p s.size).size = s.size - p := by rw [ByteArray.size_extract]; omega
    have hpre := K.hasPrefix_eq (s.extract p s.size) (by omega)
    have hP := fun w => Tryz.strings_HasPrefix (s.extract p s.size) ⟨#[92, 117]⟩ w
    have e0 := K.row_at0 (strB s) p s.size 0 (by omega)
    have e1 := K.row_at0 (strB s) p s.size 1 (by omega)
    change strB (s.extract p s.size) = K.row (strB s) p s.size at hrow
    rw [hrow, e0, e1, Nat.add_zero] at hpre
    have hP : ∀ w, Calls Tryz.prog 81 #[.string (s.extract p s.size), .string ⟨#[92, 117]⟩] w fun e w' => e = .returned (.bool (decide ((strB s)[p]?.getD 0 = 92 ∧ (strB s)[p + 1]?.getD 0 = 117))) ∧ w' = w := fun w => by
      have h := hP w
      rw [show (ByteArray.mk #[92, 117]).data.toList = [92, 117] from rfl, hpre] at h
      exact h
    clear hpre e0 e1 hrow
    have d6 : decide ((s.size : Int) - (p : Int) < 6) = false := by simp; omega
    by_cases hb : (strB s)[p]?.getD 0 = 92 ∧ (strB s)[p + 1]?.getD 0 = 117
    · rw [if_pos ⟨h6, hb⟩] at hu
      simp only [decide_eq_true hb] at hP
      have hq := strB_sub s (p + 2) (p + 6)
      change strB (s.extract (p + 2) (p + 6)) = K.row (strB s) (p + 2) (p + 6) at hq
      have hqs : (s.extract (p + 2) (p + 6)).size = 4 := by rw [ByteArray.size_extract]; omega
      have hU := fun w hE => pub16_any (s.extract (p + 2) (p + 6)) w hE hqs u (by
        rw [hq, K.row_at0 _ _ _ 0 (by omega), K.row_at0 _ _ _ 1 (by omega), K.row_at0 _ _ _ 2 (by omega), K.row_at0 _ _ _ 3 (by omega)]
        exact hu)
      clear hq hu hb
      rcases Int.lt_or_le u 0 with h0 | h0
      · have hU : ∀ w, Err w → Calls Tryz.prog 82 #[.string (s.extract (p + 2) (p + 6)), .int .i64 16, .int .i64 16] w fun e w' => (∃ N, e = .returned (.tuple #[.int .u64 0, .iface 131 (.pointer (some ⟨N, 0, none⟩))])) ∧ Below w.heap.size w w' :=
          fun w hE => (hU w hE).mono fun e w' ⟨h, hB⟩ => ⟨by rcases h with ⟨_, h⟩ | ⟨h1, _⟩; exact h; omega, hB⟩
        rw [if_neg (by omega), decide_eq_false (by omega)]
        go_enter Tryz.func76, Tryz.ntmps76
        go_wp2_with (first | (go_at_call 81; (with_reducible refine (hP _).mono ?_); rintro e w' ⟨rfl, rfl⟩) | (go_at_call 82; (with_reducible refine (hU _ hE).mono ?_); rintro e w1 ⟨⟨N, rfl⟩, hB1⟩))
        go_region
        all_goals go_wp2
        all_goals (go_ret2; exact ⟨rfl, by omega, by first | exact hB1 | exact hB1.drew⟩)
      · have hU : ∀ w, Err w → Calls Tryz.prog 82 #[.string (s.extract (p + 2) (p + 6)), .int .i64 16, .int .i64 16] w fun e w' => (e = .returned (.tuple #[.int .u64 u, .nilIface]) ∧ u ≤ 65535) ∧ Below w.heap.size w w' :=
          fun w hE => (hU w hE).mono fun e w' ⟨h, hB⟩ => ⟨by rcases h with ⟨h1, _⟩ | ⟨_, h2, h⟩; omega; exact ⟨h, h2⟩, hB⟩
        rw [if_pos h0, decide_eq_true h0]
        go_enter Tryz.func76, Tryz.ntmps76
        go_wp2_with (first | (go_at_call 81; (with_reducible refine (hP _).mono ?_); rintro e w' ⟨rfl, rfl⟩) | (go_at_call 82; (with_reducible refine (hU _ hE).mono ?_); rintro e w1 ⟨⟨rfl, hu5⟩, hB1⟩))
        have hwu : IntKind.i64.wrap u = u := IntWalk.i64_in (by omega) (by omega)
        go_region
        all_goals go_wp2
        all_goals (go_ret2; exact ⟨rfl, by omega, by first | exact hB1 | exact hB1.drew⟩)
    · rw [if_neg (fun h => hb h.2)] at hu
      subst hu
      simp only [decide_eq_false hb] at hP
      rw [if_neg (by omega), decide_eq_false (by omega)]
      clear hb
      go_enter Tryz.func76, Tryz.ntmps76
      go_wp2_with (first | (go_at_call 81; (with_reducible refine (hP _).mono ?_); rintro e w' ⟨rfl, rfl⟩))
      go_ret2
      exact ⟨rfl, by omega, Below.refl _ _⟩
  · rw [if_neg (fun h => h6 h.1)] at hu
    subst hu
    have d6 : decide ((s.size : Int) - (p : Int) < 6) = true := by simp; omega
    rw [if_neg (by omega), decide_eq_false (by omega)]
    go_enter Tryz.func76, Tryz.ntmps76
    go_wp2
    go_ret2
    exact ⟨rfl, by omega, Below.refl _ _⟩
end Go.Proofs.YtpiajoffddjjfaaGreatDoor
