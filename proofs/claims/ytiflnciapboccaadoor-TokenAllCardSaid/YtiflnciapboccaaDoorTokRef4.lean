/- The document's layer 7: text. -/
import Derived.Test.YtiflnciapboccaaDoorTokRef3
import Derived.Test.YtiflnciapboccaaDoorTokText2
namespace Go.Proofs.YtiflnciapboccaaDoor
open Go.RowKit Go.Shelf
def K.textB (l : List Int) (p : Nat) : List Int × Nat × Bool := match K.text l p with | (none, q) => ([], q, false) | (some o, q) => (o, q, true)
theorem ret_sib {k : IntKind} {a b : ByteArray} {c d : Int} {x y : Bool} (h : a = b) (h' : c = d) (h'' : x = y) : Ending.returned (.tuple #[.string a, .int k c, .bool x]) = .returned (.tuple #[.string b, .int k d, .bool y]) := by rw [h, h', h'']
theorem strOfNums_size (l : List Int) : (strOfNums l).size = l.length := by
  unfold strOfNums
  simp [ByteArray.size]
set_option maxHeartbeats 4000000 in
set_option maxRecDepth 100000 in
theorem refTextTok_any (s : ByteArray) (p : Nat) (P : Int) (hP : P = p) (w : World) (hsm : s.size ≤ 100000) (hp : p ≤ s.size) :
    Calls Tryd.prog 22 #[.string s, .int .i64 P] w fun e w' => e = .returned (.tuple #[.string (strOfNums (K.textB (strB s) p).1), .int .i64 ((K.textB (strB s) p).2.1 : Nat), .bool (K.textB (strB s) p).2.2]) ∧ Below w.heap.size w w' := by
  subst hP
  obtain ⟨g, hg⟩ : ∃ g, K.textB (strB s) p = g := ⟨_, rfl⟩
  rw [hg]
  unfold K.textB at hg
  obtain ⟨T, hT⟩ : ∃ T, K.text (strB s) p = T := ⟨_, rfl⟩
  rw [hT] at hg
  have HG := Lib.hid hg; clear hg
  have HT := Lib.hid hT; clear hT
  have hbs := mem_bytes' (strB_bytes s)
  have hby := strB_bytes s
  have hEs : ∀ q w, q < s.size → Calls Tryd.prog 32 #[.string s, .int .i64 q] w _ := fun q w hq => refEsc_any s q w hsm hq
  have HBS := Lib.hid hbs; clear hbs
  have HBY := Lib.hid hby; clear hby
  have HES := Lib.hid hEs; clear hEs
  go_enter Tryd.func22, Tryd.ntmps22
  go_wp2
  go_loopw [1, 7, 8, 9, 10, 11, 12] (fun i v _ _ _ _ _ wr => ∃ (q : Nat) (bs : List Int), q ≤ s.size ∧ i = .int .i64 q ∧ v = .string (strOfNums bs) ∧ bs.length ≤ q ∧ Hid (K.pre bs (K.text (strB s) q) = T) ∧ Below w.heap.size w wr) (fun i _ _ _ _ _ _ _ => s.size - (intOf i).toNat)
  case atStart => exact ⟨p, [], hp, rfl, rfl, Nat.zero_le _, Lib.hid (by rw [K.pre_nil, HT.out]), Below.refl _ _⟩
  case round =>
    obtain ⟨q, bs, hq, rfl, rfl, hbl, HQ, hB⟩ := hrel
    have htq := K.text_eq (strB s) q
    rw [strB_len] at htq
    rcases Nat.lt_or_ge q s.size with hlt | hge
    · have hx := strB_at s q hlt
      have d1 : decide (q < s.size) = true := decide_eq_true hlt
      rw [if_neg (by omega), hx] at htq
      by_cases h34 : (s[q].toNat : Int) = 34
      · rw [if_pos h34] at htq
        have hgv := HQ.out
        rw [htq] at hgv
        have hTv : T = (some bs, q + 1) := by rw [← hgv]; simp [K.pre]
        have hg := HG.out
        rw [hTv] at hg
        simp only at hg
        subst hg
        have d2 : ((s[q].toNat : Int) == 34) = true := by simpa using h34
        clear hx htq hgv hTv
        have H34 := Lib.hid h34; clear h34
        clear HG HQ
        go_wp2
        go_ret3
        exact ⟨ret_sib rfl (by simp) rfl, hB⟩
      rw [if_neg h34] at htq
      have d2 : ((s[q].toNat : Int) == 34) = false := by simpa using h34
      by_cases h92 : (s[q].toNat : Int) = 92
      · rw [if_pos h92] at htq
        have d3 : ((s[q].toNat : Int) == 92) = true := by simpa using h92
        have hpe : K.pc (strB s) q = K.esc (strB s) q := by unfold K.pc; rw [hx, if_pos h92]
        have hroom := K.pc_room (strB s) q (by rw [strB_len]; exact hlt)
        have hlen := K.pc_len (strB s) q
        rw [hpe, strB_len] at hroom
        rw [hpe] at hlen
        have cE := fun w => HES.out q w hlt
        obtain ⟨M, n, hMn⟩ : ∃ M n, K.esc (strB s) q = (M, n) := ⟨_, _, rfl⟩
        simp only [hMn] at htq hroom hlen cE
        have H34 := Lib.hid h34; clear h34
        have H92 := Lib.hid h92; clear h92
        clear hMn hx hpe
        by_cases hn : n = 0
        · rw [if_pos hn] at htq
          have hgv := HQ.out
          rw [htq] at hgv
          have hTv : T = (none, q) := hgv.symm
          have hg := HG.out
          rw [hTv] at hg
          simp only at hg
          subst hg
          have d4 : ((n : Int) == 0) = true := by simpa using hn
          clear htq hgv hTv HG HQ hroom hlen
          have HN := Lib.hid hn; clear hn
          go_wp2_with (go_at_call 32; (with_reducible refine (cE _).mono ?_); rintro e w1 ⟨rfl, hB1⟩)
          go_ret3
          exact ⟨rfl, hB.trans (hB1.mono hB.size)⟩
        · rw [if_neg hn] at htq
          have d4 : ((n : Int) == 0) = false := by simpa using hn
          have HTQ := Lib.hid htq; clear htq
          have hap := strOfNums_append bs M
          have hcat : ¬ maxLen < (strOfNums bs).size + (strOfNums M).size := by rw [strOfNums_size, strOfNums_size]; unfold maxLen; omega
          go_wp2_with (go_at_call 32; (with_reducible refine (cE _).mono ?_); rintro e w1 ⟨rfl, hB1⟩)
          go_roundw
          case rel => exact ⟨q + n, bs ++ M, hroom, by go_num, by first | rfl | rw [hap], by rw [List.length_append]; omega, Lib.hid (by rw [← K.pre_pre, ← HTQ.out]; exact HQ.out), hB.trans (hB1.mono hB.size)⟩
          case measure => simp [intOf]; omega
      · rw [if_neg h92] at htq
        have d3 : ((s[q].toNat : Int) == 92) = false := by simpa using h92
        obtain ⟨cap, wc, hc1, hrow, hbc⟩ := conv_bytes wr s (by unfold maxLen; omega)
        have cG := (refGet_any _ _ _ _ (q : Int) wc hrow HBY.out (by omega) (by omega))
        have hroom := U.getAt_le (strB s) q (by rw [strB_len]; omega)
        rw [strB_len] at hroom
        obtain ⟨c, n, hcn⟩ : ∃ c n, getAt (strB s) (q : Int) = (c, n) := ⟨_, _, rfl⟩
        simp only [hcn] at htq cG hroom
        have H34 := Lib.hid h34; clear h34
        have H92 := Lib.hid h92; clear h92
        clear hcn hx
        have HROW := Lib.hid hrow; clear hrow
        by_cases hbad : n = 0 ∨ c < 32
        · rw [if_pos hbad] at htq
          have hgv := HQ.out
          rw [htq] at hgv
          have hTv : T = (none, q) := hgv.symm
          have hg := HG.out
          rw [hTv] at hg
          simp only at hg
          subst hg
          clear htq hgv hTv HG HQ
          rcases Nat.eq_zero_or_pos n with hn | hn
          · subst hn
            have cG : Calls Tryd.prog 33 #[.slice (some ⟨wr.heap.size, 0, none⟩) s.size cap, .int .i64 (q : Int)] wc fun e w' => e = .returned (.tuple #[.int .i64 c, .int .i64 ((0 : Nat) : Int), .bool false]) ∧ Below wc.heap.size wc w' := cG
            clear hbad hroom
            go_wp2_with (go_at_call 33; (with_reducible refine cG.mono ?_); rintro e w1 ⟨rfl, hB1⟩)
            go_ret3
            exact ⟨rfl, (hB.trans (hbc.mono hB.size)).trans (hB1.mono (Nat.le_trans hB.size hbc.size))⟩
          · have d5 : decide (0 < n) = true := decide_eq_true hn
            have d6 : decide (c < 32) = true := decide_eq_true (by omega)
            rw [d5] at cG
            clear hbad hroom
            have HN := Lib.hid hn; clear hn
            go_wp2_with (go_at_call 33; (with_reducible refine cG.mono ?_); rintro e w1 ⟨rfl, hB1⟩)
            go_ret3
            exact ⟨rfl, (hB.trans (hbc.mono hB.size)).trans (hB1.mono (Nat.le_trans hB.size hbc.size))⟩
        · rw [if_neg hbad] at htq
          have d5 : decide (0 < n) = true := decide_eq_true (by omega)
          have d6 : decide (c < 32) = false := decide_eq_false (by omega)
          rw [d5] at cG
          have hn : 0 < n := by omega
          have hsub : strOfNums (((strB s).drop q).take n) = s.extract q (q + n) := by
            rw [← strOfNums_strB (s.extract q (q + n)), strB_sub, List.drop_take, Nat.add_sub_cancel_left]
          have hap := strOfNums_append bs (((strB s).drop q).take n)
          rw [hsub] at hap
          have hcat : ¬ maxLen < (strOfNums bs).size + (s.extract q (q + n)).size := by rw [strOfNums_size, ByteArray.size_extract]; unfold maxLen; omega
          have hcat2 : ¬ maxLen < (strOfNums bs).size + (min (q + n) s.size - q) := by rw [strOfNums_size]; unfold maxLen; omega
          have hcat3 : ¬ maxLen < (strOfNums bs).size + (q + n - q) := by rw [strOfNums_size]; unfold maxLen; omega
          have hcat4 : ¬ maxLen < (strOfNums bs).size + n := by rw [strOfNums_size]; unfold maxLen; omega
          have HTQ := Lib.hid htq
          have hml : (((strB s).drop q).take n).length ≤ n := List.length_take_le _ _
          obtain ⟨M, hM⟩ : ∃ M, ((strB s).drop q).take n = M := ⟨_, rfl⟩
          simp only [hM] at HTQ hap hml
          clear hbad htq hsub hM
          go_wp2_with (go_at_call 33; (with_reducible refine cG.mono ?_); rintro e w1 ⟨rfl, hB1⟩)
          go_roundw
          case rel => exact ⟨q + n, bs ++ M, hroom.1, by go_num, by first | rfl | rw [hap], by rw [List.length_append]; omega, Lib.hid (by rw [← K.pre_pre, ← HTQ.out]; exact HQ.out), (hB.trans (hbc.mono hB.size)).trans (hB1.mono (Nat.le_trans hB.size hbc.size))⟩
          case measure => simp [intOf]; omega
    · have d1 : decide (q < s.size) = false := decide_eq_false (by omega)
      rw [if_pos (by omega)] at htq
      have hgv := HQ.out
      rw [htq] at hgv
      have hTv : T = (none, q) := hgv.symm
      have hg := HG.out
      rw [hTv] at hg
      simp only at hg
      subst hg
      clear htq hgv hTv HG HQ
      go_wp2
      go_ret3
      exact ⟨rfl, hB⟩
end Go.Proofs.YtiflnciapboccaaDoor
