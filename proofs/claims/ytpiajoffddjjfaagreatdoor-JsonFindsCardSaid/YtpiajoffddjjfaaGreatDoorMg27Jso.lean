/- Layer 7: piece and text. -/
import Derived.Test.YtpiajoffddjjfaaGreatDoorTokPieceMq
import Derived.Test.YtpiajoffddjjfaaGreatDoorMg7Jso
import Derived.Test.YtpiajoffddjjfaaGreatDoorMg8Jso
namespace Go.Proofs.YtpiajoffddjjfaaGreatDoor
open Go.RowKit Go.Shelf
theorem mem_bytes' {l : List Int} (h : Bytes l) : ∀ x ∈ l, 0 ≤ x ∧ x ≤ 255 := by
  intro x hx
  obtain ⟨i, hi, rfl⟩ := List.getElem_of_mem hx
  have := h i
  rwa [List.getElem?_eq_getElem hi] at this
theorem ret_si {k : IntKind} {a b : ByteArray} {c d : Int} (h : a = b) (h' : c = d) : Ending.returned (.tuple #[.string a, .int k c]) = .returned (.tuple #[.string b, .int k d]) := by rw [h, h']
set_option maxHeartbeats 2000000 in
theorem piece_any (s : ByteArray) (p : Nat) (w : World) (hsm : s.size ≤ 100000) (hp : p < s.size) (hE : Err w) :
    Calls Tryz.prog 53 #[.string s, .int .i64 p] w fun e w' => e = .returned (.tuple #[.string (strOfNums (K.pc (strB s) p).1), .int .i64 ((K.pc (strB s) p).2 : Nat)]) ∧ Below w.heap.size w w' := by
  obtain ⟨g, hg⟩ : ∃ g, K.pc (strB s) p = g := ⟨_, rfl⟩
  rw [hg]
  unfold K.pc at hg
  have hx := strB_at s p hp
  rw [hx] at hg
  by_cases h92 : (s[p].toNat : Int) = 92
  · rw [if_pos h92] at hg
    have c1 := fun w hE => escape_any s p w hsm (Nat.le_of_lt hp) hE
    rw [hg] at c1
    have d1 : ((s[p].toNat : Int) == 92) = true := by simpa using h92
    clear hg hx
    have H92 := Lib.hid h92; clear h92
    go_enter Tryz.func53, Tryz.ntmps53
    go_wp2_with (first | (go_at_call 59; (with_reducible refine (c1 _ hE).mono ?_); rintro e w1 ⟨rfl, hB1⟩))
    all_goals
      go_ret2
      exact ⟨rfl, hB1⟩
  · rw [if_neg h92] at hg
    have d1 : ((s[p].toNat : Int) == 92) = false := by simpa using h92
    have H92 := Lib.hid h92; clear h92 hx
    rw [K.rowP_eq] at hg
    have hle := K.endP_le (strB s) p (by rw [strB_len]; omega)
    rw [strB_len] at hle
    obtain ⟨r, hr⟩ : ∃ r, K.endP (strB s) p = r := ⟨_, rfl⟩
    rw [hr] at hg hle
    have HR := Lib.hid hr; clear hr
    have hrow : strB (s.extract p r) = K.row (strB s) p r := strB_sub s p r
    have hts : (s.extract p r).size = r - p := by rw [ByteArray.size_extract]; omega
    rw [← hrow] at hg
    have c1 := fun w => valid_any (s.extract p r) w (by unfold maxLen; omega)
    have c2 := fun w => codes_any (s.extract p r) w (by omega)
    have hvl : K.vl (strB (s.extract p r)) ≤ r - p := by
      rw [K.vl_eq]
      have h := K.vl_eq (strB (s.extract p r))
      have : ∀ (R : List Int) f q, q ≤ R.length → K.endC f R q ≤ R.length := by
        intro R f
        induction f with
        | zero => intro q hq; simp [K.endC, U.cds]; exact hq
        | succ f ih =>
          intro q hq
          by_cases hgt : 0 < (getAt R q).2
          · rw [K.endC_step _ _ _ hgt]; exact ih _ (U.getAt_le R q hq).1
          · rw [K.endC_stop _ _ _ hgt]; exact hq
      have := this (strB (s.extract p r)) (strB (s.extract p r)).length 0 (Nat.zero_le _)
      rw [strB_len] at this ⊢
      omega
    have hval : U.validS (s.extract p r) = decide (K.vl (strB (s.extract p r)) = (s.extract p r).size) := by
      unfold U.validS K.vl; rw [strB_len]
    have hlast : U.lastEnd (U.cds (s.extract p r).size (strB (s.extract p r)) 0) = K.vl (strB (s.extract p r)) := by unfold K.vl; rw [strB_len]
    simp only [hval] at c1
    unfold Cds at c2
    simp only [hlast] at c2
    clear hrow hval hlast
    obtain ⟨m, hm⟩ : ∃ m, K.vl (strB (s.extract p r)) = m := ⟨_, rfl⟩
    simp only [hm] at c1 c2 hvl hg
    clear hm
    go_enter Tryz.func53, Tryz.ntmps53
    go_wp2
    go_loop [6] (fun i => ∃ q : Nat, p ≤ q ∧ q ≤ s.size ∧ i = .int .i64 q ∧ K.endP (strB s) q = r) (fun i => s.size - (intOf i).toNat)
    case atStart => exact ⟨p, Nat.le_refl _, Nat.le_of_lt hp, rfl, HR.out⟩
    case round =>
      obtain ⟨q, hpq, hq, rfl, hrq⟩ := hrel
      by_cases hpl : q < s.size ∧ K.plain ((strB s)[q]?.getD 0) = true
      · obtain ⟨hlt, hpl⟩ := hpl
        have hx := strB_at s q hlt
        have hd : decide (q < s.size) = true := by simpa using hlt
        have hstep := K.endP_step (strB s) q (by rw [strB_len]; exact hlt) hpl
        rw [hrq] at hstep
        have HS := Lib.hid hstep; clear hstep hrq
        rw [hx] at hpl
        clear hx
        simp only [K.plain, decide_eq_true_eq] at hpl
        have e1 : decide (32 ≤ (s[q].toNat : Int)) = true := by simp; omega
        have e2 : ((s[q].toNat : Int) != 34) = true := by simpa using hpl.2.1
        have e3 : ((s[q].toNat : Int) != 92) = true := by simpa using hpl.2.2
        have HP := Lib.hid hpl; clear hpl
        go_wp2
        all_goals
          go_round
          case rel => exact ⟨q + 1, by omega, by omega, by go_num, HS.out.symm⟩
          case measure => simp [intOf]; omega
      · have hstop := K.endP_stop (strB s) q (fun h => by
          rw [strB_len] at h
          cases hc : K.plain ((strB s)[q]?.getD 0) with
          | false => rfl
          | true => exact absurd ⟨h, hc⟩ hpl)
        rw [hrq] at hstop
        subst hstop
        have hout : (decide (r < s.size) = false) ∨ (decide (r < s.size) = true ∧ ∃ h : r < s.size, ((decide (32 ≤ (s[r].toNat : Int)) && ((s[r].toNat : Int) != 34)) && ((s[r].toNat : Int) != 92)) = false) := by
          rcases Nat.lt_or_ge r s.size with h | h
          · right
            have hx := strB_at s r h
            refine ⟨by simpa using h, h, ?_⟩
            rw [hx] at hpl
            cases hc : ((decide (32 ≤ (s[r].toNat : Int)) && ((s[r].toNat : Int) != 34)) && ((s[r].toNat : Int) != 92)) with
            | false => rfl
            | true =>
              refine absurd ⟨h, ?_⟩ hpl
              simp at hc
              simp [K.plain]; omega
          · left; simpa using h
        clear hpl
        subst hg
        by_cases hms : m = (s.extract p r).size
        · simp only [decide_eq_true hms] at c1
          have hT : strOfNums ((strB (s.extract p r)).take m) = s.extract p r := by
            rw [hms, ← strB_len, List.take_length, strOfNums_strB]
          clear c2
          have HMS := Lib.hid hms; clear hms
          rcases hout with h0 | ⟨h1, hlt, h2⟩
          · go_wp2_with (first | (go_at_call 15; (with_reducible refine (c1 _).mono ?_); rintro e w1 ⟨rfl, hB1⟩))
            all_goals
              go_ret2
              exact ⟨ret_si rfl (by have := HMS.out; omega), hB1⟩
          · skip
            go_wp2_with (first | (go_at_call 15; (with_reducible refine (c1 _).mono ?_); rintro e w1 ⟨rfl, hB1⟩))
            all_goals try (exfalso; simp_all; done)
            all_goals
              go_ret2
              exact ⟨ret_si rfl (by have := HMS.out; omega), hB1⟩
        · simp only [decide_eq_false hms] at c1
          have hT : (s.extract p r).extract 0 m = strOfNums ((strB (s.extract p r)).take m) := by rw [← strB_extract, strOfNums_strB]
          rcases hout with h0 | ⟨h1, hlt, h2⟩
          · go_wp2_with (first | (go_at_call 15; (with_reducible refine (c1 _).mono ?_); rintro e w1 ⟨rfl, hB1⟩) | (go_at_call 60; (with_reducible refine (c2 _).mono ?_); rintro e w2 ⟨v, rfl, _, hB2⟩))
            all_goals
              go_ret2
              exact ⟨ret_si rfl rfl, hB1.trans (hB2.mono hB1.size)⟩
          · have HMS := Lib.hid hms; clear hms
            go_wp2_with (first | (go_at_call 15; (with_reducible refine (c1 _).mono ?_); rintro e w1 ⟨rfl, hB1⟩) | (go_at_call 60; (with_reducible refine (c2 _).mono ?_); rintro e w2 ⟨v, rfl, _, hB2⟩))
            all_goals try (exfalso; simp_all; done)
            all_goals
              go_ret2
              exact ⟨ret_si rfl rfl, hB1.trans (hB2.mono hB1.size)⟩
end Go.Proofs.YtpiajoffddjjfaaGreatDoor

/- Layer 7: text. -/
namespace Go.Proofs.YtpiajoffddjjfaaGreatDoor
open Go.RowKit Go.Shelf
theorem K.pc_len (l : List Int) (p : Nat) : (K.pc l p).1.length ≤ (K.pc l p).2 := by
  unfold K.pc
  split
  · have hU : (K.escU l p).1.length ≤ (K.escU l p).2 := by
      rw [K.escU_eq]
      split
      · simp
      · rename_i h
        have h4 := put_le (K.escd l p).1
        simp only
        unfold K.escd at h h4 ⊢
        split
        · rename_i h0; rw [if_pos h0] at h; exact absurd rfl h
        · rename_i h0
          rw [if_neg h0] at h4
          split
          · rename_i h1; rw [if_pos h1] at h4; simp only at h4 ⊢; omega
          · rename_i h1; rw [if_neg h1] at h4; simp only at h4 ⊢; omega
    unfold K.esc
    split
    · split
      · simp
      · exact hU
    · exact hU
  · simp only [List.length_take]; omega
def K.textAt (l : List Int) (p : Nat) : List Int × Nat × Int := match K.text l p with | (none, q) => ([], q, 2) | (some o, q) => (o, q, 0)
set_option maxHeartbeats 2000000 in
theorem tokText_any (s : ByteArray) (p : Nat) (w : World) (hsm : s.size ≤ 100000) (hp : p < s.size) (hE : Err w) :
    Calls Tryz.prog 49 #[.string s, .int .i64 p] w fun e w' => e = .returned (.tuple #[.string (strOfNums (K.textAt (strB s) (p + 1)).1), .int .i64 ((K.textAt (strB s) (p + 1)).2.1 : Nat), .int .i64 (K.textAt (strB s) (p + 1)).2.2]) ∧ Below w.heap.size w w' := by
  obtain ⟨g, hg⟩ : ∃ g, K.textAt (strB s) (p + 1) = g := ⟨_, rfl⟩
  rw [hg]
  unfold K.textAt at hg
  obtain ⟨T, hT⟩ : ∃ T, K.text (strB s) (p + 1) = T := ⟨_, rfl⟩
  rw [hT] at hg
  have HG := Lib.hid hg; clear hg
  have HT := Lib.hid hT; clear hT
  have hbs := mem_bytes' (strB_bytes s)
  have hP : ∀ q w, q < s.size → Err w → Calls Tryz.prog 53 #[.string s, .int .i64 q] w _ := fun q w hq hE => piece_any s q w hsm hq hE
  go_enter Tryz.func49, Tryz.ntmps49
  go_wp2
  go_loopw [1, 7] (fun i v wr => ∃ (q : Nat) (bs : List Int), q ≤ s.size ∧ i = .int .i64 q ∧ Owns w wr v bs ∧ bs.length ≤ q ∧ Hid (K.pre bs (K.text (strB s) q) = T) ∧ Hid (∀ x ∈ bs, 0 ≤ x ∧ x ≤ 255)) (fun i _ _ => s.size - (intOf i).toNat)
  case atStart => exact ⟨p + 1, [], by omega, by go_num, owns_nil w, Nat.zero_le _, Lib.hid (by rw [K.pre_nil, HT.out]), Lib.hid (by simp)⟩
  case round =>
    obtain ⟨q, bs, hq, rfl, hown, hbl, HQ, HBS⟩ := hrel
    by_cases hin : q < s.size ∧ (strB s)[q]?.getD 0 ≠ 34
    · obtain ⟨hlt, h34⟩ := hin
      have hE1 := err_below hE hown.2
      have hx := strB_at s q hlt
      have hpc := K.text_piece (strB s) q (by rw [strB_len]; exact hlt) h34
      have hroom := K.pc_room (strB s) q (by rw [strB_len]; exact hlt)
      have hlen := K.pc_len (strB s) q
      have hbyt := K.pc_bytes (strB s) q hbs
      have hP1 := fun w hE => hP q w hlt hE
      rw [strB_len] at hroom
      rw [hx] at h34
      have d1 : decide (q < s.size) = true := by simpa using hlt
      have d2 : ((s[q].toNat : Int) != 34) = true := by simpa using h34
      obtain ⟨M, n, hMn⟩ : ∃ M n, K.pc (strB s) q = (M, n) := ⟨_, _, rfl⟩
      simp only [hMn] at hpc hroom hlen hbyt hP1
      clear hMn hx
      have H34 := Lib.hid h34; clear h34
      by_cases hn : n = 0
      · rw [if_pos hn] at hpc
        have hgv := HQ.out
        rw [hpc] at hgv
        have hTv : T = (none, q) := hgv.symm
        have hg := HG.out
        rw [hTv] at hg
        simp only at hg
        subst hg
        have d3 : ((n : Int) == 0) = true := by simpa using hn
        clear hpc hTv hgv HQ HT HG hlen hroom hbyt
        have HN := Lib.hid hn; clear hn
        go_wp2_with (first | (go_at_call 53; (with_reducible refine (hP1 _ hE1).mono ?_); rintro e w1 ⟨rfl, hB1⟩))
        go_ret3
        exact ⟨rfl, hown.2.trans (hB1.mono hown.2.size)⟩
      · rw [if_neg hn] at hpc
        have HPC := Lib.hid hpc; clear hpc
        have HBY := Lib.hid hbyt; clear hbyt
        have d3 : ((n : Int) == 0) = false := by simpa using hn
        have hMs : (strOfNums M).size = M.length := by rw [← strB_len, strB_strOfNums M HBY.out]
        go_wp2_with (first
          | (go_at_call 53; (with_reducible refine (hP1 _ hE1).mono ?_); rintro e w1 ⟨rfl, hB1⟩; have hown1 := owns_below hown hB1)
          | (at_builtin; refine wpList_owns_str rfl _ _ rfl w u7 bs rfl hown1 (strOfNums M) rfl (by omega) ?_; intro v' w2 hown2 hg2))
        go_roundw
        case rel => exact ⟨q + n, bs ++ M, hroom, by go_num, by rw [strB_strOfNums M HBY.out] at hown2; exact hown2, by rw [List.length_append]; omega, Lib.hid (by rw [← K.pre_pre, ← HPC.out]; exact HQ.out), Lib.hid (by intro x hx; rw [List.mem_append] at hx; rcases hx with h | h; exact HBS.out x h; exact HBY.out x h)⟩
        case measure => simp [intOf]; omega
    · rcases Nat.lt_or_ge q s.size with hlt | hge
      · have h34 : (strB s)[q]?.getD 0 = 34 := by
          by_cases h : (strB s)[q]?.getD 0 = 34
          · exact h
          · exact absurd ⟨hlt, h⟩ hin
        have hgv := HQ.out
        rw [K.text_eq, if_neg (by rw [strB_len]; omega), if_pos h34] at hgv
        have hTv : T = (some bs, q + 1) := by rw [← hgv]; simp [K.pre]
        have hg := HG.out
        rw [hTv] at hg
        simp only at hg
        subst hg
        rw [strB_at s q hlt] at h34
        have d1 : decide (q < s.size) = true := by simpa using hlt
        have d2 : ((s[q].toNat : Int) != 34) = false := by simpa using h34
        have d3 : ((q : Int) == (s.size : Int)) = false := by simp; omega
        have hcv := conv_owned wr w.heap.size bs.length u7 bs hown.1
        clear hTv hgv HQ HT HG hin
        have H34 := Lib.hid h34; clear h34
        go_wp2
        go_ret3
        exact ⟨rfl, hown.2⟩
      · have hqe : q = s.size := by omega
        have hgv := HQ.out
        rw [K.text_eq, if_pos (by rw [strB_len]; omega)] at hgv
        have hTv : T = (none, q) := hgv.symm
        have hg := HG.out
        rw [hTv] at hg
        simp only at hg
        subst hg
        have d1 : decide (q < s.size) = false := by simpa using hge
        have d3 : ((q : Int) == (s.size : Int)) = true := by simp; omega
        clear hTv hgv HQ HT HG hin
        have HQE := Lib.hid hqe; clear hqe
        go_wp2
        go_ret3
        exact ⟨rfl, hown.2⟩
end Go.Proofs.YtpiajoffddjjfaaGreatDoor

/- The document's answer for layer 2: Parse and Scan. -/
namespace Go.Proofs.YtpiajoffddjjfaaGreatDoor
open Go.RowKit Go.Shelf
theorem M.val_le (a b : List Int) : M.val a ≤ M.val (a ++ b) := by
  induction b using M.snoc_ind with
  | h0 => simp
  | h1 b x ih => rw [← List.append_assoc, M.val_snoc]; omega
/-- a text's number so far -/
theorem M.sofar (l : List Int) (p : Nat) (hp : M.sgn l 0 = p) : ∃ pv : Nat → Nat, pv p = 0 ∧
    (∀ q, p ≤ q → q < l.length → pv (q + 1) = pv q * 10 + (l[q]?.getD 0 - 48).toNat) ∧ (∀ q, pv q ≤ pv l.length) ∧ (M.formed l → M.parse l = M.sg (pv l.length) (decide (0 < p))) := by
  refine ⟨fun q => M.val ((l.take q).drop p), by simp [M.val], fun q h1 h2 => ?_, fun q => ?_, fun hf => ?_⟩
  · simp only
    rw [take_succ_getD l q h2, List.drop_append_of_le_length (by simp; omega), M.val_snoc]
  · simp only
    rw [List.take_length]
    conv => rhs; rw [← List.take_append_drop q l, List.drop_append]
    exact M.val_le _ _
  · simp only
    unfold M.parse
    rw [if_pos hf, hp, List.take_length]
theorem quo_i64 (d : Int) (h0 : 0 ≤ d) (h1 : d ≤ 9) : (-9223372036854775808 + d).tdiv 10 = -((9223372036854775808 - d) / 10) := by
  rw [show -9223372036854775808 + d = -(9223372036854775808 - d) by omega, Int.neg_tdiv, Int.tdiv_eq_ediv_of_nonneg (by omega)]
end Go.Proofs.YtpiajoffddjjfaaGreatDoor
