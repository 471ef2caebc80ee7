/- Layer 7: text. -/
import Derived.Test.YtiflnciapboccaaDoorTokText
namespace Go.Proofs.YtiflnciapboccaaDoor
open Go.RowKit Go.Shelf
theorem K.pc_len (l : List Int) (p : Nat) : (K.pc l p).1.length ≤ (K.pc l p).2 := by
  unfold K.pc
  split
  · have hU : (K.escU l p).1.length ≤ (K.escU l p).2 := by
      rw [K.escU_eq]
      split
      · simp
      · rename_i h
        have h4 := put_le (K.escd l p).1
        simp only
        unfold K.escd at h h4 ⊢
        split
        · rename_i h0; rw [if_pos h0] at h; exact absurd rfl h
        · rename_i h0
          rw [if_neg h0] at h4
          split
          · rename_i h1; rw [if_pos h1] at h4; simp only at h4 ⊢; omega
          · rename_i h1; rw [if_neg h1] at h4; simp only at h4 ⊢; omega
    unfold K.esc
    split
    · split
      · simp
      · exact hU
    · exact hU
  · simp only [List.length_take]; omega
def K.textAt (l : List Int) (p : Nat) : List Int × Nat × Int := match K.text l p with | (none, q) => ([], q, 2) | (some o, q) => (o, q, 0)
set_option maxHeartbeats 2000000 in
theorem tokText_any (s : ByteArray) (p : Nat) (w : World) (hsm : s.size ≤ 100000) (hp : p < s.size) (hE : Err w) :
    Calls Tryd.prog 28 #[.string s, .int .i64 p] w fun e w' => e = .returned (.tuple #[.string (strOfNums (K.textAt (strB s) (p + 1)).1), .int .i64 ((K.textAt (strB s) (p + 1)).2.1 : Nat), .int .i64 (K.textAt (strB s) (p + 1)).2.2]) ∧ Below w.heap.size w w' := by
  obtain ⟨g, hg⟩ : ∃ g, K.textAt (strB s) (p + 1) = g := ⟨_, rfl⟩
  rw [hg]
  unfold K.textAt at hg
  obtain ⟨T, hT⟩ : ∃ T, K.text (strB s) (p + 1) = T := ⟨_, rfl⟩
  rw [hT] at hg
  have HG := Lib.hid hg; clear hg
  have HT := Lib.hid hT; clear hT
  have hbs := mem_bytes' (strB_bytes s)
  have hP : ∀ q w, q < s.size → Err w → Calls Tryd.prog 38 #[.string s, .int .i64 q] w _ := fun q w hq hE => piece_any s q w hsm hq hE
  go_enter Tryd.func28, Tryd.ntmps28
  go_wp2
  go_loopw [1, 7] (fun i v wr => ∃ (q : Nat) (bs : List Int), q ≤ s.size ∧ i = .int .i64 q ∧ Owns w wr v bs ∧ bs.length ≤ q ∧ Hid (K.pre bs (K.text (strB s) q) = T) ∧ Hid (∀ x ∈ bs, 0 ≤ x ∧ x ≤ 255)) (fun i _ _ => s.size - (intOf i).toNat)
  case atStart => exact ⟨p + 1, [], by omega, by go_num, owns_nil w, Nat.zero_le _, Lib.hid (by rw [K.pre_nil, HT.out]), Lib.hid (by simp)⟩
  case round =>
    obtain ⟨q, bs, hq, rfl, hown, hbl, HQ, HBS⟩ := hrel
    by_cases hin : q < s.size ∧ (strB s)[q]?.getD 0 ≠ 34
    · obtain ⟨hlt, h34⟩ := hin
      have hE1 := err_below hE hown.2
      have hx := strB_at s q hlt
      have hpc := K.text_piece (strB s) q (by rw [strB_len]; exact hlt) h34
      have hroom := K.pc_room (strB s) q (by rw [strB_len]; exact hlt)
      have hlen := K.pc_len (strB s) q
      have hbyt := K.pc_bytes (strB s) q hbs
      have hP1 := fun w hE => hP q w hlt hE
      rw [strB_len] at hroom
      rw [hx] at h34
      have d1 : decide (q < s.size) = true := by simpa using hlt
      have d2 : ((s[q].toNat : Int) != 34) = true := by simpa using h34
      obtain ⟨M, n, hMn⟩ : ∃ M n, K.pc (strB s) q = (M, n) := ⟨_, _, rfl⟩
      simp only [hMn] at hpc hroom hlen hbyt hP1
      clear hMn hx
      have H34 := Lib.hid h34; clear h34
      by_cases hn : n = 0
      · rw [if_pos hn] at hpc
        have hgv := HQ.out
        rw [hpc] at hgv
        have hTv : T = (none, q) := hgv.symm
        have hg := HG.out
        rw [hTv] at hg
        simp only at hg
        subst hg
        have d3 : ((n : Int) == 0) = true := by simpa using hn
        clear hpc hTv hgv HQ HT HG hlen hroom hbyt
        have HN := Lib.hid hn; clear hn
        go_wp2_with (first | (go_at_call 38; (with_reducible refine (hP1 _ hE1).mono ?_); rintro e w1 ⟨rfl, hB1⟩))
        go_ret3
        exact ⟨rfl, hown.2.trans (hB1.mono hown.2.size)⟩
      · rw [if_neg hn] at hpc
        have HPC := Lib.hid hpc; clear hpc
        have HBY := Lib.hid hbyt; clear hbyt
        have d3 : ((n : Int) == 0) = false := by simpa using hn
        have hMs : (strOfNums M).size = M.length := by rw [← strB_len, strB_strOfNums M HBY.out]
        go_wp2_with (first
          | (go_at_call 38; (with_reducible refine (hP1 _ hE1).mono ?_); rintro e w1 ⟨rfl, hB1⟩; have hown1 := owns_below hown hB1)
          | (at_builtin; refine wpList_owns_str rfl _ _ rfl w u7 bs rfl hown1 (strOfNums M) rfl (by omega) ?_; intro v' w2 hown2 hg2))
        go_roundw
        case rel => exact ⟨q + n, bs ++ M, hroom, by go_num, by rw [strB_strOfNums M HBY.out] at hown2; exact hown2, by rw [List.length_append]; omega, Lib.hid (by rw [← K.pre_pre, ← HPC.out]; exact HQ.out), Lib.hid (by intro x hx; rw [List.mem_append] at hx; rcases hx with h | h; exact HBS.out x h; exact HBY.out x h)⟩
        case measure => simp [intOf]; omega
    · rcases Nat.lt_or_ge q s.size with hlt | hge
      · have h34 : (strB s)[q]?.getD 0 = 34 := by
          by_cases h : (strB s)[q]?.getD 0 = 34
          · exact h
          · exact absurd ⟨hlt, h⟩ hin
        have hgv := HQ.out
        rw [K.text_eq, if_neg (by rw [strB_len]; omega), if_pos h34] at hgv
        have hTv : T = (some bs, q + 1) := by rw [← hgv]; simp [K.pre]
        have hg := HG.out
        rw [hTv] at hg
        simp only at hg
        subst hg
        rw [strB_at s q hlt] at h34
        have d1 : decide (q < s.size) = true := by simpa using hlt
        have d2 : ((s[q].toNat : Int) != 34) = false := by simpa using h34
        have d3 : ((q : Int) == (s.size : Int)) = false := by simp; omega
        have hcv := conv_owned wr w.heap.size bs.length u7 bs hown.1
        clear hTv hgv HQ HT HG hin
        have H34 := Lib.hid h34; clear h34
        go_wp2
        go_ret3
        exact ⟨rfl, hown.2⟩
      · have hqe : q = s.size := by omega
        have hgv := HQ.out
        rw [K.text_eq, if_pos (by rw [strB_len]; omega)] at hgv
        have hTv : T = (none, q) := hgv.symm
        have hg := HG.out
        rw [hTv] at hg
        simp only at hg
        subst hg
        have d1 : decide (q < s.size) = false := by simpa using hge
        have d3 : ((q : Int) == (s.size : Int)) = true := by simp; omega
        clear hTv hgv HQ HT HG hin
        have HQE := Lib.hid hqe; clear hqe
        go_wp2
        go_ret3
        exact ⟨rfl, hown.2⟩
end Go.Proofs.YtiflnciapboccaaDoor
