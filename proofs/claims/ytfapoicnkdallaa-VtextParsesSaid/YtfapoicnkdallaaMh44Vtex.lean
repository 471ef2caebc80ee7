/- Layer 14, the document: get, of texts. -/
import Derived.Test.YtfapoicnkdallaaMh43Vtex
set_option linter.unusedVariables false
set_option linter.unusedSimpArgs false
namespace Go.Proofs.Ytfapoicnkdallaa
open Go.RowKit Go.Shelf
theorem one_byte (s : ByteArray) (q : Nat) (hq : q < s.size) : s.extract q (q + 1) = strOfNums [(strB s)[q]?.getD 0] := by
  have e : strB (s.extract q (q + 1)) = [(strB s)[q]?.getD 0] := by
    rw [strB_sub, take_succ_getD _ _ (by rw [strB_len]; exact hq), List.drop_append_of_le_length (by rw [List.length_take, strB_len]; omega)]
    simp
  rw [← e, strOfNums_strB]
theorem cat_byte (s : ByteArray) (bs : List Int) (q : Nat) (hq : q < s.size) : strOfNums bs ++ s.extract q (q + 1) = strOfNums (bs ++ [(strB s)[q]?.getD 0]) := by rw [one_byte s q hq, strOfNums_append]
theorem bytes_push {bs : List Int} {x : Int} (h : ∀ x ∈ bs, 0 ≤ x ∧ x ≤ 255) (hx : 0 ≤ x ∧ x ≤ 255) : ∀ y ∈ bs ++ [x], 0 ≤ y ∧ y ≤ 255 := by
  intro y hy
  rw [List.mem_append] at hy
  rcases hy with k | k
  · exact h y k
  · simp at k; subst k; exact hx
/-- a text's loop -/
def TgI (s : ByteArray) (p : Nat) (T : Vt.Out (List Int × Nat)) (i o : Value) : Prop := ∃ (q : Nat) (bs : List Int), p < q ∧ q ≤ s.size ∧ bs.length ≤ q ∧ i = .int .i64 q ∧ o = .string (strOfNums bs) ∧ (∃ f, s.size + 1 ≤ q + f ∧ Vt.txt f (strB s) q bs = T) ∧ ∀ x ∈ bs, 0 ≤ x ∧ x ≤ 255
set_option maxRecDepth 100000 in
set_option maxHeartbeats 4000000 in
theorem get_text (s : ByteArray) (p : Nat) (d : Int) (hsm : s.size ≤ 1000000) (hp : p < s.size) (hx : (strB s)[p]?.getD 0 = 34) (w : World) : Calls Try.prog 19 #[.string s, .int .i64 (p : Int), .int .i64 d] w (ScR (gT (Vt.txV (Vt.txt ((strB s).length + 1) (strB s) (p + 1) []))) w) := by
  obtain ⟨hB, hz1, hz2, hs⟩ := get_vars w
  obtain ⟨⟨y0, y1, y2, y3⟩, x0, x1, x2, x3⟩ := box4 hz1
  obtain ⟨⟨n0, n1, n2, n3⟩, _⟩ := box4 hz2
  have hbs := strB_bytes s
  obtain ⟨T, hT⟩ : ∃ T, Vt.txt ((strB s).length + 1) (strB s) (p + 1) [] = T := ⟨_, rfl⟩
  rw [hT]
  obtain ⟨R, hR⟩ : ∃ R, Vt.txV T = R := ⟨_, rfl⟩
  rw [hR]
  have HR := Lib.hid hR; clear hR
  have H0 : TgI s p T (.int .i64 ((p : Int) + 1)) (.string ⟨#[]⟩) := ⟨p + 1, [], by omega, by omega, Nat.zero_le _, by push_cast; rfl, rfl, ⟨(strB s).length + 1, by rw [strB_len]; omega, hT⟩, by simp⟩
  have HI := Lib.hid H0; clear H0 hT
  rw [strB_at s p hp] at hx
  have d0 : ((p : Int) == (s.size : Int)) = false := by simp; omega
  have d1 : ((s[p].toNat : Int) == 39) = false := by simp; omega
  have d2 : ((s[p].toNat : Int) == 45) = false := by simp; omega
  have d3 : ((s[p].toNat : Int) == 34) = true := by simpa using hx
  have d5 : decide ((48 : Int) ≤ (s[p].toNat : Int)) = false := by simp; omega
  have HX := Lib.hid hx; clear hx
  go_enter Try.func19, Try.ntmps19
  go_wp2
  go_loop [14, 15] (fun o i => TgI s p T i o) (fun _ i => s.size - (intOf i).toNat)
  case atStart => exact HI.out
  case round =>
    clear HI
    obtain ⟨q, bs, hpq, hq, hl, rfl, rfl, ⟨f, hf, hT⟩, hby⟩ := hrel
    rw [txt_at (strB s) q bs f (by rw [strB_len]; exact hf) (by rw [strB_len]; exact hq)] at hT
    rcases Nat.lt_or_ge q s.size with hlt | hge
    · rw [if_neg (by rw [strB_len]; omega)] at hT
      have hd : decide (q < s.size) = true := by simpa using hlt
      have hxb := hbs q
      have hcb := cat_byte s bs q hlt
      have hx := strB_at s q hlt
      rw [hx] at hT hcb hxb
      have hsz : (strOfNums bs).size = bs.length := by rw [← strB_len, strB_strOfNums bs hby]
      have hez : (s.extract q (q + 1)).size = 1 := by simp; omega
      have hcat : ¬ maxLen < (strOfNums bs).size + (s.extract q (q + 1)).size := by rw [hsz, hez]; unfold maxLen; omega
      by_cases h34 : (s[q].toNat : Int) = 34
      · rw [if_pos h34] at hT
        have hg := HR.out
        rw [← hT] at hg
        simp only [Vt.txV] at hg
        subst hg
        have e1 : ((s[q].toNat : Int) == 34) = true := by simpa using h34
        have H34 := Lib.hid h34; have HBY := Lib.hid hby
        clear hT HR hx h34 hcb hby
        go_wp2
        refine bodyPost_ret (vresults_row_tmp2 Try.results19 _ _ w.heap.size 25 _ _ _ rfl (vat_two14 w #[.int .i64 4, .int .i64 0, .string (strOfNums bs), .slice none 0 0] vzero).1 Try.underlying25 rfl val4) rfl ?_
        exact ⟨4, 0, strOfNums bs, none, 0, 0, rfl, fresh_flat _ _ 4 0 _ ⟨by omega, by omega⟩ ⟨by omega, by omega⟩ (by rw [hsz]; unfold maxLen; omega), (vat_two14 w _ _).2⟩
      · rw [if_neg h34] at hT
        have e1 : ((s[q].toNat : Int) == 34) = false := by simpa using h34
        by_cases h92 : (s[q].toNat : Int) = 92
        · rw [if_pos h92] at hT
          have e2 : ((s[q].toNat : Int) == 92) = true := by simpa using h92
          rcases Nat.lt_or_ge (q + 1) s.size with hlt2 | hge2
          · have f1 : ((q : Int) + 1 == (s.size : Int)) = false := by simp; omega
            have hyb := hbs (q + 1)
            have hcb2 := cat_byte s bs (q + 1) hlt2
            have hy := strB_at s (q + 1) hlt2
            rw [hy] at hT hcb2 hyb
            have hez2 : (s.extract (q + 1) (q + 1 + 1)).size = 1 := by simp; omega
            have hcat2 : ¬ maxLen < (strOfNums bs).size + (s.extract (q + 1) (q + 1 + 1)).size := by rw [hsz, hez2]; unfold maxLen; omega
            by_cases hyy : (s[q + 1].toNat : Int) = 34 ∨ (s[q + 1].toNat : Int) = 92
            · rw [if_pos ⟨by rw [strB_len]; exact hlt2, hyy⟩] at hT
              have hyc : ((s[q + 1].toNat : Int) != 34) = false ∨ ((s[q + 1].toNat : Int) != 34) = true ∧ ((s[q + 1].toNat : Int) != 92) = false := by
                rcases hyy with h | h
                · exact .inl (by simpa using h)
                · exact .inr ⟨by rw [bne_iff_ne]; omega, by simpa using h⟩
              have HT := Lib.hid hT; have H34 := Lib.hid h34; have H92 := Lib.hid h92; have HBY := Lib.hid hby; have HCB := Lib.hid hcb2
              clear hT h34 h92 hx hby hcb hcb2 hy hyy
              rcases hyc with k1 | ⟨k1, k2⟩
              all_goals
                go_wp2
                exact ⟨⟨q + 1 + 1, bs ++ [(s[q + 1].toNat : Int)], by omega, by omega, by simp; omega, by push_cast; rfl, by rw [← HCB.out], ⟨f - 1, by omega, HT.out⟩, bytes_push HBY.out hyb⟩, by simp [intOf]; omega⟩
            · rw [if_neg (fun h => hyy h.2)] at hT
              have k1 : ((s[q + 1].toNat : Int) != 34) = true := by rw [bne_iff_ne]; exact fun h => hyy (.inl h)
              have k2 : ((s[q + 1].toNat : Int) != 92) = true := by rw [bne_iff_ne]; exact fun h => hyy (.inr h)
              have hg := HR.out
              rw [← hT] at hg
              simp only [Vt.txV] at hg
              subst hg
              have H34 := Lib.hid h34; have H92 := Lib.hid h92; have HBY := Lib.hid hby; have HYY := Lib.hid hyy
              clear hT HR h34 h92 hx hby hcb hcb2 hy hyy
              go_wp2
              refine bodyPost_ret (vresults_row_tmp2 Try.results19 _ _ w.heap.size 25 _ _ _ rfl hz1 Try.underlying25 rfl val4) rfl ?_
              exact get_none14 hB
          · have f1 : ((q : Int) + 1 == (s.size : Int)) = true := by simp; omega
            rw [if_neg (fun h => by rw [strB_len] at h; omega)] at hT
            have hg := HR.out
            rw [← hT] at hg
            simp only [Vt.txV] at hg
            subst hg
            have H34 := Lib.hid h34; have H92 := Lib.hid h92; have HBY := Lib.hid hby
            clear hT HR h34 h92 hx hby hcb
            go_wp2
            refine bodyPost_ret (vresults_row_tmp2 Try.results19 _ _ w.heap.size 25 _ _ _ rfl hz1 Try.underlying25 rfl val4) rfl ?_
            exact get_none14 hB
        · rw [if_neg h92] at hT
          have e2 : ((s[q].toNat : Int) == 92) = false := by simpa using h92
          have HT := Lib.hid hT; have H34 := Lib.hid h34; have H92 := Lib.hid h92; have HBY := Lib.hid hby; have HCB := Lib.hid hcb
          clear hT h34 h92 hx hby hcb
          go_wp2
          exact ⟨⟨q + 1, bs ++ [(s[q].toNat : Int)], by omega, by omega, by simp; omega, by push_cast; rfl, by rw [HCB.out], ⟨f - 1, by omega, HT.out⟩, bytes_push HBY.out hxb⟩, by simp [intOf]; omega⟩
    · rw [if_pos (by rw [strB_len]; omega)] at hT
      obtain rfl : q = s.size := by omega
      have hg := HR.out
      rw [← hT] at hg
      simp only [Vt.txV, strB_len] at hg
      subst hg
      have hd : decide (s.size < s.size) = false := by simp
      clear hT HR
      go_wp2
      refine bodyPost_ret (vresults_row_tmp2 Try.results19 _ _ w.heap.size 25 _ _ _ rfl hz1 Try.underlying25 rfl val4) rfl ?_
      exact get_none14 hB
end Go.Proofs.Ytfapoicnkdallaa
