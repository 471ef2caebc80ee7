/- The walk of UtfBack: what is put is read again, with all that stands behind it; a valid text is the text of its codes. -/
import Derived.Test.YtjkdmflpfaolaaaUtfLaw
namespace Go.Proofs.Ytjkdmflpfaolaaa.utfBackWalk
open Go.RowKit Go.Shelf
set_option maxRecDepth 100000 in
set_option maxHeartbeats 1000000 in
theorem walk (a0 : Int) (a1 : Option Addr) (len1 cap1 : Nat) (z1 : List Int) (a2 : ByteArray) (w : World) (_w0 : (Lit.int .i64 a0).wf = true) (w1 : IsRow .u8 w a1 len1 cap1 z1) (w2 : a2.size ≤ maxLen) :
    Calls Try.prog 5 #[.int .i64 a0, .slice a1 len1 cap1, .string a2] w fun e w' => e = .returned (.bool true) ∧ Below w.heap.size w w' := by
  have hal := alive_any w
  obtain ⟨hrow, hwf⟩ := row_of_isRow w1
  have hb := bytes_of hwf
  clear w1
  by_cases h0 : 300 < len1
  · have d0 : decide (300 < len1) = true := by simpa using h0
    go_enter Try.func5, Try.ntmps5
    go_wp2_with (first | (go_at_call 8; (with_reducible refine hal.mono ?_); rintro e w' ⟨rfl, hb⟩))
    go_ret
    exact ⟨rfl, hb⟩
  have d0 : decide (300 < len1) = false := by simpa using h0
  by_cases h1 : 300 < a2.size
  · have d1 : decide (300 < a2.size) = true := by simpa using h1
    go_enter Try.func5, Try.ntmps5
    go_wp2_with (first | (go_at_call 8; (with_reducible refine hal.mono ?_); rintro e w' ⟨rfl, hb⟩))
    go_ret
    exact ⟨rfl, hb⟩
  have d1 : decide (300 < a2.size) = false := by simpa using h1
  have hput := put_any a0
  have hcd : ∀ w, Calls Try.prog 14 #[.string a2] w fun e w' => CdsOf w a2 e w' := fun w => (codes_any a2 w (by omega)).mono fun _ _ h => cdsOf h
  simp only [CdsOf] at hcd
  obtain ⟨htc, hvt⟩ := text_codes a2
  have hva := fun w => valid_any a2 w w2
  have hel := U.end_le a2
  have htx := fun (w : World) (a : Option Addr) (c : Nat) (h : Row w .i64 a (U.codesOf a2).length c (U.codesOf a2)) => text_any a (U.codesOf a2).length c (U.codesOf a2) w h (by
    have h1 : (U.codesOf a2).length ≤ ((U.codesOf a2).flatMap U.put).length := by
      have h2 : ∀ l : List Int, U.okAll l = true → l.length ≤ (l.flatMap U.put).length := by
        intro l
        induction l with
        | nil => simp
        | cons c l ih =>
          intro hc
          rw [U.okAll_cons] at hc
          have := (U.at_of_size c [] hc.1).1
          have := ih hc.2
          simp only [List.flatMap_cons, List.length_append, List.length_cons]; omega
      exact h2 _ (U.codes_parse a2).1.1
    have := (U.codes_parse a2).2
    omega)
  simp only [htc] at htx
  have hvx := fun w => valid_any (a2.extract 0 (U.endOf a2)) w (by simp; unfold maxLen at w2 ⊢; omega)
  rw [hvt] at hvx
  have hdv : U.validS a2 = decide (U.endOf a2 = a2.size) := rfl
  rw [hdv] at hva
  clear htc hvt hdv hwf
  generalize U.codesOf a2 = cs at *
  generalize U.endOf a2 = en at *
  have hee : (((en : Int) == (a2.size : Int)) == decide (en = a2.size)) = true := by
    rw [beq_iff_eq, Bool.eq_iff_iff]; simp; omega
  obtain ⟨i0, hi, hz0, hz1, hz2⟩ := info_parts info_u8
  have hpl := put_le a0
  have hcase : (((U.put a0).length = 0 ∧ decide (0 < (U.put a0).length) = false) ∨ (U.size a0 ≠ 0 ∧ decide (0 < (U.put a0).length) = true)) := by
    by_cases h : U.size a0 = 0
    · left; rcases U.size_cases a0 with ⟨_, hp⟩ | ⟨q, _⟩ | ⟨q, _⟩ | ⟨q, _⟩ | ⟨q, _⟩
      · rw [hp]; simp
      all_goals omega
    · right; have := (U.at_of_size a0 [] h).1; exact ⟨h, by simpa using this⟩
  rcases hcase with ⟨hz, hd⟩ | ⟨hz, hd⟩
  · rw [hz] at hd
    go_enter Try.func5, Try.ntmps5
    go_wp2_with fail
    with_reducible refine hal.mono ?_
    rintro e wa ⟨rfl, hba⟩
    go_wp2_with fail
    with_reducible refine (hput _).mono ?_
    rintro e wz ⟨v, rfl, hown, hbz⟩
    rw [hz] at hown
    obtain ⟨a, c, rfl⟩ : ∃ a c, v = .slice a 0 c := by obtain ⟨a, c, h, _⟩ := row_of_owns hown; exact ⟨a, c, h⟩
    have hbz := hba.trans (hbz.mono hba.size)
    go_wp2_with fail
    clear hown
    have s1 := hbz.size
    with_reducible refine (hcd _).mono ?_
    rintro e wc ⟨v2, rfl, ho2, hbc⟩
    obtain ⟨b2, c2, rfl, hr2⟩ := row_of_owns ho2
    have s2 := hbc.size
    go_wp2_with fail
    with_reducible refine (htx _ _ _ hr2).mono ?_
    rintro e wd ⟨rfl, hbd⟩
    have s3 := hbd.size
    go_wp2_with fail
    with_reducible refine (hvx _).mono ?_
    rintro e we ⟨rfl, hbe⟩
    have s4 := hbe.size
    go_wp2_with fail
    with_reducible refine (hva _).mono ?_
    rintro e wf ⟨rfl, hbf⟩
    go_wp2
    go_ret
    exact ⟨rfl, (((hbz.trans (hbc.mono s1)).trans (hbd.mono (by omega))).trans (hbe.mono (by omega))).trans (hbf.mono (by omega))⟩
  · have hg : getAt (U.put a0 ++ z1.take len1) 0 = (a0, (U.put a0).length) := by
      have h := U.get_put a0 (z1.take len1) hz
      unfold getAt
      rw [if_pos (by have := (U.at_of_size a0 [] hz).1; simp; omega)]
      simpa using h
    have hbb : Bytes (U.put a0 ++ z1.take len1) := fun i => by
      rcases Nat.lt_or_ge i (U.put a0 ++ z1.take len1).length with h | h
      · rw [List.getElem?_eq_getElem h]
        rcases List.mem_append.1 (List.getElem_mem h) with h' | h'
        · exact put_bytes a0 _ h'
        · obtain ⟨j, hj, e⟩ := List.getElem_of_mem h'
          have := hb j
          rw [List.getElem?_eq_getElem hj, e] at this
          exact this
      · rw [List.getElem?_eq_none h]; simp
    have hgt := fun w a n c h => Get_any a n c (U.put a0 ++ z1.take len1) 0 w h hbb (by omega) (by omega)
    rw [hg] at hgt
    clear hg hbb hb
    generalize z1.take len1 = l at *
    generalize U.put a0 = pu at *
    have k1 : (a0 != a0) = false := by simp
    have k2 : ((pu.length : Int) != (pu.length : Int)) = false := by simp
    have hpos : 0 < pu.length := by simpa using hd
    have k3 : decide (0 < pu.length) = true := hd
    have hz0' := Lib.hid hz; clear hz
    go_enter Try.func5, Try.ntmps5
    go_wp2_with fail
    with_reducible refine hal.mono ?_
    rintro e wa ⟨rfl, hba⟩
    go_wp2_with fail
    with_reducible refine (hput _).mono ?_
    rintro e wb ⟨v, rfl, hown, hbb⟩
    obtain ⟨a, c, rfl, hrp⟩ := row_of_owns hown
    have hrb := row_below (row_below hrow hba rfl) hbb rfl
    have ho0 := owns_built wb [] 5 0 rfl (by unfold maxLen; omega)
    have hcp := cells_of_row (row_below hrp ((Below.refl _ wb).alloc (Nat.le_refl _) (.cells #[] 5)) rfl)
    have hb0 : Below wb.heap.size wb (wb.alloc (.cells #[] 5)) := (Below.refl _ wb).alloc (Nat.le_refl _) _
    have hr0 := row_below hrb hb0 rfl
    have hone : ∀ (k : List Int), ∀ u ∈ k.map (Value.int .u8), u.oneCell' = true := fun k u hu => by
      obtain ⟨x, _, rfl⟩ := List.mem_map.1 hu; rfl
    have HO := Lib.hid hone; clear hone
    go_wp2_with (first
      | (at_builtin; refine wpList_append_cells _ rfl _ _ 22 rfl wb.heap.size 5 i0 (.int .u8 0) 1 1 Try.underlying22 hi hz0 hz1 hz2 rfl (by decide) (.slice (some ⟨wb.heap.size, 0, none⟩) 0 0) 0 [] rfl ho0 a pu.length c (pu.map (Value.int .u8)) rfl hcp (HO.out pu) (by unfold maxLen; omega) (by omega) (by simp) ?_; intro v1 w1 hown1 hg1; have hbl1 := below_grown hg1 ho0 (by simp); have hcb := cells_of_row (row_below hrb (hb0.trans hbl1) rfl))
      | (at_builtin; refine wpList_append_cells _ rfl _ _ 22 rfl wb.heap.size 5 i0 (.int .u8 0) 1 1 Try.underlying22 hi hz0 hz1 hz2 rfl (by decide) v1 (0 + pu.length) ([] ++ pu.map (Value.int .u8)) rfl hown1 a1 len1 cap1 (l.map (Value.int .u8)) rfl hcb (HO.out l) (by unfold maxLen; omega) (by omega) (Nat.le_trans hb0.size hbl1.size) ?_; intro v3 w3 hown3 hg3))
    have hbz := ((hba.trans (hbb.mono hba.size)).trans ((hb0.trans hbl1).mono (Nat.le_trans hba.size hbb.size))).trans ((below_grown hg3 hown1 (Nat.le_trans hb0.size hbl1.size)).mono (Nat.le_trans hba.size hbb.size))
    obtain ⟨a3, c3, rfl, hr3⟩ := row_of_owns (k := .u8) (l := pu ++ l) (ownsRow_nth hown3 rfl (by simp))
    with_reducible refine (hgt _ _ _ _ hr3).mono ?_
    rintro e wz ⟨rfl, rfl⟩
    clear hown hown1 hown3 ho0 hcp hcb hrp hrb hr0
    go_wp2_with fail
    have s1 := hbz.size
    with_reducible refine (hcd _).mono ?_
    rintro e wc ⟨v2, rfl, ho2, hbc⟩
    obtain ⟨b2, c2, rfl, hr2⟩ := row_of_owns ho2
    have s2 := hbc.size
    go_wp2_with fail
    with_reducible refine (htx _ _ _ hr2).mono ?_
    rintro e wd ⟨rfl, hbd⟩
    have s3 := hbd.size
    go_wp2_with fail
    with_reducible refine (hvx _).mono ?_
    rintro e we ⟨rfl, hbe⟩
    have s4 := hbe.size
    go_wp2_with fail
    with_reducible refine (hva _).mono ?_
    rintro e wf ⟨rfl, hbf⟩
    go_wp2
    go_ret
    exact ⟨rfl, (((hbz.trans (hbc.mono s1)).trans (hbd.mono (by omega))).trans (hbe.mono (by omega))).trans (hbf.mono (by omega))⟩
end Go.Proofs.Ytjkdmflpfaolaaa.utfBackWalk
