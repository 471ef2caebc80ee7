/- The walk of UtfTexts: whether a text is valid, its codes, how many they are, and the text of codes, are the document's. -/
import Derived.Test.YtjkdmflpfaolaaaUtfLaw
namespace Go.Proofs.Ytjkdmflpfaolaaa.utfTextsWalk
open Go.RowKit Go.Shelf
set_option maxRecDepth 100000 in
set_option maxHeartbeats 1000000 in
theorem walk (a0 : ByteArray) (a1 : Option Addr) (len1 cap1 : Nat) (z1 : List Int) (w : World) (w0 : a0.size ≤ maxLen) (w1 : IsRow .i64 w a1 len1 cap1 z1) :
    Calls Try.prog 4 #[.string a0, .slice a1 len1 cap1] w fun e w' => e = .returned (.bool true) ∧ Below w.heap.size w w' := by
  have hal := alive_any w
  obtain ⟨hrow, _⟩ := row_of_isRow w1
  clear w1
  by_cases h0 : 500 < a0.size
  · have d0 : decide (500 < a0.size) = true := by simpa using h0
    go_enter Try.func4, Try.ntmps4
    go_wp2_with (first | (go_at_call 8; (with_reducible refine hal.mono ?_); rintro e w' ⟨rfl, hb⟩))
    go_ret
    exact ⟨rfl, hb⟩
  have d0 : decide (500 < a0.size) = false := by simpa using h0
  by_cases h1 : 300 < len1
  · have d1 : decide (300 < len1) = true := by simpa using h1
    go_enter Try.func4, Try.ntmps4
    go_wp2_with (first | (go_at_call 8; (with_reducible refine hal.mono ?_); rintro e w' ⟨rfl, hb⟩))
    go_ret
    exact ⟨rfl, hb⟩
  have d1 : decide (300 < len1) = false := by simpa using h1
  have hcd : ∀ w, Calls Try.prog 14 #[.string a0] w fun e w' => CdsOf w a0 e w' := fun w => (codes_any a0 w (by omega)).mono fun _ _ h => cdsOf h
  have hcr : ∀ w, Calls Try.prog 15 #[.string a0] w fun e w' => CdsOf w a0 e w' := fun w => (refCodes_any a0 w (by omega)).mono fun _ _ h => cdsOf h
  have htx := fun w h => text_any a1 len1 cap1 (z1.take len1) w h (by omega)
  have htr := fun w h => refText_any a1 len1 cap1 (z1.take len1) w h (by omega)
  have hcn := fun w => count_any a0 w w0
  have hva := fun w => valid_any a0 w w0
  have hel := U.end_le a0
  have hcv : (U.validS a0 = true ∧ U.endOf a0 = a0.size ∧ U.countS a0 = ((U.codesOf a0).length : Int)) ∨ (U.validS a0 = false ∧ U.endOf a0 < a0.size ∧ U.countS a0 = -1) := by
    have h : U.validS a0 = decide (U.endOf a0 = a0.size) := rfl
    rw [U.count_eq]
    by_cases hv : U.endOf a0 = a0.size
    · left; rw [h]; simp [hv]
    · right; rw [h]; simp [hv]; omega
  simp only [CdsOf] at hcd hcr
  have hii : decide (U.codesOf a0 = U.codesOf a0) = true := by simp
  generalize U.codesOf a0 = cs at *
  generalize U.endOf a0 = en at *
  generalize U.countS a0 = cn at *
  generalize U.validS a0 = va at *
  generalize U.text (z1.take len1) = tx at *
  generalize z1.take len1 = l at *
  have hcase : (va = true ∧ ((en : Int) == (a0.size : Int)) = true ∧ cn = (cs.length : Int)) ∨ (va = false ∧ ((en : Int) == (a0.size : Int)) = false ∧ cn = -1) := by
    rcases hcv with ⟨h1, h2, h3⟩ | ⟨h1, h2, h3⟩
    · left; exact ⟨h1, by simp [h2], h3⟩
    · right; exact ⟨h1, by simp; omega, h3⟩
  clear hcv
  rcases hcase with ⟨rfl, f1, rfl⟩ | ⟨rfl, f1, rfl⟩
  all_goals
    go_enter Try.func4, Try.ntmps4
    go_wp2_with fail
    with_reducible refine hal.mono ?_
    rintro e wa ⟨rfl, hba⟩
    go_wp2_with fail
    with_reducible refine (hcd _).mono ?_
    rintro e wb ⟨v1, rfl, ho1, hbb⟩
    obtain ⟨b1, k1, rfl, hr1⟩ := row_of_owns ho1
    go_wp2_with fail
    with_reducible refine (hcr _).mono ?_
    rintro e wc ⟨v2, rfl, ho2, hbc⟩
    obtain ⟨b2, k2, rfl, hr2⟩ := row_of_owns ho2
    have hr1 := row_below hr1 hbc rfl
    have s1 := hba.size
    have s2 := hbb.size
    have s3 := hbc.size
    have hbl := (hba.trans (hbb.mono s1)).trans (hbc.mono (Nat.le_trans s1 s2))
    clear ho1 ho2
    go_wp2_with fail
    with_reducible refine (htx _ (row_below hrow hbl rfl)).mono ?_
    rintro e wd ⟨rfl, hbd⟩
    have hbl2 := hbl.trans (hbd.mono (by omega))
    go_wp2_with fail
    with_reducible refine (htr _ (row_below hrow hbl2 rfl)).mono ?_
    rintro e we ⟨rfl, hbe⟩
    have s4 := hbd.size
    go_wp2_with fail
    with_reducible refine (refInts_any _ _ _ _ _ _ _ _ _ (row_below (row_below hr1 hbd rfl) hbe rfl) (row_below (row_below hr2 hbd rfl) hbe rfl)).mono ?_
    rintro e wf ⟨rfl, nq, rfl⟩
    have s5 := hbe.size
    have hbl3 := below_drewN (hbl2.trans (hbe.mono (by omega))) nq
    generalize we.drewN nq = wz at *
    have s6 := hbl3.size
    go_wp2_with fail
    with_reducible refine (hcn _).mono ?_
    rintro e wg ⟨rfl, hbg⟩
    have s7 := hbg.size
    go_wp2_with fail
    with_reducible refine (hva _).mono ?_
    rintro e wh ⟨rfl, hbh⟩
    go_wp2
    go_ret
    have s8 := hbg.size
    exact ⟨ret_bool (by simp), (hbl3.trans (hbg.mono s6)).trans (hbh.mono (by omega))⟩
end Go.Proofs.Ytjkdmflpfaolaaa.utfTextsWalk
