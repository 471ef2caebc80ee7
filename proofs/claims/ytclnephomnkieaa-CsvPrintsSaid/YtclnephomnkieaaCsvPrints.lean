/- The walk of CsvPrints: the text of all rows, and every field's, are the document's. -/
import Derived.Test.YtclnephomnkieaaCsvAlive
set_option linter.unusedVariables false
namespace Go.Proofs.Ytclnephomnkieaa
open Go.RowKit Go.Shelf
namespace csvPrintsWalk
set_option maxRecDepth 100000 in
set_option maxHeartbeats 4000000 in
theorem walk (v0 : Value) (L : Rws) (a1 : ByteArray) (w : World) (w0 : SRows w v0 L) (hG : Big L) (hY : BytesR L) (w1 : a1.size ≤ maxLen) :
    Calls Try.prog 4 #[v0, .string a1] w fun e w' => e = .returned (.bool true) ∧ Below w.heap.size w w' := by
  have ha := csvAlive_any w
  have hGr := fun u w hu => refGreat9_any u L w hu hG
  have H0 := Lib.hid w0
  have hv0 : ∃ a c, v0 = .slice a L.length c := by obtain ⟨a, c, h, _⟩ := w0; exact ⟨a, c, h⟩
  obtain ⟨va, vc, rfl⟩ := hv0
  clear w0
  rcases Nat.lt_or_ge 2000 (V.tot L) with hbig | hsm
  · simp only [decide_eq_true hbig] at hGr
    go_enter Try.func4, Try.ntmps4
    go_wp2_with (first
      | (go_at_call 9; (with_reducible refine ha.mono ?_); rintro e w1 ⟨rfl, hB1⟩; have hv1 := srows_below H0.out hB1)
      | (go_at_call 13; (with_reducible refine (hGr _ _ hv1).mono ?_); rintro e w2 ⟨rfl, hB2⟩))
    go_ret
    exact ⟨rfl, hB1.trans (hB2.mono hB1.size)⟩
  simp only [decide_eq_false (show ¬ 2000 < V.tot L by omega)] at hGr
  rcases Nat.lt_or_ge 1000 a1.size with hbig | hs2
  · have d1 : decide ((1000 : Int) < (a1.size : Int)) = true := decide_eq_true (by omega)
    go_enter Try.func4, Try.ntmps4
    go_wp2_with (first
      | (go_at_call 9; (with_reducible refine ha.mono ?_); rintro e w1 ⟨rfl, hB1⟩; have hv1 := srows_below H0.out hB1)
      | (go_at_call 13; (with_reducible refine (hGr _ _ hv1).mono ?_); rintro e w2 ⟨rfl, hB2⟩))
    go_ret
    exact ⟨rfl, hB1.trans (hB2.mono hB1.size)⟩
  have d1 : decide ((1000 : Int) < (a1.size : Int)) = false := decide_eq_false (by omega)
  have hP := fun u w hu => csvPrint_any u L w hu (by omega) hY
  have hR := fun u w hu => refPrint9_any u L w hu (by omega) hY
  have hF := fun w => csvField_any a1 w (by omega)
  have hE := fun w => refField_any a1 w (by omega)
  obtain ⟨t, er, hT⟩ : ∃ t er, V.prt L = (t, er) := ⟨_, _, rfl⟩
  rw [hT] at hP hR
  simp only at hP hR
  obtain ⟨T, hTe⟩ : ∃ T, strOfNums t = T := ⟨_, rfl⟩
  obtain ⟨F, hFe⟩ : ∃ F, strOfNums (V.ftext (strB a1)) = F := ⟨_, rfl⟩
  rw [hTe] at hP hR
  rw [hFe] at hF hE
  clear hT hTe hFe
  go_enter Try.func4, Try.ntmps4
  go_wp2_with (first
    | (go_at_call 9; (with_reducible refine ha.mono ?_); rintro e w1 ⟨rfl, hB1⟩; have hv1 := srows_below H0.out hB1)
    | (go_at_call 13; (with_reducible refine (hGr _ _ hv1).mono ?_); rintro e w2 ⟨rfl, hB2⟩; have hv2 := srows_below hv1 hB2)
    | (go_at_call 14; (with_reducible refine (hP _ _ hv2).mono ?_); rintro e w3 ⟨rfl, hB3⟩; have hv3 := srows_below hv2 hB3)
    | (go_at_call 15; (with_reducible refine (hR _ _ hv3).mono ?_); rintro e w4 ⟨rfl, hB4⟩)
    | (go_at_call 16; (with_reducible refine (hF _).mono ?_); rintro e w5 ⟨rfl, hB5⟩)
    | (go_at_call 17; (with_reducible refine (hE _).mono ?_); rintro e w6 ⟨rfl, hB6⟩))
  go_ret
  have h2 := hB1.trans (hB2.mono hB1.size)
  have h3 := h2.trans (hB3.mono h2.size)
  have h4 := h3.trans (hB4.mono h3.size)
  have h5 := h4.trans (hB5.mono h4.size)
  exact ⟨rfl, h5.trans (hB6.mono h5.size)⟩
end csvPrintsWalk
end Go.Proofs.Ytclnephomnkieaa
