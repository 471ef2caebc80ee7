/- The walk of UtfCodes: every code's bytes, and the code at every place, are the document's. -/
import Derived.Test.YtjkdmflpfaolaaaUtfLaw
namespace Go.Proofs.Ytjkdmflpfaolaaa.utfCodesWalk
open Go.RowKit Go.Shelf
set_option maxRecDepth 100000 in
set_option maxHeartbeats 1000000 in
theorem walk (a0 : Int) (a1 : Option Addr) (len1 cap1 : Nat) (z1 : List Int) (a2 : Int) (w : World) (_w0 : (Lit.int .i64 a0).wf = true) (w1 : IsRow .u8 w a1 len1 cap1 z1) (w2 : (Lit.int .i64 a2).wf = true) :
    Calls Try.prog 3 #[.int .i64 a0, .slice a1 len1 cap1, .int .i64 a2] w fun e w' => e = .returned (.bool true) ∧ Below w.heap.size w w' := by
  have hal := alive_any w
  obtain ⟨hrow, hwf⟩ := row_of_isRow w1
  have hb := bytes_of hwf
  obtain ⟨p0, p1⟩ := wf_i64 w2
  have hlc := hrow.2.1
  have hcm := hrow.2.2.1
  unfold maxLen at hcm
  clear w1 w2 hwf
  by_cases h0 : 500 < len1
  · have d0 : decide (500 < len1) = true := by simpa using h0
    go_enter Try.func3, Try.ntmps3
    go_wp2_with (first | (go_at_call 8; (with_reducible refine hal.mono ?_); rintro e w' ⟨rfl, hb⟩))
    go_ret
    exact ⟨rfl, hb⟩
  have d0 : decide (500 < len1) = false := by simpa using h0
  have hg1 : ∀ w, Row w .u8 a1 len1 cap1 (z1.take len1) → _ := fun w h => Get_any a1 len1 cap1 (z1.take len1) a2 w h hb p0 p1
  have hg2 : ∀ w, Row w .u8 a1 len1 cap1 (z1.take len1) → _ := fun w h => refGet_any a1 len1 cap1 (z1.take len1) a2 w h hb p0 p1
  have hp1 := put_any a0
  have hp2 := refPut_any a0
  generalize z1.take len1 = l at *
  generalize getAt l a2 = g at *
  have k1 : (g.1 == g.1) = true := by simp
  have k2 : ((g.2 : Int) == (g.2 : Int)) = true := by simp
  go_enter Try.func3, Try.ntmps3
  go_wp2_with fail
  with_reducible refine hal.mono ?_
  rintro e wa ⟨rfl, hba⟩
  have hra := row_below hrow hba rfl
  go_wp2_with fail
  with_reducible refine (hg1 _ hra).mono ?_
  rintro e w' ⟨rfl, rfl⟩
  go_wp2_with fail
  with_reducible refine (hg2 _ hra).mono ?_
  rintro e wb ⟨rfl, hbb⟩
  go_wp2_with fail
  with_reducible refine (hp1 _).mono ?_
  rintro e wc ⟨v, rfl, hown, hbc⟩
  obtain ⟨a, cap, rfl, hr1⟩ := row_of_owns hown
  go_wp2_with fail
  with_reducible refine (hp2 _).mono ?_
  rintro e wd ⟨v, rfl, hown2, hbd⟩
  obtain ⟨a', cap', rfl, hr2⟩ := row_of_owns hown2
  go_wp2_with fail
  with_reducible refine (refBytes_any _ _ _ _ _ _ _ _ _ (row_below hr1 hbd rfl) hr2).mono ?_
  rintro e we ⟨rfl, nq, rfl⟩
  have k3 : decide (U.put a0 = U.put a0) = true := by simp
  go_wp2
  go_ret
  have s1 := hba.size
  have s2 := hbb.size
  have s3 := hbc.size
  exact ⟨ret_bool (by simp), below_drewN (((hba.trans (hbb.mono s1)).trans (hbc.mono (by omega))).trans (hbd.mono (by omega))) _⟩
end Go.Proofs.Ytjkdmflpfaolaaa.utfCodesWalk
