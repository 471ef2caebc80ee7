/- Proved: the statement VtextParses: the value of every text, or where it is wrong, is the document's; for every input, without any condition. (Out of its walk: the frame alone, the arguments are opened, and shut again as they were.) -/
import Derived.Test.YtfapoicnkdallaaMh49Vtex
import Derived.ProofKit
import Derived.OpenShut
import Derived.ShutString
import Derived.ChangeOld
import Derived.Below
set_option linter.unusedVariables false
set_option linter.unusedSimpArgs false
set_option maxRecDepth 100000
namespace Go.Proofs.Ytfapoicnkdallaa
open Go.RowKit Go.Shelf
set_option maxRecDepth 100000 in
set_option maxHeartbeats 2000000 in
theorem refParse14_any (s : ByteArray) (hsm : s.size ≤ 1000000) (w : World) : Calls Try.prog 13 #[.string s] w (ScR (Vt.parse (strB s)) w) := by
  have hz0 : VAt (w.alloc (.cells vzero 25)) w.heap.size vzero := vat_alloc w vzero
  have hA1 := (Below.refl _ w).alloc (Nat.le_refl _) (.cells vzero 25)
  have hS := refScan14_any s 0 hsm (w.alloc (.cells vzero 25))
  unfold Vt.parse
  rw [strB_len]
  obtain ⟨⟨tv, tx, te⟩, hT⟩ : ∃ T, Vt.scan (strB s) 0 = T := ⟨_, rfl⟩
  rw [hT] at hS ⊢
  simp only
  clear hT
  by_cases h0 : te = 0
  · have d1 : (te == 0) = true := by simpa using h0
    by_cases h1 : tx < s.size
    · rw [if_pos ⟨h0, h1⟩]
      have d2 : decide (tx < (s.size : Int)) = true := by simpa using h1
      have H0 := Lib.hid h0; clear h0
      go_enter Try.func13, Try.ntmps13
      go_wp2_with (go_at_call 10; (with_reducible refine hS.mono ?_); rintro e w2 ⟨v0, v1, v2, a9, len9, cap9, rfl, hF, hB2⟩; have hA4 := (Below.refl _ w2).alloc (Nat.le_refl _) (.cells #[.int .i64 v0, .int .i64 v1, .string v2, .slice a9 len9 cap9] 25); have hz3 := vat_below hA4 (vat_below hB2 hz0); have hv3 := vat_alloc w2 #[.int .i64 v0, .int .i64 v1, .string v2, .slice a9 len9 cap9]; obtain ⟨⟨y0, y1, y2, y3⟩, x0, x1, x2, x3⟩ := box4 hz3; obtain ⟨⟨n0, n1, n2, n3⟩, _⟩ := box4 hv3)
      refine bodyPost_ret (vresults_row_tmp2 Try.results13 _ _ w.heap.size 25 _ _ _ rfl (vat_set4 hz3 _ _ _ _) Try.underlying25 rfl val4) rfl ?_
      exact vparse_end (v := .mk 0 0 ⟨#[]⟩ []) hA1 hB2 hA4 (fresh_none _ _)
    · rw [if_neg (fun h => h1 h.2)]
      have d2 : decide (tx < (s.size : Int)) = false := by simpa using h1
      have H0 := Lib.hid h0; clear h0
      go_enter Try.func13, Try.ntmps13
      go_wp2_with (go_at_call 10; (with_reducible refine hS.mono ?_); rintro e w2 ⟨v0, v1, v2, a9, len9, cap9, rfl, hF, hB2⟩; have hA4 := (Below.refl _ w2).alloc (Nat.le_refl _) (.cells #[.int .i64 v0, .int .i64 v1, .string v2, .slice a9 len9 cap9] 25); have hz3 := vat_below hA4 (vat_below hB2 hz0); have hv3 := vat_alloc w2 #[.int .i64 v0, .int .i64 v1, .string v2, .slice a9 len9 cap9]; obtain ⟨⟨y0, y1, y2, y3⟩, x0, x1, x2, x3⟩ := box4 hz3; obtain ⟨⟨n0, n1, n2, n3⟩, _⟩ := box4 hv3)
      refine bodyPost_ret (vresults_row_tmp2 Try.results13 _ _ w.heap.size 25 _ _ _ rfl (vat_set4 hz3 _ _ _ _) Try.underlying25 rfl val4) rfl ?_
      exact vparse_end hA1 hB2 hA4 (fresh_mono hF (by simp))
  · rw [if_neg (fun h => h0 h.1)]
    have d1 : (te == 0) = false := by simpa using h0
    go_enter Try.func13, Try.ntmps13
    go_wp2_with (go_at_call 10; (with_reducible refine hS.mono ?_); rintro e w2 ⟨v0, v1, v2, a9, len9, cap9, rfl, hF, hB2⟩; have hA4 := (Below.refl _ w2).alloc (Nat.le_refl _) (.cells #[.int .i64 v0, .int .i64 v1, .string v2, .slice a9 len9 cap9] 25); have hz3 := vat_below hA4 (vat_below hB2 hz0); have hv3 := vat_alloc w2 #[.int .i64 v0, .int .i64 v1, .string v2, .slice a9 len9 cap9]; obtain ⟨⟨y0, y1, y2, y3⟩, x0, x1, x2, x3⟩ := box4 hz3; obtain ⟨⟨n0, n1, n2, n3⟩, _⟩ := box4 hv3)
    refine bodyPost_ret (vresults_row_tmp2 Try.results13 _ _ w.heap.size 25 _ _ _ rfl (vat_set4 hz3 _ _ _ _) Try.underlying25 rfl val4) rfl ?_
    exact vparse_end hA1 hB2 hA4 (fresh_mono hF (by simp))
end Go.Proofs.Ytfapoicnkdallaa

/- The walk of VtextParses: the value of every text, or where it is wrong, is the document's. -/
set_option linter.unusedVariables false
set_option linter.unusedSimpArgs false
set_option maxRecDepth 100000
namespace Go.Proofs.Ytfapoicnkdallaa.vtextParsesWalk
open Go.RowKit Go.Shelf
set_option maxHeartbeats 4000000 in
theorem walk (s : ByteArray) (w : World) (_w0 : s.size ≤ maxLen) :
    Calls Try.prog 4 #[.string s] w fun e w' => e = .returned (.bool true) ∧ Below w.heap.size w w' := by
  have hAl := fun w => vtAlive_any w
  by_cases h500 : s.size ≤ 500
  · have d1 : decide ((500 : Int) < (s.size : Int)) = false := by simp; omega
    have hS := fun W => vparse_any s (by omega) W
    have hR := fun W => refParse14_any s (by omega) W
    obtain ⟨⟨tv, tx, te⟩, hT⟩ : ∃ T, Vt.parse (strB s) = T := ⟨_, rfl⟩
    simp only [hT] at hS hR
    clear hT
    have hSm := fun w x y hi hi' => refSame_any tv tv w x y hi hi'
    have hb : (cmpV tv tv == 0) = true := (same_bool tv tv).2 rfl
    simp only [hb] at hSm
    go_enter Try.func4, Try.ntmps4
    go_wp2_with (first
      | (go_at_call 8; (with_reducible refine (hAl _).mono ?_); rintro e w1 ⟨rfl, hB1⟩)
      | (go_at_call 12; (with_reducible refine (hS _).mono ?_); rintro e w2 ⟨d0, d1, d2, a2, len2, cap2, rfl, hF2, hB2⟩)
      | (go_at_call 13; (with_reducible refine (hR _).mono ?_); rintro e w3 ⟨v0, v1, v2, a3, len3, cap3, rfl, hF3, hB3⟩;
          have k1 := (Below.refl _ w2).alloc (Nat.le_refl _) (.cells #[.int .i64 d0, .int .i64 d1, .string d2, .slice a2 len2 cap2] 25);
          have k2 := hB3.trans (((Below.refl _ w3).alloc (Nat.le_refl _) (.cells #[.int .i64 v0, .int .i64 v1, .string v2, .slice a3 len3 cap3] 25)).mono hB3.size);
          have k3 := k1.trans (k2.mono k1.size);
          obtain ⟨⟨y0, y1, y2, y3⟩, _⟩ := box4 (vat_below k2 (vat_alloc w2 _));
          have hI2 := is_below k3 _ _ (fresh_is hF2);
          have hI3 := is_below ((Below.refl _ w3).alloc (Nat.le_refl _) (.cells #[.int .i64 v0, .int .i64 v1, .string v2, .slice a3 len3 cap3] 25)) _ _ (fresh_is hF3))
      | (go_at_call 11; (with_reducible refine (hSm _ _ _ hI2 hI3).mono ?_); rintro e w4 ⟨rfl, hB4⟩))
    go_ret
    exact ⟨rfl, hB1.trans ((hB2.trans ((k3.trans (hB4.mono k3.size)).mono hB2.size)).mono hB1.size)⟩
  · have d1 : decide ((500 : Int) < (s.size : Int)) = true := by simp; omega
    go_enter Try.func4, Try.ntmps4
    go_wp2_with (go_at_call 8; (with_reducible refine (hAl _).mono ?_); rintro e w1 ⟨rfl, hB1⟩)
    go_ret
    exact ⟨rfl, hB1⟩
end Go.Proofs.Ytfapoicnkdallaa.vtextParsesWalk

/- Proved: the statement VtextParses: the value of every text, or where it is wrong, is the document's; for every input, without any condition. (Out of its walk: the frame alone, the arguments are opened, and shut again as they were.) -/
namespace Go.Proofs.Ytfapoicnkdallaa.vtextParsesSaid
open Go.ChangeShapes Go.WideShapes Go.ChangeAt Go.RowKit
open Go.ChangeMaps (open_string shut_string)
set_option linter.unusedVariables false

theorem own : ownKnob Try.prog.godebug = none := by kernel_rfl
theorem laidOut : laidOutB Try.prog = true := by kernel_rfl

set_option maxRecDepth 100000 in
theorem lifted (os : Os) (started : os.Started) (H : Type) (enc : TypeId × Value → H) :
    ReturnsInHanded {} Try.checked os 4 .any (Rows.vtextParsesSpec.pre6 enc Try.prog Try.f4 Rows.vtextParsesRow.domain false) (Rows.vtextParsesSpec.post enc Try.prog Try.f4 false true false false) := by
  refine returnsInHanded_of_change (C := Try.checked) own started (by kernel_rfl) Try.func4
    (ChangeSpec.witness6 (enc := enc) (C := Try.checked) false ⟨#[], #[.string ByteArray.empty], []⟩ 8 (by kernel_rfl) (by kernel_rfl) (by kernel_rfl) (by kernel_rfl)) ?_
  intro W base args ds gs before hval0 hW hcnd _
  have hval : ∀ (j : Nat) t v, Try.f4.params[j]? = some t → args[j]? = some v → Value.okWide Try.prog W .any base t v := hval0
  have hW' := hW
  obtain ⟨p, q, hA0, hV, rfl, hfz, hnd⟩ := hW
  have hA : DataW.TrodAll enc Try.prog W 0 (fun _ => true) true Try.f4.params.toList args.toList ds p := hA0
  rw [Try.params4] at hA hval
  obtain ⟨v0, vs0, d0, ds0, p0, q0, hargs, rfl, rfl, h0, r0⟩ := trodAll_cons hA
  obtain ⟨rfl, rfl, rfl⟩ := trodAll_nil r0
  obtain rfl : args = #[v0] := by cases args; simp_all
  obtain ⟨rfl, rfl⟩ := trodVars_none hV
  obtain ⟨a0, rfl, rfl, rfl, w0⟩ := open_string Try.underlying9 (hval 0 9 v0 rfl rfl) h0
  clear hA0 hval0
  refine (vtextParsesWalk.walk a0 W w0).mono fun e W' ⟨he, bel⟩ => ?_
  subst he
  exact ⟨_, rfl, _, _, _, [], _, [], hW', trodAll_mk1 (shut_bool Try.underlying4 _), (trodAll_cons_mk (shut_string Try.underlying9 w0) trodAll_mk0), rfl, bel.frame _, fun h => by cases h⟩

theorem over : Rows.vtextParsesRow.holds Try.pinned (OpenSpec.ofChange Rows.vtextParsesSpec) :=
  OpenClaim.holds_of_wide 4 Try.f4 rfl rfl rfl rfl rfl rfl rfl ⟨rfl, rfl, rfl, rfl, rfl⟩ rfl rfl rfl rfl rfl (by kernel_rfl) Try.func4 (by kernel_rfl)
    (of_decide_eq_true (by kernel_rfl)) (by unfold Func.isWrapper; first | (rw [if_pos (by decide +kernel)]; kernel_rfl) | (rw [if_neg (by decide +kernel)]; exact ⟨rfl, rfl⟩))
    (fun os started H enc _ => lifted os started H enc)

theorem proved : Rows.VtextParsesSaid := over
end Go.Proofs.Ytfapoicnkdallaa.vtextParsesSaid
