/- Layer 15: fields: bareKind, read, ToField, OfField. -/
import Derived.Test.YtcicjpdjbfgbhaaDoorMh18Cell
import Derived.Test.YtcicjpdjbfgbhaaDoorMh36Cell
import Derived.Test.YtcicjpdjbfgbhaaDoorMh37Cell
import Derived.Test.YtcicjpdjbfgbhaaDoorMh35Cell
import Derived.Test.YtcicjpdjbfgbhaaDoorMh12Cell
set_option linter.unusedVariables false
set_option linter.unusedSimpArgs false
set_option maxRecDepth 100000
namespace Go.Proofs.YtcicjpdjbfgbhaaDoor
open Go.RowKit Go.Shelf
theorem ca7 (w : World) (cs : Array Value) : CA (w.alloc (.cells cs 39)) w.heap.size 39 cs := ca_alloc w _ cs
theorem sbox7 {W : World} {b : Nat} {t : TypeId} {c0 c1 c2 c3 c4 c5 c6 : Value} (h : CA W b t #[c0, c1, c2, c3, c4, c5, c6]) : W.cell? ⟨b, 0, none⟩ = some c0 ∧ W.cell? ⟨b, 1, none⟩ = some c1 ∧ W.cell? ⟨b, 2, none⟩ = some c2 ∧ W.cell? ⟨b, 3, none⟩ = some c3 ∧ W.cell? ⟨b, 4, none⟩ = some c4 ∧ W.cell? ⟨b, 5, none⟩ = some c5 ∧ W.cell? ⟨b, 6, none⟩ = some c6 :=
  ⟨ca_cell h 0 _ rfl, ca_cell h 1 _ rfl, ca_cell h 2 _ rfl, ca_cell h 3 _ rfl, ca_cell h 4 _ rfl, ca_cell h 5 _ rfl, ca_cell h 6 _ rfl⟩
theorem bare_at0 (W : World) : (Instr.index 78 (.agg #[.int .i64 3, .int .i64 4]) (.int .i64 0)).run Tryd.prog W = .ok (.int .i64 3) W := by kernel_rfl
theorem bare_at1 (W : World) : (Instr.index 78 (.agg #[.int .i64 3, .int .i64 4]) (.int .i64 1)).run Tryd.prog W = .ok (.int .i64 4) W := by kernel_rfl
/-- the kind that a slot takes alone -/
def bareK (ty : Int) : Int := if ty = 8 then 3 else if ty = 16 then 4 else 0
set_option maxHeartbeats 4000000 in
theorem bareKind_any (nm t0 : ByteArray) (ty : Int) (rq : Bool) (k0 n0 : Int) (a0 : Option Addr) (len0 cap0 : Nat) (w : World) (hB : BareAt w) :
    Calls Tryd.prog 29 #[.agg #[.string nm, .int .i64 ty, .bool rq, .int .i64 k0, .int .i64 n0, .string t0, .slice a0 len0 cap0]] w fun e w' => e = .returned (.tuple #[.int .i64 (bareK ty), .bool (bareT ty)]) ∧ Below w.heap.size w w' := by
  have hA1 := (Below.refl _ w).alloc (Nat.le_refl _) (.cells #[.string nm, .int .i64 ty, .bool rq, .int .i64 k0, .int .i64 n0, .string t0, .slice a0 len0 cap0] 39)
  obtain ⟨b0, b1⟩ := bare_below hB hA1
  obtain ⟨x0, x1, x2, x3, x4, x5, x6⟩ := sbox7 (ca7 w #[.string nm, .int .i64 ty, .bool rq, .int .i64 k0, .int .i64 n0, .string t0, .slice a0 len0 cap0])
  clear hB
  have ix0 := bare_at0
  have ix1 := bare_at1
  go_enter Tryd.func29, Tryd.ntmps29
  go_wp2_with fail
  go_loopw [5, 7] (fun _ i wr => ∃ q : Nat, i = .int .i64 (q : Int) ∧ q ≤ 2 ∧ Below w.heap.size w wr ∧ (wr.cell? ⟨w.heap.size, 1, none⟩ = some (.int .i64 ty)) ∧ (1 ≤ q → ty ≠ 8) ∧ (2 ≤ q → ty ≠ 16)) (fun _ i _ => 2 - (intOf i).toNat)
  case atStart => exact ⟨0, rfl, by omega, hA1, x1, by omega, by omega⟩
  case round =>
    obtain ⟨q, rfl, hq, hBr, hx1, h1, h2⟩ := hrel
    clear x0 x1 x2 x3 x4 x5 x6 b0 b1 hA1
    match q, hq with
    | 0, _ =>
      by_cases ht : ty = 8
      · subst ht
        go_wp2_with fail
        go_region
        all_goals go_wp2
        all_goals (
          refine bodyPost_ret (results_tmp2 rfl _ _ _) rfl ?_
          exact ⟨rfl, by first | exact hBr | exact hBr.drew⟩)
      · have d1 : (ty == 8) = false := by simpa using ht
        go_wp2_with fail
        go_region
        all_goals go_wp2
        all_goals (
          go_roundw
          case rel => exact ⟨1, rfl, by omega, by first | exact hBr | exact hBr.drew, hx1, fun _ => ht, by omega⟩
          case measure => simp [intOf])
    | 1, _ =>
      by_cases ht : ty = 16
      · subst ht
        go_wp2_with fail
        go_region
        all_goals go_wp2
        all_goals (
          refine bodyPost_ret (results_tmp2 rfl _ _ _) rfl ?_
          exact ⟨rfl, by first | exact hBr | exact hBr.drew⟩)
      · have d1 : (ty == 16) = false := by simpa using ht
        go_wp2_with fail
        go_region
        all_goals go_wp2
        all_goals (
          go_roundw
          case rel => exact ⟨2, rfl, by omega, by first | exact hBr | exact hBr.drew, hx1, fun _ => h1 (by omega), fun _ => ht⟩
          case measure => simp [intOf])
    | 2, _ =>
      have e8 := h1 (by omega)
      have e16 := h2 (by omega)
      go_wp2_with fail
      refine bodyPost_ret (results_tmp2 rfl _ _ _) rfl ?_
      refine ⟨?_, hBr⟩
      unfold bareK bareT
      rw [if_neg e8, if_neg e16]
      simp [e8, e16]
/-- what read comes to -/
def SayC (ty : Int) (s : ByteArray) (w : World) (e : Ending) (w' : World) : Prop := ∃ k n t a len cap, e = .returned (.tuple #[.agg #[.int .i64 k, .int .i64 n, .string t, .slice a len cap], .int .i64 (sayT ty s).2]) ∧ Below w.heap.size w w' ∧ FreshC Is w.heap.size w' (sayT ty s).1 (.agg #[.int .i64 k, .int .i64 n, .string t, .slice a len cap])
theorem bare_fresh {B : Nat} {W : World} {k : Int} {s : ByteArray} (hk : I64 k) (hs : s.size ≤ maxLen) : FreshC Is B W (.mk k 0 s []) (.agg #[.int .i64 k, .int .i64 0, .string s, .slice none 0 0]) := fun W' _ => by
  unfold Is
  exact ⟨hk, by unfold I64; omega, hs, none, 0, rfl, Nat.le_refl _, by unfold maxLen; omega, .inl rfl⟩
theorem bareK_of {ty : Int} (h : bareT ty = true) : bareK ty = if ty = 16 then 4 else 3 := by
  simp only [bareT, Bool.or_eq_true, decide_eq_true_eq] at h
  rcases h with rfl | rfl <;> decide
set_option maxHeartbeats 4000000 in
theorem readF_any (nm t0 : ByteArray) (ty : Int) (rq : Bool) (k0 n0 : Int) (a0 : Option Addr) (len0 cap0 : Nat) (s : ByteArray) (hs : s.size ≤ 1000000) (w : World) (hB : BareAt w) :
    Calls Tryd.prog 33 #[.agg #[.string nm, .int .i64 ty, .bool rq, .int .i64 k0, .int .i64 n0, .string t0, .slice a0 len0 cap0], .string s] w (SayC ty s w) := by
  have hA1 := (Below.refl _ w).alloc (Nat.le_refl _) (.cells #[.string nm, .int .i64 ty, .bool rq, .int .i64 k0, .int .i64 n0, .string t0, .slice a0 len0 cap0] 39)
  have hA2 := hA1.alloc hA1.size (.cells vzero 24)
  have hz2 := vat_alloc (w.alloc (.cells #[.string nm, .int .i64 ty, .bool rq, .int .i64 k0, .int .i64 n0, .string t0, .slice a0 len0 cap0] 39)) vzero
  rw [World.size_alloc] at hz2
  obtain ⟨x0, x1, x2, x3, x4, x5, x6⟩ := sbox7 (ca_below (ca7 w #[.string nm, .int .i64 ty, .bool rq, .int .i64 k0, .int .i64 n0, .string t0, .slice a0 len0 cap0]) ((Below.refl _ _).alloc (Nat.le_refl _) (.cells vzero 24)))
  have HBK := Lib.hid (fun W hW => bareKind_any nm t0 ty rq k0 n0 a0 len0 cap0 W hW)
  have hP := fun W => vparse_any s hs W
  have hcl := fun W => clone_any s W (by omega)
  have hm : s.size ≤ maxLen := by unfold maxLen; omega
  unfold SayC sayT
  cases hb : bareT ty with
  | false =>
    rw [hb] at HBK
    simp only [Bool.false_eq_true, if_false]
    obtain ⟨⟨pv, px, pe⟩, hT⟩ : ∃ T, Vt.parse (strB s) = T := ⟨_, rfl⟩
    rw [hT] at hP ⊢
    generalize bareK ty = bk at *
    clear hT hcl
    go_enter Tryd.func33, Tryd.ntmps33
    go_wp2_with (first
      | (go_at_call 29; (with_reducible refine (HBK.out _ (bare_below hB hA2)).mono ?_); rintro e w3 ⟨rfl, hb3⟩; have hA3 := hA2.trans (hb3.mono hA2.size); have hz3 := vat_below hb3 hz2)
      | (go_at_call 58; (with_reducible refine (hP _).mono ?_); rintro e w4 ⟨d0, d1, d2, d3, d4, d5, rfl, hF4, hb4⟩; have hA4 := hA3.trans (hb4.mono hA3.size); have hA5 := hA4.alloc hA4.size (.cells #[.int .i64 d0, .int .i64 d1, .string d2, .slice d3 d4 d5] 24); have hB5 := (Below.refl _ w4).alloc (Nat.le_refl _) (.cells #[.int .i64 d0, .int .i64 d1, .string d2, .slice d3 d4 d5] 24); have hz5 := vat_below hB5 (vat_below hb4 hz3); have hv5 := vat_alloc w4 #[.int .i64 d0, .int .i64 d1, .string d2, .slice d3 d4 d5]; obtain ⟨⟨v0, v1, v2, v3⟩, -⟩ := box4 hv5; obtain ⟨⟨r0, r1, r2, r3⟩, t0', t1', t2', t3'⟩ := box4 hz5))
    have hs3 := hA3.size
    have hs2 := hb3.size
    simp only [World.size_alloc] at hs2
    refine bodyPost_ret (results_cell_tmp15 Tryd.results33 _ _ (w.heap.size + 1) _ _ _ _ rfl (vat_set4 hz5 _ _ _ _) Tryd.underlying24 rfl val_size15) rfl ⟨_, _, _, _, _, _, rfl, below_set4 hA5 (by omega) _ _ _ _ _ _ _ _, freshC_mono (freshC_later hF4 (by simp) fun b b1 b2 => ?_) hs3⟩
    rw [Below.heap_setCell _ _ _ b (by show b ≠ w.heap.size + 1; omega), Below.heap_setCell _ _ _ b (by show b ≠ w.heap.size + 1; omega), Below.heap_setCell _ _ _ b (by show b ≠ w.heap.size + 1; omega), Below.heap_setCell _ _ _ b (by show b ≠ w.heap.size + 1; omega)]
    exact hB5.block b b2
  | true =>
    rw [hb, bareK_of hb] at HBK
    simp only [if_true]
    clear hP
    by_cases h16 : ty = 16
    · subst h16
      have hR := fun W hi => right_any (bareV 16 s) (by unfold bareV szV szL; omega) W (.agg #[.int .i64 4, .int .i64 0, .string s, .slice none 0 0]) hi
      have hI : ∀ W, Is W (bareV 16 s) (.agg #[.int .i64 4, .int .i64 0, .string s, .slice none 0 0]) := fun W => bare_fresh (B := W.heap.size) (W := W) (by unfold I64; omega) hm W (fun _ _ _ => rfl)
      simp only [if_true] at HBK
      cases hr : rightV (bareV 16 s) with
      | false =>
        rw [hr] at hR
        simp only [and_self, if_true]
        go_enter Tryd.func33, Tryd.ntmps33
        go_wp2_with (first
          | (go_at_call 29; (with_reducible refine (HBK.out _ (bare_below hB hA2)).mono ?_); rintro e w3 ⟨rfl, hb3⟩; have hA3 := hA2.trans (hb3.mono hA2.size); have hz3 := vat_below hb3 hz2)
          | (go_at_call 30; (with_reducible refine (hcl _).mono ?_); rintro e w4 ⟨rfl, hb4⟩; have hA4 := hA3.trans (hb4.mono hA3.size); have hA5 := hA4.alloc hA4.size (.cells #[.int .i64 4, .int .i64 0, .string s, .slice none 0 0] 24); have hB5 := (Below.refl _ w4).alloc (Nat.le_refl _) (.cells #[.int .i64 4, .int .i64 0, .string s, .slice none 0 0] 24); have hz5 := vat_below hB5 (vat_below hb4 hz3); obtain ⟨⟨v0, v1, v2, v3⟩, -⟩ := box4 (vat_alloc w4 #[.int .i64 4, .int .i64 0, .string s, .slice none 0 0]))
          | (go_at_call 6; (with_reducible refine (hR _ (hI _)).mono ?_); rintro e w6 ⟨rfl, hb6⟩; have hz6 := vat_below hb6 hz5; obtain ⟨⟨r0, r1, r2, r3⟩, t0', t1', t2', t3'⟩ := box4 hz6))
        exact bodyPost_ret (results_cell_tmp15 Tryd.results33 _ _ (w.heap.size + 1) _ _ _ _ rfl (vat_set4 hz6 _ _ _ _) Tryd.underlying24 rfl val_size15) rfl ⟨_, _, _, _, _, _, rfl, below_set4 (hA5.trans (hb6.mono hA5.size)) (by omega) _ _ _ _ _ _ _ _, fresh_none _ _⟩
      | true =>
        rw [hr] at hR
        simp only [and_false, Bool.true_eq_false, if_false]
        go_enter Tryd.func33, Tryd.ntmps33
        go_wp2_with (first
          | (go_at_call 29; (with_reducible refine (HBK.out _ (bare_below hB hA2)).mono ?_); rintro e w3 ⟨rfl, hb3⟩; have hA3 := hA2.trans (hb3.mono hA2.size); have hz3 := vat_below hb3 hz2)
          | (go_at_call 30; (with_reducible refine (hcl _).mono ?_); rintro e w4 ⟨rfl, hb4⟩; have hA4 := hA3.trans (hb4.mono hA3.size); have hA5 := hA4.alloc hA4.size (.cells #[.int .i64 4, .int .i64 0, .string s, .slice none 0 0] 24); have hB5 := (Below.refl _ w4).alloc (Nat.le_refl _) (.cells #[.int .i64 4, .int .i64 0, .string s, .slice none 0 0] 24); have hz5 := vat_below hB5 (vat_below hb4 hz3); have hv5 := vat_alloc w4 #[.int .i64 4, .int .i64 0, .string s, .slice none 0 0]; obtain ⟨⟨v0, v1, v2, v3⟩, -⟩ := box4 hv5)
          | (go_at_call 6; (with_reducible refine (hR _ (hI _)).mono ?_); rintro e w6 ⟨rfl, hb6⟩; have hz6 := vat_below hb6 hz5; obtain ⟨⟨r0, r1, r2, r3⟩, t0', t1', t2', t3'⟩ := box4 hz6; obtain ⟨⟨v0, v1, v2, v3⟩, -⟩ := box4 (vat_below hb6 hv5)))
        exact bodyPost_ret (results_cell_tmp15 Tryd.results33 _ _ (w.heap.size + 1) _ _ _ _ rfl (vat_set4 hz6 _ _ _ _) Tryd.underlying24 rfl val_size15) rfl ⟨_, _, _, _, _, _, rfl, below_set4 (hA5.trans (hb6.mono hA5.size)) (by omega) _ _ _ _ _ _ _ _, bare_fresh (by unfold I64; omega) hm⟩
    · simp only [h16, if_false, false_and] at HBK ⊢
      go_enter Tryd.func33, Tryd.ntmps33
      go_wp2_with (first
        | (go_at_call 29; (with_reducible refine (HBK.out _ (bare_below hB hA2)).mono ?_); rintro e w3 ⟨rfl, hb3⟩; have hA3 := hA2.trans (hb3.mono hA2.size); have hz3 := vat_below hb3 hz2)
        | (go_at_call 30; (with_reducible refine (hcl _).mono ?_); rintro e w4 ⟨rfl, hb4⟩; have hA4 := hA3.trans (hb4.mono hA3.size); have hA5 := hA4.alloc hA4.size (.cells #[.int .i64 3, .int .i64 0, .string s, .slice none 0 0] 24); have hB5 := (Below.refl _ w4).alloc (Nat.le_refl _) (.cells #[.int .i64 3, .int .i64 0, .string s, .slice none 0 0] 24); have hz5 := vat_below hB5 (vat_below hb4 hz3); have hv5 := vat_alloc w4 #[.int .i64 3, .int .i64 0, .string s, .slice none 0 0]; obtain ⟨⟨v0, v1, v2, v3⟩, -⟩ := box4 hv5; obtain ⟨⟨r0, r1, r2, r3⟩, t0', t1', t2', t3'⟩ := box4 hz5))
      refine bodyPost_ret (results_cell_tmp15 Tryd.results33 _ _ (w.heap.size + 1) _ _ _ _ rfl (vat_set4 hz5 _ _ _ _) Tryd.underlying24 rfl val_size15) rfl ⟨_, _, _, _, _, _, rfl, below_set4 hA5 (by omega) _ _ _ _ _ _ _ _, ?_⟩
      unfold bareV
      rw [if_neg h16]
      exact bare_fresh (by unfold I64; omega) hm
end Go.Proofs.YtcicjpdjbfgbhaaDoor
