/- Package bin: a reader's Value. -/
import Derived.Test.YtihpalbmkcoalaaBinList
import Derived.Test.YtihpalbmkcoalaaBinVal
import Derived.Laws.ResultCell
import Derived.Deep.RegionHeld3
namespace Go.Proofs.Ytihpalbmkcoalaa
open Go.RowKit Go.Shelf
attribute [local go_sem] Oper.semAt_some
theorem below_drew' (w : World) : Below w.heap.size w w.drew := ⟨rfl, rfl, rfl, Nat.le_refl _, fun _ _ => rfl⟩
theorem results_cell_tmp_row {P : Program} {fn : Func} {p u : Tmp} {ty : TypeId} (h : fn.results = #[.cell p ty, .tmp u]) (tmps : Array Value) (w : World) (g : Nat) (t : TypeId) (cs : Array Value) (fr : Nat × Nat) (d : TypeDesc)
    (hp : tmps.getD p undef = .pointer (some ⟨g, 0, none⟩)) (hg : w.heap[g]? = some (.cells cs t fr))
    (hu : P.underlying ty = some d) (hd : (match d with | .struct _ | .array _ _ => true | _ => false) = true) (hi : (P.info? ty).map (·.size) = some cs.size) :
    (results fn tmps).run P w = .ok (.tuple #[.agg cs, tmps.getD u undef]) w := by
  rw [results_cell_tmp h, hp]
  simp [asAddr, run_loadVar_row w g t ty cs fr d hg hu hd hi, Result.andThen]
set_option maxRecDepth 100000 in
set_option maxHeartbeats 4000000 in
theorem value1_any (v : PV) (b : Nat) (a9 : Value) (w : World) (c0 c1 c2 c3 : Value) (hv : VAt w b #[c0, c1, c2, c3]) (hi : Is w v (.agg #[c0, c1, c2, c3])) :
    Calls Try.prog 56 #[a9, .pointer (some ⟨b, 0, none⟩)] w fun e w' => e = .returned (.tuple #[.agg #[c0, c1, c2, c3], .bool (rightV v)]) ∧ Below w.heap.size w w' := by
  obtain ⟨k, n, s, a, len, cap, e⟩ := is_form hi
  simp only [Value.agg.injEq, Array.mk.injEq, List.cons.injEq, and_true] at e
  obtain ⟨rfl, rfl, rfl, rfl⟩ := e
  have hA0 := (Below.refl _ w).alloc (Nat.le_refl _) (.cells vzero 24)
  have hv0 := vat_below hA0 hv
  have hR : ∀ W, Below (w.alloc (.cells vzero 24)).heap.size (w.alloc (.cells vzero 24)) W → Calls Try.prog 42 #[.agg #[.int .i64 k, .int .i64 n, .string s, .slice a len cap]] W fun e w' => e = .returned (.bool (rightV v)) ∧ Below W.heap.size W w' := fun W hW => bright_any v W _ (is_below hW _ _ (is_below hA0 _ _ hi))
  obtain ⟨r, hr⟩ : ∃ r, rightV v = r := ⟨_, rfl⟩
  rw [hr] at hR ⊢
  have HR := Lib.hid hR
  obtain ⟨⟨p0, p1, p2, p3⟩, _⟩ := box4 hv0
  have hz0 := vat_alloc w vzero
  have HZ := Lib.hid hz0
  have hbw := vat_lt hv
  clear hi hR hr hv hv0 hz0
  go_enter Try.func56, Try.ntmps56
  go_wp2_with fail
  go_region_held3 (fun W => (W.cell? ⟨b, 0, none⟩ = some (.int .i64 k) ∧ W.cell? ⟨b, 1, none⟩ = some (.int .i64 n)) ∧ (W.cell? ⟨b, 2, none⟩ = some (.string s) ∧ W.cell? ⟨b, 3, none⟩ = some (.slice a len cap))) (first | ((try dsimp only); refine ⟨⟨?_, ?_⟩, ?_, ?_⟩ <;> first | (go_keep; done) | (with_reducible refine cell_below hb ?_; go_keep) | (with_reducible refine cell_set4 ?_ (by first | (simp; done) | (simp; omega)); go_keep) | (with_reducible refine cell_set4 (cell_below hb ?_) (by first | (simp; done) | (simp; omega)); go_keep))) (first
    | (go_at_call 42; (with_reducible refine (HR.out _ (below_drew' _)).mono ?_); rintro e w' ⟨rfl, hb⟩; have hz1 := vat_below hb (show VAt (World.drew (w.alloc (.cells vzero 24))) w.heap.size vzero from HZ.out); obtain ⟨⟨r0, r1, r2, r3⟩, t0, t1, t2, t3⟩ := box4 hz1))
  go_wp2_with fail
  have hA1 := hA0.drew
  have hB := hA1.trans (hb.mono hA1.size)
  exact bodyPost_ret (results_cell_tmp_row Try.results56 _ _ w.heap.size _ _ _ _ rfl (vat_set4 hz1 _ _ _ _) Try.underlying24 rfl val4) rfl ⟨rfl, below_set4 hB (Nat.le_refl _) _ _ _ _ _ _ _ _⟩
set_option maxRecDepth 100000 in
set_option maxHeartbeats 4000000 in
theorem takeVal_bad (f : Value) (p : Nat) (w : World) (h : RD w p none) :
    Calls Try.prog 55 #[.pointer (some ⟨p, 0, none⟩), .int .i64 0, f] w fun e w' => e = .returned (.agg vzero) ∧ RD w' p none ∧ w.grownBy w' (some p) := by
  have hA0 := (Below.refl _ w).alloc (Nat.le_refl _) (.cells vzero 24)
  have hz0 := vat_alloc w vzero
  have hpw := rd_lt h
  have hRA := rd_below h hA0
  have hB := rdBad_any p _ _ hRA
  have hL := rdLeft_any p _ _ hRA
  have hF := rdFail_any p _ _ hRA
  simp only [Option.isNone_none, Bn.lf, List.length_nil] at hB hL
  clear h
  go_enter Try.func55, Try.ntmps55
  go_wp2_with (first
    | (go_at_call 22; (with_reducible refine hL.mono ?_); rintro e w' ⟨rfl, rfl⟩)
    | (go_at_call 20; (with_reducible refine hB.mono ?_); rintro e w' ⟨rfl, rfl⟩)
    | (go_at_call 66; (with_reducible refine hF.mono ?_); rintro e w2 ⟨⟨v, rfl⟩, hR2, hg2⟩; have hz2 := vat_below ((Below.refl _ w2).alloc (Nat.le_refl _) (.cells vzero 24)) (vat_grown hz0 hg2 (by omega)); have hR3 := rd_below hR2 ((Below.refl _ w2).alloc (Nat.le_refl _) (.cells vzero 24)); have hv2 := vat_alloc w2 vzero; obtain ⟨⟨e0, e1, e2, e3⟩, f0, f1, f2, f3⟩ := box4 hv2; obtain ⟨⟨r0, r1, r2, r3⟩, t0, t1, t2, t3⟩ := box4 hz2))
  exact bodyPost_ret (results_cell_row Try.results55 _ _ w.heap.size _ _ _ _ rfl (vat_set4 hz2 _ _ _ _) Try.underlying24 rfl val4) rfl
    ⟨rfl, rd_set4 hR3 hz2 _ _ _ _ _ _ _ _, grown_new4 (grown_alloc (grown_then (grown_of_below hA0 _) hg2) _) (Nat.le_refl _) _ _ _ _ _ _ _ _⟩
set_option maxRecDepth 100000 in
set_option maxHeartbeats 4000000 in
theorem takeVal_ok (v : PV) (b p : Nat) (l : List Int) (w : World) (c0 c1 c2 c3 : Value) (h : RD w p (some l)) (hv : VAt w b #[c0, c1, c2, c3]) (hi : Is w v (.agg #[c0, c1, c2, c3])) :
    Calls Try.prog 55 #[.pointer (some ⟨p, 0, none⟩), .int .i64 0, .func (.func 56) #[] #[.pointer (some ⟨b, 0, none⟩)]] w fun e w' =>
      e = .returned (if rightV v = true then .agg #[c0, c1, c2, c3] else .agg vzero) ∧ RD w' p (if rightV v = true then some l else none) ∧ w.grownBy w' (some p) := by
  obtain ⟨vk, vn, vs, va, vlen, vcap, e⟩ := is_form hi
  simp only [Value.agg.injEq, Array.mk.injEq, List.cons.injEq, and_true] at e
  obtain ⟨rfl, rfl, rfl, rfl⟩ := e
  have hA0 := (Below.refl _ w).alloc (Nat.le_refl _) (.cells vzero 24)
  have hz0 := vat_alloc w vzero
  have hpw := rd_lt h
  have hRA := rd_below h hA0
  have hB := rdBad_any p _ _ hRA
  have hL := rdLeft_any p _ _ hRA
  simp only [Option.isNone_some, Bn.lf] at hB hL
  have hV := fun a9 => value1_any v b a9 _ _ _ _ _ (vat_below hA0 hv) (is_below hA0 _ _ hi)
  obtain ⟨a, cap, h1, h2, h3, h4⟩ := id hRA
  simp only [Option.isNone_some, Bn.lf] at h1 h2 h3
  obtain ⟨⟨q0, q1⟩, z0, z1⟩ := rdAt_cells h1
  obtain ⟨a1, hs1, hr1⟩ := sub_high a l.length cap 0 (Nat.zero_le _) h2.2.1
  obtain ⟨a2, hs2, hr2, ha2⟩ := sub_low' a l.length cap 0 (Nat.zero_le _)
  simp only [Int.natCast_zero, Nat.sub_zero, List.drop_zero] at hs1 hs2 hr2
  have hm := h2.2.2.1
  have hcp := h2.2.1
  unfold maxLen at hm
  obtain ⟨r, hr⟩ : ∃ r, rightV v = r := ⟨_, rfl⟩
  rw [hr] at hV ⊢
  have H1 := Lib.hid h1; have H2 := Lib.hid h2; have H3 := Lib.hid h3; have H4 := Lib.hid h4; have HA2 := Lib.hid ha2; have HR2 := Lib.hid hr2; have HRA := Lib.hid hRA
  clear h hv hi hr h1 h2 h3 h4 ha2 hr1 hr2 hRA
  cases r with
  | true =>
    rw [if_pos rfl, if_pos rfl]
    go_enter Try.func55, Try.ntmps55
    go_wp2_with (first
      | (go_at_call 22; (with_reducible refine hL.mono ?_); rintro e w' ⟨rfl, rfl⟩)
      | (go_at_call 20; (with_reducible refine hB.mono ?_); rintro e w' ⟨rfl, rfl⟩)
      | (go_at_call 56; (with_reducible refine (hV _).mono ?_); rintro e w2 ⟨rfl, hb2⟩; have hA2 := (Below.refl _ w2).alloc (Nat.le_refl _) (.cells #[.int .i64 vk, .int .i64 vn, .string vs, .slice va vlen vcap] 24); have hb3 := hb2.trans (hA2.mono hb2.size); have hp3 := (hb3.block p (rdAt_lt H1.out)).trans H1.out; obtain ⟨⟨m0, m1⟩, n0, n1⟩ := rdAt_cells (show RdAt _ p _ _ from hp3); have hz3 := vat_below hb3 hz0; have hne : w.heap.size ≠ p := (by omega); have hz4 := vat_other hz3 hne 0 (.slice a2 l.length cap); have hbx := vat_alloc w2 #[.int .i64 vk, .int .i64 vn, .string vs, .slice va vlen vcap]; have hne2 : w2.heap.size ≠ p := (by have := hb2.size; simp at this; omega); have hbx2 := vat_other hbx hne2 0 (.slice a2 l.length cap); obtain ⟨⟨e0, e1, e2, e3⟩, f0, f1, f2, f3⟩ := box4 hbx2; obtain ⟨⟨r0, r1, r2, r3⟩, t0, t1, t2, t3⟩ := box4 hz4; have hrow := row_below H2.out hb3 rfl; have hu3 := u8_below H4.out hb3))
    have hR5 : RD _ p (some l) := rd_ahead (n := 0) (c' := cap) hp3 (HR2.out _ _ hrow) H3.out hu3 HA2.out
    exact bodyPost_ret (results_cell_row Try.results55 _ _ w.heap.size _ _ _ _ rfl (vat_set4 hz4 _ _ _ _) Try.underlying24 rfl val4) rfl
      ⟨rfl, rd_set4 hR5 hz4 _ _ _ _ _ _ _ _, grown_new4 (grown_then (grown_then (grown_of_below hA0 _) (grown_of_below hb3 _)) (grown_set1 p 0 _)) (Nat.le_refl _) _ _ _ _ _ _ _ _⟩
  | false =>
    rw [if_neg (by simp), if_neg (by simp)]
    go_enter Try.func55, Try.ntmps55
    go_wp2_with (first
      | (go_at_call 22; (with_reducible refine hL.mono ?_); rintro e w' ⟨rfl, rfl⟩)
      | (go_at_call 20; (with_reducible refine hB.mono ?_); rintro e w' ⟨rfl, rfl⟩)
      | (go_at_call 56; (with_reducible refine (hV _).mono ?_); rintro e w2 ⟨rfl, hb2⟩; have hA2 := (Below.refl _ w2).alloc (Nat.le_refl _) (.cells #[.int .i64 vk, .int .i64 vn, .string vs, .slice va vlen vcap] 24); have hb3 := hb2.trans (hA2.mono hb2.size); have hR3 := rd_below HRA.out hb3; have hF := rdFail_any p _ _ hR3; have hz3 := vat_below hb3 hz0)
      | (go_at_call 66; (with_reducible refine hF.mono ?_); rintro e w4 ⟨⟨v4, rfl⟩, hR4, hg4⟩; have hA4 := (Below.refl _ w4).alloc (Nat.le_refl _) (.cells vzero 24); have hz4 := vat_below hA4 (vat_grown hz3 hg4 (by omega)); have hR5 := rd_below hR4 hA4; have hv4 := vat_alloc w4 vzero; obtain ⟨⟨e0, e1, e2, e3⟩, f0, f1, f2, f3⟩ := box4 hv4; obtain ⟨⟨r0, r1, r2, r3⟩, t0, t1, t2, t3⟩ := box4 hz4))
    exact bodyPost_ret (results_cell_row Try.results55 _ _ w.heap.size _ _ _ _ rfl (vat_set4 hz4 _ _ _ _) Try.underlying24 rfl val4) rfl
      ⟨rfl, rd_set4 hR5 hz4 _ _ _ _ _ _ _ _, grown_new4 (grown_alloc (grown_then (grown_then (grown_of_below hA0 _) (grown_of_below hb3 _)) hg4) _) (Nat.le_refl _) _ _ _ _ _ _ _ _⟩
end Go.Proofs.Ytihpalbmkcoalaa
