/- Layer 14: value. (Made by gen_vt10.py.) -/
import Derived.Test.YtcicjpdjbfgbhaaGreatDoorMh29Cell
import Derived.Defers
import Derived.Recover
set_option linter.unusedVariables false
set_option linter.unusedSimpArgs false
namespace Go.Proofs.YtcicjpdjbfgbhaaGreatDoor
open Go.RowKit Go.Shelf
attribute [local go_sem] Oper.semAt_some
theorem value_world {s : ByteArray} {p q o N : Nat} {W : World} (hr : RV W p s q o N) : RV ((W.setCell ⟨p, 3, none⟩ (.int .i64 ((N : Int) + 1))).alloc (.cells vzero 24)) p s q o (N + 1) ∧ VAt ((W.setCell ⟨p, 3, none⟩ (.int .i64 ((N : Int) + 1))).alloc (.cells vzero 24)) W.heap.size vzero ∧
    W.grownBy ((W.setCell ⟨p, 3, none⟩ (.int .i64 ((N : Int) + 1))).alloc (.cells vzero 24)) (some p) ∧ ((W.setCell ⟨p, 3, none⟩ (.int .i64 ((N : Int) + 1))).alloc (.cells vzero 24)).heap.size = W.heap.size + 1 :=
  vt_begin hr 3 _ (rv_nodesI hr (N + 1) ((N : Int) + 1) (by push_cast; rfl))
set_option maxRecDepth 100000 in
set_option maxHeartbeats 2000000 in
theorem value_list (s : ByteArray) (p q o N : Nat) (W : World) (hr : RV W p s q o N) (hN : N ≤ 1000000) (R : Vt.Out (PV × Nat))
    (hB : ∀ V, RV V p s q o (N + 1) → Calls Tryz.prog 85 #[.pointer (some ⟨p, 0, none⟩)] V (BegunR q (some (.func (.func 89) #[.pointer (some ⟨p, 0, none⟩)] #[])) V))
    (hF : ∀ V, RV V p s q o (N + 1) → Calls Tryz.prog 89 #[.pointer (some ⟨p, 0, none⟩)] V (VtR p s o (N + 1) V R)) :
    Calls Tryz.prog 81 #[.pointer (some ⟨p, 0, none⟩)] W (VtR p s o (N + 1) W R) := by
  have hpW := rv_lt hr
  obtain ⟨hr1, hz1, hg1, hs1⟩ := value_world hr
  obtain ⟨⟨b0, b1, b2, b3⟩, e1, e2, e3⟩ := rv_cells hr
  obtain ⟨⟨c0, c1, c2, c3⟩, f1, f2, f3⟩ := rv_cells hr1
  have hB1 := hB _ hr1
  unfold BegunR at hB1
  simp only at hB1
  cases R with
  | inl ea =>
    obtain ⟨ea, er⟩ := ea
    have hF1 := fun k => vtR_l (hF _ (rv_drew hr1 k))
    go_enter Tryz.func81, Tryz.ntmps81
    go_wp2_with (first
      | (go_at_call 85; (with_reducible refine hB1.mono ?_); rintro e w1 ⟨rfl, k, rfl⟩)
      | (go_at_call 89; (with_reducible refine (hF1 _).mono ?_); rintro e w2 ⟨rfl, hg2⟩))
    exact ⟨rfl, rfl, grownV_two (grownV_two hg1 (grownV_drew _ _ _)) hg2⟩
  | inr vq =>
    obtain ⟨v, q2⟩ := vq
    have hF1 := fun k => vtR_r (hF _ (rv_drew hr1 k))
    have hz1' : ∀ k, VAt (((W.setCell ⟨p, 3, none⟩ (.int .i64 ((N : Int) + 1))).alloc (.cells vzero 24)).drewN k) W.heap.size vzero := fun k => hz1
    have hne : some W.heap.size ≠ some p := fun e => by injection e with e; omega
    go_enter Tryz.func81, Tryz.ntmps81
    go_wp2_with (first
      | (go_at_call 85; (with_reducible refine hB1.mono ?_); rintro e w1 ⟨rfl, k, rfl⟩)
      | (go_at_call 89; (with_reducible refine (hF1 _).mono ?_); rintro e w2 ⟨⟨v', d0, d1, d2, a9, len9, cap9, rfl, hF9, hv9⟩, hr2, hg2⟩; have hz2 := vat_kept (hz1' _) hg2 hne; obtain ⟨⟨y0, y1, y2, y3⟩, x0, x1, x2, x3⟩ := box4 hz2))
    refine bodyPost_ret (results_cell_row Tryz.results81 _ _ W.heap.size _ _ _ _ rfl (vat_set4 hz2 _ _ _ _) Tryz.underlying24 rfl val4) rfl ?_
    exact vt_end hpW hr2 (grownV_two (grownV_two hg1 (grownV_drew _ _ _)) hg2) (fresh_mono hF9 (Nat.le_of_eq hs1.symm)) hv9
set_option maxRecDepth 100000 in
set_option maxHeartbeats 2000000 in
theorem value_text (s : ByteArray) (p q o N : Nat) (W : World) (hr : RV W p s q o N) (hN : N ≤ 1000000) (R : Vt.Out (PV × Nat))
    (hB : ∀ V, RV V p s q o (N + 1) → Calls Tryz.prog 85 #[.pointer (some ⟨p, 0, none⟩)] V (BegunR q (some (.func (.func 90) #[.pointer (some ⟨p, 0, none⟩)] #[])) V))
    (hF : ∀ V, RV V p s q o (N + 1) → Calls Tryz.prog 90 #[.pointer (some ⟨p, 0, none⟩)] V (VtR p s o (N + 1) V R)) :
    Calls Tryz.prog 81 #[.pointer (some ⟨p, 0, none⟩)] W (VtR p s o (N + 1) W R) := by
  have hpW := rv_lt hr
  obtain ⟨hr1, hz1, hg1, hs1⟩ := value_world hr
  obtain ⟨⟨b0, b1, b2, b3⟩, e1, e2, e3⟩ := rv_cells hr
  obtain ⟨⟨c0, c1, c2, c3⟩, f1, f2, f3⟩ := rv_cells hr1
  have hB1 := hB _ hr1
  unfold BegunR at hB1
  simp only at hB1
  cases R with
  | inl ea =>
    obtain ⟨ea, er⟩ := ea
    have hF1 := fun k => vtR_l (hF _ (rv_drew hr1 k))
    go_enter Tryz.func81, Tryz.ntmps81
    go_wp2_with (first
      | (go_at_call 85; (with_reducible refine hB1.mono ?_); rintro e w1 ⟨rfl, k, rfl⟩)
      | (go_at_call 90; (with_reducible refine (hF1 _).mono ?_); rintro e w2 ⟨rfl, hg2⟩))
    exact ⟨rfl, rfl, grownV_two (grownV_two hg1 (grownV_drew _ _ _)) hg2⟩
  | inr vq =>
    obtain ⟨v, q2⟩ := vq
    have hF1 := fun k => vtR_r (hF _ (rv_drew hr1 k))
    have hz1' : ∀ k, VAt (((W.setCell ⟨p, 3, none⟩ (.int .i64 ((N : Int) + 1))).alloc (.cells vzero 24)).drewN k) W.heap.size vzero := fun k => hz1
    have hne : some W.heap.size ≠ some p := fun e => by injection e with e; omega
    go_enter Tryz.func81, Tryz.ntmps81
    go_wp2_with (first
      | (go_at_call 85; (with_reducible refine hB1.mono ?_); rintro e w1 ⟨rfl, k, rfl⟩)
      | (go_at_call 90; (with_reducible refine (hF1 _).mono ?_); rintro e w2 ⟨⟨v', d0, d1, d2, a9, len9, cap9, rfl, hF9, hv9⟩, hr2, hg2⟩; have hz2 := vat_kept (hz1' _) hg2 hne; obtain ⟨⟨y0, y1, y2, y3⟩, x0, x1, x2, x3⟩ := box4 hz2))
    refine bodyPost_ret (results_cell_row Tryz.results81 _ _ W.heap.size _ _ _ _ rfl (vat_set4 hz2 _ _ _ _) Tryz.underlying24 rfl val4) rfl ?_
    exact vt_end hpW hr2 (grownV_two (grownV_two hg1 (grownV_drew _ _ _)) hg2) (fresh_mono hF9 (Nat.le_of_eq hs1.symm)) hv9
set_option maxRecDepth 100000 in
set_option maxHeartbeats 2000000 in
theorem value_name (s : ByteArray) (p q o N : Nat) (W : World) (hr : RV W p s q o N) (hN : N ≤ 1000000) (R : Vt.Out (PV × Nat))
    (hB : ∀ V, RV V p s q o (N + 1) → Calls Tryz.prog 85 #[.pointer (some ⟨p, 0, none⟩)] V (BegunR q (some (.func (.func 91) #[.pointer (some ⟨p, 0, none⟩)] #[])) V))
    (hF : ∀ V, RV V p s q o (N + 1) → Calls Tryz.prog 91 #[.pointer (some ⟨p, 0, none⟩)] V (VtR p s o (N + 1) V R)) :
    Calls Tryz.prog 81 #[.pointer (some ⟨p, 0, none⟩)] W (VtR p s o (N + 1) W R) := by
  have hpW := rv_lt hr
  obtain ⟨hr1, hz1, hg1, hs1⟩ := value_world hr
  obtain ⟨⟨b0, b1, b2, b3⟩, e1, e2, e3⟩ := rv_cells hr
  obtain ⟨⟨c0, c1, c2, c3⟩, f1, f2, f3⟩ := rv_cells hr1
  have hB1 := hB _ hr1
  unfold BegunR at hB1
  simp only at hB1
  cases R with
  | inl ea =>
    obtain ⟨ea, er⟩ := ea
    have hF1 := fun k => vtR_l (hF _ (rv_drew hr1 k))
    go_enter Tryz.func81, Tryz.ntmps81
    go_wp2_with (first
      | (go_at_call 85; (with_reducible refine hB1.mono ?_); rintro e w1 ⟨rfl, k, rfl⟩)
      | (go_at_call 91; (with_reducible refine (hF1 _).mono ?_); rintro e w2 ⟨rfl, hg2⟩))
    exact ⟨rfl, rfl, grownV_two (grownV_two hg1 (grownV_drew _ _ _)) hg2⟩
  | inr vq =>
    obtain ⟨v, q2⟩ := vq
    have hF1 := fun k => vtR_r (hF _ (rv_drew hr1 k))
    have hz1' : ∀ k, VAt (((W.setCell ⟨p, 3, none⟩ (.int .i64 ((N : Int) + 1))).alloc (.cells vzero 24)).drewN k) W.heap.size vzero := fun k => hz1
    have hne : some W.heap.size ≠ some p := fun e => by injection e with e; omega
    go_enter Tryz.func81, Tryz.ntmps81
    go_wp2_with (first
      | (go_at_call 85; (with_reducible refine hB1.mono ?_); rintro e w1 ⟨rfl, k, rfl⟩)
      | (go_at_call 91; (with_reducible refine (hF1 _).mono ?_); rintro e w2 ⟨⟨v', d0, d1, d2, a9, len9, cap9, rfl, hF9, hv9⟩, hr2, hg2⟩; have hz2 := vat_kept (hz1' _) hg2 hne; obtain ⟨⟨y0, y1, y2, y3⟩, x0, x1, x2, x3⟩ := box4 hz2))
    refine bodyPost_ret (results_cell_row Tryz.results81 _ _ W.heap.size _ _ _ _ rfl (vat_set4 hz2 _ _ _ _) Tryz.underlying24 rfl val4) rfl ?_
    exact vt_end hpW hr2 (grownV_two (grownV_two hg1 (grownV_drew _ _ _)) hg2) (fresh_mono hF9 (Nat.le_of_eq hs1.symm)) hv9
set_option maxRecDepth 100000 in
set_option maxHeartbeats 2000000 in
theorem value_number (s : ByteArray) (p q o N : Nat) (W : World) (hr : RV W p s q o N) (hN : N ≤ 1000000) (R : Vt.Out (PV × Nat))
    (hB : ∀ V, RV V p s q o (N + 1) → Calls Tryz.prog 85 #[.pointer (some ⟨p, 0, none⟩)] V (BegunR q (some (.func (.func 93) #[.pointer (some ⟨p, 0, none⟩)] #[])) V))
    (hF : ∀ V, RV V p s q o (N + 1) → Calls Tryz.prog 93 #[.pointer (some ⟨p, 0, none⟩)] V (VtR p s o (N + 1) V R)) :
    Calls Tryz.prog 81 #[.pointer (some ⟨p, 0, none⟩)] W (VtR p s o (N + 1) W R) := by
  have hpW := rv_lt hr
  obtain ⟨hr1, hz1, hg1, hs1⟩ := value_world hr
  obtain ⟨⟨b0, b1, b2, b3⟩, e1, e2, e3⟩ := rv_cells hr
  obtain ⟨⟨c0, c1, c2, c3⟩, f1, f2, f3⟩ := rv_cells hr1
  have hB1 := hB _ hr1
  unfold BegunR at hB1
  simp only at hB1
  cases R with
  | inl ea =>
    obtain ⟨ea, er⟩ := ea
    have hF1 := fun k => vtR_l (hF _ (rv_drew hr1 k))
    go_enter Tryz.func81, Tryz.ntmps81
    go_wp2_with (first
      | (go_at_call 85; (with_reducible refine hB1.mono ?_); rintro e w1 ⟨rfl, k, rfl⟩)
      | (go_at_call 93; (with_reducible refine (hF1 _).mono ?_); rintro e w2 ⟨rfl, hg2⟩))
    exact ⟨rfl, rfl, grownV_two (grownV_two hg1 (grownV_drew _ _ _)) hg2⟩
  | inr vq =>
    obtain ⟨v, q2⟩ := vq
    have hF1 := fun k => vtR_r (hF _ (rv_drew hr1 k))
    have hz1' : ∀ k, VAt (((W.setCell ⟨p, 3, none⟩ (.int .i64 ((N : Int) + 1))).alloc (.cells vzero 24)).drewN k) W.heap.size vzero := fun k => hz1
    have hne : some W.heap.size ≠ some p := fun e => by injection e with e; omega
    go_enter Tryz.func81, Tryz.ntmps81
    go_wp2_with (first
      | (go_at_call 85; (with_reducible refine hB1.mono ?_); rintro e w1 ⟨rfl, k, rfl⟩)
      | (go_at_call 93; (with_reducible refine (hF1 _).mono ?_); rintro e w2 ⟨⟨v', d0, d1, d2, a9, len9, cap9, rfl, hF9, hv9⟩, hr2, hg2⟩; have hz2 := vat_kept (hz1' _) hg2 hne; obtain ⟨⟨y0, y1, y2, y3⟩, x0, x1, x2, x3⟩ := box4 hz2))
    refine bodyPost_ret (results_cell_row Tryz.results81 _ _ W.heap.size _ _ _ _ rfl (vat_set4 hz2 _ _ _ _) Tryz.underlying24 rfl val4) rfl ?_
    exact vt_end hpW hr2 (grownV_two (grownV_two hg1 (grownV_drew _ _ _)) hg2) (fresh_mono hF9 (Nat.le_of_eq hs1.symm)) hv9
set_option maxRecDepth 100000 in
set_option maxHeartbeats 2000000 in
theorem value_word (s : ByteArray) (p q o N : Nat) (W : World) (hr : RV W p s q o N) (hN : N ≤ 1000000) (R : Vt.Out (PV × Nat))
    (hB : ∀ V, RV V p s q o (N + 1) → Calls Tryz.prog 85 #[.pointer (some ⟨p, 0, none⟩)] V (BegunR q (some (.func (.func 94) #[.pointer (some ⟨p, 0, none⟩)] #[])) V))
    (hF : ∀ V, RV V p s q o (N + 1) → Calls Tryz.prog 94 #[.pointer (some ⟨p, 0, none⟩)] V (VtR p s o (N + 1) V R)) :
    Calls Tryz.prog 81 #[.pointer (some ⟨p, 0, none⟩)] W (VtR p s o (N + 1) W R) := by
  have hpW := rv_lt hr
  obtain ⟨hr1, hz1, hg1, hs1⟩ := value_world hr
  obtain ⟨⟨b0, b1, b2, b3⟩, e1, e2, e3⟩ := rv_cells hr
  obtain ⟨⟨c0, c1, c2, c3⟩, f1, f2, f3⟩ := rv_cells hr1
  have hB1 := hB _ hr1
  unfold BegunR at hB1
  simp only at hB1
  cases R with
  | inl ea =>
    obtain ⟨ea, er⟩ := ea
    have hF1 := fun k => vtR_l (hF _ (rv_drew hr1 k))
    go_enter Tryz.func81, Tryz.ntmps81
    go_wp2_with (first
      | (go_at_call 85; (with_reducible refine hB1.mono ?_); rintro e w1 ⟨rfl, k, rfl⟩)
      | (go_at_call 94; (with_reducible refine (hF1 _).mono ?_); rintro e w2 ⟨rfl, hg2⟩))
    exact ⟨rfl, rfl, grownV_two (grownV_two hg1 (grownV_drew _ _ _)) hg2⟩
  | inr vq =>
    obtain ⟨v, q2⟩ := vq
    have hF1 := fun k => vtR_r (hF _ (rv_drew hr1 k))
    have hz1' : ∀ k, VAt (((W.setCell ⟨p, 3, none⟩ (.int .i64 ((N : Int) + 1))).alloc (.cells vzero 24)).drewN k) W.heap.size vzero := fun k => hz1
    have hne : some W.heap.size ≠ some p := fun e => by injection e with e; omega
    go_enter Tryz.func81, Tryz.ntmps81
    go_wp2_with (first
      | (go_at_call 85; (with_reducible refine hB1.mono ?_); rintro e w1 ⟨rfl, k, rfl⟩)
      | (go_at_call 94; (with_reducible refine (hF1 _).mono ?_); rintro e w2 ⟨⟨v', d0, d1, d2, a9, len9, cap9, rfl, hF9, hv9⟩, hr2, hg2⟩; have hz2 := vat_kept (hz1' _) hg2 hne; obtain ⟨⟨y0, y1, y2, y3⟩, x0, x1, x2, x3⟩ := box4 hz2))
    refine bodyPost_ret (results_cell_row Tryz.results81 _ _ W.heap.size _ _ _ _ rfl (vat_set4 hz2 _ _ _ _) Tryz.underlying24 rfl val4) rfl ?_
    exact vt_end hpW hr2 (grownV_two (grownV_two hg1 (grownV_drew _ _ _)) hg2) (fresh_mono hF9 (Nat.le_of_eq hs1.symm)) hv9
set_option maxRecDepth 100000 in
theorem value_none (s : ByteArray) (p q o N : Nat) (W : World) (hr : RV W p s q o N) (hN : N ≤ 1000000) (a : Nat)
    (hB : ∀ V, RV V p s q o (N + 1) → Calls Tryz.prog 85 #[.pointer (some ⟨p, 0, none⟩)] V fun e w' => e = .panicked (wrongT (a : Int) 2) ∧ ∃ k, w' = V.drewN k) :
    Calls Tryz.prog 81 #[.pointer (some ⟨p, 0, none⟩)] W (VtR p s o (N + 1) W (.inl (a, 2))) := by
  have hpW := rv_lt hr
  obtain ⟨hr1, hz1, hg1, hs1⟩ := value_world hr
  obtain ⟨⟨b0, b1, b2, b3⟩, e1, e2, e3⟩ := rv_cells hr
  obtain ⟨⟨c0, c1, c2, c3⟩, f1, f2, f3⟩ := rv_cells hr1
  have hB1 := hB _ hr1
  go_enter Tryz.func81, Tryz.ntmps81
  go_wp2_with (go_at_call 85; (with_reducible refine hB1.mono ?_); rintro e w1 ⟨rfl, k, rfl⟩)
  exact ⟨rfl, rfl, grownV_two hg1 (grownV_drew _ _ _)⟩
/-- value over what a list's values come to -/
theorem value_of (s : ByteArray) (p o : Nat) (hsm : s.size ≤ 1000000) (sub : Nat → Vt.Out (List PV × Nat))
    (hL : ∀ q N W, q < s.size → N ≤ q + 1 → 1 ≤ N → RV W p s q o N → Calls Tryz.prog 89 #[.pointer (some ⟨p, 0, none⟩)] W (VtR p s o N W (Vt.lsV (sub q)))) : ValC s p o (Vt.one sub (strB s)) := by
  intro q N W hq hN hr
  unfold Vt.one
  by_cases hlt : q < s.size
  · rw [if_neg (by rw [strB_len]; omega)]
    have hB : ∀ V, RV V p s q o (N + 1) → Calls Tryz.prog 85 #[.pointer (some ⟨p, 0, none⟩)] V (BegunR q (begunF p ((strB s)[q]?.getD 0)) V) := fun V hV => begun_any s p q o (N + 1) V hsm hlt hV
    have hT := fun V hV => vtext_any s p q o (N + 1) V hsm (by omega) hlt hV
    have hNm := fun V hV => vname_any s p q o (N + 1) V hsm (by omega) hlt hV
    have hNu := fun V hV => vnumber_any s p q o (N + 1) V hsm (by omega) hlt hV
    have hWd := fun V hV => vword_any s p q o (N + 1) V hsm (by omega) hlt hV
    unfold Vt.flat
    obtain ⟨x, hx⟩ : ∃ x, (strB s)[q]?.getD 0 = x := ⟨_, rfl⟩
    rw [hx] at hB ⊢
    by_cases h1 : x = 91
    · rw [if_pos h1]
      have e : begunF p x = _ := if_pos h1
      rw [e] at hB
      exact value_list s p q o N W hr (by omega) _ hB (fun V hV => hL q (N + 1) V hlt (by omega) (by omega) hV)
    rw [if_neg h1]
    by_cases h2 : x = 34
    · rw [if_pos h2]
      have e : begunF p x = _ := (if_neg h1).trans (if_pos h2)
      rw [e] at hB
      exact value_text s p q o N W hr (by omega) _ hB hT
    rw [if_neg h2]
    by_cases h3 : x = 39
    · rw [if_pos h3]
      have e : begunF p x = _ := (if_neg h1).trans ((if_neg h2).trans (if_pos h3))
      rw [e] at hB
      exact value_name s p q o N W hr (by omega) _ hB hNm
    rw [if_neg h3]
    by_cases h4 : x = 45 ∨ M.isD x = true
    · rw [if_pos h4]
      have e : begunF p x = _ := (if_neg h1).trans ((if_neg h2).trans ((if_neg h3).trans (if_pos h4)))
      rw [e] at hB
      exact value_number s p q o N W hr (by omega) _ hB hNu
    rw [if_neg h4]
    by_cases h5 : letterB x = true
    · rw [if_pos h5]
      have e : begunF p x = _ := (if_neg h1).trans ((if_neg h2).trans ((if_neg h3).trans ((if_neg h4).trans (if_pos h5))))
      rw [e] at hB
      exact value_word s p q o N W hr (by omega) _ hB hWd
    rw [if_neg h5]
    have e : begunF p x = none := (if_neg h1).trans ((if_neg h2).trans ((if_neg h3).trans ((if_neg h4).trans (if_neg h5))))
    rw [e] at hB
    exact value_none s p q o N W hr (by omega) q (fun V hV => (hB V hV).mono fun e w' h => h)
  · obtain rfl : q = s.size := by omega
    rw [if_pos (by rw [strB_len]; omega), strB_len]
    exact value_none s p s.size o N W hr (by omega) s.size (fun V hV => begun_end s p o (N + 1) V hsm hV)
/-- value, so many lists open -/
theorem value_any (s : ByteArray) (p : Nat) (hsm : s.size ≤ 1000000) : ∀ d o, d + o = 4 → ValC s p o (Vt.val d (strB s)) := by
  intro d
  induction d with
  | zero =>
    intro o ho
    obtain rfl : o = 4 := by omega
    exact value_of s p 4 hsm _ (fun q N W _ _ _ hr => list_deep s p q N W hsm hr)
  | succ d ih =>
    intro o ho
    exact value_of s p o hsm _ (fun q N W hq hN hN1 hr => vlist_any s p o q N W hsm (by omega) hq hN hN1 (Vt.val d (strB s)) (ih (o + 1) (by omega)) (fun q v q' _ h => by have := Vt.val_place (strB s) d q v q' h; rwa [strB_len] at this) hr)
end Go.Proofs.YtcicjpdjbfgbhaaGreatDoor

/- Layer 14: whole$1 (recovers). -/
set_option linter.unusedVariables false
namespace Go.Proofs.YtcicjpdjbfgbhaaGreatDoor
open Go.RowKit Go.Shelf
set_option maxRecDepth 100000 in
set_option maxHeartbeats 4000000 in
theorem vwhole1_idle (p1 p2 p3 : Addr) (w : World) :
    CallsD Tryz.prog 80 #[.pointer (some p1), .pointer (some p2), .pointer (some p3)] .returning w fun e u' w' => (∃ v, e = .returned v) ∧ u' = .returning ∧ w' = w := by
  refine callsD_of_wpS Tryz.func80 rfl fun c₀ cs hu => ?_
  apply wpS_seq
  apply wpS_region
  simp [wpOpsS, go_sem, recoverD, hu, Tryz.ntmps80, Exit.thenS]
  refine wpS_of_wp ?_
  go_wp2
  cases c₀
  simp_all [bodyPostS, results, Tryz.results80]
theorem heapT_set (W : World) (b' i : Nat) (v : Value) (b : Nat) (h : b ≠ b') : (W.setCell ⟨b', i, none⟩ v).heap[b]? = W.heap[b]? := Below.heap_setCell W ⟨b', i, none⟩ v b h
theorem heapT_set4 (W : World) (g : Nat) (d0 d1 d2 d3 : Value) (b : Nat) (h : b ≠ g) : ((((W.setCell ⟨g, 0, none⟩ d0).setCell ⟨g, 1, none⟩ d1).setCell ⟨g, 2, none⟩ d2).setCell ⟨g, 3, none⟩ d3).heap[b]? = W.heap[b]? := by
  rw [heapT_set _ _ _ _ b h, heapT_set _ _ _ _ b h, heapT_set _ _ _ _ b h, heapT_set _ _ _ _ b h]
theorem vwhole1_fin {b1 b2 b3 : Nat} {x er : Int} {w W1 V : World} {c0 c1 c2 c3 : Value} (h1 : VAt w b1 #[c0, c1, c2, c3]) (h2 : Boxed w b2 3 (.int .i64 0)) (h3 : Boxed w b3 30 (.int .i64 0)) (h12 : b1 ≠ b2) (h13 : b1 ≠ b3) (h23 : b2 ≠ b3) (hB1 : Below w.heap.size w W1)
    (hV : V = ((((((W1.setCell ⟨b1, 0, none⟩ (.int .i64 0)).setCell ⟨b1, 1, none⟩ (.int .i64 0)).setCell ⟨b1, 2, none⟩ (.string ⟨#[]⟩)).setCell ⟨b1, 3, none⟩ (.slice none 0 0)).setCell ⟨b2, 0, none⟩ (.int .i64 x)).setCell ⟨b3, 0, none⟩ (.int .i64 er)).drew) :
    (∃ v, Ending.returned (.tuple #[]) = .returned v) ∧ FrameMode.panicking [{ v := .iface 116 (.agg #[.int .i64 x, .int .i64 er]), recovered := true }] = .panicking [{ v := .iface 116 (.agg #[.int .i64 x, .int .i64 er]), recovered := true }] ∧
      VAt V b1 vzero ∧ Boxed V b2 3 (.int .i64 x) ∧ Boxed V b3 30 (.int .i64 er) ∧ (∀ B, B ≤ b1 → B ≤ b2 → B ≤ b3 → B ≤ w.heap.size → Below B w V) := by
  have k1 := heapT_set4 W1 b1 (.int .i64 0) (.int .i64 0) (.string ⟨#[]⟩) (.slice none 0 0)
  have z1 := vat_set4 (vat_below hB1 h1) (.int .i64 0) (.int .i64 0) (.string ⟨#[]⟩) (.slice none 0 0)
  have hb9 : ∀ B, B ≤ b1 → B ≤ b2 → B ≤ b3 → B ≤ w.heap.size → Below B w V := fun B q1 q2 q3 q4 => by
    rw [hV]
    exact (((below_set4 (hB1.mono q4) q1 0 1 2 3 (.int .i64 0) (.int .i64 0) (.string ⟨#[]⟩) (.slice none 0 0)).setCell (p := ⟨b2, 0, none⟩) q2 (.int .i64 x)).setCell (p := ⟨b3, 0, none⟩) q3 (.int .i64 er)).drew
  obtain ⟨A, hA⟩ : ∃ A, (((W1.setCell ⟨b1, 0, none⟩ (.int .i64 0)).setCell ⟨b1, 1, none⟩ (.int .i64 0)).setCell ⟨b1, 2, none⟩ (.string ⟨#[]⟩)).setCell ⟨b1, 3, none⟩ (.slice none 0 0) = A := ⟨_, rfl⟩
  rw [hA] at k1 z1 hV
  have h2' : Boxed A b2 _ _ := (k1 b2 (fun e => h12 e.symm)).trans ((hB1.block _ h2.lt).trans h2)
  have h3' : Boxed A b3 _ _ := (k1 b3 (fun e => h13 e.symm)).trans ((hB1.block _ h3.lt).trans h3)
  have e : V.heap = ((A.setCell ⟨b2, 0, none⟩ (.int .i64 x)).setCell ⟨b3, 0, none⟩ (.int .i64 er)).heap := by rw [hV]; rfl
  have y1 := vat_other (vat_other z1 h12 0 (.int .i64 x)) h13 0 (.int .i64 er)
  have y2 : Boxed ((A.setCell ⟨b2, 0, none⟩ (.int .i64 x)).setCell ⟨b3, 0, none⟩ (.int .i64 er)) b2 3 (.int .i64 x) := (heapT_set _ _ _ _ b2 h23).trans (Boxed.set (.int .i64 x) h2')
  have y3 : Boxed ((A.setCell ⟨b2, 0, none⟩ (.int .i64 x)).setCell ⟨b3, 0, none⟩ (.int .i64 er)) b3 30 (.int .i64 er) := Boxed.set (.int .i64 er) (show Boxed (A.setCell ⟨b2, 0, none⟩ (.int .i64 x)) b3 _ _ from (heapT_set _ _ _ _ b3 (fun e => h23 e.symm)).trans h3')
  unfold VAt at y1 ⊢
  unfold Boxed at y2 y3 ⊢
  rw [e]
  exact ⟨⟨_, rfl⟩, rfl, y1, y2, y3, fun B q1 q2 q3 q4 => hb9 B q1 q2 q3 q4⟩
theorem vwhole1_end {c₀ : Frame} {cs : List Frame} {R : Ending → FrameMode → World → Prop} {u' : FrameMode} {tmps : Array Value} {F W : World} (h : R (.returned (.tuple #[])) u' F) (hF : W = F) :
    Exit.inBlock 0 (fun e a' w' => bodyPostS Tryz.prog Tryz.f80 c₀ cs R e a' ({ c₀ with mode := u' } :: cs) w') Exit.normal { tmps := tmps, defers := [] } W :=
  hF ▸ ⟨rfl, u', rfl, _, results_none rfl _ _ _, h⟩
set_option maxRecDepth 100000 in
set_option maxHeartbeats 4000000 in
theorem vwhole1_wrong (b1 b2 b3 : Nat) (x er : Int) (w : World) (c0 c1 c2 c3 : Value) (h1 : VAt w b1 #[c0, c1, c2, c3]) (h2 : Boxed w b2 3 (.int .i64 0)) (h3 : Boxed w b3 30 (.int .i64 0)) (h12 : b1 ≠ b2) (h13 : b1 ≠ b3) (h23 : b2 ≠ b3) :
    CallsD Tryz.prog 80 #[.pointer (some ⟨b1, 0, none⟩), .pointer (some ⟨b2, 0, none⟩), .pointer (some ⟨b3, 0, none⟩)] (.panicking (wrongT x er)) w fun e u' w' => (∃ v, e = .returned v) ∧ u' = .panicking [{ v := .iface 116 (.agg #[.int .i64 x, .int .i64 er]), recovered := true }] ∧
      VAt w' b1 vzero ∧ Boxed w' b2 3 (.int .i64 x) ∧ Boxed w' b3 30 (.int .i64 er) ∧ (∀ B, B ≤ b1 → B ≤ b2 → B ≤ b3 → B ≤ w.heap.size → Below B w w') := by
  have hta : ∀ (v : Value) (w : World), (Instr.typeAssert (.iface 116 v) 20 116 true).run Tryz.prog w = .ok (.tuple #[v, .bool true]) w := fun v w => by kernel_rfl
  unfold wrongT
  refine callsD_of_wpS Tryz.func80 rfl fun c₀ cs hu => ?_
  apply wpS_seq
  apply wpS_region
  simp [wpOpsS, go_sem, recoverD, hu, Tryz.ntmps80, Exit.thenS]
  refine wpS_of_wp ?_
  have hfr : (#[Value.pointer (some ⟨b1, 0, none⟩), .pointer (some ⟨b2, 0, none⟩), .pointer (some ⟨b3, 0, none⟩)] ++ (Array.replicate 14 undef).setIfInBounds 3 (Value.iface 116 (.agg #[.int .i64 x, .int .i64 er]))) =
    #[.pointer (some ⟨b1, 0, none⟩), .pointer (some ⟨b2, 0, none⟩), .pointer (some ⟨b3, 0, none⟩), undef, undef, undef, .iface 116 (.agg #[.int .i64 x, .int .i64 er]), undef, undef, undef, undef, undef, undef, undef, undef, undef, undef] := rfl
  rw [hfr]
  go_wp2
  obtain ⟨W1, hW1⟩ : ∃ W1, w.alloc (.cells #[.int .i64 x, .int .i64 er] 116) = W1 := ⟨_, rfl⟩
  have hB1 := (Below.refl _ w).alloc (Nat.le_refl _) (.cells #[.int .i64 x, .int .i64 er] 116)
  have e0 : W1.cell? ⟨w.heap.size, 0, none⟩ = some (.int .i64 x) := by rw [← hW1]; simp
  have e1 : W1.cell? ⟨w.heap.size, 1, none⟩ = some (.int .i64 er) := by rw [← hW1]; simp
  rw [hW1] at hB1 ⊢
  clear hW1
  obtain ⟨⟨t0, t1, t2, t3⟩, f0, f1, f2, f3⟩ := box4 (vat_below hB1 h1)
  have h2' : Boxed W1 b2 _ _ := (hB1.block _ h2.lt).trans h2
  have h3' : Boxed W1 b3 _ _ := (hB1.block _ h3.lt).trans h3
  have u0 := h2'.cell
  have u1 := h2'.frozen
  have v0 := h3'.cell
  have v1 := h3'.frozen
  have n1 : w.heap.size ≠ b1 := by have := vat_lt h1; omega
  have n2 : w.heap.size ≠ b2 := by have := h2.lt; omega
  have n3 : w.heap.size ≠ b3 := by have := h3.lt; omega
  obtain ⟨b4, hb4⟩ : ∃ b4, w.heap.size = b4 := ⟨_, rfl⟩
  rw [hb4] at e0 e1 n1 n2 n3 ⊢
  go_region
  refine vwhole1_end (c₀ := c₀) (vwhole1_fin h1 h2 h3 h12 h13 h23 hB1 rfl) rfl
end Go.Proofs.YtcicjpdjbfgbhaaGreatDoor
