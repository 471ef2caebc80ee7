/- Layer 14: value. (Made by gen_vt10.py.) -/
import Derived.Test.YtcicjpdjbfgbhaaDoorMh31Cell
set_option linter.unusedVariables false
set_option linter.unusedSimpArgs false
namespace Go.Proofs.YtcicjpdjbfgbhaaDoor
open Go.RowKit Go.Shelf
attribute [local go_sem] Oper.semAt_some
theorem value_world {s : ByteArray} {p q o N : Nat} {W : World} (hr : RV W p s q o N) : RV ((W.setCell ⟨p, 3, none⟩ (.int .i64 ((N : Int) + 1))).alloc (.cells vzero 24)) p s q o (N + 1) ∧ VAt ((W.setCell ⟨p, 3, none⟩ (.int .i64 ((N : Int) + 1))).alloc (.cells vzero 24)) W.heap.size vzero ∧
    W.grownBy ((W.setCell ⟨p, 3, none⟩ (.int .i64 ((N : Int) + 1))).alloc (.cells vzero 24)) (some p) ∧ ((W.setCell ⟨p, 3, none⟩ (.int .i64 ((N : Int) + 1))).alloc (.cells vzero 24)).heap.size = W.heap.size + 1 :=
  vt_begin hr 3 _ (rv_nodesI hr (N + 1) ((N : Int) + 1) (by push_cast; rfl))
set_option maxRecDepth 100000 in
set_option maxHeartbeats 2000000 in
theorem value_list (s : ByteArray) (p q o N : Nat) (W : World) (hr : RV W p s q o N) (hN : N ≤ 1000000) (R : Vt.Out (PV × Nat))
    (hB : ∀ V, RV V p s q o (N + 1) → Calls Tryd.prog 79 #[.pointer (some ⟨p, 0, none⟩)] V (BegunR q (some (.func (.func 81) #[.pointer (some ⟨p, 0, none⟩)] #[])) V))
    (hF : ∀ V, RV V p s q o (N + 1) → Calls Tryd.prog 81 #[.pointer (some ⟨p, 0, none⟩)] V (VtR p s o (N + 1) V R)) :
    Calls Tryd.prog 78 #[.pointer (some ⟨p, 0, none⟩)] W (VtR p s o (N + 1) W R) := by
  have hpW := rv_lt hr
  obtain ⟨hr1, hz1, hg1, hs1⟩ := value_world hr
  obtain ⟨⟨b0, b1, b2, b3⟩, e1, e2, e3⟩ := rv_cells hr
  obtain ⟨⟨c0, c1, c2, c3⟩, f1, f2, f3⟩ := rv_cells hr1
  have hB1 := hB _ hr1
  unfold BegunR at hB1
  simp only at hB1
  cases R with
  | inl ea =>
    obtain ⟨ea, er⟩ := ea
    have hF1 := fun k => vtR_l (hF _ (rv_drew hr1 k))
    go_enter Tryd.func78, Tryd.ntmps78
    go_wp2_with (first
      | (go_at_call 79; (with_reducible refine hB1.mono ?_); rintro e w1 ⟨rfl, k, rfl⟩)
      | (go_at_call 81; (with_reducible refine (hF1 _).mono ?_); rintro e w2 ⟨rfl, hg2⟩))
    exact ⟨rfl, rfl, grownV_two (grownV_two hg1 (grownV_drew _ _ _)) hg2⟩
  | inr vq =>
    obtain ⟨v, q2⟩ := vq
    have hF1 := fun k => vtR_r (hF _ (rv_drew hr1 k))
    have hz1' : ∀ k, VAt (((W.setCell ⟨p, 3, none⟩ (.int .i64 ((N : Int) + 1))).alloc (.cells vzero 24)).drewN k) W.heap.size vzero := fun k => hz1
    have hne : some W.heap.size ≠ some p := fun e => by injection e with e; omega
    go_enter Tryd.func78, Tryd.ntmps78
    go_wp2_with (first
      | (go_at_call 79; (with_reducible refine hB1.mono ?_); rintro e w1 ⟨rfl, k, rfl⟩)
      | (go_at_call 81; (with_reducible refine (hF1 _).mono ?_); rintro e w2 ⟨⟨v', d0, d1, d2, a9, len9, cap9, rfl, hF9, hv9⟩, hr2, hg2⟩; have hz2 := vat_kept (hz1' _) hg2 hne; obtain ⟨⟨y0, y1, y2, y3⟩, x0, x1, x2, x3⟩ := box4 hz2))
    refine bodyPost_ret (results_cell_row Tryd.results78 _ _ W.heap.size _ _ _ _ rfl (vat_set4 hz2 _ _ _ _) Tryd.underlying24 rfl val4) rfl ?_
    exact vt_end hpW hr2 (grownV_two (grownV_two hg1 (grownV_drew _ _ _)) hg2) (fresh_mono hF9 (Nat.le_of_eq hs1.symm)) hv9
set_option maxRecDepth 100000 in
set_option maxHeartbeats 2000000 in
theorem value_text (s : ByteArray) (p q o N : Nat) (W : World) (hr : RV W p s q o N) (hN : N ≤ 1000000) (R : Vt.Out (PV × Nat))
    (hB : ∀ V, RV V p s q o (N + 1) → Calls Tryd.prog 79 #[.pointer (some ⟨p, 0, none⟩)] V (BegunR q (some (.func (.func 82) #[.pointer (some ⟨p, 0, none⟩)] #[])) V))
    (hF : ∀ V, RV V p s q o (N + 1) → Calls Tryd.prog 82 #[.pointer (some ⟨p, 0, none⟩)] V (VtR p s o (N + 1) V R)) :
    Calls Tryd.prog 78 #[.pointer (some ⟨p, 0, none⟩)] W (VtR p s o (N + 1) W R) := by
  have hpW := rv_lt hr
  obtain ⟨hr1, hz1, hg1, hs1⟩ := value_world hr
  obtain ⟨⟨b0, b1, b2, b3⟩, e1, e2, e3⟩ := rv_cells hr
  obtain ⟨⟨c0, c1, c2, c3⟩, f1, f2, f3⟩ := rv_cells hr1
  have hB1 := hB _ hr1
  unfold BegunR at hB1
  simp only at hB1
  cases R with
  | inl ea =>
    obtain ⟨ea, er⟩ := ea
    have hF1 := fun k => vtR_l (hF _ (rv_drew hr1 k))
    go_enter Tryd.func78, Tryd.ntmps78
    go_wp2_with (first
      | (go_at_call 79; (with_reducible refine hB1.mono ?_); rintro e w1 ⟨rfl, k, rfl⟩)
      | (go_at_call 82; (with_reducible refine (hF1 _).mono ?_); rintro e w2 ⟨rfl, hg2⟩))
    exact ⟨rfl, rfl, grownV_two (grownV_two hg1 (grownV_drew _ _ _)) hg2⟩
  | inr vq =>
    obtain ⟨v, q2⟩ := vq
    have hF1 := fun k => vtR_r (hF _ (rv_drew hr1 k))
    have hz1' : ∀ k, VAt (((W.setCell ⟨p, 3, none⟩ (.int .i64 ((N : Int) + 1))).alloc (.cells vzero 24)).drewN k) W.heap.size vzero := fun k => hz1
    have hne : some W.heap.size ≠ some p := fun e => by injection e with e; omega
    go_enter Tryd.func78, Tryd.ntmps78
    go_wp2_with (first
      | (go_at_call 79; (with_reducible refine hB1.mono ?_); rintro e w1 ⟨rfl, k, rfl⟩)
      | (go_at_call 82; (with_reducible refine (hF1 _).mono ?_); rintro e w2 ⟨⟨v', d0, d1, d2, a9, len9, cap9, rfl, hF9, hv9⟩, hr2, hg2⟩; have hz2 := vat_kept (hz1' _) hg2 hne; obtain ⟨⟨y0, y1, y2, y3⟩, x0, x1, x2, x3⟩ := box4 hz2))
    refine bodyPost_ret (results_cell_row Tryd.results78 _ _ W.heap.size _ _ _ _ rfl (vat_set4 hz2 _ _ _ _) Tryd.underlying24 rfl val4) rfl ?_
    exact vt_end hpW hr2 (grownV_two (grownV_two hg1 (grownV_drew _ _ _)) hg2) (fresh_mono hF9 (Nat.le_of_eq hs1.symm)) hv9
set_option maxRecDepth 100000 in
set_option maxHeartbeats 2000000 in
theorem value_name (s : ByteArray) (p q o N : Nat) (W : World) (hr : RV W p s q o N) (hN : N ≤ 1000000) (R : Vt.Out (PV × Nat))
    (hB : ∀ V, RV V p s q o (N + 1) → Calls Tryd.prog 79 #[.pointer (some ⟨p, 0, none⟩)] V (BegunR q (some (.func (.func 83) #[.pointer (some ⟨p, 0, none⟩)] #[])) V))
    (hF : ∀ V, RV V p s q o (N + 1) → Calls Tryd.prog 83 #[.pointer (some ⟨p, 0, none⟩)] V (VtR p s o (N + 1) V R)) :
    Calls Tryd.prog 78 #[.pointer (some ⟨p, 0, none⟩)] W (VtR p s o (N + 1) W R) := by
  have hpW := rv_lt hr
  obtain ⟨hr1, hz1, hg1, hs1⟩ := value_world hr
  obtain ⟨⟨b0, b1, b2, b3⟩, e1, e2, e3⟩ := rv_cells hr
  obtain ⟨⟨c0, c1, c2, c3⟩, f1, f2, f3⟩ := rv_cells hr1
  have hB1 := hB _ hr1
  unfold BegunR at hB1
  simp only at hB1
  cases R with
  | inl ea =>
    obtain ⟨ea, er⟩ := ea
    have hF1 := fun k => vtR_l (hF _ (rv_drew hr1 k))
    go_enter Tryd.func78, Tryd.ntmps78
    go_wp2_with (first
      | (go_at_call 79; (with_reducible refine hB1.mono ?_); rintro e w1 ⟨rfl, k, rfl⟩)
      | (go_at_call 83; (with_reducible refine (hF1 _).mono ?_); rintro e w2 ⟨rfl, hg2⟩))
    exact ⟨rfl, rfl, grownV_two (grownV_two hg1 (grownV_drew _ _ _)) hg2⟩
  | inr vq =>
    obtain ⟨v, q2⟩ := vq
    have hF1 := fun k => vtR_r (hF _ (rv_drew hr1 k))
    have hz1' : ∀ k, VAt (((W.setCell ⟨p, 3, none⟩ (.int .i64 ((N : Int) + 1))).alloc (.cells vzero 24)).drewN k) W.heap.size vzero := fun k => hz1
    have hne : some W.heap.size ≠ some p := fun e => by injection e with e; omega
    go_enter Tryd.func78, Tryd.ntmps78
    go_wp2_with (first
      | (go_at_call 79; (with_reducible refine hB1.mono ?_); rintro e w1 ⟨rfl, k, rfl⟩)
      | (go_at_call 83; (with_reducible refine (hF1 _).mono ?_); rintro e w2 ⟨⟨v', d0, d1, d2, a9, len9, cap9, rfl, hF9, hv9⟩, hr2, hg2⟩; have hz2 := vat_kept (hz1' _) hg2 hne; obtain ⟨⟨y0, y1, y2, y3⟩, x0, x1, x2, x3⟩ := box4 hz2))
    refine bodyPost_ret (results_cell_row Tryd.results78 _ _ W.heap.size _ _ _ _ rfl (vat_set4 hz2 _ _ _ _) Tryd.underlying24 rfl val4) rfl ?_
    exact vt_end hpW hr2 (grownV_two (grownV_two hg1 (grownV_drew _ _ _)) hg2) (fresh_mono hF9 (Nat.le_of_eq hs1.symm)) hv9
set_option maxRecDepth 100000 in
set_option maxHeartbeats 2000000 in
theorem value_number (s : ByteArray) (p q o N : Nat) (W : World) (hr : RV W p s q o N) (hN : N ≤ 1000000) (R : Vt.Out (PV × Nat))
    (hB : ∀ V, RV V p s q o (N + 1) → Calls Tryd.prog 79 #[.pointer (some ⟨p, 0, none⟩)] V (BegunR q (some (.func (.func 85) #[.pointer (some ⟨p, 0, none⟩)] #[])) V))
    (hF : ∀ V, RV V p s q o (N + 1) → Calls Tryd.prog 85 #[.pointer (some ⟨p, 0, none⟩)] V (VtR p s o (N + 1) V R)) :
    Calls Tryd.prog 78 #[.pointer (some ⟨p, 0, none⟩)] W (VtR p s o (N + 1) W R) := by
  have hpW := rv_lt hr
  obtain ⟨hr1, hz1, hg1, hs1⟩ := value_world hr
  obtain ⟨⟨b0, b1, b2, b3⟩, e1, e2, e3⟩ := rv_cells hr
  obtain ⟨⟨c0, c1, c2, c3⟩, f1, f2, f3⟩ := rv_cells hr1
  have hB1 := hB _ hr1
  unfold BegunR at hB1
  simp only at hB1
  cases R with
  | inl ea =>
    obtain ⟨ea, er⟩ := ea
    have hF1 := fun k => vtR_l (hF _ (rv_drew hr1 k))
    go_enter Tryd.func78, Tryd.ntmps78
    go_wp2_with (first
      | (go_at_call 79; (with_reducible refine hB1.mono ?_); rintro e w1 ⟨rfl, k, rfl⟩)
      | (go_at_call 85; (with_reducible refine (hF1 _).mono ?_); rintro e w2 ⟨rfl, hg2⟩))
    exact ⟨rfl, rfl, grownV_two (grownV_two hg1 (grownV_drew _ _ _)) hg2⟩
  | inr vq =>
    obtain ⟨v, q2⟩ := vq
    have hF1 := fun k => vtR_r (hF _ (rv_drew hr1 k))
    have hz1' : ∀ k, VAt (((W.setCell ⟨p, 3, none⟩ (.int .i64 ((N : Int) + 1))).alloc (.cells vzero 24)).drewN k) W.heap.size vzero := fun k => hz1
    have hne : some W.heap.size ≠ some p := fun e => by injection e with e; omega
    go_enter Tryd.func78, Tryd.ntmps78
    go_wp2_with (first
      | (go_at_call 79; (with_reducible refine hB1.mono ?_); rintro e w1 ⟨rfl, k, rfl⟩)
      | (go_at_call 85; (with_reducible refine (hF1 _).mono ?_); rintro e w2 ⟨⟨v', d0, d1, d2, a9, len9, cap9, rfl, hF9, hv9⟩, hr2, hg2⟩; have hz2 := vat_kept (hz1' _) hg2 hne; obtain ⟨⟨y0, y1, y2, y3⟩, x0, x1, x2, x3⟩ := box4 hz2))
    refine bodyPost_ret (results_cell_row Tryd.results78 _ _ W.heap.size _ _ _ _ rfl (vat_set4 hz2 _ _ _ _) Tryd.underlying24 rfl val4) rfl ?_
    exact vt_end hpW hr2 (grownV_two (grownV_two hg1 (grownV_drew _ _ _)) hg2) (fresh_mono hF9 (Nat.le_of_eq hs1.symm)) hv9
set_option maxRecDepth 100000 in
set_option maxHeartbeats 2000000 in
theorem value_word (s : ByteArray) (p q o N : Nat) (W : World) (hr : RV W p s q o N) (hN : N ≤ 1000000) (R : Vt.Out (PV × Nat))
    (hB : ∀ V, RV V p s q o (N + 1) → Calls Tryd.prog 79 #[.pointer (some ⟨p, 0, none⟩)] V (BegunR q (some (.func (.func 86) #[.pointer (some ⟨p, 0, none⟩)] #[])) V))
    (hF : ∀ V, RV V p s q o (N + 1) → Calls Tryd.prog 86 #[.pointer (some ⟨p, 0, none⟩)] V (VtR p s o (N + 1) V R)) :
    Calls Tryd.prog 78 #[.pointer (some ⟨p, 0, none⟩)] W (VtR p s o (N + 1) W R) := by
  have hpW := rv_lt hr
  obtain ⟨hr1, hz1, hg1, hs1⟩ := value_world hr
  obtain ⟨⟨b0, b1, b2, b3⟩, e1, e2, e3⟩ := rv_cells hr
  obtain ⟨⟨c0, c1, c2, c3⟩, f1, f2, f3⟩ := rv_cells hr1
  have hB1 := hB _ hr1
  unfold BegunR at hB1
  simp only at hB1
  cases R with
  | inl ea =>
    obtain ⟨ea, er⟩ := ea
    have hF1 := fun k => vtR_l (hF _ (rv_drew hr1 k))
    go_enter Tryd.func78, Tryd.ntmps78
    go_wp2_with (first
      | (go_at_call 79; (with_reducible refine hB1.mono ?_); rintro e w1 ⟨rfl, k, rfl⟩)
      | (go_at_call 86; (with_reducible refine (hF1 _).mono ?_); rintro e w2 ⟨rfl, hg2⟩))
    exact ⟨rfl, rfl, grownV_two (grownV_two hg1 (grownV_drew _ _ _)) hg2⟩
  | inr vq =>
    obtain ⟨v, q2⟩ := vq
    have hF1 := fun k => vtR_r (hF _ (rv_drew hr1 k))
    have hz1' : ∀ k, VAt (((W.setCell ⟨p, 3, none⟩ (.int .i64 ((N : Int) + 1))).alloc (.cells vzero 24)).drewN k) W.heap.size vzero := fun k => hz1
    have hne : some W.heap.size ≠ some p := fun e => by injection e with e; omega
    go_enter Tryd.func78, Tryd.ntmps78
    go_wp2_with (first
      | (go_at_call 79; (with_reducible refine hB1.mono ?_); rintro e w1 ⟨rfl, k, rfl⟩)
      | (go_at_call 86; (with_reducible refine (hF1 _).mono ?_); rintro e w2 ⟨⟨v', d0, d1, d2, a9, len9, cap9, rfl, hF9, hv9⟩, hr2, hg2⟩; have hz2 := vat_kept (hz1' _) hg2 hne; obtain ⟨⟨y0, y1, y2, y3⟩, x0, x1, x2, x3⟩ := box4 hz2))
    refine bodyPost_ret (results_cell_row Tryd.results78 _ _ W.heap.size _ _ _ _ rfl (vat_set4 hz2 _ _ _ _) Tryd.underlying24 rfl val4) rfl ?_
    exact vt_end hpW hr2 (grownV_two (grownV_two hg1 (grownV_drew _ _ _)) hg2) (fresh_mono hF9 (Nat.le_of_eq hs1.symm)) hv9
set_option maxRecDepth 100000 in
theorem value_none (s : ByteArray) (p q o N : Nat) (W : World) (hr : RV W p s q o N) (hN : N ≤ 1000000) (a : Nat)
    (hB : ∀ V, RV V p s q o (N + 1) → Calls Tryd.prog 79 #[.pointer (some ⟨p, 0, none⟩)] V fun e w' => e = .panicked (wrongT (a : Int) 2) ∧ ∃ k, w' = V.drewN k) :
    Calls Tryd.prog 78 #[.pointer (some ⟨p, 0, none⟩)] W (VtR p s o (N + 1) W (.inl (a, 2))) := by
  have hpW := rv_lt hr
  obtain ⟨hr1, hz1, hg1, hs1⟩ := value_world hr
  obtain ⟨⟨b0, b1, b2, b3⟩, e1, e2, e3⟩ := rv_cells hr
  obtain ⟨⟨c0, c1, c2, c3⟩, f1, f2, f3⟩ := rv_cells hr1
  have hB1 := hB _ hr1
  go_enter Tryd.func78, Tryd.ntmps78
  go_wp2_with (go_at_call 79; (with_reducible refine hB1.mono ?_); rintro e w1 ⟨rfl, k, rfl⟩)
  exact ⟨rfl, rfl, grownV_two hg1 (grownV_drew _ _ _)⟩
/-- value over what a list's values come to -/
theorem value_of (s : ByteArray) (p o : Nat) (hsm : s.size ≤ 1000000) (sub : Nat → Vt.Out (List PV × Nat))
    (hL : ∀ q N W, q < s.size → N ≤ q + 1 → 1 ≤ N → RV W p s q o N → Calls Tryd.prog 81 #[.pointer (some ⟨p, 0, none⟩)] W (VtR p s o N W (Vt.lsV (sub q)))) : ValC s p o (Vt.one sub (strB s)) := by
  intro q N W hq hN hr
  unfold Vt.one
  by_cases hlt : q < s.size
  · rw [if_neg (by rw [strB_len]; omega)]
    have hB : ∀ V, RV V p s q o (N + 1) → Calls Tryd.prog 79 #[.pointer (some ⟨p, 0, none⟩)] V (BegunR q (begunF p ((strB s)[q]?.getD 0)) V) := fun V hV => begun_any s p q o (N + 1) V hsm hlt hV
    have hT := fun V hV => vtext_any s p q o (N + 1) V hsm (by omega) hlt hV
    have hNm := fun V hV => vname_any s p q o (N + 1) V hsm (by omega) hlt hV
    have hNu := fun V hV => vnumber_any s p q o (N + 1) V hsm (by omega) hlt hV
    have hWd := fun V hV => vword_any s p q o (N + 1) V hsm (by omega) hlt hV
    unfold Vt.flat
    obtain ⟨x, hx⟩ : ∃ x, (strB s)[q]?.getD 0 = x := ⟨_, rfl⟩
    rw [hx] at hB ⊢
    by_cases h1 : x = 91
    · rw [if_pos h1]
      have e : begunF p x = _ := if_pos h1
      rw [e] at hB
      exact value_list s p q o N W hr (by omega) _ hB (fun V hV => hL q (N + 1) V hlt (by omega) (by omega) hV)
    rw [if_neg h1]
    by_cases h2 : x = 34
    · rw [if_pos h2]
      have e : begunF p x = _ := (if_neg h1).trans (if_pos h2)
      rw [e] at hB
      exact value_text s p q o N W hr (by omega) _ hB hT
    rw [if_neg h2]
    by_cases h3 : x = 39
    · rw [if_pos h3]
      have e : begunF p x = _ := (if_neg h1).trans ((if_neg h2).trans (if_pos h3))
      rw [e] at hB
      exact value_name s p q o N W hr (by omega) _ hB hNm
    rw [if_neg h3]
    by_cases h4 : x = 45 ∨ M.isD x = true
    · rw [if_pos h4]
      have e : begunF p x = _ := (if_neg h1).trans ((if_neg h2).trans ((if_neg h3).trans (if_pos h4)))
      rw [e] at hB
      exact value_number s p q o N W hr (by omega) _ hB hNu
    rw [if_neg h4]
    by_cases h5 : letterB x = true
    · rw [if_pos h5]
      have e : begunF p x = _ := (if_neg h1).trans ((if_neg h2).trans ((if_neg h3).trans ((if_neg h4).trans (if_pos h5))))
      rw [e] at hB
      exact value_word s p q o N W hr (by omega) _ hB hWd
    rw [if_neg h5]
    have e : begunF p x = none := (if_neg h1).trans ((if_neg h2).trans ((if_neg h3).trans ((if_neg h4).trans (if_neg h5))))
    rw [e] at hB
    exact value_none s p q o N W hr (by omega) q (fun V hV => (hB V hV).mono fun e w' h => h)
  · obtain rfl : q = s.size := by omega
    rw [if_pos (by rw [strB_len]; omega), strB_len]
    exact value_none s p s.size o N W hr (by omega) s.size (fun V hV => begun_end s p o (N + 1) V hsm hV)
/-- value, so many lists open -/
theorem value_any (s : ByteArray) (p : Nat) (hsm : s.size ≤ 1000000) : ∀ d o, d + o = 4 → ValC s p o (Vt.val d (strB s)) := by
  intro d
  induction d with
  | zero =>
    intro o ho
    obtain rfl : o = 4 := by omega
    exact value_of s p 4 hsm _ (fun q N W _ _ _ hr => list_deep s p q N W hsm hr)
  | succ d ih =>
    intro o ho
    exact value_of s p o hsm _ (fun q N W hq hN hN1 hr => vlist_any s p o q N W hsm (by omega) hq hN hN1 (Vt.val d (strB s)) (ih (o + 1) (by omega)) (fun q v q' _ h => by have := Vt.val_place (strB s) d q v q' h; rwa [strB_len] at this) hr)
end Go.Proofs.YtcicjpdjbfgbhaaDoor
