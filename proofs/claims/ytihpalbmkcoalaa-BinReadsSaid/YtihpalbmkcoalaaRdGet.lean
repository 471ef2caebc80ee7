/- The document's reader for layer 6: get, of what is no list (made by gen_rdget.py: one block for each kind). -/
import Derived.Test.YtihpalbmkcoalaaRdRow
namespace Go.Proofs.Ytihpalbmkcoalaa
open Go.RowKit Go.Shelf
attribute [local go_sem] Oper.semAt_some
theorem rByte_lt' {S : Src} {W : World} {p : Nat} {s : Bn.St} (h : RT S W p s) : (Bn.rByte s).1 < 256 := Bn.num_lt 1 s (rt_bytes h)
theorem rt_len' {S : Src} {W : World} {p : Nat} {s : Bn.St} (h : RT S W p s) : (Bn.lf s).length ≤ maxLen := Nat.le_trans (rt_len h) (by have := S.small; unfold maxLen; omega)
theorem rtText_size {S : Src} {W : World} {p : Nat} {s : Bn.St} (h : RT S W p s) : (Bn.rText s).1.size ≤ maxLen := txt_size (Nat.le_trans (rNum_len s) (rt_len' h))
theorem vat_two (w : World) : VAt ((w.alloc (.cells vzero 24)).alloc (.cells vzero 24)) w.heap.size vzero ∧ VAt ((w.alloc (.cells vzero 24)).alloc (.cells vzero 24)) (w.heap.size + 1) vzero := by
  refine ⟨vat_below ((Below.refl _ _).alloc (Nat.le_refl _) _) (vat_alloc w vzero), ?_⟩
  have := vat_alloc (w.alloc (.cells vzero 24)) vzero
  rwa [World.size_alloc] at this
theorem below_two (w : World) : Below w.heap.size w ((w.alloc (.cells vzero 24)).alloc (.cells vzero 24)) := ((Below.refl _ w).alloc (Nat.le_refl _) _).alloc (by simp) _
set_option maxRecDepth 100000 in
set_option maxHeartbeats 4000000 in
theorem rget_1 (S : Src) (d p : Nat) (s : Bn.St) (w : World) (h : RT S w p s) (hk : (Bn.rByte s).1 = 1) :
    Calls Try.prog 60 #[.pointer (some ⟨p, 0, none⟩), .int .i64 (d : Int)] w (GRet S p w (.mk 1 (Bn.rByte (Bn.rByte s).2).1 ⟨#[]⟩ []) (Bn.rByte (Bn.rByte s).2).2) := by
  have hpw := rt_lt h
  obtain ⟨hz0, hv0⟩ := vat_two w
  have hA0 := below_two w
  have hG0 := grown_of_below hA0 (some p)
  have hBy := rtByte_any S p s _ (rt_below h hA0)
  rw [hk] at hBy
  have hBy1 : Calls Try.prog 29 #[.pointer (some ⟨p, 0, none⟩)] _ (RtInt S p _ 1 (Bn.rByte s).2) := hBy
  generalize (Bn.rByte s).2 = s1 at *
  clear h hk hA0 hBy
  go_enter Try.func60, Try.ntmps60
  go_wp2_with (first
    | (go_at_call 29; ((with_reducible refine hBy1.mono ?_); rintro e w2 ⟨rfl, hR2, hg2⟩; have hgw2 := grown_then hG0 hg2; have hz2 := vat_grown hz0 hg2 (by omega); have hv2 := vat_grown hv0 hg2 (by omega); obtain ⟨⟨e0, e1, e2, e3⟩, f0, f1, f2, f3⟩ := box4 hv2; have hv3 : VAt (w2.setCell ⟨w.heap.size + 1, 0, none⟩ (.int .i64 1)) (w.heap.size + 1) #[.int .i64 1, .int .i64 0, .string ⟨#[]⟩, .slice none 0 0] := vat_set hv2 0 _; have hz3 := vat_other hz2 (show w.heap.size ≠ w.heap.size + 1 by omega) 0 (.int .i64 1); have hR3 := rt_set hR2 (show p < w.heap.size + 1 by omega) 0 (.int .i64 1); have hgw3 := grown_new hgw2 (show w.heap.size ≤ w.heap.size + 1 by omega) 0 (.int .i64 1); have hkn := rByte_lt' hR3; have hC := rtByte_any S p s1 _ hR3; clear hBy1))
    | (go_at_call 29; ((with_reducible refine hC.mono ?_); rintro e w4 ⟨rfl, hR4, hg4⟩; have hgw4 := grown_then hgw3 hg4; have hz4 := vat_grown hz3 hg4 (by omega); have hv4 := vat_grown hv3 hg4 (by omega); obtain ⟨⟨p0, p1, p2, p3⟩, q0, q1, q2, q3⟩ := box4 hv4; obtain ⟨⟨r0, r1, r2, r3⟩, t0, t1, t2, t3⟩ := box4 hz4)))
  have hz5 := vat_other hz4 (show w.heap.size ≠ w.heap.size + 1 by omega) 1 (.int .i64 ((Bn.rByte s1).1 : Int))
  refine bodyPost_ret (results_cell_row Try.results60 _ _ w.heap.size _ _ _ _ rfl (vat_set4 hz5 _ _ _ _) Try.underlying24 rfl val4) rfl ?_
  exact get_end hpw (rt_set hR4 (by omega) _ _) (grown_new hgw4 (by omega) _ _) fun _ => fresh_flat _ _ 1 _ _ ⟨by omega, by omega⟩ ⟨by omega, by omega⟩ (by unfold maxLen; decide)
set_option maxRecDepth 100000 in
set_option maxHeartbeats 4000000 in
theorem rget_2 (S : Src) (d p : Nat) (s : Bn.St) (w : World) (h : RT S w p s) (hk : (Bn.rByte s).1 = 2) :
    Calls Try.prog 60 #[.pointer (some ⟨p, 0, none⟩), .int .i64 (d : Int)] w (GRet S p w (.mk 2 (Bn.rLong (Bn.rByte s).2).1 ⟨#[]⟩ []) (Bn.rLong (Bn.rByte s).2).2) := by
  have hpw := rt_lt h
  obtain ⟨hz0, hv0⟩ := vat_two w
  have hA0 := below_two w
  have hG0 := grown_of_below hA0 (some p)
  have hBy := rtByte_any S p s _ (rt_below h hA0)
  rw [hk] at hBy
  have hBy1 : Calls Try.prog 29 #[.pointer (some ⟨p, 0, none⟩)] _ (RtInt S p _ 2 (Bn.rByte s).2) := hBy
  generalize (Bn.rByte s).2 = s1 at *
  clear h hk hA0 hBy
  go_enter Try.func60, Try.ntmps60
  go_wp2_with (first
    | (go_at_call 29; ((with_reducible refine hBy1.mono ?_); rintro e w2 ⟨rfl, hR2, hg2⟩; have hgw2 := grown_then hG0 hg2; have hz2 := vat_grown hz0 hg2 (by omega); have hv2 := vat_grown hv0 hg2 (by omega); obtain ⟨⟨e0, e1, e2, e3⟩, f0, f1, f2, f3⟩ := box4 hv2; have hv3 : VAt (w2.setCell ⟨w.heap.size + 1, 0, none⟩ (.int .i64 2)) (w.heap.size + 1) #[.int .i64 2, .int .i64 0, .string ⟨#[]⟩, .slice none 0 0] := vat_set hv2 0 _; have hz3 := vat_other hz2 (show w.heap.size ≠ w.heap.size + 1 by omega) 0 (.int .i64 2); have hR3 := rt_set hR2 (show p < w.heap.size + 1 by omega) 0 (.int .i64 2); have hgw3 := grown_new hgw2 (show w.heap.size ≤ w.heap.size + 1 by omega) 0 (.int .i64 2); have hkn := rLong_bd s1; have hC := rtLong_any S p s1 _ hR3; clear hBy1))
    | (go_at_call 31; ((with_reducible refine hC.mono ?_); rintro e w4 ⟨rfl, hR4, hg4⟩; have hgw4 := grown_then hgw3 hg4; have hz4 := vat_grown hz3 hg4 (by omega); have hv4 := vat_grown hv3 hg4 (by omega); obtain ⟨⟨p0, p1, p2, p3⟩, q0, q1, q2, q3⟩ := box4 hv4; obtain ⟨⟨r0, r1, r2, r3⟩, t0, t1, t2, t3⟩ := box4 hz4)))
  have hz5 := vat_other hz4 (show w.heap.size ≠ w.heap.size + 1 by omega) 1 (.int .i64 (Bn.rLong s1).1)
  refine bodyPost_ret (results_cell_row Try.results60 _ _ w.heap.size _ _ _ _ rfl (vat_set4 hz5 _ _ _ _) Try.underlying24 rfl val4) rfl ?_
  exact get_end hpw (rt_set hR4 (by omega) _ _) (grown_new hgw4 (by omega) _ _) fun _ => fresh_flat _ _ 2 _ _ ⟨by omega, by omega⟩ hkn (by unfold maxLen; decide)
set_option maxRecDepth 100000 in
set_option maxHeartbeats 4000000 in
theorem rget_3 (S : Src) (d p : Nat) (s : Bn.St) (w : World) (h : RT S w p s) (hk : (Bn.rByte s).1 = 3) :
    Calls Try.prog 60 #[.pointer (some ⟨p, 0, none⟩), .int .i64 (d : Int)] w (GRet S p w (.mk 3 0 (Bn.rText (Bn.rByte s).2).1 []) (Bn.rText (Bn.rByte s).2).2) := by
  have hpw := rt_lt h
  obtain ⟨hz0, hv0⟩ := vat_two w
  have hA0 := below_two w
  have hG0 := grown_of_below hA0 (some p)
  have hBy := rtByte_any S p s _ (rt_below h hA0)
  rw [hk] at hBy
  have hBy1 : Calls Try.prog 29 #[.pointer (some ⟨p, 0, none⟩)] _ (RtInt S p _ 3 (Bn.rByte s).2) := hBy
  generalize (Bn.rByte s).2 = s1 at *
  clear h hk hA0 hBy
  go_enter Try.func60, Try.ntmps60
  go_wp2_with (first
    | (go_at_call 29; ((with_reducible refine hBy1.mono ?_); rintro e w2 ⟨rfl, hR2, hg2⟩; have hgw2 := grown_then hG0 hg2; have hz2 := vat_grown hz0 hg2 (by omega); have hv2 := vat_grown hv0 hg2 (by omega); obtain ⟨⟨e0, e1, e2, e3⟩, f0, f1, f2, f3⟩ := box4 hv2; have hv3 : VAt (w2.setCell ⟨w.heap.size + 1, 0, none⟩ (.int .i64 3)) (w.heap.size + 1) #[.int .i64 3, .int .i64 0, .string ⟨#[]⟩, .slice none 0 0] := vat_set hv2 0 _; have hz3 := vat_other hz2 (show w.heap.size ≠ w.heap.size + 1 by omega) 0 (.int .i64 3); have hR3 := rt_set hR2 (show p < w.heap.size + 1 by omega) 0 (.int .i64 3); have hgw3 := grown_new hgw2 (show w.heap.size ≤ w.heap.size + 1 by omega) 0 (.int .i64 3); have hkn := rtText_size hR3; have hC := rtText_any S p s1 _ hR3; clear hBy1))
    | (go_at_call 32; ((with_reducible refine hC.mono ?_); rintro e w4 ⟨rfl, hR4, hg4⟩; have hgw4 := grown_then hgw3 hg4; have hz4 := vat_grown hz3 hg4 (by omega); have hv4 := vat_grown hv3 hg4 (by omega); obtain ⟨⟨p0, p1, p2, p3⟩, q0, q1, q2, q3⟩ := box4 hv4; obtain ⟨⟨r0, r1, r2, r3⟩, t0, t1, t2, t3⟩ := box4 hz4)))
  have hz5 := vat_other hz4 (show w.heap.size ≠ w.heap.size + 1 by omega) 2 (.string (Bn.rText s1).1)
  refine bodyPost_ret (results_cell_row Try.results60 _ _ w.heap.size _ _ _ _ rfl (vat_set4 hz5 _ _ _ _) Try.underlying24 rfl val4) rfl ?_
  exact get_end hpw (rt_set hR4 (by omega) _ _) (grown_new hgw4 (by omega) _ _) fun _ => fresh_flat _ _ 3 _ _ ⟨by omega, by omega⟩ ⟨by omega, by omega⟩ hkn
set_option maxRecDepth 100000 in
set_option maxHeartbeats 4000000 in
theorem rget_4 (S : Src) (d p : Nat) (s : Bn.St) (w : World) (h : RT S w p s) (hk : (Bn.rByte s).1 = 4) :
    Calls Try.prog 60 #[.pointer (some ⟨p, 0, none⟩), .int .i64 (d : Int)] w (GRet S p w (.mk 4 0 (Bn.rText (Bn.rByte s).2).1 []) (Bn.rText (Bn.rByte s).2).2) := by
  have hpw := rt_lt h
  obtain ⟨hz0, hv0⟩ := vat_two w
  have hA0 := below_two w
  have hG0 := grown_of_below hA0 (some p)
  have hBy := rtByte_any S p s _ (rt_below h hA0)
  rw [hk] at hBy
  have hBy1 : Calls Try.prog 29 #[.pointer (some ⟨p, 0, none⟩)] _ (RtInt S p _ 4 (Bn.rByte s).2) := hBy
  generalize (Bn.rByte s).2 = s1 at *
  clear h hk hA0 hBy
  go_enter Try.func60, Try.ntmps60
  go_wp2_with (first
    | (go_at_call 29; ((with_reducible refine hBy1.mono ?_); rintro e w2 ⟨rfl, hR2, hg2⟩; have hgw2 := grown_then hG0 hg2; have hz2 := vat_grown hz0 hg2 (by omega); have hv2 := vat_grown hv0 hg2 (by omega); obtain ⟨⟨e0, e1, e2, e3⟩, f0, f1, f2, f3⟩ := box4 hv2; have hv3 : VAt (w2.setCell ⟨w.heap.size + 1, 0, none⟩ (.int .i64 4)) (w.heap.size + 1) #[.int .i64 4, .int .i64 0, .string ⟨#[]⟩, .slice none 0 0] := vat_set hv2 0 _; have hz3 := vat_other hz2 (show w.heap.size ≠ w.heap.size + 1 by omega) 0 (.int .i64 4); have hR3 := rt_set hR2 (show p < w.heap.size + 1 by omega) 0 (.int .i64 4); have hgw3 := grown_new hgw2 (show w.heap.size ≤ w.heap.size + 1 by omega) 0 (.int .i64 4); have hkn := rtText_size hR3; have hC := rtText_any S p s1 _ hR3; clear hBy1))
    | (go_at_call 32; ((with_reducible refine hC.mono ?_); rintro e w4 ⟨rfl, hR4, hg4⟩; have hgw4 := grown_then hgw3 hg4; have hz4 := vat_grown hz3 hg4 (by omega); have hv4 := vat_grown hv3 hg4 (by omega); obtain ⟨⟨p0, p1, p2, p3⟩, q0, q1, q2, q3⟩ := box4 hv4; obtain ⟨⟨r0, r1, r2, r3⟩, t0, t1, t2, t3⟩ := box4 hz4)))
  have hz5 := vat_other hz4 (show w.heap.size ≠ w.heap.size + 1 by omega) 2 (.string (Bn.rText s1).1)
  refine bodyPost_ret (results_cell_row Try.results60 _ _ w.heap.size _ _ _ _ rfl (vat_set4 hz5 _ _ _ _) Try.underlying24 rfl val4) rfl ?_
  exact get_end hpw (rt_set hR4 (by omega) _ _) (grown_new hgw4 (by omega) _ _) fun _ => fresh_flat _ _ 4 _ _ ⟨by omega, by omega⟩ ⟨by omega, by omega⟩ hkn
set_option maxRecDepth 100000 in
set_option maxHeartbeats 4000000 in
theorem rget_else (S : Src) (d p : Nat) (s : Bn.St) (w : World) (h : RT S w p s) (k1 : (Bn.rByte s).1 ≠ 1) (k2 : (Bn.rByte s).1 ≠ 2) (k34 : ¬ ((Bn.rByte s).1 = 3 ∨ (Bn.rByte s).1 = 4)) (k5 : (Bn.rByte s).1 ≠ 5) :
    Calls Try.prog 60 #[.pointer (some ⟨p, 0, none⟩), .int .i64 (d : Int)] w (GRet S p w (.mk (Bn.rByte s).1 0 ⟨#[]⟩ []) (Bn.rByte s).2) := by
  have hpw := rt_lt h
  obtain ⟨hz0, hv0⟩ := vat_two w
  have hA0 := below_two w
  have hG0 := grown_of_below hA0 (some p)
  have hBy1 := rtByte_any S p s _ (rt_below h hA0)
  have hkk := rByte_lt' h
  generalize (Bn.rByte s).1 = kk at *
  generalize (Bn.rByte s).2 = s1 at *
  have hI : I64 (kk : Int) := ⟨by omega, by omega⟩
  have d1 : ((kk : Int) == 1) = false := by simp; omega
  have d2 : ((kk : Int) == 2) = false := by simp; omega
  have d3 : ((kk : Int) == 3) = false := by simp; omega
  have d4 : ((kk : Int) == 4) = false := by simp; omega
  have d5 : ((kk : Int) == 5) = false := by simp; omega
  clear h hA0 k1 k2 k34 k5
  go_enter Try.func60, Try.ntmps60
  go_wp2_with (first
    | (go_at_call 29; ((with_reducible refine hBy1.mono ?_); rintro e w2 ⟨rfl, hR2, hg2⟩; have hgw2 := grown_then hG0 hg2; have hz2 := vat_grown hz0 hg2 (by omega); have hv2 := vat_grown hv0 hg2 (by omega); obtain ⟨⟨e0, e1, e2, e3⟩, f0, f1, f2, f3⟩ := box4 hv2; obtain ⟨⟨r0, r1, r2, r3⟩, t0, t1, t2, t3⟩ := box4 hz2)))
  have hz5 := vat_other hz2 (show w.heap.size ≠ w.heap.size + 1 by omega) 0 (.int .i64 (kk : Int))
  refine bodyPost_ret (results_cell_row Try.results60 _ _ w.heap.size _ _ _ _ rfl (vat_set4 hz5 _ _ _ _) Try.underlying24 rfl val4) rfl ?_
  exact get_end hpw (rt_set hR2 (by omega) _ _) (grown_new hgw2 (by omega) _ _) fun _ => fresh_flat _ _ _ 0 _ hI ⟨by omega, by omega⟩ (by unfold maxLen; decide)
end Go.Proofs.Ytihpalbmkcoalaa
