/- The document's reader for layer 6: get, of a list; get of every depth. -/
import Derived.Test.YtihpalbmkcoalaaRdGet
import Derived.Deep.RegionLaw
namespace Go.Proofs.Ytihpalbmkcoalaa
open Go.RowKit Go.Shelf
attribute [local go_sem] Oper.semAt_some
theorem below_drew1 (w : World) : Below w.heap.size w w.drew := ⟨rfl, rfl, rfl, Nat.le_refl _, fun _ _ => rfl⟩
theorem rt_grown {S : Src} {W W' : World} {p : Nat} {s : Bn.St} {row : Option Nat} (h : RT S W p s) (hg : W.grownBy W' row) (hr : ∀ g, row = some g → p < g) : RT S W' p s :=
  rt_kept h ⟨hg.os, hg.tape, hg.output, hg.size, fun k hk => hg.block k (by have := rt_lt h; have := h.1; omega) (fun e => by have := hr k e.symm; have := h.1; omega)⟩ (hg.block p (rt_lt h) (fun e => by have := hr p e.symm; omega))
theorem grown_past {w W W' : World} {p : Option Nat} {row : Option Nat} (h : w.grownBy W p) (hg : W.grownBy W' row) (hr : ∀ g, row = some g → w.heap.size ≤ g) : w.grownBy W' p :=
  ⟨hg.os.trans h.os, hg.tape.trans h.tape, hg.output.trans h.output, Nat.le_trans h.size hg.size, fun k hk hne => (hg.block k (Nat.lt_of_lt_of_le hk h.size) (fun e => by have := hr k e.symm; omega)).trans (h.block k hk hne)⟩
theorem own_form {w : World} {base : Nat} {e : TypeId} {size : Nat} {v : Value} {n : Nat} {xs : List Value} (h : w.ownsRow base e size v n xs) : ∃ a n c, v = .slice a n c := by
  rcases h.2 with ⟨rfl, _⟩ | ⟨g, cap, cur, rfl, _⟩ <;> exact ⟨_, _, _, rfl⟩
theorem rep_dead (g : Bn.St → PV × Bn.St) (hg : (g none).2 = none) (s : Bn.St) {q : Nat} (h : (Bn.rep g q s).2 = none) : ∀ n, q ≤ n → (Bn.rep g n s).2 = none := by
  intro n
  induction n with
  | zero => intro hn; obtain rfl : q = 0 := by omega
            exact h
  | succ n ih =>
    intro hn
    rcases Nat.lt_or_ge q (n + 1) with h1 | h1
    · simp only [Bn.rep]; rw [ih (by omega), hg]
    · obtain rfl : q = n + 1 := by omega
      exact h
set_option maxRecDepth 100000 in
set_option maxHeartbeats 4000000 in
theorem rget_bad (S : Src) (d p : Nat) (s : Bn.St) (w : World) (h : RT S w p s) (hk : (Bn.rByte s).1 = 5) (hb : 20 < (Bn.rNum (Bn.rByte s).2).1 ∨ d = 0) (v : PV) :
    Calls Try.prog 60 #[.pointer (some ⟨p, 0, none⟩), .int .i64 (d : Int)] w (GRet S p w v none) := by
  have hpw := rt_lt h
  obtain ⟨hz0, hv0⟩ := vat_two w
  have hA0 := below_two w
  have hG0 := grown_of_below hA0 (some p)
  have hBy := rtByte_any S p s _ (rt_below h hA0)
  rw [hk] at hBy
  have hBy1 : Calls Try.prog 29 #[.pointer (some ⟨p, 0, none⟩)] _ (RtInt S p _ 5 (Bn.rByte s).2) := hBy
  generalize (Bn.rByte s).2 = s1 at *
  clear h hk hA0 hBy
  have hN := fun W (h : RT S W p s1) => rtNum_any S p s1 W h
  generalize (Bn.rNum s1).1 = n at *
  generalize (Bn.rNum s1).2 = s2 at *
  have HN := Lib.hid hN; clear hN
  have hor : (decide ((20 : Int) < (n : Int)) = true) ∨ (decide ((20 : Int) < (n : Int)) = false ∧ ((d : Int) == 0) = true) := by
    rcases Nat.lt_or_ge 20 n with h1 | h1
    · exact .inl (by simp; omega)
    · exact .inr ⟨by simp; omega, by simp; omega⟩
  clear hb
  rcases hor with hd20 | ⟨hd20, hd0⟩
  all_goals (
    go_enter Try.func60, Try.ntmps60
    go_wp2_with (first
      | (go_at_call 29; ((with_reducible refine hBy1.mono ?_); rintro e w2 ⟨rfl, hR2, hg2⟩; have hgw2 := grown_then hG0 hg2; have hz2 := vat_grown hz0 hg2 (by omega); have hv2 := vat_grown hv0 hg2 (by omega); obtain ⟨⟨e0, e1, e2, e3⟩, f0, f1, f2, f3⟩ := box4 hv2; have hv3 : VAt (w2.setCell ⟨w.heap.size + 1, 0, none⟩ (.int .i64 5)) (w.heap.size + 1) #[.int .i64 5, .int .i64 0, .string ⟨#[]⟩, .slice none 0 0] := vat_set hv2 0 _; have hz3 := vat_other hz2 (show w.heap.size ≠ w.heap.size + 1 by omega) 0 (.int .i64 5); have hR3 := rt_set hR2 (show p < w.heap.size + 1 by omega) 0 (.int .i64 5); have hgw3 := grown_new hgw2 (show w.heap.size ≤ w.heap.size + 1 by omega) 0 (.int .i64 5); clear hBy1))
      | (go_at_call 30; ((with_reducible refine (HN.out _ hR3).mono ?_); rintro e w4 ⟨rfl, hR4, hg4⟩; have hgw4 := grown_then hgw3 hg4; have hz4 := vat_grown hz3 hg4 (by omega); have hv4 := vat_grown hv3 hg4 (by omega); obtain ⟨_, _, k4, hk4, hA4, hx4⟩ := id hR4; obtain ⟨⟨a0, a1, a2⟩, b0, b1, b2⟩ := tAt_cells hA4)))
    have hR5 := rt_bad hR4
    have hz5 := vat_other hz4 (show w.heap.size ≠ p by omega) 2 (.bool true)
    have hv5 := vat_other hv4 (show w.heap.size + 1 ≠ p by omega) 2 (.bool true)
    have hG5 := grown_then hgw4 (grown_set1 p 2 (.bool true))
    generalize w4.setCell ⟨p, 2, none⟩ (.bool true) = W5 at *
    obtain ⟨_, _, k5, hk5, hA5, hx5⟩ := id hR5
    obtain ⟨⟨m0, m1, m2⟩, n0, n1, n2⟩ := tAt_cells hA5
    simp only [Option.isNone_none] at m2
    obtain ⟨⟨p0, p1, p2, p3⟩, q0, q1, q2, q3⟩ := box4 hv5
    obtain ⟨⟨r0, r1, r2, r3⟩, t0, t1, t2, t3⟩ := box4 hz5
    clear e0 e1 e2 e3 f0 f1 f2 f3 a0 a1 a2 b0 b1 b2 hv0 hz0 hv2 hz2 hv3 hz3 hv4 hz4
    go_loopw [7] (fun i wr => i = .int .i64 0 ∧ wr = W5) (fun i _ => 0)
    case atStart => exact ⟨rfl, rfl⟩
    case round =>
      obtain ⟨rfl, rfl⟩ := hrel
      rcases Nat.eq_zero_or_pos n with hn | hn
      · have hdn : decide ((0 : Int) < (n : Int)) = false := by simp; omega
        go_wp2
        refine bodyPost_ret (results_cell_row Try.results60 _ _ w.heap.size _ _ _ _ rfl (vat_set4 hz5 _ _ _ _) Try.underlying24 rfl val4) rfl ?_
        exact get_end hpw hR5 hG5 fun hs => absurd rfl hs
      · have hdn : decide ((0 : Int) < (n : Int)) = true := by simp; omega
        go_wp2
        refine bodyPost_ret (results_cell_row Try.results60 _ _ w.heap.size _ _ _ _ rfl (vat_set4 hz5 _ _ _ _) Try.underlying24 rfl val4) rfl ?_
        exact get_end hpw hR5 hG5 fun hs => absurd rfl hs)
set_option maxRecDepth 100000 in
set_option maxHeartbeats 4000000 in
theorem rget_good (S : Src) (d : Nat) (hd : d ≤ 4) (hrec : ∀ p s w, RT S w p s → Calls Try.prog 60 #[.pointer (some ⟨p, 0, none⟩), .int .i64 (d : Int)] w (GRet S p w (Bn.get d s).1 (Bn.get d s).2))
    (p : Nat) (s : Bn.St) (w : World) (h : RT S w p s) (hk : (Bn.rByte s).1 = 5) (hb : (Bn.rNum (Bn.rByte s).2).1 ≤ 20) :
    Calls Try.prog 60 #[.pointer (some ⟨p, 0, none⟩), .int .i64 ((d : Int) + 1)] w (GRet S p w (.mk 5 0 ⟨#[]⟩ (Bn.rep (Bn.get d) (Bn.rNum (Bn.rByte s).2).1 (Bn.rNum (Bn.rByte s).2).2).1) (Bn.rep (Bn.get d) (Bn.rNum (Bn.rByte s).2).1 (Bn.rNum (Bn.rByte s).2).2).2) := by
  have hpw := rt_lt h
  obtain ⟨hz0, hv0⟩ := vat_two w
  have hA0 := below_two w
  have hG0 := grown_of_below hA0 (some p)
  have hBy := rtByte_any S p s _ (rt_below h hA0)
  rw [hk] at hBy
  have hBy1 : Calls Try.prog 29 #[.pointer (some ⟨p, 0, none⟩)] _ (RtInt S p _ 5 (Bn.rByte s).2) := hBy
  generalize (Bn.rByte s).2 = s1 at *
  clear h hk hA0 hBy
  have hN := fun W (h : RT S W p s1) => rtNum_any S p s1 W h
  generalize (Bn.rNum s1).1 = n at *
  generalize (Bn.rNum s1).2 = s2 at *
  have HN := Lib.hid hN; clear hN
  have HREC := Lib.hid hrec; clear hrec
  have hgn := get_bad d
  obtain ⟨gg, hgg⟩ : ∃ gg, Bn.get d = gg := ⟨_, rfl⟩
  rw [hgg] at HREC hgn ⊢
  have HGN := Lib.hid hgn; clear hgn hgg
  have hd20 : decide ((20 : Int) < (n : Int)) = false := by simp; omega
  have hd0 : (((d : Int) + 1) == 0) = false := by simp; omega
  have hdm : (d : Int) + 1 - 1 = (d : Int) := by omega
  have hdw : IntKind.i64.wrap (d : Int) = (d : Int) := IntWalk.i64_in _ (by omega)
  obtain ⟨i0, hi, hi0, hi1, hi2⟩ := info_parts info_val
  go_enter Try.func60, Try.ntmps60
  go_wp2_with (first
    | (go_at_call 29; ((with_reducible refine hBy1.mono ?_); rintro e w2 ⟨rfl, hR2, hg2⟩; have hgw2 := grown_then hG0 hg2; have hz2 := vat_grown hz0 hg2 (by omega); have hv2 := vat_grown hv0 hg2 (by omega); obtain ⟨⟨e0, e1, e2, e3⟩, f0, f1, f2, f3⟩ := box4 hv2; have hv3 : VAt (w2.setCell ⟨w.heap.size + 1, 0, none⟩ (.int .i64 5)) (w.heap.size + 1) #[.int .i64 5, .int .i64 0, .string ⟨#[]⟩, .slice none 0 0] := vat_set hv2 0 _; have hz3 := vat_other hz2 (show w.heap.size ≠ w.heap.size + 1 by omega) 0 (.int .i64 5); have hR3 := rt_set hR2 (show p < w.heap.size + 1 by omega) 0 (.int .i64 5); have hgw3 := grown_new hgw2 (show w.heap.size ≤ w.heap.size + 1 by omega) 0 (.int .i64 5); clear hBy1))
    | (go_at_call 30; ((with_reducible refine (HN.out _ hR3).mono ?_); rintro e w4 ⟨rfl, hR4, hg4⟩; have hgw4 := grown_then hgw3 hg4; have hz4 := vat_grown hz3 hg4 (by omega); have hv4 := vat_grown hv3 hg4 (by omega))))
  clear e0 e1 e2 e3 f0 f1 f2 f3 hv0 hz0 hv2 hz2 hv3 hz3 hR2 hR3 hgw2 hgw3 hG0 hg4 hg2
  go_loopw [7] (fun i wr => ∃ q : Nat, q ≤ n ∧ i = .int .i64 (q : Int) ∧ RT S wr p (Bn.rep gg q s2).2 ∧ w.grownBy wr (some p) ∧ VAt wr w.heap.size vzero ∧ w.heap.size + 2 ≤ wr.heap.size ∧
    ∃ a m c, VAt wr (w.heap.size + 1) #[.int .i64 5, .int .i64 0, .string ⟨#[]⟩, .slice a m c] ∧ ((Bn.rep gg q s2).2 ≠ none → VRow (w.heap.size + 2) wr (.slice a m c) (Bn.rep gg q s2).1)) (fun i _ => n - (intOf i).toNat)
  case atStart => exact ⟨0, Nat.zero_le _, rfl, hR4, hgw4, hz4, by have := vat_lt hv4; omega, none, 0, 0, hv4, fun _ => vrow_nil _ _⟩
  case round =>
  obtain ⟨q, hq, rfl, hR, hG, hz, hsz, a, m, c, hv, hrow⟩ := hrel
  clear hR4 hgw4 hz4 hv4
  obtain ⟨_, _, k5, hk5, hA5, hx5⟩ := id hR
  obtain ⟨⟨m0, m1, m2⟩, n0, n1, n2⟩ := tAt_cells hA5
  obtain ⟨⟨p0, p1, p2, p3⟩, q0, q1, q2, q3⟩ := box4 hv
  obtain ⟨⟨r0, r1, r2, r3⟩, t0, t1, t2, t3⟩ := box4 hz
  have hrl := rep_len gg q s2
  cases hst : (Bn.rep gg q s2).2 with
  | none =>
    have hdead := rep_dead gg HGN.out s2 hst n hq
    rw [hst] at m2 hR
    simp only [Option.isNone_none] at m2
    rcases Nat.lt_or_ge q n with hn | hn
    · have hdn : decide (q < n) = true := by simp; omega
      clear hx5 hA5 hrow hst
      go_wp2
      refine bodyPost_ret (results_cell_row Try.results60 _ _ w.heap.size _ _ _ _ rfl (vat_set4 hz _ _ _ _) Try.underlying24 rfl val4) rfl ?_
      rw [hdead]
      exact get_end hpw hR hG fun hs => absurd rfl hs
    · have hdn : decide (q < n) = false := by simp; omega
      clear hx5 hA5 hrow hst
      go_wp2
      refine bodyPost_ret (results_cell_row Try.results60 _ _ w.heap.size _ _ _ _ rfl (vat_set4 hz _ _ _ _) Try.underlying24 rfl val4) rfl ?_
      rw [hdead]
      exact get_end hpw hR hG fun hs => absurd rfl hs
  | some l =>
    have hrow' := hrow (by rw [hst]; simp)
    rw [hst] at m2 hR
    simp only [Option.isNone_some] at m2
    by_cases hql : q < n
    · have hdn : decide (q < n) = true := by simp; omega
      have hcall := fun W h => HREC.out p (some l) W h
      have hst1 : (Bn.rep gg (q + 1) s2).1 = (Bn.rep gg q s2).1 ++ [(gg (some l)).1] := by simp only [Bn.rep]; rw [hst]
      have hst2 : (Bn.rep gg (q + 1) s2).2 = (gg (some l)).2 := by simp only [Bn.rep]; rw [hst]
      have H1 := Lib.hid hst1; have H2 := Lib.hid hst2
      generalize (Bn.rep gg q s2).1 = ys at *
      generalize (gg (some l)).1 = y at *
      generalize (gg (some l)).2 = s3 at *
      have HC := Lib.hid hcall
      obtain ⟨cs, hown, hel⟩ := hrow'
      rw [hrl] at hown
      have HOW := Lib.hid hown; have HEL := Lib.hid hel; have HR := Lib.hid hR; have HV := Lib.hid hv; have HZ := Lib.hid hz; have HRL := Lib.hid hrl; have HG := Lib.hid hG
      have hown2 := own_blk hown
      have HO2 := Lib.hid hown2
      clear hrow hst hst1 hst2 hcall hown hel hR hv hz hrl hG hx5 hA5 hown2
      go_wp2
      go_region_law (first
        | (refine step_append_at _ rfl _ _ 22 rfl (w.heap.size + 2) 24 i0 (.agg vzero) 4 56 Try.underlying22 hi hi0 hi1 hi2 rfl (by decide) (.slice a m c) q cs (by simp [Act.eval]) ho5 (some ⟨w4.heap.size, 0, none⟩) 1 1 [.int .i64 d0, .int .i64 d1, .string d2, .slice a3 n3 c3] (by simp [Act.eval]) ⟨rfl, .inr ⟨_, rfl, cells_new _ [_, _, _, _] _⟩⟩ (by simp [Value.oneCell']) (by unfold maxLen; omega) (by omega) (by simp; omega) ?_; intro v6 w6 hown6 hgr6 hat6; obtain ⟨a6, m6, c6, rfl⟩ := own_form hown6; have hv6 : VAt w6 (w.heap.size + 1) _ := (hgr6.block _ (by have := vat_lt hv5; omega) (fun e => by have := (HO2.out _ e.symm).2; omega)).trans hv5; obtain ⟨⟨g0, g1, g2, g3⟩, h0, h1, h2, h3⟩ := box4 hv6)
        | (go_simp; go_wp2_with (go_at_call 60; (with_reducible refine (HC.out _ (rt_below HR.out (below_drew1 _))).mono ?_); rintro e w4 ⟨d0, d1, d2, _, rfl, ⟨a3, n3, c3, rfl⟩, hF4, hR4, hg4⟩; have hs4 : wr.heap.size ≤ w4.heap.size := hg4.size; have hs4d := hg4.size; have hv4 := vat_grown (show VAt wr.drew (w.heap.size + 1) _ from HV.out) hg4 (by omega); obtain ⟨⟨p0', p1', p2', p3'⟩, q0', q1', q2', q3'⟩ := box4 hv4; have hv5 := vat_below ((Below.refl _ w4).alloc (Nat.le_refl _) (.cells #[.int .i64 d0, .int .i64 d1, .string d2, .slice a3 n3 c3] 24)) hv4; obtain ⟨⟨p0b, p1b, p2b, p3b⟩, q0b, q1b, q2b, q3b⟩ := box4 hv5; have ho5 : (w4.alloc (.cells #[.int .i64 d0, .int .i64 d1, .string d2, .slice a3 n3 c3] 24)).ownsRow (w.heap.size + 2) 24 4 (.slice a m c) q cs := own_kept (show wr.drew.ownsRow _ _ _ _ _ _ from HOW.out) (fun b b1 b2 => (Below.heap_alloc w4 _ b (by omega)).trans (hg4.block b b2 (by simp; omega))))))
      all_goals (
        have hsz6 := hgr6.size
        rw [World.size_alloc] at hsz6
        have hA4 := (Below.refl _ w4).alloc (Nat.le_refl _) (.cells #[.int .i64 d0, .int .i64 d1, .string d2, .slice a3 n3 c3] 24)
        have hR6 := rt_grown (rt_below hR4 hA4) hgr6 (fun g e => by have := (HO2.out g e).2; omega)
        have hG4 := grown_then (grown_then HG.out (grown_of_below (below_drew1 wr) _)) hg4
        have hG6 := grown_past (grown_alloc hG4 (.cells #[.int .i64 d0, .int .i64 d1, .string d2, .slice a3 n3 c3] 24)) hgr6 (fun g e => by have := (HO2.out g e).2; omega)
        have hz4 := vat_below hA4 (vat_grown (show VAt wr.drew w.heap.size vzero from HZ.out) hg4 (by omega))
        have hz6 : VAt w6 w.heap.size vzero := (hgr6.block _ (by have := vat_lt hz4; omega) (fun e => by have := (HO2.out _ e.symm).2; omega)).trans hz4
        have hlen : (ys ++ [y]).length = q + 1 := by rw [List.length_append, HRL.out]; rfl
        have hvr : s3 ≠ none → VRow (w.heap.size + 2) w6 (.slice a6 m6 c6) (ys ++ [y]) := fun hs => ⟨_, by rw [hlen]; exact hown6, vel_step (w0 := wr.drew) (show wr.drew.ownsRow _ _ _ (.slice a m c) ys.length cs by rw [HRL.out]; exact HOW.out) HEL.out (by omega) hsz hg4 (hF4 hs) hgr6 hat6⟩
        go_wp2
        go_roundw
        case rel => exact ⟨q + 1, by omega, by go_num, by rw [H2.out]; exact rt_set hR6 (by omega) _ _, grown_new hG6 (by omega) _ _, vat_other hz6 (by omega) _ _, by simp; omega, a6, m6, c6, vat_set hv6 3 _, fun hs => by rw [H1.out]; rw [H2.out] at hs; exact vrow_keep (hvr hs) (by simp) (fun b b1 b2 => Below.heap_setCell _ _ _ b (by show b ≠ w.heap.size + 1; omega))⟩
        case measure =>
          have e : (intOf (.int .i64 ((q : Int) + 1))).toNat = q + 1 := by simp only [intOf]; omega
          have e' : (intOf (.int .i64 (q : Int))).toNat = q := by simp only [intOf]; omega
          rw [e, e']; omega)
    · obtain rfl : q = n := by omega
      have hdn : decide (q < q) = false := by simp
      clear hx5 hA5 hrow
      go_wp2
      refine bodyPost_ret (results_cell_row Try.results60 _ _ w.heap.size _ _ _ _ rfl (vat_set4 hz _ _ _ _) Try.underlying24 rfl val4) rfl ?_
      rw [hst]
      refine get_end hpw hR hG fun _ w9 hw9 => ?_
      unfold Is
      obtain ⟨a', cap', e, j1, j2, j3⟩ := vrow_is hrow' (W' := w9) fun b b1 b2 => hw9 b (by omega) b2
      simp only [Value.slice.injEq] at e
      obtain ⟨rfl, rfl, rfl⟩ := e
      exact ⟨⟨by omega, by omega⟩, ⟨by omega, by omega⟩, by unfold maxLen; decide, _, _, rfl, j1, j2, j3⟩
/-- the values that stand there, within so many lists -/
theorem rget_any (S : Src) : ∀ d : Nat, d ≤ 4 → ∀ (p : Nat) (s : Bn.St) (w : World), RT S w p s → Calls Try.prog 60 #[.pointer (some ⟨p, 0, none⟩), .int .i64 (d : Int)] w (GRet S p w (Bn.get d s).1 (Bn.get d s).2) := by
  intro d
  induction d with
  | zero =>
    intro hd p s w h
    rw [Bn.get_node]
    unfold Bn.node
    by_cases k1 : (Bn.rByte s).1 = 1
    · rw [if_pos k1]; exact rget_1 S 0 p s w h k1
    rw [if_neg k1]
    by_cases k2 : (Bn.rByte s).1 = 2
    · rw [if_pos k2]; exact rget_2 S 0 p s w h k2
    rw [if_neg k2]
    by_cases k34 : (Bn.rByte s).1 = 3 ∨ (Bn.rByte s).1 = 4
    · rw [if_pos k34]
      rcases k34 with e | e
      · have := rget_3 S 0 p s w h e
        rw [e]; exact this
      · have := rget_4 S 0 p s w h e
        rw [e]; exact this
    rw [if_neg k34]
    by_cases k5 : (Bn.rByte s).1 = 5
    · rw [if_pos k5]; exact rget_bad S 0 p s w h k5 (.inr rfl) _
    rw [if_neg k5]
    exact rget_else S 0 p s w h k1 k2 k34 k5
  | succ d ih =>
    intro hd p s w h
    rw [Bn.get_node]
    unfold Bn.node
    by_cases k1 : (Bn.rByte s).1 = 1
    · rw [if_pos k1]; exact rget_1 S (d + 1) p s w h k1
    rw [if_neg k1]
    by_cases k2 : (Bn.rByte s).1 = 2
    · rw [if_pos k2]; exact rget_2 S (d + 1) p s w h k2
    rw [if_neg k2]
    by_cases k34 : (Bn.rByte s).1 = 3 ∨ (Bn.rByte s).1 = 4
    · rw [if_pos k34]
      rcases k34 with e | e
      · have := rget_3 S (d + 1) p s w h e
        rw [e]; exact this
      · have := rget_4 S (d + 1) p s w h e
        rw [e]; exact this
    rw [if_neg k34]
    by_cases k5 : (Bn.rByte s).1 = 5
    · rw [if_pos k5]
      show Calls _ _ _ w (GRet S p w (.mk 5 0 ⟨#[]⟩ (if 20 < (Bn.rNum (Bn.rByte s).2).1 then ([], none) else Bn.rep (Bn.get d) (Bn.rNum (Bn.rByte s).2).1 (Bn.rNum (Bn.rByte s).2).2).1) (if 20 < (Bn.rNum (Bn.rByte s).2).1 then ([], none) else Bn.rep (Bn.get d) (Bn.rNum (Bn.rByte s).2).1 (Bn.rNum (Bn.rByte s).2).2).2)
      by_cases h20 : 20 < (Bn.rNum (Bn.rByte s).2).1
      · rw [if_pos h20]
        exact rget_bad S (d + 1) p s w h k5 (.inl h20) _
      · rw [if_neg h20, show (((d + 1 : Nat)) : Int) = (d : Int) + 1 by omega]
        exact rget_good S d (by omega) (ih (by omega)) p s w h k5 (by omega)
    rw [if_neg k5]
    exact rget_else S (d + 1) p s w h k1 k2 k34 k5
end Go.Proofs.Ytihpalbmkcoalaa
