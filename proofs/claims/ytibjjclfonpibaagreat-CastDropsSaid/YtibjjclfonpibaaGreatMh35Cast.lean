/- The document's All (values, one by one) and Great (of a row). (Made by gen_rcq.py.) -/
import Derived.Test.YtibjjclfonpibaaGreatMh34Cast
import Derived.Test.YtibjjclfonpibaaGreatMh10Cast
import Derived.Test.YtibjjclfonpibaaGreatMh1Cast
import Derived.Test.YtibjjclfonpibaaGreatMh6Cast
set_option linter.unusedVariables false
set_option linter.unusedSimpArgs false
set_option maxRecDepth 100000
namespace Go.Proofs.YtibjjclfonpibaaGreat
open Go.RowKit Go.Shelf
set_option maxHeartbeats 4000000 in
theorem refAllA (a b : Option Addr) (c d : Nat) (ls vs : List PV) (w : World) (hl : PRow w a c ls) (hv : PRow w b d vs) (hsm : ls.length ≤ 100000) (hsv : vs.length ≤ 100000) (B : Bool) (hB : B = true ↔ ls.length = vs.length ∧ ∀ (i : Nat) (s v : PV), ls[i]? = some s → vs[i]? = some v → (cmpV s v == 0) = true) :
    Calls Tryz.prog 15 #[.slice a ls.length c, .slice b vs.length d] w fun e w' => e = .returned (.bool B) ∧ Below w.heap.size w w' := by
  by_cases hnm : ls.length = vs.length
  · obtain ⟨n, hn⟩ : ∃ n, ls.length = n := ⟨_, rfl⟩
    have hm : vs.length = n := by rw [← hnm, hn]
    have HL := Lib.hid hl; have HV := Lib.hid hv; have HN := Lib.hid hn; have HM := Lib.hid hm; have HB := Lib.hid hB
    rw [hn] at hsm ⊢
    rw [hm]
    have hb : ((n : Int) != (n : Int)) = false := by simp
    clear hl hv hn hm hB hnm hsv
    go_enter Tryz.func15, Tryz.ntmps15
    go_wp2
    go_loopw [5] (fun i wr => ∃ q : Nat, q ≤ n ∧ i = .int .i64 (q : Int) ∧ Below w.heap.size w wr ∧ Hid (∀ (j : Nat) (s v : PV), j < q → ls[j]? = some s → vs[j]? = some v → (cmpV s v == 0) = true)) (fun i _ => n - (intOf i).toNat)
    case atStart => exact ⟨0, Nat.zero_le _, rfl, Below.refl _ _, Lib.hid (fun j s v hj => by omega)⟩
    case round =>
      obtain ⟨q, hq, rfl, hbw, HALL⟩ := hrel
      rcases Nat.lt_or_ge q n with hlt | hge
      · have hd : decide ((q : Int) < (n : Int)) = true := by simp; omega
        have hnl := HN.out
        have hvl := HM.out
        obtain ⟨s, hs⟩ : ∃ s, ls[q]? = some s := ⟨ls[q], List.getElem?_eq_getElem (by omega)⟩
        obtain ⟨v, hv⟩ : ∃ v, vs[q]? = some v := ⟨vs[q], List.getElem?_eq_getElem (by omega)⟩
        obtain ⟨sb, so, k, nn, tx, la, ll, lc, rfl, ⟨g0, g1, g2, g3⟩, hdf⟩ := pRow_val (pRow_below hbw HL.out) hs
        obtain ⟨vb, vo, vk, vn, vt, va, vll, vc, rfl, ⟨t0, t1, t2, t3⟩, hvI⟩ := pRow_val (pRow_below hbw HV.out) hv
        obtain ⟨bf, hbf⟩ : ∃ bf, (cmpV s v == 0) = bf := ⟨_, rfl⟩
        have hF := fun (W : World) (hb : Below wr.heap.size wr W) => refSame_any s v W _ _ (is_below hb _ _ hdf) (is_below hb _ _ hvI)
        rw [hbf] at hF
        have HFt := Lib.hid hF
        have hgood : bf = true → ∀ (j : Nat) (s v : PV), j < q + 1 → ls[j]? = some s → vs[j]? = some v → (cmpV s v == 0) = true := fun h1 j s' v' hj h2 h3 => by
          rcases Nat.lt_or_ge j q with h | h
          · exact HALL.out j s' v' h h2 h3
          · obtain rfl : j = q := by omega
            rw [hs] at h2; rw [hv] at h3
            cases h2; cases h3
            rw [hbf]; exact h1
        have hbad : bf = false → B = false := fun h1 => by
          cases B with
          | false => rfl
          | true =>
            have := (HB.out.1 rfl).2 q s v hs hv
            rw [hbf, h1] at this
            exact this.symm
        have HGOOD := Lib.hid hgood; have HBAD := Lib.hid hbad
        clear hgood hbad hbf hs hv hvI hnl hvl hF hdf
        cases bf with
        | false =>
          have hB0 := HBAD.out rfl
          go_wp2
          refine wp_region_quiet (C := fun W => Below wr.heap.size wr W) (by kernel_rfl) (by kernel_rfl) (below_drew wr) ?_
          iterate 10 (first
            | ((with_reducible refine BigFrame.wpQuiet_skip ?_ ?_); (focus rfl); simp only [Act.put, List.setIfInBounds_toArray, List.set_cons_zero, List.set_cons_succ])
            | ((with_reducible refine BigFrame.wpQuiet_want ?_ (fun K hK => ?_))
               focus rfl
               apply quiet_run9
               · intro W hC
                 unfold Oper.quietAt
                 have HC := Lib.hid hC
                 have u0 := cell_below hC g0
                 have u1 := cell_below hC g1
                 have u2 := cell_below hC g2
                 have u3 := cell_below hC g3
                 have p0 := cell_below hC t0
                 have p1 := cell_below hC t1
                 have p2 := cell_below hC t2
                 have p3 := cell_below hC t3
                 clear hC
                 go_simp
                 first
                   | done
                   | with_reducible rfl
                   | ((with_reducible refine (HFt.out _ HC.out).mono ?_); exact fun e w' ⟨he, hb⟩ => ⟨he, HC.out.trans (hb.mono HC.out.size)⟩)
               (with_reducible refine hK _ ?_); clear hK K; simp only [Act.put, List.setIfInBounds_toArray, List.set_cons_zero, List.set_cons_succ]))
          refine wpQuiet_nil ?_
          intro W9 hB9
          (try simp only at hB9)
          clear g0 g1 g2 g3 t0 t1 t2 t3
          go_wp2_with fail
          go_ret
          exact ⟨ret_bool hB0.symm, hbw.trans (hB9.mono hbw.size)⟩
        | true =>
          have hG0 := Lib.hid (HGOOD.out rfl)
          go_wp2
          refine wp_region_quiet (C := fun W => Below wr.heap.size wr W) (by kernel_rfl) (by kernel_rfl) (below_drew wr) ?_
          iterate 10 (first
            | ((with_reducible refine BigFrame.wpQuiet_skip ?_ ?_); (focus rfl); simp only [Act.put, List.setIfInBounds_toArray, List.set_cons_zero, List.set_cons_succ])
            | ((with_reducible refine BigFrame.wpQuiet_want ?_ (fun K hK => ?_))
               focus rfl
               apply quiet_run9
               · intro W hC
                 unfold Oper.quietAt
                 have HC := Lib.hid hC
                 have u0 := cell_below hC g0
                 have u1 := cell_below hC g1
                 have u2 := cell_below hC g2
                 have u3 := cell_below hC g3
                 have p0 := cell_below hC t0
                 have p1 := cell_below hC t1
                 have p2 := cell_below hC t2
                 have p3 := cell_below hC t3
                 clear hC
                 go_simp
                 first
                   | done
                   | with_reducible rfl
                   | ((with_reducible refine (HFt.out _ HC.out).mono ?_); exact fun e w' ⟨he, hb⟩ => ⟨he, HC.out.trans (hb.mono HC.out.size)⟩)
               (with_reducible refine hK _ ?_); clear hK K; simp only [Act.put, List.setIfInBounds_toArray, List.set_cons_zero, List.set_cons_succ]))
          refine wpQuiet_nil ?_
          intro W9 hB9
          (try simp only at hB9)
          clear g0 g1 g2 g3 t0 t1 t2 t3
          go_wp2_with fail
          go_roundw
          case rel => exact ⟨q + 1, by omega, by go_num, hbw.trans (hB9.mono hbw.size), hG0⟩
          case measure => simp [intOf]; omega
      · obtain rfl : q = n := by omega
        have hd : decide ((q : Int) < (q : Int)) = false := by simp
        have hBt : B = true := HB.out.2 ⟨by rw [HN.out, HM.out], fun i s v h1 h2 => HALL.out i s v (by have h3 := (List.getElem?_eq_some_iff.1 h1).1; have h4 := HN.out; omega) h1 h2⟩
        go_wp2
        go_ret
        exact ⟨ret_bool hBt.symm, hbw⟩
  · have hB0 : B = false := by
      cases B with
      | false => rfl
      | true => exact absurd (hB.1 rfl).1 hnm
    have hb : ((ls.length : Int) != (vs.length : Int)) = true := by simp only [bne_iff_ne, ne_eq]; omega
    obtain ⟨n, hn⟩ : ∃ n, ls.length = n := ⟨_, rfl⟩
    obtain ⟨m, hm⟩ : ∃ m, vs.length = m := ⟨_, rfl⟩
    rw [hn, hm] at hb ⊢
    clear hl hv hnm hB hn hm
    go_enter Tryz.func15, Tryz.ntmps15
    go_wp2
    go_ret
    exact ⟨ret_bool hB0.symm, Below.refl _ _⟩
/-- the document's All -/
theorem refAll_any (a b : Option Addr) (c d : Nat) (ls vs : List PV) (w : World) (hl : PRow w a c ls) (hv : PRow w b d vs) (hsm : ls.length ≤ 100000) (hsv : vs.length ≤ 100000) (B : Bool) (hB : B = true ↔ ls = vs) :
    Calls Tryz.prog 15 #[.slice a ls.length c, .slice b vs.length d] w fun e w' => e = .returned (.bool B) ∧ Below w.heap.size w w' := refAllA a b c d ls vs w hl hv hsm hsv B (hB.trans (eqL_iff _ _).symm)
def greatL (l : List PV) : Bool := decide (40 < l.length) || l.any greatV
theorem greatL_sz {l : List PV} (h : greatL l = false) : l.length ≤ 40 ∧ ∀ v ∈ l, greatV v = false := by
  unfold greatL at h
  simp only [Bool.or_eq_false_iff, decide_eq_false_iff_not] at h
  refine ⟨by omega, fun v hv => ?_⟩
  have := List.any_eq_false.1 h.2 v hv
  simpa using this
set_option maxHeartbeats 4000000 in
theorem refGreat11_any (a : Option Addr) (c : Nat) (ls : List PV) (w : World) (hl : PRow w a c ls) : Calls Tryz.prog 11 #[.slice a ls.length c] w fun e w' => e = .returned (.bool (greatL ls)) ∧ Below w.heap.size w w' := by
  have hcap := hl.2.1
  have hlc := hl.1
  unfold maxLen at hcap
  obtain ⟨B, hB⟩ : ∃ B, greatL ls = B := ⟨_, rfl⟩
  obtain ⟨n, hn⟩ : ∃ n, ls.length = n := ⟨_, rfl⟩
  rw [hn] at hlc ⊢
  rw [hB]
  by_cases hbig : 40 < n
  · have hd : decide ((40 : Int) < (n : Int)) = true := by simp; omega
    have hBt : B = true := by rw [← hB]; unfold greatL; rw [decide_eq_true (by omega)]; rfl
    clear hl hB hn hbig
    go_enter Tryz.func11, Tryz.ntmps11
    go_wp2
    go_ret
    exact ⟨ret_bool hBt.symm, Below.refl _ _⟩
  · have hd : decide ((40 : Int) < (n : Int)) = false := by simp; omega
    have hBa : B = ls.any greatV := by rw [← hB]; unfold greatL; rw [decide_eq_false (by omega), Bool.false_or]
    have HL := Lib.hid hl; have HN := Lib.hid hn; have HB := Lib.hid hBa; have HBG := Lib.hid hbig
    clear hl hB hn hBa
    go_enter Tryz.func11, Tryz.ntmps11
    go_wp2
    go_loopw [3] (fun i wr => ∃ q : Nat, q ≤ n ∧ i = .int .i64 (q : Int) ∧ Below w.heap.size w wr ∧ Hid (∀ (j : Nat) (s : PV), j < q → ls[j]? = some s → greatV s = false)) (fun i _ => n - (intOf i).toNat)
    case atStart => exact ⟨0, Nat.zero_le _, rfl, Below.refl _ _, Lib.hid (fun j s hj => by omega)⟩
    case round =>
      obtain ⟨q, hq, rfl, hbw, HALL⟩ := hrel
      rcases Nat.lt_or_ge q n with hlt | hge
      · have hd2 : decide ((q : Int) < (n : Int)) = true := by simp; omega
        have hnl := HN.out
        obtain ⟨s, hs⟩ : ∃ s, ls[q]? = some s := ⟨ls[q], List.getElem?_eq_getElem (by omega)⟩
        obtain ⟨sb, so, k, nn, tx, la, ll, lc, rfl, ⟨g0, g1, g2, g3⟩, hdf⟩ := pRow_val (pRow_below hbw HL.out) hs
        have hX := great_any s wr _ hdf
        obtain ⟨bf, hbf⟩ : ∃ bf, greatV s = bf := ⟨_, rfl⟩
        rw [hbf] at hX
        have hgood : bf = false → ∀ (j : Nat) (s : PV), j < q + 1 → ls[j]? = some s → greatV s = false := fun h1 j s' hj h2 => by
          rcases Nat.lt_or_ge j q with h | h
          · exact HALL.out j s' h h2
          · obtain rfl : j = q := by omega
            rw [hs] at h2
            cases h2
            rw [hbf]; exact h1
        have hbad : bf = true → B = true := fun h1 => by
          rw [HB.out]
          exact List.any_eq_true.2 ⟨s, List.mem_of_getElem? hs, by rw [hbf]; exact h1⟩
        have HX := Lib.hid hX; have HGOOD := Lib.hid hgood; have HBAD := Lib.hid hbad
        clear hX hgood hbad hbf hs hdf hnl
        cases bf with
        | true =>
          have hB0 := HBAD.out rfl
          go_wp2_with (go_at_call 36; (with_reducible refine HX.out.mono ?_); rintro e w1 ⟨rfl, hB1⟩)
          go_ret
          exact ⟨ret_bool hB0.symm, hbw.trans (hB1.mono hbw.size)⟩
        | false =>
          have hG0 := Lib.hid (HGOOD.out rfl)
          go_wp2_with (go_at_call 36; (with_reducible refine HX.out.mono ?_); rintro e w1 ⟨rfl, hB1⟩)
          go_roundw
          case rel => exact ⟨q + 1, by omega, by go_num, hbw.trans (hB1.mono hbw.size), hG0⟩
          case measure => simp [intOf]; omega
      · obtain rfl : q = n := by omega
        have hd2 : decide ((q : Int) < (q : Int)) = false := by simp
        have hBt : B = false := by
          rw [HB.out]
          refine any_take _ _ fun j s hs => HALL.out j s ?_ hs
          have := (List.getElem?_eq_some_iff.1 hs).1
          have := HN.out
          omega
        go_wp2
        go_ret
        exact ⟨ret_bool hBt.symm, hbw⟩
end Go.Proofs.YtibjjclfonpibaaGreat

/- Values in rows of one's own, their lists in rows of one's own (no walk); what turns beside them. -/
set_option linter.unusedVariables false
set_option linter.unusedSimpArgs false
set_option maxRecDepth 100000
namespace Go.Proofs.YtibjjclfonpibaaGreat
open Go.RowKit Go.Shelf
/-- four cells each, of values that lie in w -/
def VCells (w : World) (l : List PV) (cs : List Value) : Prop := cs.length = l.length * 4 ∧ (∀ u ∈ cs, u.oneCell' = true) ∧
  ∀ (i : Nat) (v : PV), l[i]? = some v → ∃ c0 c1 c2 c3, (cs[i * 4]? = some c0 ∧ cs[i * 4 + 1]? = some c1 ∧ cs[i * 4 + 2]? = some c2 ∧ cs[i * 4 + 3]? = some c3) ∧ Is w v (.agg #[c0, c1, c2, c3])
theorem is_one {w : World} {v : PV} {c0 c1 c2 c3 : Value} (h : Is w v (.agg #[c0, c1, c2, c3])) : c0.oneCell' = true ∧ c1.oneCell' = true ∧ c2.oneCell' = true ∧ c3.oneCell' = true := by
  obtain ⟨k, n, t, a, l, c, e⟩ := is_form9 h
  simp only [Value.agg.injEq, Array.mk.injEq, List.cons.injEq, and_true] at e
  obtain ⟨rfl, rfl, rfl, rfl⟩ := e
  exact ⟨rfl, rfl, rfl, rfl⟩
/-- a row of one's own reads as the values -/
theorem own_isL {w W : World} {base : Nat} {v : Value} {l : List PV} {xs : List Value} (h : W.ownsRow base 42 4 v l.length xs) (hx : VCells w l xs) (hb : Below w.heap.size w W) : ∃ a cap, v = .slice a l.length cap ∧ PRow W a cap l := by
  obtain ⟨h1, h2⟩ := h
  rcases h2 with ⟨rfl, hn⟩ | ⟨g, cap, cur, rfl, hg, hh, hn, hm, hsz, ht⟩
  · exact ⟨none, 0, by rw [hn], by omega, by unfold maxLen; omega, .inl (List.length_eq_zero_iff.1 hn)⟩
  · refine ⟨_, cap, rfl, hn, hm, .inr ⟨g, 0, rfl, isL_of fun i s hi => ?_⟩⟩
    obtain ⟨c0, c1, c2, c3, ⟨q0, q1, q2, q3⟩, hI⟩ := hx.2.2 i s hi
    have cell : ∀ j u, xs[j]? = some u → W.cell? ⟨g, 0 + j, none⟩ = some u := fun j u hu => by
      rw [← ht, List.getElem?_take] at hu
      split at hu
      · rw [Array.getElem?_toList] at hu
        simp [World.cell?, hh, hu]
      · cases hu
    exact ⟨c0, c1, c2, c3, ⟨cell _ _ q0, cell _ _ q1, cell _ _ q2, cell _ _ q3⟩, is_below hb _ _ hI⟩
end Go.Proofs.YtibjjclfonpibaaGreat
