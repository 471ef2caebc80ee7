/- The document's All (values, one by one) and Great (of a row). (Made by gen_rcq.py.) -/
import Derived.Test.YtbkmhigbplgpmaaRcSq
import Derived.Test.YtbkmhigbplgpmaaRefCmpq
import Derived.Test.YtbkmhigbplgpmaaMg3Rec
import Derived.Test.YtbkmhigbplgpmaaMg12Rec
set_option linter.unusedVariables false
set_option linter.unusedSimpArgs false
set_option maxRecDepth 100000
namespace Go.Proofs.Ytbkmhigbplgpmaa
open Go.RowKit Go.Shelf
set_option maxHeartbeats 4000000 in
theorem refAllA (a b : Option Addr) (c d : Nat) (ls vs : List PV) (w : World) (hl : PRow w a c ls) (hv : PRow w b d vs) (hsm : ls.length ≤ 100000) (hsv : vs.length ≤ 100000) (B : Bool) (hB : B = true ↔ ls.length = vs.length ∧ ∀ (i : Nat) (s v : PV), ls[i]? = some s → vs[i]? = some v → (cmpV s v == 0) = true) :
    Calls Try.prog 9 #[.slice a ls.length c, .slice b vs.length d] w fun e w' => e = .returned (.bool B) ∧ Below w.heap.size w w' := by
  by_cases hnm : ls.length = vs.length
  · obtain ⟨n, hn⟩ : ∃ n, ls.length = n := ⟨_, rfl⟩
    have hm : vs.length = n := by rw [← hnm, hn]
    have HL := Lib.hid hl; have HV := Lib.hid hv; have HN := Lib.hid hn; have HM := Lib.hid hm; have HB := Lib.hid hB
    rw [hn] at hsm ⊢
    rw [hm]
    have hb : ((n : Int) != (n : Int)) = false := by simp
    clear hl hv hn hm hB hnm hsv
    go_enter Try.func9, Try.ntmps9
    go_wp2
    go_loopw [5] (fun i wr => ∃ q : Nat, q ≤ n ∧ i = .int .i64 (q : Int) ∧ Below w.heap.size w wr ∧ Hid (∀ (j : Nat) (s v : PV), j < q → ls[j]? = some s → vs[j]? = some v → (cmpV s v == 0) = true)) (fun i _ => n - (intOf i).toNat)
    case atStart => exact ⟨0, Nat.zero_le _, rfl, Below.refl _ _, Lib.hid (fun j s v hj => by omega)⟩
    case round =>
      obtain ⟨q, hq, rfl, hbw, HALL⟩ := hrel
      rcases Nat.lt_or_ge q n with hlt | hge
      · have hd : decide ((q : Int) < (n : Int)) = true := by simp; omega
        have hnl := HN.out
        have hvl := HM.out
        obtain ⟨s, hs⟩ : ∃ s, ls[q]? = some s := ⟨ls[q], List.getElem?_eq_getElem (by omega)⟩
        obtain ⟨v, hv⟩ : ∃ v, vs[q]? = some v := ⟨vs[q], List.getElem?_eq_getElem (by omega)⟩
        obtain ⟨sb, so, k, nn, tx, la, ll, lc, rfl, ⟨g0, g1, g2, g3⟩, hdf⟩ := pRow_val (pRow_below hbw HL.out) hs
        obtain ⟨vb, vo, vk, vn, vt, va, vll, vc, rfl, ⟨t0, t1, t2, t3⟩, hvI⟩ := pRow_val (pRow_below hbw HV.out) hv
        obtain ⟨bf, hbf⟩ : ∃ bf, (cmpV s v == 0) = bf := ⟨_, rfl⟩
        have hF := fun (W : World) (hb : Below wr.heap.size wr W) => refSame_any s v W _ _ (is_below hb _ _ hdf) (is_below hb _ _ hvI)
        rw [hbf] at hF
        have HFt := Lib.hid hF
        have hgood : bf = true → ∀ (j : Nat) (s v : PV), j < q + 1 → ls[j]? = some s → vs[j]? = some v → (cmpV s v == 0) = true := fun h1 j s' v' hj h2 h3 => by
          rcases Nat.lt_or_ge j q with h | h
          · exact HALL.out j s' v' h h2 h3
          · obtain rfl : j = q := by omega
            rw [hs] at h2; rw [hv] at h3
            cases h2; cases h3
            rw [hbf]; exact h1
        have hbad : bf = false → B = false := fun h1 => by
          cases B with
          | false => rfl
          | true =>
            have := (HB.out.1 rfl).2 q s v hs hv
            rw [hbf, h1] at this
            exact this.symm
        have HGOOD := Lib.hid hgood; have HBAD := Lib.hid hbad
        clear hgood hbad hbf hs hv hvI hnl hvl hF hdf
        cases bf with
        | false =>
          have hB0 := HBAD.out rfl
          go_wp2
          refine wp_region_quiet (C := fun W => Below wr.heap.size wr W) (by kernel_rfl) (by kernel_rfl) (below_drew wr) ?_
          iterate 10 (first
            | ((with_reducible refine BigFrame.wpQuiet_skip ?_ ?_); (focus rfl); simp only [Act.put, List.setIfInBounds_toArray, List.set_cons_zero, List.set_cons_succ])
            | ((with_reducible refine BigFrame.wpQuiet_want ?_ (fun K hK => ?_))
               focus rfl
               apply quiet_run9
               · intro W hC
                 unfold Oper.quietAt
                 have HC := Lib.hid hC
                 have u0 := cell_below hC g0
                 have u1 := cell_below hC g1
                 have u2 := cell_below hC g2
                 have u3 := cell_below hC g3
                 have p0 := cell_below hC t0
                 have p1 := cell_below hC t1
                 have p2 := cell_below hC t2
                 have p3 := cell_below hC t3
                 clear hC
                 go_simp
                 first
                   | done
                   | with_reducible rfl
                   | ((with_reducible refine (HFt.out _ HC.out).mono ?_); exact fun e w' ⟨he, hb⟩ => ⟨he, HC.out.trans (hb.mono HC.out.size)⟩)
               (with_reducible refine hK _ ?_); clear hK K; simp only [Act.put, List.setIfInBounds_toArray, List.set_cons_zero, List.set_cons_succ]))
          refine wpQuiet_nil ?_
          intro W9 hB9
          (try simp only at hB9)
          clear g0 g1 g2 g3 t0 t1 t2 t3
          go_wp2_with fail
          go_ret
          exact ⟨ret_bool hB0.symm, hbw.trans (hB9.mono hbw.size)⟩
        | true =>
          have hG0 := Lib.hid (HGOOD.out rfl)
          go_wp2
          refine wp_region_quiet (C := fun W => Below wr.heap.size wr W) (by kernel_rfl) (by kernel_rfl) (below_drew wr) ?_
          iterate 10 (first
            | ((with_reducible refine BigFrame.wpQuiet_skip ?_ ?_); (focus rfl); simp only [Act.put, List.setIfInBounds_toArray, List.set_cons_zero, List.set_cons_succ])
            | ((with_reducible refine BigFrame.wpQuiet_want ?_ (fun K hK => ?_))
               focus rfl
               apply quiet_run9
               · intro W hC
                 unfold Oper.quietAt
                 have HC := Lib.hid hC
                 have u0 := cell_below hC g0
                 have u1 := cell_below hC g1
                 have u2 := cell_below hC g2
                 have u3 := cell_below hC g3
                 have p0 := cell_below hC t0
                 have p1 := cell_below hC t1
                 have p2 := cell_below hC t2
                 have p3 := cell_below hC t3
                 clear hC
                 go_simp
                 first
                   | done
                   | with_reducible rfl
                   | ((with_reducible refine (HFt.out _ HC.out).mono ?_); exact fun e w' ⟨he, hb⟩ => ⟨he, HC.out.trans (hb.mono HC.out.size)⟩)
               (with_reducible refine hK _ ?_); clear hK K; simp only [Act.put, List.setIfInBounds_toArray, List.set_cons_zero, List.set_cons_succ]))
          refine wpQuiet_nil ?_
          intro W9 hB9
          (try simp only at hB9)
          clear g0 g1 g2 g3 t0 t1 t2 t3
          go_wp2_with fail
          go_roundw
          case rel => exact ⟨q + 1, by omega, by go_num, hbw.trans (hB9.mono hbw.size), hG0⟩
          case measure => simp [intOf]; omega
      · obtain rfl : q = n := by omega
        have hd : decide ((q : Int) < (q : Int)) = false := by simp
        have hBt : B = true := HB.out.2 ⟨by rw [HN.out, HM.out], fun i s v h1 h2 => HALL.out i s v (by have h3 := (List.getElem?_eq_some_iff.1 h1).1; have h4 := HN.out; omega) h1 h2⟩
        go_wp2
        go_ret
        exact ⟨ret_bool hBt.symm, hbw⟩
  · have hB0 : B = false := by
      cases B with
      | false => rfl
      | true => exact absurd (hB.1 rfl).1 hnm
    have hb : ((ls.length : Int) != (vs.length : Int)) = true := by simp only [bne_iff_ne, ne_eq]; omega
    obtain ⟨n, hn⟩ : ∃ n, ls.length = n := ⟨_, rfl⟩
    obtain ⟨m, hm⟩ : ∃ m, vs.length = m := ⟨_, rfl⟩
    rw [hn, hm] at hb ⊢
    clear hl hv hnm hB hn hm
    go_enter Try.func9, Try.ntmps9
    go_wp2
    go_ret
    exact ⟨ret_bool hB0.symm, Below.refl _ _⟩
/-- the document's All -/
theorem refAll_any (a b : Option Addr) (c d : Nat) (ls vs : List PV) (w : World) (hl : PRow w a c ls) (hv : PRow w b d vs) (hsm : ls.length ≤ 100000) (hsv : vs.length ≤ 100000) (B : Bool) (hB : B = true ↔ ls = vs) :
    Calls Try.prog 9 #[.slice a ls.length c, .slice b vs.length d] w fun e w' => e = .returned (.bool B) ∧ Below w.heap.size w w' := refAllA a b c d ls vs w hl hv hsm hsv B (hB.trans (eqL_iff _ _).symm)
def greatL (l : List PV) : Bool := decide (40 < l.length) || l.any greatV
theorem greatL_sz {l : List PV} (h : greatL l = false) : l.length ≤ 40 ∧ ∀ v ∈ l, greatV v = false := by
  unfold greatL at h
  simp only [Bool.or_eq_false_iff, decide_eq_false_iff_not] at h
  refine ⟨by omega, fun v hv => ?_⟩
  have := List.any_eq_false.1 h.2 v hv
  simpa using this
set_option maxHeartbeats 4000000 in
theorem refGreat11_any (a : Option Addr) (c : Nat) (ls : List PV) (w : World) (hl : PRow w a c ls) : Calls Try.prog 6 #[.slice a ls.length c] w fun e w' => e = .returned (.bool (greatL ls)) ∧ Below w.heap.size w w' := by
  have hcap := hl.2.1
  have hlc := hl.1
  unfold maxLen at hcap
  obtain ⟨B, hB⟩ : ∃ B, greatL ls = B := ⟨_, rfl⟩
  obtain ⟨n, hn⟩ : ∃ n, ls.length = n := ⟨_, rfl⟩
  rw [hn] at hlc ⊢
  rw [hB]
  by_cases hbig : 40 < n
  · have hd : decide ((40 : Int) < (n : Int)) = true := by simp; omega
    have hBt : B = true := by rw [← hB]; unfold greatL; rw [decide_eq_true (by omega)]; rfl
    clear hl hB hn hbig
    go_enter Try.func6, Try.ntmps6
    go_wp2
    go_ret
    exact ⟨ret_bool hBt.symm, Below.refl _ _⟩
  · have hd : decide ((40 : Int) < (n : Int)) = false := by simp; omega
    have hBa : B = ls.any greatV := by rw [← hB]; unfold greatL; rw [decide_eq_false (by omega), Bool.false_or]
    have HL := Lib.hid hl; have HN := Lib.hid hn; have HB := Lib.hid hBa; have HBG := Lib.hid hbig
    clear hl hB hn hBa
    go_enter Try.func6, Try.ntmps6
    go_wp2
    go_loopw [3] (fun i wr => ∃ q : Nat, q ≤ n ∧ i = .int .i64 (q : Int) ∧ Below w.heap.size w wr ∧ Hid (∀ (j : Nat) (s : PV), j < q → ls[j]? = some s → greatV s = false)) (fun i _ => n - (intOf i).toNat)
    case atStart => exact ⟨0, Nat.zero_le _, rfl, Below.refl _ _, Lib.hid (fun j s hj => by omega)⟩
    case round =>
      obtain ⟨q, hq, rfl, hbw, HALL⟩ := hrel
      rcases Nat.lt_or_ge q n with hlt | hge
      · have hd2 : decide ((q : Int) < (n : Int)) = true := by simp; omega
        have hnl := HN.out
        obtain ⟨s, hs⟩ : ∃ s, ls[q]? = some s := ⟨ls[q], List.getElem?_eq_getElem (by omega)⟩
        obtain ⟨sb, so, k, nn, tx, la, ll, lc, rfl, ⟨g0, g1, g2, g3⟩, hdf⟩ := pRow_val (pRow_below hbw HL.out) hs
        have hX := great_any s wr _ hdf
        obtain ⟨bf, hbf⟩ : ∃ bf, greatV s = bf := ⟨_, rfl⟩
        rw [hbf] at hX
        have hgood : bf = false → ∀ (j : Nat) (s : PV), j < q + 1 → ls[j]? = some s → greatV s = false := fun h1 j s' hj h2 => by
          rcases Nat.lt_or_ge j q with h | h
          · exact HALL.out j s' h h2
          · obtain rfl : j = q := by omega
            rw [hs] at h2
            cases h2
            rw [hbf]; exact h1
        have hbad : bf = true → B = true := fun h1 => by
          rw [HB.out]
          exact List.any_eq_true.2 ⟨s, List.mem_of_getElem? hs, by rw [hbf]; exact h1⟩
        have HX := Lib.hid hX; have HGOOD := Lib.hid hgood; have HBAD := Lib.hid hbad
        clear hX hgood hbad hbf hs hdf hnl
        cases bf with
        | true =>
          have hB0 := HBAD.out rfl
          go_wp2_with (go_at_call 16; (with_reducible refine HX.out.mono ?_); rintro e w1 ⟨rfl, hB1⟩)
          go_ret
          exact ⟨ret_bool hB0.symm, hbw.trans (hB1.mono hbw.size)⟩
        | false =>
          have hG0 := Lib.hid (HGOOD.out rfl)
          go_wp2_with (go_at_call 16; (with_reducible refine HX.out.mono ?_); rintro e w1 ⟨rfl, hB1⟩)
          go_roundw
          case rel => exact ⟨q + 1, by omega, by go_num, hbw.trans (hB1.mono hbw.size), hG0⟩
          case measure => simp [intOf]; omega
      · obtain rfl : q = n := by omega
        have hd2 : decide ((q : Int) < (q : Int)) = false := by simp
        have hBt : B = false := by
          rw [HB.out]
          refine any_take _ _ fun j s hs => HALL.out j s ?_ hs
          have := (List.getElem?_eq_some_iff.1 hs).1
          have := HN.out
          omega
        go_wp2
        go_ret
        exact ⟨ret_bool hBt.symm, hbw⟩
end Go.Proofs.Ytbkmhigbplgpmaa

/- Values in rows of one's own, their lists in rows of one's own (no walk); what turns beside them. -/
set_option linter.unusedVariables false
set_option linter.unusedSimpArgs false
set_option maxRecDepth 100000
namespace Go.Proofs.Ytbkmhigbplgpmaa
open Go.RowKit Go.Shelf
/-- four cells each, of values that lie in w -/
def VCells (w : World) (l : List PV) (cs : List Value) : Prop := cs.length = l.length * 4 ∧ (∀ u ∈ cs, u.oneCell' = true) ∧
  ∀ (i : Nat) (v : PV), l[i]? = some v → ∃ c0 c1 c2 c3, (cs[i * 4]? = some c0 ∧ cs[i * 4 + 1]? = some c1 ∧ cs[i * 4 + 2]? = some c2 ∧ cs[i * 4 + 3]? = some c3) ∧ Is w v (.agg #[c0, c1, c2, c3])
theorem is_one {w : World} {v : PV} {c0 c1 c2 c3 : Value} (h : Is w v (.agg #[c0, c1, c2, c3])) : c0.oneCell' = true ∧ c1.oneCell' = true ∧ c2.oneCell' = true ∧ c3.oneCell' = true := by
  obtain ⟨k, n, t, a, l, c, e⟩ := is_form9 h
  simp only [Value.agg.injEq, Array.mk.injEq, List.cons.injEq, and_true] at e
  obtain ⟨rfl, rfl, rfl, rfl⟩ := e
  exact ⟨rfl, rfl, rfl, rfl⟩
theorem vCells_row {w : World} {l : List PV} {a : Option Addr} {cap : Nat} (h : PRow w a cap l) : ∃ cs, VCells w l cs ∧ Cells w 4 a l.length cs := by
  rcases h.2.2 with h3 | ⟨b, off, rfl, hc⟩
  · subst h3
    exact ⟨[], ⟨rfl, by simp, fun i v h => by simp at h⟩, rfl, .inl rfl⟩
  · suffices H : ∀ k, k ≤ l.length → ∃ cs : List Value, cs.length = k * 4 ∧ (∀ u ∈ cs, u.oneCell' = true) ∧ (∀ (i : Nat) (v : PV), i < k → l[i]? = some v → ∃ c0 c1 c2 c3, (cs[i * 4]? = some c0 ∧ cs[i * 4 + 1]? = some c1 ∧ cs[i * 4 + 2]? = some c2 ∧ cs[i * 4 + 3]? = some c3) ∧ Is w v (.agg #[c0, c1, c2, c3])) ∧ ∀ j u, cs[j]? = some u → w.cell? ⟨b, off + j, none⟩ = some u by
      obtain ⟨cs, h1, h2, h3, h4⟩ := H l.length (Nat.le_refl _)
      exact ⟨cs, ⟨h1, h2, fun i v hv => h3 i v (List.getElem?_eq_some_iff.1 hv).1 hv⟩, h1, .inr ⟨_, rfl, fun j u hu => by rw [Addr.add_lit]; exact h4 j u hu⟩⟩
    intro k
    induction k with
    | zero => intro _; exact ⟨[], rfl, by simp, fun i v hi => by omega, fun j u hu => by simp at hu⟩
    | succ k ih =>
      intro hk
      obtain ⟨cs, h1, h2, h3, h4⟩ := ih (by omega)
      obtain ⟨c0, c1, c2, c3, ⟨g0, g1, g2, g3⟩, hi⟩ := isL_at hc k _ (List.getElem?_eq_getElem (by omega : k < l.length))
      obtain ⟨o0, o1, o2, o3⟩ := is_one hi
      refine ⟨cs ++ [c0, c1, c2, c3], by simp [h1]; omega, fun u hu => ?_, fun i v hik hv => ?_, fun j u hu => ?_⟩
      · rcases List.mem_append.1 hu with hu | hu
        · exact h2 u hu
        · simp only [List.mem_cons, List.not_mem_nil, or_false] at hu
          rcases hu with rfl | rfl | rfl | rfl
          · exact o0
          · exact o1
          · exact o2
          · exact o3
      · rcases Nat.lt_or_ge i k with h | h
        · obtain ⟨d0, d1, d2, d3, ⟨e0, e1, e2, e3⟩, hi⟩ := h3 i v h hv
          refine ⟨d0, d1, d2, d3, ?_, hi⟩
          rw [List.getElem?_append_left (by omega), List.getElem?_append_left (by omega), List.getElem?_append_left (by omega), List.getElem?_append_left (by omega)]
          exact ⟨e0, e1, e2, e3⟩
        · obtain rfl : i = k := by omega
          rw [List.getElem?_eq_getElem (by omega : i < l.length)] at hv
          cases hv
          refine ⟨c0, c1, c2, c3, ?_, hi⟩
          rw [List.getElem?_append_right (by omega), List.getElem?_append_right (by omega), List.getElem?_append_right (by omega), List.getElem?_append_right (by omega)]
          rw [show i * 4 - cs.length = 0 by omega, show i * 4 + 1 - cs.length = 1 by omega, show i * 4 + 2 - cs.length = 2 by omega, show i * 4 + 3 - cs.length = 3 by omega]
          exact ⟨rfl, rfl, rfl, rfl⟩
      · rcases Nat.lt_or_ge j cs.length with h | h
        · rw [List.getElem?_append_left h] at hu
          exact h4 j u hu
        · rw [List.getElem?_append_right h] at hu
          obtain ⟨m, rfl⟩ : ∃ m, j = k * 4 + m := ⟨j - k * 4, by omega⟩
          rw [h1, show k * 4 + m - k * 4 = m by omega] at hu
          have hm : m < 4 := (List.getElem?_eq_some_iff.1 hu).1
          rw [show off + (k * 4 + m) = off + k * 4 + m by omega]
          match m, hm with
          | 0, _ => cases hu; exact g0
          | 1, _ => cases hu; exact g1
          | 2, _ => cases hu; exact g2
          | 3, _ => cases hu; exact g3
/-- a row of one's own reads as the values -/
theorem own_isL {w W : World} {base : Nat} {v : Value} {l : List PV} {xs : List Value} (h : W.ownsRow base 31 4 v l.length xs) (hx : VCells w l xs) (hb : Below w.heap.size w W) : ∃ a cap, v = .slice a l.length cap ∧ PRow W a cap l := by
  obtain ⟨h1, h2⟩ := h
  rcases h2 with ⟨rfl, hn⟩ | ⟨g, cap, cur, rfl, hg, hh, hn, hm, hsz, ht⟩
  · exact ⟨none, 0, by rw [hn], by omega, by unfold maxLen; omega, .inl (List.length_eq_zero_iff.1 hn)⟩
  · refine ⟨_, cap, rfl, hn, hm, .inr ⟨g, 0, rfl, isL_of fun i s hi => ?_⟩⟩
    obtain ⟨c0, c1, c2, c3, ⟨q0, q1, q2, q3⟩, hI⟩ := hx.2.2 i s hi
    have cell : ∀ j u, xs[j]? = some u → W.cell? ⟨g, 0 + j, none⟩ = some u := fun j u hu => by
      rw [← ht, List.getElem?_take] at hu
      split at hu
      · rw [Array.getElem?_toList] at hu
        simp [World.cell?, hh, hu]
      · cases hu
    exact ⟨c0, c1, c2, c3, ⟨cell _ _ q0, cell _ _ q1, cell _ _ q2, cell _ _ q3⟩, is_below hb _ _ hI⟩
/-- a value of one's own: its list in a row of one's own, whose values lie in w0 -/
def OE (base : Nat) (ob : Option Nat) (w0 W : World) (v : PV) (c0 c1 c2 c3 : Value) : Prop := match v with
  | .mk k n s l => c0 = .int .i64 k ∧ c1 = .int .i64 n ∧ c2 = .string s ∧ ∃ xs, W.ownsRow base 31 4 c3 l.length xs ∧ VCells w0 l xs ∧ ∀ b, c3.ownBlock = some b → some b ≠ ob
theorem oe_below {base : Nat} {ob : Option Nat} {w0 W W' : World} {v : PV} {c0 c1 c2 c3 : Value} (h : OE base ob w0 W v c0 c1 c2 c3) (hb : Below W.heap.size W W') : OE base ob w0 W' v c0 c1 c2 c3 := by
  cases v
  obtain ⟨h0, h1, h2, xs, h3, h4⟩ := h
  exact ⟨h0, h1, h2, xs, ownsRow_below h3 hb, h4⟩
def OwnC (base : Nat) (w0 W : World) (ov : Value) (row : List PV) (q : Nat) (cs : List Value) : Prop := W.ownsRow base 31 4 ov q cs ∧
  ∀ (j : Nat) (v : PV), j < q → row[j]? = some v → ∃ c0 c1 c2 c3, (cs[j * 4]? = some c0 ∧ cs[j * 4 + 1]? = some c1 ∧ cs[j * 4 + 2]? = some c2 ∧ cs[j * 4 + 3]? = some c3) ∧ OE base ov.ownBlock w0 W v c0 c1 c2 c3
theorem ownC_below {base : Nat} {w0 W W' : World} {ov : Value} {row : List PV} {q : Nat} {cs : List Value} (h : OwnC base w0 W ov row q cs) (hb : Below W.heap.size W W') : OwnC base w0 W' ov row q cs :=
  ⟨ownsRow_below h.1 hb, fun j v hj hv => by
    obtain ⟨c0, c1, c2, c3, hc, ho⟩ := h.2 j v hj hv
    exact ⟨c0, c1, c2, c3, hc, oe_below ho hb⟩⟩
theorem ownC_step {base : Nat} {w0 W8 W9 : World} {ov v9 : Value} {row : List PV} {q : Nat} {cs : List Value} {y : PV} {c0 c1 c2 c3 : Value} (h : OwnC base w0 W8 ov row q cs) (hy : row[q]? = some y) (he : OE base ov.ownBlock w0 W8 y c0 c1 c2 c3)
    (ho : W9.ownsRow base 31 4 v9 (q + 1) (cs ++ [c0, c1, c2, c3])) (hg : W8.grownBy W9 ov.ownBlock) (ha : v9.ownBlock = ov.ownBlock ∨ v9.ownBlock = some W8.heap.size) : OwnC base w0 W9 v9 row (q + 1) (cs ++ [c0, c1, c2, c3]) := by
  have hlen : cs.length = q * 4 := h.1.1
  have key : ∀ (v : PV) (d0 d1 d2 d3 : Value), OE base ov.ownBlock w0 W8 v d0 d1 d2 d3 → OE base v9.ownBlock w0 W9 v d0 d1 d2 d3 := fun v d0 d1 d2 d3 hoe => by
    cases v
    obtain ⟨h0, h1, h2, xs, h3, h4, h5⟩ := hoe
    refine ⟨h0, h1, h2, xs, own_kept9 h3 hg (fun b e1 e2 => h5 b e2 e1.symm), h4, fun b hb => ?_⟩
    rcases ha with ha | ha
    · rw [ha]; exact h5 b hb
    · rw [ha]
      intro e
      injection e with e
      have := (own_blk9 h3 b hb).1
      omega
  refine ⟨ho, fun j v hj hv => ?_⟩
  rcases Nat.lt_or_ge j q with hlt | hge
  · obtain ⟨d0, d1, d2, d3, ⟨e0, e1, e2, e3⟩, hoe⟩ := h.2 j v hlt hv
    refine ⟨d0, d1, d2, d3, ?_, key _ _ _ _ _ hoe⟩
    rw [List.getElem?_append_left (by omega), List.getElem?_append_left (by omega), List.getElem?_append_left (by omega), List.getElem?_append_left (by omega)]
    exact ⟨e0, e1, e2, e3⟩
  · obtain rfl : j = q := by omega
    rw [hy] at hv
    cases hv
    refine ⟨c0, c1, c2, c3, ?_, key _ _ _ _ _ he⟩
    rw [List.getElem?_append_right (by omega), List.getElem?_append_right (by omega), List.getElem?_append_right (by omega), List.getElem?_append_right (by omega)]
    rw [show j * 4 - cs.length = 0 by omega, show j * 4 + 1 - cs.length = 1 by omega, show j * 4 + 2 - cs.length = 2 by omega, show j * 4 + 3 - cs.length = 3 by omega]
    exact ⟨rfl, rfl, rfl, rfl⟩
/-- the row of one's own reads as the row it was made of -/
theorem ownC_row {base : Nat} {w0 W : World} {ov : Value} {row : List PV} {cs : List Value} {a : Option Addr} {cap : Nat} (h : OwnC base w0 W ov row row.length cs) (hb : Below w0.heap.size w0 W) (hr : PRow w0 a cap row) : ∃ a' c', ov = .slice a' row.length c' ∧ PRow W a' c' row := by
  obtain ⟨⟨h1, h2⟩, h3⟩ := h
  rcases h2 with ⟨rfl, hn⟩ | ⟨g, cap', cur, rfl, hg, hh, hn, hm, hsz, ht⟩
  · exact ⟨none, 0, by rw [hn], by omega, by unfold maxLen; omega, .inl (List.length_eq_zero_iff.1 hn)⟩
  · refine ⟨_, cap', rfl, hn, hm, .inr ⟨g, 0, rfl, isL_of fun i v hi => ?_⟩⟩
    obtain ⟨c0, c1, c2, c3, ⟨q0, q1, q2, q3⟩, hoe⟩ := h3 i v (List.getElem?_eq_some_iff.1 hi).1 hi
    have cell : ∀ j u, cs[j]? = some u → W.cell? ⟨g, 0 + j, none⟩ = some u := fun j u hu => by
      rw [← ht, List.getElem?_take] at hu
      split at hu
      · rw [Array.getElem?_toList] at hu
        simp [World.cell?, hh, hu]
      · cases hu
    refine ⟨c0, c1, c2, c3, ⟨cell _ _ q0, cell _ _ q1, cell _ _ q2, cell _ _ q3⟩, ?_⟩
    obtain ⟨_, _, _, _, _, _, _, _, _, _, hI⟩ := pRow_val hr hi
    cases v with
    | mk k n s l =>
      obtain ⟨rfl, rfl, rfl, xs, ho, hx, _⟩ := hoe
      obtain ⟨a', c', rfl, hP⟩ := own_isL ho hx hb
      unfold Is at hI ⊢
      exact ⟨hI.1, hI.2.1, hI.2.2.1, a', c', rfl, hP.1, hP.2.1, hP.2.2⟩
/-- what turns: rows of values, but none of what lies between, nor what lay ahead -/
structure TS (w0 W2 : World) (lo hi tb ob ga : Nat) (p : Nat) (W : World) : Prop where
  below : Below w0.heap.size w0 W
  size : W2.heap.size ≤ W.heap.size
  kept : ∀ (b : Nat), lo ≤ b ∧ b < hi ∨ b = tb → W.heap[b]? = W2.heap[b]?
  shape : ∀ (b : Nat) (cs : Array Value) (fr : Nat × Nat), W2.heap[b]? = some (.cells cs 31 fr) → ∃ cs' : Array Value, W.heap[b]? = some (.cells cs' 31 fr) ∧ cs'.size = cs.size
  cells : ∀ (j : Nat), p ≤ j → W.cell? ⟨ob, j, none⟩ = W2.cell? ⟨ob, j, none⟩ ∧ W.cell? ⟨ga, j, none⟩ = W2.cell? ⟨ga, j, none⟩
theorem ts_start {w0 W2 : World} {lo hi tb ob ga : Nat} (h : Below w0.heap.size w0 W2) : TS w0 W2 lo hi tb ob ga 0 W2 :=
  ⟨h, Nat.le_refl _, fun _ _ => rfl, fun b cs fr h => ⟨cs, h, rfl⟩, fun _ _ => ⟨rfl, rfl⟩⟩
theorem ts_mono {w0 W2 W : World} {lo hi tb ob ga p p' : Nat} (h : TS w0 W2 lo hi tb ob ga p W) (hp : p ≤ p') : TS w0 W2 lo hi tb ob ga p' W :=
  ⟨h.below, h.size, h.kept, h.shape, fun j hj => h.cells j (Nat.le_trans hp hj)⟩
theorem cell_other {W : World} {b i b' j : Nat} {u : Value} (h : b' = b → j ≠ i) : (W.setCell ⟨b, i, none⟩ u).cell? ⟨b', j, none⟩ = W.cell? ⟨b', j, none⟩ := by
  by_cases hb : b' = b
  · subst hb
    have hj := h rfl
    simp only [World.cell?, World.setCell, Array.getElem?_modify, if_true]
    cases hW : W.heap[b']? with
    | none => rfl
    | some o => cases o <;> simp [Array.getElem?_setIfInBounds, Ne.symm hj]
  · simp only [World.cell?, Below.heap_setCell W ⟨b, i, none⟩ u b' hb]
theorem set_shape {W : World} {b i : Nat} {u : Value} {cs : Array Value} {t : TypeId} {fr : Nat × Nat} {b' : Nat} (h : W.heap[b']? = some (.cells cs t fr)) : ∃ cs' : Array Value, (W.setCell ⟨b, i, none⟩ u).heap[b']? = some (.cells cs' t fr) ∧ cs'.size = cs.size := by
  by_cases hb : b' = b
  · subst hb
    refine ⟨cs.setIfInBounds i u, ?_, by simp⟩
    simp [World.setCell, Array.getElem?_modify, h]
  · exact ⟨cs, (Below.heap_setCell W ⟨b, i, none⟩ u b' hb).trans h, rfl⟩
theorem ts_set {w0 W2 W : World} {lo hi tb ob ga p b i : Nat} {u : Value} (h : TS w0 W2 lo hi tb ob ga p W) (h0 : w0.heap.size ≤ b) (hm : b < lo ∨ hi ≤ b) (ht : b ≠ tb) (ho : b = ob → i < p) (hg : b = ga → i < p) : TS w0 W2 lo hi tb ob ga p (W.setCell ⟨b, i, none⟩ u) := by
  refine ⟨below_set1 h.below h0, Nat.le_trans h.size (grown_set9 W b i u).size, fun c hc => ?_, fun c cs fr hc => ?_, fun j hj => ?_⟩
  · rw [Below.heap_setCell W ⟨b, i, none⟩ u c (show c ≠ b by rcases hc with hc | hc <;> omega)]
    exact h.kept c hc
  · obtain ⟨cs1, e1, e2⟩ := h.shape c cs fr hc
    obtain ⟨cs2, e3, e4⟩ := set_shape (b := b) (i := i) (u := u) e1
    exact ⟨cs2, e3, e4.trans e2⟩
  · obtain ⟨e1, e2⟩ := h.cells j hj
    rw [cell_other (fun e => by have := ho e.symm; omega), cell_other (fun e => by have := hg e.symm; omega)]
    exact ⟨e1, e2⟩
theorem ts_set4 {w0 W2 W : World} {lo hi tb ob ga p b i : Nat} {d0 d1 d2 d3 : Value} (h : TS w0 W2 lo hi tb ob ga p W) (h0 : w0.heap.size ≤ b) (hm : b < lo ∨ hi ≤ b) (ht : b ≠ tb) (ho : b = ob → i + 3 < p) (hg : b = ga → i + 3 < p) :
    TS w0 W2 lo hi tb ob ga p ((((W.setCell ⟨b, i, none⟩ d0).setCell ⟨b, i + 1, none⟩ d1).setCell ⟨b, i + 2, none⟩ d2).setCell ⟨b, i + 3, none⟩ d3) :=
  ts_set (ts_set (ts_set (ts_set h h0 hm ht (fun e => by have := ho e; omega) (fun e => by have := hg e; omega)) h0 hm ht (fun e => by have := ho e; omega) (fun e => by have := hg e; omega)) h0 hm ht (fun e => by have := ho e; omega) (fun e => by have := hg e; omega)) h0 hm ht (fun e => by have := ho e; omega) (fun e => by have := hg e; omega)
/-- four cells of a block of values may be written -/
theorem ts_four {w0 W2 W : World} {lo hi tb ob ga p b i : Nat} {cs : Array Value} (h : TS w0 W2 lo hi tb ob ga p W) (hb : W2.heap[b]? = some (.cells cs 31 (0, 0))) (hi : i + 3 < cs.size) :
    (∃ x0 x1 x2 x3, W.cell? ⟨b, i, none⟩ = some x0 ∧ W.cell? ⟨b, i + 1, none⟩ = some x1 ∧ W.cell? ⟨b, i + 2, none⟩ = some x2 ∧ W.cell? ⟨b, i + 3, none⟩ = some x3) ∧
      (W.frozen? ⟨b, i, none⟩ = false ∧ W.frozen? ⟨b, i + 1, none⟩ = false ∧ W.frozen? ⟨b, i + 2, none⟩ = false ∧ W.frozen? ⟨b, i + 3, none⟩ = false) := by
  obtain ⟨cs', h1, h2⟩ := h.shape b cs (0, 0) hb
  have hv : VAt W b cs' := h1
  exact ⟨⟨_, _, _, _, vat_cell hv _ _ (Array.getElem?_eq_getElem (by omega)), vat_cell hv _ _ (Array.getElem?_eq_getElem (by omega)), vat_cell hv _ _ (Array.getElem?_eq_getElem (by omega)), vat_cell hv _ _ (Array.getElem?_eq_getElem (by omega))⟩, vat_frozen hv _, vat_frozen hv _, vat_frozen hv _, vat_frozen hv _⟩
end Go.Proofs.Ytbkmhigbplgpmaa
