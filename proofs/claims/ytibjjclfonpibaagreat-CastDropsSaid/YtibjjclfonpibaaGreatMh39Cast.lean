/- The program's cast: at, Up, Down, Lift, Lower, Newest. (Made by gen_caa.py.) -/
import Derived.Test.YtibjjclfonpibaaGreatMh37Cast
import Derived.Test.YtibjjclfonpibaaGreatMh38Cast
import Derived.Test.YtibjjclfonpibaaGreatMh33Cast
set_option linter.unusedVariables false
set_option linter.unusedSimpArgs false
set_option maxRecDepth 100000
namespace Go.Proofs.YtibjjclfonpibaaGreat
open Go.RowKit Go.Shelf
theorem caSteps_any (nm : ByteArray) (sa : Option Addr) (sn sc : Nat) (ta : Option Addr) (tn tc : Nat) (p q : Int) (w : World) :
    Calls Tryz.prog 76 #[.agg #[.string nm, .slice sa sn sc, .slice ta tn tc], .int .i64 p, .int .i64 q] w fun e w' => e = .returned (.func (.func 88) #[] #[.pointer (some ⟨w.heap.size + 1, 0, none⟩), .pointer (some ⟨w.heap.size + 1 + 1, 0, none⟩), .pointer (some ⟨w.heap.size, 0, none⟩)]) ∧
      w' = ((w.alloc (.cells #[.string nm, .slice sa sn sc, .slice ta tn tc] 25)).alloc (.cells #[.int .i64 p] 3)).alloc (.cells #[.int .i64 q] 3) := by
  go_enter Tryz.func76, Tryz.ntmps76
  go_wp2
  go_ret
  exact ⟨rfl, rfl⟩
/-- a small block is none that a row of values lies in -/
theorem small_ne {W : World} {b p o : Nat} {cs : Array Value} {c3 : Value} {t : TypeId} {fr : Nat × Nat} (hb : W.heap[b]? = some (.cells cs t fr)) (hs : cs.size ≤ 3) (h3 : W.cell? ⟨p, o + 3, none⟩ = some c3) : p ≠ b := by
  intro e
  subst e
  simp only [World.cell?, hb] at h3
  have h4 : cs[o + 3]? = some c3 := h3
  have := (Array.getElem?_eq_some_iff.1 h4).1
  omega
theorem small_is {W W' : World} {b : Nat} {cs : Array Value} {t : TypeId} {fr : Nat × Nat} (hb : W.heap[b]? = some (.cells cs t fr)) (hs : cs.size ≤ 3) (hk : ∀ p j u, p ≠ b → W.cell? ⟨p, j, none⟩ = some u → W'.cell? ⟨p, j, none⟩ = some u) : ∀ v x, Is W v x → Is W' v x := by
  intro v
  induction v using pv_ind with
  | h k n s l ih =>
    intro x h
    unfold Is at h ⊢
    obtain ⟨h1, h2, h3, a, cap, rfl, h4, h5, h6⟩ := h
    refine ⟨h1, h2, h3, a, cap, rfl, h4, h5, ?_⟩
    rcases h6 with h6 | ⟨p, off, rfl, h6⟩
    · exact .inl h6
    · refine .inr ⟨p, off, rfl, isL_of fun i y hy => ?_⟩
      obtain ⟨c0, c1, c2, c3, ⟨g0, g1, g2, g3⟩, hi⟩ := isL_at h6 i y hy
      have hne := small_ne hb hs g3
      exact ⟨c0, c1, c2, c3, ⟨hk _ _ _ hne g0, hk _ _ _ hne g1, hk _ _ _ hne g2, hk _ _ _ hne g3⟩, ih y (List.mem_of_getElem? hy) _ hi⟩
theorem small_row {W W' : World} {b : Nat} {cs : Array Value} {t : TypeId} {fr : Nat × Nat} (hb : W.heap[b]? = some (.cells cs t fr)) (hs : cs.size ≤ 3) (hk : ∀ p j u, p ≠ b → W.cell? ⟨p, j, none⟩ = some u → W'.cell? ⟨p, j, none⟩ = some u) {a : Option Addr} {cap : Nat} {l : List PV} (h : PRow W a cap l) : PRow W' a cap l :=
  ⟨h.1, h.2.1, h.2.2.imp id fun ⟨p, off, ha, hl⟩ => ⟨p, off, ha, isL_of fun i y hy => by
    obtain ⟨c0, c1, c2, c3, ⟨g0, g1, g2, g3⟩, hi⟩ := isL_at hl i y hy
    have hne := small_ne hb hs g3
    exact ⟨c0, c1, c2, c3, ⟨hk _ _ _ hne g0, hk _ _ _ hne g1, hk _ _ _ hne g2, hk _ _ _ hne g3⟩, small_is hb hs hk _ _ hi⟩⟩⟩
/-- the result's box is set -/
theorem res_set {w V : World} {b : Nat} {z0 z1 : Value} {t : TypeId} (u0 u1 : Value) (h : V.heap[b]? = some (.cells #[z0, z1] t (0, 0))) (hB : Below w.heap.size w V) (hb : w.heap.size ≤ b) :
    ((V.setCell ⟨b, 0, none⟩ u0).setCell ⟨b, 1, none⟩ u1).heap[b]? = some (.cells #[u0, u1] t (0, 0)) ∧ Below w.heap.size w ((V.setCell ⟨b, 0, none⟩ u0).setCell ⟨b, 1, none⟩ u1) ∧ (∀ {a : Option Addr} {cap : Nat} {l : List PV}, PRow V a cap l → PRow ((V.setCell ⟨b, 0, none⟩ u0).setCell ⟨b, 1, none⟩ u1) a cap l) := by
  obtain ⟨h1, h2⟩ := step_outT u0 u1 h hB hb
  refine ⟨h1, h2, fun {a cap l} hp => small_row h (by simp) (fun p j u hne hc => ?_) hp⟩
  rw [← hc]
  simp only [World.cell?, Below.heap_setCell _ ⟨b, 1, none⟩ u1 p hne, Below.heap_setCell _ ⟨b, 0, none⟩ u0 p hne]
/-- what cast's functions come to -/
def CastR (w0 : World) (m : RecM × Int) (e : Ending) (w' : World) : Prop := (∃ a c, e = .returned (.tuple #[.agg #[.int .i64 m.1.v, .slice a m.1.s.length c], .int .i64 m.2]) ∧ PRow w' a c m.1.s) ∧ Below w0.heap.size w0 w'
theorem castR_no {w V : World} {b : Nat} {z0 z1 : Value} {E : Int} {m : RecM × Int} (hm : m = (⟨0, []⟩, E)) (h : V.heap[b]? = some (.cells #[z0, z1] 31 (0, 0))) (hB : Below w.heap.size w V) (hb : w.heap.size ≤ b) :
    CastR w m (.returned (.tuple #[.agg #[.int .i64 0, .slice none 0 0], .int .i64 E])) ((V.setCell ⟨b, 0, none⟩ (.int .i64 0)).setCell ⟨b, 1, none⟩ (.slice none 0 0)) := by
  subst hm
  exact ⟨⟨none, 0, rfl, ⟨Nat.le_refl _, Nat.zero_le _, .inl rfl⟩⟩, (res_set _ _ h hB hb).2.1⟩
theorem results_cell_tmp_rowC {P : Program} {fn : Func} {p u : Tmp} {ty : TypeId} (h : fn.results = #[.cell p ty, .tmp u]) (tmps : Array Value) (w : World) (g : Nat) (t : TypeId) (cs : Array Value) (fr : Nat × Nat) (d : TypeDesc)
    (hp : tmps.getD p undef = .pointer (some ⟨g, 0, none⟩)) (hg : w.heap[g]? = some (.cells cs t fr))
    (hu : P.underlying ty = some d) (hd : (match d with | .struct _ | .array _ _ => true | _ => false) = true) (hi : (P.info? ty).map (·.size) = some cs.size) :
    (results fn tmps).run P w = .ok (.tuple #[.agg cs, tmps.getD u undef]) w := by
  rw [results_cell_tmp h, hp]
  simp [asAddr, run_loadVar_row w g t ty cs fr d hg hu hd hi, Result.andThen]
set_option maxHeartbeats 16000000 in
theorem caAt_any (t : TemplM) (r : RecM) (v : Int) (on : Bool) (w : World) (X : Value) (b : Option Addr) (d : Nat) (hg : greatT t = false) (hI : I64 r.v) (hv : I64 v) (hi : IsTempl w t X) (hr : PRow w b d r.s) (hsz : ∀ v ∈ r.s, szV v ≤ 1000000) (hsv : r.s.length ≤ 100000) :
    Calls Tryz.prog 48 #[X, .agg #[.int .i64 r.v, .slice b r.s.length d], .int .i64 v, .bool on] w (CastR w (Ca.castM t r v on)) := by
  have h0 := hi
  obtain ⟨h1, sa, sc, ta, tc, rfl, hsl, hst⟩ := hi
  obtain ⟨rv, l⟩ := r
  simp only at hI hr hsz hsv ⊢
  obtain ⟨n, hn⟩ : ∃ n, l.length = n := ⟨_, rfl⟩
  have hVd := fun (W : World) (hb : Below w.heap.size w W) => rValid_any t ⟨rv, l⟩ W _ b d hg hI (isTempl_below hb h0) (pRow_below hb hr) hsz hsv
  have hLs := fun (W : World) (hb : Below w.heap.size w W) => last_any allC t W _ hg (isTempl_below hb h0)
  simp only [hn] at hVd
  have hz0 := build_rec0
  have hB3 := below3 w (.cells #[.string t.nm, .slice sa t.slots.length sc, .slice ta t.steps.length tc] 25) (.cells #[.int .i64 rv, .slice b n d] 31) (.cells #[.int .i64 0, .slice none 0 0] 31)
  have hh := heap3 (Below.refl _ (((w.alloc (.cells #[.string t.nm, .slice sa t.slots.length sc, .slice ta t.steps.length tc] 25)).alloc (.cells #[.int .i64 rv, .slice b n d] 31)).alloc (.cells #[.int .i64 0, .slice none 0 0] 31)))
  obtain ⟨hh0, hh1, hh2⟩ := hh
  obtain ⟨Q, hQ⟩ : ∃ Q, CastR w (Ca.castM t ⟨rv, l⟩ v on) = Q := ⟨_, rfl⟩
  cases hvr : Rc.verR t ⟨rv, l⟩ with
  | none =>
    have hm : Ca.castM t ⟨rv, l⟩ v on = (⟨0, []⟩, 1) := by unfold Ca.castM; rw [hvr]
    rw [hvr] at hVd
    have hq : ∀ V z0 z1, V.heap[w.heap.size + 1 + 1]? = some (.cells #[z0, z1] 31 (0, 0)) → Below w.heap.size w V → Q (.returned (.tuple #[.agg #[.int .i64 0, .slice none 0 0], .int .i64 1])) ((V.setCell ⟨w.heap.size + 1 + 1, 0, none⟩ (.int .i64 0)).setCell ⟨w.heap.size + 1 + 1, 1, none⟩ (.slice none 0 0)) := fun V z0 z1 h hB => by
      rw [← hQ]; exact castR_no hm h hB (by omega)
    have HQ := Lib.hid hq; have HVD := Lib.hid hVd; have H3 := Lib.hid hB3
    rw [hn, hQ]
    clear hq hVd hLs hQ hm hvr hn hg h0 hr hsz hsv hsl hst h1 hI hv
    go_enter Tryz.func48, Tryz.ntmps48
    go_wp2_with (first
      | (go_at_call 33; (with_reducible refine (HVD.out _ H3.out).mono ?_); rintro e w1 ⟨rfl, hB1⟩; have hR := (hB1.block _ (Array.getElem?_eq_some_iff.1 hh2).1).trans hh2; obtain ⟨f0, f1, f2, f3⟩ := two_all hR))
    refine bodyPost_ret (results_cell_tmp_rowC Tryz.results48 _ _ (w.heap.size + 1 + 1) _ _ _ _ rfl (set_two9 hR _ _) Tryz.underlying31 rfl (by kernel_rfl)) rfl ?_
    exact HQ.out _ _ _ hR (H3.out.trans (hB1.mono H3.out.size))
  | some x0 =>
    obtain ⟨hx0, hfit⟩ := Ca.verR_of hvr
    simp only at hx0 hfit
    rw [hvr] at hVd
    simp only [Option.isSome_some] at hVd
    by_cases hbad : on = false ∨ v < 1 ∨ (lastN t : Int) < v
    · have hm : Ca.castM t ⟨rv, l⟩ v on = (⟨0, []⟩, 7) := by
        unfold Ca.castM; rw [hvr]
        rcases hbad with h | h
        · subst h; rfl
        · have : Rc.verOf t v = none := by
            rcases h with h | h
            · unfold Rc.verOf; rw [if_pos h]
            · cases hz : Rc.verOf t v with
              | none => rfl
              | some z =>
                obtain ⟨L, m, e1, e2, e3, _⟩ := verOf_some hz
                have := (List.getElem?_eq_some_iff.1 e2).1
                unfold lastN at h; rw [e1] at h; simp only at h; omega
          rw [this]; cases on <;> rfl
      have hq : ∀ V z0 z1, V.heap[w.heap.size + 1 + 1]? = some (.cells #[z0, z1] 31 (0, 0)) → Below w.heap.size w V → Q (.returned (.tuple #[.agg #[.int .i64 0, .slice none 0 0], .int .i64 7])) ((V.setCell ⟨w.heap.size + 1 + 1, 0, none⟩ (.int .i64 0)).setCell ⟨w.heap.size + 1 + 1, 1, none⟩ (.slice none 0 0)) := fun V z0 z1 h hB => by
        rw [← hQ]; exact castR_no hm h hB (by omega)
      have HQ := Lib.hid hq; have HVD := Lib.hid hVd; have H3 := Lib.hid hB3; have HLS := Lib.hid hLs
      obtain ⟨N, hN⟩ : ∃ N, lastN t = N := ⟨_, rfl⟩
      rw [hN] at HLS hbad
      rw [hn, hQ]
      clear hq hVd hLs hQ hm hvr hn hg h0 hr hsz hsv hsl hst h1 hI hv hN hx0 hfit
      have fin : ∀ (V : World), V.heap[w.heap.size + 1 + 1]? = some (.cells #[.int .i64 0, .slice none 0 0] 31 (0, 0)) → Below w.heap.size w V → Q (.returned (.tuple #[.agg #[.int .i64 0, .slice none 0 0], .int .i64 7])) ((V.setCell ⟨w.heap.size + 1 + 1, 0, none⟩ (.int .i64 0)).setCell ⟨w.heap.size + 1 + 1, 1, none⟩ (.slice none 0 0)) := fun V h hB => HQ.out V _ _ h hB
      have HFIN := Lib.hid fin
      clear fin
      cases on with
      | false =>
        clear hbad
        go_enter Tryz.func48, Tryz.ntmps48
        go_wp2_with (first
          | (go_at_call 33; (with_reducible refine (HVD.out _ H3.out).mono ?_); rintro e w1 ⟨rfl, hB1⟩; have hR := (hB1.block _ (Array.getElem?_eq_some_iff.1 hh2).1).trans hh2; obtain ⟨f0, f1, f2, f3⟩ := two_all hR; have hw1 := H3.out.trans (hB1.mono H3.out.size); have ht1 := (hB1.block _ (Array.getElem?_eq_some_iff.1 hh0).1).trans hh0; obtain ⟨k0, k1, k2⟩ := caThree ht1))
        refine bodyPost_ret (results_cell_tmp_rowC Tryz.results48 _ _ (w.heap.size + 1 + 1) _ _ _ _ rfl (set_two9 hR _ _) Tryz.underlying31 rfl (by kernel_rfl)) rfl ?_
        exact HFIN.out _ hR hw1
      | true =>
        by_cases hv1 : v < 1
        · have hd : decide (v < 1) = true := by simpa using hv1
          have HV1 := Lib.hid hv1
          clear hbad hv1
          go_enter Tryz.func48, Tryz.ntmps48
          go_wp2_with (first
            | (go_at_call 33; (with_reducible refine (HVD.out _ H3.out).mono ?_); rintro e w1 ⟨rfl, hB1⟩; have hR := (hB1.block _ (Array.getElem?_eq_some_iff.1 hh2).1).trans hh2; obtain ⟨f0, f1, f2, f3⟩ := two_all hR; have hw1 := H3.out.trans (hB1.mono H3.out.size); have ht1 := (hB1.block _ (Array.getElem?_eq_some_iff.1 hh0).1).trans hh0; obtain ⟨k0, k1, k2⟩ := caThree ht1))
          refine bodyPost_ret (results_cell_tmp_rowC Tryz.results48 _ _ (w.heap.size + 1 + 1) _ _ _ _ rfl (set_two9 hR _ _) Tryz.underlying31 rfl (by kernel_rfl)) rfl ?_
          exact HFIN.out _ hR hw1
        · have hd : decide (v < 1) = false := by simpa using hv1
          have hNv : (N : Int) < v := by rcases hbad with h | h | h; cases h; exact absurd h hv1; exact h
          have hd2 : decide ((N : Int) < v) = true := by simpa using hNv
          have HV1 := Lib.hid hv1; have HNV := Lib.hid hNv
          clear hbad hv1 hNv
          go_enter Tryz.func48, Tryz.ntmps48
          go_wp2_with (first
            | (go_at_call 33; (with_reducible refine (HVD.out _ H3.out).mono ?_); rintro e w1 ⟨rfl, hB1⟩; have hR := (hB1.block _ (Array.getElem?_eq_some_iff.1 hh2).1).trans hh2; obtain ⟨f0, f1, f2, f3⟩ := two_all hR; have hw1 := H3.out.trans (hB1.mono H3.out.size); have ht1 := (hB1.block _ (Array.getElem?_eq_some_iff.1 hh0).1).trans hh0; obtain ⟨k0, k1, k2⟩ := caThree ht1)
            | (go_at_call 49; (with_reducible refine (HLS.out _ hw1).mono ?_); rintro e w2 ⟨rfl, hB2⟩; have hR1 := hR; have hR := (hB2.block _ (Array.getElem?_eq_some_iff.1 hR1).1).trans hR1; obtain ⟨f0, f1, f2, f3⟩ := two_all hR; have hw2 := hw1.trans (hB2.mono hw1.size)))
          refine bodyPost_ret (results_cell_tmp_rowC Tryz.results48 _ _ (w.heap.size + 1 + 1) _ _ _ _ rfl (set_two9 hR _ _) Tryz.underlying31 rfl (by kernel_rfl)) rfl ?_
          exact HFIN.out _ hR hw2
    · obtain ⟨rfl, hv1, hv2⟩ : on = true ∧ ¬ v < 1 ∧ ¬ (lastN t : Int) < v := by
        refine ⟨?_, fun h => hbad (.inr (.inl h)), fun h => hbad (.inr (.inr h))⟩
        cases on with
        | true => rfl
        | false => exact absurd (.inl rfl) hbad
      obtain ⟨z, hz⟩ : ∃ z, Rc.verOf t v = some z := by
        cases hz : Rc.verOf t v with
        | some z => exact ⟨z, rfl⟩
        | none => rcases verOf_none hz with h | h; exact absurd h hv1; exact absurd h hv2
      have hm : Ca.castM t ⟨rv, l⟩ v true = (⟨v, Ca.turnL z.slots l⟩, 0) := by unfold Ca.castM; rw [hvr, hz]
      have hq : ∀ V qa qc, PRow V qa qc (Ca.turnL z.slots l) → V.heap[w.heap.size + 1 + 1]? = some (.cells #[.int .i64 0, .slice none 0 0] 31 (0, 0)) → Below w.heap.size w V → Q (.returned (.tuple #[.agg #[.int .i64 v, .slice qa z.slots.length qc], .int .i64 0])) ((V.setCell ⟨w.heap.size + 1 + 1, 0, none⟩ (.int .i64 v)).setCell ⟨w.heap.size + 1 + 1, 1, none⟩ (.slice qa z.slots.length qc)) := fun V qa qc hp h hB => by
        rw [← hQ, hm]
        have := res_set (.int .i64 v) (.slice qa z.slots.length qc) h hB (show w.heap.size ≤ w.heap.size + 1 + 1 by omega)
        refine ⟨⟨qa, qc, ?_, this.2.2 hp⟩, this.2.1⟩
        simp only [Ca.turnL_length]
      have hl1000 : l.length ≤ 1000 := by
        have h1 := Rc.fitL_len hfit
        have h2 := (verOf_ok hx0).num
        omega
      have hCp := fun (W : World) (hb : Below w.heap.size w W) => caCopies_any b d l W (pRow_below hb hr) hl1000 (fun v hv => right_small (Rc.fitL_right hfit v hv))
      have hCp2 : ∀ W, Below w.heap.size w W → Calls Tryz.prog 75 #[.slice b n d] W fun e w' => (∃ g, e = .returned (.slice (some ⟨g, 0, none⟩) n n) ∧ PRow w' (some ⟨g, 0, none⟩) n l) ∧ Below W.heap.size W w' := fun W hb => by
        have h := hCp W hb
        rw [hn] at h
        refine h.mono fun e w' ⟨⟨Y, he, hM⟩, hb'⟩ => ?_
        obtain ⟨g, e2, _, hp⟩ := made_row hM (by omega) (fun _ _ _ => rfl)
        subst e2
        rw [hn] at he hp
        exact ⟨⟨g, he, hp⟩, hb'⟩
      have hb2 := fun (a : Option Addr) (k c : Nat) (W : World) => build_rec2 v a k c W
      have hd : decide (v < 1) = false := by simpa using hv1
      have hd2 : decide ((lastN t : Int) < v) = false := by simpa using hv2
      obtain ⟨N, hN⟩ : ∃ N, lastN t = N := ⟨_, rfl⟩
      rw [hN] at hd2 hLs
      have HQ := Lib.hid hq; have HVD := Lib.hid hVd; have H3 := Lib.hid hB3; have HLS := Lib.hid hLs; have HCP0 := Lib.hid hCp2; have HG := Lib.hid hg; have HI0 := Lib.hid h0; have HX := Lib.hid hx0; have HF := Lib.hid hfit; have HZ := Lib.hid hz; have HLL := Lib.hid hn; have HV12 := Lib.hid (And.intro hv1 hv2)
      rw [hn, hQ]
      clear hq hVd hLs hQ hm hvr hn hg h0 hr hsz hsv hsl hst h1 hI hv hN hx0 hfit hbad hCp hCp2 hl1000 hv1 hv2 hz
      go_enter Tryz.func48, Tryz.ntmps48
      go_wp2_with (first
        | (go_at_call 33; (with_reducible refine (HVD.out _ H3.out).mono ?_); rintro e w1 ⟨rfl, hB1⟩; have hR := (hB1.block _ (Array.getElem?_eq_some_iff.1 hh2).1).trans hh2; obtain ⟨f0, f1, f2, f3⟩ := two_all hR; have hw1 := H3.out.trans (hB1.mono H3.out.size); have ht1 := (hB1.block _ (Array.getElem?_eq_some_iff.1 hh0).1).trans hh0; obtain ⟨k0, k1, k2⟩ := caThree ht1)
        | (go_at_call 49; (with_reducible refine (HLS.out _ hw1).mono ?_); rintro e w2 ⟨rfl, hB2⟩; have hw2 := hw1.trans (hB2.mono hw1.size)))
      have hb12 := hB1.trans (hB2.mono hB1.size)
      have hTT := (hb12.block _ (Array.getElem?_eq_some_iff.1 hh0).1).trans hh0
      have hRR := (hb12.block _ (Array.getElem?_eq_some_iff.1 hh1).1).trans hh1
      have hRes := (hb12.block _ (Array.getElem?_eq_some_iff.1 hh2).1).trans hh2
      obtain ⟨t0, t1, t2⟩ := caThree hTT
      obtain ⟨r0, r1, _, _⟩ := two_all hRR
      have hwk := hw2
      obtain ⟨wk, hwke⟩ : ∃ x, x = w2 := ⟨_, rfl⟩
      subst hwke
      have HI := HI0
      have HCP := Lib.hid (fun (W : World) (hb : Below wk.heap.size wk W) => HCP0.out W (hwk.trans (hb.mono hwk.size)))
      clear hb12 hB1 hB2 hw1 hw2 hR f0 f1 f2 f3
      have hSS : ∀ W, Below wk.heap.size wk W → W.heap[w.heap.size]? = some (.cells #[.string t.nm, .slice sa t.slots.length sc, .slice ta t.steps.length tc] 25 (0, 0)) ∧ W.heap[w.heap.size + 1]? = some (.cells #[.int .i64 rv, .slice b n d] 31 (0, 0)) := fun W hb => ⟨(hb.block _ (Array.getElem?_eq_some_iff.1 hTT).1).trans hTT, (hb.block _ (Array.getElem?_eq_some_iff.1 hRR).1).trans hRR⟩
      have HSS := Lib.hid hSS; clear hSS
      refine wp_regionZ (S := fun W => W.heap[w.heap.size]? = some (.cells #[.string t.nm, .slice sa t.slots.length sc, .slice ta t.steps.length tc] 25 (0, 0)) ∧ W.heap[w.heap.size + 1]? = some (.cells #[.int .i64 rv, .slice b n d] 31 (0, 0))) 99 13 #[false, false, false, false, false, false, false, false, false, false, false, false, false] (by kernel_rfl) (by kernel_rfl) (by kernel_rfl) ?_
      have hS0 : Below wk.heap.size wk wk.drew := (Below.refl _ _).drew
      obtain ⟨V0, hV0⟩ : ∃ V0, wk.drew = V0 := ⟨_, rfl⟩
      rw [hV0] at hS0 ⊢
      clear hV0
      have hQ0 := HSS.out _ hS0
      refine lastZ_take (i := 0) (v := ?_) rfl (by kernel_rfl) (by kernel_rfl) (by kernel_rfl) (by kernel_rfl) (fun _ _ _ h => h) (Or.inl ⟨by rfl, ?_⟩) (by assumption) ?_
      rotate_left
      · intro w8 hSw; obtain ⟨y0, y1, y2⟩ := caThree hSw.1; obtain ⟨y3, y4, _, _⟩ := two_all hSw.2; clear hSw; go_simp; (try with_reducible rfl)
      (try simp only [Act.put, List.setIfInBounds_toArray, List.set_cons_zero, List.set_cons_succ])
      refine lastZ_take (i := 1) (v := ?_) rfl (by kernel_rfl) (by kernel_rfl) (by kernel_rfl) (by kernel_rfl) (fun _ _ _ h => h) (Or.inl ⟨by rfl, ?_⟩) (by assumption) ?_
      rotate_left
      · intro w8 hSw; obtain ⟨y0, y1, y2⟩ := caThree hSw.1; obtain ⟨y3, y4, _, _⟩ := two_all hSw.2; clear hSw; go_simp; (try with_reducible rfl)
      (try simp only [Act.put, List.setIfInBounds_toArray, List.set_cons_zero, List.set_cons_succ])
      refine lastZ_take (i := 2) (v := ?_) rfl (by kernel_rfl) (by kernel_rfl) (by kernel_rfl) (by kernel_rfl) (fun _ _ _ h => h) (Or.inl ⟨by rfl, ?_⟩) (by assumption) ?_
      rotate_left
      · intro w8 hSw; obtain ⟨y0, y1, y2⟩ := caThree hSw.1; obtain ⟨y3, y4, _, _⟩ := two_all hSw.2; clear hSw; go_simp; (try with_reducible rfl)
      (try simp only [Act.put, List.setIfInBounds_toArray, List.set_cons_zero, List.set_cons_succ])
      refine lastZ_take (i := 4) (v := ?_) rfl (by kernel_rfl) (by kernel_rfl) (by kernel_rfl) (by kernel_rfl) (fun _ _ _ h => h) (Or.inl ⟨by rfl, ?_⟩) (by assumption) ?_
      rotate_left
      · intro w8 hSw; obtain ⟨y0, y1, y2⟩ := caThree hSw.1; obtain ⟨y3, y4, _, _⟩ := two_all hSw.2; clear hSw; go_simp; (try with_reducible rfl)
      (try simp only [Act.put, List.setIfInBounds_toArray, List.set_cons_zero, List.set_cons_succ])
      refine lastZ_take (i := 5) (v := ?_) rfl (by kernel_rfl) (by kernel_rfl) (by kernel_rfl) (by kernel_rfl) (fun _ _ _ h => h) (Or.inl ⟨by rfl, ?_⟩) (by assumption) ?_
      rotate_left
      · intro w8 hSw; obtain ⟨y0, y1, y2⟩ := caThree hSw.1; obtain ⟨y3, y4, _, _⟩ := two_all hSw.2; clear hSw; go_simp; (try with_reducible rfl)
      (try simp only [Act.put, List.setIfInBounds_toArray, List.set_cons_zero, List.set_cons_succ])
      refine lastZ_take (i := 6) (v := ?_) rfl (by kernel_rfl) (by kernel_rfl) (by kernel_rfl) (by kernel_rfl) (fun _ _ _ h => h) (Or.inl ⟨by rfl, ?_⟩) (by assumption) ?_
      rotate_left
      · intro w8 hSw; obtain ⟨y0, y1, y2⟩ := caThree hSw.1; obtain ⟨y3, y4, _, _⟩ := two_all hSw.2; clear hSw; go_simp; (try with_reducible rfl)
      (try simp only [Act.put, List.setIfInBounds_toArray, List.set_cons_zero, List.set_cons_succ])
      refine lastZ_take (i := 7) (v := ?_) rfl (by kernel_rfl) (by kernel_rfl) (by kernel_rfl) (by kernel_rfl) (fun _ _ _ h => h) (Or.inl ⟨by rfl, ?_⟩) (by assumption) ?_
      rotate_left
      · intro w8 hSw; obtain ⟨y0, y1, y2⟩ := caThree hSw.1; obtain ⟨y3, y4, _, _⟩ := two_all hSw.2; clear hSw; go_simp; (try with_reducible rfl)
      (try simp only [Act.put, List.setIfInBounds_toArray, List.set_cons_zero, List.set_cons_succ])
      (with_reducible refine lastZ_one (i := 3) (o := ?ob3) (by kernel_rfl) ?ho3 (fun K hK => ?st3))
      case ho3 => exact rfl
      go_simp
      go_at_call 75
      (with_reducible refine (HCP.out _ hS0).mono ?_)
      rintro e W1 ⟨⟨cg, rfl, hP1⟩, hB1⟩
      have hS1 := hS0.trans (hB1.mono hS0.size)
      have hQ1 := HSS.out _ hS1
      refine hK.out _ _ (.inr hQ1) ?_
      clear hK K
      (with_reducible refine lastZ_one (i := 8) (o := ?ob8) (by kernel_rfl) ?ho8 (fun K hK => ?st8))
      case ho8 => exact rfl
      go_simp
      go_at_call 76
      (with_reducible refine (caSteps_any _ _ _ _ _ _ _ _ _ W1).mono ?_)
      rintro e W2 ⟨rfl, hW2⟩
      have hB2 := below3 W1 (.cells #[.string t.nm, .slice sa t.slots.length sc, .slice ta t.steps.length tc] 25) (.cells #[.int .i64 rv] 3) (.cells #[.int .i64 v] 3)
      have hh := heap3 (Below.refl _ (((W1.alloc (.cells #[.string t.nm, .slice sa t.slots.length sc, .slice ta t.steps.length tc] 25)).alloc (.cells #[.int .i64 rv] 3)).alloc (.cells #[.int .i64 v] 3)))
      rw [← hW2] at hB2 hh
      have hS2 := hS1.trans (hB2.mono hS1.size)
      obtain ⟨hh0, hh1, hh2⟩ := hh
      have hP2 := pRow_below hB2 hP1
      clear hW2
      have hQ2 := HSS.out _ hS2
      refine hK.out _ _ (.inr hQ2) ?_
      clear hK K
      (with_reducible refine lastZ_one (i := 9) (o := ?ob9) (by kernel_rfl) ?ho9 (fun K hK => ?st9))
      case ho9 => exact rfl
      go_simp
      go_at_call 74
      have hTh := caThrough_any t rv v l x0 z (some ⟨cg, 0, none⟩) n (W1.heap.size + 1) (W1.heap.size + 1 + 1) W1.heap.size W2 sa sc ta tc HG.out (isTempl_below (hwk.trans (hS2.mono hwk.size)) HI.out) HX.out HF.out HZ.out hP2 hh1 hh2 hh0
      rw [HLL.out] at hTh
      (with_reducible refine hTh.mono ?_)
      clear hTh
      rintro e W3 ⟨⟨qa, qc, rfl, hP3⟩, hB3⟩
      have hS3 := hS2.trans (hB3.mono hS2.size)
      have hQ3 := HSS.out _ hS3
      refine hK.out _ _ (.inr hQ3) ?_
      clear hK K hP1 hP2 hh0 hh1 hh2 hB1 hB2 hB3 hS1 hS2
      refine lastZ_take (i := 10) (v := ?_) rfl (by kernel_rfl) (by kernel_rfl) (by kernel_rfl) (by kernel_rfl) (fun _ _ _ h => h) (Or.inl ⟨by rfl, ?_⟩) (by assumption) ?_
      rotate_left
      · intro w8 hSw; clear hSw; go_simp; (try with_reducible rfl)
      (try simp only [Act.put, List.setIfInBounds_toArray, List.set_cons_zero, List.set_cons_succ])
      have hR3 := (hS3.block _ (Array.getElem?_eq_some_iff.1 hRes).1).trans hRes
      obtain ⟨d0, d1, d2, d3⟩ := two_all hR3
      (with_reducible refine lastZ_one (i := 11) (o := ?ob11) (by kernel_rfl) ?ho11 (fun K hK => ?st11))
      case ho11 => exact rfl
      go_simp
      have hQ4 : ((W3.setCell ⟨w.heap.size + 1 + 1, 0, none⟩ (.int .i64 v)).setCell ⟨w.heap.size + 1 + 1, 1, none⟩ (.slice qa z.slots.length qc)).heap[w.heap.size]? = some (.cells #[.string t.nm, .slice sa t.slots.length sc, .slice ta t.steps.length tc] 25 (0, 0)) ∧ ((W3.setCell ⟨w.heap.size + 1 + 1, 0, none⟩ (.int .i64 v)).setCell ⟨w.heap.size + 1 + 1, 1, none⟩ (.slice qa z.slots.length qc)).heap[w.heap.size + 1]? = some (.cells #[.int .i64 rv, .slice b n d] 31 (0, 0)) := by
        rw [Below.heap_setCell _ ⟨w.heap.size + 1 + 1, 1, none⟩ _ _ (by show w.heap.size ≠ w.heap.size + 1 + 1; omega), Below.heap_setCell _ ⟨w.heap.size + 1 + 1, 0, none⟩ _ _ (by show w.heap.size ≠ w.heap.size + 1 + 1; omega), Below.heap_setCell _ ⟨w.heap.size + 1 + 1, 1, none⟩ _ _ (by show w.heap.size + 1 ≠ w.heap.size + 1 + 1; omega), Below.heap_setCell _ ⟨w.heap.size + 1 + 1, 0, none⟩ _ _ (by show w.heap.size + 1 ≠ w.heap.size + 1 + 1; omega)]
        exact hQ3
      refine hK.out _ _ (.inr hQ4) ?_
      clear hK K d0 d1 d2 d3
      (with_reducible refine lastZ_one (i := 12) (o := ?ob12) (by kernel_rfl) ?ho12 (fun K hK => ?st12))
      case ho12 => exact rfl
      go_simp
      refine hK.out _ _ (.inr hQ4) ?_
      clear hK K
      refine lastZ_done (by kernel_rfl) ?_ _
      go_wp2
      refine bodyPost_ret (results_cell_tmp_rowC Tryz.results48 _ _ (w.heap.size + 1 + 1) _ _ _ _ rfl (set_two9 hR3 _ _) Tryz.underlying31 rfl (by kernel_rfl)) rfl ?_
      exact HQ.out _ _ _ hP3 hR3 (hwk.trans (hS3.mono hwk.size))
end Go.Proofs.YtibjjclfonpibaaGreat
