/- The document's Up of layer 12. (Made by gen_ref12.py.) -/
import Derived.Test.YtibjjclfonpibaaGreatMh51Cast
import Derived.Test.YtibjjclfonpibaaGreatMh42Cast
set_option linter.unusedVariables false
set_option linter.unusedSimpArgs false
set_option maxRecDepth 100000
namespace Go.Proofs.YtibjjclfonpibaaGreat
open Go.RowKit Go.Shelf
theorem vCells_row {w : World} {l : List PV} {a : Option Addr} {cap : Nat} (h : PRow w a cap l) : ∃ cs, VCells w l cs ∧ Cells w 4 a l.length cs := by
  rcases h.2.2 with h3 | ⟨b, off, rfl, hc⟩
  · subst h3
    exact ⟨[], ⟨rfl, by simp, fun i v h => by simp at h⟩, rfl, .inl rfl⟩
  · suffices H : ∀ k, k ≤ l.length → ∃ cs : List Value, cs.length = k * 4 ∧ (∀ u ∈ cs, u.oneCell' = true) ∧ (∀ (i : Nat) (v : PV), i < k → l[i]? = some v → ∃ c0 c1 c2 c3, (cs[i * 4]? = some c0 ∧ cs[i * 4 + 1]? = some c1 ∧ cs[i * 4 + 2]? = some c2 ∧ cs[i * 4 + 3]? = some c3) ∧ Is w v (.agg #[c0, c1, c2, c3])) ∧ ∀ j u, cs[j]? = some u → w.cell? ⟨b, off + j, none⟩ = some u by
      obtain ⟨cs, h1, h2, h3, h4⟩ := H l.length (Nat.le_refl _)
      exact ⟨cs, ⟨h1, h2, fun i v hv => h3 i v (List.getElem?_eq_some_iff.1 hv).1 hv⟩, h1, .inr ⟨_, rfl, fun j u hu => by rw [Addr.add_lit]; exact h4 j u hu⟩⟩
    intro k
    induction k with
    | zero => intro _; exact ⟨[], rfl, by simp, fun i v hi => by omega, fun j u hu => by simp at hu⟩
    | succ k ih =>
      intro hk
      obtain ⟨cs, h1, h2, h3, h4⟩ := ih (by omega)
      obtain ⟨c0, c1, c2, c3, ⟨g0, g1, g2, g3⟩, hi⟩ := isL_at hc k _ (List.getElem?_eq_getElem (by omega : k < l.length))
      obtain ⟨o0, o1, o2, o3⟩ := is_one hi
      refine ⟨cs ++ [c0, c1, c2, c3], by simp [h1]; omega, fun u hu => ?_, fun i v hik hv => ?_, fun j u hu => ?_⟩
      · rcases List.mem_append.1 hu with hu | hu
        · exact h2 u hu
        · simp only [List.mem_cons, List.not_mem_nil, or_false] at hu
          rcases hu with rfl | rfl | rfl | rfl
          · exact o0
          · exact o1
          · exact o2
          · exact o3
      · rcases Nat.lt_or_ge i k with h | h
        · obtain ⟨d0, d1, d2, d3, ⟨e0, e1, e2, e3⟩, hi⟩ := h3 i v h hv
          refine ⟨d0, d1, d2, d3, ?_, hi⟩
          rw [List.getElem?_append_left (by omega), List.getElem?_append_left (by omega), List.getElem?_append_left (by omega), List.getElem?_append_left (by omega)]
          exact ⟨e0, e1, e2, e3⟩
        · obtain rfl : i = k := by omega
          rw [List.getElem?_eq_getElem (by omega : i < l.length)] at hv
          cases hv
          refine ⟨c0, c1, c2, c3, ?_, hi⟩
          rw [List.getElem?_append_right (by omega), List.getElem?_append_right (by omega), List.getElem?_append_right (by omega), List.getElem?_append_right (by omega)]
          rw [show i * 4 - cs.length = 0 by omega, show i * 4 + 1 - cs.length = 1 by omega, show i * 4 + 2 - cs.length = 2 by omega, show i * 4 + 3 - cs.length = 3 by omega]
          exact ⟨rfl, rfl, rfl, rfl⟩
      · rcases Nat.lt_or_ge j cs.length with h | h
        · rw [List.getElem?_append_left h] at hu
          exact h4 j u hu
        · rw [List.getElem?_append_right h] at hu
          obtain ⟨m, rfl⟩ : ∃ m, j = k * 4 + m := ⟨j - k * 4, by omega⟩
          rw [h1, show k * 4 + m - k * 4 = m by omega] at hu
          have hm : m < 4 := (List.getElem?_eq_some_iff.1 hu).1
          rw [show off + (k * 4 + m) = off + k * 4 + m by omega]
          match m, hm with
          | 0, _ => cases hu; exact g0
          | 1, _ => cases hu; exact g1
          | 2, _ => cases hu; exact g2
          | 3, _ => cases hu; exact g3
theorem up_take {x0 x : Sc.Ver} {l : List PV} (hf : Rc.fitL x0.slots l = true) (hg : Sc.Grows x0 x) : (Ca.turnL x.slots l).take l.length = l := by
  obtain ⟨h1, h2⟩ := (Rc.fitL_iff _ _).1 hf
  refine List.ext_getElem? fun i => ?_
  rcases Nat.lt_or_ge i l.length with hi | hi
  · rw [List.getElem?_take_of_lt hi, Ca.turnL_at]
    obtain ⟨s0, hs0⟩ : ∃ s0, x0.slots[i]? = some s0 := ⟨_, List.getElem?_eq_getElem (by omega)⟩
    obtain ⟨s, hs, _, h3⟩ := hg i s0 hs0
    have hv := List.getElem?_eq_getElem hi
    rw [hs, hv]
    simp only [Option.map_some, Option.some.injEq]
    exact Ca.oneV_fit (h3 _ (h2 i s0 _ hs0 hv))
  · rw [List.getElem?_eq_none hi, List.getElem?_eq_none (by rw [List.length_take]; omega)]
theorem up_next {x : Sc.Ver} {l : List PV} {k : Nat} {s : SlotM} (hk : l.length ≤ k) (hs : x.slots[k]? = some s) : (Ca.turnL x.slots l).take (k + 1) = (Ca.turnL x.slots l).take k ++ [s.df] := by
  refine (take_next ?_).symm
  rw [Ca.turnL_at, hs, List.getElem?_eq_none hk]
  rfl
theorem vCells_below9 {w W : World} {l : List PV} {cs : List Value} (h : VCells w l cs) (hb : Below w.heap.size w W) : VCells W l cs :=
  ⟨h.1, h.2.1, fun i v hv => by
    obtain ⟨c0, c1, c2, c3, hc, hI⟩ := h.2.2 i v hv
    exact ⟨c0, c1, c2, c3, hc, is_below hb _ _ hI⟩⟩
theorem vCells_snoc9 {w : World} {l : List PV} {cs : List Value} {v : PV} {c0 c1 c2 c3 : Value} (h : VCells w l cs) (hv : Is w v (.agg #[c0, c1, c2, c3])) : VCells w (l ++ [v]) (cs ++ [c0, c1, c2, c3]) := by
  obtain ⟨h1, h2, h3⟩ := h
  have ho := is_one hv
  refine ⟨by simp [h1]; omega, fun u hu => ?_, fun i y hy => ?_⟩
  · rcases List.mem_append.1 hu with hu | hu
    · exact h2 u hu
    · simp only [List.mem_cons, List.not_mem_nil, or_false] at hu
      rcases hu with rfl | rfl | rfl | rfl
      · exact ho.1
      · exact ho.2.1
      · exact ho.2.2.1
      · exact ho.2.2.2
  · rcases Nat.lt_or_ge i l.length with hi | hi
    · rw [List.getElem?_append_left hi] at hy
      obtain ⟨d0, d1, d2, d3, ⟨e0, e1, e2, e3⟩, hd⟩ := h3 i y hy
      exact ⟨d0, d1, d2, d3, ⟨by rw [List.getElem?_append_left (by omega)]; exact e0, by rw [List.getElem?_append_left (by omega)]; exact e1, by rw [List.getElem?_append_left (by omega)]; exact e2, by rw [List.getElem?_append_left (by omega)]; exact e3⟩, hd⟩
    · have hlt := (List.getElem?_eq_some_iff.1 hy).1
      simp only [List.length_append, List.length_cons, List.length_nil] at hlt
      obtain rfl : i = l.length := by omega
      rw [List.getElem?_append_right (Nat.le_refl _)] at hy
      simp only [Nat.sub_self, List.getElem?_cons_zero, Option.some.injEq] at hy
      subst hy
      exact ⟨c0, c1, c2, c3, ⟨by rw [List.getElem?_append_right (by omega), show l.length * 4 - cs.length = 0 by omega]; rfl, by rw [List.getElem?_append_right (by omega), show l.length * 4 + 1 - cs.length = 1 by omega]; rfl, by rw [List.getElem?_append_right (by omega), show l.length * 4 + 2 - cs.length = 2 by omega]; rfl, by rw [List.getElem?_append_right (by omega), show l.length * 4 + 3 - cs.length = 3 by omega]; rfl⟩, hv⟩
/-- the record that is made, as far as it is made -/
def OutS (wk V : World) (bo : Nat) (v : Int) (L : List PV) : Prop := Below wk.heap.size wk V ∧ wk.heap.size ≤ bo ∧ ∃ ov cs, V.heap[bo]? = some (.cells #[.int .i64 v, ov] 31 (0, 0)) ∧ V.ownsRow wk.heap.size 42 4 ov L.length cs ∧ VCells wk L cs
theorem castM_none {t : TemplM} {r : RecM} {v : Int} {on : Bool} {x0 : Sc.Ver} (h : Rc.verR t r = some x0) (hz : Rc.verOf t v = none) : Ca.castM t r v on = (⟨0, []⟩, 7) := by
  unfold Ca.castM; rw [h, hz]; cases on <;> rfl
theorem castM_off {t : TemplM} {r : RecM} {v : Int} {x0 : Sc.Ver} (h : Rc.verR t r = some x0) : Ca.castM t r v false = (⟨0, []⟩, 7) := by
  unfold Ca.castM; rw [h]
theorem castM_on {t : TemplM} {r : RecM} {v : Int} {x0 x : Sc.Ver} (h : Rc.verR t r = some x0) (hz : Rc.verOf t v = some x) : Ca.castM t r v true = (⟨v, Ca.turnL x.slots r.s⟩, 0) := by
  unfold Ca.castM; rw [h, hz]
theorem own_rec9 {B n bo : Nat} {V : World} {ov : Value} {cs : List Value} {c : Array Value} (h : V.heap[bo]? = some (.cells c 31 (0, 0))) (k : V.ownsRow B 42 4 ov n cs) : ∀ b, ov.ownBlock = some b → b ≠ bo := fun b hb e => by
  obtain ⟨cur, hc⟩ := own_typ9 k hb
  rw [e, h] at hc
  injection hc with hc
  injection hc with _ hc _
  revert hc; decide
/-- the record's row grows by one -/
theorem outS_put {wk V : World} {bo : Nat} {v : Int} {L : List PV} {ov ov' : Value} {cs' : List Value} {y : PV} (hB : Below wk.heap.size wk V) (hbo : wk.heap.size ≤ bo) (hO : V.heap[bo]? = some (.cells #[.int .i64 v, ov] 31 (0, 0)))
    (ho : V.ownsRow wk.heap.size 42 4 ov' (L.length + 1) cs') (hv : VCells wk (L ++ [y]) cs') : OutS wk (V.setCell ⟨bo, 1, none⟩ ov') bo v (L ++ [y]) := by
  refine ⟨below_grown9 hB (grown_set9 V bo 1 ov') (fun b e => by cases e; exact hbo) hB.size, hbo, ov', cs', set_snd9 hO _, ?_, hv⟩
  rw [List.length_append]
  exact own_kept9 ho (grown_set9 V bo 1 ov') (fun b e1 e2 => by cases e1; exact own_rec9 hO ho _ e2 rfl)
theorem outS_end {wk V : World} {bo : Nat} {v : Int} {L : List PV} (h : OutS wk V bo v L) : ∃ a c, V.heap[bo]? = some (.cells #[.int .i64 v, .slice a L.length c] 31 (0, 0)) ∧ PRow V a c L := by
  obtain ⟨hB, hbo, ov, cs, hO, ho, hv⟩ := h
  obtain ⟨a, c, rfl, hp⟩ := own_isL ho hv hB
  exact ⟨a, c, hO, hp⟩
set_option maxHeartbeats 16000000 in
theorem ref12Up_any (t : TemplM) (r : RecM) (v : Int) (w : World) (X : Value) (b : Option Addr) (d : Nat) (hg : greatT t = false) (hI : I64 r.v) (hv : I64 v) (hi : IsTempl w t X) (hr : PRow w b d r.s) (hsz : ∀ v ∈ r.s, szV v ≤ 1000000) (hsv : r.s.length ≤ 100000) :
    Calls Tryz.prog 19 #[X, .agg #[.int .i64 r.v, .slice b r.s.length d], .int .i64 v] w (CastR w (Ca.upM t r v)) := by
  have h0 := hi
  obtain ⟨h1, sa, sc, ta, tc, rfl, hsl, hst⟩ := hi
  obtain ⟨rv, l⟩ := r
  simp only at hI hr hsz hsv ⊢
  obtain ⟨n, hn⟩ : ∃ n, l.length = n := ⟨_, rfl⟩
  have hVd := fun (W : World) (hb : Below w.heap.size w W) => refValid11_any t ⟨rv, l⟩ W _ b d hg hI (isTempl_below hb h0) (pRow_below hb hr) hsz hsv
  have hAt := fun (W : World) (hb : Below w.heap.size w W) => refAt_any t v W _ hg hv (isTempl_below hb h0)
  simp only [hn] at hVd
  have hz0 := build_rec0
  have hB3 := below3 w (.cells #[.string t.nm, .slice sa t.slots.length sc, .slice ta t.steps.length tc] 25) (.cells #[.int .i64 rv, .slice b n d] 31) (.cells #[.int .i64 0, .slice none 0 0] 31)
  have hh := heap3 (Below.refl _ (((w.alloc (.cells #[.string t.nm, .slice sa t.slots.length sc, .slice ta t.steps.length tc] 25)).alloc (.cells #[.int .i64 rv, .slice b n d] 31)).alloc (.cells #[.int .i64 0, .slice none 0 0] 31)))
  obtain ⟨hh0, hh1, hh2⟩ := hh
  obtain ⟨Q, hQ⟩ : ∃ Q, CastR w (Ca.upM t ⟨rv, l⟩ v) = Q := ⟨_, rfl⟩
  cases hvr : Rc.verR t ⟨rv, l⟩ with
  | none =>
    have hm : Ca.upM t ⟨rv, l⟩ v = (⟨0, []⟩, 1) := by unfold Ca.upM Ca.castM; rw [hvr]
    rw [hvr] at hVd
    have hq : ∀ V z0 z1, V.heap[w.heap.size + 1 + 1]? = some (.cells #[z0, z1] 31 (0, 0)) → Below w.heap.size w V → Q (.returned (.tuple #[.agg #[.int .i64 0, .slice none 0 0], .int .i64 1])) ((V.setCell ⟨w.heap.size + 1 + 1, 0, none⟩ (.int .i64 0)).setCell ⟨w.heap.size + 1 + 1, 1, none⟩ (.slice none 0 0)) := fun V z0 z1 h hB => by
      rw [← hQ]; exact castR_no hm h hB (by omega)
    have HQ := Lib.hid hq; have HVD := Lib.hid hVd; have H3 := Lib.hid hB3
    rw [hn, hQ]
    clear hq hVd hAt hQ hm hvr hn hg h0 hr hsz hsv hsl hst h1 hI hv
    go_enter Tryz.func19, Tryz.ntmps19
    go_wp2_with (first
      | (go_at_call 27; (with_reducible refine (HVD.out _ H3.out).mono ?_); rintro e w1 ⟨rfl, hB1⟩; have hR := (hB1.block _ (Array.getElem?_eq_some_iff.1 hh2).1).trans hh2; obtain ⟨f0, f1, f2, f3⟩ := two_all hR; have hw1 := H3.out.trans (hB1.mono H3.out.size); have ht1 := (hB1.block _ (Array.getElem?_eq_some_iff.1 hh0).1).trans hh0; obtain ⟨k0, k1, k2⟩ := caThree ht1))
    refine bodyPost_ret (results_cell_tmp_rowC Tryz.results19 _ _ (w.heap.size + 1 + 1) _ _ _ _ rfl (set_two9 hR _ _) Tryz.underlying31 rfl (by kernel_rfl)) rfl ?_
    exact HQ.out _ _ _ hR hw1
  | some x0 =>
    obtain ⟨hx0, hfit⟩ := Ca.verR_of hvr
    simp only at hx0 hfit
    rw [hvr] at hVd
    simp only [Option.isSome_some] at hVd
    have hq7 : Ca.upM t ⟨rv, l⟩ v = (⟨0, []⟩, 7) → ∀ V z0 z1, V.heap[w.heap.size + 1 + 1]? = some (.cells #[z0, z1] 31 (0, 0)) → Below w.heap.size w V → Q (.returned (.tuple #[.agg #[.int .i64 0, .slice none 0 0], .int .i64 7])) ((V.setCell ⟨w.heap.size + 1 + 1, 0, none⟩ (.int .i64 0)).setCell ⟨w.heap.size + 1 + 1, 1, none⟩ (.slice none 0 0)) := fun hm V z0 z1 h hB => by
      rw [← hQ]; exact castR_no hm h hB (by omega)
    cases hz : Rc.verOf t v with
    | none =>
      have hm : Ca.upM t ⟨rv, l⟩ v = (⟨0, []⟩, 7) := castM_none hvr hz
      have HQ := Lib.hid (hq7 hm); have HVD := Lib.hid hVd; have H3 := Lib.hid hB3
      have hAt2 : ∀ W, Below w.heap.size w W → Calls Tryz.prog 13 #[.agg #[.string t.nm, .slice sa t.slots.length sc, .slice ta t.steps.length tc], .int .i64 v] W fun e w' => e = .returned (.tuple #[.agg #[.slice none 0 0, .slice none 0 0], .bool false]) ∧ Below W.heap.size W w' := fun W hb => (hAt W hb).mono fun e w' h => by
        unfold AtD at h; rw [hz] at h; exact h
      have HAT := Lib.hid hAt2
      rw [hn, hQ]
      clear hq7 hVd hAt hAt2 hQ hm hvr hn hg h0 hr hsz hsv hsl hst h1 hI hv hz hx0 hfit
      go_enter Tryz.func19, Tryz.ntmps19
      go_wp2_with (first
        | (go_at_call 27; (with_reducible refine (HVD.out _ H3.out).mono ?_); rintro e w1 ⟨rfl, hB1⟩; have hR := (hB1.block _ (Array.getElem?_eq_some_iff.1 hh2).1).trans hh2; obtain ⟨f0, f1, f2, f3⟩ := two_all hR; have hw1 := H3.out.trans (hB1.mono H3.out.size); have ht1 := (hB1.block _ (Array.getElem?_eq_some_iff.1 hh0).1).trans hh0; obtain ⟨k0, k1, k2⟩ := caThree ht1)
        | (go_at_call 13; (with_reducible refine (HAT.out _ hw1).mono ?_); rintro e w2 ⟨rfl, hB2⟩; have hB12 := hB1.trans (hB2.mono hB1.size); have hA2 := Below.heapsize9 w2 (.cells #[.slice none 0 0, .slice none 0 0] 37); have hB13 := hB12.trans (hA2.mono hB12.size); have hX2 := heap_self9 w2 (.cells #[.slice none 0 0, .slice none 0 0] 37); clear hR f0 f1 f2 f3; have hR := (hB13.block _ (Array.getElem?_eq_some_iff.1 hh2).1).trans hh2; obtain ⟨f0, f1, f2, f3⟩ := two_all hR; have hRr := (hB13.block _ (Array.getElem?_eq_some_iff.1 hh1).1).trans hh1; obtain ⟨r0, r1, _, _⟩ := two_all hRr; have hw3 := H3.out.trans (hB13.mono H3.out.size)))
      refine bodyPost_ret (results_cell_tmp_rowC Tryz.results19 _ _ (w.heap.size + 1 + 1) _ _ _ _ rfl (set_two9 hR _ _) Tryz.underlying31 rfl (by kernel_rfl)) rfl ?_
      exact HQ.out _ _ _ hR hw3
    | some x =>
      have hAt2 : ∀ W, Below w.heap.size w W → Calls Tryz.prog 13 #[.agg #[.string t.nm, .slice sa t.slots.length sc, .slice ta t.steps.length tc], .int .i64 v] W fun e w' => (∃ sa sc ca cc, e = .returned (.tuple #[.agg #[.slice sa x.slots.length sc, .slice ca x.cols.length cc], .bool true]) ∧ VerAt w' x sa sc ca cc) ∧ Below W.heap.size W w' := fun W hb => (hAt W hb).mono fun e w' h => by
        unfold AtD at h; rw [hz] at h; exact h
      have HAT := Lib.hid hAt2
      have hzn := (verOf_ok9 hz).num
      by_cases hlt : v < rv
      · have hd : decide (v < rv) = true := by simpa using hlt
        have hm : Ca.upM t ⟨rv, l⟩ v = (⟨0, []⟩, 7) := by unfold Ca.upM; simp only; rw [decide_eq_false (by omega)]; exact castM_off hvr
        have HQ := Lib.hid (hq7 hm); have HVD := Lib.hid hVd; have H3 := Lib.hid hB3; have HLT := Lib.hid hlt
        rw [hn, hQ]
        clear hq7 hVd hAt hAt2 hQ hm hvr hn hg h0 hr hsz hsv hsl hst h1 hI hv hz hx0 hfit hlt
        go_enter Tryz.func19, Tryz.ntmps19
        go_wp2_with (first
          | (go_at_call 27; (with_reducible refine (HVD.out _ H3.out).mono ?_); rintro e w1 ⟨rfl, hB1⟩; have hR := (hB1.block _ (Array.getElem?_eq_some_iff.1 hh2).1).trans hh2; obtain ⟨f0, f1, f2, f3⟩ := two_all hR; have hw1 := H3.out.trans (hB1.mono H3.out.size); have ht1 := (hB1.block _ (Array.getElem?_eq_some_iff.1 hh0).1).trans hh0; obtain ⟨k0, k1, k2⟩ := caThree ht1)
          | (go_at_call 13; (with_reducible refine (HAT.out _ hw1).mono ?_); rintro e w2 ⟨⟨sa1, sc1, ca1, cc1, rfl, hV1⟩, hB2⟩; have hB12 := hB1.trans (hB2.mono hB1.size); have hA2 := Below.heapsize9 w2 (.cells #[.slice sa1 x.slots.length sc1, .slice ca1 x.cols.length cc1] 37); have hB13 := hB12.trans (hA2.mono hB12.size); have hX2 := heap_self9 w2 (.cells #[.slice sa1 x.slots.length sc1, .slice ca1 x.cols.length cc1] 37); clear hR f0 f1 f2 f3; have hR := (hB13.block _ (Array.getElem?_eq_some_iff.1 hh2).1).trans hh2; obtain ⟨f0, f1, f2, f3⟩ := two_all hR; have hRr := (hB13.block _ (Array.getElem?_eq_some_iff.1 hh1).1).trans hh1; obtain ⟨r0, r1, _, _⟩ := two_all hRr; have hw3 := H3.out.trans (hB13.mono H3.out.size)))
        refine bodyPost_ret (results_cell_tmp_rowC Tryz.results19 _ _ (w.heap.size + 1 + 1) _ _ _ _ rfl (set_two9 hR _ _) Tryz.underlying31 rfl (by kernel_rfl)) rfl ?_
        exact HQ.out _ _ _ hR hw3
      · have hd : decide (v < rv) = false := by simpa using hlt
        have hgr := Ca.verOf_grows (show rv ≤ v by omega) hx0 hz
        have hlen := Rc.fitL_len hfit
        have hgl := Sc.grows_len hgr
        have hm : Ca.upM t ⟨rv, l⟩ v = (⟨v, Ca.turnL x.slots l⟩, 0) := by unfold Ca.upM; simp only; rw [decide_eq_true (by omega)]; exact castM_on hvr hz
        have hq : ∀ V qa qc, PRow V qa qc (Ca.turnL x.slots l) → V.heap[w.heap.size + 1 + 1]? = some (.cells #[.int .i64 0, .slice none 0 0] 31 (0, 0)) → Below w.heap.size w V → Q (.returned (.tuple #[.agg #[.int .i64 v, .slice qa x.slots.length qc], .int .i64 0])) ((V.setCell ⟨w.heap.size + 1 + 1, 0, none⟩ (.int .i64 v)).setCell ⟨w.heap.size + 1 + 1, 1, none⟩ (.slice qa x.slots.length qc)) := fun V qa qc hp h hB => by
          rw [← hQ, hm]
          have := res_set (.int .i64 v) (.slice qa x.slots.length qc) h hB (show w.heap.size ≤ w.heap.size + 1 + 1 by omega)
          refine ⟨⟨qa, qc, ?_, this.2.2 hp⟩, this.2.1⟩
          simp only [Ca.turnL_length]
        have hb2 := fun (a : Option Addr) (k c : Nat) (W : World) => build_rec2 v a k c W
        obtain ⟨i0, hi0, hz3, hz1, hz2⟩ := info_parts info_val
        obtain ⟨xs, hxs⟩ : ∃ xs, Ca.turnL x.slots l = xs := ⟨_, rfl⟩
        have htk := up_take hfit hgr
        have hnx : ∀ (k : Nat) (s : SlotM), n ≤ k → x.slots[k]? = some s → xs.take (k + 1) = xs.take k ++ [s.df] := fun k s hk hs => by rw [← hxs]; exact up_next (by omega) hs
        have hxl : xs.length = x.slots.length := by rw [← hxs]; exact Ca.turnL_length _ _
        obtain ⟨cs0, hvc0, hcl0⟩ := vCells_row hr
        rw [hxs] at htk hq
        rw [hn] at htk hcl0
        have hnN : n ≤ x.slots.length := by omega
        obtain ⟨N, hN⟩ : ∃ N, x.slots.length = N := ⟨_, rfl⟩
        rw [hN] at hzn hnN hxl hq HAT
        have hN1 := Lib.hid hN
        have HQ := Lib.hid hq; have HVD := Lib.hid hVd; have H3 := Lib.hid hB3; have HTK := Lib.hid htk; have HNX := Lib.hid hnx; have HXL := Lib.hid hxl; have HVC := Lib.hid hvc0; have HCL := Lib.hid hcl0; have HLT := Lib.hid hlt; have HZN := Lib.hid hzn; have HNN := Lib.hid hnN; have HN := Lib.hid hn
        rw [hn, hQ]
        clear hq hq7 hVd hAt hAt2 hQ hm hvr hn hg h0 hr hsz hsv hsl hst h1 hI hv hz hx0 hfit hlt hgr hlen hgl hxs htk hnx hxl hvc0 hcl0 hzn hnN hN
        go_enter Tryz.func19, Tryz.ntmps19
        go_wp2_with (first
          | (go_at_call 27; (with_reducible refine (HVD.out _ H3.out).mono ?_); rintro e w1 ⟨rfl, hB1⟩; have hR := (hB1.block _ (Array.getElem?_eq_some_iff.1 hh2).1).trans hh2; obtain ⟨f0, f1, f2, f3⟩ := two_all hR; have hw1 := H3.out.trans (hB1.mono H3.out.size); have ht1 := (hB1.block _ (Array.getElem?_eq_some_iff.1 hh0).1).trans hh0; obtain ⟨k0, k1, k2⟩ := caThree ht1)
          | (go_at_call 13; (with_reducible refine (HAT.out _ hw1).mono ?_); rintro e w2 ⟨⟨sa1, sc1, ca1, cc1, rfl, hV1⟩, hB2⟩; have hB12 := hB1.trans (hB2.mono hB1.size); have hA2 := Below.heapsize9 w2 (.cells #[.slice sa1 N sc1, .slice ca1 x.cols.length cc1] 37); have hB13 := hB12.trans (hA2.mono hB12.size); have hX2 := heap_self9 w2 (.cells #[.slice sa1 N sc1, .slice ca1 x.cols.length cc1] 37); clear hR f0 f1 f2 f3; have hR := (hB13.block _ (Array.getElem?_eq_some_iff.1 hh2).1).trans hh2; obtain ⟨f0, f1, f2, f3⟩ := two_all hR; have hRr := (hB13.block _ (Array.getElem?_eq_some_iff.1 hh1).1).trans hh1; obtain ⟨r0, r1, _, _⟩ := two_all hRr; have hw3 := H3.out.trans (hB13.mono H3.out.size); have hA4 := Below.heapsize9 (w2.alloc (.cells #[.slice sa1 N sc1, .slice ca1 x.cols.length cc1] 37)) (.cells #[] 42); have r1' := cell_below hA4 r1; have HW4 := Lib.hid (hw3.trans (hA4.mono hw3.size)); have hO4 : ((w2.alloc (.cells #[.slice sa1 N sc1, .slice ca1 x.cols.length cc1] 37)).alloc (.cells #[] 42)).ownsRow (w2.heap.size + 1) 42 4 (.slice (some ⟨w2.heap.size + 1, 0, none⟩) 0 0) 0 [] := (by have h := own_empty (w2.alloc (.cells #[.slice sa1 N sc1, .slice ca1 x.cols.length cc1] 37)) (w2.heap.size + 1) 42 4 (by simp); simpa using h); have hV2 := verAt_below9 hV1 hA2; have HV2 := Lib.hid hV2; clear hV1 hV2)
          | (at_builtin; refine wpList_append_at _ rfl _ _ 26 rfl (w2.heap.size + 1) 42 i0 _ 4 56 Tryz.underlying26 hi0 hz3 hz1 hz2 rfl (by decide) (.slice (some ⟨w2.heap.size + 1, 0, none⟩) 0 0) 0 [] rfl hO4 b n d cs0 rfl (cells_below9 HCL.out HW4.out) HVC.out.2.1 (by have := HZN.out; have := HNN.out; unfold maxLen; omega) (by have := HZN.out; have := HNN.out; omega) (by simp) ?_; intro ov5 V5 ho5 hg5 _; rw [Nat.zero_add, List.nil_append] at ho5; have hB5 := below_grown9 hA4 hg5 (fun b e => by simp only [Value.ownBlock, Option.some.injEq] at e; rw [← e]; simp) hA4.size; obtain ⟨oa, oc, rfl⟩ := own_form9 ho5; have hA6 := Below.heapsize9 V5 (.cells #[.int .i64 v, .slice oa n oc] 31); have hB6 := hB5.trans (hA6.mono hB5.size); have r1'' := cell_below hB6 r1))
        have hO6 := heap_self9 V5 (.cells #[.int .i64 v, .slice oa n oc] 31)
        have ho6 := ownsRow_below ho5 hA6
        have hbo : (w2.alloc (.cells #[.slice sa1 N sc1, .slice ca1 x.cols.length cc1] 37)).heap.size ≤ V5.heap.size := hB5.size
        have hks : w2.heap.size + 1 = (w2.alloc (.cells #[.slice sa1 N sc1, .slice ca1 x.cols.length cc1] 37)).heap.size := by simp
        have hvk := vCells_below9 HVC.out hw3
        rw [hks] at ho6
        obtain ⟨kx, hkx⟩ : ∃ k, w2.heap.size = k := ⟨_, rfl⟩
        obtain ⟨wk, hwk⟩ : ∃ U, w2.alloc (.cells #[.slice sa1 N sc1, .slice ca1 x.cols.length cc1] 37) = U := ⟨_, rfl⟩
        obtain ⟨V6, hV6⟩ : ∃ U, V5.alloc (.cells #[.int .i64 v, .slice oa n oc] 31) = U := ⟨_, rfl⟩
        obtain ⟨bo, hbo2⟩ : ∃ b, V5.heap.size = b := ⟨_, rfl⟩
        have HV3 := HV2
        rw [hwk] at HV3 hX2 hR hw3 hbo ho6 hvk hB6
        rw [hkx] at hX2 ⊢
        rw [hbo2] at hbo hO6 ⊢
        rw [hV6] at hO6 ho6 hB6 ⊢
        have hOS : OutS wk V6 bo v (xs.take n) := by
          rw [HTK.out]
          exact ⟨hB6, hbo, _, _, hO6, by rw [HN.out]; exact ho6, hvk⟩
        clear r1 r0 r1' r1'' hO4 hA4 HW4 hRr hB12 hB13 hA2 hB5 hA6 hg5 ho5 hO6 ho6 hvk hB6 hks HV2 hwk hV6 hbo2 hkx f0 f1 f2 f3 hw1 ht1 k0 k1 k2 hB1 hB2
        obtain ⟨X0, X1, _, _⟩ := two_all hX2
        go_loopw [11] (fun i wr => ∃ k : Nat, n ≤ k ∧ k ≤ N ∧ i = .int .i64 (k : Int) ∧ OutS wk wr bo v (xs.take k)) (fun i _ => N - (intOf i).toNat)
        case atStart => exact ⟨n, Nat.le_refl _, HNN.out, rfl, hOS⟩
        case round =>
          obtain ⟨k, hk1, hk2, rfl, hOS2⟩ := hrel
          obtain ⟨wj, hwj⟩ : ∃ x, x = wr := ⟨_, rfl⟩
          subst hwj
          have hbj := hOS2.1
          have z0 := cell_below hbj X0
          have hzn := HZN.out
          rcases Nat.lt_or_ge k N with hlt | hge
          · have hd2 : decide ((k : Int) < (N : Int)) = true := by simp; omega
            have hkN : (k : Int) < (N : Int) := by omega
            obtain ⟨s, hs⟩ : ∃ s, x.slots[k]? = some s := ⟨x.slots[k]'(by have := hN1.out; omega), List.getElem?_eq_getElem _⟩
            obtain ⟨sb, so, rfl, hss⟩ := slotRow_at9 HV3.out.1 hs
            obtain ⟨kk, nn, tx, la, ll, lc, ⟨g0, g1, g2, g3, g4, g5, g6⟩, _, hsn, hdf⟩ := slotAt_form hss
            have hnx := HNX.out k s hk1 hs
            have hlk : (xs.take k).length = k := by rw [List.length_take, HXL.out]; omega
            obtain ⟨_, _, ov, cs, hO, hoR, hVk⟩ := hOS2
            obtain ⟨oa2, oc2, rfl⟩ := own_form9 hoR
            rw [hlk] at hO hoR
            have HNX2 := Lib.hid hnx; have HDF := Lib.hid hdf; have HVK := Lib.hid hVk; have HLK := Lib.hid hlk
            clear hnx hdf hVk hlk hs hss hsn g0 g1 g2
            go_wp2_with fail
            refine wp_regionZ (S := fun W => Below wk.heap.size wk W ∧ W.heap[bo]? = some (.cells #[.int .i64 v, .slice oa2 k oc2] 31 (0, 0))) 11 12 #[false, false, false, false, false, false, false, false, false, false, false, false] (by kernel_rfl) (by kernel_rfl) (by kernel_rfl) ?_
            have hdr := below_drew9 wj
            have hS0 : Below wk.heap.size wk wj.drew ∧ wj.drew.heap[bo]? = some (.cells #[.int .i64 v, .slice oa2 k oc2] 31 (0, 0)) := ⟨hbj.trans (hdr.mono hbj.size), hO⟩
            have ho0 := ownsRow_below hoR hdr
            obtain ⟨V0, hV0⟩ : ∃ V0, wj.drew = V0 := ⟨_, rfl⟩
            rw [hV0] at hS0 ho0 ⊢
            clear hV0 hdr hO hoR
            refine lastZ_take (i := 0) (v := ?_) rfl (by kernel_rfl) (by kernel_rfl) (by kernel_rfl) (by kernel_rfl) (fun _ _ _ h => h) (Or.inl ⟨by rfl, ?_⟩) (by assumption) ?_
            rotate_left
            · intro w8 hSw; obtain ⟨u0, u1⟩ := two_cells hSw.2; have t0 := cell_below hSw.1 X0; have t3 := cell_below hSw.1 g3; have t4 := cell_below hSw.1 g4; have t5 := cell_below hSw.1 g5; have t6 := cell_below hSw.1 g6; clear hSw; go_simp; (try with_reducible rfl)
            (try simp only [Act.put, List.setIfInBounds_toArray, List.set_cons_zero, List.set_cons_succ])
            refine lastZ_take (i := 1) (v := ?_) rfl (by kernel_rfl) (by kernel_rfl) (by kernel_rfl) (by kernel_rfl) (fun _ _ _ h => h) (Or.inl ⟨by rfl, ?_⟩) (by assumption) ?_
            rotate_left
            · intro w8 hSw; obtain ⟨u0, u1⟩ := two_cells hSw.2; have t0 := cell_below hSw.1 X0; have t3 := cell_below hSw.1 g3; have t4 := cell_below hSw.1 g4; have t5 := cell_below hSw.1 g5; have t6 := cell_below hSw.1 g6; clear hSw; go_simp; (try with_reducible rfl)
            (try simp only [Act.put, List.setIfInBounds_toArray, List.set_cons_zero, List.set_cons_succ])
            refine lastZ_take (i := 2) (v := ?_) rfl (by kernel_rfl) (by kernel_rfl) (by kernel_rfl) (by kernel_rfl) (fun _ _ _ h => h) (Or.inl ⟨by rfl, ?_⟩) (by assumption) ?_
            rotate_left
            · intro w8 hSw; obtain ⟨u0, u1⟩ := two_cells hSw.2; have t0 := cell_below hSw.1 X0; have t3 := cell_below hSw.1 g3; have t4 := cell_below hSw.1 g4; have t5 := cell_below hSw.1 g5; have t6 := cell_below hSw.1 g6; clear hSw; go_simp; (try with_reducible rfl)
            (try simp only [Act.put, List.setIfInBounds_toArray, List.set_cons_zero, List.set_cons_succ])
            refine lastZ_take (i := 3) (v := ?_) rfl (by kernel_rfl) (by kernel_rfl) (by kernel_rfl) (by kernel_rfl) (fun _ _ _ h => h) (Or.inl ⟨by rfl, ?_⟩) (by assumption) ?_
            rotate_left
            · intro w8 hSw; obtain ⟨u0, u1⟩ := two_cells hSw.2; have t0 := cell_below hSw.1 X0; have t3 := cell_below hSw.1 g3; have t4 := cell_below hSw.1 g4; have t5 := cell_below hSw.1 g5; have t6 := cell_below hSw.1 g6; clear hSw; go_simp; (try with_reducible rfl)
            (try simp only [Act.put, List.setIfInBounds_toArray, List.set_cons_zero, List.set_cons_succ])
            refine lastZ_take (i := 4) (v := ?_) rfl (by kernel_rfl) (by kernel_rfl) (by kernel_rfl) (by kernel_rfl) (fun _ _ _ h => h) (Or.inl ⟨by rfl, ?_⟩) (by assumption) ?_
            rotate_left
            · intro w8 hSw; obtain ⟨u0, u1⟩ := two_cells hSw.2; have t0 := cell_below hSw.1 X0; have t3 := cell_below hSw.1 g3; have t4 := cell_below hSw.1 g4; have t5 := cell_below hSw.1 g5; have t6 := cell_below hSw.1 g6; clear hSw; go_simp; (try with_reducible rfl)
            (try simp only [Act.put, List.setIfInBounds_toArray, List.set_cons_zero, List.set_cons_succ])
            refine lastZ_take (i := 5) (v := ?_) rfl (by kernel_rfl) (by kernel_rfl) (by kernel_rfl) (by kernel_rfl) (fun _ _ _ h => h) (Or.inl ⟨by rfl, ?_⟩) (by assumption) ?_
            rotate_left
            · intro w8 hSw; obtain ⟨u0, u1⟩ := two_cells hSw.2; have t0 := cell_below hSw.1 X0; have t3 := cell_below hSw.1 g3; have t4 := cell_below hSw.1 g4; have t5 := cell_below hSw.1 g5; have t6 := cell_below hSw.1 g6; clear hSw; go_simp; (try with_reducible rfl)
            (try simp only [Act.put, List.setIfInBounds_toArray, List.set_cons_zero, List.set_cons_succ])
            refine lastZ_take (i := 6) (v := ?_) rfl (by kernel_rfl) (by kernel_rfl) (by kernel_rfl) (by kernel_rfl) (fun _ _ _ h => h) (Or.inl ⟨by rfl, ?_⟩) (by assumption) ?_
            rotate_left
            · intro w8 hSw; obtain ⟨u0, u1⟩ := two_cells hSw.2; have t0 := cell_below hSw.1 X0; have t3 := cell_below hSw.1 g3; have t4 := cell_below hSw.1 g4; have t5 := cell_below hSw.1 g5; have t6 := cell_below hSw.1 g6; clear hSw; go_simp; (try with_reducible rfl)
            (try simp only [Act.put, List.setIfInBounds_toArray, List.set_cons_zero, List.set_cons_succ])
            refine lastZ_take (i := 7) (v := ?_) rfl (by kernel_rfl) (by kernel_rfl) (by kernel_rfl) (by kernel_rfl) (fun _ _ _ h => h) (Or.inl ⟨by rfl, ?_⟩) (by assumption) ?_
            rotate_left
            · intro w8 hSw; obtain ⟨u0, u1⟩ := two_cells hSw.2; have t0 := cell_below hSw.1 X0; have t3 := cell_below hSw.1 g3; have t4 := cell_below hSw.1 g4; have t5 := cell_below hSw.1 g5; have t6 := cell_below hSw.1 g6; clear hSw; go_simp; (try with_reducible rfl)
            (try simp only [Act.put, List.setIfInBounds_toArray, List.set_cons_zero, List.set_cons_succ])
            (with_reducible refine lastZ_one (i := 8) (o := ?ob8) (by kernel_rfl) ?ho8 (fun K hK => ?st8))
            case ho8 => exact rfl
            go_simp
            have hA1 := Below.heapsize9 V0 (.cells #[.int .i64 kk, .int .i64 nn, .string tx, .slice la ll lc] 42)
            have ho1 := ownsRow_below ho0 hA1
            have hcn : Cells (V0.alloc (.cells #[.int .i64 kk, .int .i64 nn, .string tx, .slice la ll lc] 42)) 4 (some ⟨V0.heap.size, 0, none⟩) 1 [.int .i64 kk, .int .i64 nn, .string tx, .slice la ll lc] := ⟨rfl, .inr ⟨_, rfl, cells_new V0 [_, _, _, _] _⟩⟩
            have hS1 : Below wk.heap.size wk (V0.alloc (.cells #[.int .i64 kk, .int .i64 nn, .string tx, .slice la ll lc] 42)) ∧ (V0.alloc (.cells #[.int .i64 kk, .int .i64 nn, .string tx, .slice la ll lc] 42)).heap[bo]? = some (.cells #[.int .i64 v, .slice oa2 k oc2] 31 (0, 0)) := ⟨hS0.1.trans (hA1.mono hS0.1.size), (hA1.block _ (Array.getElem?_eq_some_iff.1 hS0.2).1).trans hS0.2⟩
            obtain ⟨V1, hU⟩ : ∃ U, V0.alloc (.cells #[.int .i64 kk, .int .i64 nn, .string tx, .slice la ll lc] 42) = U := ⟨_, rfl⟩
            obtain ⟨gn, hgn⟩ : ∃ g, V0.heap.size = g := ⟨_, rfl⟩
            rw [hU] at ho1 hcn hS1 ⊢
            rw [hgn] at hcn ⊢
            clear hS0 hA1 ho0 hU hgn
            refine hK.out _ _ (.inr hS1) ?_
            clear hK K
            (with_reducible refine lastZ_one (i := 9) (o := ?ob9) (by kernel_rfl) ?ho9 (fun K hK => ?st9))
            case ho9 => exact rfl
            refine step_append_at _ rfl _ _ 26 rfl wk.heap.size 42 i0 _ 4 56 Tryz.underlying26 hi0 hz3 hz1 hz2 rfl (by decide) (.slice oa2 k oc2) k cs (by first | rfl | simp [Act.eval]) ho1 (some ⟨gn, 0, none⟩) 1 1 [.int .i64 kk, .int .i64 nn, .string tx, .slice la ll lc] (by first | rfl | simp [Act.eval]) hcn (by simp [Value.oneCell']) (by unfold maxLen; omega) (by omega) hS1.1.size ?_
            intro ov4 V2 ho4 hg4 _
            obtain ⟨a4, c4, rfl⟩ := own_form9 ho4
            have hS2 : Below wk.heap.size wk V2 ∧ V2.heap[bo]? = some (.cells #[.int .i64 v, .slice oa2 k oc2] 31 (0, 0)) := ⟨below_grown9 hS1.1 hg4 (fun b e => (own_blk9 ho1 b e).2) hS1.1.size, (hg4.block bo (Array.getElem?_eq_some_iff.1 hS1.2).1 (fun e => own_rec9 hS1.2 ho1 bo e.symm rfl)).trans hS1.2⟩
            clear hcn hg4 ho1 hS1
            refine hK.out _ _ (.inr hS2) ?_
            clear hK K
            obtain ⟨e0, e1, e2, e3⟩ := two_all hS2.2
            refine lastZ_take (i := 10) (v := ?_) rfl (by kernel_rfl) (by kernel_rfl) (by kernel_rfl) (by kernel_rfl) (fun _ _ _ h => h) (Or.inl ⟨by rfl, ?_⟩) (by assumption) ?_
            rotate_left
            · intro w8 hSw; skip; clear hSw; go_simp; (try with_reducible rfl)
            (try simp only [Act.put, List.setIfInBounds_toArray, List.set_cons_zero, List.set_cons_succ])
            (with_reducible refine lastZ_one (i := 11) (o := ?ob11) (by kernel_rfl) ?ho11 (fun K hK => ?st11))
            case ho11 => exact rfl
            go_simp
            have hOS3 := outS_put (L := xs.take k) (y := s.df) hS2.1 hbo hS2.2 (by rw [HLK.out]; exact ho4) (vCells_snoc9 HVK.out HDF.out)
            rw [← HNX2.out] at hOS3
            have HOS3 := Lib.hid hOS3
            refine hK.out _ _ (.inl rfl) ?_
            clear hK K hOS3 e0 e1 e2 e3 ho4 hS2 z0 X0 X1 g3 g4 g5 g6
            refine lastZ_done (by kernel_rfl) ?_ _
            go_wp2_with fail
            go_roundw
            case rel => exact ⟨k + 1, by omega, by omega, by go_num, HOS3.out⟩
            case measure => simp [intOf]; omega
          · obtain rfl : k = N := by omega
            have hd2 : decide ((k : Int) < (k : Int)) = false := by simp
            rw [List.take_of_length_le (by rw [HXL.out]; exact Nat.le_refl _)] at hOS2
            obtain ⟨qa, qc, hO9, hp9⟩ := outS_end hOS2
            rw [HXL.out] at hO9
            obtain ⟨e0, e1, _, _⟩ := two_all hO9
            have hR9 := (hbj.block _ (Array.getElem?_eq_some_iff.1 hR).1).trans hR
            obtain ⟨f0, f1, f2, f3⟩ := two_all hR9
            clear hOS2 hO9
            go_wp2_with fail
            refine bodyPost_ret (results_cell_tmp_rowC Tryz.results19 _ _ (w.heap.size + 1 + 1) _ _ _ _ rfl (set_two9 hR9 _ _) Tryz.underlying31 rfl (by kernel_rfl)) rfl ?_
            exact HQ.out _ _ _ hp9 hR9 (hw3.trans (hbj.mono hw3.size))
end Go.Proofs.YtibjjclfonpibaaGreat

/- The document's Down of layer 12. (Made by gen_ref12d.py.) -/
set_option linter.unusedVariables false
set_option linter.unusedSimpArgs false
set_option maxRecDepth 100000
namespace Go.Proofs.YtibjjclfonpibaaGreat
open Go.RowKit Go.Shelf
theorem build_rec1 (v : Int) (w : World) : (Instr.build 31 #[(0, .int .i64 v)]).run Tryz.prog w = .ok (.agg #[.int .i64 v, .slice none 0 0]) w := run_build w 31 _ _ (by kernel_rfl)
theorem four_all9 {W : World} {b : Nat} {u0 u1 u2 u3 : Value} {t : TypeId} (h : W.heap[b]? = some (.cells #[u0, u1, u2, u3] t (0, 0))) : (W.cell? ⟨b, 0, none⟩ = some u0 ∧ W.cell? ⟨b, 1, none⟩ = some u1 ∧ W.cell? ⟨b, 2, none⟩ = some u2 ∧ W.cell? ⟨b, 3, none⟩ = some u3) ∧ W.frozen? ⟨b, 0, none⟩ = false ∧ W.frozen? ⟨b, 1, none⟩ = false ∧ W.frozen? ⟨b, 2, none⟩ = false ∧ W.frozen? ⟨b, 3, none⟩ = false := by
  refine ⟨⟨?_, ?_, ?_, ?_⟩, ?_, ?_, ?_, ?_⟩ <;> simp [World.cell?, World.frozen?, h]
theorem set_any9 {W : World} {b i : Nat} {cs ds : Array Value} {t : TypeId} {fr : Nat × Nat} (v : Value) (h : W.heap[b]? = some (.cells cs t fr)) (hd : cs.setIfInBounds i v = ds) : (W.setCell ⟨b, i, none⟩ v).heap[b]? = some (.cells ds t fr) := by
  obtain ⟨hlt, hk⟩ := Array.getElem?_eq_some_iff.1 h
  show (W.heap.modify b _)[b]? = _
  rw [Array.getElem?_eq_getElem (by rw [Array.size_modify]; exact hlt), Array.getElem_modify_self, hk, ← hd]
  rfl
/-- four cells set -/
def put4 (W : World) (b : Nat) (v0 v1 v2 v3 : Value) : World := (((W.setCell ⟨b, 0, none⟩ v0).setCell ⟨b, 1, none⟩ v1).setCell ⟨b, 2, none⟩ v2).setCell ⟨b, 3, none⟩ v3
theorem put4_self {W : World} {b : Nat} {u0 u1 u2 u3 : Value} {t : TypeId} (v0 v1 v2 v3 : Value) (h : W.heap[b]? = some (.cells #[u0, u1, u2, u3] t (0, 0))) : (put4 W b v0 v1 v2 v3).heap[b]? = some (.cells #[v0, v1, v2, v3] t (0, 0)) :=
  set_any9 v3 (set_any9 v2 (set_any9 v1 (set_any9 v0 h rfl) rfl) rfl) rfl
theorem put4_grown (W : World) (b : Nat) (v0 v1 v2 v3 : Value) : W.grownBy (put4 W b v0 v1 v2 v3) (some b) := by
  have h : ∀ (W V : World) (i : Nat) (v : Value), W.grownBy V (some b) → W.grownBy (V.setCell ⟨b, i, none⟩ v) (some b) := fun W V i v h => by
    obtain ⟨a1, a2, a3, a4, a5⟩ := h
    obtain ⟨b1, b2, b3, b4, b5⟩ := grown_set9 V b i v
    exact ⟨b1.trans a1, b2.trans a2, b3.trans a3, Nat.le_trans a4 b4, fun j hj hne => (b5 j (by omega) hne).trans (a5 j hj hne)⟩
  exact h _ _ 3 v3 (h _ _ 2 v2 (h _ _ 1 v1 (grown_set9 W b 0 v0)))
set_option maxHeartbeats 16000000 in
theorem ref12Down_any (t : TemplM) (r : RecM) (v : Int) (w : World) (X : Value) (b : Option Addr) (d : Nat) (hg : greatT t = false) (hI : I64 r.v) (hv : I64 v) (hi : IsTempl w t X) (hr : PRow w b d r.s) (hsz : ∀ v ∈ r.s, szV v ≤ 1000000) (hsv : r.s.length ≤ 100000) :
    Calls Tryz.prog 21 #[X, .agg #[.int .i64 r.v, .slice b r.s.length d], .int .i64 v] w (CastR w (Ca.downM t r v)) := by
  have h0 := hi
  obtain ⟨h1, sa, sc, ta, tc, rfl, hsl, hst⟩ := hi
  obtain ⟨rv, l⟩ := r
  simp only at hI hr hsz hsv ⊢
  obtain ⟨n, hn⟩ : ∃ n, l.length = n := ⟨_, rfl⟩
  have hVd := fun (W : World) (hb : Below w.heap.size w W) => refValid11_any t ⟨rv, l⟩ W _ b d hg hI (isTempl_below hb h0) (pRow_below hb hr) hsz hsv
  have hAt := fun (W : World) (hb : Below w.heap.size w W) => refAt_any t v W _ hg hv (isTempl_below hb h0)
  simp only [hn] at hVd
  have hz0 := build_rec0
  have hB3 := below3 w (.cells #[.string t.nm, .slice sa t.slots.length sc, .slice ta t.steps.length tc] 25) (.cells #[.int .i64 rv, .slice b n d] 31) (.cells #[.int .i64 0, .slice none 0 0] 31)
  have hh := heap3 (Below.refl _ (((w.alloc (.cells #[.string t.nm, .slice sa t.slots.length sc, .slice ta t.steps.length tc] 25)).alloc (.cells #[.int .i64 rv, .slice b n d] 31)).alloc (.cells #[.int .i64 0, .slice none 0 0] 31)))
  obtain ⟨hh0, hh1, hh2⟩ := hh
  obtain ⟨Q, hQ⟩ : ∃ Q, CastR w (Ca.downM t ⟨rv, l⟩ v) = Q := ⟨_, rfl⟩
  cases hvr : Rc.verR t ⟨rv, l⟩ with
  | none =>
    have hm : Ca.downM t ⟨rv, l⟩ v = (⟨0, []⟩, 1) := by unfold Ca.downM Ca.castM; rw [hvr]
    rw [hvr] at hVd
    have hq : ∀ V z0 z1, V.heap[w.heap.size + 1 + 1]? = some (.cells #[z0, z1] 31 (0, 0)) → Below w.heap.size w V → Q (.returned (.tuple #[.agg #[.int .i64 0, .slice none 0 0], .int .i64 1])) ((V.setCell ⟨w.heap.size + 1 + 1, 0, none⟩ (.int .i64 0)).setCell ⟨w.heap.size + 1 + 1, 1, none⟩ (.slice none 0 0)) := fun V z0 z1 h hB => by
      rw [← hQ]; exact castR_no hm h hB (by omega)
    have HQ := Lib.hid hq; have HVD := Lib.hid hVd; have H3 := Lib.hid hB3
    rw [hn, hQ]
    clear hq hVd hAt hQ hm hvr hn hg h0 hr hsz hsv hsl hst h1 hI hv
    go_enter Tryz.func21, Tryz.ntmps21
    go_wp2_with (first
      | (go_at_call 27; (with_reducible refine (HVD.out _ H3.out).mono ?_); rintro e w1 ⟨rfl, hB1⟩; have hR := (hB1.block _ (Array.getElem?_eq_some_iff.1 hh2).1).trans hh2; obtain ⟨f0, f1, f2, f3⟩ := two_all hR; have hw1 := H3.out.trans (hB1.mono H3.out.size); have ht1 := (hB1.block _ (Array.getElem?_eq_some_iff.1 hh0).1).trans hh0; obtain ⟨k0, k1, k2⟩ := caThree ht1))
    refine bodyPost_ret (results_cell_tmp_rowC Tryz.results21 _ _ (w.heap.size + 1 + 1) _ _ _ _ rfl (set_two9 hR _ _) Tryz.underlying31 rfl (by kernel_rfl)) rfl ?_
    exact HQ.out _ _ _ hR hw1
  | some x0 =>
    obtain ⟨hx0, hfit⟩ := Ca.verR_of hvr
    simp only at hx0 hfit
    rw [hvr] at hVd
    simp only [Option.isSome_some] at hVd
    have hq7 : Ca.downM t ⟨rv, l⟩ v = (⟨0, []⟩, 7) → ∀ V z0 z1, V.heap[w.heap.size + 1 + 1]? = some (.cells #[z0, z1] 31 (0, 0)) → Below w.heap.size w V → Q (.returned (.tuple #[.agg #[.int .i64 0, .slice none 0 0], .int .i64 7])) ((V.setCell ⟨w.heap.size + 1 + 1, 0, none⟩ (.int .i64 0)).setCell ⟨w.heap.size + 1 + 1, 1, none⟩ (.slice none 0 0)) := fun hm V z0 z1 h hB => by
      rw [← hQ]; exact castR_no hm h hB (by omega)
    cases hz : Rc.verOf t v with
    | none =>
      have hm : Ca.downM t ⟨rv, l⟩ v = (⟨0, []⟩, 7) := castM_none hvr hz
      have HQ := Lib.hid (hq7 hm); have HVD := Lib.hid hVd; have H3 := Lib.hid hB3
      have hAt2 : ∀ W, Below w.heap.size w W → Calls Tryz.prog 13 #[.agg #[.string t.nm, .slice sa t.slots.length sc, .slice ta t.steps.length tc], .int .i64 v] W fun e w' => e = .returned (.tuple #[.agg #[.slice none 0 0, .slice none 0 0], .bool false]) ∧ Below W.heap.size W w' := fun W hb => (hAt W hb).mono fun e w' h => by
        unfold AtD at h; rw [hz] at h; exact h
      have HAT := Lib.hid hAt2
      rw [hn, hQ]
      clear hq7 hVd hAt hAt2 hQ hm hvr hn hg h0 hr hsz hsv hsl hst h1 hI hv hz hx0 hfit
      go_enter Tryz.func21, Tryz.ntmps21
      go_wp2_with (first
        | (go_at_call 27; (with_reducible refine (HVD.out _ H3.out).mono ?_); rintro e w1 ⟨rfl, hB1⟩; have hR := (hB1.block _ (Array.getElem?_eq_some_iff.1 hh2).1).trans hh2; obtain ⟨f0, f1, f2, f3⟩ := two_all hR; have hw1 := H3.out.trans (hB1.mono H3.out.size); have ht1 := (hB1.block _ (Array.getElem?_eq_some_iff.1 hh0).1).trans hh0; obtain ⟨k0, k1, k2⟩ := caThree ht1)
        | (go_at_call 13; (with_reducible refine (HAT.out _ hw1).mono ?_); rintro e w2 ⟨rfl, hB2⟩; have hB12 := hB1.trans (hB2.mono hB1.size); have hA2 := Below.heapsize9 w2 (.cells #[.slice none 0 0, .slice none 0 0] 37); have hB13 := hB12.trans (hA2.mono hB12.size); have hX2 := heap_self9 w2 (.cells #[.slice none 0 0, .slice none 0 0] 37); clear hR f0 f1 f2 f3; have hR := (hB13.block _ (Array.getElem?_eq_some_iff.1 hh2).1).trans hh2; obtain ⟨f0, f1, f2, f3⟩ := two_all hR; have hRr := (hB13.block _ (Array.getElem?_eq_some_iff.1 hh1).1).trans hh1; obtain ⟨r0, r1, _, _⟩ := two_all hRr; have hw3 := H3.out.trans (hB13.mono H3.out.size)))
      refine bodyPost_ret (results_cell_tmp_rowC Tryz.results21 _ _ (w.heap.size + 1 + 1) _ _ _ _ rfl (set_two9 hR _ _) Tryz.underlying31 rfl (by kernel_rfl)) rfl ?_
      exact HQ.out _ _ _ hR hw3
    | some x =>
      have hAt2 : ∀ W, Below w.heap.size w W → Calls Tryz.prog 13 #[.agg #[.string t.nm, .slice sa t.slots.length sc, .slice ta t.steps.length tc], .int .i64 v] W fun e w' => (∃ sa sc ca cc, e = .returned (.tuple #[.agg #[.slice sa x.slots.length sc, .slice ca x.cols.length cc], .bool true]) ∧ VerAt w' x sa sc ca cc) ∧ Below W.heap.size W w' := fun W hb => (hAt W hb).mono fun e w' h => by
        unfold AtD at h; rw [hz] at h; exact h
      have HAT := Lib.hid hAt2
      have hzn := (verOf_ok9 hz).num
      by_cases hlt : rv < v
      · have hd : decide (rv < v) = true := by simpa using hlt
        have hm : Ca.downM t ⟨rv, l⟩ v = (⟨0, []⟩, 7) := by unfold Ca.downM; simp only; rw [decide_eq_false (by omega)]; exact castM_off hvr
        have HQ := Lib.hid (hq7 hm); have HVD := Lib.hid hVd; have H3 := Lib.hid hB3; have HLT := Lib.hid hlt
        rw [hn, hQ]
        clear hq7 hVd hAt hAt2 hQ hm hvr hn hg h0 hr hsz hsv hsl hst h1 hI hv hz hx0 hfit hlt
        go_enter Tryz.func21, Tryz.ntmps21
        go_wp2_with (first
          | (go_at_call 27; (with_reducible refine (HVD.out _ H3.out).mono ?_); rintro e w1 ⟨rfl, hB1⟩; have hR := (hB1.block _ (Array.getElem?_eq_some_iff.1 hh2).1).trans hh2; obtain ⟨f0, f1, f2, f3⟩ := two_all hR; have hw1 := H3.out.trans (hB1.mono H3.out.size); have ht1 := (hB1.block _ (Array.getElem?_eq_some_iff.1 hh0).1).trans hh0; obtain ⟨k0, k1, k2⟩ := caThree ht1)
          | (go_at_call 13; (with_reducible refine (HAT.out _ hw1).mono ?_); rintro e w2 ⟨⟨sa1, sc1, ca1, cc1, rfl, hV1⟩, hB2⟩; have hB12 := hB1.trans (hB2.mono hB1.size); have hA2 := Below.heapsize9 w2 (.cells #[.slice sa1 x.slots.length sc1, .slice ca1 x.cols.length cc1] 37); have hB13 := hB12.trans (hA2.mono hB12.size); have hX2 := heap_self9 w2 (.cells #[.slice sa1 x.slots.length sc1, .slice ca1 x.cols.length cc1] 37); clear hR f0 f1 f2 f3; have hR := (hB13.block _ (Array.getElem?_eq_some_iff.1 hh2).1).trans hh2; obtain ⟨f0, f1, f2, f3⟩ := two_all hR; have hRr := (hB13.block _ (Array.getElem?_eq_some_iff.1 hh1).1).trans hh1; obtain ⟨r0, r1, _, _⟩ := two_all hRr; have hw3 := H3.out.trans (hB13.mono H3.out.size)))
        refine bodyPost_ret (results_cell_tmp_rowC Tryz.results21 _ _ (w.heap.size + 1 + 1) _ _ _ _ rfl (set_two9 hR _ _) Tryz.underlying31 rfl (by kernel_rfl)) rfl ?_
        exact HQ.out _ _ _ hR hw3
      · have hd : decide (rv < v) = false := by simpa using hlt
        have hgr := Ca.verOf_grows (show v ≤ rv by omega) hz hx0
        have hlen := Rc.fitL_len hfit
        have hgl := Sc.grows_len hgr
        have hokx := verOf_ok9 hz
        have hm : Ca.downM t ⟨rv, l⟩ v = (⟨v, Ca.turnL x.slots l⟩, 0) := by unfold Ca.downM; simp only; rw [decide_eq_true (by omega)]; exact castM_on hvr hz
        have hq : ∀ V qa qc, PRow V qa qc (Ca.turnL x.slots l) → V.heap[w.heap.size + 1 + 1]? = some (.cells #[.int .i64 0, .slice none 0 0] 31 (0, 0)) → Below w.heap.size w V → Q (.returned (.tuple #[.agg #[.int .i64 v, .slice qa x.slots.length qc], .int .i64 0])) ((V.setCell ⟨w.heap.size + 1 + 1, 0, none⟩ (.int .i64 v)).setCell ⟨w.heap.size + 1 + 1, 1, none⟩ (.slice qa x.slots.length qc)) := fun V qa qc hp h hB => by
          rw [← hQ, hm]
          have := res_set (.int .i64 v) (.slice qa x.slots.length qc) h hB (show w.heap.size ≤ w.heap.size + 1 + 1 by omega)
          refine ⟨⟨qa, qc, ?_, this.2.2 hp⟩, this.2.1⟩
          simp only [Ca.turnL_length]
        have hb1 := fun (W : World) => build_rec1 v W
        obtain ⟨i0, hi0, hz3, hz1, hz2⟩ := info_parts info_val
        obtain ⟨xs, hxs⟩ : ∃ xs, Ca.turnL x.slots l = xs := ⟨_, rfl⟩
        have hnx : ∀ (k : Nat) (s : SlotM) (y : PV), x.slots[k]? = some s → l[k]? = some y → xs.take (k + 1) = xs.take k ++ [if Sc.fits s.ty y = true then y else s.df] := fun k s y hs hy => by
          rw [← hxs]
          refine (take_next ?_).symm
          rw [Ca.turnL_at, hs, hy]
          rfl
        have hxl : xs.length = x.slots.length := by rw [← hxs]; exact Ca.turnL_length _ _
        rw [hxs] at hq
        have hnN : x.slots.length ≤ n := by omega
        obtain ⟨N, hN⟩ : ∃ N, x.slots.length = N := ⟨_, rfl⟩
        rw [hN] at hzn hnN hxl hq HAT
        have hN1 := Lib.hid hN
        have HQ := Lib.hid hq; have HVD := Lib.hid hVd; have H3 := Lib.hid hB3; have HNX := Lib.hid hnx; have HXL := Lib.hid hxl; have HLT := Lib.hid hlt; have HZN := Lib.hid hzn; have HNN := Lib.hid hnN; have HN := Lib.hid hn; have HL := Lib.hid hr; have HSZ := Lib.hid hsz; have HOK := Lib.hid hokx
        rw [hn, hQ]
        clear hq hq7 hVd hAt hAt2 hQ hm hvr hn hg h0 hr hsz hsv hsl hst h1 hI hv hz hx0 hfit hlt hgr hlen hgl hxs hnx hxl hzn hnN hN hokx
        go_enter Tryz.func21, Tryz.ntmps21
        go_wp2_with (first
          | (go_at_call 27; (with_reducible refine (HVD.out _ H3.out).mono ?_); rintro e w1 ⟨rfl, hB1⟩; have hR := (hB1.block _ (Array.getElem?_eq_some_iff.1 hh2).1).trans hh2; obtain ⟨f0, f1, f2, f3⟩ := two_all hR; have hw1 := H3.out.trans (hB1.mono H3.out.size); have ht1 := (hB1.block _ (Array.getElem?_eq_some_iff.1 hh0).1).trans hh0; obtain ⟨k0, k1, k2⟩ := caThree ht1)
          | (go_at_call 13; (with_reducible refine (HAT.out _ hw1).mono ?_); rintro e w2 ⟨⟨sa1, sc1, ca1, cc1, rfl, hV1⟩, hB2⟩; have hB12 := hB1.trans (hB2.mono hB1.size); have hA2 := Below.heapsize9 w2 (.cells #[.slice sa1 N sc1, .slice ca1 x.cols.length cc1] 37); have hB13 := hB12.trans (hA2.mono hB12.size); have hX2 := heap_self9 w2 (.cells #[.slice sa1 N sc1, .slice ca1 x.cols.length cc1] 37); clear hR f0 f1 f2 f3; have hR := (hB13.block _ (Array.getElem?_eq_some_iff.1 hh2).1).trans hh2; obtain ⟨f0, f1, f2, f3⟩ := two_all hR; have hRr := (hB13.block _ (Array.getElem?_eq_some_iff.1 hh1).1).trans hh1; obtain ⟨r0, r1, _, _⟩ := two_all hRr; have hw3 := H3.out.trans (hB13.mono H3.out.size); have hV2 := verAt_below9 hV1 hA2; have HV2 := Lib.hid hV2; clear hV1 hV2))
        have hA4 := Below.heapsize9 (w2.alloc (.cells #[.slice sa1 N sc1, .slice ca1 x.cols.length cc1] 37)) (.cells #[.int .i64 v, .slice none 0 0] 31)
        have hO6 := heap_self9 (w2.alloc (.cells #[.slice sa1 N sc1, .slice ca1 x.cols.length cc1] 37)) (.cells #[.int .i64 v, .slice none 0 0] 31)
        have hks : (w2.alloc (.cells #[.slice sa1 N sc1, .slice ca1 x.cols.length cc1] 37)).heap.size = w2.heap.size + 1 := by simp
        obtain ⟨V6, hV6⟩ : ∃ U, (w2.alloc (.cells #[.slice sa1 N sc1, .slice ca1 x.cols.length cc1] 37)).alloc (.cells #[.int .i64 v, .slice none 0 0] 31) = U := ⟨_, rfl⟩
        have HV3 := HV2
        rw [hV6] at hA4 hO6 ⊢
        rw [← hks]
        obtain ⟨wk, hwk⟩ : ∃ U, w2.alloc (.cells #[.slice sa1 N sc1, .slice ca1 x.cols.length cc1] 37) = U := ⟨_, rfl⟩
        obtain ⟨kx, hkx⟩ : ∃ k, w2.heap.size = k := ⟨_, rfl⟩
        rw [hwk] at HV3 hX2 hR hw3 hA4 hO6 r1 ⊢
        rw [hkx] at hX2 ⊢
        have hOS : OutS wk V6 wk.heap.size v (xs.take 0) := ⟨hA4, Nat.le_refl _, _, [], hO6, World.ownsRow_nil _ _ _ _, rfl, by simp, fun i v h => by simp at h⟩
        clear r0 hO6 hA4 hRr hB12 hB13 hA2 HV2 hwk hkx f0 f1 f2 f3 hw1 ht1 k0 k1 k2 hB1 hB2 hks hV6
        obtain ⟨bo, hbo2⟩ : ∃ b, wk.heap.size = b := ⟨_, rfl⟩
        have hbo : wk.heap.size ≤ bo := by omega
        rw [hbo2] at hOS ⊢
        clear hbo2
        obtain ⟨X0, X1, _, _⟩ := two_all hX2
        go_loopw [11] (fun i wr => ∃ k : Nat, k ≤ N ∧ i = .int .i64 (k : Int) ∧ OutS wk wr bo v (xs.take k)) (fun i _ => N - (intOf i).toNat)
        case atStart => exact ⟨0, Nat.zero_le _, rfl, hOS⟩
        case round =>
          obtain ⟨k, hk2, rfl, hOS2⟩ := hrel
          obtain ⟨wj, hwj⟩ : ∃ x, x = wr := ⟨_, rfl⟩
          subst hwj
          have hbj := hOS2.1
          have z0 := cell_below hbj X0
          have zr := cell_below hbj r1
          have hzn := HZN.out
          rcases Nat.lt_or_ge k N with hlt | hge
          · have hd2 : decide ((k : Int) < (N : Int)) = true := by simp; omega
            have hkN : (k : Int) < (N : Int) := by omega
            have hkn : (k : Int) < (n : Int) := by have := HNN.out; omega
            obtain ⟨s, hs⟩ : ∃ s, x.slots[k]? = some s := ⟨x.slots[k]'(by have := hN1.out; omega), List.getElem?_eq_getElem _⟩
            obtain ⟨yv, hy⟩ : ∃ y, l[k]? = some y := ⟨l[k]'(by have := HN.out; omega), List.getElem?_eq_getElem _⟩
            obtain ⟨sb, so, rfl, hss⟩ := slotRow_at9 HV3.out.1 hs
            obtain ⟨kk, nn, tx, la, ll, lc, ⟨g0, g1, g2, g3, g4, g5, g6⟩, hsI, hsn, hdf⟩ := slotAt_form hss
            obtain ⟨vb, vo, vk, vn, vt, va, vll, vc, rfl, ⟨p0, p1, p2, p3⟩, hvI⟩ := pRow_val HL.out hy
            have hw9 := hw3.trans (hbj.mono hw3.size)
            have l0 := cell_below hw9 p0
            have l1 := cell_below hw9 p1
            have l2 := cell_below hw9 p2
            have l3 := cell_below hw9 p3
            have hnx := HNX.out k s yv hs hy
            have hlk : (xs.take k).length = k := by rw [List.length_take, HXL.out]; omega
            obtain ⟨_, _, ov, cs, hO, hoR, hVk⟩ := hOS2
            obtain ⟨oa2, oc2, rfl⟩ := own_form9 hoR
            rw [hlk] at hO hoR
            have hoN : ∀ b, (Value.slice oa2 k oc2).ownBlock = some b → b ≠ wj.heap.size := fun b hb e => by have := (own_blk9 hoR b hb).1; omega
            have hbN : bo ≠ wj.heap.size := fun e => by have := (Array.getElem?_eq_some_iff.1 hO).1; omega
            have hA0 := Below.heapsize9 wj (.cells #[.int .i64 vk, .int .i64 vn, .string vt, .slice va vll vc] 42)
            have hY0 := heap_self9 wj (.cells #[.int .i64 vk, .int .i64 vn, .string vt, .slice va vll vc] 42)
            have hO0 := (hA0.block _ (Array.getElem?_eq_some_iff.1 hO).1).trans hO
            have ho0 := ownsRow_below hoR hA0
            have hb0 := hbj.trans (hA0.mono hbj.size)
            have hty : 0 ≤ s.ty := by have := (HOK.out.ok s (List.mem_of_getElem? hs)).1; omega
            obtain ⟨C, hC⟩ : ∃ C, Sc.fits s.ty yv = C := ⟨_, rfl⟩
            rw [hC] at hnx
            have hFt : ∀ W, Below (wj.alloc (.cells #[.int .i64 vk, .int .i64 vn, .string vt, .slice va vll vc] 42)).heap.size (wj.alloc (.cells #[.int .i64 vk, .int .i64 vn, .string vt, .slice va vll vc] 42)) W → Calls Tryz.prog 29 #[.agg #[.string s.nm, .int .i64 s.ty, .bool s.rq, .int .i64 kk, .int .i64 nn, .string tx, .slice la ll lc], .agg #[.int .i64 vk, .int .i64 vn, .string vt, .slice va vll vc]] W fun e w' => e = .returned (.bool C) ∧ Below W.heap.size W w' := fun W hb => by
              have h := refFits_any s yv (HSZ.out yv (List.mem_of_getElem? hy)) hty W _ _ (isSlot_below (hb0.trans (hb.mono hb0.size)) ⟨_, _, _, _, _, _, _, rfl, hsn, hsI, rfl, rfl, rfl, hdf⟩) (is_below ((hw3.trans (hb0.mono hw3.size)).trans (hb.mono ((hw3.trans (hb0.mono hw3.size))).size)) _ _ hvI)
              rw [hC] at h; exact h
            have HDF := Lib.hid hdf; have HVK := Lib.hid hVk; have HLK := Lib.hid hlk; have HVI := Lib.hid (is_below hw3 _ _ hvI); have HFt := Lib.hid hFt; have HA0 := Lib.hid hA0; have HO0 := Lib.hid hO0; have HOR := Lib.hid ho0; have HY0 := Lib.hid hY0; have HON := Lib.hid hoN; have HNX3 := Lib.hid hnx
            clear hnx hdf hVk hlk hs hy hss hsn hsI hvI p0 p1 p2 p3 hFt hA0 hO0 ho0 hY0 hC hty hO hoR hoN hw9
            go_wp2_with fail
            obtain ⟨W0, hW0⟩ : ∃ U, wj.alloc (.cells #[.int .i64 vk, .int .i64 vn, .string vt, .slice va vll vc] 42) = U := ⟨_, rfl⟩
            obtain ⟨yb, hyb⟩ : ∃ b, wj.heap.size = b := ⟨_, rfl⟩
            rw [hW0] at HFt HA0 HO0 HOR HY0 hb0 ⊢
            rw [hyb] at HY0 HON hbN ⊢
            have hybk : wk.heap.size ≤ yb := by rw [← hyb]; exact hbj.size
            clear hW0 hyb l0 l1 l2 l3 z0 zr
            have x0 := cell_below hb0 X0
            have s0 := cell_below hb0 g0
            have s1 := cell_below hb0 g1
            have s2 := cell_below hb0 g2
            have s3 := cell_below hb0 g3
            have s4 := cell_below hb0 g4
            have s5 := cell_below hb0 g5
            have s6 := cell_below hb0 g6
            obtain ⟨⟨y0, y1, y2, y3⟩, _, _, _, _⟩ := four_all9 HY0.out
            cases C with
            | true =>
              have HNX2 : xs.take (k + 1) = xs.take k ++ [yv] := by have := HNX3.out; simpa using this
              refine wp_region_quiet (C := fun W => Below W0.heap.size W0 W) (by kernel_rfl) (by kernel_rfl) (below_drew W0) ?_
              iterate 8 (first
                | ((with_reducible refine BigFrame.wpQuiet_skip ?_ ?_); (focus rfl); simp only [Act.put, List.setIfInBounds_toArray, List.set_cons_zero, List.set_cons_succ])
                | ((with_reducible refine BigFrame.wpQuiet_want ?_ (fun K hK => ?_))
                   focus rfl
                   apply quiet_run9
                   · intro W hC
                     unfold Oper.quietAt
                     have HC := Lib.hid hC
                     have a0 := cell_below hC x0
                     have b0 := cell_below hC s0
                     have b1 := cell_below hC s1
                     have b2 := cell_below hC s2
                     have b3 := cell_below hC s3
                     have b4 := cell_below hC s4
                     have b5 := cell_below hC s5
                     have b6 := cell_below hC s6
                     have d0 := cell_below hC y0
                     have d1 := cell_below hC y1
                     have d2 := cell_below hC y2
                     have d3 := cell_below hC y3
                     clear hC
                     go_simp
                     first
                       | done
                       | with_reducible rfl
                       | ((with_reducible refine (HFt.out _ HC.out).mono ?_); exact fun e w' ⟨he, hb⟩ => ⟨he, HC.out.trans (hb.mono HC.out.size)⟩)
                   (with_reducible refine hK _ ?_); clear hK K; simp only [Act.put, List.setIfInBounds_toArray, List.set_cons_zero, List.set_cons_succ]))
              refine wpQuiet_nil ?_
              intro W9 hB9
              (try simp only at hB9)
              clear x0 s0 s1 s2 s3 s4 s5 s6 y0 y1 y2 y3
              have hB90 := hb0.trans (hB9.mono hb0.size)
              have hO9 := (hB9.block _ (Array.getElem?_eq_some_iff.1 HO0.out).1).trans HO0.out
              have hY9 := (hB9.block _ (Array.getElem?_eq_some_iff.1 HY0.out).1).trans HY0.out
              have ho9 := ownsRow_below HOR.out hB9
              have hZA := Below.heapsize9 W9 (.cells #[.int .i64 vk, .int .i64 vn, .string vt, .slice va vll vc] 42)
              have ho8 := ownsRow_below ho9 hZA
              have hO8 := (hZA.block _ (Array.getElem?_eq_some_iff.1 hO9).1).trans hO9
              have hB8 := hB90.trans (hZA.mono hB90.size)
              have hB8s := hB8.size
              obtain ⟨e0, e1, _, _⟩ := two_all hO9
              obtain ⟨⟨q0, q1, q2, q3⟩, fq0, fq1, fq2, fq3⟩ := four_all9 hY9
              have hcn : Cells (W9.alloc (.cells #[.int .i64 vk, .int .i64 vn, .string vt, .slice va vll vc] 42)) 4 (some ⟨W9.heap.size, 0, none⟩) 1 [.int .i64 vk, .int .i64 vn, .string vt, .slice va vll vc] := by
                have h : Cells (W9.alloc (.cells #[.int .i64 vk, .int .i64 vn, .string vt, .slice va vll vc] 42)) 4 (some ⟨W9.heap.size, 0, none⟩) 1 [.int .i64 vk, .int .i64 vn, .string vt, .slice va vll vc] := ⟨rfl, .inr ⟨_, rfl, cells_new W9 [_, _, _, _] _⟩⟩
                exact h
              have HCN := Lib.hid hcn
              clear hcn
              have HB8 := Lib.hid hB8; have HO8 := Lib.hid hO8; have HO8R := Lib.hid ho8; have HBO := Lib.hid hbo
              clear hZA hB8 hO8 ho8 ho9 hY9 hO9 hB90
              go_wp2_with (first
                | (at_builtin; refine wpList_append_at _ rfl _ _ 26 rfl wk.heap.size 42 i0 _ 4 56 Tryz.underlying26 hi0 hz3 hz1 hz2 rfl (by decide) (.slice oa2 k oc2) k cs rfl HO8R.out (some ⟨W9.heap.size, 0, none⟩) 1 1 [.int .i64 vk, .int .i64 vn, .string vt, .slice va vll vc] rfl HCN.out (by simp [Value.oneCell']) (by unfold maxLen; omega) (by omega) hB8s ?_; intro ov5 V5 ho5 hg5 _; obtain ⟨a4, c4, rfl⟩ := own_form9 ho5; have hS5 := below_grown9 HB8.out hg5 (fun b e => (own_blk9 HO8R.out b e).2) HB8.out.size; have hO5 := (hg5.block bo (Array.getElem?_eq_some_iff.1 HO8.out).1 (fun e => own_rec9 HO8.out HO8R.out bo e.symm rfl)).trans HO8.out; obtain ⟨y0, y1, y2, y3⟩ := two_all hO5))
              have hOS3 := outS_put (L := xs.take k) (y := yv) hS5 HBO.out hO5 (by rw [HLK.out]; exact ho5) (vCells_snoc9 HVK.out HVI.out)
              rw [← HNX2] at hOS3
              have HOS3 := Lib.hid hOS3
              clear hOS3 hS5 hO5 y0 y1 y2 y3 ho5 hg5
              go_roundw
              case rel => exact ⟨k + 1, by omega, by go_num, HOS3.out⟩
              case measure => simp [intOf]; omega
            | false =>
              have HNX2 : xs.take (k + 1) = xs.take k ++ [s.df] := by have := HNX3.out; simpa using this
              refine wp_region_quiet (C := fun W => Below W0.heap.size W0 W) (by kernel_rfl) (by kernel_rfl) (below_drew W0) ?_
              iterate 8 (first
                | ((with_reducible refine BigFrame.wpQuiet_skip ?_ ?_); (focus rfl); simp only [Act.put, List.setIfInBounds_toArray, List.set_cons_zero, List.set_cons_succ])
                | ((with_reducible refine BigFrame.wpQuiet_want ?_ (fun K hK => ?_))
                   focus rfl
                   apply quiet_run9
                   · intro W hC
                     unfold Oper.quietAt
                     have HC := Lib.hid hC
                     have a0 := cell_below hC x0
                     have b0 := cell_below hC s0
                     have b1 := cell_below hC s1
                     have b2 := cell_below hC s2
                     have b3 := cell_below hC s3
                     have b4 := cell_below hC s4
                     have b5 := cell_below hC s5
                     have b6 := cell_below hC s6
                     have d0 := cell_below hC y0
                     have d1 := cell_below hC y1
                     have d2 := cell_below hC y2
                     have d3 := cell_below hC y3
                     clear hC
                     go_simp
                     first
                       | done
                       | with_reducible rfl
                       | ((with_reducible refine (HFt.out _ HC.out).mono ?_); exact fun e w' ⟨he, hb⟩ => ⟨he, HC.out.trans (hb.mono HC.out.size)⟩)
                   (with_reducible refine hK _ ?_); clear hK K; simp only [Act.put, List.setIfInBounds_toArray, List.set_cons_zero, List.set_cons_succ]))
              refine wpQuiet_nil ?_
              intro W9 hB9
              (try simp only at hB9)
              clear x0 s0 s1 s2 s3 s4 s5 s6 y0 y1 y2 y3
              have hB91 := hb0.trans (hB9.mono hb0.size)
              have hO91 := (hB9.block _ (Array.getElem?_eq_some_iff.1 HO0.out).1).trans HO0.out
              have hY91 := (hB9.block _ (Array.getElem?_eq_some_iff.1 HY0.out).1).trans HY0.out
              have ho91 := ownsRow_below HOR.out hB9
              have x0 := cell_below hB91 X0
              have s3 := cell_below hB91 g3
              have s4 := cell_below hB91 g4
              have s5 := cell_below hB91 g5
              have s6 := cell_below hB91 g6
              obtain ⟨⟨y0, y1, y2, y3⟩, fy0, fy1, fy2, fy3⟩ := four_all9 hY91
              have hgp := put4_grown W9 yb (.int .i64 kk) (.int .i64 nn) (.string tx) (.slice la ll lc)
              have hY9 := put4_self (.int .i64 kk) (.int .i64 nn) (.string tx) (.slice la ll lc) hY91
              have hB90 := below_grown9 hB91 hgp (fun b e => by cases e; exact hybk) hB91.size
              have hO9 := (hgp.block bo (Array.getElem?_eq_some_iff.1 hO91).1 (fun e => hbN (by cases e; rfl))).trans hO91
              have ho9 := own_kept9 ho91 hgp (fun b e1 e2 => by cases e1; exact HON.out _ e2 rfl)
              unfold put4 at hY9 hB90 hO9 ho9
              clear hgp hO91 ho91 hY91 hB91
              have hZA := Below.heapsize9 ((((W9.setCell ⟨yb, 0, none⟩ (.int .i64 kk)).setCell ⟨yb, 1, none⟩ (.int .i64 nn)).setCell ⟨yb, 2, none⟩ (.string tx)).setCell ⟨yb, 3, none⟩ (.slice la ll lc)) (.cells #[.int .i64 kk, .int .i64 nn, .string tx, .slice la ll lc] 42)
              have ho8 := ownsRow_below ho9 hZA
              have hO8 := (hZA.block _ (Array.getElem?_eq_some_iff.1 hO9).1).trans hO9
              have hB8 := hB90.trans (hZA.mono hB90.size)
              have hB8s := hB8.size
              obtain ⟨e0, e1, _, _⟩ := two_all hO9
              obtain ⟨⟨q0, q1, q2, q3⟩, fq0, fq1, fq2, fq3⟩ := four_all9 hY9
              have hcn : Cells (((((W9.setCell ⟨yb, 0, none⟩ (.int .i64 kk)).setCell ⟨yb, 1, none⟩ (.int .i64 nn)).setCell ⟨yb, 2, none⟩ (.string tx)).setCell ⟨yb, 3, none⟩ (.slice la ll lc)).alloc (.cells #[.int .i64 kk, .int .i64 nn, .string tx, .slice la ll lc] 42)) 4 (some ⟨W9.heap.size, 0, none⟩) 1 [.int .i64 kk, .int .i64 nn, .string tx, .slice la ll lc] := by
                have h : Cells (((((W9.setCell ⟨yb, 0, none⟩ (.int .i64 kk)).setCell ⟨yb, 1, none⟩ (.int .i64 nn)).setCell ⟨yb, 2, none⟩ (.string tx)).setCell ⟨yb, 3, none⟩ (.slice la ll lc)).alloc (.cells #[.int .i64 kk, .int .i64 nn, .string tx, .slice la ll lc] 42)) 4 (some ⟨((((W9.setCell ⟨yb, 0, none⟩ (.int .i64 kk)).setCell ⟨yb, 1, none⟩ (.int .i64 nn)).setCell ⟨yb, 2, none⟩ (.string tx)).setCell ⟨yb, 3, none⟩ (.slice la ll lc)).heap.size, 0, none⟩) 1 [.int .i64 kk, .int .i64 nn, .string tx, .slice la ll lc] := ⟨rfl, .inr ⟨_, rfl, cells_new ((((W9.setCell ⟨yb, 0, none⟩ (.int .i64 kk)).setCell ⟨yb, 1, none⟩ (.int .i64 nn)).setCell ⟨yb, 2, none⟩ (.string tx)).setCell ⟨yb, 3, none⟩ (.slice la ll lc)) [_, _, _, _] _⟩⟩
                rw [show ((((W9.setCell ⟨yb, 0, none⟩ (.int .i64 kk)).setCell ⟨yb, 1, none⟩ (.int .i64 nn)).setCell ⟨yb, 2, none⟩ (.string tx)).setCell ⟨yb, 3, none⟩ (.slice la ll lc)).heap.size = W9.heap.size by simp] at h; exact h
              have HCN := Lib.hid hcn
              clear hcn
              have HB8 := Lib.hid hB8; have HO8 := Lib.hid hO8; have HO8R := Lib.hid ho8; have HBO := Lib.hid hbo
              clear hZA hB8 hO8 ho8 ho9 hY9 hO9 hB90
              go_wp2_with (first
                | (at_builtin; refine wpList_append_at _ rfl _ _ 26 rfl wk.heap.size 42 i0 _ 4 56 Tryz.underlying26 hi0 hz3 hz1 hz2 rfl (by decide) (.slice oa2 k oc2) k cs rfl HO8R.out (some ⟨W9.heap.size, 0, none⟩) 1 1 [.int .i64 kk, .int .i64 nn, .string tx, .slice la ll lc] rfl HCN.out (by simp [Value.oneCell']) (by unfold maxLen; omega) (by omega) hB8s ?_; intro ov5 V5 ho5 hg5 _; obtain ⟨a4, c4, rfl⟩ := own_form9 ho5; have hS5 := below_grown9 HB8.out hg5 (fun b e => (own_blk9 HO8R.out b e).2) HB8.out.size; have hO5 := (hg5.block bo (Array.getElem?_eq_some_iff.1 HO8.out).1 (fun e => own_rec9 HO8.out HO8R.out bo e.symm rfl)).trans HO8.out; obtain ⟨y0, y1, y2, y3⟩ := two_all hO5))
              have hOS3 := outS_put (L := xs.take k) (y := s.df) hS5 HBO.out hO5 (by rw [HLK.out]; exact ho5) (vCells_snoc9 HVK.out HDF.out)
              rw [← HNX2] at hOS3
              have HOS3 := Lib.hid hOS3
              clear hOS3 hS5 hO5 y0 y1 y2 y3 ho5 hg5
              go_roundw
              case rel => exact ⟨k + 1, by omega, by go_num, HOS3.out⟩
              case measure => simp [intOf]; omega
          · obtain rfl : k = N := by omega
            have hd2 : decide ((k : Int) < (k : Int)) = false := by simp
            rw [List.take_of_length_le (by rw [HXL.out]; exact Nat.le_refl _)] at hOS2
            obtain ⟨qa, qc, hO9, hp9⟩ := outS_end hOS2
            rw [HXL.out] at hO9
            obtain ⟨e0, e1, _, _⟩ := two_all hO9
            have hR9 := (hbj.block _ (Array.getElem?_eq_some_iff.1 hR).1).trans hR
            obtain ⟨f0, f1, f2, f3⟩ := two_all hR9
            clear hOS2 hO9
            go_wp2_with fail
            refine bodyPost_ret (results_cell_tmp_rowC Tryz.results21 _ _ (w.heap.size + 1 + 1) _ _ _ _ rfl (set_two9 hR9 _ _) Tryz.underlying31 rfl (by kernel_rfl)) rfl ?_
            exact HQ.out _ _ _ hp9 hR9 (hw3.trans (hbj.mono hw3.size))
end Go.Proofs.YtibjjclfonpibaaGreat

/- The document's Newest of layer 12. (Made by gen_ref12n.py.) -/
set_option linter.unusedVariables false
set_option linter.unusedSimpArgs false
set_option maxRecDepth 100000
namespace Go.Proofs.YtibjjclfonpibaaGreat
open Go.RowKit Go.Shelf
set_option maxHeartbeats 8000000 in
theorem ref12Newest_any (t : TemplM) (r : RecM) (w : World) (X : Value) (b : Option Addr) (d : Nat) (hg : greatT t = false) (hI : I64 r.v) (hi : IsTempl w t X) (hr : PRow w b d r.s) (hsz : ∀ v ∈ r.s, szV v ≤ 1000000) (hsv : r.s.length ≤ 100000) :
    Calls Tryz.prog 23 #[X, .agg #[.int .i64 r.v, .slice b r.s.length d]] w (CastR w (Ca.upM t r (lastN t : Int))) := by
  have h0 := hi
  obtain ⟨h1, sa, sc, ta, tc, rfl, hsl, hst⟩ := hi
  obtain ⟨rv, l⟩ := r
  simp only at hI hr hsz hsv ⊢
  obtain ⟨n, hn⟩ : ∃ n, l.length = n := ⟨_, rfl⟩
  have hB3 := below3 w (.cells #[.string t.nm, .slice sa t.slots.length sc, .slice ta t.steps.length tc] 25) (.cells #[.int .i64 rv, .slice b n d] 31) (.cells #[.int .i64 0, .slice none 0 0] 31)
  have hh := heap3 (Below.refl _ (((w.alloc (.cells #[.string t.nm, .slice sa t.slots.length sc, .slice ta t.steps.length tc] 25)).alloc (.cells #[.int .i64 rv, .slice b n d] 31)).alloc (.cells #[.int .i64 0, .slice none 0 0] 31)))
  obtain ⟨hh0, hh1, hh2⟩ := hh
  have hN9 := lastN_le t
  have hLs : ∀ W, Below w.heap.size w W → Calls Tryz.prog 42 #[.agg #[.string t.nm, .slice sa t.slots.length sc, .slice ta t.steps.length tc]] W fun e w' => (∃ a c, e = .returned (.slice a (lastN t) c)) ∧ Below W.heap.size W w' := fun W hb => (refVersions_any t W W _ (Below.refl _ _) hg (isTempl_below hb h0)).mono fun e w' h => by
    unfold VersR at h
    obtain ⟨h, hb2⟩ := h
    unfold lastN
    refine ⟨?_, hb2⟩
    cases hvs : Sc.vers t with
    | none => rw [hvs] at h; exact ⟨none, 0, h⟩
    | some L =>
      rw [hvs] at h
      obtain ⟨ov, rfl, cs, o1, _⟩ := h
      obtain ⟨oa, oc, rfl⟩ := own_form9 o1
      exact ⟨oa, oc, rfl⟩
  have hAt : ∀ W, Below w.heap.size w W → Calls Tryz.prog 19 #[.agg #[.string t.nm, .slice sa t.slots.length sc, .slice ta t.steps.length tc], .agg #[.int .i64 rv, .slice b n d], .int .i64 (lastN t : Int)] W (CastR W (Ca.upM t ⟨rv, l⟩ (lastN t : Int))) := fun W hb => by
    have h := ref12Up_any t ⟨rv, l⟩ (lastN t : Int) W _ b d hg hI (by unfold I64; omega) (isTempl_below hb h0) (pRow_below hb hr) hsz hsv
    simp only [hn] at h
    exact h
  obtain ⟨m, hm⟩ : ∃ m, Ca.upM t ⟨rv, l⟩ (lastN t : Int) = m := ⟨_, rfl⟩
  obtain ⟨N, hN⟩ : ∃ N, lastN t = N := ⟨_, rfl⟩
  rw [hm] at hAt ⊢
  rw [hN] at hAt hLs
  have HAT := Lib.hid hAt; have H3 := Lib.hid hB3; have HLS := Lib.hid hLs
  rw [hn]
  clear hAt hB3 hLs hg hI h0 hr hsz hsv hsl hst h1 hn hm hN9 hN
  go_enter Tryz.func23, Tryz.ntmps23
  go_wp2
  obtain ⟨V9, hV9⟩ : ∃ U, (((w.alloc (.cells #[.string t.nm, .slice sa t.slots.length sc, .slice ta t.steps.length tc] 25)).alloc (.cells #[.int .i64 rv, .slice b n d] 31)).alloc (.cells #[.int .i64 0, .slice none 0 0] 31)) = U := ⟨_, rfl⟩
  have hw9 := H3.out
  rw [hV9] at hh0 hh1 hh2 hw9 ⊢
  have hRes := hh2
  have hSS : ∀ W, Below V9.heap.size V9 W → W.heap[w.heap.size]? = some (.cells #[.string t.nm, .slice sa t.slots.length sc, .slice ta t.steps.length tc] 25 (0, 0)) ∧ W.heap[w.heap.size + 1]? = some (.cells #[.int .i64 rv, .slice b n d] 31 (0, 0)) := fun W hb => ⟨(hb.block _ (Array.getElem?_eq_some_iff.1 hh0).1).trans hh0, (hb.block _ (Array.getElem?_eq_some_iff.1 hh1).1).trans hh1⟩
  have HSS := Lib.hid hSS
  clear hSS hV9
  refine wp_regionZ (S := (fun W => W.heap[w.heap.size]? = some (.cells #[.string t.nm, .slice sa t.slots.length sc, .slice ta t.steps.length tc] 25 (0, 0)) ∧ W.heap[w.heap.size + 1]? = some (.cells #[.int .i64 rv, .slice b n d] 31 (0, 0)))) 99 10 #[false, false, false, false, false, false, false, false, false, false] (by kernel_rfl) (by kernel_rfl) (by kernel_rfl) ?_
  have hS0 : Below V9.heap.size V9 V9.drew := (Below.refl _ _).drew
  obtain ⟨V0, hV0⟩ : ∃ V0, V9.drew = V0 := ⟨_, rfl⟩
  rw [hV0] at hS0 ⊢
  clear hV0
  have hQ0 := HSS.out _ hS0
  refine lastZ_take (i := 0) (v := ?_) rfl (by kernel_rfl) (by kernel_rfl) (by kernel_rfl) (by kernel_rfl) (fun _ _ _ h => h) (Or.inl ⟨by rfl, ?_⟩) (by assumption) ?_
  rotate_left
  · intro w8 hSw; obtain ⟨y0, y1, y2⟩ := caThree hSw.1; obtain ⟨y3, y4, _, _⟩ := two_all hSw.2; clear hSw; go_simp; (try with_reducible rfl)
  (try simp only [Act.put, List.setIfInBounds_toArray, List.set_cons_zero, List.set_cons_succ])
  refine lastZ_take (i := 1) (v := ?_) rfl (by kernel_rfl) (by kernel_rfl) (by kernel_rfl) (by kernel_rfl) (fun _ _ _ h => h) (Or.inl ⟨by rfl, ?_⟩) (by assumption) ?_
  rotate_left
  · intro w8 hSw; obtain ⟨y0, y1, y2⟩ := caThree hSw.1; obtain ⟨y3, y4, _, _⟩ := two_all hSw.2; clear hSw; go_simp; (try with_reducible rfl)
  (try simp only [Act.put, List.setIfInBounds_toArray, List.set_cons_zero, List.set_cons_succ])
  refine lastZ_take (i := 2) (v := ?_) rfl (by kernel_rfl) (by kernel_rfl) (by kernel_rfl) (by kernel_rfl) (fun _ _ _ h => h) (Or.inl ⟨by rfl, ?_⟩) (by assumption) ?_
  rotate_left
  · intro w8 hSw; obtain ⟨y0, y1, y2⟩ := caThree hSw.1; obtain ⟨y3, y4, _, _⟩ := two_all hSw.2; clear hSw; go_simp; (try with_reducible rfl)
  (try simp only [Act.put, List.setIfInBounds_toArray, List.set_cons_zero, List.set_cons_succ])
  (with_reducible refine lastZ_one (i := 3) (o := ?ob3) (by kernel_rfl) ?ho3 (fun K hK => ?st3))
  case ho3 => exact rfl
  go_simp
  go_at_call 42
  (with_reducible refine (HLS.out _ (hw9.trans (hS0.mono hw9.size))).mono ?_)
  rintro e W1 ⟨⟨va, vc, rfl⟩, hB1⟩
  have hS1 := hS0.trans (hB1.mono hS0.size)
  have hQ1 := HSS.out _ hS1
  refine hK.out _ _ (.inr hQ1) ?_
  clear hK K
  refine lastZ_take (i := 4) (v := ?_) rfl (by kernel_rfl) (by kernel_rfl) (by kernel_rfl) (by kernel_rfl) (fun _ _ _ h => h) (Or.inl ⟨by rfl, ?_⟩) (by assumption) ?_
  rotate_left
  · intro w8 hSw; clear hSw; go_simp; (try with_reducible rfl)
  (try simp only [Act.put, List.setIfInBounds_toArray, List.set_cons_zero, List.set_cons_succ])
  (with_reducible refine lastZ_one (i := 5) (o := ?ob5) (by kernel_rfl) ?ho5 (fun K hK => ?st5))
  case ho5 => exact rfl
  go_simp
  go_at_call 19
  (with_reducible refine (HAT.out _ (hw9.trans (hS1.mono hw9.size))).mono ?_)
  rintro e W2 ⟨⟨qa, qc, rfl, hp⟩, hB2⟩
  have hS2 := hS1.trans (hB2.mono hS1.size)
  have hQ2 := HSS.out _ hS2
  refine hK.out _ _ (.inr hQ2) ?_
  clear hK K
  refine lastZ_take (i := 6) (v := ?_) rfl (by kernel_rfl) (by kernel_rfl) (by kernel_rfl) (by kernel_rfl) (fun _ _ _ h => h) (Or.inl ⟨by rfl, ?_⟩) (by assumption) ?_
  rotate_left
  · intro w8 hSw; clear hSw; go_simp; (try with_reducible rfl)
  (try simp only [Act.put, List.setIfInBounds_toArray, List.set_cons_zero, List.set_cons_succ])
  refine lastZ_take (i := 7) (v := ?_) rfl (by kernel_rfl) (by kernel_rfl) (by kernel_rfl) (by kernel_rfl) (fun _ _ _ h => h) (Or.inl ⟨by rfl, ?_⟩) (by assumption) ?_
  rotate_left
  · intro w8 hSw; clear hSw; go_simp; (try with_reducible rfl)
  (try simp only [Act.put, List.setIfInBounds_toArray, List.set_cons_zero, List.set_cons_succ])
  have hR := (hS2.block _ (Array.getElem?_eq_some_iff.1 hRes).1).trans hRes
  obtain ⟨f0, f1, f2, f3⟩ := two_all hR
  (with_reducible refine lastZ_one (i := 8) (o := ?ob8) (by kernel_rfl) ?ho8 (fun K hK => ?st8))
  case ho8 => exact rfl
  go_simp
  have hQ4 : ((W2.setCell ⟨w.heap.size + 1 + 1, 0, none⟩ (.int .i64 m.1.v)).setCell ⟨w.heap.size + 1 + 1, 1, none⟩ (.slice qa m.1.s.length qc)).heap[w.heap.size]? = some (.cells #[.string t.nm, .slice sa t.slots.length sc, .slice ta t.steps.length tc] 25 (0, 0)) ∧ ((W2.setCell ⟨w.heap.size + 1 + 1, 0, none⟩ (.int .i64 m.1.v)).setCell ⟨w.heap.size + 1 + 1, 1, none⟩ (.slice qa m.1.s.length qc)).heap[w.heap.size + 1]? = some (.cells #[.int .i64 rv, .slice b n d] 31 (0, 0)) := by
    rw [Below.heap_setCell _ ⟨w.heap.size + 1 + 1, 1, none⟩ _ _ (by show w.heap.size ≠ w.heap.size + 1 + 1; omega), Below.heap_setCell _ ⟨w.heap.size + 1 + 1, 0, none⟩ _ _ (by show w.heap.size ≠ w.heap.size + 1 + 1; omega), Below.heap_setCell _ ⟨w.heap.size + 1 + 1, 1, none⟩ _ _ (by show w.heap.size + 1 ≠ w.heap.size + 1 + 1; omega), Below.heap_setCell _ ⟨w.heap.size + 1 + 1, 0, none⟩ _ _ (by show w.heap.size + 1 ≠ w.heap.size + 1 + 1; omega)]
    exact hQ2
  refine hK.out _ _ (.inr hQ4) ?_
  clear hK K f0 f1 f2 f3
  (with_reducible refine lastZ_one (i := 9) (o := ?ob9) (by kernel_rfl) ?ho9 (fun K hK => ?st9))
  case ho9 => exact rfl
  go_simp
  refine hK.out _ _ (.inr hQ4) ?_
  clear hK K
  refine lastZ_done (by kernel_rfl) ?_ _
  go_wp2
  refine bodyPost_ret (results_cell_tmp_rowC Tryz.results23 _ _ (w.heap.size + 1 + 1) _ _ _ _ rfl (set_two9 hR _ _) Tryz.underlying31 rfl (by kernel_rfl)) rfl ?_
  have hres := res_set (w := w) (.int .i64 m.1.v) (.slice qa m.1.s.length qc) hR (hw9.trans (hS2.mono hw9.size)) (by omega)
  exact ⟨⟨qa, qc, rfl, hres.2.2 hp⟩, hres.2.1⟩
end Go.Proofs.YtibjjclfonpibaaGreat
