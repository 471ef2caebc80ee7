/- The document's At of layer 10. -/
import Derived.Test.YtibjjclfonpibaaGreatMh50Cast
import Derived.Test.YtibjjclfonpibaaGreatMh11Cast
import Derived.Test.YtibjjclfonpibaaGreatMh12Cast
set_option linter.unusedVariables false
set_option linter.unusedSimpArgs false
set_option maxRecDepth 100000
namespace Go.Proofs.YtibjjclfonpibaaGreat
open Go.RowKit Go.Shelf
/-- what the document's At comes to -/
def AtD (w : World) (t : TemplM) (v : Int) (e : Ending) (w' : World) : Prop := (match Rc.verOf t v with
  | none => e = .returned (.tuple #[.agg #[.slice none 0 0, .slice none 0 0], .bool false])
  | some x => ∃ sa sc ca cc, e = .returned (.tuple #[.agg #[.slice sa x.slots.length sc, .slice ca x.cols.length cc], .bool true]) ∧ VerAt w' x sa sc ca cc) ∧ Below w.heap.size w w'
theorem build_refver0 (w : World) : (Instr.build 37 #[]).run Tryz.prog w = .ok (.agg #[.slice none 0 0, .slice none 0 0]) w := run_build w 37 _ _ (by kernel_rfl)
set_option maxHeartbeats 8000000 in
theorem refAt_any (t : TemplM) (v : Int) (w : World) (X : Value) (hg : greatT t = false) (hI : I64 v) (hi : IsTempl w t X) : Calls Tryz.prog 13 #[X, .int .i64 v] w (AtD w t v) := by
  have hV := fun (W : World) (hb : Below w.heap.size w W) => refVersions_any t w W X hb hg hi
  have hbv := build_refver0
  obtain ⟨h1, sa, sc, ta, tc, rfl, hsl, hst⟩ := hi
  clear h1 hsl hst hg
  obtain ⟨Q, hQ⟩ : ∃ Q, AtD w t v = Q := ⟨_, rfl⟩
  have hq0 : Rc.verOf t v = none → ∀ w', Below w.heap.size w w' → Q (.returned (.tuple #[.agg #[.slice none 0 0, .slice none 0 0], .bool false])) w' := fun h w' hb => by
    rw [← hQ]; unfold AtD; rw [h]; exact ⟨rfl, hb⟩
  have hq1 : ∀ x, Rc.verOf t v = some x → ∀ a c a' c' w', VerAt w' x a c a' c' → Below w.heap.size w w' → Q (.returned (.tuple #[.agg #[.slice a x.slots.length c, .slice a' x.cols.length c'], .bool true])) w' := fun x h a c a' c' w' h2 hb => by
    rw [← hQ]; unfold AtD; rw [h]; exact ⟨⟨a, c, a', c', rfl, h2⟩, hb⟩
  have HQ0 := Lib.hid hq0; have HQ1 := Lib.hid hq1
  rw [hQ]
  clear hq0 hq1 hQ
  have hW1 : Below w.heap.size w ((w.alloc (.cells #[.string t.nm, .slice sa t.slots.length sc, .slice ta t.steps.length tc] 25)).alloc (.cells #[.slice none 0 0, .slice none 0 0] 37)) := ((Below.refl _ w).alloc (Nat.le_refl _) _).alloc (by simp) _
  have hY0 := two_heap9 w (.cells #[.string t.nm, .slice sa t.slots.length sc, .slice ta t.steps.length tc] 25) (.cells #[.slice none 0 0, .slice none 0 0] 37)
  have hz1 : w.heap.size + 1 < ((w.alloc (.cells #[.string t.nm, .slice sa t.slots.length sc, .slice ta t.steps.length tc] 25)).alloc (.cells #[.slice none 0 0, .slice none 0 0] 37)).heap.size := by simp
  obtain ⟨slen, hslen⟩ : ∃ n, t.slots.length = n := ⟨_, rfl⟩
  obtain ⟨tlen, htlen⟩ : ∃ n, t.steps.length = n := ⟨_, rfl⟩
  rw [hslen, htlen] at hV hW1 hY0 hz1 ⊢
  clear hslen htlen
  cases hvs : Sc.vers t with
  | none =>
    have hno : Rc.verOf t v = none := by unfold Rc.verOf; rw [hvs]; split <;> rfl
    have hN0 : ∀ W, Below w.heap.size w W → Calls Tryz.prog 42 #[.agg #[.string t.nm, .slice sa slen sc, .slice ta tlen tc]] W fun e w' => e = .returned (.slice none 0 0) ∧ Below W.heap.size W w' := fun W hb => (hV W hb).mono fun e w' h => by
      unfold VersR at h; rw [hvs] at h; exact h
    have HN0 := Lib.hid hN0
    clear hN0 hV hvs
    by_cases hv1 : v < 1
    · have hd : decide (v < 1) = true := by simpa using hv1
      have HV1 := Lib.hid hv1
      clear hv1
      go_enter Tryz.func13, Tryz.ntmps13
      go_wp2_with (go_at_call 42; (with_reducible refine (HN0.out _ hW1).mono ?_); rintro e w1 ⟨rfl, hB1⟩; have hY := (hB1.block _ hz1).trans hY0; obtain ⟨y0, y1, y2, y3⟩ := two_all hY)
      refine bodyPost_ret (results_cell_tmp_row9 Tryz.results13 _ _ (w.heap.size + 1) _ _ _ _ rfl (set_two9 hY _ _) Tryz.underlying37 rfl (by kernel_rfl)) rfl ?_
      exact HQ0.out hno _ (below_set2 (hW1.trans (hB1.mono hW1.size)) (by omega) _ _)
    · have hd : decide (v < 1) = false := by simpa using hv1
      have hd2 : decide (0 < v) = true := by simp; omega
      have HV1 := Lib.hid hv1
      clear hv1
      go_enter Tryz.func13, Tryz.ntmps13
      go_wp2_with (go_at_call 42; (with_reducible refine (HN0.out _ hW1).mono ?_); rintro e w1 ⟨rfl, hB1⟩; have hY := (hB1.block _ hz1).trans hY0; obtain ⟨y0, y1, y2, y3⟩ := two_all hY)
      refine bodyPost_ret (results_cell_tmp_row9 Tryz.results13 _ _ (w.heap.size + 1) _ _ _ _ rfl (set_two9 hY _ _) Tryz.underlying37 rfl (by kernel_rfl)) rfl ?_
      exact HQ0.out hno _ (below_set2 (hW1.trans (hB1.mono hW1.size)) (by omega) _ _)
  | some L =>
    have hN0 : ∀ W, Below w.heap.size w W → Calls Tryz.prog 42 #[.agg #[.string t.nm, .slice sa slen sc, .slice ta tlen tc]] W fun e w' => (∃ ov, e = .returned ov ∧ OV w w' W.heap.size L ov) ∧ Below W.heap.size W w' := fun W hb => (hV W hb).mono fun e w' h => by
      unfold VersR at h; rw [hvs] at h; exact h
    have HN0 := Lib.hid hN0
    have hll := (Sc.vers_length hvs)
    have hl9 : L.length ≤ 9 := by omega
    have HVS := Lib.hid hvs
    clear hN0 hV hvs hll
    obtain ⟨n, hn⟩ : ∃ n, L.length = n := ⟨_, rfl⟩
    by_cases hv1 : v < 1
    · have hd : decide (v < 1) = true := by simpa using hv1
      have hno : Rc.verOf t v = none := by unfold Rc.verOf; rw [if_pos hv1]
      have HNO := Lib.hid hno
      clear hv1 hno hl9 hn
      go_enter Tryz.func13, Tryz.ntmps13
      go_wp2_with (go_at_call 42; (with_reducible refine (HN0.out _ hW1).mono ?_); rintro e w1 ⟨⟨ov, rfl, hO⟩, hB1⟩; have HO := Lib.hid hO; obtain ⟨cs, o1, o2⟩ := hO; obtain ⟨oa, oc, rfl⟩ := own_form9 o1; have hY := (hB1.block _ hz1).trans hY0; obtain ⟨y0, y1, y2, y3⟩ := two_all hY; clear o1 o2)
      refine bodyPost_ret (results_cell_tmp_row9 Tryz.results13 _ _ (w.heap.size + 1) _ _ _ _ rfl (set_two9 hY _ _) Tryz.underlying37 rfl (by kernel_rfl)) rfl ?_
      exact HQ0.out HNO.out _ (below_set2 (hW1.trans (hB1.mono hW1.size)) (by omega) _ _)
    by_cases hv2 : (n : Int) < v
    · have hd : decide (v < 1) = false := by simpa using hv1
      have hd2 : decide ((n : Int) < v) = true := by simpa using hv2
      have hno : Rc.verOf t v = none := by
        unfold Rc.verOf; rw [if_neg hv1, HVS.out]
        exact List.getElem?_eq_none (by omega)
      have HNO := Lib.hid hno
      have HNN := Lib.hid hn
      clear hv1 hv2 hno hl9 hn
      go_enter Tryz.func13, Tryz.ntmps13
      go_wp2_with (go_at_call 42; (with_reducible refine (HN0.out _ hW1).mono ?_); rintro e w1 ⟨⟨ov, rfl, hO⟩, hB1⟩; have HO := Lib.hid hO; obtain ⟨cs, o1, o2⟩ := hO; rw [HNN.out] at o1; obtain ⟨oa, oc, rfl⟩ := own_form9 o1; have hY := (hB1.block _ hz1).trans hY0; obtain ⟨y0, y1, y2, y3⟩ := two_all hY; clear o1 o2)
      refine bodyPost_ret (results_cell_tmp_row9 Tryz.results13 _ _ (w.heap.size + 1) _ _ _ _ rfl (set_two9 hY _ _) Tryz.underlying37 rfl (by kernel_rfl)) rfl ?_
      exact HQ0.out HNO.out _ (below_set2 (hW1.trans (hB1.mono hW1.size)) (by omega) _ _)
    · obtain ⟨j, hj⟩ : ∃ j : Nat, v = ((j + 1 : Nat) : Int) := ⟨(v - 1).toNat, by omega⟩
      subst hj
      have hjn : j < n := by omega
      obtain ⟨x, hx⟩ : ∃ x, L[j]? = some x := ⟨L[j], List.getElem?_eq_getElem (by omega)⟩
      have hso : Rc.verOf t ((j + 1 : Nat) : Int) = some x := by
        unfold Rc.verOf; rw [if_neg hv1, HVS.out]
        show L[(((j + 1 : Nat) : Int) - 1).toNat]? = some x
        rw [show (((j + 1 : Nat) : Int) - 1).toNat = j by omega]; exact hx
      have hd : decide ((((j + 1 : Nat) : Int)) < 1) = false := by simp; omega
      have hd2 : decide ((n : Int) < ((j + 1 : Nat) : Int)) = false := by simp; omega
      have hwr : IntKind.i64.wrap (((j + 1 : Nat) : Int) - 1) = (j : Int) := by rw [IntKind.wrap_i64]; omega
      have hji : (j : Int) < (n : Int) := by omega
      have HSO := Lib.hid hso; have HX := Lib.hid hx; have HNN := Lib.hid hn
      obtain ⟨vi, hvi⟩ : ∃ z : Int, ((j + 1 : Nat) : Int) = z := ⟨_, rfl⟩
      rw [hvi] at hd hd2 hwr HSO HQ0 HQ1 ⊢
      clear hv1 hv2 hso hx hl9 hn hI hvi
      go_enter Tryz.func13, Tryz.ntmps13
      go_wp2_with (go_at_call 42; (with_reducible refine (HN0.out _ hW1).mono ?_); rintro e w1 ⟨⟨ov, rfl, hO⟩, hB1⟩; have HO := Lib.hid hO; obtain ⟨cs, o1, o2⟩ := hO; rw [HNN.out] at o1; obtain ⟨oa, oc, rfl⟩ := own_form9 o1; obtain ⟨sv, cv, e1, e2, hvx⟩ := o2 j x HX.out; obtain ⟨xa, xc, xa', xc', rfl, rfl⟩ := ver_form hvx; obtain ⟨go, rfl, z0, _, _⟩ := own_cell9 o1 e1; obtain ⟨go', ego, z1, _, _⟩ := own_cell9 o1 e2; injection ego with ego; injection ego with ego _ _; subst ego; have hY := (hB1.block _ hz1).trans hY0; obtain ⟨y0, y1, y2, y3⟩ := two_all hY; have HVX := Lib.hid hvx; clear o1 o2 e1 e2 hvx)
      have hVS := verOwn_set HVX.out hY (.slice xa x.slots.length xc) (.slice xa' x.cols.length xc')
      have hBS := below_set2 (hW1.trans (hB1.mono hW1.size)) (show w.heap.size ≤ w.heap.size + 1 by omega) (.slice xa x.slots.length xc) (.slice xa' x.cols.length xc')
      refine bodyPost_ret (results_cell_tmp_row9 Tryz.results13 _ _ (w.heap.size + 1) _ _ _ _ rfl (set_two9 hY _ _) Tryz.underlying37 rfl (by kernel_rfl)) rfl ?_
      exact HQ1.out x HSO.out _ _ _ _ _ (ver_at hVS hBS) hBS
end Go.Proofs.YtibjjclfonpibaaGreat

/- The document's Valid of layer 11. (Made by gen_ref11v.py.) -/
set_option linter.unusedVariables false
set_option linter.unusedSimpArgs false
set_option maxRecDepth 100000
namespace Go.Proofs.YtibjjclfonpibaaGreat
open Go.RowKit Go.Shelf
theorem verAt_below9 {w w1 : World} {x : Sc.Ver} {sa : Option Addr} {sc : Nat} {ca : Option Addr} {cc : Nat} (h : VerAt w x sa sc ca cc) (hb : Below w.heap.size w w1) : VerAt w1 x sa sc ca cc := ⟨slotRow_below hb h.1, row_below h.2 hb rfl⟩
theorem slotRow_at9 {W : World} {a : Option Addr} {cap : Nat} {l : List SlotM} (h : SlotRow W a cap l) {i : Nat} {s : SlotM} (hs : l[i]? = some s) : ∃ b off, a = some ⟨b, off, none⟩ ∧ SlotAt W b (off + i * 7) s := by
  rcases h.2.2 with h3 | ⟨b, off, ha, hc⟩
  · subst h3; simp at hs
  · exact ⟨b, off, ha, hc i s hs⟩
theorem verOf_ok9 {t : TemplM} {v : Int} {x : Sc.Ver} (h : Rc.verOf t v = some x) : Sc.VerOk 16 x := by
  unfold Rc.verOf at h
  split at h
  · cases h
  · cases hv : Sc.vers t with
    | none => rw [hv] at h; cases h
    | some L =>
      rw [hv] at h
      have hm := List.mem_of_getElem? h
      unfold Sc.vers at hv
      split at hv
      · rename_i hc
        have h1 := Sc.run_ok _ _ _ _ (Sc.first_ok hc.2.2.2.2 hc.2.2.1) hv x hm
        exact ⟨h1.lt, h1.nodup, h1.len, by have := h1.num; omega, h1.ok⟩
      · cases hv
set_option maxHeartbeats 16000000 in
theorem refValid11_any (t : TemplM) (r : RecM) (w : World) (X : Value) (b : Option Addr) (d : Nat) (hg : greatT t = false) (hI : I64 r.v) (hi : IsTempl w t X) (hr : PRow w b d r.s) (hsz : ∀ v ∈ r.s, szV v ≤ 1000000) (hsv : r.s.length ≤ 100000) :
    Calls Tryz.prog 27 #[X, .agg #[.int .i64 r.v, .slice b r.s.length d]] w fun e w' => e = .returned (.bool (Rc.verR t r).isSome) ∧ Below w.heap.size w w' := by
  have h0 := hi
  obtain ⟨h1, sa, sc, ta, tc, rfl, hsl, hst⟩ := hi
  obtain ⟨rv, l⟩ := r
  simp only at hI hr hsz hsv ⊢
  obtain ⟨n, hn⟩ : ∃ n, l.length = n := ⟨_, rfl⟩
  have hn5 : n ≤ 100000 := by omega
  have hb2 := ((Below.refl _ w).alloc (Nat.le_refl _) (.cells #[.string t.nm, .slice sa t.slots.length sc, .slice ta t.steps.length tc] 25)).alloc (by simp) (.cells #[.int .i64 rv, .slice b n d] 31)
  have hY := two_heap9 w (.cells #[.string t.nm, .slice sa t.slots.length sc, .slice ta t.steps.length tc] 25) (.cells #[.int .i64 rv, .slice b n d] 31)
  have hAt := fun (W : World) (hb : Below w.heap.size w W) => refAt_any t rv W _ hg hI (isTempl_below hb h0)
  obtain ⟨B, hB⟩ : ∃ B, (Rc.verR t ⟨rv, l⟩).isSome = B := ⟨_, rfl⟩
  have hB' := hB
  unfold Rc.verR at hB'
  simp only at hB'
  rw [hB, hn]
  have HB2 := Lib.hid hb2; have HN := Lib.hid hn; have HL := Lib.hid hr; have HSZ := Lib.hid hsz
  cases hv : Rc.verOf t rv with
  | none =>
    rw [hv] at hB'
    have hBf : B = false := hB'.symm
    subst hBf
    have hAt2 : ∀ W, Below w.heap.size w W → Calls Tryz.prog 13 #[.agg #[.string t.nm, .slice sa t.slots.length sc, .slice ta t.steps.length tc], .int .i64 rv] W fun e w' => e = .returned (.tuple #[.agg #[.slice none 0 0, .slice none 0 0], .bool false]) ∧ Below W.heap.size W w' := fun W hb => (hAt W hb).mono fun e w' h => by
      unfold AtD at h; rw [hv] at h; exact h
    have HAT := Lib.hid hAt2
    clear hAt hAt2 hv hb2 hn hr hsz h0 hB hB' h1 hsl hst hI hg
    go_enter Tryz.func27, Tryz.ntmps27
    go_wp2_with (first
      | (go_at_call 13; (with_reducible refine (HAT.out _ HB2.out).mono ?_); rintro e w1 ⟨rfl, hB1⟩; have hR1 := (hB1.block _ (Array.getElem?_eq_some_iff.1 hY).1).trans hY; have hA1 := Below.heapsize9 w1 (.cells #[.slice none 0 0, .slice none 0 0] 37); have hR2 := (hA1.block _ (Array.getElem?_eq_some_iff.1 hR1).1).trans hR1; obtain ⟨f0, f1, _, _⟩ := two_all hR2; have hX2 := heap_self9 w1 (.cells #[.slice none 0 0, .slice none 0 0] 37); obtain ⟨x0, x1, _, _⟩ := two_all hX2; have hw2 := (HB2.out.trans (hB1.mono HB2.out.size)).trans (hA1.mono (Nat.le_trans HB2.out.size hB1.size))))
    go_ret
    exact ⟨rfl, hw2⟩
  | some x =>
    rw [hv] at hB'
    simp only at hB'
    have hok := verOf_ok9 hv
    have hAt2 : ∀ W, Below w.heap.size w W → Calls Tryz.prog 13 #[.agg #[.string t.nm, .slice sa t.slots.length sc, .slice ta t.steps.length tc], .int .i64 rv] W fun e w' => (∃ sa sc ca cc, e = .returned (.tuple #[.agg #[.slice sa x.slots.length sc, .slice ca x.cols.length cc], .bool true]) ∧ VerAt w' x sa sc ca cc) ∧ Below W.heap.size W w' := fun W hb => (hAt W hb).mono fun e w' h => by
      unfold AtD at h; rw [hv] at h; exact h
    have HAT := Lib.hid hAt2
    have hfit := Rc.fitL_iff x.slots l
    by_cases hlen : x.slots.length = n
    · have hd : ((n : Int) != (n : Int)) = false := by simp
      have hiff : B = true ↔ ∀ (i : Nat) (s : SlotM) (v : PV), x.slots[i]? = some s → l[i]? = some v → Sc.fits s.ty v = true := by
        rw [← hB']
        split
        · rename_i h; simp only [Option.isSome_some, true_iff]; exact (hfit.1 h).2
        · rename_i h; simp only [Option.isSome_none, Bool.false_eq_true, false_iff]; exact fun h2 => h (hfit.2 ⟨by rw [hn]; exact hlen, h2⟩)
      have HIFF := Lib.hid hiff; have HOK := Lib.hid hok; have HSL := Lib.hid hlen
      clear hAt hAt2 hv hb2 hn hr hsz h0 hB hB' h1 hsl hst hI hg hfit hiff hok
      go_enter Tryz.func27, Tryz.ntmps27
      rw [hlen] at HAT
      clear hlen
      go_wp2_with (first
        | (go_at_call 13; (with_reducible refine (HAT.out _ HB2.out).mono ?_); rintro e w1 ⟨⟨sa1, sc1, ca1, cc1, rfl, hV1⟩, hB1⟩; have hR1 := (hB1.block _ (Array.getElem?_eq_some_iff.1 hY).1).trans hY; have hA1 := Below.heapsize9 w1 (.cells #[.slice sa1 n sc1, .slice ca1 x.cols.length cc1] 37); have hR2 := (hA1.block _ (Array.getElem?_eq_some_iff.1 hR1).1).trans hR1; obtain ⟨f0, f1, _, _⟩ := two_all hR2; have hX2 := heap_self9 w1 (.cells #[.slice sa1 n sc1, .slice ca1 x.cols.length cc1] 37); obtain ⟨x0, x1, _, _⟩ := two_all hX2; have hw2 := (HB2.out.trans (hB1.mono HB2.out.size)).trans (hA1.mono (Nat.le_trans HB2.out.size hB1.size)); have hV2 := verAt_below9 hV1 hA1; have HV2 := Lib.hid hV2; clear hV1 hV2))
      obtain ⟨wk, hwk⟩ : ∃ U, w1.alloc (.cells #[.slice sa1 n sc1, .slice ca1 x.cols.length cc1] 37) = U := ⟨_, rfl⟩
      rw [hwk] at HV2 f0 f1 x0 x1 hw2 ⊢
      obtain ⟨kx, hkx⟩ : ∃ b, w1.heap.size = b := ⟨_, rfl⟩
      rw [hkx] at x0 x1 ⊢
      clear hwk hkx hA1 hB1 hR1 hR2 hX2
      go_loopw [7] (fun i wr => ∃ q : Nat, q ≤ n ∧ i = .int .i64 (q : Int) ∧ Below wk.heap.size wk wr ∧ Hid (∀ (j : Nat) (s : SlotM) (v : PV), j < q → x.slots[j]? = some s → l[j]? = some v → Sc.fits s.ty v = true)) (fun i _ => n - (intOf i).toNat)
      case atStart => exact ⟨0, Nat.zero_le _, rfl, Below.refl _ _, Lib.hid (fun j s v hj => by omega)⟩
      case round =>
        obtain ⟨q, hq, rfl, hbq, HALL⟩ := hrel
        obtain ⟨wj, hwj⟩ : ∃ x, x = wr := ⟨_, rfl⟩
        subst hwj
        have k0 := cell_below hbq f0
        have k1 := cell_below hbq f1
        have k2 := cell_below hbq x0
        have k3 := cell_below hbq x1
        rcases Nat.lt_or_ge q n with hlt | hge
        · have hdq : decide ((q : Int) < (n : Int)) = true := by simp; omega
          have hqn : (q : Int) < (n : Int) := by omega
          have hnl := HN.out
          have hsl := HSL.out
          obtain ⟨s, hs⟩ : ∃ s, x.slots[q]? = some s := ⟨x.slots[q], List.getElem?_eq_getElem (by omega)⟩
          obtain ⟨v, hv⟩ : ∃ v, l[q]? = some v := ⟨l[q], List.getElem?_eq_getElem (by omega)⟩
          obtain ⟨sb, so, rfl, hss⟩ := slotRow_at9 HV2.out.1 hs
          obtain ⟨k, nn, tx, la, ll, lc, ⟨g0, g1, g2, g3, g4, g5, g6⟩, hI, hsn, hdf⟩ := slotAt_form hss
          obtain ⟨vb, vo, vk, vn, vt, va, vll, vc, rfl, ⟨p0, p1, p2, p3⟩, hvI⟩ := pRow_val HL.out hv
          have z0 := cell_below hbq g0
          have z1 := cell_below hbq g1
          have z2 := cell_below hbq g2
          have z3 := cell_below hbq g3
          have z4 := cell_below hbq g4
          have z5 := cell_below hbq g5
          have z6 := cell_below hbq g6
          have hwj' := hw2.trans (hbq.mono hw2.size)
          have y0 := cell_below hwj' p0
          have y1 := cell_below hwj' p1
          have y2 := cell_below hwj' p2
          have y3 := cell_below hwj' p3
          have hty : 0 ≤ s.ty := by have := (HOK.out.ok s (List.mem_of_getElem? hs)).1; omega
          obtain ⟨C, hC⟩ : ∃ C, Sc.fits s.ty v = C := ⟨_, rfl⟩
          have hFt : ∀ W, Below wj.heap.size wj W → Calls Tryz.prog 29 #[.agg #[.string s.nm, .int .i64 s.ty, .bool s.rq, .int .i64 k, .int .i64 nn, .string tx, .slice la ll lc], .agg #[.int .i64 vk, .int .i64 vn, .string vt, .slice va vll vc]] W fun e w' => e = .returned (.bool C) ∧ Below W.heap.size W w' := fun W hb => by
            have h := refFits_any s v (HSZ.out v (List.mem_of_getElem? hv)) hty W _ _ (isSlot_below (hbq.trans (hb.mono hbq.size)) ⟨_, _, _, _, _, _, _, rfl, hsn, hI, rfl, rfl, rfl, hdf⟩) (is_below (hwj'.trans (hb.mono hwj'.size)) _ _ hvI)
            rw [hC] at h; exact h
          have hgood : C = true → ∀ (j : Nat) (s : SlotM) (v : PV), j < q + 1 → x.slots[j]? = some s → l[j]? = some v → Sc.fits s.ty v = true := fun h1 j s' v' hj h2 h3 => by
            rcases Nat.lt_or_ge j q with h | h
            · exact HALL.out j s' v' h h2 h3
            · obtain rfl : j = q := by omega
              rw [hs] at h2; rw [hv] at h3
              cases h2; cases h3
              rw [hC]; exact h1
          have hbad : C = false → B = false := fun h1 => by
            cases B with
            | false => rfl
            | true => have := HIFF.out.1 rfl q s v hs hv; rw [hC, h1] at this; exact this.symm
          have HFt := Lib.hid hFt; have HGOOD := Lib.hid hgood; have HBAD := Lib.hid hbad
          clear hFt hgood hbad hC hs hv hvI hdf hss hI hsn hnl hsl g0 g1 g2 g3 g4 g5 g6 p0 p1 p2 p3 hty
          cases C with
          | false =>
            have hB0 := HBAD.out rfl
            go_wp2
            refine wp_region_quiet (C := fun W => Below wj.heap.size wj W) (by kernel_rfl) (by kernel_rfl) (below_drew wj) ?_
            iterate 12 (first
              | ((with_reducible refine BigFrame.wpQuiet_skip ?_ ?_); (focus rfl); simp only [Act.put, List.setIfInBounds_toArray, List.set_cons_zero, List.set_cons_succ])
              | ((with_reducible refine BigFrame.wpQuiet_want ?_ (fun K hK => ?_))
                 focus rfl
                 apply quiet_run9
                 · intro W hC
                   unfold Oper.quietAt
                   have HC := Lib.hid hC
                   have a0 := cell_below hC k0
                   have a1 := cell_below hC k1
                   have a2 := cell_below hC k2
                   have a3 := cell_below hC k3
                   have s0 := cell_below hC z0
                   have s1 := cell_below hC z1
                   have s2 := cell_below hC z2
                   have s3 := cell_below hC z3
                   have s4 := cell_below hC z4
                   have s5 := cell_below hC z5
                   have s6 := cell_below hC z6
                   have v0 := cell_below hC y0
                   have v1 := cell_below hC y1
                   have v2 := cell_below hC y2
                   have v3 := cell_below hC y3
                   clear hC
                   go_simp
                   first
                     | done
                     | with_reducible rfl
                     | ((with_reducible refine (HFt.out _ HC.out).mono ?_); exact fun e w' ⟨he, hb⟩ => ⟨he, HC.out.trans (hb.mono HC.out.size)⟩)
                 (with_reducible refine hK _ ?_); clear hK K; simp only [Act.put, List.setIfInBounds_toArray, List.set_cons_zero, List.set_cons_succ]))
            refine wpQuiet_nil ?_
            intro W9 hB9
            (try simp only at hB9)
            clear z0 z1 z2 z3 z4 z5 z6 y0 y1 y2 y3
            go_wp2_with fail
            go_ret
            exact ⟨ret_bool hB0.symm, hwj'.trans (hB9.mono hwj'.size)⟩
          | true =>
            have hG0 := Lib.hid (HGOOD.out rfl)
            go_wp2
            refine wp_region_quiet (C := fun W => Below wj.heap.size wj W) (by kernel_rfl) (by kernel_rfl) (below_drew wj) ?_
            iterate 12 (first
              | ((with_reducible refine BigFrame.wpQuiet_skip ?_ ?_); (focus rfl); simp only [Act.put, List.setIfInBounds_toArray, List.set_cons_zero, List.set_cons_succ])
              | ((with_reducible refine BigFrame.wpQuiet_want ?_ (fun K hK => ?_))
                 focus rfl
                 apply quiet_run9
                 · intro W hC
                   unfold Oper.quietAt
                   have HC := Lib.hid hC
                   have a0 := cell_below hC k0
                   have a1 := cell_below hC k1
                   have a2 := cell_below hC k2
                   have a3 := cell_below hC k3
                   have s0 := cell_below hC z0
                   have s1 := cell_below hC z1
                   have s2 := cell_below hC z2
                   have s3 := cell_below hC z3
                   have s4 := cell_below hC z4
                   have s5 := cell_below hC z5
                   have s6 := cell_below hC z6
                   have v0 := cell_below hC y0
                   have v1 := cell_below hC y1
                   have v2 := cell_below hC y2
                   have v3 := cell_below hC y3
                   clear hC
                   go_simp
                   first
                     | done
                     | with_reducible rfl
                     | ((with_reducible refine (HFt.out _ HC.out).mono ?_); exact fun e w' ⟨he, hb⟩ => ⟨he, HC.out.trans (hb.mono HC.out.size)⟩)
                 (with_reducible refine hK _ ?_); clear hK K; simp only [Act.put, List.setIfInBounds_toArray, List.set_cons_zero, List.set_cons_succ]))
            refine wpQuiet_nil ?_
            intro W9 hB9
            (try simp only at hB9)
            clear z0 z1 z2 z3 z4 z5 z6 y0 y1 y2 y3
            go_wp2_with fail
            go_roundw
            case rel => exact ⟨q + 1, by omega, by go_num, hbq.trans (hB9.mono hbq.size), hG0⟩
            case measure => simp [intOf]; omega
        · obtain rfl : q = n := by omega
          have hdq : decide ((q : Int) < (q : Int)) = false := by simp
          have hBt : B = true := HIFF.out.2 fun i s v h1 h2 => HALL.out i s v (by have h3 := (List.getElem?_eq_some_iff.1 h2).1; rw [HN.out] at h3; exact h3) h1 h2
          go_wp2
          go_ret
          exact ⟨ret_bool hBt.symm, hw2.trans (hbq.mono hw2.size)⟩
    · have hd : ((x.slots.length : Int) != (n : Int)) = true := by rw [bne_iff_ne]; omega
      have hBf : B = false := by
        rw [← hB']
        split
        · rename_i h; exact absurd ((hfit.1 h).1.trans hn) hlen
        · rfl
      subst hBf
      have HLE := Lib.hid hlen
      clear hAt hAt2 hv hb2 hn hr hsz h0 hB hB' h1 hsl hst hI hg hfit hok hlen
      go_enter Tryz.func27, Tryz.ntmps27
      go_wp2_with (first
        | (go_at_call 13; (with_reducible refine (HAT.out _ HB2.out).mono ?_); rintro e w1 ⟨⟨sa1, sc1, ca1, cc1, rfl, hV1⟩, hB1⟩; have hR1 := (hB1.block _ (Array.getElem?_eq_some_iff.1 hY).1).trans hY; have hA1 := Below.heapsize9 w1 (.cells #[.slice sa1 x.slots.length sc1, .slice ca1 x.cols.length cc1] 37); have hR2 := (hA1.block _ (Array.getElem?_eq_some_iff.1 hR1).1).trans hR1; obtain ⟨f0, f1, _, _⟩ := two_all hR2; have hX2 := heap_self9 w1 (.cells #[.slice sa1 x.slots.length sc1, .slice ca1 x.cols.length cc1] 37); obtain ⟨x0, x1, _, _⟩ := two_all hX2; have hw2 := (HB2.out.trans (hB1.mono HB2.out.size)).trans (hA1.mono (Nat.le_trans HB2.out.size hB1.size)); have hV2 := verAt_below9 hV1 hA1; have HV2 := Lib.hid hV2; clear hV1 hV2))
      go_ret
      exact ⟨rfl, hw2⟩
end Go.Proofs.YtibjjclfonpibaaGreat
