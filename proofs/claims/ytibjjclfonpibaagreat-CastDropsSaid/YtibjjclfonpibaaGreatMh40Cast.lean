/- The program's cast: Up, Down, Lift, Lower, Newest. (Made by gen_cau.py.) -/
import Derived.Test.YtibjjclfonpibaaGreatMh39Cast
set_option linter.unusedVariables false
set_option linter.unusedSimpArgs false
set_option maxRecDepth 100000
namespace Go.Proofs.YtibjjclfonpibaaGreat
open Go.RowKit Go.Shelf
set_option maxHeartbeats 4000000 in
theorem caUp_any (t : TemplM) (r : RecM) (v : Int) (w : World) (X : Value) (b : Option Addr) (d : Nat) (hg : greatT t = false) (hI : I64 r.v) (hv : I64 v) (hi : IsTempl w t X) (hr : PRow w b d r.s) (hsz : ∀ v ∈ r.s, szV v ≤ 1000000) (hsv : r.s.length ≤ 100000) :
    Calls Tryz.prog 18 #[X, .agg #[.int .i64 r.v, .slice b r.s.length d], .int .i64 v] w (CastR w (Ca.upM t r v)) := by
  have h0 := hi
  obtain ⟨h1, sa, sc, ta, tc, rfl, hsl, hst⟩ := hi
  obtain ⟨rv, l⟩ := r
  simp only at hI hr hsz hsv ⊢
  obtain ⟨n, hn⟩ : ∃ n, l.length = n := ⟨_, rfl⟩
  have hB3 := below3 w (.cells #[.string t.nm, .slice sa t.slots.length sc, .slice ta t.steps.length tc] 25) (.cells #[.int .i64 rv, .slice b n d] 31) (.cells #[.int .i64 0, .slice none 0 0] 31)
  have hh := heap3 (Below.refl _ (((w.alloc (.cells #[.string t.nm, .slice sa t.slots.length sc, .slice ta t.steps.length tc] 25)).alloc (.cells #[.int .i64 rv, .slice b n d] 31)).alloc (.cells #[.int .i64 0, .slice none 0 0] 31)))
  obtain ⟨hh0, hh1, hh2⟩ := hh
  have hAt : ∀ W, Below w.heap.size w W → Calls Tryz.prog 48 #[.agg #[.string t.nm, .slice sa t.slots.length sc, .slice ta t.steps.length tc], .agg #[.int .i64 rv, .slice b n d], .int .i64 v, .bool (decide (rv ≤ v))] W (CastR W (Ca.upM t ⟨rv, l⟩ v)) := fun W hb => by
    have h := caAt_any t ⟨rv, l⟩ v (decide (rv ≤ v)) W _ b d hg hI hv (isTempl_below hb h0) (pRow_below hb hr) hsz hsv
    simp only [hn] at h
    exact h
  obtain ⟨m, hm⟩ : ∃ m, Ca.upM t ⟨rv, l⟩ v = m := ⟨_, rfl⟩
  rw [hm] at hAt ⊢
  have HAT := Lib.hid hAt; have H3 := Lib.hid hB3
  rw [hn]
  clear hAt hB3 hg hI h0 hr hsz hsv hsl hst h1 hn hm hv
  go_enter Tryz.func18, Tryz.ntmps18
  go_wp2_with (first
    | (go_at_call 48; (with_reducible refine (HAT.out _ H3.out).mono ?_); rintro e w1 ⟨⟨qa, qc, rfl, hp⟩, hB1⟩; have hR := (hB1.block _ (Array.getElem?_eq_some_iff.1 hh2).1).trans hh2; obtain ⟨f0, f1, f2, f3⟩ := two_all hR))
  refine bodyPost_ret (results_cell_tmp_rowC Tryz.results18 _ _ (w.heap.size + 1 + 1) _ _ _ _ rfl (set_two9 hR _ _) Tryz.underlying31 rfl (by kernel_rfl)) rfl ?_
  have hres := res_set (w := w) (.int .i64 m.1.v) (.slice qa m.1.s.length qc) hR (H3.out.trans (hB1.mono H3.out.size)) (by omega)
  exact ⟨⟨qa, qc, rfl, hres.2.2 hp⟩, hres.2.1⟩
set_option maxHeartbeats 4000000 in
theorem caDown_any (t : TemplM) (r : RecM) (v : Int) (w : World) (X : Value) (b : Option Addr) (d : Nat) (hg : greatT t = false) (hI : I64 r.v) (hv : I64 v) (hi : IsTempl w t X) (hr : PRow w b d r.s) (hsz : ∀ v ∈ r.s, szV v ≤ 1000000) (hsv : r.s.length ≤ 100000) :
    Calls Tryz.prog 20 #[X, .agg #[.int .i64 r.v, .slice b r.s.length d], .int .i64 v] w (CastR w (Ca.downM t r v)) := by
  have h0 := hi
  obtain ⟨h1, sa, sc, ta, tc, rfl, hsl, hst⟩ := hi
  obtain ⟨rv, l⟩ := r
  simp only at hI hr hsz hsv ⊢
  obtain ⟨n, hn⟩ : ∃ n, l.length = n := ⟨_, rfl⟩
  have hB3 := below3 w (.cells #[.string t.nm, .slice sa t.slots.length sc, .slice ta t.steps.length tc] 25) (.cells #[.int .i64 rv, .slice b n d] 31) (.cells #[.int .i64 0, .slice none 0 0] 31)
  have hh := heap3 (Below.refl _ (((w.alloc (.cells #[.string t.nm, .slice sa t.slots.length sc, .slice ta t.steps.length tc] 25)).alloc (.cells #[.int .i64 rv, .slice b n d] 31)).alloc (.cells #[.int .i64 0, .slice none 0 0] 31)))
  obtain ⟨hh0, hh1, hh2⟩ := hh
  have hAt : ∀ W, Below w.heap.size w W → Calls Tryz.prog 48 #[.agg #[.string t.nm, .slice sa t.slots.length sc, .slice ta t.steps.length tc], .agg #[.int .i64 rv, .slice b n d], .int .i64 v, .bool (decide (v ≤ rv))] W (CastR W (Ca.downM t ⟨rv, l⟩ v)) := fun W hb => by
    have h := caAt_any t ⟨rv, l⟩ v (decide (v ≤ rv)) W _ b d hg hI hv (isTempl_below hb h0) (pRow_below hb hr) hsz hsv
    simp only [hn] at h
    exact h
  obtain ⟨m, hm⟩ : ∃ m, Ca.downM t ⟨rv, l⟩ v = m := ⟨_, rfl⟩
  rw [hm] at hAt ⊢
  have HAT := Lib.hid hAt; have H3 := Lib.hid hB3
  rw [hn]
  clear hAt hB3 hg hI h0 hr hsz hsv hsl hst h1 hn hm hv
  go_enter Tryz.func20, Tryz.ntmps20
  go_wp2_with (first
    | (go_at_call 48; (with_reducible refine (HAT.out _ H3.out).mono ?_); rintro e w1 ⟨⟨qa, qc, rfl, hp⟩, hB1⟩; have hR := (hB1.block _ (Array.getElem?_eq_some_iff.1 hh2).1).trans hh2; obtain ⟨f0, f1, f2, f3⟩ := two_all hR))
  refine bodyPost_ret (results_cell_tmp_rowC Tryz.results20 _ _ (w.heap.size + 1 + 1) _ _ _ _ rfl (set_two9 hR _ _) Tryz.underlying31 rfl (by kernel_rfl)) rfl ?_
  have hres := res_set (w := w) (.int .i64 m.1.v) (.slice qa m.1.s.length qc) hR (H3.out.trans (hB1.mono H3.out.size)) (by omega)
  exact ⟨⟨qa, qc, rfl, hres.2.2 hp⟩, hres.2.1⟩
set_option maxHeartbeats 4000000 in
theorem caLift_any (t : TemplM) (r : RecM) (w : World) (X : Value) (b : Option Addr) (d : Nat) (hg : greatT t = false) (hI : I64 r.v) (hrg : -1000000 ≤ r.v ∧ r.v ≤ 1000000) (hi : IsTempl w t X) (hr : PRow w b d r.s) (hsz : ∀ v ∈ r.s, szV v ≤ 1000000) (hsv : r.s.length ≤ 100000) :
    Calls Tryz.prog 25 #[X, .agg #[.int .i64 r.v, .slice b r.s.length d]] w (CastR w (Ca.upM t r (r.v + 1))) := by
  have h0 := hi
  obtain ⟨h1, sa, sc, ta, tc, rfl, hsl, hst⟩ := hi
  obtain ⟨rv, l⟩ := r
  simp only at hI hr hsz hsv hrg ⊢
  obtain ⟨n, hn⟩ : ∃ n, l.length = n := ⟨_, rfl⟩
  have hB3 := below3 w (.cells #[.string t.nm, .slice sa t.slots.length sc, .slice ta t.steps.length tc] 25) (.cells #[.int .i64 rv, .slice b n d] 31) (.cells #[.int .i64 0, .slice none 0 0] 31)
  have hh := heap3 (Below.refl _ (((w.alloc (.cells #[.string t.nm, .slice sa t.slots.length sc, .slice ta t.steps.length tc] 25)).alloc (.cells #[.int .i64 rv, .slice b n d] 31)).alloc (.cells #[.int .i64 0, .slice none 0 0] 31)))
  obtain ⟨hh0, hh1, hh2⟩ := hh
  have hAt : ∀ W, Below w.heap.size w W → Calls Tryz.prog 18 #[.agg #[.string t.nm, .slice sa t.slots.length sc, .slice ta t.steps.length tc], .agg #[.int .i64 rv, .slice b n d], .int .i64 (rv + 1)] W (CastR W (Ca.upM t ⟨rv, l⟩ (rv + 1))) := fun W hb => by
    have h := caUp_any t ⟨rv, l⟩ (rv + 1) W _ b d hg hI (by unfold I64; omega) (isTempl_below hb h0) (pRow_below hb hr) hsz hsv
    simp only [hn] at h
    exact h
  obtain ⟨m, hm⟩ : ∃ m, Ca.upM t ⟨rv, l⟩ (rv + 1) = m := ⟨_, rfl⟩
  rw [hm] at hAt ⊢
  have hwr : IntKind.i64.wrap (rv + 1) = rv + 1 := by rw [IntKind.wrap_i64]; omega
  have HAT := Lib.hid hAt; have H3 := Lib.hid hB3
  rw [hn]
  clear hAt hB3 hg hI h0 hr hsz hsv hsl hst h1 hn hm hrg
  go_enter Tryz.func25, Tryz.ntmps25
  go_wp2_with (first
    | (go_at_call 18; (with_reducible refine (HAT.out _ H3.out).mono ?_); rintro e w1 ⟨⟨qa, qc, rfl, hp⟩, hB1⟩; have hR := (hB1.block _ (Array.getElem?_eq_some_iff.1 hh2).1).trans hh2; obtain ⟨f0, f1, f2, f3⟩ := two_all hR))
  refine bodyPost_ret (results_cell_tmp_rowC Tryz.results25 _ _ (w.heap.size + 1 + 1) _ _ _ _ rfl (set_two9 hR _ _) Tryz.underlying31 rfl (by kernel_rfl)) rfl ?_
  have hres := res_set (w := w) (.int .i64 m.1.v) (.slice qa m.1.s.length qc) hR (H3.out.trans (hB1.mono H3.out.size)) (by omega)
  exact ⟨⟨qa, qc, rfl, hres.2.2 hp⟩, hres.2.1⟩
set_option maxHeartbeats 4000000 in
theorem caLower_any (t : TemplM) (r : RecM) (w : World) (X : Value) (b : Option Addr) (d : Nat) (hg : greatT t = false) (hI : I64 r.v) (hrg : -1000000 ≤ r.v ∧ r.v ≤ 1000000) (hi : IsTempl w t X) (hr : PRow w b d r.s) (hsz : ∀ v ∈ r.s, szV v ≤ 1000000) (hsv : r.s.length ≤ 100000) :
    Calls Tryz.prog 26 #[X, .agg #[.int .i64 r.v, .slice b r.s.length d]] w (CastR w (Ca.downM t r (r.v - 1))) := by
  have h0 := hi
  obtain ⟨h1, sa, sc, ta, tc, rfl, hsl, hst⟩ := hi
  obtain ⟨rv, l⟩ := r
  simp only at hI hr hsz hsv hrg ⊢
  obtain ⟨n, hn⟩ : ∃ n, l.length = n := ⟨_, rfl⟩
  have hB3 := below3 w (.cells #[.string t.nm, .slice sa t.slots.length sc, .slice ta t.steps.length tc] 25) (.cells #[.int .i64 rv, .slice b n d] 31) (.cells #[.int .i64 0, .slice none 0 0] 31)
  have hh := heap3 (Below.refl _ (((w.alloc (.cells #[.string t.nm, .slice sa t.slots.length sc, .slice ta t.steps.length tc] 25)).alloc (.cells #[.int .i64 rv, .slice b n d] 31)).alloc (.cells #[.int .i64 0, .slice none 0 0] 31)))
  obtain ⟨hh0, hh1, hh2⟩ := hh
  have hAt : ∀ W, Below w.heap.size w W → Calls Tryz.prog 20 #[.agg #[.string t.nm, .slice sa t.slots.length sc, .slice ta t.steps.length tc], .agg #[.int .i64 rv, .slice b n d], .int .i64 (rv - 1)] W (CastR W (Ca.downM t ⟨rv, l⟩ (rv - 1))) := fun W hb => by
    have h := caDown_any t ⟨rv, l⟩ (rv - 1) W _ b d hg hI (by unfold I64; omega) (isTempl_below hb h0) (pRow_below hb hr) hsz hsv
    simp only [hn] at h
    exact h
  obtain ⟨m, hm⟩ : ∃ m, Ca.downM t ⟨rv, l⟩ (rv - 1) = m := ⟨_, rfl⟩
  rw [hm] at hAt ⊢
  have hwr : IntKind.i64.wrap (rv - 1) = rv - 1 := by rw [IntKind.wrap_i64]; omega
  have HAT := Lib.hid hAt; have H3 := Lib.hid hB3
  rw [hn]
  clear hAt hB3 hg hI h0 hr hsz hsv hsl hst h1 hn hm hrg
  go_enter Tryz.func26, Tryz.ntmps26
  go_wp2_with (first
    | (go_at_call 20; (with_reducible refine (HAT.out _ H3.out).mono ?_); rintro e w1 ⟨⟨qa, qc, rfl, hp⟩, hB1⟩; have hR := (hB1.block _ (Array.getElem?_eq_some_iff.1 hh2).1).trans hh2; obtain ⟨f0, f1, f2, f3⟩ := two_all hR))
  refine bodyPost_ret (results_cell_tmp_rowC Tryz.results26 _ _ (w.heap.size + 1 + 1) _ _ _ _ rfl (set_two9 hR _ _) Tryz.underlying31 rfl (by kernel_rfl)) rfl ?_
  have hres := res_set (w := w) (.int .i64 m.1.v) (.slice qa m.1.s.length qc) hR (H3.out.trans (hB1.mono H3.out.size)) (by omega)
  exact ⟨⟨qa, qc, rfl, hres.2.2 hp⟩, hres.2.1⟩
set_option maxHeartbeats 8000000 in
theorem caNewest_any (t : TemplM) (r : RecM) (w : World) (X : Value) (b : Option Addr) (d : Nat) (hg : greatT t = false) (hI : I64 r.v) (hi : IsTempl w t X) (hr : PRow w b d r.s) (hsz : ∀ v ∈ r.s, szV v ≤ 1000000) (hsv : r.s.length ≤ 100000) :
    Calls Tryz.prog 22 #[X, .agg #[.int .i64 r.v, .slice b r.s.length d]] w (CastR w (Ca.upM t r (lastN t : Int))) := by
  have h0 := hi
  obtain ⟨h1, sa, sc, ta, tc, rfl, hsl, hst⟩ := hi
  obtain ⟨rv, l⟩ := r
  simp only at hI hr hsz hsv ⊢
  obtain ⟨n, hn⟩ : ∃ n, l.length = n := ⟨_, rfl⟩
  have hB3 := below3 w (.cells #[.string t.nm, .slice sa t.slots.length sc, .slice ta t.steps.length tc] 25) (.cells #[.int .i64 rv, .slice b n d] 31) (.cells #[.int .i64 0, .slice none 0 0] 31)
  have hh := heap3 (Below.refl _ (((w.alloc (.cells #[.string t.nm, .slice sa t.slots.length sc, .slice ta t.steps.length tc] 25)).alloc (.cells #[.int .i64 rv, .slice b n d] 31)).alloc (.cells #[.int .i64 0, .slice none 0 0] 31)))
  obtain ⟨hh0, hh1, hh2⟩ := hh
  have hN9 := lastN_le t
  have hLs := fun (W : World) (hb : Below w.heap.size w W) => last_any allC t W _ hg (isTempl_below hb h0)
  have hAt : ∀ W, Below w.heap.size w W → Calls Tryz.prog 18 #[.agg #[.string t.nm, .slice sa t.slots.length sc, .slice ta t.steps.length tc], .agg #[.int .i64 rv, .slice b n d], .int .i64 (lastN t : Int)] W (CastR W (Ca.upM t ⟨rv, l⟩ (lastN t : Int))) := fun W hb => by
    have h := caUp_any t ⟨rv, l⟩ (lastN t : Int) W _ b d hg hI (by unfold I64; omega) (isTempl_below hb h0) (pRow_below hb hr) hsz hsv
    simp only [hn] at h
    exact h
  obtain ⟨m, hm⟩ : ∃ m, Ca.upM t ⟨rv, l⟩ (lastN t : Int) = m := ⟨_, rfl⟩
  obtain ⟨N, hN⟩ : ∃ N, lastN t = N := ⟨_, rfl⟩
  rw [hm] at hAt ⊢
  rw [hN] at hAt hLs
  have HAT := Lib.hid hAt; have H3 := Lib.hid hB3; have HLS := Lib.hid hLs
  rw [hn]
  clear hAt hB3 hLs hg hI h0 hr hsz hsv hsl hst h1 hn hm hN9 hN
  go_enter Tryz.func22, Tryz.ntmps22
  go_wp2
  obtain ⟨V9, hV9⟩ : ∃ U, (((w.alloc (.cells #[.string t.nm, .slice sa t.slots.length sc, .slice ta t.steps.length tc] 25)).alloc (.cells #[.int .i64 rv, .slice b n d] 31)).alloc (.cells #[.int .i64 0, .slice none 0 0] 31)) = U := ⟨_, rfl⟩
  have hw9 := H3.out
  rw [hV9] at hh0 hh1 hh2 hw9 ⊢
  have hRes := hh2
  have hSS : ∀ W, Below V9.heap.size V9 W → W.heap[w.heap.size]? = some (.cells #[.string t.nm, .slice sa t.slots.length sc, .slice ta t.steps.length tc] 25 (0, 0)) ∧ W.heap[w.heap.size + 1]? = some (.cells #[.int .i64 rv, .slice b n d] 31 (0, 0)) := fun W hb => ⟨(hb.block _ (Array.getElem?_eq_some_iff.1 hh0).1).trans hh0, (hb.block _ (Array.getElem?_eq_some_iff.1 hh1).1).trans hh1⟩
  have HSS := Lib.hid hSS
  clear hSS hV9
  refine wp_regionZ (S := (fun W => W.heap[w.heap.size]? = some (.cells #[.string t.nm, .slice sa t.slots.length sc, .slice ta t.steps.length tc] 25 (0, 0)) ∧ W.heap[w.heap.size + 1]? = some (.cells #[.int .i64 rv, .slice b n d] 31 (0, 0)))) 99 9 #[false, false, false, false, false, false, false, false, false] (by kernel_rfl) (by kernel_rfl) (by kernel_rfl) ?_
  have hS0 : Below V9.heap.size V9 V9.drew := (Below.refl _ _).drew
  obtain ⟨V0, hV0⟩ : ∃ V0, V9.drew = V0 := ⟨_, rfl⟩
  rw [hV0] at hS0 ⊢
  clear hV0
  have hQ0 := HSS.out _ hS0
  refine lastZ_take (i := 0) (v := ?_) rfl (by kernel_rfl) (by kernel_rfl) (by kernel_rfl) (by kernel_rfl) (fun _ _ _ h => h) (Or.inl ⟨by rfl, ?_⟩) (by assumption) ?_
  rotate_left
  · intro w8 hSw; obtain ⟨y0, y1, y2⟩ := caThree hSw.1; obtain ⟨y3, y4, _, _⟩ := two_all hSw.2; clear hSw; go_simp; (try with_reducible rfl)
  (try simp only [Act.put, List.setIfInBounds_toArray, List.set_cons_zero, List.set_cons_succ])
  refine lastZ_take (i := 1) (v := ?_) rfl (by kernel_rfl) (by kernel_rfl) (by kernel_rfl) (by kernel_rfl) (fun _ _ _ h => h) (Or.inl ⟨by rfl, ?_⟩) (by assumption) ?_
  rotate_left
  · intro w8 hSw; obtain ⟨y0, y1, y2⟩ := caThree hSw.1; obtain ⟨y3, y4, _, _⟩ := two_all hSw.2; clear hSw; go_simp; (try with_reducible rfl)
  (try simp only [Act.put, List.setIfInBounds_toArray, List.set_cons_zero, List.set_cons_succ])
  refine lastZ_take (i := 2) (v := ?_) rfl (by kernel_rfl) (by kernel_rfl) (by kernel_rfl) (by kernel_rfl) (fun _ _ _ h => h) (Or.inl ⟨by rfl, ?_⟩) (by assumption) ?_
  rotate_left
  · intro w8 hSw; obtain ⟨y0, y1, y2⟩ := caThree hSw.1; obtain ⟨y3, y4, _, _⟩ := two_all hSw.2; clear hSw; go_simp; (try with_reducible rfl)
  (try simp only [Act.put, List.setIfInBounds_toArray, List.set_cons_zero, List.set_cons_succ])
  (with_reducible refine lastZ_one (i := 3) (o := ?ob3) (by kernel_rfl) ?ho3 (fun K hK => ?st3))
  case ho3 => exact rfl
  go_simp
  go_at_call 49
  (with_reducible refine (HLS.out _ (hw9.trans (hS0.mono hw9.size))).mono ?_)
  rintro e W1 ⟨rfl, hB1⟩
  have hS1 := hS0.trans (hB1.mono hS0.size)
  have hQ1 := HSS.out _ hS1
  refine hK.out _ _ (.inr hQ1) ?_
  clear hK K
  (with_reducible refine lastZ_one (i := 4) (o := ?ob4) (by kernel_rfl) ?ho4 (fun K hK => ?st4))
  case ho4 => exact rfl
  go_simp
  go_at_call 18
  (with_reducible refine (HAT.out _ (hw9.trans (hS1.mono hw9.size))).mono ?_)
  rintro e W2 ⟨⟨qa, qc, rfl, hp⟩, hB2⟩
  have hS2 := hS1.trans (hB2.mono hS1.size)
  have hQ2 := HSS.out _ hS2
  refine hK.out _ _ (.inr hQ2) ?_
  clear hK K
  refine lastZ_take (i := 5) (v := ?_) rfl (by kernel_rfl) (by kernel_rfl) (by kernel_rfl) (by kernel_rfl) (fun _ _ _ h => h) (Or.inl ⟨by rfl, ?_⟩) (by assumption) ?_
  rotate_left
  · intro w8 hSw; clear hSw; go_simp; (try with_reducible rfl)
  (try simp only [Act.put, List.setIfInBounds_toArray, List.set_cons_zero, List.set_cons_succ])
  refine lastZ_take (i := 6) (v := ?_) rfl (by kernel_rfl) (by kernel_rfl) (by kernel_rfl) (by kernel_rfl) (fun _ _ _ h => h) (Or.inl ⟨by rfl, ?_⟩) (by assumption) ?_
  rotate_left
  · intro w8 hSw; clear hSw; go_simp; (try with_reducible rfl)
  (try simp only [Act.put, List.setIfInBounds_toArray, List.set_cons_zero, List.set_cons_succ])
  have hR := (hS2.block _ (Array.getElem?_eq_some_iff.1 hRes).1).trans hRes
  obtain ⟨f0, f1, f2, f3⟩ := two_all hR
  (with_reducible refine lastZ_one (i := 7) (o := ?ob7) (by kernel_rfl) ?ho7 (fun K hK => ?st7))
  case ho7 => exact rfl
  go_simp
  have hQ4 : ((W2.setCell ⟨w.heap.size + 1 + 1, 0, none⟩ (.int .i64 m.1.v)).setCell ⟨w.heap.size + 1 + 1, 1, none⟩ (.slice qa m.1.s.length qc)).heap[w.heap.size]? = some (.cells #[.string t.nm, .slice sa t.slots.length sc, .slice ta t.steps.length tc] 25 (0, 0)) ∧ ((W2.setCell ⟨w.heap.size + 1 + 1, 0, none⟩ (.int .i64 m.1.v)).setCell ⟨w.heap.size + 1 + 1, 1, none⟩ (.slice qa m.1.s.length qc)).heap[w.heap.size + 1]? = some (.cells #[.int .i64 rv, .slice b n d] 31 (0, 0)) := by
    rw [Below.heap_setCell _ ⟨w.heap.size + 1 + 1, 1, none⟩ _ _ (by show w.heap.size ≠ w.heap.size + 1 + 1; omega), Below.heap_setCell _ ⟨w.heap.size + 1 + 1, 0, none⟩ _ _ (by show w.heap.size ≠ w.heap.size + 1 + 1; omega), Below.heap_setCell _ ⟨w.heap.size + 1 + 1, 1, none⟩ _ _ (by show w.heap.size + 1 ≠ w.heap.size + 1 + 1; omega), Below.heap_setCell _ ⟨w.heap.size + 1 + 1, 0, none⟩ _ _ (by show w.heap.size + 1 ≠ w.heap.size + 1 + 1; omega)]
    exact hQ2
  refine hK.out _ _ (.inr hQ4) ?_
  clear hK K f0 f1 f2 f3
  (with_reducible refine lastZ_one (i := 8) (o := ?ob8) (by kernel_rfl) ?ho8 (fun K hK => ?st8))
  case ho8 => exact rfl
  go_simp
  refine hK.out _ _ (.inr hQ4) ?_
  clear hK K
  refine lastZ_done (by kernel_rfl) ?_ _
  go_wp2
  refine bodyPost_ret (results_cell_tmp_rowC Tryz.results22 _ _ (w.heap.size + 1 + 1) _ _ _ _ rfl (set_two9 hR _ _) Tryz.underlying31 rfl (by kernel_rfl)) rfl ?_
  have hres := res_set (w := w) (.int .i64 m.1.v) (.slice qa m.1.s.length qc) hR (hw9.trans (hS2.mono hw9.size)) (by omega)
  exact ⟨⟨qa, qc, rfl, hres.2.2 hp⟩, hres.2.1⟩
end Go.Proofs.YtibjjclfonpibaaGreat
