/- Layer 9 of the program: Parse. -/
import Derived.Test.YtclnephomnkieaaCsvPar2
import Derived.Stop.RegionWithIn
set_option linter.unusedVariables false
namespace Go.Proofs.Ytclnephomnkieaa
open Go.RowKit Go.Shelf
attribute [local go_sem] Oper.semAt_some
set_option maxRecDepth 100000 in
set_option maxHeartbeats 16000000 in
theorem csvParse_any (s : ByteArray) (w : World) (hsm : s.size ≤ 1000000) : Calls Try.prog 10 #[.string s] w (Parsed s w) := by
  obtain ⟨is, his, hs0, hs1, hs2⟩ := info_parts info_str
  obtain ⟨ir, hir, hr0, hr1, hr2⟩ := info_parts info_strs
  refine (callsIn_wide (n := 100)).1 ?_
  refine callsIn_of_wp_marks Try.func10 rfl trivial ?_ rfl
  simp only [Try.ntmps10, List.size_toArray, List.length_cons, List.length_nil, Nat.reduceAdd, Nat.reduceSub, Array.replicate_succ, Array.replicate_zero, List.push_toArray, List.append_toArray, List.nil_append, List.cons_append]
  gi_wp2_with (refine ⟨trivial, ?_⟩; gi_at_call 18; refine (fields_in _ _ _).mono ?_; rintro e w' ⟨rfl, rfl⟩)
  obtain ⟨W6, hW6⟩ : ∃ W6, W6 = (((((w.alloc (.cells #[.slice none 0 0] 23)).alloc (.cells #[.int .i64 0] 3)).alloc (.cells #[.int .i64 0] 24)).alloc (.cells #[.slice none 0 0] 23)).alloc (.cells #[.slice none 0 0] 38)).alloc (.cells #[.string s] 9) := ⟨_, rfl⟩
  rw [← hW6]
  have hsz6 : W6.heap.size = w.heap.size + 6 := by rw [hW6]; simp
  have hbel : Below w.heap.size w W6 := by
    rw [hW6]
    exact ((((((Below.refl _ w).alloc (Nat.le_refl _) _).alloc (by simp) _).alloc (by simp; omega) _).alloc (by simp; omega) _).alloc (by simp; omega) _).alloc (by simp; omega) _
  have hbs : Boxed W6 (w.heap.size + 5) 9 (.string s) := by
    have h := Boxed.new (((((w.alloc (.cells #[.slice none 0 0] 23)).alloc (.cells #[.int .i64 0] 3)).alloc (.cells #[.int .i64 0] 24)).alloc (.cells #[.slice none 0 0] 23)).alloc (.cells #[.slice none 0 0] 38)) 9 (.string s)
    rw [← hW6] at h
    simpa using h
  have hI0 : ParI w [] W6 := by
    have b0 := Boxed.new w 23 (.slice none 0 0)
    have b1 := Boxed.new (w.alloc (.cells #[.slice none 0 0] 23)) 3 (.int .i64 0)
    have b2 := Boxed.new ((w.alloc (.cells #[.slice none 0 0] 23)).alloc (.cells #[.int .i64 0] 3)) 24 (.int .i64 0)
    have b3 := Boxed.new (((w.alloc (.cells #[.slice none 0 0] 23)).alloc (.cells #[.int .i64 0] 3)).alloc (.cells #[.int .i64 0] 24)) 23 (.slice none 0 0)
    have b4 := Boxed.new ((((w.alloc (.cells #[.slice none 0 0] 23)).alloc (.cells #[.int .i64 0] 3)).alloc (.cells #[.int .i64 0] 24)).alloc (.cells #[.slice none 0 0] 23)) 38 (.slice none 0 0)
    simp only [World.size_alloc] at b1 b2 b3 b4
    refine ⟨⟨?_, ?_, ?_⟩, ⟨w.heap.size + 6, .slice none 0 0, .slice none 0 0, ?_, ?_, frows_nil _ _ _, frow_nil _ _, Nat.le_refl _, by rw [hsz6]; exact Nat.le_refl _⟩, hbel, by simp⟩
    · rw [hW6]; exact ((((b0.alloc _).alloc _).alloc _).alloc _).alloc _
    · rw [hW6]; exact (((b1.alloc _).alloc _).alloc _).alloc _
    · rw [hW6]; exact ((b2.alloc _).alloc _).alloc _
    · rw [hW6]; exact (b3.alloc _).alloc _
    · rw [hW6]; exact b4.alloc _
  clear hW6
  refine wpIn_rangeFunc_turns rfl (by decide) (gf := 21) (lb := #[.pointer (some ⟨w.heap.size + 5, 0, none⟩)]) ?hg trivial (enters_of Try.func21 (by kernel_rfl) rfl)
    (encs := fldV) (Kp := KM (w.heap.size + 5)) (Tn := TnM W6.heap.size) (S := fun ys _ => ys = V.its s) (Sp := fun pre _ => ∃ t, V.its s = pre ++ t) (N := s.size + 1)
    (fun l J Jx W hW hJ hJx hY h0 => (fields1_in _ (by decide) l _ W6.heap.size s (by omega) J Jx hJ hY W hW.size ((hW.block _ hbs.lt).trans hbs) h0))
    (fun A C k o _ hT hk ho => ?hTn)
    (fun A C D h k => km_trans h k) (fun A C h => km_turned h) (fun _ => rfl)
    (ParI w) (ParX w) (parI_own w _ hbel.size) (fun c => parX_own w c _ hbel.size) (fun pre A C h ht => parI_tn hbel.size h ht) (fun c pre A C h ht => parX_tn hbel.size h ht) (fun _ _ _ _ hs _ _ => hs) (fun _ _ _ _ hs _ _ => hs)
    hI0 ?round ?done ?stop
  case hg => rfl
  case hTn =>
    obtain ⟨row, hg, h1, _⟩ := hT
    refine (hg.block k (Array.getElem?_eq_some_iff.1 hk).1 (fun e => ?_)).trans hk
    obtain ⟨cs, f, h2⟩ := h1 k o e.symm hk
    rw [h2] at ho; simp [Obj.isCells] at ho
  case stop =>
    rintro D c pre W hD ⟨t, hpre⟩ ⟨rfl, ⟨q, x, rfl, hx, hr⟩, hB⟩ hK
    have hw := V.its_wrong s q t x (by rw [hpre]; simp) hx
    have hr2 := fun o' : Obj => res3_sep hr (grownBy_putObj' W D o') (sep_put hK rfl)
    have hB2 := fun o' : Obj => hB.grown (grownBy_putObj' W D o') hB.size (fun k e => by cases e; exact Nat.le_trans hbel.size hD)
    gi_wp2
    refine ⟨by simp, .inl ⟨_, _, rfl, run_takeDeferred hK, ?_⟩⟩
    refine ⟨_, results_cells3 Try.results10 _ _ ⟨w.heap.size, 0, none⟩ ⟨w.heap.size + 1, 0, none⟩ ⟨w.heap.size + 2, 0, none⟩ _ _ _ rfl rfl rfl (load_rows (hr2 _).1) (load_int (hr2 _).2.1) (load_err (hr2 _).2.2), ?_⟩
    unfold Parsed V.pos V.err
    rw [hw.1, hw.2]
    exact ⟨_, rfl, ⟨w.heap.size, frows_nil _ _ _⟩, hB2 _⟩
  case done =>
    rintro D ys W hD rfl ⟨⟨x1, x2, x3⟩, ⟨C, vo, vr, ⟨x4, x5, hfr, hfo, hC1, hC2⟩⟩, hB, hall⟩ hK
    have hw := V.its_all s hall
    have c1 := x1.cell; have c2 := x2.cell; have c3 := x3.cell; have c4 := x4.cell
    have f1 := x1.frozen; have f2 := x2.frozen; have f3 := x3.frozen
    obtain ⟨av, cv, rfl⟩ : ∃ a c, vo = .slice a (V.sofar (V.its s)).1.length c := by
      obtain ⟨a, c, h, _⟩ := srows_of hfr
      exact ⟨a, c, h⟩
    gi_wp2
    have hK2 : (((W.setCell ⟨w.heap.size, 0, none⟩ (.slice av (V.sofar (V.its s)).1.length cv)).setCell ⟨w.heap.size + 1, 0, none⟩ (.int .i64 (s.size : Int))).setCell ⟨w.heap.size + 2, 0, none⟩ (.int .i64 0)).heap[D]? = some (.deferred (some [])) := (heap_set3 (by omega)).trans hK
    have hr2 := fun o' : Obj => res3_sep (res3_set (v' := .slice av (V.sofar (V.its s)).1.length cv) (p' := (s.size : Int)) (e' := 0) ⟨x1, x2, x3⟩) (grownBy_putObj' _ D o') (sep_put hK2 rfl)
    have hB2 := fun o' : Obj => (below_set3 (u := .slice av (V.sofar (V.its s)).1.length cv) (v := .int .i64 (s.size : Int)) (x := .int .i64 0) hB).grown (grownBy_putObj' _ D o') (below_set3 hB).size (fun k e => by cases e; exact Nat.le_trans hbel.size hD)
    have hf2 := fun o' : Obj => frows_sep (frows_set (b := w.heap.size + 2) (i := 0) (u := .int .i64 0) (frows_set (b := w.heap.size + 1) (i := 0) (u := .int .i64 (s.size : Int)) (frows_set (b := w.heap.size) (i := 0) (u := .slice av (V.sofar (V.its s)).1.length cv) hfr (by omega)) (by omega)) (by omega)) (grownBy_putObj' _ D o') (sep_put hK2 rfl)
    refine ⟨by simp, .inl ⟨_, _, rfl, run_takeDeferred hK2, ?_⟩⟩
    refine ⟨_, results_cells3 Try.results10 _ _ ⟨w.heap.size, 0, none⟩ ⟨w.heap.size + 1, 0, none⟩ ⟨w.heap.size + 2, 0, none⟩ _ _ _ rfl rfl rfl (load_rows (hr2 _).1) (load_int (hr2 _).2.1) (load_err (hr2 _).2.2), ?_⟩
    unfold Parsed V.pos V.err
    rw [hw]
    exact ⟨_, rfl, ⟨C, frows_mono (hf2 _) (by omega)⟩, hB2 _⟩
  case round =>
    rintro l pre ⟨f, k, p⟩ W hI hlt
    refine wpIn_act (a' := ?a2) ?e ?k
    case e => (simp [fldV]; rfl)
    case k =>
      gi_wp2
      refine ⟨(KeepsOthers.alloc W _).from _, km_none (World.grownBy_alloc W _ none), fun W2 htn => ?_⟩
      have hI2 : ParI w pre W2 := ownFrom_turned (parI_own w _ hbel.size) ((parI_own w _ hbel.size).alloc _ hI) htn
      have hm2 : MAt W2 W.heap.size #[.int .i64 k, .int .i64 (p : Int)] := by
        obtain ⟨lp, o, o', _, hl, ho, _, rfl⟩ := htn
        refine (World.putObj_heap_other (fun e => ?_)).trans (mat_alloc W #[.int .i64 k, .int .i64 (p : Int)])
        subst e
        have h0 : (W.alloc (.cells #[.int .i64 k, .int .i64 (p : Int)] 44)).heap[W.heap.size]? = some (.cells #[.int .i64 k, .int .i64 (p : Int)] 44 (0, 0)) := mat_alloc W _
        rw [h0] at hl; cases hl; simp [Obj.isCells] at ho
      clear hI htn hI0
      obtain ⟨hr, ⟨C, vo, vr, h9⟩, hB, hall⟩ := hI2
      obtain ⟨⟨m0, m1⟩, _⟩ := mat_facts hm2
      by_cases h0 : k = 0
      · subst h0
        obtain ⟨hx1, hx2⟩ := par_wrong (pre := pre) (f := f) (p := p) hr hB
        have c1 := hr.1.cell; have c2 := hr.2.1.cell; have c3 := hr.2.2.cell
        have f1 := hr.1.frozen; have f2 := hr.2.1.frozen; have f3 := hr.2.2.frozen
        gi_wp2
        gi_region
        all_goals gi_wp2
        all_goals exact ⟨(hx2.trans (keeps_none (grown_drew _))).from _, parX_drew hx1⟩
      have t0 : (k == 0) = false := by simpa using h0
      by_cases h1 : k = 1
      · subst h1
        obtain ⟨av, nv, cv, rfl⟩ := own_shape h9.2.2.2.1
        have hrow1 := h9.2.2.2.1.alloc (.cells #[.string (strOfNums f)] 9)
        have c4 := h9.2.1.cell
        have hsl := V.sofar_len pre
        have hC2 := h9.2.2.2.2.2
        gi_wp2_with (gi_at_builtin; refine wpListIn_append_at _ rfl _ _ 38 rfl C 9 is _ 1 16 Try.underlying38 his hs0 hs1 hs2 rfl (by decide) (.slice av nv cv) _ _ rfl hrow1 (some ⟨W2.heap.size, 0, none⟩) 1 1 [.string (strOfNums f)] rfl (row_cells1 _ _ _) (by simp [Value.oneCell']) (by unfold maxLen; omega) (by omega) (by simp; omega) ?_; intro v' w3 hown' hg' _; obtain ⟨x4, x5, x6, x7⟩ := par_more (p := p) hr h9 hB hall hg' hown'; obtain ⟨a3, n3, c3, rfl⟩ := own_shape hown'; have d4 := x4.cell; have e4 := x4.frozen)
        exact ⟨x7.from _, x6, x5⟩
      have t1 : (k == 1) = false := by simpa using h1
      by_cases h2 : k = 2
      · subst h2
        obtain ⟨av, nv, cv, rfl⟩ := own_shape h9.2.2.2.1
        obtain ⟨us0, hus0, _⟩ := h9.2.2.1
        obtain ⟨ao, no, co, rfl⟩ := own_shape hus0
        clear hus0
        have hsl := V.sofar_len pre
        have hC2 := h9.2.2.2.2.2
        have hC1 := h9.2.2.2.2.1
        gi_wp2
        refine wpIn_region_any (by kernel_rfl) ?_
        change wpAnyIn _ _ _ _ _ _ _ _ _ (World.drew _)
        have hrA := res3_sep hr (grown_drew W2) (sep_none W2)
        have h9A := rows9_sep h9 (grown_drew W2) (sep_none W2)
        have hBA := hB.drew
        have hkA := keeps_none (grown_drew W2)
        have hmA : KM (w.heap.size + 5) W2 W2.drew := km_none (grown_drew W2)
        have hCA : C ≤ W2.drew.heap.size := hC2
        obtain ⟨A, hA⟩ : ∃ A, W2.drew = A := ⟨_, rfl⟩
        rw [hA] at hrA h9A hBA hkA hmA hCA ⊢
        clear hA
        have u3 := h9A.1.cell
        have u4 := h9A.2.1.cell
        have u5 := (h9A.1.alloc (.cells #[.string (strOfNums f)] 9)).cell
        have u6 := (h9A.2.1.alloc (.cells #[.string (strOfNums f)] 9)).cell
        refine wpAnyIn_ready (rs := [0, 1, 2]) (by kernel_rfl) (by simp) (AllReadyIn.cons rfl (fun K hK => ?_) (AllReadyIn.cons rfl (fun K hK => ?_) (AllReadyIn.cons rfl (fun K hK => ?_) AllReadyIn.nil)))
        · go_simp
          refine hK _ _ ?_; clear hK K
          refine wpAnyIn_ready (rs := [1, 2]) (by kernel_rfl) (by simp) (AllReadyIn.cons rfl (fun K hK => ?_) (AllReadyIn.cons rfl (fun K hK => ?_) AllReadyIn.nil))
          · go_simp
            refine hK _ _ ?_; clear hK K
            refine wpAnyIn_ready (rs := [2]) (by kernel_rfl) (by simp) (AllReadyIn.cons rfl (fun K hK => ?_) AllReadyIn.nil)
            · go_simp
              refine hK _ _ ?_; clear hK K
              refine wpAnyIn_ready (rs := [3]) (by kernel_rfl) (by simp) (AllReadyIn.cons rfl (fun K hK => ?_) AllReadyIn.nil)
              · go_simp
                refine hK _ _ ?_; clear hK K
                refine wpAnyIn_ready (rs := [4]) (by kernel_rfl) (by simp) (AllReadyIn.cons rfl (fun K hK => ?_) AllReadyIn.nil)
                · refine stepIn_append_at rfl _ _ 38 rfl C 9 is _ 1 16 Try.underlying38 his hs0 hs1 hs2 rfl (by decide) (.slice av nv cv) (V.sofar pre).2.length (strs (V.sofar pre).2) (by simp [Act.eval]) (h9A.2.2.2.1.alloc (.cells #[.string (strOfNums f)] 9)) (some ⟨A.heap.size, 0, none⟩) 1 1 [.string (strOfNums f)] (by simp [Act.eval]) (row_cells1 A _ _) (by simp [Value.oneCell']) (by unfold maxLen; omega) (by omega) (by simp; omega) ?_; intro v' w3 hown' hg' _; obtain ⟨a3, n3, c3, rfl⟩ := own_shape hown'; obtain ⟨y1, y2, y3, y4, y5, y6, y7, y8⟩ := par_grow hrA h9A hg' hown'; obtain ⟨us, hus, hul, hel⟩ := y4; have hus2 := hus.alloc (.cells #[.slice a3 n3 c3] 38); have e3 := y2.cell; have e4 := (y2.alloc (.cells #[.slice a3 n3 c3] 38)).cell
                  refine hK _ _ ?_; clear hK K
                  refine wpAnyIn_ready (rs := [5]) (by kernel_rfl) (by simp) (AllReadyIn.cons rfl (fun K hK => ?_) AllReadyIn.nil)
                  · go_simp
                    refine hK _ _ ?_; clear hK K
                    refine wpAnyIn_ready (rs := [6]) (by kernel_rfl) (by simp) (AllReadyIn.cons rfl (fun K hK => ?_) AllReadyIn.nil)
                    · refine stepIn_append_at rfl _ _ 23 rfl (w.heap.size + 6) 38 ir _ 1 24 Try.underlying23 hir hr0 hr1 hr2 rfl (by decide) (.slice ao no co) (V.sofar pre).1.length us (by simp [Act.eval]) hus2 (some ⟨w3.heap.size, 0, none⟩) 1 1 [.slice a3 n3 c3] (by simp [Act.eval]) (row_cells1 w3 _ _) (by simp [Value.oneCell']) (by unfold maxLen; omega) (by omega) (by simp; omega) ?_; intro vo' w5 hnew hg5 _; obtain ⟨a5, n5, c5, rfl⟩ := own_shape hnew; obtain ⟨z1, z2, z3, z4, z5⟩ := par_last (p := p) hrA h9A hBA hall hg' hown' hus2 hul (fun i hi => by obtain ⟨u, h1, h2, h3⟩ := hel i hi; exact ⟨u, h1, h2.alloc _, h3⟩) hg5 hnew; have q1 := z1.cell; have q2 := z1.frozen; have q3 := z2.cell; have q4 := z2.frozen
                      refine hK _ _ ?_; clear hK K
                      refine wpAnyIn_ready (rs := [7]) (by kernel_rfl) (by simp) (AllReadyIn.cons rfl (fun K hK => ?_) AllReadyIn.nil)
                      · go_simp
                        refine hK _ _ ?_; clear hK K
                        refine wpAnyIn_done (by kernel_rfl) ?_ _
                        gi_wp2
                        exact ⟨(hkA.trans z5).from _, km_trans hmA z4, z3⟩
          · go_simp
            refine hK _ _ ?_; clear hK K
            refine wpAnyIn_ready (rs := [1, 3]) (by kernel_rfl) (by simp) (AllReadyIn.cons rfl (fun K hK => ?_) (AllReadyIn.cons rfl (fun K hK => ?_) AllReadyIn.nil))
            · go_simp
              refine hK _ _ ?_; clear hK K
              refine wpAnyIn_ready (rs := [3]) (by kernel_rfl) (by simp) (AllReadyIn.cons rfl (fun K hK => ?_) AllReadyIn.nil)
              · go_simp
                refine hK _ _ ?_; clear hK K
                refine wpAnyIn_ready (rs := [4]) (by kernel_rfl) (by simp) (AllReadyIn.cons rfl (fun K hK => ?_) AllReadyIn.nil)
                · refine stepIn_append_at rfl _ _ 38 rfl C 9 is _ 1 16 Try.underlying38 his hs0 hs1 hs2 rfl (by decide) (.slice av nv cv) (V.sofar pre).2.length (strs (V.sofar pre).2) (by simp [Act.eval]) (h9A.2.2.2.1.alloc (.cells #[.string (strOfNums f)] 9)) (some ⟨A.heap.size, 0, none⟩) 1 1 [.string (strOfNums f)] (by simp [Act.eval]) (row_cells1 A _ _) (by simp [Value.oneCell']) (by unfold maxLen; omega) (by omega) (by simp; omega) ?_; intro v' w3 hown' hg' _; obtain ⟨a3, n3, c3, rfl⟩ := own_shape hown'; obtain ⟨y1, y2, y3, y4, y5, y6, y7, y8⟩ := par_grow hrA h9A hg' hown'; obtain ⟨us, hus, hul, hel⟩ := y4; have hus2 := hus.alloc (.cells #[.slice a3 n3 c3] 38); have e3 := y2.cell; have e4 := (y2.alloc (.cells #[.slice a3 n3 c3] 38)).cell
                  refine hK _ _ ?_; clear hK K
                  refine wpAnyIn_ready (rs := [5]) (by kernel_rfl) (by simp) (AllReadyIn.cons rfl (fun K hK => ?_) AllReadyIn.nil)
                  · go_simp
                    refine hK _ _ ?_; clear hK K
                    refine wpAnyIn_ready (rs := [6]) (by kernel_rfl) (by simp) (AllReadyIn.cons rfl (fun K hK => ?_) AllReadyIn.nil)
                    · refine stepIn_append_at rfl _ _ 23 rfl (w.heap.size + 6) 38 ir _ 1 24 Try.underlying23 hir hr0 hr1 hr2 rfl (by decide) (.slice ao no co) (V.sofar pre).1.length us (by simp [Act.eval]) hus2 (some ⟨w3.heap.size, 0, none⟩) 1 1 [.slice a3 n3 c3] (by simp [Act.eval]) (row_cells1 w3 _ _) (by simp [Value.oneCell']) (by unfold maxLen; omega) (by omega) (by simp; omega) ?_; intro vo' w5 hnew hg5 _; obtain ⟨a5, n5, c5, rfl⟩ := own_shape hnew; obtain ⟨z1, z2, z3, z4, z5⟩ := par_last (p := p) hrA h9A hBA hall hg' hown' hus2 hul (fun i hi => by obtain ⟨u, h1, h2, h3⟩ := hel i hi; exact ⟨u, h1, h2.alloc _, h3⟩) hg5 hnew; have q1 := z1.cell; have q2 := z1.frozen; have q3 := z2.cell; have q4 := z2.frozen
                      refine hK _ _ ?_; clear hK K
                      refine wpAnyIn_ready (rs := [7]) (by kernel_rfl) (by simp) (AllReadyIn.cons rfl (fun K hK => ?_) AllReadyIn.nil)
                      · go_simp
                        refine hK _ _ ?_; clear hK K
                        refine wpAnyIn_done (by kernel_rfl) ?_ _
                        gi_wp2
                        exact ⟨(hkA.trans z5).from _, km_trans hmA z4, z3⟩
            · go_simp
              refine hK _ _ ?_; clear hK K
              refine wpAnyIn_ready (rs := [1]) (by kernel_rfl) (by simp) (AllReadyIn.cons rfl (fun K hK => ?_) AllReadyIn.nil)
              · go_simp
                refine hK _ _ ?_; clear hK K
                refine wpAnyIn_ready (rs := [4]) (by kernel_rfl) (by simp) (AllReadyIn.cons rfl (fun K hK => ?_) AllReadyIn.nil)
                · refine stepIn_append_at rfl _ _ 38 rfl C 9 is _ 1 16 Try.underlying38 his hs0 hs1 hs2 rfl (by decide) (.slice av nv cv) (V.sofar pre).2.length (strs (V.sofar pre).2) (by simp [Act.eval]) (h9A.2.2.2.1.alloc (.cells #[.string (strOfNums f)] 9)) (some ⟨A.heap.size, 0, none⟩) 1 1 [.string (strOfNums f)] (by simp [Act.eval]) (row_cells1 A _ _) (by simp [Value.oneCell']) (by unfold maxLen; omega) (by omega) (by simp; omega) ?_; intro v' w3 hown' hg' _; obtain ⟨a3, n3, c3, rfl⟩ := own_shape hown'; obtain ⟨y1, y2, y3, y4, y5, y6, y7, y8⟩ := par_grow hrA h9A hg' hown'; obtain ⟨us, hus, hul, hel⟩ := y4; have hus2 := hus.alloc (.cells #[.slice a3 n3 c3] 38); have e3 := y2.cell; have e4 := (y2.alloc (.cells #[.slice a3 n3 c3] 38)).cell
                  refine hK _ _ ?_; clear hK K
                  refine wpAnyIn_ready (rs := [5]) (by kernel_rfl) (by simp) (AllReadyIn.cons rfl (fun K hK => ?_) AllReadyIn.nil)
                  · go_simp
                    refine hK _ _ ?_; clear hK K
                    refine wpAnyIn_ready (rs := [6]) (by kernel_rfl) (by simp) (AllReadyIn.cons rfl (fun K hK => ?_) AllReadyIn.nil)
                    · refine stepIn_append_at rfl _ _ 23 rfl (w.heap.size + 6) 38 ir _ 1 24 Try.underlying23 hir hr0 hr1 hr2 rfl (by decide) (.slice ao no co) (V.sofar pre).1.length us (by simp [Act.eval]) hus2 (some ⟨w3.heap.size, 0, none⟩) 1 1 [.slice a3 n3 c3] (by simp [Act.eval]) (row_cells1 w3 _ _) (by simp [Value.oneCell']) (by unfold maxLen; omega) (by omega) (by simp; omega) ?_; intro vo' w5 hnew hg5 _; obtain ⟨a5, n5, c5, rfl⟩ := own_shape hnew; obtain ⟨z1, z2, z3, z4, z5⟩ := par_last (p := p) hrA h9A hBA hall hg' hown' hus2 hul (fun i hi => by obtain ⟨u, h1, h2, h3⟩ := hel i hi; exact ⟨u, h1, h2.alloc _, h3⟩) hg5 hnew; have q1 := z1.cell; have q2 := z1.frozen; have q3 := z2.cell; have q4 := z2.frozen
                      refine hK _ _ ?_; clear hK K
                      refine wpAnyIn_ready (rs := [7]) (by kernel_rfl) (by simp) (AllReadyIn.cons rfl (fun K hK => ?_) AllReadyIn.nil)
                      · go_simp
                        refine hK _ _ ?_; clear hK K
                        refine wpAnyIn_done (by kernel_rfl) ?_ _
                        gi_wp2
                        exact ⟨(hkA.trans z5).from _, km_trans hmA z4, z3⟩
        · go_simp
          refine hK _ _ ?_; clear hK K
          refine wpAnyIn_ready (rs := [0, 2]) (by kernel_rfl) (by simp) (AllReadyIn.cons rfl (fun K hK => ?_) (AllReadyIn.cons rfl (fun K hK => ?_) AllReadyIn.nil))
          · go_simp
            refine hK _ _ ?_; clear hK K
            refine wpAnyIn_ready (rs := [2]) (by kernel_rfl) (by simp) (AllReadyIn.cons rfl (fun K hK => ?_) AllReadyIn.nil)
            · go_simp
              refine hK _ _ ?_; clear hK K
              refine wpAnyIn_ready (rs := [3]) (by kernel_rfl) (by simp) (AllReadyIn.cons rfl (fun K hK => ?_) AllReadyIn.nil)
              · go_simp
                refine hK _ _ ?_; clear hK K
                refine wpAnyIn_ready (rs := [4]) (by kernel_rfl) (by simp) (AllReadyIn.cons rfl (fun K hK => ?_) AllReadyIn.nil)
                · refine stepIn_append_at rfl _ _ 38 rfl C 9 is _ 1 16 Try.underlying38 his hs0 hs1 hs2 rfl (by decide) (.slice av nv cv) (V.sofar pre).2.length (strs (V.sofar pre).2) (by simp [Act.eval]) (h9A.2.2.2.1.alloc (.cells #[.string (strOfNums f)] 9)) (some ⟨A.heap.size, 0, none⟩) 1 1 [.string (strOfNums f)] (by simp [Act.eval]) (row_cells1 A _ _) (by simp [Value.oneCell']) (by unfold maxLen; omega) (by omega) (by simp; omega) ?_; intro v' w3 hown' hg' _; obtain ⟨a3, n3, c3, rfl⟩ := own_shape hown'; obtain ⟨y1, y2, y3, y4, y5, y6, y7, y8⟩ := par_grow hrA h9A hg' hown'; obtain ⟨us, hus, hul, hel⟩ := y4; have hus2 := hus.alloc (.cells #[.slice a3 n3 c3] 38); have e3 := y2.cell; have e4 := (y2.alloc (.cells #[.slice a3 n3 c3] 38)).cell
                  refine hK _ _ ?_; clear hK K
                  refine wpAnyIn_ready (rs := [5]) (by kernel_rfl) (by simp) (AllReadyIn.cons rfl (fun K hK => ?_) AllReadyIn.nil)
                  · go_simp
                    refine hK _ _ ?_; clear hK K
                    refine wpAnyIn_ready (rs := [6]) (by kernel_rfl) (by simp) (AllReadyIn.cons rfl (fun K hK => ?_) AllReadyIn.nil)
                    · refine stepIn_append_at rfl _ _ 23 rfl (w.heap.size + 6) 38 ir _ 1 24 Try.underlying23 hir hr0 hr1 hr2 rfl (by decide) (.slice ao no co) (V.sofar pre).1.length us (by simp [Act.eval]) hus2 (some ⟨w3.heap.size, 0, none⟩) 1 1 [.slice a3 n3 c3] (by simp [Act.eval]) (row_cells1 w3 _ _) (by simp [Value.oneCell']) (by unfold maxLen; omega) (by omega) (by simp; omega) ?_; intro vo' w5 hnew hg5 _; obtain ⟨a5, n5, c5, rfl⟩ := own_shape hnew; obtain ⟨z1, z2, z3, z4, z5⟩ := par_last (p := p) hrA h9A hBA hall hg' hown' hus2 hul (fun i hi => by obtain ⟨u, h1, h2, h3⟩ := hel i hi; exact ⟨u, h1, h2.alloc _, h3⟩) hg5 hnew; have q1 := z1.cell; have q2 := z1.frozen; have q3 := z2.cell; have q4 := z2.frozen
                      refine hK _ _ ?_; clear hK K
                      refine wpAnyIn_ready (rs := [7]) (by kernel_rfl) (by simp) (AllReadyIn.cons rfl (fun K hK => ?_) AllReadyIn.nil)
                      · go_simp
                        refine hK _ _ ?_; clear hK K
                        refine wpAnyIn_done (by kernel_rfl) ?_ _
                        gi_wp2
                        exact ⟨(hkA.trans z5).from _, km_trans hmA z4, z3⟩
          · go_simp
            refine hK _ _ ?_; clear hK K
            refine wpAnyIn_ready (rs := [0, 3]) (by kernel_rfl) (by simp) (AllReadyIn.cons rfl (fun K hK => ?_) (AllReadyIn.cons rfl (fun K hK => ?_) AllReadyIn.nil))
            · go_simp
              refine hK _ _ ?_; clear hK K
              refine wpAnyIn_ready (rs := [3]) (by kernel_rfl) (by simp) (AllReadyIn.cons rfl (fun K hK => ?_) AllReadyIn.nil)
              · go_simp
                refine hK _ _ ?_; clear hK K
                refine wpAnyIn_ready (rs := [4]) (by kernel_rfl) (by simp) (AllReadyIn.cons rfl (fun K hK => ?_) AllReadyIn.nil)
                · refine stepIn_append_at rfl _ _ 38 rfl C 9 is _ 1 16 Try.underlying38 his hs0 hs1 hs2 rfl (by decide) (.slice av nv cv) (V.sofar pre).2.length (strs (V.sofar pre).2) (by simp [Act.eval]) (h9A.2.2.2.1.alloc (.cells #[.string (strOfNums f)] 9)) (some ⟨A.heap.size, 0, none⟩) 1 1 [.string (strOfNums f)] (by simp [Act.eval]) (row_cells1 A _ _) (by simp [Value.oneCell']) (by unfold maxLen; omega) (by omega) (by simp; omega) ?_; intro v' w3 hown' hg' _; obtain ⟨a3, n3, c3, rfl⟩ := own_shape hown'; obtain ⟨y1, y2, y3, y4, y5, y6, y7, y8⟩ := par_grow hrA h9A hg' hown'; obtain ⟨us, hus, hul, hel⟩ := y4; have hus2 := hus.alloc (.cells #[.slice a3 n3 c3] 38); have e3 := y2.cell; have e4 := (y2.alloc (.cells #[.slice a3 n3 c3] 38)).cell
                  refine hK _ _ ?_; clear hK K
                  refine wpAnyIn_ready (rs := [5]) (by kernel_rfl) (by simp) (AllReadyIn.cons rfl (fun K hK => ?_) AllReadyIn.nil)
                  · go_simp
                    refine hK _ _ ?_; clear hK K
                    refine wpAnyIn_ready (rs := [6]) (by kernel_rfl) (by simp) (AllReadyIn.cons rfl (fun K hK => ?_) AllReadyIn.nil)
                    · refine stepIn_append_at rfl _ _ 23 rfl (w.heap.size + 6) 38 ir _ 1 24 Try.underlying23 hir hr0 hr1 hr2 rfl (by decide) (.slice ao no co) (V.sofar pre).1.length us (by simp [Act.eval]) hus2 (some ⟨w3.heap.size, 0, none⟩) 1 1 [.slice a3 n3 c3] (by simp [Act.eval]) (row_cells1 w3 _ _) (by simp [Value.oneCell']) (by unfold maxLen; omega) (by omega) (by simp; omega) ?_; intro vo' w5 hnew hg5 _; obtain ⟨a5, n5, c5, rfl⟩ := own_shape hnew; obtain ⟨z1, z2, z3, z4, z5⟩ := par_last (p := p) hrA h9A hBA hall hg' hown' hus2 hul (fun i hi => by obtain ⟨u, h1, h2, h3⟩ := hel i hi; exact ⟨u, h1, h2.alloc _, h3⟩) hg5 hnew; have q1 := z1.cell; have q2 := z1.frozen; have q3 := z2.cell; have q4 := z2.frozen
                      refine hK _ _ ?_; clear hK K
                      refine wpAnyIn_ready (rs := [7]) (by kernel_rfl) (by simp) (AllReadyIn.cons rfl (fun K hK => ?_) AllReadyIn.nil)
                      · go_simp
                        refine hK _ _ ?_; clear hK K
                        refine wpAnyIn_done (by kernel_rfl) ?_ _
                        gi_wp2
                        exact ⟨(hkA.trans z5).from _, km_trans hmA z4, z3⟩
            · go_simp
              refine hK _ _ ?_; clear hK K
              refine wpAnyIn_ready (rs := [0, 4]) (by kernel_rfl) (by simp) (AllReadyIn.cons rfl (fun K hK => ?_) (AllReadyIn.cons rfl (fun K hK => ?_) AllReadyIn.nil))
              · go_simp
                refine hK _ _ ?_; clear hK K
                refine wpAnyIn_ready (rs := [4]) (by kernel_rfl) (by simp) (AllReadyIn.cons rfl (fun K hK => ?_) AllReadyIn.nil)
                · refine stepIn_append_at rfl _ _ 38 rfl C 9 is _ 1 16 Try.underlying38 his hs0 hs1 hs2 rfl (by decide) (.slice av nv cv) (V.sofar pre).2.length (strs (V.sofar pre).2) (by simp [Act.eval]) (h9A.2.2.2.1.alloc (.cells #[.string (strOfNums f)] 9)) (some ⟨A.heap.size, 0, none⟩) 1 1 [.string (strOfNums f)] (by simp [Act.eval]) (row_cells1 A _ _) (by simp [Value.oneCell']) (by unfold maxLen; omega) (by omega) (by simp; omega) ?_; intro v' w3 hown' hg' _; obtain ⟨a3, n3, c3, rfl⟩ := own_shape hown'; obtain ⟨y1, y2, y3, y4, y5, y6, y7, y8⟩ := par_grow hrA h9A hg' hown'; obtain ⟨us, hus, hul, hel⟩ := y4; have hus2 := hus.alloc (.cells #[.slice a3 n3 c3] 38); have e3 := y2.cell; have e4 := (y2.alloc (.cells #[.slice a3 n3 c3] 38)).cell
                  refine hK _ _ ?_; clear hK K
                  refine wpAnyIn_ready (rs := [5]) (by kernel_rfl) (by simp) (AllReadyIn.cons rfl (fun K hK => ?_) AllReadyIn.nil)
                  · go_simp
                    refine hK _ _ ?_; clear hK K
                    refine wpAnyIn_ready (rs := [6]) (by kernel_rfl) (by simp) (AllReadyIn.cons rfl (fun K hK => ?_) AllReadyIn.nil)
                    · refine stepIn_append_at rfl _ _ 23 rfl (w.heap.size + 6) 38 ir _ 1 24 Try.underlying23 hir hr0 hr1 hr2 rfl (by decide) (.slice ao no co) (V.sofar pre).1.length us (by simp [Act.eval]) hus2 (some ⟨w3.heap.size, 0, none⟩) 1 1 [.slice a3 n3 c3] (by simp [Act.eval]) (row_cells1 w3 _ _) (by simp [Value.oneCell']) (by unfold maxLen; omega) (by omega) (by simp; omega) ?_; intro vo' w5 hnew hg5 _; obtain ⟨a5, n5, c5, rfl⟩ := own_shape hnew; obtain ⟨z1, z2, z3, z4, z5⟩ := par_last (p := p) hrA h9A hBA hall hg' hown' hus2 hul (fun i hi => by obtain ⟨u, h1, h2, h3⟩ := hel i hi; exact ⟨u, h1, h2.alloc _, h3⟩) hg5 hnew; have q1 := z1.cell; have q2 := z1.frozen; have q3 := z2.cell; have q4 := z2.frozen
                      refine hK _ _ ?_; clear hK K
                      refine wpAnyIn_ready (rs := [7]) (by kernel_rfl) (by simp) (AllReadyIn.cons rfl (fun K hK => ?_) AllReadyIn.nil)
                      · go_simp
                        refine hK _ _ ?_; clear hK K
                        refine wpAnyIn_done (by kernel_rfl) ?_ _
                        gi_wp2
                        exact ⟨(hkA.trans z5).from _, km_trans hmA z4, z3⟩
              · refine stepIn_append_at rfl _ _ 38 rfl C 9 is _ 1 16 Try.underlying38 his hs0 hs1 hs2 rfl (by decide) (.slice av nv cv) (V.sofar pre).2.length (strs (V.sofar pre).2) (by simp [Act.eval]) (h9A.2.2.2.1.alloc (.cells #[.string (strOfNums f)] 9)) (some ⟨A.heap.size, 0, none⟩) 1 1 [.string (strOfNums f)] (by simp [Act.eval]) (row_cells1 A _ _) (by simp [Value.oneCell']) (by unfold maxLen; omega) (by omega) (by simp; omega) ?_; intro v' w3 hown' hg' _; obtain ⟨a3, n3, c3, rfl⟩ := own_shape hown'; obtain ⟨y1, y2, y3, y4, y5, y6, y7, y8⟩ := par_grow hrA h9A hg' hown'; obtain ⟨us, hus, hul, hel⟩ := y4; have hus2 := hus.alloc (.cells #[.slice a3 n3 c3] 38); have e3 := y2.cell; have e4 := (y2.alloc (.cells #[.slice a3 n3 c3] 38)).cell
                refine hK _ _ ?_; clear hK K
                refine wpAnyIn_ready (rs := [0, 5]) (by kernel_rfl) (by simp) (AllReadyIn.cons rfl (fun K hK => ?_) (AllReadyIn.cons rfl (fun K hK => ?_) AllReadyIn.nil))
                · go_simp
                  refine hK _ _ ?_; clear hK K
                  refine wpAnyIn_ready (rs := [5]) (by kernel_rfl) (by simp) (AllReadyIn.cons rfl (fun K hK => ?_) AllReadyIn.nil)
                  · go_simp
                    refine hK _ _ ?_; clear hK K
                    refine wpAnyIn_ready (rs := [6]) (by kernel_rfl) (by simp) (AllReadyIn.cons rfl (fun K hK => ?_) AllReadyIn.nil)
                    · refine stepIn_append_at rfl _ _ 23 rfl (w.heap.size + 6) 38 ir _ 1 24 Try.underlying23 hir hr0 hr1 hr2 rfl (by decide) (.slice ao no co) (V.sofar pre).1.length us (by simp [Act.eval]) hus2 (some ⟨w3.heap.size, 0, none⟩) 1 1 [.slice a3 n3 c3] (by simp [Act.eval]) (row_cells1 w3 _ _) (by simp [Value.oneCell']) (by unfold maxLen; omega) (by omega) (by simp; omega) ?_; intro vo' w5 hnew hg5 _; obtain ⟨a5, n5, c5, rfl⟩ := own_shape hnew; obtain ⟨z1, z2, z3, z4, z5⟩ := par_last (p := p) hrA h9A hBA hall hg' hown' hus2 hul (fun i hi => by obtain ⟨u, h1, h2, h3⟩ := hel i hi; exact ⟨u, h1, h2.alloc _, h3⟩) hg5 hnew; have q1 := z1.cell; have q2 := z1.frozen; have q3 := z2.cell; have q4 := z2.frozen
                      refine hK _ _ ?_; clear hK K
                      refine wpAnyIn_ready (rs := [7]) (by kernel_rfl) (by simp) (AllReadyIn.cons rfl (fun K hK => ?_) AllReadyIn.nil)
                      · go_simp
                        refine hK _ _ ?_; clear hK K
                        refine wpAnyIn_done (by kernel_rfl) ?_ _
                        gi_wp2
                        exact ⟨(hkA.trans z5).from _, km_trans hmA z4, z3⟩
                · go_simp
                  refine hK _ _ ?_; clear hK K
                  refine wpAnyIn_ready (rs := [0]) (by kernel_rfl) (by simp) (AllReadyIn.cons rfl (fun K hK => ?_) AllReadyIn.nil)
                  · go_simp
                    refine hK _ _ ?_; clear hK K
                    refine wpAnyIn_ready (rs := [6]) (by kernel_rfl) (by simp) (AllReadyIn.cons rfl (fun K hK => ?_) AllReadyIn.nil)
                    · refine stepIn_append_at rfl _ _ 23 rfl (w.heap.size + 6) 38 ir _ 1 24 Try.underlying23 hir hr0 hr1 hr2 rfl (by decide) (.slice ao no co) (V.sofar pre).1.length us (by simp [Act.eval]) hus2 (some ⟨w3.heap.size, 0, none⟩) 1 1 [.slice a3 n3 c3] (by simp [Act.eval]) (row_cells1 w3 _ _) (by simp [Value.oneCell']) (by unfold maxLen; omega) (by omega) (by simp; omega) ?_; intro vo' w5 hnew hg5 _; obtain ⟨a5, n5, c5, rfl⟩ := own_shape hnew; obtain ⟨z1, z2, z3, z4, z5⟩ := par_last (p := p) hrA h9A hBA hall hg' hown' hus2 hul (fun i hi => by obtain ⟨u, h1, h2, h3⟩ := hel i hi; exact ⟨u, h1, h2.alloc _, h3⟩) hg5 hnew; have q1 := z1.cell; have q2 := z1.frozen; have q3 := z2.cell; have q4 := z2.frozen
                      refine hK _ _ ?_; clear hK K
                      refine wpAnyIn_ready (rs := [7]) (by kernel_rfl) (by simp) (AllReadyIn.cons rfl (fun K hK => ?_) AllReadyIn.nil)
                      · go_simp
                        refine hK _ _ ?_; clear hK K
                        refine wpAnyIn_done (by kernel_rfl) ?_ _
                        gi_wp2
                        exact ⟨(hkA.trans z5).from _, km_trans hmA z4, z3⟩
        · go_simp
          refine hK _ _ ?_; clear hK K
          refine wpAnyIn_ready (rs := [0, 1, 3]) (by kernel_rfl) (by simp) (AllReadyIn.cons rfl (fun K hK => ?_) (AllReadyIn.cons rfl (fun K hK => ?_) (AllReadyIn.cons rfl (fun K hK => ?_) AllReadyIn.nil)))
          · go_simp
            refine hK _ _ ?_; clear hK K
            refine wpAnyIn_ready (rs := [1, 3]) (by kernel_rfl) (by simp) (AllReadyIn.cons rfl (fun K hK => ?_) (AllReadyIn.cons rfl (fun K hK => ?_) AllReadyIn.nil))
            · go_simp
              refine hK _ _ ?_; clear hK K
              refine wpAnyIn_ready (rs := [3]) (by kernel_rfl) (by simp) (AllReadyIn.cons rfl (fun K hK => ?_) AllReadyIn.nil)
              · go_simp
                refine hK _ _ ?_; clear hK K
                refine wpAnyIn_ready (rs := [4]) (by kernel_rfl) (by simp) (AllReadyIn.cons rfl (fun K hK => ?_) AllReadyIn.nil)
                · refine stepIn_append_at rfl _ _ 38 rfl C 9 is _ 1 16 Try.underlying38 his hs0 hs1 hs2 rfl (by decide) (.slice av nv cv) (V.sofar pre).2.length (strs (V.sofar pre).2) (by simp [Act.eval]) (h9A.2.2.2.1.alloc (.cells #[.string (strOfNums f)] 9)) (some ⟨A.heap.size, 0, none⟩) 1 1 [.string (strOfNums f)] (by simp [Act.eval]) (row_cells1 A _ _) (by simp [Value.oneCell']) (by unfold maxLen; omega) (by omega) (by simp; omega) ?_; intro v' w3 hown' hg' _; obtain ⟨a3, n3, c3, rfl⟩ := own_shape hown'; obtain ⟨y1, y2, y3, y4, y5, y6, y7, y8⟩ := par_grow hrA h9A hg' hown'; obtain ⟨us, hus, hul, hel⟩ := y4; have hus2 := hus.alloc (.cells #[.slice a3 n3 c3] 38); have e3 := y2.cell; have e4 := (y2.alloc (.cells #[.slice a3 n3 c3] 38)).cell
                  refine hK _ _ ?_; clear hK K
                  refine wpAnyIn_ready (rs := [5]) (by kernel_rfl) (by simp) (AllReadyIn.cons rfl (fun K hK => ?_) AllReadyIn.nil)
                  · go_simp
                    refine hK _ _ ?_; clear hK K
                    refine wpAnyIn_ready (rs := [6]) (by kernel_rfl) (by simp) (AllReadyIn.cons rfl (fun K hK => ?_) AllReadyIn.nil)
                    · refine stepIn_append_at rfl _ _ 23 rfl (w.heap.size + 6) 38 ir _ 1 24 Try.underlying23 hir hr0 hr1 hr2 rfl (by decide) (.slice ao no co) (V.sofar pre).1.length us (by simp [Act.eval]) hus2 (some ⟨w3.heap.size, 0, none⟩) 1 1 [.slice a3 n3 c3] (by simp [Act.eval]) (row_cells1 w3 _ _) (by simp [Value.oneCell']) (by unfold maxLen; omega) (by omega) (by simp; omega) ?_; intro vo' w5 hnew hg5 _; obtain ⟨a5, n5, c5, rfl⟩ := own_shape hnew; obtain ⟨z1, z2, z3, z4, z5⟩ := par_last (p := p) hrA h9A hBA hall hg' hown' hus2 hul (fun i hi => by obtain ⟨u, h1, h2, h3⟩ := hel i hi; exact ⟨u, h1, h2.alloc _, h3⟩) hg5 hnew; have q1 := z1.cell; have q2 := z1.frozen; have q3 := z2.cell; have q4 := z2.frozen
                      refine hK _ _ ?_; clear hK K
                      refine wpAnyIn_ready (rs := [7]) (by kernel_rfl) (by simp) (AllReadyIn.cons rfl (fun K hK => ?_) AllReadyIn.nil)
                      · go_simp
                        refine hK _ _ ?_; clear hK K
                        refine wpAnyIn_done (by kernel_rfl) ?_ _
                        gi_wp2
                        exact ⟨(hkA.trans z5).from _, km_trans hmA z4, z3⟩
            · go_simp
              refine hK _ _ ?_; clear hK K
              refine wpAnyIn_ready (rs := [1]) (by kernel_rfl) (by simp) (AllReadyIn.cons rfl (fun K hK => ?_) AllReadyIn.nil)
              · go_simp
                refine hK _ _ ?_; clear hK K
                refine wpAnyIn_ready (rs := [4]) (by kernel_rfl) (by simp) (AllReadyIn.cons rfl (fun K hK => ?_) AllReadyIn.nil)
                · refine stepIn_append_at rfl _ _ 38 rfl C 9 is _ 1 16 Try.underlying38 his hs0 hs1 hs2 rfl (by decide) (.slice av nv cv) (V.sofar pre).2.length (strs (V.sofar pre).2) (by simp [Act.eval]) (h9A.2.2.2.1.alloc (.cells #[.string (strOfNums f)] 9)) (some ⟨A.heap.size, 0, none⟩) 1 1 [.string (strOfNums f)] (by simp [Act.eval]) (row_cells1 A _ _) (by simp [Value.oneCell']) (by unfold maxLen; omega) (by omega) (by simp; omega) ?_; intro v' w3 hown' hg' _; obtain ⟨a3, n3, c3, rfl⟩ := own_shape hown'; obtain ⟨y1, y2, y3, y4, y5, y6, y7, y8⟩ := par_grow hrA h9A hg' hown'; obtain ⟨us, hus, hul, hel⟩ := y4; have hus2 := hus.alloc (.cells #[.slice a3 n3 c3] 38); have e3 := y2.cell; have e4 := (y2.alloc (.cells #[.slice a3 n3 c3] 38)).cell
                  refine hK _ _ ?_; clear hK K
                  refine wpAnyIn_ready (rs := [5]) (by kernel_rfl) (by simp) (AllReadyIn.cons rfl (fun K hK => ?_) AllReadyIn.nil)
                  · go_simp
                    refine hK _ _ ?_; clear hK K
                    refine wpAnyIn_ready (rs := [6]) (by kernel_rfl) (by simp) (AllReadyIn.cons rfl (fun K hK => ?_) AllReadyIn.nil)
                    · refine stepIn_append_at rfl _ _ 23 rfl (w.heap.size + 6) 38 ir _ 1 24 Try.underlying23 hir hr0 hr1 hr2 rfl (by decide) (.slice ao no co) (V.sofar pre).1.length us (by simp [Act.eval]) hus2 (some ⟨w3.heap.size, 0, none⟩) 1 1 [.slice a3 n3 c3] (by simp [Act.eval]) (row_cells1 w3 _ _) (by simp [Value.oneCell']) (by unfold maxLen; omega) (by omega) (by simp; omega) ?_; intro vo' w5 hnew hg5 _; obtain ⟨a5, n5, c5, rfl⟩ := own_shape hnew; obtain ⟨z1, z2, z3, z4, z5⟩ := par_last (p := p) hrA h9A hBA hall hg' hown' hus2 hul (fun i hi => by obtain ⟨u, h1, h2, h3⟩ := hel i hi; exact ⟨u, h1, h2.alloc _, h3⟩) hg5 hnew; have q1 := z1.cell; have q2 := z1.frozen; have q3 := z2.cell; have q4 := z2.frozen
                      refine hK _ _ ?_; clear hK K
                      refine wpAnyIn_ready (rs := [7]) (by kernel_rfl) (by simp) (AllReadyIn.cons rfl (fun K hK => ?_) AllReadyIn.nil)
                      · go_simp
                        refine hK _ _ ?_; clear hK K
                        refine wpAnyIn_done (by kernel_rfl) ?_ _
                        gi_wp2
                        exact ⟨(hkA.trans z5).from _, km_trans hmA z4, z3⟩
          · go_simp
            refine hK _ _ ?_; clear hK K
            refine wpAnyIn_ready (rs := [0, 3]) (by kernel_rfl) (by simp) (AllReadyIn.cons rfl (fun K hK => ?_) (AllReadyIn.cons rfl (fun K hK => ?_) AllReadyIn.nil))
            · go_simp
              refine hK _ _ ?_; clear hK K
              refine wpAnyIn_ready (rs := [3]) (by kernel_rfl) (by simp) (AllReadyIn.cons rfl (fun K hK => ?_) AllReadyIn.nil)
              · go_simp
                refine hK _ _ ?_; clear hK K
                refine wpAnyIn_ready (rs := [4]) (by kernel_rfl) (by simp) (AllReadyIn.cons rfl (fun K hK => ?_) AllReadyIn.nil)
                · refine stepIn_append_at rfl _ _ 38 rfl C 9 is _ 1 16 Try.underlying38 his hs0 hs1 hs2 rfl (by decide) (.slice av nv cv) (V.sofar pre).2.length (strs (V.sofar pre).2) (by simp [Act.eval]) (h9A.2.2.2.1.alloc (.cells #[.string (strOfNums f)] 9)) (some ⟨A.heap.size, 0, none⟩) 1 1 [.string (strOfNums f)] (by simp [Act.eval]) (row_cells1 A _ _) (by simp [Value.oneCell']) (by unfold maxLen; omega) (by omega) (by simp; omega) ?_; intro v' w3 hown' hg' _; obtain ⟨a3, n3, c3, rfl⟩ := own_shape hown'; obtain ⟨y1, y2, y3, y4, y5, y6, y7, y8⟩ := par_grow hrA h9A hg' hown'; obtain ⟨us, hus, hul, hel⟩ := y4; have hus2 := hus.alloc (.cells #[.slice a3 n3 c3] 38); have e3 := y2.cell; have e4 := (y2.alloc (.cells #[.slice a3 n3 c3] 38)).cell
                  refine hK _ _ ?_; clear hK K
                  refine wpAnyIn_ready (rs := [5]) (by kernel_rfl) (by simp) (AllReadyIn.cons rfl (fun K hK => ?_) AllReadyIn.nil)
                  · go_simp
                    refine hK _ _ ?_; clear hK K
                    refine wpAnyIn_ready (rs := [6]) (by kernel_rfl) (by simp) (AllReadyIn.cons rfl (fun K hK => ?_) AllReadyIn.nil)
                    · refine stepIn_append_at rfl _ _ 23 rfl (w.heap.size + 6) 38 ir _ 1 24 Try.underlying23 hir hr0 hr1 hr2 rfl (by decide) (.slice ao no co) (V.sofar pre).1.length us (by simp [Act.eval]) hus2 (some ⟨w3.heap.size, 0, none⟩) 1 1 [.slice a3 n3 c3] (by simp [Act.eval]) (row_cells1 w3 _ _) (by simp [Value.oneCell']) (by unfold maxLen; omega) (by omega) (by simp; omega) ?_; intro vo' w5 hnew hg5 _; obtain ⟨a5, n5, c5, rfl⟩ := own_shape hnew; obtain ⟨z1, z2, z3, z4, z5⟩ := par_last (p := p) hrA h9A hBA hall hg' hown' hus2 hul (fun i hi => by obtain ⟨u, h1, h2, h3⟩ := hel i hi; exact ⟨u, h1, h2.alloc _, h3⟩) hg5 hnew; have q1 := z1.cell; have q2 := z1.frozen; have q3 := z2.cell; have q4 := z2.frozen
                      refine hK _ _ ?_; clear hK K
                      refine wpAnyIn_ready (rs := [7]) (by kernel_rfl) (by simp) (AllReadyIn.cons rfl (fun K hK => ?_) AllReadyIn.nil)
                      · go_simp
                        refine hK _ _ ?_; clear hK K
                        refine wpAnyIn_done (by kernel_rfl) ?_ _
                        gi_wp2
                        exact ⟨(hkA.trans z5).from _, km_trans hmA z4, z3⟩
            · go_simp
              refine hK _ _ ?_; clear hK K
              refine wpAnyIn_ready (rs := [0, 4]) (by kernel_rfl) (by simp) (AllReadyIn.cons rfl (fun K hK => ?_) (AllReadyIn.cons rfl (fun K hK => ?_) AllReadyIn.nil))
              · go_simp
                refine hK _ _ ?_; clear hK K
                refine wpAnyIn_ready (rs := [4]) (by kernel_rfl) (by simp) (AllReadyIn.cons rfl (fun K hK => ?_) AllReadyIn.nil)
                · refine stepIn_append_at rfl _ _ 38 rfl C 9 is _ 1 16 Try.underlying38 his hs0 hs1 hs2 rfl (by decide) (.slice av nv cv) (V.sofar pre).2.length (strs (V.sofar pre).2) (by simp [Act.eval]) (h9A.2.2.2.1.alloc (.cells #[.string (strOfNums f)] 9)) (some ⟨A.heap.size, 0, none⟩) 1 1 [.string (strOfNums f)] (by simp [Act.eval]) (row_cells1 A _ _) (by simp [Value.oneCell']) (by unfold maxLen; omega) (by omega) (by simp; omega) ?_; intro v' w3 hown' hg' _; obtain ⟨a3, n3, c3, rfl⟩ := own_shape hown'; obtain ⟨y1, y2, y3, y4, y5, y6, y7, y8⟩ := par_grow hrA h9A hg' hown'; obtain ⟨us, hus, hul, hel⟩ := y4; have hus2 := hus.alloc (.cells #[.slice a3 n3 c3] 38); have e3 := y2.cell; have e4 := (y2.alloc (.cells #[.slice a3 n3 c3] 38)).cell
                  refine hK _ _ ?_; clear hK K
                  refine wpAnyIn_ready (rs := [5]) (by kernel_rfl) (by simp) (AllReadyIn.cons rfl (fun K hK => ?_) AllReadyIn.nil)
                  · go_simp
                    refine hK _ _ ?_; clear hK K
                    refine wpAnyIn_ready (rs := [6]) (by kernel_rfl) (by simp) (AllReadyIn.cons rfl (fun K hK => ?_) AllReadyIn.nil)
                    · refine stepIn_append_at rfl _ _ 23 rfl (w.heap.size + 6) 38 ir _ 1 24 Try.underlying23 hir hr0 hr1 hr2 rfl (by decide) (.slice ao no co) (V.sofar pre).1.length us (by simp [Act.eval]) hus2 (some ⟨w3.heap.size, 0, none⟩) 1 1 [.slice a3 n3 c3] (by simp [Act.eval]) (row_cells1 w3 _ _) (by simp [Value.oneCell']) (by unfold maxLen; omega) (by omega) (by simp; omega) ?_; intro vo' w5 hnew hg5 _; obtain ⟨a5, n5, c5, rfl⟩ := own_shape hnew; obtain ⟨z1, z2, z3, z4, z5⟩ := par_last (p := p) hrA h9A hBA hall hg' hown' hus2 hul (fun i hi => by obtain ⟨u, h1, h2, h3⟩ := hel i hi; exact ⟨u, h1, h2.alloc _, h3⟩) hg5 hnew; have q1 := z1.cell; have q2 := z1.frozen; have q3 := z2.cell; have q4 := z2.frozen
                      refine hK _ _ ?_; clear hK K
                      refine wpAnyIn_ready (rs := [7]) (by kernel_rfl) (by simp) (AllReadyIn.cons rfl (fun K hK => ?_) AllReadyIn.nil)
                      · go_simp
                        refine hK _ _ ?_; clear hK K
                        refine wpAnyIn_done (by kernel_rfl) ?_ _
                        gi_wp2
                        exact ⟨(hkA.trans z5).from _, km_trans hmA z4, z3⟩
              · refine stepIn_append_at rfl _ _ 38 rfl C 9 is _ 1 16 Try.underlying38 his hs0 hs1 hs2 rfl (by decide) (.slice av nv cv) (V.sofar pre).2.length (strs (V.sofar pre).2) (by simp [Act.eval]) (h9A.2.2.2.1.alloc (.cells #[.string (strOfNums f)] 9)) (some ⟨A.heap.size, 0, none⟩) 1 1 [.string (strOfNums f)] (by simp [Act.eval]) (row_cells1 A _ _) (by simp [Value.oneCell']) (by unfold maxLen; omega) (by omega) (by simp; omega) ?_; intro v' w3 hown' hg' _; obtain ⟨a3, n3, c3, rfl⟩ := own_shape hown'; obtain ⟨y1, y2, y3, y4, y5, y6, y7, y8⟩ := par_grow hrA h9A hg' hown'; obtain ⟨us, hus, hul, hel⟩ := y4; have hus2 := hus.alloc (.cells #[.slice a3 n3 c3] 38); have e3 := y2.cell; have e4 := (y2.alloc (.cells #[.slice a3 n3 c3] 38)).cell
                refine hK _ _ ?_; clear hK K
                refine wpAnyIn_ready (rs := [0, 5]) (by kernel_rfl) (by simp) (AllReadyIn.cons rfl (fun K hK => ?_) (AllReadyIn.cons rfl (fun K hK => ?_) AllReadyIn.nil))
                · go_simp
                  refine hK _ _ ?_; clear hK K
                  refine wpAnyIn_ready (rs := [5]) (by kernel_rfl) (by simp) (AllReadyIn.cons rfl (fun K hK => ?_) AllReadyIn.nil)
                  · go_simp
                    refine hK _ _ ?_; clear hK K
                    refine wpAnyIn_ready (rs := [6]) (by kernel_rfl) (by simp) (AllReadyIn.cons rfl (fun K hK => ?_) AllReadyIn.nil)
                    · refine stepIn_append_at rfl _ _ 23 rfl (w.heap.size + 6) 38 ir _ 1 24 Try.underlying23 hir hr0 hr1 hr2 rfl (by decide) (.slice ao no co) (V.sofar pre).1.length us (by simp [Act.eval]) hus2 (some ⟨w3.heap.size, 0, none⟩) 1 1 [.slice a3 n3 c3] (by simp [Act.eval]) (row_cells1 w3 _ _) (by simp [Value.oneCell']) (by unfold maxLen; omega) (by omega) (by simp; omega) ?_; intro vo' w5 hnew hg5 _; obtain ⟨a5, n5, c5, rfl⟩ := own_shape hnew; obtain ⟨z1, z2, z3, z4, z5⟩ := par_last (p := p) hrA h9A hBA hall hg' hown' hus2 hul (fun i hi => by obtain ⟨u, h1, h2, h3⟩ := hel i hi; exact ⟨u, h1, h2.alloc _, h3⟩) hg5 hnew; have q1 := z1.cell; have q2 := z1.frozen; have q3 := z2.cell; have q4 := z2.frozen
                      refine hK _ _ ?_; clear hK K
                      refine wpAnyIn_ready (rs := [7]) (by kernel_rfl) (by simp) (AllReadyIn.cons rfl (fun K hK => ?_) AllReadyIn.nil)
                      · go_simp
                        refine hK _ _ ?_; clear hK K
                        refine wpAnyIn_done (by kernel_rfl) ?_ _
                        gi_wp2
                        exact ⟨(hkA.trans z5).from _, km_trans hmA z4, z3⟩
                · go_simp
                  refine hK _ _ ?_; clear hK K
                  refine wpAnyIn_ready (rs := [0]) (by kernel_rfl) (by simp) (AllReadyIn.cons rfl (fun K hK => ?_) AllReadyIn.nil)
                  · go_simp
                    refine hK _ _ ?_; clear hK K
                    refine wpAnyIn_ready (rs := [6]) (by kernel_rfl) (by simp) (AllReadyIn.cons rfl (fun K hK => ?_) AllReadyIn.nil)
                    · refine stepIn_append_at rfl _ _ 23 rfl (w.heap.size + 6) 38 ir _ 1 24 Try.underlying23 hir hr0 hr1 hr2 rfl (by decide) (.slice ao no co) (V.sofar pre).1.length us (by simp [Act.eval]) hus2 (some ⟨w3.heap.size, 0, none⟩) 1 1 [.slice a3 n3 c3] (by simp [Act.eval]) (row_cells1 w3 _ _) (by simp [Value.oneCell']) (by unfold maxLen; omega) (by omega) (by simp; omega) ?_; intro vo' w5 hnew hg5 _; obtain ⟨a5, n5, c5, rfl⟩ := own_shape hnew; obtain ⟨z1, z2, z3, z4, z5⟩ := par_last (p := p) hrA h9A hBA hall hg' hown' hus2 hul (fun i hi => by obtain ⟨u, h1, h2, h3⟩ := hel i hi; exact ⟨u, h1, h2.alloc _, h3⟩) hg5 hnew; have q1 := z1.cell; have q2 := z1.frozen; have q3 := z2.cell; have q4 := z2.frozen
                      refine hK _ _ ?_; clear hK K
                      refine wpAnyIn_ready (rs := [7]) (by kernel_rfl) (by simp) (AllReadyIn.cons rfl (fun K hK => ?_) AllReadyIn.nil)
                      · go_simp
                        refine hK _ _ ?_; clear hK K
                        refine wpAnyIn_done (by kernel_rfl) ?_ _
                        gi_wp2
                        exact ⟨(hkA.trans z5).from _, km_trans hmA z4, z3⟩
          · go_simp
            refine hK _ _ ?_; clear hK K
            refine wpAnyIn_ready (rs := [0, 1]) (by kernel_rfl) (by simp) (AllReadyIn.cons rfl (fun K hK => ?_) (AllReadyIn.cons rfl (fun K hK => ?_) AllReadyIn.nil))
            · go_simp
              refine hK _ _ ?_; clear hK K
              refine wpAnyIn_ready (rs := [1]) (by kernel_rfl) (by simp) (AllReadyIn.cons rfl (fun K hK => ?_) AllReadyIn.nil)
              · go_simp
                refine hK _ _ ?_; clear hK K
                refine wpAnyIn_ready (rs := [4]) (by kernel_rfl) (by simp) (AllReadyIn.cons rfl (fun K hK => ?_) AllReadyIn.nil)
                · refine stepIn_append_at rfl _ _ 38 rfl C 9 is _ 1 16 Try.underlying38 his hs0 hs1 hs2 rfl (by decide) (.slice av nv cv) (V.sofar pre).2.length (strs (V.sofar pre).2) (by simp [Act.eval]) (h9A.2.2.2.1.alloc (.cells #[.string (strOfNums f)] 9)) (some ⟨A.heap.size, 0, none⟩) 1 1 [.string (strOfNums f)] (by simp [Act.eval]) (row_cells1 A _ _) (by simp [Value.oneCell']) (by unfold maxLen; omega) (by omega) (by simp; omega) ?_; intro v' w3 hown' hg' _; obtain ⟨a3, n3, c3, rfl⟩ := own_shape hown'; obtain ⟨y1, y2, y3, y4, y5, y6, y7, y8⟩ := par_grow hrA h9A hg' hown'; obtain ⟨us, hus, hul, hel⟩ := y4; have hus2 := hus.alloc (.cells #[.slice a3 n3 c3] 38); have e3 := y2.cell; have e4 := (y2.alloc (.cells #[.slice a3 n3 c3] 38)).cell
                  refine hK _ _ ?_; clear hK K
                  refine wpAnyIn_ready (rs := [5]) (by kernel_rfl) (by simp) (AllReadyIn.cons rfl (fun K hK => ?_) AllReadyIn.nil)
                  · go_simp
                    refine hK _ _ ?_; clear hK K
                    refine wpAnyIn_ready (rs := [6]) (by kernel_rfl) (by simp) (AllReadyIn.cons rfl (fun K hK => ?_) AllReadyIn.nil)
                    · refine stepIn_append_at rfl _ _ 23 rfl (w.heap.size + 6) 38 ir _ 1 24 Try.underlying23 hir hr0 hr1 hr2 rfl (by decide) (.slice ao no co) (V.sofar pre).1.length us (by simp [Act.eval]) hus2 (some ⟨w3.heap.size, 0, none⟩) 1 1 [.slice a3 n3 c3] (by simp [Act.eval]) (row_cells1 w3 _ _) (by simp [Value.oneCell']) (by unfold maxLen; omega) (by omega) (by simp; omega) ?_; intro vo' w5 hnew hg5 _; obtain ⟨a5, n5, c5, rfl⟩ := own_shape hnew; obtain ⟨z1, z2, z3, z4, z5⟩ := par_last (p := p) hrA h9A hBA hall hg' hown' hus2 hul (fun i hi => by obtain ⟨u, h1, h2, h3⟩ := hel i hi; exact ⟨u, h1, h2.alloc _, h3⟩) hg5 hnew; have q1 := z1.cell; have q2 := z1.frozen; have q3 := z2.cell; have q4 := z2.frozen
                      refine hK _ _ ?_; clear hK K
                      refine wpAnyIn_ready (rs := [7]) (by kernel_rfl) (by simp) (AllReadyIn.cons rfl (fun K hK => ?_) AllReadyIn.nil)
                      · go_simp
                        refine hK _ _ ?_; clear hK K
                        refine wpAnyIn_done (by kernel_rfl) ?_ _
                        gi_wp2
                        exact ⟨(hkA.trans z5).from _, km_trans hmA z4, z3⟩
            · go_simp
              refine hK _ _ ?_; clear hK K
              refine wpAnyIn_ready (rs := [0, 4]) (by kernel_rfl) (by simp) (AllReadyIn.cons rfl (fun K hK => ?_) (AllReadyIn.cons rfl (fun K hK => ?_) AllReadyIn.nil))
              · go_simp
                refine hK _ _ ?_; clear hK K
                refine wpAnyIn_ready (rs := [4]) (by kernel_rfl) (by simp) (AllReadyIn.cons rfl (fun K hK => ?_) AllReadyIn.nil)
                · refine stepIn_append_at rfl _ _ 38 rfl C 9 is _ 1 16 Try.underlying38 his hs0 hs1 hs2 rfl (by decide) (.slice av nv cv) (V.sofar pre).2.length (strs (V.sofar pre).2) (by simp [Act.eval]) (h9A.2.2.2.1.alloc (.cells #[.string (strOfNums f)] 9)) (some ⟨A.heap.size, 0, none⟩) 1 1 [.string (strOfNums f)] (by simp [Act.eval]) (row_cells1 A _ _) (by simp [Value.oneCell']) (by unfold maxLen; omega) (by omega) (by simp; omega) ?_; intro v' w3 hown' hg' _; obtain ⟨a3, n3, c3, rfl⟩ := own_shape hown'; obtain ⟨y1, y2, y3, y4, y5, y6, y7, y8⟩ := par_grow hrA h9A hg' hown'; obtain ⟨us, hus, hul, hel⟩ := y4; have hus2 := hus.alloc (.cells #[.slice a3 n3 c3] 38); have e3 := y2.cell; have e4 := (y2.alloc (.cells #[.slice a3 n3 c3] 38)).cell
                  refine hK _ _ ?_; clear hK K
                  refine wpAnyIn_ready (rs := [5]) (by kernel_rfl) (by simp) (AllReadyIn.cons rfl (fun K hK => ?_) AllReadyIn.nil)
                  · go_simp
                    refine hK _ _ ?_; clear hK K
                    refine wpAnyIn_ready (rs := [6]) (by kernel_rfl) (by simp) (AllReadyIn.cons rfl (fun K hK => ?_) AllReadyIn.nil)
                    · refine stepIn_append_at rfl _ _ 23 rfl (w.heap.size + 6) 38 ir _ 1 24 Try.underlying23 hir hr0 hr1 hr2 rfl (by decide) (.slice ao no co) (V.sofar pre).1.length us (by simp [Act.eval]) hus2 (some ⟨w3.heap.size, 0, none⟩) 1 1 [.slice a3 n3 c3] (by simp [Act.eval]) (row_cells1 w3 _ _) (by simp [Value.oneCell']) (by unfold maxLen; omega) (by omega) (by simp; omega) ?_; intro vo' w5 hnew hg5 _; obtain ⟨a5, n5, c5, rfl⟩ := own_shape hnew; obtain ⟨z1, z2, z3, z4, z5⟩ := par_last (p := p) hrA h9A hBA hall hg' hown' hus2 hul (fun i hi => by obtain ⟨u, h1, h2, h3⟩ := hel i hi; exact ⟨u, h1, h2.alloc _, h3⟩) hg5 hnew; have q1 := z1.cell; have q2 := z1.frozen; have q3 := z2.cell; have q4 := z2.frozen
                      refine hK _ _ ?_; clear hK K
                      refine wpAnyIn_ready (rs := [7]) (by kernel_rfl) (by simp) (AllReadyIn.cons rfl (fun K hK => ?_) AllReadyIn.nil)
                      · go_simp
                        refine hK _ _ ?_; clear hK K
                        refine wpAnyIn_done (by kernel_rfl) ?_ _
                        gi_wp2
                        exact ⟨(hkA.trans z5).from _, km_trans hmA z4, z3⟩
              · refine stepIn_append_at rfl _ _ 38 rfl C 9 is _ 1 16 Try.underlying38 his hs0 hs1 hs2 rfl (by decide) (.slice av nv cv) (V.sofar pre).2.length (strs (V.sofar pre).2) (by simp [Act.eval]) (h9A.2.2.2.1.alloc (.cells #[.string (strOfNums f)] 9)) (some ⟨A.heap.size, 0, none⟩) 1 1 [.string (strOfNums f)] (by simp [Act.eval]) (row_cells1 A _ _) (by simp [Value.oneCell']) (by unfold maxLen; omega) (by omega) (by simp; omega) ?_; intro v' w3 hown' hg' _; obtain ⟨a3, n3, c3, rfl⟩ := own_shape hown'; obtain ⟨y1, y2, y3, y4, y5, y6, y7, y8⟩ := par_grow hrA h9A hg' hown'; obtain ⟨us, hus, hul, hel⟩ := y4; have hus2 := hus.alloc (.cells #[.slice a3 n3 c3] 38); have e3 := y2.cell; have e4 := (y2.alloc (.cells #[.slice a3 n3 c3] 38)).cell
                refine hK _ _ ?_; clear hK K
                refine wpAnyIn_ready (rs := [0, 5]) (by kernel_rfl) (by simp) (AllReadyIn.cons rfl (fun K hK => ?_) (AllReadyIn.cons rfl (fun K hK => ?_) AllReadyIn.nil))
                · go_simp
                  refine hK _ _ ?_; clear hK K
                  refine wpAnyIn_ready (rs := [5]) (by kernel_rfl) (by simp) (AllReadyIn.cons rfl (fun K hK => ?_) AllReadyIn.nil)
                  · go_simp
                    refine hK _ _ ?_; clear hK K
                    refine wpAnyIn_ready (rs := [6]) (by kernel_rfl) (by simp) (AllReadyIn.cons rfl (fun K hK => ?_) AllReadyIn.nil)
                    · refine stepIn_append_at rfl _ _ 23 rfl (w.heap.size + 6) 38 ir _ 1 24 Try.underlying23 hir hr0 hr1 hr2 rfl (by decide) (.slice ao no co) (V.sofar pre).1.length us (by simp [Act.eval]) hus2 (some ⟨w3.heap.size, 0, none⟩) 1 1 [.slice a3 n3 c3] (by simp [Act.eval]) (row_cells1 w3 _ _) (by simp [Value.oneCell']) (by unfold maxLen; omega) (by omega) (by simp; omega) ?_; intro vo' w5 hnew hg5 _; obtain ⟨a5, n5, c5, rfl⟩ := own_shape hnew; obtain ⟨z1, z2, z3, z4, z5⟩ := par_last (p := p) hrA h9A hBA hall hg' hown' hus2 hul (fun i hi => by obtain ⟨u, h1, h2, h3⟩ := hel i hi; exact ⟨u, h1, h2.alloc _, h3⟩) hg5 hnew; have q1 := z1.cell; have q2 := z1.frozen; have q3 := z2.cell; have q4 := z2.frozen
                      refine hK _ _ ?_; clear hK K
                      refine wpAnyIn_ready (rs := [7]) (by kernel_rfl) (by simp) (AllReadyIn.cons rfl (fun K hK => ?_) AllReadyIn.nil)
                      · go_simp
                        refine hK _ _ ?_; clear hK K
                        refine wpAnyIn_done (by kernel_rfl) ?_ _
                        gi_wp2
                        exact ⟨(hkA.trans z5).from _, km_trans hmA z4, z3⟩
                · go_simp
                  refine hK _ _ ?_; clear hK K
                  refine wpAnyIn_ready (rs := [0]) (by kernel_rfl) (by simp) (AllReadyIn.cons rfl (fun K hK => ?_) AllReadyIn.nil)
                  · go_simp
                    refine hK _ _ ?_; clear hK K
                    refine wpAnyIn_ready (rs := [6]) (by kernel_rfl) (by simp) (AllReadyIn.cons rfl (fun K hK => ?_) AllReadyIn.nil)
                    · refine stepIn_append_at rfl _ _ 23 rfl (w.heap.size + 6) 38 ir _ 1 24 Try.underlying23 hir hr0 hr1 hr2 rfl (by decide) (.slice ao no co) (V.sofar pre).1.length us (by simp [Act.eval]) hus2 (some ⟨w3.heap.size, 0, none⟩) 1 1 [.slice a3 n3 c3] (by simp [Act.eval]) (row_cells1 w3 _ _) (by simp [Value.oneCell']) (by unfold maxLen; omega) (by omega) (by simp; omega) ?_; intro vo' w5 hnew hg5 _; obtain ⟨a5, n5, c5, rfl⟩ := own_shape hnew; obtain ⟨z1, z2, z3, z4, z5⟩ := par_last (p := p) hrA h9A hBA hall hg' hown' hus2 hul (fun i hi => by obtain ⟨u, h1, h2, h3⟩ := hel i hi; exact ⟨u, h1, h2.alloc _, h3⟩) hg5 hnew; have q1 := z1.cell; have q2 := z1.frozen; have q3 := z2.cell; have q4 := z2.frozen
                      refine hK _ _ ?_; clear hK K
                      refine wpAnyIn_ready (rs := [7]) (by kernel_rfl) (by simp) (AllReadyIn.cons rfl (fun K hK => ?_) AllReadyIn.nil)
                      · go_simp
                        refine hK _ _ ?_; clear hK K
                        refine wpAnyIn_done (by kernel_rfl) ?_ _
                        gi_wp2
                        exact ⟨(hkA.trans z5).from _, km_trans hmA z4, z3⟩
      have t2 : (k == 2) = false := by simpa using h2
      gi_wp2
      refine ⟨(KeepsFrom.refl _ _), km_none (grown_same _), hr, ⟨C, vo, vr, ?_⟩, hB, ?_⟩
      · rw [V.sofar_snoc]
        have : V.stepF (V.sofar pre) (f, k, p) = V.sofar pre := by unfold V.stepF; rw [if_neg h1, if_neg h2]
        rw [this]; exact h9
      · intro y hy
        rcases List.mem_append.1 hy with hy | hy
        · exact hall y hy
        · have : y = (f, k, p) := by simpa using hy
          rw [this]; exact h0
end Go.Proofs.Ytclnephomnkieaa
