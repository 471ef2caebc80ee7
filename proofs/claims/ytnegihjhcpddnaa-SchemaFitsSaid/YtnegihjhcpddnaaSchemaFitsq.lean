/- The walk of SchemaFits: whether every value fits every slot is the document's. -/
import Derived.Test.YtnegihjhcpddnaaMg28Sch
import Derived.Test.YtnegihjhcpddnaaMg15Sch
import Derived.Deep.DeepCutAuto
import Derived.BigQuiet
set_option linter.unusedVariables false
set_option linter.unusedSimpArgs false
namespace Go.Proofs.Ytnegihjhcpddnaa
open Go.RowKit Go.Shelf
theorem quietT_run {P : Program} {o : Oper} {a : Act} {C : World → Prop} {K : Act → Prop} {v : Value} (h1 : ∀ w, C w → o.quietAt P a C w v) (h2 : K (a.put o.dst v)) : o.quiet P a C K := ⟨v, h1, h2⟩
/-- what Fits comes to -/
def FitsC : Prop := ∀ (s : SlotM) (v : PV) (w : World) (X Y : Value), szV v ≤ 1000000 → 0 ≤ s.ty → IsSlot w s X → Is w v Y → Calls Try.prog 7 #[X, Y] w fun e w' => e = .returned (.bool (Sc.fits s.ty v)) ∧ Below w.heap.size w w'
namespace schemaFitsWalk
set_option maxRecDepth 100000 in
set_option maxHeartbeats 4000000 in
theorem walkA (hal : ∀ w, Calls Try.prog 5 #[] w fun e w' => e = .returned (.bool true) ∧ Below w.heap.size w w') (hF : FitsC) (s : SlotM) (v : PV) (x y : Value) (w : World) (hs : IsSlot w s x) (hv : Is w v y) :
    Calls Try.prog 3 #[x, y] w fun e w' => e = .returned (.bool true) ∧ Below w.heap.size w w' := by
  have hIS := fun W (hb : Below w.heap.size w W) => isSlot_below hb hs
  have hIV := fun W (hb : Below w.heap.size w W) => is_below hb _ _ hv
  obtain ⟨k0, n0, t0, a0, len0, cap0, rfl, hI, hnm, hd⟩ := slot7_form hs
  have hGr := fun W => great_any v W y
  have hF1 := fun W hsz h0 hs hv => hF s v W (.agg #[.string s.nm, .int .i64 s.ty, .bool s.rq, .int .i64 k0, .int .i64 n0, .string t0, .slice a0 len0 cap0]) y hsz h0 hs hv
  have hF2 := fun hsz h0 W hs hv => refFits_any s v hsz h0 W (.agg #[.string s.nm, .int .i64 s.ty, .bool s.rq, .int .i64 k0, .int .i64 n0, .string t0, .slice a0 len0 cap0]) y hs hv
  have hsz := great_sz v
  obtain ⟨k, n, t, a, len, cap, rfl⟩ : ∃ k n t a len cap, y = .agg #[.int .i64 k, .int .i64 n, .string t, .slice a len cap] := by
    cases v
    unfold Is at hv
    obtain ⟨_, _, _, a, cap, rfl, _⟩ := hv
    exact ⟨_, _, _, _, _, _, rfl⟩
  have hb1 := (Below.refl _ w).alloc (Nat.le_refl _) (.cells #[.string s.nm, .int .i64 s.ty, .bool s.rq, .int .i64 k0, .int .i64 n0, .string t0, .slice a0 len0 cap0] 26)
  have hb2 := hb1.alloc hb1.size (.cells #[.int .i64 k, .int .i64 n, .string t, .slice a len cap] 24)
  have hcs : ∀ W, Below ((w.alloc (.cells #[.string s.nm, .int .i64 s.ty, .bool s.rq, .int .i64 k0, .int .i64 n0, .string t0, .slice a0 len0 cap0] 26)).alloc (.cells #[.int .i64 k, .int .i64 n, .string t, .slice a len cap] 24)).heap.size ((w.alloc (.cells #[.string s.nm, .int .i64 s.ty, .bool s.rq, .int .i64 k0, .int .i64 n0, .string t0, .slice a0 len0 cap0] 26)).alloc (.cells #[.int .i64 k, .int .i64 n, .string t, .slice a len cap] 24)) W →
      (W.cell? ⟨w.heap.size, 0, none⟩ = some (.string s.nm) ∧ W.cell? ⟨w.heap.size, 1, none⟩ = some (.int .i64 s.ty) ∧ W.cell? ⟨w.heap.size, 2, none⟩ = some (.bool s.rq) ∧ W.cell? ⟨w.heap.size, 3, none⟩ = some (.int .i64 k0) ∧ W.cell? ⟨w.heap.size, 4, none⟩ = some (.int .i64 n0) ∧ W.cell? ⟨w.heap.size, 5, none⟩ = some (.string t0) ∧ W.cell? ⟨w.heap.size, 6, none⟩ = some (.slice a0 len0 cap0)) ∧
      (W.cell? ⟨w.heap.size + 1, 0, none⟩ = some (.int .i64 k) ∧ W.cell? ⟨w.heap.size + 1, 1, none⟩ = some (.int .i64 n) ∧ W.cell? ⟨w.heap.size + 1, 2, none⟩ = some (.string t) ∧ W.cell? ⟨w.heap.size + 1, 3, none⟩ = some (.slice a len cap)) := fun W hb =>
    ⟨⟨cell_below hb (by simp), cell_below hb (by simp), cell_below hb (by simp), cell_below hb (by simp), cell_below hb (by simp), cell_below hb (by simp), cell_below hb (by simp)⟩, cell_below hb (by simp), cell_below hb (by simp), cell_below hb (by simp), cell_below hb (by simp)⟩
  obtain ⟨ty, hty⟩ : ∃ ty, s.ty = ty := ⟨_, rfl⟩
  have HIS := Lib.hid hIS; have HIV := Lib.hid hIV; have HG := Lib.hid hGr; have HF1 := Lib.hid hF1; have HF2 := Lib.hid hF2; have HCS := Lib.hid hcs
  rw [hty] at HIS HF1 HF2 HCS hb1 hb2 ⊢
  clear hIS hIV hGr hF1 hF2 hcs hF hs hv hd hty hI
  obtain ⟨g, hg⟩ : ∃ g, greatV v = g := ⟨_, rfl⟩
  rw [hg] at HG hsz
  clear hg
  cases g with
  | true =>
    go_enter Try.func3, Try.ntmps3
    go_wp2_with (first
      | (go_at_call 5; (with_reducible refine (hal _).mono ?_); rintro e w1 ⟨rfl, hB1⟩; have hC1 := hb2.trans (hB1.mono hb2.size); obtain ⟨⟨x0, x1, x2, x3, x4, x5, x6⟩, ⟨y0, y1, y2, y3⟩⟩ := HCS.out _ hB1)
      | (go_at_call 6; (with_reducible refine (HG.out _ (HIV.out _ hC1)).mono ?_); rintro e w2 ⟨rfl, hB2⟩))
    go_ret
    exact ⟨rfl, hC1.trans (hB2.mono hC1.size)⟩
  | false =>
    have hsz := hsz rfl
    by_cases hneg : ty < 0
    · have d1 : decide (ty < 0) = true := by simpa using hneg
      go_enter Try.func3, Try.ntmps3
      go_wp2_with (first
        | (go_at_call 5; (with_reducible refine (hal _).mono ?_); rintro e w1 ⟨rfl, hB1⟩; have hC1 := hb2.trans (hB1.mono hb2.size); obtain ⟨⟨x0, x1, x2, x3, x4, x5, x6⟩, ⟨y0, y1, y2, y3⟩⟩ := HCS.out _ hB1)
        | (go_at_call 6; (with_reducible refine (HG.out _ (HIV.out _ hC1)).mono ?_); rintro e w2 ⟨rfl, hB2⟩; obtain ⟨⟨p0, p1, p2, p3, p4, p5, p6⟩, ⟨q0, q1, q2, q3⟩⟩ := HCS.out _ (hB1.trans (hB2.mono hB1.size))))
      go_ret
      exact ⟨rfl, hC1.trans (hB2.mono hC1.size)⟩
    · have d1 : decide (ty < 0) = false := by simpa using hneg
      have h0 : 0 ≤ ty := by omega
      obtain ⟨F, hFF⟩ : ∃ F, Sc.fits ty v = F := ⟨_, rfl⟩
      rw [hFF] at HF1 HF2
      have dF : (F == F) = true := by simp
      clear hFF hneg
      go_enter Try.func3, Try.ntmps3
      go_wp2_with (first
        | (go_at_call 5; (with_reducible refine (hal _).mono ?_); rintro e w1 ⟨rfl, hB1⟩; have hC1 := hb2.trans (hB1.mono hb2.size); obtain ⟨⟨x0, x1, x2, x3, x4, x5, x6⟩, ⟨y0, y1, y2, y3⟩⟩ := HCS.out _ hB1)
        | (go_at_call 6; (with_reducible refine (HG.out _ (HIV.out _ hC1)).mono ?_); rintro e w2 ⟨rfl, hB2⟩; have hC2 := hC1.trans (hB2.mono hC1.size); have hD2 := hB1.trans (hB2.mono hB1.size); obtain ⟨⟨p0, p1, p2, p3, p4, p5, p6⟩, ⟨q0, q1, q2, q3⟩⟩ := HCS.out _ hD2))
      refine wp_region_quiet (C := fun W => Below w2.heap.size w2 W) (by kernel_rfl) (by kernel_rfl) (Below.refl _ w2).drew ?_
      iterate 8 (first
        | (refine BigFrame.wpQuiet_skip (by rfl) ?_; simp only [Act.put, List.setIfInBounds_toArray, List.set_cons_zero, List.set_cons_succ])
        | (refine BigFrame.wpQuiet_want (by rfl) (fun K hK => ?_)
           apply quietT_run
           · intro W hC
             unfold Oper.quietAt
             have HB := Lib.hid hC
             obtain ⟨⟨r0, r1, r2, r3, r4, r5, r6⟩, ⟨u0, u1, u2, u3⟩⟩ := HCS.out _ (hD2.trans (hC.mono hD2.size))
             have hC9 := hC2.trans (hC.mono hC2.size)
             go_simp
             first
               | done
               | with_reducible rfl
               | ((with_reducible refine (HF1.out _ (by omega) h0 (HIS.out _ hC9) (HIV.out _ hC9)).mono ?_); exact fun e w' ⟨he, hb⟩ => ⟨he, HB.out.trans (hb.mono HB.out.size)⟩)
               | ((with_reducible refine (HF2.out (by omega) h0 _ (HIS.out _ hC9) (HIV.out _ hC9)).mono ?_); exact fun e w' ⟨he, hb⟩ => ⟨he, HB.out.trans (hb.mono HB.out.size)⟩)
           refine hK _ ?_; clear hK K; simp only [Act.put, List.setIfInBounds_toArray, List.set_cons_zero, List.set_cons_succ]))
      refine wpQuiet_nil ?_
      intro W9 hC9
      go_wp2_with fail
      go_ret
      exact ⟨ret_bool (by simp), hC2.trans (hC9.mono hC2.size)⟩
end schemaFitsWalk
end Go.Proofs.Ytnegihjhcpddnaa
