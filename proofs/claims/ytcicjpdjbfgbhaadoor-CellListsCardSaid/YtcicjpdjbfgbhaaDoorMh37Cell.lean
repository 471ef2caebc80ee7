/- The program's schema: kinds' bits, has, Fits, right. (Made by gen_spa.py.) -/
import Derived.Test.YtcicjpdjbfgbhaaDoorMh36Cell
import Derived.Test.YtcicjpdjbfgbhaaDoorMh19Cell
import Derived.Test.YtcicjpdjbfgbhaaDoorMh5Cell
import Derived.Deep.DeepCutAuto
import Derived.BigQuiet
set_option linter.unusedVariables false
set_option linter.unusedSimpArgs false
set_option maxRecDepth 100000
namespace Go.Proofs.YtcicjpdjbfgbhaaDoor
open Go.RowKit Go.Shelf
theorem quiet_run9 {P : Program} {o : Oper} {a : Act} {C : World → Prop} {K : Act → Prop} {v : Value} (h1 : ∀ w, C w → o.quietAt P a C w v) (h2 : K (a.put o.dst v)) : o.quiet P a C K := ⟨v, h1, h2⟩
theorem keepF {b1 b2 : Nat} {c0 c1 c2 c3 c4 : Value} {W0 W W' : World} (h : (W.cell? ⟨b1, 1, none⟩ = some c0 ∧ (W.cell? ⟨b2, 0, none⟩ = some c1 ∧ W.cell? ⟨b2, 1, none⟩ = some c2) ∧ W.cell? ⟨b2, 2, none⟩ = some c3 ∧ W.cell? ⟨b2, 3, none⟩ = some c4) ∧ Below W0.heap.size W0 W) (hb : Below W.heap.size W W') : (W'.cell? ⟨b1, 1, none⟩ = some c0 ∧ (W'.cell? ⟨b2, 0, none⟩ = some c1 ∧ W'.cell? ⟨b2, 1, none⟩ = some c2) ∧ W'.cell? ⟨b2, 2, none⟩ = some c3 ∧ W'.cell? ⟨b2, 3, none⟩ = some c4) ∧ Below W0.heap.size W0 W' := by
  obtain ⟨⟨q0, ⟨q1, q2⟩, q3, q4⟩, hB⟩ := h
  exact ⟨⟨cell_below hb q0, ⟨cell_below hb q1, cell_below hb q2⟩, cell_below hb q3, cell_below hb q4⟩, hB.trans (hb.mono hB.size)⟩
set_option maxHeartbeats 2000000 in
theorem fits_no (nm t0 : ByteArray) (ty : Nat) (rq : Bool) (k0 n0 : Int) (a0 : Option Addr) (len0 cap0 : Nat) (k : Int) (n : Int) (t : ByteArray) (a : Option Addr) (len cap : Nat) (w : World)
    (H : ∀ W, Below w.heap.size w W → Calls Tryd.prog 6 #[.agg #[.int .i64 k, .int .i64 n, .string t, .slice a len cap]] W fun e w' => e = .returned (.bool false) ∧ Below W.heap.size W w') :
    Calls Tryd.prog 28 #[.agg #[.string nm, .int .i64 (ty : Int), .bool rq, .int .i64 k0, .int .i64 n0, .string t0, .slice a0 len0 cap0], .agg #[.int .i64 k, .int .i64 n, .string t, .slice a len cap]] w fun e w' => e = .returned (.bool false) ∧ Below w.heap.size w w' := by
  have hb1 := (Below.refl _ w).alloc (Nat.le_refl _) (.cells #[.string nm, .int .i64 (ty : Int), .bool rq, .int .i64 k0, .int .i64 n0, .string t0, .slice a0 len0 cap0] 39)
  have hb2 := hb1.alloc hb1.size (.cells #[.int .i64 k, .int .i64 n, .string t, .slice a len cap] 24)
  go_enter Tryd.func28, Tryd.ntmps28
  go_wp2
  obtain ⟨W0, hW0⟩ : ∃ W0, (w.alloc (.cells #[.string nm, .int .i64 (ty : Int), .bool rq, .int .i64 k0, .int .i64 n0, .string t0, .slice a0 len0 cap0] 39)).alloc (.cells #[.int .i64 k, .int .i64 n, .string t, .slice a len cap] 24) = W0 := ⟨_, rfl⟩
  obtain ⟨b1, hb1'⟩ : ∃ b, w.heap.size = b := ⟨_, rfl⟩
  obtain ⟨b2, hb2'⟩ : ∃ b, b1 + 1 = b := ⟨_, rfl⟩
  have hbase : (W0.cell? ⟨b1, 1, none⟩ = some (.int .i64 (ty : Int)) ∧ (W0.cell? ⟨b2, 0, none⟩ = some (.int .i64 k) ∧ W0.cell? ⟨b2, 1, none⟩ = some (.int .i64 n)) ∧ W0.cell? ⟨b2, 2, none⟩ = some (.string t) ∧ W0.cell? ⟨b2, 3, none⟩ = some (.slice a len cap)) ∧ Below W0.heap.size W0 W0 := by
    rw [← hW0, ← hb2', ← hb1']
    refine ⟨⟨?_, ⟨?_, ?_⟩, ?_, ?_⟩, Below.refl _ _⟩ <;> simp
  have hB0 : Below w.heap.size w W0 := hW0 ▸ hb2
  rw [hW0, hb1', hb2']
  clear hW0 hb1 hb2 hb1' hb2'
  have HH := Lib.hid H
  clear H
  refine wp_region_quiet (C := fun W => (W.cell? ⟨b1, 1, none⟩ = some (.int .i64 (ty : Int)) ∧ (W.cell? ⟨b2, 0, none⟩ = some (.int .i64 k) ∧ W.cell? ⟨b2, 1, none⟩ = some (.int .i64 n)) ∧ W.cell? ⟨b2, 2, none⟩ = some (.string t) ∧ W.cell? ⟨b2, 3, none⟩ = some (.slice a len cap)) ∧ Below W0.heap.size W0 W) (by kernel_rfl) (by kernel_rfl) (keepF hbase (below_drew _)) ?_
  iterate 12 (first
    | (refine BigFrame.wpQuiet_skip (by rfl) ?_; simp only [Act.put, List.setIfInBounds_toArray, List.set_cons_zero, List.set_cons_succ])
    | (refine BigFrame.wpQuiet_want (by rfl) (fun K hK => ?_)
       apply quiet_run9
       · intro W hC
         unfold Oper.quietAt
         have HC := Lib.hid hC
         obtain ⟨⟨x0, ⟨x1, x2⟩, x3, x4⟩, _⟩ := hC
         go_simp
         first
           | done
           | with_reducible rfl
           | ((with_reducible refine (HH.out _ (hB0.trans (Below.mono HC.out.2 hB0.size))).mono ?_); exact fun e w' ⟨he, hb⟩ => ⟨he, keepF HC.out hb⟩)
       refine hK _ ?_; clear hK K; simp only [Act.put, List.setIfInBounds_toArray, List.set_cons_zero, List.set_cons_succ]))
  refine wpQuiet_nil ?_
  intro W9 hC9
  go_wp2_with fail
  go_ret
  exact ⟨by first | rfl | exact ret_bool (hA ▸ hq), hB0.trans (hC9.2.mono hB0.size)⟩
set_option maxHeartbeats 2000000 in
theorem fits_0 (nm t0 : ByteArray) (ty : Nat) (rq : Bool) (k0 n0 : Int) (a0 : Option Addr) (len0 cap0 : Nat) (Z : Int) (q : Bool) (hA : bits .and .i64 (ty : Int) (IntKind.i64.wrap 1) = Z) (hq : (Z != 0) = q) (n : Int) (t : ByteArray) (a : Option Addr) (len cap : Nat) (w : World)
    (H : ∀ W, Below w.heap.size w W → Calls Tryd.prog 6 #[.agg #[.int .i64 0, .int .i64 n, .string t, .slice a len cap]] W fun e w' => e = .returned (.bool true) ∧ Below W.heap.size W w') :
    Calls Tryd.prog 28 #[.agg #[.string nm, .int .i64 (ty : Int), .bool rq, .int .i64 k0, .int .i64 n0, .string t0, .slice a0 len0 cap0], .agg #[.int .i64 0, .int .i64 n, .string t, .slice a len cap]] w fun e w' => e = .returned (.bool q) ∧ Below w.heap.size w w' := by
  have hb1 := (Below.refl _ w).alloc (Nat.le_refl _) (.cells #[.string nm, .int .i64 (ty : Int), .bool rq, .int .i64 k0, .int .i64 n0, .string t0, .slice a0 len0 cap0] 39)
  have hb2 := hb1.alloc hb1.size (.cells #[.int .i64 0, .int .i64 n, .string t, .slice a len cap] 24)
  go_enter Tryd.func28, Tryd.ntmps28
  go_wp2
  obtain ⟨W0, hW0⟩ : ∃ W0, (w.alloc (.cells #[.string nm, .int .i64 (ty : Int), .bool rq, .int .i64 k0, .int .i64 n0, .string t0, .slice a0 len0 cap0] 39)).alloc (.cells #[.int .i64 0, .int .i64 n, .string t, .slice a len cap] 24) = W0 := ⟨_, rfl⟩
  obtain ⟨b1, hb1'⟩ : ∃ b, w.heap.size = b := ⟨_, rfl⟩
  obtain ⟨b2, hb2'⟩ : ∃ b, b1 + 1 = b := ⟨_, rfl⟩
  have hbase : (W0.cell? ⟨b1, 1, none⟩ = some (.int .i64 (ty : Int)) ∧ (W0.cell? ⟨b2, 0, none⟩ = some (.int .i64 0) ∧ W0.cell? ⟨b2, 1, none⟩ = some (.int .i64 n)) ∧ W0.cell? ⟨b2, 2, none⟩ = some (.string t) ∧ W0.cell? ⟨b2, 3, none⟩ = some (.slice a len cap)) ∧ Below W0.heap.size W0 W0 := by
    rw [← hW0, ← hb2', ← hb1']
    refine ⟨⟨?_, ⟨?_, ?_⟩, ?_, ?_⟩, Below.refl _ _⟩ <;> simp
  have hB0 : Below w.heap.size w W0 := hW0 ▸ hb2
  rw [hW0, hb1', hb2']
  clear hW0 hb1 hb2 hb1' hb2'
  have HH := Lib.hid H
  clear H
  refine wp_region_quiet (C := fun W => (W.cell? ⟨b1, 1, none⟩ = some (.int .i64 (ty : Int)) ∧ (W.cell? ⟨b2, 0, none⟩ = some (.int .i64 0) ∧ W.cell? ⟨b2, 1, none⟩ = some (.int .i64 n)) ∧ W.cell? ⟨b2, 2, none⟩ = some (.string t) ∧ W.cell? ⟨b2, 3, none⟩ = some (.slice a len cap)) ∧ Below W0.heap.size W0 W) (by kernel_rfl) (by kernel_rfl) (keepF hbase (below_drew _)) ?_
  iterate 12 (first
    | (refine BigFrame.wpQuiet_skip (by rfl) ?_; simp only [Act.put, List.setIfInBounds_toArray, List.set_cons_zero, List.set_cons_succ])
    | (refine BigFrame.wpQuiet_want (by rfl) (fun K hK => ?_)
       apply quiet_run9
       · intro W hC
         unfold Oper.quietAt
         have HC := Lib.hid hC
         obtain ⟨⟨x0, ⟨x1, x2⟩, x3, x4⟩, _⟩ := hC
         go_simp
         first
           | done
           | with_reducible rfl
           | ((with_reducible refine (HH.out _ (hB0.trans (Below.mono HC.out.2 hB0.size))).mono ?_); exact fun e w' ⟨he, hb⟩ => ⟨he, keepF HC.out hb⟩)
       refine hK _ ?_; clear hK K; simp only [Act.put, List.setIfInBounds_toArray, List.set_cons_zero, List.set_cons_succ]))
  refine wpQuiet_nil ?_
  intro W9 hC9
  go_wp2_with fail
  go_ret
  exact ⟨by first | rfl | exact ret_bool (hA ▸ hq), hB0.trans (hC9.2.mono hB0.size)⟩
set_option maxHeartbeats 2000000 in
theorem fits_1 (nm t0 : ByteArray) (ty : Nat) (rq : Bool) (k0 n0 : Int) (a0 : Option Addr) (len0 cap0 : Nat) (Z : Int) (q : Bool) (hA : bits .and .i64 (ty : Int) (IntKind.i64.wrap 2) = Z) (hq : (Z != 0) = q) (n : Int) (t : ByteArray) (a : Option Addr) (len cap : Nat) (w : World)
    (H : ∀ W, Below w.heap.size w W → Calls Tryd.prog 6 #[.agg #[.int .i64 1, .int .i64 n, .string t, .slice a len cap]] W fun e w' => e = .returned (.bool true) ∧ Below W.heap.size W w') :
    Calls Tryd.prog 28 #[.agg #[.string nm, .int .i64 (ty : Int), .bool rq, .int .i64 k0, .int .i64 n0, .string t0, .slice a0 len0 cap0], .agg #[.int .i64 1, .int .i64 n, .string t, .slice a len cap]] w fun e w' => e = .returned (.bool q) ∧ Below w.heap.size w w' := by
  have hb1 := (Below.refl _ w).alloc (Nat.le_refl _) (.cells #[.string nm, .int .i64 (ty : Int), .bool rq, .int .i64 k0, .int .i64 n0, .string t0, .slice a0 len0 cap0] 39)
  have hb2 := hb1.alloc hb1.size (.cells #[.int .i64 1, .int .i64 n, .string t, .slice a len cap] 24)
  go_enter Tryd.func28, Tryd.ntmps28
  go_wp2
  obtain ⟨W0, hW0⟩ : ∃ W0, (w.alloc (.cells #[.string nm, .int .i64 (ty : Int), .bool rq, .int .i64 k0, .int .i64 n0, .string t0, .slice a0 len0 cap0] 39)).alloc (.cells #[.int .i64 1, .int .i64 n, .string t, .slice a len cap] 24) = W0 := ⟨_, rfl⟩
  obtain ⟨b1, hb1'⟩ : ∃ b, w.heap.size = b := ⟨_, rfl⟩
  obtain ⟨b2, hb2'⟩ : ∃ b, b1 + 1 = b := ⟨_, rfl⟩
  have hbase : (W0.cell? ⟨b1, 1, none⟩ = some (.int .i64 (ty : Int)) ∧ (W0.cell? ⟨b2, 0, none⟩ = some (.int .i64 1) ∧ W0.cell? ⟨b2, 1, none⟩ = some (.int .i64 n)) ∧ W0.cell? ⟨b2, 2, none⟩ = some (.string t) ∧ W0.cell? ⟨b2, 3, none⟩ = some (.slice a len cap)) ∧ Below W0.heap.size W0 W0 := by
    rw [← hW0, ← hb2', ← hb1']
    refine ⟨⟨?_, ⟨?_, ?_⟩, ?_, ?_⟩, Below.refl _ _⟩ <;> simp
  have hB0 : Below w.heap.size w W0 := hW0 ▸ hb2
  rw [hW0, hb1', hb2']
  clear hW0 hb1 hb2 hb1' hb2'
  have HH := Lib.hid H
  clear H
  refine wp_region_quiet (C := fun W => (W.cell? ⟨b1, 1, none⟩ = some (.int .i64 (ty : Int)) ∧ (W.cell? ⟨b2, 0, none⟩ = some (.int .i64 1) ∧ W.cell? ⟨b2, 1, none⟩ = some (.int .i64 n)) ∧ W.cell? ⟨b2, 2, none⟩ = some (.string t) ∧ W.cell? ⟨b2, 3, none⟩ = some (.slice a len cap)) ∧ Below W0.heap.size W0 W) (by kernel_rfl) (by kernel_rfl) (keepF hbase (below_drew _)) ?_
  iterate 12 (first
    | (refine BigFrame.wpQuiet_skip (by rfl) ?_; simp only [Act.put, List.setIfInBounds_toArray, List.set_cons_zero, List.set_cons_succ])
    | (refine BigFrame.wpQuiet_want (by rfl) (fun K hK => ?_)
       apply quiet_run9
       · intro W hC
         unfold Oper.quietAt
         have HC := Lib.hid hC
         obtain ⟨⟨x0, ⟨x1, x2⟩, x3, x4⟩, _⟩ := hC
         go_simp
         first
           | done
           | with_reducible rfl
           | ((with_reducible refine (HH.out _ (hB0.trans (Below.mono HC.out.2 hB0.size))).mono ?_); exact fun e w' ⟨he, hb⟩ => ⟨he, keepF HC.out hb⟩)
       refine hK _ ?_; clear hK K; simp only [Act.put, List.setIfInBounds_toArray, List.set_cons_zero, List.set_cons_succ]))
  refine wpQuiet_nil ?_
  intro W9 hC9
  go_wp2_with fail
  go_ret
  exact ⟨by first | rfl | exact ret_bool (hA ▸ hq), hB0.trans (hC9.2.mono hB0.size)⟩
set_option maxHeartbeats 2000000 in
theorem fits_2 (nm t0 : ByteArray) (ty : Nat) (rq : Bool) (k0 n0 : Int) (a0 : Option Addr) (len0 cap0 : Nat) (Z : Int) (q : Bool) (hA : bits .and .i64 (ty : Int) (IntKind.i64.wrap 4) = Z) (hq : (Z != 0) = q) (n : Int) (t : ByteArray) (a : Option Addr) (len cap : Nat) (w : World)
    (H : ∀ W, Below w.heap.size w W → Calls Tryd.prog 6 #[.agg #[.int .i64 2, .int .i64 n, .string t, .slice a len cap]] W fun e w' => e = .returned (.bool true) ∧ Below W.heap.size W w') :
    Calls Tryd.prog 28 #[.agg #[.string nm, .int .i64 (ty : Int), .bool rq, .int .i64 k0, .int .i64 n0, .string t0, .slice a0 len0 cap0], .agg #[.int .i64 2, .int .i64 n, .string t, .slice a len cap]] w fun e w' => e = .returned (.bool q) ∧ Below w.heap.size w w' := by
  have hb1 := (Below.refl _ w).alloc (Nat.le_refl _) (.cells #[.string nm, .int .i64 (ty : Int), .bool rq, .int .i64 k0, .int .i64 n0, .string t0, .slice a0 len0 cap0] 39)
  have hb2 := hb1.alloc hb1.size (.cells #[.int .i64 2, .int .i64 n, .string t, .slice a len cap] 24)
  go_enter Tryd.func28, Tryd.ntmps28
  go_wp2
  obtain ⟨W0, hW0⟩ : ∃ W0, (w.alloc (.cells #[.string nm, .int .i64 (ty : Int), .bool rq, .int .i64 k0, .int .i64 n0, .string t0, .slice a0 len0 cap0] 39)).alloc (.cells #[.int .i64 2, .int .i64 n, .string t, .slice a len cap] 24) = W0 := ⟨_, rfl⟩
  obtain ⟨b1, hb1'⟩ : ∃ b, w.heap.size = b := ⟨_, rfl⟩
  obtain ⟨b2, hb2'⟩ : ∃ b, b1 + 1 = b := ⟨_, rfl⟩
  have hbase : (W0.cell? ⟨b1, 1, none⟩ = some (.int .i64 (ty : Int)) ∧ (W0.cell? ⟨b2, 0, none⟩ = some (.int .i64 2) ∧ W0.cell? ⟨b2, 1, none⟩ = some (.int .i64 n)) ∧ W0.cell? ⟨b2, 2, none⟩ = some (.string t) ∧ W0.cell? ⟨b2, 3, none⟩ = some (.slice a len cap)) ∧ Below W0.heap.size W0 W0 := by
    rw [← hW0, ← hb2', ← hb1']
    refine ⟨⟨?_, ⟨?_, ?_⟩, ?_, ?_⟩, Below.refl _ _⟩ <;> simp
  have hB0 : Below w.heap.size w W0 := hW0 ▸ hb2
  rw [hW0, hb1', hb2']
  clear hW0 hb1 hb2 hb1' hb2'
  have HH := Lib.hid H
  clear H
  refine wp_region_quiet (C := fun W => (W.cell? ⟨b1, 1, none⟩ = some (.int .i64 (ty : Int)) ∧ (W.cell? ⟨b2, 0, none⟩ = some (.int .i64 2) ∧ W.cell? ⟨b2, 1, none⟩ = some (.int .i64 n)) ∧ W.cell? ⟨b2, 2, none⟩ = some (.string t) ∧ W.cell? ⟨b2, 3, none⟩ = some (.slice a len cap)) ∧ Below W0.heap.size W0 W) (by kernel_rfl) (by kernel_rfl) (keepF hbase (below_drew _)) ?_
  iterate 12 (first
    | (refine BigFrame.wpQuiet_skip (by rfl) ?_; simp only [Act.put, List.setIfInBounds_toArray, List.set_cons_zero, List.set_cons_succ])
    | (refine BigFrame.wpQuiet_want (by rfl) (fun K hK => ?_)
       apply quiet_run9
       · intro W hC
         unfold Oper.quietAt
         have HC := Lib.hid hC
         obtain ⟨⟨x0, ⟨x1, x2⟩, x3, x4⟩, _⟩ := hC
         go_simp
         first
           | done
           | with_reducible rfl
           | ((with_reducible refine (HH.out _ (hB0.trans (Below.mono HC.out.2 hB0.size))).mono ?_); exact fun e w' ⟨he, hb⟩ => ⟨he, keepF HC.out hb⟩)
       refine hK _ ?_; clear hK K; simp only [Act.put, List.setIfInBounds_toArray, List.set_cons_zero, List.set_cons_succ]))
  refine wpQuiet_nil ?_
  intro W9 hC9
  go_wp2_with fail
  go_ret
  exact ⟨by first | rfl | exact ret_bool (hA ▸ hq), hB0.trans (hC9.2.mono hB0.size)⟩
set_option maxHeartbeats 2000000 in
theorem fits_3 (nm t0 : ByteArray) (ty : Nat) (rq : Bool) (k0 n0 : Int) (a0 : Option Addr) (len0 cap0 : Nat) (Z : Int) (q : Bool) (hA : bits .and .i64 (ty : Int) (IntKind.i64.wrap 8) = Z) (hq : (Z != 0) = q) (n : Int) (t : ByteArray) (a : Option Addr) (len cap : Nat) (w : World)
    (H : ∀ W, Below w.heap.size w W → Calls Tryd.prog 6 #[.agg #[.int .i64 3, .int .i64 n, .string t, .slice a len cap]] W fun e w' => e = .returned (.bool true) ∧ Below W.heap.size W w') :
    Calls Tryd.prog 28 #[.agg #[.string nm, .int .i64 (ty : Int), .bool rq, .int .i64 k0, .int .i64 n0, .string t0, .slice a0 len0 cap0], .agg #[.int .i64 3, .int .i64 n, .string t, .slice a len cap]] w fun e w' => e = .returned (.bool q) ∧ Below w.heap.size w w' := by
  have hb1 := (Below.refl _ w).alloc (Nat.le_refl _) (.cells #[.string nm, .int .i64 (ty : Int), .bool rq, .int .i64 k0, .int .i64 n0, .string t0, .slice a0 len0 cap0] 39)
  have hb2 := hb1.alloc hb1.size (.cells #[.int .i64 3, .int .i64 n, .string t, .slice a len cap] 24)
  go_enter Tryd.func28, Tryd.ntmps28
  go_wp2
  obtain ⟨W0, hW0⟩ : ∃ W0, (w.alloc (.cells #[.string nm, .int .i64 (ty : Int), .bool rq, .int .i64 k0, .int .i64 n0, .string t0, .slice a0 len0 cap0] 39)).alloc (.cells #[.int .i64 3, .int .i64 n, .string t, .slice a len cap] 24) = W0 := ⟨_, rfl⟩
  obtain ⟨b1, hb1'⟩ : ∃ b, w.heap.size = b := ⟨_, rfl⟩
  obtain ⟨b2, hb2'⟩ : ∃ b, b1 + 1 = b := ⟨_, rfl⟩
  have hbase : (W0.cell? ⟨b1, 1, none⟩ = some (.int .i64 (ty : Int)) ∧ (W0.cell? ⟨b2, 0, none⟩ = some (.int .i64 3) ∧ W0.cell? ⟨b2, 1, none⟩ = some (.int .i64 n)) ∧ W0.cell? ⟨b2, 2, none⟩ = some (.string t) ∧ W0.cell? ⟨b2, 3, none⟩ = some (.slice a len cap)) ∧ Below W0.heap.size W0 W0 := by
    rw [← hW0, ← hb2', ← hb1']
    refine ⟨⟨?_, ⟨?_, ?_⟩, ?_, ?_⟩, Below.refl _ _⟩ <;> simp
  have hB0 : Below w.heap.size w W0 := hW0 ▸ hb2
  rw [hW0, hb1', hb2']
  clear hW0 hb1 hb2 hb1' hb2'
  have HH := Lib.hid H
  clear H
  refine wp_region_quiet (C := fun W => (W.cell? ⟨b1, 1, none⟩ = some (.int .i64 (ty : Int)) ∧ (W.cell? ⟨b2, 0, none⟩ = some (.int .i64 3) ∧ W.cell? ⟨b2, 1, none⟩ = some (.int .i64 n)) ∧ W.cell? ⟨b2, 2, none⟩ = some (.string t) ∧ W.cell? ⟨b2, 3, none⟩ = some (.slice a len cap)) ∧ Below W0.heap.size W0 W) (by kernel_rfl) (by kernel_rfl) (keepF hbase (below_drew _)) ?_
  iterate 12 (first
    | (refine BigFrame.wpQuiet_skip (by rfl) ?_; simp only [Act.put, List.setIfInBounds_toArray, List.set_cons_zero, List.set_cons_succ])
    | (refine BigFrame.wpQuiet_want (by rfl) (fun K hK => ?_)
       apply quiet_run9
       · intro W hC
         unfold Oper.quietAt
         have HC := Lib.hid hC
         obtain ⟨⟨x0, ⟨x1, x2⟩, x3, x4⟩, _⟩ := hC
         go_simp
         first
           | done
           | with_reducible rfl
           | ((with_reducible refine (HH.out _ (hB0.trans (Below.mono HC.out.2 hB0.size))).mono ?_); exact fun e w' ⟨he, hb⟩ => ⟨he, keepF HC.out hb⟩)
       refine hK _ ?_; clear hK K; simp only [Act.put, List.setIfInBounds_toArray, List.set_cons_zero, List.set_cons_succ]))
  refine wpQuiet_nil ?_
  intro W9 hC9
  go_wp2_with fail
  go_ret
  exact ⟨by first | rfl | exact ret_bool (hA ▸ hq), hB0.trans (hC9.2.mono hB0.size)⟩
set_option maxHeartbeats 2000000 in
theorem fits_4 (nm t0 : ByteArray) (ty : Nat) (rq : Bool) (k0 n0 : Int) (a0 : Option Addr) (len0 cap0 : Nat) (Z : Int) (q : Bool) (hA : bits .and .i64 (ty : Int) (IntKind.i64.wrap 16) = Z) (hq : (Z != 0) = q) (n : Int) (t : ByteArray) (a : Option Addr) (len cap : Nat) (w : World)
    (H : ∀ W, Below w.heap.size w W → Calls Tryd.prog 6 #[.agg #[.int .i64 4, .int .i64 n, .string t, .slice a len cap]] W fun e w' => e = .returned (.bool true) ∧ Below W.heap.size W w') :
    Calls Tryd.prog 28 #[.agg #[.string nm, .int .i64 (ty : Int), .bool rq, .int .i64 k0, .int .i64 n0, .string t0, .slice a0 len0 cap0], .agg #[.int .i64 4, .int .i64 n, .string t, .slice a len cap]] w fun e w' => e = .returned (.bool q) ∧ Below w.heap.size w w' := by
  have hb1 := (Below.refl _ w).alloc (Nat.le_refl _) (.cells #[.string nm, .int .i64 (ty : Int), .bool rq, .int .i64 k0, .int .i64 n0, .string t0, .slice a0 len0 cap0] 39)
  have hb2 := hb1.alloc hb1.size (.cells #[.int .i64 4, .int .i64 n, .string t, .slice a len cap] 24)
  go_enter Tryd.func28, Tryd.ntmps28
  go_wp2
  obtain ⟨W0, hW0⟩ : ∃ W0, (w.alloc (.cells #[.string nm, .int .i64 (ty : Int), .bool rq, .int .i64 k0, .int .i64 n0, .string t0, .slice a0 len0 cap0] 39)).alloc (.cells #[.int .i64 4, .int .i64 n, .string t, .slice a len cap] 24) = W0 := ⟨_, rfl⟩
  obtain ⟨b1, hb1'⟩ : ∃ b, w.heap.size = b := ⟨_, rfl⟩
  obtain ⟨b2, hb2'⟩ : ∃ b, b1 + 1 = b := ⟨_, rfl⟩
  have hbase : (W0.cell? ⟨b1, 1, none⟩ = some (.int .i64 (ty : Int)) ∧ (W0.cell? ⟨b2, 0, none⟩ = some (.int .i64 4) ∧ W0.cell? ⟨b2, 1, none⟩ = some (.int .i64 n)) ∧ W0.cell? ⟨b2, 2, none⟩ = some (.string t) ∧ W0.cell? ⟨b2, 3, none⟩ = some (.slice a len cap)) ∧ Below W0.heap.size W0 W0 := by
    rw [← hW0, ← hb2', ← hb1']
    refine ⟨⟨?_, ⟨?_, ?_⟩, ?_, ?_⟩, Below.refl _ _⟩ <;> simp
  have hB0 : Below w.heap.size w W0 := hW0 ▸ hb2
  rw [hW0, hb1', hb2']
  clear hW0 hb1 hb2 hb1' hb2'
  have HH := Lib.hid H
  clear H
  refine wp_region_quiet (C := fun W => (W.cell? ⟨b1, 1, none⟩ = some (.int .i64 (ty : Int)) ∧ (W.cell? ⟨b2, 0, none⟩ = some (.int .i64 4) ∧ W.cell? ⟨b2, 1, none⟩ = some (.int .i64 n)) ∧ W.cell? ⟨b2, 2, none⟩ = some (.string t) ∧ W.cell? ⟨b2, 3, none⟩ = some (.slice a len cap)) ∧ Below W0.heap.size W0 W) (by kernel_rfl) (by kernel_rfl) (keepF hbase (below_drew _)) ?_
  iterate 12 (first
    | (refine BigFrame.wpQuiet_skip (by rfl) ?_; simp only [Act.put, List.setIfInBounds_toArray, List.set_cons_zero, List.set_cons_succ])
    | (refine BigFrame.wpQuiet_want (by rfl) (fun K hK => ?_)
       apply quiet_run9
       · intro W hC
         unfold Oper.quietAt
         have HC := Lib.hid hC
         obtain ⟨⟨x0, ⟨x1, x2⟩, x3, x4⟩, _⟩ := hC
         go_simp
         first
           | done
           | with_reducible rfl
           | ((with_reducible refine (HH.out _ (hB0.trans (Below.mono HC.out.2 hB0.size))).mono ?_); exact fun e w' ⟨he, hb⟩ => ⟨he, keepF HC.out hb⟩)
       refine hK _ ?_; clear hK K; simp only [Act.put, List.setIfInBounds_toArray, List.set_cons_zero, List.set_cons_succ]))
  refine wpQuiet_nil ?_
  intro W9 hC9
  go_wp2_with fail
  go_ret
  exact ⟨by first | rfl | exact ret_bool (hA ▸ hq), hB0.trans (hC9.2.mono hB0.size)⟩
set_option maxHeartbeats 2000000 in
theorem fits_5 (nm t0 : ByteArray) (ty : Nat) (rq : Bool) (k0 n0 : Int) (a0 : Option Addr) (len0 cap0 : Nat) (Z : Int) (q : Bool) (hA : bits .and .i64 (ty : Int) (IntKind.i64.wrap 32) = Z) (hq : (Z != 0) = q) (n : Int) (t : ByteArray) (a : Option Addr) (len cap : Nat) (w : World)
    (H : ∀ W, Below w.heap.size w W → Calls Tryd.prog 6 #[.agg #[.int .i64 5, .int .i64 n, .string t, .slice a len cap]] W fun e w' => e = .returned (.bool true) ∧ Below W.heap.size W w') :
    Calls Tryd.prog 28 #[.agg #[.string nm, .int .i64 (ty : Int), .bool rq, .int .i64 k0, .int .i64 n0, .string t0, .slice a0 len0 cap0], .agg #[.int .i64 5, .int .i64 n, .string t, .slice a len cap]] w fun e w' => e = .returned (.bool q) ∧ Below w.heap.size w w' := by
  have hb1 := (Below.refl _ w).alloc (Nat.le_refl _) (.cells #[.string nm, .int .i64 (ty : Int), .bool rq, .int .i64 k0, .int .i64 n0, .string t0, .slice a0 len0 cap0] 39)
  have hb2 := hb1.alloc hb1.size (.cells #[.int .i64 5, .int .i64 n, .string t, .slice a len cap] 24)
  go_enter Tryd.func28, Tryd.ntmps28
  go_wp2
  obtain ⟨W0, hW0⟩ : ∃ W0, (w.alloc (.cells #[.string nm, .int .i64 (ty : Int), .bool rq, .int .i64 k0, .int .i64 n0, .string t0, .slice a0 len0 cap0] 39)).alloc (.cells #[.int .i64 5, .int .i64 n, .string t, .slice a len cap] 24) = W0 := ⟨_, rfl⟩
  obtain ⟨b1, hb1'⟩ : ∃ b, w.heap.size = b := ⟨_, rfl⟩
  obtain ⟨b2, hb2'⟩ : ∃ b, b1 + 1 = b := ⟨_, rfl⟩
  have hbase : (W0.cell? ⟨b1, 1, none⟩ = some (.int .i64 (ty : Int)) ∧ (W0.cell? ⟨b2, 0, none⟩ = some (.int .i64 5) ∧ W0.cell? ⟨b2, 1, none⟩ = some (.int .i64 n)) ∧ W0.cell? ⟨b2, 2, none⟩ = some (.string t) ∧ W0.cell? ⟨b2, 3, none⟩ = some (.slice a len cap)) ∧ Below W0.heap.size W0 W0 := by
    rw [← hW0, ← hb2', ← hb1']
    refine ⟨⟨?_, ⟨?_, ?_⟩, ?_, ?_⟩, Below.refl _ _⟩ <;> simp
  have hB0 : Below w.heap.size w W0 := hW0 ▸ hb2
  rw [hW0, hb1', hb2']
  clear hW0 hb1 hb2 hb1' hb2'
  have HH := Lib.hid H
  clear H
  refine wp_region_quiet (C := fun W => (W.cell? ⟨b1, 1, none⟩ = some (.int .i64 (ty : Int)) ∧ (W.cell? ⟨b2, 0, none⟩ = some (.int .i64 5) ∧ W.cell? ⟨b2, 1, none⟩ = some (.int .i64 n)) ∧ W.cell? ⟨b2, 2, none⟩ = some (.string t) ∧ W.cell? ⟨b2, 3, none⟩ = some (.slice a len cap)) ∧ Below W0.heap.size W0 W) (by kernel_rfl) (by kernel_rfl) (keepF hbase (below_drew _)) ?_
  iterate 12 (first
    | (refine BigFrame.wpQuiet_skip (by rfl) ?_; simp only [Act.put, List.setIfInBounds_toArray, List.set_cons_zero, List.set_cons_succ])
    | (refine BigFrame.wpQuiet_want (by rfl) (fun K hK => ?_)
       apply quiet_run9
       · intro W hC
         unfold Oper.quietAt
         have HC := Lib.hid hC
         obtain ⟨⟨x0, ⟨x1, x2⟩, x3, x4⟩, _⟩ := hC
         go_simp
         first
           | done
           | with_reducible rfl
           | ((with_reducible refine (HH.out _ (hB0.trans (Below.mono HC.out.2 hB0.size))).mono ?_); exact fun e w' ⟨he, hb⟩ => ⟨he, keepF HC.out hb⟩)
       refine hK _ ?_; clear hK K; simp only [Act.put, List.setIfInBounds_toArray, List.set_cons_zero, List.set_cons_succ]))
  refine wpQuiet_nil ?_
  intro W9 hC9
  go_wp2_with fail
  go_ret
  exact ⟨by first | rfl | exact ret_bool (hA ▸ hq), hB0.trans (hC9.2.mono hB0.size)⟩
set_option maxHeartbeats 2000000 in
theorem fits_any (s : SlotM) (v : PV) (hsz : szV v ≤ 1000000) (h0 : 0 ≤ s.ty) (w : World) (x y : Value) (hs : IsSlot w s x) (hv : Is w v y) : Calls Tryd.prog 28 #[x, y] w fun e w' => e = .returned (.bool (Sc.fits s.ty v)) ∧ Below w.heap.size w w' := by
  obtain ⟨k0, n0, t0, a0, len0, cap0, rfl, hI, hnm, hd⟩ := slot7_form hs
  have hR := fun W (hb : Below w.heap.size w W) => right_any v hsz W y (is_below hb _ _ hv)
  obtain ⟨ty, hty⟩ : ∃ ty : Nat, s.ty = (ty : Int) := ⟨s.ty.toNat, by omega⟩
  cases v with
  | mk k n t l =>
  unfold Is at hv
  obtain ⟨hk, hn, ht, a, cap, rfl, _⟩ := hv
  have hfit : Sc.fits s.ty (.mk k n t l) = (rightV (.mk k n t l) && Sc.has ty k.toNat) := by unfold Sc.fits Sc.kindV; rw [hty]; rfl
  rw [hfit, hty]
  have hI1 : (ty : Int) ≤ 9223372036854775807 := by unfold I64 at hI; omega
  obtain ⟨r, hr⟩ : ∃ r, rightV (.mk k n t l) = r := ⟨_, rfl⟩
  have hkk := right_kind (k := k) (n := n) (s := t) (l := l)
  rw [hr] at hR hkk ⊢
  cases r with
  | false => exact fits_no _ _ _ _ _ _ _ _ _ k _ _ _ _ _ w hR
  | true =>
    obtain ⟨hk0, hk5⟩ := hkk rfl
    obtain ⟨kn, hkn⟩ : ∃ kn : Nat, k = (kn : Int) := ⟨k.toNat, by omega⟩
    subst hkn
    rw [Int.toNat_natCast, Bool.true_and]
    have hZ := Sc.andI ty (2 ^ kn) (by omega) (by have := Nat.pow_le_pow_right (n := 2) (by omega) (show kn ≤ 5 by omega); omega)
    have hq : ((((ty &&& 2 ^ kn : Nat) : Int)) != 0) = Sc.has ty kn := by
      have := Sc.and_has ty kn
      by_cases h : ty &&& 2 ^ kn = 0
      · rw [decide_eq_true h] at this
        rw [h]
        have h2 : Sc.has ty kn = false := by cases hx : Sc.has ty kn <;> rw [hx] at this <;> simp at this ⊢
        rw [h2]; rfl
      · rw [decide_eq_false h] at this
        have h2 : Sc.has ty kn = true := by cases hx : Sc.has ty kn <;> rw [hx] at this <;> simp at this ⊢
        rw [h2]
        simp
        omega
    have hkn5 : kn = 0 ∨ kn = 1 ∨ kn = 2 ∨ kn = 3 ∨ kn = 4 ∨ kn = 5 := by omega
    rcases hkn5 with rfl | rfl | rfl | rfl | rfl | rfl
    · exact fits_0 _ _ _ _ _ _ _ _ _ _ _ hZ hq _ _ _ _ _ w hR
    · exact fits_1 _ _ _ _ _ _ _ _ _ _ _ hZ hq _ _ _ _ _ w hR
    · exact fits_2 _ _ _ _ _ _ _ _ _ _ _ hZ hq _ _ _ _ _ w hR
    · exact fits_3 _ _ _ _ _ _ _ _ _ _ _ hZ hq _ _ _ _ _ w hR
    · exact fits_4 _ _ _ _ _ _ _ _ _ _ _ hZ hq _ _ _ _ _ w hR
    · exact fits_5 _ _ _ _ _ _ _ _ _ _ _ hZ hq _ _ _ _ _ w hR
end Go.Proofs.YtcicjpdjbfgbhaaDoor
