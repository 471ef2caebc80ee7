/- Reading JSON: whole. -/
import Derived.Test.YtpiajoffddjjfaaGreatDoorMg43Jso
set_option linter.unusedVariables false
namespace Go.Proofs.YtpiajoffddjjfaaGreatDoor
open Go.RowKit Go.Shelf
theorem grownJ_belowB {w W V : World} {row : Option Nat} (h : w.grownBy W row) (k : Below w.heap.size W V) : w.grownBy V row := by
  obtain ⟨a1, a2, a3, a4, a5⟩ := h
  obtain ⟨b1, b2, b3, b4, b5⟩ := k
  exact ⟨b1.trans a1, b2.trans a2, b3.trans a3, Nat.le_trans a4 b4, fun j hj hne => (b5 j hj).trans (a5 j hj hne)⟩
theorem err_lt {w : World} (h : Err w) : 1 < w.heap.size := by
  obtain ⟨ev, h1, _⟩ := h
  simp only [World.cell?] at h1
  rcases Nat.lt_or_ge 1 w.heap.size with h | h
  · exact h
  · rw [Array.getElem?_eq_none h] at h1; cases h1
theorem loadInt (w : World) (b : Nat) (v : Value) (h : w.cell? ⟨b, 0, none⟩ = some v) : (loadVar 3 ⟨b, 0, none⟩).run Tryz.prog w = .ok v w := by
  simp [loadVar, isAgg, Sem.run_bind, run_underlying Tryz.underlying3, go_sem, h]
theorem loadErrno (w : World) (b : Nat) (v : Value) (h : w.cell? ⟨b, 0, none⟩ = some v) : (loadVar 32 ⟨b, 0, none⟩).run Tryz.prog w = .ok v w := by
  simp [loadVar, isAgg, Sem.run_bind, run_underlying Tryz.underlying32, go_sem, h]
theorem results3 {tmps : Array Value} {w : World} {b1 b2 b3 : Nat} {x er : Int} {c0 c1 c2 c3 c4 : Value} (h1 : tmps[2]?.getD undef = .pointer (some ⟨b1, 0, none⟩)) (h2 : tmps[3]?.getD undef = .pointer (some ⟨b2, 0, none⟩)) (h3 : tmps[4]?.getD undef = .pointer (some ⟨b3, 0, none⟩))
    (hj : JAt w b1 #[c0, c1, c2, c3, c4]) (hb2 : Boxed w b2 3 (.int .i64 x)) (hb3 : Boxed w b3 32 (.int .i64 er)) :
    (results Tryz.f20 tmps).run Tryz.prog w = .ok (.tuple #[.agg #[c0, c1, c2, c3, c4], .int .i64 x, .int .i64 er]) w := by
  have e1 := run_loadVar_row (P := Tryz.prog) w b1 25 25 #[c0, c1, c2, c3, c4] (0, 0) _ hj Tryz.underlying25 rfl json_info
  simp [results, Tryz.results20, h1, h2, h3, asAddr, e1, loadInt w b2 _ hb2.cell, loadErrno w b3 _ hb3.cell, Result.andThen]
set_option maxRecDepth 100000 in
set_option maxHeartbeats 4000000 in
theorem whole_bad (s : ByteArray) (p room : Nat) (W : World) (hr : RJ W p s 0 room) (hE : Err W) (t : K.Tok) (p1 : Nat) (a er : Int)
    (hN : ∀ V, RJ V p s 0 room → Err V → Calls Tryz.prog 26 #[.pointer (some ⟨p, 0, none⟩)] V (NxR p s room V (.inr (t, p1))))
    (hT : ∀ V, RJ V p s p1 room → Err V → Calls Tryz.prog 25 #[.pointer (some ⟨p, 0, none⟩), tokV t] V (ThR p s room V (.inl (a, er)))) :
    Calls Tryz.prog 20 #[.pointer (some ⟨p, 0, none⟩)] W fun e w' => e = .returned (.tuple #[.agg jzero, .int .i64 a, .int .i64 er]) ∧ W.grownBy w' (some p) := by
  have hmf : ∀ (fn : Fn) (first cap : Array Value) (w : World), (Instr.makeFunc fn first cap).run Tryz.prog w = .ok (.func fn first cap) w := fun _ _ _ _ => rfl
  have hpW := rj_lt hr
  have hA1 := (Below.refl _ W).alloc (Nat.le_refl _) (.cells jzero 25)
  have hA2 := hA1.alloc hA1.size (.cells #[.int .i64 0] 3)
  have hA3 := hA2.alloc hA2.size (.cells #[.int .i64 0] 32)
  have hz1 : JAt (((W.alloc (.cells jzero 25)).alloc (.cells #[.int .i64 0] 3)).alloc (.cells #[.int .i64 0] 32)) W.heap.size jzero := jat_old (jat_old (jat_alloc W jzero) _) _
  have hz2 : Boxed (((W.alloc (.cells jzero 25)).alloc (.cells #[.int .i64 0] 3)).alloc (.cells #[.int .i64 0] 32)) (W.heap.size + 1) 3 (.int .i64 0) := by
    have := (Boxed.new (W.alloc (.cells jzero 25)) 3 (.int .i64 0)).alloc (.cells #[.int .i64 0] 32)
    rwa [World.size_alloc] at this
  have hz3 : Boxed (((W.alloc (.cells jzero 25)).alloc (.cells #[.int .i64 0] 3)).alloc (.cells #[.int .i64 0] 32)) (W.heap.size + 1 + 1) 32 (.int .i64 0) := by
    have := Boxed.new ((W.alloc (.cells jzero 25)).alloc (.cells #[.int .i64 0] 3)) 32 (.int .i64 0)
    rwa [World.size_alloc, World.size_alloc] at this
  have hN' := hN _ (rj_below hr hA3) (err_below hE hA3)
  have hE3 := err_below hE hA3
  have hr3 := rj_below hr hA3
  obtain ⟨tk, ta, te, ts, tn⟩ := t
  unfold NxR at hN'
  simp only [tokV, tokC] at hN' hT
  go_enter_defers Tryz.func20, Tryz.ntmps20
  go_wp2_with (first
    | (go_at_call 26; (with_reducible refine hN'.mono ?_); rintro e w1 ⟨rfl, hr1, hg1⟩)
    | (go_at_call 25; (with_reducible refine (hT _ hr1 (err_rj hE3 hr3 hg1)).mono ?_); rintro e w2 ⟨rfl, hg2⟩))
  have hg02 : (((W.alloc (.cells jzero 25)).alloc (.cells #[.int .i64 0] 3)).alloc (.cells #[.int .i64 0] 32)).grownBy w2 (some p) := grownJ_then hg1 hg2 (fun b e => .inr e)
  have z1 : JAt w2 W.heap.size jzero := (hg02.block _ (jat_lt hz1) (fun e => by cases e; omega)).trans hz1
  have z2 : Boxed w2 (W.heap.size + 1) _ _ := (hg02.block _ hz2.lt (fun e => by cases e; omega)).trans hz2
  have z3 : Boxed w2 (W.heap.size + 1 + 1) _ _ := (hg02.block _ hz3.lt (fun e => by cases e; omega)).trans hz3
  have hW2 : W.grownBy w2 (some p) := grownJ_then (grownJ_of_below hA3 (some p)) hg02 (fun b e => .inr e)
  refine leaves_cons (f := 24) (args := #[.pointer (some ⟨W.heap.size, 0, none⟩), .pointer (some ⟨W.heap.size + 1, 0, none⟩), .pointer (some ⟨W.heap.size + 1 + 1, 0, none⟩)]) (by simp) (by simp [go_sem]) ?_
  refine (whole1_wrong _ _ _ a er w2 _ _ _ _ _ z1 z2 z3 (by omega) (by omega) (by omega)).mono ?_
  rintro e u' w3 ⟨⟨v, rfl⟩, rfl, hj, hb2, hb3, hBel⟩
  exact ⟨_, results3 (tmps := _) rfl rfl rfl hj hb2 hb3, rfl, grownJ_belowB hW2 (hBel W.heap.size (by omega) (by omega) (by omega) hW2.size)⟩
theorem wgood_fin {W w1 w4 V : World} {p : Nat} {v : JV} {k n : Int} {x : ByteArray} {na : Option Addr} {nl nc : Nat} {a : Option Addr} {len cap : Nat} {sz : Int} {e0 e1 e2 e3 e4 : Value} (hz1 : JAt w4 W.heap.size #[e0, e1, e2, e3, e4]) (hz2 : Boxed w4 (W.heap.size + 1) 3 (.int .i64 0)) (hz3 : Boxed w4 (W.heap.size + 1 + 1) 32 (.int .i64 0))
    (hf : FreshJ w1.heap.size w4 v (.agg #[.int .i64 k, .int .i64 n, .string x, .slice na nl nc, .slice a len cap])) (hw : W.heap.size + 3 ≤ w1.heap.size) (hg : W.grownBy w4 (some p))
    (hV : V = (((((((w4.setCell ⟨W.heap.size, 0, none⟩ (.int .i64 k)).setCell ⟨W.heap.size, 1, none⟩ (.int .i64 n)).setCell ⟨W.heap.size, 2, none⟩ (.string x)).setCell ⟨W.heap.size, 3, none⟩ (.slice na nl nc)).setCell ⟨W.heap.size, 4, none⟩ (.slice a len cap)).setCell ⟨W.heap.size + 1, 0, none⟩ (.int .i64 sz)).setCell ⟨W.heap.size + 1 + 1, 0, none⟩ (.int .i64 0)).drew) :
    JAt V W.heap.size #[.int .i64 k, .int .i64 n, .string x, .slice na nl nc, .slice a len cap] ∧ Boxed V (W.heap.size + 1) 3 (.int .i64 sz) ∧ Boxed V (W.heap.size + 1 + 1) 32 (.int .i64 0) ∧ FreshJ W.heap.size V v (.agg #[.int .i64 k, .int .i64 n, .string x, .slice na nl nc, .slice a len cap]) ∧ W.grownBy V (some p) := by
  have hb9 : Below W.heap.size w4 V := by
    rw [hV]
    exact (((jbelow_set5 (Below.refl _ w4) (Nat.le_refl _) 0 1 2 3 4 (.int .i64 k) (.int .i64 n) (.string x) (.slice na nl nc) (.slice a len cap)).setCell (p := ⟨W.heap.size + 1, 0, none⟩) (by simp) (.int .i64 sz)).setCell (p := ⟨W.heap.size + 1 + 1, 0, none⟩) (by simp; omega) (.int .i64 0)).drew
  have k1 := heapJ_set5 w4 W.heap.size (.int .i64 k) (.int .i64 n) (.string x) (.slice na nl nc) (.slice a len cap)
  have z1 := jat_set5 hz1 (.int .i64 k) (.int .i64 n) (.string x) (.slice na nl nc) (.slice a len cap)
  obtain ⟨A, hA⟩ : ∃ A, ((((w4.setCell ⟨W.heap.size, 0, none⟩ (.int .i64 k)).setCell ⟨W.heap.size, 1, none⟩ (.int .i64 n)).setCell ⟨W.heap.size, 2, none⟩ (.string x)).setCell ⟨W.heap.size, 3, none⟩ (.slice na nl nc)).setCell ⟨W.heap.size, 4, none⟩ (.slice a len cap) = A := ⟨_, rfl⟩
  rw [hA] at k1 z1 hV
  have h2' : Boxed A (W.heap.size + 1) _ _ := (k1 _ (by omega)).trans hz2
  have h3' : Boxed A (W.heap.size + 1 + 1) _ _ := (k1 _ (by omega)).trans hz3
  have e : V.heap = ((A.setCell ⟨W.heap.size + 1, 0, none⟩ (.int .i64 sz)).setCell ⟨W.heap.size + 1 + 1, 0, none⟩ (.int .i64 0)).heap := by rw [hV]; rfl
  have y1 := jat_other (jat_other z1 (show W.heap.size ≠ W.heap.size + 1 by omega) 0 (.int .i64 sz)) (show W.heap.size ≠ W.heap.size + 1 + 1 by omega) 0 (.int .i64 0)
  have y2 : Boxed ((A.setCell ⟨W.heap.size + 1, 0, none⟩ (.int .i64 sz)).setCell ⟨W.heap.size + 1 + 1, 0, none⟩ (.int .i64 0)) (W.heap.size + 1) 3 (.int .i64 sz) := (heap_set9 _ _ _ _ _ (by omega)).trans (Boxed.set (.int .i64 sz) h2')
  have y3 : Boxed ((A.setCell ⟨W.heap.size + 1, 0, none⟩ (.int .i64 sz)).setCell ⟨W.heap.size + 1 + 1, 0, none⟩ (.int .i64 0)) (W.heap.size + 1 + 1) 32 (.int .i64 0) := Boxed.set (.int .i64 0) (show Boxed (A.setCell ⟨W.heap.size + 1, 0, none⟩ (.int .i64 sz)) (W.heap.size + 1 + 1) _ _ from (heap_set9 _ _ _ _ _ (by omega)).trans h3')
  have hk : ∀ b, w1.heap.size ≤ b → b < w4.heap.size → V.heap[b]? = w4.heap[b]? := fun b b1 b2 => by
    rw [e]
    exact (heap_set9 _ _ _ _ b (by omega)).trans ((heap_set9 _ _ _ _ b (by omega)).trans (k1 b (by omega)))
  refine ⟨?_, ?_, ?_, freshJ_mono (freshJ_later hf hb9.size (fun b b1 b2 _ => hk b b1 b2)) (by omega), grownJ_belowB hg hb9⟩
  · unfold JAt at y1 ⊢; rw [e]; exact y1
  · unfold Boxed at y2 ⊢; rw [e]; exact y2
  · unfold Boxed at y3 ⊢; rw [e]; exact y3
set_option maxRecDepth 100000 in
set_option maxHeartbeats 4000000 in
theorem whole_good (s : ByteArray) (p room : Nat) (W : World) (hr : RJ W p s 0 room) (hE : Err W) (t : K.Tok) (p1 : Nat) (v : JV) (p2 : Nat) (u : K.Tok) (p3 : Nat) (hu : u.kind = 0)
    (hN : ∀ V, RJ V p s 0 room → Err V → Calls Tryz.prog 26 #[.pointer (some ⟨p, 0, none⟩)] V (NxR p s room V (.inr (t, p1))))
    (hT : ∀ V, RJ V p s p1 room → Err V → Calls Tryz.prog 25 #[.pointer (some ⟨p, 0, none⟩), tokV t] V (ThR p s room V (.inr (v, p2))))
    (hN2 : ∀ V, RJ V p s p2 room → Err V → Calls Tryz.prog 26 #[.pointer (some ⟨p, 0, none⟩)] V (NxR p s room V (.inr (u, p3)))) :
    Calls Tryz.prog 20 #[.pointer (some ⟨p, 0, none⟩)] W fun e w' => (∃ k n x na nl nc a len cap, e = .returned (.tuple #[.agg #[.int .i64 k, .int .i64 n, .string x, .slice na nl nc, .slice a len cap], .int .i64 (s.size : Int), .int .i64 0]) ∧ FreshJ W.heap.size w' v (.agg #[.int .i64 k, .int .i64 n, .string x, .slice na nl nc, .slice a len cap])) ∧ W.grownBy w' (some p) := by
  have hmf : ∀ (fn : Fn) (first cap : Array Value) (w : World), (Instr.makeFunc fn first cap).run Tryz.prog w = .ok (.func fn first cap) w := fun _ _ _ _ => rfl
  have hpW := rj_lt hr
  have hM : ∀ W, Calls Tryz.prog 27 #[tokV u, .int .i64 0] W fun e w' => (∃ v, e = .returned v) ∧ Below W.heap.size W w' := fun W => (must_any u 0 W).mono fun e w' h => ⟨by have h1 := h.1; rwa [if_pos hu] at h1, h.2⟩
  have hA1 := (Below.refl _ W).alloc (Nat.le_refl _) (.cells jzero 25)
  have hA2 := hA1.alloc hA1.size (.cells #[.int .i64 0] 3)
  have hA3 := hA2.alloc hA2.size (.cells #[.int .i64 0] 32)
  have hz1 : JAt (((W.alloc (.cells jzero 25)).alloc (.cells #[.int .i64 0] 3)).alloc (.cells #[.int .i64 0] 32)) W.heap.size jzero := jat_old (jat_old (jat_alloc W jzero) _) _
  have hz2 : Boxed (((W.alloc (.cells jzero 25)).alloc (.cells #[.int .i64 0] 3)).alloc (.cells #[.int .i64 0] 32)) (W.heap.size + 1) 3 (.int .i64 0) := by
    have := (Boxed.new (W.alloc (.cells jzero 25)) 3 (.int .i64 0)).alloc (.cells #[.int .i64 0] 32)
    rwa [World.size_alloc] at this
  have hz3 : Boxed (((W.alloc (.cells jzero 25)).alloc (.cells #[.int .i64 0] 3)).alloc (.cells #[.int .i64 0] 32)) (W.heap.size + 1 + 1) 32 (.int .i64 0) := by
    have := Boxed.new ((W.alloc (.cells jzero 25)).alloc (.cells #[.int .i64 0] 3)) 32 (.int .i64 0)
    rwa [World.size_alloc, World.size_alloc] at this
  have hN' := hN _ (rj_below hr hA3) (err_below hE hA3)
  have hE3 := err_below hE hA3
  have hr3 := rj_below hr hA3
  have hs3 : (((W.alloc (.cells jzero 25)).alloc (.cells #[.int .i64 0] 3)).alloc (.cells #[.int .i64 0] 32)).heap.size = W.heap.size + 3 := by rw [World.size_alloc, World.size_alloc, World.size_alloc]
  obtain ⟨tk, ta, te, ts, tn⟩ := t
  obtain ⟨uk, ua, ue, us, un⟩ := u
  unfold NxR at hN' hN2
  simp only [tokV, tokC] at hN' hT hN2 hM hu
  subst hu
  go_enter_defers Tryz.func20, Tryz.ntmps20
  go_wp2_with (first
    | (go_at_call 26; (with_reducible refine hN'.mono ?_); rintro e w1 ⟨rfl, hr1, hg1⟩)
    | (go_at_call 25; (with_reducible refine (hT _ hr1 (err_rj hE3 hr3 hg1)).mono ?_); rintro e w2 ⟨⟨k, n, x, na, nl, nc, a, len, cap, rfl, hf2⟩, hr2, hg2⟩; have hg02 : World.grownBy _ w2 (some p) := grownJ_then hg1 hg2 (fun b e => .inr e); have z1 : JAt w2 W.heap.size jzero := (hg02.block _ (jat_lt hz1) (fun e => by cases e; omega)).trans hz1; have z2 : Boxed w2 (W.heap.size + 1) _ _ := (hg02.block _ hz2.lt (fun e => by cases e; omega)).trans hz2; have z3 : Boxed w2 (W.heap.size + 1 + 1) _ _ := (hg02.block _ hz3.lt (fun e => by cases e; omega)).trans hz3; obtain ⟨⟨y0, y1, y2, y3, y4⟩, x0, x1, x2, x3, x4⟩ := jbox5 z1)
    | (go_at_call 26; (with_reducible refine (hN2 _ (rj_set5o hr2 (by omega) _ _ _ _ _) (err_grownJ (err_rj hE3 hr3 hg02) (grownJ_set5 w2 W.heap.size _ _ _ _ _) (fun e => (by have := err_lt hE; injection e with e; omega)))).mono ?_); rintro e w3 ⟨rfl, hr4, hg3⟩; have z1' : JAt w3 W.heap.size _ := (hg3.block _ (by simp; exact jat_lt z1) (fun e => (by cases e; omega))).trans (jat_set5 z1 _ _ _ _ _))
    | (go_at_call 27; (with_reducible refine (hM _).mono ?_); rintro e w4 ⟨⟨vv, rfl⟩, hB4⟩; skip))
  have z1'' := jat_below hB4 z1'
  have hs1 := hg02.size
  have hs3' := hg3.size
  have z2' : Boxed w4 (W.heap.size + 1) _ _ := (hB4.block _ (by have := z2.lt; simp at hs3'; omega)).trans ((hg3.block _ (by simp; exact z2.lt) (fun e => (by cases e; omega))).trans ((heapJ_set5 _ _ _ _ _ _ _ _ (by omega)).trans z2))
  have z3' : Boxed w4 (W.heap.size + 1 + 1) _ _ := (hB4.block _ (by have := z3.lt; simp at hs3'; omega)).trans ((hg3.block _ (by simp; exact z3.lt) (fun e => (by cases e; omega))).trans ((heapJ_set5 _ _ _ _ _ _ _ _ (by omega)).trans z3))
  have hr5 := rj_below hr4 hB4
  have hk4 : ∀ b, W.heap.size + 3 ≤ b → b < w2.heap.size → w4.heap[b]? = w2.heap[b]? := fun b b1 b2 => by
    rw [hB4.block b (by simp at hs3'; omega), hg3.block b (by simp; exact b2) (fun e => (by cases e; omega)), heapJ_set5 _ _ _ _ _ _ _ _ (by omega)]
  have hg4 : W.grownBy w4 (some p) := grownJ_then (grownJ_then (grownJ_then (grownJ_then (grownJ_of_below hA3 (some p)) hg02 (fun b e => .inr e)) (grownJ_set5 w2 W.heap.size _ _ _ _ _) (fun b e => .inl (by cases e; omega))) hg3 (fun b e => .inr e)) (grownJ_of_below hB4 none) (fun b e => by cases e)
  have hs4 : w2.heap.size ≤ w4.heap.size := by have := hB4.size; simp at hs3'; omega
  have hfw : FreshJ w1.heap.size w4 v (.agg #[.int .i64 k, .int .i64 n, .string x, .slice na nl nc, .slice a len cap]) := freshJ_later hf2 hs4 (fun b b1 b2 _ => hk4 b (by have := hg1.size; omega) b2)
  have hw13 : W.heap.size + 3 ≤ w1.heap.size := by have := hg1.size; omega
  obtain ⟨⟨d0, d1, d2⟩, _⟩ := rj_cells hr5
  obtain ⟨⟨v0, v1, v2, v3, v4⟩, j0, j1, j2, j3, j4⟩ := jbox5 z1''
  have c2 := z2'.cell
  have c2' := z2'.frozen
  have c3 := z3'.cell
  have c3' := z3'.frozen
  clear hN' hT hN2 hM hA1 hA2 hA3 hz1 hz2 hz3 hE3 hr3 hs3 hr1 hg1 hf2 hr2 hg2 hg02 z1 z2 z3 y0 y1 y2 y3 y4 x0 x1 x2 x3 x4 hr4 hg3 z1' hB4 hs1 hs3' hr5 hk4 hs4 hE hr
  go_region
  obtain ⟨V, hV⟩ : ∃ V, (((((((w4.setCell ⟨W.heap.size, 0, none⟩ (.int .i64 k)).setCell ⟨W.heap.size, 1, none⟩ (.int .i64 n)).setCell ⟨W.heap.size, 2, none⟩ (.string x)).setCell ⟨W.heap.size, 3, none⟩ (.slice na nl nc)).setCell ⟨W.heap.size, 4, none⟩ (.slice a len cap)).setCell ⟨W.heap.size + 1, 0, none⟩ (.int .i64 (s.size : Int))).setCell ⟨W.heap.size + 1 + 1, 0, none⟩ (.int .i64 0)).drew = V := ⟨_, rfl⟩
  obtain ⟨q1, q2, q3, q4, q5⟩ := wgood_fin z1'' z2' z3' hfw hw13 hg4 hV.symm
  rw [hV]
  clear hV d0 d1 d2 v0 v1 v2 v3 v4 j0 j1 j2 j3 j4 c2 c2' c3 c3' z1'' z2' z3' hfw hg4
  go_wp2
  refine leaves_cons (f := 24) (args := #[.pointer (some ⟨W.heap.size, 0, none⟩), .pointer (some ⟨W.heap.size + 1, 0, none⟩), .pointer (some ⟨W.heap.size + 1 + 1, 0, none⟩)]) (by simp) (by simp [go_sem]) ?_
  refine (whole1_idle _ _ _ V).mono ?_
  rintro e u' w9 ⟨⟨v9, rfl⟩, rfl, rfl⟩
  exact ⟨_, results3 (tmps := _) rfl rfl rfl q1 q2 q3, ⟨_, _, _, _, _, _, _, _, _, rfl, q4⟩, q5⟩
end Go.Proofs.YtpiajoffddjjfaaGreatDoor
