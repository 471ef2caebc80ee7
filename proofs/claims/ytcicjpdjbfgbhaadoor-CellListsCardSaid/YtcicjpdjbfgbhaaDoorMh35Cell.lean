/- Layer 14: Scan, Parse. -/
import Derived.Test.YtcicjpdjbfgbhaaDoorMh34Cell
set_option linter.unusedVariables false
set_option linter.unusedSimpArgs false
namespace Go.Proofs.YtcicjpdjbfgbhaaDoor
open Go.RowKit Go.Shelf
attribute [local go_sem] Oper.semAt_some
theorem vresults_row_tmp2 {P : Program} {fn : Func} {p u v : Tmp} {ty : TypeId} (h : fn.results = #[.cell p ty, .tmp u, .tmp v]) (tmps : Array Value) (w : World) (g : Nat) (t : TypeId) (cs : Array Value) (fr : Nat × Nat) (d : TypeDesc)
    (hp : tmps.getD p undef = .pointer (some ⟨g, 0, none⟩)) (hg : w.heap[g]? = some (.cells cs t fr))
    (hu : P.underlying ty = some d) (hd : (match d with | .struct _ | .array _ _ => true | _ => false) = true) (hi : (P.info? ty).map (·.size) = some cs.size) :
    (results fn tmps).run P w = .ok (.tuple #[.agg cs, tmps.getD u undef, tmps.getD v undef]) w := by
  have hp' : tmps[p]?.getD undef = .pointer (some ⟨g, 0, none⟩) := by simpa using hp
  simp [results, h, hp', asAddr, run_loadVar_row w g t ty cs fr d hg hu hd hi, Result.andThen]
/-- a value, a place, an error -/
def ScR (T : PV × Int × Int) (w : World) (e : Ending) (w' : World) : Prop := ∃ d0 d1 d2 a len cap, e = .returned (.tuple #[.agg #[.int .i64 d0, .int .i64 d1, .string d2, .slice a len cap], .int .i64 T.2.1, .int .i64 T.2.2]) ∧ Fresh w.heap.size w' T.1 (.agg #[.int .i64 d0, .int .i64 d1, .string d2, .slice a len cap]) ∧ Below w.heap.size w w'
theorem fresh_none (B : Nat) (w : World) : Fresh B w (.mk 0 0 ⟨#[]⟩ []) (.agg vzero) := fresh_flat B w 0 0 ⟨#[]⟩ ⟨by omega, by omega⟩ ⟨by omega, by omega⟩ (by unfold maxLen; decide)
/-- what whole comes to -/
def whM (l : List Int) (q : Nat) : PV × Int × Int := match Vt.val 4 l q with
  | .inl (x, e) => (.mk 0 0 ⟨#[]⟩ [], x, e)
  | .inr (v, x) => if rightV v then (v, x, 0) else (.mk 0 0 ⟨#[]⟩ [], q, 4)
theorem vwhole_any (s : ByteArray) (p q : Nat) (hsm : s.size ≤ 1000000) (hq : q ≤ s.size) (W : World) (hr : RV W p s q 0 0) :
    Calls Tryd.prog 74 #[.pointer (some ⟨p, 0, none⟩)] W fun e w' => (∃ d0 d1 d2 a9 len9 cap9, e = .returned (.tuple #[.agg #[.int .i64 d0, .int .i64 d1, .string d2, .slice a9 len9 cap9], .int .i64 (whM (strB s) q).2.1, .int .i64 (whM (strB s) q).2.2]) ∧ Fresh W.heap.size w' (whM (strB s) q).1 (.agg #[.int .i64 d0, .int .i64 d1, .string d2, .slice a9 len9 cap9])) ∧ W.grownBy w' (some p) := by
  have hV : ∀ V, RV V p s q 0 0 → Calls Tryd.prog 78 #[.pointer (some ⟨p, 0, none⟩)] V (VtR p s 0 1 V (Vt.val 4 (strB s) q)) := fun V hV => value_any s p hsm 4 0 rfl q 0 V hq (by omega) hV
  have hpl := Vt.val_place (strB s) 4 q
  unfold whM
  obtain ⟨X, hX⟩ : ∃ X, Vt.val 4 (strB s) q = X := ⟨_, rfl⟩
  rw [hX] at hV hpl
  rw [hX]
  cases X with
  | inl xe =>
    obtain ⟨x, e⟩ := xe
    exact (vwhole_bad s p q W hr x e hV).mono fun e w' h => ⟨⟨_, _, _, _, _, _, h.1, fresh_none _ _⟩, h.2⟩
  | inr vq =>
    obtain ⟨v, x⟩ := vq
    have h := hpl v x rfl
    rw [strB_len] at h
    simp only
    cases hR : rightV v with
    | true =>
      simp only [if_true]
      exact vwhole_good s p q hsm hq W hr v x (by omega) hR hV
    | false =>
      simp only [Bool.false_eq_true, if_false]
      exact (vwhole_long s p q hsm hq W hr v x (by omega) hR hV).mono fun e w' h => ⟨⟨_, _, _, _, _, _, h.1, fresh_none _ _⟩, h.2⟩
theorem below_of_grown {w W V : World} {p : Nat} (h : Below w.heap.size w W) (k : W.grownBy V (some p)) (hp : w.heap.size ≤ p) : Below w.heap.size w V := by
  obtain ⟨a1, a2, a3, a4, a5⟩ := h
  obtain ⟨b1, b2, b3, b4, b5⟩ := k
  exact ⟨b1.trans a1, b2.trans a2, b3.trans a3, Nat.le_trans a4 b4, fun j hj => (b5 j (by omega) (fun e => by injection e with e; omega)).trans (a5 j hj)⟩
set_option maxRecDepth 100000 in
set_option maxHeartbeats 2000000 in
theorem vscan_any (s : ByteArray) (a : Int) (hsm : s.size ≤ 1000000) (w : World) : Calls Tryd.prog 69 #[.string s, .int .i64 a] w (ScR (Vt.scan (strB s) a) w) := by
  have hz0 : VAt (w.alloc (.cells vzero 24)) w.heap.size vzero := vat_alloc w vzero
  have hA1 := (Below.refl _ w).alloc (Nat.le_refl _) (.cells vzero 24)
  by_cases hin : 0 ≤ a ∧ a ≤ (strB s).length
  · obtain ⟨q, rfl⟩ := Int.eq_ofNat_of_zero_le hin.1
    have hq : q ≤ s.size := by have := hin.2; rw [strB_len] at this; omega
    have hA2 := hA1.alloc hA1.size (.cells #[.string s, .int .i64 (q : Int), .int .i64 0, .int .i64 0] 113)
    have hr : RV ((w.alloc (.cells vzero 24)).alloc (.cells #[.string s, .int .i64 (q : Int), .int .i64 0, .int .i64 0] 113)) (w.heap.size + 1) s q 0 0 := by
      have h := World.alloc_heap_new (w.alloc (.cells vzero 24)) (.cells #[.string s, .int .i64 (q : Int), .int .i64 0, .int .i64 0] 113)
      rw [World.size_alloc] at h
      exact h
    have hz2 := vat_below ((Below.refl _ _).alloc (Nat.le_refl _) (.cells #[.string s, .int .i64 (q : Int), .int .i64 0, .int .i64 0] 113)) hz0
    have hW := vwhole_any s (w.heap.size + 1) q hsm hq _ hr
    have e : Vt.scan (strB s) (q : Int) = whM (strB s) q := by
      unfold Vt.scan whM
      rw [if_pos hin, Int.toNat_natCast]
      rcases Vt.val 4 (strB s) q with ⟨_, _⟩ | ⟨_, _⟩ <;> rfl
    rw [e]
    obtain ⟨T, hT⟩ : ∃ T, whM (strB s) q = T := ⟨_, rfl⟩
    rw [hT] at hW ⊢
    obtain ⟨tv, tx, te⟩ := T
    clear hT e hin
    have d1 : decide ((s.size : Int) < (q : Int)) = false := by simp; omega
    go_enter Tryd.func69, Tryd.ntmps69
    go_wp2_with (go_at_call 74; (with_reducible refine hW.mono ?_); rintro e w2 ⟨⟨d0, d1, d2, a9, len9, cap9, rfl, hF⟩, hg2⟩; have hz3 := vat_kept hz2 hg2 (fun e => by injection e with e; omega); obtain ⟨⟨y0, y1, y2, y3⟩, x0, x1, x2, x3⟩ := box4 hz3)
    refine bodyPost_ret (vresults_row_tmp2 Tryd.results69 _ _ w.heap.size 24 _ _ _ rfl (vat_set4 hz3 _ _ _ _) Tryd.underlying24 rfl val4) rfl ?_
    exact ⟨d0, d1, d2, a9, len9, cap9, rfl, fresh_mono (fresh_later hF (by simp) (fun b b1 _ => heapT_set4 _ _ _ _ _ _ b (by simp at b1; omega))) (by simp; omega), below_set4 (below_of_grown hA2 hg2 (by omega)) (Nat.le_refl _) 0 1 2 3 _ _ _ _⟩
  · have e : Vt.scan (strB s) a = (.mk 0 0 ⟨#[]⟩ [], a, 1) := by unfold Vt.scan; rw [if_neg hin]
    rw [e]
    rw [strB_len] at hin
    have hz3 := hz0
    obtain ⟨⟨y0, y1, y2, y3⟩, x0, x1, x2, x3⟩ := box4 hz3
    by_cases h0 : a < 0
    · have d1 : decide (a < 0) = true := by simpa using h0
      go_enter Tryd.func69, Tryd.ntmps69
      go_wp2
      refine bodyPost_ret (vresults_row_tmp2 Tryd.results69 _ _ w.heap.size 24 _ _ _ rfl hz0 Tryd.underlying24 rfl val4) rfl ?_
      exact ⟨0, 0, ⟨#[]⟩, none, 0, 0, rfl, fresh_none _ _, hA1⟩
    · have d1 : decide (a < 0) = false := by simpa using h0
      have d2 : decide ((s.size : Int) < a) = true := by simp; omega
      go_enter Tryd.func69, Tryd.ntmps69
      go_wp2
      refine bodyPost_ret (vresults_row_tmp2 Tryd.results69 _ _ w.heap.size 24 _ _ _ rfl hz0 Tryd.underlying24 rfl val4) rfl ?_
      exact ⟨0, 0, ⟨#[]⟩, none, 0, 0, rfl, fresh_none _ _, hA1⟩
theorem vparse_end {w w2 : World} {v : PV} {tx te : Int} {v0 v1 : Int} {v2 : ByteArray} {a9 : Option Addr} {len9 cap9 : Nat} {o : Obj} (hA1 : Below w.heap.size w (w.alloc (.cells vzero 24))) (hB2 : Below (w.alloc (.cells vzero 24)).heap.size (w.alloc (.cells vzero 24)) w2) (hA4 : Below w2.heap.size w2 (w2.alloc o))
    (hF : Fresh (w.heap.size + 1) w2 v (.agg #[.int .i64 v0, .int .i64 v1, .string v2, .slice a9 len9 cap9])) :
    ScR (v, tx, te) w (.returned (.tuple #[.agg #[.int .i64 v0, .int .i64 v1, .string v2, .slice a9 len9 cap9], .int .i64 tx, .int .i64 te])) (((((w2.alloc o).setCell ⟨w.heap.size, 0, none⟩ (.int .i64 v0)).setCell ⟨w.heap.size, 1, none⟩ (.int .i64 v1)).setCell ⟨w.heap.size, 2, none⟩ (.string v2)).setCell ⟨w.heap.size, 3, none⟩ (.slice a9 len9 cap9)) := by
  have h1 := hA1.trans (hB2.mono hA1.size)
  have h2 := h1.trans (hA4.mono h1.size)
  refine ⟨v0, v1, v2, a9, len9, cap9, rfl, fresh_mono (fresh_later hF (by simp) (fun b b1 b2 => ?_)) (Nat.le_succ _), below_set4 h2 (Nat.le_refl _) 0 1 2 3 _ _ _ _⟩
  exact (heapT_set4 _ _ _ _ _ _ b (by omega)).trans (hA4.block b b2)
set_option maxRecDepth 100000 in
set_option maxHeartbeats 2000000 in
theorem vparse_any (s : ByteArray) (hsm : s.size ≤ 1000000) (w : World) : Calls Tryd.prog 58 #[.string s] w (ScR (Vt.parse (strB s)) w) := by
  have hz0 : VAt (w.alloc (.cells vzero 24)) w.heap.size vzero := vat_alloc w vzero
  have hA1 := (Below.refl _ w).alloc (Nat.le_refl _) (.cells vzero 24)
  have hS := vscan_any s 0 hsm (w.alloc (.cells vzero 24))
  unfold Vt.parse
  rw [strB_len]
  obtain ⟨⟨tv, tx, te⟩, hT⟩ : ∃ T, Vt.scan (strB s) 0 = T := ⟨_, rfl⟩
  rw [hT] at hS ⊢
  simp only
  clear hT
  by_cases h0 : te = 0
  · have d1 : (te == 0) = true := by simpa using h0
    by_cases h1 : tx < s.size
    · rw [if_pos ⟨h0, h1⟩]
      have d2 : decide (tx < (s.size : Int)) = true := by simpa using h1
      have H0 := Lib.hid h0; clear h0
      go_enter Tryd.func58, Tryd.ntmps58
      go_wp2_with (go_at_call 69; (with_reducible refine hS.mono ?_); rintro e w2 ⟨v0, v1, v2, a9, len9, cap9, rfl, hF, hB2⟩; have hA4 := (Below.refl _ w2).alloc (Nat.le_refl _) (.cells #[.int .i64 v0, .int .i64 v1, .string v2, .slice a9 len9 cap9] 24); have hz3 := vat_below hA4 (vat_below hB2 hz0); have hv3 := vat_alloc w2 #[.int .i64 v0, .int .i64 v1, .string v2, .slice a9 len9 cap9]; obtain ⟨⟨y0, y1, y2, y3⟩, x0, x1, x2, x3⟩ := box4 hz3; obtain ⟨⟨n0, n1, n2, n3⟩, _⟩ := box4 hv3)
      refine bodyPost_ret (vresults_row_tmp2 Tryd.results58 _ _ w.heap.size 24 _ _ _ rfl (vat_set4 hz3 _ _ _ _) Tryd.underlying24 rfl val4) rfl ?_
      exact vparse_end (v := .mk 0 0 ⟨#[]⟩ []) hA1 hB2 hA4 (fresh_none _ _)
    · rw [if_neg (fun h => h1 h.2)]
      have d2 : decide (tx < (s.size : Int)) = false := by simpa using h1
      have H0 := Lib.hid h0; clear h0
      go_enter Tryd.func58, Tryd.ntmps58
      go_wp2_with (go_at_call 69; (with_reducible refine hS.mono ?_); rintro e w2 ⟨v0, v1, v2, a9, len9, cap9, rfl, hF, hB2⟩; have hA4 := (Below.refl _ w2).alloc (Nat.le_refl _) (.cells #[.int .i64 v0, .int .i64 v1, .string v2, .slice a9 len9 cap9] 24); have hz3 := vat_below hA4 (vat_below hB2 hz0); have hv3 := vat_alloc w2 #[.int .i64 v0, .int .i64 v1, .string v2, .slice a9 len9 cap9]; obtain ⟨⟨y0, y1, y2, y3⟩, x0, x1, x2, x3⟩ := box4 hz3; obtain ⟨⟨n0, n1, n2, n3⟩, _⟩ := box4 hv3)
      refine bodyPost_ret (vresults_row_tmp2 Tryd.results58 _ _ w.heap.size 24 _ _ _ rfl (vat_set4 hz3 _ _ _ _) Tryd.underlying24 rfl val4) rfl ?_
      exact vparse_end hA1 hB2 hA4 (fresh_mono hF (by simp))
  · rw [if_neg (fun h => h0 h.1)]
    have d1 : (te == 0) = false := by simpa using h0
    go_enter Tryd.func58, Tryd.ntmps58
    go_wp2_with (go_at_call 69; (with_reducible refine hS.mono ?_); rintro e w2 ⟨v0, v1, v2, a9, len9, cap9, rfl, hF, hB2⟩; have hA4 := (Below.refl _ w2).alloc (Nat.le_refl _) (.cells #[.int .i64 v0, .int .i64 v1, .string v2, .slice a9 len9 cap9] 24); have hz3 := vat_below hA4 (vat_below hB2 hz0); have hv3 := vat_alloc w2 #[.int .i64 v0, .int .i64 v1, .string v2, .slice a9 len9 cap9]; obtain ⟨⟨y0, y1, y2, y3⟩, x0, x1, x2, x3⟩ := box4 hz3; obtain ⟨⟨n0, n1, n2, n3⟩, _⟩ := box4 hv3)
    refine bodyPost_ret (vresults_row_tmp2 Tryd.results58 _ _ w.heap.size 24 _ _ _ rfl (vat_set4 hz3 _ _ _ _) Tryd.underlying24 rfl val4) rfl ?_
    exact vparse_end hA1 hB2 hA4 (fresh_mono hF (by simp))
end Go.Proofs.YtcicjpdjbfgbhaaDoor
