/- Layer 15: ToJson, OfJson of a value's thing. -/
import Derived.Test.YtcicjpdjbfgbhaaDoorMh17Cell
import Derived.Laws.ResultCell
import Derived.Test.YtcicjpdjbfgbhaaDoorMh4Cell
set_option linter.unusedVariables false
set_option linter.unusedSimpArgs false
set_option maxRecDepth 100000
namespace Go.Proofs.YtcicjpdjbfgbhaaDoor
open Go.RowKit Go.Shelf
theorem results_cell_tmp15 {P : Program} {fn : Func} {p u : Tmp} {ty : TypeId} (h : fn.results = #[.cell p ty, .tmp u]) (tmps : Array Value) (w : World) (g : Nat) (t : TypeId) (cs : Array Value) (fr : Nat × Nat) (d : TypeDesc)
    (hp : tmps.getD p undef = .pointer (some ⟨g, 0, none⟩)) (hg : w.heap[g]? = some (.cells cs t fr))
    (hu : P.underlying ty = some d) (hd : (match d with | .struct _ | .array _ _ => true | _ => false) = true) (hi : (P.info? ty).map (·.size) = some cs.size) :
    (results fn tmps).run P w = .ok (.tuple #[.agg cs, tmps.getD u undef]) w := by
  rw [results_cell_tmp h, hp]
  simp [asAddr, run_loadVar_row w g t ty cs fr d hg hu hd hi, Result.andThen]
theorem small15 {v : PV} (h : okV v = true) : small v := by
  induction v using pv_ind with
  | h k n s l ih =>
    have hE : s.toList.isEmpty = true → s.size ≤ 140737488355328 := fun h => by
      have h2 := List.isEmpty_iff.1 h
      have h3 := congrArg List.length h2
      rw [toList_data] at h3
      simp at h3
      rw [h3]
      decide
    have hN : ∀ r : List PV, small.smallL r → True := fun _ _ => trivial
    unfold small
    rcases okV_kind h with rfl | rfl | rfl | rfl | rfl | rfl
    · rw [okV0] at h; simp only [Bool.and_eq_true] at h
      obtain rfl := List.isEmpty_iff.1 h.2
      exact ⟨hE h.1.2, by simp, by unfold small.smallL; trivial⟩
    · rw [okV1] at h; simp only [Bool.and_eq_true] at h
      obtain rfl := List.isEmpty_iff.1 h.2
      exact ⟨hE h.1.2, by simp, by unfold small.smallL; trivial⟩
    · rw [okV2] at h; simp only [Bool.and_eq_true] at h
      obtain rfl := List.isEmpty_iff.1 h.2
      exact ⟨hE h.1, by simp, by unfold small.smallL; trivial⟩
    · rw [okV3] at h; simp only [Bool.and_eq_true] at h
      obtain rfl := List.isEmpty_iff.1 h.2
      have h2 := h.1.2
      simp [nameB] at h2
      have h3 := h2.1.1.2
      rw [strB_len] at h3
      exact ⟨by omega, by simp, by unfold small.smallL; trivial⟩
    · rw [okV4] at h; simp only [Bool.and_eq_true, decide_eq_true_eq] at h
      obtain rfl := List.isEmpty_iff.1 h.2
      exact ⟨by have := h.1.1.2; omega, by simp, by unfold small.smallL; trivial⟩
    · rw [okV5] at h; simp only [Bool.and_eq_true, decide_eq_true_eq] at h
      have hoM := okL_mem h.2
      refine ⟨hE h.1.1.2, by have := h.1.2; omega, ?_⟩
      have key : ∀ r : List PV, (∀ x ∈ r, small x) → small.smallL r := by
        intro r
        induction r with
        | nil => intro _; unfold small.smallL; trivial
        | cons y r ih2 => intro h; unfold small.smallL; exact ⟨h y (by simp), ih2 fun x hx => h x (by simp [hx])⟩
      exact key l fun x hx => ih x hx (hoM x hx)
theorem run_store_func15 {P : Program} {w : World} {a : Addr} {m : Mode} (f : Fn) (x y : Array Value) : (store a (.func f x y) m).run P w = stored P w a (.func f x y) m := run_store P w a _ m rfl
attribute [local go_sem] run_store_func15
/-- what told comes to -/
def TldC (v : PV) (W : World) (e : Ending) (w' : World) : Prop := ∃ k n s a len cap, e = .returned (.tuple #[.agg #[.int .i64 k, .int .i64 n, .string s, .slice a len cap], .bool true]) ∧ Below W.heap.size W w' ∧ FreshC Is W.heap.size w' v (.agg #[.int .i64 k, .int .i64 n, .string s, .slice a len cap])
set_option maxHeartbeats 4000000 in
theorem told_any (v : PV) (ho : okV v = true) (W : World) (x : Value) (hK : KindsAt W) (hi : IsJ W (jOf v) x) : Calls Tryd.prog 24 #[x] W (TldC v W) := by
  have hsm := small15 ho
  obtain ⟨J, hJ⟩ : ∃ J, jOf v = J := ⟨_, rfl⟩
  have hc := fun po pf V h1 h2 h3 h4 => told1_any po pf v ho hsm V x h1 h2 h3 h4
  rw [hJ] at hi hc
  have hI := fun V (hb : Below W.heap.size W V) => isJ_below hb _ _ hi
  cases J with
  | mk k n s ns l =>
  unfold IsJ at hi
  obtain ⟨_, _, _, na, nc, a, cap, rfl, _⟩ := hi
  obtain ⟨nl, hnl⟩ : ∃ m, ns.length = m := ⟨_, rfl⟩
  obtain ⟨ll, hll⟩ : ∃ m, l.length = m := ⟨_, rfl⟩
  rw [hnl, hll] at hc hI
  rw [hnl, hll]
  have HC := Lib.hid hc; have HI := Lib.hid hI
  clear hc hI hJ hnl hll ho hsm
  have hA1 := (Below.refl _ W).alloc (Nat.le_refl _) (.cells #[.int .i64 k, .int .i64 n, .string s, .slice na nl nc, .slice a ll cap] 30)
  have hA2 := hA1.alloc hA1.size (.cells vzero 24)
  have hA3 := hA2.alloc hA2.size (.cells #[.bool true] 4)
  have hA4 := hA3.alloc hA3.size (.cells #[(.func (.func 43) #[] #[.pointer (some ⟨W.heap.size + 1 + 1, 0, none⟩), .pointer (some ⟨W.heap.size + 1 + 1 + 1, 0, none⟩)])] 68)
  have hj1 := jat_alloc W #[.int .i64 k, .int .i64 n, .string s, .slice na nl nc, .slice a ll cap]
  have hv2 := vat_alloc (W.alloc (.cells #[.int .i64 k, .int .i64 n, .string s, .slice na nl nc, .slice a ll cap] 30)) vzero
  rw [World.size_alloc] at hv2
  obtain ⟨W2, hW2⟩ : ∃ V, V = (W.alloc (.cells #[.int .i64 k, .int .i64 n, .string s, .slice na nl nc, .slice a ll cap] 30)).alloc (.cells vzero 24) := ⟨_, rfl⟩
  have hs2 : W2.heap.size = W.heap.size + 1 + 1 := by rw [hW2]; simp
  have hj2 : JAt W2 W.heap.size #[.int .i64 k, .int .i64 n, .string s, .slice na nl nc, .slice a ll cap] := by rw [hW2]; exact jat_old hj1 _
  rw [← hW2] at hA2 hA3 hA4 hv2
  have ho3 : Boxed (W2.alloc (.cells #[.bool true] 4)) (W.heap.size + 1 + 1) 4 (.bool true) := by
    have h := World.alloc_heap_new W2 (.cells #[.bool true] 4)
    rwa [hs2] at h
  have hf5 : Boxed ((W2.alloc (.cells #[.bool true] 4)).alloc (.cells #[(.func (.func 43) #[] #[.pointer (some ⟨W.heap.size + 1 + 1, 0, none⟩), .pointer (some ⟨W.heap.size + 1 + 1 + 1, 0, none⟩)])] 68)) (W.heap.size + 1 + 1 + 1) 68 (.func (.func 43) #[] #[.pointer (some ⟨W.heap.size + 1 + 1, 0, none⟩), .pointer (some ⟨W.heap.size + 1 + 1 + 1, 0, none⟩)]) := by
    have h := World.alloc_heap_new (W2.alloc (.cells #[.bool true] 4)) (.cells #[(.func (.func 43) #[] #[.pointer (some ⟨W.heap.size + 1 + 1, 0, none⟩), .pointer (some ⟨W.heap.size + 1 + 1 + 1, 0, none⟩)])] 68)
    rwa [World.size_alloc, hs2] at h
  have ho5 := ho3.alloc (.cells #[(.func (.func 43) #[] #[.pointer (some ⟨W.heap.size + 1 + 1, 0, none⟩), .pointer (some ⟨W.heap.size + 1 + 1 + 1, 0, none⟩)])] 68)
  obtain ⟨W5, hW5⟩ : ∃ V, V = (W2.alloc (.cells #[.bool true] 4)).alloc (.cells #[(.func (.func 43) #[] #[.pointer (some ⟨W.heap.size + 1 + 1, 0, none⟩), .pointer (some ⟨W.heap.size + 1 + 1 + 1, 0, none⟩)])] 68) := ⟨_, rfl⟩
  have hj5 : JAt W5 W.heap.size #[.int .i64 k, .int .i64 n, .string s, .slice na nl nc, .slice a ll cap] := by rw [hW5]; exact jat_old (jat_old hj2 _) _
  have hv5 : VAt W5 (W.heap.size + 1) vzero := by rw [hW5]; exact vat_below ((Below.refl _ _).alloc (Nat.le_refl _) _) (vat_below ((Below.refl _ _).alloc (Nat.le_refl _) _) hv2)
  have hs5 : W5.heap.size = W.heap.size + 1 + 1 + 1 + 1 := by rw [hW5]; simp [hs2]
  rw [← hW5] at hA4 hf5 ho5
  have hc5 := Lib.hid (HC.out _ _ _ (kinds_below hK hA4) ho5 hf5 (HI.out _ hA4))
  clear HC HI hA1 hA2 hA3 hj1 hv2 hj2 ho3
  rw [hW2] at hW5
  unfold vzero at hW5
  clear hW2 hs2 W2
  go_enter Tryd.func24, Tryd.ntmps24
  go_wp2_with (go_at_call 43; rw [← hW5]; (with_reducible refine hc5.out.mono ?_); rintro e w6 ⟨d0, d1, d2, d3, d4, d5, rfl, hb6, hF6⟩; have hA7 := (Below.refl _ w6).alloc (Nat.le_refl _) (.cells #[.int .i64 d0, .int .i64 d1, .string d2, .slice d3 d4 d5] 24); have hb7 := hb6.trans (hA7.mono hb6.size); have ho7 : Boxed (w6.alloc (.cells #[.int .i64 d0, .int .i64 d1, .string d2, .slice d3 d4 d5] 24)) _ _ _ := (hb7.block _ ho5.lt).trans ho5; have hv7 := vat_below hb7 hv5; have hn7 := vat_alloc w6 #[.int .i64 d0, .int .i64 d1, .string d2, .slice d3 d4 d5]; have o7 := ho7.cell; obtain ⟨⟨y0, y1, y2, y3⟩, -⟩ := box4 hn7; obtain ⟨⟨r0, r1, r2, r3⟩, t0, t1, t2, t3⟩ := box4 hv7)
  have o8 := cell_set4 (b := W.heap.size + 1) (i0 := 0) (i1 := 1) (i2 := 2) (i3 := 3) (d0 := .int .i64 d0) (d1 := .int .i64 d1) (d2 := .string d2) (d3 := .slice d3 d4 d5) o7 (by simp)
  clear hW5 hc5
  have hs6 := hb6.size
  go_region
  all_goals go_wp2
  all_goals (
    have hBe : Below W.heap.size W (((((w6.alloc (.cells #[.int .i64 d0, .int .i64 d1, .string d2, .slice d3 d4 d5] 24)).setCell ⟨W.heap.size + 1, 0, none⟩ (.int .i64 d0)).setCell ⟨W.heap.size + 1, 1, none⟩ (.int .i64 d1)).setCell ⟨W.heap.size + 1, 2, none⟩ (.string d2)).setCell ⟨W.heap.size + 1, 3, none⟩ (.slice d3 d4 d5)) := below_set4 (hA4.trans (hb7.mono (by omega))) (by omega) _ _ _ _ _ _ _ _
    have hFe : FreshC Is W.heap.size (((((w6.alloc (.cells #[.int .i64 d0, .int .i64 d1, .string d2, .slice d3 d4 d5] 24)).setCell ⟨W.heap.size + 1, 0, none⟩ (.int .i64 d0)).setCell ⟨W.heap.size + 1, 1, none⟩ (.int .i64 d1)).setCell ⟨W.heap.size + 1, 2, none⟩ (.string d2)).setCell ⟨W.heap.size + 1, 3, none⟩ (.slice d3 d4 d5)) v (.agg #[.int .i64 d0, .int .i64 d1, .string d2, .slice d3 d4 d5]) := freshC_mono (freshC_later hF6 (by simp) fun b b1 b2 => by
      rw [Below.heap_setCell _ _ _ b (by show b ≠ W.heap.size + 1; omega), Below.heap_setCell _ _ _ b (by show b ≠ W.heap.size + 1; omega), Below.heap_setCell _ _ _ b (by show b ≠ W.heap.size + 1; omega), Below.heap_setCell _ _ _ b (by show b ≠ W.heap.size + 1; omega)]
      exact (Below.heap_alloc _ _ b (by omega))) (by omega)
    refine bodyPost_ret (results_cell_tmp15 Tryd.results24 _ _ (W.heap.size + 1) _ _ _ _ rfl (vat_set4 hv7 _ _ _ _) Tryd.underlying24 rfl val_size15) rfl ⟨_, _, _, _, _, _, rfl, by first | exact hBe | exact hBe.drew, by first | exact hFe | exact (show FreshC Is W.heap.size (World.drew _) v _ from hFe)⟩)
end Go.Proofs.YtcicjpdjbfgbhaaDoor

/- Layer 15: ToJson of a right value, OfJson of a value's thing. -/
set_option linter.unusedVariables false
set_option linter.unusedSimpArgs false
set_option maxRecDepth 100000
namespace Go.Proofs.YtcicjpdjbfgbhaaDoor
open Go.RowKit Go.Shelf
theorem right_okC {v : PV} (h : rightV v = true) : deepV v ≤ 4 ∧ szV v ≤ 100 ∧ okV v = true := by simpa [rightV, and_assoc] using h
set_option maxHeartbeats 4000000 in
theorem toJson_any (v : PV) (hr : rightV v = true) (w : World) (x : Value) (hi : Is w v x) : Calls Tryd.prog 7 #[x] w (ThC v w) := by
  obtain ⟨_, hsz, ho⟩ := right_okC hr
  have hR := fun W hi => right_any v (by omega) W x hi
  rw [hr] at hR
  have hT := fun W hi => thing_any v (small15 ho) W x hi
  have hI := fun W (hb : Below w.heap.size w W) => is_below hb _ _ hi
  obtain ⟨k, n, s, a, len, cap, rfl⟩ : ∃ k n s a len cap, x = .agg #[.int .i64 k, .int .i64 n, .string s, .slice a len cap] := by
    cases v
    unfold Is at hi
    obtain ⟨_, _, _, a, cap, rfl, _⟩ := hi
    exact ⟨_, _, _, _, _, _, rfl⟩
  have hA1 := (Below.refl _ w).alloc (Nat.le_refl _) (.cells #[.int .i64 k, .int .i64 n, .string s, .slice a len cap] 24)
  have hA2 := hA1.alloc hA1.size (.cells jzero 30)
  have hv2 := vat_below ((Below.refl _ _).alloc (Nat.le_refl _) (.cells jzero 30)) (vat_alloc w #[.int .i64 k, .int .i64 n, .string s, .slice a len cap])
  have hz2 := jat_alloc (w.alloc (.cells #[.int .i64 k, .int .i64 n, .string s, .slice a len cap] 24)) jzero
  rw [World.size_alloc] at hz2
  have HR := Lib.hid hR; have HT := Lib.hid hT; have HI := Lib.hid hI
  clear hR hT hI hi
  go_enter Tryd.func7, Tryd.ntmps7
  go_wp2_with (first
    | (go_at_call 6; (with_reducible refine (HR.out _ (HI.out _ hA2)).mono ?_); rintro e w3 ⟨rfl, hb3⟩; have hA3 := hA2.trans (hb3.mono hA2.size); have hv3 := vat_below hb3 hv2; have hz3 := jat_below hb3 hz2; obtain ⟨⟨y0, y1, y2, y3⟩, -⟩ := box4 hv3)
    | (go_at_call 22; (with_reducible refine (HT.out _ (HI.out _ hA3)).mono ?_); rintro e w4 ⟨d0, d1, d2, d3, d4, d5, d6, d7, d8, rfl, hb4, hF4⟩; have hz4 := jat_below hb4 hz3; obtain ⟨⟨r0, r1, r2, r3, r4⟩, t0, t1, t2, t3, t4⟩ := jbox5 hz4))
  have hs3 := hA3.size
  have hs2 := hb3.size
  simp only [World.size_alloc] at hs2
  refine bodyPost_ret (results_cell_row Tryd.results7 _ _ (w.heap.size + 1) _ _ _ _ rfl (jat_set5 hz4 _ _ _ _ _) Tryd.underlying30 rfl json_size15) rfl ⟨_, _, _, _, _, _, _, _, _, rfl, jbelow_set5 (hA3.trans (hb4.mono hs3)) (by omega) _ _ _ _ _ _ _ _ _ _, freshC_mono (freshC_later hF4 (by simp) fun b b1 b2 => ?_) hs3⟩
  rw [Below.heap_setCell _ _ _ b (by show b ≠ w.heap.size + 1; omega), Below.heap_setCell _ _ _ b (by show b ≠ w.heap.size + 1; omega), Below.heap_setCell _ _ _ b (by show b ≠ w.heap.size + 1; omega), Below.heap_setCell _ _ _ b (by show b ≠ w.heap.size + 1; omega), Below.heap_setCell _ _ _ b (by show b ≠ w.heap.size + 1; omega)]
/-- the error of a value's thing, if any -/
def ofE (v : PV) : Int := if 4 < deepV v then 3 else if rightV v = true then 0 else 4
/-- what OfJson comes to -/
def OfC (v : PV) (W : World) (e : Ending) (w' : World) : Prop := ∃ k n s a len cap, e = .returned (.tuple #[.agg #[.int .i64 k, .int .i64 n, .string s, .slice a len cap], .int .i64 (ofE v)]) ∧ Below W.heap.size W w' ∧ (ofE v = 0 → FreshC Is W.heap.size w' v (.agg #[.int .i64 k, .int .i64 n, .string s, .slice a len cap]))
theorem ofE_right {v : PV} : ofE v = 0 ↔ rightV v = true := by
  unfold ofE
  constructor
  · intro h
    split at h
    · cases h
    · split at h
      · assumption
      · cases h
  · intro h
    have := (right_okC h).1
    rw [if_neg (by omega), if_pos h]
set_option maxHeartbeats 4000000 in
theorem ofJson_any (v : PV) (ho : okV v = true) (hsz : szV v ≤ 10000) (W : World) (x : Value) (hK : KindsAt W) (hi : IsJ W (jOf v) x) : Calls Tryd.prog 8 #[x] W (OfC v W) := by
  have hjs := jOf_sz v
  have hR := fun V hi => right8_any (jOf v) (by omega) V x hi
  rw [jOf_right v ho] at hR
  have hT := fun V hK hi => told_any v ho V x hK hi
  have hI := fun V (hb : Below W.heap.size W V) => isJ_below hb _ _ hi
  have hD := fun V X hi => deep_any v (by omega) V X hi
  have hQ := fun V X hi => right_any v (by omega) V X hi
  obtain ⟨k, n, s, na, nl, nc, a, len, cap, rfl⟩ : ∃ k n s na nl nc a len cap, x = .agg #[.int .i64 k, .int .i64 n, .string s, .slice na nl nc, .slice a len cap] := by
    cases hJ : jOf v
    rw [hJ] at hi
    unfold IsJ at hi
    obtain ⟨_, _, _, na, nc, a, cap, rfl, _⟩ := hi
    exact ⟨_, _, _, _, _, _, _, _, _, rfl⟩
  have hA1 := (Below.refl _ W).alloc (Nat.le_refl _) (.cells #[.int .i64 k, .int .i64 n, .string s, .slice na nl nc, .slice a len cap] 30)
  have hA2 := hA1.alloc hA1.size (.cells vzero 24)
  have hj2 : JAt ((W.alloc (.cells #[.int .i64 k, .int .i64 n, .string s, .slice na nl nc, .slice a len cap] 30)).alloc (.cells vzero 24)) W.heap.size #[.int .i64 k, .int .i64 n, .string s, .slice na nl nc, .slice a len cap] := jat_old (jat_alloc W _) _
  have hz2 := vat_alloc (W.alloc (.cells #[.int .i64 k, .int .i64 n, .string s, .slice na nl nc, .slice a len cap] 30)) vzero
  rw [World.size_alloc] at hz2
  have HR := Lib.hid hR; have HT := Lib.hid hT; have HI := Lib.hid hI; have HD := Lib.hid hD; have HQ := Lib.hid hQ
  clear hR hT hI hi hD hQ hjs
  unfold OfC ofE
  have fin : ∀ (w6 V : World) (d0 d1 : Int) (d2 : ByteArray) (d3 : Option Addr) (d4 d5 : Nat), True := fun _ _ _ _ _ _ _ _ => trivial
  clear fin
  by_cases hd : 4 < deepV v
  · rw [if_pos hd]
    have dd : decide ((4 : Int) < (deepV v : Int)) = true := by simp; omega
    go_enter Tryd.func8, Tryd.ntmps8
    go_wp2_with (first
      | (go_at_call 23; (with_reducible refine (HR.out _ (HI.out _ hA2)).mono ?_); rintro e w3 ⟨rfl, hb3⟩; have hA3 := hA2.trans (hb3.mono hA2.size); have hj3 := jat_below hb3 hj2; have hz3 := vat_below hb3 hz2; obtain ⟨⟨y0, y1, y2, y3, y4⟩, -⟩ := jbox5 hj3)
      | (go_at_call 24; (with_reducible refine (HT.out _ (kinds_below hK hA3) (HI.out _ hA3)).mono ?_); rintro e w4 ⟨d0, d1, d2, d3, d4, d5, rfl, hb4, hF4⟩; have hA4 := hA3.trans (hb4.mono hA3.size); have hA5 := hA4.alloc hA4.size (.cells #[.int .i64 d0, .int .i64 d1, .string d2, .slice d3 d4 d5] 24); have hB5 := (Below.refl _ w4).alloc (Nat.le_refl _) (.cells #[.int .i64 d0, .int .i64 d1, .string d2, .slice d3 d4 d5] 24); have hz5 := vat_below hB5 (vat_below hb4 hz3); have hv5 := vat_alloc w4 #[.int .i64 d0, .int .i64 d1, .string d2, .slice d3 d4 d5]; obtain ⟨⟨v0, v1, v2, v3⟩, -⟩ := box4 hv5; have hI5 := hF4 _ (fun b b1 b2 => hB5.block b b2))
      | (go_at_call 19; (with_reducible refine (HD.out _ _ hI5).mono ?_); rintro e w6 ⟨rfl, hb6⟩; have hz6 := vat_below hb6 hz5; obtain ⟨⟨r0, r1, r2, r3⟩, t0, t1, t2, t3⟩ := box4 hz6))
    refine bodyPost_ret (results_cell_tmp15 Tryd.results8 _ _ (W.heap.size + 1) _ _ _ _ rfl (vat_set4 hz6 _ _ _ _) Tryd.underlying24 rfl val_size15) rfl ⟨_, _, _, _, _, _, rfl, below_set4 (hA5.trans (hb6.mono hA5.size)) (by omega) _ _ _ _ _ _ _ _, fun h => by cases h⟩
  · rw [if_neg hd]
    have dd : decide ((4 : Int) < (deepV v : Int)) = false := by simp; omega
    have hA6 : ∀ (w5 w6 w7 : World), Below W.heap.size W w5 → Below w5.heap.size w5 w6 → Below w6.heap.size w6 w7 → Below W.heap.size W w7 := fun w5 w6 w7 h1 h2 h3 => (h1.trans (h2.mono h1.size)).trans (h3.mono (h1.trans (h2.mono h1.size)).size)
    cases hq : rightV v with
    | false =>
      rw [hq] at HQ
      simp only [Bool.false_eq_true, if_false]
      go_enter Tryd.func8, Tryd.ntmps8
      go_wp2_with (first
        | (go_at_call 23; (with_reducible refine (HR.out _ (HI.out _ hA2)).mono ?_); rintro e w3 ⟨rfl, hb3⟩; have hA3 := hA2.trans (hb3.mono hA2.size); have hj3 := jat_below hb3 hj2; have hz3 := vat_below hb3 hz2; obtain ⟨⟨y0, y1, y2, y3, y4⟩, -⟩ := jbox5 hj3)
        | (go_at_call 24; (with_reducible refine (HT.out _ (kinds_below hK hA3) (HI.out _ hA3)).mono ?_); rintro e w4 ⟨d0, d1, d2, d3, d4, d5, rfl, hb4, hF4⟩; have hA4 := hA3.trans (hb4.mono hA3.size); have hA5 := hA4.alloc hA4.size (.cells #[.int .i64 d0, .int .i64 d1, .string d2, .slice d3 d4 d5] 24); have hB5 := (Below.refl _ w4).alloc (Nat.le_refl _) (.cells #[.int .i64 d0, .int .i64 d1, .string d2, .slice d3 d4 d5] 24); have hz5 := vat_below hB5 (vat_below hb4 hz3); have hv5 := vat_alloc w4 #[.int .i64 d0, .int .i64 d1, .string d2, .slice d3 d4 d5]; obtain ⟨⟨v0, v1, v2, v3⟩, -⟩ := box4 hv5; have hI5 := hF4 _ (fun b b1 b2 => hB5.block b b2))
        | (go_at_call 19; (with_reducible refine (HD.out _ _ hI5).mono ?_); rintro e w6 ⟨rfl, hb6⟩; have hz6 := vat_below hb6 hz5; have hv6 := vat_below hb6 hv5; have hI6 := is_below hb6 _ _ hI5; obtain ⟨⟨v0, v1, v2, v3⟩, -⟩ := box4 hv6)
        | (go_at_call 6; (with_reducible refine (HQ.out _ _ hI6).mono ?_); rintro e w7 ⟨rfl, hb7⟩; have hz7 := vat_below hb7 hz6; have hv7 := vat_below hb7 hv6; obtain ⟨⟨v0, v1, v2, v3⟩, -⟩ := box4 hv7; obtain ⟨⟨r0, r1, r2, r3⟩, t0, t1, t2, t3⟩ := box4 hz7))
      refine bodyPost_ret (results_cell_tmp15 Tryd.results8 _ _ (W.heap.size + 1) _ _ _ _ rfl (vat_set4 hz7 _ _ _ _) Tryd.underlying24 rfl val_size15) rfl ⟨_, _, _, _, _, _, rfl, below_set4 (hA6 _ _ _ hA5 hb6 hb7) (by omega) _ _ _ _ _ _ _ _, fun h => by cases h⟩
    | true =>
      rw [hq] at HQ
      simp only [if_true]
      go_enter Tryd.func8, Tryd.ntmps8
      go_wp2_with (first
        | (go_at_call 23; (with_reducible refine (HR.out _ (HI.out _ hA2)).mono ?_); rintro e w3 ⟨rfl, hb3⟩; have hA3 := hA2.trans (hb3.mono hA2.size); have hj3 := jat_below hb3 hj2; have hz3 := vat_below hb3 hz2; obtain ⟨⟨y0, y1, y2, y3, y4⟩, -⟩ := jbox5 hj3)
        | (go_at_call 24; (with_reducible refine (HT.out _ (kinds_below hK hA3) (HI.out _ hA3)).mono ?_); rintro e w4 ⟨d0, d1, d2, d3, d4, d5, rfl, hb4, hF4⟩; have hA4 := hA3.trans (hb4.mono hA3.size); have hA5 := hA4.alloc hA4.size (.cells #[.int .i64 d0, .int .i64 d1, .string d2, .slice d3 d4 d5] 24); have hB5 := (Below.refl _ w4).alloc (Nat.le_refl _) (.cells #[.int .i64 d0, .int .i64 d1, .string d2, .slice d3 d4 d5] 24); have hz5 := vat_below hB5 (vat_below hb4 hz3); have hv5 := vat_alloc w4 #[.int .i64 d0, .int .i64 d1, .string d2, .slice d3 d4 d5]; obtain ⟨⟨v0, v1, v2, v3⟩, -⟩ := box4 hv5; have hI5 := hF4 _ (fun b b1 b2 => hB5.block b b2))
        | (go_at_call 19; (with_reducible refine (HD.out _ _ hI5).mono ?_); rintro e w6 ⟨rfl, hb6⟩; have hz6 := vat_below hb6 hz5; have hv6 := vat_below hb6 hv5; have hI6 := is_below hb6 _ _ hI5; obtain ⟨⟨v0, v1, v2, v3⟩, -⟩ := box4 hv6)
        | (go_at_call 6; (with_reducible refine (HQ.out _ _ hI6).mono ?_); rintro e w7 ⟨rfl, hb7⟩; have hz7 := vat_below hb7 hz6; have hv7 := vat_below hb7 hv6; obtain ⟨⟨v0, v1, v2, v3⟩, -⟩ := box4 hv7; obtain ⟨⟨r0, r1, r2, r3⟩, t0, t1, t2, t3⟩ := box4 hz7))
      have hs3 := hA3.size
      have hs2 := hb3.size
      simp only [World.size_alloc] at hs2
      refine bodyPost_ret (results_cell_tmp15 Tryd.results8 _ _ (W.heap.size + 1) _ _ _ _ rfl (vat_set4 hz7 _ _ _ _) Tryd.underlying24 rfl val_size15) rfl ⟨_, _, _, _, _, _, rfl, below_set4 (hA6 _ _ _ hA5 hb6 hb7) (by omega) _ _ _ _ _ _ _ _, fun _ => freshC_mono (freshC_later hF4 (by have := hb6.size; have := hb7.size; have := hB5.size; simp; omega) fun b b1 b2 => ?_) hs3⟩
      rw [Below.heap_setCell _ _ _ b (by show b ≠ W.heap.size + 1; omega), Below.heap_setCell _ _ _ b (by show b ≠ W.heap.size + 1; omega), Below.heap_setCell _ _ _ b (by show b ≠ W.heap.size + 1; omega), Below.heap_setCell _ _ _ b (by show b ≠ W.heap.size + 1; omega)]
      have hs5 := hB5.size
      exact (hb7.block b (by have := hb6.size; omega)).trans ((hb6.block b (by omega)).trans (hB5.block b b2))
end Go.Proofs.YtcicjpdjbfgbhaaDoor
