/- What the walks of layer 12's laws share: great, records in boxes, sizes of what cast comes to; more of cast's mathematics. -/
import Derived.Test.YtibjjclfonpibaaGreatMh41Cast
import Derived.Test.YtibjjclfonpibaaGreatMh9Cast
import Derived.Test.YtibjjclfonpibaaGreatMh14Cast
import Derived.Test.YtibjjclfonpibaaGreatMh10Cast
set_option linter.unusedVariables false
set_option linter.unusedSimpArgs false
set_option maxRecDepth 100000
namespace Go.Proofs.YtibjjclfonpibaaGreat
open Go.RowKit Go.Shelf
/-- a record in a box -/
def HasRec (W : World) (b : Nat) (r : RecM) : Prop := ∃ a c, W.heap[b]? = some (.cells #[.int .i64 r.v, .slice a r.s.length c] 31 (0, 0)) ∧ PRow W a c r.s
theorem hasRec_below {W W' : World} {b : Nat} {r : RecM} (h : HasRec W b r) (hb : Below W.heap.size W W') : HasRec W' b r := by
  obtain ⟨a, c, h1, h2⟩ := h
  exact ⟨a, c, (hb.block _ (Array.getElem?_eq_some_iff.1 h1).1).trans h1, pRow_below hb h2⟩
theorem hasRec_new {W : World} {r : RecM} {a : Option Addr} {c : Nat} (h : PRow W a c r.s) : HasRec (W.alloc (.cells #[.int .i64 r.v, .slice a r.s.length c] 31)) W.heap.size r :=
  ⟨a, c, heap_self9 W _, pRow_below (caNew W _) h⟩
/-- a template in a box -/
def HasT (W : World) (b : Nat) (t : TemplM) (sa : Option Addr) (sc : Nat) (ta : Option Addr) (tc : Nat) : Prop := W.heap[b]? = some (.cells #[.string t.nm, .slice sa t.slots.length sc, .slice ta t.steps.length tc] 25 (0, 0)) ∧ IsTempl W t (.agg #[.string t.nm, .slice sa t.slots.length sc, .slice ta t.steps.length tc])
theorem hasT_below {W W' : World} {b : Nat} {t : TemplM} {sa : Option Addr} {sc : Nat} {ta : Option Addr} {tc : Nat} (h : HasT W b t sa sc ta tc) (hb : Below W.heap.size W W') : HasT W' b t sa sc ta tc :=
  ⟨(hb.block _ (Array.getElem?_eq_some_iff.1 h.1).1).trans h.1, isTempl_below hb h.2⟩
/-- small enough for every call -/
def RecOk (r : RecM) : Prop := I64 r.v ∧ (∀ v ∈ r.s, szV v ≤ 1000000) ∧ r.s.length ≤ 100000
theorem castM_ok {t : TemplM} {r : RecM} {v : Int} {on : Bool} (hv : I64 v) : RecOk (Ca.castM t r v on).1 := by
  by_cases h : (Ca.castM t r v on).2 = 0
  · obtain ⟨x, y, _, _, _, hy, e⟩ := Ca.cast_ok h
    rw [e]
    have hf := Ca.turnL_fit (Ca.verOf_df hy) r.s
    refine ⟨hv, fun u hu => right_sz (Rc.fitL_right hf u hu), ?_⟩
    show (Ca.turnL y.slots r.s).length ≤ 100000
    rw [Ca.turnL_length]
    have := (verOf_ok hy).num
    omega
  · rw [Ca.cast_no h]
    exact ⟨by unfold I64; simp, by simp, by simp⟩
set_option maxHeartbeats 4000000 in
theorem caGreat_any (t : TemplM) (r : RecM) (w : World) (X : Value) (b : Option Addr) (d : Nat) (hi : IsTempl w t X) (hr : PRow w b d r.s) :
    Calls Tryz.prog 17 #[X, .agg #[.int .i64 r.v, .slice b r.s.length d]] w fun e w' => e = .returned (.bool (greatT t || greatL r.s)) ∧ Below w.heap.size w w' := by
  have h0 := hi
  obtain ⟨h1, sa, sc, ta, tc, rfl, hsl, hst⟩ := hi
  obtain ⟨rv, l⟩ := r
  simp only at hr ⊢
  obtain ⟨n, hn⟩ : ∃ n, l.length = n := ⟨_, rfl⟩
  have hb2 := below2 w (.cells #[.string t.nm, .slice sa t.slots.length sc, .slice ta t.steps.length tc] 25) (.cells #[.int .i64 rv, .slice b n d] 31)
  have h1' := two_heap w (.cells #[.string t.nm, .slice sa t.slots.length sc, .slice ta t.steps.length tc] 25) (.cells #[.int .i64 rv, .slice b n d] 31)
  have hG := fun (W : World) (hb : Below w.heap.size w W) => refGreat10_any t W _ (isTempl_below hb h0)
  have hL := fun (W : World) (hb : Below w.heap.size w W) => refGreat11_any b d l W (pRow_below hb hr)
  rw [hn] at hL ⊢
  obtain ⟨g1, hg1⟩ : ∃ g, greatT t = g := ⟨_, rfl⟩
  obtain ⟨g2, hg2⟩ : ∃ g, greatL l = g := ⟨_, rfl⟩
  rw [hg1] at hG ⊢
  rw [hg2] at hL ⊢
  have HG := Lib.hid hG; have HL := Lib.hid hL; have HB2 := Lib.hid hb2
  clear hG hL hb2 hg1 hg2 hn h0 hr hsl hst h1
  cases g1 with
  | true =>
    go_enter Tryz.func17, Tryz.ntmps17
    go_wp2_with (first
      | (go_at_call 10; (with_reducible refine (HG.out _ HB2.out).mono ?_); rintro e w1 ⟨rfl, hB1⟩))
    go_ret
    exact ⟨rfl, HB2.out.trans (hB1.mono HB2.out.size)⟩
  | false =>
    go_enter Tryz.func17, Tryz.ntmps17
    go_wp2_with (first
      | (go_at_call 10; (with_reducible refine (HG.out _ HB2.out).mono ?_); rintro e w1 ⟨rfl, hB1⟩; have hw1 := HB2.out.trans (hB1.mono HB2.out.size); have hR := (hB1.block _ (Array.getElem?_eq_some_iff.1 h1').1).trans h1'; obtain ⟨f0, f1, f2, f3⟩ := two_all hR)
      | (go_at_call 11; (with_reducible refine (HL.out _ hw1).mono ?_); rintro e w2 ⟨rfl, hB2⟩))
    go_ret
    exact ⟨rfl, hw1.trans (hB2.mono hw1.size)⟩
namespace Ca
theorem cast_nil {t : TemplM} {r : RecM} {v : Int} {on : Bool} (h : (castM t r v on).2 ≠ 0) : (castM t r v on).1.s.length = 0 ∧ (castM t r v on).1.v = 0 := by
  rw [cast_no h]; exact ⟨rfl, rfl⟩
end Ca
end Go.Proofs.YtibjjclfonpibaaGreat

/- The document's rest of layer 10. (Made by gen_ref10rest.py.) -/
set_option linter.unusedVariables false
set_option linter.unusedSimpArgs false
namespace Go.Proofs.YtibjjclfonpibaaGreat
open Go.RowKit Go.Shelf
/-- an argument that is a step -/
def RIsStep (w : World) (s : StepM) (x : Value) : Prop := ∃ c2 c3 c4 c5 c6 c7 c8 oa oc, x = .agg #[.int .i64 s.kd, .int .i64 s.col, c2, c3, c4, c5, c6, c7, c8, .slice oa s.od.length oc] ∧ I64 s.kd ∧ I64 s.col ∧ Slot7 w s.sl c2 c3 c4 c5 c6 c7 c8 ∧ Row w .i64 oa s.od.length oc s.od ∧ ∀ x ∈ s.od, I64 x
theorem rIsStep_below {w w' : World} (hb : Below w.heap.size w w') {s : StepM} {x : Value} (h : RIsStep w s x) : RIsStep w' s x := by
  obtain ⟨c2, c3, c4, c5, c6, c7, c8, oa, oc, rfl, h1, h2, h3, h4, h5⟩ := h
  exact ⟨c2, c3, c4, c5, c6, c7, c8, oa, oc, rfl, h1, h2, slot7_below hb h3, row_below h4 hb rfl, h5⟩
theorem nilV_is (W : World) : Is W Sc.nilV (.agg #[.int .i64 0, .int .i64 0, .string ⟨#[]⟩, .slice none 0 0]) := by
  unfold Sc.nilV Is
  exact ⟨by unfold I64; omega, by unfold I64; omega, Nat.zero_le _, none, 0, rfl, Nat.le_refl _, Nat.zero_le _, .inl rfl⟩
set_option maxRecDepth 100000 in
set_option maxHeartbeats 8000000 in
theorem refRest_any (s : StepM) (w : World) (x : Value) (hs : RIsStep w s x) : Calls Tryz.prog 86 #[x] w fun e w' => e = .returned (.bool (Sc.rest s)) ∧ Below w.heap.size w w' := by
  obtain ⟨kd, col, ⟨nm, ty, rq, df⟩, od⟩ := s
  obtain ⟨c2, c3, c4, c5, c6, c7, c8, oa, oc, rfl, hk, hc, ⟨hnm, hty, rfl, rfl, rfl, hdf⟩, hod, _⟩ := hs
  have hdf0 := hdf
  obtain ⟨vk, vn, vt, va, vl, vc, e⟩ : ∃ k n t a len cap, (Value.agg #[c5, c6, c7, c8]) = .agg #[.int .i64 k, .int .i64 n, .string t, .slice a len cap] := by
    cases df
    simp only at hdf
    unfold Is at hdf
    obtain ⟨_, _, _, a, cap, e, _⟩ := hdf
    exact ⟨_, _, _, _, _, _, e⟩
  simp only [Value.agg.injEq, Array.mk.injEq, List.cons.injEq, and_true] at e
  obtain ⟨rfl, rfl, rfl, rfl⟩ := e
  simp only at hdf hnm hty hk hc hod ⊢
  have hoc := hod.2.2.1
  have hol := hod.2.1
  unfold maxLen at hoc
  clear hod hdf0
  have hB0 := (Below.refl _ w).alloc (Nat.le_refl _) (.cells #[.int .i64 kd, .int .i64 col, .string nm, .int .i64 ty, .bool rq, .int .i64 vk, .int .i64 vn, .string vt, .slice va vl vc, .slice oa od.length oc] 66)
  have hB1 := hB0.alloc hB0.size (.cells #[.string nm, .int .i64 ty, .bool rq, .int .i64 vk, .int .i64 vn, .string vt, .slice va vl vc] 44)
  have hL1 := (Below.refl _ (w.alloc (.cells #[.int .i64 kd, .int .i64 col, .string nm, .int .i64 ty, .bool rq, .int .i64 vk, .int .i64 vn, .string vt, .slice va vl vc, .slice oa od.length oc] 66))).alloc (Nat.le_refl _) (.cells #[.string nm, .int .i64 ty, .bool rq, .int .i64 vk, .int .i64 vn, .string vt, .slice va vl vc] 44)
  have hSm : ∀ W, Below w.heap.size w W → Calls Tryz.prog 28 #[.agg #[.int .i64 vk, .int .i64 vn, .string vt, .slice va vl vc], .agg #[.int .i64 0, .int .i64 0, .string ⟨#[]⟩, .slice none 0 0]] W fun e w' => e = .returned (.bool (cmpV df Sc.nilV == 0)) ∧ Below W.heap.size W w' := fun W hb => refSame_any df Sc.nilV W _ _ (is_below hb _ _ hdf) (nilV_is W)
  obtain ⟨S, hS⟩ : ∃ S, (cmpV df Sc.nilV == 0) = S := ⟨_, rfl⟩
  rw [hS] at hSm
  have hres : Sc.rest ⟨kd, col, ⟨nm, ty, rq, df⟩, od⟩ = ((decide (kd = 1) || (!rq && S)) && (decide (kd = 5) || od.isEmpty) && (decide (kd = 1) || decide (kd = 3) || decide (nm.size = 0)) && (decide (kd = 1) || decide (kd = 4) || decide (ty = 0)) && ((!decide (kd = 1) && !decide (kd = 5)) || decide (col = 0))) := by
    unfold Sc.rest
    rw [← hS]
    rfl
  rw [hres]
  obtain ⟨G, hG⟩ : ∃ G, ((decide (kd = 1) || (!rq && S)) && (decide (kd = 5) || od.isEmpty) && (decide (kd = 1) || decide (kd = 3) || decide (nm.size = 0)) && (decide (kd = 1) || decide (kd = 4) || decide (ty = 0)) && ((!decide (kd = 1) && !decide (kd = 5)) || decide (col = 0))) = G := ⟨_, rfl⟩
  rw [hG]
  have HG := Lib.hid hG
  have HSm := Lib.hid hSm
  have hx : ∀ W, Below ((w.alloc (.cells #[.int .i64 kd, .int .i64 col, .string nm, .int .i64 ty, .bool rq, .int .i64 vk, .int .i64 vn, .string vt, .slice va vl vc, .slice oa od.length oc] 66)).alloc (.cells #[.string nm, .int .i64 ty, .bool rq, .int .i64 vk, .int .i64 vn, .string vt, .slice va vl vc] 44)).heap.size ((w.alloc (.cells #[.int .i64 kd, .int .i64 col, .string nm, .int .i64 ty, .bool rq, .int .i64 vk, .int .i64 vn, .string vt, .slice va vl vc, .slice oa od.length oc] 66)).alloc (.cells #[.string nm, .int .i64 ty, .bool rq, .int .i64 vk, .int .i64 vn, .string vt, .slice va vl vc] 44)) W →
      W.cell? ⟨w.heap.size, 0, none⟩ = some (.int .i64 kd) ∧ W.cell? ⟨w.heap.size, 1, none⟩ = some (.int .i64 col) ∧ W.cell? ⟨w.heap.size, 9, none⟩ = some (.slice oa od.length oc) ∧ W.cell? ⟨w.heap.size + 1, 0, none⟩ = some (.string nm) ∧ W.cell? ⟨w.heap.size + 1, 1, none⟩ = some (.int .i64 ty) := fun W hb =>
    ⟨cell_below hb (by simp), cell_below hb (by simp), cell_below hb (by simp), cell_below hb (by simp), cell_below hb (by simp)⟩
  have HX := Lib.hid hx
  clear hx hS hres hG hSm hdf
  have hnmB : (nm.toList != []) = !decide (nm.size = 0) := by
    rw [toList_data]
    cases h : nm.data.toList with
    | nil => simp [ByteArray.size, ← Array.length_toList, h]
    | cons y r => simp [ByteArray.size, ← Array.length_toList, h]
  have hodB : od.isEmpty = decide (od.length = 0) := by cases od <;> simp
  rw [hodB] at HG
  clear hodB
  by_cases k1 : kd = 1
  · subst k1
    have e1 : ((1 : Int) != 1) = false := by decide
    have e5 : ((1 : Int) != 5) = true := by decide
    have e3 : ((1 : Int) != 3) = true := by decide
    have e4 : ((1 : Int) != 4) = true := by decide
    by_cases h_O : od.length = 0
    · have d_O : decide (0 < od.length) = false := by simp [h_O]
      have H_O := Lib.hid h_O
      clear h_O
      by_cases h_C : col = 0
      · have d_C : (col == 0) = true := by simp [h_C]
        have H_C := Lib.hid h_C
        clear h_C
        go_enter Tryz.func86, Tryz.ntmps86
        go_wp2
        go_ret
        exact ⟨ret_bool (by rw [← HG.out]; simp [*, H_O.out, H_C.out]), hB1⟩
      · have d_C : (col == 0) = false := by simp [h_C]
        have H_C := Lib.hid h_C
        clear h_C
        go_enter Tryz.func86, Tryz.ntmps86
        go_wp2
        go_ret
        exact ⟨ret_bool (by rw [← HG.out]; simp [*, H_O.out, H_C.out]), hB1⟩
    · have d_O : decide (0 < od.length) = true := by simp; omega
      have H_O := Lib.hid h_O
      clear h_O
      go_enter Tryz.func86, Tryz.ntmps86
      go_wp2
      go_ret
      exact ⟨ret_bool (by rw [← HG.out]; simp [*, H_O.out]), hB1⟩
  by_cases k5 : kd = 5
  · subst k5
    have e1 : ((5 : Int) != 1) = true := by decide
    have e5 : ((5 : Int) != 5) = false := by decide
    have e3 : ((5 : Int) != 3) = true := by decide
    have e4 : ((5 : Int) != 4) = true := by decide
    by_cases h_rq : rq = true
    · subst h_rq
      go_enter Tryz.func86, Tryz.ntmps86
      go_wp2
      go_ret
      exact ⟨ret_bool (by rw [← HG.out]; simp [*]), hB1⟩
    · have h_rq' : rq = false := by simpa using h_rq
      subst h_rq'
      clear h_rq
      by_cases h_S : S = true
      · subst h_S
        by_cases h_N : nm.size = 0
        · have d_N : nm.toList = [] := by have := hnmB; simp [h_N] at this; exact this
          have H_N := Lib.hid h_N
          clear h_N
          by_cases h_T : ty = 0
          · have d_T : (ty != 0) = false := by simp [h_T]
            have H_T := Lib.hid h_T
            clear h_T
            by_cases h_C : col = 0
            · have d_C : (col == 0) = true := by simp [h_C]
              have H_C := Lib.hid h_C
              clear h_C
              go_enter Tryz.func86, Tryz.ntmps86
              go_wp2_with (first | (go_at_call 28; (with_reducible refine (HSm.out _ hB1).mono ?_); rintro e w1 ⟨rfl, hb⟩; obtain ⟨x0, x1, x2, x3, x4⟩ := HX.out _ hb))
              go_ret
              exact ⟨ret_bool (by rw [← HG.out]; simp [*, H_N.out, H_T.out, H_C.out]), hB1.trans (hb.mono hB1.size)⟩
            · have d_C : (col == 0) = false := by simp [h_C]
              have H_C := Lib.hid h_C
              clear h_C
              go_enter Tryz.func86, Tryz.ntmps86
              go_wp2_with (first | (go_at_call 28; (with_reducible refine (HSm.out _ hB1).mono ?_); rintro e w1 ⟨rfl, hb⟩; obtain ⟨x0, x1, x2, x3, x4⟩ := HX.out _ hb))
              go_ret
              exact ⟨ret_bool (by rw [← HG.out]; simp [*, H_N.out, H_T.out, H_C.out]), hB1.trans (hb.mono hB1.size)⟩
          · have d_T : (ty != 0) = true := by simp [h_T]
            have H_T := Lib.hid h_T
            clear h_T
            go_enter Tryz.func86, Tryz.ntmps86
            go_wp2_with (first | (go_at_call 28; (with_reducible refine (HSm.out _ hB1).mono ?_); rintro e w1 ⟨rfl, hb⟩; obtain ⟨x0, x1, x2, x3, x4⟩ := HX.out _ hb))
            go_ret
            exact ⟨ret_bool (by rw [← HG.out]; simp [*, H_N.out, H_T.out]), hB1.trans (hb.mono hB1.size)⟩
        · have d_N : ¬ nm.toList = [] := by have := hnmB; simp [h_N] at this; exact this
          have H_N := Lib.hid h_N
          clear h_N
          go_enter Tryz.func86, Tryz.ntmps86
          go_wp2_with (first | (go_at_call 28; (with_reducible refine (HSm.out _ hB1).mono ?_); rintro e w1 ⟨rfl, hb⟩; obtain ⟨x0, x1, x2, x3, x4⟩ := HX.out _ hb))
          go_ret
          exact ⟨ret_bool (by rw [← HG.out]; simp [*, H_N.out]), hB1.trans (hb.mono hB1.size)⟩
      · have h_S' : S = false := by simpa using h_S
        subst h_S'
        clear h_S
        go_enter Tryz.func86, Tryz.ntmps86
        go_wp2_with (first | (go_at_call 28; (with_reducible refine (HSm.out _ hB1).mono ?_); rintro e w1 ⟨rfl, hb⟩; obtain ⟨x0, x1, x2, x3, x4⟩ := HX.out _ hb))
        go_ret
        exact ⟨ret_bool (by rw [← HG.out]; simp [*]), hB1.trans (hb.mono hB1.size)⟩
  by_cases k3 : kd = 3
  · subst k3
    have e1 : ((3 : Int) != 1) = true := by decide
    have e5 : ((3 : Int) != 5) = true := by decide
    have e3 : ((3 : Int) != 3) = false := by decide
    have e4 : ((3 : Int) != 4) = true := by decide
    by_cases h_rq : rq = true
    · subst h_rq
      go_enter Tryz.func86, Tryz.ntmps86
      go_wp2
      go_ret
      exact ⟨ret_bool (by rw [← HG.out]; simp [*]), hB1⟩
    · have h_rq' : rq = false := by simpa using h_rq
      subst h_rq'
      clear h_rq
      by_cases h_S : S = true
      · subst h_S
        by_cases h_O : od.length = 0
        · have d_O : decide (0 < od.length) = false := by simp [h_O]
          have H_O := Lib.hid h_O
          clear h_O
          by_cases h_T : ty = 0
          · have d_T : (ty != 0) = false := by simp [h_T]
            have H_T := Lib.hid h_T
            clear h_T
            go_enter Tryz.func86, Tryz.ntmps86
            go_wp2_with (first | (go_at_call 28; (with_reducible refine (HSm.out _ hB1).mono ?_); rintro e w1 ⟨rfl, hb⟩; obtain ⟨x0, x1, x2, x3, x4⟩ := HX.out _ hb))
            go_ret
            exact ⟨ret_bool (by rw [← HG.out]; simp [*, H_O.out, H_T.out]), hB1.trans (hb.mono hB1.size)⟩
          · have d_T : (ty != 0) = true := by simp [h_T]
            have H_T := Lib.hid h_T
            clear h_T
            go_enter Tryz.func86, Tryz.ntmps86
            go_wp2_with (first | (go_at_call 28; (with_reducible refine (HSm.out _ hB1).mono ?_); rintro e w1 ⟨rfl, hb⟩; obtain ⟨x0, x1, x2, x3, x4⟩ := HX.out _ hb))
            go_ret
            exact ⟨ret_bool (by rw [← HG.out]; simp [*, H_O.out, H_T.out]), hB1.trans (hb.mono hB1.size)⟩
        · have d_O : decide (0 < od.length) = true := by simp; omega
          have H_O := Lib.hid h_O
          clear h_O
          go_enter Tryz.func86, Tryz.ntmps86
          go_wp2_with (first | (go_at_call 28; (with_reducible refine (HSm.out _ hB1).mono ?_); rintro e w1 ⟨rfl, hb⟩; obtain ⟨x0, x1, x2, x3, x4⟩ := HX.out _ hb))
          go_ret
          exact ⟨ret_bool (by rw [← HG.out]; simp [*, H_O.out]), hB1.trans (hb.mono hB1.size)⟩
      · have h_S' : S = false := by simpa using h_S
        subst h_S'
        clear h_S
        go_enter Tryz.func86, Tryz.ntmps86
        go_wp2_with (first | (go_at_call 28; (with_reducible refine (HSm.out _ hB1).mono ?_); rintro e w1 ⟨rfl, hb⟩; obtain ⟨x0, x1, x2, x3, x4⟩ := HX.out _ hb))
        go_ret
        exact ⟨ret_bool (by rw [← HG.out]; simp [*]), hB1.trans (hb.mono hB1.size)⟩
  by_cases k4 : kd = 4
  · subst k4
    have e1 : ((4 : Int) != 1) = true := by decide
    have e5 : ((4 : Int) != 5) = true := by decide
    have e3 : ((4 : Int) != 3) = true := by decide
    have e4 : ((4 : Int) != 4) = false := by decide
    by_cases h_rq : rq = true
    · subst h_rq
      go_enter Tryz.func86, Tryz.ntmps86
      go_wp2
      go_ret
      exact ⟨ret_bool (by rw [← HG.out]; simp [*]), hB1⟩
    · have h_rq' : rq = false := by simpa using h_rq
      subst h_rq'
      clear h_rq
      by_cases h_S : S = true
      · subst h_S
        by_cases h_O : od.length = 0
        · have d_O : decide (0 < od.length) = false := by simp [h_O]
          have H_O := Lib.hid h_O
          clear h_O
          by_cases h_N : nm.size = 0
          · have d_N : nm.toList = [] := by have := hnmB; simp [h_N] at this; exact this
            have H_N := Lib.hid h_N
            clear h_N
            go_enter Tryz.func86, Tryz.ntmps86
            go_wp2_with (first | (go_at_call 28; (with_reducible refine (HSm.out _ hB1).mono ?_); rintro e w1 ⟨rfl, hb⟩; obtain ⟨x0, x1, x2, x3, x4⟩ := HX.out _ hb))
            go_ret
            exact ⟨ret_bool (by rw [← HG.out]; simp [*, H_O.out, H_N.out]), hB1.trans (hb.mono hB1.size)⟩
          · have d_N : ¬ nm.toList = [] := by have := hnmB; simp [h_N] at this; exact this
            have H_N := Lib.hid h_N
            clear h_N
            go_enter Tryz.func86, Tryz.ntmps86
            go_wp2_with (first | (go_at_call 28; (with_reducible refine (HSm.out _ hB1).mono ?_); rintro e w1 ⟨rfl, hb⟩; obtain ⟨x0, x1, x2, x3, x4⟩ := HX.out _ hb))
            go_ret
            exact ⟨ret_bool (by rw [← HG.out]; simp [*, H_O.out, H_N.out]), hB1.trans (hb.mono hB1.size)⟩
        · have d_O : decide (0 < od.length) = true := by simp; omega
          have H_O := Lib.hid h_O
          clear h_O
          go_enter Tryz.func86, Tryz.ntmps86
          go_wp2_with (first | (go_at_call 28; (with_reducible refine (HSm.out _ hB1).mono ?_); rintro e w1 ⟨rfl, hb⟩; obtain ⟨x0, x1, x2, x3, x4⟩ := HX.out _ hb))
          go_ret
          exact ⟨ret_bool (by rw [← HG.out]; simp [*, H_O.out]), hB1.trans (hb.mono hB1.size)⟩
      · have h_S' : S = false := by simpa using h_S
        subst h_S'
        clear h_S
        go_enter Tryz.func86, Tryz.ntmps86
        go_wp2_with (first | (go_at_call 28; (with_reducible refine (HSm.out _ hB1).mono ?_); rintro e w1 ⟨rfl, hb⟩; obtain ⟨x0, x1, x2, x3, x4⟩ := HX.out _ hb))
        go_ret
        exact ⟨ret_bool (by rw [← HG.out]; simp [*]), hB1.trans (hb.mono hB1.size)⟩
  have k9 : True := trivial
  have e1 : (kd != 1) = true := by simpa using k1
  have e5 : (kd != 5) = true := by simpa using k5
  have e3 : (kd != 3) = true := by simpa using k3
  have e4 : (kd != 4) = true := by simpa using k4
  by_cases h_rq : rq = true
  · subst h_rq
    go_enter Tryz.func86, Tryz.ntmps86
    go_wp2
    go_ret
    exact ⟨ret_bool (by rw [← HG.out]; simp [*]), hB1⟩
  · have h_rq' : rq = false := by simpa using h_rq
    subst h_rq'
    clear h_rq
    by_cases h_S : S = true
    · subst h_S
      by_cases h_O : od.length = 0
      · have d_O : decide (0 < od.length) = false := by simp [h_O]
        have H_O := Lib.hid h_O
        clear h_O
        by_cases h_N : nm.size = 0
        · have d_N : nm.toList = [] := by have := hnmB; simp [h_N] at this; exact this
          have H_N := Lib.hid h_N
          clear h_N
          by_cases h_T : ty = 0
          · have d_T : (ty != 0) = false := by simp [h_T]
            have H_T := Lib.hid h_T
            clear h_T
            go_enter Tryz.func86, Tryz.ntmps86
            go_wp2_with (first | (go_at_call 28; (with_reducible refine (HSm.out _ hB1).mono ?_); rintro e w1 ⟨rfl, hb⟩; obtain ⟨x0, x1, x2, x3, x4⟩ := HX.out _ hb))
            go_ret
            exact ⟨ret_bool (by rw [← HG.out]; simp [*, H_O.out, H_N.out, H_T.out]), hB1.trans (hb.mono hB1.size)⟩
          · have d_T : (ty != 0) = true := by simp [h_T]
            have H_T := Lib.hid h_T
            clear h_T
            go_enter Tryz.func86, Tryz.ntmps86
            go_wp2_with (first | (go_at_call 28; (with_reducible refine (HSm.out _ hB1).mono ?_); rintro e w1 ⟨rfl, hb⟩; obtain ⟨x0, x1, x2, x3, x4⟩ := HX.out _ hb))
            go_ret
            exact ⟨ret_bool (by rw [← HG.out]; simp [*, H_O.out, H_N.out, H_T.out]), hB1.trans (hb.mono hB1.size)⟩
        · have d_N : ¬ nm.toList = [] := by have := hnmB; simp [h_N] at this; exact this
          have H_N := Lib.hid h_N
          clear h_N
          go_enter Tryz.func86, Tryz.ntmps86
          go_wp2_with (first | (go_at_call 28; (with_reducible refine (HSm.out _ hB1).mono ?_); rintro e w1 ⟨rfl, hb⟩; obtain ⟨x0, x1, x2, x3, x4⟩ := HX.out _ hb))
          go_ret
          exact ⟨ret_bool (by rw [← HG.out]; simp [*, H_O.out, H_N.out]), hB1.trans (hb.mono hB1.size)⟩
      · have d_O : decide (0 < od.length) = true := by simp; omega
        have H_O := Lib.hid h_O
        clear h_O
        go_enter Tryz.func86, Tryz.ntmps86
        go_wp2_with (first | (go_at_call 28; (with_reducible refine (HSm.out _ hB1).mono ?_); rintro e w1 ⟨rfl, hb⟩; obtain ⟨x0, x1, x2, x3, x4⟩ := HX.out _ hb))
        go_ret
        exact ⟨ret_bool (by rw [← HG.out]; simp [*, H_O.out]), hB1.trans (hb.mono hB1.size)⟩
    · have h_S' : S = false := by simpa using h_S
      subst h_S'
      clear h_S
      go_enter Tryz.func86, Tryz.ntmps86
      go_wp2_with (first | (go_at_call 28; (with_reducible refine (HSm.out _ hB1).mono ?_); rintro e w1 ⟨rfl, hb⟩; obtain ⟨x0, x1, x2, x3, x4⟩ := HX.out _ hb))
      go_ret
      exact ⟨ret_bool (by rw [← HG.out]; simp [*]), hB1.trans (hb.mono hB1.size)⟩
end Go.Proofs.YtibjjclfonpibaaGreat
