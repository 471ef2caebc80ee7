/- The document's Same of layer 11; layer 12's example. (Made by gen_cab.py.) -/
import Derived.Test.YtibjjclfonpibaaGreatMh40Cast
import Derived.Test.YtibjjclfonpibaaGreatMh35Cast
import Derived.Test.YtibjjclfonpibaaGreatMh27Cast
set_option linter.unusedVariables false
set_option linter.unusedSimpArgs false
set_option maxRecDepth 100000
namespace Go.Proofs.YtibjjclfonpibaaGreat
open Go.RowKit Go.Shelf
set_option maxHeartbeats 4000000 in
theorem refSame11_any (r s : RecM) (w : World) (b c : Option Addr) (d f : Nat) (hr : PRow w b d r.s) (hs : PRow w c f s.s) (h1 : r.s.length ≤ 100000) (h2 : s.s.length ≤ 100000) (B : Bool) (hB : B = true ↔ r = s) :
    Calls Tryz.prog 24 #[.agg #[.int .i64 r.v, .slice b r.s.length d], .agg #[.int .i64 s.v, .slice c s.s.length f]] w fun e w' => e = .returned (.bool B) ∧ Below w.heap.size w w' := by
  obtain ⟨rv, l⟩ := r
  obtain ⟨sv, m⟩ := s
  simp only at hr hs h1 h2 ⊢
  have hAll := fun (W : World) (hb : Below w.heap.size w W) (C : Bool) (hC : C = true ↔ l = m) => refAll_any b c d f l m W (pRow_below hb hr) (pRow_below hb hs) h1 h2 C hC
  have hb2 := below2 w (.cells #[.int .i64 rv, .slice b l.length d] 31) (.cells #[.int .i64 sv, .slice c m.length f] 31)
  by_cases hv : rv = sv
  · subst hv
    have hBl : B = true ↔ l = m := hB.trans ⟨fun h => by cases h; rfl, fun h => by rw [h]⟩
    have HA := Lib.hid (hAll _ hb2 B hBl)
    have HB2 := Lib.hid hb2
    have hd : (rv == rv) = true := by simp
    clear hAll hb2 hB hr hs h1 h2 hBl
    go_enter Tryz.func24, Tryz.ntmps24
    go_wp2_with (first
      | (go_at_call 15; (with_reducible refine HA.out.mono ?_); rintro e w1 ⟨rfl, hB1⟩))
    go_ret
    exact ⟨rfl, HB2.out.trans (hB1.mono HB2.out.size)⟩
  · have hd : (rv == sv) = false := by simpa using hv
    have hBf : B = false := by
      cases B with
      | false => rfl
      | true => have := hB.1 rfl; cases this; exact absurd rfl hv
    subst hBf
    have HB2 := Lib.hid hb2
    have HV := Lib.hid hv
    clear hAll hb2 hB hr hs h1 h2 hv
    go_enter Tryz.func24, Tryz.ntmps24
    go_wp2
    go_ret
    exact ⟨rfl, HB2.out⟩
namespace Ca
def r34 : RecM := ⟨1, [intV 3, intV 4]⟩
theorem up3 : upM twoT r34 ((lastN twoT : Nat) : Int) = (⟨3, [intV 3, intV 4, Sc.nilV]⟩, 0) := by kernel_rfl
theorem dn1 : downM twoT ⟨3, [intV 3, intV 4, Sc.nilV]⟩ 1 = (⟨1, [intV 3, intV 4]⟩, 0) := by kernel_rfl
theorem dn0 : downM twoT r34 (r34.v - 1) = (⟨0, []⟩, 7) := by kernel_rfl
theorem li2 : upM twoT r34 (r34.v + 1) = (⟨2, [intV 3, intV 4]⟩, 0) := by kernel_rfl
theorem up2 : upM twoT r34 2 = (⟨2, [intV 3, intV 4]⟩, 0) := by kernel_rfl
theorem sz34 : ∀ v ∈ [intV 3, intV 4, Sc.nilV], szV v ≤ 1000000 := by
  intro v hv
  simp only [List.mem_cons, List.not_mem_nil, or_false] at hv
  rcases hv with rfl | rfl | rfl <;> simp [intV, Sc.nilV, szV, szL]
end Ca
theorem intC_is (n : Int) (hn : I64 n) (W : World) : Is W (intV n) (.agg #[.int .i64 2, .int .i64 n, .string ⟨#[]⟩, .slice none 0 0]) := by
  unfold intV Is
  exact ⟨by unfold I64; omega, hn, Nat.zero_le _, none, 0, rfl, Nat.le_refl _, Nat.zero_le _, .inl rfl⟩
theorem row34 {W : World} {g : Nat} (h : W.heap[g]? = some (.cells #[.int .i64 2, .int .i64 3, .string ⟨#[]⟩, .slice none 0 0, .int .i64 2, .int .i64 4, .string ⟨#[]⟩, .slice none 0 0] 42 (0, 0))) : PRow W (some ⟨g, 0, none⟩) 2 Ca.r34.s := by
  refine ⟨by decide, by unfold maxLen; omega, .inr ⟨g, 0, rfl, isL_of fun i y hy => ?_⟩⟩
  have hc : ∀ j u, #[.int .i64 2, .int .i64 3, .string ⟨#[]⟩, .slice none 0 0, .int .i64 2, .int .i64 4, .string ⟨#[]⟩, .slice none 0 0][j]? = some u → W.cell? ⟨g, j, none⟩ = some u := fun j u hu => by simp only [World.cell?, h]; exact hu
  have hi := (List.getElem?_eq_some_iff.1 hy).1
  have hi2 : i < 2 := hi
  rcases (show i = 0 ∨ i = 1 by omega) with rfl | rfl
  · cases hy
    exact ⟨_, _, _, _, ⟨hc 0 _ rfl, hc 1 _ rfl, hc 2 _ rfl, hc 3 _ rfl⟩, intC_is 3 (by unfold I64; omega) W⟩
  · cases hy
    exact ⟨_, _, _, _, ⟨hc 4 _ rfl, hc 5 _ rfl, hc 6 _ rfl, hc 7 _ rfl⟩, intC_is 4 (by unfold I64; omega) W⟩
theorem three34 {W : World} {a : Option Addr} {c : Nat} (h : PRow W a c [intV 3, intV 4, Sc.nilV]) : ∃ g o, a = some ⟨g, o, none⟩ ∧ W.cell? ⟨g, o + 1, none⟩ = some (.int .i64 3) ∧ W.cell? ⟨g, o + 8, none⟩ = some (.int .i64 0) := by
  obtain ⟨g, o, k, n, tx, la, ll, lc, rfl, ⟨q0, q1, q2, q3⟩, hI⟩ := pRow_val h (i := 0) (v := intV 3) rfl
  obtain ⟨g', o', k', n', tx', la', ll', lc', e, ⟨p0, p1, p2, p3⟩, hI'⟩ := pRow_val h (i := 2) (v := Sc.nilV) rfl
  injection e with e
  injection e with e1 e2 _
  subst e1 e2
  refine ⟨g, o, rfl, ?_, ?_⟩
  · obtain ⟨_, _, _, _, _, e, _⟩ := (by unfold intV Is at hI; exact hI)
    simp only [Value.agg.injEq, Array.mk.injEq, List.cons.injEq] at e
    rw [← e.2.1]; simpa using q1
  · obtain ⟨_, _, _, _, _, e, _⟩ := (by unfold Sc.nilV Is at hI'; exact hI')
    simp only [Value.agg.injEq, Array.mk.injEq, List.cons.injEq] at e
    rw [← e.1]; simpa using p0
set_option maxHeartbeats 16000000 in
theorem caAlive_any (w : World) : Calls Tryz.prog 16 #[] w fun e w' => e = .returned (.bool true) ∧ Below w.heap.size w w' := by
  have hT := refTwo_any w
  have hI := fun (n : Int) (W : World) => refInt03_any n W
  have HT := Lib.hid hT; have HI := Lib.hid hI
  clear hT hI
  go_enter Tryz.func16, Tryz.ntmps16
  go_upto_region 2 with (first
    | (go_at_call 30; (with_reducible refine HT.out.mono ?_); rintro e w1 ⟨⟨X, rfl, hX⟩, hB1⟩; obtain ⟨htn, sa, sc, ta, tc, rfl, hsl, hst⟩ := id hX))
  have hA1 := caNew w1 (.cells #[.string twoT.nm, .slice sa twoT.slots.length sc, .slice ta twoT.steps.length tc] 25)
  have hT1 := heap_self9 w1 (.cells #[.string twoT.nm, .slice sa twoT.slots.length sc, .slice ta twoT.steps.length tc] 25)
  have hw1 := hB1.trans (hA1.mono hB1.size)
  have hX1 := isTempl_below hA1 hX
  obtain ⟨v1, hv1⟩ : ∃ U, w1.alloc (.cells #[.string twoT.nm, .slice sa twoT.slots.length sc, .slice ta twoT.steps.length tc] 25) = U := ⟨_, rfl⟩
  obtain ⟨tb, htb⟩ : ∃ b, w1.heap.size = b := ⟨_, rfl⟩
  rw [hv1] at hT1 hw1 hX1 ⊢
  rw [htb] at hT1 ⊢
  clear hv1 htb hA1 hB1 hX hsl hst htn HT
  have hz2 := build_rec2
  go_upto_region 3 with (first
    | (go_at_call 31; first
      | ((with_reducible refine (HI.out 3 v1).mono ?_); rintro e w2 ⟨rfl, hB2⟩)
      | ((with_reducible refine (HI.out 4 _).mono ?_); rintro e w3 ⟨rfl, hB3⟩)))
  have hh4 := two_heap w3 (.cells #[.int .i64 2, .int .i64 3, .string ⟨#[]⟩, .slice none 0 0, .int .i64 2, .int .i64 4, .string ⟨#[]⟩, .slice none 0 0] 42) (.cells #[.int .i64 1, .slice (some ⟨w3.heap.size, 0, none⟩) 2 2] 31)
  have hg4 : ((w3.alloc (.cells #[.int .i64 2, .int .i64 3, .string ⟨#[]⟩, .slice none 0 0, .int .i64 2, .int .i64 4, .string ⟨#[]⟩, .slice none 0 0] 42)).alloc (.cells #[.int .i64 1, .slice (some ⟨w3.heap.size, 0, none⟩) 2 2] 31)).heap[w3.heap.size]? = some (.cells #[.int .i64 2, .int .i64 3, .string ⟨#[]⟩, .slice none 0 0, .int .i64 2, .int .i64 4, .string ⟨#[]⟩, .slice none 0 0] 42 (0, 0)) := (Below.heap_alloc _ _ _ (by simp)).trans (heap_self9 w3 _)
  have hA4 := below2 w3 (.cells #[.int .i64 2, .int .i64 3, .string ⟨#[]⟩, .slice none 0 0, .int .i64 2, .int .i64 4, .string ⟨#[]⟩, .slice none 0 0] 42) (.cells #[.int .i64 1, .slice (some ⟨w3.heap.size, 0, none⟩) 2 2] 31)
  have hb14 := (hB2.trans (hB3.mono hB2.size)).trans (hA4.mono (Nat.le_trans hB2.size hB3.size))
  have hw4 := hw1.trans (hb14.mono hw1.size)
  have hT4 := (hb14.block _ (Array.getElem?_eq_some_iff.1 hT1).1).trans hT1
  have hX4 := isTempl_below hb14 hX1
  have hP4 := row34 hg4
  obtain ⟨g4, hg4e⟩ : ∃ g, w3.heap.size = g := ⟨_, rfl⟩
  obtain ⟨v4, hv4⟩ : ∃ U, (w3.alloc (.cells #[.int .i64 2, .int .i64 3, .string ⟨#[]⟩, .slice none 0 0, .int .i64 2, .int .i64 4, .string ⟨#[]⟩, .slice none 0 0] 42)).alloc (.cells #[.int .i64 1, .slice (some ⟨w3.heap.size, 0, none⟩) 2 2] 31) = U := ⟨_, rfl⟩
  rw [hv4] at hh4 hP4 hw4 hT4 hX4 ⊢
  rw [hg4e] at hh4 hP4 ⊢
  clear hv4 hg4e hg4 hA4 hb14 hT1 hX1 hB2 hB3 hw1 HI
  obtain ⟨rb, hrb⟩ : ∃ b, g4 + 1 = b := ⟨_, rfl⟩
  rw [hrb] at hh4 ⊢
  clear hrb
  obtain ⟨t0, t1, t2⟩ := caThree hT4
  obtain ⟨r0, r1, _, _⟩ := two_all hh4
  have hc := (by have h := caNewest_any twoT Ca.r34 v4 _ (some ⟨g4, 0, none⟩) 2 two_great (by unfold I64 Ca.r34; simp) hX4 hP4 (fun v hv => Ca.sz34 v (by unfold Ca.r34 at hv; simp only [List.mem_cons, List.not_mem_nil, or_false] at hv ⊢; rcases hv with h | h <;> simp [h])) (by unfold Ca.r34; simp); rw [Ca.up3] at h; exact h : Calls Tryz.prog 22 #[.agg #[.string twoT.nm, .slice sa twoT.slots.length sc, .slice ta twoT.steps.length tc], .agg #[.int .i64 1, .slice (some ⟨g4, 0, none⟩) 2 2]] v4 (CastR v4 (⟨3, [intV 3, intV 4, Sc.nilV]⟩, 0)))
  have HC := Lib.hid hc; clear hc
  go_upto_region 4 with (first
    | (go_at_call 22; (with_reducible refine HC.out.mono ?_); rintro e w9 ⟨⟨qa, qc, rfl, hq⟩, hB9⟩))
  have hA9 := caNew w9 (.cells #[.int .i64 3, .slice qa 3 qc] 31)
  have hN9 := heap_self9 w9 (.cells #[.int .i64 3, .slice qa 3 qc] 31)
  have hBA := hB9.trans (hA9.mono hB9.size)
  have hQu := pRow_below hA9 hq
  have hT4x := (hBA.block _ (Array.getElem?_eq_some_iff.1 hT4).1).trans hT4
  have hX4x := isTempl_below hBA hX4
  have hw4x := hw4.trans (hBA.mono hw4.size)
  have hP4x := pRow_below hBA hP4
  have hh4x := (hBA.block _ (Array.getElem?_eq_some_iff.1 hh4).1).trans hh4
  obtain ⟨v5, hve⟩ : ∃ U, w9.alloc (.cells #[.int .i64 3, .slice qa 3 qc] 31) = U := ⟨_, rfl⟩
  obtain ⟨bku, hbe⟩ : ∃ b, w9.heap.size = b := ⟨_, rfl⟩
  rw [hve] at hN9 hQu hT4x hX4x hw4x hP4x hh4x ⊢
  rw [hbe] at hN9 ⊢
  obtain ⟨qau, hqa⟩ : ∃ q, qa = q := ⟨_, rfl⟩
  obtain ⟨qcu, hqc⟩ : ∃ q, qc = q := ⟨_, rfl⟩
  rw [hqa, hqc] at hN9 hQu ⊢
  have hbu := hN9
  clear hve hbe hqa hqc hN9 hBA hA9 hq hB9 HC t0 t1 t2 r0 r1
  obtain ⟨u0, u1, _, _⟩ := two_all hbu
  obtain ⟨t0, t1, t2⟩ := caThree hT4x
  obtain ⟨r0, r1, _, _⟩ := two_all hh4x
  obtain ⟨u0, u1, _, _⟩ := two_all hbu
  have hc := (by have h := caDown_any twoT ⟨3, [intV 3, intV 4, Sc.nilV]⟩ 1 v5 _ qau qcu two_great (by unfold I64; simp) (by unfold I64; omega) hX4x hQu Ca.sz34 (by simp); rw [Ca.dn1] at h; exact h : Calls Tryz.prog 20 #[.agg #[.string twoT.nm, .slice sa twoT.slots.length sc, .slice ta twoT.steps.length tc], .agg #[.int .i64 3, .slice qau 3 qcu], .int .i64 1] v5 (CastR v5 (⟨1, [intV 3, intV 4]⟩, 0)))
  have HC := Lib.hid hc; clear hc
  go_upto_region 5 with (first
    | (go_at_call 20; (with_reducible refine HC.out.mono ?_); rintro e w9 ⟨⟨qa, qc, rfl, hq⟩, hB9⟩))
  have hA9 := caNew w9 (.cells #[.int .i64 1, .slice qa 2 qc] 31)
  have hN9 := heap_self9 w9 (.cells #[.int .i64 1, .slice qa 2 qc] 31)
  have hBA := hB9.trans (hA9.mono hB9.size)
  have hQd := pRow_below hA9 hq
  have hT4xx := (hBA.block _ (Array.getElem?_eq_some_iff.1 hT4x).1).trans hT4x
  have hX4xx := isTempl_below hBA hX4x
  have hw4xx := hw4x.trans (hBA.mono hw4x.size)
  have hP4xx := pRow_below hBA hP4x
  have hh4xx := (hBA.block _ (Array.getElem?_eq_some_iff.1 hh4x).1).trans hh4x
  have hQux := pRow_below hBA hQu
  have hbux := (hBA.block _ (Array.getElem?_eq_some_iff.1 hbu).1).trans hbu
  obtain ⟨v6, hve⟩ : ∃ U, w9.alloc (.cells #[.int .i64 1, .slice qa 2 qc] 31) = U := ⟨_, rfl⟩
  obtain ⟨bkd, hbe⟩ : ∃ b, w9.heap.size = b := ⟨_, rfl⟩
  rw [hve] at hN9 hQd hT4xx hX4xx hw4xx hP4xx hh4xx hQux hbux ⊢
  rw [hbe] at hN9 ⊢
  obtain ⟨qad, hqa⟩ : ∃ q, qa = q := ⟨_, rfl⟩
  obtain ⟨qcd, hqc⟩ : ∃ q, qc = q := ⟨_, rfl⟩
  rw [hqa, hqc] at hN9 hQd ⊢
  have hbd := hN9
  clear hve hbe hqa hqc hN9 hBA hA9 hq hB9 HC t0 t1 t2 r0 r1
  clear u0 u1
  obtain ⟨t0, t1, t2⟩ := caThree hT4xx
  obtain ⟨r0, r1, _, _⟩ := two_all hh4xx
  obtain ⟨u0, u1, _, _⟩ := two_all hbux
  have hc := (by have h := caLower_any twoT Ca.r34 v6 _ (some ⟨g4, 0, none⟩) 2 two_great (by unfold I64 Ca.r34; simp) (by unfold Ca.r34; simp) hX4xx hP4xx (fun v hv => Ca.sz34 v (by unfold Ca.r34 at hv; simp only [List.mem_cons, List.not_mem_nil, or_false] at hv ⊢; rcases hv with h | h <;> simp [h])) (by unfold Ca.r34; simp); rw [Ca.dn0] at h; exact h : Calls Tryz.prog 26 #[.agg #[.string twoT.nm, .slice sa twoT.slots.length sc, .slice ta twoT.steps.length tc], .agg #[.int .i64 1, .slice (some ⟨g4, 0, none⟩) 2 2]] v6 (CastR v6 (⟨0, []⟩, 7)))
  have HC := Lib.hid hc; clear hc
  go_upto_region 6 with (first
    | (go_at_call 26; (with_reducible refine HC.out.mono ?_); rintro e w9 ⟨⟨qa, qc, rfl, hq⟩, hB9⟩))
  have hA9 := caNew w9 (.cells #[.int .i64 0, .slice qa 0 qc] 31)
  have hN9 := heap_self9 w9 (.cells #[.int .i64 0, .slice qa 0 qc] 31)
  have hBA := hB9.trans (hA9.mono hB9.size)
  have hQl := pRow_below hA9 hq
  have hT4xxx := (hBA.block _ (Array.getElem?_eq_some_iff.1 hT4xx).1).trans hT4xx
  have hX4xxx := isTempl_below hBA hX4xx
  have hw4xxx := hw4xx.trans (hBA.mono hw4xx.size)
  have hP4xxx := pRow_below hBA hP4xx
  have hh4xxx := (hBA.block _ (Array.getElem?_eq_some_iff.1 hh4xx).1).trans hh4xx
  have hQuxx := pRow_below hBA hQux
  have hbuxx := (hBA.block _ (Array.getElem?_eq_some_iff.1 hbux).1).trans hbux
  have hQdx := pRow_below hBA hQd
  have hbdx := (hBA.block _ (Array.getElem?_eq_some_iff.1 hbd).1).trans hbd
  obtain ⟨v7, hve⟩ : ∃ U, w9.alloc (.cells #[.int .i64 0, .slice qa 0 qc] 31) = U := ⟨_, rfl⟩
  obtain ⟨bkl, hbe⟩ : ∃ b, w9.heap.size = b := ⟨_, rfl⟩
  rw [hve] at hN9 hQl hT4xxx hX4xxx hw4xxx hP4xxx hh4xxx hQuxx hbuxx hQdx hbdx ⊢
  rw [hbe] at hN9 ⊢
  obtain ⟨qal, hqa⟩ : ∃ q, qa = q := ⟨_, rfl⟩
  obtain ⟨qcl, hqc⟩ : ∃ q, qc = q := ⟨_, rfl⟩
  rw [hqa, hqc] at hN9 hQl ⊢
  have hbl := hN9
  clear hve hbe hqa hqc hN9 hBA hA9 hq hB9 HC t0 t1 t2 r0 r1
  obtain ⟨t0, t1, t2⟩ := caThree hT4xxx
  obtain ⟨r0, r1, _, _⟩ := two_all hh4xxx
  obtain ⟨u0, u1, _, _⟩ := two_all hbuxx
  have hc := (by have h := caLift_any twoT Ca.r34 v7 _ (some ⟨g4, 0, none⟩) 2 two_great (by unfold I64 Ca.r34; simp) (by unfold Ca.r34; simp) hX4xxx hP4xxx (fun v hv => Ca.sz34 v (by unfold Ca.r34 at hv; simp only [List.mem_cons, List.not_mem_nil, or_false] at hv ⊢; rcases hv with h | h <;> simp [h])) (by unfold Ca.r34; simp); rw [Ca.li2] at h; exact h : Calls Tryz.prog 25 #[.agg #[.string twoT.nm, .slice sa twoT.slots.length sc, .slice ta twoT.steps.length tc], .agg #[.int .i64 1, .slice (some ⟨g4, 0, none⟩) 2 2]] v7 (CastR v7 (⟨2, [intV 3, intV 4]⟩, 0)))
  have HC := Lib.hid hc; clear hc
  go_upto_region 7 with (first
    | (go_at_call 25; (with_reducible refine HC.out.mono ?_); rintro e w9 ⟨⟨qa, qc, rfl, hq⟩, hB9⟩))
  have hA9 := caNew w9 (.cells #[.int .i64 2, .slice qa 2 qc] 31)
  have hN9 := heap_self9 w9 (.cells #[.int .i64 2, .slice qa 2 qc] 31)
  have hBA := hB9.trans (hA9.mono hB9.size)
  have hQx := pRow_below hA9 hq
  have hT4xxxx := (hBA.block _ (Array.getElem?_eq_some_iff.1 hT4xxx).1).trans hT4xxx
  have hX4xxxx := isTempl_below hBA hX4xxx
  have hw4xxxx := hw4xxx.trans (hBA.mono hw4xxx.size)
  have hP4xxxx := pRow_below hBA hP4xxx
  have hh4xxxx := (hBA.block _ (Array.getElem?_eq_some_iff.1 hh4xxx).1).trans hh4xxx
  have hQuxxx := pRow_below hBA hQuxx
  have hbuxxx := (hBA.block _ (Array.getElem?_eq_some_iff.1 hbuxx).1).trans hbuxx
  have hQdxx := pRow_below hBA hQdx
  have hbdxx := (hBA.block _ (Array.getElem?_eq_some_iff.1 hbdx).1).trans hbdx
  have hQlx := pRow_below hBA hQl
  have hblx := (hBA.block _ (Array.getElem?_eq_some_iff.1 hbl).1).trans hbl
  obtain ⟨v8, hve⟩ : ∃ U, w9.alloc (.cells #[.int .i64 2, .slice qa 2 qc] 31) = U := ⟨_, rfl⟩
  obtain ⟨bkx, hbe⟩ : ∃ b, w9.heap.size = b := ⟨_, rfl⟩
  rw [hve] at hN9 hQx hT4xxxx hX4xxxx hw4xxxx hP4xxxx hh4xxxx hQuxxx hbuxxx hQdxx hbdxx hQlx hblx ⊢
  rw [hbe] at hN9 ⊢
  obtain ⟨qax, hqa⟩ : ∃ q, qa = q := ⟨_, rfl⟩
  obtain ⟨qcx, hqc⟩ : ∃ q, qc = q := ⟨_, rfl⟩
  rw [hqa, hqc] at hN9 hQx ⊢
  have hbx := hN9
  clear hve hbe hqa hqc hN9 hBA hA9 hq hB9 HC t0 t1 t2 r0 r1
  obtain ⟨t0, t1, t2⟩ := caThree hT4xxxx
  obtain ⟨r0, r1, _, _⟩ := two_all hh4xxxx
  obtain ⟨u0, u1, _, _⟩ := two_all hbuxxx
  have hc := (by have h := caUp_any twoT Ca.r34 2 v8 _ (some ⟨g4, 0, none⟩) 2 two_great (by unfold I64 Ca.r34; simp) (by unfold I64; omega) hX4xxxx hP4xxxx (fun v hv => Ca.sz34 v (by unfold Ca.r34 at hv; simp only [List.mem_cons, List.not_mem_nil, or_false] at hv ⊢; rcases hv with h | h <;> simp [h])) (by unfold Ca.r34; simp); rw [Ca.up2] at h; exact h : Calls Tryz.prog 18 #[.agg #[.string twoT.nm, .slice sa twoT.slots.length sc, .slice ta twoT.steps.length tc], .agg #[.int .i64 1, .slice (some ⟨g4, 0, none⟩) 2 2], .int .i64 2] v8 (CastR v8 (⟨2, [intV 3, intV 4]⟩, 0)))
  have HC := Lib.hid hc; clear hc
  go_upto_region 8 with (first
    | (go_at_call 18; (with_reducible refine HC.out.mono ?_); rintro e w9 ⟨⟨qa, qc, rfl, hq⟩, hB9⟩))
  have hA9 := caNew w9 (.cells #[.int .i64 2, .slice qa 2 qc] 31)
  have hN9 := heap_self9 w9 (.cells #[.int .i64 2, .slice qa 2 qc] 31)
  have hBA := hB9.trans (hA9.mono hB9.size)
  have hQy := pRow_below hA9 hq
  have hT4xxxxx := (hBA.block _ (Array.getElem?_eq_some_iff.1 hT4xxxx).1).trans hT4xxxx
  have hX4xxxxx := isTempl_below hBA hX4xxxx
  have hw4xxxxx := hw4xxxx.trans (hBA.mono hw4xxxx.size)
  have hP4xxxxx := pRow_below hBA hP4xxxx
  have hh4xxxxx := (hBA.block _ (Array.getElem?_eq_some_iff.1 hh4xxxx).1).trans hh4xxxx
  have hQuxxxx := pRow_below hBA hQuxxx
  have hbuxxxx := (hBA.block _ (Array.getElem?_eq_some_iff.1 hbuxxx).1).trans hbuxxx
  have hQdxxx := pRow_below hBA hQdxx
  have hbdxxx := (hBA.block _ (Array.getElem?_eq_some_iff.1 hbdxx).1).trans hbdxx
  have hQlxx := pRow_below hBA hQlx
  have hblxx := (hBA.block _ (Array.getElem?_eq_some_iff.1 hblx).1).trans hblx
  have hQxx := pRow_below hBA hQx
  have hbxx := (hBA.block _ (Array.getElem?_eq_some_iff.1 hbx).1).trans hbx
  obtain ⟨v9, hve⟩ : ∃ U, w9.alloc (.cells #[.int .i64 2, .slice qa 2 qc] 31) = U := ⟨_, rfl⟩
  obtain ⟨bky, hbe⟩ : ∃ b, w9.heap.size = b := ⟨_, rfl⟩
  rw [hve] at hN9 hQy hT4xxxxx hX4xxxxx hw4xxxxx hP4xxxxx hh4xxxxx hQuxxxx hbuxxxx hQdxxx hbdxxx hQlxx hblxx hQxx hbxx ⊢
  rw [hbe] at hN9 ⊢
  obtain ⟨qay, hqa⟩ : ∃ q, qa = q := ⟨_, rfl⟩
  obtain ⟨qcy, hqc⟩ : ∃ q, qc = q := ⟨_, rfl⟩
  rw [hqa, hqc] at hN9 hQy ⊢
  have hby := hN9
  clear hve hbe hqa hqc hN9 hBA hA9 hq hB9 HC t0 t1 t2 r0 r1
  obtain ⟨u0, u1, _, _⟩ := two_all hbuxxxx
  obtain ⟨d0, d1, _, _⟩ := two_all hbdxxx
  obtain ⟨x0, x1, _, _⟩ := two_all hbxx
  obtain ⟨y0, y1, _, _⟩ := two_all hby
  obtain ⟨r0, r1, _, _⟩ := two_all hh4xxxxx
  obtain ⟨gu, ou, rfl, n0, n1⟩ := three34 hQuxxxx
  have hS1 := refSame11_any Ca.r34 Ca.r34 v9 qad (some ⟨g4, 0, none⟩) qcd 2 hQdxxx hP4xxxxx (by unfold Ca.r34; simp) (by unfold Ca.r34; simp) true (by simp)
  have hS1' : Calls Tryz.prog 24 #[.agg #[.int .i64 1, .slice qad 2 qcd], .agg #[.int .i64 1, .slice (some ⟨g4, 0, none⟩) 2 2]] v9 fun e w' => e = .returned (.bool true) ∧ Below v9.heap.size v9 w' := hS1
  have hS2 : ∀ W, Below v9.heap.size v9 W → Calls Tryz.prog 24 #[.agg #[.int .i64 2, .slice qax 2 qcx], .agg #[.int .i64 2, .slice qay 2 qcy]] W fun e w' => e = .returned (.bool true) ∧ Below W.heap.size W w' := fun W hb => refSame11_any ⟨2, [intV 3, intV 4]⟩ ⟨2, [intV 3, intV 4]⟩ W qax qay qcx qcy (pRow_below hb hQxx) (pRow_below hb hQy) (by simp) (by simp) true (by simp)
  have HS1 := Lib.hid hS1'; have HS2 := Lib.hid hS2; have HW := Lib.hid hw4xxxxx
  clear hS1 hS1' hS2 hT4xxxxx hX4xxxxx hw4xxxxx hP4xxxxx hh4xxxxx hQuxxxx hbuxxxx hQdxxx hbdxxx hQlxx hblxx hQxx hbxx hQy hby
  go_wp2_with (first
    | (go_at_call 24; first
      | ((with_reducible refine HS1.out.mono ?_); rintro e w10 ⟨rfl, hB10⟩; have x0' := cell_below hB10 x0; have x1' := cell_below hB10 x1; have y0' := cell_below hB10 y0; have y1' := cell_below hB10 y1)
      | ((with_reducible refine (HS2.out _ hB10).mono ?_); rintro e w11 ⟨rfl, hB11⟩)))
  go_ret
  exact ⟨rfl, HW.out.trans ((hB10.trans (hB11.mono hB10.size)).mono HW.out.size)⟩
end Go.Proofs.YtibjjclfonpibaaGreat
