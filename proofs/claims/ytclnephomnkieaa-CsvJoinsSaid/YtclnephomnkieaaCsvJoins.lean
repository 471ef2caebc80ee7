/- The walk of CsvJoins: the rows of two texts, the first of which was printed, are those of both. -/
import Derived.Test.YtclnephomnkieaaCsvBack
set_option linter.unusedVariables false
namespace Go.Proofs.Ytclnephomnkieaa
open Go.RowKit Go.Shelf
theorem V.tot_append (a b : Rws) : V.tot (a ++ b) = V.tot a + V.tot b := by unfold V.tot; rw [List.map_append, List.sum_append]
/-- the cells of rows, wherever they lie -/
theorem srows_vals {W : World} {a : Option Addr} {n c : Nat} {L : Rws} (h : SRows W (.slice a n c) L) : ∃ us : List Value, Cells W 1 a L.length us ∧ (∀ u ∈ us, u.oneCell' = true) ∧ us.length = L.length ∧ ∀ i, i < L.length → ∃ u, us[i]? = some u ∧ SRow W u (L[i]?.getD []) := by
  obtain ⟨a', c', he, h1, h2, h3⟩ := h
  injection he with e1 e2 e3
  subst e1 e2 e3
  rcases h3 with rfl | ⟨b, off, rfl, hc⟩
  · exact ⟨[], ⟨rfl, .inl rfl⟩, by simp, rfl, fun i hi => by simp at hi⟩
  · have key : ∀ j, j ≤ L.length → ∃ us : List Value, us.length = j ∧ ∀ i, i < j → ∃ u, us[i]? = some u ∧ W.cell? ⟨b, off + i, none⟩ = some u ∧ SRow W u (L[i]?.getD []) := by
      intro j
      induction j with
      | zero => intro _; exact ⟨[], rfl, fun i hi => by omega⟩
      | succ j ih =>
        intro hj
        obtain ⟨us, hl, hu⟩ := ih (by omega)
        obtain ⟨u, q1, q2⟩ := hc j (by omega)
        refine ⟨us ++ [u], by simp [hl], fun i hi => ?_⟩
        rcases Nat.lt_or_ge i j with hlt | hge
        · obtain ⟨x, p1, p2⟩ := hu i hlt
          exact ⟨x, by rw [List.getElem?_append_left (by omega)]; exact p1, p2⟩
        · obtain rfl : i = j := by omega
          exact ⟨u, by rw [List.getElem?_append_right (by omega)]; simp [hl], q1, q2⟩
    obtain ⟨us, hl, hu⟩ := key L.length (Nat.le_refl _)
    refine ⟨us, ⟨by simp [hl], .inr ⟨_, rfl, fun j u hju => ?_⟩⟩, fun u hu' => ?_, hl, fun i hi => ?_⟩
    · have hj : j < L.length := by rw [← hl]; exact (List.getElem?_eq_some_iff.1 hju).1
      obtain ⟨x, p1, p2, _⟩ := hu j hj
      rw [hju] at p1
      cases p1
      rw [Addr.add_lit]; exact p2
    · obtain ⟨i, hi, he⟩ := List.getElem_of_mem hu'
      obtain ⟨x, p1, _, p3⟩ := hu i (by omega)
      obtain ⟨a', c', rfl, _⟩ := p3
      rw [List.getElem?_eq_getElem hi, he] at p1
      cases p1; rfl
    · obtain ⟨x, p1, _, p3⟩ := hu i hi
      exact ⟨x, p1, p3⟩
theorem cells_kept {W W' : World} {a : Option Addr} {n : Nat} {us : List Value} (h : Cells W 1 a n us) (hb : Below W.heap.size W W') : Cells W' 1 a n us := by
  refine ⟨h.1, h.2.imp id fun ⟨ad, ha, hc⟩ => ⟨ad, ha, fun j u hj => ?_⟩⟩
  have h1 := hc j u hj
  have h2 : (ad.add j).block < W.heap.size := by
    simp only [World.cell?] at h1
    rcases Nat.lt_or_ge (ad.add j).block W.heap.size with h3 | h3
    · exact h3
    · rw [Array.getElem?_eq_none h3] at h1; cases h1
  exact (hb.cell h2).trans h1
/-- rows of one's own that were laid behind one another -/
theorem srows_joined {W W' : World} {base : Nat} {v' : Value} {L M : Rws} {us um : List Value} (hown : W'.ownsRow base 38 1 v' (L.length + M.length) (us ++ um)) (hB : Below W.heap.size W W') (hl : us.length = L.length)
    (hu : ∀ i, i < L.length → ∃ u, us[i]? = some u ∧ SRow W u (L[i]?.getD [])) (hm : ∀ i, i < M.length → ∃ u, um[i]? = some u ∧ SRow W u (M[i]?.getD [])) : SRows W' v' (L ++ M) := by
  obtain ⟨a, c, he, h1, h2, h3⟩ := own_cells' hown
  refine ⟨a, c, by rw [List.length_append]; exact he, by rw [List.length_append]; exact h1, h2, ?_⟩
  rcases h3 with h3 | ⟨g, rfl, hc⟩
  · refine .inl (List.length_eq_zero_iff.1 (by rw [List.length_append]; exact h3))
  · refine .inr ⟨g, 0, rfl, fun i hi => ?_⟩
    rw [List.length_append] at hi
    rw [Nat.zero_add]
    rcases Nat.lt_or_ge i L.length with hlt | hge
    · obtain ⟨u, p1, p2⟩ := hu i hlt
      refine ⟨u, hc i u (by rw [List.getElem?_append_left (by omega)]; exact p1), ?_⟩
      rw [List.getElem?_append_left hlt]
      exact srow_below p2 hB
    · obtain ⟨u, p1, p2⟩ := hm (i - L.length) (by omega)
      refine ⟨u, hc i u (by rw [List.getElem?_append_right (by omega), hl]; exact p1), ?_⟩
      rw [List.getElem?_append_right hge]
      exact srow_below p2 hB
/-- what was printed, ahead of another text -/
theorem parse_joined (L : Rws) (hY : BytesR L) (hT : V.tot L ≤ 2000) (hok : V.okRows L = true) (s : ByteArray) (hs : s.size ≤ 1000) (w : World) :
    Calls Try.prog 10 #[.string (strOfNums (V.text L) ++ s)] w fun e w' => ∃ v, e = .returned (.tuple #[v, .int .i64 (((strOfNums (V.text L)).size : Int) + (V.pos s.size (V.parse (strB s)) : Nat)), .int .i64 (V.err (V.parse (strB s)))]) ∧
      SRows w' v (if V.err (V.parse (strB s)) = 0 then L ++ (V.parse (strB s)).1.getD [] else []) ∧ Below w.heap.size w w' := by
  have hl := V.text_tot L
  have hz := sz_str (V.text L)
  have h := parse_calls (strOfNums (V.text L) ++ s) w (by rw [ByteArray.size_append]; omega)
  have hp := V.parse_len (strB s)
  have hg := V.parse_text L ((V.okRows_iff L).1 hok) (strB s)
  have hb : strB (strOfNums (V.text L) ++ s) = V.text L ++ strB s := by
    have h1 := strB_text L hY
    unfold strB at h1 ⊢
    rw [ByteArray.data_append, Array.toList_append, List.map_append, h1]
  rw [hb, hg, ByteArray.size_append] at h
  have hsl := strB_len s
  cases hP : V.parse (strB s) with
  | mk o c =>
    rw [hP] at h hp
    refine h.mono fun e w' ⟨v, h1, h2, h3⟩ => ⟨v, ?_, ?_, h3⟩
    · rw [h1]
      simp only at hp
      have hq : ((V.pos ((strOfNums (V.text L)).size + s.size) (V.glue L (o, c)) : Nat) : Int) = ((strOfNums (V.text L)).size : Int) + (V.pos s.size (o, c) : Nat) := by
        unfold V.pos
        cases o <;> simp only [V.glue] <;> omega
      have he : V.err (V.glue L (o, c)) = V.err (o, c) := by
        cases o <;> rfl
      rw [hq, he]
    · cases o with
      | none => exact h2
      | some x => exact h2
namespace csvJoinsWalk
set_option maxRecDepth 100000 in
set_option maxHeartbeats 8000000 in
theorem walk (v0 : Value) (L : Rws) (a1 : ByteArray) (w : World) (w0 : SRows w v0 L) (hG : Big L) (hY : BytesR L) (w1 : a1.size ≤ maxLen) :
    Calls Try.prog 6 #[v0, .string a1] w fun e w' => e = .returned (.bool true) ∧ Below w.heap.size w w' := by
  have ha := csvAlive_any w
  have hGr := fun u w hu => refGreat9_any u L w hu hG
  have H0 := Lib.hid w0
  have hv0 : ∃ a c, v0 = .slice a L.length c := by obtain ⟨a, c, h, _⟩ := w0; exact ⟨a, c, h⟩
  obtain ⟨va, vc, rfl⟩ := hv0
  clear w0
  rcases Nat.lt_or_ge 2000 (V.tot L) with hbig | hsm
  · simp only [decide_eq_true hbig] at hGr
    go_enter Try.func6, Try.ntmps6
    go_wp2_with (first
      | (go_at_call 9; (with_reducible refine ha.mono ?_); rintro e w1 ⟨rfl, hB1⟩; have hv1 := srows_below H0.out hB1)
      | (go_at_call 13; (with_reducible refine (hGr _ _ hv1).mono ?_); rintro e w2 ⟨rfl, hB2⟩))
    go_ret
    exact ⟨rfl, hB1.trans (hB2.mono hB1.size)⟩
  simp only [decide_eq_false (show ¬ 2000 < V.tot L by omega)] at hGr
  rcases Nat.lt_or_ge 1000 a1.size with hbig | hs2
  · have d1 : decide ((1000 : Int) < (a1.size : Int)) = true := decide_eq_true (by omega)
    go_enter Try.func6, Try.ntmps6
    go_wp2_with (first
      | (go_at_call 9; (with_reducible refine ha.mono ?_); rintro e w1 ⟨rfl, hB1⟩; have hv1 := srows_below H0.out hB1)
      | (go_at_call 13; (with_reducible refine (hGr _ _ hv1).mono ?_); rintro e w2 ⟨rfl, hB2⟩))
    go_ret
    exact ⟨rfl, hB1.trans (hB2.mono hB1.size)⟩
  have d1 : decide ((1000 : Int) < (a1.size : Int)) = false := decide_eq_false (by omega)
  have hP := fun u w hu => csvPrint_any u L w hu (by omega) hY
  cases hok : V.okRows L with
  | false =>
    have hpr : V.prt L = ([], 1) := by unfold V.prt; rw [if_neg (by rw [hok]; exact Bool.false_ne_true)]
    rw [hpr] at hP
    have hz : strOfNums [] = ⟨#[]⟩ := rfl
    simp only [hz] at hP
    clear hpr hok
    go_enter Try.func6, Try.ntmps6
    go_wp2_with (first
      | (go_at_call 9; (with_reducible refine ha.mono ?_); rintro e w1 ⟨rfl, hB1⟩; have hv := srows_below H0.out hB1; have hC := hB1)
      | (go_at_call 13; (with_reducible refine (hGr _ _ hv).mono ?_); rintro e w2 ⟨rfl, hB2⟩; have hv := srows_below hv hB2; have hC := hC.trans (hB2.mono hC.size))
      | (go_at_call 14; (with_reducible refine (hP _ _ hv).mono ?_); rintro e w3 ⟨rfl, hB3⟩; have hC := hC.trans (hB3.mono hC.size)))
    go_ret
    exact ⟨rfl, hC⟩
  | true =>
  have hpr : V.prt L = (V.text L, 0) := by unfold V.prt; rw [if_pos hok]
  rw [hpr] at hP
  simp only at hP
  have hl := V.text_tot L
  have hzt := sz_str (V.text L)
  have hX := fun w => parse_calls a1 w (by omega)
  have hA := fun w => parse_joined L hY hsm hok a1 hs2 w
  have hXt := tot_parse a1
  have hXe : V.err (V.parse (strB a1)) = 0 ∨ V.err (V.parse (strB a1)) = 2 := by unfold V.err; split <;> simp
  have hqs : V.pos a1.size (V.parse (strB a1)) ≤ 1000 := by unfold V.pos; omega
  have hXn : V.err (V.parse (strB a1)) = 2 → (V.parse (strB a1)).1.getD [] = [] := fun h => by
    unfold V.err at h
    cases hp : (V.parse (strB a1)).1 with
    | none => rfl
    | some x => rw [hp] at h; simp at h
  obtain ⟨M, hM⟩ : ∃ M, (V.parse (strB a1)).1.getD [] = M := ⟨_, rfl⟩
  obtain ⟨q, hq⟩ : ∃ q, V.pos a1.size (V.parse (strB a1)) = q := ⟨_, rfl⟩
  obtain ⟨er, her⟩ : ∃ er, V.err (V.parse (strB a1)) = er := ⟨_, rfl⟩
  simp only [hM, hq, her] at hX hXt hXe hXn hA hqs
  obtain ⟨T, hT⟩ : ∃ T, strOfNums (V.text L) = T := ⟨_, rfl⟩
  simp only [hT] at hP hA hzt
  have hTs : T.size ≤ 6000 := by omega
  have hLl := V.len_tot L
  have hMl := V.len_tot M
  clear hM hq her hT hpr hok hzt hl
  obtain ⟨nT, hnT⟩ : ∃ n, T.size = n := ⟨_, rfl⟩
  obtain ⟨na, hna⟩ : ∃ n, a1.size = n := ⟨_, rfl⟩
  simp only [hnT, hna] at hX hA d1 hTs hs2 hXt
  have hcat : ¬ maxLen < T.size + a1.size := by unfold maxLen; omega
  rcases hXe with rfl | rfl
  · simp only [if_true] at hA
    obtain ⟨ir, hir, hr0, hr1, hr2⟩ := info_parts info_strs
    have hS := fun u v w hu hv => refSame9_any u v (L ++ M) w hu hv (small_of _ (by rw [V.tot_append]; omega))
    have hown0 := fun W : World => World.ownsRow_nil W W.heap.size 38 1
    have HLl := Lib.hid hLl; have HMl := Lib.hid hMl; have HXt := Lib.hid hXt; have Hsm := Lib.hid hsm
    clear hXn hLl hMl hXt hsm
    go_enter Try.func6, Try.ntmps6
    go_wp2_with (first
      | (go_at_call 9; (with_reducible refine ha.mono ?_); rintro e w1 ⟨rfl, hB1⟩; have hv := srows_below H0.out hB1; have hC := hB1)
      | (go_at_call 13; (with_reducible refine (hGr _ _ hv).mono ?_); rintro e w2 ⟨rfl, hB2⟩; have hv := srows_below hv hB2; have hC := hC.trans (hB2.mono hC.size))
      | (go_at_call 14; (with_reducible refine (hP _ _ hv).mono ?_); rintro e w3 ⟨rfl, hB3⟩; have hv := srows_below hv hB3; have hC := hC.trans (hB3.mono hC.size))
      | (go_at_call 10; (first | ((with_reducible refine (hX _).mono ?_); rintro e w4 ⟨m, rfl, hm, hB4⟩; have hv := srows_below hv hB4; have hC := hC.trans (hB4.mono hC.size); obtain ⟨ma, mc, hme⟩ := srows_shape hm; subst hme) | ((with_reducible refine (hA _).mono ?_); rintro e w5 ⟨x, rfl, hx, hB5⟩; have hv := srows_below hv hB5; have hm := srows_below hm hB5; have hC := hC.trans (hB5.mono hC.size); obtain ⟨us, husc, hus1, husl, hus⟩ := srows_vals hv; obtain ⟨um, humc, hum1, huml, hum⟩ := srows_vals hm; obtain ⟨xa, xc, hxe⟩ := srows_shape hx; rw [List.length_append] at hxe; subst hxe)))
      | (at_builtin; refine wpList_append_at _ rfl _ _ 23 rfl w5.heap.size 38 ir _ 1 24 Try.underlying23 hir hr0 hr1 hr2 rfl (by decide) (.slice none 0 0) 0 [] rfl (hown0 w5) va L.length vc us rfl husc hus1 (by have := HLl.out; have := Hsm.out; unfold maxLen; omega) (by have := HLl.out; have := Hsm.out; omega) (Nat.le_refl _) ?_; intro v6 w6 hown6 hgrow6 _; have hB6 := below_grown hgrow6 (hown0 w5) (Nat.le_refl _); rw [Nat.zero_add, List.nil_append] at hown6; obtain ⟨a6, c6, hv6, _⟩ := own_cells' hown6; subst hv6)
      | (at_builtin; refine wpList_append_at _ rfl _ _ 23 rfl w5.heap.size 38 ir _ 1 24 Try.underlying23 hir hr0 hr1 hr2 rfl (by decide) (.slice a6 L.length c6) L.length us rfl hown6 ma M.length mc um rfl (cells_kept humc hB6) hum1 (by have := HLl.out; have := Hsm.out; have := HMl.out; have := HXt.out; unfold maxLen; omega) (by have := HLl.out; have := Hsm.out; have := HMl.out; have := HXt.out; omega) hB6.size ?_; intro v7 w7 hown7 hgrow7 _; have hB7 := hB6.trans (below_grown hgrow7 hown6 hB6.size); have hz := srows_joined hown7 hB7 husl hus hum; have hx7 := srows_below hx hB7; have hC7 := hC.trans (hB7.mono hC.size); obtain ⟨za, zc, hze⟩ := srows_shape hz; rw [List.length_append] at hze; subst hze)
      | (go_at_call 12; (with_reducible refine (hS _ _ _ hx7 hz).mono ?_); rintro e w8 ⟨rfl, hB8⟩; have hC8 := hC7.trans (hB8.mono hC7.size)))
    go_ret
    exact ⟨rfl, hC8⟩
  · obtain rfl := hXn rfl
    simp only [show ¬ ((2 : Int) = 0) by decide, if_false] at hA
    have hwr : IntKind.i64.wrap ((nT : Int) + q) = (nT : Int) + q := IntWalk.i64_in _ (by omega)
    clear hXn hLl hMl hXt hsm
    go_enter Try.func6, Try.ntmps6
    go_wp2_with (first
      | (go_at_call 9; (with_reducible refine ha.mono ?_); rintro e w1 ⟨rfl, hB1⟩; have hv := srows_below H0.out hB1; have hC := hB1)
      | (go_at_call 13; (with_reducible refine (hGr _ _ hv).mono ?_); rintro e w2 ⟨rfl, hB2⟩; have hv := srows_below hv hB2; have hC := hC.trans (hB2.mono hC.size))
      | (go_at_call 14; (with_reducible refine (hP _ _ hv).mono ?_); rintro e w3 ⟨rfl, hB3⟩; have hC := hC.trans (hB3.mono hC.size))
      | (go_at_call 10; (first | ((with_reducible refine (hX _).mono ?_); rintro e w4 ⟨m, rfl, hm, hB4⟩; have hC := hC.trans (hB4.mono hC.size)) | ((with_reducible refine (hA _).mono ?_); rintro e w5 ⟨x, rfl, hx, hB5⟩; have hC := hC.trans (hB5.mono hC.size); obtain ⟨xa, xc, hxe⟩ := srows_shape hx; subst hxe))))
    go_ret
    exact ⟨rfl, hC⟩
end csvJoinsWalk
end Go.Proofs.Ytclnephomnkieaa
