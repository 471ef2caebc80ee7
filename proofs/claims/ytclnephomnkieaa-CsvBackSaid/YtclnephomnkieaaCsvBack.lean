/- The walk of CsvBack: what is printed is read again, and what is read and printed is read as the same. -/
import Derived.Test.YtclnephomnkieaaCsvFields
set_option linter.unusedVariables false
namespace Go.Proofs.Ytclnephomnkieaa
open Go.RowKit Go.Shelf
namespace V
theorem rtext_bytes (l : List (List Int)) (h : ∀ f ∈ l, ∀ x ∈ f, 0 ≤ x ∧ x ≤ 255) : ∀ x ∈ rtext l, 0 ≤ x ∧ x ≤ 255 := by
  induction l with
  | nil => intro x hx; simp [rtext] at hx
  | cons f l ih =>
    have hf := ftext_bytes f (h f (List.mem_cons_self ..))
    have hl := ih (fun g hg => h g (List.mem_cons_of_mem _ hg))
    cases l with
    | nil => exact hf
    | cons g l =>
      intro x hx
      simp only [rtext, List.mem_append, List.mem_cons] at hx
      rcases hx with hx | rfl | hx
      · exact hf x hx
      · omega
      · exact hl x hx
theorem text_bytes (L : List (List (List Int))) (h : ∀ r ∈ L, ∀ f ∈ r, ∀ x ∈ f, 0 ≤ x ∧ x ≤ 255) : ∀ x ∈ text L, 0 ≤ x ∧ x ≤ 255 := by
  intro x hx
  obtain ⟨r, hr, hxr⟩ := List.mem_flatMap.1 hx
  rcases List.mem_append.1 hxr with h1 | h1
  · exact rtext_bytes r (h r hr) x h1
  · simp at h1; omega
end V
/-- what is printed, as a text -/
theorem strB_text (L : Rws) (hY : BytesR L) : strB (strOfNums (V.text L)) = V.text L := strB_strOfNums _ (V.text_bytes L hY)
theorem bytes_parse (s : ByteArray) : BytesR ((V.parse (strB s)).1.getD []) := by
  intro r hr f hf x hx
  cases h : V.parse (strB s) with
  | mk o c =>
    rw [h] at hr
    cases o with
    | none => simp at hr
    | some y => exact mem_strB9 s x ((V.parse_size _ y c h).2 r hr f hf x hx)
/-- what is printed is read as the rows -/
theorem parse_printed (L : Rws) (hY : BytesR L) (hT : V.tot L ≤ 30000) (hok : V.okRows L = true) (w : World) : Calls Try.prog 10 #[.string (strOfNums (V.text L))] w fun e w' => ∃ v, e = .returned (.tuple #[v, .int .i64 ((strOfNums (V.text L)).size : Nat), .int .i64 0]) ∧ SRows w' v L ∧ Below w.heap.size w w' := by
  have hl := V.text_tot L
  have hz := sz_str (V.text L)
  have h := parse_calls (strOfNums (V.text L)) w (by omega)
  rw [strB_text L hY, V.parse_back L ((V.okRows_iff L).1 hok)] at h
  exact h
theorem srows_shape {W : World} {v : Value} {L : Rws} (h : SRows W v L) : ∃ a c, v = .slice a L.length c := by
  obtain ⟨a, c, h, _⟩ := h
  exact ⟨a, c, h⟩
namespace csvBackWalk
set_option maxRecDepth 100000 in
set_option maxHeartbeats 8000000 in
theorem walk (v0 : Value) (L : Rws) (a1 : ByteArray) (w : World) (w0 : SRows w v0 L) (hG : Big L) (hY : BytesR L) (w1 : a1.size ≤ maxLen) :
    Calls Try.prog 5 #[v0, .string a1] w fun e w' => e = .returned (.bool true) ∧ Below w.heap.size w w' := by
  have ha := csvAlive_any w
  have hGr := fun u w hu => refGreat9_any u L w hu hG
  have H0 := Lib.hid w0
  have hv0 : ∃ a c, v0 = .slice a L.length c := by obtain ⟨a, c, h, _⟩ := w0; exact ⟨a, c, h⟩
  obtain ⟨va, vc, rfl⟩ := hv0
  clear w0
  rcases Nat.lt_or_ge 2000 (V.tot L) with hbig | hsm
  · simp only [decide_eq_true hbig] at hGr
    go_enter Try.func5, Try.ntmps5
    go_wp2_with (first
      | (go_at_call 9; (with_reducible refine ha.mono ?_); rintro e w1 ⟨rfl, hB1⟩; have hv1 := srows_below H0.out hB1)
      | (go_at_call 13; (with_reducible refine (hGr _ _ hv1).mono ?_); rintro e w2 ⟨rfl, hB2⟩))
    go_ret
    exact ⟨rfl, hB1.trans (hB2.mono hB1.size)⟩
  simp only [decide_eq_false (show ¬ 2000 < V.tot L by omega)] at hGr
  rcases Nat.lt_or_ge 1000 a1.size with hbig | hs2
  · have d1 : decide ((1000 : Int) < (a1.size : Int)) = true := decide_eq_true (by omega)
    go_enter Try.func5, Try.ntmps5
    go_wp2_with (first
      | (go_at_call 9; (with_reducible refine ha.mono ?_); rintro e w1 ⟨rfl, hB1⟩; have hv1 := srows_below H0.out hB1)
      | (go_at_call 13; (with_reducible refine (hGr _ _ hv1).mono ?_); rintro e w2 ⟨rfl, hB2⟩))
    go_ret
    exact ⟨rfl, hB1.trans (hB2.mono hB1.size)⟩
  have d1 : decide ((1000 : Int) < (a1.size : Int)) = false := decide_eq_false (by omega)
  have hP := fun u w hu => csvPrint_any u L w hu (by omega) hY
  have hl := V.text_tot L
  have hzt := sz_str (V.text L)
  -- what is read
  have hX := fun w => parse_calls a1 w (by omega)
  have hXt := tot_parse a1
  have hXb := bytes_parse a1
  have hXe : V.err (V.parse (strB a1)) = 0 ∨ V.err (V.parse (strB a1)) = 2 := by unfold V.err; split <;> simp
  have hXn : V.err (V.parse (strB a1)) = 2 → (V.parse (strB a1)).1.getD [] = [] := fun h => by
    unfold V.err at h
    cases hp : (V.parse (strB a1)).1 with
    | none => rfl
    | some x => rw [hp] at h; simp at h
  have hXo : V.err (V.parse (strB a1)) = 0 → V.okRows ((V.parse (strB a1)).1.getD []) = true := fun h => by
    unfold V.err at h
    cases hp : V.parse (strB a1) with
    | mk o c =>
      cases o with
      | none => rw [hp] at h; simp at h
      | some x => exact (V.okRows_iff x).2 (V.parse_ok _ x c hp).2
  obtain ⟨M, hM⟩ : ∃ M, (V.parse (strB a1)).1.getD [] = M := ⟨_, rfl⟩
  obtain ⟨q, hq⟩ : ∃ q, V.pos a1.size (V.parse (strB a1)) = q := ⟨_, rfl⟩
  obtain ⟨er, her⟩ : ∃ er, V.err (V.parse (strB a1)) = er := ⟨_, rfl⟩
  simp only [hM, hq, her] at hX hXt hXb hXe hXn hXo
  clear hM hq her
  have hSL := fun u v w hu hv => refSame9_any u v L w hu hv (small_of _ (by omega))
  have hSM := fun u v w hu hv => refSame9_any u v M w hu hv (small_of _ (by omega))
  have hPM := fun u w hu => csvPrint_any u M w hu (by omega) hXb
  have hML := V.text_tot M
  have hzM := sz_str (V.text M)
  have part : ∀ (T : ByteArray) (e1 : Int) (L' : Rws), (e1 = 0 ∧ L' = L ∨ e1 = 1) → T.size ≤ 6000 → (∀ u w, SRows w u L → Calls Try.prog 14 #[u] w fun e w' => e = .returned (.tuple #[.string T, .int .i64 e1]) ∧ Below w.heap.size w w') →
      (∀ w, Calls Try.prog 10 #[.string T] w fun e w' => ∃ v, e = .returned (.tuple #[v, .int .i64 (T.size : Nat), .int .i64 0]) ∧ SRows w' v L' ∧ Below w.heap.size w w') →
      Calls Try.prog 5 #[.slice va L.length vc, .string a1] w fun e w' => e = .returned (.bool true) ∧ Below w.heap.size w w' := by
    intro T e1 L' hcase hTs hP hPT
    clear hzt hl hsm
    rcases hXe with her | her
    · subst her
      have hokM := hXo rfl
      have hprM : V.prt M = (V.text M, 0) := by unfold V.prt; rw [if_pos hokM]
      rw [hprM] at hPM
      simp only at hPM
      have hPU := parse_printed M hXb (by omega) hokM
      obtain ⟨U, hU⟩ : ∃ U, strOfNums (V.text M) = U := ⟨_, rfl⟩
      rw [hU] at hPM hPU hzM
      clear hokM hprM hU hXn hXo hXb
      rcases hcase with ⟨rfl, rfl⟩ | rfl
      · go_enter Try.func5, Try.ntmps5
        go_wp2_with (first
          | (go_at_call 9; (with_reducible refine ha.mono ?_); rintro e w1 ⟨rfl, hB1⟩; have hv := srows_below H0.out hB1; have hC := hB1)
          | (go_at_call 13; (with_reducible refine (hGr _ _ hv).mono ?_); rintro e w2 ⟨rfl, hB2⟩; have hv := srows_below hv hB2; have hC := hC.trans (hB2.mono hC.size))
          | (go_at_call 14; (first | ((with_reducible refine (hP _ _ hv).mono ?_); rintro e w3 ⟨rfl, hB3⟩; have hv := srows_below hv hB3; have hC := hC.trans (hB3.mono hC.size)) | ((with_reducible refine (hPM _ _ hx).mono ?_); rintro e w6 ⟨rfl, hB6⟩; have hx := srows_below hx hB6; have hC := hC.trans (hB6.mono hC.size))))
          | (go_at_call 10; (first | ((with_reducible refine (hPT _).mono ?_); rintro e w4 ⟨m, rfl, hm, hB4⟩; have hv := srows_below hv hB4; have hC := hC.trans (hB4.mono hC.size)) | ((with_reducible refine (hX _).mono ?_); rintro e w5 ⟨x, rfl, hx, hB5⟩; obtain ⟨xa, xc, hxe⟩ := srows_shape hx; have hC := hC.trans (hB5.mono hC.size); subst hxe) | ((with_reducible refine (hPU _).mono ?_); rintro e w7 ⟨y, rfl, hy, hB7⟩; have hx := srows_below hx hB7; have hC := hC.trans (hB7.mono hC.size))))
          | (go_at_call 12; (first | ((with_reducible refine (hSL _ _ _ hv hm).mono ?_); rintro e w8 ⟨rfl, hB8⟩; have hC := hC.trans (hB8.mono hC.size)) | ((with_reducible refine (hSM _ _ _ hx hy).mono ?_); rintro e w9 ⟨rfl, hB9⟩; have hC := hC.trans (hB9.mono hC.size)))))
        go_ret
        exact ⟨rfl, hC⟩
      · go_enter Try.func5, Try.ntmps5
        go_wp2_with (first
          | (go_at_call 9; (with_reducible refine ha.mono ?_); rintro e w1 ⟨rfl, hB1⟩; have hv := srows_below H0.out hB1; have hC := hB1)
          | (go_at_call 13; (with_reducible refine (hGr _ _ hv).mono ?_); rintro e w2 ⟨rfl, hB2⟩; have hv := srows_below hv hB2; have hC := hC.trans (hB2.mono hC.size))
          | (go_at_call 14; (first | ((with_reducible refine (hP _ _ hv).mono ?_); rintro e w3 ⟨rfl, hB3⟩; have hv := srows_below hv hB3; have hC := hC.trans (hB3.mono hC.size)) | ((with_reducible refine (hPM _ _ hx).mono ?_); rintro e w6 ⟨rfl, hB6⟩; have hx := srows_below hx hB6; have hC := hC.trans (hB6.mono hC.size))))
          | (go_at_call 10; (first | ((with_reducible refine (hPT _).mono ?_); rintro e w4 ⟨m, rfl, hm, hB4⟩; have hv := srows_below hv hB4; have hC := hC.trans (hB4.mono hC.size)) | ((with_reducible refine (hX _).mono ?_); rintro e w5 ⟨x, rfl, hx, hB5⟩; obtain ⟨xa, xc, hxe⟩ := srows_shape hx; have hC := hC.trans (hB5.mono hC.size); subst hxe) | ((with_reducible refine (hPU _).mono ?_); rintro e w7 ⟨y, rfl, hy, hB7⟩; have hx := srows_below hx hB7; have hC := hC.trans (hB7.mono hC.size))))
          | (go_at_call 12; (first | ((with_reducible refine (hSL _ _ _ hv hm).mono ?_); rintro e w8 ⟨rfl, hB8⟩; have hC := hC.trans (hB8.mono hC.size)) | ((with_reducible refine (hSM _ _ _ hx hy).mono ?_); rintro e w9 ⟨rfl, hB9⟩; have hC := hC.trans (hB9.mono hC.size)))))
        go_ret
        exact ⟨rfl, hC⟩
    · subst her
      have hM0 := hXn rfl
      subst hM0
      have hPU := hPT
      clear hXn hXo hXb hPM hSM
      have hPM := hP
      have hSM := hSL
      rcases hcase with ⟨rfl, rfl⟩ | rfl
      · go_enter Try.func5, Try.ntmps5
        go_wp2_with (first
          | (go_at_call 9; (with_reducible refine ha.mono ?_); rintro e w1 ⟨rfl, hB1⟩; have hv := srows_below H0.out hB1; have hC := hB1)
          | (go_at_call 13; (with_reducible refine (hGr _ _ hv).mono ?_); rintro e w2 ⟨rfl, hB2⟩; have hv := srows_below hv hB2; have hC := hC.trans (hB2.mono hC.size))
          | (go_at_call 14; (first | ((with_reducible refine (hP _ _ hv).mono ?_); rintro e w3 ⟨rfl, hB3⟩; have hv := srows_below hv hB3; have hC := hC.trans (hB3.mono hC.size)) | ((with_reducible refine (hPM _ _ hx).mono ?_); rintro e w6 ⟨rfl, hB6⟩; have hx := srows_below hx hB6; have hC := hC.trans (hB6.mono hC.size))))
          | (go_at_call 10; (first | ((with_reducible refine (hPT _).mono ?_); rintro e w4 ⟨m, rfl, hm, hB4⟩; have hv := srows_below hv hB4; have hC := hC.trans (hB4.mono hC.size)) | ((with_reducible refine (hX _).mono ?_); rintro e w5 ⟨x, rfl, hx, hB5⟩; obtain ⟨xa, xc, hxe⟩ := srows_shape hx; have hC := hC.trans (hB5.mono hC.size); subst hxe) | ((with_reducible refine (hPU _).mono ?_); rintro e w7 ⟨y, rfl, hy, hB7⟩; have hx := srows_below hx hB7; have hC := hC.trans (hB7.mono hC.size))))
          | (go_at_call 12; (first | ((with_reducible refine (hSL _ _ _ hv hm).mono ?_); rintro e w8 ⟨rfl, hB8⟩; have hC := hC.trans (hB8.mono hC.size)) | ((with_reducible refine (hSM _ _ _ hx hy).mono ?_); rintro e w9 ⟨rfl, hB9⟩; have hC := hC.trans (hB9.mono hC.size)))))
        go_ret
        exact ⟨rfl, hC⟩
      · go_enter Try.func5, Try.ntmps5
        go_wp2_with (first
          | (go_at_call 9; (with_reducible refine ha.mono ?_); rintro e w1 ⟨rfl, hB1⟩; have hv := srows_below H0.out hB1; have hC := hB1)
          | (go_at_call 13; (with_reducible refine (hGr _ _ hv).mono ?_); rintro e w2 ⟨rfl, hB2⟩; have hv := srows_below hv hB2; have hC := hC.trans (hB2.mono hC.size))
          | (go_at_call 14; (first | ((with_reducible refine (hP _ _ hv).mono ?_); rintro e w3 ⟨rfl, hB3⟩; have hv := srows_below hv hB3; have hC := hC.trans (hB3.mono hC.size)) | ((with_reducible refine (hPM _ _ hx).mono ?_); rintro e w6 ⟨rfl, hB6⟩; have hx := srows_below hx hB6; have hC := hC.trans (hB6.mono hC.size))))
          | (go_at_call 10; (first | ((with_reducible refine (hPT _).mono ?_); rintro e w4 ⟨m, rfl, hm, hB4⟩; have hv := srows_below hv hB4; have hC := hC.trans (hB4.mono hC.size)) | ((with_reducible refine (hX _).mono ?_); rintro e w5 ⟨x, rfl, hx, hB5⟩; obtain ⟨xa, xc, hxe⟩ := srows_shape hx; have hC := hC.trans (hB5.mono hC.size); subst hxe) | ((with_reducible refine (hPU _).mono ?_); rintro e w7 ⟨y, rfl, hy, hB7⟩; have hx := srows_below hx hB7; have hC := hC.trans (hB7.mono hC.size))))
          | (go_at_call 12; (first | ((with_reducible refine (hSL _ _ _ hv hm).mono ?_); rintro e w8 ⟨rfl, hB8⟩; have hC := hC.trans (hB8.mono hC.size)) | ((with_reducible refine (hSM _ _ _ hx hy).mono ?_); rintro e w9 ⟨rfl, hB9⟩; have hC := hC.trans (hB9.mono hC.size)))))
        go_ret
        exact ⟨rfl, hC⟩
  cases hok : V.okRows L with
  | true =>
    have hpr : V.prt L = (V.text L, 0) := by unfold V.prt; rw [if_pos hok]
    rw [hpr] at hP
    exact part (strOfNums (V.text L)) 0 L (.inl ⟨rfl, rfl⟩) (by omega) hP (parse_printed L hY (by omega) hok)
  | false =>
    have hpr : V.prt L = ([], 1) := by unfold V.prt; rw [if_neg (by rw [hok]; exact Bool.false_ne_true)]
    rw [hpr] at hP
    exact part ⟨#[]⟩ 1 [] (.inr rfl) (by decide) hP (fun w => parse_calls ⟨#[]⟩ w (by decide))
end csvBackWalk
end Go.Proofs.Ytclnephomnkieaa
