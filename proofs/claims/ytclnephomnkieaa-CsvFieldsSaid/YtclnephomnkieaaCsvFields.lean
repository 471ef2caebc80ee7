/- The walk of CsvFields: a field's text is read as it, alone or beside others. -/
import Derived.Test.YtclnephomnkieaaCsvParses
set_option linter.unusedVariables false
namespace Go.Proofs.Ytclnephomnkieaa
open Go.RowKit Go.Shelf
/-- rows that a literal lays: one row, of these texts -/
theorem srows_lit (W : World) (l : List ByteArray) (n : Nat) (hn : l.length = n) (hm : n ≤ maxLen) (L : Rws) (hL : L = [l.map strB]) (hp : 0 < n) (cs : Array Value) (hcs : cs = (l.map Value.string).toArray) :
    SRows ((W.alloc (.cells cs 9)).alloc (.cells #[.slice (some ⟨W.heap.size, 0, none⟩) n n] 38)) (.slice (some ⟨W.heap.size + 1, 0, none⟩) 1 1) L := by
  subst hL hcs hn
  have hnw := fun (W : World) (l : List Value) (t : TypeId) (j : Nat) (u : Value) (h : l[j]? = some u) => cells_new W l t j u h
  simp only [Addr.add_lit, Nat.zero_add] at hnw
  have h0 := hnw (W.alloc (.cells (l.map Value.string).toArray 9)) [.slice (some ⟨W.heap.size, 0, none⟩) l.length l.length] 38 0 _ rfl
  rw [World.size_alloc] at h0
  have hk := fun (j : Nat) (u : Value) (h : (l.map Value.string)[j]? = some u) => cell_kept ((Below.refl (W.alloc (.cells (l.map Value.string).toArray 9)).heap.size _).alloc (Nat.le_refl _) (.cells #[.slice (some ⟨W.heap.size, 0, none⟩) l.length l.length] 38)) (hnw W (l.map Value.string) 9 j u h)
  refine ⟨_, 1, rfl, Nat.le_refl _, by unfold maxLen; omega, .inr ⟨_, 0, rfl, fun i hi => ?_⟩⟩
  obtain rfl : i = 0 := by simp at hi; exact hi
  refine ⟨_, h0, some ⟨W.heap.size, 0, none⟩, l.length, by simp, by simp, hm, .inr ⟨W.heap.size, 0, rfl, fun j hj => ?_⟩⟩
  have hj' : j < l.length := by simpa using hj
  rw [Nat.zero_add]
  refine hk j _ ?_
  rw [List.getElem?_map, List.getElem?_eq_getElem hj']
  simp [hj', strOfNums_strB]
theorem two_allocs (W : World) (o o' : Obj) : Below W.heap.size W ((W.alloc o).alloc o') := ((Below.refl _ W).alloc (Nat.le_refl _) o).alloc (by simp) o'
namespace V
theorem ftext_bytes (f : List Int) (h : ∀ x ∈ f, 0 ≤ x ∧ x ≤ 255) : ∀ x ∈ ftext f, 0 ≤ x ∧ x ≤ 255 := by
  intro x hx
  unfold ftext at hx
  split at hx
  · exact h x hx
  · have : x = 34 ∨ x ∈ dbl f := by simp at hx; rcases hx with h | h | h; exact .inl h; exact .inr h; exact .inl h
    rcases this with rfl | hx
    · omega
    · obtain ⟨y, hy, hxy⟩ := List.mem_flatMap.1 hx
      have := h y hy
      split at hxy <;> (simp at hxy; omega)
end V
theorem mem_strB9 (s : ByteArray) : ∀ x ∈ strB s, 0 ≤ x ∧ x ≤ 255 := by
  intro x hx
  unfold strB at hx
  obtain ⟨b, _, rfl⟩ := List.mem_map.1 hx
  exact u8_bd b
namespace csvFieldsWalk
set_option maxRecDepth 100000 in
set_option maxHeartbeats 8000000 in
theorem walk (a0 a1 : ByteArray) (w : World) (w0 : a0.size ≤ maxLen) (w1 : a1.size ≤ maxLen) :
    Calls Try.prog 7 #[.string a0, .string a1] w fun e w' => e = .returned (.bool true) ∧ Below w.heap.size w w' := by
  have ha := csvAlive_any w
  by_cases hbig : 300 < a0.size ∨ 300 < a1.size
  · have H := Lib.hid hbig
    rcases Nat.lt_or_ge 300 a0.size with h0 | h0
    · have d1 : decide ((300 : Int) < (a0.size : Int)) = true := decide_eq_true (by omega)
      clear hbig
      go_enter Try.func7, Try.ntmps7
      go_wp2_with (go_at_call 9; (with_reducible refine ha.mono ?_); rintro e w1 ⟨rfl, hB1⟩)
      go_ret
      exact ⟨rfl, hB1⟩
    · have d1 : decide ((300 : Int) < (a0.size : Int)) = false := decide_eq_false (by omega)
      have d2 : decide ((300 : Int) < (a1.size : Int)) = true := decide_eq_true (by omega)
      clear hbig
      go_enter Try.func7, Try.ntmps7
      go_wp2_with (go_at_call 9; (with_reducible refine ha.mono ?_); rintro e w1 ⟨rfl, hB1⟩)
      go_ret
      exact ⟨rfl, hB1⟩
  have hs0 : a0.size ≤ 300 := by omega
  have hs1 : a1.size ≤ 300 := by omega
  have d1 : decide ((300 : Int) < (a0.size : Int)) = false := decide_eq_false (by omega)
  have d2 : decide ((300 : Int) < (a1.size : Int)) = false := decide_eq_false (by omega)
  clear hbig
  have hF0 := fun w => csvField_any a0 w (by omega)
  have hF1 := fun w => csvField_any a1 w (by omega)
  have hl0 := V.ftext_len (strB a0)
  have hl1 := V.ftext_len (strB a1)
  rw [strB_len] at hl0 hl1
  have hz0 := sz_str (V.ftext (strB a0))
  have hz1 := sz_str (V.ftext (strB a1))
  have hb0 := strB_strOfNums _ (V.ftext_bytes _ (mem_strB9 a0))
  have hb1 := strB_strOfNums _ (V.ftext_bytes _ (mem_strB9 a1))
  have hp1 := V.parse_row [strB a0, strB a1] (by simp)
  have hp2 := V.parse_row [strB a0] (by simp)
  change V.parse (V.ftext (strB a0) ++ 44 :: V.ftext (strB a1)) = _ at hp1
  change V.parse (V.ftext (strB a0)) = _ at hp2
  obtain ⟨F, hF⟩ : ∃ F, strOfNums (V.ftext (strB a0)) = F := ⟨_, rfl⟩
  obtain ⟨G, hG⟩ : ∃ G, strOfNums (V.ftext (strB a1)) = G := ⟨_, rfl⟩
  rw [hF] at hF0 hz0 hb0
  rw [hG] at hF1 hz1 hb1
  have hst : strB (F ++ ⟨#[44]⟩ ++ G) = V.ftext (strB a0) ++ 44 :: V.ftext (strB a1) := by
    rw [strB_append, strB_append, hb0, hb1, List.append_assoc]; rfl
  have hsz : (F ++ ⟨#[44]⟩ ++ G).size = F.size + 1 + G.size := by rw [ByteArray.size_append, ByteArray.size_append]; rfl
  have hP1 := fun w => parse_calls (F ++ ⟨#[44]⟩ ++ G) w (by omega)
  have hP2 := fun w => parse_calls F w (by omega)
  rw [hst, hp1] at hP1
  rw [hb0, hp2] at hP2
  have hpos1 : V.pos (F ++ ⟨#[44]⟩ ++ G).size (some [[strB a0, strB a1]], []) = F.size + G.size + 1 := by show (F ++ ⟨#[44]⟩ ++ G).size - 0 = _; omega
  have hpos2 : V.pos F.size (some [[strB a0]], []) = F.size := by simp [V.pos]
  rw [hpos1] at hP1
  rw [hpos2] at hP2
  simp only [V.err, Option.isSome_some, if_true, Option.getD_some] at hP1 hP2
  have hS1 := fun u v w hu hv => refSame9_any u v [[strB a0, strB a1]] w hu hv (by simp)
  have hS2 := fun u v w hu hv => refSame9_any u v [[strB a0]] w hu hv (by simp)
  have hq1 := fun W => srows_lit W [a0, a1] 2 rfl (by unfold maxLen; omega) [[strB a0, strB a1]] rfl (by omega) #[.string a0, .string a1] rfl
  have hq2 := fun W => srows_lit W [a0] 1 rfl (by unfold maxLen; omega) [[strB a0]] rfl (by omega) #[.string a0] rfl
  have hcat : ((F.size + G.size + 1 : Nat) : Int) = (F.size : Int) + G.size + 1 := by omega
  rw [hcat] at hP1
  clear hst hp1 hp2 hpos1 hpos2 hb0 hb1 hF hG hcat hsz
  go_enter Try.func7, Try.ntmps7
  go_wp2_with (first
    | (go_at_call 9; (with_reducible refine ha.mono ?_); rintro e w1 ⟨rfl, hB1⟩; have hC := hB1)
    | (go_at_call 16; (first | ((with_reducible refine (hF0 _).mono ?_); rintro e wf ⟨rfl, hBf⟩) | ((with_reducible refine (hF1 _).mono ?_); rintro e wf ⟨rfl, hBf⟩)); have hC := hC.trans (hBf.mono hC.size); (first | (have hu := srows_below hu hBf) | skip); (first | (have hv := srows_below hv hBf) | skip))
    | (go_at_call 10; (first | ((with_reducible refine (hP1 _).mono ?_); rintro e wp ⟨u, rfl, hu, hBp⟩) | ((with_reducible refine (hP2 _).mono ?_); rintro e wp ⟨v, rfl, hv, hBp⟩; have hu := srows_below hu hBp)); have hC := hC.trans (hBp.mono hC.size))
    | (go_at_call 12; (first
        | (with_reducible refine (hS1 _ _ _ (srows_below hu (two_allocs _ _ _)) (hq1 _)).mono ?_)
        | (with_reducible refine (hS2 _ _ _ (srows_below hv (two_allocs _ _ _)) (hq2 _)).mono ?_)); rintro e ws ⟨rfl, hBs⟩; have hBs := (two_allocs _ _ _).trans (hBs.mono (two_allocs _ _ _).size); have hC := hC.trans (hBs.mono hC.size); have hu := srows_below hu hBs; have hv := srows_below hv hBs))
  go_ret
  exact ⟨rfl, hC⟩
end csvFieldsWalk
end Go.Proofs.Ytclnephomnkieaa
