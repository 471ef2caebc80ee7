/- Layer 9 of the program: the field that begins at a place. -/
import Derived.Test.YtclnephomnkieaaCsvQuo
set_option linter.unusedVariables false
namespace Go.Proofs.Ytclnephomnkieaa
open Go.RowKit Go.Shelf
namespace V
theorem bare_len (r : List Int) : (bare r).length ≤ r.length := (List.takeWhile_prefix _).length_le
theorem bare_behind (r : List Int) : bare r ++ behind r = r := List.takeWhile_append_dropWhile
theorem bare_take (r : List Int) : r.take (bare r).length = bare r := by
  have h : (bare r ++ behind r).take (bare r).length = bare r := List.take_left
  rwa [bare_behind] at h
theorem behind_drop (r : List Int) : r.drop (bare r).length = behind r := by
  have h : (bare r ++ behind r).drop (bare r).length = behind r := List.drop_left
  rwa [bare_behind] at h
end V
/-- the field that begins where r does, as it is read: what is read, the mark -/
def FRes (s : ByteArray) (r : List Int) : List Int × (Int × Nat) := match r with
  | 34 :: t => QRes s (V.quoted t)
  | _ => (V.bare r, V.mk s.size (V.behind r))
theorem fres_plain (s : ByteArray) (r : List Int) (h : ∀ t, r ≠ 34 :: t) : FRes s r = (V.bare r, V.mk s.size (V.behind r)) := by
  unfold FRes
  split
  · exact absurd rfl (h _)
  · rfl
set_option maxRecDepth 100000 in
set_option maxHeartbeats 8000000 in
theorem begun_any (s : ByteArray) (p : Nat) (w : World) (hsm : s.size ≤ 100000000) (hp : p ≤ s.size) :
    Calls Try.prog 22 #[.string s, .int .i64 (p : Int)] w fun e w' => e = .returned (.tuple #[.string (strOfNums (FRes s ((strB s).drop p)).1), markV (FRes s ((strB s).drop p)).2]) ∧ Below w.heap.size w w' := by
  by_cases hq : ∃ h : p < s.size, (s[p].toNat : Int) = 34
  · obtain ⟨hlt, h34⟩ := hq
    have hd := drop_at s p hlt
    rw [h34] at hd
    rw [hd]
    show Calls _ _ _ _ fun e w' => e = .returned (.tuple #[.string (strOfNums (QRes s (V.quoted ((strB s).drop (p + 1)))).1), markV (QRes s (V.quoted ((strB s).drop (p + 1)))).2]) ∧ Below w.heap.size w w'
    have hQ := fun w => quoted_any s (p + 1) w hsm hlt
    have hcast : ((p + 1 : Nat) : Int) = (p : Int) + 1 := by omega
    simp only [hcast] at hQ
    clear hcast hd
    obtain ⟨t, m1, m2, hR⟩ : ∃ t m1 m2, QRes s (V.quoted ((strB s).drop (p + 1))) = (t, m1, m2) := ⟨_, _, _, rfl⟩
    simp only [hR, markV] at hQ ⊢
    clear hR
    have d1 : decide (p < s.size) = true := by simpa using hlt
    have e1 : ((s[p].toNat : Int) == 34) = true := by simpa using h34
    clear h34
    have hm0 := mat_alloc w #[.int .i64 0, .int .i64 0]
    go_enter Try.func22, Try.ntmps22
    go_wp2_with (go_at_call 24; (with_reducible refine (hQ _).mono ?_); rintro e w1 ⟨rfl, hB1⟩; have hm1 := mat_below hm0 hB1; obtain ⟨⟨c0, c1⟩, f0, f1⟩ := mat_facts hm1)
    exact bodyPost_ret (results_tmp_row Try.results22 _ _ w.heap.size _ _ _ _ rfl (mat_set2 hm1 _ _) Try.underlying44 rfl mark_info) rfl ⟨rfl, below_set2 (mark_below _ hB1) (Nat.le_refl _) _ _⟩
  · have hne : ∀ t, (strB s).drop p ≠ 34 :: t := fun t he => by
      have hl2 : p < s.size := by
        rcases Nat.lt_or_ge p s.size with h | h
        · exact h
        · rw [List.drop_eq_nil_of_le (by rw [strB_len]; exact h)] at he; cases he
      rw [drop_at s p hl2] at he
      injection he with he _
      exact hq ⟨hl2, he⟩
    rw [fres_plain s _ hne]
    have hrl : ((strB s).drop p).length = s.size - p := by rw [List.length_drop, strB_len]
    have hbl := V.bare_len ((strB s).drop p)
    have hsub := strB_sub9 s p s.size
    rw [List.take_of_length_le (by rw [strB_len]; exact Nat.le_refl _)] at hsub
    have hI := fun w => idx_calls (s.extract p s.size) (by rw [ByteArray.size_extract]; omega) w
    rw [hsub] at hI
    obtain ⟨q, hqe⟩ : ∃ q, p + (V.bare ((strB s).drop p)).length = q := ⟨_, rfl⟩
    have hqs : q ≤ s.size := by omega
    have hbe : V.behind ((strB s).drop p) = (strB s).drop q := by rw [← V.behind_drop, List.drop_drop, hqe]
    have hba : strOfNums (V.bare ((strB s).drop p)) = s.extract p q := by
      rw [← V.bare_take, ← strOfNums_strB (s.extract p q), strB_sub9, ← hqe, List.drop_take]
      congr 2; omega
    have hidx : V.idx ((strB s).drop p) = -1 ∧ q = s.size ∨ V.idx ((strB s).drop p) = ((q - p : Nat) : Int) := by
      unfold V.idx
      split
      · rename_i hn
        have := congrArg List.length hn
        rw [hbe, List.length_drop, strB_len] at this
        exact .inl ⟨rfl, by simp at this; omega⟩
      · exact .inr (by rw [← hqe]; congr 1; omega)
    have hpq : p ≤ q := by omega
    rw [hbe, hba]
    have hb := fun w => behind_any s q w hsm hqs
    obtain ⟨m1, m2, hm⟩ : ∃ m1 m2, V.mk s.size ((strB s).drop q) = (m1, m2) := ⟨_, _, rfl⟩
    simp only [hm, markV] at hb ⊢
    obtain ⟨ix, hix⟩ : ∃ ix, V.idx ((strB s).drop p) = ix := ⟨_, rfl⟩
    rw [hix] at hI hidx
    have hout : decide (p < s.size) = false ∨ (decide (p < s.size) = true ∧ ∃ h : p < s.size, ((s[p].toNat : Int) == 34) = false) := by
      rcases Nat.lt_or_ge p s.size with h | h
      · exact .inr ⟨by simpa using h, h, by simpa using fun e => hq ⟨h, e⟩⟩
      · exact .inl (by simpa using h)
    clear hne hm hix hbe hba hrl hbl hsub hqe hq
    have hm0 := mat_alloc w #[.int .i64 0, .int .i64 0]
    have hmd : MAt ((w.alloc (.cells #[.int .i64 0, .int .i64 0] 44)).drew) w.heap.size _ := mat_below hm0 ((Below.refl _ _).drew)
    rcases hidx with ⟨rfl, rfl⟩ | rfl
    · rcases hout with d1 | ⟨d1, hlt, e1⟩
      all_goals
        go_enter Try.func22, Try.ntmps22
        go_wp2_with (go_at_call 23; (with_reducible refine (hI _).mono ?_); rintro e w1 ⟨rfl, hB1⟩; have hm1 := mat_below hm0 hB1)
        go_region_with (go_at_call 25; (with_reducible refine (hb _).mono ?_); rintro e w2 ⟨rfl, hB2⟩; have hB12 := hB1.trans ((((Below.refl _ w1).drew).trans (hB2.mono (Nat.le_refl _))).mono hB1.size); have hm2 := mat_below hm0 hB12; obtain ⟨⟨c0, c1⟩, f0, f1⟩ := mat_facts hm2)
        all_goals go_wp2
        all_goals exact bodyPost_ret (results_tmp_row Try.results22 _ _ w.heap.size _ _ _ _ rfl (mat_set2 hm2 _ _) Try.underlying44 rfl mark_info) rfl ⟨rfl, below_set2 (mark_below _ hB12) (Nat.le_refl _) _ _⟩
    · obtain ⟨k, rfl⟩ : ∃ k, q = p + k := ⟨q - p, by omega⟩
      have hcast : ((p + k : Nat) : Int) = (p : Int) + (k : Int) := by omega
      rw [show p + k - p = k by omega] at hI
      simp only [hcast] at hb
      clear hcast
      have hlt : p < s.size ∨ (p = s.size ∧ k = 0) := by omega
      rcases hout with d1 | ⟨d1, hlt, e1⟩
      all_goals
        go_enter Try.func22, Try.ntmps22
        go_wp2_with (go_at_call 23; (with_reducible refine (hI _).mono ?_); rintro e w1 ⟨rfl, hB1⟩; have hm1 := mat_below hm0 hB1)
        go_region_with (go_at_call 25; (with_reducible refine (hb _).mono ?_); rintro e w2 ⟨rfl, hB2⟩; have hB12 := hB1.trans ((((Below.refl _ w1).drew).trans (hB2.mono (Nat.le_refl _))).mono hB1.size); have hm2 := mat_below hm0 hB12; obtain ⟨⟨c0, c1⟩, f0, f1⟩ := mat_facts hm2)
        all_goals go_wp2
        all_goals exact bodyPost_ret (results_tmp_row Try.results22 _ _ w.heap.size _ _ _ _ rfl (mat_set2 hm2 _ _) Try.underlying44 rfl mark_info) rfl ⟨rfl, below_set2 (mark_below _ hB12) (Nat.le_refl _) _ _⟩
end Go.Proofs.Ytclnephomnkieaa
