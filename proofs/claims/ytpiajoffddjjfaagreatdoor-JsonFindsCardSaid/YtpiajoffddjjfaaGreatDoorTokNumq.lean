/- Layer 7: rows that are numbers: isNumber; the document's digits and Number. -/
import Derived.Test.YtpiajoffddjjfaaGreatDoorTok1q
import Derived.Test.YtpiajoffddjjfaaGreatDoorMg27Jso
namespace Go.Proofs.YtpiajoffddjjfaaGreatDoor
open Go.RowKit Go.Shelf
theorem K.one_or (c l : List Int) (p : Nat) : K.one c l p = p ∨ K.one c l p = p + 1 := by unfold K.one; split <;> simp
set_option maxHeartbeats 2000000 in
theorem isNumber_any (s : ByteArray) (w : World) (hsm : s.size ≤ maxLen) :
    Calls Tryz.prog 55 #[.string s] w fun e w' => e = .returned (.bool (K.isNum (strB s))) ∧ w = w' := by
  have hsm' := hsm
  unfold maxLen at hsm'
  obtain ⟨g, hg⟩ : ∃ g, K.isNum (strB s) = g := ⟨_, rfl⟩
  rw [hg]
  unfold K.isNum K.whole K.frac K.expo at hg
  have c0 := fun w => tokOne_any s ⟨#[45]⟩ [45] (by decide) 0 w hsm (Nat.zero_le _)
  have l0 := K.one_le [45] (strB s) 0 (Nat.zero_le _)
  rw [strB_len] at l0
  rw [show ((0 : Nat) : Int) = 0 from rfl] at c0
  obtain ⟨f, hf⟩ : ∃ f, K.one [45] (strB s) 0 = f := ⟨_, rfl⟩
  simp only [hf] at c0 l0 hg
  have c1 := fun w => tokRun_any s ⟨#[48, 49, 50, 51, 52, 53, 54, 55, 56, 57]⟩ K.dg (by decide) f w hsm l0.2.1
  have l1 := K.runTo_le K.dg (strB s) f (by rw [strB_len]; exact l0.2.1)
  rw [strB_len] at l1
  obtain ⟨a, ha⟩ : ∃ a, K.runTo K.dg (strB s) f = a := ⟨_, rfl⟩
  simp only [ha] at c1 l1 hg
  clear hf ha
  by_cases haf : a = f
  · subst haf
    rw [if_pos (.inl rfl)] at hg
    subst hg
    have d1 : ((a : Int) == (a : Int)) = true := by simp
    go_enter Tryz.func55, Tryz.ntmps55
    go_wp2_with (first | (go_at_call 62; (with_reducible refine (c0 _).mono ?_); rintro e w' ⟨rfl, rfl⟩) | (go_at_call 47; (with_reducible refine (c1 _).mono ?_); rintro e w' ⟨rfl, rfl⟩))
    all_goals (go_ret; exact ⟨rfl, rfl⟩)
  have d1 : ((a : Int) == (f : Int)) = false := by simp; omega
  have hfl : f < s.size := by omega
  have hx := strB_at s f hfl
  simp only [hx] at hg
  by_cases hz : (s[f].toNat : Int) = 48 ∧ f + 1 < a
  · rw [if_pos (.inr hz)] at hg
    subst hg
    have d2 : ((s[f].toNat : Int) == 48) = true := by simpa using hz.1
    have d3 : decide (f + 1 < a) = true := by simpa using hz.2
    have d4 : decide ((f : Int) + 1 < (a : Int)) = true := by simp; omega
    clear hx
    go_enter Tryz.func55, Tryz.ntmps55
    go_wp2_with (first | (go_at_call 62; (with_reducible refine (c0 _).mono ?_); rintro e w' ⟨rfl, rfl⟩) | (go_at_call 47; (with_reducible refine (c1 _).mono ?_); rintro e w' ⟨rfl, rfl⟩))
    all_goals (go_ret; exact ⟨rfl, rfl⟩)
  rw [if_neg (by rintro (h | h) <;> contradiction)] at hg
  have d2 : (((s[f].toNat : Int) == 48) && decide (f + 1 < a)) = false := by simpa using hz
  have HX := Lib.hid hx; clear hx
  have c2 := fun w => tokOne_any s ⟨#[46]⟩ [46] (by decide) a w hsm l1.2
  have l2 := K.one_or [46] (strB s) a
  have l2' := K.one_le [46] (strB s) a (by rw [strB_len]; exact l1.2)
  rw [strB_len] at l2'
  obtain ⟨d, hd⟩ : ∃ d, K.one [46] (strB s) a = d := ⟨_, rfl⟩
  simp only [hd] at c2 l2 l2' hg
  clear hd
  -- behind the fraction: m
  have key : ∀ m : Nat, m ≤ s.size → (match K.expo (strB s) m with | none => false | some e => decide (e = (strB s).length)) = g →
      ((decide (a < d) = false ∧ m = a ∧ ∀ w : World, True) ∨ (decide (a < d) = true ∧ ((m : Int) == (d : Int)) = false ∧ ∀ w, Calls Tryz.prog 47 #[.string s, .int .i64 (d : Int), .string ⟨#[48, 49, 50, 51, 52, 53, 54, 55, 56, 57]⟩] w fun e w' => e = .returned (.int .i64 (m : Int)) ∧ w = w')) →
      Calls Tryz.prog 55 #[.string s] w fun e w' => e = .returned (.bool g) ∧ w = w' := by
    intro m hm hgm hcase
    clear hg l2 l2'
    have c4 := fun w => tokOne_any s ⟨#[101, 69]⟩ [101, 69] (by decide) m w hsm hm
    have l4 := K.one_or [101, 69] (strB s) m
    have l4' := K.one_le [101, 69] (strB s) m (by rw [strB_len]; exact hm)
    rw [strB_len] at l4'
    unfold K.expo at hgm
    obtain ⟨x, hx⟩ : ∃ x, K.one [101, 69] (strB s) m = x := ⟨_, rfl⟩
    simp only [hx] at c4 l4 l4' hgm
    clear hx
    rcases l4 with hxm | hxm
    · rw [if_pos hxm] at hgm
      have e1 : decide (m < x) = false := by simp; omega
      simp only [strB_len] at hgm
      have HGM := Lib.hid hgm; clear hgm
      clear hxm l4'
      rcases hcase with ⟨dA, rfl, _⟩ | ⟨dA, dB, c3⟩
      · have c3 := c2
        have c5 := c2
        have c6 := c1
        go_enter Tryz.func55, Tryz.ntmps55
        go_wp2_with (first | (go_at_call 62; (with_reducible first | refine (c0 _).mono ?_ | refine (c2 _).mono ?_ | refine (c4 _).mono ?_ | refine (c5 _).mono ?_); rintro e w' ⟨rfl, rfl⟩) | (go_at_call 47; (with_reducible first | refine (c1 _).mono ?_ | refine (c3 _).mono ?_ | refine (c6 _).mono ?_); rintro e w' ⟨rfl, rfl⟩))
        all_goals (go_ret; exact ⟨ret_bool (by rw [← HGM.out]; rw [Bool.eq_iff_iff]; simp; omega), rfl⟩)
      · have c5 := c2
        have c6 := c1
        go_enter Tryz.func55, Tryz.ntmps55
        go_wp2_with (first | (go_at_call 62; (with_reducible first | refine (c0 _).mono ?_ | refine (c2 _).mono ?_ | refine (c4 _).mono ?_ | refine (c5 _).mono ?_); rintro e w' ⟨rfl, rfl⟩) | (go_at_call 47; (with_reducible first | refine (c1 _).mono ?_ | refine (c3 _).mono ?_ | refine (c6 _).mono ?_); rintro e w' ⟨rfl, rfl⟩))
        all_goals (go_ret; exact ⟨ret_bool (by rw [← HGM.out]; rw [Bool.eq_iff_iff]; simp; omega), rfl⟩)
    · rw [if_neg (by omega)] at hgm
      have e1 : decide (m < x) = true := by simp; omega
      rw [← hxm] at hgm
      have hxs : x ≤ s.size := l4'.2.1
      have c5 := fun w => tokOne_any s ⟨#[43, 45]⟩ [43, 45] (by decide) x w hsm hxs
      have l5 := K.one_le [43, 45] (strB s) x (by rw [strB_len]; exact hxs)
      rw [strB_len] at l5
      obtain ⟨y, hy⟩ : ∃ y, K.one [43, 45] (strB s) x = y := ⟨_, rfl⟩
      simp only [hy] at c5 l5 hgm
      clear hy
      have c6 := fun w => tokRun_any s ⟨#[48, 49, 50, 51, 52, 53, 54, 55, 56, 57]⟩ K.dg (by decide) y w hsm l5.2.1
      obtain ⟨z, hz⟩ : ∃ z, K.runTo K.dg (strB s) y = z := ⟨_, rfl⟩
      simp only [hz] at c6 hgm
      clear hz
      have hxm' := Lib.hid hxm
      clear hxm l4' l5
      by_cases hzy : z = y
      · rw [if_pos hzy] at hgm
        subst hgm
        have e2 : ((z : Int) == (y : Int)) = true := by simp; omega
        have HZ := Lib.hid hzy; clear hzy
        rcases hcase with ⟨dA, rfl, _⟩ | ⟨dA, dB, c3⟩
        · have c3 := c1
          go_enter Tryz.func55, Tryz.ntmps55
          go_wp2_with (first | (go_at_call 62; (with_reducible first | refine (c0 _).mono ?_ | refine (c2 _).mono ?_ | refine (c4 _).mono ?_ | refine (c5 _).mono ?_); rintro e w' ⟨rfl, rfl⟩) | (go_at_call 47; (with_reducible first | refine (c1 _).mono ?_ | refine (c3 _).mono ?_ | refine (c6 _).mono ?_); rintro e w' ⟨rfl, rfl⟩))
          all_goals (go_ret; exact ⟨rfl, rfl⟩)
        · skip
          go_enter Tryz.func55, Tryz.ntmps55
          go_wp2_with (first | (go_at_call 62; (with_reducible first | refine (c0 _).mono ?_ | refine (c2 _).mono ?_ | refine (c4 _).mono ?_ | refine (c5 _).mono ?_); rintro e w' ⟨rfl, rfl⟩) | (go_at_call 47; (with_reducible first | refine (c1 _).mono ?_ | refine (c3 _).mono ?_ | refine (c6 _).mono ?_); rintro e w' ⟨rfl, rfl⟩))
          all_goals (go_ret; exact ⟨rfl, rfl⟩)
      · rw [if_neg hzy] at hgm
        have e2 : ((z : Int) == (y : Int)) = false := by simp; omega
        simp only [strB_len] at hgm
        have HGM := Lib.hid hgm; clear hgm
        have HZ := Lib.hid hzy; clear hzy
        rcases hcase with ⟨dA, rfl, _⟩ | ⟨dA, dB, c3⟩
        · have c3 := c1
          go_enter Tryz.func55, Tryz.ntmps55
          go_wp2_with (first | (go_at_call 62; (with_reducible first | refine (c0 _).mono ?_ | refine (c2 _).mono ?_ | refine (c4 _).mono ?_ | refine (c5 _).mono ?_); rintro e w' ⟨rfl, rfl⟩) | (go_at_call 47; (with_reducible first | refine (c1 _).mono ?_ | refine (c3 _).mono ?_ | refine (c6 _).mono ?_); rintro e w' ⟨rfl, rfl⟩))
          all_goals (go_ret; exact ⟨ret_bool (by rw [← HGM.out]; rw [Bool.eq_iff_iff]; simp; omega), rfl⟩)
        · skip
          go_enter Tryz.func55, Tryz.ntmps55
          go_wp2_with (first | (go_at_call 62; (with_reducible first | refine (c0 _).mono ?_ | refine (c2 _).mono ?_ | refine (c4 _).mono ?_ | refine (c5 _).mono ?_); rintro e w' ⟨rfl, rfl⟩) | (go_at_call 47; (with_reducible first | refine (c1 _).mono ?_ | refine (c3 _).mono ?_ | refine (c6 _).mono ?_); rintro e w' ⟨rfl, rfl⟩))
          all_goals (go_ret; exact ⟨ret_bool (by rw [← HGM.out]; rw [Bool.eq_iff_iff]; simp; omega), rfl⟩)
  rcases l2 with hda | hda
  · rw [if_pos hda] at hg
    exact key a l1.2 hg (.inl ⟨by simp; omega, rfl, fun _ => trivial⟩)
  · rw [if_neg (by omega)] at hg
    rw [← hda] at hg
    have c3 := fun w => tokRun_any s ⟨#[48, 49, 50, 51, 52, 53, 54, 55, 56, 57]⟩ K.dg (by decide) d w hsm l2'.2.1
    have l3 := K.runTo_le K.dg (strB s) d (by rw [strB_len]; exact l2'.2.1)
    rw [strB_len] at l3
    obtain ⟨b, hb⟩ : ∃ b, K.runTo K.dg (strB s) d = b := ⟨_, rfl⟩
    simp only [hb] at c3 l3 hg
    clear hb
    by_cases hbd : b = d
    · rw [if_pos hbd] at hg
      subst hg
      have dA : decide (a < d) = true := by simp; omega
      have dB : ((b : Int) == (d : Int)) = true := by simp; omega
      have HB := Lib.hid hbd; clear hbd
      have HD := Lib.hid hda; clear hda key l2' l3
      have c4 := c2
      have c5 := c2
      have c6 := c3
      go_enter Tryz.func55, Tryz.ntmps55
      go_wp2_with (first | (go_at_call 62; (with_reducible first | refine (c0 _).mono ?_ | refine (c2 _).mono ?_ | refine (c4 _).mono ?_ | refine (c5 _).mono ?_); rintro e w' ⟨rfl, rfl⟩) | (go_at_call 47; (with_reducible first | refine (c1 _).mono ?_ | refine (c3 _).mono ?_ | refine (c6 _).mono ?_); rintro e w' ⟨rfl, rfl⟩))
      all_goals (go_ret; exact ⟨rfl, rfl⟩)
    · rw [if_neg hbd] at hg
      exact key b l3.2 hg (.inr ⟨by simp; omega, by simp; omega, c3⟩)
end Go.Proofs.YtpiajoffddjjfaaGreatDoor
