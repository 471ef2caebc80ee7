/- The document's answer for layer 2: Scan. -/
import Derived.Test.YtfapoicnkdallaaMh33Vtex
namespace Go.Proofs.Ytfapoicnkdallaa
open Go.RowKit Go.Shelf
set_option maxHeartbeats 2000000 in
theorem refScan_any (s : ByteArray) (p : Int) (w : World) (hsm : s.size ≤ maxLen) (hp : -9223372036854775808 ≤ p) (hp' : p ≤ 9223372036854775807) :
    Calls Try.prog 34 #[.string s, .int .i64 p] w fun e w' => e = .returned (.tuple #[.int .i64 (M.scan (strB s) p).1, .int .i64 (M.scan (strB s) p).2.1, .int .i64 (M.scan (strB s) p).2.2]) ∧ w = w' := by
  by_cases hin : 0 ≤ p ∧ p ≤ s.size
  · obtain ⟨a, rfl⟩ := Int.eq_ofNat_of_zero_le hin.1
    have ha : a ≤ s.size := by omega
    have hsl := M.sgn_le (strB s) a (by rw [strB_len]; exact ha)
    rw [strB_len] at hsl
    have hrl := M.runTo_le (strB s) (M.sgn (strB s) a) (by rw [strB_len]; exact hsl.2.1)
    rw [strB_len] at hrl
    have hsc : M.scan (strB s) (a : Int) = if (M.parse (strB (s.extract a (M.runTo (strB s) (M.sgn (strB s) a))))).2 = 0 then ((M.parse (strB (s.extract a (M.runTo (strB s) (M.sgn (strB s) a))))).1, (M.runTo (strB s) (M.sgn (strB s) a) : Int), 0)
        else (0, (a : Int), (M.parse (strB (s.extract a (M.runTo (strB s) (M.sgn (strB s) a))))).2) := by
      unfold M.scan; rw [if_pos (by rw [strB_len]; omega), Int.toNat_natCast, strB_sub]
    have hsd : ∀ h : a < s.size, (s[a].toNat : Int) = 45 → M.sgn (strB s) a = a + 1 := fun h h4 => by unfold M.sgn; rw [strB_at s a h, if_pos h4]
    have hsn : ∀ h : a < s.size, ¬ (s[a].toNat : Int) = 45 → M.sgn (strB s) a = a := fun h h4 => by unfold M.sgn; rw [strB_at s a h, if_neg h4]
    have hsz : a = s.size → M.sgn (strB s) a = a := fun h => by have := hsl; omega
    obtain ⟨f, hf⟩ : ∃ f, M.sgn (strB s) a = f := ⟨_, rfl⟩
    simp only [hf] at hsl hrl hsc hsd hsn hsz
    obtain ⟨e, he⟩ : ∃ e, M.runTo (strB s) f = e := ⟨_, rfl⟩
    simp only [he] at hrl hsc
    have hpa := fun w => refParse_any (s.extract a e) w (by rw [sub_size _ _ _ hrl.2]; unfold maxLen at *; omega)
    obtain ⟨r, hr⟩ : ∃ r, M.parse (strB (s.extract a e)) = r := ⟨_, rfl⟩
    simp only [hr] at hpa hsc
    obtain ⟨g, hg⟩ : ∃ g, M.scan (strB s) (a : Int) = g := ⟨_, rfl⟩
    rw [hg] at hsc ⊢
    have HSC := Lib.hid hsc; clear hsc
    have HE := Lib.hid he; clear he hf hr hg
    unfold maxLen at hsm
    go_enter Try.func34, Try.ntmps34
    go_wp2
    go_loop [7] (fun i => ∃ q : Nat, a ≤ q ∧ q ≤ s.size ∧ i = .int .i64 q ∧ (q = a ∨ f ≤ q ∧ M.runTo (strB s) q = e)) (fun i => s.size - (intOf i).toNat)
    case atStart => exact ⟨a, Nat.le_refl _, ha, rfl, .inl rfl⟩
    case round =>
      obtain ⟨q, hq1, hq, rfl, hrq⟩ := hrel
      by_cases hgo : ∃ h : q < s.size, M.isD (s[q].toNat : Int) = true ∨ q = a ∧ (s[q].toNat : Int) = 45
      · obtain ⟨hlt, hgo⟩ := hgo
        have hx := strB_at s q hlt
        have hd5 : decide (q < s.size) = true := by simpa using hlt
        have HN : Hid (f ≤ q + 1 ∧ M.runTo (strB s) (q + 1) = e) := Lib.hid (by
          rcases hgo with hdg | ⟨rfl, h45⟩
          · have hst := M.runTo_step (strB s) q (by rw [strB_len]; exact hlt) (by rw [hx]; exact hdg)
            simp [M.isD] at hdg
            rcases hrq with rfl | ⟨h1, h2⟩
            · have := hsn hlt (by omega)
              exact ⟨by omega, by rw [← hst, ← HE.out, this]⟩
            · exact ⟨by omega, by rw [← hst]; exact h2⟩
          · have := hsd hlt h45
            exact ⟨by omega, by rw [← HE.out, this]⟩)
        clear hsd hsn hsz hx hrq
        rcases hgo with hdg | ⟨hqa, h45⟩
        · simp [M.isD] at hdg
          have h1 : decide (48 ≤ (s[q].toNat : Int)) = true := by simp; omega
          have h2 : decide ((s[q].toNat : Int) ≤ 57) = true := by simp; omega
          go_wp2
          go_round
          case rel => exact ⟨q + 1, by omega, by omega, by go_num, .inr HN.out⟩
          case measure => simp [intOf]; omega
        · subst hqa
          have h1 : decide (48 ≤ (s[q].toNat : Int)) = false := by simp; omega
          have h3 : ((s[q].toNat : Int) == 45) = true := by simpa using h45
          go_wp2
          go_round
          case rel => exact ⟨q + 1, by omega, by omega, by go_num, .inr HN.out⟩
          case measure => simp [intOf]; omega
      · have HQ : Hid (q = e) := Lib.hid (by
          have hdg : ∀ h : q < s.size, ¬ M.isD (s[q].toNat : Int) = true := fun h hd => hgo ⟨h, .inl hd⟩
          have hst := M.runTo_stop (strB s) q (fun h => by
            rw [strB_len] at h
            rw [strB_at s q h]; simpa using hdg h)
          rcases hrq with rfl | ⟨h1, h2⟩
          · have hfq : f = q := by
              rcases Nat.lt_or_ge q s.size with h | h
              · exact hsn h (fun h4 => hgo ⟨h, .inr ⟨rfl, h4⟩⟩)
              · exact hsz (by omega)
            rw [← hst, ← HE.out, hfq]
          · rw [← hst, h2])
        obtain rfl := HQ.out
        have hno : ∀ h : q < s.size, ¬ (48 ≤ (s[q].toNat : Int) ∧ (s[q].toNat : Int) ≤ 57) ∧ ¬ (q = a ∧ (s[q].toNat : Int) = 45) := fun h => ⟨fun h1 => hgo ⟨h, .inl (by simp [M.isD]; omega)⟩, fun h1 => hgo ⟨h, .inr h1⟩⟩
        clear hsd hsn hsz hrq hgo
        have hr0 : ∃ b, (r.2 != 0) = b ∧ (b = false ∧ g = (r.1, (q : Int), 0) ∨ b = true ∧ g = (0, (a : Int), r.2)) := by
          have h := HSC.out
          by_cases h0 : r.2 = 0
          · rw [if_pos h0] at h; exact ⟨false, by simpa using h0, .inl ⟨rfl, h⟩⟩
          · rw [if_neg h0] at h; exact ⟨true, by simpa using h0, .inr ⟨rfl, h⟩⟩
        clear HSC
        obtain ⟨r1, r2⟩ := r
        obtain ⟨b, hb, ⟨rfl, rfl⟩ | ⟨rfl, rfl⟩⟩ := hr0
        all_goals
          rcases Nat.lt_or_ge q s.size with hlt | hge
          · have hn := hno hlt
            have hd5 : decide (q < s.size) = true := by simpa using hlt
            clear hno
            obtain ⟨b1, b2, e1, e2, hbs⟩ : ∃ b1 b2, decide (48 ≤ (s[q].toNat : Int)) = b1 ∧ decide ((s[q].toNat : Int) ≤ 57) = b2 ∧ (b1 = false ∨ b1 = true ∧ b2 = false) := by
              refine ⟨_, _, rfl, rfl, ?_⟩
              by_cases h1 : 48 ≤ (s[q].toNat : Int)
              · right; simp; omega
              · left; simp; omega
            obtain ⟨b3, b4, e3, e4, hcs⟩ : ∃ b3 b4, ((q : Int) == (a : Int)) = b3 ∧ ((s[q].toNat : Int) == 45) = b4 ∧ (b3 = false ∨ q = a ∧ b4 = false) := by
              refine ⟨_, _, rfl, rfl, ?_⟩
              by_cases h1 : q = a
              · right; simp; omega
              · left; simp; omega
            have hpe : ∀ w, q = a → Calls Try.prog 55 #[.string ByteArray.empty] w fun e w' => e = .returned (.tuple #[.int .i64 r1, .int .i64 r2]) ∧ w = w' := fun w h => by subst h; have := hpa w; simpa using this
            rcases hbs with rfl | ⟨rfl, rfl⟩
            all_goals rcases hcs with rfl | ⟨hqa, rfl⟩
            all_goals (first | subst hqa | skip)
            all_goals
              go_wp2_with (first | (go_at_call 55; (first | with_reducible refine (hpa _).mono ?_ | with_reducible refine (hpe _ rfl).mono ?_); rintro e w' ⟨rfl, rfl⟩))
              go_ret3
              exact ⟨rfl, rfl⟩
          · have hd5 : decide (q < s.size) = false := by simpa using hge
            clear hno
            go_wp2_with (first | (go_at_call 55; (with_reducible refine (hpa _).mono ?_); rintro e w' ⟨rfl, rfl⟩))
            go_ret3
            exact ⟨rfl, rfl⟩
  · have hsc : M.scan (strB s) p = (0, p, 2) := by unfold M.scan; rw [if_neg (by rw [strB_len]; exact hin)]
    rw [hsc]; clear hsc
    unfold maxLen at hsm
    by_cases h0 : p < 0
    · have hd : decide (p < 0) = true := by simpa using h0
      go_enter Try.func34, Try.ntmps34
      go_wp2
      go_ret3
      exact ⟨rfl, rfl⟩
    · have hd : decide (p < 0) = false := by simpa using h0
      have hd2 : decide ((s.size : Int) < p) = true := by simp; omega
      go_enter Try.func34, Try.ntmps34
      go_wp2
      go_ret3
      exact ⟨rfl, rfl⟩
end Go.Proofs.Ytfapoicnkdallaa
