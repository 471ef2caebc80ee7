/- Layer 14: begun. -/
import Derived.Test.YtcicjpdjbfgbhaaDoorMh26Cell
import Derived.Test.YtcicjpdjbfgbhaaDoorMh0Cell
set_option linter.unusedVariables false
set_option linter.unusedSimpArgs false
namespace Go.Proofs.YtcicjpdjbfgbhaaDoor
open Go.RowKit Go.Shelf
/-- what begun comes to: what reads the value that a byte begins -/
def begunF (p : Nat) (x : Int) : Option Value :=
  if x = 91 then some (.func (.func 81) #[.pointer (some ⟨p, 0, none⟩)] #[])
  else if x = 34 then some (.func (.func 82) #[.pointer (some ⟨p, 0, none⟩)] #[])
  else if x = 39 then some (.func (.func 83) #[.pointer (some ⟨p, 0, none⟩)] #[])
  else if x = 45 ∨ M.isD x = true then some (.func (.func 85) #[.pointer (some ⟨p, 0, none⟩)] #[])
  else if letterB x = true then some (.func (.func 86) #[.pointer (some ⟨p, 0, none⟩)] #[])
  else none
def BegunR (a : Nat) (F : Option Value) (w : World) (e : Ending) (w' : World) : Prop := (match F with | some f => e = .returned f | none => e = .panicked (wrongT (a : Int) 2)) ∧ ∃ k, w' = w.drewN k
theorem begun_if (p : Nat) (x : Int) (P : Option Value → Prop) (h1 : x = 91 → P (some (.func (.func 81) #[.pointer (some ⟨p, 0, none⟩)] #[])))
    (h2 : x ≠ 91 → x = 34 → P (some (.func (.func 82) #[.pointer (some ⟨p, 0, none⟩)] #[])))
    (h3 : x ≠ 91 → x ≠ 34 → x = 39 → P (some (.func (.func 83) #[.pointer (some ⟨p, 0, none⟩)] #[])))
    (h4 : x ≠ 91 → x ≠ 34 → x ≠ 39 → x = 45 → P (some (.func (.func 85) #[.pointer (some ⟨p, 0, none⟩)] #[])))
    (h5 : x ≠ 91 → x ≠ 34 → x ≠ 39 → x ≠ 45 → M.isD x = true → P (some (.func (.func 85) #[.pointer (some ⟨p, 0, none⟩)] #[])))
    (h6 : x ≠ 91 → x ≠ 34 → x ≠ 39 → x ≠ 45 → M.isD x = false → letterB x = true → P (some (.func (.func 86) #[.pointer (some ⟨p, 0, none⟩)] #[])))
    (h7 : x ≠ 91 → x ≠ 34 → x ≠ 39 → x ≠ 45 → M.isD x = false → letterB x = false → P none) : P (begunF p x) := by
  unfold begunF
  split
  · rename_i h; exact h1 h
  · rename_i k1
    split
    · rename_i h; exact h2 k1 h
    · rename_i k2
      split
      · rename_i h; exact h3 k1 k2 h
      · rename_i k3
        split
        · rename_i h
          by_cases h0 : x = 45
          · exact h4 k1 k2 k3 h0
          · exact h5 k1 k2 k3 h0 (h.resolve_left h0)
        · rename_i k4
          have k5 : x ≠ 45 := fun e => k4 (.inl e)
          have k6 : M.isD x = false := by
            cases h : M.isD x
            · rfl
            · exact absurd (.inr h) k4
          split
          · rename_i h; exact h6 k1 k2 k3 k5 k6 h
          · rename_i h; exact h7 k1 k2 k3 k5 k6 (by simpa using h)
set_option maxRecDepth 100000 in
set_option maxHeartbeats 2000000 in
theorem begun_any (s : ByteArray) (p a o n : Nat) (w : World) (hsm : s.size ≤ 1000000) (ha : a < s.size) (hr : RV w p s a o n) :
    Calls Tryd.prog 79 #[.pointer (some ⟨p, 0, none⟩)] w (BegunR a (begunF p ((strB s)[a]?.getD 0)) w) := by
  have hmf : ∀ (fn : Fn) (first cap : Array Value) (w : World), (Instr.makeFunc fn first cap).run Tryd.prog w = .ok (.func fn first cap) w := fun _ _ _ _ => rfl
  have hH := here_any s p a o n w hsm (by omega) hr
  unfold HereR at hH
  simp only [if_pos ha] at hH
  have hxb := strB_bytes s a
  obtain ⟨x, hx⟩ : ∃ x, (strB s)[a]?.getD 0 = x := ⟨_, rfl⟩
  simp only [hx] at hH hxb ⊢
  clear hx
  have hD := fun k => vwithin_any digitsC x (w.drewN k) hxb.1 hxb.2
  have hL := fun k => vwithin_any lettersC x (w.drewN k) hxb.1 hxb.2
  simp only [digits_are x hxb.1 hxb.2, letters_are x hxb.1 hxb.2] at hD hL
  obtain ⟨⟨c0, c1, c2, c3⟩, f1, f2, f3⟩ := rv_cells hr
  refine begun_if p x (fun F => Calls Tryd.prog 79 #[.pointer (some ⟨p, 0, none⟩)] w (BegunR a F w)) ?_ ?_ ?_ ?_ ?_ ?_ ?_
  · intro h
    have d1 : (x == 91) = true := by simpa using h
    have HX := Lib.hid h; clear h hD hL
    go_enter Tryd.func79, Tryd.ntmps79
    go_wp2_with (go_at_call 80; (with_reducible refine hH.mono ?_); rintro e w1 ⟨rfl, k, rfl⟩)
    go_ret
    exact ⟨rfl, k, rfl⟩
  · intro h1 h
    have d1 : (x == 91) = false := by simpa using h1
    have d2 : (x == 34) = true := by simpa using h
    have HX := Lib.hid h; have HX1 := Lib.hid h1; clear h h1 hD hL
    go_enter Tryd.func79, Tryd.ntmps79
    go_wp2_with (go_at_call 80; (with_reducible refine hH.mono ?_); rintro e w1 ⟨rfl, k, rfl⟩)
    go_ret
    exact ⟨rfl, k, rfl⟩
  · intro h1 h2 h
    have d1 : (x == 91) = false := by simpa using h1
    have d2 : (x == 34) = false := by simpa using h2
    have d3 : (x == 39) = true := by simpa using h
    have HX := Lib.hid h; have HX1 := Lib.hid h1; have HX2 := Lib.hid h2; clear h h1 h2 hD hL
    go_enter Tryd.func79, Tryd.ntmps79
    go_wp2_with (go_at_call 80; (with_reducible refine hH.mono ?_); rintro e w1 ⟨rfl, k, rfl⟩)
    go_ret
    exact ⟨rfl, k, rfl⟩
  · intro h1 h2 h3 h
    have d1 : (x == 91) = false := by simpa using h1
    have d2 : (x == 34) = false := by simpa using h2
    have d3 : (x == 39) = false := by simpa using h3
    have d4 : (x == 45) = true := by simpa using h
    have HX := Lib.hid h; have HX1 := Lib.hid h1; have HX2 := Lib.hid h2; have HX3 := Lib.hid h3; clear h h1 h2 h3 hD hL
    go_enter Tryd.func79, Tryd.ntmps79
    go_wp2_with (go_at_call 80; (with_reducible refine hH.mono ?_); rintro e w1 ⟨rfl, k, rfl⟩)
    go_ret
    exact ⟨rfl, k, rfl⟩
  · intro h1 h2 h3 h4 h
    have d1 : (x == 91) = false := by simpa using h1
    have d2 : (x == 34) = false := by simpa using h2
    have d3 : (x == 39) = false := by simpa using h3
    have d4 : (x == 45) = false := by simpa using h4
    simp only [h] at hD
    have HX := Lib.hid h; have HX1 := Lib.hid h1; have HX2 := Lib.hid h2; have HX3 := Lib.hid h3; have HX4 := Lib.hid h4; clear h h1 h2 h3 h4 hL
    go_enter Tryd.func79, Tryd.ntmps79
    go_wp2_with (first
      | (go_at_call 80; (with_reducible refine hH.mono ?_); rintro e w1 ⟨rfl, k, rfl⟩)
      | (go_at_call 84; (with_reducible refine (hD _).mono ?_); rintro e w1 ⟨rfl, rfl⟩))
    go_ret
    exact ⟨rfl, k, rfl⟩
  · intro h1 h2 h3 h4 h5 h
    have d1 : (x == 91) = false := by simpa using h1
    have d2 : (x == 34) = false := by simpa using h2
    have d3 : (x == 39) = false := by simpa using h3
    have d4 : (x == 45) = false := by simpa using h4
    simp only [h5] at hD
    simp only [h] at hL
    have HX := Lib.hid h; have HX1 := Lib.hid h1; have HX2 := Lib.hid h2; have HX3 := Lib.hid h3; have HX4 := Lib.hid h4; have HX5 := Lib.hid h5; clear h h1 h2 h3 h4 h5
    go_enter Tryd.func79, Tryd.ntmps79
    go_wp2_with (first
      | (go_at_call 80; (with_reducible refine hH.mono ?_); rintro e w1 ⟨rfl, k, rfl⟩)
      | (go_at_call 84; (first | (with_reducible refine (hD _).mono ?_) | (with_reducible refine (hL _).mono ?_)); rintro e w1 ⟨rfl, rfl⟩))
    go_ret
    exact ⟨rfl, k, rfl⟩
  · intro h1 h2 h3 h4 h5 h
    have d1 : (x == 91) = false := by simpa using h1
    have d2 : (x == 34) = false := by simpa using h2
    have d3 : (x == 39) = false := by simpa using h3
    have d4 : (x == 45) = false := by simpa using h4
    simp only [h5] at hD
    simp only [h] at hL
    have HX := Lib.hid h; have HX1 := Lib.hid h1; have HX2 := Lib.hid h2; have HX3 := Lib.hid h3; have HX4 := Lib.hid h4; have HX5 := Lib.hid h5; clear h h1 h2 h3 h4 h5
    go_enter Tryd.func79, Tryd.ntmps79
    go_wp2_with (first
      | (go_at_call 80; (with_reducible refine hH.mono ?_); rintro e w1 ⟨rfl, k, rfl⟩)
      | (go_at_call 84; (first | (with_reducible refine (hD _).mono ?_) | (with_reducible refine (hL _).mono ?_)); rintro e w1 ⟨rfl, rfl⟩))
    exact ⟨rfl, rfl, k, rfl⟩
theorem begun_end (s : ByteArray) (p o n : Nat) (w : World) (hsm : s.size ≤ 1000000) (hr : RV w p s s.size o n) :
    Calls Tryd.prog 79 #[.pointer (some ⟨p, 0, none⟩)] w fun e w' => e = .panicked (wrongT (s.size : Int) 2) ∧ ∃ k, w' = w.drewN k := by
  have hH := here_any s p s.size o n w hsm (by omega) hr
  unfold HereR at hH
  simp only [if_neg (show ¬ s.size < s.size by omega)] at hH
  go_enter Tryd.func79, Tryd.ntmps79
  go_wp2_with (go_at_call 80; (with_reducible refine hH.mono ?_); rintro e w1 ⟨rfl, k, rfl⟩)
  exact ⟨rfl, rfl, k, rfl⟩
end Go.Proofs.YtcicjpdjbfgbhaaDoor

/- A range over an iterator that writes what it holds (a block of cells, new memory) between two rounds, and whose loop variable lies in a box: what the loop comes to. -/
namespace Go.Proofs.YtcicjpdjbfgbhaaDoor
open Go.RowKit Go.Shelf
variable {F : Fence} {n : Nat} {P : Program}
/-- a walk from an activation that is said otherwise -/
theorem wpIn_act {c : Code} {Q : Exit → Act → World → Prop} {a a' : Act} {w : World} (h : a = a') (k : c.wpIn F n P Q a' w) : c.wpIn F n P Q a w := h ▸ k
end Go.Proofs.YtcicjpdjbfgbhaaDoor
