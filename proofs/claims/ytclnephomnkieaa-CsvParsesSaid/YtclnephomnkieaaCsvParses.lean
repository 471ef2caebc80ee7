/- The walk of CsvParses: all rows of every text, or where it is wrong, are the document's. -/
import Derived.Test.YtclnephomnkieaaCsvAlive
set_option linter.unusedVariables false
namespace Go.Proofs.Ytclnephomnkieaa
open Go.RowKit Go.Shelf
theorem small_of (L : Rws) (h : V.tot L ≤ 1000000) : L.length ≤ 1000000000 ∧ ∀ r ∈ L, r.length ≤ 1000000000 := by
  have h1 := V.len_tot L
  refine ⟨by omega, fun r hr => ?_⟩
  have h2 := V.mem_tot L r hr
  have h3 := V.len_fsz r
  omega
theorem tot_parse (s : ByteArray) : V.tot ((V.parse (strB s)).1.getD []) ≤ 4 * s.size := by
  cases h : V.parse (strB s) with
  | mk o c =>
    cases o with
    | none => simp [V.tot]
    | some x => have := (V.parse_size _ x c h).1; rw [strB_len] at this; exact this
/-- Parse, as the walks take it -/
theorem parse_calls (s : ByteArray) (w : World) (hsm : s.size ≤ 100000) : Calls Try.prog 10 #[.string s] w fun e w' => ∃ v, e = .returned (.tuple #[v, .int .i64 (V.pos s.size (V.parse (strB s)) : Nat), .int .i64 (V.err (V.parse (strB s)))]) ∧ SRows w' v ((V.parse (strB s)).1.getD []) ∧ Below w.heap.size w w' :=
  (csvParse_any s w (by omega)).mono fun e w' ⟨v, h1, ⟨C, h2⟩, h3⟩ => ⟨v, h1, srows_of h2, h3⟩
namespace csvParsesWalk
set_option maxRecDepth 100000 in
set_option maxHeartbeats 4000000 in
theorem walk (a0 : ByteArray) (w : World) (w0 : a0.size ≤ maxLen) :
    Calls Try.prog 3 #[.string a0] w fun e w' => e = .returned (.bool true) ∧ Below w.heap.size w w' := by
  have ha := csvAlive_any w
  rcases Nat.lt_or_ge 1000 a0.size with hbig | hsm
  · have d1 : decide ((1000 : Int) < (a0.size : Int)) = true := decide_eq_true (by omega)
    go_enter Try.func3, Try.ntmps3
    go_wp2_with (go_at_call 9; (with_reducible refine ha.mono ?_); rintro e w1 ⟨rfl, hB1⟩)
    go_ret
    exact ⟨rfl, hB1⟩
  have d1 : decide ((1000 : Int) < (a0.size : Int)) = false := decide_eq_false (by omega)
  have hA := fun w => parse_calls a0 w (by omega)
  have hR : ∀ w, Calls Try.prog 11 #[.string a0] w fun e w' => ∃ v, e = .returned (.tuple #[v, .int .i64 (V.pos a0.size (V.parse (strB a0)) : Nat), .int .i64 (V.err (V.parse (strB a0)))]) ∧ SRows w' v ((V.parse (strB a0)).1.getD []) ∧ Below w.heap.size w w' := fun w =>
    (refParse9_any a0 w (by omega)).mono fun e w' ⟨v, h1, ⟨C, h2⟩, h3⟩ => ⟨v, h1, srows_of h2, h3⟩
  have hS := fun u v w hu hv => refSame9_any u v ((V.parse (strB a0)).1.getD []) w hu hv (small_of _ (by have := tot_parse a0; omega))
  obtain ⟨L, hL⟩ : ∃ L, (V.parse (strB a0)).1.getD [] = L := ⟨_, rfl⟩
  obtain ⟨q, hq⟩ : ∃ q, V.pos a0.size (V.parse (strB a0)) = q := ⟨_, rfl⟩
  obtain ⟨er, her⟩ : ∃ er, V.err (V.parse (strB a0)) = er := ⟨_, rfl⟩
  simp only [hL, hq, her] at hA hR hS
  clear hL hq her
  go_enter Try.func3, Try.ntmps3
  go_wp2_with (first
    | (go_at_call 9; (with_reducible refine ha.mono ?_); rintro e w1 ⟨rfl, hB1⟩)
    | (go_at_call 10; (with_reducible refine (hA _).mono ?_); rintro e w2 ⟨v, rfl, hv, hB2⟩)
    | (go_at_call 11; (with_reducible refine (hR _).mono ?_); rintro e w3 ⟨u, rfl, hu, hB3⟩; have hv3 := srows_below hv hB3)
    | (go_at_call 12; (with_reducible refine (hS _ _ _ hv3 hu).mono ?_); rintro e w4 ⟨rfl, hB4⟩))
  go_ret
  have h2 := hB1.trans (hB2.mono hB1.size)
  have h3 := h2.trans (hB3.mono h2.size)
  exact ⟨rfl, h3.trans (hB4.mono h3.size)⟩
end csvParsesWalk
end Go.Proofs.Ytclnephomnkieaa
