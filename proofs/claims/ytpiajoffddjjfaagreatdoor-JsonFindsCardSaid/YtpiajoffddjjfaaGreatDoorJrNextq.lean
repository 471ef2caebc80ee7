/- Reading JSON: must, word, next. -/
import Derived.Test.YtpiajoffddjjfaaGreatDoorMg19Jso
import Derived.Test.YtpiajoffddjjfaaGreatDoorTokNextq
set_option linter.unusedVariables false
namespace Go.Proofs.YtpiajoffddjjfaaGreatDoor
open Go.RowKit Go.Shelf
/-- what a reader gives up by -/
def wrongV (a e : Int) : List PanicEntry := [{ v := .iface 57 (.agg #[.int .i64 a, .int .i64 e]), recovered := false }]
set_option maxRecDepth 100000 in
theorem must_any (t : K.Tok) (k : Int) (w : World) : Calls Tryz.prog 27 #[tokV t, .int .i64 k] w fun e w' => (if t.kind = k then ∃ v, e = .returned v else e = .panicked (wrongV t.a 2)) ∧ Below w.heap.size w w' := by
  obtain ⟨tk, ta, te, ts, tn⟩ := t
  unfold tokV tokC
  simp only
  have hA := (Below.refl _ w).alloc (Nat.le_refl _) (.cells #[.int .i64 tk, .int .i64 ta, .int .i64 te, .string (strOfNums ts), .int .i64 tn] 60)
  by_cases h : tk = k
  · subst h
    simp only [if_true]
    have e1 : (tk != tk) = false := by simp
    go_enter Tryz.func27, Tryz.ntmps27
    go_wp2
    refine bodyPost_end (results_none rfl _ _ _) rfl ?_
    exact ⟨⟨_, rfl⟩, hA⟩
  · simp only [if_neg h]
    have e1 : (tk != k) = true := by simpa using h
    clear h
    go_enter Tryz.func27, Tryz.ntmps27
    go_wp2
    exact ⟨rfl, rfl, hA⟩
theorem cell_errJ {w : World} {p : Nat} {s : ByteArray} {a r : Nat} (hE : Err w) (h : RJ w p s a r) : p ≠ 1 := by
  obtain ⟨ev, h1, h2⟩ := hE
  rintro rfl
  rw [(rj_cells h).1.1] at h1
  cases h1
  rcases h2 with h2 | ⟨_, _, h2⟩ <;> cases h2
theorem err_grownJ {w w' : World} {row : Option Nat} (hE : Err w) (hg : w.grownBy w' row) (hne : some 1 ≠ row) : Err w' := by
  obtain ⟨ev, h1, h2⟩ := hE
  have hlt : 1 < w.heap.size := by
    simp only [World.cell?] at h1
    rcases Nat.lt_or_ge 1 w.heap.size with h | h
    · exact h
    · rw [Array.getElem?_eq_none h] at h1; cases h1
  refine ⟨ev, ?_, h2⟩
  rw [← h1]
  simp only [World.cell?, hg.block 1 hlt hne]
theorem err_rj {w w' : World} {p : Nat} {s : ByteArray} {a r : Nat} (hE : Err w) (h : RJ w p s a r) (hg : w.grownBy w' (some p)) : Err w' := err_grownJ hE hg (fun e => cell_errJ hE h (by cases e; rfl))
/-- what next comes to -/
def NxR (p : Nat) (s : ByteArray) (room : Nat) (w : World) (x : Js.Out (K.Tok × Nat)) (e : Ending) (w' : World) : Prop := match x with
  | .inl (a, er) => e = .panicked (wrongV a er) ∧ w.grownBy w' (some p)
  | .inr (t, q) => e = .returned (tokV t) ∧ RJ w' p s q room ∧ w.grownBy w' (some p)
theorem nextJ_rest (l : List Int) (p : Nat) (h : p ≤ l.length) : K.nextAt l (p : Int) = ((K.next l p).1, (((K.next l p).2.1 : Nat) : Int), (K.next l p).2.2) := by
  unfold K.nextAt; rw [if_pos (by omega), Int.toNat_natCast]
theorem nx_a {w W1 w1 : World} {p : Nat} {s : ByteArray} {q room : Nat} (hA : Below w.heap.size w W1) (hr : RJ W1 p s q room) (hm : GAt W1 w.heap.size tzero) (hB : Below W1.drew.heap.size W1.drew w1) :
    Below w.heap.size w w1 ∧ RJ w1 p s q room ∧ GAt w1 w.heap.size tzero := by
  have h := ((Below.refl W1.heap.size W1).drew).trans hB
  exact ⟨hA.trans (h.mono hA.size), rj_below hr h, gat_below h hm⟩
theorem nx_b {w W1 w1 : World} {p : Nat} {s : ByteArray} {q room : Nat} (hA : Below w.heap.size w W1) (hr : RJ W1 p s q room) (hm : GAt W1 w.heap.size tzero) (hB : Below (W1.alloc (.cells tzero 60)).drew.heap.size (W1.alloc (.cells tzero 60)).drew w1) :
    Below w.heap.size w w1 ∧ RJ w1 p s q room ∧ GAt w1 w.heap.size tzero ∧ GAt w1 W1.heap.size tzero := by
  have h0 := ((Below.refl W1.heap.size W1).alloc (Nat.le_refl _) (.cells tzero 60)).drew
  have h := h0.trans (hB.mono h0.size)
  exact ⟨hA.trans (h.mono hA.size), rj_below hr h, gat_below h hm, gat_below hB (gat_alloc_drew W1 tzero)⟩
theorem gat_set5o {W : World} {b b' : Nat} {cs : Array Value} (h : GAt W b cs) (hne : b ≠ b') (d0 d1 d2 d3 d4 : Value) : GAt (((((W.setCell ⟨b', 0, none⟩ d0).setCell ⟨b', 1, none⟩ d1).setCell ⟨b', 2, none⟩ d2).setCell ⟨b', 3, none⟩ d3).setCell ⟨b', 4, none⟩ d4) b cs :=
  gat_other (gat_other (gat_other (gat_other (gat_other h hne 0 d0) hne 1 d1) hne 2 d2) hne 3 d3) hne 4 d4
theorem rj_other {W : World} {p b : Nat} {s : ByteArray} {a r : Nat} (h : RJ W p s a r) (hne : p ≠ b) (i : Nat) (c : Value) : RJ (W.setCell ⟨b, i, none⟩ c) p s a r := (Below.heap_setCell W ⟨b, i, none⟩ c p hne).trans h
theorem rj_set5o {W : World} {p b' : Nat} {s : ByteArray} {a r : Nat} (h : RJ W p s a r) (hne : p ≠ b') (d0 d1 d2 d3 d4 : Value) : RJ (((((W.setCell ⟨b', 0, none⟩ d0).setCell ⟨b', 1, none⟩ d1).setCell ⟨b', 2, none⟩ d2).setCell ⟨b', 3, none⟩ d3).setCell ⟨b', 4, none⟩ d4) p s a r :=
  rj_other (rj_other (rj_other (rj_other (rj_other h hne 0 d0) hne 1 d1) hne 2 d2) hne 3 d3) hne 4 d4
theorem nx_end {w W5 : World} {p b : Nat} (h : w.grownBy W5 (some p)) (hb : w.heap.size ≤ b) (c d0 d1 d2 d3 d4 : Value) : w.grownBy ((((((W5.setCell ⟨p, 1, none⟩ c).setCell ⟨b, 0, none⟩ d0).setCell ⟨b, 1, none⟩ d1).setCell ⟨b, 2, none⟩ d2).setCell ⟨b, 3, none⟩ d3).setCell ⟨b, 4, none⟩ d4) (some p) :=
  have hn : ∀ b', some b = some b' → w.heap.size ≤ b' ∨ some p = some b' := fun b' e => .inl (by cases e; exact hb)
  grownJ_then (grownJ_then (grownJ_then (grownJ_then (grownJ_then (grownJ_then h (grownJ_set W5 p 1 c) (fun _ e => .inr e)) (grownJ_set _ b 0 d0) hn) (grownJ_set _ b 1 d1) hn) (grownJ_set _ b 2 d2) hn) (grownJ_set _ b 3 d3) hn) (grownJ_set _ b 4 d4) hn
set_option maxRecDepth 100000 in
set_option maxHeartbeats 4000000 in
theorem jnext_any (s : ByteArray) (p q room : Nat) (w : World) (hsm : s.size ≤ 100000) (hq : q ≤ s.size) (hr : RJ w p s q room) (hE : Err w) :
    Calls Tryz.prog 26 #[.pointer (some ⟨p, 0, none⟩)] w (NxR p s room w (Js.nx (strB s) room q)) := by
  have hN := fun w hE => next_any s (q : Int) w hsm (by omega) (by omega) hE
  simp only [nextJ_rest (strB s) q (by rw [strB_len]; exact hq)] at hN
  unfold Js.nx
  obtain ⟨⟨⟨tk, ta, te, ts, tn⟩, x, er⟩, hT⟩ : ∃ T, K.next (strB s) q = T := ⟨_, rfl⟩
  simp only [hT] at hN ⊢
  clear hT
  unfold tokV tokC at hN
  simp only at hN
  have hm0 := gat_alloc w tzero
  have hA0 := (Below.refl _ w).alloc (Nat.le_refl _) (.cells tzero 60)
  have hr0 := rj_below hr hA0
  have hE0 := err_below hE hA0
  have hs0 := World.size_alloc w (.cells tzero 60)
  obtain ⟨X, hX⟩ : ∃ X, (if er ≠ 0 then (.inl ((x : Int), er) : Js.Out (K.Tok × Nat)) else if room = 0 ∧ (tk = 1 ∨ tk = 3) then .inl (ta, 3) else .inr (⟨tk, ta, te, ts, tn⟩, x)) = X := ⟨_, rfl⟩
  have hcase : ((er != 0) = true ∧ X = .inl ((x : Int), er)) ∨ ((er != 0) = false ∧ ((room : Int) == 0) = true ∧ ((tk == 1) = true ∨ ((tk == 1) = false ∧ (tk == 3) = true)) ∧ X = .inl (ta, 3)) ∨
      ((er != 0) = false ∧ (((room : Int) == 0) = false ∨ (((room : Int) == 0) = true ∧ (tk == 1) = false ∧ (tk == 3) = false)) ∧ X = .inr (⟨tk, ta, te, ts, tn⟩, x)) := by
    rw [← hX]
    by_cases h1 : er = 0
    · rw [if_neg (by omega)]
      by_cases h2 : room = 0
      · by_cases h3 : tk = 1 ∨ tk = 3
        · rw [if_pos ⟨h2, h3⟩]
          refine .inr (.inl ⟨by simpa using h1, by simpa using h2, ?_, rfl⟩)
          rcases h3 with h | h
          · exact .inl (by simpa using h)
          · exact .inr ⟨by rw [h]; rfl, by simpa using h⟩
        · rw [if_neg (fun h => h3 h.2)]
          refine .inr (.inr ⟨by simpa using h1, .inr ⟨by simpa using h2, ?_, ?_⟩, rfl⟩)
          · simpa using fun e => h3 (.inl e)
          · simpa using fun e => h3 (.inr e)
      · rw [if_neg (fun h => h2 h.1)]
        exact .inr (.inr ⟨by simpa using h1, .inl (by simpa using h2), rfl⟩)
    · rw [if_pos h1]
      exact .inl ⟨by simpa using h1, rfl⟩
  show Calls _ _ _ _ (NxR p s room w (if er ≠ 0 then (.inl ((x : Int), er) : Js.Out (K.Tok × Nat)) else if room = 0 ∧ (tk = 1 ∨ tk = 3) then .inl (ta, 3) else .inr (⟨tk, ta, te, ts, tn⟩, x)))
  rw [hX]
  have HC := Lib.hid hcase
  clear hX hcase
  go_enter Tryz.func26, Tryz.ntmps26
  go_wp2
  obtain ⟨W1, hW1⟩ : ∃ W1, w.alloc (.cells tzero 60) = W1 := ⟨_, rfl⟩
  rw [hW1] at hA0 hm0 hr0 hE0 hs0 ⊢
  clear hW1
  have hA1 : w.heap.size ≠ W1.heap.size := by omega
  have hA3 : p ≠ W1.heap.size := by have := rj_lt hr0; omega
  clear hs0
  have hEd := err_below hE0 ((Below.refl _ W1).drew)
  have hE2 := err_below hE0 (((Below.refl _ W1).alloc (Nat.le_refl _) (.cells tzero 60)).drew)
  obtain ⟨⟨d0, d1, d2⟩, g1, g2⟩ := rj_cells (rj_below hr0 ((Below.refl _ W1).drew))
  obtain ⟨⟨d3, d4, d5⟩, g3, g4⟩ := rj_cells (rj_below hr0 (((Below.refl _ W1).alloc (Nat.le_refl _) (.cells tzero 60)).drew))
  have hNa := (hN _ hEd).mono (R' := fun e w1 => e = .returned (.tuple #[.agg #[.int .i64 tk, .int .i64 ta, .int .i64 te, .string (strOfNums ts), .int .i64 tn], .int .i64 (x : Int), .int .i64 er]) ∧ Below w.heap.size w w1 ∧ RJ w1 p s q room ∧ GAt w1 w.heap.size tzero) (fun e w1 h => ⟨h.1, nx_a hA0 hr0 hm0 h.2⟩)
  have hNb := (hN _ hE2).mono (R' := fun e w1 => e = .returned (.tuple #[.agg #[.int .i64 tk, .int .i64 ta, .int .i64 te, .string (strOfNums ts), .int .i64 tn], .int .i64 (x : Int), .int .i64 er]) ∧ Below w.heap.size w w1 ∧ RJ w1 p s q room ∧ GAt w1 w.heap.size tzero ∧ GAt w1 W1.heap.size tzero) (fun e w1 h => ⟨h.1, nx_b hA0 hr0 hm0 h.2⟩)
  clear hN hEd hE2
  go_region_with (go_at_call 37; first
    | ((with_reducible refine hNb.mono ?_); rintro e w1 ⟨rfl, hw1, hr1, hm1, hz3⟩; obtain ⟨⟨z0, z1, z2, z3, z4⟩, y0, y1, y2, y3, y4⟩ := box5 hz3)
    | ((with_reducible refine hNa.mono ?_); rintro e w1 ⟨rfl, hw1, hr1, hm1⟩))
  all_goals (first
    | (have hz4 := gat_set5 hz3 (.int .i64 tk) (.int .i64 ta) (.int .i64 te) (.string (strOfNums ts)) (.int .i64 tn)
       have hb4 := below_set5 hw1 hA0.size 0 1 2 3 4 (.int .i64 tk) (.int .i64 ta) (.int .i64 te) (.string (strOfNums ts)) (.int .i64 tn)
       have hm4 := gat_set5o hm1 hA1 (.int .i64 tk) (.int .i64 ta) (.int .i64 te) (.string (strOfNums ts)) (.int .i64 tn)
       have hr4 := rj_set5o hr1 hA3 (.int .i64 tk) (.int .i64 ta) (.int .i64 te) (.string (strOfNums ts)) (.int .i64 tn)
       have hp4 : p ≠ W1.heap.size := hA3
       clear z0 z1 z2 z3 z4 y0 y1 y2 y3 y4 hz3
       obtain ⟨W5, hW5⟩ : ∃ W5, ((((w1.setCell ⟨W1.heap.size, 0, none⟩ (.int .i64 tk)).setCell ⟨W1.heap.size, 1, none⟩ (.int .i64 ta)).setCell ⟨W1.heap.size, 2, none⟩ (.int .i64 te)).setCell ⟨W1.heap.size, 3, none⟩ (.string (strOfNums ts))).setCell ⟨W1.heap.size, 4, none⟩ (.int .i64 tn) = W5 := ⟨_, rfl⟩
       obtain ⟨b3, hb3⟩ : ∃ b3, W1.heap.size = b3 := ⟨_, rfl⟩
       rw [hW5] at hz4 hb4 hm4 hr4 ⊢
       rw [hb3] at hz4 hp4 ⊢)
    | (have hz4 := gat_alloc w1 #[.int .i64 tk, .int .i64 ta, .int .i64 te, .string (strOfNums ts), .int .i64 tn]
       have hb4 := hw1.alloc hw1.size (.cells #[.int .i64 tk, .int .i64 ta, .int .i64 te, .string (strOfNums ts), .int .i64 tn] 60)
       have hm4 := gat_old hm1 (.cells #[.int .i64 tk, .int .i64 ta, .int .i64 te, .string (strOfNums ts), .int .i64 tn] 60)
       have hr4 := rj_below hr1 ((Below.refl _ w1).alloc (Nat.le_refl _) (.cells #[.int .i64 tk, .int .i64 ta, .int .i64 te, .string (strOfNums ts), .int .i64 tn] 60))
       have hp4 : p ≠ w1.heap.size := by have := rj_lt hr1; omega
       obtain ⟨W5, hW5⟩ : ∃ W5, w1.alloc (.cells #[.int .i64 tk, .int .i64 ta, .int .i64 te, .string (strOfNums ts), .int .i64 tn] 60) = W5 := ⟨_, rfl⟩
       obtain ⟨b3, hb3⟩ : ∃ b3, w1.heap.size = b3 := ⟨_, rfl⟩
       rw [hW5] at hz4 hb4 hm4 hr4 ⊢
       rw [hb3] at hz4 hp4 ⊢))
  all_goals
    have hpm : p ≠ w.heap.size := by have := rj_lt hr; omega
    obtain ⟨⟨a0, a1, a2⟩, b1, b2⟩ := rj_cells hr4
    obtain ⟨⟨z0, z1, z2, z3, z4⟩, _⟩ := box5 hz4
    have hr6 := rj_at hr4 x
    have hz6 := gat_other hz4 (Ne.symm hp4) 1 (.int .i64 (x : Int))
    have hm6 := gat_other hm4 (Ne.symm hpm) 1 (.int .i64 (x : Int))
    obtain ⟨⟨k0, k1, k2, k3, k4⟩, _⟩ := box5 hz6
    obtain ⟨⟨m0, m1, m2, m3, m4⟩, n0, n1, n2, n3, n4⟩ := box5 hm6
    have hpW : w.grownBy W5 (some p) := grownJ_of_below hb4 (some p)
    clear hb4 hr1 hm1 hw1
    rcases HC.out with ⟨e1, rfl⟩ | ⟨e1, e2, e3, rfl⟩ | ⟨e1, e2, rfl⟩
    · go_wp2
      exact ⟨rfl, rfl, hpW⟩
    · rcases e3 with e3 | ⟨e3, e4⟩
      all_goals
        go_wp2
        exact ⟨rfl, rfl, hpW⟩
    · rcases e2 with e2 | ⟨e2, e3, e4⟩
      all_goals
        go_wp2
        refine bodyPost_ret (results_cell_row Tryz.results26 _ _ w.heap.size _ _ _ _ rfl (gat_set5 hm6 (.int .i64 tk) (.int .i64 ta) (.int .i64 te) (.string (strOfNums ts)) (.int .i64 tn)) Tryz.underlying60 rfl (by rw [token_info]; rfl)) rfl ?_
        exact ⟨rfl, rj_set5o hr6 hpm (.int .i64 tk) (.int .i64 ta) (.int .i64 te) (.string (strOfNums ts)) (.int .i64 tn), nx_end hpW (Nat.le_refl _) _ _ _ _ _ _⟩
end Go.Proofs.YtpiajoffddjjfaaGreatDoor
