/- Reading JSON: thing. -/
import Derived.Test.YtpiajoffddjjfaaGreatDoorJrObjq
import Derived.Defers
import Derived.Recover
set_option linter.unusedVariables false
namespace Go.Proofs.YtpiajoffddjjfaaGreatDoor
open Go.RowKit Go.Shelf
theorem thR_up {p : Nat} {s : ByteArray} {room : Nat} {W V w1 : World} {v : JV} {q : Nat} {k n : Int} {t : ByteArray} {na : Option Addr} {nl nc : Nat} {a : Option Addr} {len cap : Nat} (hV : Below W.heap.size W V) (hg2 : W.heap.size + 1 < V.heap.size) (hp : p < W.heap.size)
    (hf : FreshJ V.heap.size w1 v (.agg #[.int .i64 k, .int .i64 n, .string t, .slice na nl nc, .slice a len cap])) (hr : RJ w1 p s q room) (hg : V.grownBy w1 (some p)) (d0 d1 d2 d3 d4 : Value) :
    ThR p s room W (.inr (v, q)) (.returned (.agg #[.int .i64 k, .int .i64 n, .string t, .slice na nl nc, .slice a len cap])) (((((w1.setCell ⟨W.heap.size + 1, 0, none⟩ d0).setCell ⟨W.heap.size + 1, 1, none⟩ d1).setCell ⟨W.heap.size + 1, 2, none⟩ d2).setCell ⟨W.heap.size + 1, 3, none⟩ d3).setCell ⟨W.heap.size + 1, 4, none⟩ d4) := by
  have hs := hV.size
  have h5 := grownJ_set5 w1 (W.heap.size + 1) d0 d1 d2 d3 d4
  refine ⟨⟨_, _, _, _, _, _, _, _, _, rfl, freshJ_mono (freshJ_later hf h5.size (fun b b1 b2 _ => heapJ_set5 _ _ _ _ _ _ _ b (by omega))) hs⟩, rj_set5o hr (by omega) _ _ _ _ _, ?_⟩
  exact grownJ_then (grownJ_then (grownJ_of_below hV (some p)) hg (fun b e => .inr e)) h5 (fun b e => .inl (by cases e; omega))
theorem thing_at {W V w1 : World} {p : Nat} (h : JAt V (W.heap.size + 1) jzero) (hg : V.grownBy w1 (some p)) (hp : p < W.heap.size) : JAt w1 (W.heap.size + 1) jzero := (hg.block _ (jat_lt h) (fun e => by cases e; omega)).trans h
set_option maxRecDepth 100000 in
set_option maxHeartbeats 4000000 in
theorem thing_deep (s : ByteArray) (p r q : Nat) (t : K.Tok) (W : World) (X : Js.Out (JV × Nat)) (hr : RJ W p s q r) (hE : Err W)
    (hc : (t.kind = 1 ∧ ∀ V, RJ V p s q r → Err V → Calls Tryz.prog 34 #[.pointer (some ⟨p, 0, none⟩)] V (ThR p s r V X)) ∨ (t.kind = 3 ∧ ∀ V, RJ V p s q r → Err V → Calls Tryz.prog 35 #[.pointer (some ⟨p, 0, none⟩)] V (ThR p s r V X))) :
    Calls Tryz.prog 25 #[.pointer (some ⟨p, 0, none⟩), tokV t] W (ThR p s r W X) := by
  obtain ⟨tk, ta, te, ts, tn⟩ := t
  have hpW := rj_lt hr
  simp only [tokV, tokC] at hc ⊢
  have hA1 := (Below.refl _ W).alloc (Nat.le_refl _) (.cells #[.int .i64 tk, .int .i64 ta, .int .i64 te, .string (strOfNums ts), .int .i64 tn] 60)
  have hA2 := hA1.alloc hA1.size (.cells jzero 25)
  have hz1 : GAt ((W.alloc (.cells #[.int .i64 tk, .int .i64 ta, .int .i64 te, .string (strOfNums ts), .int .i64 tn] 60)).alloc (.cells jzero 25)) W.heap.size _ := gat_old (tok_cells tk ta te tn ts) _
  have hz2 : JAt ((W.alloc (.cells #[.int .i64 tk, .int .i64 ta, .int .i64 te, .string (strOfNums ts), .int .i64 tn] 60)).alloc (.cells jzero 25)) (W.heap.size + 1) jzero := by
    have := jat_alloc (W.alloc (.cells #[.int .i64 tk, .int .i64 ta, .int .i64 te, .string (strOfNums ts), .int .i64 tn] 60)) jzero
    rwa [World.size_alloc] at this
  obtain ⟨⟨t0, t1, t2, t3, t4⟩, _⟩ := box5 hz1
  have hs2 : W.heap.size + 1 < ((W.alloc (.cells #[.int .i64 tk, .int .i64 ta, .int .i64 te, .string (strOfNums ts), .int .i64 tn] 60)).alloc (.cells jzero 25)).heap.size := jat_lt hz2
  rcases hc with ⟨hk, hL⟩ | ⟨hk, hL⟩
  · have hL := hL _ (rj_below hr hA2) (err_below hE hA2)
    subst hk
    cases X with
    | inl ae =>
      obtain ⟨ea, er⟩ := ae
      go_enter Tryz.func25, Tryz.ntmps25
      go_wp2_with (go_at_call 34; (with_reducible refine hL.mono ?_); rintro e w1 ⟨rfl, hg⟩)
      exact ⟨rfl, rfl, grownJ_then (grownJ_of_below hA2 (some p)) hg (fun b e => .inr e)⟩
    | inr vq =>
      obtain ⟨v, q'⟩ := vq
      go_enter Tryz.func25, Tryz.ntmps25
      go_wp2_with (go_at_call 34; (with_reducible refine hL.mono ?_); rintro e w1 ⟨⟨k, n, t, na, nl, nc, a, len, cap, rfl, hf⟩, hr1, hg⟩; have hz3 := thing_at hz2 hg hpW; obtain ⟨⟨y0, y1, y2, y3, y4⟩, z0, z1, z2, z3, z4⟩ := jbox5 hz3)
      exact bodyPost_ret (results_cell_row Tryz.results25 _ _ (W.heap.size + 1) _ _ _ _ rfl (jat_set5 hz3 _ _ _ _ _) Tryz.underlying25 rfl json_info) rfl (thR_up hA2 hs2 hpW hf hr1 hg _ _ _ _ _)
  · have hL := hL _ (rj_below hr hA2) (err_below hE hA2)
    subst hk
    cases X with
    | inl ae =>
      obtain ⟨ea, er⟩ := ae
      go_enter Tryz.func25, Tryz.ntmps25
      go_wp2_with (go_at_call 35; (with_reducible refine hL.mono ?_); rintro e w1 ⟨rfl, hg⟩)
      exact ⟨rfl, rfl, grownJ_then (grownJ_of_below hA2 (some p)) hg (fun b e => .inr e)⟩
    | inr vq =>
      obtain ⟨v, q'⟩ := vq
      go_enter Tryz.func25, Tryz.ntmps25
      go_wp2_with (go_at_call 35; (with_reducible refine hL.mono ?_); rintro e w1 ⟨⟨k, n, t, na, nl, nc, a, len, cap, rfl, hf⟩, hr1, hg⟩; have hz3 := thing_at hz2 hg hpW; obtain ⟨⟨y0, y1, y2, y3, y4⟩, z0, z1, z2, z3, z4⟩ := jbox5 hz3)
      exact bodyPost_ret (results_cell_row Tryz.results25 _ _ (W.heap.size + 1) _ _ _ _ rfl (jat_set5 hz3 _ _ _ _ _) Tryz.underlying25 rfl json_info) rfl (thR_up hA2 hs2 hpW hf hr1 hg _ _ _ _ _)
theorem freshJ_leaf (E : Nat) (w : World) (k n : Int) (s : ByteArray) (hk : J64 k) (hn : J64 n) (hs : s.size ≤ maxLen) : FreshJ E w (.mk k n s [] []) (.agg #[.int .i64 k, .int .i64 n, .string s, .slice none 0 0, .slice none 0 0]) := fun W' _ => isJ_leaf W' k n s hk hn hs
set_option maxRecDepth 100000 in
set_option maxHeartbeats 4000000 in
theorem thing_leaf (s : ByteArray) (p r q : Nat) (t : K.Tok) (W : World) (hr : RJ W p s q r) (h0 : Js.leaf2 t q ≠ .inl (0, 0)) :
    Calls Tryz.prog 25 #[.pointer (some ⟨p, 0, none⟩), tokV t] W (ThR p s r W (Js.leaf2 t q)) := by
  have hpW := rj_lt hr
  unfold Js.leaf2 at h0 ⊢
  by_cases hok : Js.okT t = true
  rotate_left
  · rw [if_neg hok] at h0; exact absurd rfl h0
  rw [if_pos hok] at h0 ⊢
  obtain ⟨hJ, hb, hsz⟩ := okT_str hok
  clear hok
  obtain ⟨tk, ta, te, ts, tn⟩ := t
  simp only [tokV, tokC] at h0 hJ hb hsz ⊢
  have hA1 := (Below.refl _ W).alloc (Nat.le_refl _) (.cells #[.int .i64 tk, .int .i64 ta, .int .i64 te, .string (strOfNums ts), .int .i64 tn] 60)
  have hz1 := tok_cells (W := W) tk ta te tn ts
  obtain ⟨⟨t0, t1, t2, t3, t4⟩, _⟩ := box5 hz1
  have hz1' := gat_old hz1 (.cells jzero 25)
  obtain ⟨⟨b0, b1, b2, b3, b4⟩, _⟩ := box5 hz1'
  have hA2 := hA1.alloc hA1.size (.cells jzero 25)
  have hz2 : JAt ((W.alloc (.cells #[.int .i64 tk, .int .i64 ta, .int .i64 te, .string (strOfNums ts), .int .i64 tn] 60)).alloc (.cells jzero 25)) (W.heap.size + 1) jzero := by
    have := jat_alloc (W.alloc (.cells #[.int .i64 tk, .int .i64 ta, .int .i64 te, .string (strOfNums ts), .int .i64 tn] 60)) jzero
    rwa [World.size_alloc] at this
  have hsa : (W.alloc (.cells #[.int .i64 tk, .int .i64 ta, .int .i64 te, .string (strOfNums ts), .int .i64 tn] 60)).heap.size = W.heap.size + 1 := World.size_alloc _ _
  have hja : ∀ cs, JAt ((W.alloc (.cells #[.int .i64 tk, .int .i64 ta, .int .i64 te, .string (strOfNums ts), .int .i64 tn] 60)).alloc (.cells cs 25)) (W.heap.size + 1) cs := fun cs => by rw [← hsa]; exact jat_alloc _ _
  have hall := fun cs => hA1.alloc hA1.size (.cells cs 25)
  have fin : ∀ (k n : Int) (x : ByteArray), J64 k → J64 n → x.size ≤ maxLen → ThR p s r W (.inr (.mk k n x [] [], q)) (.returned (.agg #[.int .i64 k, .int .i64 n, .string x, .slice none 0 0, .slice none 0 0])) ((W.alloc (.cells #[.int .i64 tk, .int .i64 ta, .int .i64 te, .string (strOfNums ts), .int .i64 tn] 60)).alloc (.cells #[.int .i64 k, .int .i64 n, .string x, .slice none 0 0, .slice none 0 0] 25)) := fun k n x hk hn hx =>
    ⟨⟨_, _, _, _, _, _, _, _, _, rfl, freshJ_leaf _ _ k n x hk hn hx⟩, rj_below hr (hall _), grownJ_of_below (hall _) _⟩
  have i4 : J64 4 := by unfold J64; omega
  have i2 : J64 2 := by unfold J64; omega
  have i0 : J64 0 := by unfold J64; omega
  by_cases h7 : tk = 7
  · subst h7
    rw [if_pos rfl]
    go_enter Tryz.func25, Tryz.ntmps25
    go_wp2
    exact bodyPost_ret (results_cell_row Tryz.results25 _ _ (W.heap.size + 1) _ _ _ _ rfl (hja _) Tryz.underlying25 rfl json_info) rfl (fin 4 0 _ i4 i0 (by unfold maxLen; omega))
  rw [if_neg h7] at h0 ⊢
  by_cases h8 : tk = 8
  · subst h8
    rw [if_pos rfl]
    go_enter Tryz.func25, Tryz.ntmps25
    go_wp2
    exact bodyPost_ret (results_cell_row Tryz.results25 _ _ (W.heap.size + 1) _ _ _ _ rfl (hja _) Tryz.underlying25 rfl json_info) rfl (fin 2 tn _ i2 hJ (Nat.zero_le _))
  rw [if_neg h8] at h0 ⊢
  by_cases h9 : tk = 9
  · subst h9
    rw [if_pos rfl]
    have hw := word_any ts hb ((W.alloc (.cells #[.int .i64 9, .int .i64 ta, .int .i64 te, .string (strOfNums ts), .int .i64 tn] 60)).alloc (.cells jzero 25))
    obtain ⟨k, n, hwj, hk, hn⟩ : ∃ k n, Js.wordJ ts = .mk k n ⟨#[]⟩ [] [] ∧ J64 k ∧ J64 n := by
      unfold Js.wordJ
      split
      · exact ⟨_, _, rfl, by unfold J64; omega, by unfold J64; omega⟩
      · split
        · exact ⟨_, _, rfl, by unfold J64; omega, by unfold J64; omega⟩
        · exact ⟨_, _, rfl, by unfold J64; omega, by unfold J64; omega⟩
    rw [hwj] at hw ⊢
    unfold leafV at hw
    simp only at hw
    go_enter Tryz.func25, Tryz.ntmps25
    go_wp2_with (go_at_call 36; (with_reducible refine hw.mono ?_); rintro e w1 ⟨rfl, hB1⟩; have hz3 := jat_below hB1 hz2; obtain ⟨⟨y0, y1, y2, y3, y4⟩, z0, z1, z2, z3, z4⟩ := jbox5 hz3)
    refine bodyPost_ret (results_cell_row Tryz.results25 _ _ (W.heap.size + 1) _ _ _ _ rfl (jat_set5 hz3 _ _ _ _ _) Tryz.underlying25 rfl json_info) rfl ?_
    exact thR_up hA2 (jat_lt hz2) hpW (freshJ_leaf _ _ k n _ hk hn (Nat.zero_le _)) (rj_below (rj_below hr hA2) hB1) (grownJ_of_below hB1 _) _ _ _ _ _
  rw [if_neg h9] at h0
  exact absurd rfl h0
/-- thing, as far as is said -/
theorem thing_all (s : ByteArray) (p : Nat) (hsm : s.size ≤ 100000) (hpl : ∀ q, q ≤ s.size → (K.next (strB s) q).2.1 ≤ s.size) (hpe : p ≠ 1) : ∀ r, r ≤ 1000 → ThC s p r := by
  intro r
  induction r with
  | zero =>
    intro _ t q W hq hr hE h0
    unfold Js.thing2 at h0 ⊢
    by_cases h : t.kind = 1 ∨ t.kind = 3
    · rw [if_pos h] at h0; exact absurd rfl h0
    · rw [if_neg h] at h0 ⊢
      exact thing_leaf s p 0 q t W hr h0
  | succ r ih =>
    intro hr1 t q W hq hr hE h0
    have ih := ih (by omega)
    unfold Js.thing2 at h0 ⊢
    by_cases h1 : t.kind = 1
    · rw [if_pos h1] at h0 ⊢
      refine thing_deep s p (r + 1) q t W _ hr hE (.inl ⟨h1, fun V hrV hEV => list_ok s p r hsm hpl (by omega) hpe ih q V hq hrV hEV _ rfl ?_⟩)
      intro e; rw [e] at h0; exact h0 rfl
    · rw [if_neg h1] at h0 ⊢
      by_cases h3 : t.kind = 3
      · rw [if_pos h3] at h0 ⊢
        refine thing_deep s p (r + 1) q t W _ hr hE (.inr ⟨h3, fun V hrV hEV => object_ok s p r hsm hpl (by omega) hpe ih q V hq hrV hEV _ rfl ?_⟩)
        intro e; rw [e] at h0; exact h0 rfl
      · rw [if_neg h3] at h0 ⊢
        exact thing_leaf s p (r + 1) q t W hr h0
end Go.Proofs.YtpiajoffddjjfaaGreatDoor

/- Reading JSON: whole$1 (recovers). -/
set_option linter.unusedVariables false
namespace Go.Proofs.YtpiajoffddjjfaaGreatDoor
open Go.RowKit Go.Shelf
set_option maxRecDepth 100000 in
set_option maxHeartbeats 4000000 in
theorem whole1_idle (p1 p2 p3 : Addr) (w : World) :
    CallsD Tryz.prog 24 #[.pointer (some p1), .pointer (some p2), .pointer (some p3)] .returning w fun e u' w' => (∃ v, e = .returned v) ∧ u' = .returning ∧ w' = w := by
  refine callsD_of_wpS Tryz.func24 rfl fun c₀ cs hu => ?_
  apply wpS_seq
  apply wpS_region
  simp [wpOpsS, go_sem, recoverD, hu, Tryz.ntmps24, Exit.thenS]
  refine wpS_of_wp ?_
  go_wp2
  cases c₀
  simp_all [bodyPostS, results, Tryz.results24]
theorem whole1_fin {b1 b2 b3 : Nat} {x er : Int} {w W1 V : World} {c0 c1 c2 c3 c4 : Value} (h1 : JAt w b1 #[c0, c1, c2, c3, c4]) (h2 : Boxed w b2 3 (.int .i64 0)) (h3 : Boxed w b3 32 (.int .i64 0)) (h12 : b1 ≠ b2) (h13 : b1 ≠ b3) (h23 : b2 ≠ b3) (hB1 : Below w.heap.size w W1)
    (hV : V = (((((((W1.setCell ⟨b1, 0, none⟩ (.int .i64 0)).setCell ⟨b1, 1, none⟩ (.int .i64 0)).setCell ⟨b1, 2, none⟩ (.string ⟨#[]⟩)).setCell ⟨b1, 3, none⟩ (.slice none 0 0)).setCell ⟨b1, 4, none⟩ (.slice none 0 0)).setCell ⟨b2, 0, none⟩ (.int .i64 x)).setCell ⟨b3, 0, none⟩ (.int .i64 er)).drew) :
    (∃ v, Ending.returned (.tuple #[]) = .returned v) ∧ FrameMode.panicking [{ v := .iface 57 (.agg #[.int .i64 x, .int .i64 er]), recovered := true }] = .panicking [{ v := .iface 57 (.agg #[.int .i64 x, .int .i64 er]), recovered := true }] ∧
      JAt V b1 jzero ∧ Boxed V b2 3 (.int .i64 x) ∧ Boxed V b3 32 (.int .i64 er) ∧ (∀ B, B ≤ b1 → B ≤ b2 → B ≤ b3 → B ≤ w.heap.size → Below B w V) := by
  have k1 := heapJ_set5 W1 b1 (.int .i64 0) (.int .i64 0) (.string ⟨#[]⟩) (.slice none 0 0) (.slice none 0 0)
  have z1 := jat_set5 (jat_below hB1 h1) (.int .i64 0) (.int .i64 0) (.string ⟨#[]⟩) (.slice none 0 0) (.slice none 0 0)
  have hb9 : ∀ B, B ≤ b1 → B ≤ b2 → B ≤ b3 → B ≤ w.heap.size → Below B w V := fun B q1 q2 q3 q4 => by
    rw [hV]
    exact (((jbelow_set5 (hB1.mono q4) q1 0 1 2 3 4 (.int .i64 0) (.int .i64 0) (.string ⟨#[]⟩) (.slice none 0 0) (.slice none 0 0)).setCell (p := ⟨b2, 0, none⟩) q2 (.int .i64 x)).setCell (p := ⟨b3, 0, none⟩) q3 (.int .i64 er)).drew
  obtain ⟨A, hA⟩ : ∃ A, ((((W1.setCell ⟨b1, 0, none⟩ (.int .i64 0)).setCell ⟨b1, 1, none⟩ (.int .i64 0)).setCell ⟨b1, 2, none⟩ (.string ⟨#[]⟩)).setCell ⟨b1, 3, none⟩ (.slice none 0 0)).setCell ⟨b1, 4, none⟩ (.slice none 0 0) = A := ⟨_, rfl⟩
  rw [hA] at k1 z1 hV
  have h2' : Boxed A b2 _ _ := (k1 b2 (fun e => h12 e.symm)).trans ((hB1.block _ h2.lt).trans h2)
  have h3' : Boxed A b3 _ _ := (k1 b3 (fun e => h13 e.symm)).trans ((hB1.block _ h3.lt).trans h3)
  have e : V.heap = ((A.setCell ⟨b2, 0, none⟩ (.int .i64 x)).setCell ⟨b3, 0, none⟩ (.int .i64 er)).heap := by rw [hV]; rfl
  have y1 := jat_other (jat_other z1 h12 0 (.int .i64 x)) h13 0 (.int .i64 er)
  have y2 : Boxed ((A.setCell ⟨b2, 0, none⟩ (.int .i64 x)).setCell ⟨b3, 0, none⟩ (.int .i64 er)) b2 3 (.int .i64 x) := (heap_set9 _ _ _ _ b2 h23).trans (Boxed.set (.int .i64 x) h2')
  have y3 : Boxed ((A.setCell ⟨b2, 0, none⟩ (.int .i64 x)).setCell ⟨b3, 0, none⟩ (.int .i64 er)) b3 32 (.int .i64 er) := Boxed.set (.int .i64 er) (show Boxed (A.setCell ⟨b2, 0, none⟩ (.int .i64 x)) b3 _ _ from (heap_set9 _ _ _ _ b3 (fun e => h23 e.symm)).trans h3')
  unfold JAt at y1 ⊢
  unfold Boxed at y2 y3 ⊢
  rw [e]
  exact ⟨⟨_, rfl⟩, rfl, y1, y2, y3, fun B q1 q2 q3 q4 => hb9 B q1 q2 q3 q4⟩
theorem whole1_end {c₀ : Frame} {cs : List Frame} {R : Ending → FrameMode → World → Prop} {u' : FrameMode} {tmps : Array Value} {F W : World} (h : R (.returned (.tuple #[])) u' F) (hF : W = F) :
    Exit.inBlock 0 (fun e a' w' => bodyPostS Tryz.prog Tryz.f24 c₀ cs R e a' ({ c₀ with mode := u' } :: cs) w') Exit.normal { tmps := tmps, defers := [] } W :=
  hF ▸ ⟨rfl, u', rfl, _, results_none rfl _ _ _, h⟩
set_option maxRecDepth 100000 in
set_option maxHeartbeats 4000000 in
theorem whole1_wrong (b1 b2 b3 : Nat) (x er : Int) (w : World) (c0 c1 c2 c3 c4 : Value) (h1 : JAt w b1 #[c0, c1, c2, c3, c4]) (h2 : Boxed w b2 3 (.int .i64 0)) (h3 : Boxed w b3 32 (.int .i64 0)) (h12 : b1 ≠ b2) (h13 : b1 ≠ b3) (h23 : b2 ≠ b3) :
    CallsD Tryz.prog 24 #[.pointer (some ⟨b1, 0, none⟩), .pointer (some ⟨b2, 0, none⟩), .pointer (some ⟨b3, 0, none⟩)] (.panicking (wrongJ x er)) w fun e u' w' => (∃ v, e = .returned v) ∧ u' = .panicking [{ v := .iface 57 (.agg #[.int .i64 x, .int .i64 er]), recovered := true }] ∧
      JAt w' b1 jzero ∧ Boxed w' b2 3 (.int .i64 x) ∧ Boxed w' b3 32 (.int .i64 er) ∧ (∀ B, B ≤ b1 → B ≤ b2 → B ≤ b3 → B ≤ w.heap.size → Below B w w') := by
  have hta : ∀ (v : Value) (w : World), (Instr.typeAssert (.iface 57 v) 20 57 true).run Tryz.prog w = .ok (.tuple #[v, .bool true]) w := fun v w => by kernel_rfl
  unfold wrongJ
  refine callsD_of_wpS Tryz.func24 rfl fun c₀ cs hu => ?_
  apply wpS_seq
  apply wpS_region
  simp [wpOpsS, go_sem, recoverD, hu, Tryz.ntmps24, Exit.thenS]
  refine wpS_of_wp ?_
  have hfr : (#[Value.pointer (some ⟨b1, 0, none⟩), .pointer (some ⟨b2, 0, none⟩), .pointer (some ⟨b3, 0, none⟩)] ++ (Array.replicate 14 undef).setIfInBounds 3 (Value.iface 57 (.agg #[.int .i64 x, .int .i64 er]))) =
    #[.pointer (some ⟨b1, 0, none⟩), .pointer (some ⟨b2, 0, none⟩), .pointer (some ⟨b3, 0, none⟩), undef, undef, undef, .iface 57 (.agg #[.int .i64 x, .int .i64 er]), undef, undef, undef, undef, undef, undef, undef, undef, undef, undef] := rfl
  rw [hfr]
  go_wp2
  obtain ⟨W1, hW1⟩ : ∃ W1, w.alloc (.cells #[.int .i64 x, .int .i64 er] 57) = W1 := ⟨_, rfl⟩
  have hB1 := (Below.refl _ w).alloc (Nat.le_refl _) (.cells #[.int .i64 x, .int .i64 er] 57)
  have e0 : W1.cell? ⟨w.heap.size, 0, none⟩ = some (.int .i64 x) := by rw [← hW1]; simp
  have e1 : W1.cell? ⟨w.heap.size, 1, none⟩ = some (.int .i64 er) := by rw [← hW1]; simp
  rw [hW1] at hB1 ⊢
  clear hW1
  obtain ⟨⟨t0, t1, t2, t3, t4⟩, f0, f1, f2, f3, f4⟩ := jbox5 (jat_below hB1 h1)
  have h2' : Boxed W1 b2 _ _ := (hB1.block _ h2.lt).trans h2
  have h3' : Boxed W1 b3 _ _ := (hB1.block _ h3.lt).trans h3
  have u0 := h2'.cell
  have u1 := h2'.frozen
  have v0 := h3'.cell
  have v1 := h3'.frozen
  have n1 : w.heap.size ≠ b1 := by have := jat_lt h1; omega
  have n2 : w.heap.size ≠ b2 := by have := h2.lt; omega
  have n3 : w.heap.size ≠ b3 := by have := h3.lt; omega
  obtain ⟨b4, hb4⟩ : ∃ b4, w.heap.size = b4 := ⟨_, rfl⟩
  rw [hb4] at e0 e1 n1 n2 n3 ⊢
  go_region
  refine whole1_end (c₀ := c₀) (whole1_fin h1 h2 h3 h12 h13 h23 hB1 rfl) rfl
end Go.Proofs.YtpiajoffddjjfaaGreatDoor
