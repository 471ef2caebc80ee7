/- Reading JSON: a List's part, the walk. (Made by gen_jrl1.py.) -/
import Derived.Test.YtpiajoffddjjfaaGreatDoorJrL1q
import Derived.Deep.RegionHeldLaw
set_option linter.unusedVariables false
set_option linter.unusedSimpArgs false
namespace Go.Proofs.YtpiajoffddjjfaaGreatDoor
open Go.RowKit Go.Shelf
theorem cell_kept9 {W W' : World} {row : Option Nat} {b i : Nat} {v : Value} (h : W.cell? ⟨b, i, none⟩ = some v) (hg : W.grownBy W' row) (hne : some b ≠ row) : W'.cell? ⟨b, i, none⟩ = some v := by
  have hlt : b < W.heap.size := by
    simp only [World.cell?] at h
    rcases Nat.lt_or_ge b W.heap.size with h' | h'
    · exact h'
    · rw [Array.getElem?_eq_none h'] at h; cases h
  rw [← h]
  simp only [World.cell?, hg.block b hlt hne]
theorem l1s_kept {W W' : World} {row : Option Nat} {rb b1 p : Nat} {tk ta te tn : Int} {ts : List Int} (h : (W.cell? ⟨rb, 0, none⟩ = some (.pointer (some ⟨p, 0, none⟩)) ∧ ((W.cell? ⟨b1, 0, none⟩ = some (.int .i64 tk) ∧ W.cell? ⟨b1, 1, none⟩ = some (.int .i64 ta)) ∧ ((W.cell? ⟨b1, 2, none⟩ = some (.int .i64 te) ∧ W.cell? ⟨b1, 3, none⟩ = some (.string (strOfNums ts))) ∧ W.cell? ⟨b1, 4, none⟩ = some (.int .i64 tn))))) (hg : W.grownBy W' row) (h1 : some rb ≠ row) (h2 : some b1 ≠ row) :
    (W'.cell? ⟨rb, 0, none⟩ = some (.pointer (some ⟨p, 0, none⟩)) ∧ ((W'.cell? ⟨b1, 0, none⟩ = some (.int .i64 tk) ∧ W'.cell? ⟨b1, 1, none⟩ = some (.int .i64 ta)) ∧ ((W'.cell? ⟨b1, 2, none⟩ = some (.int .i64 te) ∧ W'.cell? ⟨b1, 3, none⟩ = some (.string (strOfNums ts))) ∧ W'.cell? ⟨b1, 4, none⟩ = some (.int .i64 tn)))) := by
  obtain ⟨q0, ⟨q1, q2⟩, ⟨q3, q4⟩, q5⟩ := h
  exact ⟨cell_kept9 q0 hg h1, ⟨cell_kept9 q1 hg h2, cell_kept9 q2 hg h2⟩, ⟨cell_kept9 q3 hg h2, cell_kept9 q4 hg h2⟩, cell_kept9 q5 hg h2⟩
theorem grown_sets9 (W : World) (g m : Nat) (k n : Int) (t : ByteArray) (na : Option Addr) (nl nc : Nat) (a' : Option Addr) (len cap : Nat) : W.grownBy (((((W.setCell ⟨g, m * 5, none⟩ (.int .i64 k)).setCell ⟨g, m * 5 + 1, none⟩ (.int .i64 n)).setCell ⟨g, m * 5 + 2, none⟩ (.string t)).setCell ⟨g, m * 5 + 3, none⟩ (.slice na nl nc)).setCell ⟨g, m * 5 + 4, none⟩ (.slice a' len cap)) (some g) :=
  grownJ_two (grownJ_two (grownJ_two (grownJ_two (grownJ_set W g _ _) (grownJ_set _ g _ _)) (grownJ_set _ g _ _)) (grownJ_set _ g _ _)) (grownJ_set _ g _ _)
theorem gat_own_ne {V : World} {b1 B n m : Nat} {cs : Array Value} {u : Value} {xs : List Value} (hz : GAt V b1 cs) (hown : V.ownsRow B 25 5 u m xs) : some b1 ≠ u.ownBlock := by
  intro e
  obtain ⟨_, _, cs', hc⟩ := own_blkJ hown b1 e.symm
  have h : V.heap[b1]? = some (.cells cs 60 (0, 0)) := hz
  rw [h] at hc
  injection hc with hc
  injection hc with _ hc _
  exact absurd hc (by decide)
set_option maxRecDepth 100000 in
set_option maxHeartbeats 8000000 in
theorem list1_ok (s : ByteArray) (room : Nat) (B p rb bx : Nat) (t : K.Tok) (q : Nat) (acc : List JV) (w0 W : World) (vq : JV × Nat)
    (hth : ∀ W', Below W.heap.size W W' → Calls Tryz.prog 25 #[.pointer (some ⟨p, 0, none⟩), tokV t] W' (ThR p s room W' (.inr vq)))
    (h : LStt B p rb bx acc W) (hr : RJ W p s q room) (hp : p < rb) (hrb : rb < B) (hbx : bx < B) (hpx : p ≠ bx) (hrx : rb ≠ bx) (hBW : B ≤ W.heap.size) (hxb : w0.heap.size ≤ bx) (hG : w0.grownBy W (some p)) (hlen : acc.length ≤ 1000000) :
    Calls Tryz.prog 44 #[tokV t, .pointer (some ⟨bx, 0, none⟩), .pointer (some ⟨rb, 0, none⟩)] W fun e w' => PaR (LStt B p rb bx) p s room w0 (.inr (acc ++ [vq.1], vq.2)) e w' ∧ KeepT W w' := by
  obtain ⟨i0, hi, hi0, hi1, hi2⟩ := info_parts info_json
  obtain ⟨tk, ta, te, ts, tn⟩ := t
  unfold tokV tokC at hth ⊢
  simp only at hth ⊢
  obtain ⟨hbr, a, c, cs, hx, hown, hel⟩ := h
  obtain ⟨v, q'⟩ := vq
  have hX : True := trivial
  · skip
    have hA1 := (Below.refl _ W).alloc (Nat.le_refl _) (.cells #[.int .i64 tk, .int .i64 ta, .int .i64 te, .string (strOfNums ts), .int .i64 tn] 60)
    have hz1 := tok_cells (W := W) tk ta te tn ts
    have hx1 := jat_below hA1 hx
    have hb1 := (hA1.block _ hbr.lt).trans hbr
    go_enter Tryz.func44, Tryz.ntmps44
    go_wp2
    obtain ⟨W1, hW1⟩ : ∃ W1, W.alloc (.cells #[.int .i64 tk, .int .i64 ta, .int .i64 te, .string (strOfNums ts), .int .i64 tn] 60) = W1 := ⟨_, rfl⟩
    rw [hW1] at hA1 hz1 hx1 hb1 ⊢
    have hown1 : W1.ownsRow B 25 5 (.slice a acc.length c) acc.length cs := by rw [← hW1]; exact hown.alloc _
    have hr1 := rj_below hr hA1
    clear hW1
    have hBz := (Below.refl W1.heap.size W1).alloc (Nat.le_refl _) (.cells #[.int .i64 0, .int .i64 0, .string ⟨#[]⟩, .slice none 0 0, .slice none 0 0] 25)
    have hpB : p < B := by omega
    have hs1 := hA1.size
    have hA := (hth W1.drew (hA1.drew)).mono (R' := L1A s room B p rb bx a c acc cs v q' w0 W1) (fun e w4 h => l1_of (Below.refl _ W1).drew hx1 hown1 hb1 hpx (by omega) hpB h)
    have hB := (hth (W1.alloc (.cells #[.int .i64 0, .int .i64 0, .string ⟨#[]⟩, .slice none 0 0, .slice none 0 0] 25)).drew ((hA1.trans (hBz.mono hA1.size)).drew)).mono (R' := fun e w4 => L1A s room B p rb bx a c acc cs v q' w0 W1 e w4 ∧ JAt w4 W1.heap.size #[.int .i64 0, .int .i64 0, .string ⟨#[]⟩, .slice none 0 0, .slice none 0 0]) (fun e w4 h => ⟨l1_of hBz.drew hx1 hown1 hb1 hpx (by omega) hpB h, by
      obtain ⟨_, _, h4⟩ := h
      exact (h4.block _ (by simp) (fun e => by cases e; omega)).trans (jat_alloc_drew W1 _)⟩)
    obtain ⟨⟨p0, p1, p2, p3, p4⟩, _⟩ := jbox5 hx1
    obtain ⟨⟨q0, q1, q2, q3, q4⟩, _⟩ := jbox5 (jat_below hBz hx1)
    have hb1' : Boxed W1 rb 45 (.pointer (some ⟨p, 0, none⟩)) := hb1
    have hb2' : Boxed (W1.alloc (.cells #[.int .i64 0, .int .i64 0, .string ⟨#[]⟩, .slice none 0 0, .slice none 0 0] 25)) rb 45 (.pointer (some ⟨p, 0, none⟩)) := hb1'.alloc _
    have r0 := hb1'.cell
    have r1 := hb2'.cell
    obtain ⟨⟨t0, t1, t2, t3, t4⟩, _⟩ := box5 hz1
    obtain ⟨⟨u0, u1, u2, u3, u4⟩, _⟩ := box5 (gat_below hBz hz1)
    have hbig : (acc.length : Int) < (acc.length : Int) + 1 := by omega
    have hel1 : JEl B W1 (.slice a acc.length c) acc cs := jel_keep hel hs1 (fun b _ b2 _ => hA1.block b b2)
    have hG1 : w0.grownBy W1 (some p) := grownJ_then hG (grownJ_of_below hA1 none) (fun b e => by cases e)
    clear hth
    obtain ⟨b1, hb1e⟩ : ∃ b1, W.heap.size = b1 := ⟨_, rfl⟩
    rw [hb1e] at hz1 ⊢
    have hne1 : some rb ≠ some p := fun e => by cases e; omega
    have hne2 : some b1 ≠ some p := fun e => by cases e; omega
    have hS1 : (W1.cell? ⟨rb, 0, none⟩ = some (.pointer (some ⟨p, 0, none⟩)) ∧ ((W1.cell? ⟨b1, 0, none⟩ = some (.int .i64 tk) ∧ W1.cell? ⟨b1, 1, none⟩ = some (.int .i64 ta)) ∧ ((W1.cell? ⟨b1, 2, none⟩ = some (.int .i64 te) ∧ W1.cell? ⟨b1, 3, none⟩ = some (.string (strOfNums ts))) ∧ W1.cell? ⟨b1, 4, none⟩ = some (.int .i64 tn)))) := by
      rw [hb1e] at t0 t1 t2 t3 t4
      exact ⟨r0, ⟨t0, t1⟩, ⟨t2, t3⟩, t4⟩
    have hbb : bx < b1 := by omega
    refine wp_region_held_drew (S := fun W => (W.cell? ⟨rb, 0, none⟩ = some (.pointer (some ⟨p, 0, none⟩)) ∧ ((W.cell? ⟨b1, 0, none⟩ = some (.int .i64 tk) ∧ W.cell? ⟨b1, 1, none⟩ = some (.int .i64 ta)) ∧ ((W.cell? ⟨b1, 2, none⟩ = some (.int .i64 te) ∧ W.cell? ⟨b1, 3, none⟩ = some (.string (strOfNums ts))) ∧ W.cell? ⟨b1, 4, none⟩ = some (.int .i64 tn))))) (by kernel_rfl) hS1 (fun hHeld => ?_)
    refine wpAnyH_take (i := 0) (v := ?_) rfl (by kernel_rfl) (by kernel_rfl) (by kernel_rfl) (fun _ _ _ h => h) (Or.inl ⟨by rfl, ?_⟩) (by assumption) ?_
    rotate_left
    · intro w hSw; go_simp; (try with_reducible rfl)
    (try simp only [Act.put, List.setIfInBounds_toArray, List.set_cons_zero, List.set_cons_succ])
    refine wpAnyH_take (i := 2) (v := ?_) rfl (by kernel_rfl) (by kernel_rfl) (by kernel_rfl) (fun _ _ _ h => h) (Or.inl ⟨by rfl, ?_⟩) (by assumption) ?_
    rotate_left
    · intro w hSw; go_simp; (try with_reducible rfl)
    (try simp only [Act.put, List.setIfInBounds_toArray, List.set_cons_zero, List.set_cons_succ])
    refine wpAnyH_take (i := 3) (v := ?_) rfl (by kernel_rfl) (by kernel_rfl) (by kernel_rfl) (fun _ _ _ h => h) (Or.inl ⟨by rfl, ?_⟩) (by assumption) ?_
    rotate_left
    · intro w hSw; go_simp; (try with_reducible rfl)
    (try simp only [Act.put, List.setIfInBounds_toArray, List.set_cons_zero, List.set_cons_succ])
    refine wpAnyH_ready (rs := [1, 4, 6]) (by kernel_rfl) (by simp) (AllReadyH.cons rfl (fun K hK => ?_) (AllReadyH.cons rfl (fun K hK => ?_) (AllReadyH.cons rfl (fun K hK => ?_) AllReadyH.nil)))
    · go_simp
      refine hK.out _ _ (hHeld) (fun hHeld => ?_)
      clear hK K
      refine wpAnyH_take (i := 5) (v := ?_) rfl (by kernel_rfl) (by kernel_rfl) (by kernel_rfl) (fun _ _ _ h => h) (Or.inl ⟨by rfl, ?_⟩) (by assumption) ?_
      rotate_left
      · intro w hSw; go_simp; (try with_reducible rfl)
      (try simp only [Act.put, List.setIfInBounds_toArray, List.set_cons_zero, List.set_cons_succ])
      refine wpAnyH_ready (rs := [4, 6]) (by kernel_rfl) (by simp) (AllReadyH.cons rfl (fun K hK => ?_) (AllReadyH.cons rfl (fun K hK => ?_) AllReadyH.nil))
      · go_simp; (with_reducible refine hA.mono ?_); rintro e w4 ⟨k, n, t, na, nl, nc, a', len, cap, rfl, hF4, hx4, hown4, hR4, hb4, hg4⟩; have hs4 := hg4.size; have hz4 : GAt w4 b1 _ := (hg4.block b1 (gat_lt hz1) (fun e => hne2 e)).trans hz1; obtain ⟨⟨m0, m1, m2, m3, m4⟩, _⟩ := jbox5 hx4; have hown5 := hown4.alloc (.cells #[.int .i64 0, .int .i64 0, .string ⟨#[]⟩, .slice none 0 0, .slice none 0 0] 25); have hx5 := jat_old hx4 (.cells #[.int .i64 0, .int .i64 0, .string ⟨#[]⟩, .slice none 0 0, .slice none 0 0] 25); obtain ⟨⟨n0, n1, n2, n3, n4⟩, _⟩ := jbox5 hx5; have hz5 := gat_old hz4 (.cells #[.int .i64 0, .int .i64 0, .string ⟨#[]⟩, .slice none 0 0, .slice none 0 0] 25)
        refine hK.out _ _ (l1s_kept hS1 hg4 hne1 hne2) (fun hHeld => ?_)
        clear hK K
        refine wpAnyH_ready (rs := [6]) (by kernel_rfl) (by simp) (AllReadyH.cons rfl (fun K hK => ?_) AllReadyH.nil)
        · go_simp
          refine hK.out _ _ (l1s_kept hHeld (World.grownBy_alloc _ _ none) (by simp) (by simp)) (fun hHeld => ?_)
          clear hK K
          refine wpAnyH_ready (rs := [7]) (by kernel_rfl) (by simp) (AllReadyH.cons rfl (fun K hK => ?_) AllReadyH.nil)
          · refine step_append_at _ rfl _ _ 23 rfl B 25 i0 (.agg jzero) 5 80 Tryz.underlying23 hi hi0 hi1 hi2 rfl (by decide) (.slice a acc.length c) acc.length cs (by first | rfl | simp [Act.eval]) hown5 (some ⟨w4.heap.size, 0, none⟩) 1 1 [.int .i64 0, .int .i64 0, .string ⟨#[]⟩, .slice none 0 0, .slice none 0 0] (by first | rfl | simp [Act.eval]) ⟨rfl, .inr ⟨_, rfl, cells_new w4 [_, _, _, _, _] _⟩⟩ (by simp [Value.oneCell']) (by unfold maxLen; omega) (by omega) (by simp; omega) ?_; intro v6 w6 hown6 hgr6 hat6; obtain ⟨g6, c6, rfl⟩ := ownsRow_succ hown6; obtain ⟨⟨e0, e1, e2, e3, e4⟩, y0, y1, y2, y3, y4⟩ := own_last hown6; have hx6 := jat_own hx5 hgr6 hown5 hbx; obtain ⟨⟨f0, f1, f2, f3, f4⟩, l0, l1, l2, l3, l4⟩ := jbox5 hx6; have hx7 := jat_past5 hx6 hown6 hbx k n t na nl nc a' len cap; obtain ⟨⟨s0, s1, s2, s3, s4⟩, _⟩ := jbox5 hx7; have hown8 := ownsRow_setCell_below (a := ⟨bx, 4, none⟩) hown6 hbx (.slice (some ⟨g6, 0, none⟩) (acc.length + 1) c6); obtain ⟨⟨d0, d1, d2, d3, d4⟩, _⟩ := own_last hown8
            have hng : some b1 ≠ some g6 := gat_own_ne (n := 0) (show GAt w6 b1 _ from (hgr6.block b1 (gat_lt hz5) (gat_own_ne (n := 0) hz5 hown5)).trans hz5) hown6
            refine hK.out _ _ (l1s_kept hHeld hgr6 (fun e => by have := (own_blkJ hown5 _ e.symm).2.1; omega) (gat_own_ne (n := 0) hz5 hown5)) (fun hHeld => ?_)
            clear hK K
            refine wpAnyH_take (i := 8) (v := ?_) rfl (by kernel_rfl) (by kernel_rfl) (by kernel_rfl) (fun _ _ _ h => h) (Or.inl ⟨by rfl, ?_⟩) (by assumption) ?_
            rotate_left
            · intro w hSw; go_simp; (try with_reducible rfl)
            (try simp only [Act.put, List.setIfInBounds_toArray, List.set_cons_zero, List.set_cons_succ])
            refine wpAnyH_take (i := 10) (v := ?_) rfl (by kernel_rfl) (by kernel_rfl) (by kernel_rfl) (fun _ _ _ h => h) (Or.inl ⟨by rfl, ?_⟩) (by assumption) ?_
            rotate_left
            · intro w hSw; go_simp; (try with_reducible rfl)
            (try simp only [Act.put, List.setIfInBounds_toArray, List.set_cons_zero, List.set_cons_succ])
            refine wpAnyH_ready (rs := [9, 11]) (by kernel_rfl) (by simp) (AllReadyH.cons rfl (fun K hK => ?_) (AllReadyH.cons rfl (fun K hK => ?_) AllReadyH.nil))
            · go_simp
              refine hK.out _ _ (l1s_kept hHeld (grown_sets9 _ _ _ _ _ _ _ _ _ _ _ _) (fun e => by have := (own_blkJ hown6 g6 rfl).2.1; cases e; omega) hng) (fun hHeld => ?_)
              clear hK K
              refine wpAnyH_ready (rs := [11]) (by kernel_rfl) (by simp) (AllReadyH.cons rfl (fun K hK => ?_) AllReadyH.nil)
              · go_simp
                refine hK.out _ _ (l1s_kept hHeld (grownJ_set _ bx 4 _) (fun e => hrx (by cases e; rfl)) (fun e => by cases e; omega)) (fun hHeld => ?_)
                clear hK K
                refine wpAnyH_done (by kernel_rfl) ?_ _
                refine bodyPost_end (results_none rfl _ _ _) rfl ?_
                obtain ⟨z1, z2, z3⟩ := l1_end (p := p) (rb := rb) (bx := bx) (room := room) (v := v) (w0 := w0) (F := F1 w6 g6 bx acc.length c6 (.int .i64 k) (.int .i64 n) (.string t) (.slice na nl nc) (.slice a' len cap)) (.inl rfl) hown1 hel1 hp hrb hbx hpx hrx (Nat.le_trans hBW hs1) hxb hG1 hF4 hx4 hR4 hb4 hg4 ((Below.refl _ _).alloc (Nat.le_refl _) _) hgr6 hown6 hat6
                exact ⟨⟨⟨_, rfl⟩, z1, z2, z3⟩, keepT_trans (keepT_below hA1) (l1_keep (.inl rfl) hr1 hg4 ((Below.refl _ _).alloc (Nat.le_refl _) _) hown5 hgr6 hown6 hx6 hbx)⟩
            · go_simp
              refine hK.out _ _ (l1s_kept hHeld (grownJ_set _ bx 4 _) (fun e => hrx (by cases e; rfl)) (fun e => by cases e; omega)) (fun hHeld => ?_)
              clear hK K
              refine wpAnyH_ready (rs := [9]) (by kernel_rfl) (by simp) (AllReadyH.cons rfl (fun K hK => ?_) AllReadyH.nil)
              · go_simp
                refine hK.out _ _ (l1s_kept hHeld (grown_sets9 _ _ _ _ _ _ _ _ _ _ _ _) (fun e => by have := (own_blkJ hown6 g6 rfl).2.1; cases e; omega) hng) (fun hHeld => ?_)
                clear hK K
                refine wpAnyH_done (by kernel_rfl) ?_ _
                refine bodyPost_end (results_none rfl _ _ _) rfl ?_
                obtain ⟨z1, z2, z3⟩ := l1_end (p := p) (rb := rb) (bx := bx) (room := room) (v := v) (w0 := w0) (F := F2 w6 g6 bx acc.length c6 (.int .i64 k) (.int .i64 n) (.string t) (.slice na nl nc) (.slice a' len cap)) (.inr rfl) hown1 hel1 hp hrb hbx hpx hrx (Nat.le_trans hBW hs1) hxb hG1 hF4 hx4 hR4 hb4 hg4 ((Below.refl _ _).alloc (Nat.le_refl _) _) hgr6 hown6 hat6
                exact ⟨⟨⟨_, rfl⟩, z1, z2, z3⟩, keepT_trans (keepT_below hA1) (l1_keep (.inr rfl) hr1 hg4 ((Below.refl _ _).alloc (Nat.le_refl _) _) hown5 hgr6 hown6 hx6 hbx)⟩
      · go_simp
        refine hK.out _ _ (l1s_kept hHeld (World.grownBy_alloc _ _ none) (by simp) (by simp)) (fun hHeld => ?_)
        clear hK K
        refine wpAnyH_ready (rs := [4]) (by kernel_rfl) (by simp) (AllReadyH.cons rfl (fun K hK => ?_) AllReadyH.nil)
        · go_simp; (with_reducible refine hB.mono ?_); rintro e w4 ⟨⟨k, n, t, na, nl, nc, a', len, cap, rfl, hF4, hx4, hown4, hR4, hb4, hg4⟩, hzz⟩; have hs4 := hg4.size; have hz4 : GAt w4 b1 _ := (hg4.block b1 (gat_lt hz1) (fun e => hne2 e)).trans hz1; obtain ⟨⟨m0, m1, m2, m3, m4⟩, _⟩ := jbox5 hx4
          refine hK.out _ _ (l1s_kept hS1 hg4 hne1 hne2) (fun hHeld => ?_)
          clear hK K
          refine wpAnyH_ready (rs := [7]) (by kernel_rfl) (by simp) (AllReadyH.cons rfl (fun K hK => ?_) AllReadyH.nil)
          · refine step_append_at _ rfl _ _ 23 rfl B 25 i0 (.agg jzero) 5 80 Tryz.underlying23 hi hi0 hi1 hi2 rfl (by decide) (.slice a acc.length c) acc.length cs (by first | rfl | simp [Act.eval]) hown4 (some ⟨W1.heap.size, 0, none⟩) 1 1 [.int .i64 0, .int .i64 0, .string ⟨#[]⟩, .slice none 0 0, .slice none 0 0] (by first | rfl | simp [Act.eval]) (cells_jat hzz) (by simp [Value.oneCell']) (by unfold maxLen; omega) (by omega) (by omega) ?_; intro v6 w6 hown6 hgr6 hat6; obtain ⟨g6, c6, rfl⟩ := ownsRow_succ hown6; obtain ⟨⟨e0, e1, e2, e3, e4⟩, y0, y1, y2, y3, y4⟩ := own_last hown6; have hx6 := jat_own hx4 hgr6 hown4 hbx; obtain ⟨⟨f0, f1, f2, f3, f4⟩, l0, l1, l2, l3, l4⟩ := jbox5 hx6; have hx7 := jat_past5 hx6 hown6 hbx k n t na nl nc a' len cap; obtain ⟨⟨s0, s1, s2, s3, s4⟩, _⟩ := jbox5 hx7; have hown8 := ownsRow_setCell_below (a := ⟨bx, 4, none⟩) hown6 hbx (.slice (some ⟨g6, 0, none⟩) (acc.length + 1) c6); obtain ⟨⟨d0, d1, d2, d3, d4⟩, _⟩ := own_last hown8
            have hng : some b1 ≠ some g6 := gat_own_ne (n := 0) (show GAt w6 b1 _ from (hgr6.block b1 (gat_lt hz4) (gat_own_ne (n := 0) hz4 hown4)).trans hz4) hown6
            refine hK.out _ _ (l1s_kept hHeld hgr6 (fun e => by have := (own_blkJ hown4 _ e.symm).2.1; omega) (gat_own_ne (n := 0) hz4 hown4)) (fun hHeld => ?_)
            clear hK K
            refine wpAnyH_take (i := 8) (v := ?_) rfl (by kernel_rfl) (by kernel_rfl) (by kernel_rfl) (fun _ _ _ h => h) (Or.inl ⟨by rfl, ?_⟩) (by assumption) ?_
            rotate_left
            · intro w hSw; go_simp; (try with_reducible rfl)
            (try simp only [Act.put, List.setIfInBounds_toArray, List.set_cons_zero, List.set_cons_succ])
            refine wpAnyH_take (i := 10) (v := ?_) rfl (by kernel_rfl) (by kernel_rfl) (by kernel_rfl) (fun _ _ _ h => h) (Or.inl ⟨by rfl, ?_⟩) (by assumption) ?_
            rotate_left
            · intro w hSw; go_simp; (try with_reducible rfl)
            (try simp only [Act.put, List.setIfInBounds_toArray, List.set_cons_zero, List.set_cons_succ])
            refine wpAnyH_ready (rs := [9, 11]) (by kernel_rfl) (by simp) (AllReadyH.cons rfl (fun K hK => ?_) (AllReadyH.cons rfl (fun K hK => ?_) AllReadyH.nil))
            · go_simp
              refine hK.out _ _ (l1s_kept hHeld (grown_sets9 _ _ _ _ _ _ _ _ _ _ _ _) (fun e => by have := (own_blkJ hown6 g6 rfl).2.1; cases e; omega) hng) (fun hHeld => ?_)
              clear hK K
              refine wpAnyH_ready (rs := [11]) (by kernel_rfl) (by simp) (AllReadyH.cons rfl (fun K hK => ?_) AllReadyH.nil)
              · go_simp
                refine hK.out _ _ (l1s_kept hHeld (grownJ_set _ bx 4 _) (fun e => hrx (by cases e; rfl)) (fun e => by cases e; omega)) (fun hHeld => ?_)
                clear hK K
                refine wpAnyH_done (by kernel_rfl) ?_ _
                refine bodyPost_end (results_none rfl _ _ _) rfl ?_
                obtain ⟨z1, z2, z3⟩ := l1_end (p := p) (rb := rb) (bx := bx) (room := room) (v := v) (w0 := w0) (F := F1 w6 g6 bx acc.length c6 (.int .i64 k) (.int .i64 n) (.string t) (.slice na nl nc) (.slice a' len cap)) (.inl rfl) hown1 hel1 hp hrb hbx hpx hrx (Nat.le_trans hBW hs1) hxb hG1 hF4 hx4 hR4 hb4 hg4 (Below.refl _ _) hgr6 hown6 hat6
                exact ⟨⟨⟨_, rfl⟩, z1, z2, z3⟩, keepT_trans (keepT_below hA1) (l1_keep (.inl rfl) hr1 hg4 (Below.refl _ _) hown4 hgr6 hown6 hx6 hbx)⟩
            · go_simp
              refine hK.out _ _ (l1s_kept hHeld (grownJ_set _ bx 4 _) (fun e => hrx (by cases e; rfl)) (fun e => by cases e; omega)) (fun hHeld => ?_)
              clear hK K
              refine wpAnyH_ready (rs := [9]) (by kernel_rfl) (by simp) (AllReadyH.cons rfl (fun K hK => ?_) AllReadyH.nil)
              · go_simp
                refine hK.out _ _ (l1s_kept hHeld (grown_sets9 _ _ _ _ _ _ _ _ _ _ _ _) (fun e => by have := (own_blkJ hown6 g6 rfl).2.1; cases e; omega) hng) (fun hHeld => ?_)
                clear hK K
                refine wpAnyH_done (by kernel_rfl) ?_ _
                refine bodyPost_end (results_none rfl _ _ _) rfl ?_
                obtain ⟨z1, z2, z3⟩ := l1_end (p := p) (rb := rb) (bx := bx) (room := room) (v := v) (w0 := w0) (F := F2 w6 g6 bx acc.length c6 (.int .i64 k) (.int .i64 n) (.string t) (.slice na nl nc) (.slice a' len cap)) (.inr rfl) hown1 hel1 hp hrb hbx hpx hrx (Nat.le_trans hBW hs1) hxb hG1 hF4 hx4 hR4 hb4 hg4 (Below.refl _ _) hgr6 hown6 hat6
                exact ⟨⟨⟨_, rfl⟩, z1, z2, z3⟩, keepT_trans (keepT_below hA1) (l1_keep (.inr rfl) hr1 hg4 (Below.refl _ _) hown4 hgr6 hown6 hx6 hbx)⟩
    · go_simp; (with_reducible refine hA.mono ?_); rintro e w4 ⟨k, n, t, na, nl, nc, a', len, cap, rfl, hF4, hx4, hown4, hR4, hb4, hg4⟩; have hs4 := hg4.size; have hz4 : GAt w4 b1 _ := (hg4.block b1 (gat_lt hz1) (fun e => hne2 e)).trans hz1; obtain ⟨⟨m0, m1, m2, m3, m4⟩, _⟩ := jbox5 hx4; have hown5 := hown4.alloc (.cells #[.int .i64 0, .int .i64 0, .string ⟨#[]⟩, .slice none 0 0, .slice none 0 0] 25); have hx5 := jat_old hx4 (.cells #[.int .i64 0, .int .i64 0, .string ⟨#[]⟩, .slice none 0 0, .slice none 0 0] 25); obtain ⟨⟨n0, n1, n2, n3, n4⟩, _⟩ := jbox5 hx5; have hz5 := gat_old hz4 (.cells #[.int .i64 0, .int .i64 0, .string ⟨#[]⟩, .slice none 0 0, .slice none 0 0] 25)
      refine hK.out _ _ (l1s_kept hS1 hg4 hne1 hne2) (fun hHeld => ?_)
      clear hK K
      refine wpAnyH_ready (rs := [1, 6]) (by kernel_rfl) (by simp) (AllReadyH.cons rfl (fun K hK => ?_) (AllReadyH.cons rfl (fun K hK => ?_) AllReadyH.nil))
      · go_simp
        refine hK.out _ _ (hHeld) (fun hHeld => ?_)
        clear hK K
        refine wpAnyH_take (i := 5) (v := ?_) rfl (by kernel_rfl) (by kernel_rfl) (by kernel_rfl) (fun _ _ _ h => h) (Or.inl ⟨by rfl, ?_⟩) (by assumption) ?_
        rotate_left
        · intro w hSw; go_simp; (try with_reducible rfl)
        (try simp only [Act.put, List.setIfInBounds_toArray, List.set_cons_zero, List.set_cons_succ])
        refine wpAnyH_ready (rs := [6]) (by kernel_rfl) (by simp) (AllReadyH.cons rfl (fun K hK => ?_) AllReadyH.nil)
        · go_simp
          refine hK.out _ _ (l1s_kept hHeld (World.grownBy_alloc _ _ none) (by simp) (by simp)) (fun hHeld => ?_)
          clear hK K
          refine wpAnyH_ready (rs := [7]) (by kernel_rfl) (by simp) (AllReadyH.cons rfl (fun K hK => ?_) AllReadyH.nil)
          · refine step_append_at _ rfl _ _ 23 rfl B 25 i0 (.agg jzero) 5 80 Tryz.underlying23 hi hi0 hi1 hi2 rfl (by decide) (.slice a acc.length c) acc.length cs (by first | rfl | simp [Act.eval]) hown5 (some ⟨w4.heap.size, 0, none⟩) 1 1 [.int .i64 0, .int .i64 0, .string ⟨#[]⟩, .slice none 0 0, .slice none 0 0] (by first | rfl | simp [Act.eval]) ⟨rfl, .inr ⟨_, rfl, cells_new w4 [_, _, _, _, _] _⟩⟩ (by simp [Value.oneCell']) (by unfold maxLen; omega) (by omega) (by simp; omega) ?_; intro v6 w6 hown6 hgr6 hat6; obtain ⟨g6, c6, rfl⟩ := ownsRow_succ hown6; obtain ⟨⟨e0, e1, e2, e3, e4⟩, y0, y1, y2, y3, y4⟩ := own_last hown6; have hx6 := jat_own hx5 hgr6 hown5 hbx; obtain ⟨⟨f0, f1, f2, f3, f4⟩, l0, l1, l2, l3, l4⟩ := jbox5 hx6; have hx7 := jat_past5 hx6 hown6 hbx k n t na nl nc a' len cap; obtain ⟨⟨s0, s1, s2, s3, s4⟩, _⟩ := jbox5 hx7; have hown8 := ownsRow_setCell_below (a := ⟨bx, 4, none⟩) hown6 hbx (.slice (some ⟨g6, 0, none⟩) (acc.length + 1) c6); obtain ⟨⟨d0, d1, d2, d3, d4⟩, _⟩ := own_last hown8
            have hng : some b1 ≠ some g6 := gat_own_ne (n := 0) (show GAt w6 b1 _ from (hgr6.block b1 (gat_lt hz5) (gat_own_ne (n := 0) hz5 hown5)).trans hz5) hown6
            refine hK.out _ _ (l1s_kept hHeld hgr6 (fun e => by have := (own_blkJ hown5 _ e.symm).2.1; omega) (gat_own_ne (n := 0) hz5 hown5)) (fun hHeld => ?_)
            clear hK K
            refine wpAnyH_take (i := 8) (v := ?_) rfl (by kernel_rfl) (by kernel_rfl) (by kernel_rfl) (fun _ _ _ h => h) (Or.inl ⟨by rfl, ?_⟩) (by assumption) ?_
            rotate_left
            · intro w hSw; go_simp; (try with_reducible rfl)
            (try simp only [Act.put, List.setIfInBounds_toArray, List.set_cons_zero, List.set_cons_succ])
            refine wpAnyH_take (i := 10) (v := ?_) rfl (by kernel_rfl) (by kernel_rfl) (by kernel_rfl) (fun _ _ _ h => h) (Or.inl ⟨by rfl, ?_⟩) (by assumption) ?_
            rotate_left
            · intro w hSw; go_simp; (try with_reducible rfl)
            (try simp only [Act.put, List.setIfInBounds_toArray, List.set_cons_zero, List.set_cons_succ])
            refine wpAnyH_ready (rs := [9, 11]) (by kernel_rfl) (by simp) (AllReadyH.cons rfl (fun K hK => ?_) (AllReadyH.cons rfl (fun K hK => ?_) AllReadyH.nil))
            · go_simp
              refine hK.out _ _ (l1s_kept hHeld (grown_sets9 _ _ _ _ _ _ _ _ _ _ _ _) (fun e => by have := (own_blkJ hown6 g6 rfl).2.1; cases e; omega) hng) (fun hHeld => ?_)
              clear hK K
              refine wpAnyH_ready (rs := [11]) (by kernel_rfl) (by simp) (AllReadyH.cons rfl (fun K hK => ?_) AllReadyH.nil)
              · go_simp
                refine hK.out _ _ (l1s_kept hHeld (grownJ_set _ bx 4 _) (fun e => hrx (by cases e; rfl)) (fun e => by cases e; omega)) (fun hHeld => ?_)
                clear hK K
                refine wpAnyH_done (by kernel_rfl) ?_ _
                refine bodyPost_end (results_none rfl _ _ _) rfl ?_
                obtain ⟨z1, z2, z3⟩ := l1_end (p := p) (rb := rb) (bx := bx) (room := room) (v := v) (w0 := w0) (F := F1 w6 g6 bx acc.length c6 (.int .i64 k) (.int .i64 n) (.string t) (.slice na nl nc) (.slice a' len cap)) (.inl rfl) hown1 hel1 hp hrb hbx hpx hrx (Nat.le_trans hBW hs1) hxb hG1 hF4 hx4 hR4 hb4 hg4 ((Below.refl _ _).alloc (Nat.le_refl _) _) hgr6 hown6 hat6
                exact ⟨⟨⟨_, rfl⟩, z1, z2, z3⟩, keepT_trans (keepT_below hA1) (l1_keep (.inl rfl) hr1 hg4 ((Below.refl _ _).alloc (Nat.le_refl _) _) hown5 hgr6 hown6 hx6 hbx)⟩
            · go_simp
              refine hK.out _ _ (l1s_kept hHeld (grownJ_set _ bx 4 _) (fun e => hrx (by cases e; rfl)) (fun e => by cases e; omega)) (fun hHeld => ?_)
              clear hK K
              refine wpAnyH_ready (rs := [9]) (by kernel_rfl) (by simp) (AllReadyH.cons rfl (fun K hK => ?_) AllReadyH.nil)
              · go_simp
                refine hK.out _ _ (l1s_kept hHeld (grown_sets9 _ _ _ _ _ _ _ _ _ _ _ _) (fun e => by have := (own_blkJ hown6 g6 rfl).2.1; cases e; omega) hng) (fun hHeld => ?_)
                clear hK K
                refine wpAnyH_done (by kernel_rfl) ?_ _
                refine bodyPost_end (results_none rfl _ _ _) rfl ?_
                obtain ⟨z1, z2, z3⟩ := l1_end (p := p) (rb := rb) (bx := bx) (room := room) (v := v) (w0 := w0) (F := F2 w6 g6 bx acc.length c6 (.int .i64 k) (.int .i64 n) (.string t) (.slice na nl nc) (.slice a' len cap)) (.inr rfl) hown1 hel1 hp hrb hbx hpx hrx (Nat.le_trans hBW hs1) hxb hG1 hF4 hx4 hR4 hb4 hg4 ((Below.refl _ _).alloc (Nat.le_refl _) _) hgr6 hown6 hat6
                exact ⟨⟨⟨_, rfl⟩, z1, z2, z3⟩, keepT_trans (keepT_below hA1) (l1_keep (.inr rfl) hr1 hg4 ((Below.refl _ _).alloc (Nat.le_refl _) _) hown5 hgr6 hown6 hx6 hbx)⟩
      · go_simp
        refine hK.out _ _ (l1s_kept hHeld (World.grownBy_alloc _ _ none) (by simp) (by simp)) (fun hHeld => ?_)
        clear hK K
        refine wpAnyH_ready (rs := [1]) (by kernel_rfl) (by simp) (AllReadyH.cons rfl (fun K hK => ?_) AllReadyH.nil)
        · go_simp
          refine hK.out _ _ (hHeld) (fun hHeld => ?_)
          clear hK K
          refine wpAnyH_take (i := 5) (v := ?_) rfl (by kernel_rfl) (by kernel_rfl) (by kernel_rfl) (fun _ _ _ h => h) (Or.inl ⟨by rfl, ?_⟩) (by assumption) ?_
          rotate_left
          · intro w hSw; go_simp; (try with_reducible rfl)
          (try simp only [Act.put, List.setIfInBounds_toArray, List.set_cons_zero, List.set_cons_succ])
          refine wpAnyH_ready (rs := [7]) (by kernel_rfl) (by simp) (AllReadyH.cons rfl (fun K hK => ?_) AllReadyH.nil)
          · refine step_append_at _ rfl _ _ 23 rfl B 25 i0 (.agg jzero) 5 80 Tryz.underlying23 hi hi0 hi1 hi2 rfl (by decide) (.slice a acc.length c) acc.length cs (by first | rfl | simp [Act.eval]) hown5 (some ⟨w4.heap.size, 0, none⟩) 1 1 [.int .i64 0, .int .i64 0, .string ⟨#[]⟩, .slice none 0 0, .slice none 0 0] (by first | rfl | simp [Act.eval]) ⟨rfl, .inr ⟨_, rfl, cells_new w4 [_, _, _, _, _] _⟩⟩ (by simp [Value.oneCell']) (by unfold maxLen; omega) (by omega) (by simp; omega) ?_; intro v6 w6 hown6 hgr6 hat6; obtain ⟨g6, c6, rfl⟩ := ownsRow_succ hown6; obtain ⟨⟨e0, e1, e2, e3, e4⟩, y0, y1, y2, y3, y4⟩ := own_last hown6; have hx6 := jat_own hx5 hgr6 hown5 hbx; obtain ⟨⟨f0, f1, f2, f3, f4⟩, l0, l1, l2, l3, l4⟩ := jbox5 hx6; have hx7 := jat_past5 hx6 hown6 hbx k n t na nl nc a' len cap; obtain ⟨⟨s0, s1, s2, s3, s4⟩, _⟩ := jbox5 hx7; have hown8 := ownsRow_setCell_below (a := ⟨bx, 4, none⟩) hown6 hbx (.slice (some ⟨g6, 0, none⟩) (acc.length + 1) c6); obtain ⟨⟨d0, d1, d2, d3, d4⟩, _⟩ := own_last hown8
            have hng : some b1 ≠ some g6 := gat_own_ne (n := 0) (show GAt w6 b1 _ from (hgr6.block b1 (gat_lt hz5) (gat_own_ne (n := 0) hz5 hown5)).trans hz5) hown6
            refine hK.out _ _ (l1s_kept hHeld hgr6 (fun e => by have := (own_blkJ hown5 _ e.symm).2.1; omega) (gat_own_ne (n := 0) hz5 hown5)) (fun hHeld => ?_)
            clear hK K
            refine wpAnyH_take (i := 8) (v := ?_) rfl (by kernel_rfl) (by kernel_rfl) (by kernel_rfl) (fun _ _ _ h => h) (Or.inl ⟨by rfl, ?_⟩) (by assumption) ?_
            rotate_left
            · intro w hSw; go_simp; (try with_reducible rfl)
            (try simp only [Act.put, List.setIfInBounds_toArray, List.set_cons_zero, List.set_cons_succ])
            refine wpAnyH_take (i := 10) (v := ?_) rfl (by kernel_rfl) (by kernel_rfl) (by kernel_rfl) (fun _ _ _ h => h) (Or.inl ⟨by rfl, ?_⟩) (by assumption) ?_
            rotate_left
            · intro w hSw; go_simp; (try with_reducible rfl)
            (try simp only [Act.put, List.setIfInBounds_toArray, List.set_cons_zero, List.set_cons_succ])
            refine wpAnyH_ready (rs := [9, 11]) (by kernel_rfl) (by simp) (AllReadyH.cons rfl (fun K hK => ?_) (AllReadyH.cons rfl (fun K hK => ?_) AllReadyH.nil))
            · go_simp
              refine hK.out _ _ (l1s_kept hHeld (grown_sets9 _ _ _ _ _ _ _ _ _ _ _ _) (fun e => by have := (own_blkJ hown6 g6 rfl).2.1; cases e; omega) hng) (fun hHeld => ?_)
              clear hK K
              refine wpAnyH_ready (rs := [11]) (by kernel_rfl) (by simp) (AllReadyH.cons rfl (fun K hK => ?_) AllReadyH.nil)
              · go_simp
                refine hK.out _ _ (l1s_kept hHeld (grownJ_set _ bx 4 _) (fun e => hrx (by cases e; rfl)) (fun e => by cases e; omega)) (fun hHeld => ?_)
                clear hK K
                refine wpAnyH_done (by kernel_rfl) ?_ _
                refine bodyPost_end (results_none rfl _ _ _) rfl ?_
                obtain ⟨z1, z2, z3⟩ := l1_end (p := p) (rb := rb) (bx := bx) (room := room) (v := v) (w0 := w0) (F := F1 w6 g6 bx acc.length c6 (.int .i64 k) (.int .i64 n) (.string t) (.slice na nl nc) (.slice a' len cap)) (.inl rfl) hown1 hel1 hp hrb hbx hpx hrx (Nat.le_trans hBW hs1) hxb hG1 hF4 hx4 hR4 hb4 hg4 ((Below.refl _ _).alloc (Nat.le_refl _) _) hgr6 hown6 hat6
                exact ⟨⟨⟨_, rfl⟩, z1, z2, z3⟩, keepT_trans (keepT_below hA1) (l1_keep (.inl rfl) hr1 hg4 ((Below.refl _ _).alloc (Nat.le_refl _) _) hown5 hgr6 hown6 hx6 hbx)⟩
            · go_simp
              refine hK.out _ _ (l1s_kept hHeld (grownJ_set _ bx 4 _) (fun e => hrx (by cases e; rfl)) (fun e => by cases e; omega)) (fun hHeld => ?_)
              clear hK K
              refine wpAnyH_ready (rs := [9]) (by kernel_rfl) (by simp) (AllReadyH.cons rfl (fun K hK => ?_) AllReadyH.nil)
              · go_simp
                refine hK.out _ _ (l1s_kept hHeld (grown_sets9 _ _ _ _ _ _ _ _ _ _ _ _) (fun e => by have := (own_blkJ hown6 g6 rfl).2.1; cases e; omega) hng) (fun hHeld => ?_)
                clear hK K
                refine wpAnyH_done (by kernel_rfl) ?_ _
                refine bodyPost_end (results_none rfl _ _ _) rfl ?_
                obtain ⟨z1, z2, z3⟩ := l1_end (p := p) (rb := rb) (bx := bx) (room := room) (v := v) (w0 := w0) (F := F2 w6 g6 bx acc.length c6 (.int .i64 k) (.int .i64 n) (.string t) (.slice na nl nc) (.slice a' len cap)) (.inr rfl) hown1 hel1 hp hrb hbx hpx hrx (Nat.le_trans hBW hs1) hxb hG1 hF4 hx4 hR4 hb4 hg4 ((Below.refl _ _).alloc (Nat.le_refl _) _) hgr6 hown6 hat6
                exact ⟨⟨⟨_, rfl⟩, z1, z2, z3⟩, keepT_trans (keepT_below hA1) (l1_keep (.inr rfl) hr1 hg4 ((Below.refl _ _).alloc (Nat.le_refl _) _) hown5 hgr6 hown6 hx6 hbx)⟩
    · go_simp
      refine hK.out _ _ (l1s_kept hHeld (World.grownBy_alloc _ _ none) (by simp) (by simp)) (fun hHeld => ?_)
      clear hK K
      refine wpAnyH_ready (rs := [1, 4]) (by kernel_rfl) (by simp) (AllReadyH.cons rfl (fun K hK => ?_) (AllReadyH.cons rfl (fun K hK => ?_) AllReadyH.nil))
      · go_simp
        refine hK.out _ _ (hHeld) (fun hHeld => ?_)
        clear hK K
        refine wpAnyH_take (i := 5) (v := ?_) rfl (by kernel_rfl) (by kernel_rfl) (by kernel_rfl) (fun _ _ _ h => h) (Or.inl ⟨by rfl, ?_⟩) (by assumption) ?_
        rotate_left
        · intro w hSw; go_simp; (try with_reducible rfl)
        (try simp only [Act.put, List.setIfInBounds_toArray, List.set_cons_zero, List.set_cons_succ])
        refine wpAnyH_ready (rs := [4]) (by kernel_rfl) (by simp) (AllReadyH.cons rfl (fun K hK => ?_) AllReadyH.nil)
        · go_simp; (with_reducible refine hB.mono ?_); rintro e w4 ⟨⟨k, n, t, na, nl, nc, a', len, cap, rfl, hF4, hx4, hown4, hR4, hb4, hg4⟩, hzz⟩; have hs4 := hg4.size; have hz4 : GAt w4 b1 _ := (hg4.block b1 (gat_lt hz1) (fun e => hne2 e)).trans hz1; obtain ⟨⟨m0, m1, m2, m3, m4⟩, _⟩ := jbox5 hx4
          refine hK.out _ _ (l1s_kept hS1 hg4 hne1 hne2) (fun hHeld => ?_)
          clear hK K
          refine wpAnyH_ready (rs := [7]) (by kernel_rfl) (by simp) (AllReadyH.cons rfl (fun K hK => ?_) AllReadyH.nil)
          · refine step_append_at _ rfl _ _ 23 rfl B 25 i0 (.agg jzero) 5 80 Tryz.underlying23 hi hi0 hi1 hi2 rfl (by decide) (.slice a acc.length c) acc.length cs (by first | rfl | simp [Act.eval]) hown4 (some ⟨W1.heap.size, 0, none⟩) 1 1 [.int .i64 0, .int .i64 0, .string ⟨#[]⟩, .slice none 0 0, .slice none 0 0] (by first | rfl | simp [Act.eval]) (cells_jat hzz) (by simp [Value.oneCell']) (by unfold maxLen; omega) (by omega) (by omega) ?_; intro v6 w6 hown6 hgr6 hat6; obtain ⟨g6, c6, rfl⟩ := ownsRow_succ hown6; obtain ⟨⟨e0, e1, e2, e3, e4⟩, y0, y1, y2, y3, y4⟩ := own_last hown6; have hx6 := jat_own hx4 hgr6 hown4 hbx; obtain ⟨⟨f0, f1, f2, f3, f4⟩, l0, l1, l2, l3, l4⟩ := jbox5 hx6; have hx7 := jat_past5 hx6 hown6 hbx k n t na nl nc a' len cap; obtain ⟨⟨s0, s1, s2, s3, s4⟩, _⟩ := jbox5 hx7; have hown8 := ownsRow_setCell_below (a := ⟨bx, 4, none⟩) hown6 hbx (.slice (some ⟨g6, 0, none⟩) (acc.length + 1) c6); obtain ⟨⟨d0, d1, d2, d3, d4⟩, _⟩ := own_last hown8
            have hng : some b1 ≠ some g6 := gat_own_ne (n := 0) (show GAt w6 b1 _ from (hgr6.block b1 (gat_lt hz4) (gat_own_ne (n := 0) hz4 hown4)).trans hz4) hown6
            refine hK.out _ _ (l1s_kept hHeld hgr6 (fun e => by have := (own_blkJ hown4 _ e.symm).2.1; omega) (gat_own_ne (n := 0) hz4 hown4)) (fun hHeld => ?_)
            clear hK K
            refine wpAnyH_take (i := 8) (v := ?_) rfl (by kernel_rfl) (by kernel_rfl) (by kernel_rfl) (fun _ _ _ h => h) (Or.inl ⟨by rfl, ?_⟩) (by assumption) ?_
            rotate_left
            · intro w hSw; go_simp; (try with_reducible rfl)
            (try simp only [Act.put, List.setIfInBounds_toArray, List.set_cons_zero, List.set_cons_succ])
            refine wpAnyH_take (i := 10) (v := ?_) rfl (by kernel_rfl) (by kernel_rfl) (by kernel_rfl) (fun _ _ _ h => h) (Or.inl ⟨by rfl, ?_⟩) (by assumption) ?_
            rotate_left
            · intro w hSw; go_simp; (try with_reducible rfl)
            (try simp only [Act.put, List.setIfInBounds_toArray, List.set_cons_zero, List.set_cons_succ])
            refine wpAnyH_ready (rs := [9, 11]) (by kernel_rfl) (by simp) (AllReadyH.cons rfl (fun K hK => ?_) (AllReadyH.cons rfl (fun K hK => ?_) AllReadyH.nil))
            · go_simp
              refine hK.out _ _ (l1s_kept hHeld (grown_sets9 _ _ _ _ _ _ _ _ _ _ _ _) (fun e => by have := (own_blkJ hown6 g6 rfl).2.1; cases e; omega) hng) (fun hHeld => ?_)
              clear hK K
              refine wpAnyH_ready (rs := [11]) (by kernel_rfl) (by simp) (AllReadyH.cons rfl (fun K hK => ?_) AllReadyH.nil)
              · go_simp
                refine hK.out _ _ (l1s_kept hHeld (grownJ_set _ bx 4 _) (fun e => hrx (by cases e; rfl)) (fun e => by cases e; omega)) (fun hHeld => ?_)
                clear hK K
                refine wpAnyH_done (by kernel_rfl) ?_ _
                refine bodyPost_end (results_none rfl _ _ _) rfl ?_
                obtain ⟨z1, z2, z3⟩ := l1_end (p := p) (rb := rb) (bx := bx) (room := room) (v := v) (w0 := w0) (F := F1 w6 g6 bx acc.length c6 (.int .i64 k) (.int .i64 n) (.string t) (.slice na nl nc) (.slice a' len cap)) (.inl rfl) hown1 hel1 hp hrb hbx hpx hrx (Nat.le_trans hBW hs1) hxb hG1 hF4 hx4 hR4 hb4 hg4 (Below.refl _ _) hgr6 hown6 hat6
                exact ⟨⟨⟨_, rfl⟩, z1, z2, z3⟩, keepT_trans (keepT_below hA1) (l1_keep (.inl rfl) hr1 hg4 (Below.refl _ _) hown4 hgr6 hown6 hx6 hbx)⟩
            · go_simp
              refine hK.out _ _ (l1s_kept hHeld (grownJ_set _ bx 4 _) (fun e => hrx (by cases e; rfl)) (fun e => by cases e; omega)) (fun hHeld => ?_)
              clear hK K
              refine wpAnyH_ready (rs := [9]) (by kernel_rfl) (by simp) (AllReadyH.cons rfl (fun K hK => ?_) AllReadyH.nil)
              · go_simp
                refine hK.out _ _ (l1s_kept hHeld (grown_sets9 _ _ _ _ _ _ _ _ _ _ _ _) (fun e => by have := (own_blkJ hown6 g6 rfl).2.1; cases e; omega) hng) (fun hHeld => ?_)
                clear hK K
                refine wpAnyH_done (by kernel_rfl) ?_ _
                refine bodyPost_end (results_none rfl _ _ _) rfl ?_
                obtain ⟨z1, z2, z3⟩ := l1_end (p := p) (rb := rb) (bx := bx) (room := room) (v := v) (w0 := w0) (F := F2 w6 g6 bx acc.length c6 (.int .i64 k) (.int .i64 n) (.string t) (.slice na nl nc) (.slice a' len cap)) (.inr rfl) hown1 hel1 hp hrb hbx hpx hrx (Nat.le_trans hBW hs1) hxb hG1 hF4 hx4 hR4 hb4 hg4 (Below.refl _ _) hgr6 hown6 hat6
                exact ⟨⟨⟨_, rfl⟩, z1, z2, z3⟩, keepT_trans (keepT_below hA1) (l1_keep (.inr rfl) hr1 hg4 (Below.refl _ _) hown4 hgr6 hown6 hx6 hbx)⟩
      · go_simp; (with_reducible refine hB.mono ?_); rintro e w4 ⟨⟨k, n, t, na, nl, nc, a', len, cap, rfl, hF4, hx4, hown4, hR4, hb4, hg4⟩, hzz⟩; have hs4 := hg4.size; have hz4 : GAt w4 b1 _ := (hg4.block b1 (gat_lt hz1) (fun e => hne2 e)).trans hz1; obtain ⟨⟨m0, m1, m2, m3, m4⟩, _⟩ := jbox5 hx4
        refine hK.out _ _ (l1s_kept hS1 hg4 hne1 hne2) (fun hHeld => ?_)
        clear hK K
        refine wpAnyH_ready (rs := [1]) (by kernel_rfl) (by simp) (AllReadyH.cons rfl (fun K hK => ?_) AllReadyH.nil)
        · go_simp
          refine hK.out _ _ (hHeld) (fun hHeld => ?_)
          clear hK K
          refine wpAnyH_take (i := 5) (v := ?_) rfl (by kernel_rfl) (by kernel_rfl) (by kernel_rfl) (fun _ _ _ h => h) (Or.inl ⟨by rfl, ?_⟩) (by assumption) ?_
          rotate_left
          · intro w hSw; go_simp; (try with_reducible rfl)
          (try simp only [Act.put, List.setIfInBounds_toArray, List.set_cons_zero, List.set_cons_succ])
          refine wpAnyH_ready (rs := [7]) (by kernel_rfl) (by simp) (AllReadyH.cons rfl (fun K hK => ?_) AllReadyH.nil)
          · refine step_append_at _ rfl _ _ 23 rfl B 25 i0 (.agg jzero) 5 80 Tryz.underlying23 hi hi0 hi1 hi2 rfl (by decide) (.slice a acc.length c) acc.length cs (by first | rfl | simp [Act.eval]) hown4 (some ⟨W1.heap.size, 0, none⟩) 1 1 [.int .i64 0, .int .i64 0, .string ⟨#[]⟩, .slice none 0 0, .slice none 0 0] (by first | rfl | simp [Act.eval]) (cells_jat hzz) (by simp [Value.oneCell']) (by unfold maxLen; omega) (by omega) (by omega) ?_; intro v6 w6 hown6 hgr6 hat6; obtain ⟨g6, c6, rfl⟩ := ownsRow_succ hown6; obtain ⟨⟨e0, e1, e2, e3, e4⟩, y0, y1, y2, y3, y4⟩ := own_last hown6; have hx6 := jat_own hx4 hgr6 hown4 hbx; obtain ⟨⟨f0, f1, f2, f3, f4⟩, l0, l1, l2, l3, l4⟩ := jbox5 hx6; have hx7 := jat_past5 hx6 hown6 hbx k n t na nl nc a' len cap; obtain ⟨⟨s0, s1, s2, s3, s4⟩, _⟩ := jbox5 hx7; have hown8 := ownsRow_setCell_below (a := ⟨bx, 4, none⟩) hown6 hbx (.slice (some ⟨g6, 0, none⟩) (acc.length + 1) c6); obtain ⟨⟨d0, d1, d2, d3, d4⟩, _⟩ := own_last hown8
            have hng : some b1 ≠ some g6 := gat_own_ne (n := 0) (show GAt w6 b1 _ from (hgr6.block b1 (gat_lt hz4) (gat_own_ne (n := 0) hz4 hown4)).trans hz4) hown6
            refine hK.out _ _ (l1s_kept hHeld hgr6 (fun e => by have := (own_blkJ hown4 _ e.symm).2.1; omega) (gat_own_ne (n := 0) hz4 hown4)) (fun hHeld => ?_)
            clear hK K
            refine wpAnyH_take (i := 8) (v := ?_) rfl (by kernel_rfl) (by kernel_rfl) (by kernel_rfl) (fun _ _ _ h => h) (Or.inl ⟨by rfl, ?_⟩) (by assumption) ?_
            rotate_left
            · intro w hSw; go_simp; (try with_reducible rfl)
            (try simp only [Act.put, List.setIfInBounds_toArray, List.set_cons_zero, List.set_cons_succ])
            refine wpAnyH_take (i := 10) (v := ?_) rfl (by kernel_rfl) (by kernel_rfl) (by kernel_rfl) (fun _ _ _ h => h) (Or.inl ⟨by rfl, ?_⟩) (by assumption) ?_
            rotate_left
            · intro w hSw; go_simp; (try with_reducible rfl)
            (try simp only [Act.put, List.setIfInBounds_toArray, List.set_cons_zero, List.set_cons_succ])
            refine wpAnyH_ready (rs := [9, 11]) (by kernel_rfl) (by simp) (AllReadyH.cons rfl (fun K hK => ?_) (AllReadyH.cons rfl (fun K hK => ?_) AllReadyH.nil))
            · go_simp
              refine hK.out _ _ (l1s_kept hHeld (grown_sets9 _ _ _ _ _ _ _ _ _ _ _ _) (fun e => by have := (own_blkJ hown6 g6 rfl).2.1; cases e; omega) hng) (fun hHeld => ?_)
              clear hK K
              refine wpAnyH_ready (rs := [11]) (by kernel_rfl) (by simp) (AllReadyH.cons rfl (fun K hK => ?_) AllReadyH.nil)
              · go_simp
                refine hK.out _ _ (l1s_kept hHeld (grownJ_set _ bx 4 _) (fun e => hrx (by cases e; rfl)) (fun e => by cases e; omega)) (fun hHeld => ?_)
                clear hK K
                refine wpAnyH_done (by kernel_rfl) ?_ _
                refine bodyPost_end (results_none rfl _ _ _) rfl ?_
                obtain ⟨z1, z2, z3⟩ := l1_end (p := p) (rb := rb) (bx := bx) (room := room) (v := v) (w0 := w0) (F := F1 w6 g6 bx acc.length c6 (.int .i64 k) (.int .i64 n) (.string t) (.slice na nl nc) (.slice a' len cap)) (.inl rfl) hown1 hel1 hp hrb hbx hpx hrx (Nat.le_trans hBW hs1) hxb hG1 hF4 hx4 hR4 hb4 hg4 (Below.refl _ _) hgr6 hown6 hat6
                exact ⟨⟨⟨_, rfl⟩, z1, z2, z3⟩, keepT_trans (keepT_below hA1) (l1_keep (.inl rfl) hr1 hg4 (Below.refl _ _) hown4 hgr6 hown6 hx6 hbx)⟩
            · go_simp
              refine hK.out _ _ (l1s_kept hHeld (grownJ_set _ bx 4 _) (fun e => hrx (by cases e; rfl)) (fun e => by cases e; omega)) (fun hHeld => ?_)
              clear hK K
              refine wpAnyH_ready (rs := [9]) (by kernel_rfl) (by simp) (AllReadyH.cons rfl (fun K hK => ?_) AllReadyH.nil)
              · go_simp
                refine hK.out _ _ (l1s_kept hHeld (grown_sets9 _ _ _ _ _ _ _ _ _ _ _ _) (fun e => by have := (own_blkJ hown6 g6 rfl).2.1; cases e; omega) hng) (fun hHeld => ?_)
                clear hK K
                refine wpAnyH_done (by kernel_rfl) ?_ _
                refine bodyPost_end (results_none rfl _ _ _) rfl ?_
                obtain ⟨z1, z2, z3⟩ := l1_end (p := p) (rb := rb) (bx := bx) (room := room) (v := v) (w0 := w0) (F := F2 w6 g6 bx acc.length c6 (.int .i64 k) (.int .i64 n) (.string t) (.slice na nl nc) (.slice a' len cap)) (.inr rfl) hown1 hel1 hp hrb hbx hpx hrx (Nat.le_trans hBW hs1) hxb hG1 hF4 hx4 hR4 hb4 hg4 (Below.refl _ _) hgr6 hown6 hat6
                exact ⟨⟨⟨_, rfl⟩, z1, z2, z3⟩, keepT_trans (keepT_below hA1) (l1_keep (.inr rfl) hr1 hg4 (Below.refl _ _) hown4 hgr6 hown6 hx6 hbx)⟩
end Go.Proofs.YtpiajoffddjjfaaGreatDoor
