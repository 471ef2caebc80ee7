/- Reading JSON: an Obj's part, the walk. (Made by gen_jro4.py.) -/
import Derived.Test.YtpiajoffddjjfaaGreatDoorMg40Jso
import Derived.Deep.RegionHeldLaw
set_option linter.unusedVariables false
set_option linter.unusedSimpArgs false
namespace Go.Proofs.YtpiajoffddjjfaaGreatDoor
open Go.RowKit Go.Shelf
theorem rb_kept {W W' : World} {row : Option Nat} {rb p : Nat} (h : W.cell? ⟨rb, 0, none⟩ = some (.pointer (some ⟨p, 0, none⟩))) (hg : W.grownBy W' row) (h1 : some rb ≠ row) : W'.cell? ⟨rb, 0, none⟩ = some (.pointer (some ⟨p, 0, none⟩)) := cell_kept9 h hg h1
set_option maxRecDepth 100000 in
set_option maxHeartbeats 8000000 in
theorem object1_ok (s : ByteArray) (room B p rb bx sb sv : Nat) (t : K.Tok) (q : Nat) (acc : Js.OSt) (w0 W : World) (c : K.Tok) (q1 : Nat) (u : K.Tok) (q2 : Nat) (v : JV) (q3 : Nat) (hok : Js.okT t = true) (hk : t.kind = 7) (hl : acc.1.length ≤ 100000) (htw : hasN acc.1 (strOfNums t.s) = false)
    (hc : c.kind = 5) (hN1 : ∀ W', RJ W' p s q room → Err W' → Calls Tryz.prog 26 #[.pointer (some ⟨p, 0, none⟩)] W' (NxR p s room W' (.inr (c, q1))))
    (hN2 : ∀ W', RJ W' p s q1 room → Err W' → Calls Tryz.prog 26 #[.pointer (some ⟨p, 0, none⟩)] W' (NxR p s room W' (.inr (u, q2))))
    (hth : ∀ W', RJ W' p s q2 room → Err W' → Calls Tryz.prog 25 #[.pointer (some ⟨p, 0, none⟩), tokV u] W' (ThR p s room W' (.inr (v, q3))))
    (h : OStt B p rb bx sb sv acc W) (hr : RJ W p s q room) (hE : Err W) (hE0 : Err w0) (hpe : p ≠ 1) (hp : p < rb) (hrb : rb < B) (hbx : bx < B) (hpx : p ≠ bx) (hrx : rb ≠ bx) (hpsb : p ≠ sb) (hps : p ≠ sv) (hsb : sb < B) (hsbx : sb ≠ bx) (hsvB : sv < B) (hBW : B ≤ W.heap.size) (hsv : w0.heap.size ≤ sv) (hxb : w0.heap.size ≤ bx) (hG : w0.grownBy W (some p)) :
    Calls Tryz.prog 45 #[tokV t, .pointer (some ⟨sb, 0, none⟩), .pointer (some ⟨rb, 0, none⟩), .pointer (some ⟨bx, 0, none⟩)] W fun e w' => PaR (OStt B p rb bx sb sv) p s room w0 (.inr ((acc.1 ++ [strOfNums t.s], acc.2 ++ [v]), q3)) e w' ∧ KeepT W w' := by
  obtain ⟨hJ, hB, hsz⟩ := okT_str hok
  obtain ⟨is, his, hs0, hs1, hs2⟩ := info_parts info_str
  obtain ⟨i0, hi, hi0, hi1, hi2⟩ := info_parts info_json
  have hM : ∀ W, Calls Tryz.prog 27 #[tokV t, .int .i64 7] W fun e w' => (∃ v, e = .returned v) ∧ Below W.heap.size W w' := fun W => (must_any t 7 W).mono fun e w' h => ⟨by have h1 := h.1; rwa [if_pos hk] at h1, h.2⟩
  have hM2 : ∀ W, Calls Tryz.prog 27 #[tokV c, .int .i64 5] W fun e w' => (∃ v, e = .returned v) ∧ Below W.heap.size W w' := fun W => (must_any c 5 W).mono fun e w' h => ⟨by have h1 := h.1; rwa [if_pos hc] at h1, h.2⟩
  clear hok hk hc
  obtain ⟨tk, ta, te, ts, tn⟩ := t
  obtain ⟨ck, ca, ce, cts, cn⟩ := c
  obtain ⟨uk, ua, ue, us, un⟩ := u
  obtain ⟨ns, ys⟩ := acc
  unfold NxR at hN1 hN2
  simp only [tokV, tokC] at hM hM2 hB hsz htw hN1 hN2 hth hl ⊢
  obtain ⟨hbr, hbs, ⟨hs, hN, hhs⟩, h8, h9, na, nc, a, c, cs, hx, hn, hown, hel⟩ := h
  simp only at hhs h8 h9 hN hx hn hown hel
  rw [← hhs] at htw
  have H9 := Lib.hid h9
  clear h9
  have hA1 := (Below.refl _ W).alloc (Nat.le_refl _) (.cells #[.int .i64 tk, .int .i64 ta, .int .i64 te, .string (strOfNums ts), .int .i64 tn] 60)
  have hz1 := tok_cells (W := W) tk ta te tn ts
  obtain ⟨⟨t0, t1, t2, t3, t4⟩, _⟩ := box5 hz1
  go_enter Tryz.func45, Tryz.ntmps45
  go_wp2_with (first
    | (go_at_call 27; first
       | ((with_reducible refine (hM _).mono ?_); rintro e w2 ⟨⟨u, rfl⟩, hB2⟩; have hC2 := hA1.trans (hB2.mono hA1.size); have hz2 := gat_below hB2 hz1; obtain ⟨⟨a0, a1, a2, a3, a4⟩, _⟩ := box5 hz2; have s2 := (show Boxed w2 sb _ _ from (hC2.block sb hbs.lt).trans hbs).cell)
       | ((with_reducible refine (hM2 _).mono ?_); rintro e w5 ⟨⟨u5, rfl⟩, hB5⟩; have hx5 := jat_below hB5 hx4; obtain ⟨⟨x0, x1, x2, x3, x4⟩, _⟩ := jbox5 hx5; have hz5 := gat_below hB5 hz4; obtain ⟨⟨c0, c1, c2, c3, c4⟩, _⟩ := box5 hz5; have hx5' := jat_old hx5 (.cells #[.string (strOfNums ts)] 9); have hn5 : (w5.alloc (.cells #[.string (strOfNums ts)] 9)).ownsRow B 9 1 (.slice na ns.length nc) ns.length (ns.map Value.string) := (own_keptJ hn (fun b b1 b2 _ => o1_k5 hC2 hg3 hg4 hB5 b b2 (by omega) (by omega))).alloc _; have hBz : B ≤ (w5.alloc (.cells #[.string (strOfNums ts)] 9)).heap.size := (by have := hC2.size; have := hg3.size; have := hg4.size; have := hB5.size; simp; omega)))
    | (go_at_call 23; (with_reducible refine (nameAdd_any sv ns.length hs _ _ (nset_below hN hC2) (by omega) (by unfold maxLen; omega)).mono ?_); rintro e w3 ⟨rfl, hN3, hg3⟩; rw [htw]; have hz3 : GAt w3 W.heap.size _ := (hg3.block _ (gat_lt hz2) (fun e => by have := nset_lt hN; cases e; omega)).trans hz2; have s3 := (show Boxed w3 rb _ _ from (hg3.block rb (by have := hC2.size; have := hbr.lt; omega) (fun e => nset_ne hN hbr (by cases e; rfl))).trans ((hC2.block rb hbr.lt).trans hbr)).cell; have hr3 : RJ w3 p s q room := rj_kept (rj_below hr hC2) hg3 (fun e => hps (by cases e; rfl)))
    | (go_at_call 26; (with_reducible refine (hN1 _ hr3 (err_set (err_below hE hC2) (nset_below hN hC2) hg3)).mono ?_); rintro e w4 ⟨rfl, hr4, hg4⟩; have hz4 : GAt w4 W.heap.size _ := (hg4.block _ (gat_lt hz3) (fun e => by have := rj_lt hr; cases e; omega)).trans hz3; have hx4 : JAt w4 bx _ := (hg4.block bx (by have := hg3.size; have := hC2.size; have := jat_lt hx; omega) (fun e => hpx (by cases e; rfl))).trans ((hg3.block bx (by have := hC2.size; have := jat_lt hx; omega) (fun e => nset_ne hN hx (by cases e; rfl))).trans (jat_below hC2 hx)))
    | (at_builtin; refine wpList_append_at _ rfl _ _ 22 rfl B 9 is _ 1 16 Tryz.underlying22 his hs0 hs1 hs2 rfl (by decide) (.slice na ns.length nc) ns.length (ns.map Value.string) rfl hn5 (some ⟨w5.heap.size, 0, none⟩) 1 1 [.string (strOfNums ts)] rfl (cellsJ1 _ _ _) (by simp [Value.oneCell']) (by unfold maxLen; omega) (by omega) hBz ?_; intro v6 w6 hown6 hgr6 hat6; obtain ⟨g6, c6, rfl⟩ := ownsRow_succ hown6; have hx6 : JAt w6 bx _ := (hgr6.block bx (jat_lt hx5') (fun e => by have := (own_blkJ hn bx e.symm).2.1; omega)).trans hx5'; obtain ⟨⟨d0, d1, d2, d3, d4⟩, l0, l1, l2, l3, l4⟩ := jbox5 hx6))
  have M := o1_mid hbr hbs hN hx hn hown hel hr hp hrb hbx hpx hrx hpsb hps hsb hsbx hsvB hBW hsv hxb hG hC2 hg3 hN3 hr3 hg4 hr4 hB5 hgr6 hown6 hat6
  obtain ⟨W1, hW1⟩ : ∃ W1, w6.setCell ⟨bx, 3, none⟩ (.slice (some ⟨g6, 0, none⟩) (ns.length + 1) c6) = W1 := ⟨_, rfl⟩
  rw [hW1] at M ⊢
  obtain ⟨Wz, hWz⟩ : ∃ Wz, W.heap.size = Wz := ⟨_, rfl⟩
  rw [hWz] at ⊢
  have HX3 : Hid (∃ na nc, Value.slice (some ⟨g6, 0, none⟩) (ns.length + 1) c6 = .slice na (ns ++ [strOfNums ts]).length nc) := Lib.hid ⟨some ⟨g6, 0, none⟩, c6, by rw [List.length_append]; rfl⟩
  obtain ⟨x3, hx3⟩ : ∃ x3, Value.slice (some ⟨g6, 0, none⟩) (ns.length + 1) c6 = x3 := ⟨_, rfl⟩
  rw [hx3] at M HX3
  clear hx3 hW1 hWz hx6 d0 d1 d2 d3 d4 l0 l1 l2 l3 l4 hat6 hgr6 hown6 hBz hn5 hx5' hz5 c0 c1 c2 c3 c4 hx5 x0 x1 x2 x4 hB5 hx4 hz4 hr4 hg4 hr3 s3 hz3 hN3 hg3 s2 hz2 a0 a1 a2 a3 a4 hC2 hB2 hA1 hz1 t0 t1 t2 t3 t4 hbr hbs hN hx hn hown hel hM hM2 hN1
  have hr1 := M.hr
  have hbr1 := M.hbr
  have hx1 := M.hx
  have hown1 := M.hown
  have hBF := M.hBF
  have hzp : W1.heap.size ≠ p := by have := rj_lt hr1; omega
  have hyl : ys.length ≤ 100000 := by have := H9.out; omega
  have hNx : ∀ V, W1.grownBy V (some p) → RJ V p s q1 room → Calls Tryz.prog 26 #[.pointer (some ⟨p, 0, none⟩)] V (fun e w' => e = .returned (.agg #[.int .i64 uk, .int .i64 ua, .int .i64 ue, .string (strOfNums us), .int .i64 un]) ∧ RJ w' p s q2 room ∧ W1.grownBy w' (some p) ∧ V.grownBy w' (some p)) := fun V hV hrV =>
    (hN2 V hrV (err_grownJ hE0 (grownJ_then M.hG hV (fun b e => .inr e)) (fun e => hpe (by cases e; rfl)))).mono fun e w' h => ⟨h.1, h.2.1, grownJ_then hV h.2.2 (fun b e => .inr e), h.2.2⟩
  have hTh : ∀ V, W1.grownBy V (some p) → RJ V p s q2 room → Calls Tryz.prog 25 #[.pointer (some ⟨p, 0, none⟩), .agg #[.int .i64 uk, .int .i64 ua, .int .i64 ue, .string (strOfNums us), .int .i64 un]] V (fun e w' => L1A2 (.int .i64 6) (.int .i64 0) (.string ⟨#[]⟩) x3 s room B p rb bx a c ys cs v q3 W1 V e w') := fun V hV hrV =>
    (hth V hrV (err_grownJ hE0 (grownJ_then M.hG hV (fun b e => .inr e)) (fun e => hpe (by cases e; rfl)))).mono fun e w' h => l1_of2 hV hx1 hown1 hbr1 hpx (by omega) (by omega) h
  have hBz := (Below.refl W1.heap.size W1).alloc (Nat.le_refl _) (.cells #[.int .i64 0, .int .i64 0, .string ⟨#[]⟩, .slice none 0 0, .slice none 0 0] 25)
  have hga : W1.grownBy W1.drew (some p) := grownJ_of_below (Below.refl _ W1).drew _
  have hra := rj_below hr1 (Below.refl _ W1).drew
  have hgb : W1.grownBy (W1.alloc (.cells #[.int .i64 0, .int .i64 0, .string ⟨#[]⟩, .slice none 0 0, .slice none 0 0] 25)).drew (some p) := grownJ_of_below hBz.drew _
  have hrb' := rj_below hr1 hBz.drew
  have hne1 : some rb ≠ some p := fun e => by cases e; omega
  have hS1 := hbr1.cell
  obtain ⟨⟨p0, p1, p2, p3, p4⟩, _⟩ := jbox5 hx1
  obtain ⟨⟨q0', q1', q2', q3', q4'⟩, _⟩ := jbox5 (jat_below hBz hx1)
  have r0 := hbr1.cell
  have r1 := (hbr1.alloc (.cells #[.int .i64 0, .int .i64 0, .string ⟨#[]⟩, .slice none 0 0, .slice none 0 0] 25)).cell
  have hbig : (ys.length : Int) < (ys.length : Int) + 1 := by omega
  clear hN2 hth
  refine wp_region_held_drew (S := fun W => W.cell? ⟨rb, 0, none⟩ = some (.pointer (some ⟨p, 0, none⟩))) (by kernel_rfl) hS1 (fun hHeld => ?_)
  refine wpAnyH_take (i := 0) (v := ?_) rfl (by kernel_rfl) (by kernel_rfl) (by kernel_rfl) (fun _ _ _ h => h) (Or.inl ⟨by rfl, ?_⟩) (by assumption) ?_
  rotate_left
  · intro w hSw; go_simp; (try with_reducible rfl)
  (try simp only [Act.put, List.setIfInBounds_toArray, List.set_cons_zero, List.set_cons_succ])
  refine wpAnyH_take (i := 2) (v := ?_) rfl (by kernel_rfl) (by kernel_rfl) (by kernel_rfl) (fun _ _ _ h => h) (Or.inl ⟨by rfl, ?_⟩) (by assumption) ?_
  rotate_left
  · intro w hSw; go_simp; (try with_reducible rfl)
  (try simp only [Act.put, List.setIfInBounds_toArray, List.set_cons_zero, List.set_cons_succ])
  refine wpAnyH_take (i := 3) (v := ?_) rfl (by kernel_rfl) (by kernel_rfl) (by kernel_rfl) (fun _ _ _ h => h) (Or.inl ⟨by rfl, ?_⟩) (by assumption) ?_
  rotate_left
  · intro w hSw; go_simp; (try with_reducible rfl)
  (try simp only [Act.put, List.setIfInBounds_toArray, List.set_cons_zero, List.set_cons_succ])
  refine wpAnyH_ready (rs := [1, 4, 7]) (by kernel_rfl) (by simp) (AllReadyH.cons rfl (fun K hK => ?_) (AllReadyH.cons rfl (fun K hK => ?_) (AllReadyH.cons rfl (fun K hK => ?_) AllReadyH.nil)))
  · go_simp
    refine hK.out _ _ (hHeld) (fun hHeld => ?_)
    clear hK K
    refine wpAnyH_take (i := 6) (v := ?_) rfl (by kernel_rfl) (by kernel_rfl) (by kernel_rfl) (fun _ _ _ h => h) (Or.inl ⟨by rfl, ?_⟩) (by assumption) ?_
    rotate_left
    · intro w hSw; go_simp; (try with_reducible rfl)
    (try simp only [Act.put, List.setIfInBounds_toArray, List.set_cons_zero, List.set_cons_succ])
    refine wpAnyH_ready (rs := [4, 7]) (by kernel_rfl) (by simp) (AllReadyH.cons rfl (fun K hK => ?_) (AllReadyH.cons rfl (fun K hK => ?_) AllReadyH.nil))
    · go_simp; (with_reducible refine (hNx _ hga hra).mono ?_); rintro e wn ⟨rfl, hrn, hgn, hgv⟩; have hsn := hgn.size; have hxn : JAt wn bx _ := (hgn.block bx (jat_lt hx1) (fun e => hpx (by cases e; rfl))).trans hx1; obtain ⟨⟨m0, m1, m2, m3, m4⟩, _⟩ := jbox5 hxn; have hxn5 := jat_old hxn (.cells #[.int .i64 0, .int .i64 0, .string ⟨#[]⟩, .slice none 0 0, .slice none 0 0] 25); obtain ⟨⟨n0, n1, n2, n3, n4⟩, _⟩ := jbox5 hxn5; have hrn5 := rj_below hrn ((Below.refl _ wn).alloc (Nat.le_refl _) (.cells #[.int .i64 0, .int .i64 0, .string ⟨#[]⟩, .slice none 0 0, .slice none 0 0] 25)); have hgn5 : W1.grownBy (wn.alloc (.cells #[.int .i64 0, .int .i64 0, .string ⟨#[]⟩, .slice none 0 0, .slice none 0 0] 25)) (some p) := grownJ_then hgn (World.grownBy_alloc _ _ none) (fun b e => by cases e); have hzn5 := jat_alloc wn #[.int .i64 0, .int .i64 0, .string ⟨#[]⟩, .slice none 0 0, .slice none 0 0]
      refine hK.out _ _ (rb_kept hS1 hgn hne1) (fun hHeld => ?_)
      clear hK K
      refine wpAnyH_ready (rs := [5, 7]) (by kernel_rfl) (by simp) (AllReadyH.cons rfl (fun K hK => ?_) (AllReadyH.cons rfl (fun K hK => ?_) AllReadyH.nil))
      · go_simp; (with_reducible refine (hTh _ hgn hrn).mono ?_); rintro e w4 ⟨k, n, t, na', nl, nc', a', len, cap, rfl, hF4, hx4, hown4, hR4, hb4, hg4, hgv4⟩; have hs4 := hg4.size; obtain ⟨⟨m0, m1, m2, m3, m4⟩, _⟩ := jbox5 hx4; have hown5 := hown4.alloc (.cells #[.int .i64 0, .int .i64 0, .string ⟨#[]⟩, .slice none 0 0, .slice none 0 0] 25); have hx5 := jat_old hx4 (.cells #[.int .i64 0, .int .i64 0, .string ⟨#[]⟩, .slice none 0 0, .slice none 0 0] 25); obtain ⟨⟨n0, n1, n2, n3, n4⟩, _⟩ := jbox5 hx5
        refine hK.out _ _ (rb_kept hS1 hg4 hne1) (fun hHeld => ?_)
        clear hK K
        refine wpAnyH_ready (rs := [7]) (by kernel_rfl) (by simp) (AllReadyH.cons rfl (fun K hK => ?_) AllReadyH.nil)
        · go_simp
          refine hK.out _ _ (rb_kept hHeld (World.grownBy_alloc _ _ none) (by simp)) (fun hHeld => ?_)
          clear hK K
          refine wpAnyH_ready (rs := [8]) (by kernel_rfl) (by simp) (AllReadyH.cons rfl (fun K hK => ?_) AllReadyH.nil)
          · refine step_append_at _ rfl _ _ 23 rfl B 25 i0 (.agg jzero) 5 80 Tryz.underlying23 hi hi0 hi1 hi2 rfl (by decide) (.slice a ys.length c) ys.length cs (by first | rfl | simp [Act.eval]) hown5 (some ⟨w4.heap.size, 0, none⟩) 1 1 [.int .i64 0, .int .i64 0, .string ⟨#[]⟩, .slice none 0 0, .slice none 0 0] (by first | rfl | simp [Act.eval]) ⟨rfl, .inr ⟨_, rfl, cells_new w4 [_, _, _, _, _] _⟩⟩ (by simp [Value.oneCell']) (by unfold maxLen; omega) (by omega) (by simp; omega) ?_; intro v6 w6 hown6 hgr6 hat6; obtain ⟨g6, c6, rfl⟩ := ownsRow_succ hown6; obtain ⟨⟨e0, e1, e2, e3, e4⟩, y0, y1, y2, y3, y4⟩ := own_last hown6; have hx6 := jat_own hx5 hgr6 hown5 hbx; obtain ⟨⟨f0, f1, f2, f3, f4⟩, l0, l1, l2, l3, l4⟩ := jbox5 hx6; have hx7 := jat_past5 hx6 hown6 hbx k n t na' nl nc' a' len cap; obtain ⟨⟨s0, s1, s2, s3, s4⟩, _⟩ := jbox5 hx7; have hown8 := ownsRow_setCell_below (a := ⟨bx, 4, none⟩) hown6 hbx (.slice (some ⟨g6, 0, none⟩) (ys.length + 1) c6); obtain ⟨⟨d0, d1, d2, d3, d4⟩, _⟩ := own_last hown8
            refine hK.out _ _ (rb_kept hHeld hgr6 (fun e => by have := (own_blkJ hown5 _ e.symm).2.1; omega)) (fun hHeld => ?_)
            clear hK K
            refine wpAnyH_take (i := 9) (v := ?_) rfl (by kernel_rfl) (by kernel_rfl) (by kernel_rfl) (fun _ _ _ h => h) (Or.inl ⟨by rfl, ?_⟩) (by assumption) ?_
            rotate_left
            · intro w hSw; go_simp; (try with_reducible rfl)
            (try simp only [Act.put, List.setIfInBounds_toArray, List.set_cons_zero, List.set_cons_succ])
            refine wpAnyH_take (i := 11) (v := ?_) rfl (by kernel_rfl) (by kernel_rfl) (by kernel_rfl) (fun _ _ _ h => h) (Or.inl ⟨by rfl, ?_⟩) (by assumption) ?_
            rotate_left
            · intro w hSw; go_simp; (try with_reducible rfl)
            (try simp only [Act.put, List.setIfInBounds_toArray, List.set_cons_zero, List.set_cons_succ])
            refine wpAnyH_ready (rs := [10, 12]) (by kernel_rfl) (by simp) (AllReadyH.cons rfl (fun K hK => ?_) (AllReadyH.cons rfl (fun K hK => ?_) AllReadyH.nil))
            · go_simp
              refine hK.out _ _ (rb_kept hHeld (grown_sets9 _ _ _ _ _ _ _ _ _ _ _ _) (fun e => by have := (own_blkJ hown6 g6 rfl).2.1; cases e; omega)) (fun hHeld => ?_)
              clear hK K
              refine wpAnyH_ready (rs := [12]) (by kernel_rfl) (by simp) (AllReadyH.cons rfl (fun K hK => ?_) AllReadyH.nil)
              · go_simp
                refine hK.out _ _ (rb_kept hHeld (grownJ_set _ bx 4 _) (fun e => hrx (by cases e; rfl))) (fun hHeld => ?_)
                clear hK K
                refine wpAnyH_done (by kernel_rfl) ?_ _
                refine bodyPost_end (results_none rfl _ _ _) rfl ?_
                exact o1_fin (v := v) (room := room) (.inl rfl) M HX3 hhs h8 hsz H9 hp hrb hbx hpx hrx hpsb hps hsb hsbx hsvB hxb hF4 hx4 hR4 hb4 hg4 ((Below.refl _ _).alloc (Nat.le_refl _) _) hown5 hgr6 hown6 hat6 hx6
            · go_simp
              refine hK.out _ _ (rb_kept hHeld (grownJ_set _ bx 4 _) (fun e => hrx (by cases e; rfl))) (fun hHeld => ?_)
              clear hK K
              refine wpAnyH_ready (rs := [10]) (by kernel_rfl) (by simp) (AllReadyH.cons rfl (fun K hK => ?_) AllReadyH.nil)
              · go_simp
                refine hK.out _ _ (rb_kept hHeld (grown_sets9 _ _ _ _ _ _ _ _ _ _ _ _) (fun e => by have := (own_blkJ hown6 g6 rfl).2.1; cases e; omega)) (fun hHeld => ?_)
                clear hK K
                refine wpAnyH_done (by kernel_rfl) ?_ _
                refine bodyPost_end (results_none rfl _ _ _) rfl ?_
                exact o1_fin (v := v) (room := room) (.inr rfl) M HX3 hhs h8 hsz H9 hp hrb hbx hpx hrx hpsb hps hsb hsbx hsvB hxb hF4 hx4 hR4 hb4 hg4 ((Below.refl _ _).alloc (Nat.le_refl _) _) hown5 hgr6 hown6 hat6 hx6
      · go_simp
        refine hK.out _ _ (rb_kept hHeld (World.grownBy_alloc _ _ none) (by simp)) (fun hHeld => ?_)
        clear hK K
        refine wpAnyH_ready (rs := [5]) (by kernel_rfl) (by simp) (AllReadyH.cons rfl (fun K hK => ?_) AllReadyH.nil)
        · go_simp; (with_reducible refine (hTh _ hgn5 hrn5).mono ?_); rintro e w4 ⟨k, n, t, na', nl, nc', a', len, cap, rfl, hF4, hx4, hown4, hR4, hb4, hg4, hgv4⟩; have hs4 := hg4.size; obtain ⟨⟨m0, m1, m2, m3, m4⟩, _⟩ := jbox5 hx4; have hzz : JAt w4 wn.heap.size _ := (hgv4.block _ (jat_lt hzn5) (fun e => by have := rj_lt hrn; cases e; omega)).trans hzn5
          refine hK.out _ _ (rb_kept hS1 hg4 hne1) (fun hHeld => ?_)
          clear hK K
          refine wpAnyH_ready (rs := [8]) (by kernel_rfl) (by simp) (AllReadyH.cons rfl (fun K hK => ?_) AllReadyH.nil)
          · refine step_append_at _ rfl _ _ 23 rfl B 25 i0 (.agg jzero) 5 80 Tryz.underlying23 hi hi0 hi1 hi2 rfl (by decide) (.slice a ys.length c) ys.length cs (by first | rfl | simp [Act.eval]) hown4 (some ⟨wn.heap.size, 0, none⟩) 1 1 [.int .i64 0, .int .i64 0, .string ⟨#[]⟩, .slice none 0 0, .slice none 0 0] (by first | rfl | simp [Act.eval]) (cells_jat hzz) (by simp [Value.oneCell']) (by unfold maxLen; omega) (by omega) (by omega) ?_; intro v6 w6 hown6 hgr6 hat6; obtain ⟨g6, c6, rfl⟩ := ownsRow_succ hown6; obtain ⟨⟨e0, e1, e2, e3, e4⟩, y0, y1, y2, y3, y4⟩ := own_last hown6; have hx6 := jat_own hx4 hgr6 hown4 hbx; obtain ⟨⟨f0, f1, f2, f3, f4⟩, l0, l1, l2, l3, l4⟩ := jbox5 hx6; have hx7 := jat_past5 hx6 hown6 hbx k n t na' nl nc' a' len cap; obtain ⟨⟨s0, s1, s2, s3, s4⟩, _⟩ := jbox5 hx7; have hown8 := ownsRow_setCell_below (a := ⟨bx, 4, none⟩) hown6 hbx (.slice (some ⟨g6, 0, none⟩) (ys.length + 1) c6); obtain ⟨⟨d0, d1, d2, d3, d4⟩, _⟩ := own_last hown8
            refine hK.out _ _ (rb_kept hHeld hgr6 (fun e => by have := (own_blkJ hown4 _ e.symm).2.1; omega)) (fun hHeld => ?_)
            clear hK K
            refine wpAnyH_take (i := 9) (v := ?_) rfl (by kernel_rfl) (by kernel_rfl) (by kernel_rfl) (fun _ _ _ h => h) (Or.inl ⟨by rfl, ?_⟩) (by assumption) ?_
            rotate_left
            · intro w hSw; go_simp; (try with_reducible rfl)
            (try simp only [Act.put, List.setIfInBounds_toArray, List.set_cons_zero, List.set_cons_succ])
            refine wpAnyH_take (i := 11) (v := ?_) rfl (by kernel_rfl) (by kernel_rfl) (by kernel_rfl) (fun _ _ _ h => h) (Or.inl ⟨by rfl, ?_⟩) (by assumption) ?_
            rotate_left
            · intro w hSw; go_simp; (try with_reducible rfl)
            (try simp only [Act.put, List.setIfInBounds_toArray, List.set_cons_zero, List.set_cons_succ])
            refine wpAnyH_ready (rs := [10, 12]) (by kernel_rfl) (by simp) (AllReadyH.cons rfl (fun K hK => ?_) (AllReadyH.cons rfl (fun K hK => ?_) AllReadyH.nil))
            · go_simp
              refine hK.out _ _ (rb_kept hHeld (grown_sets9 _ _ _ _ _ _ _ _ _ _ _ _) (fun e => by have := (own_blkJ hown6 g6 rfl).2.1; cases e; omega)) (fun hHeld => ?_)
              clear hK K
              refine wpAnyH_ready (rs := [12]) (by kernel_rfl) (by simp) (AllReadyH.cons rfl (fun K hK => ?_) AllReadyH.nil)
              · go_simp
                refine hK.out _ _ (rb_kept hHeld (grownJ_set _ bx 4 _) (fun e => hrx (by cases e; rfl))) (fun hHeld => ?_)
                clear hK K
                refine wpAnyH_done (by kernel_rfl) ?_ _
                refine bodyPost_end (results_none rfl _ _ _) rfl ?_
                exact o1_fin (v := v) (room := room) (.inl rfl) M HX3 hhs h8 hsz H9 hp hrb hbx hpx hrx hpsb hps hsb hsbx hsvB hxb hF4 hx4 hR4 hb4 hg4 (Below.refl _ _) hown4 hgr6 hown6 hat6 hx6
            · go_simp
              refine hK.out _ _ (rb_kept hHeld (grownJ_set _ bx 4 _) (fun e => hrx (by cases e; rfl))) (fun hHeld => ?_)
              clear hK K
              refine wpAnyH_ready (rs := [10]) (by kernel_rfl) (by simp) (AllReadyH.cons rfl (fun K hK => ?_) AllReadyH.nil)
              · go_simp
                refine hK.out _ _ (rb_kept hHeld (grown_sets9 _ _ _ _ _ _ _ _ _ _ _ _) (fun e => by have := (own_blkJ hown6 g6 rfl).2.1; cases e; omega)) (fun hHeld => ?_)
                clear hK K
                refine wpAnyH_done (by kernel_rfl) ?_ _
                refine bodyPost_end (results_none rfl _ _ _) rfl ?_
                exact o1_fin (v := v) (room := room) (.inr rfl) M HX3 hhs h8 hsz H9 hp hrb hbx hpx hrx hpsb hps hsb hsbx hsvB hxb hF4 hx4 hR4 hb4 hg4 (Below.refl _ _) hown4 hgr6 hown6 hat6 hx6
    · go_simp
      refine hK.out _ _ (rb_kept hHeld (World.grownBy_alloc _ _ none) (by simp)) (fun hHeld => ?_)
      clear hK K
      refine wpAnyH_ready (rs := [4]) (by kernel_rfl) (by simp) (AllReadyH.cons rfl (fun K hK => ?_) AllReadyH.nil)
      · go_simp; (with_reducible refine (hNx _ hgb hrb').mono ?_); rintro e wn ⟨rfl, hrn, hgn, hgv⟩; have hsn := hgn.size; have hxn : JAt wn bx _ := (hgn.block bx (jat_lt hx1) (fun e => hpx (by cases e; rfl))).trans hx1; obtain ⟨⟨m0, m1, m2, m3, m4⟩, _⟩ := jbox5 hxn; have hzn : JAt wn W1.heap.size _ := (hgv.block _ (by simp) (fun e => hzp (by cases e; rfl))).trans (jat_alloc_drew W1 _)
        refine hK.out _ _ (rb_kept hS1 hgn hne1) (fun hHeld => ?_)
        clear hK K
        refine wpAnyH_ready (rs := [5]) (by kernel_rfl) (by simp) (AllReadyH.cons rfl (fun K hK => ?_) AllReadyH.nil)
        · go_simp; (with_reducible refine (hTh _ hgn hrn).mono ?_); rintro e w4 ⟨k, n, t, na', nl, nc', a', len, cap, rfl, hF4, hx4, hown4, hR4, hb4, hg4, hgv4⟩; have hs4 := hg4.size; obtain ⟨⟨m0, m1, m2, m3, m4⟩, _⟩ := jbox5 hx4; have hzz : JAt w4 W1.heap.size _ := (hgv4.block _ (jat_lt hzn) (fun e => hzp (by cases e; rfl))).trans hzn
          refine hK.out _ _ (rb_kept hS1 hg4 hne1) (fun hHeld => ?_)
          clear hK K
          refine wpAnyH_ready (rs := [8]) (by kernel_rfl) (by simp) (AllReadyH.cons rfl (fun K hK => ?_) AllReadyH.nil)
          · refine step_append_at _ rfl _ _ 23 rfl B 25 i0 (.agg jzero) 5 80 Tryz.underlying23 hi hi0 hi1 hi2 rfl (by decide) (.slice a ys.length c) ys.length cs (by first | rfl | simp [Act.eval]) hown4 (some ⟨W1.heap.size, 0, none⟩) 1 1 [.int .i64 0, .int .i64 0, .string ⟨#[]⟩, .slice none 0 0, .slice none 0 0] (by first | rfl | simp [Act.eval]) (cells_jat hzz) (by simp [Value.oneCell']) (by unfold maxLen; omega) (by omega) (by omega) ?_; intro v6 w6 hown6 hgr6 hat6; obtain ⟨g6, c6, rfl⟩ := ownsRow_succ hown6; obtain ⟨⟨e0, e1, e2, e3, e4⟩, y0, y1, y2, y3, y4⟩ := own_last hown6; have hx6 := jat_own hx4 hgr6 hown4 hbx; obtain ⟨⟨f0, f1, f2, f3, f4⟩, l0, l1, l2, l3, l4⟩ := jbox5 hx6; have hx7 := jat_past5 hx6 hown6 hbx k n t na' nl nc' a' len cap; obtain ⟨⟨s0, s1, s2, s3, s4⟩, _⟩ := jbox5 hx7; have hown8 := ownsRow_setCell_below (a := ⟨bx, 4, none⟩) hown6 hbx (.slice (some ⟨g6, 0, none⟩) (ys.length + 1) c6); obtain ⟨⟨d0, d1, d2, d3, d4⟩, _⟩ := own_last hown8
            refine hK.out _ _ (rb_kept hHeld hgr6 (fun e => by have := (own_blkJ hown4 _ e.symm).2.1; omega)) (fun hHeld => ?_)
            clear hK K
            refine wpAnyH_take (i := 9) (v := ?_) rfl (by kernel_rfl) (by kernel_rfl) (by kernel_rfl) (fun _ _ _ h => h) (Or.inl ⟨by rfl, ?_⟩) (by assumption) ?_
            rotate_left
            · intro w hSw; go_simp; (try with_reducible rfl)
            (try simp only [Act.put, List.setIfInBounds_toArray, List.set_cons_zero, List.set_cons_succ])
            refine wpAnyH_take (i := 11) (v := ?_) rfl (by kernel_rfl) (by kernel_rfl) (by kernel_rfl) (fun _ _ _ h => h) (Or.inl ⟨by rfl, ?_⟩) (by assumption) ?_
            rotate_left
            · intro w hSw; go_simp; (try with_reducible rfl)
            (try simp only [Act.put, List.setIfInBounds_toArray, List.set_cons_zero, List.set_cons_succ])
            refine wpAnyH_ready (rs := [10, 12]) (by kernel_rfl) (by simp) (AllReadyH.cons rfl (fun K hK => ?_) (AllReadyH.cons rfl (fun K hK => ?_) AllReadyH.nil))
            · go_simp
              refine hK.out _ _ (rb_kept hHeld (grown_sets9 _ _ _ _ _ _ _ _ _ _ _ _) (fun e => by have := (own_blkJ hown6 g6 rfl).2.1; cases e; omega)) (fun hHeld => ?_)
              clear hK K
              refine wpAnyH_ready (rs := [12]) (by kernel_rfl) (by simp) (AllReadyH.cons rfl (fun K hK => ?_) AllReadyH.nil)
              · go_simp
                refine hK.out _ _ (rb_kept hHeld (grownJ_set _ bx 4 _) (fun e => hrx (by cases e; rfl))) (fun hHeld => ?_)
                clear hK K
                refine wpAnyH_done (by kernel_rfl) ?_ _
                refine bodyPost_end (results_none rfl _ _ _) rfl ?_
                exact o1_fin (v := v) (room := room) (.inl rfl) M HX3 hhs h8 hsz H9 hp hrb hbx hpx hrx hpsb hps hsb hsbx hsvB hxb hF4 hx4 hR4 hb4 hg4 (Below.refl _ _) hown4 hgr6 hown6 hat6 hx6
            · go_simp
              refine hK.out _ _ (rb_kept hHeld (grownJ_set _ bx 4 _) (fun e => hrx (by cases e; rfl))) (fun hHeld => ?_)
              clear hK K
              refine wpAnyH_ready (rs := [10]) (by kernel_rfl) (by simp) (AllReadyH.cons rfl (fun K hK => ?_) AllReadyH.nil)
              · go_simp
                refine hK.out _ _ (rb_kept hHeld (grown_sets9 _ _ _ _ _ _ _ _ _ _ _ _) (fun e => by have := (own_blkJ hown6 g6 rfl).2.1; cases e; omega)) (fun hHeld => ?_)
                clear hK K
                refine wpAnyH_done (by kernel_rfl) ?_ _
                refine bodyPost_end (results_none rfl _ _ _) rfl ?_
                exact o1_fin (v := v) (room := room) (.inr rfl) M HX3 hhs h8 hsz H9 hp hrb hbx hpx hrx hpsb hps hsb hsbx hsvB hxb hF4 hx4 hR4 hb4 hg4 (Below.refl _ _) hown4 hgr6 hown6 hat6 hx6
  · go_simp; (with_reducible refine (hNx _ hga hra).mono ?_); rintro e wn ⟨rfl, hrn, hgn, hgv⟩; have hsn := hgn.size; have hxn : JAt wn bx _ := (hgn.block bx (jat_lt hx1) (fun e => hpx (by cases e; rfl))).trans hx1; obtain ⟨⟨m0, m1, m2, m3, m4⟩, _⟩ := jbox5 hxn; have hxn5 := jat_old hxn (.cells #[.int .i64 0, .int .i64 0, .string ⟨#[]⟩, .slice none 0 0, .slice none 0 0] 25); obtain ⟨⟨n0, n1, n2, n3, n4⟩, _⟩ := jbox5 hxn5; have hrn5 := rj_below hrn ((Below.refl _ wn).alloc (Nat.le_refl _) (.cells #[.int .i64 0, .int .i64 0, .string ⟨#[]⟩, .slice none 0 0, .slice none 0 0] 25)); have hgn5 : W1.grownBy (wn.alloc (.cells #[.int .i64 0, .int .i64 0, .string ⟨#[]⟩, .slice none 0 0, .slice none 0 0] 25)) (some p) := grownJ_then hgn (World.grownBy_alloc _ _ none) (fun b e => by cases e); have hzn5 := jat_alloc wn #[.int .i64 0, .int .i64 0, .string ⟨#[]⟩, .slice none 0 0, .slice none 0 0]
    refine hK.out _ _ (rb_kept hS1 hgn hne1) (fun hHeld => ?_)
    clear hK K
    refine wpAnyH_ready (rs := [1, 5, 7]) (by kernel_rfl) (by simp) (AllReadyH.cons rfl (fun K hK => ?_) (AllReadyH.cons rfl (fun K hK => ?_) (AllReadyH.cons rfl (fun K hK => ?_) AllReadyH.nil)))
    · go_simp
      refine hK.out _ _ (hHeld) (fun hHeld => ?_)
      clear hK K
      refine wpAnyH_take (i := 6) (v := ?_) rfl (by kernel_rfl) (by kernel_rfl) (by kernel_rfl) (fun _ _ _ h => h) (Or.inl ⟨by rfl, ?_⟩) (by assumption) ?_
      rotate_left
      · intro w hSw; go_simp; (try with_reducible rfl)
      (try simp only [Act.put, List.setIfInBounds_toArray, List.set_cons_zero, List.set_cons_succ])
      refine wpAnyH_ready (rs := [5, 7]) (by kernel_rfl) (by simp) (AllReadyH.cons rfl (fun K hK => ?_) (AllReadyH.cons rfl (fun K hK => ?_) AllReadyH.nil))
      · go_simp; (with_reducible refine (hTh _ hgn hrn).mono ?_); rintro e w4 ⟨k, n, t, na', nl, nc', a', len, cap, rfl, hF4, hx4, hown4, hR4, hb4, hg4, hgv4⟩; have hs4 := hg4.size; obtain ⟨⟨m0, m1, m2, m3, m4⟩, _⟩ := jbox5 hx4; have hown5 := hown4.alloc (.cells #[.int .i64 0, .int .i64 0, .string ⟨#[]⟩, .slice none 0 0, .slice none 0 0] 25); have hx5 := jat_old hx4 (.cells #[.int .i64 0, .int .i64 0, .string ⟨#[]⟩, .slice none 0 0, .slice none 0 0] 25); obtain ⟨⟨n0, n1, n2, n3, n4⟩, _⟩ := jbox5 hx5
        refine hK.out _ _ (rb_kept hS1 hg4 hne1) (fun hHeld => ?_)
        clear hK K
        refine wpAnyH_ready (rs := [7]) (by kernel_rfl) (by simp) (AllReadyH.cons rfl (fun K hK => ?_) AllReadyH.nil)
        · go_simp
          refine hK.out _ _ (rb_kept hHeld (World.grownBy_alloc _ _ none) (by simp)) (fun hHeld => ?_)
          clear hK K
          refine wpAnyH_ready (rs := [8]) (by kernel_rfl) (by simp) (AllReadyH.cons rfl (fun K hK => ?_) AllReadyH.nil)
          · refine step_append_at _ rfl _ _ 23 rfl B 25 i0 (.agg jzero) 5 80 Tryz.underlying23 hi hi0 hi1 hi2 rfl (by decide) (.slice a ys.length c) ys.length cs (by first | rfl | simp [Act.eval]) hown5 (some ⟨w4.heap.size, 0, none⟩) 1 1 [.int .i64 0, .int .i64 0, .string ⟨#[]⟩, .slice none 0 0, .slice none 0 0] (by first | rfl | simp [Act.eval]) ⟨rfl, .inr ⟨_, rfl, cells_new w4 [_, _, _, _, _] _⟩⟩ (by simp [Value.oneCell']) (by unfold maxLen; omega) (by omega) (by simp; omega) ?_; intro v6 w6 hown6 hgr6 hat6; obtain ⟨g6, c6, rfl⟩ := ownsRow_succ hown6; obtain ⟨⟨e0, e1, e2, e3, e4⟩, y0, y1, y2, y3, y4⟩ := own_last hown6; have hx6 := jat_own hx5 hgr6 hown5 hbx; obtain ⟨⟨f0, f1, f2, f3, f4⟩, l0, l1, l2, l3, l4⟩ := jbox5 hx6; have hx7 := jat_past5 hx6 hown6 hbx k n t na' nl nc' a' len cap; obtain ⟨⟨s0, s1, s2, s3, s4⟩, _⟩ := jbox5 hx7; have hown8 := ownsRow_setCell_below (a := ⟨bx, 4, none⟩) hown6 hbx (.slice (some ⟨g6, 0, none⟩) (ys.length + 1) c6); obtain ⟨⟨d0, d1, d2, d3, d4⟩, _⟩ := own_last hown8
            refine hK.out _ _ (rb_kept hHeld hgr6 (fun e => by have := (own_blkJ hown5 _ e.symm).2.1; omega)) (fun hHeld => ?_)
            clear hK K
            refine wpAnyH_take (i := 9) (v := ?_) rfl (by kernel_rfl) (by kernel_rfl) (by kernel_rfl) (fun _ _ _ h => h) (Or.inl ⟨by rfl, ?_⟩) (by assumption) ?_
            rotate_left
            · intro w hSw; go_simp; (try with_reducible rfl)
            (try simp only [Act.put, List.setIfInBounds_toArray, List.set_cons_zero, List.set_cons_succ])
            refine wpAnyH_take (i := 11) (v := ?_) rfl (by kernel_rfl) (by kernel_rfl) (by kernel_rfl) (fun _ _ _ h => h) (Or.inl ⟨by rfl, ?_⟩) (by assumption) ?_
            rotate_left
            · intro w hSw; go_simp; (try with_reducible rfl)
            (try simp only [Act.put, List.setIfInBounds_toArray, List.set_cons_zero, List.set_cons_succ])
            refine wpAnyH_ready (rs := [10, 12]) (by kernel_rfl) (by simp) (AllReadyH.cons rfl (fun K hK => ?_) (AllReadyH.cons rfl (fun K hK => ?_) AllReadyH.nil))
            · go_simp
              refine hK.out _ _ (rb_kept hHeld (grown_sets9 _ _ _ _ _ _ _ _ _ _ _ _) (fun e => by have := (own_blkJ hown6 g6 rfl).2.1; cases e; omega)) (fun hHeld => ?_)
              clear hK K
              refine wpAnyH_ready (rs := [12]) (by kernel_rfl) (by simp) (AllReadyH.cons rfl (fun K hK => ?_) AllReadyH.nil)
              · go_simp
                refine hK.out _ _ (rb_kept hHeld (grownJ_set _ bx 4 _) (fun e => hrx (by cases e; rfl))) (fun hHeld => ?_)
                clear hK K
                refine wpAnyH_done (by kernel_rfl) ?_ _
                refine bodyPost_end (results_none rfl _ _ _) rfl ?_
                exact o1_fin (v := v) (room := room) (.inl rfl) M HX3 hhs h8 hsz H9 hp hrb hbx hpx hrx hpsb hps hsb hsbx hsvB hxb hF4 hx4 hR4 hb4 hg4 ((Below.refl _ _).alloc (Nat.le_refl _) _) hown5 hgr6 hown6 hat6 hx6
            · go_simp
              refine hK.out _ _ (rb_kept hHeld (grownJ_set _ bx 4 _) (fun e => hrx (by cases e; rfl))) (fun hHeld => ?_)
              clear hK K
              refine wpAnyH_ready (rs := [10]) (by kernel_rfl) (by simp) (AllReadyH.cons rfl (fun K hK => ?_) AllReadyH.nil)
              · go_simp
                refine hK.out _ _ (rb_kept hHeld (grown_sets9 _ _ _ _ _ _ _ _ _ _ _ _) (fun e => by have := (own_blkJ hown6 g6 rfl).2.1; cases e; omega)) (fun hHeld => ?_)
                clear hK K
                refine wpAnyH_done (by kernel_rfl) ?_ _
                refine bodyPost_end (results_none rfl _ _ _) rfl ?_
                exact o1_fin (v := v) (room := room) (.inr rfl) M HX3 hhs h8 hsz H9 hp hrb hbx hpx hrx hpsb hps hsb hsbx hsvB hxb hF4 hx4 hR4 hb4 hg4 ((Below.refl _ _).alloc (Nat.le_refl _) _) hown5 hgr6 hown6 hat6 hx6
      · go_simp
        refine hK.out _ _ (rb_kept hHeld (World.grownBy_alloc _ _ none) (by simp)) (fun hHeld => ?_)
        clear hK K
        refine wpAnyH_ready (rs := [5]) (by kernel_rfl) (by simp) (AllReadyH.cons rfl (fun K hK => ?_) AllReadyH.nil)
        · go_simp; (with_reducible refine (hTh _ hgn5 hrn5).mono ?_); rintro e w4 ⟨k, n, t, na', nl, nc', a', len, cap, rfl, hF4, hx4, hown4, hR4, hb4, hg4, hgv4⟩; have hs4 := hg4.size; obtain ⟨⟨m0, m1, m2, m3, m4⟩, _⟩ := jbox5 hx4; have hzz : JAt w4 wn.heap.size _ := (hgv4.block _ (jat_lt hzn5) (fun e => by have := rj_lt hrn; cases e; omega)).trans hzn5
          refine hK.out _ _ (rb_kept hS1 hg4 hne1) (fun hHeld => ?_)
          clear hK K
          refine wpAnyH_ready (rs := [8]) (by kernel_rfl) (by simp) (AllReadyH.cons rfl (fun K hK => ?_) AllReadyH.nil)
          · refine step_append_at _ rfl _ _ 23 rfl B 25 i0 (.agg jzero) 5 80 Tryz.underlying23 hi hi0 hi1 hi2 rfl (by decide) (.slice a ys.length c) ys.length cs (by first | rfl | simp [Act.eval]) hown4 (some ⟨wn.heap.size, 0, none⟩) 1 1 [.int .i64 0, .int .i64 0, .string ⟨#[]⟩, .slice none 0 0, .slice none 0 0] (by first | rfl | simp [Act.eval]) (cells_jat hzz) (by simp [Value.oneCell']) (by unfold maxLen; omega) (by omega) (by omega) ?_; intro v6 w6 hown6 hgr6 hat6; obtain ⟨g6, c6, rfl⟩ := ownsRow_succ hown6; obtain ⟨⟨e0, e1, e2, e3, e4⟩, y0, y1, y2, y3, y4⟩ := own_last hown6; have hx6 := jat_own hx4 hgr6 hown4 hbx; obtain ⟨⟨f0, f1, f2, f3, f4⟩, l0, l1, l2, l3, l4⟩ := jbox5 hx6; have hx7 := jat_past5 hx6 hown6 hbx k n t na' nl nc' a' len cap; obtain ⟨⟨s0, s1, s2, s3, s4⟩, _⟩ := jbox5 hx7; have hown8 := ownsRow_setCell_below (a := ⟨bx, 4, none⟩) hown6 hbx (.slice (some ⟨g6, 0, none⟩) (ys.length + 1) c6); obtain ⟨⟨d0, d1, d2, d3, d4⟩, _⟩ := own_last hown8
            refine hK.out _ _ (rb_kept hHeld hgr6 (fun e => by have := (own_blkJ hown4 _ e.symm).2.1; omega)) (fun hHeld => ?_)
            clear hK K
            refine wpAnyH_take (i := 9) (v := ?_) rfl (by kernel_rfl) (by kernel_rfl) (by kernel_rfl) (fun _ _ _ h => h) (Or.inl ⟨by rfl, ?_⟩) (by assumption) ?_
            rotate_left
            · intro w hSw; go_simp; (try with_reducible rfl)
            (try simp only [Act.put, List.setIfInBounds_toArray, List.set_cons_zero, List.set_cons_succ])
            refine wpAnyH_take (i := 11) (v := ?_) rfl (by kernel_rfl) (by kernel_rfl) (by kernel_rfl) (fun _ _ _ h => h) (Or.inl ⟨by rfl, ?_⟩) (by assumption) ?_
            rotate_left
            · intro w hSw; go_simp; (try with_reducible rfl)
            (try simp only [Act.put, List.setIfInBounds_toArray, List.set_cons_zero, List.set_cons_succ])
            refine wpAnyH_ready (rs := [10, 12]) (by kernel_rfl) (by simp) (AllReadyH.cons rfl (fun K hK => ?_) (AllReadyH.cons rfl (fun K hK => ?_) AllReadyH.nil))
            · go_simp
              refine hK.out _ _ (rb_kept hHeld (grown_sets9 _ _ _ _ _ _ _ _ _ _ _ _) (fun e => by have := (own_blkJ hown6 g6 rfl).2.1; cases e; omega)) (fun hHeld => ?_)
              clear hK K
              refine wpAnyH_ready (rs := [12]) (by kernel_rfl) (by simp) (AllReadyH.cons rfl (fun K hK => ?_) AllReadyH.nil)
              · go_simp
                refine hK.out _ _ (rb_kept hHeld (grownJ_set _ bx 4 _) (fun e => hrx (by cases e; rfl))) (fun hHeld => ?_)
                clear hK K
                refine wpAnyH_done (by kernel_rfl) ?_ _
                refine bodyPost_end (results_none rfl _ _ _) rfl ?_
                exact o1_fin (v := v) (room := room) (.inl rfl) M HX3 hhs h8 hsz H9 hp hrb hbx hpx hrx hpsb hps hsb hsbx hsvB hxb hF4 hx4 hR4 hb4 hg4 (Below.refl _ _) hown4 hgr6 hown6 hat6 hx6
            · go_simp
              refine hK.out _ _ (rb_kept hHeld (grownJ_set _ bx 4 _) (fun e => hrx (by cases e; rfl))) (fun hHeld => ?_)
              clear hK K
              refine wpAnyH_ready (rs := [10]) (by kernel_rfl) (by simp) (AllReadyH.cons rfl (fun K hK => ?_) AllReadyH.nil)
              · go_simp
                refine hK.out _ _ (rb_kept hHeld (grown_sets9 _ _ _ _ _ _ _ _ _ _ _ _) (fun e => by have := (own_blkJ hown6 g6 rfl).2.1; cases e; omega)) (fun hHeld => ?_)
                clear hK K
                refine wpAnyH_done (by kernel_rfl) ?_ _
                refine bodyPost_end (results_none rfl _ _ _) rfl ?_
                exact o1_fin (v := v) (room := room) (.inr rfl) M HX3 hhs h8 hsz H9 hp hrb hbx hpx hrx hpsb hps hsb hsbx hsvB hxb hF4 hx4 hR4 hb4 hg4 (Below.refl _ _) hown4 hgr6 hown6 hat6 hx6
    · go_simp; (with_reducible refine (hTh _ hgn hrn).mono ?_); rintro e w4 ⟨k, n, t, na', nl, nc', a', len, cap, rfl, hF4, hx4, hown4, hR4, hb4, hg4, hgv4⟩; have hs4 := hg4.size; obtain ⟨⟨m0, m1, m2, m3, m4⟩, _⟩ := jbox5 hx4; have hown5 := hown4.alloc (.cells #[.int .i64 0, .int .i64 0, .string ⟨#[]⟩, .slice none 0 0, .slice none 0 0] 25); have hx5 := jat_old hx4 (.cells #[.int .i64 0, .int .i64 0, .string ⟨#[]⟩, .slice none 0 0, .slice none 0 0] 25); obtain ⟨⟨n0, n1, n2, n3, n4⟩, _⟩ := jbox5 hx5
      refine hK.out _ _ (rb_kept hS1 hg4 hne1) (fun hHeld => ?_)
      clear hK K
      refine wpAnyH_ready (rs := [1, 7]) (by kernel_rfl) (by simp) (AllReadyH.cons rfl (fun K hK => ?_) (AllReadyH.cons rfl (fun K hK => ?_) AllReadyH.nil))
      · go_simp
        refine hK.out _ _ (hHeld) (fun hHeld => ?_)
        clear hK K
        refine wpAnyH_take (i := 6) (v := ?_) rfl (by kernel_rfl) (by kernel_rfl) (by kernel_rfl) (fun _ _ _ h => h) (Or.inl ⟨by rfl, ?_⟩) (by assumption) ?_
        rotate_left
        · intro w hSw; go_simp; (try with_reducible rfl)
        (try simp only [Act.put, List.setIfInBounds_toArray, List.set_cons_zero, List.set_cons_succ])
        refine wpAnyH_ready (rs := [7]) (by kernel_rfl) (by simp) (AllReadyH.cons rfl (fun K hK => ?_) AllReadyH.nil)
        · go_simp
          refine hK.out _ _ (rb_kept hHeld (World.grownBy_alloc _ _ none) (by simp)) (fun hHeld => ?_)
          clear hK K
          refine wpAnyH_ready (rs := [8]) (by kernel_rfl) (by simp) (AllReadyH.cons rfl (fun K hK => ?_) AllReadyH.nil)
          · refine step_append_at _ rfl _ _ 23 rfl B 25 i0 (.agg jzero) 5 80 Tryz.underlying23 hi hi0 hi1 hi2 rfl (by decide) (.slice a ys.length c) ys.length cs (by first | rfl | simp [Act.eval]) hown5 (some ⟨w4.heap.size, 0, none⟩) 1 1 [.int .i64 0, .int .i64 0, .string ⟨#[]⟩, .slice none 0 0, .slice none 0 0] (by first | rfl | simp [Act.eval]) ⟨rfl, .inr ⟨_, rfl, cells_new w4 [_, _, _, _, _] _⟩⟩ (by simp [Value.oneCell']) (by unfold maxLen; omega) (by omega) (by simp; omega) ?_; intro v6 w6 hown6 hgr6 hat6; obtain ⟨g6, c6, rfl⟩ := ownsRow_succ hown6; obtain ⟨⟨e0, e1, e2, e3, e4⟩, y0, y1, y2, y3, y4⟩ := own_last hown6; have hx6 := jat_own hx5 hgr6 hown5 hbx; obtain ⟨⟨f0, f1, f2, f3, f4⟩, l0, l1, l2, l3, l4⟩ := jbox5 hx6; have hx7 := jat_past5 hx6 hown6 hbx k n t na' nl nc' a' len cap; obtain ⟨⟨s0, s1, s2, s3, s4⟩, _⟩ := jbox5 hx7; have hown8 := ownsRow_setCell_below (a := ⟨bx, 4, none⟩) hown6 hbx (.slice (some ⟨g6, 0, none⟩) (ys.length + 1) c6); obtain ⟨⟨d0, d1, d2, d3, d4⟩, _⟩ := own_last hown8
            refine hK.out _ _ (rb_kept hHeld hgr6 (fun e => by have := (own_blkJ hown5 _ e.symm).2.1; omega)) (fun hHeld => ?_)
            clear hK K
            refine wpAnyH_take (i := 9) (v := ?_) rfl (by kernel_rfl) (by kernel_rfl) (by kernel_rfl) (fun _ _ _ h => h) (Or.inl ⟨by rfl, ?_⟩) (by assumption) ?_
            rotate_left
            · intro w hSw; go_simp; (try with_reducible rfl)
            (try simp only [Act.put, List.setIfInBounds_toArray, List.set_cons_zero, List.set_cons_succ])
            refine wpAnyH_take (i := 11) (v := ?_) rfl (by kernel_rfl) (by kernel_rfl) (by kernel_rfl) (fun _ _ _ h => h) (Or.inl ⟨by rfl, ?_⟩) (by assumption) ?_
            rotate_left
            · intro w hSw; go_simp; (try with_reducible rfl)
            (try simp only [Act.put, List.setIfInBounds_toArray, List.set_cons_zero, List.set_cons_succ])
            refine wpAnyH_ready (rs := [10, 12]) (by kernel_rfl) (by simp) (AllReadyH.cons rfl (fun K hK => ?_) (AllReadyH.cons rfl (fun K hK => ?_) AllReadyH.nil))
            · go_simp
              refine hK.out _ _ (rb_kept hHeld (grown_sets9 _ _ _ _ _ _ _ _ _ _ _ _) (fun e => by have := (own_blkJ hown6 g6 rfl).2.1; cases e; omega)) (fun hHeld => ?_)
              clear hK K
              refine wpAnyH_ready (rs := [12]) (by kernel_rfl) (by simp) (AllReadyH.cons rfl (fun K hK => ?_) AllReadyH.nil)
              · go_simp
                refine hK.out _ _ (rb_kept hHeld (grownJ_set _ bx 4 _) (fun e => hrx (by cases e; rfl))) (fun hHeld => ?_)
                clear hK K
                refine wpAnyH_done (by kernel_rfl) ?_ _
                refine bodyPost_end (results_none rfl _ _ _) rfl ?_
                exact o1_fin (v := v) (room := room) (.inl rfl) M HX3 hhs h8 hsz H9 hp hrb hbx hpx hrx hpsb hps hsb hsbx hsvB hxb hF4 hx4 hR4 hb4 hg4 ((Below.refl _ _).alloc (Nat.le_refl _) _) hown5 hgr6 hown6 hat6 hx6
            · go_simp
              refine hK.out _ _ (rb_kept hHeld (grownJ_set _ bx 4 _) (fun e => hrx (by cases e; rfl))) (fun hHeld => ?_)
              clear hK K
              refine wpAnyH_ready (rs := [10]) (by kernel_rfl) (by simp) (AllReadyH.cons rfl (fun K hK => ?_) AllReadyH.nil)
              · go_simp
                refine hK.out _ _ (rb_kept hHeld (grown_sets9 _ _ _ _ _ _ _ _ _ _ _ _) (fun e => by have := (own_blkJ hown6 g6 rfl).2.1; cases e; omega)) (fun hHeld => ?_)
                clear hK K
                refine wpAnyH_done (by kernel_rfl) ?_ _
                refine bodyPost_end (results_none rfl _ _ _) rfl ?_
                exact o1_fin (v := v) (room := room) (.inr rfl) M HX3 hhs h8 hsz H9 hp hrb hbx hpx hrx hpsb hps hsb hsbx hsvB hxb hF4 hx4 hR4 hb4 hg4 ((Below.refl _ _).alloc (Nat.le_refl _) _) hown5 hgr6 hown6 hat6 hx6
      · go_simp
        refine hK.out _ _ (rb_kept hHeld (World.grownBy_alloc _ _ none) (by simp)) (fun hHeld => ?_)
        clear hK K
        refine wpAnyH_ready (rs := [1]) (by kernel_rfl) (by simp) (AllReadyH.cons rfl (fun K hK => ?_) AllReadyH.nil)
        · go_simp
          refine hK.out _ _ (hHeld) (fun hHeld => ?_)
          clear hK K
          refine wpAnyH_take (i := 6) (v := ?_) rfl (by kernel_rfl) (by kernel_rfl) (by kernel_rfl) (fun _ _ _ h => h) (Or.inl ⟨by rfl, ?_⟩) (by assumption) ?_
          rotate_left
          · intro w hSw; go_simp; (try with_reducible rfl)
          (try simp only [Act.put, List.setIfInBounds_toArray, List.set_cons_zero, List.set_cons_succ])
          refine wpAnyH_ready (rs := [8]) (by kernel_rfl) (by simp) (AllReadyH.cons rfl (fun K hK => ?_) AllReadyH.nil)
          · refine step_append_at _ rfl _ _ 23 rfl B 25 i0 (.agg jzero) 5 80 Tryz.underlying23 hi hi0 hi1 hi2 rfl (by decide) (.slice a ys.length c) ys.length cs (by first | rfl | simp [Act.eval]) hown5 (some ⟨w4.heap.size, 0, none⟩) 1 1 [.int .i64 0, .int .i64 0, .string ⟨#[]⟩, .slice none 0 0, .slice none 0 0] (by first | rfl | simp [Act.eval]) ⟨rfl, .inr ⟨_, rfl, cells_new w4 [_, _, _, _, _] _⟩⟩ (by simp [Value.oneCell']) (by unfold maxLen; omega) (by omega) (by simp; omega) ?_; intro v6 w6 hown6 hgr6 hat6; obtain ⟨g6, c6, rfl⟩ := ownsRow_succ hown6; obtain ⟨⟨e0, e1, e2, e3, e4⟩, y0, y1, y2, y3, y4⟩ := own_last hown6; have hx6 := jat_own hx5 hgr6 hown5 hbx; obtain ⟨⟨f0, f1, f2, f3, f4⟩, l0, l1, l2, l3, l4⟩ := jbox5 hx6; have hx7 := jat_past5 hx6 hown6 hbx k n t na' nl nc' a' len cap; obtain ⟨⟨s0, s1, s2, s3, s4⟩, _⟩ := jbox5 hx7; have hown8 := ownsRow_setCell_below (a := ⟨bx, 4, none⟩) hown6 hbx (.slice (some ⟨g6, 0, none⟩) (ys.length + 1) c6); obtain ⟨⟨d0, d1, d2, d3, d4⟩, _⟩ := own_last hown8
            refine hK.out _ _ (rb_kept hHeld hgr6 (fun e => by have := (own_blkJ hown5 _ e.symm).2.1; omega)) (fun hHeld => ?_)
            clear hK K
            refine wpAnyH_take (i := 9) (v := ?_) rfl (by kernel_rfl) (by kernel_rfl) (by kernel_rfl) (fun _ _ _ h => h) (Or.inl ⟨by rfl, ?_⟩) (by assumption) ?_
            rotate_left
            · intro w hSw; go_simp; (try with_reducible rfl)
            (try simp only [Act.put, List.setIfInBounds_toArray, List.set_cons_zero, List.set_cons_succ])
            refine wpAnyH_take (i := 11) (v := ?_) rfl (by kernel_rfl) (by kernel_rfl) (by kernel_rfl) (fun _ _ _ h => h) (Or.inl ⟨by rfl, ?_⟩) (by assumption) ?_
            rotate_left
            · intro w hSw; go_simp; (try with_reducible rfl)
            (try simp only [Act.put, List.setIfInBounds_toArray, List.set_cons_zero, List.set_cons_succ])
            refine wpAnyH_ready (rs := [10, 12]) (by kernel_rfl) (by simp) (AllReadyH.cons rfl (fun K hK => ?_) (AllReadyH.cons rfl (fun K hK => ?_) AllReadyH.nil))
            · go_simp
              refine hK.out _ _ (rb_kept hHeld (grown_sets9 _ _ _ _ _ _ _ _ _ _ _ _) (fun e => by have := (own_blkJ hown6 g6 rfl).2.1; cases e; omega)) (fun hHeld => ?_)
              clear hK K
              refine wpAnyH_ready (rs := [12]) (by kernel_rfl) (by simp) (AllReadyH.cons rfl (fun K hK => ?_) AllReadyH.nil)
              · go_simp
                refine hK.out _ _ (rb_kept hHeld (grownJ_set _ bx 4 _) (fun e => hrx (by cases e; rfl))) (fun hHeld => ?_)
                clear hK K
                refine wpAnyH_done (by kernel_rfl) ?_ _
                refine bodyPost_end (results_none rfl _ _ _) rfl ?_
                exact o1_fin (v := v) (room := room) (.inl rfl) M HX3 hhs h8 hsz H9 hp hrb hbx hpx hrx hpsb hps hsb hsbx hsvB hxb hF4 hx4 hR4 hb4 hg4 ((Below.refl _ _).alloc (Nat.le_refl _) _) hown5 hgr6 hown6 hat6 hx6
            · go_simp
              refine hK.out _ _ (rb_kept hHeld (grownJ_set _ bx 4 _) (fun e => hrx (by cases e; rfl))) (fun hHeld => ?_)
              clear hK K
              refine wpAnyH_ready (rs := [10]) (by kernel_rfl) (by simp) (AllReadyH.cons rfl (fun K hK => ?_) AllReadyH.nil)
              · go_simp
                refine hK.out _ _ (rb_kept hHeld (grown_sets9 _ _ _ _ _ _ _ _ _ _ _ _) (fun e => by have := (own_blkJ hown6 g6 rfl).2.1; cases e; omega)) (fun hHeld => ?_)
                clear hK K
                refine wpAnyH_done (by kernel_rfl) ?_ _
                refine bodyPost_end (results_none rfl _ _ _) rfl ?_
                exact o1_fin (v := v) (room := room) (.inr rfl) M HX3 hhs h8 hsz H9 hp hrb hbx hpx hrx hpsb hps hsb hsbx hsvB hxb hF4 hx4 hR4 hb4 hg4 ((Below.refl _ _).alloc (Nat.le_refl _) _) hown5 hgr6 hown6 hat6 hx6
    · go_simp
      refine hK.out _ _ (rb_kept hHeld (World.grownBy_alloc _ _ none) (by simp)) (fun hHeld => ?_)
      clear hK K
      refine wpAnyH_ready (rs := [1, 5]) (by kernel_rfl) (by simp) (AllReadyH.cons rfl (fun K hK => ?_) (AllReadyH.cons rfl (fun K hK => ?_) AllReadyH.nil))
      · go_simp
        refine hK.out _ _ (hHeld) (fun hHeld => ?_)
        clear hK K
        refine wpAnyH_take (i := 6) (v := ?_) rfl (by kernel_rfl) (by kernel_rfl) (by kernel_rfl) (fun _ _ _ h => h) (Or.inl ⟨by rfl, ?_⟩) (by assumption) ?_
        rotate_left
        · intro w hSw; go_simp; (try with_reducible rfl)
        (try simp only [Act.put, List.setIfInBounds_toArray, List.set_cons_zero, List.set_cons_succ])
        refine wpAnyH_ready (rs := [5]) (by kernel_rfl) (by simp) (AllReadyH.cons rfl (fun K hK => ?_) AllReadyH.nil)
        · go_simp; (with_reducible refine (hTh _ hgn5 hrn5).mono ?_); rintro e w4 ⟨k, n, t, na', nl, nc', a', len, cap, rfl, hF4, hx4, hown4, hR4, hb4, hg4, hgv4⟩; have hs4 := hg4.size; obtain ⟨⟨m0, m1, m2, m3, m4⟩, _⟩ := jbox5 hx4; have hzz : JAt w4 wn.heap.size _ := (hgv4.block _ (jat_lt hzn5) (fun e => by have := rj_lt hrn; cases e; omega)).trans hzn5
          refine hK.out _ _ (rb_kept hS1 hg4 hne1) (fun hHeld => ?_)
          clear hK K
          refine wpAnyH_ready (rs := [8]) (by kernel_rfl) (by simp) (AllReadyH.cons rfl (fun K hK => ?_) AllReadyH.nil)
          · refine step_append_at _ rfl _ _ 23 rfl B 25 i0 (.agg jzero) 5 80 Tryz.underlying23 hi hi0 hi1 hi2 rfl (by decide) (.slice a ys.length c) ys.length cs (by first | rfl | simp [Act.eval]) hown4 (some ⟨wn.heap.size, 0, none⟩) 1 1 [.int .i64 0, .int .i64 0, .string ⟨#[]⟩, .slice none 0 0, .slice none 0 0] (by first | rfl | simp [Act.eval]) (cells_jat hzz) (by simp [Value.oneCell']) (by unfold maxLen; omega) (by omega) (by omega) ?_; intro v6 w6 hown6 hgr6 hat6; obtain ⟨g6, c6, rfl⟩ := ownsRow_succ hown6; obtain ⟨⟨e0, e1, e2, e3, e4⟩, y0, y1, y2, y3, y4⟩ := own_last hown6; have hx6 := jat_own hx4 hgr6 hown4 hbx; obtain ⟨⟨f0, f1, f2, f3, f4⟩, l0, l1, l2, l3, l4⟩ := jbox5 hx6; have hx7 := jat_past5 hx6 hown6 hbx k n t na' nl nc' a' len cap; obtain ⟨⟨s0, s1, s2, s3, s4⟩, _⟩ := jbox5 hx7; have hown8 := ownsRow_setCell_below (a := ⟨bx, 4, none⟩) hown6 hbx (.slice (some ⟨g6, 0, none⟩) (ys.length + 1) c6); obtain ⟨⟨d0, d1, d2, d3, d4⟩, _⟩ := own_last hown8
            refine hK.out _ _ (rb_kept hHeld hgr6 (fun e => by have := (own_blkJ hown4 _ e.symm).2.1; omega)) (fun hHeld => ?_)
            clear hK K
            refine wpAnyH_take (i := 9) (v := ?_) rfl (by kernel_rfl) (by kernel_rfl) (by kernel_rfl) (fun _ _ _ h => h) (Or.inl ⟨by rfl, ?_⟩) (by assumption) ?_
            rotate_left
            · intro w hSw; go_simp; (try with_reducible rfl)
            (try simp only [Act.put, List.setIfInBounds_toArray, List.set_cons_zero, List.set_cons_succ])
            refine wpAnyH_take (i := 11) (v := ?_) rfl (by kernel_rfl) (by kernel_rfl) (by kernel_rfl) (fun _ _ _ h => h) (Or.inl ⟨by rfl, ?_⟩) (by assumption) ?_
            rotate_left
            · intro w hSw; go_simp; (try with_reducible rfl)
            (try simp only [Act.put, List.setIfInBounds_toArray, List.set_cons_zero, List.set_cons_succ])
            refine wpAnyH_ready (rs := [10, 12]) (by kernel_rfl) (by simp) (AllReadyH.cons rfl (fun K hK => ?_) (AllReadyH.cons rfl (fun K hK => ?_) AllReadyH.nil))
            · go_simp
              refine hK.out _ _ (rb_kept hHeld (grown_sets9 _ _ _ _ _ _ _ _ _ _ _ _) (fun e => by have := (own_blkJ hown6 g6 rfl).2.1; cases e; omega)) (fun hHeld => ?_)
              clear hK K
              refine wpAnyH_ready (rs := [12]) (by kernel_rfl) (by simp) (AllReadyH.cons rfl (fun K hK => ?_) AllReadyH.nil)
              · go_simp
                refine hK.out _ _ (rb_kept hHeld (grownJ_set _ bx 4 _) (fun e => hrx (by cases e; rfl))) (fun hHeld => ?_)
                clear hK K
                refine wpAnyH_done (by kernel_rfl) ?_ _
                refine bodyPost_end (results_none rfl _ _ _) rfl ?_
                exact o1_fin (v := v) (room := room) (.inl rfl) M HX3 hhs h8 hsz H9 hp hrb hbx hpx hrx hpsb hps hsb hsbx hsvB hxb hF4 hx4 hR4 hb4 hg4 (Below.refl _ _) hown4 hgr6 hown6 hat6 hx6
            · go_simp
              refine hK.out _ _ (rb_kept hHeld (grownJ_set _ bx 4 _) (fun e => hrx (by cases e; rfl))) (fun hHeld => ?_)
              clear hK K
              refine wpAnyH_ready (rs := [10]) (by kernel_rfl) (by simp) (AllReadyH.cons rfl (fun K hK => ?_) AllReadyH.nil)
              · go_simp
                refine hK.out _ _ (rb_kept hHeld (grown_sets9 _ _ _ _ _ _ _ _ _ _ _ _) (fun e => by have := (own_blkJ hown6 g6 rfl).2.1; cases e; omega)) (fun hHeld => ?_)
                clear hK K
                refine wpAnyH_done (by kernel_rfl) ?_ _
                refine bodyPost_end (results_none rfl _ _ _) rfl ?_
                exact o1_fin (v := v) (room := room) (.inr rfl) M HX3 hhs h8 hsz H9 hp hrb hbx hpx hrx hpsb hps hsb hsbx hsvB hxb hF4 hx4 hR4 hb4 hg4 (Below.refl _ _) hown4 hgr6 hown6 hat6 hx6
      · go_simp; (with_reducible refine (hTh _ hgn5 hrn5).mono ?_); rintro e w4 ⟨k, n, t, na', nl, nc', a', len, cap, rfl, hF4, hx4, hown4, hR4, hb4, hg4, hgv4⟩; have hs4 := hg4.size; obtain ⟨⟨m0, m1, m2, m3, m4⟩, _⟩ := jbox5 hx4; have hzz : JAt w4 wn.heap.size _ := (hgv4.block _ (jat_lt hzn5) (fun e => by have := rj_lt hrn; cases e; omega)).trans hzn5
        refine hK.out _ _ (rb_kept hS1 hg4 hne1) (fun hHeld => ?_)
        clear hK K
        refine wpAnyH_ready (rs := [1]) (by kernel_rfl) (by simp) (AllReadyH.cons rfl (fun K hK => ?_) AllReadyH.nil)
        · go_simp
          refine hK.out _ _ (hHeld) (fun hHeld => ?_)
          clear hK K
          refine wpAnyH_take (i := 6) (v := ?_) rfl (by kernel_rfl) (by kernel_rfl) (by kernel_rfl) (fun _ _ _ h => h) (Or.inl ⟨by rfl, ?_⟩) (by assumption) ?_
          rotate_left
          · intro w hSw; go_simp; (try with_reducible rfl)
          (try simp only [Act.put, List.setIfInBounds_toArray, List.set_cons_zero, List.set_cons_succ])
          refine wpAnyH_ready (rs := [8]) (by kernel_rfl) (by simp) (AllReadyH.cons rfl (fun K hK => ?_) AllReadyH.nil)
          · refine step_append_at _ rfl _ _ 23 rfl B 25 i0 (.agg jzero) 5 80 Tryz.underlying23 hi hi0 hi1 hi2 rfl (by decide) (.slice a ys.length c) ys.length cs (by first | rfl | simp [Act.eval]) hown4 (some ⟨wn.heap.size, 0, none⟩) 1 1 [.int .i64 0, .int .i64 0, .string ⟨#[]⟩, .slice none 0 0, .slice none 0 0] (by first | rfl | simp [Act.eval]) (cells_jat hzz) (by simp [Value.oneCell']) (by unfold maxLen; omega) (by omega) (by omega) ?_; intro v6 w6 hown6 hgr6 hat6; obtain ⟨g6, c6, rfl⟩ := ownsRow_succ hown6; obtain ⟨⟨e0, e1, e2, e3, e4⟩, y0, y1, y2, y3, y4⟩ := own_last hown6; have hx6 := jat_own hx4 hgr6 hown4 hbx; obtain ⟨⟨f0, f1, f2, f3, f4⟩, l0, l1, l2, l3, l4⟩ := jbox5 hx6; have hx7 := jat_past5 hx6 hown6 hbx k n t na' nl nc' a' len cap; obtain ⟨⟨s0, s1, s2, s3, s4⟩, _⟩ := jbox5 hx7; have hown8 := ownsRow_setCell_below (a := ⟨bx, 4, none⟩) hown6 hbx (.slice (some ⟨g6, 0, none⟩) (ys.length + 1) c6); obtain ⟨⟨d0, d1, d2, d3, d4⟩, _⟩ := own_last hown8
            refine hK.out _ _ (rb_kept hHeld hgr6 (fun e => by have := (own_blkJ hown4 _ e.symm).2.1; omega)) (fun hHeld => ?_)
            clear hK K
            refine wpAnyH_take (i := 9) (v := ?_) rfl (by kernel_rfl) (by kernel_rfl) (by kernel_rfl) (fun _ _ _ h => h) (Or.inl ⟨by rfl, ?_⟩) (by assumption) ?_
            rotate_left
            · intro w hSw; go_simp; (try with_reducible rfl)
            (try simp only [Act.put, List.setIfInBounds_toArray, List.set_cons_zero, List.set_cons_succ])
            refine wpAnyH_take (i := 11) (v := ?_) rfl (by kernel_rfl) (by kernel_rfl) (by kernel_rfl) (fun _ _ _ h => h) (Or.inl ⟨by rfl, ?_⟩) (by assumption) ?_
            rotate_left
            · intro w hSw; go_simp; (try with_reducible rfl)
            (try simp only [Act.put, List.setIfInBounds_toArray, List.set_cons_zero, List.set_cons_succ])
            refine wpAnyH_ready (rs := [10, 12]) (by kernel_rfl) (by simp) (AllReadyH.cons rfl (fun K hK => ?_) (AllReadyH.cons rfl (fun K hK => ?_) AllReadyH.nil))
            · go_simp
              refine hK.out _ _ (rb_kept hHeld (grown_sets9 _ _ _ _ _ _ _ _ _ _ _ _) (fun e => by have := (own_blkJ hown6 g6 rfl).2.1; cases e; omega)) (fun hHeld => ?_)
              clear hK K
              refine wpAnyH_ready (rs := [12]) (by kernel_rfl) (by simp) (AllReadyH.cons rfl (fun K hK => ?_) AllReadyH.nil)
              · go_simp
                refine hK.out _ _ (rb_kept hHeld (grownJ_set _ bx 4 _) (fun e => hrx (by cases e; rfl))) (fun hHeld => ?_)
                clear hK K
                refine wpAnyH_done (by kernel_rfl) ?_ _
                refine bodyPost_end (results_none rfl _ _ _) rfl ?_
                exact o1_fin (v := v) (room := room) (.inl rfl) M HX3 hhs h8 hsz H9 hp hrb hbx hpx hrx hpsb hps hsb hsbx hsvB hxb hF4 hx4 hR4 hb4 hg4 (Below.refl _ _) hown4 hgr6 hown6 hat6 hx6
            · go_simp
              refine hK.out _ _ (rb_kept hHeld (grownJ_set _ bx 4 _) (fun e => hrx (by cases e; rfl))) (fun hHeld => ?_)
              clear hK K
              refine wpAnyH_ready (rs := [10]) (by kernel_rfl) (by simp) (AllReadyH.cons rfl (fun K hK => ?_) AllReadyH.nil)
              · go_simp
                refine hK.out _ _ (rb_kept hHeld (grown_sets9 _ _ _ _ _ _ _ _ _ _ _ _) (fun e => by have := (own_blkJ hown6 g6 rfl).2.1; cases e; omega)) (fun hHeld => ?_)
                clear hK K
                refine wpAnyH_done (by kernel_rfl) ?_ _
                refine bodyPost_end (results_none rfl _ _ _) rfl ?_
                exact o1_fin (v := v) (room := room) (.inr rfl) M HX3 hhs h8 hsz H9 hp hrb hbx hpx hrx hpsb hps hsb hsbx hsvB hxb hF4 hx4 hR4 hb4 hg4 (Below.refl _ _) hown4 hgr6 hown6 hat6 hx6
  · go_simp
    refine hK.out _ _ (rb_kept hHeld (World.grownBy_alloc _ _ none) (by simp)) (fun hHeld => ?_)
    clear hK K
    refine wpAnyH_ready (rs := [1, 4]) (by kernel_rfl) (by simp) (AllReadyH.cons rfl (fun K hK => ?_) (AllReadyH.cons rfl (fun K hK => ?_) AllReadyH.nil))
    · go_simp
      refine hK.out _ _ (hHeld) (fun hHeld => ?_)
      clear hK K
      refine wpAnyH_take (i := 6) (v := ?_) rfl (by kernel_rfl) (by kernel_rfl) (by kernel_rfl) (fun _ _ _ h => h) (Or.inl ⟨by rfl, ?_⟩) (by assumption) ?_
      rotate_left
      · intro w hSw; go_simp; (try with_reducible rfl)
      (try simp only [Act.put, List.setIfInBounds_toArray, List.set_cons_zero, List.set_cons_succ])
      refine wpAnyH_ready (rs := [4]) (by kernel_rfl) (by simp) (AllReadyH.cons rfl (fun K hK => ?_) AllReadyH.nil)
      · go_simp; (with_reducible refine (hNx _ hgb hrb').mono ?_); rintro e wn ⟨rfl, hrn, hgn, hgv⟩; have hsn := hgn.size; have hxn : JAt wn bx _ := (hgn.block bx (jat_lt hx1) (fun e => hpx (by cases e; rfl))).trans hx1; obtain ⟨⟨m0, m1, m2, m3, m4⟩, _⟩ := jbox5 hxn; have hzn : JAt wn W1.heap.size _ := (hgv.block _ (by simp) (fun e => hzp (by cases e; rfl))).trans (jat_alloc_drew W1 _)
        refine hK.out _ _ (rb_kept hS1 hgn hne1) (fun hHeld => ?_)
        clear hK K
        refine wpAnyH_ready (rs := [5]) (by kernel_rfl) (by simp) (AllReadyH.cons rfl (fun K hK => ?_) AllReadyH.nil)
        · go_simp; (with_reducible refine (hTh _ hgn hrn).mono ?_); rintro e w4 ⟨k, n, t, na', nl, nc', a', len, cap, rfl, hF4, hx4, hown4, hR4, hb4, hg4, hgv4⟩; have hs4 := hg4.size; obtain ⟨⟨m0, m1, m2, m3, m4⟩, _⟩ := jbox5 hx4; have hzz : JAt w4 W1.heap.size _ := (hgv4.block _ (jat_lt hzn) (fun e => hzp (by cases e; rfl))).trans hzn
          refine hK.out _ _ (rb_kept hS1 hg4 hne1) (fun hHeld => ?_)
          clear hK K
          refine wpAnyH_ready (rs := [8]) (by kernel_rfl) (by simp) (AllReadyH.cons rfl (fun K hK => ?_) AllReadyH.nil)
          · refine step_append_at _ rfl _ _ 23 rfl B 25 i0 (.agg jzero) 5 80 Tryz.underlying23 hi hi0 hi1 hi2 rfl (by decide) (.slice a ys.length c) ys.length cs (by first | rfl | simp [Act.eval]) hown4 (some ⟨W1.heap.size, 0, none⟩) 1 1 [.int .i64 0, .int .i64 0, .string ⟨#[]⟩, .slice none 0 0, .slice none 0 0] (by first | rfl | simp [Act.eval]) (cells_jat hzz) (by simp [Value.oneCell']) (by unfold maxLen; omega) (by omega) (by omega) ?_; intro v6 w6 hown6 hgr6 hat6; obtain ⟨g6, c6, rfl⟩ := ownsRow_succ hown6; obtain ⟨⟨e0, e1, e2, e3, e4⟩, y0, y1, y2, y3, y4⟩ := own_last hown6; have hx6 := jat_own hx4 hgr6 hown4 hbx; obtain ⟨⟨f0, f1, f2, f3, f4⟩, l0, l1, l2, l3, l4⟩ := jbox5 hx6; have hx7 := jat_past5 hx6 hown6 hbx k n t na' nl nc' a' len cap; obtain ⟨⟨s0, s1, s2, s3, s4⟩, _⟩ := jbox5 hx7; have hown8 := ownsRow_setCell_below (a := ⟨bx, 4, none⟩) hown6 hbx (.slice (some ⟨g6, 0, none⟩) (ys.length + 1) c6); obtain ⟨⟨d0, d1, d2, d3, d4⟩, _⟩ := own_last hown8
            refine hK.out _ _ (rb_kept hHeld hgr6 (fun e => by have := (own_blkJ hown4 _ e.symm).2.1; omega)) (fun hHeld => ?_)
            clear hK K
            refine wpAnyH_take (i := 9) (v := ?_) rfl (by kernel_rfl) (by kernel_rfl) (by kernel_rfl) (fun _ _ _ h => h) (Or.inl ⟨by rfl, ?_⟩) (by assumption) ?_
            rotate_left
            · intro w hSw; go_simp; (try with_reducible rfl)
            (try simp only [Act.put, List.setIfInBounds_toArray, List.set_cons_zero, List.set_cons_succ])
            refine wpAnyH_take (i := 11) (v := ?_) rfl (by kernel_rfl) (by kernel_rfl) (by kernel_rfl) (fun _ _ _ h => h) (Or.inl ⟨by rfl, ?_⟩) (by assumption) ?_
            rotate_left
            · intro w hSw; go_simp; (try with_reducible rfl)
            (try simp only [Act.put, List.setIfInBounds_toArray, List.set_cons_zero, List.set_cons_succ])
            refine wpAnyH_ready (rs := [10, 12]) (by kernel_rfl) (by simp) (AllReadyH.cons rfl (fun K hK => ?_) (AllReadyH.cons rfl (fun K hK => ?_) AllReadyH.nil))
            · go_simp
              refine hK.out _ _ (rb_kept hHeld (grown_sets9 _ _ _ _ _ _ _ _ _ _ _ _) (fun e => by have := (own_blkJ hown6 g6 rfl).2.1; cases e; omega)) (fun hHeld => ?_)
              clear hK K
              refine wpAnyH_ready (rs := [12]) (by kernel_rfl) (by simp) (AllReadyH.cons rfl (fun K hK => ?_) AllReadyH.nil)
              · go_simp
                refine hK.out _ _ (rb_kept hHeld (grownJ_set _ bx 4 _) (fun e => hrx (by cases e; rfl))) (fun hHeld => ?_)
                clear hK K
                refine wpAnyH_done (by kernel_rfl) ?_ _
                refine bodyPost_end (results_none rfl _ _ _) rfl ?_
                exact o1_fin (v := v) (room := room) (.inl rfl) M HX3 hhs h8 hsz H9 hp hrb hbx hpx hrx hpsb hps hsb hsbx hsvB hxb hF4 hx4 hR4 hb4 hg4 (Below.refl _ _) hown4 hgr6 hown6 hat6 hx6
            · go_simp
              refine hK.out _ _ (rb_kept hHeld (grownJ_set _ bx 4 _) (fun e => hrx (by cases e; rfl))) (fun hHeld => ?_)
              clear hK K
              refine wpAnyH_ready (rs := [10]) (by kernel_rfl) (by simp) (AllReadyH.cons rfl (fun K hK => ?_) AllReadyH.nil)
              · go_simp
                refine hK.out _ _ (rb_kept hHeld (grown_sets9 _ _ _ _ _ _ _ _ _ _ _ _) (fun e => by have := (own_blkJ hown6 g6 rfl).2.1; cases e; omega)) (fun hHeld => ?_)
                clear hK K
                refine wpAnyH_done (by kernel_rfl) ?_ _
                refine bodyPost_end (results_none rfl _ _ _) rfl ?_
                exact o1_fin (v := v) (room := room) (.inr rfl) M HX3 hhs h8 hsz H9 hp hrb hbx hpx hrx hpsb hps hsb hsbx hsvB hxb hF4 hx4 hR4 hb4 hg4 (Below.refl _ _) hown4 hgr6 hown6 hat6 hx6
    · go_simp; (with_reducible refine (hNx _ hgb hrb').mono ?_); rintro e wn ⟨rfl, hrn, hgn, hgv⟩; have hsn := hgn.size; have hxn : JAt wn bx _ := (hgn.block bx (jat_lt hx1) (fun e => hpx (by cases e; rfl))).trans hx1; obtain ⟨⟨m0, m1, m2, m3, m4⟩, _⟩ := jbox5 hxn; have hzn : JAt wn W1.heap.size _ := (hgv.block _ (by simp) (fun e => hzp (by cases e; rfl))).trans (jat_alloc_drew W1 _)
      refine hK.out _ _ (rb_kept hS1 hgn hne1) (fun hHeld => ?_)
      clear hK K
      refine wpAnyH_ready (rs := [1, 5]) (by kernel_rfl) (by simp) (AllReadyH.cons rfl (fun K hK => ?_) (AllReadyH.cons rfl (fun K hK => ?_) AllReadyH.nil))
      · go_simp
        refine hK.out _ _ (hHeld) (fun hHeld => ?_)
        clear hK K
        refine wpAnyH_take (i := 6) (v := ?_) rfl (by kernel_rfl) (by kernel_rfl) (by kernel_rfl) (fun _ _ _ h => h) (Or.inl ⟨by rfl, ?_⟩) (by assumption) ?_
        rotate_left
        · intro w hSw; go_simp; (try with_reducible rfl)
        (try simp only [Act.put, List.setIfInBounds_toArray, List.set_cons_zero, List.set_cons_succ])
        refine wpAnyH_ready (rs := [5]) (by kernel_rfl) (by simp) (AllReadyH.cons rfl (fun K hK => ?_) AllReadyH.nil)
        · go_simp; (with_reducible refine (hTh _ hgn hrn).mono ?_); rintro e w4 ⟨k, n, t, na', nl, nc', a', len, cap, rfl, hF4, hx4, hown4, hR4, hb4, hg4, hgv4⟩; have hs4 := hg4.size; obtain ⟨⟨m0, m1, m2, m3, m4⟩, _⟩ := jbox5 hx4; have hzz : JAt w4 W1.heap.size _ := (hgv4.block _ (jat_lt hzn) (fun e => hzp (by cases e; rfl))).trans hzn
          refine hK.out _ _ (rb_kept hS1 hg4 hne1) (fun hHeld => ?_)
          clear hK K
          refine wpAnyH_ready (rs := [8]) (by kernel_rfl) (by simp) (AllReadyH.cons rfl (fun K hK => ?_) AllReadyH.nil)
          · refine step_append_at _ rfl _ _ 23 rfl B 25 i0 (.agg jzero) 5 80 Tryz.underlying23 hi hi0 hi1 hi2 rfl (by decide) (.slice a ys.length c) ys.length cs (by first | rfl | simp [Act.eval]) hown4 (some ⟨W1.heap.size, 0, none⟩) 1 1 [.int .i64 0, .int .i64 0, .string ⟨#[]⟩, .slice none 0 0, .slice none 0 0] (by first | rfl | simp [Act.eval]) (cells_jat hzz) (by simp [Value.oneCell']) (by unfold maxLen; omega) (by omega) (by omega) ?_; intro v6 w6 hown6 hgr6 hat6; obtain ⟨g6, c6, rfl⟩ := ownsRow_succ hown6; obtain ⟨⟨e0, e1, e2, e3, e4⟩, y0, y1, y2, y3, y4⟩ := own_last hown6; have hx6 := jat_own hx4 hgr6 hown4 hbx; obtain ⟨⟨f0, f1, f2, f3, f4⟩, l0, l1, l2, l3, l4⟩ := jbox5 hx6; have hx7 := jat_past5 hx6 hown6 hbx k n t na' nl nc' a' len cap; obtain ⟨⟨s0, s1, s2, s3, s4⟩, _⟩ := jbox5 hx7; have hown8 := ownsRow_setCell_below (a := ⟨bx, 4, none⟩) hown6 hbx (.slice (some ⟨g6, 0, none⟩) (ys.length + 1) c6); obtain ⟨⟨d0, d1, d2, d3, d4⟩, _⟩ := own_last hown8
            refine hK.out _ _ (rb_kept hHeld hgr6 (fun e => by have := (own_blkJ hown4 _ e.symm).2.1; omega)) (fun hHeld => ?_)
            clear hK K
            refine wpAnyH_take (i := 9) (v := ?_) rfl (by kernel_rfl) (by kernel_rfl) (by kernel_rfl) (fun _ _ _ h => h) (Or.inl ⟨by rfl, ?_⟩) (by assumption) ?_
            rotate_left
            · intro w hSw; go_simp; (try with_reducible rfl)
            (try simp only [Act.put, List.setIfInBounds_toArray, List.set_cons_zero, List.set_cons_succ])
            refine wpAnyH_take (i := 11) (v := ?_) rfl (by kernel_rfl) (by kernel_rfl) (by kernel_rfl) (fun _ _ _ h => h) (Or.inl ⟨by rfl, ?_⟩) (by assumption) ?_
            rotate_left
            · intro w hSw; go_simp; (try with_reducible rfl)
            (try simp only [Act.put, List.setIfInBounds_toArray, List.set_cons_zero, List.set_cons_succ])
            refine wpAnyH_ready (rs := [10, 12]) (by kernel_rfl) (by simp) (AllReadyH.cons rfl (fun K hK => ?_) (AllReadyH.cons rfl (fun K hK => ?_) AllReadyH.nil))
            · go_simp
              refine hK.out _ _ (rb_kept hHeld (grown_sets9 _ _ _ _ _ _ _ _ _ _ _ _) (fun e => by have := (own_blkJ hown6 g6 rfl).2.1; cases e; omega)) (fun hHeld => ?_)
              clear hK K
              refine wpAnyH_ready (rs := [12]) (by kernel_rfl) (by simp) (AllReadyH.cons rfl (fun K hK => ?_) AllReadyH.nil)
              · go_simp
                refine hK.out _ _ (rb_kept hHeld (grownJ_set _ bx 4 _) (fun e => hrx (by cases e; rfl))) (fun hHeld => ?_)
                clear hK K
                refine wpAnyH_done (by kernel_rfl) ?_ _
                refine bodyPost_end (results_none rfl _ _ _) rfl ?_
                exact o1_fin (v := v) (room := room) (.inl rfl) M HX3 hhs h8 hsz H9 hp hrb hbx hpx hrx hpsb hps hsb hsbx hsvB hxb hF4 hx4 hR4 hb4 hg4 (Below.refl _ _) hown4 hgr6 hown6 hat6 hx6
            · go_simp
              refine hK.out _ _ (rb_kept hHeld (grownJ_set _ bx 4 _) (fun e => hrx (by cases e; rfl))) (fun hHeld => ?_)
              clear hK K
              refine wpAnyH_ready (rs := [10]) (by kernel_rfl) (by simp) (AllReadyH.cons rfl (fun K hK => ?_) AllReadyH.nil)
              · go_simp
                refine hK.out _ _ (rb_kept hHeld (grown_sets9 _ _ _ _ _ _ _ _ _ _ _ _) (fun e => by have := (own_blkJ hown6 g6 rfl).2.1; cases e; omega)) (fun hHeld => ?_)
                clear hK K
                refine wpAnyH_done (by kernel_rfl) ?_ _
                refine bodyPost_end (results_none rfl _ _ _) rfl ?_
                exact o1_fin (v := v) (room := room) (.inr rfl) M HX3 hhs h8 hsz H9 hp hrb hbx hpx hrx hpsb hps hsb hsbx hsvB hxb hF4 hx4 hR4 hb4 hg4 (Below.refl _ _) hown4 hgr6 hown6 hat6 hx6
      · go_simp; (with_reducible refine (hTh _ hgn hrn).mono ?_); rintro e w4 ⟨k, n, t, na', nl, nc', a', len, cap, rfl, hF4, hx4, hown4, hR4, hb4, hg4, hgv4⟩; have hs4 := hg4.size; obtain ⟨⟨m0, m1, m2, m3, m4⟩, _⟩ := jbox5 hx4; have hzz : JAt w4 W1.heap.size _ := (hgv4.block _ (jat_lt hzn) (fun e => hzp (by cases e; rfl))).trans hzn
        refine hK.out _ _ (rb_kept hS1 hg4 hne1) (fun hHeld => ?_)
        clear hK K
        refine wpAnyH_ready (rs := [1]) (by kernel_rfl) (by simp) (AllReadyH.cons rfl (fun K hK => ?_) AllReadyH.nil)
        · go_simp
          refine hK.out _ _ (hHeld) (fun hHeld => ?_)
          clear hK K
          refine wpAnyH_take (i := 6) (v := ?_) rfl (by kernel_rfl) (by kernel_rfl) (by kernel_rfl) (fun _ _ _ h => h) (Or.inl ⟨by rfl, ?_⟩) (by assumption) ?_
          rotate_left
          · intro w hSw; go_simp; (try with_reducible rfl)
          (try simp only [Act.put, List.setIfInBounds_toArray, List.set_cons_zero, List.set_cons_succ])
          refine wpAnyH_ready (rs := [8]) (by kernel_rfl) (by simp) (AllReadyH.cons rfl (fun K hK => ?_) AllReadyH.nil)
          · refine step_append_at _ rfl _ _ 23 rfl B 25 i0 (.agg jzero) 5 80 Tryz.underlying23 hi hi0 hi1 hi2 rfl (by decide) (.slice a ys.length c) ys.length cs (by first | rfl | simp [Act.eval]) hown4 (some ⟨W1.heap.size, 0, none⟩) 1 1 [.int .i64 0, .int .i64 0, .string ⟨#[]⟩, .slice none 0 0, .slice none 0 0] (by first | rfl | simp [Act.eval]) (cells_jat hzz) (by simp [Value.oneCell']) (by unfold maxLen; omega) (by omega) (by omega) ?_; intro v6 w6 hown6 hgr6 hat6; obtain ⟨g6, c6, rfl⟩ := ownsRow_succ hown6; obtain ⟨⟨e0, e1, e2, e3, e4⟩, y0, y1, y2, y3, y4⟩ := own_last hown6; have hx6 := jat_own hx4 hgr6 hown4 hbx; obtain ⟨⟨f0, f1, f2, f3, f4⟩, l0, l1, l2, l3, l4⟩ := jbox5 hx6; have hx7 := jat_past5 hx6 hown6 hbx k n t na' nl nc' a' len cap; obtain ⟨⟨s0, s1, s2, s3, s4⟩, _⟩ := jbox5 hx7; have hown8 := ownsRow_setCell_below (a := ⟨bx, 4, none⟩) hown6 hbx (.slice (some ⟨g6, 0, none⟩) (ys.length + 1) c6); obtain ⟨⟨d0, d1, d2, d3, d4⟩, _⟩ := own_last hown8
            refine hK.out _ _ (rb_kept hHeld hgr6 (fun e => by have := (own_blkJ hown4 _ e.symm).2.1; omega)) (fun hHeld => ?_)
            clear hK K
            refine wpAnyH_take (i := 9) (v := ?_) rfl (by kernel_rfl) (by kernel_rfl) (by kernel_rfl) (fun _ _ _ h => h) (Or.inl ⟨by rfl, ?_⟩) (by assumption) ?_
            rotate_left
            · intro w hSw; go_simp; (try with_reducible rfl)
            (try simp only [Act.put, List.setIfInBounds_toArray, List.set_cons_zero, List.set_cons_succ])
            refine wpAnyH_take (i := 11) (v := ?_) rfl (by kernel_rfl) (by kernel_rfl) (by kernel_rfl) (fun _ _ _ h => h) (Or.inl ⟨by rfl, ?_⟩) (by assumption) ?_
            rotate_left
            · intro w hSw; go_simp; (try with_reducible rfl)
            (try simp only [Act.put, List.setIfInBounds_toArray, List.set_cons_zero, List.set_cons_succ])
            refine wpAnyH_ready (rs := [10, 12]) (by kernel_rfl) (by simp) (AllReadyH.cons rfl (fun K hK => ?_) (AllReadyH.cons rfl (fun K hK => ?_) AllReadyH.nil))
            · go_simp
              refine hK.out _ _ (rb_kept hHeld (grown_sets9 _ _ _ _ _ _ _ _ _ _ _ _) (fun e => by have := (own_blkJ hown6 g6 rfl).2.1; cases e; omega)) (fun hHeld => ?_)
              clear hK K
              refine wpAnyH_ready (rs := [12]) (by kernel_rfl) (by simp) (AllReadyH.cons rfl (fun K hK => ?_) AllReadyH.nil)
              · go_simp
                refine hK.out _ _ (rb_kept hHeld (grownJ_set _ bx 4 _) (fun e => hrx (by cases e; rfl))) (fun hHeld => ?_)
                clear hK K
                refine wpAnyH_done (by kernel_rfl) ?_ _
                refine bodyPost_end (results_none rfl _ _ _) rfl ?_
                exact o1_fin (v := v) (room := room) (.inl rfl) M HX3 hhs h8 hsz H9 hp hrb hbx hpx hrx hpsb hps hsb hsbx hsvB hxb hF4 hx4 hR4 hb4 hg4 (Below.refl _ _) hown4 hgr6 hown6 hat6 hx6
            · go_simp
              refine hK.out _ _ (rb_kept hHeld (grownJ_set _ bx 4 _) (fun e => hrx (by cases e; rfl))) (fun hHeld => ?_)
              clear hK K
              refine wpAnyH_ready (rs := [10]) (by kernel_rfl) (by simp) (AllReadyH.cons rfl (fun K hK => ?_) AllReadyH.nil)
              · go_simp
                refine hK.out _ _ (rb_kept hHeld (grown_sets9 _ _ _ _ _ _ _ _ _ _ _ _) (fun e => by have := (own_blkJ hown6 g6 rfl).2.1; cases e; omega)) (fun hHeld => ?_)
                clear hK K
                refine wpAnyH_done (by kernel_rfl) ?_ _
                refine bodyPost_end (results_none rfl _ _ _) rfl ?_
                exact o1_fin (v := v) (room := room) (.inr rfl) M HX3 hhs h8 hsz H9 hp hrb hbx hpx hrx hpsb hps hsb hsbx hsvB hxb hF4 hx4 hR4 hb4 hg4 (Below.refl _ _) hown4 hgr6 hown6 hat6 hx6
end Go.Proofs.YtpiajoffddjjfaaGreatDoor
