/- Printing JSON: add of a List, of an Obj. (Made by gen_jpadd.py.) -/
import Derived.Test.YtcicjpdjbfgbhaaDoorMh42Cell
import Derived.Deep.RegionHeldLaw
set_option linter.unusedVariables false
set_option linter.unusedSimpArgs false
namespace Go.Proofs.YtcicjpdjbfgbhaaDoor
open Go.RowKit Go.Shelf
set_option maxRecDepth 100000 in
set_option maxHeartbeats 4000000 in
theorem add_list (l : List JV) (ns : List ByteArray) (n : Int) (s : ByteArray) (w0 w : World) (v : Value) (xs : List Int) (na : Option Addr) (nc : Nat) (a : Option Addr) (cap : Nat) (T : List Int)
    (hP : ∀ w v xs, 1 ≤ xs.length → Owns w0 w v xs → xs.length + T.length + 10 ≤ 70368744177664 → Calls Tryd.prog 57 #[v, .agg #[.int .i64 5, .int .i64 n, .string s, .slice na ns.length nc, .slice a l.length cap]] w (PartsR w0 w v xs T))
    (how : Owns w0 w v xs) (hl : xs.length + T.length + 12 ≤ 70368744177664) :
    Calls Tryd.prog 32 #[v, .agg #[.int .i64 5, .int .i64 n, .string s, .slice na ns.length nc, .slice a l.length cap]] w (AddR w0 w v xs ([91] ++ T ++ [93])) := by
  have hX := jat_alloc w #[.int .i64 5, .int .i64 n, .string s, .slice na ns.length nc, .slice a l.length cap]
  obtain ⟨⟨t0, t1, t2, t3, t4⟩, _⟩ := jbox5 hX
  have hB0 := (Below.refl _ w).alloc (Nat.le_refl _) (.cells #[.int .i64 5, .int .i64 n, .string s, .slice na ns.length nc, .slice a l.length cap] 30)
  have HX0 := Lib.hid (⟨hX, owns_below how hB0, owns_lt how (Nat.le_refl _), kz_below (v := v) hB0⟩ : _ ∧ _ ∧ _ ∧ _)
  have HL := Lib.hid hl
  clear hl
  go_enter Tryd.func32, Tryd.ntmps32
  go_wp2
  obtain ⟨W1, hW1⟩ : ∃ W1, w.alloc (.cells #[.int .i64 5, .int .i64 n, .string s, .slice na ns.length nc, .slice a l.length cap] 30) = W1 := ⟨_, rfl⟩
  obtain ⟨bX, hbX⟩ : ∃ bX, w.heap.size = bX := ⟨_, rfl⟩
  rw [hW1, hbX] at HX0 ⊢
  obtain ⟨hX1, ho1, hbv, hk1⟩ := HX0.out
  have HK0 := Lib.hid hk1; have HX1 := Lib.hid hX1; have HO1 := Lib.hid ho1; have HBV := Lib.hid hbv
  have hS1 := s5_jat hX1
  clear HX0 hX t0 t1 t2 t3 t4 hB0 hW1 hbX hX1 ho1 hbv hk1 how
  refine wp_region_held_drew (S := fun W => W.cell? ⟨bX, 0, none⟩ = some (.int .i64 5) ∧ ((W.cell? ⟨bX, 1, none⟩ = some (.int .i64 n) ∧ W.cell? ⟨bX, 2, none⟩ = some (.string s)) ∧ (W.cell? ⟨bX, 3, none⟩ = some (.slice na ns.length nc) ∧ W.cell? ⟨bX, 4, none⟩ = some (.slice a l.length cap)))) (by kernel_rfl) hS1 (fun hHeld => ?_)
  refine wpAnyH_take (i := 0) (v := ?_) rfl (by kernel_rfl) (by kernel_rfl) (by kernel_rfl) (fun _ _ _ h => h) (Or.inl ⟨by rfl, ?_⟩) (by assumption) ?_
  rotate_left
  · intro w hSw; go_simp; (try with_reducible rfl)
  (try simp only [Act.put, List.setIfInBounds_toArray, List.set_cons_zero, List.set_cons_succ])
  refine wpAnyH_take (i := 3) (v := ?_) rfl (by kernel_rfl) (by kernel_rfl) (by kernel_rfl) (fun _ _ _ h => h) (Or.inl ⟨by rfl, ?_⟩) (by assumption) ?_
  rotate_left
  · intro w hSw; go_simp; (try with_reducible rfl)
  (try simp only [Act.put, List.setIfInBounds_toArray, List.set_cons_zero, List.set_cons_succ])
  refine wpAnyH_ready (rs := [1, 5]) (by kernel_rfl) (by simp) (AllReadyH.cons rfl (fun K hK => ?_) (AllReadyH.cons rfl (fun K hK => ?_) AllReadyH.nil))
  · go_simp
    refine hK.out _ _ (s5_kept hHeld (World.grownBy_alloc _ _ none) (by simp)) (fun hHeld => ?_)
    clear hK K
    refine wpAnyH_ready (rs := [2, 5]) (by kernel_rfl) (by simp) (AllReadyH.cons rfl (fun K hK => ?_) (AllReadyH.cons rfl (fun K hK => ?_) AllReadyH.nil))
    · have hBb : Below W1.heap.size W1 ((W1.alloc (.cells #[.int .u8 91] 5)).drew) := (((Below.refl _ W1).alloc (Nat.le_refl _) _).drew)
      have hbat : BAtP ((W1.alloc (.cells #[.int .u8 91] 5)).drew) W1.heap.size 91 := bat_new W1 _
      refine step_owns_at rfl _ _ rfl w0 v xs (by first | rfl | simp [Act.eval]) (owns_below HO1.out hBb) W1.heap.size 91 (by first | rfl | simp [Act.eval]) hbat (by have := HL.out; omega) ?_
      intro v2 w2 ho2 hg2 hat2
      have hk2 : KZ W1 v w2 := kz_app (kz_refl W1 v) (apart_refl _ _) hBb hg2
      have ha2 : Apart W1 v v2 := apart_at2 hBb.size hat2
      have hX2 := jat_kz HX1.out hk2 HBV.out
      have nX2 := ha2 bX _ HX1.out (small_json _ _) HBV.out
      refine hK.out _ _ (s5_kept hHeld hg2 HBV.out) (fun hHeld => ?_)
      clear hK K
      refine wpAnyH_ready (rs := [4, 5]) (by kernel_rfl) (by simp) (AllReadyH.cons rfl (fun K hK => ?_) (AllReadyH.cons rfl (fun K hK => ?_) AllReadyH.nil))
      · go_simp; (refine (hP _ v2 _ (by simp) ho2 (by have := HL.out; simp only [List.length_append, List.length_cons, List.length_nil]; omega)).mono ?_); rintro e w3 ⟨v3, rfl, ho3, hk3, ha3⟩
        have hX3 := jat_kz hX2 hk3 nX2
        have nX3 := ha3 bX _ hX2 (small_json _ _) nX2
        have hk3' : KZ W1 v w3 := kz_trans hk2 ha2 hk3
        have ha3' : Apart W1 v v3 := apart_trans hk2 ha2 ha3
        refine hK.out _ _ (s5_jat hX3) (fun hHeld => ?_)
        clear hK K
        refine wpAnyH_ready (rs := [5]) (by kernel_rfl) (by simp) (AllReadyH.cons rfl (fun K hK => ?_) AllReadyH.nil)
        · go_simp
          refine hK.out _ _ (s5_kept hHeld (World.grownBy_alloc _ _ none) (by simp)) (fun hHeld => ?_)
          clear hK K
          refine wpAnyH_ready (rs := [6]) (by kernel_rfl) (by simp) (AllReadyH.cons rfl (fun K hK => ?_) AllReadyH.nil)
          · have hb3 := (Below.refl _ w3).alloc (Nat.le_refl _) (.cells #[.int .u8 93] 5)
            refine step_owns_at rfl _ _ rfl w0 v3 _ (by first | rfl | simp [Act.eval]) (owns_below ho3 hb3) w3.heap.size 93 (by first | rfl | simp [Act.eval]) (bat_new w3 _) (by have := HL.out; simp only [List.length_append, List.length_cons, List.length_nil]; omega) ?_
            intro v4 w4 ho4 hg4 hat4
            have hk4 : KZ W1 v w4 := kz_app hk3' ha3' hb3 hg4
            refine hK.out _ _ (s5_kept hHeld hg4 nX3) (fun hHeld => ?_)
            clear hK K
            refine wpAnyH_take (i := 7) (v := ?_) rfl (by kernel_rfl) (by kernel_rfl) (by kernel_rfl) (fun _ _ _ h => h) (Or.inl ⟨by rfl, ?_⟩) (by assumption) ?_
            rotate_left
            · intro w hSw; go_simp; (try with_reducible rfl)
            (try simp only [Act.put, List.setIfInBounds_toArray, List.set_cons_zero, List.set_cons_succ])
            refine wpAnyH_done (by kernel_rfl) ?_ _
            simp only [List.getElem_toArray, List.getElem_cons_zero, List.getElem_cons_succ, Act.put, List.setIfInBounds_toArray, List.set_cons_zero, List.set_cons_succ]
            go_wp2
            go_ret
            exact ⟨v4, rfl, owns_congr ho4 (by simp), fun z o' hz hs hne => hk4 z o' (HK0.out z o' hz hs hne) hs hne⟩
      · go_simp
        refine hK.out _ _ (s5_kept hHeld (World.grownBy_alloc _ _ none) (by simp)) (fun hHeld => ?_)
        clear hK K
        refine wpAnyH_ready (rs := [4]) (by kernel_rfl) (by simp) (AllReadyH.cons rfl (fun K hK => ?_) AllReadyH.nil)
        · go_simp; (refine (hP _ v2 _ (by simp) (owns_below ho2 ((Below.refl _ _).alloc (Nat.le_refl _) _)) (by have := HL.out; simp only [List.length_append, List.length_cons, List.length_nil]; omega)).mono ?_); rintro e w3 ⟨v3, rfl, ho3, hk3, ha3⟩
          have hX2' := jat_old hX2 (.cells #[.int .u8 93] 5)
          have hX3 := jat_kz hX2' hk3 nX2
          have nX3 := ha3 bX _ hX2' (small_json _ _) nX2
          have hzz := bat_kz (bat_new w2 93) hk3 (owns_lt ho2 (Nat.le_refl _))
          have hk3' : KZ W1 v w3 := kz_trans (kz_trans hk2 ha2 (kz_below (v := v2) ((Below.refl _ w2).alloc (Nat.le_refl _) (.cells #[.int .u8 93] 5)))) ha2 hk3
          have ha3' : Apart W1 v v3 := apart_trans (kz_trans hk2 ha2 (kz_below (v := v2) ((Below.refl _ w2).alloc (Nat.le_refl _) (.cells #[.int .u8 93] 5)))) ha2 ha3
          refine hK.out _ _ (s5_jat hX3) (fun hHeld => ?_)
          clear hK K
          refine wpAnyH_ready (rs := [6]) (by kernel_rfl) (by simp) (AllReadyH.cons rfl (fun K hK => ?_) AllReadyH.nil)
          · skip
            refine step_owns_at rfl _ _ rfl w0 v3 _ (by first | rfl | simp [Act.eval]) ho3 w2.heap.size 93 (by first | rfl | simp [Act.eval]) hzz (by have := HL.out; simp only [List.length_append, List.length_cons, List.length_nil]; omega) ?_
            intro v4 w4 ho4 hg4 hat4
            have hk4 : KZ W1 v w4 := kz_trans hk3' ha3' (kz_grown hg4)
            refine hK.out _ _ (s5_kept hHeld hg4 nX3) (fun hHeld => ?_)
            clear hK K
            refine wpAnyH_take (i := 7) (v := ?_) rfl (by kernel_rfl) (by kernel_rfl) (by kernel_rfl) (fun _ _ _ h => h) (Or.inl ⟨by rfl, ?_⟩) (by assumption) ?_
            rotate_left
            · intro w hSw; go_simp; (try with_reducible rfl)
            (try simp only [Act.put, List.setIfInBounds_toArray, List.set_cons_zero, List.set_cons_succ])
            refine wpAnyH_done (by kernel_rfl) ?_ _
            simp only [List.getElem_toArray, List.getElem_cons_zero, List.getElem_cons_succ, Act.put, List.setIfInBounds_toArray, List.set_cons_zero, List.set_cons_succ]
            go_wp2
            go_ret
            exact ⟨v4, rfl, owns_congr ho4 (by simp), fun z o' hz hs hne => hk4 z o' (HK0.out z o' hz hs hne) hs hne⟩
    · go_simp
      refine hK.out _ _ (s5_kept hHeld (World.grownBy_alloc _ _ none) (by simp)) (fun hHeld => ?_)
      clear hK K
      refine wpAnyH_ready (rs := [2]) (by kernel_rfl) (by simp) (AllReadyH.cons rfl (fun K hK => ?_) AllReadyH.nil)
      · have hBb : Below W1.heap.size W1 (((W1.alloc (.cells #[.int .u8 91] 5)).alloc (.cells #[.int .u8 93] 5)).drew) := ((((Below.refl _ W1).alloc (Nat.le_refl _) _).alloc (by simp) _).drew)
        have hbat : BAtP (((W1.alloc (.cells #[.int .u8 91] 5)).alloc (.cells #[.int .u8 93] 5)).drew) W1.heap.size 91 := (bat_below (bat_new W1 _) ((Below.refl _ _).alloc (Nat.le_refl _) _).drew)
        refine step_owns_at rfl _ _ rfl w0 v xs (by first | rfl | simp [Act.eval]) (owns_below HO1.out hBb) W1.heap.size 91 (by first | rfl | simp [Act.eval]) hbat (by have := HL.out; omega) ?_
        intro v2 w2 ho2 hg2 hat2
        have hk2 : KZ W1 v w2 := kz_app (kz_refl W1 v) (apart_refl _ _) hBb hg2
        have ha2 : Apart W1 v v2 := apart_at2 hBb.size hat2
        have hX2 := jat_kz HX1.out hk2 HBV.out
        have nX2 := ha2 bX _ HX1.out (small_json _ _) HBV.out
        have hz2 : BAtP (((W1.alloc (.cells #[.int .u8 91] 5)).alloc (.cells #[.int .u8 93] 5)).drew) (W1.heap.size + 1) 93 := (by have := bat_new (W1.alloc (.cells #[.int .u8 91] 5)) 93; rwa [World.size_alloc] at this)
        have nv2 : some (W1.heap.size + 1) ≠ v.ownBlock := owns_lt HO1.out (by omega)
        have n2 : some (W1.heap.size + 1) ≠ v2.ownBlock := ne_at hat2 nv2 (bat_lt hz2)
        have hz3 := bat_grown hz2 hg2 nv2
        refine hK.out _ _ (s5_kept hHeld hg2 HBV.out) (fun hHeld => ?_)
        clear hK K
        refine wpAnyH_ready (rs := [4]) (by kernel_rfl) (by simp) (AllReadyH.cons rfl (fun K hK => ?_) AllReadyH.nil)
        · go_simp; (refine (hP _ v2 _ (by simp) ho2 (by have := HL.out; simp only [List.length_append, List.length_cons, List.length_nil]; omega)).mono ?_); rintro e w3 ⟨v3, rfl, ho3, hk3, ha3⟩
          have hX3 := jat_kz hX2 hk3 nX2
          have nX3 := ha3 bX _ hX2 (small_json _ _) nX2
          have hk3' : KZ W1 v w3 := kz_trans hk2 ha2 hk3
          have ha3' : Apart W1 v v3 := apart_trans hk2 ha2 ha3
          have hzz := bat_kz hz3 hk3 n2
          refine hK.out _ _ (s5_jat hX3) (fun hHeld => ?_)
          clear hK K
          refine wpAnyH_ready (rs := [6]) (by kernel_rfl) (by simp) (AllReadyH.cons rfl (fun K hK => ?_) AllReadyH.nil)
          · skip
            refine step_owns_at rfl _ _ rfl w0 v3 _ (by first | rfl | simp [Act.eval]) ho3 (W1.heap.size + 1) 93 (by first | rfl | simp [Act.eval]) hzz (by have := HL.out; simp only [List.length_append, List.length_cons, List.length_nil]; omega) ?_
            intro v4 w4 ho4 hg4 hat4
            have hk4 : KZ W1 v w4 := kz_trans hk3' ha3' (kz_grown hg4)
            refine hK.out _ _ (s5_kept hHeld hg4 nX3) (fun hHeld => ?_)
            clear hK K
            refine wpAnyH_take (i := 7) (v := ?_) rfl (by kernel_rfl) (by kernel_rfl) (by kernel_rfl) (fun _ _ _ h => h) (Or.inl ⟨by rfl, ?_⟩) (by assumption) ?_
            rotate_left
            · intro w hSw; go_simp; (try with_reducible rfl)
            (try simp only [Act.put, List.setIfInBounds_toArray, List.set_cons_zero, List.set_cons_succ])
            refine wpAnyH_done (by kernel_rfl) ?_ _
            simp only [List.getElem_toArray, List.getElem_cons_zero, List.getElem_cons_succ, Act.put, List.setIfInBounds_toArray, List.set_cons_zero, List.set_cons_succ]
            go_wp2
            go_ret
            exact ⟨v4, rfl, owns_congr ho4 (by simp), fun z o' hz hs hne => hk4 z o' (HK0.out z o' hz hs hne) hs hne⟩
  · go_simp
    refine hK.out _ _ (s5_kept hHeld (World.grownBy_alloc _ _ none) (by simp)) (fun hHeld => ?_)
    clear hK K
    refine wpAnyH_ready (rs := [1]) (by kernel_rfl) (by simp) (AllReadyH.cons rfl (fun K hK => ?_) AllReadyH.nil)
    · go_simp
      refine hK.out _ _ (s5_kept hHeld (World.grownBy_alloc _ _ none) (by simp)) (fun hHeld => ?_)
      clear hK K
      refine wpAnyH_ready (rs := [2]) (by kernel_rfl) (by simp) (AllReadyH.cons rfl (fun K hK => ?_) AllReadyH.nil)
      · have hBb : Below W1.heap.size W1 (((W1.alloc (.cells #[.int .u8 93] 5)).alloc (.cells #[.int .u8 91] 5)).drew) := ((((Below.refl _ W1).alloc (Nat.le_refl _) _).alloc (by simp) _).drew)
        have hbat : BAtP (((W1.alloc (.cells #[.int .u8 93] 5)).alloc (.cells #[.int .u8 91] 5)).drew) (W1.heap.size + 1) 91 := (by have := bat_new (W1.alloc (.cells #[.int .u8 93] 5)) 91; rwa [World.size_alloc] at this)
        refine step_owns_at rfl _ _ rfl w0 v xs (by first | rfl | simp [Act.eval]) (owns_below HO1.out hBb) (W1.heap.size + 1) 91 (by first | rfl | simp [Act.eval]) hbat (by have := HL.out; omega) ?_
        intro v2 w2 ho2 hg2 hat2
        have hk2 : KZ W1 v w2 := kz_app (kz_refl W1 v) (apart_refl _ _) hBb hg2
        have ha2 : Apart W1 v v2 := apart_at2 hBb.size hat2
        have hX2 := jat_kz HX1.out hk2 HBV.out
        have nX2 := ha2 bX _ HX1.out (small_json _ _) HBV.out
        have hz2 : BAtP (((W1.alloc (.cells #[.int .u8 93] 5)).alloc (.cells #[.int .u8 91] 5)).drew) W1.heap.size 93 := (bat_below (bat_new W1 _) ((Below.refl _ _).alloc (Nat.le_refl _) _).drew)
        have nv2 : some W1.heap.size ≠ v.ownBlock := owns_lt HO1.out (by omega)
        have n2 : some W1.heap.size ≠ v2.ownBlock := ne_at hat2 nv2 (bat_lt hz2)
        have hz3 := bat_grown hz2 hg2 nv2
        refine hK.out _ _ (s5_kept hHeld hg2 HBV.out) (fun hHeld => ?_)
        clear hK K
        refine wpAnyH_ready (rs := [4]) (by kernel_rfl) (by simp) (AllReadyH.cons rfl (fun K hK => ?_) AllReadyH.nil)
        · go_simp; (refine (hP _ v2 _ (by simp) ho2 (by have := HL.out; simp only [List.length_append, List.length_cons, List.length_nil]; omega)).mono ?_); rintro e w3 ⟨v3, rfl, ho3, hk3, ha3⟩
          have hX3 := jat_kz hX2 hk3 nX2
          have nX3 := ha3 bX _ hX2 (small_json _ _) nX2
          have hk3' : KZ W1 v w3 := kz_trans hk2 ha2 hk3
          have ha3' : Apart W1 v v3 := apart_trans hk2 ha2 ha3
          have hzz := bat_kz hz3 hk3 n2
          refine hK.out _ _ (s5_jat hX3) (fun hHeld => ?_)
          clear hK K
          refine wpAnyH_ready (rs := [6]) (by kernel_rfl) (by simp) (AllReadyH.cons rfl (fun K hK => ?_) AllReadyH.nil)
          · skip
            refine step_owns_at rfl _ _ rfl w0 v3 _ (by first | rfl | simp [Act.eval]) ho3 W1.heap.size 93 (by first | rfl | simp [Act.eval]) hzz (by have := HL.out; simp only [List.length_append, List.length_cons, List.length_nil]; omega) ?_
            intro v4 w4 ho4 hg4 hat4
            have hk4 : KZ W1 v w4 := kz_trans hk3' ha3' (kz_grown hg4)
            refine hK.out _ _ (s5_kept hHeld hg4 nX3) (fun hHeld => ?_)
            clear hK K
            refine wpAnyH_take (i := 7) (v := ?_) rfl (by kernel_rfl) (by kernel_rfl) (by kernel_rfl) (fun _ _ _ h => h) (Or.inl ⟨by rfl, ?_⟩) (by assumption) ?_
            rotate_left
            · intro w hSw; go_simp; (try with_reducible rfl)
            (try simp only [Act.put, List.setIfInBounds_toArray, List.set_cons_zero, List.set_cons_succ])
            refine wpAnyH_done (by kernel_rfl) ?_ _
            simp only [List.getElem_toArray, List.getElem_cons_zero, List.getElem_cons_succ, Act.put, List.setIfInBounds_toArray, List.set_cons_zero, List.set_cons_succ]
            go_wp2
            go_ret
            exact ⟨v4, rfl, owns_congr ho4 (by simp), fun z o' hz hs hne => hk4 z o' (HK0.out z o' hz hs hne) hs hne⟩
set_option maxRecDepth 100000 in
set_option maxHeartbeats 4000000 in
theorem add_obj (l : List JV) (ns : List ByteArray) (n : Int) (s : ByteArray) (w0 w : World) (v : Value) (xs : List Int) (na : Option Addr) (nc : Nat) (a : Option Addr) (cap : Nat) (T : List Int)
    (hP : ∀ w v xs, 1 ≤ xs.length → Owns w0 w v xs → xs.length + T.length + 10 ≤ 70368744177664 → Calls Tryd.prog 57 #[v, .agg #[.int .i64 6, .int .i64 n, .string s, .slice na ns.length nc, .slice a l.length cap]] w (PartsR w0 w v xs T))
    (how : Owns w0 w v xs) (hl : xs.length + T.length + 12 ≤ 70368744177664) :
    Calls Tryd.prog 32 #[v, .agg #[.int .i64 6, .int .i64 n, .string s, .slice na ns.length nc, .slice a l.length cap]] w (AddR w0 w v xs ([123] ++ T ++ [125])) := by
  have hX := jat_alloc w #[.int .i64 6, .int .i64 n, .string s, .slice na ns.length nc, .slice a l.length cap]
  obtain ⟨⟨t0, t1, t2, t3, t4⟩, _⟩ := jbox5 hX
  have hB0 := (Below.refl _ w).alloc (Nat.le_refl _) (.cells #[.int .i64 6, .int .i64 n, .string s, .slice na ns.length nc, .slice a l.length cap] 30)
  have HX0 := Lib.hid (⟨hX, owns_below how hB0, owns_lt how (Nat.le_refl _), kz_below (v := v) hB0⟩ : _ ∧ _ ∧ _ ∧ _)
  have HL := Lib.hid hl
  clear hl
  go_enter Tryd.func32, Tryd.ntmps32
  go_wp2
  obtain ⟨W1, hW1⟩ : ∃ W1, w.alloc (.cells #[.int .i64 6, .int .i64 n, .string s, .slice na ns.length nc, .slice a l.length cap] 30) = W1 := ⟨_, rfl⟩
  obtain ⟨bX, hbX⟩ : ∃ bX, w.heap.size = bX := ⟨_, rfl⟩
  rw [hW1, hbX] at HX0 ⊢
  obtain ⟨hX1, ho1, hbv, hk1⟩ := HX0.out
  have HK0 := Lib.hid hk1; have HX1 := Lib.hid hX1; have HO1 := Lib.hid ho1; have HBV := Lib.hid hbv
  have hS1 := s5_jat hX1
  clear HX0 hX t0 t1 t2 t3 t4 hB0 hW1 hbX hX1 ho1 hbv hk1 how
  refine wp_region_held_drew (S := fun W => W.cell? ⟨bX, 0, none⟩ = some (.int .i64 6) ∧ ((W.cell? ⟨bX, 1, none⟩ = some (.int .i64 n) ∧ W.cell? ⟨bX, 2, none⟩ = some (.string s)) ∧ (W.cell? ⟨bX, 3, none⟩ = some (.slice na ns.length nc) ∧ W.cell? ⟨bX, 4, none⟩ = some (.slice a l.length cap)))) (by kernel_rfl) hS1 (fun hHeld => ?_)
  refine wpAnyH_take (i := 0) (v := ?_) rfl (by kernel_rfl) (by kernel_rfl) (by kernel_rfl) (fun _ _ _ h => h) (Or.inl ⟨by rfl, ?_⟩) (by assumption) ?_
  rotate_left
  · intro w hSw; go_simp; (try with_reducible rfl)
  (try simp only [Act.put, List.setIfInBounds_toArray, List.set_cons_zero, List.set_cons_succ])
  refine wpAnyH_take (i := 3) (v := ?_) rfl (by kernel_rfl) (by kernel_rfl) (by kernel_rfl) (fun _ _ _ h => h) (Or.inl ⟨by rfl, ?_⟩) (by assumption) ?_
  rotate_left
  · intro w hSw; go_simp; (try with_reducible rfl)
  (try simp only [Act.put, List.setIfInBounds_toArray, List.set_cons_zero, List.set_cons_succ])
  refine wpAnyH_ready (rs := [1, 5]) (by kernel_rfl) (by simp) (AllReadyH.cons rfl (fun K hK => ?_) (AllReadyH.cons rfl (fun K hK => ?_) AllReadyH.nil))
  · go_simp
    refine hK.out _ _ (s5_kept hHeld (World.grownBy_alloc _ _ none) (by simp)) (fun hHeld => ?_)
    clear hK K
    refine wpAnyH_ready (rs := [2, 5]) (by kernel_rfl) (by simp) (AllReadyH.cons rfl (fun K hK => ?_) (AllReadyH.cons rfl (fun K hK => ?_) AllReadyH.nil))
    · have hBb : Below W1.heap.size W1 ((W1.alloc (.cells #[.int .u8 123] 5)).drew) := (((Below.refl _ W1).alloc (Nat.le_refl _) _).drew)
      have hbat : BAtP ((W1.alloc (.cells #[.int .u8 123] 5)).drew) W1.heap.size 123 := bat_new W1 _
      refine step_owns_at rfl _ _ rfl w0 v xs (by first | rfl | simp [Act.eval]) (owns_below HO1.out hBb) W1.heap.size 123 (by first | rfl | simp [Act.eval]) hbat (by have := HL.out; omega) ?_
      intro v2 w2 ho2 hg2 hat2
      have hk2 : KZ W1 v w2 := kz_app (kz_refl W1 v) (apart_refl _ _) hBb hg2
      have ha2 : Apart W1 v v2 := apart_at2 hBb.size hat2
      have hX2 := jat_kz HX1.out hk2 HBV.out
      have nX2 := ha2 bX _ HX1.out (small_json _ _) HBV.out
      refine hK.out _ _ (s5_kept hHeld hg2 HBV.out) (fun hHeld => ?_)
      clear hK K
      refine wpAnyH_ready (rs := [4, 5]) (by kernel_rfl) (by simp) (AllReadyH.cons rfl (fun K hK => ?_) (AllReadyH.cons rfl (fun K hK => ?_) AllReadyH.nil))
      · go_simp; (refine (hP _ v2 _ (by simp) ho2 (by have := HL.out; simp only [List.length_append, List.length_cons, List.length_nil]; omega)).mono ?_); rintro e w3 ⟨v3, rfl, ho3, hk3, ha3⟩
        have hX3 := jat_kz hX2 hk3 nX2
        have nX3 := ha3 bX _ hX2 (small_json _ _) nX2
        have hk3' : KZ W1 v w3 := kz_trans hk2 ha2 hk3
        have ha3' : Apart W1 v v3 := apart_trans hk2 ha2 ha3
        refine hK.out _ _ (s5_jat hX3) (fun hHeld => ?_)
        clear hK K
        refine wpAnyH_ready (rs := [5]) (by kernel_rfl) (by simp) (AllReadyH.cons rfl (fun K hK => ?_) AllReadyH.nil)
        · go_simp
          refine hK.out _ _ (s5_kept hHeld (World.grownBy_alloc _ _ none) (by simp)) (fun hHeld => ?_)
          clear hK K
          refine wpAnyH_ready (rs := [6]) (by kernel_rfl) (by simp) (AllReadyH.cons rfl (fun K hK => ?_) AllReadyH.nil)
          · have hb3 := (Below.refl _ w3).alloc (Nat.le_refl _) (.cells #[.int .u8 125] 5)
            refine step_owns_at rfl _ _ rfl w0 v3 _ (by first | rfl | simp [Act.eval]) (owns_below ho3 hb3) w3.heap.size 125 (by first | rfl | simp [Act.eval]) (bat_new w3 _) (by have := HL.out; simp only [List.length_append, List.length_cons, List.length_nil]; omega) ?_
            intro v4 w4 ho4 hg4 hat4
            have hk4 : KZ W1 v w4 := kz_app hk3' ha3' hb3 hg4
            refine hK.out _ _ (s5_kept hHeld hg4 nX3) (fun hHeld => ?_)
            clear hK K
            refine wpAnyH_take (i := 7) (v := ?_) rfl (by kernel_rfl) (by kernel_rfl) (by kernel_rfl) (fun _ _ _ h => h) (Or.inl ⟨by rfl, ?_⟩) (by assumption) ?_
            rotate_left
            · intro w hSw; go_simp; (try with_reducible rfl)
            (try simp only [Act.put, List.setIfInBounds_toArray, List.set_cons_zero, List.set_cons_succ])
            refine wpAnyH_done (by kernel_rfl) ?_ _
            simp only [List.getElem_toArray, List.getElem_cons_zero, List.getElem_cons_succ, Act.put, List.setIfInBounds_toArray, List.set_cons_zero, List.set_cons_succ]
            go_wp2
            go_ret
            exact ⟨v4, rfl, owns_congr ho4 (by simp), fun z o' hz hs hne => hk4 z o' (HK0.out z o' hz hs hne) hs hne⟩
      · go_simp
        refine hK.out _ _ (s5_kept hHeld (World.grownBy_alloc _ _ none) (by simp)) (fun hHeld => ?_)
        clear hK K
        refine wpAnyH_ready (rs := [4]) (by kernel_rfl) (by simp) (AllReadyH.cons rfl (fun K hK => ?_) AllReadyH.nil)
        · go_simp; (refine (hP _ v2 _ (by simp) (owns_below ho2 ((Below.refl _ _).alloc (Nat.le_refl _) _)) (by have := HL.out; simp only [List.length_append, List.length_cons, List.length_nil]; omega)).mono ?_); rintro e w3 ⟨v3, rfl, ho3, hk3, ha3⟩
          have hX2' := jat_old hX2 (.cells #[.int .u8 125] 5)
          have hX3 := jat_kz hX2' hk3 nX2
          have nX3 := ha3 bX _ hX2' (small_json _ _) nX2
          have hzz := bat_kz (bat_new w2 125) hk3 (owns_lt ho2 (Nat.le_refl _))
          have hk3' : KZ W1 v w3 := kz_trans (kz_trans hk2 ha2 (kz_below (v := v2) ((Below.refl _ w2).alloc (Nat.le_refl _) (.cells #[.int .u8 125] 5)))) ha2 hk3
          have ha3' : Apart W1 v v3 := apart_trans (kz_trans hk2 ha2 (kz_below (v := v2) ((Below.refl _ w2).alloc (Nat.le_refl _) (.cells #[.int .u8 125] 5)))) ha2 ha3
          refine hK.out _ _ (s5_jat hX3) (fun hHeld => ?_)
          clear hK K
          refine wpAnyH_ready (rs := [6]) (by kernel_rfl) (by simp) (AllReadyH.cons rfl (fun K hK => ?_) AllReadyH.nil)
          · skip
            refine step_owns_at rfl _ _ rfl w0 v3 _ (by first | rfl | simp [Act.eval]) ho3 w2.heap.size 125 (by first | rfl | simp [Act.eval]) hzz (by have := HL.out; simp only [List.length_append, List.length_cons, List.length_nil]; omega) ?_
            intro v4 w4 ho4 hg4 hat4
            have hk4 : KZ W1 v w4 := kz_trans hk3' ha3' (kz_grown hg4)
            refine hK.out _ _ (s5_kept hHeld hg4 nX3) (fun hHeld => ?_)
            clear hK K
            refine wpAnyH_take (i := 7) (v := ?_) rfl (by kernel_rfl) (by kernel_rfl) (by kernel_rfl) (fun _ _ _ h => h) (Or.inl ⟨by rfl, ?_⟩) (by assumption) ?_
            rotate_left
            · intro w hSw; go_simp; (try with_reducible rfl)
            (try simp only [Act.put, List.setIfInBounds_toArray, List.set_cons_zero, List.set_cons_succ])
            refine wpAnyH_done (by kernel_rfl) ?_ _
            simp only [List.getElem_toArray, List.getElem_cons_zero, List.getElem_cons_succ, Act.put, List.setIfInBounds_toArray, List.set_cons_zero, List.set_cons_succ]
            go_wp2
            go_ret
            exact ⟨v4, rfl, owns_congr ho4 (by simp), fun z o' hz hs hne => hk4 z o' (HK0.out z o' hz hs hne) hs hne⟩
    · go_simp
      refine hK.out _ _ (s5_kept hHeld (World.grownBy_alloc _ _ none) (by simp)) (fun hHeld => ?_)
      clear hK K
      refine wpAnyH_ready (rs := [2]) (by kernel_rfl) (by simp) (AllReadyH.cons rfl (fun K hK => ?_) AllReadyH.nil)
      · have hBb : Below W1.heap.size W1 (((W1.alloc (.cells #[.int .u8 123] 5)).alloc (.cells #[.int .u8 125] 5)).drew) := ((((Below.refl _ W1).alloc (Nat.le_refl _) _).alloc (by simp) _).drew)
        have hbat : BAtP (((W1.alloc (.cells #[.int .u8 123] 5)).alloc (.cells #[.int .u8 125] 5)).drew) W1.heap.size 123 := (bat_below (bat_new W1 _) ((Below.refl _ _).alloc (Nat.le_refl _) _).drew)
        refine step_owns_at rfl _ _ rfl w0 v xs (by first | rfl | simp [Act.eval]) (owns_below HO1.out hBb) W1.heap.size 123 (by first | rfl | simp [Act.eval]) hbat (by have := HL.out; omega) ?_
        intro v2 w2 ho2 hg2 hat2
        have hk2 : KZ W1 v w2 := kz_app (kz_refl W1 v) (apart_refl _ _) hBb hg2
        have ha2 : Apart W1 v v2 := apart_at2 hBb.size hat2
        have hX2 := jat_kz HX1.out hk2 HBV.out
        have nX2 := ha2 bX _ HX1.out (small_json _ _) HBV.out
        have hz2 : BAtP (((W1.alloc (.cells #[.int .u8 123] 5)).alloc (.cells #[.int .u8 125] 5)).drew) (W1.heap.size + 1) 125 := (by have := bat_new (W1.alloc (.cells #[.int .u8 123] 5)) 125; rwa [World.size_alloc] at this)
        have nv2 : some (W1.heap.size + 1) ≠ v.ownBlock := owns_lt HO1.out (by omega)
        have n2 : some (W1.heap.size + 1) ≠ v2.ownBlock := ne_at hat2 nv2 (bat_lt hz2)
        have hz3 := bat_grown hz2 hg2 nv2
        refine hK.out _ _ (s5_kept hHeld hg2 HBV.out) (fun hHeld => ?_)
        clear hK K
        refine wpAnyH_ready (rs := [4]) (by kernel_rfl) (by simp) (AllReadyH.cons rfl (fun K hK => ?_) AllReadyH.nil)
        · go_simp; (refine (hP _ v2 _ (by simp) ho2 (by have := HL.out; simp only [List.length_append, List.length_cons, List.length_nil]; omega)).mono ?_); rintro e w3 ⟨v3, rfl, ho3, hk3, ha3⟩
          have hX3 := jat_kz hX2 hk3 nX2
          have nX3 := ha3 bX _ hX2 (small_json _ _) nX2
          have hk3' : KZ W1 v w3 := kz_trans hk2 ha2 hk3
          have ha3' : Apart W1 v v3 := apart_trans hk2 ha2 ha3
          have hzz := bat_kz hz3 hk3 n2
          refine hK.out _ _ (s5_jat hX3) (fun hHeld => ?_)
          clear hK K
          refine wpAnyH_ready (rs := [6]) (by kernel_rfl) (by simp) (AllReadyH.cons rfl (fun K hK => ?_) AllReadyH.nil)
          · skip
            refine step_owns_at rfl _ _ rfl w0 v3 _ (by first | rfl | simp [Act.eval]) ho3 (W1.heap.size + 1) 125 (by first | rfl | simp [Act.eval]) hzz (by have := HL.out; simp only [List.length_append, List.length_cons, List.length_nil]; omega) ?_
            intro v4 w4 ho4 hg4 hat4
            have hk4 : KZ W1 v w4 := kz_trans hk3' ha3' (kz_grown hg4)
            refine hK.out _ _ (s5_kept hHeld hg4 nX3) (fun hHeld => ?_)
            clear hK K
            refine wpAnyH_take (i := 7) (v := ?_) rfl (by kernel_rfl) (by kernel_rfl) (by kernel_rfl) (fun _ _ _ h => h) (Or.inl ⟨by rfl, ?_⟩) (by assumption) ?_
            rotate_left
            · intro w hSw; go_simp; (try with_reducible rfl)
            (try simp only [Act.put, List.setIfInBounds_toArray, List.set_cons_zero, List.set_cons_succ])
            refine wpAnyH_done (by kernel_rfl) ?_ _
            simp only [List.getElem_toArray, List.getElem_cons_zero, List.getElem_cons_succ, Act.put, List.setIfInBounds_toArray, List.set_cons_zero, List.set_cons_succ]
            go_wp2
            go_ret
            exact ⟨v4, rfl, owns_congr ho4 (by simp), fun z o' hz hs hne => hk4 z o' (HK0.out z o' hz hs hne) hs hne⟩
  · go_simp
    refine hK.out _ _ (s5_kept hHeld (World.grownBy_alloc _ _ none) (by simp)) (fun hHeld => ?_)
    clear hK K
    refine wpAnyH_ready (rs := [1]) (by kernel_rfl) (by simp) (AllReadyH.cons rfl (fun K hK => ?_) AllReadyH.nil)
    · go_simp
      refine hK.out _ _ (s5_kept hHeld (World.grownBy_alloc _ _ none) (by simp)) (fun hHeld => ?_)
      clear hK K
      refine wpAnyH_ready (rs := [2]) (by kernel_rfl) (by simp) (AllReadyH.cons rfl (fun K hK => ?_) AllReadyH.nil)
      · have hBb : Below W1.heap.size W1 (((W1.alloc (.cells #[.int .u8 125] 5)).alloc (.cells #[.int .u8 123] 5)).drew) := ((((Below.refl _ W1).alloc (Nat.le_refl _) _).alloc (by simp) _).drew)
        have hbat : BAtP (((W1.alloc (.cells #[.int .u8 125] 5)).alloc (.cells #[.int .u8 123] 5)).drew) (W1.heap.size + 1) 123 := (by have := bat_new (W1.alloc (.cells #[.int .u8 125] 5)) 123; rwa [World.size_alloc] at this)
        refine step_owns_at rfl _ _ rfl w0 v xs (by first | rfl | simp [Act.eval]) (owns_below HO1.out hBb) (W1.heap.size + 1) 123 (by first | rfl | simp [Act.eval]) hbat (by have := HL.out; omega) ?_
        intro v2 w2 ho2 hg2 hat2
        have hk2 : KZ W1 v w2 := kz_app (kz_refl W1 v) (apart_refl _ _) hBb hg2
        have ha2 : Apart W1 v v2 := apart_at2 hBb.size hat2
        have hX2 := jat_kz HX1.out hk2 HBV.out
        have nX2 := ha2 bX _ HX1.out (small_json _ _) HBV.out
        have hz2 : BAtP (((W1.alloc (.cells #[.int .u8 125] 5)).alloc (.cells #[.int .u8 123] 5)).drew) W1.heap.size 125 := (bat_below (bat_new W1 _) ((Below.refl _ _).alloc (Nat.le_refl _) _).drew)
        have nv2 : some W1.heap.size ≠ v.ownBlock := owns_lt HO1.out (by omega)
        have n2 : some W1.heap.size ≠ v2.ownBlock := ne_at hat2 nv2 (bat_lt hz2)
        have hz3 := bat_grown hz2 hg2 nv2
        refine hK.out _ _ (s5_kept hHeld hg2 HBV.out) (fun hHeld => ?_)
        clear hK K
        refine wpAnyH_ready (rs := [4]) (by kernel_rfl) (by simp) (AllReadyH.cons rfl (fun K hK => ?_) AllReadyH.nil)
        · go_simp; (refine (hP _ v2 _ (by simp) ho2 (by have := HL.out; simp only [List.length_append, List.length_cons, List.length_nil]; omega)).mono ?_); rintro e w3 ⟨v3, rfl, ho3, hk3, ha3⟩
          have hX3 := jat_kz hX2 hk3 nX2
          have nX3 := ha3 bX _ hX2 (small_json _ _) nX2
          have hk3' : KZ W1 v w3 := kz_trans hk2 ha2 hk3
          have ha3' : Apart W1 v v3 := apart_trans hk2 ha2 ha3
          have hzz := bat_kz hz3 hk3 n2
          refine hK.out _ _ (s5_jat hX3) (fun hHeld => ?_)
          clear hK K
          refine wpAnyH_ready (rs := [6]) (by kernel_rfl) (by simp) (AllReadyH.cons rfl (fun K hK => ?_) AllReadyH.nil)
          · skip
            refine step_owns_at rfl _ _ rfl w0 v3 _ (by first | rfl | simp [Act.eval]) ho3 W1.heap.size 125 (by first | rfl | simp [Act.eval]) hzz (by have := HL.out; simp only [List.length_append, List.length_cons, List.length_nil]; omega) ?_
            intro v4 w4 ho4 hg4 hat4
            have hk4 : KZ W1 v w4 := kz_trans hk3' ha3' (kz_grown hg4)
            refine hK.out _ _ (s5_kept hHeld hg4 nX3) (fun hHeld => ?_)
            clear hK K
            refine wpAnyH_take (i := 7) (v := ?_) rfl (by kernel_rfl) (by kernel_rfl) (by kernel_rfl) (fun _ _ _ h => h) (Or.inl ⟨by rfl, ?_⟩) (by assumption) ?_
            rotate_left
            · intro w hSw; go_simp; (try with_reducible rfl)
            (try simp only [Act.put, List.setIfInBounds_toArray, List.set_cons_zero, List.set_cons_succ])
            refine wpAnyH_done (by kernel_rfl) ?_ _
            simp only [List.getElem_toArray, List.getElem_cons_zero, List.getElem_cons_succ, Act.put, List.setIfInBounds_toArray, List.set_cons_zero, List.set_cons_succ]
            go_wp2
            go_ret
            exact ⟨v4, rfl, owns_congr ho4 (by simp), fun z o' hz hs hne => hk4 z o' (HK0.out z o' hz hs hne) hs hne⟩
end Go.Proofs.YtcicjpdjbfgbhaaDoor
