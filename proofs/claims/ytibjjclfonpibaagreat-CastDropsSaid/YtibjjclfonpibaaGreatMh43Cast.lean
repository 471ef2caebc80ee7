/- The document's Copy of layer 10, of a version whose values lie in an elder world. (Made by gen_ref10copy.py.) -/
import Derived.Test.YtibjjclfonpibaaGreatMh14Cast
import Derived.Deep.RegionHeldLaw
set_option linter.unusedVariables false
set_option linter.unusedSimpArgs false
set_option maxRecDepth 100000
namespace Go.Proofs.YtibjjclfonpibaaGreat
open Go.RowKit Go.Shelf
/-- a version that lies in w1, its values in w0 -/
def VerInA (w0 w1 : World) (x : Sc.Ver) (sa : Option Addr) (sc : Nat) (ca : Option Addr) (cc : Nat) : Prop := (∃ cs, SCells w0 x.slots cs ∧ Cells w1 7 sa x.slots.length cs) ∧ Row w1 .i64 ca x.cols.length cc (x.cols.map Int.ofNat)
set_option maxRecDepth 100000 in
set_option maxHeartbeats 4000000 in
theorem refCopy_in (x : Sc.Ver) (sa : Option Addr) (sc : Nat) (ca : Option Addr) (cc : Nat) (w0 w1 w : World) (hsl : x.slots.length ≤ 100000) (hcl : x.cols.length ≤ 100000) (hv : VerInA w0 w1 x sa sc ca cc) (hw0 : Below w1.heap.size w1 w) :
    Calls Tryz.prog 85 #[.agg #[.slice sa x.slots.length sc, .slice ca x.cols.length cc]] w fun e w' => (∃ sv cv, e = .returned (.agg #[sv, cv]) ∧ VerOwn w.heap.size w0 w' x sv cv) ∧ Below w.heap.size w w' := by
  obtain ⟨slots, cols⟩ := x
  obtain ⟨⟨cs, hsc, hcs⟩, hr⟩ := hv
  unfold VerOwn
  simp only at hsl hcl hsc hcs hr ⊢
  have hci := cells_below9 (cells_of_row hr) hw0
  replace hcs := cells_below9 hcs hw0
  obtain ⟨ds, hds⟩ : ∃ ds, (cols.map Int.ofNat).map (Value.int .i64) = ds := ⟨_, rfl⟩
  have hd1 : ∀ u ∈ ds, u.oneCell' = true := by
    intro u hu
    rw [← hds] at hu
    obtain ⟨i, _, rfl⟩ := List.mem_map.1 hu
    rfl
  rw [hds] at hci ⊢
  have hc1 := hsc.2.1
  obtain ⟨n, hn⟩ : ∃ n, slots.length = n := ⟨_, rfl⟩
  obtain ⟨m, hm⟩ : ∃ m, cols.length = m := ⟨_, rfl⟩
  rw [hn] at hcs hsl ⊢
  rw [hm] at hci hcl ⊢
  obtain ⟨i0, hi, hi0, hi1, hi2⟩ := info_parts info_slot
  obtain ⟨j0, hj, hj0, hj1, hj2⟩ := info_parts info_int
  have HSC := Lib.hid hsc
  clear hsc hr hn hm hds
  go_enter Tryz.func85, Tryz.ntmps85
  go_wp2
  obtain ⟨V, hV⟩ : ∃ V, (w.alloc (.cells #[.slice sa n sc, .slice ca m cc] 37)).alloc (.cells #[.slice none 0 0, .slice none 0 0] 37) = V := ⟨_, rfl⟩
  obtain ⟨b1, hb1⟩ : ∃ b, w.heap.size = b := ⟨_, rfl⟩
  obtain ⟨b2, hb2⟩ : ∃ b, b1 + 1 = b := ⟨_, rfl⟩
  have hS0 : CopyS w sa n sc ca m cc b1 b2 V.drew ∧ V.drew.heap.size = b2 + 1 := by
    rw [← hV, ← hb2, ← hb1]
    have hs1 : (w.alloc (.cells #[.slice sa n sc, .slice ca m cc] 37)).heap.size = w.heap.size + 1 := World.size_alloc _ _
    refine ⟨⟨(((Below.refl _ w).alloc (Nat.le_refl _) _).alloc (by omega) _).drew, ?_, .slice none 0 0, .slice none 0 0, ?_⟩, ?_⟩
    · exact (Below.heap_alloc _ _ _ (by omega)).trans (heap_self9 w _)
    · exact hs1 ▸ heap_self9 (w.alloc (.cells #[.slice sa n sc, .slice ca m cc] 37)) _
    · show (World.alloc _ _).heap.size = _
      rw [World.size_alloc, hs1]
  obtain ⟨hS0, hC0⟩ := hS0
  rw [hV, hb1, hb2]
  clear hV
  refine wp_region_held_drew (S := CopyS w sa n sc ca m cc b1 b2) (by kernel_rfl) hS0 (fun hHeld => ?_)
  clear hS0
  obtain ⟨V0, hV0⟩ : ∃ V0, V.drew = V0 := ⟨_, rfl⟩
  rw [hV0] at hHeld hC0 ⊢
  clear hV0
  obtain ⟨C, hC, hC1⟩ : ∃ C, b2 < C ∧ C ≤ V0.heap.size := ⟨b2 + 1, by omega, by omega⟩
  clear hC0
  refine wpAnyH_take (i := 1) (v := ?_) rfl (by kernel_rfl) (by kernel_rfl) (by kernel_rfl) (fun _ _ _ h => h) (Or.inl ⟨by rfl, ?_⟩) (by assumption) ?_
  rotate_left
  · intro w hSw; obtain ⟨_, hx1, _⟩ := hSw; have hx2 := two_cells hx1; go_simp; (try with_reducible rfl)
  (try simp only [Act.put, List.setIfInBounds_toArray, List.set_cons_zero, List.set_cons_succ])
  refine wpAnyH_take (i := 2) (v := ?_) rfl (by kernel_rfl) (by kernel_rfl) (by kernel_rfl) (fun _ _ _ h => h) (Or.inl ⟨by rfl, ?_⟩) (by assumption) ?_
  rotate_left
  · intro w hSw; obtain ⟨_, hx1, _⟩ := hSw; have hx2 := two_cells hx1; go_simp; (try with_reducible rfl)
  (try simp only [Act.put, List.setIfInBounds_toArray, List.set_cons_zero, List.set_cons_succ])
  refine wpAnyH_take (i := 5) (v := ?_) rfl (by kernel_rfl) (by kernel_rfl) (by kernel_rfl) (fun _ _ _ h => h) (Or.inl ⟨by rfl, ?_⟩) (by assumption) ?_
  rotate_left
  · intro w hSw; obtain ⟨_, hx1, _⟩ := hSw; have hx2 := two_cells hx1; go_simp; (try with_reducible rfl)
  (try simp only [Act.put, List.setIfInBounds_toArray, List.set_cons_zero, List.set_cons_succ])
  refine wpAnyH_take (i := 6) (v := ?_) rfl (by kernel_rfl) (by kernel_rfl) (by kernel_rfl) (fun _ _ _ h => h) (Or.inl ⟨by rfl, ?_⟩) (by assumption) ?_
  rotate_left
  · intro w hSw; obtain ⟨_, hx1, _⟩ := hSw; have hx2 := two_cells hx1; go_simp; (try with_reducible rfl)
  (try simp only [Act.put, List.setIfInBounds_toArray, List.set_cons_zero, List.set_cons_succ])
  refine wpAnyH_ready (rs := [0, 4]) (by kernel_rfl) (by simp) (AllReadyH.cons rfl (fun K hK => ?_) (AllReadyH.cons rfl (fun K hK => ?_) AllReadyH.nil))
  · go_simp
    have hg : V0.grownBy (V0.alloc (.cells #[] 44)) none := World.grownBy_alloc _ _ none
    have o0 := own_empty V0 C 44 7 (by omega)
    have hz : V0.heap.size + 1 ≤ (V0.alloc (.cells #[] 44)).heap.size := Nat.le_of_eq (World.size_alloc _ _).symm
    obtain ⟨V1, hU⟩ : ∃ U, V0.alloc (.cells #[] 44) = U := ⟨_, rfl⟩
    rw [hU] at hg o0 hz ⊢
    obtain ⟨g0, hg0⟩ : ∃ g, V0.heap.size = g := ⟨_, rfl⟩
    rw [hg0] at o0 ⊢
    clear hU
    refine hK.out _ _ (copyS_kept hHeld hg (fun b e => by cases e) (by omega)) (fun hHeld => ?_)
    clear hK K hg
    refine wpAnyH_ready (rs := [3, 4]) (by kernel_rfl) (by simp) (AllReadyH.cons rfl (fun K hK => ?_) (AllReadyH.cons rfl (fun K hK => ?_) AllReadyH.nil))
    · refine step_append_at _ rfl _ _ 22 rfl C 44 i0 _ 7 88 Tryz.underlying22 hi hi0 hi1 hi2 rfl (by decide) (.slice (some ⟨g0, 0, none⟩) 0 0) 0 [] (by first | rfl | simp [Act.eval]) o0 sa n sc cs (by first | rfl | simp [Act.eval]) (cells_below9 hcs hHeld.1) hc1 (by unfold maxLen; omega) (by omega) (by omega) ?_
      intro v6 V2 o3 hg at6
      replace hg : V1.grownBy V2 (some g0) := hg
      replace at6 : v6.ownBlock = some g0 ∨ v6.ownBlock = some V1.heap.size := at6
      rw [Nat.zero_add, List.nil_append] at o3
      have hz3 := hg.size
      have h6l := fun b e => (own_blk9 o3 b e).1
      skip
      refine hK.out _ _ (copyS_kept hHeld hg (fun b e => by cases e; omega) (by omega)) (fun hHeld => ?_)
      clear hK K hg
      refine wpAnyH_ready (rs := [4]) (by kernel_rfl) (by simp) (AllReadyH.cons rfl (fun K hK => ?_) AllReadyH.nil)
      · go_simp
        have hg : V2.grownBy (V2.alloc (.cells #[] 3)) none := World.grownBy_alloc _ _ none
        have o4 := own_empty V2 C 3 1 (by omega)
        have hz : V2.heap.size + 1 ≤ (V2.alloc (.cells #[] 3)).heap.size := Nat.le_of_eq (World.size_alloc _ _).symm
        obtain ⟨V3, hU⟩ : ∃ U, V2.alloc (.cells #[] 3) = U := ⟨_, rfl⟩
        rw [hU] at hg o4 hz ⊢
        obtain ⟨g4, hg4⟩ : ∃ g, V2.heap.size = g := ⟨_, rfl⟩
        rw [hg4] at o4 ⊢
        clear hU
        have o3 := own_kept9 o3 hg (fun b e => by cases e)
        refine hK.out _ _ (copyS_kept hHeld hg (fun b e => by cases e) (by omega)) (fun hHeld => ?_)
        clear hK K hg
        refine wpAnyH_ready (rs := [7]) (by kernel_rfl) (by simp) (AllReadyH.cons rfl (fun K hK => ?_) AllReadyH.nil)
        · refine step_append_at _ rfl _ _ 35 rfl C 3 j0 _ 1 8 Tryz.underlying35 hj hj0 hj1 hj2 rfl (by decide) (.slice (some ⟨g4, 0, none⟩) 0 0) 0 [] (by first | rfl | simp [Act.eval]) o4 ca m cc ds (by first | rfl | simp [Act.eval]) (cells_below9 hci hHeld.1) hd1 (by unfold maxLen; omega) (by omega) (by omega) ?_
          intro v10 V4 o7 hg at10
          replace hg : V3.grownBy V4 (some g4) := hg
          replace at10 : v10.ownBlock = some g4 ∨ v10.ownBlock = some V3.heap.size := at10
          rw [Nat.zero_add, List.nil_append] at o7
          have hz7 := hg.size
          have hne : ∀ b, v6.ownBlock = some b → v10.ownBlock = some b → False := fun b e1 e2 => by have hb6 := own_blk9 o3 b e1; have hb7 := h6l b e1; rcases at6 with q | q <;> rw [q] at e1 <;> rcases at10 with r | r <;> rw [r] at e2 <;> injection e1 with e1 <;> injection e2 with e2 <;> omega
          have o3 := own_kept9 o3 hg (fun b e1 e2 => by have hb6 := own_blk9 o3 b e2; have hb7 := h6l b e2; rcases at6 with q | q <;> rw [q] at e2 <;> injection e1 with e1 <;> injection e2 with e2 <;> omega)
          skip
          refine hK.out _ _ (copyS_kept hHeld hg (fun b e => by cases e; omega) (by omega)) (fun hHeld => ?_)
          clear hK K hg
          obtain ⟨a6, c6, rfl⟩ := own_form9 o3
          obtain ⟨a10, c10, rfl⟩ := own_form9 o7
          refine wpAnyH_take (i := 8) (v := ?_) rfl (by kernel_rfl) (by kernel_rfl) (by kernel_rfl) (fun _ _ _ h => h) (Or.inl ⟨by rfl, ?_⟩) (by assumption) ?_
          rotate_left
          · intro w hSw; obtain ⟨_, hx1, _⟩ := hSw; have hx2 := two_cells hx1; go_simp; (try with_reducible rfl)
          (try simp only [Act.put, List.setIfInBounds_toArray, List.set_cons_zero, List.set_cons_succ])
          refine wpAnyH_ready (rs := [9]) (by kernel_rfl) (by simp) (AllReadyH.cons rfl (fun K hK => ?_) AllReadyH.nil)
          · obtain ⟨hBW, hbx, u0, u1, hrv⟩ := id hHeld
            obtain ⟨y0, y1, f0, f1⟩ := two_all hrv
            go_simp
            have hk1 := grown_set9 V4 b2 0 (.slice a6 n c6)
            have hk2 := grown_set9 (V4.setCell ⟨b2, 0, none⟩ (.slice a6 n c6)) b2 1 (.slice a10 m c10)
            have hrw := set_two9 hrv (.slice a6 n c6) (.slice a10 m c10)
            have hzz : (V4.setCell ⟨b2, 0, none⟩ (.slice a6 n c6)).heap.size = V4.heap.size := by simp
            have o3 := own_kept9 (own_kept9 o3 hk1 (fun b e1 e2 => by have := own_blk9 o3 b e2; cases e1; omega)) hk2 (fun b e1 e2 => by have := own_blk9 o3 b e2; cases e1; omega)
            have o7 := own_kept9 (own_kept9 o7 hk1 (fun b e1 e2 => by have := own_blk9 o7 b e2; cases e1; omega)) hk2 (fun b e1 e2 => by have := own_blk9 o7 b e2; cases e1; omega)
            have hBF := below_grown9 (below_grown9 hBW hk1 (fun b e => by cases e; omega) (by omega)) hk2 (fun b e => by cases e; omega) (by omega)
            obtain ⟨p0, p1⟩ := two_cells hrw
            refine hK.out _ _ ⟨hBF, ((hk2.block b1 (by have := (Array.getElem?_eq_some_iff.1 hbx).1; omega) (by simp; omega)).trans (hk1.block b1 (Array.getElem?_eq_some_iff.1 hbx).1 (by simp; omega))).trans hbx, _, _, hrw⟩ (fun hHeld => ?_)
            clear hK K
            refine wpAnyH_done (by kernel_rfl) ?_ _
            go_wp2
            refine bodyPost_ret (results_cell_row Tryz.results85 _ _ b2 _ _ _ _ rfl hrw Tryz.underlying37 rfl (by kernel_rfl)) rfl ?_
            exact ⟨⟨_, _, rfl, cs, ownsRow_mono o3 (by omega), HSC.out, ownsRow_mono o7 (by omega), hne⟩, hBF⟩
    · go_simp
      have hg : V1.grownBy (V1.alloc (.cells #[] 3)) none := World.grownBy_alloc _ _ none
      have o4 := own_empty V1 C 3 1 (by omega)
      have hz : V1.heap.size + 1 ≤ (V1.alloc (.cells #[] 3)).heap.size := Nat.le_of_eq (World.size_alloc _ _).symm
      obtain ⟨V2, hU⟩ : ∃ U, V1.alloc (.cells #[] 3) = U := ⟨_, rfl⟩
      rw [hU] at hg o4 hz ⊢
      obtain ⟨g4, hg4⟩ : ∃ g, V1.heap.size = g := ⟨_, rfl⟩
      rw [hg4] at o4 ⊢
      clear hU
      have o0 := own_kept9 o0 hg (fun b e => by cases e)
      refine hK.out _ _ (copyS_kept hHeld hg (fun b e => by cases e) (by omega)) (fun hHeld => ?_)
      clear hK K hg
      refine wpAnyH_ready (rs := [3]) (by kernel_rfl) (by simp) (AllReadyH.cons rfl (fun K hK => ?_) AllReadyH.nil)
      · refine step_append_at _ rfl _ _ 22 rfl C 44 i0 _ 7 88 Tryz.underlying22 hi hi0 hi1 hi2 rfl (by decide) (.slice (some ⟨g0, 0, none⟩) 0 0) 0 [] (by first | rfl | simp [Act.eval]) o0 sa n sc cs (by first | rfl | simp [Act.eval]) (cells_below9 hcs hHeld.1) hc1 (by unfold maxLen; omega) (by omega) (by omega) ?_
        intro v6 V3 o3 hg at6
        replace hg : V2.grownBy V3 (some g0) := hg
        replace at6 : v6.ownBlock = some g0 ∨ v6.ownBlock = some V2.heap.size := at6
        rw [Nat.zero_add, List.nil_append] at o3
        have hz3 := hg.size
        have h6l := fun b e => (own_blk9 o3 b e).1
        have o4 := own_kept9 o4 hg (fun b e1 e2 => by have : some g4 = some b := e2; injection e1 with e1; injection this with this; omega)
        skip
        refine hK.out _ _ (copyS_kept hHeld hg (fun b e => by cases e; omega) (by omega)) (fun hHeld => ?_)
        clear hK K hg
        refine wpAnyH_ready (rs := [7]) (by kernel_rfl) (by simp) (AllReadyH.cons rfl (fun K hK => ?_) AllReadyH.nil)
        · refine step_append_at _ rfl _ _ 35 rfl C 3 j0 _ 1 8 Tryz.underlying35 hj hj0 hj1 hj2 rfl (by decide) (.slice (some ⟨g4, 0, none⟩) 0 0) 0 [] (by first | rfl | simp [Act.eval]) o4 ca m cc ds (by first | rfl | simp [Act.eval]) (cells_below9 hci hHeld.1) hd1 (by unfold maxLen; omega) (by omega) (by omega) ?_
          intro v10 V4 o7 hg at10
          replace hg : V3.grownBy V4 (some g4) := hg
          replace at10 : v10.ownBlock = some g4 ∨ v10.ownBlock = some V3.heap.size := at10
          rw [Nat.zero_add, List.nil_append] at o7
          have hz7 := hg.size
          have hne : ∀ b, v6.ownBlock = some b → v10.ownBlock = some b → False := fun b e1 e2 => by have hb6 := own_blk9 o3 b e1; have hb7 := h6l b e1; rcases at6 with q | q <;> rw [q] at e1 <;> rcases at10 with r | r <;> rw [r] at e2 <;> injection e1 with e1 <;> injection e2 with e2 <;> omega
          have o3 := own_kept9 o3 hg (fun b e1 e2 => by have hb6 := own_blk9 o3 b e2; have hb7 := h6l b e2; rcases at6 with q | q <;> rw [q] at e2 <;> injection e1 with e1 <;> injection e2 with e2 <;> omega)
          skip
          refine hK.out _ _ (copyS_kept hHeld hg (fun b e => by cases e; omega) (by omega)) (fun hHeld => ?_)
          clear hK K hg
          obtain ⟨a6, c6, rfl⟩ := own_form9 o3
          obtain ⟨a10, c10, rfl⟩ := own_form9 o7
          refine wpAnyH_take (i := 8) (v := ?_) rfl (by kernel_rfl) (by kernel_rfl) (by kernel_rfl) (fun _ _ _ h => h) (Or.inl ⟨by rfl, ?_⟩) (by assumption) ?_
          rotate_left
          · intro w hSw; obtain ⟨_, hx1, _⟩ := hSw; have hx2 := two_cells hx1; go_simp; (try with_reducible rfl)
          (try simp only [Act.put, List.setIfInBounds_toArray, List.set_cons_zero, List.set_cons_succ])
          refine wpAnyH_ready (rs := [9]) (by kernel_rfl) (by simp) (AllReadyH.cons rfl (fun K hK => ?_) AllReadyH.nil)
          · obtain ⟨hBW, hbx, u0, u1, hrv⟩ := id hHeld
            obtain ⟨y0, y1, f0, f1⟩ := two_all hrv
            go_simp
            have hk1 := grown_set9 V4 b2 0 (.slice a6 n c6)
            have hk2 := grown_set9 (V4.setCell ⟨b2, 0, none⟩ (.slice a6 n c6)) b2 1 (.slice a10 m c10)
            have hrw := set_two9 hrv (.slice a6 n c6) (.slice a10 m c10)
            have hzz : (V4.setCell ⟨b2, 0, none⟩ (.slice a6 n c6)).heap.size = V4.heap.size := by simp
            have o3 := own_kept9 (own_kept9 o3 hk1 (fun b e1 e2 => by have := own_blk9 o3 b e2; cases e1; omega)) hk2 (fun b e1 e2 => by have := own_blk9 o3 b e2; cases e1; omega)
            have o7 := own_kept9 (own_kept9 o7 hk1 (fun b e1 e2 => by have := own_blk9 o7 b e2; cases e1; omega)) hk2 (fun b e1 e2 => by have := own_blk9 o7 b e2; cases e1; omega)
            have hBF := below_grown9 (below_grown9 hBW hk1 (fun b e => by cases e; omega) (by omega)) hk2 (fun b e => by cases e; omega) (by omega)
            obtain ⟨p0, p1⟩ := two_cells hrw
            refine hK.out _ _ ⟨hBF, ((hk2.block b1 (by have := (Array.getElem?_eq_some_iff.1 hbx).1; omega) (by simp; omega)).trans (hk1.block b1 (Array.getElem?_eq_some_iff.1 hbx).1 (by simp; omega))).trans hbx, _, _, hrw⟩ (fun hHeld => ?_)
            clear hK K
            refine wpAnyH_done (by kernel_rfl) ?_ _
            go_wp2
            refine bodyPost_ret (results_cell_row Tryz.results85 _ _ b2 _ _ _ _ rfl hrw Tryz.underlying37 rfl (by kernel_rfl)) rfl ?_
            exact ⟨⟨_, _, rfl, cs, ownsRow_mono o3 (by omega), HSC.out, ownsRow_mono o7 (by omega), hne⟩, hBF⟩
  · go_simp
    have hg : V0.grownBy (V0.alloc (.cells #[] 3)) none := World.grownBy_alloc _ _ none
    have o4 := own_empty V0 C 3 1 (by omega)
    have hz : V0.heap.size + 1 ≤ (V0.alloc (.cells #[] 3)).heap.size := Nat.le_of_eq (World.size_alloc _ _).symm
    obtain ⟨V1, hU⟩ : ∃ U, V0.alloc (.cells #[] 3) = U := ⟨_, rfl⟩
    rw [hU] at hg o4 hz ⊢
    obtain ⟨g4, hg4⟩ : ∃ g, V0.heap.size = g := ⟨_, rfl⟩
    rw [hg4] at o4 ⊢
    clear hU
    refine hK.out _ _ (copyS_kept hHeld hg (fun b e => by cases e) (by omega)) (fun hHeld => ?_)
    clear hK K hg
    refine wpAnyH_ready (rs := [0]) (by kernel_rfl) (by simp) (AllReadyH.cons rfl (fun K hK => ?_) AllReadyH.nil)
    · go_simp
      have hg : V1.grownBy (V1.alloc (.cells #[] 44)) none := World.grownBy_alloc _ _ none
      have o0 := own_empty V1 C 44 7 (by omega)
      have hz : V1.heap.size + 1 ≤ (V1.alloc (.cells #[] 44)).heap.size := Nat.le_of_eq (World.size_alloc _ _).symm
      obtain ⟨V2, hU⟩ : ∃ U, V1.alloc (.cells #[] 44) = U := ⟨_, rfl⟩
      rw [hU] at hg o0 hz ⊢
      obtain ⟨g0, hg0⟩ : ∃ g, V1.heap.size = g := ⟨_, rfl⟩
      rw [hg0] at o0 ⊢
      clear hU
      have o4 := own_kept9 o4 hg (fun b e => by cases e)
      refine hK.out _ _ (copyS_kept hHeld hg (fun b e => by cases e) (by omega)) (fun hHeld => ?_)
      clear hK K hg
      refine wpAnyH_ready (rs := [3]) (by kernel_rfl) (by simp) (AllReadyH.cons rfl (fun K hK => ?_) AllReadyH.nil)
      · refine step_append_at _ rfl _ _ 22 rfl C 44 i0 _ 7 88 Tryz.underlying22 hi hi0 hi1 hi2 rfl (by decide) (.slice (some ⟨g0, 0, none⟩) 0 0) 0 [] (by first | rfl | simp [Act.eval]) o0 sa n sc cs (by first | rfl | simp [Act.eval]) (cells_below9 hcs hHeld.1) hc1 (by unfold maxLen; omega) (by omega) (by omega) ?_
        intro v6 V3 o3 hg at6
        replace hg : V2.grownBy V3 (some g0) := hg
        replace at6 : v6.ownBlock = some g0 ∨ v6.ownBlock = some V2.heap.size := at6
        rw [Nat.zero_add, List.nil_append] at o3
        have hz3 := hg.size
        have h6l := fun b e => (own_blk9 o3 b e).1
        have o4 := own_kept9 o4 hg (fun b e1 e2 => by have : some g4 = some b := e2; injection e1 with e1; injection this with this; omega)
        skip
        refine hK.out _ _ (copyS_kept hHeld hg (fun b e => by cases e; omega) (by omega)) (fun hHeld => ?_)
        clear hK K hg
        refine wpAnyH_ready (rs := [7]) (by kernel_rfl) (by simp) (AllReadyH.cons rfl (fun K hK => ?_) AllReadyH.nil)
        · refine step_append_at _ rfl _ _ 35 rfl C 3 j0 _ 1 8 Tryz.underlying35 hj hj0 hj1 hj2 rfl (by decide) (.slice (some ⟨g4, 0, none⟩) 0 0) 0 [] (by first | rfl | simp [Act.eval]) o4 ca m cc ds (by first | rfl | simp [Act.eval]) (cells_below9 hci hHeld.1) hd1 (by unfold maxLen; omega) (by omega) (by omega) ?_
          intro v10 V4 o7 hg at10
          replace hg : V3.grownBy V4 (some g4) := hg
          replace at10 : v10.ownBlock = some g4 ∨ v10.ownBlock = some V3.heap.size := at10
          rw [Nat.zero_add, List.nil_append] at o7
          have hz7 := hg.size
          have hne : ∀ b, v6.ownBlock = some b → v10.ownBlock = some b → False := fun b e1 e2 => by have hb6 := own_blk9 o3 b e1; have hb7 := h6l b e1; rcases at6 with q | q <;> rw [q] at e1 <;> rcases at10 with r | r <;> rw [r] at e2 <;> injection e1 with e1 <;> injection e2 with e2 <;> omega
          have o3 := own_kept9 o3 hg (fun b e1 e2 => by have hb6 := own_blk9 o3 b e2; have hb7 := h6l b e2; rcases at6 with q | q <;> rw [q] at e2 <;> injection e1 with e1 <;> injection e2 with e2 <;> omega)
          skip
          refine hK.out _ _ (copyS_kept hHeld hg (fun b e => by cases e; omega) (by omega)) (fun hHeld => ?_)
          clear hK K hg
          obtain ⟨a6, c6, rfl⟩ := own_form9 o3
          obtain ⟨a10, c10, rfl⟩ := own_form9 o7
          refine wpAnyH_take (i := 8) (v := ?_) rfl (by kernel_rfl) (by kernel_rfl) (by kernel_rfl) (fun _ _ _ h => h) (Or.inl ⟨by rfl, ?_⟩) (by assumption) ?_
          rotate_left
          · intro w hSw; obtain ⟨_, hx1, _⟩ := hSw; have hx2 := two_cells hx1; go_simp; (try with_reducible rfl)
          (try simp only [Act.put, List.setIfInBounds_toArray, List.set_cons_zero, List.set_cons_succ])
          refine wpAnyH_ready (rs := [9]) (by kernel_rfl) (by simp) (AllReadyH.cons rfl (fun K hK => ?_) AllReadyH.nil)
          · obtain ⟨hBW, hbx, u0, u1, hrv⟩ := id hHeld
            obtain ⟨y0, y1, f0, f1⟩ := two_all hrv
            go_simp
            have hk1 := grown_set9 V4 b2 0 (.slice a6 n c6)
            have hk2 := grown_set9 (V4.setCell ⟨b2, 0, none⟩ (.slice a6 n c6)) b2 1 (.slice a10 m c10)
            have hrw := set_two9 hrv (.slice a6 n c6) (.slice a10 m c10)
            have hzz : (V4.setCell ⟨b2, 0, none⟩ (.slice a6 n c6)).heap.size = V4.heap.size := by simp
            have o3 := own_kept9 (own_kept9 o3 hk1 (fun b e1 e2 => by have := own_blk9 o3 b e2; cases e1; omega)) hk2 (fun b e1 e2 => by have := own_blk9 o3 b e2; cases e1; omega)
            have o7 := own_kept9 (own_kept9 o7 hk1 (fun b e1 e2 => by have := own_blk9 o7 b e2; cases e1; omega)) hk2 (fun b e1 e2 => by have := own_blk9 o7 b e2; cases e1; omega)
            have hBF := below_grown9 (below_grown9 hBW hk1 (fun b e => by cases e; omega) (by omega)) hk2 (fun b e => by cases e; omega) (by omega)
            obtain ⟨p0, p1⟩ := two_cells hrw
            refine hK.out _ _ ⟨hBF, ((hk2.block b1 (by have := (Array.getElem?_eq_some_iff.1 hbx).1; omega) (by simp; omega)).trans (hk1.block b1 (Array.getElem?_eq_some_iff.1 hbx).1 (by simp; omega))).trans hbx, _, _, hrw⟩ (fun hHeld => ?_)
            clear hK K
            refine wpAnyH_done (by kernel_rfl) ?_ _
            go_wp2
            refine bodyPost_ret (results_cell_row Tryz.results85 _ _ b2 _ _ _ _ rfl hrw Tryz.underlying37 rfl (by kernel_rfl)) rfl ?_
            exact ⟨⟨_, _, rfl, cs, ownsRow_mono o3 (by omega), HSC.out, ownsRow_mono o7 (by omega), hne⟩, hBF⟩

end Go.Proofs.YtibjjclfonpibaaGreat
