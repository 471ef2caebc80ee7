/- Package num's Print. -/
import Derived.Test.YtfapoicnkdallaaMh7Thre
namespace Go.Proofs.Ytfapoicnkdallaa
open Go.RowKit Go.Shelf
attribute [local go_sem] Oper.semAt_some
/-- the end of the room as a slice -/
theorem sub_room (B k : Nat) (hk : k < 20) (W : World) :
    (Instr.sliceAt 77 (.pointer (some ⟨B, 0, none⟩)) (some (.int .i64 (k : Int))) none none).run Try.prog W = .ok (.slice (some ⟨B, k, none⟩) (20 - k) (20 - k)) W := by
  have h3 := run_sliceBound (P := Try.prog) (w := W) .i64 (k : Int) 20 BoundsCode.sliceB (by omega) (by omega)
  rw [Int.toNat_natCast] at h3
  simp [Instr.sliceAt, Instr.sureAddr, run_underlying Try.underlying77, Instr.sliceBounds, h3, Addr.add]
  rw [if_neg (by omega)]
  split
  · rename_i h; subst h; rfl
  · rfl
/-- and its text -/
theorem conv_room (W : World) (B k : Nat) (xs l : List Int) (hA : Arr W B 77 xs) (hx : xs.length = 20) (hl : xs.drop k = l) :
    (convert 47 9 (.slice (some ⟨B, k, none⟩) (20 - k) (20 - k))).run Try.prog W = .ok (.string (strOfNums l)) W := by
  refine run_convert_bytes_arg W _ _ Try.underlying47 Try.underlying5 B k (20 - k) (20 - k) l (by rw [← hl, List.length_drop, hx]) (fun i hi => ?_) _ Try.underlying9
  rw [hA.cell (k + i) (by omega), ← hl]
  simp [List.getD]
set_option maxRecDepth 100000 in
set_option maxHeartbeats 2000000 in
theorem numPrint_any (n : Int) (w : World) (h : -9223372036854775808 ≤ n) (h' : n ≤ 9223372036854775807) :
    Calls Try.prog 45 #[.int .i64 n] w (Prt w n) := by
  have hsz := fun w => size_any n w h h'
  have hnm : n.natAbs ≤ 18446744073709551615 := by omega
  obtain ⟨m, hm⟩ : ∃ m, n.natAbs = m := ⟨_, rfl⟩
  rw [hm] at hsz hnm
  refine (callsIn_wide (n := 100)).1 ?_
  refine callsIn_of_wp_marks Try.func45 rfl trivial ?_ rfl
  simp only [Try.ntmps45, List.size_toArray, List.length_cons, List.length_nil, Nat.reduceAdd, Nat.reduceSub, Array.replicate_succ, Array.replicate_zero, List.push_toArray, List.append_toArray, List.nil_append, List.cons_append]
  gi_wp2_with (first
    | (refine ⟨trivial, ?_⟩; gi_at_call 61; refine (callsIn_wide.2 (hsz _)).mono ?_; rintro e w' ⟨rfl, rfl⟩)
    | (refine ⟨trivial, ?_⟩; gi_at_call 60; refine (digits_in _ _ _).mono ?_; rintro e w' ⟨rfl, rfl⟩))
  have hA0 := Arr.new w 77 (M.room []) (Array.replicate 20 (.int .u8 0)) (by rfl)
  simp only [Array.replicate_succ, Array.replicate_zero, List.push_toArray, List.nil_append, List.cons_append] at hA0
  have b1 := Boxed.new (w.alloc (.cells #[.int .u8 0, .int .u8 0, .int .u8 0, .int .u8 0, .int .u8 0, .int .u8 0, .int .u8 0, .int .u8 0, .int .u8 0, .int .u8 0, .int .u8 0, .int .u8 0, .int .u8 0, .int .u8 0, .int .u8 0, .int .u8 0, .int .u8 0, .int .u8 0, .int .u8 0, .int .u8 0] 77)) 3 (.int .i64 20)
  have hB0 := ((Below.refl _ w).alloc (Nat.le_refl _) (.cells #[.int .u8 0, .int .u8 0, .int .u8 0, .int .u8 0, .int .u8 0, .int .u8 0, .int .u8 0, .int .u8 0, .int .u8 0, .int .u8 0, .int .u8 0, .int .u8 0, .int .u8 0, .int .u8 0, .int .u8 0, .int .u8 0, .int .u8 0, .int .u8 0, .int .u8 0, .int .u8 0] 77)).alloc (by simp) (.cells #[.int .i64 20] 3)
  have hA1 := hA0.alloc (.cells #[.int .i64 20] 3)
  clear hA0
  simp only [World.size_alloc] at b1
  generalize hW : (w.alloc (.cells #[.int .u8 0, .int .u8 0, .int .u8 0, .int .u8 0, .int .u8 0, .int .u8 0, .int .u8 0, .int .u8 0, .int .u8 0, .int .u8 0, .int .u8 0, .int .u8 0, .int .u8 0, .int .u8 0, .int .u8 0, .int .u8 0, .int .u8 0, .int .u8 0, .int .u8 0, .int .u8 0] 77)).alloc (.cells #[.int .i64 20] 3) = W0 at *
  have hw0 : W0.heap.size = w.heap.size + 1 + 1 := by rw [← hW]; simp
  clear hW
  have bN := Boxed.new W0 81 (.int .u64 m)
  rw [hw0] at bN
  refine wpIn_rangeFunc_ownG rfl (by decide) (gf := 74) (lb := #[.pointer (some ⟨w.heap.size + 1 + 1, 0, none⟩)]) rfl trivial (enters_of Try.func74 (by kernel_rfl) rfl)
    (digits_stops _ (by decide) (w.heap.size + 1 + 1) m hnm _ bN) (fun _ _ => trivial) (fun _ _ _ _ _ _ _ _ => trivial) (Below.refl _ _) (fun _ => rfl)
    (fun pre W => (Boxed W (w.heap.size + 1) 3 (.int .i64 ((20 - pre.length : Nat) : Int)) ∧ Arr W w.heap.size 77 (M.room pre)) ∧ Below w.heap.size w W)
    (fun _ _ _ => False)
    (OwnFrom.and (OwnFrom.and (Own.from (boxed_own _ _ _) _) (Own.from (arr_own _ _ _) _)) (ownFrom_below (Nat.le_refl _) (by simp; omega)))
    (fun _ _ _ _ _ hs _ _ => hs)
    ⟨⟨b1.alloc _, hA1.alloc _⟩, hB0.alloc (by omega) _⟩ ?a1 ?assign ?body ?done ?stop
  case assign =>
    intro l x W K hK
    gi_wp2
    exact hK
  case body =>
    rintro l pre x W ⟨⟨hv, hA⟩, hB⟩ hlt
    obtain ⟨k, hk⟩ : ∃ k, 20 - pre.length = k + 1 := ⟨19 - pre.length, by omega⟩
    have hset : (M.room pre).set k ((48 + x) % 256) = M.room (pre ++ [x]) := by
      have := M.room_step pre x hlt
      rwa [show 19 - pre.length = k by omega] at this
    have hk2 : 20 - (pre ++ [x]).length = k := by simp; omega
    rw [hk] at hv
    have hc := hv.cell
    have hf := hv.frozen
    have hc2 := hA.cell k (by rw [M.room_len pre (by omega)]; omega)
    have hf2 := hA.frozen k
    gi_wp2
    exact ⟨((KeepsOthers.setCell _ _ _).trans (KeepsOthers.setCell _ _ _)).from _, trivial,
      ⟨by rw [hk2]; exact Boxed.otherAt (hv.set _) (by omega) _ _, by rw [← hset]; exact (hA.other (by omega) _).set _ _⟩,
      (hB.setCell (p := ⟨w.heap.size + 1, 0, none⟩) (Nat.le_succ _) _).setCell (p := ⟨w.heap.size, k, none⟩) (Nat.le_refl _) _⟩
  case done =>
    rintro D ys W hD rfl ⟨⟨hv, hA⟩, hB⟩ hK
    have hc := hv.cell
    have hf := hv.frozen
    have hl0 := M.D_pos m
    have hl1 := M.D_len_le 19 m (by omega)
    have hl2 : n < 0 → (M.D m).length ≤ 19 := fun hn => M.D_len_le 18 m (by omega)
    rw [← M.dg_len] at hl0 hl1 hl2
    have hpr : M.prt n = (if n < 0 then [45] else []) ++ (M.dg m).reverse.map (48 + ·) := by unfold M.prt; rw [hm, M.dg_D]
    have hcl := fun i hi => hA.cell i (by rw [M.room_len _ hl1]; exact hi)
    have hl1' := hl1
    obtain ⟨L, hL⟩ : ∃ L, (M.dg m).length = L := ⟨_, rfl⟩
    rw [hL] at hl0 hl1 hl2 hc
    by_cases hn : n < 0
    · have hd : decide (n < 0) = true := by simpa using hn
      obtain ⟨k, hk⟩ : ∃ k, 20 - L = k + 1 := ⟨19 - L, by have := hl2 hn; omega⟩
      rw [hk] at hc
      have hc2 := hcl k (by omega)
      have hf2 := hA.frozen k
      have hsub := fun W => sub_room w.heap.size k (by omega) W
      have hA3 : Arr ((W.setCell ⟨w.heap.size + 1, 0, none⟩ (.int .i64 k)).setCell ⟨w.heap.size, k, none⟩ (.int .u8 45)) w.heap.size 77 ((M.room (M.dg m)).set k 45) := (hA.other (by omega) _).set _ _
      have hcv := conv_room _ w.heap.size k _ (M.prt n) hA3 (by rw [List.length_set]; exact M.room_len _ hl1') (by
        rw [hpr, if_pos hn, M.room_end m, hL]
        rw [hk, List.replicate_succ', List.append_assoc, List.set_append_right _ _ (by simp)]
        simp)
      have HPR := Lib.hid hpr; clear hpr hA3
      have hK' : ((W.setCell ⟨w.heap.size + 1, 0, none⟩ (.int .i64 k)).setCell ⟨w.heap.size, k, none⟩ (.int .u8 45)).heap[D]? = some (Obj.deferred (some [])) :=
        (Below.heap_setCell _ _ _ _ (by simp at hD ⊢; omega)).trans ((Below.heap_setCell _ _ _ _ (by simp at hD ⊢; omega)).trans hK)
      gi_wp2
      refine ⟨by simp, .inl ⟨_, _, rfl, run_takeDeferred hK', ?_⟩⟩
      exact ⟨_, results_tmp (t := 2) rfl _ _ _, rfl, ((hB.setCell (p := ⟨w.heap.size + 1, 0, none⟩) (Nat.le_succ _) _).setCell (p := ⟨w.heap.size, k, none⟩) (Nat.le_refl _) _).trans
        (belowK_b (w := w) (Nat.le_refl _) _ D _ _ (by simp at hD; omega) hK' rfl rfl)⟩
    · have hd : decide (n < 0) = false := by simpa using hn
      obtain ⟨k, hk⟩ : ∃ k, 20 - L = k := ⟨_, rfl⟩
      rw [hk] at hc
      have hsub := fun W => sub_room w.heap.size k (by omega) W
      have hcv := conv_room W w.heap.size k _ (M.prt n) hA (M.room_len _ hl1') (by
        rw [hpr, if_neg hn, M.room_end m, hL, hk]
        simp)
      have HPR := Lib.hid hpr; clear hpr
      gi_wp2
      refine ⟨by simp, .inl ⟨_, _, rfl, run_takeDeferred hK, ?_⟩⟩
      exact ⟨_, results_tmp (t := 2) rfl _ _ _, rfl, hB.trans (belowK_b (w := w) (Nat.le_refl _) W D _ _ (by simp at hD; omega) hK rfl rfl)⟩
  case stop =>
    rintro D c pre W _ _ h _
    exact h.elim
end Go.Proofs.Ytfapoicnkdallaa
