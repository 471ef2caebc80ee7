/- The walk of FeedNothing: no bytes bring nothing, and turn nothing, wherever they come. -/
import Derived.Test.YtdnijiehfokagaaFeedAlive
namespace Go.Proofs.Ytdnijiehfokagaa.feedNothingWalk
open Go.RowKit Go.Shelf
theorem clamp (m : Int) : ∃ M : Nat, (min (max m 0) 65535).toNat = M ∧ M ≤ 65535 := ⟨_, rfl, by omega⟩
set_option maxRecDepth 100000 in
set_option maxHeartbeats 4000000 in
theorem walk (a0 : Option Addr) (len0 cap0 : Nat) (z0 : List Int) (a1 : Int) (w : World) (w0 : IsRow .u8 w a0 len0 cap0 z0) (_ : (Lit.int .i64 a1).wf = true) :
    Calls Try.prog 8 #[.slice a0 len0 cap0, .int .i64 a1] w fun e w' => e = .returned (.bool true) ∧ Below w.heap.size w w' := by
  obtain ⟨hb, hbw⟩ := row_of_isRow w0
  have hbb := bytes_of hbw
  clear w0 hbw
  have hal := fun W => feedAlive_any W
  by_cases hn : len0 > 500
  · have hd : decide ((500 : Int) < (len0 : Int)) = true := by simp; omega
    have HN := Lib.hid hn; clear hn hb hbb
    go_enter Try.func8, Try.ntmps8
    go_wp2_with (first
      | (go_at_call 9; (with_reducible refine (hal _).mono ?_); rintro e wA ⟨rfl, hA⟩))
    go_ret
    exact ⟨rfl, hA⟩
  · have hd : decide ((500 : Int) < (len0 : Int)) = false := by simp; omega
    obtain ⟨M, hM, hM2⟩ := clamp a1
    have hnew := fun W => new_any a1 W
    rw [hM] at hnew
    obtain ⟨t, ht⟩ : ∃ t, z0.take len0 = t := ⟨_, rfl⟩
    rw [ht] at hb hbb
    obtain ⟨fs, hfs⟩ : ∃ fs, (F.read M t).1 = fs := ⟨_, rfl⟩
    obtain ⟨c, hc⟩ : ∃ c, (F.read M t).2.1 = c := ⟨_, rfl⟩
    obtain ⟨r, hr⟩ : ∃ r, (F.read M t).2.2 = r := ⟨_, rfl⟩
    have hst : F.St M c r := by rw [← hc, ← hr]; exact F.st_read M t
    have t1 : F.take M 0 [] t = (fs, c, r) := by rw [F.take_first, ← hfs, ← hc, ← hr]
    have t2 : F.take M c r [] = ([], c, r) := F.take_none hst
    have t3 : F.take M 0 [] [] = ([], 0, []) := by rw [F.take_first, F.read_wait (F.size_nil M)]
    have b0 : Bytes [] := mem_bytes (by simp)
    have hend : (((c : Int) == 0) || ((r.length : Int) == 0)) = true := by
      rcases hst with ⟨_, rfl⟩ | ⟨rfl, _⟩ <;> simp
    have HB := Lib.hid hb; have HBB := Lib.hid hbb; have HN := Lib.hid hn; have T1 := Lib.hid t1; have T2 := Lib.hid t2; have T3 := Lib.hid t3; have B0 := Lib.hid b0; have HST := Lib.hid hst
    clear hb hbb hn t1 t2 t3 b0 hst hfs hc hr ht hM
    go_enter Try.func8, Try.ntmps8
    go_wp2_with (first
      | (go_at_call 9; (with_reducible refine (hal _).mono ?_); rintro e wA ⟨rfl, hA⟩)
      | (go_at_call 16; (with_reducible refine (hnew wA).mono ?_); intro e wf hf; obtain ⟨rfl, hFf, hbf⟩ := hf; have hf1 : FS w.heap.size wf wA.heap.size M (.slice none 0 0) 0 [] := fs_new hFf hA.size; have hBf := hA.trans (hbf.mono hA.size); have hfl := feedAt_lt hFf; clear hFf)
      | (go_at_call 16; (with_reducible refine (hnew wf).mono ?_); intro e wg hg; obtain ⟨rfl, hFg, hbg⟩ := hg; have hg1 : FS w.heap.size wg wf.heap.size M (.slice none 0 0) 0 [] := fs_new hFg hBf.size; have hf2 := fs_below hf1 hbg; have hBg := hBf.trans (hbg.mono hBf.size); clear hFg hf1)
      | (go_at_call 13; (with_reducible refine (fs_take hf2 hBg.size (row_below HB.out hBg rfl) HBB.out (by have := HN.out; omega) hM2).mono ?_); intro e w3 h3; rw [T1.out] at h3; obtain ⟨A3, C3, xs3, v3, rfl, -, -, hf3, past3, -, hB3'⟩ := h3; have hB3 := hBg.trans hB3'; have hg3 := fs_past hg1 hf2 past3 (by omega) (fun b hb => by cases hb); clear hg1 hf2 past3 hB3')
      | (go_at_call 14; (with_reducible refine (fs_closed hf3).mono ?_); rintro e w' ⟨rfl, rfl⟩)
      | (go_at_call 15; (with_reducible refine (fs_waits hf3).mono ?_); rintro e w' ⟨rfl, rfl⟩)
      | (go_at_call 13; (with_reducible refine (fs_take hf3 hB3.size (row_nil _ .u8) B0.out (by omega) hM2).mono ?_); intro e w4 h4; rw [T2.out] at h4; obtain ⟨A4, C4, xs4, v4, rfl, -, -, hf4, past4, -, hB4'⟩ := h4; have hB4 := hB3.trans hB4'; have hg4 := fs_past hg3 hf3 past4 (by omega) (fun b hb => by cases hb); clear hg3 hf3 past4 hB4')
      | (go_at_call 14; (with_reducible refine (fs_closed hf4).mono ?_); rintro e w' ⟨rfl, rfl⟩)
      | (go_at_call 15; (with_reducible refine (fs_waits hf4).mono ?_); rintro e w' ⟨rfl, rfl⟩)
      | (go_at_call 13; (with_reducible refine (fs_take hg4 hB4.size (row_nil _ .u8) B0.out (by omega) hM2).mono ?_); intro e w5 h5; rw [T3.out] at h5; obtain ⟨A5, C5, xs5, v5, rfl, -, -, hg5, past5, -, hB5'⟩ := h5; have hB5 := hB4.trans hB5'; clear hg4 past5 hB5')
      | (go_at_call 13; (with_reducible refine (fs_take hg5 hB5.size (row_below HB.out hB5 rfl) HBB.out (by have := HN.out; omega) hM2).mono ?_); intro e w6 h6; rw [T1.out] at h6; obtain ⟨A6, C6, xs6, v6, rfl, -, -, hg6, past6, -, hB6'⟩ := h6; have hB6 := hB5.trans hB6'; clear hg5 past6 hB6')
      | (go_at_call 14; (with_reducible refine (fs_closed hg6).mono ?_); rintro e w' ⟨rfl, rfl⟩))
    all_goals (go_ret; exact ⟨rfl, hB6⟩)
end Go.Proofs.Ytdnijiehfokagaa.feedNothingWalk
