/- The walk of FeedPieces: bytes that come one by one come to what they come to at once. -/
import Derived.Test.YtdnijiehfokagaaFeedMore
namespace Go.Proofs.Ytdnijiehfokagaa.feedPiecesWalk
open Go.RowKit Go.Shelf
theorem bytes_eq (a b : Option Addr) (n m c d : Nat) (l : List Int) (w : World) (hl : Row w .u8 a n c l) (hr : Row w .u8 b m d l) :
    Calls Try.prog 12 #[.slice a n c, .slice b m d] w fun e w' => e = .returned (.bool true) ∧ ∃ n, w' = w.drewN n :=
  (refBytes_any a b n m c d l l w hl hr).mono fun e w' h => by
    obtain ⟨h1, h2⟩ := h
    exact ⟨by rw [h1]; simp, h2⟩
set_option maxRecDepth 100000 in
set_option maxHeartbeats 8000000 in
theorem walk (a0 : Option Addr) (len0 cap0 : Nat) (z0 : List Int) (a1 : Int) (w : World) (w0 : IsRow .u8 w a0 len0 cap0 z0) (_ : (Lit.int .i64 a1).wf = true) :
    Calls Try.prog 5 #[.slice a0 len0 cap0, .int .i64 a1] w fun e w' => e = .returned (.bool true) ∧ Below w.heap.size w w' := by
  obtain ⟨hb, hbw⟩ := row_of_isRow w0
  have hbb := bytes_of hbw
  clear w0 hbw
  have hal := fun W => feedAlive_any W
  by_cases hn : len0 > 1000
  · have hd : decide ((1000 : Int) < (len0 : Int)) = true := by simp; omega
    have HN := Lib.hid hn; clear hn hb hbb
    go_enter Try.func5, Try.ntmps5
    go_wp2_with (first
      | (go_at_call 9; (with_reducible refine (hal _).mono ?_); rintro e wA ⟨rfl, hA⟩))
    go_ret
    exact ⟨rfl, hA⟩
  · have hd : decide ((1000 : Int) < (len0 : Int)) = false := by simp; omega
    obtain ⟨M, hM, hM2⟩ : ∃ M : Nat, (min (max a1 0) 65535).toNat = M ∧ M ≤ 65535 := ⟨_, rfl, by omega⟩
    have hnew := fun W => new_any a1 W
    rw [hM] at hnew
    obtain ⟨t, ht⟩ : ∃ t, z0.take len0 = t := ⟨_, rfl⟩
    rw [ht] at hb hbb
    have htl : t.length = len0 := hb.1
    obtain ⟨fs, hfs⟩ : ∃ fs, (F.read M t).1 = fs := ⟨_, rfl⟩
    obtain ⟨c, hc⟩ : ∃ c, (F.read M t).2.1 = c := ⟨_, rfl⟩
    obtain ⟨r, hr⟩ : ∃ r, (F.read M t).2.2 = r := ⟨_, rfl⟩
    have hrd : F.read M t = (fs, c, r) := by rw [← hfs, ← hc, ← hr]
    have t1 : F.take M 0 [] t = (fs, c, r) := by rw [F.take_first, hrd]
    have hfl : fs.length ≤ 1000 := by have := F.read_count M t; rw [hrd] at this; simp at this; omega
    obtain ⟨iF, hiF, hF0, hF1, hF2⟩ := info_parts info_frame
    have HB := Lib.hid hb; have HBB := Lib.hid hbb; have HN := Lib.hid hn; have T1 := Lib.hid t1; have HRD := Lib.hid hrd; have HTL := Lib.hid htl; have HFL := Lib.hid hfl
    clear hb hbb hn t1 hfs hc hr ht hM hrd htl hfl
    go_enter Try.func5, Try.ntmps5
    go_wp2_with (first
      | (go_at_call 9; (with_reducible refine (hal _).mono ?_); rintro e wA ⟨rfl, hA⟩)
      | (go_at_call 16; (with_reducible refine (hnew wA).mono ?_); intro e wf hf; obtain ⟨rfl, hFf, hbf⟩ := hf; have hf1 : FS w.heap.size wf wA.heap.size M (.slice none 0 0) 0 [] := fs_new hFf hA.size; have hBf := hA.trans (hbf.mono hA.size); have hfl := feedAt_lt hFf; clear hFf)
      | (go_at_call 16; (with_reducible refine (hnew wf).mono ?_); intro e wg hg; obtain ⟨rfl, hFg, hbg⟩ := hg; have hg1 : FS w.heap.size wg wf.heap.size M (.slice none 0 0) 0 [] := fs_new hFg hBf.size; have hf2 := fs_below hf1 hbg; have hBg := hBf.trans (hbg.mono hBf.size); clear hFg hf1)
      | (go_at_call 13; (with_reducible refine (fs_take hf2 hBg.size (row_below HB.out hBg rfl) HBB.out (by have := HN.out; omega) hM2).mono ?_); intro e w3 h3; rw [T1.out] at h3; obtain ⟨A3, C3, xs3, v3, rfl, own3, pays3, hf3, past3, at3, hB3'⟩ := h3; have hB3 := hBg.trans hB3'; have hg3 := fs_past hg1 hf2 past3 (by omega) (fun b hb => by cases hb); clear hg1 hf2 past3 hB3'))
    have hpg := feedAt_lt hg3.here
    go_loopw [8, 9] (fun v8 v9 wr => ∃ k v c' r' fs' ys, k ≤ len0 ∧ v9 = .int .i64 (k : Nat) ∧ F.read M (t.take k) = (fs', c', r') ∧ FS w.heap.size wr wf.heap.size M v c' r' ∧ (∀ b, v.ownBlock = some b → w3.heap.size ≤ b) ∧
        wr.ownsRow w3.heap.size 44 2 v8 fs'.length (fcells ys) ∧ Pays wr (KG wr v) ys fs' ∧ Save w3.heap.size wf.heap.size w3 wr ∧ Below w.heap.size w wr ∧ w3.heap.size ≤ wr.heap.size) (fun _ v9 _ => len0 - (intOf v9).toNat)
    case atStart => exact ⟨0, _, 0, [], [], [], Nat.zero_le _, rfl, by rw [List.take_zero, F.read_wait (F.size_nil M)], hg3, (fun b hb => by cases hb), World.ownsRow_nil _ _ _ _, trivial, fun _ _ _ => rfl, hB3, Nat.le_refl _⟩
    case round =>
      obtain ⟨k, v, c', r', fs', ys, hk, rfl, hrk, hgk, hvk, hown, hpays, hsave, hBk, hszk⟩ := hrel
      by_cases hlt : k < len0
      · have hrow : Row wr .u8 a0 len0 cap0 t := row_below HB.out hBk rfl
        have hkb : k ≤ 1000 := by have := HN.out; omega
        obtain ⟨A1, hs1, hq1⟩ := sub_both a0 len0 cap0 k (k + 1) (by omega) (by omega) hrow.2.1
        rw [show ((k + 1 : Nat) : Int) = (k : Int) + 1 by omega, show k + 1 - k = 1 by omega] at hs1
        rw [show k + 1 - k = 1 by omega] at hq1
        have hr1 := hq1 wr t hrow
        have hb1 : Bytes ((t.drop k).take 1) := bytes_take (bytes_drop HBB.out k) 1
        have hrs := read_snoc M t k fs' c' r' hrk
        obtain ⟨x, hx⟩ : ∃ x, F.take M c' r' ((t.drop k).take 1) = x := ⟨_, rfl⟩
        have hcnt : (fs' ++ x.1).length ≤ 1000 := by
          have := F.read_count M (t.take (k + 1)); rw [hrs, hx] at this
          have h2 := HN.out
          simp at this ⊢; omega
        rw [hx] at hrs
        have hl1 : fs'.length + x.1.length ≤ 1000 := by simpa using hcnt
        have HX := Lib.hid hx; have HRS := Lib.hid hrs; have HRK := Lib.hid hrk; have HBY := Lib.hid hb1; have HR1 := Lib.hid hr1
        clear hx hrs hrk hb1 hr1 hq1 hrow hcnt
        go_wp2_with (first
          | (go_at_call 13; (with_reducible refine (fs_take hgk hBk.size HR1.out HBY.out (by omega) hM2).mono ?_); intro e w4 h4; rw [HX.out] at h4; obtain ⟨A4, C4, xs4, v4, rfl, own4, pays4, hg4, past4, at4, hB4'⟩ := h4; have hB4 := hBk.trans hB4'; have hpk := kg_take hgk past4 at4 hpays; have hok := row_past hgk past4 hown (by decide) (by decide); have hv4 := own_above at4 hvk hszk)
          | (at_builtin; refine wpList_append_at _ rfl _ _ 33 rfl w3.heap.size 44 iF _ 2 32 Try.underlying33 hiF hF0 hF1 hF2 rfl (by decide) _ _ _ rfl hok _ _ _ _ rfl (cells_own' own4) (fcells_one _) (by unfold maxLen; omega) (by omega) (Nat.le_trans hszk past4.size) ?_; intro v5 w5 hown5 hgr5 hat5))
        have hgr : w4.grownBy w5 u8.ownBlock := hgr5
        have hsv4 : Save w3.heap.size wf.heap.size w3 w4 := fun k hk hp => (past4.block k (by omega) hp (fun e => by have := hvk k e.symm; omega)).trans (hsave k hk hp)
        have hsv5 : Save w3.heap.size wf.heap.size w3 w5 := fun k hk hp => (hgr.block k (by have := past4.size; omega) (fun e => by have := (own_block hok k e.symm).2.1; omega)).trans (hsv4 k hk hp)
        go_roundw
        case rel => exact ⟨k + 1, v4, x.2.1, x.2.2, fs' ++ x.1, ys ++ xs4, by omega, by go_num, HRS.out, fs_grown hg4 hgr hok (by decide) (by decide), hv4, ownsRow_nth hown5 (by simp) (by rw [fcells_append]),
          pays_append (kg_grown hgr hok (by decide) (kg_new pays4)) (kg_grown hgr hok (by decide) hpk), hsv5, hB4.trans (below_grown hgr (ownsRow_mono hok hB3.size) hB4.size), by have := past4.size; have := hgr.size; omega⟩
        case measure => simp [intOf]; omega
      · obtain rfl : k = len0 := by omega
        rw [List.take_of_length_le (by rw [HTL.out]; exact Nat.le_refl _), HRD.out] at hrk
        cases hrk
        obtain ⟨A8, C8, e8, -⟩ := cells_own hown
        subst e8
        have hfr := fs_save hf3 hsave (Nat.le_refl _) (by omega) (fun b hb e => feed_not_own hg3.here hf3.own (by decide) (e ▸ hb.symm))
        have hx3 := row_save own3 hsave (Nat.le_refl _) (fun b hb e => feed_not_own hg3.here own3 (by decide) (e ▸ hb.symm))
        have hpx := pays_save hg3 pays3 (fun b hb => hb.2.2) hsave (Nat.le_refl _)
        obtain ⟨N, hN⟩ : ∃ N, fs.length = N := ⟨_, rfl⟩
        rw [hN] at hx3 hown ⊢
        have HN2 := Lib.hid hN
        have HHX := Lib.hid hx3; have HHY := Lib.hid hown; have HPX := Lib.hid hpx; have HPY := Lib.hid hpays
        have hNb : N ≤ 1000 := by have := HFL.out; omega
        clear hN hx3 hown hpx hpays own3 pays3 hsave at3
        go_wp2_with (first
          | (go_at_call 14; (first | with_reducible refine (fs_closed hfr).mono ?_ | with_reducible refine (fs_closed hgk).mono ?_); rintro e w' ⟨rfl, rfl⟩)
          | (go_at_call 15; (first | with_reducible refine (fs_waits hfr).mono ?_ | with_reducible refine (fs_waits hgk).mono ?_); rintro e w' ⟨rfl, rfl⟩))
        go_loopw [10] (fun i wr2 => ∃ k nq : Nat, k ≤ N ∧ i = .int .i64 (k : Nat) ∧ wr2 = wr.drewN nq) (fun i _ => N - (intOf i).toNat)
        case atStart => exact ⟨0, 0, Nat.zero_le _, rfl, rfl⟩
        case round =>
          obtain ⟨k, nq, hk, rfl, rfl⟩ := hrel
          by_cases hlt2 : k < N
          · obtain ⟨gx, rfl⟩ := own_addr HHX.out (by omega)
            obtain ⟨gy, rfl⟩ := own_addr HHY.out (by omega)
            obtain ⟨ax, hxk, hrx⟩ := pays_at HPX.out k (by rw [HN2.out]; exact hlt2)
            obtain ⟨ay, hyk, hry⟩ := pays_at HPY.out k (by rw [HN2.out]; exact hlt2)
            obtain ⟨x0, x1⟩ := cells_at (cells_own' HHX.out) hlt2 hxk
            obtain ⟨y0, y1⟩ := cells_at (cells_own' HHY.out) hlt2 hyk
            rw [Nat.zero_add] at x0 x1 y0 y1
            have hby : ∀ n', Calls Try.prog 12 #[.slice ax (fs[k]?.getD (0, [])).2.length (fs[k]?.getD (0, [])).2.length, .slice ay (fs[k]?.getD (0, [])).2.length (fs[k]?.getD (0, [])).2.length] (wr.drewN (nq + n')) fun e w'' => e = .returned (.bool true) ∧ ∃ n, w'' = wr.drewN (nq + n) := fun n' =>
              (bytes_eq _ _ _ _ _ _ _ _ (row_below hrx (below_drewN (Below.refl _ _) _) rfl) (row_below hry (below_drewN (Below.refl _ _) _) rfl)).mono fun e w'' ⟨h1, m, h2⟩ => ⟨h1, n' + m, by rw [h2, World.drewN_drewN, Nat.add_assoc]⟩
            generalize (fs[k]?.getD (0, [])).2.length = m at *
            generalize (fs[k]?.getD (0, [])).1 = kd at *
            have HBY := Lib.hid hby
            have hkd : (kd != kd) = false := by simp
            clear hby hxk hyk hrx hry
            go_wp2
            go_quiet (first | (go_at_call 12; exact HBY.out _))
            go_wp2
            go_roundw
            case rel => exact ⟨k + 1, _, by omega, by go_num, rfl⟩
            case measure => simp [intOf]; omega
          · obtain rfl : k = N := by omega
            go_wp2
            go_ret
            exact ⟨rfl, below_drewN hBk _⟩
end Go.Proofs.Ytdnijiehfokagaa.feedPiecesWalk
