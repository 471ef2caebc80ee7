/- The walk of FeedLong: a frame of a payload that is too long closes a feed with its eighth byte, and not ahead of that; one that isn't comes out. -/
import Derived.Test.YtdnijiehfokagaaFeedAlive
namespace Go.Proofs.Ytdnijiehfokagaa.feedLongWalk
open Go.RowKit Go.Shelf
theorem head8 (k : Int) (p : List Int) : (F.put k p).take 8 = [208, 161, 1, k] ++ S.put p.length ++ [] := by
  rw [F.put_eq, List.append_nil]
  exact List.take_left' (F.head_len k p)
theorem read7 (M : Nat) (p : List Int) : F.read M ((F.put 1 p).take 7) = ([], 0, (F.put 1 p).take 7) := by
  refine F.read_wait ?_
  have ho : F.ok ((F.put 1 p).take 7) = true := by
    have h8 : F.ok ((F.put 1 p).take 8) = true := by rw [head8]; exact F.put_ok 1 p [] (by omega) (by omega)
    have e : (F.put 1 p).take 8 = (F.put 1 p).take 7 ++ ((F.put 1 p).drop 7).take 1 := by rw [show (8 : Nat) = 7 + 1 from rfl, List.take_add]
    rw [e] at h8
    exact F.ok_take h8
  unfold F.size
  rw [if_neg (by rw [ho]; decide), if_pos (by simp; omega)]
theorem read8 (M : Nat) (p : List Int) (hp : p.length ≤ 65535) : F.read M ((F.put 1 p).take 8) = if M < p.length then ([], 4, []) else ([], 0, (F.put 1 p).take 8) := by
  have ho : F.ok ((F.put 1 p).take 8) = true := by rw [head8]; exact F.put_ok 1 p [] (by omega) (by omega)
  have hl : F.long ((F.put 1 p).take 8) = p.length := by rw [head8]; exact F.put_long 1 p [] hp
  have hn : ((F.put 1 p).take 8).length = 8 := by rw [List.length_take, F.put_len]; omega
  by_cases h : M < p.length
  · rw [if_pos h]
    refine F.read_err ?_
    unfold F.size
    rw [if_neg (by rw [ho]; decide), if_neg (by omega), hl, if_pos h]
  · rw [if_neg h]
    refine F.read_wait ?_
    unfold F.size
    rw [if_neg (by rw [ho]; decide), if_neg (by omega), hl, if_neg h, if_pos (by omega)]
set_option maxRecDepth 100000 in
set_option maxHeartbeats 4000000 in
theorem walk (a0 : Option Addr) (len0 cap0 : Nat) (z0 : List Int) (a1 : Int) (w : World) (w0 : IsRow .u8 w a0 len0 cap0 z0) (w1 : (Lit.int .u8 a1).wf = true) :
    Calls Try.prog 7 #[.slice a0 len0 cap0, .int .u8 a1] w fun e w' => e = .returned (.bool true) ∧ Below w.heap.size w w' := by
  obtain ⟨hb, hbw⟩ := row_of_isRow w0
  have hbb := bytes_of hbw
  have hm := wf_u8 w1
  clear w0 hbw w1
  have hal := fun W => feedAlive_any W
  obtain ⟨t, ht⟩ : ∃ t, z0.take len0 = t := ⟨_, rfl⟩
  rw [ht] at hb hbb
  have htl : t.length = len0 := hb.1
  have hput : ∀ W, Below w.heap.size w W → Calls Try.prog 10 #[.int .i64 1, .slice a0 len0 cap0, .int .i64 65535] W (PutR 1 t 65535 W) := fun W h => put5_any 1 65535 a0 len0 cap0 t W (row_below hb h rfl) hbb
  unfold PutR at hput
  by_cases hn : 65535 < len0
  · have hPE : F.putE 1 t 65535 = ([], 4) := by unfold F.putE; rw [if_pos (by omega), if_pos (by omega)]
    rw [hPE] at hput
    have HP := Lib.hid hput
    have hd : decide ((500 : Int) < (len0 : Int)) = true := by simp; omega
    have HN := Lib.hid hn; clear hn hb hbb hput hPE ht htl
    go_enter Try.func7, Try.ntmps7
    go_wp2_with (first
      | (go_at_call 9; (with_reducible refine (hal _).mono ?_); rintro e wA ⟨rfl, hA⟩)
      | (go_at_call 10; (with_reducible refine (HP.out _ hA).mono ?_); rintro e wu ⟨au, cu, rfl, -, hbu⟩; have hU := hA.trans (hbu.mono hA.size)))
    go_ret
    exact ⟨rfl, hU⟩
  · have hPE : F.putE 1 t 65535 = (F.put 1 t, 0) := by unfold F.putE; rw [if_pos (by omega), if_neg (by omega)]
    rw [hPE] at hput
    dsimp only at hput
    rw [F.put_len, htl] at hput
    by_cases h5 : 500 < len0
    · have hd : decide ((500 : Int) < (len0 : Int)) = true := by simp; omega
      have HP := Lib.hid hput
      have HN := Lib.hid hn; clear hn hb hbb hput hPE ht htl
      go_enter Try.func7, Try.ntmps7
      go_wp2_with (first
        | (go_at_call 9; (with_reducible refine (hal _).mono ?_); rintro e wA ⟨rfl, hA⟩)
        | (go_at_call 10; (with_reducible refine (HP.out _ hA).mono ?_); rintro e wu ⟨au, cu, rfl, -, hbu⟩; have hU := hA.trans (hbu.mono hA.size)))
      go_ret
      exact ⟨rfl, hU⟩
    · have hd : decide ((500 : Int) < (len0 : Int)) = false := by simp; omega
      obtain ⟨M, rfl⟩ := Int.eq_ofNat_of_zero_le hm.1
      have hM : M ≤ 255 := by omega
      have hw : IntKind.i64.wrap (M : Int) = (M : Int) := IntWalk.i64_in _ (by omega)
      have hnew := fun W => new_any (M : Int) W
      rw [show (min (max (M : Int) 0) 65535).toNat = M by omega] at hnew
      obtain ⟨L, hL⟩ : ∃ L, F.put 1 t = L := ⟨_, rfl⟩
      have hbL : Bytes L := hL ▸ mem_bytes (F.put_bytes 1 t (by omega) (by omega) (bytes_mem hbb))
      have hLl : L.length = len0 + 12 := by rw [← hL, F.put_len, htl]
      have r7 := read7 M t
      have r8 := read8 M t (by omega)
      have rp : M < t.length ∨ F.read M (F.put 1 t) = ([(1, t)], 0, []) := by
        rcases Nat.lt_or_ge M t.length with h | h
        · exact .inl h
        · exact .inr (F.read_put M 1 t (by omega) (by omega) h (by omega))
      rw [hL] at r7 r8 rp hput
      rw [htl] at r8 rp
      have t1 : F.take M 0 [] (L.take 7) = ([], 0, L.take 7) := by rw [F.take_first, r7]
      have j8 : L.take 7 ++ (L.drop 7).take 1 = L.take 8 := by rw [show (8 : Nat) = 7 + 1 from rfl, List.take_add]
      have jL : L.take 8 ++ L.drop 8 = L := List.take_append_drop 8 L
      have t2 : F.take M 0 (L.take 7) ((L.drop 7).take 1) = if M < len0 then ([], 4, []) else ([], 0, L.take 8) := by rw [F.take, if_pos rfl, j8, r8]
      have t3 : M < len0 ∨ F.take M 0 (L.take 8) (L.drop 8) = ([(1, t)], 0, []) := rp.imp id fun h => by rw [F.take, if_pos rfl, jL, h]
      have b1 : Bytes (L.take 7) := bytes_take hbL 7
      have b2 : Bytes ((L.drop 7).take 1) := bytes_take (bytes_drop hbL 7) 1
      have b3 : Bytes (L.drop 8) := bytes_drop hbL 8
      have HP := Lib.hid hput; have T1 := Lib.hid t1; have B1 := Lib.hid b1; have B2 := Lib.hid b2; have B3 := Lib.hid b3; have HN := Lib.hid hn; have H5 := Lib.hid h5
      clear hput t1 b1 b2 b3 hn h5 r7 r8 rp j8 jL hbL hLl hL hPE ht htl hb hbb hm
      obtain ⟨n, hn⟩ : ∃ n, len0 + 12 = n := ⟨_, rfl⟩
      rw [hn] at HP
      have hn12 : 12 ≤ n := by omega
      have HN12 := Lib.hid hn; clear hn
      by_cases hlong : M < len0
      · rw [if_pos hlong] at t2
        have T2 := Lib.hid t2
        have dl : decide ((M : Int) < (len0 : Int)) = true := by simpa using hlong
        clear t2 t3
        have HLG := Lib.hid hlong; clear hlong
        go_enter Try.func7, Try.ntmps7
        go_wp2_with (first
          | (go_at_call 9; (with_reducible refine (hal _).mono ?_); rintro e wA ⟨rfl, hA⟩)
          | (go_at_call 10; (with_reducible refine (HP.out _ hA).mono ?_); rintro e wu ⟨au, cu, rfl, hru, hbu⟩; have hU := hA.trans (hbu.mono hA.size); obtain ⟨A1, hs1, hq1⟩ := sub_high au n cu 7 (by omega) hru.2.1; obtain ⟨A2, hs2, hq2⟩ := sub_both au n cu 7 8 (by omega) (by omega) hru.2.1; rw [show ((7 : Nat) : Int) = 7 from rfl] at hs1 hs2; rw [show ((8 : Nat) : Int) = 8 from rfl, show 8 - 7 = 1 from rfl] at hs2; rw [show 8 - 7 = 1 from rfl] at hq2)
          | (go_at_call 16; (with_reducible refine (hnew _).mono ?_); intro e wf hf; obtain ⟨rfl, hFf, hbf⟩ := hf; have hf1 : FS w.heap.size wf wu.heap.size M (.slice none 0 0) 0 [] := fs_new hFf hU.size; have hBf := hU.trans (hbf.mono hU.size); have hr1 := row_below hru hbf rfl; have hlt1 := row_lt hru; clear hFf)
          | (go_at_call 13; (with_reducible refine (fs_take hf1 hBf.size (hq1 _ _ hr1) B1.out (by omega) (by omega)).mono ?_); intro e w3 h3; rw [T1.out] at h3; obtain ⟨A3, C3, xs3, v3, rfl, -, -, hf3, past3, at3, hB3'⟩ := h3; have hB3 := hBf.trans hB3'; have hr3 := rowr_past past3 hf1 hr1 (fun ad e h0 => ⟨by have := hlt1 ad e h0; omega, by simp [Value.ownBlock]⟩); clear hf1 past3 hB3' at3 hr1)
          | (go_at_call 14; (with_reducible refine (fs_closed hf3).mono ?_); rintro e w' ⟨rfl, rfl⟩)
          | (go_at_call 13; (with_reducible refine (fs_take hf3 hB3.size (hq2 _ _ hr3) B2.out (by omega) (by omega)).mono ?_); intro e w4 h4; rw [T2.out] at h4; obtain ⟨A4, C4, xs4, v4, rfl, -, -, hf4, past4, at4, hB4'⟩ := h4; have hB4 := hB3.trans hB4'; clear hf3 past4 hB4' at4 hr3)
          | (go_at_call 14; (with_reducible refine (fs_closed hf4).mono ?_); rintro e w' ⟨rfl, rfl⟩))
        all_goals (go_ret; exact ⟨rfl, hB4⟩)
      · rw [if_neg hlong] at t2
        have t3' := t3.resolve_left hlong
        have T2 := Lib.hid t2; have T3 := Lib.hid t3'
        have dl : decide ((M : Int) < (len0 : Int)) = false := by simpa using hlong
        clear t2 t3 t3'
        have HLG := Lib.hid hlong; clear hlong
        go_enter Try.func7, Try.ntmps7
        go_wp2_with (first
          | (go_at_call 9; (with_reducible refine (hal _).mono ?_); rintro e wA ⟨rfl, hA⟩)
          | (go_at_call 10; (with_reducible refine (HP.out _ hA).mono ?_); rintro e wu ⟨au, cu, rfl, hru, hbu⟩; have hU := hA.trans (hbu.mono hA.size); obtain ⟨A1, hs1, hq1⟩ := sub_high au n cu 7 (by omega) hru.2.1; obtain ⟨A2, hs2, hq2⟩ := sub_both au n cu 7 8 (by omega) (by omega) hru.2.1; obtain ⟨A3, hs3, hq3⟩ := sub_low au n cu 8 (by omega); rw [show ((7 : Nat) : Int) = 7 from rfl] at hs1 hs2; rw [show ((8 : Nat) : Int) = 8 from rfl] at hs3; rw [show ((8 : Nat) : Int) = 8 from rfl, show 8 - 7 = 1 from rfl] at hs2; rw [show 8 - 7 = 1 from rfl] at hq2)
          | (go_at_call 16; (with_reducible refine (hnew _).mono ?_); intro e wf hf; obtain ⟨rfl, hFf, hbf⟩ := hf; have hf1 : FS w.heap.size wf wu.heap.size M (.slice none 0 0) 0 [] := fs_new hFf hU.size; have hBf := hU.trans (hbf.mono hU.size); have hr1 := row_below hru hbf rfl; have hlt1 := row_lt hru; have huf := hbf.size; clear hFf)
          | (go_at_call 13; (with_reducible refine (fs_take hf1 hBf.size (hq1 _ _ hr1) B1.out (by omega) (by omega)).mono ?_); intro e w3 h3; rw [T1.out] at h3; obtain ⟨A3', C3, xs3, v3, rfl, -, -, hf3, past3, at3, hB3'⟩ := h3; have hB3 := hBf.trans hB3'; have hr3 := rowr_past past3 hf1 hr1 (fun ad e h0 => ⟨by have := hlt1 ad e h0; omega, by simp [Value.ownBlock]⟩); have hv3 := Lib.hid (own_above at3 (fun b hb => by cases hb) huf); clear hf1 past3 hB3' at3 hr1)
          | (go_at_call 14; (with_reducible refine (fs_closed hf3).mono ?_); rintro e w' ⟨rfl, rfl⟩)
          | (go_at_call 13; (with_reducible refine (fs_take hf3 hB3.size (hq2 _ _ hr3) B2.out (by omega) (by omega)).mono ?_); intro e w4 h4; rw [T2.out] at h4; obtain ⟨A4, C4, xs4, v4, rfl, -, -, hf4, past4, at4, hB4'⟩ := h4; have hB4 := hB3.trans hB4'; have hr4 := rowr_past past4 hf3 hr3 (fun ad e h0 => ⟨by have := hlt1 ad e h0; omega, fun h => by have := hv3.out _ h.symm; have := hlt1 ad e h0; omega⟩); clear hf3 past4 hB4' at4 hr3)
          | (go_at_call 13; (with_reducible refine (fs_take hf4 hB4.size (hq3 _ _ hr4) B3.out (by have := H5.out; have := HN12.out; omega) (by omega)).mono ?_); intro e w5 h5; rw [T3.out] at h5; obtain ⟨A5, C5, xs5, v5, rfl, -, -, hf5, past5, at5, hB5'⟩ := h5; have hB5 := hB4.trans hB5'; clear hf4 past5 hB5' at5 hr4)
          | (go_at_call 14; (with_reducible refine (fs_closed hf5).mono ?_); rintro e w' ⟨rfl, rfl⟩))
        all_goals (go_ret; exact ⟨rfl, hB5⟩)
end Go.Proofs.Ytdnijiehfokagaa.feedLongWalk
