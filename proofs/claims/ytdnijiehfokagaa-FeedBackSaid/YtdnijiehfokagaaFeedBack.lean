/- The walk of FeedBack: what was put comes out, and a closed feed takes nothing any more. -/
import Derived.Test.YtdnijiehfokagaaFeedMore
import Derived.Test.YtdnijiehfokagaaRows2
namespace Go.Proofs.Ytdnijiehfokagaa.feedBackWalk
open Go.RowKit Go.Shelf
theorem bytes_eq (a b : Option Addr) (n m c d : Nat) (l : List Int) (w : World) (hl : Row w .u8 a n c l) (hr : Row w .u8 b m d l) :
    Calls Try.prog 12 #[.slice a n c, .slice b m d] w fun e w' => e = .returned (.bool true) ∧ ∃ n, w' = w.drewN n :=
  (refBytes_any a b n m c d l l w hl hr).mono fun e w' h => by
    obtain ⟨h1, h2⟩ := h
    exact ⟨by rw [h1]; simp, h2⟩
set_option maxRecDepth 100000 in
set_option maxHeartbeats 8000000 in
theorem walk (a0 : Option Addr) (len0 cap0 : Nat) (A0 : Nat → Option Addr) (L0 C0 : Nat → Nat) (T0 : Nat → List Int) (a1 : Int) (a2 : Option Addr) (len2 cap2 : Nat) (z2 : List Int) (w : World) (w0 : IsRows w a0 len0 cap0 A0 L0 C0 T0) (w1 : (Lit.int .u8 a1).wf = true) (w2 : IsRow .u8 w a2 len2 cap2 z2) :
    Calls Try.prog 6 #[.slice a0 len0 cap0, .int .u8 a1, .slice a2 len2 cap2] w fun e w' => e = .returned (.bool true) ∧ Below w.heap.size w w' := by
  obtain ⟨hb, hbw⟩ := row_of_isRow w2
  have hbb := bytes_of hbw
  have hm := wf_u8 w1
  clear w2 hbw w1
  have hal := fun W => feedAlive_any W
  by_cases hn : 20 < len0
  · have hd : decide ((20 : Int) < (len0 : Int)) = true := by simp; omega
    have HN := Lib.hid hn; clear hn hb hbb w0
    go_enter Try.func6, Try.ntmps6
    go_wp2_with (first
      | (go_at_call 9; (with_reducible refine (hal _).mono ?_); rintro e wA ⟨rfl, hA⟩))
    go_ret
    exact ⟨rfl, hA⟩
  · have hd : decide ((20 : Int) < (len0 : Int)) = false := by simp; omega
    by_cases hn2 : 300 < len2
    · have hd2 : decide ((300 : Int) < (len2 : Int)) = true := by simp; omega
      have HN := Lib.hid hn; have HN2 := Lib.hid hn2; clear hn hn2 hb hbb w0
      go_enter Try.func6, Try.ntmps6
      go_wp2_with (first
        | (go_at_call 9; (with_reducible refine (hal _).mono ?_); rintro e wA ⟨rfl, hA⟩))
      go_ret
      exact ⟨rfl, hA⟩
    · have hd2 : decide ((300 : Int) < (len2 : Int)) = false := by simp; omega
      have hnew := fun W => new_any 300 W
      rw [show (min (max (300 : Int) 0) 65535).toNat = 300 from rfl] at hnew
      obtain ⟨K, hK⟩ : ∃ K : Int, 1 + a1 % 9 = K := ⟨_, rfl⟩
      have hK1 : 1 ≤ K := by omega
      have hK9 : K ≤ 9 := by omega
      have hi64 : IntKind.i64.wrap a1 = a1 := IntWalk.i64_in _ (by omega)
      obtain ⟨m0, m1⟩ := hm
      have HN := Lib.hid hn; have HN2 := Lib.hid hn2; have HB := Lib.hid hb; have HBB := Lib.hid hbb; have HW := Lib.hid w0
      clear hn hn2 hb hbb
      obtain ⟨hlc, hcm, -, -⟩ := w0
      unfold maxLen at hcm
      go_enter Try.func6, Try.ntmps6
      go_wp2_with (first
        | (go_at_call 9; (with_reducible refine (hal _).mono ?_); rintro e wA ⟨rfl, hA⟩)
        | (go_at_call 16; (with_reducible refine (hnew _).mono ?_); intro e wf hf; obtain ⟨rfl, hFf, hbf⟩ := hf; have hf1 : FS w.heap.size wf wA.heap.size 300 (.slice none 0 0) 0 [] := fs_new hFf hA.size; have hBf := hA.trans (hbf.mono hA.size); clear hFf hbf))
      go_loopw [9] (fun v9 wr => ∃ (k : Nat) (v : Value), k ≤ len0 ∧ v9 = .int .i64 (k : Nat) ∧ FS w.heap.size wr wA.heap.size 300 v 0 [] ∧ Below w.heap.size w wr) (fun v9 _ => len0 - (intOf v9).toNat)
      case atStart => exact ⟨0, _, Nat.zero_le _, rfl, hf1, hBf⟩
      case round =>
        obtain ⟨k, v, hk, rfl, hfk, hBk⟩ := hrel
        by_cases hlt : k < len0
        · obtain ⟨q1, q2, q3, q4⟩ := isRows_row HW.out hBk
          rcases q3 with h0 | ⟨b0, o0, rfl, hc⟩
          · omega
          have c1 := hc k hlt
          obtain ⟨hrow, hbT⟩ := q4 k hlt
          have hlater : ∀ W', Below w.heap.size w W' → W'.cell? ⟨b0, o0 + k, none⟩ = some (.slice (A0 k) (L0 k) (C0 k)) ∧ Row W' .u8 (A0 k) (L0 k) (C0 k) (T0 k) := fun W' hW' => by
            obtain ⟨-, -, q3', q4'⟩ := isRows_row HW.out hW'
            refine ⟨?_, (q4' k hlt).1⟩
            rcases q3' with h0 | ⟨b1, o1, e, hc'⟩
            · omega
            · cases e; exact hc' k hlt
          clear hc q4 q1 q2
          generalize A0 k = A at c1 hrow hlater
          generalize C0 k = C at c1 hrow hlater
          have hTl := hrow.1
          generalize L0 k = Ln at c1 hrow hTl hlater
          generalize T0 k = T at hrow hbT hTl hlater
          have HLT := Lib.hid hlater; clear hlater
          by_cases h3 : 300 < Ln
          · have d3 : decide ((300 : Int) < (Ln : Int)) = true := by simp; omega
            have H3 := Lib.hid h3; clear h3 hrow hTl
            go_wp2
            go_ret
            exact ⟨rfl, hBk⟩
          · have d3 : decide ((300 : Int) < (Ln : Int)) = false := by simp; omega
            have hput : ∀ W, Below wr.heap.size wr W → Calls Try.prog 10 #[.int .i64 K, .slice A Ln C, .int .i64 300] W (PutR K T 300 W) := fun W h => put5_any K 300 A Ln C T W (row_below hrow h rfl) hbT
            have hPE : F.putE K T 300 = (F.put K T, 0) := by unfold F.putE; rw [if_pos (by omega), if_neg (by omega)]
            unfold PutR at hput
            rw [hPE] at hput
            dsimp only at hput
            have hrp : F.take 300 0 [] (F.put K T) = ([(K, T)], 0, []) := by rw [F.take_first, F.read_put 300 K T hK1 hK9 (by omega) (by omega)]
            have hbP : Bytes (F.put K T) := mem_bytes (F.put_bytes K T hK1 hK9 (bytes_mem hbT))
            have hPl : (F.put K T).length ≤ 312 := by rw [F.put_len]; omega
            generalize F.put K T = P at hput hrp hbP hPl
            have HP := Lib.hid hput; have HRP := Lib.hid hrp; have HBP := Lib.hid hbP; have HR := Lib.hid hrow; have HTL := Lib.hid hTl; have H3 := Lib.hid h3
            clear hput hrp hbP hrow hTl h3 hPE
            go_wp2_with (first
              | (go_at_call 10; (with_reducible refine (HP.out _ (Below.refl _ _)).mono ?_); rintro e wu ⟨au, cu, rfl, hru, hbu⟩; have hU := hBk.trans (hbu.mono hBk.size); have hfu := fs_below hfk hbu; have hRu := row_below HR.out hbu rfl)
              | (go_at_call 13; (with_reducible refine (fs_take hfu hU.size hru HBP.out (by omega) (by omega)).mono ?_); intro e w4 h4; rw [HRP.out] at h4; obtain ⟨A4, C4, xs4, v4, rfl, own4, pays4, hf4, past4, at4, hB4'⟩ := h4; have hB4 := hU.trans hB4'))
            obtain ⟨ya, rfl, hya, hyg⟩ := pays_one pays4
            obtain ⟨g4, cap4, hA4⟩ := ownsRow_succ own4
            cases hA4
            have hx4 := cells_at (i := 0) (cells_own' own4) (by simp) rfl
            rw [HTL.out] at hya hx4
            simp only [Nat.zero_mul, Nat.zero_add] at hx4
            obtain ⟨x0, x1⟩ := hx4
            obtain ⟨hl4, hR4⟩ := HLT.out w4 hB4
            have hkk : (K != K) = false := by simp
            have hby : ∀ n', Calls Try.prog 12 #[.slice ya Ln Ln, .slice A Ln C] (w4.drewN n') fun e w'' => e = .returned (.bool true) ∧ ∃ n, w'' = w4.drewN n := fun n' =>
              (bytes_eq _ _ _ _ _ _ _ _ (row_below hya (below_drewN (Below.refl _ _) _) rfl) (row_below hR4 (below_drewN (Below.refl _ _) _) rfl)).mono fun e w'' ⟨h1, m, h2⟩ => ⟨h1, n' + m, by rw [h2, World.drewN_drewN]⟩
            have hwt : ∀ n', Calls Try.prog 15 #[.pointer (some ⟨wA.heap.size, 0, none⟩)] (w4.drewN n') fun e w'' => e = .returned (.int .i64 0) ∧ ∃ n, w'' = w4.drewN n := fun n' =>
              (fs_waits (fs_below hf4 (below_drewN (Below.refl _ _) n'))).mono fun e w'' ⟨h1, h2⟩ => ⟨h1, n', h2.symm⟩
            have hcl : ∀ n', Calls Try.prog 14 #[.pointer (some ⟨wA.heap.size, 0, none⟩)] (w4.drewN n') fun e w'' => e = .returned (.int .i64 0) ∧ ∃ n, w'' = w4.drewN n := fun n' =>
              (fs_closed (fs_below hf4 (below_drewN (Below.refl _ _) n'))).mono fun e w'' ⟨h1, h2⟩ => ⟨h1, n', h2.symm⟩
            have HBY := Lib.hid hby; have HWT := Lib.hid hwt; have HCL := Lib.hid hcl; have HF4 := Lib.hid hf4
            clear hby hwt hcl hf4 own4 pays4 hya hyg hR4 past4 at4 hfu hRu hru
            go_quiet (first | (go_at_call 12; exact HBY.out _) | (go_at_call 15; exact HWT.out _) | (go_at_call 14; exact HCL.out _))
            go_wp2
            go_roundw
            case rel => exact ⟨k + 1, v4, by omega, by go_num, fs_below HF4.out (below_drewN (Below.refl _ _) _), below_drewN hB4 _⟩
            case measure => simp [intOf]; omega
        · obtain rfl : k = len0 := by omega
          obtain ⟨c, hc⟩ : ∃ c, (F.read 300 (z2.take len2)).2.1 = c := ⟨_, rfl⟩
          obtain ⟨r, hr⟩ : ∃ r, (F.read 300 (z2.take len2)).2.2 = r := ⟨_, rfl⟩
          obtain ⟨fs, hfs⟩ : ∃ fs, (F.read 300 (z2.take len2)).1 = fs := ⟨_, rfl⟩
          have t1 : F.take 300 0 [] (z2.take len2) = (fs, c, r) := by rw [F.take_first, ← hfs, ← hc, ← hr]
          have hput : ∀ W, Calls Try.prog 10 #[.int .i64 K, .slice none 0 0, .int .i64 300] W (PutR K [] 300 W) := fun W => put5_any K 300 none 0 0 [] W (row_nil W .u8) (mem_bytes (by simp))
          have hPE : F.putE K [] 300 = (F.put K [], 0) := by unfold F.putE; rw [if_pos (by omega), if_neg (by simp)]
          unfold PutR at hput
          rw [hPE] at hput
          dsimp only at hput
          have hbP : Bytes (F.put K []) := mem_bytes (F.put_bytes K [] hK1 hK9 (by simp))
          have hPl : (F.put K []).length ≤ 312 := by rw [F.put_len]; simp
          generalize F.put K [] = P at hput hbP hPl
          have T1 := Lib.hid t1; have HP := Lib.hid hput; have HBP := Lib.hid hbP
          clear t1 hput hbP hPE hc hr hfs
          by_cases h0 : c = 0
          · subst h0
            go_wp2_with (first
              | (go_at_call 13; (with_reducible refine (fs_take hfk hBk.size (row_below HB.out hBk rfl) HBB.out (by have := HN2.out; omega) (by omega)).mono ?_); intro e w4 h4; rw [T1.out] at h4; obtain ⟨A4, C4, xs4, v4, rfl, own4, pays4, hf4, past4, at4, hB4'⟩ := h4; have hB4 := hBk.trans hB4'; clear own4 pays4 past4 at4)
              | (go_at_call 14; (with_reducible refine (fs_closed hf4).mono ?_); rintro e w' ⟨rfl, rfl⟩))
            go_ret
            exact ⟨rfl, hB4⟩
          · have d0 : ((c : Int) == 0) = false := by simp; omega
            have t2 : F.take 300 c r P = ([], c, []) := by unfold F.take; rw [if_neg h0]
            have T2 := Lib.hid t2; have H0 := Lib.hid h0
            clear t2 h0
            go_wp2_with (first
              | (go_at_call 13; (with_reducible refine (fs_take hfk hBk.size (row_below HB.out hBk rfl) HBB.out (by have := HN2.out; omega) (by omega)).mono ?_); intro e w4 h4; rw [T1.out] at h4; obtain ⟨A4, C4, xs4, v4, rfl, own4, pays4, hf4, past4, at4, hB4'⟩ := h4; have hB4 := hBk.trans hB4'; have hB4w : Below wr.heap.size wr wr := Below.refl _ _; clear own4 pays4 past4 at4)
              | (go_at_call 14; (with_reducible refine (fs_closed hf4).mono ?_); rintro e w' ⟨rfl, rfl⟩)
              | (go_at_call 10; (with_reducible refine (HP.out _).mono ?_); rintro e wu ⟨au, cu, rfl, hru, hbu⟩; have hU := hB4.trans (hbu.mono hB4.size); have hfu := fs_below hf4 hbu)
              | (go_at_call 13; (with_reducible refine (fs_take hfu hU.size hru HBP.out (by omega) (by omega)).mono ?_); intro e w5 h5; rw [T2.out] at h5; obtain ⟨A5, C5, xs5, v5, rfl, -, -, hf5, -, -, hB5'⟩ := h5; have hB5 := hU.trans hB5')
              | (go_at_call 14; (with_reducible refine (fs_closed hf5).mono ?_); rintro e w' ⟨rfl, rfl⟩)
              | (go_at_call 15; (with_reducible refine (fs_waits hf5).mono ?_); rintro e w' ⟨rfl, rfl⟩))
            all_goals (go_ret; exact ⟨rfl, hB5⟩)
end Go.Proofs.Ytdnijiehfokagaa.feedBackWalk
