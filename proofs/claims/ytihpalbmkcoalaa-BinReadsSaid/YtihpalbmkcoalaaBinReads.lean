/- The walk of BinReads: whatever is read of all bytes, one thing behind the other, is the document's. -/
import Derived.Test.YtihpalbmkcoalaaRdValue
import Derived.Test.YtihpalbmkcoalaaBinAlive
import Derived.Test.YtihpalbmkcoalaaRefCmp
import Derived.Test.YtihpalbmkcoalaaValMath
namespace Go.Proofs.Ytihpalbmkcoalaa.binReadsWalk
open Go.RowKit Go.Shelf
attribute [local go_sem] Oper.semAt_some
theorem cell_lt {W : World} {b off : Nat} {c : Value} (h : W.cell? ⟨b, off, none⟩ = some c) : b < W.heap.size := by
  simp only [World.cell?] at h
  rcases Nat.lt_or_ge b W.heap.size with h' | h'
  · exact h'
  · rw [Array.getElem?_eq_none h'] at h; cases h
theorem field_kind (k n : Int) (s : ByteArray) (a : Option Addr) (len cap : Nat) (w : World) : (Instr.field 24 (.agg #[.int .i64 k, .int .i64 n, .string s, .slice a len cap]) 0).run Try.prog w = .ok (.int .i64 k) w := by kernel_rfl
theorem rt_other {S : Src} {W W' : World} {p pt : Nat} {s : Bn.St} (h : RT S W pt s) (hg : W.grownBy W' (some p)) (h1 : S.w0.heap.size ≤ p) (hne : pt ≠ p) : RT S W' pt s :=
  rt_kept h ⟨hg.os, hg.tape, hg.output, hg.size, fun k hk => hg.block k (by have := rt_lt h; have := h.1; omega) (by simp; omega)⟩ (hg.block pt (rt_lt h) (by simpa using hne))
theorem rd_other {S : Src} {W W' : World} {p pt : Nat} {s s' : Bn.St} (h : RD W p s) (hT : RT S W pt s') (hg : W.grownBy W' (some pt)) (hne : pt ≠ p) : RD W' p s :=
  rd_kept h (hg.block p (rd_lt h) (by simp; omega)) fun b cs fr hb => hg.block b (Array.getElem?_eq_some_iff.1 hb).1 (by
    simp only [ne_eq, Option.some.injEq]
    rintro rfl
    obtain ⟨_, _, k, _, hA, _⟩ := hT
    rw [show W.heap[b]? = _ from hA] at hb
    cases hb)
theorem reader_new {w W : World} {a : Option Addr} {n c : Nat} {l : List Int} (hr : Row w .u8 a n c l) (hb : Bytes l) (hn : n ≤ 1000000) (hB : Below w.heap.size w W) :
    RT ⟨w, a, n, c, l, hr, hb, hn⟩ (W.alloc (.cells #[.slice a n c, .int .i64 0, .bool false] 42)) W.heap.size (some l) :=
  ⟨hB.size, hB.alloc hB.size _, 0, Nat.zero_le _, World.alloc_heap_new W _, fun x e => by cases e; rfl⟩
set_option maxRecDepth 100000 in
set_option maxHeartbeats 8000000 in
theorem walk (a0 : Option Addr) (len0 cap0 : Nat) (z0 : List Int) (a1 : Option Addr) (len1 cap1 : Nat) (z1 : List Int) (w : World) (w0 : IsRow .u8 w a0 len0 cap0 z0) (w1 : IsRow .u8 w a1 len1 cap1 z1) :
    Calls Try.prog 4 #[.slice a0 len0 cap0, .slice a1 len1 cap1] w fun e w' => e = .returned (.bool true) ∧ Below w.heap.size w w' := by
  obtain ⟨hx, hbw⟩ := row_of_isRow w0
  have hbx := bytes_of hbw
  clear w0 hbw
  obtain ⟨hy, hbw⟩ := row_of_isRow w1
  have hby := bytes_of hbw
  clear w1 hbw
  generalize z0.take len0 = x at *
  generalize z1.take len1 = y at *
  have hal := fun W => alive_any W
  by_cases hn0 : 500 < len0
  · have d0 : decide ((500 : Int) < (len0 : Int)) = true := by simp; omega
    clear hx hy hbx hby
    go_enter Try.func4, Try.ntmps4
    go_wp2_with (first | (go_at_call 8; (with_reducible refine (hal _).mono ?_); rintro e wA ⟨rfl, hA⟩))
    go_ret
    exact ⟨rfl, hA⟩
  have d0 : decide ((500 : Int) < (len0 : Int)) = false := by simp; omega
  by_cases hn1 : 60 < len1
  · have d1 : decide ((60 : Int) < (len1 : Int)) = true := by simp; omega
    clear hx hy hbx hby hn0
    go_enter Try.func4, Try.ntmps4
    go_wp2_with (first | (go_at_call 8; (with_reducible refine (hal _).mono ?_); rintro e wA ⟨rfl, hA⟩))
    go_ret
    exact ⟨rfl, hA⟩
  have d1 : decide ((60 : Int) < (len1 : Int)) = false := by simp; omega
  have hm0 : len0 ≤ 1000000 := by omega
  have hm1 : len1 ≤ 60 := by omega
  obtain ⟨S, hS⟩ : ∃ S : Src, S = ⟨w, a0, len0, cap0, x, hx, hbx, hm0⟩ := ⟨_, rfl⟩
  have hSw : S.w0.heap.size = w.heap.size := by rw [hS]
  have hNew : ∀ W, Below w.heap.size w W → RT S (W.alloc (.cells #[.slice a0 len0 cap0, .int .i64 0, .bool false] 42)) W.heap.size (some x) := fun W hB => by rw [hS]; exact reader_new hx hbx hm0 hB
  have hRead := fun W (hB : Below w.heap.size w W) => rdRead_any a0 len0 cap0 x W (row_below hx hB rfl) hbx (by omega)
  have HNEW := Lib.hid hNew; have HREAD := Lib.hid hRead; have HY := Lib.hid hy; have HBY := Lib.hid hby
  have hnB := rdBad_nil; have hnD := rdDone_nil; have hnL := rdLeft_nil; have hnBy := rdByte_nil; have hnN := rdNum_nil; have hnLo := rdLong_nil; have hnT := rdText_nil; have hnV := rdValue_nil
  have hfk := fun W => field_kind 0 0 ⟨#[]⟩ none 0 0 W
  clear hx hy hbx hby hS hNew hRead hn0 hn1
  go_enter Try.func4, Try.ntmps4
  go_wp2_with (first
    | (go_at_call 8; (with_reducible refine (hal _).mono ?_); rintro e wA ⟨rfl, hA⟩)
    | (go_at_call 20; (with_reducible refine (hnB _).mono ?_); rintro e w' ⟨rfl, rfl⟩)
    | (go_at_call 21; (with_reducible refine (hnD _).mono ?_); rintro e w' ⟨rfl, rfl⟩)
    | (go_at_call 22; (with_reducible refine (hnL _).mono ?_); rintro e w' ⟨rfl, rfl⟩)
    | (go_at_call 23; (with_reducible refine (hnBy _).mono ?_); rintro e w' ⟨rfl, rfl⟩)
    | (go_at_call 24; (with_reducible refine (hnN _).mono ?_); rintro e w' ⟨rfl, rfl⟩)
    | (go_at_call 25; (with_reducible refine (hnLo _).mono ?_); rintro e w' ⟨rfl, rfl⟩)
    | (go_at_call 26; (with_reducible refine (hnT _).mono ?_); rintro e w' ⟨rfl, rfl⟩)
    | (go_at_call 27; (with_reducible refine (hnV _).mono ?_); rintro e wV ⟨rfl, hbV⟩; have hAV := hA.trans (hbV.mono hA.size))
    | (go_at_call 28; (with_reducible refine (HREAD.out _ hAV).mono ?_); rintro e w2 ⟨p, rfl, hp, hR2, hb2⟩; have hA2 := hAV.trans (hb2.mono hAV.size); have hT2 := HNEW.out _ hA2))
  have hsp : w.heap.size ≤ p := Nat.le_trans hAV.size hp
  have hpl := rd_lt hR2
  have hal2 := (Below.refl _ w2).alloc (Nat.le_refl _) (.cells #[.slice a0 len0 cap0, .int .i64 0, .bool false] 42)
  have hR3 := rd_below hR2 hal2
  have hA3 := hA2.trans (hal2.mono hA2.size)
  obtain ⟨pt, hpt⟩ : ∃ pt, w2.heap.size = pt := ⟨_, rfl⟩
  rw [hpt] at hT2 hpl ⊢
  have hne : pt ≠ p := by omega
  have hsw : w.heap.size ≤ pt := by have := hA2.size; omega
  clear hal hnB hnD hnL hnBy hnN hnLo hnT hnV hfk hR2 hb2 hbV hA hAV
  go_loopw [8] (fun i wr => ∃ (q : Nat) (st : Bn.St), q ≤ len1 ∧ i = .int .i64 (q : Int) ∧ RD wr p st ∧ RT S wr pt st ∧ Below w.heap.size w wr) (fun i _ => len1 - (intOf i).toNat)
  case atStart => exact ⟨0, some x, Nat.zero_le _, rfl, hR3, hT2, hA3⟩
  case round =>
  obtain ⟨q, st, hq, rfl, hR, hT, hB⟩ := hrel
  clear hR3 hT2 hA3 hA2
  by_cases hql : q < len1
  · have hdq : decide (q < len1) = true := by simp; omega
    have hy4 := HY.out.2.2.2
    rcases hy4 with h0 | ⟨b, off, rfl, hc⟩
    · omega
    have hcq := hc q hql
    have hcq2 := (hB.cell (p := ⟨b, off + q, none⟩) (cell_lt hcq)).trans hcq
    have hx0 := HBY.out q
    generalize y[q]?.getD 0 = c at *
    obtain ⟨m, rfl⟩ := Int.eq_ofNat_of_zero_le hx0.1
    have hm5 : m % 5 = 0 ∨ m % 5 = 1 ∨ m % 5 = 2 ∨ m % 5 = 3 ∨ m % 5 = 4 := by omega
    have hsz := hB.size
    clear hc hcq
    rcases hm5 with hm | hm | hm | hm | hm
    · have hr : (m : Int).tmod 5 = 0 := by rw [Int.tmod_eq_emod_of_nonneg (by omega)]; omega
      have hC := rdByte_any p st wr hR
      have HB := Lib.hid hB; have HR := Lib.hid hR; have HT := Lib.hid hT
      clear hB hR hT
      go_wp2_with (first
        | (go_at_call 23; (with_reducible refine hC.mono ?_); rintro e w3 ⟨rfl, hR3, hg3⟩; have hT3 := rt_other HT.out hg3 (by omega) hne; have hB3 := HB.out.trans ((below_p hg3 hsp hsz)); have hsz3 := hB3.size; have hC2 := rtByte_any S pt _ w3 hT3)
        | (go_at_call 29; (with_reducible refine hC2.mono ?_); rintro e w4 ⟨rfl, hT4, hg4⟩; have hR4 := rd_other hR3 hT3 hg4 hne; have hB4 := hB3.trans (below_p hg4 hsw hsz3)))
      obtain ⟨s', hs'⟩ : ∃ s', (Bn.rByte st).2 = s' := ⟨_, rfl⟩
      rw [hs'] at hT4 hR4
      have hBad := fun k => (rdBad_any p s' (w4.drewN k) (rd_below hR4 (below_drewN (Below.refl _ w4) k))).mono fun e w' h => (⟨h.1, k, h.2.symm⟩ : e = _ ∧ ∃ m, w' = w4.drewN m)
      have hLeft := fun k => (rdLeft_any p s' (w4.drewN k) (rd_below hR4 (below_drewN (Below.refl _ w4) k))).mono fun e w' h => (⟨h.1, k, h.2.symm⟩ : e = _ ∧ ∃ m, w' = w4.drewN m)
      have hDone := fun k => (rdDone_any p s' (w4.drewN k) (rd_below hR4 (below_drewN (Below.refl _ w4) k))).mono fun e w' h => (⟨h.1, k, h.2.symm⟩ : e = _ ∧ ∃ m, w' = w4.drewN m)
      have hLeft2 := fun k => (rtLeft_any S pt s' (w4.drewN k) (rt_drewN hT4 k)).mono fun e w' h => (⟨h.1, by obtain ⟨n, h2⟩ := h.2; exact ⟨k + n, by rw [h2, World.drewN_drewN]⟩⟩ : e = _ ∧ ∃ m, w' = w4.drewN m)
      have hDone2 := fun k => (rtDone_any S pt s' (w4.drewN k) (rt_drewN hT4 k)).mono fun e w' h => (⟨h.1, by obtain ⟨n, h2⟩ := h.2; exact ⟨k + n, by rw [h2, World.drewN_drewN]⟩⟩ : e = _ ∧ ∃ m, w' = w4.drewN m)
      obtain ⟨_, _, k4, hk4, hA4, hx4⟩ := id hT4
      obtain ⟨⟨m0, m1, m2⟩, n0, n1, n2⟩ := tAt_cells hA4
      have HR4 := Lib.hid hR4; have HT4 := Lib.hid hT4; have HB4 := Lib.hid hB4
      clear hR4 hT4 hB4 hA4 hx4 hs'
      go_quiet (first
        | (go_at_call 20; exact hBad _)
        | (go_at_call 22; exact hLeft _)
        | (go_at_call 21; exact hDone _)
        | (go_at_call 35; exact hLeft2 _)
        | (go_at_call 36; exact hDone2 _))
      go_wp2_with fail
      go_roundw
      case rel => exact ⟨q + 1, s', by omega, by go_num, rd_below HR4.out (below_drewN (Below.refl _ w4) _), rt_drewN HT4.out _, below_drewN HB4.out _⟩
      case measure =>
        have e : (intOf (.int .i64 ((q : Int) + 1))).toNat = q + 1 := by simp only [intOf]; omega
        have e' : (intOf (.int .i64 (q : Int))).toNat = q := by simp only [intOf]; omega
        rw [e, e']; omega
    · have hr : (m : Int).tmod 5 = 1 := by rw [Int.tmod_eq_emod_of_nonneg (by omega)]; omega
      have hC := rdNum_any p st wr hR
      have HB := Lib.hid hB; have HR := Lib.hid hR; have HT := Lib.hid hT
      clear hB hR hT
      go_wp2_with (first
        | (go_at_call 24; (with_reducible refine hC.mono ?_); rintro e w3 ⟨rfl, hR3, hg3⟩; have hT3 := rt_other HT.out hg3 (by omega) hne; have hB3 := HB.out.trans ((below_p hg3 hsp hsz)); have hsz3 := hB3.size; have hC2 := rtNum_any S pt _ w3 hT3)
        | (go_at_call 30; (with_reducible refine hC2.mono ?_); rintro e w4 ⟨rfl, hT4, hg4⟩; have hR4 := rd_other hR3 hT3 hg4 hne; have hB4 := hB3.trans (below_p hg4 hsw hsz3)))
      obtain ⟨s', hs'⟩ : ∃ s', (Bn.rNum st).2 = s' := ⟨_, rfl⟩
      rw [hs'] at hT4 hR4
      have hBad := fun k => (rdBad_any p s' (w4.drewN k) (rd_below hR4 (below_drewN (Below.refl _ w4) k))).mono fun e w' h => (⟨h.1, k, h.2.symm⟩ : e = _ ∧ ∃ m, w' = w4.drewN m)
      have hLeft := fun k => (rdLeft_any p s' (w4.drewN k) (rd_below hR4 (below_drewN (Below.refl _ w4) k))).mono fun e w' h => (⟨h.1, k, h.2.symm⟩ : e = _ ∧ ∃ m, w' = w4.drewN m)
      have hDone := fun k => (rdDone_any p s' (w4.drewN k) (rd_below hR4 (below_drewN (Below.refl _ w4) k))).mono fun e w' h => (⟨h.1, k, h.2.symm⟩ : e = _ ∧ ∃ m, w' = w4.drewN m)
      have hLeft2 := fun k => (rtLeft_any S pt s' (w4.drewN k) (rt_drewN hT4 k)).mono fun e w' h => (⟨h.1, by obtain ⟨n, h2⟩ := h.2; exact ⟨k + n, by rw [h2, World.drewN_drewN]⟩⟩ : e = _ ∧ ∃ m, w' = w4.drewN m)
      have hDone2 := fun k => (rtDone_any S pt s' (w4.drewN k) (rt_drewN hT4 k)).mono fun e w' h => (⟨h.1, by obtain ⟨n, h2⟩ := h.2; exact ⟨k + n, by rw [h2, World.drewN_drewN]⟩⟩ : e = _ ∧ ∃ m, w' = w4.drewN m)
      obtain ⟨_, _, k4, hk4, hA4, hx4⟩ := id hT4
      obtain ⟨⟨m0, m1, m2⟩, n0, n1, n2⟩ := tAt_cells hA4
      have HR4 := Lib.hid hR4; have HT4 := Lib.hid hT4; have HB4 := Lib.hid hB4
      clear hR4 hT4 hB4 hA4 hx4 hs'
      go_quiet (first
        | (go_at_call 20; exact hBad _)
        | (go_at_call 22; exact hLeft _)
        | (go_at_call 21; exact hDone _)
        | (go_at_call 35; exact hLeft2 _)
        | (go_at_call 36; exact hDone2 _))
      go_wp2_with fail
      go_roundw
      case rel => exact ⟨q + 1, s', by omega, by go_num, rd_below HR4.out (below_drewN (Below.refl _ w4) _), rt_drewN HT4.out _, below_drewN HB4.out _⟩
      case measure =>
        have e : (intOf (.int .i64 ((q : Int) + 1))).toNat = q + 1 := by simp only [intOf]; omega
        have e' : (intOf (.int .i64 (q : Int))).toNat = q := by simp only [intOf]; omega
        rw [e, e']; omega
    · have hr : (m : Int).tmod 5 = 2 := by rw [Int.tmod_eq_emod_of_nonneg (by omega)]; omega
      have hC := rdLong_any p st wr hR
      have HB := Lib.hid hB; have HR := Lib.hid hR; have HT := Lib.hid hT
      clear hB hR hT
      go_wp2_with (first
        | (go_at_call 25; (with_reducible refine hC.mono ?_); rintro e w3 ⟨rfl, hR3, hg3⟩; have hT3 := rt_other HT.out hg3 (by omega) hne; have hB3 := HB.out.trans ((below_p hg3 hsp hsz)); have hsz3 := hB3.size; have hC2 := rtLong_any S pt _ w3 hT3)
        | (go_at_call 31; (with_reducible refine hC2.mono ?_); rintro e w4 ⟨rfl, hT4, hg4⟩; have hR4 := rd_other hR3 hT3 hg4 hne; have hB4 := hB3.trans (below_p hg4 hsw hsz3)))
      obtain ⟨s', hs'⟩ : ∃ s', (Bn.rLong st).2 = s' := ⟨_, rfl⟩
      rw [hs'] at hT4 hR4
      have hBad := fun k => (rdBad_any p s' (w4.drewN k) (rd_below hR4 (below_drewN (Below.refl _ w4) k))).mono fun e w' h => (⟨h.1, k, h.2.symm⟩ : e = _ ∧ ∃ m, w' = w4.drewN m)
      have hLeft := fun k => (rdLeft_any p s' (w4.drewN k) (rd_below hR4 (below_drewN (Below.refl _ w4) k))).mono fun e w' h => (⟨h.1, k, h.2.symm⟩ : e = _ ∧ ∃ m, w' = w4.drewN m)
      have hDone := fun k => (rdDone_any p s' (w4.drewN k) (rd_below hR4 (below_drewN (Below.refl _ w4) k))).mono fun e w' h => (⟨h.1, k, h.2.symm⟩ : e = _ ∧ ∃ m, w' = w4.drewN m)
      have hLeft2 := fun k => (rtLeft_any S pt s' (w4.drewN k) (rt_drewN hT4 k)).mono fun e w' h => (⟨h.1, by obtain ⟨n, h2⟩ := h.2; exact ⟨k + n, by rw [h2, World.drewN_drewN]⟩⟩ : e = _ ∧ ∃ m, w' = w4.drewN m)
      have hDone2 := fun k => (rtDone_any S pt s' (w4.drewN k) (rt_drewN hT4 k)).mono fun e w' h => (⟨h.1, by obtain ⟨n, h2⟩ := h.2; exact ⟨k + n, by rw [h2, World.drewN_drewN]⟩⟩ : e = _ ∧ ∃ m, w' = w4.drewN m)
      obtain ⟨_, _, k4, hk4, hA4, hx4⟩ := id hT4
      obtain ⟨⟨m0, m1, m2⟩, n0, n1, n2⟩ := tAt_cells hA4
      have HR4 := Lib.hid hR4; have HT4 := Lib.hid hT4; have HB4 := Lib.hid hB4
      clear hR4 hT4 hB4 hA4 hx4 hs'
      go_quiet (first
        | (go_at_call 20; exact hBad _)
        | (go_at_call 22; exact hLeft _)
        | (go_at_call 21; exact hDone _)
        | (go_at_call 35; exact hLeft2 _)
        | (go_at_call 36; exact hDone2 _))
      go_wp2_with fail
      go_roundw
      case rel => exact ⟨q + 1, s', by omega, by go_num, rd_below HR4.out (below_drewN (Below.refl _ w4) _), rt_drewN HT4.out _, below_drewN HB4.out _⟩
      case measure =>
        have e : (intOf (.int .i64 ((q : Int) + 1))).toNat = q + 1 := by simp only [intOf]; omega
        have e' : (intOf (.int .i64 (q : Int))).toNat = q := by simp only [intOf]; omega
        rw [e, e']; omega
    · have hr : (m : Int).tmod 5 = 3 := by rw [Int.tmod_eq_emod_of_nonneg (by omega)]; omega
      have hC := rdText_any p st wr hR
      have HB := Lib.hid hB; have HR := Lib.hid hR; have HT := Lib.hid hT
      clear hB hR hT
      go_wp2_with (first
        | (go_at_call 26; (with_reducible refine hC.mono ?_); rintro e w3 ⟨rfl, hR3, hg3⟩; have hT3 := rt_other HT.out hg3 (by omega) hne; have hB3 := HB.out.trans ((below_p hg3 hsp hsz)); have hsz3 := hB3.size; have hC2 := rtText_any S pt _ w3 hT3)
        | (go_at_call 32; (with_reducible refine hC2.mono ?_); rintro e w4 ⟨rfl, hT4, hg4⟩; have hR4 := rd_other hR3 hT3 hg4 hne; have hB4 := hB3.trans (below_p hg4 hsw hsz3)))
      obtain ⟨s', hs'⟩ : ∃ s', (Bn.rText st).2 = s' := ⟨_, rfl⟩
      rw [hs'] at hT4 hR4
      have hBad := fun k => (rdBad_any p s' (w4.drewN k) (rd_below hR4 (below_drewN (Below.refl _ w4) k))).mono fun e w' h => (⟨h.1, k, h.2.symm⟩ : e = _ ∧ ∃ m, w' = w4.drewN m)
      have hLeft := fun k => (rdLeft_any p s' (w4.drewN k) (rd_below hR4 (below_drewN (Below.refl _ w4) k))).mono fun e w' h => (⟨h.1, k, h.2.symm⟩ : e = _ ∧ ∃ m, w' = w4.drewN m)
      have hDone := fun k => (rdDone_any p s' (w4.drewN k) (rd_below hR4 (below_drewN (Below.refl _ w4) k))).mono fun e w' h => (⟨h.1, k, h.2.symm⟩ : e = _ ∧ ∃ m, w' = w4.drewN m)
      have hLeft2 := fun k => (rtLeft_any S pt s' (w4.drewN k) (rt_drewN hT4 k)).mono fun e w' h => (⟨h.1, by obtain ⟨n, h2⟩ := h.2; exact ⟨k + n, by rw [h2, World.drewN_drewN]⟩⟩ : e = _ ∧ ∃ m, w' = w4.drewN m)
      have hDone2 := fun k => (rtDone_any S pt s' (w4.drewN k) (rt_drewN hT4 k)).mono fun e w' h => (⟨h.1, by obtain ⟨n, h2⟩ := h.2; exact ⟨k + n, by rw [h2, World.drewN_drewN]⟩⟩ : e = _ ∧ ∃ m, w' = w4.drewN m)
      obtain ⟨_, _, k4, hk4, hA4, hx4⟩ := id hT4
      obtain ⟨⟨m0, m1, m2⟩, n0, n1, n2⟩ := tAt_cells hA4
      have HR4 := Lib.hid hR4; have HT4 := Lib.hid hT4; have HB4 := Lib.hid hB4
      clear hR4 hT4 hB4 hA4 hx4 hs'
      go_quiet (first
        | (go_at_call 20; exact hBad _)
        | (go_at_call 22; exact hLeft _)
        | (go_at_call 21; exact hDone _)
        | (go_at_call 35; exact hLeft2 _)
        | (go_at_call 36; exact hDone2 _))
      go_wp2_with fail
      go_roundw
      case rel => exact ⟨q + 1, s', by omega, by go_num, rd_below HR4.out (below_drewN (Below.refl _ w4) _), rt_drewN HT4.out _, below_drewN HB4.out _⟩
      case measure =>
        have e : (intOf (.int .i64 ((q : Int) + 1))).toNat = q + 1 := by simp only [intOf]; omega
        have e' : (intOf (.int .i64 (q : Int))).toNat = q := by simp only [intOf]; omega
        rw [e, e']; omega
    · have hr : (m : Int).tmod 5 = 4 := by rw [Int.tmod_eq_emod_of_nonneg (by omega)]; omega
      have hC := rdValue_any p st wr hR
      have hcmp : (cmpV (rValue st).1 (rValue st).1 == 0) = true := by rw [beq_iff_eq]; exact (cmpV_zero _ _).2 rfl
      have hptl := rt_lt hT
      have HB := Lib.hid hB; have HR := Lib.hid hR; have HT := Lib.hid hT
      clear hB hR hT
      go_wp2_with (first
        | (go_at_call 27; (with_reducible refine hC.mono ?_); rintro e w3 ⟨x3, rfl, hF3, hR3, hg3⟩; have hT3 := rt_other HT.out hg3 (by omega) hne; have hB3 := HB.out.trans ((below_p hg3 hsp hsz)); have hsz3 := hB3.size; have hC2 := rtValue_any S pt _ w3 hT3)
        | (go_at_call 34; (with_reducible refine hC2.mono ?_); rintro e w4 ⟨x4, rfl, hF4, hT4a, hg4⟩; have hR4 := rd_other hR3 hT3 hg4 hne; have hB4 := hB3.trans (below_p hg4 hsw hsz3); have hi4 := fresh_is (fresh_later hF3 hg4.size fun b h1 h2 => hg4.block b h2 (by simp; omega)); have hSm := refSame_any _ _ w4 _ _ hi4 (fresh_is hF4); rw [hcmp] at hSm)
        | (go_at_call 33; (with_reducible refine hSm.mono ?_); rintro e w5 ⟨rfl, hb5⟩; have hT4 := rt_below hT4a hb5; have hR4 := rd_below hR4 hb5; have hB4 := hB4.trans (hb5.mono hB4.size)))
      obtain ⟨s', hs'⟩ : ∃ s', (rValue st).2 = s' := ⟨_, rfl⟩
      rw [hs'] at hT4 hR4
      have hBad := fun k => (rdBad_any p s' (w5.drewN k) (rd_below hR4 (below_drewN (Below.refl _ w5) k))).mono fun e w' h => (⟨h.1, k, h.2.symm⟩ : e = _ ∧ ∃ m, w' = w5.drewN m)
      have hLeft := fun k => (rdLeft_any p s' (w5.drewN k) (rd_below hR4 (below_drewN (Below.refl _ w5) k))).mono fun e w' h => (⟨h.1, k, h.2.symm⟩ : e = _ ∧ ∃ m, w' = w5.drewN m)
      have hDone := fun k => (rdDone_any p s' (w5.drewN k) (rd_below hR4 (below_drewN (Below.refl _ w5) k))).mono fun e w' h => (⟨h.1, k, h.2.symm⟩ : e = _ ∧ ∃ m, w' = w5.drewN m)
      have hLeft2 := fun k => (rtLeft_any S pt s' (w5.drewN k) (rt_drewN hT4 k)).mono fun e w' h => (⟨h.1, by obtain ⟨n, h2⟩ := h.2; exact ⟨k + n, by rw [h2, World.drewN_drewN]⟩⟩ : e = _ ∧ ∃ m, w' = w5.drewN m)
      have hDone2 := fun k => (rtDone_any S pt s' (w5.drewN k) (rt_drewN hT4 k)).mono fun e w' h => (⟨h.1, by obtain ⟨n, h2⟩ := h.2; exact ⟨k + n, by rw [h2, World.drewN_drewN]⟩⟩ : e = _ ∧ ∃ m, w' = w5.drewN m)
      obtain ⟨_, _, k4, hk4, hA4, hx4⟩ := id hT4
      obtain ⟨⟨m0, m1, m2⟩, n0, n1, n2⟩ := tAt_cells hA4
      have HR4 := Lib.hid hR4; have HT4 := Lib.hid hT4; have HB4 := Lib.hid hB4
      clear hR4 hT4 hB4 hA4 hx4 hs'
      go_quiet (first
        | (go_at_call 20; exact hBad _)
        | (go_at_call 22; exact hLeft _)
        | (go_at_call 21; exact hDone _)
        | (go_at_call 35; exact hLeft2 _)
        | (go_at_call 36; exact hDone2 _))
      go_wp2_with fail
      go_roundw
      case rel => exact ⟨q + 1, s', by omega, by go_num, rd_below HR4.out (below_drewN (Below.refl _ w5) _), rt_drewN HT4.out _, below_drewN HB4.out _⟩
      case measure =>
        have e : (intOf (.int .i64 ((q : Int) + 1))).toNat = q + 1 := by simp only [intOf]; omega
        have e' : (intOf (.int .i64 (q : Int))).toNat = q := by simp only [intOf]; omega
        rw [e, e']; omega
  · obtain rfl : q = len1 := by omega
    have hdq : decide (q < q) = false := by simp
    go_wp2_with fail
    go_ret
    exact ⟨rfl, hB⟩
end Go.Proofs.Ytihpalbmkcoalaa.binReadsWalk
