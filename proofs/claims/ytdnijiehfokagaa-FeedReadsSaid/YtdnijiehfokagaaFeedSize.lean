/- Package feed: size. -/
import Derived.Test.YtdnijiehfokagaaFeed
namespace Go.Proofs.Ytdnijiehfokagaa
open Go.RowKit Go.Shelf
attribute [local go_sem] Oper.semAt_some
def Sized (most : Nat) (l : List Int) (w : World) (e : Ending) (w' : World) : Prop := e = .returned (.tuple #[.int .i64 ((F.size most l).1 : Nat), .int .i64 ((F.size most l).2 : Nat)]) ∧ Below w.heap.size w w'
theorem ok_false {l : List Int} {i : Nat} (h4 : i < 4) (hi : i < l.length) (h : F.fits i (l[i]?.getD 0) = false) : F.ok l = false := by
  rw [Bool.eq_false_iff]
  intro h'
  rw [F.ok_iff] at h'
  rw [h' i h4 hi] at h
  cases h
theorem size_ok {most : Nat} {l : List Int} (h : F.ok l = true) : F.size most l = if l.length < 8 then (0, 0) else if most < F.long l then (0, 4) else if l.length < F.long l + 12 then (0, 0) else if F.good l then (F.long l + 12, 0) else (0, 11) := by
  unfold F.size; rw [if_neg (by rw [h]; decide)]
set_option maxRecDepth 100000 in
set_option maxHeartbeats 2000000 in
theorem size_any (most : Nat) (a : Option Addr) (n c : Nat) (l : List Int) (w : World) (h : Row w .u8 a n c l) (hl : Bytes l) :
    Calls Try.prog 30 #[.slice a n c, .int .i64 (most : Int)] w (Sized most l w) := by
  obtain ⟨h1, h2, h3, h4⟩ := id h
  have hcm : c ≤ maxLen := h3
  unfold maxLen at hcm
  obtain ⟨m, hmm⟩ : ∃ m, m = min n 4 := ⟨_, rfl⟩
  have hmin : (if (4 : Int) < (n : Int) then 4 else (n : Int)) = (m : Int) := by split <;> omega
  have hmn : m ≤ n := by omega
  have HM4 : Hid (m ≤ 4) := Lib.hid (by omega)
  have HMM := Lib.hid hmm; clear hmm
  obtain ⟨r, hr⟩ : ∃ r, F.size most l = r := ⟨_, rfl⟩
  unfold Sized
  rw [hr]
  have hf := fun (i : Nat) W => fits5_any i (l[i]?.getD 0) W (hl i).1 (hl i).2
  have HF := Lib.hid hf
  have HR := Lib.hid hr
  have HL := Lib.hid hl
  have HH := Lib.hid h
  have H1 := Lib.hid h1
  have H4 := Lib.hid h4
  clear hf hr hl h h1 h4
  go_enter Try.func30, Try.ntmps30
  go_wp2
  go_loop [16] (fun i => ∃ k : Nat, k ≤ m ∧ i = .int .i64 k ∧ ∀ j, j < k → F.fits j (l[j]?.getD 0) = true) (fun i => m - (intOf i).toNat)
  case atStart => exact ⟨0, by omega, rfl, fun j hj => by omega⟩
  case round =>
    obtain ⟨k, hk, rfl, hall⟩ := hrel
    have HA := Lib.hid hall; clear hall
    by_cases hlt : k < m
    · rcases H4.out with h0 | ⟨b, off, rfl, hc⟩
      · omega
      have hck := hc k (by omega)
      have hfk := HF.out k
      clear hc
      by_cases hx : F.fits k (l[k]?.getD 0) = true
      · rw [hx] at hfk
        have HX := Lib.hid hx
        generalize l[k]?.getD 0 = x at hck hfk
        clear hx
        go_wp2_with (go_at_call 35; (with_reducible refine (hfk _).mono ?_); rintro e w' ⟨rfl, rfl⟩)
        go_round
        case rel => exact ⟨k + 1, by omega, by go_num, fun j hj => by
          rcases Nat.lt_or_ge j k with h | h
          · exact HA.out j h
          · obtain rfl : j = k := by omega
            exact HX.out⟩
        case measure => simp [intOf]; omega
      · have hx' : F.fits k (l[k]?.getD 0) = false := by simpa using hx
        have hok := ok_false (l := l) (i := k) (by have := HM4.out; omega) (by rw [H1.out]; omega) hx'
        obtain rfl : r = (0, 2) := by rw [← HR.out]; unfold F.size; rw [if_pos hok]
        rw [hx'] at hfk
        clear hx hx' hok
        generalize l[k]?.getD 0 = x at hck hfk
        go_wp2_with (go_at_call 35; (with_reducible refine (hfk _).mono ?_); rintro e w' ⟨rfl, rfl⟩)
        go_ret2
        exact ⟨rfl, Below.refl _ _⟩
    · obtain rfl : k = m := by omega
      have hok : F.ok l = true := by
        rw [F.ok_iff]
        intro i hi hil
        exact HA.out i (by have := H1.out; have := HMM.out; omega)
      have hsz := size_ok (most := most) hok
      rw [HR.out, H1.out] at hsz
      have HO := Lib.hid hok
      clear hok hlt hk
      by_cases h8 : n < 8
      · rw [if_pos h8] at hsz
        subst hsz
        go_wp2
        go_ret2
        exact ⟨rfl, Below.refl _ _⟩
      · rw [if_neg h8] at hsz
        have hn8 : 8 ≤ n := by omega
        rcases H4.out with h0 | ⟨b, off, rfl, hc⟩
        · omega
        clear hc
        have hle := F.long_eq (b := l) (by have := H1.out; omega) (bytes_mem HL.out)
        have hg : ∀ W, Below w.heap.size w W → Calls Try.prog 36 #[.slice (some ⟨b, off + 4, none⟩) 4 (c - 4)] W fun e w' => e = .returned (.int .i64 (F.long l : Nat)) ∧ Below w.heap.size w w' := fun W hW =>
          (get_any _ _ _ _ W (row_part (row_below HH.out hW rfl) 4 4 (by omega)) (bytes_take (bytes_drop HL.out 4) 4)).mono fun e w' ⟨h1, m, h2⟩ => ⟨by rw [h1, hle.1], h2 ▸ below_drewN hW m⟩
        have HLE := Lib.hid hle.1
        have hl2 := hle.2
        clear hle
        obtain ⟨g, hgl⟩ : ∃ g, F.long l = g := ⟨_, rfl⟩
        rw [hgl] at hg hl2 hsz
        have HGL := Lib.hid hgl; clear hgl
        have hB := Below.refl w.heap.size w
        by_cases hmg : most < g
        · rw [if_pos hmg] at hsz
          subst hsz
          have d1 : decide ((most : Int) < (g : Int)) = true := by simpa using hmg
          go_wp2_with (go_at_call 36; (with_reducible refine (hg _ hB).mono ?_); rintro e w' ⟨rfl, hB1⟩)
          go_ret2
          exact ⟨rfl, hB1⟩
        · rw [if_neg hmg] at hsz
          have d1 : decide ((most : Int) < (g : Int)) = false := by simpa using hmg
          by_cases hn : n < g + 12
          · rw [if_pos hn] at hsz
            subst hsz
            go_wp2_with (go_at_call 36; (with_reducible refine (hg _ hB).mono ?_); rintro e w' ⟨rfl, hB1⟩)
            go_ret2
            exact ⟨rfl, hB1⟩
          · rw [if_neg hn] at hsz
            obtain ⟨a1, hs1, hr1⟩ := sub_high (some ⟨b, off, none⟩) n c (8 + g) (by omega) h2
            obtain ⟨a2, hs2, hr2⟩ := sub_both (some ⟨b, off, none⟩) n c (8 + g) (8 + g + 4) (by omega) (by omega) h2
            rw [show ((8 + g : Nat) : Int) = 8 + (g : Int) by omega] at hs1 hs2
            rw [show ((8 + g + 4 : Nat) : Int) = 8 + (g : Int) + 4 by omega, show 8 + g + 4 - (8 + g) = 4 by omega] at hs2
            rw [show 8 + g + 4 - (8 + g) = 4 by omega] at hr2
            have hgd : F.good l ↔ F.chk ((l.take (8 + g)).drop 2) = (l.drop (8 + g)).take 4 := by
              unfold F.good; rw [HGL.out, Nat.add_comm]
            have hC : ∀ W, Below w.heap.size w W → Calls Try.prog 21 #[.slice a1 (8 + g) c] W fun e w' => ∃ a3 c3, e = .returned (.slice a3 4 c3) ∧ Row w' .u8 a3 4 c3 (F.chk ((l.take (8 + g)).drop 2)) ∧ Below w.heap.size w w' := fun W hW =>
              (checked_any a1 (8 + g) c (l.take (8 + g)) W (hr1 W l (row_below HH.out hW rfl)) (bytes_take HL.out _) (by omega)).mono fun e w' ⟨a3, c3, h1, h2, h3⟩ => ⟨a3, c3, h1, h2, hW.trans (h3.mono hW.size)⟩
            have hE : ∀ W a3 c3, Below w.heap.size w W → Row W .u8 a3 4 c3 (F.chk ((l.take (8 + g)).drop 2)) → Calls Try.prog 37 #[.slice a3 4 c3, .slice a2 4 (c - (8 + g))] W fun e w' => e = .returned (.bool (decide (F.good l))) ∧ W = w' := fun W a3 c3 hW hR3 => by
              have := equal_any a3 a2 4 4 c3 (c - (8 + g)) _ _ W hR3 (hr2 W l (row_below HH.out hW rfl)) (chk_b _) (bytes_take (bytes_drop HL.out _) _)
              rwa [decide_eq_decide.2 hgd.symm] at this
            generalize (F.chk ((l.take (8 + g)).drop 2)) = X at hC hE
            have HC := Lib.hid hC; have HE := Lib.hid hE
            have w1 : IntKind.i64.wrap (8 + (g : Int)) = 8 + (g : Int) := IntWalk.i64_in _ (by omega)
            have w2 : IntKind.i64.wrap (8 + (g : Int) + 4) = 8 + (g : Int) + 4 := IntWalk.i64_in _ (by omega)
            clear hC hE hr1 hr2 hgd
            by_cases hgo : F.good l
            · rw [if_pos hgo] at hsz
              subst hsz
              rw [show decide (F.good l) = true from decide_eq_true hgo] at HE
              have HGO := Lib.hid hgo; clear hgo
              go_wp2_with (go_at_call 36; (with_reducible refine (hg _ hB).mono ?_); rintro e wg ⟨rfl, hB1⟩)
              go_region_held3 (fun W' => Below w.heap.size w W') (first | assumption | exact below_drewN (by assumption) _ | exact below_drew _) (first
                | (go_at_call 21; (with_reducible refine (HC.out _ (by assumption)).mono ?_); rintro e w1 ⟨a3, c3, rfl, hT, hb1⟩)
                | (go_at_call 37; (with_reducible refine (HE.out _ _ _ (by assumption) hT).mono ?_); rintro e w' ⟨rfl, rfl⟩))
              go_wp2
              go_ret2
              exact ⟨ret_int2 (by omega) rfl, by assumption⟩
            · rw [if_neg hgo] at hsz
              subst hsz
              rw [show decide (F.good l) = false from decide_eq_false hgo] at HE
              have HGO := Lib.hid hgo; clear hgo
              go_wp2_with (go_at_call 36; (with_reducible refine (hg _ hB).mono ?_); rintro e wg ⟨rfl, hB1⟩)
              go_region_held3 (fun W' => Below w.heap.size w W') (first | assumption | exact below_drewN (by assumption) _ | exact below_drew _) (first
                | (go_at_call 21; (with_reducible refine (HC.out _ (by assumption)).mono ?_); rintro e w1 ⟨a3, c3, rfl, hT, hb1⟩)
                | (go_at_call 37; (with_reducible refine (HE.out _ _ _ (by assumption) hT).mono ?_); rintro e w' ⟨rfl, rfl⟩))
              go_wp2
              go_ret2
              exact ⟨rfl, by assumption⟩
end Go.Proofs.Ytdnijiehfokagaa
