/- The document's answer for layer 5: Put. -/
import Derived.Test.YtdnijiehfokagaaFeedPut
import Derived.Test.YtdnijiehfokagaaSumRef2
namespace Go.Proofs.Ytdnijiehfokagaa
open Go.RowKit Go.Shelf
set_option maxRecDepth 100000 in
set_option maxHeartbeats 4000000 in
theorem ref05Put_any (k most : Int) (a : Option Addr) (n c : Nat) (p : List Int) (w : World) (hp : Row w .u8 a n c p) (hb : Bytes p) :
    Calls Try.prog 11 #[.int .i64 k, .slice a n c, .int .i64 most] w (PutR k p most w) := by
  have hpl : p.length = n := hp.1
  by_cases hbad : ¬ (1 ≤ k ∧ k ≤ 9 ∧ 0 ≤ most ∧ most ≤ 65535)
  · have hR := putR_none (k := k) (p := p) (most := most) (c := 1) (by unfold F.putE; rw [if_neg hbad]) w
    have HR := Lib.hid hR; clear hR hpl hp hb
    by_cases h1 : k < 1
    · have d1 : decide (k < 1) = true := by simpa using h1
      clear hbad
      go_enter Try.func11, Try.ntmps11
      go_wp2
      go_ret2
      exact HR.out
    · have d1 : decide (k < 1) = false := by simpa using h1
      by_cases h9 : 9 < k
      · have d9 : decide (9 < k) = true := by simpa using h9
        clear hbad
        go_enter Try.func11, Try.ntmps11
        go_wp2
        go_ret2
        exact HR.out
      · have d9 : decide (9 < k) = false := by simpa using h9
        by_cases h0 : most < 0
        · have d0 : decide (most < 0) = true := by simpa using h0
          clear hbad
          go_enter Try.func11, Try.ntmps11
          go_wp2
          go_ret2
          exact HR.out
        · have d0 : decide (most < 0) = false := by simpa using h0
          have dt : decide (65535 < most) = true := by simp; omega
          clear hbad
          go_enter Try.func11, Try.ntmps11
          go_wp2
          go_ret2
          exact HR.out
  · have hgood : 1 ≤ k ∧ k ≤ 9 ∧ 0 ≤ most ∧ most ≤ 65535 := Classical.not_not.1 hbad
    obtain ⟨k1, k9, m0, mt⟩ := hgood
    have he : F.putE k p most = if most < (p.length : Int) then ([], 4) else (F.put k p, 0) := by unfold F.putE; rw [if_pos ⟨k1, k9, m0, mt⟩]
    have d1 : decide (k < 1) = false := by simp; omega
    have d9 : decide (9 < k) = false := by simp; omega
    have d0 : decide (most < 0) = false := by simp; omega
    have dt : decide (65535 < most) = false := by simp; omega
    clear hbad
    by_cases h4 : most < (n : Int)
    · have d4 : decide (most < (n : Int)) = true := by simpa using h4
      have hR := putR_none (k := k) (p := p) (most := most) (c := 4) (by rw [he, if_pos (by omega)]) w
      have HR := Lib.hid hR; clear hR he hpl h4 hp hb k1 k9 m0 mt
      go_enter Try.func11, Try.ntmps11
      go_wp2
      go_ret2
      exact HR.out
    · have d4 : decide (most < (n : Int)) = false := by simpa using h4
      rw [if_neg (by omega)] at he
      have hn : n ≤ 65535 := by omega
      obtain ⟨iu, hiu, hu0, hu1, hu2⟩ := info_parts info_u8
      obtain ⟨L0, hL0⟩ : ∃ L0 : List Int, L0 = [208, 161, 1, k] := ⟨_, rfl⟩
      obtain ⟨L1, hL1⟩ : ∃ L1 : List Int, L1 = L0 ++ S.put n := ⟨_, rfl⟩
      obtain ⟨L2, hL2⟩ : ∃ L2 : List Int, L2 = L1 ++ p := ⟨_, rfl⟩
      have l0 : L0.length = 4 := by rw [hL0]; rfl
      have l1 : L1.length = 8 := by rw [hL1]; simp [l0, F.sput_len]
      have l2 : L2.length = n + 8 := by rw [hL2]; simp [l1, hpl]; omega
      have hput : F.put k p = L2 ++ F.chk (L2.drop 2) := by rw [hL2, hL1, hL0, ← hpl]; rfl
      have b2 : Bytes L2 := by
        rw [hL2, hL1, hL0]
        exact bytes_app (bytes_app (mem_bytes (by simp; omega)) (put_b _)) hb
      have hC := fun (W : World) (A : Option Addr) (C : Nat) (h : Row W .u8 A (n + 6) C (L2.drop 2)) => ref04Bits_any A (n + 6) C (L2.drop 2) W h (bytes_drop b2 2)
      rw [F.bits_more _ (bytes_mem (bytes_drop b2 2))] at hC
      have hP := fun (m : Int) W => ref04Put_any m W
      have wk : IntKind.u8.wrap k = k := IntWalk.u8_in _ (by omega)
      have wk2 : k % 256 = k := by omega
      have hB0 := (Below.refl w.heap.size w).alloc (Nat.le_refl _) (.cells #[.int .u8 208, .int .u8 161, .int .u8 1, .int .u8 k] 5)
      have hown0 : (w.alloc (.cells #[.int .u8 208, .int .u8 161, .int .u8 1, .int .u8 k] 5)).ownsRow w.heap.size 5 1 (.slice (some ⟨w.heap.size, 0, none⟩) 4 4) 4 (u8s L0) := by
        rw [hL0]
        exact owns_built w [.int .u8 208, .int .u8 161, .int .u8 1, .int .u8 k] 5 4 rfl (by unfold maxLen; omega)
      have hchk : F.chk (L2.drop 2) = S.put (S.more (S.mk S.Poly) 0 (L2.drop 2)) := rfl
      have h2n : (2 : Int) ≤ ((n + 8 : Nat) : Int) := by omega
      generalize S.more (S.mk S.Poly) 0 (L2.drop 2) = x at *
      have HC := Lib.hid hC; have HP := Lib.hid hP; have HL0 := Lib.hid hL0; have HL1 := Lib.hid hL1; have HL2 := Lib.hid hL2; have HE := Lib.hid he; have HPUT := Lib.hid hput; have HPL := Lib.hid hpl; have HRP := Lib.hid hp
      have K0 := Lib.hid l0; have K1 := Lib.hid l1; have K2 := Lib.hid l2; have HCK := Lib.hid hchk
      clear hC hP hL0 hL1 hL2 he hput hpl hp hb b2 l0 l1 l2 hchk h4
      generalize hn8 : n + 8 = n8 at *
      have HN8 := Lib.hid hn8; clear hn8
      have wlo : (n8 : Int) - 2 = ((n + 6 : Nat) : Int) := by have := HN8.out; omega
      go_enter Try.func11, Try.ntmps11
      go_wp2_with (first
        | (go_at_call 22; (with_reducible refine (HP.out _ _).mono ?_); intro e w3 h3; obtain ⟨a3, c3, rfl, hr3, hb3⟩ := madeB_row h3; clear h3; first | (have hown6 := ownsRow_below hown5 hb3; have hB6 := hB5.trans (hb3.mono hB5.size)) | (have hown3 := ownsRow_below hown0 hb3; have hB3 := hB0.trans (hb3.mono hB0.size)))
        | (at_builtin; refine wpList_append_at _ rfl _ _ 22 rfl w.heap.size 5 iu (.int .u8 0) 1 1 Try.underlying22 hiu hu0 hu1 hu2 rfl (by decide) _ _ _ rfl hown3 _ _ _ _ rfl (cells_of_row hr3) (by simp [Value.oneCell']) (by rw [F.sput_len]; unfold maxLen; omega) (by rw [F.sput_len]; omega) hB3.size ?_; intro v4 w4 hown4' hgr4 hat4; have hB4 : Below w.heap.size w w4 := hB3.trans (below_grown hgr4 hown3 hB3.size); have hown4'' : w4.ownsRow w.heap.size 5 1 v4 8 (u8s L1) := ownsRow_len hown4' rfl (by rw [HL1.out]; simp [u8s]); obtain ⟨A4, C4, rfl, hrow4, _⟩ := row_own hown4''; have hp4 := row_below HRP.out hB4 rfl; clear hown4' hgr4 hat4 hown3)
        | (at_builtin; refine wpList_append_at _ rfl _ _ 22 rfl w.heap.size 5 iu (.int .u8 0) 1 1 Try.underlying22 hiu hu0 hu1 hu2 rfl (by decide) _ _ _ rfl hown4'' _ _ _ _ rfl (cells_of_row hp4) (by simp [Value.oneCell']) (by unfold maxLen; omega) (by omega) hB4.size ?_; intro v5 w5 hown5' hgr5 hat5; have hB5 : Below w.heap.size w w5 := hB4.trans (below_grown hgr5 hown4'' hB4.size); have hown5 : w5.ownsRow w.heap.size 5 1 v5 n8 (u8s L2) := ownsRow_len hown5' (by have := HN8.out; omega) (by rw [HL2.out]; simp [u8s]); obtain ⟨A5, C5, rfl, hrow5, _⟩ := row_own hown5; obtain ⟨A6, hsl, hsr⟩ := sub_low A5 n8 C5 2 (by have := HN8.out; omega); rw [show ((2 : Nat) : Int) = 2 from rfl] at hsl; rw [show n8 - 2 = n + 6 by have := HN8.out; omega] at hsl hsr; have hrow6 := hsr w5 L2 hrow5; clear hown5' hgr5 hat5 hown4'' hsr)
        | (go_at_call 23; (with_reducible refine (HC.out _ _ _ hrow6).mono ?_); rintro e w6 ⟨rfl, rfl⟩)
        | (at_builtin; refine wpList_append_at _ rfl _ _ 22 rfl w.heap.size 5 iu (.int .u8 0) 1 1 Try.underlying22 hiu hu0 hu1 hu2 rfl (by decide) _ _ _ rfl hown6 _ _ _ _ rfl (cells_of_row hr3) (by simp [Value.oneCell']) (by rw [F.sput_len]; have := HN8.out; unfold maxLen; omega) (by rw [F.sput_len]; have := HN8.out; omega) hB6.size ?_; intro v7 w7 hown7' hgr7 hat7; have hB7 : Below w.heap.size w w7 := hB6.trans (below_grown hgr7 hown6 hB6.size); have hown7 : w7.ownsRow w.heap.size 5 1 v7 (F.put k p).length (u8s (F.put k p)) := ownsRow_len hown7' (by rw [F.put_len, HPL.out, F.sput_len]; have := HN8.out; omega) (by rw [HPUT.out, HCK.out]; simp [u8s]); obtain ⟨A7, C7, rfl, hrow7, _⟩ := row_own hown7; clear hown7' hgr7 hat7))
      go_ret2
      refine ⟨A7, C7, ?_, ?_, hB7⟩
      · rw [HE.out]; rfl
      · rw [HE.out]; exact hrow7
end Go.Proofs.Ytdnijiehfokagaa
