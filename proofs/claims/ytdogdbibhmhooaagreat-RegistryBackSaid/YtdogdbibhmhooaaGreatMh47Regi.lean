/- The walk of RegistryBack: what is put is read again, and two right registries have the same bytes just if they are the same. -/
import Derived.Test.YtdogdbibhmhooaaGreatMh46Regi
set_option linter.unusedVariables false
set_option linter.unusedSimpArgs false
set_option maxRecDepth 100000
namespace Go.Proofs.YtdogdbibhmhooaaGreat.registryBackWalk
open Go.RowKit Go.Shelf
/-- a registry that is read, somewhere -/
def GotR (m : List TemplM) (W : World) (e : Ending) (w' : World) : Prop := ∃ (a : Option Addr) (c : Nat), e = .returned (.tuple #[.slice a m.length c, .bool true]) ∧ TemplRow w' a c m ∧ Below W.heap.size W w'
set_option maxHeartbeats 8000000 in
theorem walk (t0 : List TemplM) (a0 : Option Addr) (c0 : Nat) (t1 : List TemplM) (a1 : Option Addr) (c1 : Nat) (w : World) (w0 : TemplRow w a0 c0 t0) (w1 : TemplRow w a1 c1 t1) :
    Calls Tryz.prog 5 #[.slice a0 t0.length c0, .slice a1 t1.length c1] w fun e w' => e = .returned (.bool true) ∧ Below w.heap.size w w' := by
  have hAl := fun w => rgAlive_any w
  have H0 := fun W hb => templRow_below (w := w) (w' := W) hb w0
  have H1 := fun W hb => templRow_below (w := w) (w' := W) hb w1
  have hG0 := fun W hb => refGreat13_any a0 c0 t0 W (H0 W hb)
  have hG1 := fun W hb => refGreat13_any a1 c1 t1 W (H1 W hb)
  have n0 := nums_row w0
  have n1 := nums_row w1
  obtain ⟨G0, hg0⟩ : ∃ G, greatR t0 = G := ⟨_, rfl⟩
  obtain ⟨G1, hg1⟩ : ∃ G, greatR t1 = G := ⟨_, rfl⟩
  simp only [hg0] at hG0
  simp only [hg1] at hG1
  have HG0 := Lib.hid hG0; have HG1 := Lib.hid hG1; have HAl := Lib.hid hAl
  clear hG0 hG1 hAl
  cases G0 with
  | true =>
    clear H0 H1 n0 n1 hg0 hg1 w0 w1
    go_enter Tryz.func5, Tryz.ntmps5
    go_wp2_with (first
      | (go_at_call 8; (with_reducible refine (HAl.out _).mono ?_); rintro e w2 ⟨rfl, hB2⟩)
      | (go_at_call 9; (with_reducible refine (HG0.out _ hB2).mono ?_); rintro e w3 ⟨rfl, hB3⟩))
    go_ret
    exact ⟨rfl, hB2.trans (hB3.mono hB2.size)⟩
  | false =>
  cases G1 with
  | true =>
    clear H0 H1 n0 n1 hg0 hg1 w0 w1
    go_enter Tryz.func5, Tryz.ntmps5
    go_wp2_with (first
      | (go_at_call 8; (with_reducible refine (HAl.out _).mono ?_); rintro e w2 ⟨rfl, hB2⟩)
      | (go_at_call 9; (with_reducible refine (HG0.out _ hB2).mono ?_); rintro e w3 ⟨rfl, hB3⟩; have hb3 := hB2.trans (hB3.mono hB2.size))
      | (go_at_call 9; (with_reducible refine (HG1.out _ hb3).mono ?_); rintro e w4 ⟨rfl, hB4⟩))
    go_ret
    exact ⟨rfl, hb3.trans (hB4.mono hb3.size)⟩
  | false =>
  obtain ⟨l0, k0⟩ := great_asked hg0
  obtain ⟨l1, k1⟩ := great_asked hg1
  have hP0 := fun W hb => rgPut_any a0 c0 t0 W (H0 W hb) l0 k0
  have hP1 := fun W hb => rgPut_any a1 c1 t1 W (H1 W hb) l1 k1
  have e0 := putIf_len (l := t0)
  have e1 := putIf_len (l := t1)
  by_cases hr : Rg.right t0 = true ∧ Rg.right t1 = true
  · obtain ⟨r0, r1⟩ := hr
    have s0 := putR_small r0
    have s1 := putR_small r1
    have z0 : 0 < (Rg.putR t0).length := by
      rcases Nat.eq_zero_or_pos (Rg.putR t0).length with h | h
      · rw [putIf_right r0] at e0
        have := e0.1 (by omega)
        rw [r0] at this; cases this
      · exact h
    have z1 : 0 < (Rg.putR t1).length := by
      rcases Nat.eq_zero_or_pos (Rg.putR t1).length with h | h
      · rw [putIf_right r1] at e1
        have := e1.1 (by omega)
        rw [r1] at this; cases this
      · exact h
    simp only [putIf_right r0] at hP0
    simp only [putIf_right r1] at hP1
    have hGet : ∀ W a c, Row W .u8 a (Rg.putR t0).length c (Rg.putR t0) → Calls Tryz.prog 19 #[.slice a (Rg.putR t0).length c] W (GotR t0 W) := fun W a c h => by
      have hb9 := Rg.rReg_back t0 r0 n0 []
      rw [List.append_nil] at hb9
      have := rgGet_any a _ c (Rg.putR t0) W h (Rg.bd_bytes (Rg.bd_putR t0)) (by omega) (fun ts s' h9 _ => by rw [hb9] at h9; cases h9; exact ⟨l0, k0⟩)
      rw [Rg.get_back t0 r0 n0] at this
      refine this.mono fun e w' h => ?_
      obtain ⟨a4, l4, c4, rfl, _, hF4, hB4⟩ := h
      obtain ⟨rfl, hrow4⟩ := hF4 t0 rfl
      exact ⟨a4, c4, rfl, hrow4 _ (fun _ _ _ => rfl), hB4⟩
    have hS : ∀ W a c, TemplRow W a c t0 → Below w.heap.size w W → Calls Tryz.prog 17 #[.slice a t0.length c, .slice a0 t0.length c0] W fun e w' => e = .returned (.bool true) ∧ Below W.heap.size W w' := fun W a c h hb => by
      have := rgSame_any a a0 c c0 t0 t0 W h (H0 W hb)
      rw [eqB_self] at this
      exact this
    obtain ⟨E, hE⟩ : ∃ E, eqB t0 t1 = E := ⟨_, rfl⟩
    have hS2 : ∀ W, Below w.heap.size w W → Calls Tryz.prog 17 #[.slice a0 t0.length c0, .slice a1 t1.length c1] W fun e w' => e = .returned (.bool E) ∧ Below W.heap.size W w' := fun W hb => by
      have := rgSame_any a0 a1 c0 c1 t0 t1 W (H0 W hb) (H1 W hb)
      rw [hE] at this
      exact this
    have hBy : ∀ W a b c d, Row W .u8 a (Rg.putR t0).length c (Rg.putR t0) → Row W .u8 b (Rg.putR t1).length d (Rg.putR t1) → Calls Tryz.prog 12 #[.slice a (Rg.putR t0).length c, .slice b (Rg.putR t1).length d] W fun e w' => e = .returned (.bool E) ∧ ∃ n, w' = W.drewN n := fun W a b c d h1 h2 => by
      refine (refBytes_any a b _ _ c d _ _ W h1 h2).mono fun e w' h => ?_
      obtain ⟨rfl, n, rfl⟩ := h
      refine ⟨ret_bool ?_, n, rfl⟩
      rw [← hE, Bool.eq_iff_iff, decide_eq_true_eq, eqB_iff]
      exact ⟨fun h => Rg.put_inj r0 r1 n0 n1 h, fun h => by rw [h]⟩
    clear e0 e1 n0 n1 hg0 hg1 hE r0 r1
    generalize Rg.putR t0 = L0 at *
    generalize Rg.putR t1 = L1 at *
    obtain ⟨N0, hN0⟩ : ∃ N, L0.length = N := ⟨_, rfl⟩
    obtain ⟨N1, hN1⟩ : ∃ N, L1.length = N := ⟨_, rfl⟩
    rw [hN0] at z0 s0
    rw [hN1] at z1 s1
    simp only [hN0] at hGet hBy
    simp only [hN1] at hBy
    have HP0 := Lib.hid hP0; have HP1 := Lib.hid hP1; have HGet := Lib.hid hGet; have HS := Lib.hid hS; have HS2 := Lib.hid hS2; have HBy := Lib.hid hBy; have HN0 := Lib.hid hN0; have HN1 := Lib.hid hN1
    have f0 : ((N0 : Int) == 0) = false := by rw [beq_eq_false_iff_ne]; omega
    have f1 : ((N1 : Int) == 0) = false := by rw [beq_eq_false_iff_ne]; omega
    have f2 : (N0 == 0) = false := by rw [beq_eq_false_iff_ne]; omega
    have f3 : (N1 == 0) = false := by rw [beq_eq_false_iff_ne]; omega
    have f4 : ¬ N0 = 0 := by omega
    have f5 : ¬ N1 = 0 := by omega
    clear hP0 hP1 hGet hS hS2 hBy hN0 hN1 H0 H1 w0 w1 l0 l1 k0 k1
    have fE : (E == E) = true := by simp
    go_enter Tryz.func5, Tryz.ntmps5
    go_wp2_with (first
      | (go_at_call 8; (with_reducible refine (HAl.out _).mono ?_); rintro e w2 ⟨rfl, hB2⟩)
      | (go_at_call 9; (with_reducible refine (HG0.out _ hB2).mono ?_); rintro e w3 ⟨rfl, hB3⟩; have hb3 := hB2.trans (hB3.mono hB2.size))
      | (go_at_call 9; (with_reducible refine (HG1.out _ hb3).mono ?_); rintro e w4 ⟨rfl, hB4⟩; have hb4 := hb3.trans (hB4.mono hb3.size))
      | (go_at_call 13; (with_reducible refine (HP0.out _ hb4).mono ?_); rintro e w5 ⟨v5, rfl, ho5, hB5⟩; obtain ⟨a5, c5, rfl, hr5⟩ := got_row ho5 HN0.out; have hb5 := hb4.trans (hB5.mono hb4.size))
      | (go_at_call 13; (with_reducible refine (HP1.out _ hb5).mono ?_); rintro e w6 ⟨v6, rfl, ho6, hB6⟩; obtain ⟨a6, c6, rfl, hr6⟩ := got_row ho6 HN1.out; have hb6 := hb5.trans (hB6.mono hb5.size); have hr56 := row_below hr5 hB6 rfl)
      | (go_at_call 19; (with_reducible refine (HGet.out _ _ _ hr56).mono ?_); rintro e w7 ⟨a7, c7, rfl, hrow7, hB7⟩; have hb7 := hb6.trans (hB7.mono hb6.size); have hr57 := row_below hr56 hB7 rfl; have hr67 := row_below hr6 hB7 rfl)
      | (go_at_call 17; (with_reducible refine (HS.out _ _ _ hrow7 hb7).mono ?_); rintro e w8 ⟨rfl, hB8⟩; have hb8 := hb7.trans (hB8.mono hb7.size); have hr58 := row_below hr57 hB8 rfl; have hr68 := row_below hr67 hB8 rfl)
      | (go_at_call 12; (with_reducible refine (HBy.out _ _ _ _ _ hr58 hr68).mono ?_); rintro e w9 ⟨rfl, n9, rfl⟩; have hb9 := below_drewN hb8 n9)
      | (go_at_call 17; (with_reducible refine (HS2.out _ hb9).mono ?_); rintro e w10 ⟨rfl, hB10⟩))
    go_ret
    exact ⟨ret_bool (by simp), hb9.trans (hB10.mono hb9.size)⟩
  · have hz : ((Rg.putIf t0).length : Int) = 0 ∨ ((Rg.putIf t1).length : Int) = 0 := by
      rw [e0, e1]
      cases h0 : Rg.right t0 with
      | false => exact .inl rfl
      | true =>
        cases h1 : Rg.right t1 with
        | false => exact .inr rfl
        | true => exact absurd ⟨h0, h1⟩ hr
    clear e0 e1 n0 n1 hg0 hg1 hr
    generalize Rg.putIf t0 = L0 at *
    generalize Rg.putIf t1 = L1 at *
    obtain ⟨N0, hN0⟩ : ∃ N, L0.length = N := ⟨_, rfl⟩
    obtain ⟨N1, hN1⟩ : ∃ N, L1.length = N := ⟨_, rfl⟩
    rw [hN0, hN1] at hz
    have HP0 := Lib.hid hP0; have HP1 := Lib.hid hP1; have HN0 := Lib.hid hN0; have HN1 := Lib.hid hN1
    clear hP0 hP1 hN0 hN1 H0 H1 w0 w1 l0 l1 k0 k1
    by_cases h0 : N0 = 0
    · have HE0 := Lib.hid h0
      have f0 : ((N0 : Int) == 0) = true := by rw [beq_iff_eq]; omega
      have f2 : (N0 == 0) = true := by rw [beq_iff_eq]; omega
      clear hz
      go_enter Tryz.func5, Tryz.ntmps5
      go_wp2_with (first
        | (go_at_call 8; (with_reducible refine (HAl.out _).mono ?_); rintro e w2 ⟨rfl, hB2⟩)
        | (go_at_call 9; (with_reducible refine (HG0.out _ hB2).mono ?_); rintro e w3 ⟨rfl, hB3⟩; have hb3 := hB2.trans (hB3.mono hB2.size))
        | (go_at_call 9; (with_reducible refine (HG1.out _ hb3).mono ?_); rintro e w4 ⟨rfl, hB4⟩; have hb4 := hb3.trans (hB4.mono hb3.size))
        | (go_at_call 13; (with_reducible refine (HP0.out _ hb4).mono ?_); rintro e w5 ⟨v5, rfl, ho5, hB5⟩; obtain ⟨a5, c5, rfl, hr5⟩ := got_row ho5 HN0.out; have hb5 := hb4.trans (hB5.mono hb4.size))
        | (go_at_call 13; (with_reducible refine (HP1.out _ hb5).mono ?_); rintro e w6 ⟨v6, rfl, ho6, hB6⟩; obtain ⟨a6, c6, rfl, hr6⟩ := got_row ho6 HN1.out; have hb6 := hb5.trans (hB6.mono hb5.size)))
      go_ret
      exact ⟨rfl, hb6⟩
    · have h1 : N1 = 0 := by omega
      have f0 : ((N0 : Int) == 0) = false := by rw [beq_eq_false_iff_ne]; omega
      have f2 : (N0 == 0) = false := by rw [beq_eq_false_iff_ne]; omega
      have f1 : ((N1 : Int) == 0) = true := by rw [beq_iff_eq]; omega
      have f3 : (N1 == 0) = true := by rw [beq_iff_eq]; omega
      have HE1 := Lib.hid h1
      clear hz h1
      go_enter Tryz.func5, Tryz.ntmps5
      go_wp2_with (first
        | (go_at_call 8; (with_reducible refine (HAl.out _).mono ?_); rintro e w2 ⟨rfl, hB2⟩)
        | (go_at_call 9; (with_reducible refine (HG0.out _ hB2).mono ?_); rintro e w3 ⟨rfl, hB3⟩; have hb3 := hB2.trans (hB3.mono hB2.size))
        | (go_at_call 9; (with_reducible refine (HG1.out _ hb3).mono ?_); rintro e w4 ⟨rfl, hB4⟩; have hb4 := hb3.trans (hB4.mono hb3.size))
        | (go_at_call 13; (with_reducible refine (HP0.out _ hb4).mono ?_); rintro e w5 ⟨v5, rfl, ho5, hB5⟩; obtain ⟨a5, c5, rfl, hr5⟩ := got_row ho5 HN0.out; have hb5 := hb4.trans (hB5.mono hb4.size))
        | (go_at_call 13; (with_reducible refine (HP1.out _ hb5).mono ?_); rintro e w6 ⟨v6, rfl, ho6, hB6⟩; obtain ⟨a6, c6, rfl, hr6⟩ := got_row ho6 HN1.out; have hb6 := hb5.trans (hB6.mono hb5.size)))
      go_ret
      exact ⟨rfl, hb6⟩
end Go.Proofs.YtdogdbibhmhooaaGreat.registryBackWalk
