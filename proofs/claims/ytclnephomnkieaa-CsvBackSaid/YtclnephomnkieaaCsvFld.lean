/- Layer 9 of the program: Field. -/
import Derived.Test.YtclnephomnkieaaCsvPut
set_option linter.unusedVariables false
namespace Go.Proofs.Ytclnephomnkieaa
open Go.RowKit Go.Shelf
set_option maxRecDepth 100000 in
set_option maxHeartbeats 4000000 in
theorem field_quotes (s : ByteArray) (w : World) (hsm : s.size ≤ 1000000) (h : V.ftext (strB s) = 34 :: V.dbl (strB s) ++ [34]) (hc : s.toList.isEmpty = true ∨ (s.toList.isEmpty = false ∧ ∀ w, Calls Try.prog 19 #[.string s, .string spc] w fun e w' => e = .returned (.bool true) ∧ Below w.heap.size w w')) :
    Calls Try.prog 16 #[.string s] w fun e w' => e = .returned (.string (strOfNums (V.ftext (strB s)))) ∧ Below w.heap.size w w' := by
  rw [h]
  have hmf : ∀ (fn : Fn) (first cap : Array Value) (w : World), (Instr.makeFunc fn first cap).run Try.prog w = .ok (.func fn first cap) w := fun _ _ _ _ => rfl
  rcases hc with h0 | ⟨h0, hC⟩
  · have hB1 : Below w.heap.size w w := Below.refl _ _
    go_enter Try.func16, Try.ntmps16
    go_wp2
    have hp0 : PutS w (w.heap.size + 1) [34] ((w.alloc (.cells #[.int .u8 34] 5)).alloc (.cells #[.slice (some ⟨w.heap.size, 0, none⟩) 1 1] 45)) := by
      have hb := Boxed.new (w.alloc (.cells #[.int .u8 34] 5)) 45 (.slice (some ⟨w.heap.size, 0, none⟩) 1 1)
      rw [World.size_alloc] at hb
      refine ⟨_, _, _, hb, ?_, ((Below.refl _ w).alloc (Nat.le_refl _) _).alloc (by simp) _⟩
      exact ownsRow_below (owns_built w [.int .u8 34] 5 1 rfl (by decide)) ((Below.refl _ _).alloc (Nat.le_refl _) _)
    go_loopw [18, 5] (fun i _ wr => ∃ q : Nat, q ≤ s.size ∧ i = .int .i64 (q : Int) ∧ PutS w (w.heap.size + 1) (34 :: V.dbl ((strB s).take q)) wr) (fun i _ _ => s.size - (intOf i).toNat)
    case atStart => exact ⟨0, Nat.zero_le _, rfl, hp0⟩
    case round =>
      obtain ⟨q, hq, rfl, hp⟩ := hrel
      have hln : (34 :: V.dbl ((strB s).take q)).length ≤ 2 * s.size + 1 := by
        have h1 := V.dbl_len ((strB s).take q)
        rw [List.length_take, strB_len] at h1
        simp; omega
      rcases Nat.lt_or_ge q s.size with hlt | hge
      · have d1 : decide (q < s.size) = true := by simpa using hlt
        have hst := V.dbl_step (strB s) q _ (strB_getq s q hlt)
        have HST := Lib.hid hst; clear hst
        have hput := put_any w (s[q].toNat : Int) (w.heap.size + 1) _ wr hp (Nat.le_succ _) (by omega)
        go_wp2_with (go_at_call 20; (with_reducible refine hput.mono ?_); rintro e w3 ⟨⟨u, rfl⟩, hp3⟩)
        go_roundw
        case rel => exact ⟨q + 1, hlt, by go_num, by rw [HST.out]; exact hp3⟩
        case measure => simp [intOf]; omega
      · obtain rfl : q = s.size := by omega
        rw [List.take_of_length_le (by rw [strB_len]; exact Nat.le_refl _)] at hp hln
        obtain ⟨a, n, c, hb, ho⟩ := hp
        have x1 := hb.cell
        have ho1 := owns_below ho ((Below.refl _ wr).alloc (Nat.le_refl _) (.cells #[.int .u8 34] 5))
        go_wp2_with (at_builtin; refine wpList_owns_one rfl _ _ rfl w (.slice a n c) _ rfl ho1 wr.heap.size 34 rfl (by simp) (by omega) ?_; intro v' w2 ho2 hg2; have hcv := conv_owned _ _ _ _ _ ho2.1)
        go_ret
        exact ⟨rfl, hB1.trans (ho2.2.mono hB1.size)⟩
  · skip
    go_enter Try.func16, Try.ntmps16
    go_wp2_with (go_at_call 19; (with_reducible refine (hC _).mono ?_); rintro e w1 ⟨rfl, hB1⟩)
    have hp0 : PutS w1 (w1.heap.size + 1) [34] ((w1.alloc (.cells #[.int .u8 34] 5)).alloc (.cells #[.slice (some ⟨w1.heap.size, 0, none⟩) 1 1] 45)) := by
      have hb := Boxed.new (w1.alloc (.cells #[.int .u8 34] 5)) 45 (.slice (some ⟨w1.heap.size, 0, none⟩) 1 1)
      rw [World.size_alloc] at hb
      refine ⟨_, _, _, hb, ?_, ((Below.refl _ w1).alloc (Nat.le_refl _) _).alloc (by simp) _⟩
      exact ownsRow_below (owns_built w1 [.int .u8 34] 5 1 rfl (by decide)) ((Below.refl _ _).alloc (Nat.le_refl _) _)
    go_loopw [18, 5] (fun i _ wr => ∃ q : Nat, q ≤ s.size ∧ i = .int .i64 (q : Int) ∧ PutS w1 (w1.heap.size + 1) (34 :: V.dbl ((strB s).take q)) wr) (fun i _ _ => s.size - (intOf i).toNat)
    case atStart => exact ⟨0, Nat.zero_le _, rfl, hp0⟩
    case round =>
      obtain ⟨q, hq, rfl, hp⟩ := hrel
      have hln : (34 :: V.dbl ((strB s).take q)).length ≤ 2 * s.size + 1 := by
        have h1 := V.dbl_len ((strB s).take q)
        rw [List.length_take, strB_len] at h1
        simp; omega
      rcases Nat.lt_or_ge q s.size with hlt | hge
      · have d1 : decide (q < s.size) = true := by simpa using hlt
        have hst := V.dbl_step (strB s) q _ (strB_getq s q hlt)
        have HST := Lib.hid hst; clear hst
        have hput := put_any w1 (s[q].toNat : Int) (w1.heap.size + 1) _ wr hp (Nat.le_succ _) (by omega)
        go_wp2_with (go_at_call 20; (with_reducible refine hput.mono ?_); rintro e w3 ⟨⟨u, rfl⟩, hp3⟩)
        go_roundw
        case rel => exact ⟨q + 1, hlt, by go_num, by rw [HST.out]; exact hp3⟩
        case measure => simp [intOf]; omega
      · obtain rfl : q = s.size := by omega
        rw [List.take_of_length_le (by rw [strB_len]; exact Nat.le_refl _)] at hp hln
        obtain ⟨a, n, c, hb, ho⟩ := hp
        have x1 := hb.cell
        have ho1 := owns_below ho ((Below.refl _ wr).alloc (Nat.le_refl _) (.cells #[.int .u8 34] 5))
        go_wp2_with (at_builtin; refine wpList_owns_one rfl _ _ rfl w1 (.slice a n c) _ rfl ho1 wr.heap.size 34 rfl (by simp) (by omega) ?_; intro v' w2 ho2 hg2; have hcv := conv_owned _ _ _ _ _ ho2.1)
        go_ret
        exact ⟨rfl, hB1.trans (ho2.2.mono hB1.size)⟩
set_option maxRecDepth 100000 in
theorem csvField_any (s : ByteArray) (w : World) (hsm : s.size ≤ 1000000) :
    Calls Try.prog 16 #[.string s] w fun e w' => e = .returned (.string (strOfNums (V.ftext (strB s)))) ∧ Below w.heap.size w w' := by
  have hC := fun w => contains_calls s (by omega) w
  have hemp : s.toList.isEmpty = decide (strB s = []) := by
    rw [toList_data, Bool.eq_iff_iff]
    unfold strB
    simp
  by_cases h0 : strB s = []
  · refine field_quotes s w hsm ?_ (.inl (by rw [hemp, decide_eq_true h0]))
    rw [h0]; rfl
  · rw [decide_eq_false h0] at hemp
    cases hall : (strB s).all (fun x => !V.sp x)
    · rw [hall] at hC
      refine field_quotes s w hsm ?_ (.inr ⟨hemp, hC⟩)
      unfold V.ftext
      rw [if_neg (by rw [hall]; simp)]
    · rw [hall] at hC
      have hf : V.ftext (strB s) = strB s := by unfold V.ftext; rw [if_pos ⟨h0, hall⟩]
      rw [hf, strOfNums_strB]
      clear hf hall h0
      go_enter Try.func16, Try.ntmps16
      go_wp2_with (go_at_call 19; (with_reducible refine (hC _).mono ?_); rintro e w1 ⟨rfl, hB1⟩)
      go_ret
      exact ⟨rfl, hB1⟩
end Go.Proofs.Ytclnephomnkieaa
