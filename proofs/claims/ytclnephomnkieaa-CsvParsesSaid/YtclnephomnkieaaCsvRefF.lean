/- The document's layer 9: Field, Same, Great, Print. -/
import Derived.Test.YtclnephomnkieaaCsvRefP
set_option linter.unusedVariables false
namespace Go.Proofs.Ytclnephomnkieaa
open Go.RowKit Go.Shelf
namespace V
def pl (l : List Int) (q : Nat) : Bool := decide (0 < l.length) && (l.take q).all (fun x => !sp x)
theorem pl_step (l : List Int) (q : Nat) (x : Int) (h : l[q]? = some x) : pl l (q + 1) = (pl l q && !sp x) := by
  unfold pl
  rw [List.take_add_one, h]
  simp [List.all_append, Bool.and_assoc]
theorem dbl_step (l : List Int) (q : Nat) (x : Int) (h : l[q]? = some x) : dbl (l.take (q + 1)) = dbl (l.take q) ++ (if x = 34 then [34, 34] else [x]) := by
  unfold dbl
  rw [List.take_add_one, h, List.flatMap_append]
  simp
theorem dbl_len (l : List Int) : (dbl l).length ≤ 2 * l.length := by
  induction l with
  | nil => simp [dbl]
  | cons x l ih =>
    have he : dbl (x :: l) = (if x = 34 then [34, 34] else [x]) ++ dbl l := rfl
    have : (if x = 34 then [34, 34] else [x] : List Int).length ≤ 2 := by split <;> simp
    rw [he, List.length_append, List.length_cons]
    omega
theorem ftext_pl (l : List Int) : ftext l = if pl l l.length = true then l else 34 :: dbl l ++ [34] := by
  unfold ftext pl
  rw [List.take_length]
  by_cases h : l = []
  · subst h; rfl
  · have : 0 < l.length := List.length_pos_iff.2 h
    simp [h, this]
end V
theorem strB_getq (s : ByteArray) (q : Nat) (h : q < s.size) : (strB s)[q]? = some (s[q].toNat : Int) := by
  have hl := strB_len s
  have hx := strB_at s q h
  rw [List.getElem?_eq_getElem (by omega)] at hx ⊢
  simpa using hx
set_option maxRecDepth 100000 in
set_option maxHeartbeats 4000000 in
theorem refField_any (s : ByteArray) (w : World) (hsm : s.size ≤ 1000000000) :
    Calls Try.prog 17 #[.string s] w fun e w' => e = .returned (.string (strOfNums (V.ftext (strB s)))) ∧ Below w.heap.size w w' := by
  have hft := V.ftext_pl (strB s)
  rw [strB_len] at hft
  have hdl := fun q => V.dbl_len ((strB s).take q)
  have hp0 : decide (0 < s.size) = V.pl (strB s) 0 := by unfold V.pl; rw [strB_len]; simp
  obtain ⟨T, hT⟩ : ∃ T, V.ftext (strB s) = T := ⟨_, rfl⟩
  rw [hT] at hft ⊢
  have HFT := Lib.hid hft
  have HDL := Lib.hid hdl
  have HP0 := Lib.hid hp0
  clear hft hdl hT hp0
  go_enter Try.func17, Try.ntmps17
  go_wp2
  go_loopw [3, 4, 5] (fun p t i wr => ∃ q : Nat, q ≤ s.size ∧ i = .int .i64 (q : Int) ∧ p = .bool (V.pl (strB s) q) ∧ t = .string (strOfNums (V.dbl ((strB s).take q))) ∧ wr = w) (fun _ _ i _ => s.size - (intOf i).toNat)
  case atStart => exact ⟨0, Nat.zero_le _, rfl, by rw [← HP0.out], rfl, rfl⟩
  case round =>
    obtain ⟨q, hq, rfl, rfl, rfl, hwr⟩ := hrel
    have hDl : (V.dbl ((strB s).take q)).length ≤ 2 * s.size := by have := HDL.out q; rw [List.length_take, strB_len] at this; omega
    rcases Nat.lt_or_ge q s.size with hlt | hge
    · have hd : decide (q < s.size) = true := decide_eq_true hlt
      have hg := strB_getq s q hlt
      have hps := V.pl_step (strB s) q _ hg
      have hds := V.dbl_step (strB s) q _ hg
      have hsub := sub_str1 s q hlt
      have hu := u8_bd s[q]
      obtain ⟨D, hD⟩ : ∃ D, V.dbl ((strB s).take q) = D := ⟨_, rfl⟩
      rw [hD] at hds hDl ⊢
      obtain ⟨p, hp⟩ : ∃ p, V.pl (strB s) q = p := ⟨_, rfl⟩
      rw [hp] at hps ⊢
      have hDs := sz_str D
      have hc1 : ¬ maxLen < (strOfNums D).size + 1 := by rw [hDs]; unfold maxLen; omega
      have hc2 : ¬ maxLen < (strOfNums D).size + 1 + 1 := by rw [hDs]; unfold maxLen; omega
      clear hg hD hp
      by_cases h34 : (s[q].toNat : Int) = 34
      · have d2 : ((s[q].toNat : Int) == 34) = true := by simpa using h34
        have d1 : ((s[q].toNat : Int) == 44) = false := by simp; omega
        have e1 : V.pl (strB s) (q + 1) = false := by rw [hps, h34]; show (p && !true) = false; simp
        have e2 : strOfNums (V.dbl ((strB s).take (q + 1))) = strOfNums D ++ ⟨#[34]⟩ ++ s.extract q (q + 1) := by
          rw [hds, hsub, if_pos h34, h34, show ([34, 34] : List Int) = [34] ++ [34] from rfl, ← List.append_assoc, ← strOfNums_append, ← strOfNums_append]; rfl
        have E1 := Lib.hid e1
        have E2 := Lib.hid e2
        have H34 := Lib.hid h34
        clear e1 e2 hps hds hsub h34
        go_wp2
        go_roundw
        case rel => exact ⟨q + 1, hlt, by go_num, by rw [E1.out], by rw [E2.out], by first | trivial | exact hwr⟩
        case measure => simp [intOf]; omega
      · have d2 : ((s[q].toNat : Int) == 34) = false := by simpa using h34
        have e2 : strOfNums (V.dbl ((strB s).take (q + 1))) = strOfNums D ++ s.extract q (q + 1) := by rw [hds, hsub, if_neg h34, ← strOfNums_append]
        have E2 := Lib.hid e2
        clear e2 hds hsub
        by_cases hsp : (s[q].toNat : Int) = 44 ∨ (s[q].toNat : Int) = 13 ∨ (s[q].toNat : Int) = 10
        · have e1 : V.pl (strB s) (q + 1) = false := by rw [hps, show V.sp (s[q].toNat : Int) = true by unfold V.sp; simp; omega]; simp
          have E1 := Lib.hid e1
          clear e1 hps h34
          by_cases h44 : (s[q].toNat : Int) = 44
          · have d1 : ((s[q].toNat : Int) == 44) = true := by simpa using h44
            have H44 := Lib.hid h44; clear h44 hsp
            go_wp2
            go_roundw
            case rel => exact ⟨q + 1, hlt, by go_num, by rw [E1.out], by rw [E2.out], by first | trivial | exact hwr⟩
            case measure => simp [intOf]; omega
          · have d1 : ((s[q].toNat : Int) == 44) = false := by simpa using h44
            by_cases h13 : (s[q].toNat : Int) = 13
            · have d3 : ((s[q].toNat : Int) == 13) = true := by simpa using h13
              have H13 := Lib.hid h13; clear h13 hsp h44
              go_wp2
              go_roundw
              case rel => exact ⟨q + 1, hlt, by go_num, by rw [E1.out], by rw [E2.out], by first | trivial | exact hwr⟩
              case measure => simp [intOf]; omega
            · have d3 : ((s[q].toNat : Int) == 13) = false := by simpa using h13
              have d4 : ((s[q].toNat : Int) == 10) = true := by simp; omega
              clear h13 hsp h44
              go_wp2
              go_roundw
              case rel => exact ⟨q + 1, hlt, by go_num, by rw [E1.out], by rw [E2.out], by first | trivial | exact hwr⟩
              case measure => simp [intOf]; omega
        · have e1 : V.pl (strB s) (q + 1) = p := by rw [hps, show V.sp (s[q].toNat : Int) = false by unfold V.sp; simp; omega]; simp
          have E1 := Lib.hid e1
          have d1 : ((s[q].toNat : Int) == 44) = false := by simp; omega
          have d3 : ((s[q].toNat : Int) == 13) = false := by simp; omega
          have d4 : ((s[q].toNat : Int) == 10) = false := by simp; omega
          clear e1 hps h34 hsp
          go_wp2
          go_roundw
          case rel => exact ⟨q + 1, hlt, by go_num, by rw [E1.out], by rw [E2.out], by first | trivial | exact hwr⟩
          case measure => simp [intOf]; omega
    · obtain rfl : q = s.size := by omega
      have hd : decide (s.size < s.size) = false := by simp
      have htk : (strB s).take s.size = strB s := List.take_of_length_le (by rw [strB_len]; exact Nat.le_refl _)
      rw [htk] at hDl ⊢
      have hDs := sz_str (V.dbl (strB s))
      have hft := HFT.out
      cases hp : V.pl (strB s) s.size with
      | true =>
        rw [hp, if_pos rfl] at hft
        have hss : strOfNums T = s := by rw [hft]; exact strOfNums_strB s
        have HSS := Lib.hid hss
        clear hDl hft hss htk hp
        rw [hwr]
        go_wp2
        go_ret
        exact ⟨by rw [HSS.out]; rfl, Below.refl _ _⟩
      | false =>
        rw [hp, if_neg (by decide)] at hft
        obtain ⟨D, hD⟩ : ∃ D, strOfNums (V.dbl (strB s)) = D := ⟨_, rfl⟩
        have hfin : strOfNums T = ⟨#[34]⟩ ++ D ++ ⟨#[34]⟩ := by
          rw [hft, ← hD, show (34 :: V.dbl (strB s) ++ [34] : List Int) = [34] ++ V.dbl (strB s) ++ [34] from rfl, ← strOfNums_append, ← strOfNums_append]; rfl
        have HF := Lib.hid hfin
        rw [hD] at hDs ⊢
        have hc1 : ¬ maxLen < 1 + D.size := by unfold maxLen; omega
        have hc2 : ¬ maxLen < 1 + D.size + 1 := by unfold maxLen; omega
        clear hft hfin htk hp hD
        rw [hwr]
        go_wp2
        go_ret
        exact ⟨by rw [HF.out]; rfl, Below.refl _ _⟩
end Go.Proofs.Ytclnephomnkieaa
