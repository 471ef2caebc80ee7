/- The document's layer 7: Unit, escape. -/
import Derived.Test.YtiflnciapboccaaDoorTokRef1
import Derived.Test.YtiflnciapboccaaDoorUtfRefGet
import Derived.Deep.DeepCutAuto
namespace Go.Proofs.YtiflnciapboccaaDoor
open Go.RowKit Go.Shelf
namespace K
/-- the digits of an escape, one by one -/
def dgt (l : List Int) (p i : Nat) : Int := hexv (l[p + i]?.getD 0)
def num16 (l : List Int) (p : Nat) : Nat → Int
  | 0 => 0
  | j + 1 => num16 l p j * 16 + dgt l p (j + 2)
theorem hexv_bd (x : Int) : -1 ≤ hexv x ∧ hexv x ≤ 15 := by unfold hexv; repeat' split
                                                            all_goals omega
theorem hex4_all (l : List Int) (p : Nat) : hex4 (l[p + 2]?.getD 0) (l[p + 3]?.getD 0) (l[p + 4]?.getD 0) (l[p + 5]?.getD 0) = if ∀ j, j < 4 → 0 ≤ dgt l p (j + 2) then num16 l p 4 else -1 := by
  unfold hex4
  by_cases h : ∀ j, j < 4 → 0 ≤ dgt l p (j + 2)
  · have h0 : 0 ≤ hexv (l[p + 2]?.getD 0) := h 0 (by omega)
    have h1 : 0 ≤ hexv (l[p + 3]?.getD 0) := h 1 (by omega)
    have h2 : 0 ≤ hexv (l[p + 4]?.getD 0) := h 2 (by omega)
    have h3 : 0 ≤ hexv (l[p + 5]?.getD 0) := h 3 (by omega)
    rw [if_pos h, if_neg (by omega)]
    simp [num16, dgt]
  · rw [if_neg h, if_pos]
    refine Decidable.byContradiction fun hn => h fun j hj => ?_
    have : j = 0 ∨ j = 1 ∨ j = 2 ∨ j = 3 := by omega
    rcases this with rfl | rfl | rfl | rfl
    · exact Int.not_lt.1 fun hh => hn (.inl hh)
    · exact Int.not_lt.1 fun hh => hn (.inr (.inl hh))
    · exact Int.not_lt.1 fun hh => hn (.inr (.inr (.inl hh)))
    · exact Int.not_lt.1 fun hh => hn (.inr (.inr (.inr hh)))
theorem num16_bd (l : List Int) (p : Nat) (j : Nat) : j ≤ 4 → (∀ i, i < j → 0 ≤ dgt l p (i + 2)) → 0 ≤ num16 l p j ∧ num16 l p j ≤ 16 ^ j - 1 := by
  induction j with
  | zero => intro _ _; simp [num16]
  | succ j ih =>
    intro hj h
    have h1 := ih (by omega) (fun i hi => h i (by omega))
    have h2 := h j (by omega)
    have h3 := hexv_bd (l[p + (j + 2)]?.getD 0)
    unfold dgt at h2
    simp only [num16, dgt]
    have : (16 : Int) ^ (j + 1) = 16 ^ j * 16 := by rw [Int.pow_succ]
    omega
end K
set_option maxHeartbeats 2000000 in
theorem refUnit_any (s : ByteArray) (p : Nat) (P : Int) (hP : P = p) (w : World) (hsm : s.size ≤ 100000) (hp : p ≤ 200000) :
    Calls Tryd.prog 44 #[.string s, .int .i64 P] w fun e w' => e = .returned (.int .i64 (K.unit (strB s) p)) ∧ w = w' := by
  subst hP
  obtain ⟨g, hg⟩ : ∃ g, K.unit (strB s) p = g := ⟨_, rfl⟩
  rw [hg]
  unfold K.unit at hg
  rw [strB_len] at hg
  by_cases h6 : p + 6 ≤ s.size
  · have d1 : decide ((s.size : Int) < (p : Int) + 6) = false := decide_eq_false (by omega)
    have x0 := strB_at s p (by omega)
    have x1 := strB_at s (p + 1) (by omega)
    have hps : p < s.size := by omega
    have hps1 : p + 1 < s.size := by omega
    by_cases h92 : (s[p].toNat : Int) = 92
    · have d2 : ((s[p].toNat : Int) != 92) = false := by simpa using h92
      by_cases h117 : (s[p + 1].toNat : Int) = 117
      · have d3 : ((s[p + 1].toNat : Int) != 117) = false := by simpa using h117
        rw [if_pos ⟨h6, by rw [x0]; exact h92, by rw [x1]; exact h117⟩, K.hex4_all] at hg
        have hx : ∀ j, (h : p + (j + 2) < s.size) → K.dgt (strB s) p (j + 2) = K.hexv (s[p + (j + 2)].toNat : Int) := fun j h => by unfold K.dgt; rw [strB_at s (p + (j + 2)) h]
        have hsx : ∀ x w, 0 ≤ x → x ≤ 255 → Calls Tryd.prog 56 #[.int .u8 x] w _ := fun x w h0 h1 => refSixteen_any x w h0 h1
        have HG := Lib.hid hg
        have HX := Lib.hid hx
        have HSX := Lib.hid hsx
        clear hg hx h92 h117 x0 x1 hsx
        go_enter Tryd.func44, Tryd.ntmps44
        go_wp2
        go_loop [5, 6, 7] (fun n i _ => ∃ j : Nat, j ≤ 4 ∧ i = .int .i64 ((j : Int) + 2) ∧ n = .int .i64 (K.num16 (strB s) p j) ∧ Hid (∀ k, k < j → 0 ≤ K.dgt (strB s) p (k + 2))) (fun _ i _ => 6 - (intOf i).toNat)
        case atStart => exact ⟨0, by omega, rfl, rfl, Lib.hid (fun k h => by omega)⟩
        case round =>
          obtain ⟨j, hj, rfl, rfl, HJ⟩ := hrel
          have hbd := K.num16_bd (strB s) p j hj HJ.out
          have hb4 : K.num16 (strB s) p j ≤ 65535 := by
            have : (16 : Int) ^ j ≤ 16 ^ 4 := by
              have : j = 0 ∨ j = 1 ∨ j = 2 ∨ j = 3 ∨ j = 4 := by omega
              rcases this with rfl | rfl | rfl | rfl | rfl <;> decide
            omega
          obtain ⟨m, hm⟩ : ∃ m, K.num16 (strB s) p j = m := ⟨_, rfl⟩
          rw [hm] at hbd hb4 ⊢
          have hb0 := hbd.1
          clear hbd
          rcases Nat.lt_or_ge j 4 with hlt | hge
          · have d5 : decide ((j : Int) + 2 < 6) = true := decide_eq_true (by omega)
            have hpj : p + (j + 2) < s.size := by omega
            have hu := u8_bd s[p + (j + 2)]
            have hD := HX.out j hpj
            have c1 := fun w => HSX.out (s[p + (j + 2)].toNat : Int) w hu.1 hu.2
            rw [← hD] at c1
            obtain ⟨d, hd⟩ : ∃ d, K.dgt (strB s) p (j + 2) = d := ⟨_, rfl⟩
            have hdb : -1 ≤ d ∧ d ≤ 15 := by rw [← hd]; exact K.hexv_bd _
            rw [hd] at c1
            have HD := Lib.hid hd
            clear hD hd hu
            by_cases h0 : d < 0
            · have d6 : decide (d < 0) = true := decide_eq_true h0
              have hg := HG.out
              rw [if_neg (fun h => by have := h j hlt; rw [HD.out] at this; omega)] at hg
              subst hg
              clear hdb
              go_wp2_with (go_at_call 56; (with_reducible refine (c1 _).mono ?_); rintro e w' ⟨rfl, rfl⟩)
              go_ret
              exact ⟨rfl, rfl⟩
            · have d6 : decide (d < 0) = false := decide_eq_false h0
              have HN : Hid (K.num16 (strB s) p (j + 1) = m * 16 + d) := Lib.hid (by show K.num16 (strB s) p j * 16 + K.dgt (strB s) p (j + 2) = _; rw [hm, HD.out])
              have HK : Hid (∀ k, k < j + 1 → 0 ≤ K.dgt (strB s) p (k + 2)) := Lib.hid (fun k hk => by
                rcases Nat.lt_or_ge k j with h | h
                · exact HJ.out k h
                · obtain rfl : k = j := by omega
                  rw [HD.out]; omega)
              have HM := Lib.hid hm; clear hm
              go_wp2_with (go_at_call 56; (with_reducible refine (c1 _).mono ?_); rintro e w' ⟨rfl, rfl⟩)
              go_round
              case rel => exact ⟨j + 1, by omega, by go_num, by rw [HN.out], HK⟩
              case measure => simp [intOf]; omega
          · obtain rfl : j = 4 := by omega
            have d5 : decide ((((4 : Nat) : Int)) + 2 < 6) = false := by decide
            have hg := HG.out
            rw [if_pos HJ.out, hm] at hg
            subst hg
            have HM := Lib.hid hm; clear hm
            go_wp2
            go_ret
            exact ⟨rfl, rfl⟩
      · have d3 : ((s[p + 1].toNat : Int) != 117) = true := by simpa using h117
        rw [if_neg (fun h => h117 (by rw [← x1]; exact h.2.2))] at hg
        subst hg
        clear h92 h117 x0 x1
        go_enter Tryd.func44, Tryd.ntmps44
        go_wp2
        go_ret
        exact ⟨rfl, rfl⟩
    · have d2 : ((s[p].toNat : Int) != 92) = true := by simpa using h92
      rw [if_neg (fun h => h92 (by rw [← x0]; exact h.2.1))] at hg
      subst hg
      clear h92 x0 x1
      go_enter Tryd.func44, Tryd.ntmps44
      go_wp2
      go_ret
      exact ⟨rfl, rfl⟩
  · have d1 : decide ((s.size : Int) < (p : Int) + 6) = true := decide_eq_true (by omega)
    rw [if_neg (fun h => h6 h.1)] at hg
    subst hg
    go_enter Tryd.func44, Tryd.ntmps44
    go_wp2
    go_ret
    exact ⟨rfl, rfl⟩
theorem strOfNums_1 (x : UInt8) : strOfNums [(x.toNat : Int)] = ⟨#[x]⟩ := by
  have := strOfNums_strB ⟨#[x]⟩
  simpa [strB] using this
theorem extract_one (s : ByteArray) (p : Nat) (h : p < s.size) : s.extract p (p + 1) = strOfNums [(s[p].toNat : Int)] := by
  have h1 := strOfNums_strB (s.extract p (p + 1))
  rw [← h1]
  congr 1
  have h2 := strB_sub s p (p + 1)
  rw [h2]
  have hl := strB_len s
  have hx := strB_at s p h
  rw [List.getElem?_eq_getElem (by omega)] at hx
  simp only [Option.getD_some] at hx
  rw [List.drop_take, show p + 1 - p = 1 by omega, List.drop_eq_getElem_cons (by omega)]
  simp [hx]
set_option maxRecDepth 100000 in
set_option maxHeartbeats 4000000 in
theorem refEsc_any (s : ByteArray) (p : Nat) (w : World) (hsm : s.size ≤ 100000) (hp : p < s.size) :
    Calls Tryd.prog 32 #[.string s, .int .i64 p] w fun e w' => e = .returned (.tuple #[.string (strOfNums (K.esc (strB s) p).1), .int .i64 ((K.esc (strB s) p).2 : Nat)]) ∧ Below w.heap.size w w' := by
  obtain ⟨g, hg⟩ : ∃ g, K.esc (strB s) p = g := ⟨_, rfl⟩
  rw [hg]
  unfold K.esc at hg
  rw [strB_len] at hg
  by_cases hshort : p + 1 < s.size ∧ ∃ m, K.esc1 ((strB s)[p + 1]?.getD 0) = some m
  · obtain ⟨h1, m, hm⟩ := hshort
    rw [if_pos h1, hm] at hg
    simp only at hg
    subst hg
    have hx := strB_at s (p + 1) h1
    rw [hx] at hm
    have d0 : decide (p + 1 < s.size) = true := decide_eq_true h1
    have d1 : decide ((p : Int) + 1 < (s.size : Int)) = true := decide_eq_true (by omega)
    have hex := extract_one s (p + 1) h1
    unfold K.esc1 at hm
    obtain ⟨x, hxe⟩ : ∃ x, (s[p + 1].toNat : Int) = x := ⟨_, rfl⟩
    rw [hxe] at hm hex
    have HEX := Lib.hid hex
    clear hx hex
    have hcases : (x = 34 ∧ m = 34) ∨ (x = 92 ∧ m = 92) ∨ (x = 47 ∧ m = 47) ∨ (x = 98 ∧ m = 8) ∨ (x = 102 ∧ m = 12) ∨ (x = 110 ∧ m = 10) ∨ (x = 114 ∧ m = 13) ∨ (x = 116 ∧ m = 9) := by
      by_cases c1 : x = 34 ∨ x = 92 ∨ x = 47
      · rw [if_pos c1] at hm
        injection hm with hm
        omega
      · rw [if_neg c1] at hm
        repeat' split at hm
        all_goals first | (injection hm with hm; omega) | (cases hm; done)
    clear hm
    rcases hcases with ⟨rfl, rfl⟩ | ⟨rfl, rfl⟩ | ⟨rfl, rfl⟩ | ⟨rfl, rfl⟩ | ⟨rfl, rfl⟩ | ⟨rfl, rfl⟩ | ⟨rfl, rfl⟩ | ⟨rfl, rfl⟩
    all_goals
      go_enter Tryd.func32, Tryd.ntmps32
      go_wp2
      go_ret2
      first
        | exact ⟨by rw [show p + 2 = p + 1 + 1 from rfl, HEX.out]; rfl, Below.refl _ _⟩
        | exact ⟨by rfl, Below.refl _ _⟩
  · have hg : K.escU (strB s) p = g := by
      rw [← hg]
      split
      · rename_i h1
        cases hm : K.esc1 ((strB s)[p + 1]?.getD 0) with
        | some m => exact absurd ⟨h1, m, hm⟩ hshort
        | none => rfl
      · rfl
    have hno : ∀ h : p + 1 < s.size, ∀ x : Int, x = (s[p + 1].toNat : Int) → ((x == 34) = false ∧ (x == 92) = false ∧ (x == 47) = false) ∧ (x == 98) = false ∧ (x == 102) = false ∧ (x == 110) = false ∧ (x == 114) = false ∧ (x == 116) = false := fun h x hx => by
      have hx1 := strB_at s (p + 1) h
      rw [← hx] at hx1
      have hn : K.esc1 x = none := by
        cases hm : K.esc1 x with
        | some m => exact absurd ⟨h, m, by rw [hx1]; exact hm⟩ hshort
        | none => rfl
      unfold K.esc1 at hn
      repeat' split at hn
      all_goals first | (cases hn; done) | skip
      simp only [beq_eq_false_iff_ne, ne_eq]
      omega
    have HNO := Lib.hid hno
    clear hno hshort
    unfold K.escU at hg
    have cU := fun w => refUnit_any s p p rfl w hsm (by omega)
    have cU6 := fun w => refUnit_any s (p + 6) ((p : Int) + 6) (by omega) w hsm (by omega)
    obtain ⟨c, hc⟩ : ∃ c, K.unit (strB s) p = c := ⟨_, rfl⟩
    obtain ⟨d, hd⟩ : ∃ d, K.unit (strB s) (p + 6) = d := ⟨_, rfl⟩
    have hcb : c ≤ 65535 := by
      rw [← hc]; unfold K.unit; split
      · rw [K.hex4_all]
        split
        · rename_i hh; have := (K.num16_bd (strB s) p 4 (by omega) (fun i hi => hh i hi)).2; omega
        · omega
      · omega
    simp only [hc, hd] at cU cU6 hg
    clear hc hd
    have HG := Lib.hid hg; clear hg
    have HC6 := Lib.hid cU6; clear cU6
    go_enter Tryd.func32, Tryd.ntmps32
    go_upto_if 12 with fail
    go_cut [1] (fun s1 W => s1 = .int .i64 (p : Int) ∧ W = w)
    case first =>
      clear cU
      rcases Nat.lt_or_ge (p + 1) s.size with h1 | h1
      · have d0 : decide (p + 1 < s.size) = true := decide_eq_true h1
        have d1 : decide ((p : Int) + 1 < (s.size : Int)) = true := decide_eq_true (by omega)
        obtain ⟨⟨e1, e2, e3⟩, e4, e5, e6, e7, e8⟩ := HNO.out h1 _ rfl
        go_wp2
        go_meet
        exact ⟨rfl, rfl⟩
      · have d0 : decide (p + 1 < s.size) = false := decide_eq_false (by omega)
        have d1 : decide ((p : Int) + 1 < (s.size : Int)) = false := decide_eq_false (by omega)
        go_wp2
        go_meet
        exact ⟨rfl, rfl⟩
    case rest =>
    obtain ⟨rfl, hwc⟩ := hcut
    rw [hwc]
    clear hwc HNO
    by_cases h0 : c < 0
    · have hg := HG.out
      rw [if_pos h0] at hg
      subst hg
      have d1 : decide (c < 0) = true := decide_eq_true h0
      clear HC6
      go_wp2_with (go_at_call 44; (with_reducible refine (cU _).mono ?_); rintro e w' ⟨rfl, rfl⟩)
      go_ret2
      exact ⟨rfl, Below.refl _ _⟩
    have d1 : decide (c < 0) = false := decide_eq_false h0
    by_cases hz : U.size c = 0
    · have hg := HG.out
      rw [if_neg h0, if_neg (by simpa using hz)] at hg
      have cC : ∀ w, Calls Tryd.prog 27 #[.int .i64 c] w fun e w' => e = .returned (.bool false) ∧ w = w' := fun w => by
        have h := refCode_any c w
        rw [show (U.size c != 0) = false by simp [hz]] at h
        exact h
      clear hz HG
      have c6 := HC6.out
      clear HC6
      by_cases hb : 56320 ≤ c ∨ d < 56320 ∨ 57343 < d
      · rw [if_pos hb] at hg
        subst hg
        go_wp2_with (first | (go_at_call 44; (first | ((with_reducible refine (cU _).mono ?_); rintro e w' ⟨rfl, rfl⟩) | ((with_reducible refine (c6 _).mono ?_); rintro e w' ⟨rfl, rfl⟩))) | (go_at_call 27; (with_reducible refine (cC _).mono ?_); rintro e w' ⟨rfl, rfl⟩))
        all_goals first | (go_ret2; exact ⟨rfl, Below.refl _ _⟩) | (exfalso; omega)
      · rw [if_neg hb] at hg
        subst hg
        have e1 : decide (56320 ≤ c) = false := decide_eq_false (by omega)
        have e2 : decide (d < 56320) = false := decide_eq_false (by omega)
        have e3 : decide (57343 < d) = false := decide_eq_false (by omega)
        have hd0 : 56320 ≤ d ∧ d ≤ 57343 ∧ 0 ≤ c := by omega
        obtain ⟨hd1, hd2, hc0⟩ := hd0
        have cP := fun w => refPut_any (65536 + (c - 55296) * 1024 + d - 56320) w
        clear hb
        go_wp2_with (first | (go_at_call 44; (first | ((with_reducible refine (cU _).mono ?_); rintro e w' ⟨rfl, rfl⟩) | ((with_reducible refine (c6 _).mono ?_); rintro e w' ⟨rfl, rfl⟩))) | (go_at_call 27; (with_reducible refine (cC _).mono ?_); rintro e w' ⟨rfl, rfl⟩) | (go_at_call 18; (with_reducible refine (cP _).mono ?_); rintro e w1 ⟨v, rfl, hown, hB⟩; have hcv := conv_owned _ _ _ _ _ hown))
        go_ret2
        exact ⟨rfl, hB⟩
    · have hg := HG.out
      rw [if_neg h0, if_pos hz] at hg
      subst hg
      have cC : ∀ w, Calls Tryd.prog 27 #[.int .i64 c] w fun e w' => e = .returned (.bool true) ∧ w = w' := fun w => by
        have h := refCode_any c w
        rw [show (U.size c != 0) = true by simpa using hz] at h
        exact h
      have cP := fun w => refPut_any c w
      clear hz HC6
      go_wp2_with (first | (go_at_call 44; (with_reducible refine (cU _).mono ?_); rintro e w' ⟨rfl, rfl⟩) | (go_at_call 27; (with_reducible refine (cC _).mono ?_); rintro e w' ⟨rfl, rfl⟩) | (go_at_call 18; (with_reducible refine (cP _).mono ?_); rintro e w1 ⟨v, rfl, hown, hB⟩; have hcv := conv_owned _ _ _ _ _ hown))
      go_ret2
      exact ⟨rfl, hB⟩
end Go.Proofs.YtiflnciapboccaaDoor
