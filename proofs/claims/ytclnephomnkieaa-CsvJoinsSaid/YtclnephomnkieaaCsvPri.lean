/- Layer 9 of the program: Print. -/
import Derived.Test.YtclnephomnkieaaCsvFld
import Derived.Test.YtclnephomnkieaaCsvRefW
set_option linter.unusedVariables false
namespace Go.Proofs.Ytclnephomnkieaa
open Go.RowKit Go.Shelf
theorem V.ftext_u8 (f : List Int) (h : ∀ x ∈ f, 0 ≤ x ∧ x ≤ 255) : ∀ x ∈ V.ftext f, 0 ≤ x ∧ x ≤ 255 := by
  unfold V.ftext
  split
  · exact h
  · intro x hx
    rcases List.mem_append.1 hx with hx | hx
    · rcases List.mem_cons.1 hx with rfl | hx
      · omega
      · unfold V.dbl at hx
        obtain ⟨y, hy, hx⟩ := List.mem_flatMap.1 hx
        have h1 := h y hy
        split at hx
        · have : x = 34 := by simpa using hx
          omega
        · have : x = y := by simpa using hx
          omega
    · have : x = 34 := by simpa using hx
      omega
set_option maxRecDepth 100000 in
set_option maxHeartbeats 8000000 in
theorem csvPrint_any (u : Value) (L : Rws) (w : World) (hu : SRows w u L) (hT : V.tot L ≤ 100000) (hBy : BytesR L) :
    Calls Try.prog 14 #[u] w fun e w' => e = .returned (.tuple #[.string (strOfNums (V.prt L).1), .int .i64 (V.prt L).2]) ∧ Below w.heap.size w w' := by
  obtain ⟨au, cu, rfl, hcu, hcum, hxu⟩ := hu
  have hl := V.len_tot L
  have hF : ∀ (f : List Int) w, f.length ≤ 100000 → (∀ x ∈ f, 0 ≤ x ∧ x ≤ 255) → Calls Try.prog 16 #[.string (strOfNums f)] w fun e w' => e = .returned (.string (strOfNums (V.ftext f))) ∧ Below w.heap.size w w' := fun f w h1 h2 => by
    have h := csvField_any (strOfNums f) w (by rw [sz_str]; omega)
    rw [strB_strOfNums f h2] at h
    exact h
  have HF := Lib.hid hF; clear hF
  have HBY := Lib.hid hBy; clear hBy
  obtain ⟨P, hP⟩ : ∃ P, V.prt L = P := ⟨_, rfl⟩
  rw [hP]
  have HP := Lib.hid hP; clear hP
  go_enter Try.func14, Try.ntmps14
  go_wp2
  go_loopw [4, 6, 7, 8, 11, 20] (fun o _ _ _ i _ wr => ∃ j : Nat, j ≤ L.length ∧ i = .int .i64 (j : Int) ∧ Owns w wr o (V.text (L.take j)) ∧ Hid (∀ r ∈ L.take j, r ≠ [])) (fun _ _ _ _ i _ _ => L.length - (intOf i).toNat)
  case atStart => exact ⟨0, Nat.zero_le _, rfl, owns_nil _, Lib.hid (by simp)⟩
  case round =>
    obtain ⟨j, hj, rfl, hown, HN⟩ := hrel
    have hBr := hown.2
    obtain ⟨av, nv, cv, rfl⟩ := own_shape hown.1
    rcases Nat.lt_or_ge j L.length with hlt | hge
    · have hd : decide (j < L.length) = true := by simpa using hlt
      have hne : L ≠ [] := fun h => by rw [h] at hlt; simp at hlt
      obtain ⟨b, off, rfl, hc⟩ := hxu.resolve_left hne
      obtain ⟨ru, x0, hru⟩ := hc j hlt
      have hmem : L[j]?.getD [] ∈ L := by rw [List.getElem?_eq_getElem hlt]; exact List.getElem_mem _
      have hts := V.text_step L j hlt
      have htl : (V.text (L.take j)).length ≤ 300000 := by have h1 := V.text_tot (L.take j); have h2 := V.tot_take L j; omega
      have htl2 : (V.text (L.take (j + 1))).length ≤ 300000 := by have h1 := V.text_tot (L.take (j + 1)); have h2 := V.tot_take L (j + 1); omega
      have hnj : (∀ r ∈ L.take j, r ≠ []) → L[j]?.getD [] ≠ [] → ∀ r ∈ L.take (j + 1), r ≠ [] := fun h1 h2 r hr => by
        rw [List.take_add_one, List.getElem?_eq_getElem hlt] at hr
        rw [List.getElem?_eq_getElem hlt] at h2
        rcases List.mem_append.1 hr with hr | hr
        · exact h1 r hr
        · have : r = L[j] := by simpa using hr
          rw [this]; exact h2
      have hms := V.mem_tot L _ hmem
      have hby := HBY.out _ hmem
      have hno : L[j]?.getD [] = [] → V.prt L = ([], 1) := fun h => by
        unfold V.prt
        rw [if_neg (fun h2 => (V.okRows_iff L).1 h2 _ hmem h)]
      obtain ⟨r, hr⟩ : ∃ r, L[j]?.getD [] = r := ⟨_, rfl⟩
      rw [hr] at hru hts hms hby hnj hno
      obtain ⟨a, c, rfl, h1, h2, hxr⟩ := hru
      have hrl := V.len_fsz r
      obtain ⟨X, hX⟩ : ∃ X, V.text (L.take j) = X := ⟨_, rfl⟩
      rw [hX] at hts htl hown
      have z0 := cell_kept hBr x0
      have HTS := Lib.hid hts; have HX := Lib.hid x0; have HBY2 := Lib.hid hby; have HNJ := Lib.hid hnj; have HNO := Lib.hid hno
      clear hc hr hxu hne x0 hts hby hnj hno hmem hX
      rcases Nat.eq_zero_or_pos r.length with hr0 | hrp
      · have hre : r = [] := List.length_eq_zero_iff.1 hr0
        have d1 : ((r.length : Int) == 0) = true := beq_iff_eq.2 (by omega)
        have hPv : P = ([], 1) := by rw [← HP.out]; exact HNO.out hre
        subst hPv
        clear hre hr0 hxr
        go_wp2
        go_ret2
        exact ⟨rfl, hBr⟩
      have d1 : ((r.length : Int) == 0) = false := beq_eq_false_iff_ne.2 (by omega)
      go_wp2
      clear z0
      have HOWN := Lib.hid hown
      clear hown
      go_loopw [4, 7, 8, 20] (fun o _ _ i wq => ∃ k : Nat, k ≤ r.length ∧ i = .int .i64 (k : Int) ∧ Owns w wq o (X ++ V.rtext (r.take k))) (fun _ _ _ i _ => r.length - (intOf i).toNat)
      case atStart => exact ⟨0, Nat.zero_le _, rfl, owns_congr HOWN.out (by simp [V.rtext])⟩
      case round =>
        obtain ⟨k, hk, rfl, hown⟩ := hrel
        have hBq := hown.2
        obtain ⟨av, nv, cv, rfl⟩ := own_shape hown.1
        have z0 := cell_kept hBq HX.out
        have hfk : (V.rtext (r.take k)).length ≤ 300000 := by have h1 := V.rtext_fsz (r.take k); have h2 := V.fsz_take r k; omega
        have hOl : (X ++ V.rtext (r.take k)).length ≤ 600000 := by rw [List.length_append]; omega
        rcases Nat.lt_or_ge k r.length with hlt2 | hge2
        · have hd2 : decide (k < r.length) = true := by simpa using hlt2
          have hne : r ≠ [] := fun h => by rw [h] at hlt2; simp at hlt2
          obtain ⟨p, o, rfl, he⟩ := hxr.resolve_left hne
          have t0 := cell_kept hBq (he k hlt2)
          have hmem2 : r[k]?.getD [] ∈ r := by rw [List.getElem?_eq_getElem hlt2]; exact List.getElem_mem _
          have hrs := V.rtext_step r k hlt2
          have hfl := V.mem_fsz r _ hmem2
          have hfb := HBY2.out _ hmem2
          obtain ⟨f, hf⟩ : ∃ f, r[k]?.getD [] = f := ⟨_, rfl⟩
          rw [hf] at t0 hrs hfl hfb
          have cF := fun w => HF.out f w (by omega) hfb
          have hft := V.ftext_len f
          have hfs := sz_str (V.ftext f)
          have hfe := strB_strOfNums (V.ftext f) (V.ftext_u8 f hfb)
          obtain ⟨F, hFe⟩ : ∃ F, strOfNums (V.ftext f) = F := ⟨_, rfl⟩
          rw [hFe] at hfs cF hfe
          have hnext : X ++ V.rtext (r.take (k + 1)) = (X ++ V.rtext (r.take k)) ++ (if k = 0 then [] else [44]) ++ strB F := by
            rw [hrs, hfe]; simp
          obtain ⟨O, hO⟩ : ∃ O, X ++ V.rtext (r.take k) = O := ⟨_, rfl⟩
          rw [hO] at hOl hown hnext
          have HNX := Lib.hid hnext
          clear hxr he hne hf hrs hfb hnext hO hFe hmem2 hfe
          rcases Nat.eq_zero_or_pos k with hk0 | hkp
          · subst hk0
            simp only [Nat.add_zero] at t0
            have d3 : decide (0 < 0) = false := by simp
            go_wp2_with (first
              | (go_at_call 16; (with_reducible refine (cF _).mono ?_); rintro e w1 ⟨rfl, hB1⟩; have hown1 := owns_below hown hB1)
              | (at_builtin; refine wpList_owns_str rfl _ _ rfl w (.slice av nv cv) O rfl hown1 F rfl (by omega) ?_; intro v' w2 hown2 hg2))
            go_roundw
            case rel => exact ⟨0 + 1, hlt2, by go_num, owns_congr hown2 (by rw [HNX.out]; simp)⟩
            case measure => simp [intOf]; omega
          · have d3 : decide (0 < k) = true := decide_eq_true hkp
            have hown1 := owns_below hown ((Below.refl _ wr).alloc (Nat.le_refl _) (.cells #[.int .u8 44] 5))
            go_wp2_with (first
              | (go_at_call 16; (with_reducible refine (cF _).mono ?_); rintro e w3 ⟨rfl, hB1⟩; have hown3 := owns_below hown2 hB1)
              | (at_builtin; refine wpList_owns_one rfl _ _ rfl w (.slice av nv cv) O rfl hown1 wr.heap.size 44 rfl (by simp) (by omega) ?_; intro v' w2 hown2 hg2; obtain ⟨a2, n2, c2, rfl⟩ := own_shape hown2.1)
              | (at_builtin; refine wpList_owns_str rfl _ _ rfl w (.slice a2 n2 c2) (O ++ [44]) rfl hown3 F rfl (by simp; omega) ?_; intro v' w4 hown4 hg4))
            go_roundw
            case rel => exact ⟨k + 1, hlt2, by go_num, owns_congr hown4 (by rw [HNX.out, if_neg (by omega)])⟩
            case measure => simp [intOf]; omega
        · obtain rfl : k = r.length := by omega
          have hd2 : decide (r.length < r.length) = false := by simp
          rw [List.take_length] at hOl hfk hown
          have HTS2 := Lib.hid (HTS.out.trans (List.append_assoc X (V.rtext r) [13, 10]).symm)
          have hrne : r ≠ [] := fun h => by rw [h] at hrp; simp at hrp
          have HRN := Lib.hid hrne
          clear hrne hxr
          go_wp2_with (at_builtin; refine wpList_owns_str rfl _ _ rfl w (.slice av nv cv) _ rfl hown ⟨#[13, 10]⟩ rfl (by show _ + 2 ≤ _; omega) ?_; intro v' w2 hown2 hg2)
          go_roundw
          case rel => exact ⟨j + 1, hlt, by go_num, owns_congr hown2 (by rw [HTS2.out]; rfl), Lib.hid (HNJ.out HN.out HRN.out)⟩
          case measure => simp [intOf]; omega
    · obtain rfl : j = L.length := by omega
      have hd : decide (L.length < L.length) = false := by simp
      have hok : V.prt L = (V.text L, 0) := by
        have h1 := HN.out
        rw [List.take_length] at h1
        unfold V.prt
        rw [if_pos ((V.okRows_iff L).2 h1)]
      have hPv : P = (V.text L, 0) := by rw [← HP.out, hok]
      subst hPv
      rw [List.take_length] at hown
      have hcv := conv_owned _ _ _ _ _ hown.1
      clear hok
      go_wp2
      go_ret2
      exact ⟨rfl, hBr⟩
end Go.Proofs.Ytclnephomnkieaa
