/- The walk of CsvRows: rows printed one by one, one behind the other, are all of them printed. -/
import Derived.Test.YtclnephomnkieaaCsvAlive
set_option linter.unusedVariables false
namespace Go.Proofs.Ytclnephomnkieaa
open Go.RowKit Go.Shelf
theorem sub_row1 (b off len cap q : Nat) (hq : q + 1 ≤ cap) (w : World) :
    (Instr.slice 23 (.slice (some ⟨b, off, none⟩) len cap) (some (.int .i64 (q : Int))) (some (.int .i64 ((q : Int) + 1))) none).run Try.prog w = .ok (.slice (some ⟨b, off + q, none⟩) 1 (cap - q)) w := by
  have h1 := run_slice_lh (P := Try.prog) (w := w) 23 (some ⟨b, off, none⟩) len cap Try.underlying23 .i64 .i64 (q : Int) ((q : Int) + 1) (by omega) (by omega) (by omega)
  have h2 : (sizeOf (Try.prog.elem 23)).run Try.prog w = .ok 1 w := by kernel_rfl
  rw [h2] at h1
  simp only [Result.andThen, sliced] at h1
  rw [h1, if_neg (by omega)]
  simp only [Option.map, Addr.add_lit, Nat.mul_one]
  congr 2 <;> simp <;> omega
theorem srows_one {W : World} {b off : Nat} {L : Rws} {len cap : Nat} (j : Nat) (hj : j < L.length) (hlc : L.length ≤ cap) (hcm : cap ≤ maxLen) (hc : ∀ i, i < L.length → ∃ u, W.cell? ⟨b, off + i, none⟩ = some u ∧ SRow W u (L[i]?.getD [])) :
    SRows W (.slice (some ⟨b, off + j, none⟩) 1 (cap - j)) [L[j]?.getD []] := by
  obtain ⟨u, h1, h2⟩ := hc j hj
  refine ⟨_, cap - j, rfl, by simp; omega, by omega, .inr ⟨b, off + j, rfl, fun i hi => ?_⟩⟩
  obtain rfl : i = 0 := by simp at hi; exact hi
  exact ⟨u, h1, h2⟩
namespace csvRowsWalk
set_option maxRecDepth 100000 in
set_option maxHeartbeats 8000000 in
theorem walk (v0 : Value) (L : Rws) (w : World) (w0 : SRows w v0 L) (hG : Big L) (hY : BytesR L) :
    Calls Try.prog 8 #[v0] w fun e w' => e = .returned (.bool true) ∧ Below w.heap.size w w' := by
  have ha := csvAlive_any w
  have hGr := fun u w hu => refGreat9_any u L w hu hG
  have H0 := Lib.hid w0
  obtain ⟨va, vc, rfl, hlc, hcm, hx⟩ := w0
  rcases Nat.lt_or_ge 2000 (V.tot L) with hbig | hsm
  · simp only [decide_eq_true hbig] at hGr
    clear hx
    go_enter Try.func8, Try.ntmps8
    go_wp2_with (first
      | (go_at_call 9; (with_reducible refine ha.mono ?_); rintro e w1 ⟨rfl, hB1⟩; have hv1 := srows_below H0.out hB1)
      | (go_at_call 13; (with_reducible refine (hGr _ _ hv1).mono ?_); rintro e w2 ⟨rfl, hB2⟩))
    go_ret
    exact ⟨rfl, hB1.trans (hB2.mono hB1.size)⟩
  simp only [decide_eq_false (show ¬ 2000 < V.tot L by omega)] at hGr
  have hll := V.len_tot L
  have hP := fun u w hu => csvPrint_any u L w hu (by omega) hY
  have hP1 : ∀ (r : Fs) u w, r ∈ L → SRows w u [r] → Calls Try.prog 14 #[u] w fun e w' => e = .returned (.tuple #[.string (strOfNums (V.prt [r]).1), .int .i64 (V.prt [r]).2]) ∧ Below w.heap.size w w' := fun r u w hr hu =>
    csvPrint_any u [r] w hu (by have := V.mem_tot L r hr; simp [V.tot]; omega) (fun r' hr' => by have : r' = r := by simpa using hr'
                                                                                                 rw [this]; exact hY r hr)
  have HP1 := Lib.hid hP1; clear hP1
  obtain ⟨T, er, hT⟩ : ∃ T er, V.prt L = (T, er) := ⟨_, _, rfl⟩
  rw [hT] at hP
  simp only at hP
  have HT := Lib.hid hT; clear hT
  have HX := Lib.hid hx; clear hx
  go_enter Try.func8, Try.ntmps8
  go_wp2_with (first
    | (go_at_call 9; (with_reducible refine ha.mono ?_); rintro e w1 ⟨rfl, hB1⟩; have hv1 := srows_below H0.out hB1)
    | (go_at_call 13; (with_reducible refine (hGr _ _ hv1).mono ?_); rintro e w2 ⟨rfl, hB2⟩; have hv2 := srows_below hv1 hB2)
    | (go_at_call 14; (with_reducible refine (hP _ _ hv2).mono ?_); rintro e w3 ⟨rfl, hB3⟩))
  have h2 := hB1.trans (hB2.mono hB1.size)
  have h3 := h2.trans (hB3.mono h2.size)
  go_loopw [5, 6, 7, 8] (fun o i _ _ wr => ∃ j : Nat, j ≤ L.length ∧ i = .int .i64 (j : Int) ∧ o = .string (strOfNums (V.text (L.take j))) ∧ Hid (∀ r ∈ L.take j, r ≠ []) ∧ Below w.heap.size w wr) (fun _ i _ _ _ => L.length - (intOf i).toNat)
  case atStart => exact ⟨0, Nat.zero_le _, rfl, rfl, Lib.hid (by simp), h3⟩
  case round =>
    obtain ⟨j, hj, rfl, rfl, HN, hBr⟩ := hrel
    have htl : (V.text (L.take j)).length ≤ 6000 := by have h1 := V.text_tot (L.take j); have h2 := V.tot_take L j; omega
    have hsX := sz_str (V.text (L.take j))
    rcases Nat.lt_or_ge j L.length with hlt | hge
    · have hd : decide (j < L.length) = true := by simpa using hlt
      have hne : L ≠ [] := fun h => by rw [h] at hlt; simp at hlt
      obtain ⟨b, off, rfl, hc⟩ := HX.out.resolve_left hne
      have hmem : L[j]?.getD [] ∈ L := by rw [List.getElem?_eq_getElem hlt]; exact List.getElem_mem _
      have hone := srows_one (W := wr) (b := b) (off := off) (L := L) (len := L.length) (cap := vc) j hlt hlc hcm (fun i hi => by obtain ⟨u, q1, q2⟩ := hc i hi; exact ⟨u, cell_kept hBr q1, srow_below q2 hBr⟩)
      have hts := V.text_step L j hlt
      have hsub := sub_row1 b off L.length vc j (by omega)
      have cP := HP1.out _ _ wr hmem hone
      have hms := V.mem_tot L _ hmem
      have hno : L[j]?.getD [] = [] → V.prt L = ([], 1) := fun h => by
        unfold V.prt
        rw [if_neg (fun h2 => (V.okRows_iff L).1 h2 _ hmem h)]
      have hnj : (∀ r ∈ L.take j, r ≠ []) → L[j]?.getD [] ≠ [] → ∀ r ∈ L.take (j + 1), r ≠ [] := fun h1 h2 r hr => by
        rw [List.take_add_one, List.getElem?_eq_getElem hlt] at hr
        rw [List.getElem?_eq_getElem hlt] at h2
        rcases List.mem_append.1 hr with hr | hr
        · exact h1 r hr
        · have : r = L[j] := by simpa using hr
          rw [this]; exact h2
      obtain ⟨r, hr⟩ : ∃ r, L[j]?.getD [] = r := ⟨_, rfl⟩
      rw [hr] at hts cP hms hno hnj
      obtain ⟨X, hX⟩ : ∃ X, strOfNums (V.text (L.take j)) = X := ⟨_, rfl⟩
      have HTS := Lib.hid hts; have HXE := Lib.hid hX; have HNO := Lib.hid hno; have HNJ := Lib.hid hnj
      rw [hX] at hsX ⊢
      clear hc hone hr hX hts hno hnj hmem hne
      by_cases hr0 : r = []
      · have hpr : V.prt [r] = ([], 1) := by rw [hr0]; rfl
        rw [hpr] at cP
        have hTe := HNO.out hr0
        rw [HT.out] at hTe
        injection hTe with hT1 hT2
        subst hT1 hT2
        have hz : strOfNums [] = ⟨#[]⟩ := rfl
        rw [hz] at cP
        clear hr0 hpr
        go_wp2_with (go_at_call 14; (with_reducible refine cP.mono ?_); rintro e w4 ⟨rfl, hB4⟩)
        go_ret
        exact ⟨by first | rfl | (rw [hz]; rfl), hBr.trans (hB4.mono hBr.size)⟩
      · have hpr : V.prt [r] = (V.rtext r ++ [13, 10], 0) := by
          unfold V.prt V.okRows
          rw [if_pos (by simp [hr0])]
          simp [V.text]
        rw [hpr] at cP
        simp only at cP
        have hfr := V.rtext_fsz r
        have hsR := sz_str (V.rtext r ++ [13, 10])
        have hnx : strOfNums (V.text (L.take (j + 1))) = X ++ strOfNums (V.rtext r ++ [13, 10]) := by rw [HTS.out, ← HXE.out, ← strOfNums_append]
        rw [List.length_append] at hsR
        obtain ⟨R, hR⟩ : ∃ R, strOfNums (V.rtext r ++ [13, 10]) = R := ⟨_, rfl⟩
        rw [hR] at cP hsR hnx
        simp only [List.length_cons, List.length_nil] at hsR
        have HNX := Lib.hid hnx
        have HR0 := Lib.hid hr0
        clear hpr hr0 hnx hR
        go_wp2_with (go_at_call 14; (with_reducible refine cP.mono ?_); rintro e w4 ⟨rfl, hB4⟩)
        go_roundw
        case rel => exact ⟨j + 1, hlt, by go_num, by first | rfl | rw [HNX.out], Lib.hid (HNJ.out HN.out HR0.out), hBr.trans (hB4.mono hBr.size)⟩
        case measure => simp [intOf]; omega
    · obtain rfl : j = L.length := by omega
      have hd : decide (L.length < L.length) = false := by simp
      rw [List.take_length] at hsX htl ⊢
      have hok : V.prt L = (V.text L, 0) := by
        have h1 := HN.out
        rw [List.take_length] at h1
        unfold V.prt
        rw [if_pos ((V.okRows_iff L).2 h1)]
      rw [HT.out] at hok
      injection hok with hT1 hT2
      subst hT1 hT2
      go_wp2
      go_ret
      exact ⟨rfl, hBr⟩
end csvRowsWalk
end Go.Proofs.Ytclnephomnkieaa
