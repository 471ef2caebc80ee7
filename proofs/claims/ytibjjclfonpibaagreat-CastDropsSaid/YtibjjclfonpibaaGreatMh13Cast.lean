/- The program's records: slices.EqualFunc (slots and values that fit; values that are the same). -/
import Derived.Test.YtibjjclfonpibaaGreatMh11Cast
import Derived.Test.YtibjjclfonpibaaGreatMh12Cast
import Derived.Test.YtibjjclfonpibaaGreatMh4Cast
import Derived.Test.YtibjjclfonpibaaGreatMh10Cast
set_option linter.unusedVariables false
set_option linter.unusedSimpArgs false
set_option maxRecDepth 100000
namespace Go.Proofs.YtibjjclfonpibaaGreat
open Go.RowKit Go.Shelf
set_option maxHeartbeats 4000000 in
theorem equalF_any (a b : Option Addr) (c d : Nat) (ls : List SlotM) (vs : List PV) (w : World) (hl : SlotRow w a c ls) (hv : PRow w b d vs) (hty : ∀ s ∈ ls, 0 ≤ s.ty) (hsz : ∀ v ∈ vs, szV v ≤ 1000000) (hsm : ls.length ≤ 100000) (hsv : vs.length ≤ 100000) (B : Bool) (hB : B = true ↔ ls.length = vs.length ∧ ∀ (i : Nat) (s : SlotM) (v : PV), ls[i]? = some s → vs[i]? = some v → (Sc.fits s.ty v) = true) :
    Calls Tryz.prog 65 #[.slice a ls.length c, .slice b vs.length d, .func (.func 54) #[] #[]] w fun e w' => e = .returned (.bool B) ∧ Below w.heap.size w w' := by
  have eg : ∀ args w, (callFunc 54 args).run Tryz.prog w = .ok (.enter 54 args) w := enters_of Tryz.func54 (by kernel_rfl) rfl
  by_cases hnm : ls.length = vs.length
  · obtain ⟨n, hn⟩ : ∃ n, ls.length = n := ⟨_, rfl⟩
    have hm : vs.length = n := by rw [← hnm, hn]
    have HL := Lib.hid hl; have HV := Lib.hid hv; have HN := Lib.hid hn; have HM := Lib.hid hm; have HB := Lib.hid hB; have HT := Lib.hid hty; have HS := Lib.hid hsz
    rw [hn] at hsm ⊢
    rw [hm]
    have hb : ((n : Int) != (n : Int)) = false := by simp
    clear hl hv hn hm hB hnm hsv hty hsz
    go_enter Tryz.func65, Tryz.ntmps65
    go_wp2
    go_loopw [17] (fun i wr => ∃ q : Nat, q ≤ n ∧ i = .int .i64 (q : Int) ∧ Below w.heap.size w wr ∧ Hid (∀ (j : Nat) (s : SlotM) (v : PV), j < q → ls[j]? = some s → vs[j]? = some v → (Sc.fits s.ty v) = true)) (fun i _ => n - (intOf i).toNat)
    case atStart => exact ⟨0, Nat.zero_le _, rfl, Below.refl _ _, Lib.hid (fun j s v hj => by omega)⟩
    case round =>
      obtain ⟨q, hq, rfl, hbw, HALL⟩ := hrel
      rcases Nat.lt_or_ge q n with hlt | hge
      · have hd : decide ((q : Int) < (n : Int)) = true := by simp; omega
        have hnl := HN.out
        have hvl := HM.out
        obtain ⟨s, hs⟩ : ∃ s, ls[q]? = some s := ⟨ls[q], List.getElem?_eq_getElem (by omega)⟩
        obtain ⟨v, hv⟩ : ∃ v, vs[q]? = some v := ⟨vs[q], List.getElem?_eq_getElem (by omega)⟩
        obtain ⟨sb, so, rfl, hrow⟩ : ∃ b off, a = some ⟨b, off, none⟩ ∧ ∀ i s, ls[i]? = some s → SlotAt w b (off + i * 7) s := by
          rcases HL.out.2.2 with h | h
          · subst h; simp at hnl; omega
          · exact h
        obtain ⟨k, nn, tx, la, ll, lc, ⟨g0, g1, g2, g3, g4, g5, g6⟩, hI, hsn, hdf⟩ := slotAt_form (hrow q s hs)
        have y0 := cell_below hbw g0
        have y1 := cell_below hbw g1
        have y2 := cell_below hbw g2
        have y3 := cell_below hbw g3
        have y4 := cell_below hbw g4
        have y5 := cell_below hbw g5
        have y6 := cell_below hbw g6
        obtain ⟨vb, vo, vk, vn, vt, va, vll, vc, rfl, ⟨u0, u1, u2, u3⟩, hvI⟩ := pRow_val HV.out hv
        have hBw := hbw.alloc hbw.size (.cells #[.string s.nm, .int .i64 s.ty, .bool s.rq, .int .i64 k, .int .i64 nn, .string tx, .slice la ll lc] 44)
        have hBv := hBw.alloc hBw.size (.cells #[.int .i64 vk, .int .i64 vn, .string vt, .slice va vll vc] 42)
        have z0 := cell_below hBw u0
        have z1 := cell_below hBw u1
        have z2 := cell_below hBw u2
        have z3 := cell_below hBw u3
        obtain ⟨bf, hbf⟩ : ∃ bf, (Sc.fits s.ty v) = bf := ⟨_, rfl⟩
        have HX := Lib.hid (fits_any s v (HS.out v (List.mem_of_getElem? hv)) (HT.out s (List.mem_of_getElem? hs)) _ _ _ (isSlot_below hBv ⟨_, _, _, _, _, _, _, rfl, hsn, hI, rfl, rfl, rfl, hdf⟩) (is_below hBv _ _ hvI))
        have hgood : bf = true → ∀ (j : Nat) (s : SlotM) (v : PV), j < q + 1 → ls[j]? = some s → vs[j]? = some v → (Sc.fits s.ty v) = true := fun h1 j s' v' hj h2 h3 => by
          rcases Nat.lt_or_ge j q with h | h
          · exact HALL.out j s' v' h h2 h3
          · obtain rfl : j = q := by omega
            rw [hs] at h2; rw [hv] at h3
            cases h2; cases h3
            rw [hbf]; exact h1
        have hbad : bf = false → B = false := fun h1 => by
          cases B with
          | false => rfl
          | true =>
            have := (HB.out.1 rfl).2 q s v hs hv
            rw [hbf, h1] at this
            exact this.symm
        have HGOOD := Lib.hid hgood; have HBAD := Lib.hid hbad
        rw [hbf] at HX
        clear hgood hbad hbf hs hv u0 u1 u2 u3 hvI hnl hvl hrow g0 g1 g2 g3 g4 g5 g6 hdf hI hsn
        cases bf with
        | false =>
          have hB0 := HBAD.out rfl
          go_wp2_with (first
            | (go_at_fn 54; (with_reducible refine (HX.out).mono ?_); rintro e w1 ⟨rfl, hB1⟩))
          go_ret
          exact ⟨ret_bool hB0.symm, hBv.trans (hB1.mono hBv.size)⟩
        | true =>
          have hG0 := Lib.hid (HGOOD.out rfl)
          go_wp2_with (first
            | (go_at_fn 54; (with_reducible refine (HX.out).mono ?_); rintro e w1 ⟨rfl, hB1⟩))
          go_roundw
          case rel => exact ⟨q + 1, by omega, by go_num, hBv.trans (hB1.mono hBv.size), hG0⟩
          case measure => simp [intOf]; omega
      · obtain rfl : q = n := by omega
        have hd : decide ((q : Int) < (q : Int)) = false := by simp
        have hBt : B = true := HB.out.2 ⟨by rw [HN.out, HM.out], fun i s v h1 h2 => HALL.out i s v (by have h3 := (List.getElem?_eq_some_iff.1 h1).1; have h4 := HN.out; omega) h1 h2⟩
        go_wp2
        go_ret
        exact ⟨ret_bool hBt.symm, hbw⟩
  · have hB0 : B = false := by
      cases B with
      | false => rfl
      | true => exact absurd (hB.1 rfl).1 hnm
    have hb : ((ls.length : Int) != (vs.length : Int)) = true := by simp only [bne_iff_ne, ne_eq]; omega
    obtain ⟨n, hn⟩ : ∃ n, ls.length = n := ⟨_, rfl⟩
    obtain ⟨m, hm⟩ : ∃ m, vs.length = m := ⟨_, rfl⟩
    rw [hn, hm] at hb ⊢
    clear hl hv hnm hB hn hm
    go_enter Tryz.func65, Tryz.ntmps65
    go_wp2
    go_ret
    exact ⟨ret_bool hB0.symm, Below.refl _ _⟩
end Go.Proofs.YtibjjclfonpibaaGreat
