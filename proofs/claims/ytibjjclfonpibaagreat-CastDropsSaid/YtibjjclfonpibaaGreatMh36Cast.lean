/- The program's cast: copies and turned. (Made by gen_cat.py.) -/
import Derived.Test.YtibjjclfonpibaaGreatMh11Cast
import Derived.Test.YtibjjclfonpibaaGreatMh32Cast
import Derived.Test.YtibjjclfonpibaaGreatMh31Cast
import Derived.Test.YtibjjclfonpibaaGreatMh28Cast
import Derived.Test.YtibjjclfonpibaaGreatMh12Cast
import Derived.Test.YtibjjclfonpibaaGreatMh26Cast
import Derived.Test.YtibjjclfonpibaaGreatMh35Cast
set_option linter.unusedVariables false
set_option linter.unusedSimpArgs false
set_option maxRecDepth 100000
namespace Go.Proofs.YtibjjclfonpibaaGreat
open Go.RowKit Go.Shelf
theorem caNew (w : World) (o : Obj) : Below w.heap.size w (w.alloc o) := (Below.refl _ w).alloc (Nat.le_refl _) o
set_option maxHeartbeats 4000000 in
theorem caCopies_any (a : Option Addr) (cap : Nat) (ls : List PV) (w : World) (hl : PRow w a cap ls) (hsm : ls.length ≤ 1000) (hvs : ∀ v ∈ ls, small v) :
    Calls Tryz.prog 75 #[.slice a ls.length cap] w fun e w' => (∃ X, e = .returned X ∧ Made w.heap.size w' ls X) ∧ Below w.heap.size w w' := by
  obtain ⟨M, hM, hmk⟩ := made_make ls.length (by omega) w
  have hst := ginv_start (w := w) (M := M) (vs := ls) hM
  obtain ⟨n, hn⟩ : ∃ n, ls.length = n := ⟨_, rfl⟩
  have HST := Lib.hid hst; have HL := Lib.hid hl; have HVS := Lib.hid hvs; have HN := Lib.hid hn
  rw [hn] at hmk hsm ⊢
  clear hst hl hvs hn hM
  go_enter Tryz.func75, Tryz.ntmps75
  go_wp2
  go_loopw [11] (fun i wr => ∃ q : Nat, q ≤ n ∧ i = .int .i64 (q : Int) ∧ GInv w w.heap.size ls q wr) (fun i _ => n - (intOf i).toNat)
  case atStart => exact ⟨0, Nat.zero_le _, rfl, HST.out⟩
  case round =>
    obtain ⟨q, hq, rfl, hinv⟩ := hrel
    rcases Nat.lt_or_ge q n with hlt | hge
    · have hd : decide ((q : Int) < (n : Int)) = true := by simp; omega
      have hnl := HN.out
      obtain ⟨v, hv⟩ : ∃ v, ls[q]? = some v := ⟨ls[q], List.getElem?_eq_getElem (by omega)⟩
      obtain ⟨sb, so, k, nn, tx, la, ll, lc, rfl, ⟨g0, g1, g2, g3⟩, hdf⟩ := pRow_val HL.out hv
      have hBw := hinv.1.alloc hinv.1.size (.cells #[.int .i64 k, .int .i64 nn, .string tx, .slice la ll lc] 42)
      have y0 := cell_below hinv.1 g0
      have y1 := cell_below hinv.1 g1
      have y2 := cell_below hinv.1 g2
      have y3 := cell_below hinv.1 g3
      have hC := copy_any v (HVS.out v (List.mem_of_getElem? hv)) _ _ (is_below hBw _ _ hdf)
      obtain ⟨vk, vn, vt, vl, rfl⟩ : ∃ k n t l, v = .mk k n t l := by cases v; exact ⟨_, _, _, _, rfl⟩
      have HC := Lib.hid hC; have HV := Lib.hid hv; have HI := Lib.hid hinv
      have hqv : q < ls.length := by omega
      have HQV := Lib.hid hqv
      obtain ⟨G, hGG⟩ : ∃ G, w.heap.size = G := ⟨_, rfl⟩
      have hGlt : G < wr.heap.size := by
        obtain ⟨_, _, C, hC1, _⟩ := hinv
        rw [hGG] at hC1
        exact vat_lt hC1
      rw [hGG] at HI ⊢
      have HGlt := Lib.hid hGlt
      clear hC hv hinv hnl hqv hGG hGlt g0 g1 g2 g3 hdf hBw
      go_wp2_with (first
        | (go_at_call 64; (with_reducible refine (HC.out).mono ?_); rintro e w2 ⟨x', rfl, hB2, hfr, xa, rfl, hxa⟩; have hB9 := ((Below.refl _ wr).alloc (Nat.le_refl _) _).trans (hB2.mono (by simp)); obtain ⟨x0, x1, x2, x3, ⟨p0, p1, p2, p3⟩, f0, f1, f2, f3⟩ := ginv_cells HI.out HQV.out hB9))
      have hbs := hB9.size
      go_roundw
      case rel => exact ⟨q + 1, by omega, by go_num, ginv_step HI.out HV.out hB9 (by have := HGlt.out; have h7 := World.size_alloc wr (.cells #[.int .i64 k, .int .i64 nn, .string tx, .slice la ll lc] 42); omega) ⟨hfr, xa, rfl, hxa⟩⟩
      case measure => simp [intOf]; omega
    · obtain rfl : q = n := by omega
      have hd : decide ((q : Int) < (q : Int)) = false := by simp
      have HI := Lib.hid hinv
      have HE := Lib.hid HN.out.symm
      clear hinv
      go_wp2
      go_ret
      have hi := HI.out
      rw [HE.out] at hi ⊢
      exact ⟨⟨_, rfl, (ginv_end hi).1⟩, (ginv_end hi).2⟩
/-- a row of values in the making: its values' lists lie where they lay -/
def TInv (w w0 : World) (g : Nat) (vs : List PV) (q : Nat) (wr : World) : Prop := Below w.heap.size w wr ∧ w.heap.size ≤ g ∧ ∃ C, VAt wr g C ∧ C.size = vs.length * 4 ∧
  ∀ i y, i < q → vs[i]? = some y → ∃ c0 c1 c2 c3, C[i * 4]? = some c0 ∧ C[i * 4 + 1]? = some c1 ∧ C[i * 4 + 2]? = some c2 ∧ C[i * 4 + 3]? = some c3 ∧ Is w0 y (.agg #[c0, c1, c2, c3])
theorem tinv_start {w w0 : World} {M : Array Value} {vs : List PV} (hM : M.size = vs.length * 4) : TInv w w0 w.heap.size vs 0 (w.alloc (.cells M 42)) :=
  ⟨(Below.refl _ w).alloc (Nat.le_refl _) _, Nat.le_refl _, M, vat_alloc _ _, hM, fun i y hi => absurd hi (Nat.not_lt_zero i)⟩
theorem tinv_cells {w w0 : World} {g : Nat} {vs : List PV} {q : Nat} {wr w2 : World} (h : TInv w w0 g vs q wr) (hq : q < vs.length) (hb : Below wr.heap.size wr w2) :
    ∃ x0 x1 x2 x3, (w2.cell? ⟨g, q * 4, none⟩ = some x0 ∧ w2.cell? ⟨g, q * 4 + 1, none⟩ = some x1 ∧ w2.cell? ⟨g, q * 4 + 2, none⟩ = some x2 ∧ w2.cell? ⟨g, q * 4 + 3, none⟩ = some x3) ∧
      (w2.frozen? ⟨g, q * 4, none⟩ = false ∧ w2.frozen? ⟨g, q * 4 + 1, none⟩ = false ∧ w2.frozen? ⟨g, q * 4 + 2, none⟩ = false ∧ w2.frozen? ⟨g, q * 4 + 3, none⟩ = false) := by
  obtain ⟨h1, h2, C, hv, hC, _⟩ := h
  have hv2 : w2.heap[g]? = some (.cells C 42 (0, 0)) := vat_below hb hv
  refine ⟨C[q * 4]'(by omega), C[q * 4 + 1]'(by omega), C[q * 4 + 2]'(by omega), C[q * 4 + 3]'(by omega), ⟨?_, ?_, ?_, ?_⟩, ?_, ?_, ?_, ?_⟩ <;> simp [World.cell?, World.frozen?, hv2] <;> omega
theorem tinv_step {w w0 : World} {g : Nat} {vs : List PV} {q : Nat} {wr w2 : World} {y : PV} {d0 d1 d2 d3 : Value} (h : TInv w w0 g vs q wr) (hy : vs[q]? = some y) (hb : Below wr.heap.size wr w2) (hc : Is w0 y (.agg #[d0, d1, d2, d3])) :
    TInv w w0 g vs (q + 1) ((((w2.setCell ⟨g, q * 4, none⟩ d0).setCell ⟨g, q * 4 + 1, none⟩ d1).setCell ⟨g, q * 4 + 2, none⟩ d2).setCell ⟨g, q * 4 + 3, none⟩ d3) := by
  obtain ⟨h1, h2, C, hv, hC, he⟩ := h
  have hq := (List.getElem?_eq_some_iff.1 hy).1
  have hv2 := vat_below hb hv
  refine ⟨below_set4 (h1.trans (hb.mono h1.size)) h2 _ _ _ _ _ _ _ _, h2, _, vat_set (vat_set (vat_set (vat_set hv2 _ d0) _ d1) _ d2) _ d3, by simpa using hC, fun i z hi hz => ?_⟩
  have hn := fun j => set4_nth C (q * 4) j d0 d1 d2 d3 (by omega)
  rcases Nat.lt_or_ge i q with hlt | hge
  · obtain ⟨c0, c1, c2, c3, q0, q1, q2, q3, hcc⟩ := he i z hlt hz
    refine ⟨c0, c1, c2, c3, ?_, ?_, ?_, ?_, hcc⟩
    · rw [hn, if_neg (by omega), if_neg (by omega), if_neg (by omega), if_neg (by omega), q0]
    · rw [hn, if_neg (by omega), if_neg (by omega), if_neg (by omega), if_neg (by omega), q1]
    · rw [hn, if_neg (by omega), if_neg (by omega), if_neg (by omega), if_neg (by omega), q2]
    · rw [hn, if_neg (by omega), if_neg (by omega), if_neg (by omega), if_neg (by omega), q3]
  · obtain rfl : i = q := by omega
    rw [hy] at hz
    cases hz
    refine ⟨d0, d1, d2, d3, ?_, ?_, ?_, ?_, hc⟩
    · rw [hn, if_pos rfl]
    · rw [hn, if_neg (by omega), if_pos rfl]
    · rw [hn, if_neg (by omega), if_neg (by omega), if_pos rfl]
    · rw [hn, if_neg (by omega), if_neg (by omega), if_neg (by omega), if_pos rfl]
theorem tinv_end {w w0 : World} {g : Nat} {vs : List PV} {wr : World} (h : TInv w w0 g vs vs.length wr) (h0 : Below w0.heap.size w0 w) (hl : vs.length ≤ 1000) : PRow wr (some ⟨g, 0, none⟩) vs.length vs ∧ Below w.heap.size w wr := by
  obtain ⟨h1, h2, C, hv, hC, he⟩ := h
  have hC' : C.toList.length = vs.length * 4 := by simpa using hC
  have hcells : VCells w0 vs C.toList := by
    have hc4 : ∀ (i : Nat) (v : PV), vs[i]? = some v → ∃ c0 c1 c2 c3, (C.toList[i * 4]? = some c0 ∧ C.toList[i * 4 + 1]? = some c1 ∧ C.toList[i * 4 + 2]? = some c2 ∧ C.toList[i * 4 + 3]? = some c3) ∧ Is w0 v (.agg #[c0, c1, c2, c3]) := fun i v hi => by
      obtain ⟨c0, c1, c2, c3, q0, q1, q2, q3, hI⟩ := he i v (List.getElem?_eq_some_iff.1 hi).1 hi
      exact ⟨c0, c1, c2, c3, ⟨by rwa [Array.getElem?_toList], by rwa [Array.getElem?_toList], by rwa [Array.getElem?_toList], by rwa [Array.getElem?_toList]⟩, hI⟩
    refine ⟨hC', fun u hu => ?_, hc4⟩
    obtain ⟨j, hj⟩ := List.getElem?_of_mem hu
    have hjl := (List.getElem?_eq_some_iff.1 hj).1
    obtain ⟨v, hvv⟩ : ∃ v, vs[j / 4]? = some v := ⟨_, List.getElem?_eq_getElem (by omega)⟩
    obtain ⟨c0, c1, c2, c3, ⟨q0, q1, q2, q3⟩, hI⟩ := hc4 (j / 4) v hvv
    have ho := is_one hI
    have hm : j % 4 = 0 ∨ j % 4 = 1 ∨ j % 4 = 2 ∨ j % 4 = 3 := by omega
    rcases hm with hm | hm | hm | hm
    · rw [show j = j / 4 * 4 by omega, q0] at hj; cases hj; exact ho.1
    · rw [show j = j / 4 * 4 + 1 by omega, q1] at hj; cases hj; exact ho.2.1
    · rw [show j = j / 4 * 4 + 2 by omega, q2] at hj; cases hj; exact ho.2.2.1
    · rw [show j = j / 4 * 4 + 3 by omega, q3] at hj; cases hj; exact ho.2.2.2
  have hown : wr.ownsRow w.heap.size 42 4 (.slice (some ⟨g, 0, none⟩) vs.length vs.length) vs.length C.toList :=
    ⟨hC', .inr ⟨g, vs.length, C, rfl, h2, hv, Nat.le_refl _, by unfold maxLen; omega, hC, by rw [List.take_of_length_le (by omega)]⟩⟩
  obtain ⟨a, cap, e, hp⟩ := own_isL hown hcells (h0.trans (h1.mono h0.size))
  injection e with e1 e2 e3
  subst e1
  subst e3
  exact ⟨hp, h1⟩
theorem caSeven {W : World} {b : Nat} {u0 u1 u2 u3 u4 u5 u6 : Value} {t : TypeId} (h : W.heap[b]? = some (.cells #[u0, u1, u2, u3, u4, u5, u6] t (0, 0))) : W.cell? ⟨b, 0, none⟩ = some u0 ∧ W.cell? ⟨b, 1, none⟩ = some u1 ∧ W.cell? ⟨b, 2, none⟩ = some u2 ∧ W.cell? ⟨b, 3, none⟩ = some u3 ∧ W.cell? ⟨b, 4, none⟩ = some u4 ∧ W.cell? ⟨b, 5, none⟩ = some u5 ∧ W.cell? ⟨b, 6, none⟩ = some u6 := by
  refine ⟨?_, ?_, ?_, ?_, ?_, ?_, ?_⟩ <;> simp [World.cell?, h]
theorem caSlot_at {W : World} {a : Option Addr} {cap : Nat} {l : List SlotM} (h : SlotRow W a cap l) {i : Nat} {s : SlotM} (hs : l[i]? = some s) : ∃ b off, a = some ⟨b, off, none⟩ ∧ SlotAt W b (off + i * 7) s := by
  rcases h.2.2 with h3 | ⟨b, off, ha, hc⟩
  · subst h3; simp at hs
  · exact ⟨b, off, ha, hc i s hs⟩
set_option maxHeartbeats 8000000 in
theorem caTurned_any (x : Sc.Ver) (sa : Option Addr) (sc : Nat) (ca : Option Addr) (cc : Nat) (a : Option Addr) (cap : Nat) (l : List PV) (w : World) (hv : VerAt w x sa sc ca cc) (hl : PRow w a cap l) (hok : ∀ s ∈ x.slots, Sc.SlotOk s) (hsm : x.slots.length ≤ 100) (hll : l.length ≤ 1000) (hsz : ∀ v ∈ l, szV v ≤ 1000000) :
    Calls Tryz.prog 77 #[.slice a l.length cap, .agg #[.slice sa x.slots.length sc, .slice ca x.cols.length cc]] w fun e w' => (∃ g, e = .returned (.slice (some ⟨g, 0, none⟩) x.slots.length x.slots.length) ∧ PRow w' (some ⟨g, 0, none⟩) x.slots.length (Ca.turnL x.slots l)) ∧ Below w.heap.size w w' := by
  obtain ⟨n, hn⟩ : ∃ n, x.slots.length = n := ⟨_, rfl⟩
  have hA1 := caNew w (.cells #[.slice sa n sc, .slice ca x.cols.length cc] 67)
  have hY := heap_self9 w (.cells #[.slice sa n sc, .slice ca x.cols.length cc] 67)
  obtain ⟨M, hM, hmk⟩ := made_make n (by omega) (w.alloc (.cells #[.slice sa n sc, .slice ca x.cols.length cc] 67))
  have hvl : (Ca.turnL x.slots l).length = n := by rw [Ca.turnL_length, hn]
  have hst := tinv_start (w := w.alloc (.cells #[.slice sa n sc, .slice ca x.cols.length cc] 67)) (w0 := w) (M := M) (vs := Ca.turnL x.slots l) (by rw [hM, hvl])
  obtain ⟨m, hm⟩ : ∃ m, l.length = m := ⟨_, rfl⟩
  obtain ⟨cl, hcl⟩ : ∃ c, x.cols.length = c := ⟨_, rfl⟩
  have hFt := fitsC
  have HST := Lib.hid hst; have HL := Lib.hid hl; have HV := Lib.hid hv; have HN := Lib.hid hn; have HM := Lib.hid hm; have HVL := Lib.hid hvl; have HF := Lib.hid hFt; have HOK := Lib.hid hok; have HSZ := Lib.hid hsz
  rw [hn, hm]
  rw [hn] at hsm
  rw [hm] at hll
  rw [hcl] at hY hmk hA1 HST ⊢
  clear hst hl hv hn hm hM hvl hFt hok hsz hcl
  go_enter Tryz.func77, Tryz.ntmps77
  obtain ⟨y0, y1, y2, y3⟩ := two_all hY
  go_wp2
  obtain ⟨w1, hw1⟩ : ∃ U, w.alloc (.cells #[.slice sa n sc, .slice ca cl cc] 67) = U := ⟨_, rfl⟩
  have hy0 := cell_below (caNew (w.alloc (.cells #[.slice sa n sc, .slice ca cl cc] 67)) (.cells M 42)) y0
  have hw1s : w1.heap.size = w.heap.size + 1 := by rw [← hw1]; simp
  rw [hw1] at HST hA1 hy0 y0 y1 ⊢
  rw [hw1s] at HST
  obtain ⟨g, hg⟩ : ∃ g, w.heap.size + 1 = g := ⟨_, rfl⟩
  rw [hg] at HST ⊢
  have HW1S := Lib.hid hw1s
  clear hw1s hg
  go_loopw [15] (fun i wr => ∃ q : Nat, q ≤ n ∧ i = .int .i64 (q : Int) ∧ TInv w1 w g (Ca.turnL x.slots l) q wr) (fun i _ => n - (intOf i).toNat)
  case atStart => exact ⟨0, Nat.zero_le _, rfl, HST.out⟩
  case round =>
    obtain ⟨q, hq, rfl, hinv⟩ := hrel
    obtain ⟨wj, hwj⟩ : ∃ x, x = wr := ⟨_, rfl⟩
    subst hwj
    have hbw := hA1.trans (hinv.1.mono hA1.size)
    rcases Nat.lt_or_ge q n with hlt | hge
    · have hd : decide ((q : Int) < (n : Int)) = true := by simp; omega
      have hqn : (q : Int) < (n : Int) := by omega
      have hnl := HN.out
      have hml := HM.out
      obtain ⟨s, hs⟩ : ∃ s, x.slots[q]? = some s := ⟨x.slots[q], List.getElem?_eq_getElem (by omega)⟩
      obtain ⟨sb, so, rfl, hss⟩ := caSlot_at (HV.out).1 hs
      obtain ⟨k, nn, tx, la, ll, lc, ⟨g0, g1, g2, g3, g4, g5, g6⟩, hI, hsn, hdf⟩ := slotAt_form hss
      have hsok := HOK.out s (List.mem_of_getElem? hs)
      have hty : 0 ≤ s.ty := by have := hsok.1; omega
      have z0 := cell_below hbw g0
      have z1 := cell_below hbw g1
      have z2 := cell_below hbw g2
      have z3 := cell_below hbw g3
      have z4 := cell_below hbw g4
      have z5 := cell_below hbw g5
      have z6 := cell_below hbw g6
      have htv : (Ca.turnL x.slots l)[q]? = some (Ca.oneV s l[q]?) := by rw [Ca.turnL_at, hs]; rfl
      have hqv : q < (Ca.turnL x.slots l).length := by rw [HVL.out]; exact hlt
      have hSl : ∀ W, Below wj.heap.size wj W → IsSlot W s (.agg #[.string s.nm, .int .i64 s.ty, .bool s.rq, .int .i64 k, .int .i64 nn, .string tx, .slice la ll lc]) := fun W hb => isSlot_below (hbw.trans (hb.mono hbw.size)) ⟨_, _, _, _, _, _, _, rfl, hsn, hI, rfl, rfl, rfl, hdf⟩
      have HSL := Lib.hid hSl; have HTV := Lib.hid htv; have HQV := Lib.hid hqv; have HDF := Lib.hid hdf; have HINV := Lib.hid hinv; have HSN := Lib.hid hsn
      clear hSl htv hqv hdf hinv hss hI g0 g1 g2 g3 g4 g5 g6 hsok hsn hs hnl
      have hyj := cell_below HINV.out.1 y0
      rcases Nat.lt_or_ge q m with hqm | hqm
      · have hd2 : decide ((q : Int) < (m : Int)) = true := by simp; omega
        have hd2n : decide (q < m) = true := by simp; omega
        have hqmi : (q : Int) < (m : Int) := by omega
        obtain ⟨v, hvv⟩ : ∃ v, l[q]? = some v := ⟨l[q], List.getElem?_eq_getElem (by omega)⟩
        obtain ⟨vb, vo, vk, vn, vt, va, vll, vc, rfl, ⟨p0, p1, p2, p3⟩, hvI⟩ := pRow_val HL.out hvv
        have u0 := cell_below hbw p0
        have u1 := cell_below hbw p1
        have u2 := cell_below hbw p2
        have u3 := cell_below hbw p3
        obtain ⟨B, hB⟩ : ∃ B, Sc.fits s.ty v = B := ⟨_, rfl⟩
        have hFits : ∀ W, Below wj.heap.size wj W → Calls Tryz.prog 54 #[.agg #[.string s.nm, .int .i64 s.ty, .bool s.rq, .int .i64 k, .int .i64 nn, .string tx, .slice la ll lc], .agg #[.int .i64 vk, .int .i64 vn, .string vt, .slice va vll vc]] W fun e w' => e = .returned (.bool B) ∧ Below W.heap.size W w' := fun W hb => by
          have h := HF.out s v W _ _ (HSZ.out v (List.mem_of_getElem? hvv)) hty (HSL.out W hb) (is_below (hbw.trans (hb.mono hbw.size)) _ _ hvI)
          rw [hB] at h; exact h
        have hone : Ca.oneV s l[q]? = if B = true then v else s.df := by rw [hvv, ← hB]; rfl
        have HFt := Lib.hid hFits; have HVI := Lib.hid hvI; have HONE := Lib.hid hone
        clear hFits hvI hone hB hvv p0 p1 p2 p3 hml
        cases B with
        | true =>
          have htv2 : Hid ((Ca.turnL x.slots l)[q]? = some v) := Lib.hid (by rw [HTV.out, HONE.out]; rfl)
          go_wp2
          obtain ⟨W0, hW0⟩ : ∃ U, wj.alloc (.cells #[.string s.nm, .int .i64 s.ty, .bool s.rq, .int .i64 k, .int .i64 nn, .string tx, .slice la ll lc] 44) = U := ⟨_, rfl⟩
          have hBA := caNew wj (.cells #[.string s.nm, .int .i64 s.ty, .bool s.rq, .int .i64 k, .int .i64 nn, .string tx, .slice la ll lc] 44)
          have hbx := heap_self9 wj (.cells #[.string s.nm, .int .i64 s.ty, .bool s.rq, .int .i64 k, .int .i64 nn, .string tx, .slice la ll lc] 44)
          rw [hW0] at hBA hbx ⊢
          clear hW0
          obtain ⟨b0, b1, b2, b3, b4, b5, b6⟩ := caSeven hbx
          have uu0 := cell_below hBA u0
          have uu1 := cell_below hBA u1
          have uu2 := cell_below hBA u2
          have uu3 := cell_below hBA u3
          refine wp_region_quiet (C := fun W => Below W0.heap.size W0 W) (by kernel_rfl) (by kernel_rfl) (below_drew W0) ?_
          iterate 12 (first
            | ((with_reducible refine BigFrame.wpQuiet_skip ?_ ?_); (focus rfl); simp only [Act.put, List.setIfInBounds_toArray, List.set_cons_zero, List.set_cons_succ])
            | ((with_reducible refine BigFrame.wpQuiet_want ?_ (fun K hK => ?_))
               focus rfl
               apply quiet_run9
               · intro W hC
                 unfold Oper.quietAt
                 have HC := Lib.hid hC
                 have s0 := cell_below hC b0
                 have s1 := cell_below hC b1
                 have s2 := cell_below hC b2
                 have s3 := cell_below hC b3
                 have s4 := cell_below hC b4
                 have s5 := cell_below hC b5
                 have s6 := cell_below hC b6
                 have t0 := cell_below hC uu0
                 have t1 := cell_below hC uu1
                 have t2 := cell_below hC uu2
                 have t3 := cell_below hC uu3
                 clear hC
                 go_simp
                 first
                   | done
                   | with_reducible rfl
                   | ((with_reducible refine (HFt.out _ (hBA.trans (Below.mono HC.out hBA.size))).mono ?_); exact fun e w' ⟨he, hb⟩ => ⟨he, HC.out.trans (hb.mono HC.out.size)⟩)
               (with_reducible refine hK _ ?_); clear hK K; simp only [Act.put, List.setIfInBounds_toArray, List.set_cons_zero, List.set_cons_succ]))
          refine wpQuiet_nil ?_
          intro W9 hB9
          (try simp only at hB9)
          have hB0 := hBA.trans (hB9.mono hBA.size)
          obtain ⟨x0, x1, x2, x3, ⟨m0, m1, m2, m3⟩, f0, f1, f2, f3⟩ := tinv_cells HINV.out HQV.out hB0
          have r0 := cell_below hB9 b3
          have r1 := cell_below hB9 b4
          have r2 := cell_below hB9 b5
          have r3 := cell_below hB9 b6
          (try have v0 := cell_below hB0 u0)
          (try have v1 := cell_below hB0 u1)
          (try have v2 := cell_below hB0 u2)
          (try have v3 := cell_below hB0 u3)
          go_wp2_with fail
          go_roundw
          case rel => exact ⟨q + 1, by omega, by go_num, tinv_step HINV.out htv2.out hB0 HVI.out⟩
          case measure => simp [intOf]; omega
        | false =>
          have htv2 : Hid ((Ca.turnL x.slots l)[q]? = some s.df) := Lib.hid (by rw [HTV.out, HONE.out]; rfl)
          go_wp2
          obtain ⟨W0, hW0⟩ : ∃ U, wj.alloc (.cells #[.string s.nm, .int .i64 s.ty, .bool s.rq, .int .i64 k, .int .i64 nn, .string tx, .slice la ll lc] 44) = U := ⟨_, rfl⟩
          have hBA := caNew wj (.cells #[.string s.nm, .int .i64 s.ty, .bool s.rq, .int .i64 k, .int .i64 nn, .string tx, .slice la ll lc] 44)
          have hbx := heap_self9 wj (.cells #[.string s.nm, .int .i64 s.ty, .bool s.rq, .int .i64 k, .int .i64 nn, .string tx, .slice la ll lc] 44)
          rw [hW0] at hBA hbx ⊢
          clear hW0
          obtain ⟨b0, b1, b2, b3, b4, b5, b6⟩ := caSeven hbx
          have uu0 := cell_below hBA u0
          have uu1 := cell_below hBA u1
          have uu2 := cell_below hBA u2
          have uu3 := cell_below hBA u3
          refine wp_region_quiet (C := fun W => Below W0.heap.size W0 W) (by kernel_rfl) (by kernel_rfl) (below_drew W0) ?_
          iterate 12 (first
            | ((with_reducible refine BigFrame.wpQuiet_skip ?_ ?_); (focus rfl); simp only [Act.put, List.setIfInBounds_toArray, List.set_cons_zero, List.set_cons_succ])
            | ((with_reducible refine BigFrame.wpQuiet_want ?_ (fun K hK => ?_))
               focus rfl
               apply quiet_run9
               · intro W hC
                 unfold Oper.quietAt
                 have HC := Lib.hid hC
                 have s0 := cell_below hC b0
                 have s1 := cell_below hC b1
                 have s2 := cell_below hC b2
                 have s3 := cell_below hC b3
                 have s4 := cell_below hC b4
                 have s5 := cell_below hC b5
                 have s6 := cell_below hC b6
                 have t0 := cell_below hC uu0
                 have t1 := cell_below hC uu1
                 have t2 := cell_below hC uu2
                 have t3 := cell_below hC uu3
                 clear hC
                 go_simp
                 first
                   | done
                   | with_reducible rfl
                   | ((with_reducible refine (HFt.out _ (hBA.trans (Below.mono HC.out hBA.size))).mono ?_); exact fun e w' ⟨he, hb⟩ => ⟨he, HC.out.trans (hb.mono HC.out.size)⟩)
               (with_reducible refine hK _ ?_); clear hK K; simp only [Act.put, List.setIfInBounds_toArray, List.set_cons_zero, List.set_cons_succ]))
          refine wpQuiet_nil ?_
          intro W9 hB9
          (try simp only at hB9)
          have hB0 := hBA.trans (hB9.mono hBA.size)
          obtain ⟨x0, x1, x2, x3, ⟨m0, m1, m2, m3⟩, f0, f1, f2, f3⟩ := tinv_cells HINV.out HQV.out hB0
          have r0 := cell_below hB9 b3
          have r1 := cell_below hB9 b4
          have r2 := cell_below hB9 b5
          have r3 := cell_below hB9 b6
          (try have v0 := cell_below hB0 u0)
          (try have v1 := cell_below hB0 u1)
          (try have v2 := cell_below hB0 u2)
          (try have v3 := cell_below hB0 u3)
          go_wp2_with fail
          go_roundw
          case rel => exact ⟨q + 1, by omega, by go_num, tinv_step HINV.out htv2.out hB0 HDF.out⟩
          case measure => simp [intOf]; omega
      · have hd2 : decide ((q : Int) < (m : Int)) = false := by simp; omega
        have hd2n : decide (q < m) = false := by simp; omega
        have htv2 : Hid ((Ca.turnL x.slots l)[q]? = some s.df) := Lib.hid (by rw [HTV.out, List.getElem?_eq_none (by omega)]; rfl)
        clear hml
        go_wp2
        obtain ⟨W0, hW0⟩ : ∃ U, wj.alloc (.cells #[.string s.nm, .int .i64 s.ty, .bool s.rq, .int .i64 k, .int .i64 nn, .string tx, .slice la ll lc] 44) = U := ⟨_, rfl⟩
        have hBA := caNew wj (.cells #[.string s.nm, .int .i64 s.ty, .bool s.rq, .int .i64 k, .int .i64 nn, .string tx, .slice la ll lc] 44)
        have hbx := heap_self9 wj (.cells #[.string s.nm, .int .i64 s.ty, .bool s.rq, .int .i64 k, .int .i64 nn, .string tx, .slice la ll lc] 44)
        rw [hW0] at hBA hbx ⊢
        clear hW0
        obtain ⟨b0, b1, b2, b3, b4, b5, b6⟩ := caSeven hbx
        refine wp_region_quiet (C := fun W => Below W0.heap.size W0 W) (by kernel_rfl) (by kernel_rfl) (below_drew W0) ?_
        iterate 12 (first
          | ((with_reducible refine BigFrame.wpQuiet_skip ?_ ?_); (focus rfl); simp only [Act.put, List.setIfInBounds_toArray, List.set_cons_zero, List.set_cons_succ])
          | ((with_reducible refine BigFrame.wpQuiet_want ?_ (fun K hK => ?_))
             focus rfl
             apply quiet_run9
             · intro W hC
               unfold Oper.quietAt
               have HC := Lib.hid hC
               have s0 := cell_below hC b0
               have s1 := cell_below hC b1
               have s2 := cell_below hC b2
               have s3 := cell_below hC b3
               have s4 := cell_below hC b4
               have s5 := cell_below hC b5
               have s6 := cell_below hC b6
               clear hC
               go_simp
               first
                 | done
                 | with_reducible rfl
                 | fail
             (with_reducible refine hK _ ?_); clear hK K; simp only [Act.put, List.setIfInBounds_toArray, List.set_cons_zero, List.set_cons_succ]))
        refine wpQuiet_nil ?_
        intro W9 hB9
        (try simp only at hB9)
        have hB0 := hBA.trans (hB9.mono hBA.size)
        obtain ⟨x0, x1, x2, x3, ⟨m0, m1, m2, m3⟩, f0, f1, f2, f3⟩ := tinv_cells HINV.out HQV.out hB0
        have r0 := cell_below hB9 b3
        have r1 := cell_below hB9 b4
        have r2 := cell_below hB9 b5
        have r3 := cell_below hB9 b6
        (try have v0 := cell_below hB0 u0)
        (try have v1 := cell_below hB0 u1)
        (try have v2 := cell_below hB0 u2)
        (try have v3 := cell_below hB0 u3)
        go_wp2_with fail
        go_roundw
        case rel => exact ⟨q + 1, by omega, by go_num, tinv_step HINV.out htv2.out hB0 HDF.out⟩
        case measure => simp [intOf]; omega
    · obtain rfl : q = n := by omega
      have hd : decide ((q : Int) < (q : Int)) = false := by simp
      have HI := Lib.hid hinv
      clear hinv
      go_wp2
      go_ret
      have hi := HI.out
      have hvl := HVL.out
      have h2 := tinv_end (vs := Ca.turnL x.slots l) (by rw [hvl]; exact hi) hA1 (by omega)
      rw [hvl] at h2
      exact ⟨⟨_, rfl, h2.1⟩, hA1.trans (h2.2.mono hA1.size)⟩
end Go.Proofs.YtibjjclfonpibaaGreat
