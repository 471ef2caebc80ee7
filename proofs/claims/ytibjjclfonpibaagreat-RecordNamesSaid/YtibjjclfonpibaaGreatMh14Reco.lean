/- The program's records: gather (of slots, of numbers, of values). -/
import Derived.Test.YtibjjclfonpibaaGreatMh12Reco
import Derived.Test.YtibjjclfonpibaaGreatMh13Reco
import Derived.Laws.MakeOwn
set_option linter.unusedVariables false
set_option linter.unusedSimpArgs false
set_option maxRecDepth 100000
namespace Go.Proofs.YtibjjclfonpibaaGreat
open Go.RowKit Go.Shelf
theorem made_make (n : Nat) (hn : n ≤ 100000) (W : World) : ∃ M : Array Value, M.size = n * 4 ∧ (Instr.makeSlice 26 (.int .i64 (n : Int)) (.int .i64 (n : Int))).run Tryz.prog W = .ok (.slice (some ⟨W.heap.size, 0, none⟩) n n) (W.alloc (.cells M 42)) := by
  obtain ⟨i0, hi, hz0, hz1, hz2⟩ := info_parts info_val
  refine ⟨madeCells (Value.agg vzero).cells (((n : Nat) : Int).toNat * i0.size), by rw [size_madeCells, hz1]; simp, ?_⟩
  have h := run_make (P := Tryz.prog) W 26 42 i0 (.agg vzero) Tryz.underlying26 hi hz0 .i64 .i64 (n : Int) (n : Int) (by omega) (by omega) (by rw [hz2]; omega) (by omega)
  simpa using h
set_option maxHeartbeats 4000000 in
theorem gatherS_any (a : Option Addr) (cap : Nat) (ls : List SlotM) (vs : List PV) (gf : Nat) (lb : Array Value) (w : World) (hl : SlotRow w a cap ls) (hlen : vs.length = ls.length) (hsm : ls.length ≤ 1000) (hvs : ∀ v ∈ vs, small v)
    (eg : ∀ args w, (callFunc gf args).run Tryz.prog w = .ok (.enter gf args) w)
    (hG : ∀ (i : Nat) (s : SlotM) (v : PV) (E : Value) (W : World), ls[i]? = some s → vs[i]? = some v → Below w.heap.size w W → IsSlot W s E → Calls Tryz.prog gf (#[.int .i64 (i : Int), E] ++ lb) W fun e w' => (∃ X, e = .returned X ∧ Is w' v X) ∧ Below W.heap.size W w') :
    Calls Tryz.prog 38 #[.slice a ls.length cap, .func (.func gf) #[] lb] w fun e w' => (∃ X, e = .returned X ∧ Made w.heap.size w' vs X) ∧ Below w.heap.size w w' := by
  obtain ⟨M, hM, hmk⟩ := made_make ls.length (by omega) w
  have hst := ginv_start (w := w) (M := M) (vs := vs) (by rw [hM, hlen])
  obtain ⟨n, hn⟩ : ∃ n, ls.length = n := ⟨_, rfl⟩
  obtain ⟨g, hg⟩ : ∃ g, w.heap.size = g := ⟨_, rfl⟩
  have HST := Lib.hid hst; have HL := Lib.hid hl; have HG := Lib.hid hG; have HLEN := Lib.hid hlen; have HVS := Lib.hid hvs; have HN := Lib.hid hn; have HGG := Lib.hid hg
  rw [hn] at hmk hsm ⊢
  clear hst hl hG hlen hvs hn hM hg
  go_enter Tryz.func38, Tryz.ntmps38
  go_wp2
  go_loopw [13] (fun i wr => ∃ q : Nat, q ≤ n ∧ i = .int .i64 (q : Int) ∧ GInv w w.heap.size vs q wr) (fun i _ => n - (intOf i).toNat)
  case atStart => exact ⟨0, Nat.zero_le _, rfl, HST.out⟩
  case round =>
    obtain ⟨q, hq, rfl, hinv⟩ := hrel
    rcases Nat.lt_or_ge q n with hlt | hge
    · have hd : decide ((q : Int) < (n : Int)) = true := by simp; omega
      have hnl := HN.out
      have hvl := HLEN.out
      obtain ⟨s, hs⟩ : ∃ s, ls[q]? = some s := ⟨ls[q], List.getElem?_eq_getElem (by omega)⟩
      obtain ⟨v, hv⟩ : ∃ v, vs[q]? = some v := ⟨vs[q], List.getElem?_eq_getElem (by omega)⟩
      obtain ⟨sb, so, rfl, hrow⟩ : ∃ b off, a = some ⟨b, off, none⟩ ∧ ∀ i s, ls[i]? = some s → SlotAt w b (off + i * 7) s := by
        rcases HL.out.2.2 with h | h
        · subst h; simp at hnl; omega
        · exact h
      obtain ⟨k, nn, tx, la, ll, lc, ⟨g0, g1, g2, g3, g4, g5, g6⟩, hI, hsn, hdf⟩ := slotAt_form (hrow q s hs)
      have hBw := hinv.1.alloc hinv.1.size (.cells #[.string s.nm, .int .i64 s.ty, .bool s.rq, .int .i64 k, .int .i64 nn, .string tx, .slice la ll lc] 44)
      have HX := Lib.hid (HG.out q s v _ _ hs hv hBw (isSlot_below hBw ⟨_, _, _, _, _, _, _, rfl, hsn, hI, rfl, rfl, rfl, hdf⟩))
      have y0 := cell_below hinv.1 g0
      have y1 := cell_below hinv.1 g1
      have y2 := cell_below hinv.1 g2
      have y3 := cell_below hinv.1 g3
      have y4 := cell_below hinv.1 g4
      have y5 := cell_below hinv.1 g5
      have y6 := cell_below hinv.1 g6
      have hC := fun W X => copy_any v (HVS.out v (List.mem_of_getElem? hv)) W X
      obtain ⟨vk, vn, vt, vl, rfl⟩ : ∃ k n t l, v = .mk k n t l := by cases v; exact ⟨_, _, _, _, rfl⟩
      have HC := Lib.hid hC; have HV := Lib.hid hv; have HI := Lib.hid hinv
      have hqv : q < vs.length := by omega
      have HQV := Lib.hid hqv
      obtain ⟨G, hGG⟩ : ∃ G, w.heap.size = G := ⟨_, rfl⟩
      have hGlt : G < wr.heap.size := by
        obtain ⟨_, _, C, hC1, _⟩ := hinv
        rw [hGG] at hC1
        exact vat_lt hC1
      rw [hGG] at HI ⊢
      have HGlt := Lib.hid hGlt
      clear hC hv hinv hnl hvl hqv hGG hGlt hrow g0 g1 g2 g3 g4 g5 g6 hdf hBw hI hsn hs
      go_wp2_with (first
        | (go_at_fn gf; (with_reducible refine (HX.out).mono ?_); rintro e w1 ⟨⟨X, rfl, hX⟩, hB1⟩)
        | (go_at_call 64; (with_reducible refine (HC.out _ _ hX).mono ?_); rintro e w2 ⟨x', rfl, hB2, hfr, xa, rfl, hxa⟩; have hB9 := (((Below.refl _ wr).alloc (Nat.le_refl _) _).trans (hB1.mono (by simp))).trans (hB2.mono (Nat.le_trans (by simp) hB1.size)); obtain ⟨x0, x1, x2, x3, ⟨p0, p1, p2, p3⟩, f0, f1, f2, f3⟩ := ginv_cells HI.out HQV.out hB9))
      have hbs := hB9.size
      go_roundw
      case rel => exact ⟨q + 1, by omega, by go_num, ginv_step HI.out HV.out hB9 (by have := hB1.size; have := HGlt.out; have h7 := World.size_alloc wr (.cells #[.string s.nm, .int .i64 s.ty, .bool s.rq, .int .i64 k, .int .i64 nn, .string tx, .slice la ll lc] 44); omega) ⟨hfr, xa, rfl, hxa⟩⟩
      case measure => simp [intOf]; omega
    · obtain rfl : q = n := by omega
      have hd : decide ((q : Int) < (q : Int)) = false := by simp
      have hend : q = vs.length := by rw [HLEN.out, HN.out]
      have HE := Lib.hid hend
      have HI := Lib.hid hinv
      clear hend hinv
      go_wp2
      go_ret
      have hi := HI.out
      rw [HE.out] at hi ⊢
      exact ⟨⟨_, rfl, (ginv_end hi).1⟩, (ginv_end hi).2⟩
set_option maxHeartbeats 4000000 in
theorem gatherI_any (a : Option Addr) (cap : Nat) (ls : List Nat) (vs : List PV) (gf : Nat) (lb : Array Value) (w : World) (hl : Row w .i64 a ls.length cap (ls.map Int.ofNat)) (hlen : vs.length = ls.length) (hsm : ls.length ≤ 1000) (hvs : ∀ v ∈ vs, small v)
    (eg : ∀ args w, (callFunc gf args).run Tryz.prog w = .ok (.enter gf args) w)
    (hG : ∀ (i : Nat) (s : Nat) (v : PV) (W : World), ls[i]? = some s → vs[i]? = some v → Below w.heap.size w W → Calls Tryz.prog gf (#[.int .i64 (i : Int), .int .i64 (s : Int)] ++ lb) W fun e w' => (∃ X, e = .returned X ∧ Is w' v X) ∧ Below W.heap.size W w') :
    Calls Tryz.prog 45 #[.slice a ls.length cap, .func (.func gf) #[] lb] w fun e w' => (∃ X, e = .returned X ∧ Made w.heap.size w' vs X) ∧ Below w.heap.size w w' := by
  obtain ⟨M, hM, hmk⟩ := made_make ls.length (by omega) w
  have hst := ginv_start (w := w) (M := M) (vs := vs) (by rw [hM, hlen])
  obtain ⟨n, hn⟩ : ∃ n, ls.length = n := ⟨_, rfl⟩
  obtain ⟨g, hg⟩ : ∃ g, w.heap.size = g := ⟨_, rfl⟩
  have HST := Lib.hid hst; have HL := Lib.hid hl; have HG := Lib.hid hG; have HLEN := Lib.hid hlen; have HVS := Lib.hid hvs; have HN := Lib.hid hn; have HGG := Lib.hid hg
  rw [hn] at hmk hsm ⊢
  clear hst hl hG hlen hvs hn hM hg
  go_enter Tryz.func45, Tryz.ntmps45
  go_wp2
  go_loopw [13] (fun i wr => ∃ q : Nat, q ≤ n ∧ i = .int .i64 (q : Int) ∧ GInv w w.heap.size vs q wr) (fun i _ => n - (intOf i).toNat)
  case atStart => exact ⟨0, Nat.zero_le _, rfl, HST.out⟩
  case round =>
    obtain ⟨q, hq, rfl, hinv⟩ := hrel
    rcases Nat.lt_or_ge q n with hlt | hge
    · have hd : decide ((q : Int) < (n : Int)) = true := by simp; omega
      have hnl := HN.out
      have hvl := HLEN.out
      obtain ⟨s, hs⟩ : ∃ s, ls[q]? = some s := ⟨ls[q], List.getElem?_eq_getElem (by omega)⟩
      obtain ⟨v, hv⟩ : ∃ v, vs[q]? = some v := ⟨vs[q], List.getElem?_eq_getElem (by omega)⟩
      obtain ⟨cb, co, rfl, hc⟩ := row_nth HL.out q (by omega)
      have e0 : (ls.map Int.ofNat)[q]?.getD 0 = (s : Int) := by rw [List.getElem?_map, hs]; rfl
      rw [e0] at hc
      have y0 := cell_below hinv.1 hc
      have HX := Lib.hid (HG.out q s v _ hs hv hinv.1)
      have hC := fun W X => copy_any v (HVS.out v (List.mem_of_getElem? hv)) W X
      obtain ⟨vk, vn, vt, vl, rfl⟩ : ∃ k n t l, v = .mk k n t l := by cases v; exact ⟨_, _, _, _, rfl⟩
      have HC := Lib.hid hC; have HV := Lib.hid hv; have HI := Lib.hid hinv
      have hqv : q < vs.length := by omega
      have HQV := Lib.hid hqv
      obtain ⟨G, hGG⟩ : ∃ G, w.heap.size = G := ⟨_, rfl⟩
      have hGlt : G < wr.heap.size := by
        obtain ⟨_, _, C, hC1, _⟩ := hinv
        rw [hGG] at hC1
        exact vat_lt hC1
      rw [hGG] at HI ⊢
      have HGlt := Lib.hid hGlt
      clear hC hv hinv hnl hvl hqv hGG hGlt hc e0 hs
      go_wp2_with (first
        | (go_at_fn gf; (with_reducible refine (HX.out).mono ?_); rintro e w1 ⟨⟨X, rfl, hX⟩, hB1⟩)
        | (go_at_call 64; (with_reducible refine (HC.out _ _ hX).mono ?_); rintro e w2 ⟨x', rfl, hB2, hfr, xa, rfl, hxa⟩; have hB9 := hB1.trans (hB2.mono hB1.size); obtain ⟨x0, x1, x2, x3, ⟨p0, p1, p2, p3⟩, f0, f1, f2, f3⟩ := ginv_cells HI.out HQV.out hB9))
      have hbs := hB9.size
      go_roundw
      case rel => exact ⟨q + 1, by omega, by go_num, ginv_step HI.out HV.out hB9 (by have := hB1.size; have := HGlt.out; skip; omega) ⟨hfr, xa, rfl, hxa⟩⟩
      case measure => simp [intOf]; omega
    · obtain rfl : q = n := by omega
      have hd : decide ((q : Int) < (q : Int)) = false := by simp
      have hend : q = vs.length := by rw [HLEN.out, HN.out]
      have HE := Lib.hid hend
      have HI := Lib.hid hinv
      clear hend hinv
      go_wp2
      go_ret
      have hi := HI.out
      rw [HE.out] at hi ⊢
      exact ⟨⟨_, rfl, (ginv_end hi).1⟩, (ginv_end hi).2⟩
set_option maxHeartbeats 4000000 in
theorem gatherV_any (a : Option Addr) (cap : Nat) (ls : List PV) (vs : List PV) (gf : Nat) (lb : Array Value) (w : World) (hl : PRow w a cap ls) (hlen : vs.length = ls.length) (hsm : ls.length ≤ 1000) (hvs : ∀ v ∈ vs, small v)
    (eg : ∀ args w, (callFunc gf args).run Tryz.prog w = .ok (.enter gf args) w)
    (hG : ∀ (i : Nat) (s : PV) (v : PV) (E : Value) (W : World), ls[i]? = some s → vs[i]? = some v → Below w.heap.size w W → Is W s E → Calls Tryz.prog gf (#[.int .i64 (i : Int), E] ++ lb) W fun e w' => (∃ X, e = .returned X ∧ Is w' v X) ∧ Below W.heap.size W w') :
    Calls Tryz.prog 55 #[.slice a ls.length cap, .func (.func gf) #[] lb] w fun e w' => (∃ X, e = .returned X ∧ Made w.heap.size w' vs X) ∧ Below w.heap.size w w' := by
  obtain ⟨M, hM, hmk⟩ := made_make ls.length (by omega) w
  have hst := ginv_start (w := w) (M := M) (vs := vs) (by rw [hM, hlen])
  obtain ⟨n, hn⟩ : ∃ n, ls.length = n := ⟨_, rfl⟩
  obtain ⟨g, hg⟩ : ∃ g, w.heap.size = g := ⟨_, rfl⟩
  have HST := Lib.hid hst; have HL := Lib.hid hl; have HG := Lib.hid hG; have HLEN := Lib.hid hlen; have HVS := Lib.hid hvs; have HN := Lib.hid hn; have HGG := Lib.hid hg
  rw [hn] at hmk hsm ⊢
  clear hst hl hG hlen hvs hn hM hg
  go_enter Tryz.func55, Tryz.ntmps55
  go_wp2
  go_loopw [13] (fun i wr => ∃ q : Nat, q ≤ n ∧ i = .int .i64 (q : Int) ∧ GInv w w.heap.size vs q wr) (fun i _ => n - (intOf i).toNat)
  case atStart => exact ⟨0, Nat.zero_le _, rfl, HST.out⟩
  case round =>
    obtain ⟨q, hq, rfl, hinv⟩ := hrel
    rcases Nat.lt_or_ge q n with hlt | hge
    · have hd : decide ((q : Int) < (n : Int)) = true := by simp; omega
      have hnl := HN.out
      have hvl := HLEN.out
      obtain ⟨s, hs⟩ : ∃ s, ls[q]? = some s := ⟨ls[q], List.getElem?_eq_getElem (by omega)⟩
      obtain ⟨v, hv⟩ : ∃ v, vs[q]? = some v := ⟨vs[q], List.getElem?_eq_getElem (by omega)⟩
      obtain ⟨sb, so, k, nn, tx, la, ll, lc, rfl, ⟨g0, g1, g2, g3⟩, hdf⟩ := pRow_val HL.out hs
      have hBw := hinv.1.alloc hinv.1.size (.cells #[.int .i64 k, .int .i64 nn, .string tx, .slice la ll lc] 42)
      have HX := Lib.hid (HG.out q s v _ _ hs hv hBw (is_below hBw _ _ hdf))
      have y0 := cell_below hinv.1 g0
      have y1 := cell_below hinv.1 g1
      have y2 := cell_below hinv.1 g2
      have y3 := cell_below hinv.1 g3
      have hC := fun W X => copy_any v (HVS.out v (List.mem_of_getElem? hv)) W X
      obtain ⟨vk, vn, vt, vl, rfl⟩ : ∃ k n t l, v = .mk k n t l := by cases v; exact ⟨_, _, _, _, rfl⟩
      have HC := Lib.hid hC; have HV := Lib.hid hv; have HI := Lib.hid hinv
      have hqv : q < vs.length := by omega
      have HQV := Lib.hid hqv
      obtain ⟨G, hGG⟩ : ∃ G, w.heap.size = G := ⟨_, rfl⟩
      have hGlt : G < wr.heap.size := by
        obtain ⟨_, _, C, hC1, _⟩ := hinv
        rw [hGG] at hC1
        exact vat_lt hC1
      rw [hGG] at HI ⊢
      have HGlt := Lib.hid hGlt
      clear hC hv hinv hnl hvl hqv hGG hGlt g0 g1 g2 g3 hdf hBw hs
      go_wp2_with (first
        | (go_at_fn gf; (with_reducible refine (HX.out).mono ?_); rintro e w1 ⟨⟨X, rfl, hX⟩, hB1⟩)
        | (go_at_call 64; (with_reducible refine (HC.out _ _ hX).mono ?_); rintro e w2 ⟨x', rfl, hB2, hfr, xa, rfl, hxa⟩; have hB9 := (((Below.refl _ wr).alloc (Nat.le_refl _) _).trans (hB1.mono (by simp))).trans (hB2.mono (Nat.le_trans (by simp) hB1.size)); obtain ⟨x0, x1, x2, x3, ⟨p0, p1, p2, p3⟩, f0, f1, f2, f3⟩ := ginv_cells HI.out HQV.out hB9))
      have hbs := hB9.size
      go_roundw
      case rel => exact ⟨q + 1, by omega, by go_num, ginv_step HI.out HV.out hB9 (by have := hB1.size; have := HGlt.out; have h7 := World.size_alloc wr (.cells #[.int .i64 k, .int .i64 nn, .string tx, .slice la ll lc] 42); omega) ⟨hfr, xa, rfl, hxa⟩⟩
      case measure => simp [intOf]; omega
    · obtain rfl : q = n := by omega
      have hd : decide ((q : Int) < (q : Int)) = false := by simp
      have hend : q = vs.length := by rw [HLEN.out, HN.out]
      have HE := Lib.hid hend
      have HI := Lib.hid hinv
      clear hend hinv
      go_wp2
      go_ret
      have hi := HI.out
      rw [HE.out] at hi ⊢
      exact ⟨⟨_, rfl, (ginv_end hi).1⟩, (ginv_end hi).2⟩
end Go.Proofs.YtibjjclfonpibaaGreat
