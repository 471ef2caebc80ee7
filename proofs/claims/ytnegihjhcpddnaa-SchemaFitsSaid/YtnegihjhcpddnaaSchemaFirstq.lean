/- The walk of SchemaFirst: a right template cut to its first steps is right, and has the same versions so far. -/
import Derived.Test.YtnegihjhcpddnaaMg18Sch
set_option linter.unusedVariables false
set_option linter.unusedSimpArgs false
set_option maxRecDepth 100000
namespace Go.Proofs.Ytnegihjhcpddnaa
open Go.RowKit Go.Shelf
/-- what a version is in memory: its slots, its columns -/
def VerAt (w : World) (v : Sc.Ver) (sa : Option Addr) (sc : Nat) (ca : Option Addr) (cc : Nat) : Prop := SlotRow w sa sc v.slots ∧ Row w .i64 ca v.cols.length cc (v.cols.map Int.ofNat)
/-- what At, Right and Last come to, of templates that are looked at -/
def AtC : Prop := ∀ (t : TemplM) (L : List Sc.Ver) (v : Nat) (x : Sc.Ver) (w : World) (X : Value), greatT t = false → Sc.vers t = some L → L[v]? = some x → IsTempl w t X → Calls Try.prog 12 #[X, .int .i64 ((v + 1 : Nat) : Int)] w fun e w' =>
  (∃ sa sc ca cc, e = .returned (.tuple #[.agg #[.slice sa x.slots.length sc, .slice ca x.cols.length cc], .bool true]) ∧ VerAt w' x sa sc ca cc) ∧ Below w.heap.size w w'
def RightC : Prop := ∀ (t : TemplM) (w : World) (X : Value), greatT t = false → IsTempl w t X → Calls Try.prog 10 #[X] w fun e w' => e = .returned (.bool (Sc.vers t).isSome) ∧ Below w.heap.size w w'
def LastC : Prop := ∀ (t : TemplM) (L : List Sc.Ver) (w : World) (X : Value), greatT t = false → Sc.vers t = some L → IsTempl w t X → Calls Try.prog 11 #[X] w fun e w' => e = .returned (.int .i64 (L.length : Int)) ∧ Below w.heap.size w w'
theorem stepRow_take {w : World} {a : Option Addr} {c : Nat} {l : List StepM} (h : StepRow w a c l) (k : Nat) : StepRow w a c (l.take k) := by
  obtain ⟨h1, h2, h3⟩ := h
  refine ⟨by rw [List.length_take]; omega, h2, ?_⟩
  rcases h3 with h | ⟨b, off, ha, hc⟩
  · left; rw [h]; simp
  · refine .inr ⟨b, off, ha, fun i s hs => hc i s ?_⟩
    rw [List.getElem?_take] at hs
    split at hs
    · exact hs
    · cases hs
theorem great_take {t : TemplM} (h : greatT t = false) (k : Nat) : greatT { t with steps := t.steps.take k } = false := by
  unfold greatT at h ⊢
  simp only [Bool.or_eq_false_iff, decide_eq_false_iff_not, List.any_eq_false] at h ⊢
  refine ⟨⟨⟨h.1.1.1, by rw [List.length_take]; omega⟩, h.1.2⟩, h.2.1, fun x hx => h.2.2 x (List.mem_of_mem_take hx)⟩
theorem great_len {t : TemplM} (h : greatT t = false) : t.slots.length ≤ 30 ∧ t.steps.length ≤ 30 := by
  unfold greatT at h
  simp only [Bool.or_eq_false_iff, decide_eq_false_iff_not] at h
  omega
theorem size_steps (w : World) : (sizeOf (Try.prog.elem 31)).run Try.prog w = .ok 10 w := by kernel_rfl
theorem addr_zero (a : Addr) : a.add 0 = a := by unfold Addr.add; split <;> simp_all
theorem run_slice_steps (a : Option Addr) (n c k : Nat) (hk : k ≤ c) (W : World) : (Instr.slice 31 (.slice a n c) none (some (.int .i64 (k : Int))) none).run Try.prog W = .ok (.slice a k c) W := by
  have h1 := run_slice_h (P := Try.prog) W 31 a n c Try.underlying31 .i64 (k : Int) (by omega) (by omega)
  rw [size_steps W] at h1
  rw [h1]
  simp only [Result.andThen, sliced, Nat.zero_mul, Int.toNat_natCast, Nat.sub_zero]
  have : (if c = 0 then a else a.map (·.add 0)) = a := by
    split
    · rfl
    · cases a with
      | none => rfl
      | some x => simp [addr_zero]
  simp only [addr_zero] at this ⊢
  simp
namespace schemaFirstWalk
set_option maxRecDepth 100000 in
set_option maxHeartbeats 8000000 in
theorem walkA (hal : ∀ w, Calls Try.prog 5 #[] w fun e w' => e = .returned (.bool true) ∧ Below w.heap.size w w') (hRt : RightC) (hLa : LastC) (hAt : AtC) (t : TemplM) (x : Value) (n : Nat) (hn : n ≤ 255) (w : World) (hi : IsTempl w t x) :
    Calls Try.prog 4 #[x, .int .u8 (n : Int)] w fun e w' => e = .returned (.bool true) ∧ Below w.heap.size w w' := by
  have hI := fun W (hb : Below w.heap.size w W) => isTempl_below hb hi
  have hGr := fun W X hi => refGreat10_any t W X hi
  have hRi := fun W X hg hi => hRt t W X hg hi
  obtain ⟨nm, slots, steps⟩ := t
  obtain ⟨hnm, sa, sc, ta, tc, rfl, hsl, hst⟩ := hi
  simp only at hnm hsl hst ⊢
  have hB0 := (Below.refl _ w).alloc (Nat.le_refl _) (.cells #[.string nm, .slice sa slots.length sc, .slice ta steps.length tc] 33)
  have HI := Lib.hid hI
  have hcx : ∀ W, Below (w.alloc (.cells #[.string nm, .slice sa slots.length sc, .slice ta steps.length tc] 33)).heap.size (w.alloc (.cells #[.string nm, .slice sa slots.length sc, .slice ta steps.length tc] 33)) W → W.cell? ⟨w.heap.size, 0, none⟩ = some (.string nm) ∧ W.cell? ⟨w.heap.size, 1, none⟩ = some (.slice sa slots.length sc) ∧ W.cell? ⟨w.heap.size, 2, none⟩ = some (.slice ta steps.length tc) := fun W hb =>
    ⟨cell_below hb (by simp), cell_below hb (by simp), cell_below hb (by simp)⟩
  have HCX := Lib.hid hcx; have HSL := Lib.hid hsl; have HST := Lib.hid hst
  clear hI hcx hsl hst
  obtain ⟨g, hg⟩ : ∃ g, greatT ⟨nm, slots, steps⟩ = g := ⟨_, rfl⟩
  rw [hg] at hGr
  cases g with
  | true =>
    clear hRi
    go_enter Try.func4, Try.ntmps4
    go_wp2_with (first
      | (go_at_call 5; (with_reducible refine (hal _).mono ?_); rintro e w1 ⟨rfl, hB1⟩; have hC1 := hB0.trans (hB1.mono hB0.size); obtain ⟨x0, x1, x2⟩ := HCX.out _ hB1)
      | (go_at_call 9; (with_reducible refine (hGr _ _ (HI.out _ hC1)).mono ?_); rintro e w2 ⟨rfl, hB2⟩))
    go_ret
    exact ⟨rfl, hC1.trans (hB2.mono hC1.size)⟩
  | false =>
    have hRi2 := fun W X hi => hRi W X hg hi
    clear hRi
    obtain ⟨hl1, hl2⟩ := great_len hg
    simp only at hl1 hl2
    cases hv : Sc.vers ⟨nm, slots, steps⟩ with
    | none =>
      rw [hv] at hRi2
      simp only [Option.isSome_none] at hRi2
      go_enter Try.func4, Try.ntmps4
      go_wp2_with (first
        | (go_at_call 5; (with_reducible refine (hal _).mono ?_); rintro e w1 ⟨rfl, hB1⟩; have hC1 := hB0.trans (hB1.mono hB0.size); obtain ⟨x0, x1, x2⟩ := HCX.out _ hB1)
        | (go_at_call 9; (with_reducible refine (hGr _ _ (HI.out _ hC1)).mono ?_); rintro e w2 ⟨rfl, hB2⟩; have hC2 := hC1.trans (hB2.mono hC1.size); obtain ⟨y0, y1, y2⟩ := HCX.out _ (hB1.trans (hB2.mono hB1.size)))
        | (go_at_call 10; (with_reducible refine (hRi2 _ _ (HI.out _ hC2)).mono ?_); rintro e w3 ⟨rfl, hB3⟩))
      go_ret
      exact ⟨rfl, hC2.trans (hB3.mono hC2.size)⟩
    | some L =>
      rw [hv] at hRi2
      simp only [Option.isSome_some] at hRi2
      obtain ⟨hLl, hst8⟩ := Sc.vers_length hv
      simp only at hLl hst8
      obtain ⟨K, hK⟩ : ∃ K, n % (steps.length + 1) = K := ⟨_, rfl⟩
      have hKl : K ≤ steps.length := by have := Nat.mod_lt n (show 0 < steps.length + 1 by omega); omega
      have hmod : (n : Int).tmod ((steps.length : Int) + 1) = (K : Int) := by
        rw [Int.tmod_eq_emod_of_nonneg (by omega), ← hK]; simp
      have hVt := Sc.vers_take hv K hKl
      have hGt := great_take hg K
      simp only at hVt hGt
      have HV := Lib.hid hv; have HVT := Lib.hid hVt; have HG := Lib.hid hg; have HGT := Lib.hid hGt
      clear hv hVt hg hGt hK
      have hlenK : (L.take (K + 1)).length = K + 1 := by rw [List.length_take]; omega
      have hLs : ∀ W, IsTempl W ⟨nm, slots, steps.take K⟩ (.agg #[.string nm, .slice sa slots.length sc, .slice ta K tc]) → Calls Try.prog 11 #[.agg #[.string nm, .slice sa slots.length sc, .slice ta K tc]] W fun e w' => e = .returned (.int .i64 ((K : Int) + 1)) ∧ Below W.heap.size W w' := fun W hi =>
        (hLa _ _ W _ HGT.out HVT.out hi).mono fun e w' h => ⟨by rw [h.1, hlenK]; simp, h.2⟩
      have hAx : ∀ (v : Nat) (y : Sc.Ver) W, L[v]? = some y → IsTempl W ⟨nm, slots, steps⟩ (.agg #[.string nm, .slice sa slots.length sc, .slice ta steps.length tc]) → Calls Try.prog 12 #[.agg #[.string nm, .slice sa slots.length sc, .slice ta steps.length tc], .int .i64 ((v : Int) + 1)] W fun e w' =>
          (∃ sa sc ca cc, e = .returned (.tuple #[.agg #[.slice sa y.slots.length sc, .slice ca y.cols.length cc], .bool true]) ∧ VerAt w' y sa sc ca cc) ∧ Below W.heap.size W w' := fun v y W hy hi => by
        have := hAt _ _ v y W _ HG.out HV.out hy hi
        rwa [show ((v + 1 : Nat) : Int) = (v : Int) + 1 by omega] at this
      have hAu : ∀ (v : Nat) (y : Sc.Ver) W, v < K + 1 → L[v]? = some y → IsTempl W ⟨nm, slots, steps.take K⟩ (.agg #[.string nm, .slice sa slots.length sc, .slice ta K tc]) → Calls Try.prog 12 #[.agg #[.string nm, .slice sa slots.length sc, .slice ta K tc], .int .i64 ((v : Int) + 1)] W fun e w' =>
          (∃ sa sc ca cc, e = .returned (.tuple #[.agg #[.slice sa y.slots.length sc, .slice ca y.cols.length cc], .bool true]) ∧ VerAt w' y sa sc ca cc) ∧ Below W.heap.size W w' := fun v y W hv9 hy hi => by
        have := hAt _ _ v y W _ HGT.out HVT.out (by rw [List.getElem?_take, if_pos hv9]; exact hy) hi
        rwa [show ((v + 1 : Nat) : Int) = (v : Int) + 1 by omega] at this
      have HLS := Lib.hid hLs; have HAX := Lib.hid hAx; have HAU := Lib.hid hAu
      have HI2 : Hid (∀ W, Below w.heap.size w W → IsTempl W ⟨nm, slots, steps.take K⟩ (.agg #[.string nm, .slice sa slots.length sc, .slice ta K tc])) := Lib.hid fun W hb =>
        ⟨hnm, sa, sc, ta, tc, by rw [show (steps.take K).length = K by rw [List.length_take]; omega], slotRow_below hb HSL.out, stepRow_below hb (stepRow_take HST.out K)⟩
      have HLL := Lib.hid hLl
      have hneq : ((K : Int) + 1 != (K : Int) + 1) = false := by simp
      clear hLs hAx hAu hlenK hLa hAt hRt hLl
      have htc : K ≤ tc := by have := HST.out.1; omega
      have hsl9 := fun W => run_slice_steps ta steps.length tc K htc W
      go_enter Try.func4, Try.ntmps4
      go_wp2_with (first
        | (go_at_call 5; (with_reducible refine (hal _).mono ?_); rintro e w1 ⟨rfl, hB1⟩; have hC1 := hB0.trans (hB1.mono hB0.size); obtain ⟨x0, x1, x2⟩ := HCX.out _ hB1)
        | (go_at_call 9; (with_reducible refine (hGr _ _ (HI.out _ hC1)).mono ?_); rintro e w2 ⟨rfl, hB2⟩; have hC2 := hC1.trans (hB2.mono hC1.size); have hD2 := hB1.trans (hB2.mono hB1.size); obtain ⟨y0, y1, y2⟩ := HCX.out _ hD2)
        | (go_at_call 10; (with_reducible refine (hRi2 _ _ (HI.out _ hC2)).mono ?_); rintro e w3 ⟨rfl, hB3⟩; have hC3 := hC2.trans (hB3.mono hC2.size); have hD3 := hD2.trans (hB3.mono hD2.size); obtain ⟨z0, z1, z2⟩ := HCX.out _ hD3; have hA3 := (Below.refl _ w3).alloc (Nat.le_refl _) (.cells #[.string nm, .slice sa slots.length sc, .slice ta steps.length tc] 33); have hD3' := hD3.trans (hA3.mono hD3.size); obtain ⟨u0, u1, u2⟩ := HCX.out _ hD3')
        | (go_at_call 11; (with_reducible refine (HLS.out _ (HI2.out _ (hC3.trans (((Below.refl _ w3).alloc (Nat.le_refl _) _).mono hC3.size)))).mono ?_); rintro e w4 ⟨rfl, hB4⟩))
      have hU := (Below.refl _ w3).alloc (Nat.le_refl _) (.cells #[.string nm, .slice sa slots.length sc, .slice ta K tc] 33)
      have HCU : Hid (∀ W, Below (w3.alloc (.cells #[.string nm, .slice sa slots.length sc, .slice ta K tc] 33)).heap.size (w3.alloc (.cells #[.string nm, .slice sa slots.length sc, .slice ta K tc] 33)) W → W.cell? ⟨w3.heap.size, 0, none⟩ = some (.string nm) ∧ W.cell? ⟨w3.heap.size, 1, none⟩ = some (.slice sa slots.length sc) ∧ W.cell? ⟨w3.heap.size, 2, none⟩ = some (.slice ta K tc)) := Lib.hid fun W hb =>
        ⟨cell_below hb (by simp), cell_below hb (by simp), cell_below hb (by simp)⟩
      obtain ⟨W4, hW4⟩ : ∃ W4, w3.alloc (.cells #[.string nm, .slice sa slots.length sc, .slice ta K tc] 33) = W4 := ⟨_, rfl⟩
      rw [hW4] at HCU hU hB4
      obtain ⟨bU, hbU⟩ : ∃ bU, w3.heap.size = bU := ⟨_, rfl⟩
      obtain ⟨bT, hbT⟩ : ∃ bT, w.heap.size = bT := ⟨_, rfl⟩
      have hDU := hD3.trans (hU.mono hD3.size)
      have hCU := hC3.trans (hU.mono hC3.size)
      have HDU := Lib.hid hDU; have HCU2 := Lib.hid hCU
      obtain ⟨W0, hW0⟩ : ∃ W0, w.alloc (.cells #[.string nm, .slice sa slots.length sc, .slice ta steps.length tc] 33) = W0 := ⟨_, rfl⟩
      rw [hW0] at HCX HDU
      rw [hbU] at HCU ⊢
      rw [hbT] at HCX ⊢
      have HB4 := Lib.hid hB4
      clear x0 x1 x2 y0 y1 y2 z0 z1 z2 u0 u1 u2 hU hDU hCU hB4 hA3 hD3' hD3 hC3 hB3 hD2 hC2 hB2 hC1 hB1 hW4 hW0 hB0 hRi2 hGr hsl9
      go_loopw [7, 8, 9, 10, 11] (fun i _ _ _ _ wr => ∃ v : Nat, v ≤ K + 1 ∧ i = .int .i64 ((v : Int) + 1) ∧ Below W4.heap.size W4 wr) (fun i _ _ _ _ _ => K + 2 - (intOf i).toNat)
      case atStart => exact ⟨0, by omega, rfl, HB4.out⟩
      case round =>
        obtain ⟨v, hv, rfl, hbl⟩ := hrel
        rcases Nat.lt_or_ge v (K + 1) with hlt | hge
        · have hd : decide ((v : Int) + 1 ≤ (K : Int) + 1) = true := by simp; omega
          obtain ⟨y, hy⟩ : ∃ y, L[v]? = some y := ⟨L[v]'(by have := HLL.out; omega), List.getElem?_eq_getElem _⟩
          have hC5 := HCU2.out.trans (hbl.mono HCU2.out.size)
          obtain ⟨x0, x1, x2⟩ := HCX.out _ (HDU.out.trans (hbl.mono HDU.out.size))
          have HY := Lib.hid hy
          clear hy
          have hnv : y.cols.length ≤ 9223372036854775807 ∨ True := .inr trivial
          go_wp2_with (first
            | (go_at_call 12; first
              | ((with_reducible refine (HAX.out v y _ HY.out (HI.out _ hC5)).mono ?_); rintro e w5 ⟨⟨sa1, sc1, ca1, cc1, rfl, hV1⟩, hB5⟩; have hA5 := (Below.refl _ w5).alloc (Nat.le_refl _) (.cells #[.slice sa1 y.slots.length sc1, .slice ca1 y.cols.length cc1] 38); have hb5 := hbl.trans ((hB5.trans (hA5.mono hB5.size)).mono hbl.size); have hC6 := HCU2.out.trans (hb5.mono HCU2.out.size); obtain ⟨u0, u1, u2⟩ := HCU.out _ hb5)
              | ((with_reducible refine (HAU.out v y _ (by omega) HY.out (HI2.out _ hC6)).mono ?_); rintro e w6 ⟨⟨sa2, sc2, ca2, cc2, rfl, hV2⟩, hB6⟩; have hA6 := (Below.refl _ w6).alloc (Nat.le_refl _) (.cells #[.slice sa2 y.slots.length sc2, .slice ca2 y.cols.length cc2] 38); have hB6a := hB6.trans (hA6.mono hB6.size); have p0 := cell_below hB6a (show World.cell? _ ⟨w5.heap.size, 0, none⟩ = some (.slice sa1 y.slots.length sc1) by simp); have p1 := cell_below hB6a (show World.cell? _ ⟨w5.heap.size, 1, none⟩ = some (.slice ca1 y.cols.length cc1) by simp); have hb6 := hb5.trans (hB6a.mono hb5.size); have hS1 := slotRow_below (hA5.trans (hB6a.mono hA5.size)) hV1.1; have hS2 := slotRow_below hA6 hV2.1; have hR1 := row_below hV1.2 (hA5.trans (hB6a.mono hA5.size)) rfl; have hR2 := row_below hV2.2 hA6 rfl))
            | (go_at_call 13; (with_reducible refine (refSameSlots_same _ _ _ _ _ _ hS1 hS2).mono ?_); rintro e w7 ⟨rfl, hB7⟩; have k0 := cell_below hB7 p1; have k1 := cell_below hB7 (show World.cell? _ ⟨w6.heap.size, 1, none⟩ = some (.slice ca2 y.cols.length cc2) by simp))
            | (go_at_call 14; (with_reducible refine (refInts_any _ _ _ _ _ _ _ _ _ (row_below hR1 hB7 rfl) (row_below hR2 hB7 rfl)).mono ?_); rintro e w8 ⟨rfl, nq, rfl⟩))
          exact ⟨⟨v + 1, by omega, by simp, below_drewN (hb6.trans (hB7.mono hb6.size)) nq⟩, by simp [intOf]; omega⟩
        · obtain rfl : v = K + 1 := by omega
          have hd : decide ((((K + 1 : Nat) : Int)) + 1 ≤ (K : Int) + 1) = false := by simp; omega
          go_wp2
          go_ret
          exact ⟨rfl, HCU2.out.trans (hbl.mono HCU2.out.size)⟩
end schemaFirstWalk
end Go.Proofs.Ytnegihjhcpddnaa
