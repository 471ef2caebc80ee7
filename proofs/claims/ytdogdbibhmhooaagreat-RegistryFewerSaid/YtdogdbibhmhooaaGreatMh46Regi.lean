/- The program's contracts of stage 10. -/
import Derived.Test.YtdogdbibhmhooaaGreatMh43Regi
import Derived.Test.YtdogdbibhmhooaaGreatMh44Regi
import Derived.Test.YtdogdbibhmhooaaGreatMh45Regi
import Derived.Test.YtdogdbibhmhooaaGreatMh31Regi
import Derived.Test.YtdogdbibhmhooaaGreatMh33Regi
import Derived.Test.YtdogdbibhmhooaaGreatMh27Regi
import Derived.Test.YtdogdbibhmhooaaGreatMh22Regi
import Derived.Test.YtdogdbibhmhooaaGreatMh7Regi
set_option linter.unusedVariables false
namespace Go.Proofs.YtdogdbibhmhooaaGreat
open Go.RowKit Go.Shelf
theorem allC : AllC := spAll_any spAdd_any reorder_any
theorem rightC : RightC := rightA allC
end Go.Proofs.YtdogdbibhmhooaaGreat

/- Layer 13: what the statements ask first (alive). -/
set_option linter.unusedVariables false
set_option linter.unusedSimpArgs false
set_option maxRecDepth 100000
namespace Go.Proofs.YtdogdbibhmhooaaGreat
open Go.RowKit Go.Shelf
theorem rightOf_great {t : TemplM} (h : greatT t = false) : RightOf t := fun W X hi => rightC t W X h hi
theorem great_lens {t : TemplM} (h : greatT t = false) : t.slots.length ≤ 30 ∧ t.steps.length ≤ 30 := great_len h
theorem asked_great {l : List TemplM} (h : ∀ t ∈ l, greatT t = false) : Asked l := fun t ht => ⟨rightOf_great (h t ht), by have := great_lens (h t ht); omega, by have := great_lens (h t ht); omega⟩
def tB : List Int := Rg.putR [twoT]
theorem twoR_right : Rg.right [twoT] = true := by decide +kernel
theorem two_put : Rg.putIf [twoT] = tB := by unfold Rg.putIf; rw [if_pos twoR_right]; rfl
theorem two_len : 20 < tB.length ∧ tB.length ≤ 1000 := by decide +kernel
theorem two_asked : Asked [twoT] := asked_great fun t ht => by
  simp only [List.mem_cons, List.not_mem_nil, or_false] at ht
  subst ht; exact two_great
theorem two_nums : ∀ t ∈ [twoT], Rg.NumsT t := fun t ht => by
  simp only [List.mem_cons, List.not_mem_nil, or_false] at ht
  subst ht
  constructor
  · intro s hs; simp [twoT] at hs; rcases hs with rfl | rfl <;> simp [intV, numsV, numsV.numsL, I64]
  · intro s hs; simp [twoT] at hs; rcases hs with rfl | rfl <;> simp [Sc.nilV, numsV, numsV.numsL, I64]
theorem two_find : Rg.ixJ (Rg.find [twoT] ⟨#[116]⟩) = 0 := by decide +kernel
theorem two_find2 : Rg.ixJ (Rg.find [twoT] ⟨#[117]⟩) = -1 := by decide +kernel
theorem nil_put : Rg.putIf [] = [0, 0, 0, 0] := by decide +kernel
theorem asked_nil : Asked [] := fun t ht => by simp at ht
theorem two_get : getRg tB = some [twoT] := Rg.get_back _ twoR_right two_nums
theorem two_get0 : getRg (tB ++ [0]) = none := by
  have h1 := Rg.rReg_back _ twoR_right two_nums [0]
  have h2 := Rg.rRead_back _ twoR_right two_nums [0]
  unfold getRg tB
  rw [h2, h1]
  rfl
theorem two_read (r : List Int) : ∀ ts s', Rg.rReg (some (tB ++ r)) = (some ts, s') → s'.isNone = false → ts.length ≤ 100000 ∧ Asked ts := fun ts s' h _ => by
  rw [show tB = Rg.putR [twoT] from rfl, Rg.rReg_back _ twoR_right two_nums r] at h
  cases h
  exact ⟨by decide, two_asked⟩
theorem tB_bytes (r : List Int) (hr : Rg.BD r) : Bytes (tB ++ r) := Rg.bd_bytes (Rg.bd_app (Rg.bd_putR _) hr)
theorem templRow_one {W : World} {t : TemplM} {sa : Option Addr} {sc : Nat} {ta : Option Addr} {tc : Nat} (h1 : t.nm.size ≤ maxLen) (h2 : SlotRow W sa sc t.slots) (h3 : StepRow W ta tc t.steps) :
    TemplRow (W.alloc (.cells #[.string t.nm, .slice sa t.slots.length sc, .slice ta t.steps.length tc] 45)) (some ⟨W.heap.size, 0, none⟩) 1 [t] := by
  have hA := (Below.refl _ W).alloc (Nat.le_refl _) (.cells #[.string t.nm, .slice sa t.slots.length sc, .slice ta t.steps.length tc] 45)
  refine ⟨by simp, by decide, .inr ⟨_, 0, rfl, fun i s hs => ?_⟩⟩
  have hi : i < 1 := (List.getElem?_eq_some_iff.1 hs).1
  obtain rfl : i = 0 := by omega
  simp only [List.getElem?_cons_zero, Option.some.injEq] at hs
  subst hs
  exact ⟨sa, sc, ta, tc, ⟨by simp, by simp, by simp⟩, h1, slotRow_below hA h2, stepRow_below hA h3⟩
theorem row_zero4 (w : World) : Row (w.alloc (.cells #[.int .u8 0, .int .u8 0, .int .u8 0, .int .u8 0] 5)) .u8 (some ⟨w.heap.size, 0, none⟩) 4 4 [0, 0, 0, 0] := by
  refine ⟨rfl, Nat.le_refl _, by unfold maxLen; omega, .inr ⟨_, 0, rfl, fun i hi => ?_⟩⟩
  match i, hi with
  | 0, _ => simp
  | 1, _ => simp
  | 2, _ => simp
  | 3, _ => simp
def Got1 (W : World) (e : Ending) (w' : World) : Prop := ∃ (a : Option Addr) (c : Nat), e = .returned (.tuple #[.slice a 1 c, .bool true]) ∧ (∀ W' : World, (∀ b, W.heap.size ≤ b → b < w'.heap.size → W'.heap[b]? = w'.heap[b]?) → TemplRow W' a c [twoT]) ∧ Below W.heap.size W w'
def Got0 (W : World) (e : Ending) (w' : World) : Prop := ∃ (c : Nat), e = .returned (.tuple #[.slice none 0 c, .bool false]) ∧ Below W.heap.size W w'
set_option maxHeartbeats 8000000 in
theorem rgAlive_any (w : World) : Calls Tryz.prog 8 #[] w fun e w' => e = .returned (.bool true) ∧ Below w.heap.size w w' := by
  obtain ⟨i0, hi, hz0, hz1, hz2⟩ := info_parts info_u8
  have hTw := refTwo_any w
  obtain ⟨hN20, hN1⟩ := two_len
  have hPut : ∀ W a, TemplRow W a 1 [twoT] → Calls Tryz.prog 13 #[.slice a 1 1] W (Got W tB) := fun W a h => by
    have := rgPut_any a 1 [twoT] W h (by decide) two_asked
    rw [two_put] at this
    exact this
  have hGet : ∀ W a c, Row W .u8 a tB.length c tB → Calls Tryz.prog 19 #[.slice a tB.length c] W (Got1 W) := fun W a c h => by
    have := rgGet_any a _ c tB W h (by have := tB_bytes [] Rg.bd_nil; rwa [List.append_nil] at this) (by omega) (by have := two_read []; rwa [List.append_nil] at this)
    rw [two_get] at this
    refine this.mono fun e w' h => ?_
    obtain ⟨a4, l4, c4, rfl, _, hF4, hB4⟩ := h
    obtain ⟨hl4, hrow4⟩ := hF4 [twoT] rfl
    obtain rfl : l4 = 1 := hl4
    exact ⟨a4, c4, rfl, hrow4, hB4⟩
  have hGet0 : ∀ W a c, Row W .u8 a (tB.length + 1) c (tB ++ [0]) → Calls Tryz.prog 19 #[.slice a (tB.length + 1) c] W (Got0 W) := fun W a c h => by
    have := rgGet_any a _ c (tB ++ [0]) W h (tB_bytes [0] (fun x hx => by simp at hx; omega)) (by omega) (two_read [0])
    rw [two_get0] at this
    refine this.mono fun e w' h => ?_
    obtain ⟨a4, l4, c4, rfl, h4, _, hB4⟩ := h
    obtain ⟨rfl, rfl⟩ := h4 rfl
    exact ⟨c4, rfl, hB4⟩
  have hSame : ∀ W a b c, TemplRow W a 1 [twoT] → TemplRow W b c [twoT] → Calls Tryz.prog 17 #[.slice a 1 1, .slice b 1 c] W fun e w' => e = .returned (.bool true) ∧ Below W.heap.size W w' := fun W a b c h1 h2 => by
    have := rgSame_any a b 1 c [twoT] [twoT] W h1 h2
    rw [eqB_self] at this
    exact this
  have hRight : ∀ W a, TemplRow W a 1 [twoT] → Calls Tryz.prog 10 #[.slice a 1 1] W fun e w' => e = .returned (.bool true) ∧ Below W.heap.size W w' := fun W a h => by
    have := rgRight_any a 1 [twoT] W h (by decide) two_asked
    rw [twoR_right] at this
    exact this
  have hFind : ∀ W a, TemplRow W a 1 [twoT] → Calls Tryz.prog 15 #[.slice a 1 1, .string ⟨#[116]⟩] W fun e w' => e = .returned (.int .i64 0) ∧ Below W.heap.size W w' := fun W a h => by
    have := rgFind_any a 1 [twoT] ⟨#[116]⟩ W h (by decide)
    rw [two_find] at this
    exact this
  have hFind2 : ∀ W a, TemplRow W a 1 [twoT] → Calls Tryz.prog 15 #[.slice a 1 1, .string ⟨#[117]⟩] W fun e w' => e = .returned (.int .i64 (-1)) ∧ Below W.heap.size W w' := fun W a h => by
    have := rgFind_any a 1 [twoT] ⟨#[117]⟩ W h (by decide)
    rw [two_find2] at this
    exact this
  have hNil : ∀ W, Calls Tryz.prog 13 #[.slice none 0 0] W (Got W [0, 0, 0, 0]) := fun W => by
    have := rgPut_any none 0 [] W ⟨by simp, by unfold maxLen; omega, .inl rfl⟩ (by decide) asked_nil
    rw [nil_put] at this
    exact this
  generalize tB = TB at *
  obtain ⟨N, hN⟩ : ∃ N, TB.length = N := ⟨_, rfl⟩
  rw [hN] at hN20 hN1
  simp only [hN] at hGet hGet0
  have d20 : decide ((N : Int) > 20) = true := by simp; omega
  have d21 : decide ((20 : Int) < (N : Int)) = true := by simp; omega
  have d22 : decide (20 < N) = true := by simp; omega
  have HPut := Lib.hid hPut; have HGet := Lib.hid hGet; have HGet0 := Lib.hid hGet0; have HSame := Lib.hid hSame; have HRight := Lib.hid hRight; have HFind := Lib.hid hFind; have HFind2 := Lib.hid hFind2; have HNil := Lib.hid hNil; have HN := Lib.hid hN
  clear hPut hGet hGet0 hSame hRight hFind hFind2 hNil hN
  go_enter Tryz.func8, Tryz.ntmps8
  go_upto_region 2 with (go_at_call 26; (with_reducible refine hTw.mono ?_); rintro e w1 ⟨⟨X, rfl, hX⟩, hB1⟩; obtain ⟨h1, sa, sc, ta, tc, rfl, hs, ht⟩ := hX; have hrow := templRow_one h1 hs ht)
  have hB2 := hB1.alloc hB1.size (.cells #[.string twoT.nm, .slice sa twoT.slots.length sc, .slice ta twoT.steps.length tc] 45)
  generalize w1.alloc (.cells #[.string twoT.nm, .slice sa twoT.slots.length sc, .slice ta twoT.steps.length tc] 45) = W2 at *
  generalize (some (⟨w1.heap.size, 0, none⟩ : Addr)) = A at *
  have HRow := Lib.hid hrow
  clear hrow hB1 h1 hs ht hTw
  go_upto_region 3 with (go_at_call 13; (with_reducible refine (HPut.out _ _ HRow.out).mono ?_); rintro e w3 ⟨v3, rfl, ho3, hB3⟩; obtain ⟨a3, c3, rfl, hr3⟩ := got_row ho3 HN.out)
  have ho3' := ownsRow_nth ho3 HN.out rfl
  have HO3 := Lib.hid ho3'; have HR3 := Lib.hid hr3
  have hb23 := hB3
  clear ho3 ho3' hr3
  go_upto_region 4 with (go_at_call 19; (with_reducible refine (HGet.out _ _ _ HR3.out).mono ?_); rintro e w4 ⟨a4, c4, rfl, hrow4, hB4⟩)
  have HRow4 := Lib.hid hrow4
  have hA4 := (Below.refl _ w4).alloc (Nat.le_refl _) (.cells #[.int .u8 0] 5)
  have ho5 := ownsRow_below (ownsRow_below HO3.out hB4) hA4
  have hb24 := hb23.trans (hB4.mono hb23.size)
  have hb25 := hb24.trans (hA4.mono hb24.size)
  clear hrow4
  go_upto_region 5 with (first
    | (at_builtin; refine wpList_append_cells _ rfl _ _ 26 rfl W2.heap.size 5 i0 (.int .u8 0) 1 1 Tryz.underlying26 hi hz0 hz1 hz2 rfl (by decide) (.slice a3 N c3) N (u8s TB) rfl ho5 (some ⟨w4.heap.size, 0, none⟩) 1 1 [.int .u8 0] rfl ⟨rfl, .inr ⟨_, rfl, cells_new w4 [.int .u8 0] 5⟩⟩ (by simp [Value.oneCell']) (by unfold maxLen; omega) (by omega) hb25.size ?_; intro v6 w6 hown6 hg6; obtain ⟨a6, c6, rfl, hr6⟩ := got_row (l := TB ++ [0]) (n := N + 1) (ownsRow_nth hown6 (by rw [List.length_append, HN.out]; rfl) (by simp [u8s])) (by rw [List.length_append, HN.out]; rfl))
    | (go_at_call 19; (with_reducible refine (HGet0.out _ _ _ hr6).mono ?_); rintro e w7 ⟨c7, rfl, hB7⟩))
  have hb26 := hb25.trans (below_grown hg6 ho5 hb25.size)
  have hb27 := hb26.trans (hB7.mono hb26.size)
  have hrA := templRow_below hb27 HRow.out
  have hrM := HRow4.out w7 fun b b1 b2 => by
    have hw5 : (w4.alloc (.cells #[.int .u8 0] 5)).heap.size = w4.heap.size + 1 := World.size_alloc _ _
    rw [hB7.block b (by have := hg6.size; omega), hg6.block b (by omega) (fun e => by have := (own_blk8 HO3.out b e.symm).1; omega), hA4.block b b2]
  have HrA := Lib.hid hrA; have HrM := Lib.hid hrM
  clear hrA hrM hown6 hg6 hr6 ho5 hA4 hb23 hb24 hb25 hb26 hB3 hB4 hB7 hi hz0 hz1 hz2
  go_wp2_with (first
    | (go_at_call 17; (with_reducible refine (HSame.out _ _ _ _ HrA.out HrM.out).mono ?_); rintro e w8 ⟨rfl, hB8⟩; have hr8 := templRow_below hB8 HrA.out; have hb28 := hb27.trans (hB8.mono hb27.size))
    | (go_at_call 10; (with_reducible refine (HRight.out _ _ hr8).mono ?_); rintro e w9 ⟨rfl, hB9⟩; have hr9 := templRow_below hB9 hr8; have hb29 := hb28.trans (hB9.mono hb28.size))
    | (go_at_call 15; (with_reducible refine (HFind.out _ _ hr9).mono ?_); rintro e w10 ⟨rfl, hB10⟩; have hr10 := templRow_below hB10 hr9; have hb210 := hb29.trans (hB10.mono hb29.size))
    | (go_at_call 15; (with_reducible refine (HFind2.out _ _ hr10).mono ?_); rintro e w11 ⟨rfl, hB11⟩; have hb211 := hb210.trans (hB11.mono hb210.size))
    | (go_at_call 13; (with_reducible refine (HNil.out _).mono ?_); rintro e w12 ⟨v12, rfl, ho12, hB12⟩; obtain ⟨a12, c12, rfl, hr12⟩ := got_row (n := 4) ho12 rfl; have hb212 := hb211.trans (hB12.mono hb211.size); have hA12 := (Below.refl _ w12).alloc (Nat.le_refl _) (.cells #[.int .u8 0, .int .u8 0, .int .u8 0, .int .u8 0] 5); have hr13 := row_zero4 w12)
    | (go_at_call 12; (with_reducible refine (refBytes_any _ _ _ _ _ _ _ _ _ (row_below hr12 hA12 rfl) hr13).mono ?_); rintro e w14 ⟨rfl, n14, rfl⟩))
  go_ret
  exact ⟨rfl, hB2.trans ((below_drewN (hb212.trans (hA12.mono hb212.size)) _).mono hB2.size)⟩
end Go.Proofs.YtdogdbibhmhooaaGreat

/- The document's Great of layer 13; what came in holds ints of 64 bits. -/
set_option linter.unusedVariables false
set_option linter.unusedSimpArgs false
set_option maxRecDepth 100000
namespace Go.Proofs.YtdogdbibhmhooaaGreat
open Go.RowKit Go.Shelf
def greatR (l : List TemplM) : Bool := decide (12 < l.length) || l.any greatT
theorem greatR_not {l : List TemplM} (h : greatR l = false) : l.length ≤ 12 ∧ ∀ t ∈ l, greatT t = false := by
  unfold greatR at h
  rw [Bool.or_eq_false_iff, decide_eq_false_iff_not, List.any_eq_false] at h
  exact ⟨by omega, fun t ht => by have := h.2 t ht; simpa using this⟩
set_option maxHeartbeats 4000000 in
theorem refGreat13_any (a : Option Addr) (cap : Nat) (l : List TemplM) (w : World) (hr : TemplRow w a cap l) :
    Calls Tryz.prog 9 #[.slice a l.length cap] w fun e w' => e = .returned (.bool (greatR l)) ∧ Below w.heap.size w w' := by
  unfold greatR
  obtain ⟨n, hn⟩ : ∃ n, l.length = n := ⟨_, rfl⟩
  obtain ⟨B, hB⟩ : ∃ B, (decide (12 < l.length) || l.any greatT) = B := ⟨_, rfl⟩
  rw [hB]
  have HR := Lib.hid hr; have HN := Lib.hid hn; have HB := Lib.hid hB
  rw [hn] at hB ⊢
  clear hr hn
  by_cases h12 : 12 < n
  · have hb : B = true := by rw [← hB, decide_eq_true h12]; rfl
    subst hb
    have d1 : decide ((n : Int) > 12) = true := by simp; omega
    have d2 : decide ((12 : Int) < (n : Int)) = true := by simp; omega
    clear hB
    go_enter Tryz.func9, Tryz.ntmps9
    go_wp2
    go_ret
    exact ⟨rfl, Below.refl _ _⟩
  · have d1 : decide ((n : Int) > 12) = false := by simp; omega
    have d2 : decide ((12 : Int) < (n : Int)) = false := by simp; omega
    have hn12 : n ≤ 12 := by omega
    rw [decide_eq_false h12, Bool.false_or] at hB
    have HA := Lib.hid hB
    clear hB h12
    go_enter Tryz.func9, Tryz.ntmps9
    go_wp2
    go_loopw [3] (fun i wr => ∃ k : Nat, k ≤ n ∧ i = .int .i64 k ∧ Below w.heap.size w wr ∧ Hid (∀ j t, j < k → l[j]? = some t → greatT t = false)) (fun i _ => n - (intOf i).toNat)
    case atStart => exact ⟨0, Nat.zero_le _, rfl, Below.refl _ _, Lib.hid (fun j y hj => by omega)⟩
    case round =>
      obtain ⟨k, hk, rfl, hbw, HE⟩ := hrel
      rcases Nat.lt_or_ge k n with hlt | hge
      · have hd : decide ((k : Int) < (n : Int)) = true := by simp; omega
        have hnl := HN.out
        obtain ⟨y, hy⟩ : ∃ y, l[k]? = some y := ⟨l[k], List.getElem?_eq_getElem (by omega)⟩
        obtain ⟨sb, so, rfl, hrow⟩ : ∃ b off, a = some ⟨b, off, none⟩ ∧ ∀ i s, l[i]? = some s → TemplAt w b (off + i * 3) s := by
          rcases HR.out.2.2 with h | h
          · subst h; simp at hnl; omega
          · exact h
        obtain ⟨la, lc, oa, oc, ⟨g0, g1, g2⟩, hsn, hst⟩ := templAt_form (hrow k y hy)
        have y0 := cell_below hbw g0
        have y1 := cell_below hbw g1
        have y2 := cell_below hbw g2
        have HX := Lib.hid (refGreat10_any y wr _ (isTempl_below hbw hst))
        obtain ⟨R, hR⟩ : ∃ R, greatT y = R := ⟨_, rfl⟩
        rw [hR] at HX
        have HY := Lib.hid hy; have HRR := Lib.hid hR
        clear hy hR hst hsn hrow hnl g0 g1 g2
        cases R with
        | true =>
          have hb0 : B = true := by rw [← HA.out]; exact any_at _ _ k y HY.out HRR.out
          subst hb0
          go_wp2_with (go_at_call 27; (with_reducible refine (HX.out).mono ?_); rintro e w1 ⟨rfl, hB1⟩)
          go_ret
          exact ⟨rfl, hbw.trans (hB1.mono hbw.size)⟩
        | false =>
          go_wp2_with (go_at_call 27; (with_reducible refine (HX.out).mono ?_); rintro e w1 ⟨rfl, hB1⟩)
          go_roundw
          case rel => exact ⟨k + 1, by omega, by go_num, hbw.trans (hB1.mono hbw.size), Lib.hid (fun j z hj hz => by
            rcases Nat.lt_or_ge j k with h | h
            · exact HE.out j z h hz
            · obtain rfl : j = k := by omega
              rw [HY.out] at hz
              cases hz
              exact HRR.out)⟩
          case measure => simp [intOf]; omega
      · obtain rfl : k = n := by omega
        have hd : decide ((k : Int) < (k : Int)) = false := by simp
        have hb0 : B = false := by rw [← HA.out]; exact any_take _ _ fun q x hx => HE.out q x (by have h3 := (List.getElem?_eq_some_iff.1 hx).1; have h4 := HN.out; omega) hx
        subst hb0
        go_wp2
        go_ret
        exact ⟨rfl, hbw⟩
/-- what lies in memory holds ints of 64 bits -/
theorem nums_row {w : World} {a : Option Addr} {cap : Nat} {l : List TemplM} (h : TemplRow w a cap l) : ∀ t ∈ l, Rg.NumsT t := fun t ht => by
  obtain ⟨i, hi⟩ := List.mem_iff_getElem?.1 ht
  rcases h.2.2 with h | ⟨b, off, _, hc⟩
  · subst h; simp at hi
  · obtain ⟨sa, sc, ta, tc, _, _, h2, h3⟩ := hc i t hi
    constructor
    · intro s hs
      obtain ⟨j, hj⟩ := List.mem_iff_getElem?.1 hs
      rcases h2.2.2 with h | ⟨b, off, _, hc⟩
      · rw [h] at hj; simp at hj
      · obtain ⟨c0, c1, c2, c3, c4, c5, c6, _, h7⟩ := hc j s hj
        exact nums_is _ _ h7.2.2.2.2.2
    · intro s hs
      obtain ⟨j, hj⟩ := List.mem_iff_getElem?.1 hs
      rcases h3.2.2 with h | ⟨b, off, _, hc⟩
      · rw [h] at hj; simp at hj
      · obtain ⟨oa, oc, _, _, _, h7, _⟩ := hc j s hj
        obtain ⟨c0, c1, c2, c3, c4, c5, c6, _, h7⟩ := h7
        exact nums_is _ _ h7.2.2.2.2.2
theorem great_asked {l : List TemplM} (h : greatR l = false) : l.length ≤ 100000 ∧ Asked l := by
  have := greatR_not h
  exact ⟨by omega, asked_great this.2⟩
/-- a right registry's bytes, and of none -/
theorem putIf_len {l : List TemplM} : ((Rg.putIf l).length : Int) = 0 ↔ Rg.right l = false := by
  unfold Rg.putIf
  by_cases h : Rg.right l = true
  · rw [if_pos h, h]
    have : 0 < (Rg.putR l).length := by
      unfold Rg.putR Rg.nuB
      rw [List.length_append]
      have h6 := ((Rg.right_iff l).1 h).1
      rw [spn_in _ _ _ (by omega) (by omega), Bn.spl_len]
      omega
    constructor
    · intro h; omega
    · intro h; cases h
  · rw [if_neg h]
    simp only [Bool.not_eq_true] at h
    simp [h]
theorem putIf_right {l : List TemplM} (h : Rg.right l = true) : Rg.putIf l = Rg.putR l := by unfold Rg.putIf; rw [if_pos h]
theorem putR_small {l : List TemplM} (h : Rg.right l = true) : (Rg.putR l).length ≤ 100000000 := by
  obtain ⟨h1, h2⟩ := rgRight_small h
  unfold Rg.putR Rg.nuB
  have h3 := Rg.spn_len (l.length : Int) 2147483647 4
  have h4 := Rg.flat_len l Rg.templB 2000000 fun t ht => Rg.templB_len (h2 t ht)
  rw [List.length_append]
  omega
end Go.Proofs.YtdogdbibhmhooaaGreat
