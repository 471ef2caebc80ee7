/- Layer 15: the document's examples. -/
import Derived.Test.YtcicjpdjbfgbhaaDoorMh39Cell
import Derived.Test.YtcicjpdjbfgbhaaDoorMh44Cell
import Derived.Test.YtcicjpdjbfgbhaaDoorMh14Cell
import Derived.Test.YtcicjpdjbfgbhaaDoorMh0Cell
import Derived.Deep.DeepCutAuto
set_option linter.unusedVariables false
set_option linter.unusedSimpArgs false
set_option maxRecDepth 100000
namespace Go.Proofs.YtcicjpdjbfgbhaaDoor
open Go.RowKit Go.Shelf
/-- a slot of types alone -/
def tySlot (ty : Int) : SlotM := ⟨⟨#[]⟩, ty, false, .mk 0 0 ⟨#[]⟩ []⟩
theorem tySlot_is (W : World) (ty : Int) (h : I64 ty) : IsSlot W (tySlot ty) (.agg #[.string ⟨#[]⟩, .int .i64 ty, .bool false, .int .i64 0, .int .i64 0, .string ⟨#[]⟩, .slice none 0 0]) := by
  refine ⟨_, _, _, _, _, _, _, rfl, Nat.zero_le _, h, rfl, rfl, rfl, ?_⟩
  exact fresh_none W.heap.size W W (fun _ _ _ => rfl)
abbrev nullB : ByteArray := ⟨#[110, 117, 108, 108]⟩
def symA : PV := .mk 3 0 ⟨#[97]⟩ []
def strN : PV := .mk 4 0 nullB []
def nilN : PV := .mk 0 0 ⟨#[]⟩ []
def int5 : PV := .mk 2 5 ⟨#[]⟩ []
theorem symA_right : rightV symA = true := by decide +kernel
theorem symA_ok : okV symA = true := by decide +kernel
theorem symA_of : ofE symA = 0 := ofE_right.2 symA_right
theorem f16_fit : Sc.fits 16 strN = true := by decide +kernel
theorem f17_fit : Sc.fits 17 nilN = true := by decide +kernel
theorem f4_fit : Sc.fits 4 int5 = true := by decide +kernel
theorem num_flat (k n : Int) (s : ByteArray) (h : I64 n) : numsV (.mk k n s []) := by unfold numsV numsV.numsL; exact ⟨h, trivial⟩
theorem f16_text : fieldT 16 strN = nullB := by
  unfold fieldT
  rw [if_pos f16_fit]
  rfl
theorem f17_text : fieldT 17 nilN = nullB := by
  unfold fieldT
  rw [if_pos f17_fit, if_neg (by decide)]
  unfold nilN
  rw [text0]
  rfl
theorem f4_text : fieldT 4 int5 = ⟨#[53]⟩ := by
  unfold fieldT
  rw [if_pos f4_fit, if_neg (by decide)]
  unfold int5
  rw [text2]
  rw [show M.prt 5 = [53] by decide +kernel]
  rfl
theorem off16 : ofField 16 nullB = (strN, 0) := by
  have h := of_field f16_fit (num_flat 4 0 nullB (by unfold I64; omega))
  rwa [f16_text] at h
theorem off17 : ofField 17 nullB = (nilN, 0) := by
  have h := of_field f17_fit (num_flat 0 0 ⟨#[]⟩ (by unfold I64; omega))
  rwa [f17_text] at h
theorem symJ_text : strOfNums (txJ (jOf symA)) = ⟨#[123, 34, 115, 121, 109, 34, 58, 34, 97, 34, 125]⟩ := by
  rw [show txJ (jOf symA) = [123, 34, 115, 121, 109, 34, 58, 34, 97, 34, 125] by decide +kernel]
  rfl
theorem symJ_len : (txJ (jOf symA)).length ≤ 1000000000 := by
  rw [show txJ (jOf symA) = [123, 34, 115, 121, 109, 34, 58, 34, 97, 34, 125] by decide +kernel]
  simp
theorem symJ_pr : PrJ (jOf symA) := by
  unfold symA
  rw [jOf3]
  refine .mk _ _ _ _ _ (fun h => by cases h) (fun _ => ⟨rfl, fun t ht => ?_⟩) (fun x hx => ?_)
  · simp only [List.mem_singleton] at ht
    subst ht
    exact ⟨by decide, by decide +kernel⟩
  · simp only [List.mem_singleton] at hx
    subst hx
    exact .mk _ _ _ _ _ (fun _ => ⟨by decide, by decide +kernel⟩) (fun h => by cases h) (fun x hx => by simp at hx)
/-- the cells of what is flat -/
theorem flat_form {W : World} {k n : Int} {s : ByteArray} {k' n' : Int} {s' : ByteArray} {a : Option Addr} {len cap : Nat} (h : Is W (.mk k n s []) (.agg #[.int .i64 k', .int .i64 n', .string s', .slice a len cap])) : k' = k ∧ n' = n ∧ s' = s := by
  unfold Is at h
  obtain ⟨_, _, _, _, _, e, _⟩ := h
  simp only [Value.agg.injEq, Array.mk.injEq, List.cons.injEq, Value.int.injEq, Value.string.injEq, true_and] at e
  exact ⟨e.1, e.2.1, e.2.2.1⟩
set_option maxHeartbeats 8000000 in
theorem ceAlive_any (w : World) (hK : KindsAt w) (hB : BareAt w) : Calls Tryd.prog 4 #[] w fun e w' => e = .returned (.bool true) ∧ Below w.heap.size w w' := by
  have hSy := fun W => symbol_any ⟨#[97]⟩ W
  have hTJ := fun W x hi => toJson_any symA symA_right W x hi
  have hPr := fun W X hi => jPrint_ok (jOf symA) symJ_pr (jOf_right symA symA_ok) (by have := jOf_sz symA; simp [symA, szV, szL] at this ⊢; omega) symJ_len W X hi
  rw [symJ_text] at hPr
  have hOf := fun W X hK hi => ofJson_any symA symA_ok (by simp [symA, szV, szL]) W X hK hi
  have h16 := fun W hB => ofField_any (tySlot 16) (by decide) nullB (by decide) W _ hB (tySlot_is W 16 (by unfold I64; omega))
  have h17 := fun W hB => ofField_any (tySlot 17) (by decide) nullB (by decide) W _ hB (tySlot_is W 17 (by unfold I64; omega))
  have e16 : (tySlot 16).ty = 16 := rfl
  have e17 : (tySlot 17).ty = 17 := rfl
  have e4 : (tySlot 4).ty = 4 := rfl
  rw [e16] at h16
  rw [e17] at h17
  have hIn := fun W => int_any 5 W
  have hTo := fun W Y hB hY => toField_any (tySlot 4) int5 (by decide) (by simp [int5, szV, szL]) (fun _ => by unfold int5; rw [text2, show M.prt 5 = [53] by decide +kernel]; simp) W _ Y hB (tySlot_is W 4 (by unfold I64; omega)) hY
  rw [e4, f4_text] at hTo
  unfold OffC at h16 h17
  rw [off16] at h16
  rw [off17] at h17
  unfold OfC at hOf
  rw [symA_of] at hOf
  have HTJ := Lib.hid hTJ; have HPR := Lib.hid hPr; have HOF := Lib.hid hOf; have H16 := Lib.hid h16; have H17 := Lib.hid h17; have HTO := Lib.hid hTo
  have HI5 : ∀ W, Is W int5 (.agg #[.int .i64 2, .int .i64 5, .string ⟨#[]⟩, .slice none 0 0]) := fun W => by
    unfold int5 Is
    exact ⟨by unfold I64; omega, by unfold I64; omega, by unfold maxLen; decide, none, 0, rfl, Nat.le_refl _, by unfold maxLen; omega, .inl rfl⟩
  have HSA : ∀ W, Is W symA (.agg #[.int .i64 3, .int .i64 0, .string ⟨#[97]⟩, .slice none 0 0]) := fun W => by
    unfold symA Is
    exact ⟨by unfold I64; omega, by unfold I64; omega, by unfold maxLen; decide, none, 0, rfl, Nat.le_refl _, by unfold maxLen; omega, .inl rfl⟩
  clear hTJ hPr hOf h16 h17 hTo e16 e17 e4
  go_enter Tryd.func4, Tryd.ntmps4
  go_wp2_with (first
    | (go_at_call 13; (with_reducible refine (hSy _).mono ?_); rintro e w1 ⟨rfl, hb1⟩)
    | (go_at_call 7; (with_reducible refine (HTJ.out _ _ (HSA _)).mono ?_); rintro e w2 ⟨d0, d1, d2, d3, d4, d5, d6, d7, d8, rfl, hb2, hF2⟩; have hA2 := (Below.refl _ w2).alloc (Nat.le_refl _) (.cells #[.int .i64 d0, .int .i64 d1, .string d2, .slice d3 d4 d5, .slice d6 d7 d8] 30); have hC2 := (hb1.trans (hb2.mono hb1.size)).trans (hA2.mono (hb1.trans (hb2.mono hb1.size)).size); have hx2 := jat_alloc w2 #[.int .i64 d0, .int .i64 d1, .string d2, .slice d3 d4 d5, .slice d6 d7 d8]; have hJ := Lib.hid (fun W (hb : Below (w2.alloc (.cells #[.int .i64 d0, .int .i64 d1, .string d2, .slice d3 d4 d5, .slice d6 d7 d8] 30)).heap.size (w2.alloc (.cells #[.int .i64 d0, .int .i64 d1, .string d2, .slice d3 d4 d5, .slice d6 d7 d8] 30)) W) => isJ_below hb _ _ (isJ_below hA2 _ _ (hF2 w2 (fun _ _ _ => rfl)))); have hR := Below.refl (w2.alloc (.cells #[.int .i64 d0, .int .i64 d1, .string d2, .slice d3 d4 d5, .slice d6 d7 d8] 30)).heap.size (w2.alloc (.cells #[.int .i64 d0, .int .i64 d1, .string d2, .slice d3 d4 d5, .slice d6 d7 d8] 30)))
    | (go_at_call 14; (with_reducible refine (HPR.out _ _ (hJ.out _ hR)).mono ?_); rintro e w3 ⟨rfl, hb3⟩; have hR3 := hR.trans (hb3.mono hR.size); obtain ⟨⟨x0, x1, x2, x3, x4⟩, -⟩ := jbox5 (jat_below hb3 hx2))
    | (go_at_call 8; (with_reducible refine (HOF.out _ _ (kinds_below hK (hC2.trans (hR3.mono hC2.size))) (hJ.out _ hR3)).mono ?_); rintro e w4 ⟨a0, a1, a2, a3, a4, a5, rfl, hb4, hF4⟩; obtain ⟨rfl, rfl, rfl⟩ := flat_form (hF4 (by trivial) w4 (fun _ _ _ => rfl)); have hR4 := hR3.trans (hb4.mono hR3.size); have hR4' := hR4.alloc hR4.size (.cells #[.int .i64 3, .int .i64 0, .string ⟨#[97]⟩, .slice a3 a4 a5] 24); have hv4 := vat_alloc w4 #[.int .i64 3, .int .i64 0, .string ⟨#[97]⟩, .slice a3 a4 a5])
    | (go_at_call 15; first
      | ((with_reducible refine (H16.out _ (bare_below hB (hC2.trans (hR4'.mono hC2.size)))).mono ?_); rintro e w5 ⟨b0, b1, b2, b3, b4, b5, rfl, hb5, hF5⟩; obtain ⟨rfl, rfl, rfl⟩ := flat_form (hF5 w5 (fun _ _ _ => rfl)); have hR5 := hR4'.trans (hb5.mono hR4'.size); have hR5' := hR5.alloc hR5.size (.cells #[.int .i64 4, .int .i64 0, .string nullB, .slice b3 b4 b5] 24); have hv5 := vat_below ((Below.refl _ w5).alloc (Nat.le_refl _) (.cells #[.int .i64 4, .int .i64 0, .string nullB, .slice b3 b4 b5] 24)) (vat_below hb5 hv4); have hu5 := vat_alloc w5 #[.int .i64 4, .int .i64 0, .string nullB, .slice b3 b4 b5])
      | ((with_reducible refine (H17.out _ (bare_below hB (hC2.trans (hR5'.mono hC2.size)))).mono ?_); rintro e w6 ⟨c0, c1, c2, c3, c4, c5, rfl, hb6, hF6⟩; obtain ⟨rfl, rfl, rfl⟩ := flat_form (hF6 w6 (fun _ _ _ => rfl)); have hR6 := hR5'.trans (hb6.mono hR5'.size); have hR6' := hR6.alloc hR6.size (.cells #[.int .i64 0, .int .i64 0, .string ⟨#[]⟩, .slice c3 c4 c5] 24); have hB6 := (Below.refl _ w6).alloc (Nat.le_refl _) (.cells #[.int .i64 0, .int .i64 0, .string ⟨#[]⟩, .slice c3 c4 c5] 24); obtain ⟨⟨v0, v1, v2, v3⟩, -⟩ := box4 (vat_below hB6 (vat_below hb6 hv5)); obtain ⟨⟨u0, u1, u2, u3⟩, -⟩ := box4 (vat_below hB6 (vat_below hb6 hu5)); obtain ⟨⟨t0, t1, t2, t3⟩, -⟩ := box4 (vat_alloc w6 #[.int .i64 0, .int .i64 0, .string ⟨#[]⟩, .slice c3 c4 c5])))
    | (go_at_call 16; (with_reducible refine (hIn _).mono ?_); rintro e w7 ⟨rfl, hb7⟩; have hR7 := hR6'.trans (hb7.mono hR6'.size))
    | (go_at_call 11; (with_reducible refine (HTO.out _ _ (bare_below hB (hC2.trans (hR7.mono hC2.size))) (HI5 _)).mono ?_); rintro e w8 ⟨rfl, hb8⟩))
  go_ret
  exact ⟨rfl, hC2.trans ((hR7.trans (hb8.mono hR7.size)).mono hC2.size)⟩
end Go.Proofs.YtcicjpdjbfgbhaaDoor

/- The program's Same: a thing is the same as itself, wherever the two lie. -/
set_option linter.unusedVariables false
namespace Go.Proofs.YtcicjpdjbfgbhaaDoor
open Go.RowKit Go.Shelf
set_option maxHeartbeats 4000000 in
theorem equalNames_any (a a' : Option Addr) (c c' : Nat) (ns : List ByteArray) (w : World) (hu : NRow w a c ns) (hv : NRow w a' c' ns) :
    Calls Tryd.prog 26 #[.slice a ns.length c, .slice a' ns.length c'] w fun e w' => e = .returned (.bool true) ∧ Below w.heap.size w w' := by
  obtain ⟨h1, h2, _, hx⟩ := hu
  obtain ⟨h1', h2', _, hx'⟩ := hv
  have hm : ns.length ≤ maxLen := Nat.le_trans h1 h2
  unfold maxLen at hm
  go_enter Tryd.func26, Tryd.ntmps26
  go_wp2_with fail
  go_loopw [5, 13] (fun _ i wr => ∃ q : Nat, i = .int .i64 (q : Int) ∧ q ≤ ns.length ∧ Below w.heap.size w wr) (fun _ i _ => ns.length - (intOf i).toNat)
  case atStart => exact ⟨0, rfl, Nat.zero_le _, Below.refl _ _⟩
  case round =>
  obtain ⟨q, rfl, hq, hB⟩ := hrel
  rcases Nat.lt_or_ge q ns.length with hlt | hge
  · have hd : decide (q < ns.length) = true := by simpa using hlt
    have hne : ns ≠ [] := fun h => by rw [h] at hlt; simp at hlt
    obtain ⟨b, off, rfl, hc⟩ := hx.resolve_left hne
    obtain ⟨b', off', rfl, hc'⟩ := hx'.resolve_left hne
    obtain ⟨t, ht⟩ : ∃ t, ns[q]? = some t := ⟨_, List.getElem?_eq_getElem hlt⟩
    have z0 := cellJ_below hB (hc q t ht)
    have z1 := cellJ_below hB (hc' q t ht)
    clear hx hx' hc hc' hne ht
    go_wp2
    go_region
    all_goals go_wp2
    all_goals
      go_roundw
      case rel => exact ⟨q + 1, by go_num, hlt, hB.drew⟩
      case measure => simp [intOf]; omega
  · have hd : decide (q < ns.length) = false := by simpa using hge
    go_wp2
    go_ret
    exact ⟨rfl, hB⟩
set_option maxHeartbeats 4000000 in
theorem equalThings_any (l : List JV) (ih : ∀ y ∈ l, ∀ w u v, IsJ w y u → IsJ w y v → Calls Tryd.prog 10 #[u, v] w fun e w' => e = .returned (.bool true) ∧ Below w.heap.size w w')
    (w : World) (a a' : Option Addr) (c c' : Nat) (h4 : l.length ≤ c) (h5 : c ≤ maxLen) (h6 : l = [] ∨ ∃ b off, a = some ⟨b, off, none⟩ ∧ IsJL w b l off) (h6' : l = [] ∨ ∃ b off, a' = some ⟨b, off, none⟩ ∧ IsJL w b l off) :
    Calls Tryd.prog 27 #[.slice a l.length c, .slice a' l.length c', .func (.func 10) #[] #[]] w fun e w' => e = .returned (.bool true) ∧ Below w.heap.size w w' := by
  have hm : l.length ≤ maxLen := Nat.le_trans h4 h5
  unfold maxLen at hm
  have HI := Lib.hid ih; clear ih
  go_enter Tryd.func27, Tryd.ntmps27
  go_wp2_with fail
  go_loopw [7, 8, 9, 17] (fun _ _ _ i wr => ∃ q : Nat, i = .int .i64 (q : Int) ∧ q ≤ l.length ∧ Below w.heap.size w wr) (fun _ _ _ i _ => l.length - (intOf i).toNat)
  case atStart => exact ⟨0, rfl, Nat.zero_le _, Below.refl _ _⟩
  case round =>
  obtain ⟨q, rfl, hq, hB⟩ := hrel
  rcases Nat.lt_or_ge q l.length with hlt | hge
  · have hd : decide (q < l.length) = true := by simpa using hlt
    have hne : l ≠ [] := fun h => by rw [h] at hlt; simp at hlt
    obtain ⟨b, off, rfl, hc⟩ := h6.resolve_left hne
    obtain ⟨b', off', rfl, hc'⟩ := h6'.resolve_left hne
    obtain ⟨y, hy⟩ : ∃ y, l[q]? = some y := ⟨_, List.getElem?_eq_getElem hlt⟩
    have hcall := fun w u v => HI.out y (List.mem_of_getElem? hy) w u v
    cases y with
    | mk yk yn ys yns yl =>
    obtain ⟨na, nc, ya, yc, ⟨g0, g1, g2, g3, g4⟩, hi⟩ := isJL_val (isJL_below hB hc) q _ _ _ _ _ hy
    obtain ⟨na', nc', ya', yc', ⟨p0, p1, p2, p3, p4⟩, hi'⟩ := isJL_val (isJL_below hB hc') q _ _ _ _ _ hy
    have HC := Lib.hid hcall; have HI1 := Lib.hid hi; have HI2 := Lib.hid hi'
    have hA1 := (Below.refl _ wr).alloc (Nat.le_refl _) (jobj yk yn ys na yns.length nc ya yl.length yc)
    have hA2 := hA1.alloc (by simp) (jobj yk yn ys na' yns.length nc' ya' yl.length yc')
    have r0 := cellJ_below hA1 p0; have r1 := cellJ_below hA1 p1; have r2 := cellJ_below hA1 p2; have r3 := cellJ_below hA1 p3; have r4 := cellJ_below hA1 p4
    clear h6 h6' hc hc' hne hy hcall hi hi'
    go_wp2_with (go_at_call 10; (with_reducible refine (HC.out _ _ _ (isJ_below hA2 _ _ HI1.out) (isJ_below hA2 _ _ HI2.out)).mono ?_); rintro e w' ⟨rfl, hb⟩)
    go_roundw
    case rel => exact ⟨q + 1, by go_num, hlt, hB.trans ((hA2.trans (hb.mono hA2.size)).mono hB.size)⟩
    case measure => simp [intOf]; omega
  · have hd : decide (q < l.length) = false := by simpa using hge
    go_wp2
    go_ret
    exact ⟨rfl, hB⟩
set_option maxHeartbeats 4000000 in
theorem same8_refl (v : JV) : ∀ w x y, IsJ w v x → IsJ w v y → Calls Tryd.prog 10 #[x, y] w fun e w' => e = .returned (.bool true) ∧ Below w.heap.size w w' := by
  induction v using jv_ind with
  | h k m s ns l ih =>
    intro w x y hx hy
    unfold IsJ at hx hy
    obtain ⟨_, _, _, na, nc, a, cap, rfl, hn, h4, h5, h6⟩ := hx
    obtain ⟨_, _, _, na', nc', a', cap', rfl, hn', h4', h5', h6'⟩ := hy
    have hA1 := (Below.refl _ w).alloc (Nat.le_refl _) (jobj k m s na ns.length nc a l.length cap)
    have hA2 := hA1.alloc (by simp) (jobj k m s na' ns.length nc' a' l.length cap')
    have hEN := fun W hu hv => equalNames_any na na' nc nc' ns W hu hv
    have hET := fun W h h' => equalThings_any l ih W a a' cap cap' h4 h5 h h'
    have HN := Lib.hid (nrow_below hA2 hn); have HN' := Lib.hid (nrow_below hA2 hn')
    have keep : ∀ {W : World} {a : Option Addr}, Below w.heap.size w W → (l = [] ∨ ∃ b off, a = some ⟨b, off, none⟩ ∧ IsJL w b l off) → (l = [] ∨ ∃ b off, a = some ⟨b, off, none⟩ ∧ IsJL W b l off) := fun hb h => h.imp id fun ⟨b, off, ha, hl⟩ => ⟨b, off, ha, isJL_below hb hl⟩
    have H6 := Lib.hid h6; have H6' := Lib.hid h6'
    have KEEP : ∀ {W : World}, Below w.heap.size w W → Hid (l = [] ∨ ∃ b off, a = some ⟨b, off, none⟩ ∧ IsJL W b l off) ∧ Hid (l = [] ∨ ∃ b off, a' = some ⟨b, off, none⟩ ∧ IsJL W b l off) := fun hb => ⟨Lib.hid (keep hb H6.out), Lib.hid (keep hb H6'.out)⟩
    clear ih h6 h6' hn hn' keep
    go_enter Tryd.func10, Tryd.ntmps10
    go_wp2_with (first
      | (go_at_call 26; (with_reducible refine (hEN _ HN.out HN'.out).mono ?_); rintro e w1 ⟨rfl, hb1⟩; have hB1 := hA2.trans (hb1.mono hA2.size); have e4 := cellJ_below hb1 (p := ⟨w.heap.size, 4, none⟩) (v := .slice a l.length cap) (by simp); have f4 := cellJ_below hb1 (p := ⟨w.heap.size + 1, 4, none⟩) (v := .slice a' l.length cap') (by simp))
      | (go_at_call 27; (with_reducible refine (hET _ (KEEP hB1).1.out (KEEP hB1).2.out).mono ?_); rintro e w2 ⟨rfl, hb2⟩; have hB2 := hB1.trans (hb2.mono hB1.size)))
    go_ret
    exact ⟨rfl, hB2⟩
end Go.Proofs.YtcicjpdjbfgbhaaDoor
