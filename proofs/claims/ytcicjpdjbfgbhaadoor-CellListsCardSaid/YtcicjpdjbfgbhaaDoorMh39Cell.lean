/- Layer 15: ToField, OfField. -/
import Derived.Test.YtcicjpdjbfgbhaaDoorMh38Cell
import Derived.Test.YtcicjpdjbfgbhaaDoorMh2Cell
import Derived.Test.YtcicjpdjbfgbhaaDoorMh6Cell
set_option linter.unusedVariables false
set_option linter.unusedSimpArgs false
set_option maxRecDepth 100000
namespace Go.Proofs.YtcicjpdjbfgbhaaDoor
open Go.RowKit Go.Shelf
theorem say_sz (ty : Int) (s : ByteArray) (h : (sayT ty s).2 = 0) : szV (sayT ty s).1 ≤ 100 := by
  unfold sayT at h ⊢
  split
  · split
    · simp [szV, szL]
    · simp [bareV, szV, szL]
  · rename_i hb
    rw [if_neg hb] at h
    obtain ⟨⟨v, x, e⟩, hT⟩ : ∃ T, Vt.parse (strB s) = T := ⟨_, rfl⟩
    rw [hT] at h ⊢
    simp only at h ⊢
    subst h
    exact (right_okC (Vt.parse_back hT).1).2.1
/-- what OfField comes to -/
def OffC (ty : Int) (s : ByteArray) (w : World) (e : Ending) (w' : World) : Prop := ∃ k n t a len cap, e = .returned (.tuple #[.agg #[.int .i64 k, .int .i64 n, .string t, .slice a len cap], .int .i64 (ofField ty s).2]) ∧ Below w.heap.size w w' ∧ FreshC Is w.heap.size w' (ofField ty s).1 (.agg #[.int .i64 k, .int .i64 n, .string t, .slice a len cap])
set_option maxHeartbeats 4000000 in
theorem ofField_any (sl : SlotM) (h0 : 0 ≤ sl.ty) (s : ByteArray) (hs : s.size ≤ 1000000) (w : World) (X : Value) (hB : BareAt w) (hX : IsSlot w sl X) : Calls Tryd.prog 15 #[X, .string s] w (OffC sl.ty s w) := by
  have hIS := fun W (hb : Below w.heap.size w W) => isSlot_below hb hX
  obtain ⟨k0, n0, t0, a0, len0, cap0, rfl, -, -, -⟩ := slot7_form hX
  have hsz := say_sz sl.ty s
  have hRd := fun W h => readF_any sl.nm t0 sl.ty sl.rq k0 n0 a0 len0 cap0 s hs W h
  unfold SayC at hRd
  have hF := fun v hv W Y h1 h2 => fits_any sl v hv h0 W (.agg #[.string sl.nm, .int .i64 sl.ty, .bool sl.rq, .int .i64 k0, .int .i64 n0, .string t0, .slice a0 len0 cap0]) Y h1 h2
  unfold OffC ofField
  obtain ⟨⟨V, er⟩, hV⟩ : ∃ T, sayT sl.ty s = T := ⟨_, rfl⟩
  rw [hV] at hsz hRd ⊢
  simp only at hsz hRd ⊢
  obtain ⟨nm, hnm⟩ : ∃ z, sl.nm = z := ⟨_, rfl⟩
  obtain ⟨ty, hty⟩ : ∃ z, sl.ty = z := ⟨_, rfl⟩
  obtain ⟨rq, hrq⟩ : ∃ z, sl.rq = z := ⟨_, rfl⟩
  rw [hnm, hty, hrq] at hF hIS hRd
  rw [hnm, hty, hrq]
  have hA1 := (Below.refl _ w).alloc (Nat.le_refl _) (.cells #[.string nm, .int .i64 ty, .bool rq, .int .i64 k0, .int .i64 n0, .string t0, .slice a0 len0 cap0] 39)
  have hA2 := hA1.alloc hA1.size (.cells vzero 24)
  have hz2 := vat_alloc (w.alloc (.cells #[.string nm, .int .i64 ty, .bool rq, .int .i64 k0, .int .i64 n0, .string t0, .slice a0 len0 cap0] 39)) vzero
  rw [World.size_alloc] at hz2
  have hx2 := ca_below (ca7 w #[.string nm, .int .i64 ty, .bool rq, .int .i64 k0, .int .i64 n0, .string t0, .slice a0 len0 cap0]) ((Below.refl _ _).alloc (Nat.le_refl _) (.cells vzero 24))
  obtain ⟨x0, x1, x2, x3, x4, x5, x6⟩ := sbox7 hx2
  have HRD := Lib.hid hRd; have HFT := Lib.hid hF; have HIS := Lib.hid hIS; have HSZ := Lib.hid hsz
  clear hRd hF hIS hsz hnm hty hrq hV hX
  by_cases he : er = 0
  · subst he
    have hvs := HSZ.out rfl
    have HF2 := Lib.hid (fun W Y h1 h2 => HFT.out V (by omega) W Y h1 h2)
    simp only [ne_eq, not_true_eq_false, if_false]
    cases hf : Sc.fits ty V with
    | false =>
      rw [hf] at HF2
      simp only [Bool.false_eq_true, if_false]
      go_enter Tryd.func15, Tryd.ntmps15
      go_wp2_with (first
        | (go_at_call 33; (with_reducible refine (HRD.out _ (bare_below hB hA2)).mono ?_); rintro e w3 ⟨d0, d1, d2, d3, d4, d5, rfl, hb3, hF3⟩; have hA3 := hA2.trans (hb3.mono hA2.size); have hB4 := (Below.refl _ w3).alloc (Nat.le_refl _) (.cells #[.int .i64 d0, .int .i64 d1, .string d2, .slice d3 d4 d5] 24); have hA4 := hA3.trans (hB4.mono hA3.size); have hz4 := vat_below hB4 (vat_below hb3 hz2); have hv4 := vat_alloc w3 #[.int .i64 d0, .int .i64 d1, .string d2, .slice d3 d4 d5]; have hx4 := ca_below (ca_below hx2 hb3) hB4; obtain ⟨⟨v0, v1, v2, v3⟩, -⟩ := box4 hv4; obtain ⟨x0, x1, x2, x3, x4, x5, x6⟩ := sbox7 hx4; have hI4 := hF3 _ (fun b b1 b2 => hB4.block b b2))
        | (go_at_call 28; (with_reducible refine (HF2.out _ _ (HIS.out _ hA4) hI4).mono ?_); rintro e w6 ⟨rfl, hb6⟩; have hz6 := vat_below hb6 hz4; obtain ⟨⟨r0, r1, r2, r3⟩, t0', t1', t2', t3'⟩ := box4 hz6))
      exact bodyPost_ret (results_cell_tmp15 Tryd.results15 _ _ (w.heap.size + 1) _ _ _ _ rfl (vat_set4 hz6 _ _ _ _) Tryd.underlying24 rfl val_size15) rfl ⟨_, _, _, _, _, _, rfl, below_set4 (hA4.trans (hb6.mono hA4.size)) (by omega) _ _ _ _ _ _ _ _, fresh_none _ _⟩
    | true =>
      rw [hf] at HF2
      simp only [if_true]
      go_enter Tryd.func15, Tryd.ntmps15
      go_wp2_with (first
        | (go_at_call 33; (with_reducible refine (HRD.out _ (bare_below hB hA2)).mono ?_); rintro e w3 ⟨d0, d1, d2, d3, d4, d5, rfl, hb3, hF3⟩; have hA3 := hA2.trans (hb3.mono hA2.size); have hB4 := (Below.refl _ w3).alloc (Nat.le_refl _) (.cells #[.int .i64 d0, .int .i64 d1, .string d2, .slice d3 d4 d5] 24); have hA4 := hA3.trans (hB4.mono hA3.size); have hz4 := vat_below hB4 (vat_below hb3 hz2); have hv4 := vat_alloc w3 #[.int .i64 d0, .int .i64 d1, .string d2, .slice d3 d4 d5]; have hx4 := ca_below (ca_below hx2 hb3) hB4; obtain ⟨⟨v0, v1, v2, v3⟩, -⟩ := box4 hv4; obtain ⟨x0, x1, x2, x3, x4, x5, x6⟩ := sbox7 hx4; have hI4 := hF3 _ (fun b b1 b2 => hB4.block b b2))
        | (go_at_call 28; (with_reducible refine (HF2.out _ _ (HIS.out _ hA4) hI4).mono ?_); rintro e w6 ⟨rfl, hb6⟩; have hz6 := vat_below hb6 hz4; obtain ⟨⟨r0, r1, r2, r3⟩, t0', t1', t2', t3'⟩ := box4 hz6; have hv6 := vat_below hb6 hv4; obtain ⟨⟨v0, v1, v2, v3⟩, -⟩ := box4 hv6))
      have hs2 := hb3.size
      simp only [World.size_alloc] at hs2
      refine bodyPost_ret (results_cell_tmp15 Tryd.results15 _ _ (w.heap.size + 1) _ _ _ _ rfl (vat_set4 hz6 _ _ _ _) Tryd.underlying24 rfl val_size15) rfl ⟨_, _, _, _, _, _, rfl, below_set4 (hA4.trans (hb6.mono hA4.size)) (by omega) _ _ _ _ _ _ _ _, freshC_mono (freshC_later hF3 (by have := hb6.size; have := hB4.size; simp; omega) fun b b1 b2 => ?_) hA2.size⟩
      simp only [World.size_alloc] at b1
      rw [Below.heap_setCell _ _ _ b (by show b ≠ w.heap.size + 1; omega), Below.heap_setCell _ _ _ b (by show b ≠ w.heap.size + 1; omega), Below.heap_setCell _ _ _ b (by show b ≠ w.heap.size + 1; omega), Below.heap_setCell _ _ _ b (by show b ≠ w.heap.size + 1; omega)]
      exact (hb6.block b (by have := hB4.size; omega)).trans (hB4.block b b2)
  · have de : (er == 0) = false := by simpa using he
    have dn : (er != 0) = true := by simpa using he
    simp only [ne_eq, he, not_false_eq_true, if_true]
    go_enter Tryd.func15, Tryd.ntmps15
    go_wp2_with (first
      | (go_at_call 33; (with_reducible refine (HRD.out _ (bare_below hB hA2)).mono ?_); rintro e w3 ⟨d0, d1, d2, d3, d4, d5, rfl, hb3, hF3⟩; have hA3 := hA2.trans (hb3.mono hA2.size); have hB4 := (Below.refl _ w3).alloc (Nat.le_refl _) (.cells #[.int .i64 d0, .int .i64 d1, .string d2, .slice d3 d4 d5] 24); have hA4 := hA3.trans (hB4.mono hA3.size); have hz4 := vat_below hB4 (vat_below hb3 hz2); obtain ⟨⟨r0, r1, r2, r3⟩, t0', t1', t2', t3'⟩ := box4 hz4))
    exact bodyPost_ret (results_cell_tmp15 Tryd.results15 _ _ (w.heap.size + 1) _ _ _ _ rfl (vat_set4 hz4 _ _ _ _) Tryd.underlying24 rfl val_size15) rfl ⟨_, _, _, _, _, _, rfl, below_set4 hA4 (by omega) _ _ _ _ _ _ _ _, fresh_none _ _⟩
set_option maxHeartbeats 4000000 in
theorem toField_any (sl : SlotM) (v : PV) (h0 : 0 ≤ sl.ty) (hsz : szV v ≤ 1000000) (htx : Sc.fits sl.ty v = true → (textV v).length ≤ 1000000000) (w : World) (X Y : Value) (hB : BareAt w) (hX : IsSlot w sl X) (hY : Is w v Y) : Calls Tryd.prog 11 #[X, Y] w fun e w' => e = .returned (.string (fieldT sl.ty v)) ∧ Below w.heap.size w w' := by
  have hIS := fun W (hb : Below w.heap.size w W) => isSlot_below hb hX
  have hIV := fun W (hb : Below w.heap.size w W) => is_below hb _ _ hY
  obtain ⟨k0, n0, t0, a0, len0, cap0, rfl, -, -, -⟩ := slot7_form hX
  have hF := fun W h1 h2 => fits_any sl v hsz h0 W (.agg #[.string sl.nm, .int .i64 sl.ty, .bool sl.rq, .int .i64 k0, .int .i64 n0, .string t0, .slice a0 len0 cap0]) Y h1 h2
  have hT := fun hf W h => text_any v (htx hf) W Y h
  have hBK := fun W h => bareKind_any sl.nm t0 sl.ty sl.rq k0 n0 a0 len0 cap0 W h
  have hfb : Sc.fits sl.ty v = true → bareT sl.ty = true → ∃ s, v = .mk (if sl.ty = 16 then 4 else 3) 0 s [] ∧ s.size ≤ 200 := fits_bare
  unfold fieldT
  obtain ⟨nm, hnm⟩ : ∃ z, sl.nm = z := ⟨_, rfl⟩
  obtain ⟨ty, hty⟩ : ∃ z, sl.ty = z := ⟨_, rfl⟩
  obtain ⟨rq, hrq⟩ : ∃ z, sl.rq = z := ⟨_, rfl⟩
  rw [hnm, hty, hrq] at hF hIS hBK
  rw [hty] at hT
  rw [hty] at hfb
  rw [hnm, hty, hrq]
  cases v with
  | mk vk vn vs vl =>
  have hY2 := hY
  unfold Is at hY2
  obtain ⟨_, _, _, va, vc, rfl, _⟩ := hY2
  have hA1 := (Below.refl _ w).alloc (Nat.le_refl _) (.cells #[.string nm, .int .i64 ty, .bool rq, .int .i64 k0, .int .i64 n0, .string t0, .slice a0 len0 cap0] 39)
  have hA2 := hA1.alloc hA1.size (.cells #[.int .i64 vk, .int .i64 vn, .string vs, .slice va vl.length vc] 24)
  have hv2 := vat_alloc (w.alloc (.cells #[.string nm, .int .i64 ty, .bool rq, .int .i64 k0, .int .i64 n0, .string t0, .slice a0 len0 cap0] 39)) #[.int .i64 vk, .int .i64 vn, .string vs, .slice va vl.length vc]
  rw [World.size_alloc] at hv2
  have hx2 := ca_below (ca7 w #[.string nm, .int .i64 ty, .bool rq, .int .i64 k0, .int .i64 n0, .string t0, .slice a0 len0 cap0]) ((Below.refl _ _).alloc (Nat.le_refl _) (.cells #[.int .i64 vk, .int .i64 vn, .string vs, .slice va vl.length vc] 24))
  obtain ⟨x0, x1, x2, x3, x4, x5, x6⟩ := sbox7 hx2
  have HFT := Lib.hid hF; have HIS := Lib.hid hIS; have HIV := Lib.hid hIV; have HT := Lib.hid hT; have HBK := Lib.hid hBK
  clear hF hIS hIV hT hBK hnm hty hrq hX hY htx
  cases hf : Sc.fits ty (.mk vk vn vs vl) with
  | false =>
    rw [hf] at HFT
    simp only [Bool.false_eq_true, if_false]
    go_enter Tryd.func11, Tryd.ntmps11
    go_wp2_with (go_at_call 28; (with_reducible refine (HFT.out _ (HIS.out _ hA2) (HIV.out _ hA2)).mono ?_); rintro e w6 ⟨rfl, hb6⟩)
    go_ret
    exact ⟨rfl, hA2.trans (hb6.mono hA2.size)⟩
  | true =>
    rw [hf] at HFT HT
    simp only [if_true]
    cases hb : bareT ty with
    | false =>
      rw [hb] at HBK
      simp only [Bool.false_eq_true, if_false]
      generalize bareK ty = bk at *
      go_enter Tryd.func11, Tryd.ntmps11
      go_wp2_with (first
        | (go_at_call 28; (with_reducible refine (HFT.out _ (HIS.out _ hA2) (HIV.out _ hA2)).mono ?_); rintro e w6 ⟨rfl, hb6⟩; have hA6 := hA2.trans (hb6.mono hA2.size); have hx6 := ca_below hx2 hb6; have hv6 := vat_below hb6 hv2; obtain ⟨x0, x1, x2, x3, x4, x5, x6⟩ := sbox7 hx6)
        | (go_at_call 29; (with_reducible refine (HBK.out _ (bare_below hB hA6)).mono ?_); rintro e w7 ⟨rfl, hb7⟩; have hA7 := hA6.trans (hb7.mono hA6.size); obtain ⟨⟨v0, v1, v2, v3⟩, -⟩ := box4 (vat_below hb7 hv6))
        | (go_at_call 12; (with_reducible refine (HT.out trivial _ (HIV.out _ hA7)).mono ?_); rintro e w8 ⟨rfl, hb8⟩))
      go_ret
      exact ⟨rfl, hA7.trans (hb8.mono hA7.size)⟩
    | true =>
      rw [hb] at HBK
      obtain ⟨s, he, hs⟩ := hfb hf hb
      simp only [PV.mk.injEq] at he
      obtain ⟨-, -, rfl, -⟩ := he
      have hcl := fun W => clone_any vs W (by omega)
      simp only [if_true]
      generalize bareK ty = bk at *
      go_enter Tryd.func11, Tryd.ntmps11
      go_wp2_with (first
        | (go_at_call 28; (with_reducible refine (HFT.out _ (HIS.out _ hA2) (HIV.out _ hA2)).mono ?_); rintro e w6 ⟨rfl, hb6⟩; have hA6 := hA2.trans (hb6.mono hA2.size); have hx6 := ca_below hx2 hb6; have hv6 := vat_below hb6 hv2; obtain ⟨x0, x1, x2, x3, x4, x5, x6⟩ := sbox7 hx6)
        | (go_at_call 29; (with_reducible refine (HBK.out _ (bare_below hB hA6)).mono ?_); rintro e w7 ⟨rfl, hb7⟩; have hA7 := hA6.trans (hb7.mono hA6.size); obtain ⟨⟨v0, v1, v2, v3⟩, -⟩ := box4 (vat_below hb7 hv6))
        | (go_at_call 30; (with_reducible refine (hcl _).mono ?_); rintro e w8 ⟨rfl, hb8⟩))
      go_ret
      exact ⟨rfl, hA7.trans (hb8.mono hA7.size)⟩
end Go.Proofs.YtcicjpdjbfgbhaaDoor

/- Plain mathematics of JSON's tokens, as the program's layer 7 reads them: no program is mentioned here. -/
namespace Go.Proofs.YtcicjpdjbfgbhaaDoor
namespace K
def bl : List Int := [32, 9, 10, 13]
def dg : List Int := [48, 49, 50, 51, 52, 53, 54, 55, 56, 57]
def nb : List Int := dg ++ [45, 43, 46, 101, 69]
def lt : List Int := [65, 66, 67, 68, 69, 70, 71, 72, 73, 74, 75, 76, 77, 78, 79, 80, 81, 82, 83, 84, 85, 86, 87, 88, 89, 90, 97, 98, 99, 100, 101, 102, 103, 104, 105, 106, 107, 108, 109, 110, 111, 112, 113, 114, 115, 116, 117, 118, 119, 120, 121, 122]
def mk : List Int := [91, 93, 123, 125, 58, 44]
/-- the place behind the longest row of some bytes that begins at a place -/
def runTo (c l : List Int) (p : Nat) : Nat := p + ((l.drop p).takeWhile (List.contains c)).length
/-- the place behind a byte of some, if one stands at a place -/
def one (c l : List Int) (p : Nat) : Nat := if p < l.length ∧ c.contains (l[p]?.getD 0) = true then p + 1 else p
theorem runTo_step (c l : List Int) (p : Nat) (h : p < l.length) (hc : c.contains (l[p]?.getD 0) = true) : runTo c l p = runTo c l (p + 1) := by
  unfold runTo
  rw [List.drop_eq_getElem_cons h]
  rw [List.getElem?_eq_getElem h] at hc
  simp only [Option.getD_some] at hc
  rw [List.takeWhile_cons_of_pos hc]
  simp only [List.length_cons]; omega
theorem runTo_stop (c l : List Int) (p : Nat) (h : p < l.length → c.contains (l[p]?.getD 0) = false) : runTo c l p = p := by
  unfold runTo
  rcases Nat.lt_or_ge p l.length with hp | hp
  · have h := h hp
    rw [List.getElem?_eq_getElem hp] at h
    simp only [Option.getD_some] at h
    rw [List.drop_eq_getElem_cons hp, List.takeWhile_cons_of_neg (by show ¬ c.contains l[p] = true; rw [h]; exact Bool.false_ne_true)]; rfl
  · rw [List.drop_eq_nil_of_le hp]; simp
theorem tw_le (f : Int → Bool) (l : List Int) : (l.takeWhile f).length ≤ l.length := (List.takeWhile_prefix f).length_le
theorem runTo_le (c l : List Int) (p : Nat) (h : p ≤ l.length) : p ≤ runTo c l p ∧ runTo c l p ≤ l.length := by
  unfold runTo
  have := tw_le (List.contains c) (l.drop p)
  rw [List.length_drop] at this
  omega
/-- numbers of JSON: behind a fraction, if one stands there; none if it is broken -/
def frac (r : List Int) (a : Nat) : Option Nat := if one [46] r a = a then some a else if runTo dg r (a + 1) = a + 1 then none else some (runTo dg r (a + 1))
def expo (r : List Int) (b : Nat) : Option Nat := if one [101, 69] r b = b then some b else if runTo dg r (one [43, 45] r (b + 1)) = one [43, 45] r (b + 1) then none else some (runTo dg r (one [43, 45] r (b + 1)))
/-- where the whole part ends -/
def whole (r : List Int) : Nat := runTo dg r (one [45] r 0)
def isNum (r : List Int) : Bool :=
  if whole r = one [45] r 0 ∨ (r[one [45] r 0]?.getD 0 = 48 ∧ one [45] r 0 + 1 < whole r) then false
  else match frac r (whole r) with
    | none => false
    | some b => match expo r b with
      | none => false
      | some e => decide (e = r.length)
def number (r : List Int) : Int × Int :=
  if isNum r = false then (0, 2) else if whole r < r.length then (0, 5) else if r = [45, 48] then (0, 0) else M.parse r
/-- a digit in sixteen; -1: it is none -/
def hexv (x : Int) : Int := if 48 ≤ x ∧ x ≤ 57 then x - 48 else if 97 ≤ x ∧ x ≤ 102 then x - 87 else if 65 ≤ x ∧ x ≤ 70 then x - 55 else -1
def hex4 (a b c d : Int) : Int := if hexv a < 0 ∨ hexv b < 0 ∨ hexv c < 0 ∨ hexv d < 0 then -1 else ((hexv a * 16 + hexv b) * 16 + hexv c) * 16 + hexv d
/-- the number of the escape of four digits at a place; -1: there is none -/
def unit (l : List Int) (p : Nat) : Int :=
  if p + 6 ≤ l.length ∧ l[p]?.getD 0 = 92 ∧ l[p + 1]?.getD 0 = 117 then hex4 (l[p + 2]?.getD 0) (l[p + 3]?.getD 0) (l[p + 4]?.getD 0) (l[p + 5]?.getD 0) else -1
def esc1 (x : Int) : Option Int := if x = 34 ∨ x = 92 ∨ x = 47 then some x else if x = 98 then some 8 else if x = 102 then some 12 else if x = 110 then some 10 else if x = 114 then some 13 else if x = 116 then some 9 else none
/-- what the escape at a place means, and how many bytes it has; 0: it is none -/
def escU (l : List Int) (p : Nat) : List Int × Nat :=
  if unit l p < 0 then ([], 0) else if U.size (unit l p) ≠ 0 then (U.put (unit l p), 6) else
  if 56320 ≤ unit l p ∨ unit l (p + 6) < 56320 ∨ 57343 < unit l (p + 6) then ([], 0) else (U.put (65536 + (unit l p - 55296) * 1024 + unit l (p + 6) - 56320), 12)
def esc (l : List Int) (p : Nat) : List Int × Nat :=
  if p + 1 < l.length then match esc1 (l[p + 1]?.getD 0) with
    | some m => ([m], 2)
    | none => escU l p
  else escU l p
def pre (b : List Int) : Option (List Int) × Nat → Option (List Int) × Nat
  | (none, q) => (none, q)
  | (some o, q) => (some (b ++ o), q)
/-- a Text from behind its quotes on: what it means, and the place behind it; none: where it is wrong -/
def tx : Nat → List Int → Nat → Option (List Int) × Nat
  | 0, _, p => (none, p)
  | f + 1, l, p =>
    if l.length ≤ p then (none, p) else if l[p]?.getD 0 = 34 then (some [], p + 1) else
    if l[p]?.getD 0 = 92 then (if (esc l p).2 = 0 then (none, p) else pre (esc l p).1 (tx f l (p + (esc l p).2)))
    else if (getAt l p).2 = 0 ∨ (getAt l p).1 < 32 then (none, p) else pre ((l.drop p).take (getAt l p).2) (tx f l (p + (getAt l p).2))
def text (l : List Int) (p : Nat) : Option (List Int) × Nat := tx (l.length + 1) l p
structure Tok where
  kind : Int
  a : Int
  e : Int
  s : List Int
  n : Int
deriving DecidableEq
def zero : Tok := ⟨0, 0, 0, [], 0⟩
def isWord (r : List Int) : Bool := decide (r = [116, 114, 117, 101] ∨ r = [102, 97, 108, 115, 101] ∨ r = [110, 117, 108, 108])
def row (l : List Int) (p q : Nat) : List Int := (l.take q).drop p
/-- the token that begins at a place, the place behind it, OK; a zero one, where it is wrong, and the error -/
def tok (l : List Int) (p : Nat) : Tok × Nat × Int :=
  if l.length ≤ p then (⟨0, p, p, [], 0⟩, p, 0)
  else if l[p]?.getD 0 = 34 then (match text l (p + 1) with | (none, q) => (zero, q, 2) | (some o, q) => (⟨7, p, q, o, 0⟩, q, 0))
  else if l[p]?.getD 0 = 45 ∨ dg.contains (l[p]?.getD 0) = true then
    (if (number (row l p (runTo nb l p))).2 = 0 then (⟨8, p, runTo nb l p, [], (number (row l p (runTo nb l p))).1⟩, runTo nb l p, 0) else (zero, p, (number (row l p (runTo nb l p))).2))
  else if lt.contains (l[p]?.getD 0) = true then
    (if isWord (row l p (runTo lt l p)) = true then (⟨9, p, runTo lt l p, row l p (runTo lt l p), 0⟩, runTo lt l p, 0) else (zero, p, 2))
  else if mk.contains (l[p]?.getD 0) = true then (⟨1 + (mk.idxOf (l[p]?.getD 0) : Nat), p, (p + 1 : Nat), [], 0⟩, p + 1, 0)
  else (zero, p, 2)
def next (l : List Int) (p : Nat) : Tok × Nat × Int := tok l (runTo bl l p)
/-- all that Next answers, one behind the other, the last one End or an error -/
def items : Nat → List Int → Nat → List (Tok × Nat × Int)
  | 0, _, _ => []
  | f + 1, l, p => if (next l p).2.2 ≠ 0 ∨ (next l p).1.kind = 0 then [next l p] else next l p :: items f l (next l p).2.1
def its (l : List Int) : List (Tok × Nat × Int) := items (l.length + 1) l 0
def hexd (x : Int) : Int := if x < 10 then 48 + x else 87 + x
def q1 (x : Int) : List Int := if x = 34 ∨ x = 92 then [92, x] else if x < 32 then [92, 117, 48, 48, hexd (x / 16), hexd (x % 16)] else [x]
def quote (l : List Int) : List Int := if U.lastEnd (U.cds l.length l 0) = l.length then [34] ++ l.flatMap q1 ++ [34] else []
end K
end Go.Proofs.YtcicjpdjbfgbhaaDoor
