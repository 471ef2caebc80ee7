/- Layer 15: a value's field: the mathematics (no walk). -/
import Derived.Test.YtcicjpdjbfgbhaaGreatDoorMh19Cell
import Derived.Test.YtcicjpdjbfgbhaaGreatDoorMh36Cell
set_option linter.unusedVariables false
set_option linter.unusedSimpArgs false
namespace Go.Proofs.YtcicjpdjbfgbhaaGreatDoor
open Go.RowKit Go.Shelf
/-- the one kind whose values stand in a slot's fields as they are -/
def bareT (ty : Int) : Bool := decide (ty = 8) || decide (ty = 16)
/-- a value that fits a slot of one bare kind -/
theorem fits_bare {ty : Int} {v : PV} (h : Sc.fits ty v = true) (hb : bareT ty = true) : ∃ s, v = .mk (if ty = 16 then 4 else 3) 0 s [] ∧ s.size ≤ 200 := by
  simp only [Sc.fits, Bool.and_eq_true] at h
  obtain ⟨hr, hh⟩ := h
  obtain ⟨_, _, ho⟩ := Vt.right_ok hr
  cases v with
  | mk k n s l =>
  have hsz : ∀ s : ByteArray, nameB (strB s) = true → s.size ≤ 200 := fun s h => by
    simp [nameB] at h; have := h.1.1.2; rw [strB_len] at this; omega
  simp only [bareT, Bool.or_eq_true, decide_eq_true_eq] at hb
  rcases hb with rfl | rfl
  · have hk9 : Sc.has (Int.toNat 8) k.toNat = true := hh
    clear hh hr
    rcases okV_kind ho with rfl | rfl | rfl | rfl | rfl | rfl <;> first | (exact absurd hk9 (by decide)) | skip
    rw [okV3] at ho; simp only [Bool.and_eq_true, beq_iff_eq] at ho
    obtain ⟨⟨rfl, h2⟩, h3⟩ := ho
    obtain rfl := List.isEmpty_iff.1 h3
    exact ⟨s, rfl, hsz s h2⟩
  · have hk9 : Sc.has (Int.toNat 16) k.toNat = true := hh
    clear hh hr
    rcases okV_kind ho with rfl | rfl | rfl | rfl | rfl | rfl <;> first | (exact absurd hk9 (by decide)) | skip
    rw [okV4] at ho; simp only [Bool.and_eq_true, beq_iff_eq, decide_eq_true_eq] at ho
    obtain ⟨⟨⟨rfl, h2⟩, _⟩, h3⟩ := ho
    obtain rfl := List.isEmpty_iff.1 h3
    exact ⟨s, rfl, h2⟩
/-- a value's field -/
def fieldT (ty : Int) (v : PV) : ByteArray := if Sc.fits ty v = true then (if bareT ty = true then (match v with | .mk _ _ s _ => s) else strOfNums (textV v)) else ⟨#[]⟩
/-- the value of a slot's bare field -/
def bareV (ty : Int) (s : ByteArray) : PV := .mk (if ty = 16 then 4 else 3) 0 s []
/-- what a field says: a value, an error's number -/
def sayT (ty : Int) (s : ByteArray) : PV × Int :=
  if bareT ty = true then (if ty = 16 ∧ rightV (bareV ty s) = false then (.mk 0 0 ⟨#[]⟩ [], 4) else (bareV ty s, 0))
  else ((Vt.parse (strB s)).1, (Vt.parse (strB s)).2.2)
/-- the value of a field; an error's number -/
def ofField (ty : Int) (s : ByteArray) : PV × Int := if (sayT ty s).2 ≠ 0 then (.mk 0 0 ⟨#[]⟩ [], (sayT ty s).2) else if Sc.fits ty (sayT ty s).1 = true then ((sayT ty s).1, 0) else (.mk 0 0 ⟨#[]⟩ [], 8)
theorem of_field {ty : Int} {v : PV} (h : Sc.fits ty v = true) (hn : numsV v) : ofField ty (fieldT ty v) = (v, 0) := by
  have hr : rightV v = true := by simp only [Sc.fits, Bool.and_eq_true] at h; exact h.1
  have hs : sayT ty (fieldT ty v) = (v, 0) := by
    unfold sayT fieldT
    rw [if_pos h]
    cases hb : bareT ty with
    | true =>
      obtain ⟨s, rfl, _⟩ := fits_bare h hb
      simp only [if_true]
      have e : bareV ty s = .mk (if ty = 16 then 4 else 3) 0 s [] := rfl
      rw [e, hr]
      simp
    | false =>
      simp only [Bool.false_eq_true, if_false]
      rw [strB_strOfNums _ (text_bytes14 _ hn), Vt.parse_text hr hn]
  unfold ofField
  rw [hs]
  simp [h]
theorem field_of {ty : Int} {s : ByteArray} {y : PV} (h : ofField ty s = (y, 0)) : Sc.fits ty y = true ∧ fieldT ty y = s := by
  unfold ofField at h
  split at h
  · rename_i h0
    simp only [Prod.mk.injEq] at h
    exact absurd h.2 h0
  · rename_i h0
    split at h
    · rename_i hf
      simp only [Prod.mk.injEq, and_true] at h
      subst h
      refine ⟨hf, ?_⟩
      unfold fieldT
      rw [if_pos hf]
      simp only [Decidable.not_not] at h0
      cases hb : bareT ty with
      | true =>
        have e : (sayT ty s).1 = bareV ty s := by
          unfold sayT at h0 ⊢
          rw [if_pos hb] at h0 ⊢
          split
          · rename_i h1
            rw [if_pos h1] at h0
            cases h0
          · rfl
        rw [e]
        simp [bareV]
      | false =>
        simp only [Bool.false_eq_true, if_false]
        unfold sayT at h0 ⊢
        simp only [hb, Bool.false_eq_true, if_false] at h0 ⊢
        obtain ⟨⟨a, b, c⟩, hp⟩ : ∃ T, Vt.parse (strB s) = T := ⟨_, rfl⟩
        rw [hp] at h0 ⊢
        simp only at h0
        subst h0
        exact (Vt.parse_back hp).2
    · simp at h
end Go.Proofs.YtcicjpdjbfgbhaaGreatDoor

/- Bits of numbers from 0 on (no walk). -/
set_option linter.unusedVariables false
namespace Go.Proofs.YtcicjpdjbfgbhaaGreatDoor
open Go.RowKit Go.Shelf
namespace Sc
theorem ofI (a : Nat) (ha : a < 9223372036854775808) : (BitVec.ofInt 64 (a : Int)).toNat = a := by
  rw [BitVec.ofInt_natCast, BitVec.toNat_ofNat]; exact Nat.mod_eq_of_lt (by omega)
theorem wrapI (n : Nat) (h : n < 9223372036854775808) : IntKind.i64.wrap (n : Int) = (n : Int) := by
  simp [IntKind.wrap, IntKind.bits, IntKind.signed]
  split <;> omega
theorem andI (a b : Nat) (ha : a < 9223372036854775808) (hb : b < 9223372036854775808) : bits .and .i64 (a : Int) (b : Int) = ((a &&& b : Nat) : Int) := by
  have hx : a &&& b < 2 ^ 63 := Nat.and_lt_two_pow _ (by omega)
  show IntKind.i64.wrap ((BitVec.ofInt 64 (a : Int) &&& BitVec.ofInt 64 (b : Int)).toNat : Int) = _
  rw [BitVec.toNat_and, ofI a ha, ofI b hb]
  exact wrapI _ (by omega)
theorem and_pow (t k : Nat) : (t &&& 2 ^ k = 0) ↔ ¬ t / 2 ^ k % 2 = 1 := by
  have e : t.testBit k = decide (t / 2 ^ k % 2 = 1) := by
    rw [Nat.testBit_eq_decide_div_mod_eq]
  constructor
  · intro h hk
    have h2 : (t &&& 2 ^ k).testBit k = false := by rw [h]; exact Nat.zero_testBit k
    rw [Nat.testBit_and, e, Nat.testBit_two_pow_self] at h2
    simp [hk] at h2
  · intro h
    refine Nat.eq_of_testBit_eq fun i => ?_
    rw [Nat.testBit_and, Nat.zero_testBit]
    by_cases hi : k = i
    · subst hi
      rw [e]
      simp [h]
    · rw [Nat.testBit_two_pow_of_ne hi, Bool.and_false]
theorem and_has (t k : Nat) : decide ((t &&& 2 ^ k) = 0) = !has t k := by
  unfold has
  by_cases h : t / 2 ^ k % 2 = 1
  · rw [decide_eq_true h, decide_eq_false (fun e => ((and_pow t k).1 e) h)]; rfl
  · rw [decide_eq_false h, decide_eq_true ((and_pow t k).2 h)]; rfl
end Sc
end Go.Proofs.YtcicjpdjbfgbhaaGreatDoor

/- The document's Has, Fits of layer 10. -/
set_option linter.unusedVariables false
set_option maxRecDepth 100000
namespace Go.Proofs.YtcicjpdjbfgbhaaGreatDoor
open Go.RowKit Go.Shelf
set_option maxRecDepth 100000 in
set_option maxHeartbeats 2000000 in
theorem refHas_any (t k : Nat) (ht : (t : Int) ≤ 9223372036854775807) (hk : k ≤ 100) (w : World) : Calls Tryz.prog 25 #[.int .i64 (t : Int), .int .i64 (k : Int)] w fun e w' => e = .returned (.bool (Sc.has t k)) ∧ w' = w := by
  go_enter Tryz.func25, Tryz.ntmps25
  go_wp2
  go_loopw [0, 5] (fun a i wr => ∃ q : Nat, q ≤ k ∧ i = .int .i64 (q : Int) ∧ a = .int .i64 ((t / 2 ^ q : Nat) : Int) ∧ wr = w) (fun _ i _ => k - (intOf i).toNat)
  case atStart => exact ⟨0, Nat.zero_le _, rfl, by simp, rfl⟩
  case round =>
    obtain ⟨q, hq, rfl, rfl, rfl⟩ := hrel
    obtain ⟨T, hT⟩ : ∃ T, t / 2 ^ q = T := ⟨_, rfl⟩
    have hTt : T ≤ t := by rw [← hT]; exact Nat.div_le_self _ _
    have hnext : t / 2 ^ (q + 1) = T / 2 := by rw [← hT, Nat.pow_succ, Nat.div_div_eq_div_mul]
    have HN := Lib.hid hnext; have HT := Lib.hid hT
    rw [hT]
    clear hnext hT
    have hd2 : (T : Int).tdiv 2 = ((T / 2 : Nat) : Int) := by rw [Int.tdiv_eq_ediv_of_nonneg (by omega)]; omega
    have hm2 : (T : Int).tmod 2 = ((T % 2 : Nat) : Int) := by rw [Int.tmod_eq_emod_of_nonneg (by omega)]; omega
    rcases Nat.lt_or_ge q k with hlt | hge
    · have hd : decide ((q : Int) < (k : Int)) = true := by simp; omega
      go_wp2
      go_roundw
      case rel => exact ⟨q + 1, by omega, by go_num, by (rw [HN.out]; congr 1), trivial⟩
      case measure => simp [intOf]; omega
    · obtain rfl : q = k := by omega
      have hd : decide ((q : Int) < (q : Int)) = false := by simp
      go_wp2
      go_ret
      refine ⟨ret_bool ?_, rfl⟩
      unfold Sc.has
      rw [HT.out]
      rcases Nat.mod_two_eq_zero_or_one T with h | h <;> simp [h] <;> omega
theorem slot7_form {w : World} {s : SlotM} {x : Value} (h : IsSlot w s x) : ∃ k n t a len cap, x = .agg #[.string s.nm, .int .i64 s.ty, .bool s.rq, .int .i64 k, .int .i64 n, .string t, .slice a len cap] ∧ I64 s.ty ∧ s.nm.size ≤ maxLen ∧ Is w s.df (.agg #[.int .i64 k, .int .i64 n, .string t, .slice a len cap]) := by
  obtain ⟨c0, c1, c2, c3, c4, c5, c6, rfl, h1, h2, rfl, rfl, rfl, h3⟩ := h
  have h4 := h3
  cases hd : s.df with
  | mk k n t l =>
    rw [hd] at h4
    unfold Is at h4
    obtain ⟨_, _, _, a, cap, e, _⟩ := h4
    simp only [Value.agg.injEq, Array.mk.injEq, List.cons.injEq, and_true] at e
    obtain ⟨rfl, rfl, rfl, rfl⟩ := e
    rw [hd] at h3
    exact ⟨_, _, _, _, _, _, rfl, h2, h1, h3⟩
theorem right_kind {k n : Int} {s : ByteArray} {l : List PV} (h : rightV (.mk k n s l) = true) : 0 ≤ k ∧ k ≤ 5 := by
  unfold rightV at h
  simp only [Bool.and_eq_true] at h
  have h2 := h.2
  refine Decidable.byContradiction fun hn => ?_
  have e : okV (.mk k n s l) = false := by
    unfold okV
    rw [if_neg (by omega), if_neg (by omega), if_neg (by omega), if_neg (by omega), if_neg (by omega), if_neg (by omega)]
  rw [e] at h2
  cases h2
set_option maxRecDepth 100000 in
set_option maxHeartbeats 2000000 in
theorem refFits_any (s : SlotM) (v : PV) (hsz : szV v ≤ 1000000) (h0 : 0 ≤ s.ty) (w : World) (x y : Value) (hs : IsSlot w s x) (hv : Is w v y) : Calls Tryz.prog 10 #[x, y] w fun e w' => e = .returned (.bool (Sc.fits s.ty v)) ∧ Below w.heap.size w w' := by
  obtain ⟨k0, n0, t0, a0, len0, cap0, rfl, hI, hnm, hd⟩ := slot7_form hs
  have hR := fun W hi => refRight_any v hsz W y hi
  obtain ⟨ty, hty⟩ : ∃ ty : Nat, s.ty = (ty : Int) := ⟨s.ty.toNat, by omega⟩
  have hV := fun W (hb : Below w.heap.size w W) => is_below hb _ _ hv
  cases v with
  | mk k n t l =>
  unfold Is at hv
  obtain ⟨hk, hn, ht, a, cap, rfl, _⟩ := hv
  have hb1 := (Below.refl _ w).alloc (Nat.le_refl _) (.cells #[.string s.nm, .int .i64 s.ty, .bool s.rq, .int .i64 k0, .int .i64 n0, .string t0, .slice a0 len0 cap0] 26)
  have hb2 := hb1.alloc hb1.size (.cells #[.int .i64 k, .int .i64 n, .string t, .slice a l.length cap] 24)
  have HV := Lib.hid (hV _ hb2)
  have HR := Lib.hid hR
  have hfit : Sc.fits s.ty (.mk k n t l) = (rightV (.mk k n t l) && Sc.has ty k.toNat) := by unfold Sc.fits Sc.kindV; rw [hty]; rfl
  rw [hfit, hty]
  have hI1 : (ty : Int) ≤ 9223372036854775807 := by unfold I64 at hI; omega
  rw [hty] at hb1 hb2 HV
  clear hfit hV hR hty hs hd hI
  obtain ⟨r, hr⟩ : ∃ r, rightV (.mk k n t l) = r := ⟨_, rfl⟩
  have hkk := right_kind (k := k) (n := n) (s := t) (l := l)
  rw [hr] at HR hkk ⊢
  clear hr
  have hc2 := World.alloc_heap_new (w.alloc (.cells #[.string s.nm, .int .i64 (ty : Int), .bool s.rq, .int .i64 k0, .int .i64 n0, .string t0, .slice a0 len0 cap0] 26)) (.cells #[.int .i64 k, .int .i64 n, .string t, .slice a l.length cap] 24)
  cases r with
  | false =>
    clear hkk
    go_enter Tryz.func10, Tryz.ntmps10
    go_wp2_with (go_at_call 24; (with_reducible refine (HR.out _ HV.out).mono ?_); rintro e w1 ⟨rfl, hB1⟩)
    go_ret
    exact ⟨rfl, hb2.trans (hB1.mono hb2.size)⟩
  | true =>
    obtain ⟨hk0, hk5⟩ := hkk rfl
    obtain ⟨kn, hkn⟩ : ∃ kn : Nat, k = (kn : Int) := ⟨k.toNat, by omega⟩
    subst hkn
    rw [Int.toNat_natCast]
    have hH := fun W => refHas_any ty kn hI1 (by omega) W
    go_enter Tryz.func10, Tryz.ntmps10
    go_wp2_with (first
      | (go_at_call 24; (with_reducible refine (HR.out _ HV.out).mono ?_); rintro e w1 ⟨rfl, hB1⟩; have hx1 := cell_below hB1 (show World.cell? _ ⟨w.heap.size, 1, none⟩ = some (.int .i64 (ty : Int)) by simp); have hx2 := cell_below hB1 (show World.cell? _ ⟨w.heap.size + 1, 0, none⟩ = some (.int .i64 (kn : Int)) by simp))
      | (go_at_call 25; (with_reducible refine (hH _).mono ?_); rintro e w2 ⟨rfl, rfl⟩))
    go_ret
    exact ⟨ret_bool (by simp), hb2.trans (hB1.mono hb2.size)⟩
end Go.Proofs.YtcicjpdjbfgbhaaGreatDoor
