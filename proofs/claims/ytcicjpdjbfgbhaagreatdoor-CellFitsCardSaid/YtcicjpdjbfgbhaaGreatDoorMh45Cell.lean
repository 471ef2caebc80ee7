/- Printing JSON: add, Print. -/
import Derived.Test.YtcicjpdjbfgbhaaGreatDoorMh44Cell
import Derived.Test.YtcicjpdjbfgbhaaGreatDoorMh3Cell
import Derived.Test.YtcicjpdjbfgbhaaGreatDoorMh40Cell
import Derived.Test.YtcicjpdjbfgbhaaGreatDoorMh14Cell
set_option linter.unusedVariables false
set_option linter.unusedSimpArgs false
namespace Go.Proofs.YtcicjpdjbfgbhaaGreatDoor
open Go.RowKit Go.Shelf
theorem prJ_pos {t : JV} (h : PrJ t) : 1 ≤ (txJ t).length := by
  cases h with
  | mk k n s ns l h4 h6 hl =>
    unfold txJ
    split
    · split <;> simp
    · split
      · unfold M.prt
        have := M.D_pos n.natAbs
        rw [List.length_append]; omega
      · split
        · rename_i h
          have := (quote_two (strB s)).resolve_right (h4 h).2
          omega
        · split
          · simp
          · split <;> simp
theorem prJ_mem {k n : Int} {s : ByteArray} {ns : List ByteArray} {l : List JV} (h : PrJ (.mk k n s ns l)) : (k = 4 → s.size ≤ 100000 ∧ K.quote (strB s) ≠ []) ∧ (k = 6 → ns.length = l.length ∧ ∀ t ∈ ns, t.size ≤ 100000 ∧ K.quote (strB t) ≠ []) ∧ ∀ x ∈ l, PrJ x := by
  cases h with
  | mk _ _ _ _ _ h4 h6 hl => exact ⟨h4, h6, hl⟩
set_option maxHeartbeats 2000000 in
theorem appendTrue0 (w0 w : World) (v : Value) (xs : List Int) (ho : Owns w0 w v xs) (hl : xs.length + 4 ≤ 70368744177664) : Calls Tryz.prog 68 #[v, .bool true] w fun e w' => ∃ v', e = .returned v' ∧ Owns w0 w' v' (xs ++ [116, 114, 117, 101]) ∧ w.grownBy w' v.ownBlock := by
  go_enter Tryz.func68, Tryz.ntmps68
  go_wp2_with (first | (at_builtin; refine wpList_owns_str rfl _ _ rfl w0 v xs rfl ho ⟨#[116, 114, 117, 101]⟩ rfl (show xs.length + 4 ≤ 70368744177664 by omega) ?_))
  intro v3 w3 ho3 hg3
  go_wp2
  go_ret
  exact ⟨_, rfl, owns_congr ho3 rfl, hg3⟩
set_option maxHeartbeats 2000000 in
theorem appendFalse0 (w0 w : World) (v : Value) (xs : List Int) (ho : Owns w0 w v xs) (hl : xs.length + 5 ≤ 70368744177664) : Calls Tryz.prog 68 #[v, .bool false] w fun e w' => ∃ v', e = .returned v' ∧ Owns w0 w' v' (xs ++ [102, 97, 108, 115, 101]) ∧ w.grownBy w' v.ownBlock := by
  go_enter Tryz.func68, Tryz.ntmps68
  go_wp2_with (first | (at_builtin; refine wpList_owns_str rfl _ _ rfl w0 v xs rfl ho ⟨#[102, 97, 108, 115, 101]⟩ rfl (show xs.length + 5 ≤ 70368744177664 by omega) ?_))
  intro v3 w3 ho3 hg3
  go_wp2
  go_ret
  exact ⟨_, rfl, owns_congr ho3 rfl, hg3⟩
set_option maxHeartbeats 2000000 in
theorem appendTrue (w0 w : World) (v : Value) (xs : List Int) (ho : Owns w0 w v xs) (hl : xs.length + 4 ≤ 70368744177664) : Calls Tryz.prog 47 #[v, .bool true] w fun e w' => ∃ v', e = .returned v' ∧ Owns w0 w' v' (xs ++ [116, 114, 117, 101]) ∧ w.grownBy w' v.ownBlock := by
  go_enter Tryz.func47, Tryz.ntmps47
  go_wp2_with (go_at_call 68; (with_reducible refine (appendTrue0 w0 _ v xs ho hl).mono ?_); rintro e w3 ⟨v3, rfl, ho3, hg3⟩)
  go_ret
  exact ⟨_, rfl, ho3, hg3⟩
set_option maxHeartbeats 2000000 in
theorem appendFalse (w0 w : World) (v : Value) (xs : List Int) (ho : Owns w0 w v xs) (hl : xs.length + 5 ≤ 70368744177664) : Calls Tryz.prog 47 #[v, .bool false] w fun e w' => ∃ v', e = .returned v' ∧ Owns w0 w' v' (xs ++ [102, 97, 108, 115, 101]) ∧ w.grownBy w' v.ownBlock := by
  go_enter Tryz.func47, Tryz.ntmps47
  go_wp2_with (go_at_call 68; (with_reducible refine (appendFalse0 w0 _ v xs ho hl).mono ?_); rintro e w3 ⟨v3, rfl, ho3, hg3⟩)
  go_ret
  exact ⟨_, rfl, ho3, hg3⟩
set_option maxRecDepth 100000 in
set_option maxHeartbeats 4000000 in
theorem jAdd_any (t : JV) (w0 : World) : PrJ t → ∀ w v xs x, IsJ w0 t x → Owns w0 w v xs → xs.length + (txJ t).length + 10 ≤ 70368744177664 → Calls Tryz.prog 28 #[v, x] w (AddR w0 w v xs (txJ t)) := by
  induction t using jv_ind with
  | h k n s ns l ih =>
    intro hpr w v xs x hi ho hl
    obtain ⟨p4, p6, pl⟩ := prJ_mem hpr
    unfold IsJ at hi
    obtain ⟨h1, h2, h3, na, nc, a, cap, rfl, hn, h4, h5, h6⟩ := hi
    have hX := jat_alloc w #[.int .i64 k, .int .i64 n, .string s, .slice na ns.length nc, .slice a l.length cap]
    obtain ⟨⟨t0, t1, t2, t3, t4⟩, _⟩ := jbox5 hX
    have hB0 := (Below.refl _ w).alloc (Nat.le_refl _) (.cells #[.int .i64 k, .int .i64 n, .string s, .slice na ns.length nc, .slice a l.length cap] 39)
    have HO := Lib.hid (owns_below ho hB0)
    have hK0 : KZ w v (w.alloc (.cells #[.int .i64 k, .int .i64 n, .string s, .slice na ns.length nc, .slice a l.length cap] 39)) := kz_below hB0
    have hih : ∀ y ∈ l, ∀ w v xs x, IsJ w0 y x → Owns w0 w v xs → xs.length + (txJ y).length + 10 ≤ 70368744177664 → Calls Tryz.prog 28 #[v, x] w (AddR w0 w v xs (txJ y)) := fun y hy => ih y hy (pl y hy)
    have hpos : ∀ y ∈ l, 1 ≤ (txJ y).length := fun y hy => prJ_pos (pl y hy)
    by_cases k5 : k = 5
    · subst k5
      have e : txJ (.mk 5 n s ns l) = [91] ++ (txs l false ns).drop 1 ++ [93] := by simp [txJ]
      rw [e] at hl ⊢
      exact add_list l ns n s w0 w v xs na nc a cap _ (fun w v xs hx ho hl => parts_ok l ns 5 n s false rfl w0 (fun h => by cases h) (fun h => by cases h) hpos hih w v xs na nc a cap hn h4 h5 h6 hx ho hl) ho (by simp only [List.length_append, List.length_cons, List.length_nil] at hl; omega)
    by_cases k6 : k = 6
    · subst k6
      have e : txJ (.mk 6 n s ns l) = [123] ++ (txs l true ns).drop 1 ++ [125] := by simp [txJ]
      rw [e] at hl ⊢
      obtain ⟨q1, q2⟩ := p6 rfl
      exact add_obj l ns n s w0 w v xs na nc a cap _ (fun w v xs hx ho hl => parts_ok l ns 6 n s true rfl w0 (fun _ => ⟨q1, fun t ht => (q2 t ht).1⟩) (fun _ t ht => (q2 t ht).2) hpos hih w v xs na nc a cap hn h4 h5 h6 hx ho hl) ho (by simp only [List.length_append, List.length_cons, List.length_nil] at hl; omega)
    have d5 : (k == 5) = false := by simpa using k5
    have d6 : (k == 6) = false := by simpa using k6
    clear hih hpos ih hpr p6 pl hn h6
    by_cases k2 : k = 2
    · subst k2
      have e : txJ (.mk 2 n s ns l) = M.prt n := by simp [txJ]
      rw [e] at hl ⊢
      have hp := fun w => numPrint_any n w h2.1 h2.2
      unfold Prt at hp
      have hpb := prt_bytes n
      obtain ⟨T, hT⟩ : ∃ T, M.prt n = T := ⟨_, rfl⟩
      rw [hT] at hp hpb hl ⊢
      have hss := strB_strOfNums T hpb
      have hsz : (strOfNums T).size = T.length := by rw [← strB_len, hss]
      have HL := Lib.hid hl
      have HS := Lib.hid hss
      have HZ := Lib.hid hsz
      clear hl hT hpb hss hsz e
      go_enter Tryz.func28, Tryz.ntmps28
      go_wp2_with (first
        | (go_at_call 48; (with_reducible refine (hp _).mono ?_); rintro e w' ⟨rfl, hb⟩)
        | (at_builtin; refine wpList_owns_str rfl _ _ rfl w0 v xs rfl (owns_below HO.out hb) _ rfl (by have := HL.out; have := HZ.out; omega) ?_))
      intro v3 w3 ho3 hg3
      go_wp2
      go_ret
      exact ⟨_, rfl, owns_congr ho3 (by rw [HS.out]), kz_app hK0 (apart_refl _ _) hb hg3⟩
    by_cases k4 : k = 4
    · subst k4
      have e : txJ (.mk 4 n s ns l) = K.quote (strB s) := by simp [txJ]
      rw [e] at hl ⊢
      have hq := fun w => quote_any s w (p4 rfl).1
      have hpb := quote_bytes2 s
      obtain ⟨T, hT⟩ : ∃ T, K.quote (strB s) = T := ⟨_, rfl⟩
      rw [hT] at hq hpb hl ⊢
      have hss := strB_strOfNums T hpb
      have hsz : (strOfNums T).size = T.length := by rw [← strB_len, hss]
      have HL := Lib.hid hl
      have HS := Lib.hid hss
      have HZ := Lib.hid hsz
      clear hl hT hpb hss hsz e p4
      go_enter Tryz.func28, Tryz.ntmps28
      go_wp2_with (first
        | (go_at_call 49; (with_reducible refine (hq _).mono ?_); rintro e w' ⟨rfl, hb⟩)
        | (at_builtin; refine wpList_owns_str rfl _ _ rfl w0 v xs rfl (owns_below HO.out hb) _ rfl (by have := HL.out; have := HZ.out; omega) ?_))
      intro v3 w3 ho3 hg3
      go_wp2
      go_ret
      exact ⟨_, rfl, owns_congr ho3 (by rw [HS.out]), kz_app hK0 (apart_refl _ _) hb hg3⟩
    have d2 : (k == 2) = false := by simpa using k2
    have d4 : (k == 4) = false := by simpa using k4
    by_cases k1 : k = 1
    · subst k1
      by_cases m1 : n = 1
      · subst m1
        have e : txJ (.mk 1 1 s ns l) = [116, 114, 117, 101] := by simp [txJ]
        rw [e] at hl ⊢
        have HL := Lib.hid hl
        clear hl e
        go_enter Tryz.func28, Tryz.ntmps28
        go_wp2_with (go_at_call 47; (with_reducible refine (appendTrue w0 _ v xs HO.out (by have := HL.out; simp only [List.length_cons, List.length_nil] at this; omega)).mono ?_); rintro e w3 ⟨v3, rfl, ho3, hg3⟩)
        go_ret
        exact ⟨_, rfl, ho3, kz_app hK0 (apart_refl _ _) (Below.refl _ _) hg3⟩
      · have e : txJ (.mk 1 n s ns l) = [102, 97, 108, 115, 101] := by simp [txJ, m1]
        rw [e] at hl ⊢
        have HL := Lib.hid hl
        have dn : (n == 1) = false := by simpa using m1
        clear hl e m1
        go_enter Tryz.func28, Tryz.ntmps28
        go_wp2_with (go_at_call 47; (with_reducible refine (appendFalse w0 _ v xs HO.out (by have := HL.out; simp only [List.length_cons, List.length_nil] at this; omega)).mono ?_); rintro e w3 ⟨v3, rfl, ho3, hg3⟩)
        go_ret
        exact ⟨_, rfl, ho3, kz_app hK0 (apart_refl _ _) (Below.refl _ _) hg3⟩
    have d1 : (k == 1) = false := by simpa using k1
    have e : txJ (.mk k n s ns l) = [110, 117, 108, 108] := by simp [txJ, *]
    rw [e] at hl ⊢
    have HL := Lib.hid hl
    clear hl e k1 k2 k4 k5 k6
    go_enter Tryz.func28, Tryz.ntmps28
    go_wp2_with (first
      | (at_builtin; refine wpList_owns_str rfl _ _ rfl w0 v xs rfl HO.out ⟨#[110, 117, 108, 108]⟩ rfl (show xs.length + 4 ≤ 70368744177664 by have := HL.out; simp only [List.length_cons, List.length_nil] at this; omega) ?_))
    intro v3 w3 ho3 hg3
    go_wp2
    go_ret
    exact ⟨_, rfl, owns_congr ho3 rfl, kz_app hK0 (apart_refl _ _) (Below.refl _ _) hg3⟩
set_option maxRecDepth 100000 in
set_option maxHeartbeats 4000000 in
theorem jPrint_ok (t : JV) (hp : PrJ t) (hr : rightJ t = true) (hs : szJ t ≤ 100000) (hl : (txJ t).length ≤ 1000000000) (w : World) (x : Value) (hi : IsJ w t x) : Calls Tryz.prog 13 #[x] w fun e w' => e = .returned (.tuple #[.string (strOfNums (txJ t)), .int .i64 0]) ∧ Below w.heap.size w w' := by
  have hR := fun W hi => right8_any t hs W x hi
  rw [hr] at hR
  have hI := fun W (hb : Below w.heap.size w W) => isJ_below hb t x hi
  obtain ⟨k, n, s, na, nl, nc, a, len, cap, rfl⟩ : ∃ k n s na nl nc a len cap, x = .agg #[.int .i64 k, .int .i64 n, .string s, .slice na nl nc, .slice a len cap] := by
    cases t
    unfold IsJ at hi
    obtain ⟨_, _, _, na, nc, a, cap, rfl, _⟩ := hi
    exact ⟨_, _, _, _, _, _, _, _, _, rfl⟩
  have hB0 := (Below.refl _ w).alloc (Nat.le_refl _) (.cells #[.int .i64 k, .int .i64 n, .string s, .slice na nl nc, .slice a len cap] 39)
  have hX := jat_alloc w #[.int .i64 k, .int .i64 n, .string s, .slice na nl nc, .slice a len cap]
  obtain ⟨⟨t0, t1, t2, t3, t4⟩, _⟩ := jbox5 hX
  obtain ⟨T, hT⟩ : ∃ T, txJ t = T := ⟨_, rfl⟩
  have hA := fun W (hi : IsJ W t (.agg #[.int .i64 k, .int .i64 n, .string s, .slice na nl nc, .slice a len cap])) => jAdd_any t W hp W (.slice none 0 0) [] _ hi (owns_nil W) (by simp only [List.length_nil]; omega)
  rw [hT] at hA hl ⊢
  have HA := Lib.hid hA; have HR := Lib.hid hR; have HI := Lib.hid hI
  clear hA hR hI hi hT hp hr hs
  go_enter Tryz.func13, Tryz.ntmps13
  go_wp2_with (first
    | (go_at_call 27; (with_reducible refine (HR.out _ (HI.out _ hB0)).mono ?_); rintro e w1 ⟨rfl, hB1⟩; have hC1 := hB0.trans (hB1.mono hB0.size); obtain ⟨⟨y0, y1, y2, y3, y4⟩, _⟩ := jbox5 (jat_below hB1 hX))
    | (go_at_call 28; (with_reducible refine (HA.out _ (HI.out _ hC1)).mono ?_); rintro e w2 ⟨v3, rfl, ho3, hk3⟩; have hcv := conv_owned w2 _ _ v3 ([] ++ T) ho3.1))
  go_ret2
  exact ⟨rfl, hC1.trans (ho3.2.mono hC1.size)⟩
end Go.Proofs.YtcicjpdjbfgbhaaGreatDoor

/- Layer 15: the document's examples. -/
set_option linter.unusedVariables false
set_option linter.unusedSimpArgs false
set_option maxRecDepth 100000
namespace Go.Proofs.YtcicjpdjbfgbhaaGreatDoor
open Go.RowKit Go.Shelf
/-- a slot of types alone -/
def tySlot (ty : Int) : SlotM := ⟨⟨#[]⟩, ty, false, .mk 0 0 ⟨#[]⟩ []⟩
theorem tySlot_is (W : World) (ty : Int) (h : I64 ty) : IsSlot W (tySlot ty) (.agg #[.string ⟨#[]⟩, .int .i64 ty, .bool false, .int .i64 0, .int .i64 0, .string ⟨#[]⟩, .slice none 0 0]) := by
  refine ⟨_, _, _, _, _, _, _, rfl, Nat.zero_le _, h, rfl, rfl, rfl, ?_⟩
  exact fresh_none W.heap.size W W (fun _ _ _ => rfl)
abbrev nullB : ByteArray := ⟨#[110, 117, 108, 108]⟩
def symA : PV := .mk 3 0 ⟨#[97]⟩ []
def strN : PV := .mk 4 0 nullB []
def nilN : PV := .mk 0 0 ⟨#[]⟩ []
def int5 : PV := .mk 2 5 ⟨#[]⟩ []
theorem symA_right : rightV symA = true := by decide +kernel
theorem symA_ok : okV symA = true := by decide +kernel
theorem symA_of : ofE symA = 0 := ofE_right.2 symA_right
theorem f16_fit : Sc.fits 16 strN = true := by decide +kernel
theorem f17_fit : Sc.fits 17 nilN = true := by decide +kernel
theorem f4_fit : Sc.fits 4 int5 = true := by decide +kernel
theorem num_flat (k n : Int) (s : ByteArray) (h : I64 n) : numsV (.mk k n s []) := by unfold numsV numsV.numsL; exact ⟨h, trivial⟩
theorem f16_text : fieldT 16 strN = nullB := by
  unfold fieldT
  rw [if_pos f16_fit]
  rfl
theorem f17_text : fieldT 17 nilN = nullB := by
  unfold fieldT
  rw [if_pos f17_fit, if_neg (by decide)]
  unfold nilN
  rw [text0]
  rfl
theorem f4_text : fieldT 4 int5 = ⟨#[53]⟩ := by
  unfold fieldT
  rw [if_pos f4_fit, if_neg (by decide)]
  unfold int5
  rw [text2]
  rw [show M.prt 5 = [53] by decide +kernel]
  rfl
theorem off16 : ofField 16 nullB = (strN, 0) := by
  have h := of_field f16_fit (num_flat 4 0 nullB (by unfold I64; omega))
  rwa [f16_text] at h
theorem off17 : ofField 17 nullB = (nilN, 0) := by
  have h := of_field f17_fit (num_flat 0 0 ⟨#[]⟩ (by unfold I64; omega))
  rwa [f17_text] at h
theorem symJ_text : strOfNums (txJ (jOf symA)) = ⟨#[123, 34, 115, 121, 109, 34, 58, 34, 97, 34, 125]⟩ := by
  rw [show txJ (jOf symA) = [123, 34, 115, 121, 109, 34, 58, 34, 97, 34, 125] by decide +kernel]
  rfl
theorem symJ_len : (txJ (jOf symA)).length ≤ 1000000000 := by
  rw [show txJ (jOf symA) = [123, 34, 115, 121, 109, 34, 58, 34, 97, 34, 125] by decide +kernel]
  simp
theorem symJ_pr : PrJ (jOf symA) := by
  unfold symA
  rw [jOf3]
  refine .mk _ _ _ _ _ (fun h => by cases h) (fun _ => ⟨rfl, fun t ht => ?_⟩) (fun x hx => ?_)
  · simp only [List.mem_singleton] at ht
    subst ht
    exact ⟨by decide, by decide +kernel⟩
  · simp only [List.mem_singleton] at hx
    subst hx
    exact .mk _ _ _ _ _ (fun _ => ⟨by decide, by decide +kernel⟩) (fun h => by cases h) (fun x hx => by simp at hx)
/-- the cells of what is flat -/
theorem flat_form {W : World} {k n : Int} {s : ByteArray} {k' n' : Int} {s' : ByteArray} {a : Option Addr} {len cap : Nat} (h : Is W (.mk k n s []) (.agg #[.int .i64 k', .int .i64 n', .string s', .slice a len cap])) : k' = k ∧ n' = n ∧ s' = s := by
  unfold Is at h
  obtain ⟨_, _, _, _, _, e, _⟩ := h
  simp only [Value.agg.injEq, Array.mk.injEq, List.cons.injEq, Value.int.injEq, Value.string.injEq, true_and] at e
  exact ⟨e.1, e.2.1, e.2.2.1⟩
set_option maxHeartbeats 8000000 in
theorem ceAlive_any (w : World) (hK : KindsAt w) (hB : BareAt w) : Calls Tryz.prog 4 #[] w fun e w' => e = .returned (.bool true) ∧ Below w.heap.size w w' := by
  have hSy := fun W => symbol_any ⟨#[97]⟩ W
  have hTJ := fun W x hi => toJson_any symA symA_right W x hi
  have hPr := fun W X hi => jPrint_ok (jOf symA) symJ_pr (jOf_right symA symA_ok) (by have := jOf_sz symA; simp [symA, szV, szL] at this ⊢; omega) symJ_len W X hi
  rw [symJ_text] at hPr
  have hOf := fun W X hK hi => ofJson_any symA symA_ok (by simp [symA, szV, szL]) W X hK hi
  have h16 := fun W hB => ofField_any (tySlot 16) (by decide) nullB (by decide) W _ hB (tySlot_is W 16 (by unfold I64; omega))
  have h17 := fun W hB => ofField_any (tySlot 17) (by decide) nullB (by decide) W _ hB (tySlot_is W 17 (by unfold I64; omega))
  have e16 : (tySlot 16).ty = 16 := rfl
  have e17 : (tySlot 17).ty = 17 := rfl
  have e4 : (tySlot 4).ty = 4 := rfl
  rw [e16] at h16
  rw [e17] at h17
  have hIn := fun W => int_any 5 W
  have hTo := fun W Y hB hY => toField_any (tySlot 4) int5 (by decide) (by simp [int5, szV, szL]) (fun _ => by unfold int5; rw [text2, show M.prt 5 = [53] by decide +kernel]; simp) W _ Y hB (tySlot_is W 4 (by unfold I64; omega)) hY
  rw [e4, f4_text] at hTo
  unfold OffC at h16 h17
  rw [off16] at h16
  rw [off17] at h17
  unfold OfC at hOf
  rw [symA_of] at hOf
  have HTJ := Lib.hid hTJ; have HPR := Lib.hid hPr; have HOF := Lib.hid hOf; have H16 := Lib.hid h16; have H17 := Lib.hid h17; have HTO := Lib.hid hTo
  have HI5 : ∀ W, Is W int5 (.agg #[.int .i64 2, .int .i64 5, .string ⟨#[]⟩, .slice none 0 0]) := fun W => by
    unfold int5 Is
    exact ⟨by unfold I64; omega, by unfold I64; omega, by unfold maxLen; decide, none, 0, rfl, Nat.le_refl _, by unfold maxLen; omega, .inl rfl⟩
  have HSA : ∀ W, Is W symA (.agg #[.int .i64 3, .int .i64 0, .string ⟨#[97]⟩, .slice none 0 0]) := fun W => by
    unfold symA Is
    exact ⟨by unfold I64; omega, by unfold I64; omega, by unfold maxLen; decide, none, 0, rfl, Nat.le_refl _, by unfold maxLen; omega, .inl rfl⟩
  clear hTJ hPr hOf h16 h17 hTo e16 e17 e4
  go_enter Tryz.func4, Tryz.ntmps4
  go_wp2_with (first
    | (go_at_call 12; (with_reducible refine (hSy _).mono ?_); rintro e w1 ⟨rfl, hb1⟩)
    | (go_at_call 11; (with_reducible refine (HTJ.out _ _ (HSA _)).mono ?_); rintro e w2 ⟨d0, d1, d2, d3, d4, d5, d6, d7, d8, rfl, hb2, hF2⟩; have hA2 := (Below.refl _ w2).alloc (Nat.le_refl _) (.cells #[.int .i64 d0, .int .i64 d1, .string d2, .slice d3 d4 d5, .slice d6 d7 d8] 39); have hC2 := (hb1.trans (hb2.mono hb1.size)).trans (hA2.mono (hb1.trans (hb2.mono hb1.size)).size); have hx2 := jat_alloc w2 #[.int .i64 d0, .int .i64 d1, .string d2, .slice d3 d4 d5, .slice d6 d7 d8]; have hJ := Lib.hid (fun W (hb : Below (w2.alloc (.cells #[.int .i64 d0, .int .i64 d1, .string d2, .slice d3 d4 d5, .slice d6 d7 d8] 39)).heap.size (w2.alloc (.cells #[.int .i64 d0, .int .i64 d1, .string d2, .slice d3 d4 d5, .slice d6 d7 d8] 39)) W) => isJ_below hb _ _ (isJ_below hA2 _ _ (hF2 w2 (fun _ _ _ => rfl)))); have hR := Below.refl (w2.alloc (.cells #[.int .i64 d0, .int .i64 d1, .string d2, .slice d3 d4 d5, .slice d6 d7 d8] 39)).heap.size (w2.alloc (.cells #[.int .i64 d0, .int .i64 d1, .string d2, .slice d3 d4 d5, .slice d6 d7 d8] 39)))
    | (go_at_call 13; (with_reducible refine (HPR.out _ _ (hJ.out _ hR)).mono ?_); rintro e w3 ⟨rfl, hb3⟩; have hR3 := hR.trans (hb3.mono hR.size); obtain ⟨⟨x0, x1, x2, x3, x4⟩, -⟩ := jbox5 (jat_below hb3 hx2))
    | (go_at_call 14; (with_reducible refine (HOF.out _ _ (kinds_below hK (hC2.trans (hR3.mono hC2.size))) (hJ.out _ hR3)).mono ?_); rintro e w4 ⟨a0, a1, a2, a3, a4, a5, rfl, hb4, hF4⟩; obtain ⟨rfl, rfl, rfl⟩ := flat_form (hF4 (by trivial) w4 (fun _ _ _ => rfl)); have hR4 := hR3.trans (hb4.mono hR3.size); have hR4' := hR4.alloc hR4.size (.cells #[.int .i64 3, .int .i64 0, .string ⟨#[97]⟩, .slice a3 a4 a5] 24); have hv4 := vat_alloc w4 #[.int .i64 3, .int .i64 0, .string ⟨#[97]⟩, .slice a3 a4 a5])
    | (go_at_call 7; first
      | ((with_reducible refine (H16.out _ (bare_below hB (hC2.trans (hR4'.mono hC2.size)))).mono ?_); rintro e w5 ⟨b0, b1, b2, b3, b4, b5, rfl, hb5, hF5⟩; obtain ⟨rfl, rfl, rfl⟩ := flat_form (hF5 w5 (fun _ _ _ => rfl)); have hR5 := hR4'.trans (hb5.mono hR4'.size); have hR5' := hR5.alloc hR5.size (.cells #[.int .i64 4, .int .i64 0, .string nullB, .slice b3 b4 b5] 24); have hv5 := vat_below ((Below.refl _ w5).alloc (Nat.le_refl _) (.cells #[.int .i64 4, .int .i64 0, .string nullB, .slice b3 b4 b5] 24)) (vat_below hb5 hv4); have hu5 := vat_alloc w5 #[.int .i64 4, .int .i64 0, .string nullB, .slice b3 b4 b5])
      | ((with_reducible refine (H17.out _ (bare_below hB (hC2.trans (hR5'.mono hC2.size)))).mono ?_); rintro e w6 ⟨c0, c1, c2, c3, c4, c5, rfl, hb6, hF6⟩; obtain ⟨rfl, rfl, rfl⟩ := flat_form (hF6 w6 (fun _ _ _ => rfl)); have hR6 := hR5'.trans (hb6.mono hR5'.size); have hR6' := hR6.alloc hR6.size (.cells #[.int .i64 0, .int .i64 0, .string ⟨#[]⟩, .slice c3 c4 c5] 24); have hB6 := (Below.refl _ w6).alloc (Nat.le_refl _) (.cells #[.int .i64 0, .int .i64 0, .string ⟨#[]⟩, .slice c3 c4 c5] 24); obtain ⟨⟨v0, v1, v2, v3⟩, -⟩ := box4 (vat_below hB6 (vat_below hb6 hv5)); obtain ⟨⟨u0, u1, u2, u3⟩, -⟩ := box4 (vat_below hB6 (vat_below hb6 hu5)); obtain ⟨⟨t0, t1, t2, t3⟩, -⟩ := box4 (vat_alloc w6 #[.int .i64 0, .int .i64 0, .string ⟨#[]⟩, .slice c3 c4 c5])))
    | (go_at_call 15; (with_reducible refine (hIn _).mono ?_); rintro e w7 ⟨rfl, hb7⟩; have hR7 := hR6'.trans (hb7.mono hR6'.size))
    | (go_at_call 8; (with_reducible refine (HTO.out _ _ (bare_below hB (hC2.trans (hR7.mono hC2.size))) (HI5 _)).mono ?_); rintro e w8 ⟨rfl, hb8⟩))
  go_ret
  exact ⟨rfl, hC2.trans ((hR7.trans (hb8.mono hR7.size)).mono hC2.size)⟩
end Go.Proofs.YtcicjpdjbfgbhaaGreatDoor
