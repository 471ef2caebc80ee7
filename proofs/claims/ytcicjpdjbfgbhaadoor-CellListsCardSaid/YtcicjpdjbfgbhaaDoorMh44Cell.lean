/- Printing JSON: add, Print. -/
import Derived.Test.YtcicjpdjbfgbhaaDoorMh43Cell
import Derived.Test.YtcicjpdjbfgbhaaDoorMh3Cell
set_option linter.unusedVariables false
set_option linter.unusedSimpArgs false
namespace Go.Proofs.YtcicjpdjbfgbhaaDoor
open Go.RowKit Go.Shelf
theorem prJ_pos {t : JV} (h : PrJ t) : 1 ≤ (txJ t).length := by
  cases h with
  | mk k n s ns l h4 h6 hl =>
    unfold txJ
    split
    · split <;> simp
    · split
      · unfold M.prt
        have := M.D_pos n.natAbs
        rw [List.length_append]; omega
      · split
        · rename_i h
          have := (quote_two (strB s)).resolve_right (h4 h).2
          omega
        · split
          · simp
          · split <;> simp
theorem prJ_mem {k n : Int} {s : ByteArray} {ns : List ByteArray} {l : List JV} (h : PrJ (.mk k n s ns l)) : (k = 4 → s.size ≤ 100000 ∧ K.quote (strB s) ≠ []) ∧ (k = 6 → ns.length = l.length ∧ ∀ t ∈ ns, t.size ≤ 100000 ∧ K.quote (strB t) ≠ []) ∧ ∀ x ∈ l, PrJ x := by
  cases h with
  | mk _ _ _ _ _ h4 h6 hl => exact ⟨h4, h6, hl⟩
set_option maxHeartbeats 2000000 in
theorem appendTrue0 (w0 w : World) (v : Value) (xs : List Int) (ho : Owns w0 w v xs) (hl : xs.length + 4 ≤ 70368744177664) : Calls Tryd.prog 68 #[v, .bool true] w fun e w' => ∃ v', e = .returned v' ∧ Owns w0 w' v' (xs ++ [116, 114, 117, 101]) ∧ w.grownBy w' v.ownBlock := by
  go_enter Tryd.func68, Tryd.ntmps68
  go_wp2_with (first | (at_builtin; refine wpList_owns_str rfl _ _ rfl w0 v xs rfl ho ⟨#[116, 114, 117, 101]⟩ rfl (show xs.length + 4 ≤ 70368744177664 by omega) ?_))
  intro v3 w3 ho3 hg3
  go_wp2
  go_ret
  exact ⟨_, rfl, owns_congr ho3 rfl, hg3⟩
set_option maxHeartbeats 2000000 in
theorem appendFalse0 (w0 w : World) (v : Value) (xs : List Int) (ho : Owns w0 w v xs) (hl : xs.length + 5 ≤ 70368744177664) : Calls Tryd.prog 68 #[v, .bool false] w fun e w' => ∃ v', e = .returned v' ∧ Owns w0 w' v' (xs ++ [102, 97, 108, 115, 101]) ∧ w.grownBy w' v.ownBlock := by
  go_enter Tryd.func68, Tryd.ntmps68
  go_wp2_with (first | (at_builtin; refine wpList_owns_str rfl _ _ rfl w0 v xs rfl ho ⟨#[102, 97, 108, 115, 101]⟩ rfl (show xs.length + 5 ≤ 70368744177664 by omega) ?_))
  intro v3 w3 ho3 hg3
  go_wp2
  go_ret
  exact ⟨_, rfl, owns_congr ho3 rfl, hg3⟩
set_option maxHeartbeats 2000000 in
theorem appendTrue (w0 w : World) (v : Value) (xs : List Int) (ho : Owns w0 w v xs) (hl : xs.length + 4 ≤ 70368744177664) : Calls Tryd.prog 55 #[v, .bool true] w fun e w' => ∃ v', e = .returned v' ∧ Owns w0 w' v' (xs ++ [116, 114, 117, 101]) ∧ w.grownBy w' v.ownBlock := by
  go_enter Tryd.func55, Tryd.ntmps55
  go_wp2_with (go_at_call 68; (with_reducible refine (appendTrue0 w0 _ v xs ho hl).mono ?_); rintro e w3 ⟨v3, rfl, ho3, hg3⟩)
  go_ret
  exact ⟨_, rfl, ho3, hg3⟩
set_option maxHeartbeats 2000000 in
theorem appendFalse (w0 w : World) (v : Value) (xs : List Int) (ho : Owns w0 w v xs) (hl : xs.length + 5 ≤ 70368744177664) : Calls Tryd.prog 55 #[v, .bool false] w fun e w' => ∃ v', e = .returned v' ∧ Owns w0 w' v' (xs ++ [102, 97, 108, 115, 101]) ∧ w.grownBy w' v.ownBlock := by
  go_enter Tryd.func55, Tryd.ntmps55
  go_wp2_with (go_at_call 68; (with_reducible refine (appendFalse0 w0 _ v xs ho hl).mono ?_); rintro e w3 ⟨v3, rfl, ho3, hg3⟩)
  go_ret
  exact ⟨_, rfl, ho3, hg3⟩
set_option maxRecDepth 100000 in
set_option maxHeartbeats 4000000 in
theorem jAdd_any (t : JV) (w0 : World) : PrJ t → ∀ w v xs x, IsJ w0 t x → Owns w0 w v xs → xs.length + (txJ t).length + 10 ≤ 70368744177664 → Calls Tryd.prog 32 #[v, x] w (AddR w0 w v xs (txJ t)) := by
  induction t using jv_ind with
  | h k n s ns l ih =>
    intro hpr w v xs x hi ho hl
    obtain ⟨p4, p6, pl⟩ := prJ_mem hpr
    unfold IsJ at hi
    obtain ⟨h1, h2, h3, na, nc, a, cap, rfl, hn, h4, h5, h6⟩ := hi
    have hX := jat_alloc w #[.int .i64 k, .int .i64 n, .string s, .slice na ns.length nc, .slice a l.length cap]
    obtain ⟨⟨t0, t1, t2, t3, t4⟩, _⟩ := jbox5 hX
    have hB0 := (Below.refl _ w).alloc (Nat.le_refl _) (.cells #[.int .i64 k, .int .i64 n, .string s, .slice na ns.length nc, .slice a l.length cap] 30)
    have HO := Lib.hid (owns_below ho hB0)
    have hK0 : KZ w v (w.alloc (.cells #[.int .i64 k, .int .i64 n, .string s, .slice na ns.length nc, .slice a l.length cap] 30)) := kz_below hB0
    have hih : ∀ y ∈ l, ∀ w v xs x, IsJ w0 y x → Owns w0 w v xs → xs.length + (txJ y).length + 10 ≤ 70368744177664 → Calls Tryd.prog 32 #[v, x] w (AddR w0 w v xs (txJ y)) := fun y hy => ih y hy (pl y hy)
    have hpos : ∀ y ∈ l, 1 ≤ (txJ y).length := fun y hy => prJ_pos (pl y hy)
    by_cases k5 : k = 5
    · subst k5
      have e : txJ (.mk 5 n s ns l) = [91] ++ (txs l false ns).drop 1 ++ [93] := by simp [txJ]
      rw [e] at hl ⊢
      exact add_list l ns n s w0 w v xs na nc a cap _ (fun w v xs hx ho hl => parts_ok l ns 5 n s false rfl w0 (fun h => by cases h) (fun h => by cases h) hpos hih w v xs na nc a cap hn h4 h5 h6 hx ho hl) ho (by simp only [List.length_append, List.length_cons, List.length_nil] at hl; omega)
    by_cases k6 : k = 6
    · subst k6
      have e : txJ (.mk 6 n s ns l) = [123] ++ (txs l true ns).drop 1 ++ [125] := by simp [txJ]
      rw [e] at hl ⊢
      obtain ⟨q1, q2⟩ := p6 rfl
      exact add_obj l ns n s w0 w v xs na nc a cap _ (fun w v xs hx ho hl => parts_ok l ns 6 n s true rfl w0 (fun _ => ⟨q1, fun t ht => (q2 t ht).1⟩) (fun _ t ht => (q2 t ht).2) hpos hih w v xs na nc a cap hn h4 h5 h6 hx ho hl) ho (by simp only [List.length_append, List.length_cons, List.length_nil] at hl; omega)
    have d5 : (k == 5) = false := by simpa using k5
    have d6 : (k == 6) = false := by simpa using k6
    clear hih hpos ih hpr p6 pl hn h6
    by_cases k2 : k = 2
    · subst k2
      have e : txJ (.mk 2 n s ns l) = M.prt n := by simp [txJ]
      rw [e] at hl ⊢
      have hp := fun w => numPrint_any n w h2.1 h2.2
      unfold Prt at hp
      have hpb := prt_bytes n
      obtain ⟨T, hT⟩ : ∃ T, M.prt n = T := ⟨_, rfl⟩
      rw [hT] at hp hpb hl ⊢
      have hss := strB_strOfNums T hpb
      have hsz : (strOfNums T).size = T.length := by rw [← strB_len, hss]
      have HL := Lib.hid hl
      have HS := Lib.hid hss
      have HZ := Lib.hid hsz
      clear hl hT hpb hss hsz e
      go_enter Tryd.func32, Tryd.ntmps32
      go_wp2_with (first
        | (go_at_call 52; (with_reducible refine (hp _).mono ?_); rintro e w' ⟨rfl, hb⟩)
        | (at_builtin; refine wpList_owns_str rfl _ _ rfl w0 v xs rfl (owns_below HO.out hb) _ rfl (by have := HL.out; have := HZ.out; omega) ?_))
      intro v3 w3 ho3 hg3
      go_wp2
      go_ret
      exact ⟨_, rfl, owns_congr ho3 (by rw [HS.out]), kz_app hK0 (apart_refl _ _) hb hg3⟩
    by_cases k4 : k = 4
    · subst k4
      have e : txJ (.mk 4 n s ns l) = K.quote (strB s) := by simp [txJ]
      rw [e] at hl ⊢
      have hq := fun w => quote_any s w (p4 rfl).1
      have hpb := quote_bytes2 s
      obtain ⟨T, hT⟩ : ∃ T, K.quote (strB s) = T := ⟨_, rfl⟩
      rw [hT] at hq hpb hl ⊢
      have hss := strB_strOfNums T hpb
      have hsz : (strOfNums T).size = T.length := by rw [← strB_len, hss]
      have HL := Lib.hid hl
      have HS := Lib.hid hss
      have HZ := Lib.hid hsz
      clear hl hT hpb hss hsz e p4
      go_enter Tryd.func32, Tryd.ntmps32
      go_wp2_with (first
        | (go_at_call 56; (with_reducible refine (hq _).mono ?_); rintro e w' ⟨rfl, hb⟩)
        | (at_builtin; refine wpList_owns_str rfl _ _ rfl w0 v xs rfl (owns_below HO.out hb) _ rfl (by have := HL.out; have := HZ.out; omega) ?_))
      intro v3 w3 ho3 hg3
      go_wp2
      go_ret
      exact ⟨_, rfl, owns_congr ho3 (by rw [HS.out]), kz_app hK0 (apart_refl _ _) hb hg3⟩
    have d2 : (k == 2) = false := by simpa using k2
    have d4 : (k == 4) = false := by simpa using k4
    by_cases k1 : k = 1
    · subst k1
      by_cases m1 : n = 1
      · subst m1
        have e : txJ (.mk 1 1 s ns l) = [116, 114, 117, 101] := by simp [txJ]
        rw [e] at hl ⊢
        have HL := Lib.hid hl
        clear hl e
        go_enter Tryd.func32, Tryd.ntmps32
        go_wp2_with (go_at_call 55; (with_reducible refine (appendTrue w0 _ v xs HO.out (by have := HL.out; simp only [List.length_cons, List.length_nil] at this; omega)).mono ?_); rintro e w3 ⟨v3, rfl, ho3, hg3⟩)
        go_ret
        exact ⟨_, rfl, ho3, kz_app hK0 (apart_refl _ _) (Below.refl _ _) hg3⟩
      · have e : txJ (.mk 1 n s ns l) = [102, 97, 108, 115, 101] := by simp [txJ, m1]
        rw [e] at hl ⊢
        have HL := Lib.hid hl
        have dn : (n == 1) = false := by simpa using m1
        clear hl e m1
        go_enter Tryd.func32, Tryd.ntmps32
        go_wp2_with (go_at_call 55; (with_reducible refine (appendFalse w0 _ v xs HO.out (by have := HL.out; simp only [List.length_cons, List.length_nil] at this; omega)).mono ?_); rintro e w3 ⟨v3, rfl, ho3, hg3⟩)
        go_ret
        exact ⟨_, rfl, ho3, kz_app hK0 (apart_refl _ _) (Below.refl _ _) hg3⟩
    have d1 : (k == 1) = false := by simpa using k1
    have e : txJ (.mk k n s ns l) = [110, 117, 108, 108] := by simp [txJ, *]
    rw [e] at hl ⊢
    have HL := Lib.hid hl
    clear hl e k1 k2 k4 k5 k6
    go_enter Tryd.func32, Tryd.ntmps32
    go_wp2_with (first
      | (at_builtin; refine wpList_owns_str rfl _ _ rfl w0 v xs rfl HO.out ⟨#[110, 117, 108, 108]⟩ rfl (show xs.length + 4 ≤ 70368744177664 by have := HL.out; simp only [List.length_cons, List.length_nil] at this; omega) ?_))
    intro v3 w3 ho3 hg3
    go_wp2
    go_ret
    exact ⟨_, rfl, owns_congr ho3 rfl, kz_app hK0 (apart_refl _ _) (Below.refl _ _) hg3⟩
set_option maxRecDepth 100000 in
set_option maxHeartbeats 4000000 in
theorem jPrint_ok (t : JV) (hp : PrJ t) (hr : rightJ t = true) (hs : szJ t ≤ 100000) (hl : (txJ t).length ≤ 1000000000) (w : World) (x : Value) (hi : IsJ w t x) : Calls Tryd.prog 14 #[x] w fun e w' => e = .returned (.tuple #[.string (strOfNums (txJ t)), .int .i64 0]) ∧ Below w.heap.size w w' := by
  have hR := fun W hi => right8_any t hs W x hi
  rw [hr] at hR
  have hI := fun W (hb : Below w.heap.size w W) => isJ_below hb t x hi
  obtain ⟨k, n, s, na, nl, nc, a, len, cap, rfl⟩ : ∃ k n s na nl nc a len cap, x = .agg #[.int .i64 k, .int .i64 n, .string s, .slice na nl nc, .slice a len cap] := by
    cases t
    unfold IsJ at hi
    obtain ⟨_, _, _, na, nc, a, cap, rfl, _⟩ := hi
    exact ⟨_, _, _, _, _, _, _, _, _, rfl⟩
  have hB0 := (Below.refl _ w).alloc (Nat.le_refl _) (.cells #[.int .i64 k, .int .i64 n, .string s, .slice na nl nc, .slice a len cap] 30)
  have hX := jat_alloc w #[.int .i64 k, .int .i64 n, .string s, .slice na nl nc, .slice a len cap]
  obtain ⟨⟨t0, t1, t2, t3, t4⟩, _⟩ := jbox5 hX
  obtain ⟨T, hT⟩ : ∃ T, txJ t = T := ⟨_, rfl⟩
  have hA := fun W (hi : IsJ W t (.agg #[.int .i64 k, .int .i64 n, .string s, .slice na nl nc, .slice a len cap])) => jAdd_any t W hp W (.slice none 0 0) [] _ hi (owns_nil W) (by simp only [List.length_nil]; omega)
  rw [hT] at hA hl ⊢
  have HA := Lib.hid hA; have HR := Lib.hid hR; have HI := Lib.hid hI
  clear hA hR hI hi hT hp hr hs
  go_enter Tryd.func14, Tryd.ntmps14
  go_wp2_with (first
    | (go_at_call 23; (with_reducible refine (HR.out _ (HI.out _ hB0)).mono ?_); rintro e w1 ⟨rfl, hB1⟩; have hC1 := hB0.trans (hB1.mono hB0.size); obtain ⟨⟨y0, y1, y2, y3, y4⟩, _⟩ := jbox5 (jat_below hB1 hX))
    | (go_at_call 32; (with_reducible refine (HA.out _ (HI.out _ hC1)).mono ?_); rintro e w2 ⟨v3, rfl, ho3, hk3⟩; have hcv := conv_owned w2 _ _ v3 ([] ++ T) ho3.1))
  go_ret2
  exact ⟨rfl, hC1.trans (ho3.2.mono hC1.size)⟩
end Go.Proofs.YtcicjpdjbfgbhaaDoor
