/- The document's examples of JSON: alive. -/
import Derived.Test.YtpiajoffddjjfaaGreatDoorJpPrintq
import Derived.Test.YtpiajoffddjjfaaGreatDoorMg45Jso
import Derived.Test.YtpiajoffddjjfaaGreatDoorMg46Jso
import Derived.Test.YtpiajoffddjjfaaGreatDoorJvFindq
import Derived.Test.YtpiajoffddjjfaaGreatDoorJsonFindsq
set_option linter.unusedVariables false
set_option linter.unusedSimpArgs false
namespace Go.Proofs.YtpiajoffddjjfaaGreatDoor
open Go.RowKit Go.Shelf
def exL : JV := .mk 5 0 ⟨#[]⟩ [] [.mk 2 1 ⟨#[]⟩ [] [], .mk 0 0 ⟨#[]⟩ [] []]
def exJ : JV := .mk 6 0 ⟨#[]⟩ [⟨#[97]⟩] [exL]
theorem exJ_text : strOfNums (txJ exJ) = ⟨#[123, 34, 97, 34, 58, 91, 49, 44, 110, 117, 108, 108, 93, 125]⟩ := by
  rw [show txJ exJ = [123, 34, 97, 34, 58, 91, 49, 44, 110, 117, 108, 108, 93, 125] by decide +kernel]
  rfl
theorem exJ_len : (txJ exJ).length ≤ 1000000000 := by
  rw [show txJ exJ = [123, 34, 97, 34, 58, 91, 49, 44, 110, 117, 108, 108, 93, 125] by decide +kernel]
  simp
theorem exJ_right : rightJ exJ = true := by decide +kernel
theorem exJ_deep : dpJ exJ = 2 := by decide +kernel
theorem exJ_size : szJ exJ = 5 := by decide +kernel
theorem exJ_pr : PrJ exJ := by
  refine .mk _ _ _ _ _ (fun h => by cases h) (fun _ => ⟨rfl, fun t ht => ?_⟩) (fun x hx => ?_)
  · simp only [List.mem_singleton] at ht
    subst ht
    exact ⟨by decide, by decide +kernel⟩
  · simp only [List.mem_singleton] at hx
    subst hx
    refine .mk _ _ _ _ _ (fun h => by cases h) (fun h => by cases h) (fun x hx => ?_)
    simp only [List.mem_cons, List.not_mem_nil, or_false] at hx
    rcases hx with rfl | rfl
    · exact .mk _ _ _ _ _ (fun h => by cases h) (fun h => by cases h) (fun x hx => by simp at hx)
    · exact .mk _ _ _ _ _ (fun h => by cases h) (fun h => by cases h) (fun x hx => by simp at hx)
theorem ex1 : strB ⟨#[123, 34, 97, 34, 58, 91, 49, 44, 110, 117, 108, 108, 93, 125]⟩ = Js.q1 := by rfl
theorem ex2 : strB ⟨#[123, 34, 97, 34, 58, 49, 44, 34, 97, 34, 58, 50, 125]⟩ = Js.q2 := by rfl
theorem ex3 : strB ⟨#[91, 91, 93, 93]⟩ = [91, 91, 93, 93] := by rfl
theorem parse_ex1 (w : World) (hE : Err w) : Calls Tryz.prog 9 #[.string ⟨#[123, 34, 97, 34, 58, 91, 49, 44, 110, 117, 108, 108, 93, 125]⟩, .int .i64 2] w fun e w' =>
    (∃ k n x na nl nc a len cap, e = .returned (.tuple #[.agg #[.int .i64 k, .int .i64 n, .string x, .slice na nl nc, .slice a len cap], .int .i64 14, .int .i64 0]) ∧ FreshJ w.heap.size w' exJ (.agg #[.int .i64 k, .int .i64 n, .string x, .slice na nl nc, .slice a len cap])) ∧ Below w.heap.size w w' := by
  have h1 : ∃ t p1, Js.nx Js.q1 2 0 = .inr (t, p1) ∧ p1 ≤ 14 ∧ ∃ p2, Js.thing2 Js.q1 2 t p1 = .inr (exJ, p2) ∧ p2 ≤ 14 ∧ ∃ u p3, Js.nx Js.q1 2 p2 = .inr (u, p3) ∧ u.kind = 0 :=
    ⟨_, _, rfl, by decide, _, rfl, by decide, _, _, rfl, rfl⟩
  obtain ⟨t, p1, h1, hp1, p2, h2, hp2, u, p3, h3, hu⟩ := h1
  exact parse_good ⟨#[123, 34, 97, 34, 58, 91, 49, 44, 110, 117, 108, 108, 93, 125]⟩ 2 (by decide) (by decide) (fun q hq => by rw [ex1]; exact Js.q1_places q (Nat.lt_succ_of_le hq)) t p1 exJ p2 u p3 (by rw [ex1]; exact h1) hp1 (by rw [ex1]; exact h2) hp2 (by rw [ex1]; exact h3) hu w hE
theorem parse_ex2 (w : World) (hE : Err w) : Calls Tryz.prog 9 #[.string ⟨#[123, 34, 97, 34, 58, 49, 44, 34, 97, 34, 58, 50, 125]⟩, .int .i64 2] w fun e w' => e = .returned (.tuple #[.agg jzero, .int .i64 7, .int .i64 6]) ∧ Below w.heap.size w w' := by
  have h1 : ∃ t p1, Js.nx Js.q2 2 0 = .inr (t, p1) ∧ p1 ≤ 13 ∧ Js.thing2 Js.q2 2 t p1 = .inl (7, 6) := ⟨_, _, rfl, by decide, rfl⟩
  obtain ⟨t, p1, h1, hp1, h2⟩ := h1
  exact parse_bad ⟨#[123, 34, 97, 34, 58, 49, 44, 34, 97, 34, 58, 50, 125]⟩ 2 (by decide) (by decide) (fun q hq => by rw [ex2]; exact Js.q2_places q (Nat.lt_succ_of_le hq)) t p1 7 6 (by rw [ex2]; exact h1) hp1 (by rw [ex2]; exact h2) (by decide) w hE
theorem parse_ex3 (w : World) (hE : Err w) : Calls Tryz.prog 9 #[.string ⟨#[91, 91, 93, 93]⟩, .int .i64 1] w fun e w' => e = .returned (.tuple #[.agg jzero, .int .i64 1, .int .i64 3]) ∧ Below w.heap.size w w' := by
  have h1 : ∃ t p1, Js.nx [91, 91, 93, 93] 1 0 = .inr (t, p1) ∧ p1 ≤ 4 ∧ Js.thing2 [91, 91, 93, 93] 1 t p1 = .inl (1, 3) := ⟨_, _, rfl, by decide, rfl⟩
  obtain ⟨t, p1, h1, hp1, h2⟩ := h1
  exact parse_bad ⟨#[91, 91, 93, 93]⟩ 1 (by decide) (by decide) (fun q hq => by rw [ex3]; exact Js.q3_places q (Nat.lt_succ_of_le hq)) t p1 1 3 (by rw [ex3]; exact h1) hp1 (by rw [ex3]; exact h2) (by decide) w hE
theorem isL_form {w : World} {Y : Value} (h : IsJ w exL Y) : ∃ yna ync ya ycap, Y = .agg #[.int .i64 5, .int .i64 0, .string ⟨#[]⟩, .slice yna 0 ync, .slice ya 2 ycap] := by
  unfold exL IsJ at h
  obtain ⟨_, _, _, na, nc, a, cap, rfl, _⟩ := h
  exact ⟨_, _, _, _, rfl⟩
set_option maxRecDepth 100000 in
set_option maxHeartbeats 8000000 in
theorem jalive_any (w : World) (hE : Err w) : Calls Tryz.prog 4 #[] w fun e w' => e = .returned (.bool true) ∧ Below w.heap.size w w' := by
  have hp1 := parse_ex1 w hE
  have hp2 := fun W hE => parse_ex2 W hE
  have hp3 := fun W hE => parse_ex3 W hE
  have hFx : FindR 6 [⟨#[97]⟩] [exL] ⟨#[97]⟩ true exL := .inl ⟨rfl, rfl, 0, rfl, fun j hj => by omega, rfl⟩
  have hFi := fun W X hi => find_any 6 0 ⟨#[]⟩ [⟨#[97]⟩] [exL] ⟨#[97]⟩ W X hi
  have hPr := fun W X hi => jPrint_ok exJ exJ_pr exJ_right (by rw [exJ_size]; omega) exJ_len W X hi
  have hDe := fun W X hi => deep8_any exJ (by rw [exJ_size]; omega) W X hi
  have hRi := fun W X hi => right8_any exJ (by rw [exJ_size]; omega) W X hi
  have hSa := fun W X hi => same8_refl exJ W X X hi hi
  have hSn := fun W X Y hi hy => same8_kind 6 5 0 0 ⟨#[]⟩ ⟨#[]⟩ [⟨#[97]⟩] [] [exL] [.mk 2 1 ⟨#[]⟩ [] [], .mk 0 0 ⟨#[]⟩ [] []] (by decide) W X Y hi hy
  rw [exJ_text] at hPr
  rw [exJ_deep] at hDe
  rw [exJ_right] at hRi
  have HF := Lib.hid hFx
  have HFI := Lib.hid hFi; have HPR := Lib.hid hPr; have HDE := Lib.hid hDe; have HRI := Lib.hid hRi; have HSA := Lib.hid hSa; have HSN := Lib.hid hSn; have HP2 := Lib.hid hp2; have HP3 := Lib.hid hp3
  clear hFx hFi hPr hDe hRi hSa hSn hp2 hp3
  go_enter Tryz.func4, Tryz.ntmps4
  go_wp2_with (first
    | (go_at_call 9; first
      | ((with_reducible refine hp1.mono ?_); rintro e w1 ⟨⟨k, n, x, na, nl, nc, a, len, cap, rfl, hf⟩, hB1⟩; have hI := Lib.hid (fun W hb => isJ_below hb exJ _ (hf w1 (fun _ _ _ _ => rfl)) : ∀ W, Below w1.heap.size w1 W → IsJ W exJ _); have hA1 := (Below.refl _ w1).alloc (Nat.le_refl _) (.cells #[.int .i64 k, .int .i64 n, .string x, .slice na nl nc, .slice a len cap] 25); have hC1 := hB1.trans (hA1.mono hB1.size); have hX1 := jat_alloc w1 #[.int .i64 k, .int .i64 n, .string x, .slice na nl nc, .slice a len cap]; have hE1 := err_below hE hC1)
      | ((with_reducible refine (HP2.out _ hE1).mono ?_); rintro e w2 ⟨rfl, hB2⟩; have hA2 := hA1.trans ((hB2.trans (((Below.refl _ w2).alloc (Nat.le_refl _) (.cells #[.int .i64 0, .int .i64 0, .string ⟨#[]⟩, .slice none 0 0, .slice none 0 0] 25)).mono hB2.size)).mono hA1.size); have hX2 := jat_old (jat_below hB2 hX1) (.cells #[.int .i64 0, .int .i64 0, .string ⟨#[]⟩, .slice none 0 0, .slice none 0 0] 25); have hE2 := err_below (err_below hE1 hB2) ((Below.refl _ w2).alloc (Nat.le_refl _) (.cells #[.int .i64 0, .int .i64 0, .string ⟨#[]⟩, .slice none 0 0, .slice none 0 0] 25)))
      | ((with_reducible refine (HP3.out _ hE2).mono ?_); rintro e w3 ⟨rfl, hB3⟩; have hA3 := hA2.trans ((hB3.trans (((Below.refl _ w3).alloc (Nat.le_refl _) (.cells #[.int .i64 0, .int .i64 0, .string ⟨#[]⟩, .slice none 0 0, .slice none 0 0] 25)).mono hB3.size)).mono hA2.size); have hX3 := jat_old (jat_below hB3 hX2) (.cells #[.int .i64 0, .int .i64 0, .string ⟨#[]⟩, .slice none 0 0, .slice none 0 0] 25); obtain ⟨⟨u0, u1, u2, u3, u4⟩, _⟩ := jbox5 hX3))
    | (go_at_call 10; (with_reducible refine (HPR.out _ _ (hI.out _ hA3)).mono ?_); rintro e w4 ⟨rfl, hB4⟩; have hA4 := hA3.trans (hB4.mono hA3.size); have hX4 := jat_below hB4 hX3; obtain ⟨⟨t0, t1, t2, t3, t4⟩, _⟩ := jbox5 hX4)
    | (go_at_call 6; (with_reducible refine (HFI.out _ _ (hI.out _ hA4)).mono ?_); rintro e w5 ⟨Y, ok, y, rfl, hY, hF, hB5⟩; obtain ⟨rfl, rfl⟩ := find_one HF.out hF; obtain ⟨yna, ync, ya, ycap, rfl⟩ := isL_form hY; have hA5 := hA4.trans ((hB5.trans (((Below.refl _ w5).alloc (Nat.le_refl _) (.cells #[.int .i64 5, .int .i64 0, .string ⟨#[]⟩, .slice yna 0 ync, .slice ya 2 ycap] 25)).mono hB5.size)).mono hA4.size); have hX5 := jat_old (jat_below hB5 hX4) (.cells #[.int .i64 5, .int .i64 0, .string ⟨#[]⟩, .slice yna 0 ync, .slice ya 2 ycap] 25); obtain ⟨⟨s0, s1, s2, s3, s4⟩, _⟩ := jbox5 hX5; have hY5 := jat_alloc w5 #[.int .i64 5, .int .i64 0, .string ⟨#[]⟩, .slice yna 0 ync, .slice ya 2 ycap]; have HY := Lib.hid (fun W (hb : Below w5.heap.size w5 W) => isJ_below hb exL _ hY); have hL5 := (Below.refl _ w5).alloc (Nat.le_refl _) (.cells #[.int .i64 5, .int .i64 0, .string ⟨#[]⟩, .slice yna 0 ync, .slice ya 2 ycap] 25))
    | (go_at_call 11; (with_reducible refine (HDE.out _ _ (hI.out _ hA5)).mono ?_); rintro e w6 ⟨rfl, hB6⟩; have hA6 := hA5.trans (hB6.mono hA5.size); have hL6 := hL5.trans (hB6.mono hL5.size); have hX6 := jat_below hB6 hX5; obtain ⟨⟨r0, r1, r2, r3, r4⟩, _⟩ := jbox5 hX6)
    | (go_at_call 7; (with_reducible refine (HRI.out _ _ (hI.out _ hA6)).mono ?_); rintro e w7 ⟨rfl, hB7⟩; have hA7 := hA6.trans (hB7.mono hA6.size); have hL7 := hL6.trans (hB7.mono hL6.size); have hX7 := jat_below hB7 hX6; obtain ⟨⟨q0, q1, q2, q3, q4⟩, _⟩ := jbox5 hX7)
    | (go_at_call 8; first
      | ((with_reducible refine (HSA.out _ _ (hI.out _ hA7)).mono ?_); rintro e w8 ⟨rfl, hB8⟩; have hA8 := hA7.trans (hB8.mono hA7.size); have hL8 := hL7.trans (hB8.mono hL7.size); have hX8 := jat_below hB8 hX7; obtain ⟨⟨p0, p1, p2, p3, p4⟩, _⟩ := jbox5 hX8; obtain ⟨⟨g0, g1, g2, g3, g4⟩, _⟩ := jbox5 (jat_below hB8 (jat_below hB7 (jat_below hB6 hY5))))
      | ((with_reducible refine (HSN.out _ _ _ (hI.out _ hA8) (HY.out _ hL8)).mono ?_); rintro e w9 ⟨rfl, hB9⟩; have hA9 := hA8.trans (hB9.mono hA8.size))))
  go_ret
  exact ⟨rfl, hB1.trans (hA9.mono hB1.size)⟩
theorem jsonFindsWalk.walk (t0 : JV) (v0 : Value) (a1 : ByteArray) (w : World) (w0 : IsJ w t0 v0) (w1 : a1.size ≤ maxLen) (hE : Err w) :
    Calls Tryz.prog 3 #[v0, .string a1] w fun e w' => e = .returned (.bool true) ∧ Below w.heap.size w w' := jsonFindsWalk.walkA t0 v0 a1 w hE jalive_any w0 w1
end Go.Proofs.YtpiajoffddjjfaaGreatDoor
