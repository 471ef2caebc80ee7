/- The walk of BinPuts: the bytes of every number, text and value are the document's. -/
import Derived.Test.YtihpalbmkcoalaaBinAlive
import Derived.Test.YtihpalbmkcoalaaRefPuts
import Derived.Test.YtihpalbmkcoalaaValGreat
import Derived.Deep.RegionHeld3
namespace Go.Proofs.Ytihpalbmkcoalaa.binPutsWalk
open Go.RowKit Go.Shelf
attribute [local go_sem] Oper.semAt_some
/-- a box of a value's, and all below as it was -/
theorem keepP {b : Nat} {c0 c1 c2 c3 : Value} {A W W' : World} (h : ((W.cell? ⟨b, 0, none⟩ = some c0 ∧ W.cell? ⟨b, 1, none⟩ = some c1) ∧ (W.cell? ⟨b, 2, none⟩ = some c2 ∧ W.cell? ⟨b, 3, none⟩ = some c3)) ∧ Below A.heap.size A W) (hb : b < A.heap.size) (hw : Below A.heap.size W W') :
    ((W'.cell? ⟨b, 0, none⟩ = some c0 ∧ W'.cell? ⟨b, 1, none⟩ = some c1) ∧ (W'.cell? ⟨b, 2, none⟩ = some c2 ∧ W'.cell? ⟨b, 3, none⟩ = some c3)) ∧ Below A.heap.size A W' :=
  ⟨⟨⟨(hw.cell (p := ⟨b, 0, none⟩) hb).trans h.1.1.1, (hw.cell (p := ⟨b, 1, none⟩) hb).trans h.1.1.2⟩, (hw.cell (p := ⟨b, 2, none⟩) hb).trans h.1.2.1, (hw.cell (p := ⟨b, 3, none⟩) hb).trans h.1.2.2⟩, h.2.trans hw⟩
theorem keepQ {b : Nat} {c0 c1 c2 c3 : Value} {A W : World} (h : ((W.cell? ⟨b, 0, none⟩ = some c0 ∧ W.cell? ⟨b, 1, none⟩ = some c1) ∧ (W.cell? ⟨b, 2, none⟩ = some c2 ∧ W.cell? ⟨b, 3, none⟩ = some c3)) ∧ Below A.heap.size A W) : Below A.heap.size A W := h.2
theorem below_alloc' (A W : World) (h : A.heap.size ≤ W.heap.size) (o : Obj) : Below A.heap.size W (W.alloc o) := (Below.refl _ W).alloc h o
theorem below_drew2 (A W : World) : Below A.heap.size W W.drew := ⟨rfl, rfl, rfl, Nat.le_refl _, fun _ _ => rfl⟩
theorem keepR {b : Nat} {c0 c1 c2 c3 : Value} {A W W' : World} (hb : Below W.heap.size W W') (h : ((W.cell? ⟨b, 0, none⟩ = some c0 ∧ W.cell? ⟨b, 1, none⟩ = some c1) ∧ (W.cell? ⟨b, 2, none⟩ = some c2 ∧ W.cell? ⟨b, 3, none⟩ = some c3)) ∧ Below A.heap.size A W) : Below A.heap.size A W' := h.2.trans (hb.mono h.2.size)
theorem isSl_row {W : World} {a : Option Addr} {n cap : Nat} {l : List Int} (h : Row W .u8 a n cap l) : IsSl W (.slice a n cap) l := ⟨a, n, cap, rfl, h⟩
/-- the same, of what is under a call -/
theorem got_under2 {A W w' : World} (h : Below A.heap.size A W) (hb : Below W.heap.size W w') : Below A.heap.size W w' := hb.mono h.size
theorem bytes_sl {W : World} {a b : Option Addr} {n m c d : Nat} {l : List Int} (h1 : IsSl W (.slice a n c) l) (h2 : IsSl W (.slice b m d) l) : Calls Try.prog 10 #[.slice a n c, .slice b m d] W fun e w' => e = .returned (.bool true) ∧ Below W.heap.size W w' := by
  obtain ⟨_, _, _, e1, r1⟩ := h1
  obtain ⟨_, _, _, e2, r2⟩ := h2
  cases e1
  cases e2
  refine (refBytes_any _ _ _ _ _ _ l l W r1 r2).mono ?_
  rintro e w' ⟨rfl, n, rfl⟩
  exact ⟨by simp, below_drewN' n⟩
set_option maxRecDepth 100000 in
set_option maxHeartbeats 8000000 in
theorem walk (a0 : Int) (a1 : Int) (a2 : ByteArray) (t3 : PV) (v3 : Value) (w : World) (w0 : (Lit.int .i64 a0).wf = true) (_ : (Lit.int .i64 a1).wf = true) (w2 : a2.size ≤ maxLen) (w3 : Is w t3 v3) :
    Calls Try.prog 3 #[.int .i64 a0, .int .i64 a1, .string a2, v3] w fun e w' => e = .returned (.bool true) ∧ Below w.heap.size w w' := by
  have hal := fun W => alive_any W
  have h0 := wf_i64 w0
  clear w0
  obtain ⟨k, m, s, va, vl, vc, rfl⟩ := is_form w3
  have hA0 := (Below.refl _ w).alloc (Nat.le_refl _) (vobj k m s va vl vc)
  have hI : ∀ W, Below (w.alloc (vobj k m s va vl vc)).heap.size (w.alloc (vobj k m s va vl vc)) W → Is W t3 (.agg #[.int .i64 k, .int .i64 m, .string s, .slice va vl vc]) := fun W hW => is_below hW _ _ (is_below hA0 _ _ w3)
  have hG := fun W hW => great_any t3 W _ (hI W hW)
  have HI := Lib.hid hI
  clear hI w3
  unfold maxLen at w2
  by_cases c1 : 500 < a2.size
  · have d1 : decide ((500 : Int) < (a2.size : Int)) = true := by simp; omega
    clear hG
    go_enter Try.func3, Try.ntmps3
    go_wp2_with (first | (go_at_call 8; (with_reducible refine (hal _).mono ?_); rintro e wA ⟨rfl, hA⟩))
    go_ret
    exact ⟨rfl, hA0.trans (hA.mono hA0.size)⟩
  have d1 : decide ((500 : Int) < (a2.size : Int)) = false := by simp; omega
  have hs5 : a2.size ≤ 500 := by omega
  have hgz := great_sz t3
  obtain ⟨g, hg⟩ : ∃ g, greatV t3 = g := ⟨_, rfl⟩
  rw [hg] at hG hgz
  cases g with
  | true =>
    clear hg hgz
    go_enter Try.func3, Try.ntmps3
    go_wp2_with (first
      | (go_at_call 8; (with_reducible refine (hal _).mono ?_); rintro e wA ⟨rfl, hA⟩; obtain ⟨e0, e1, e2, e3⟩ := box_cells hA)
      | (go_at_call 9; (with_reducible refine (hG _ hA).mono ?_); rintro e wB ⟨rfl, hB⟩))
    go_ret
    exact ⟨rfl, hA0.trans ((hA.trans (hB.mono hA.size)).mono hA0.size)⟩
  | false =>
  have hsz := hgz rfl
  have hV := fun W hW => bvalue_any t3 W _ (HI.out W hW)
  have hV' := fun W hW => ref06Value_any t3 (by omega) W _ (HI.out W hW)
  have hN := fun W => num_any a0 W
  have hN' := fun W => ref06Num_any a0 W
  have hL := fun W => long_any a1 W
  have hL' := fun W => ref06Long_any a1 W
  have hT := fun W => btext_any a2 W (by omega)
  have hT' := fun W => ref06Text_any a2 W (by omega)
  have hY := fun W => byte_any a0 W
  have hone : (0 ≤ a0 ∧ a0 ≤ 255 ∧ spn a0 255 1 = [a0]) ∨ ((a0 < 0 ∨ 255 < a0) ∧ spn a0 255 1 = []) := by
    by_cases h : a0 < 0 ∨ 255 < a0
    · exact .inr ⟨h, by unfold spn; rw [if_pos h]⟩
    · exact .inl ⟨by omega, by omega, spn_byte a0 (by omega) (by omega)⟩
  generalize spn a0 2147483647 4 = l1 at *
  generalize spl64 a1 = l2 at *
  generalize Bn.spl a2.size 4 ++ strB a2 = l3 at *
  generalize valB t3 = l4 at *
  generalize spn a0 255 1 = l5 at *
  have hbl : w.heap.size < (w.alloc (vobj k m s va vl vc)).heap.size := by simp
  clear hg hgz
  have hcases : (decide (0 ≤ a0) = true ∧ decide (a0 ≤ 255) = true ∧ l5 = [a0] ∧ a0 % 256 = a0) ∨ (decide (0 ≤ a0) = false ∧ l5 = []) ∨ (decide (0 ≤ a0) = true ∧ decide (a0 ≤ 255) = false ∧ l5 = []) := by
    rcases hone with ⟨h1, h2, h3⟩ | ⟨h1 | h1, h3⟩
    · exact .inl ⟨by simpa using h1, by simpa using h2, h3, by omega⟩
    · exact .inr (.inl ⟨by simp; omega, h3⟩)
    · exact .inr (.inr ⟨by simp; omega, by simp; omega, h3⟩)
  clear hone
  have key : ∀ (W8 : World) (ao : Option Addr) (no co : Nat), Below (w.alloc (vobj k m s va vl vc)).heap.size (w.alloc (vobj k m s va vl vc)) W8 → IsSl W8 (.slice ao no co) l5 → True := fun _ _ _ _ _ _ => trivial
  clear key
  rcases hcases with ⟨f1, f2, f3, f4⟩ | ⟨f1, f3⟩ | ⟨f1, f2, f3⟩
  · go_enter Try.func3, Try.ntmps3
    go_upto_region 8 with (first
      | (go_at_call 8; (with_reducible refine (hal _).mono ?_); rintro e wA ⟨rfl, hA⟩; obtain ⟨e0, e1, e2, e3⟩ := box_cells hA)
      | (go_at_call 9; (with_reducible refine (hG _ hA).mono ?_); rintro e wB ⟨rfl, hB⟩; have hAB := hA.trans (hB.mono hA.size)))
    subst f3
    have hone := isSl_own (l := [a0]) (owns_built wB [.int .u8 a0] 5 1 rfl (by unfold maxLen; omega))
    have hA8 := hAB.alloc hAB.size (.cells #[.int .u8 a0] 5)
    obtain ⟨p0, p1, p2, p3⟩ := box_cells hA8
    generalize wB.alloc (.cells #[.int .u8 a0] 5) = W8 at *
    generalize wB.heap.size = gB at *
    generalize w.alloc (vobj k m s va vl vc) = A at *
    generalize hbq : w.heap.size = b at *
    have HBQ := Lib.hid hbq
    have HA0 := Lib.hid hA0
    clear hbq hal hG hA hB hAB e0 e1 e2 e3 hA0
    have hbl8 : b < W8.heap.size := Nat.lt_of_lt_of_le hbl hA8.size
    have HA8 := Lib.hid hA8
    clear hA8
    go_region_held3 (fun W => ((W.cell? ⟨b, 0, none⟩ = some (.int .i64 k) ∧ W.cell? ⟨b, 1, none⟩ = some (.int .i64 m)) ∧ (W.cell? ⟨b, 2, none⟩ = some (.string s) ∧ W.cell? ⟨b, 3, none⟩ = some (.slice va vl vc))) ∧ Below W8.heap.size W8 W)
      (first | assumption | exact keepP (by assumption) hbl8 (got_under2 (keepQ (by assumption)) hb) | exact keepP ⟨⟨⟨p0, p1⟩, p2, p3⟩, Below.refl _ _⟩ hbl8 (below_drew2 _ _)) (first
      | (go_at_call 11; (with_reducible refine (hN _).mono ?_); rintro e wx ⟨vx, rfl, hox, hb⟩; have hsx := isSl_own hox; obtain ⟨ax, nx, cx, rfl, _⟩ := id hsx)
      | (go_at_call 13; (with_reducible refine (hL _).mono ?_); rintro e wx ⟨vx, rfl, hox, hb⟩; have hsx := isSl_own hox; obtain ⟨ax, nx, cx, rfl, _⟩ := id hsx)
      | (go_at_call 15; (with_reducible refine (hT _).mono ?_); rintro e wx ⟨vx, rfl, hox, hb⟩; have hsx := isSl_own hox; obtain ⟨ax, nx, cx, rfl, _⟩ := id hsx)
      | (go_at_call 17; (with_reducible refine (hV _ (HA8.out.trans ((keepQ (by assumption)).mono HA8.out.size))).mono ?_); rintro e wx ⟨vx, rfl, hox, hb⟩; have hsx := isSl_own hox; obtain ⟨ax, nx, cx, rfl, _⟩ := id hsx)
      | (go_at_call 19; (with_reducible refine (hY _).mono ?_); rintro e wx ⟨vx, rfl, hox, hb⟩; have hsx := isSl_own hox; obtain ⟨ax, nx, cx, rfl, _⟩ := id hsx; have hsy := isSl_below hone (keepR hb (by assumption)))
      | (go_at_call 12; (with_reducible refine (hN' _).mono ?_); rintro e wy ⟨vy, rfl, hoy, hb⟩; have hsy := isSl_own hoy; obtain ⟨ay, ny, cy, rfl, _⟩ := id hsy; have hsx := isSl_below hsx hb)
      | (go_at_call 14; (with_reducible refine (hL' _).mono ?_); rintro e wy ⟨vy, rfl, hoy, hb⟩; have hsy := isSl_own hoy; obtain ⟨ay, ny, cy, rfl, _⟩ := id hsy; have hsx := isSl_below hsx hb)
      | (go_at_call 16; (with_reducible refine (hT' _).mono ?_); rintro e wy ⟨vy, rfl, hoy, hb⟩; have hsy := isSl_own hoy; obtain ⟨ay, ny, cy, rfl, _⟩ := id hsy; have hsx := isSl_below hsx hb)
      | (go_at_call 18; (with_reducible refine (hV' _ (HA8.out.trans ((keepQ (by assumption)).mono HA8.out.size))).mono ?_); rintro e wy ⟨vy, rfl, hoy, hb⟩; have hsy := isSl_own hoy; obtain ⟨ay, ny, cy, rfl, _⟩ := id hsy; have hsx := isSl_below hsx hb)
      | (go_at_call 10; (with_reducible refine (bytes_sl hsx hsy).mono ?_); rintro e wz ⟨rfl, hb⟩))
    all_goals (
      go_wp2_with fail
      go_ret
      exact ⟨rfl, by have h := HA0.out.trans ((HA8.out.trans ((keepQ (W := wz) (by assumption)).mono HA8.out.size)).mono (Nat.le_of_lt hbl)); rw [← HBQ.out] at h; exact h⟩)
  · go_enter Try.func3, Try.ntmps3
    go_upto_region 8 with (first
      | (go_at_call 8; (with_reducible refine (hal _).mono ?_); rintro e wA ⟨rfl, hA⟩; obtain ⟨e0, e1, e2, e3⟩ := box_cells hA)
      | (go_at_call 9; (with_reducible refine (hG _ hA).mono ?_); rintro e wB ⟨rfl, hB⟩; have hAB := hA.trans (hB.mono hA.size)))
    subst f3
    have hone : IsSl wB (.slice none 0 0) [] := ⟨none, 0, 0, rfl, rfl, Nat.le_refl _, by unfold maxLen; omega, .inl rfl⟩
    have hA8 := hAB
    obtain ⟨p0, p1, p2, p3⟩ := box_cells hA8
    generalize wB = W8 at *
    generalize w.alloc (vobj k m s va vl vc) = A at *
    generalize hbq : w.heap.size = b at *
    have HBQ := Lib.hid hbq
    have HA0 := Lib.hid hA0
    clear hbq hal hG hA hB hAB e0 e1 e2 e3 hA0
    have hbl8 : b < W8.heap.size := Nat.lt_of_lt_of_le hbl hA8.size
    have HA8 := Lib.hid hA8
    clear hA8
    go_region_held3 (fun W => ((W.cell? ⟨b, 0, none⟩ = some (.int .i64 k) ∧ W.cell? ⟨b, 1, none⟩ = some (.int .i64 m)) ∧ (W.cell? ⟨b, 2, none⟩ = some (.string s) ∧ W.cell? ⟨b, 3, none⟩ = some (.slice va vl vc))) ∧ Below W8.heap.size W8 W)
      (first | assumption | exact keepP (by assumption) hbl8 (got_under2 (keepQ (by assumption)) hb) | exact keepP ⟨⟨⟨p0, p1⟩, p2, p3⟩, Below.refl _ _⟩ hbl8 (below_drew2 _ _)) (first
      | (go_at_call 11; (with_reducible refine (hN _).mono ?_); rintro e wx ⟨vx, rfl, hox, hb⟩; have hsx := isSl_own hox; obtain ⟨ax, nx, cx, rfl, _⟩ := id hsx)
      | (go_at_call 13; (with_reducible refine (hL _).mono ?_); rintro e wx ⟨vx, rfl, hox, hb⟩; have hsx := isSl_own hox; obtain ⟨ax, nx, cx, rfl, _⟩ := id hsx)
      | (go_at_call 15; (with_reducible refine (hT _).mono ?_); rintro e wx ⟨vx, rfl, hox, hb⟩; have hsx := isSl_own hox; obtain ⟨ax, nx, cx, rfl, _⟩ := id hsx)
      | (go_at_call 17; (with_reducible refine (hV _ (HA8.out.trans ((keepQ (by assumption)).mono HA8.out.size))).mono ?_); rintro e wx ⟨vx, rfl, hox, hb⟩; have hsx := isSl_own hox; obtain ⟨ax, nx, cx, rfl, _⟩ := id hsx)
      | (go_at_call 19; (with_reducible refine (hY _).mono ?_); rintro e wx ⟨vx, rfl, hox, hb⟩; have hsx := isSl_own hox; obtain ⟨ax, nx, cx, rfl, _⟩ := id hsx; have hsy := isSl_below hone (keepR hb (by assumption)))
      | (go_at_call 12; (with_reducible refine (hN' _).mono ?_); rintro e wy ⟨vy, rfl, hoy, hb⟩; have hsy := isSl_own hoy; obtain ⟨ay, ny, cy, rfl, _⟩ := id hsy; have hsx := isSl_below hsx hb)
      | (go_at_call 14; (with_reducible refine (hL' _).mono ?_); rintro e wy ⟨vy, rfl, hoy, hb⟩; have hsy := isSl_own hoy; obtain ⟨ay, ny, cy, rfl, _⟩ := id hsy; have hsx := isSl_below hsx hb)
      | (go_at_call 16; (with_reducible refine (hT' _).mono ?_); rintro e wy ⟨vy, rfl, hoy, hb⟩; have hsy := isSl_own hoy; obtain ⟨ay, ny, cy, rfl, _⟩ := id hsy; have hsx := isSl_below hsx hb)
      | (go_at_call 18; (with_reducible refine (hV' _ (HA8.out.trans ((keepQ (by assumption)).mono HA8.out.size))).mono ?_); rintro e wy ⟨vy, rfl, hoy, hb⟩; have hsy := isSl_own hoy; obtain ⟨ay, ny, cy, rfl, _⟩ := id hsy; have hsx := isSl_below hsx hb)
      | (go_at_call 10; (with_reducible refine (bytes_sl hsx hsy).mono ?_); rintro e wz ⟨rfl, hb⟩))
    all_goals (
      go_wp2_with fail
      go_ret
      exact ⟨rfl, by have h := HA0.out.trans ((HA8.out.trans ((keepQ (W := wz) (by assumption)).mono HA8.out.size)).mono (Nat.le_of_lt hbl)); rw [← HBQ.out] at h; exact h⟩)
  · go_enter Try.func3, Try.ntmps3
    go_upto_region 8 with (first
      | (go_at_call 8; (with_reducible refine (hal _).mono ?_); rintro e wA ⟨rfl, hA⟩; obtain ⟨e0, e1, e2, e3⟩ := box_cells hA)
      | (go_at_call 9; (with_reducible refine (hG _ hA).mono ?_); rintro e wB ⟨rfl, hB⟩; have hAB := hA.trans (hB.mono hA.size)))
    subst f3
    have hone : IsSl wB (.slice none 0 0) [] := ⟨none, 0, 0, rfl, rfl, Nat.le_refl _, by unfold maxLen; omega, .inl rfl⟩
    have hA8 := hAB
    obtain ⟨p0, p1, p2, p3⟩ := box_cells hA8
    generalize wB = W8 at *
    generalize w.alloc (vobj k m s va vl vc) = A at *
    generalize hbq : w.heap.size = b at *
    have HBQ := Lib.hid hbq
    have HA0 := Lib.hid hA0
    clear hbq hal hG hA hB hAB e0 e1 e2 e3 hA0
    have hbl8 : b < W8.heap.size := Nat.lt_of_lt_of_le hbl hA8.size
    have HA8 := Lib.hid hA8
    clear hA8
    go_region_held3 (fun W => ((W.cell? ⟨b, 0, none⟩ = some (.int .i64 k) ∧ W.cell? ⟨b, 1, none⟩ = some (.int .i64 m)) ∧ (W.cell? ⟨b, 2, none⟩ = some (.string s) ∧ W.cell? ⟨b, 3, none⟩ = some (.slice va vl vc))) ∧ Below W8.heap.size W8 W)
      (first | assumption | exact keepP (by assumption) hbl8 (got_under2 (keepQ (by assumption)) hb) | exact keepP ⟨⟨⟨p0, p1⟩, p2, p3⟩, Below.refl _ _⟩ hbl8 (below_drew2 _ _)) (first
      | (go_at_call 11; (with_reducible refine (hN _).mono ?_); rintro e wx ⟨vx, rfl, hox, hb⟩; have hsx := isSl_own hox; obtain ⟨ax, nx, cx, rfl, _⟩ := id hsx)
      | (go_at_call 13; (with_reducible refine (hL _).mono ?_); rintro e wx ⟨vx, rfl, hox, hb⟩; have hsx := isSl_own hox; obtain ⟨ax, nx, cx, rfl, _⟩ := id hsx)
      | (go_at_call 15; (with_reducible refine (hT _).mono ?_); rintro e wx ⟨vx, rfl, hox, hb⟩; have hsx := isSl_own hox; obtain ⟨ax, nx, cx, rfl, _⟩ := id hsx)
      | (go_at_call 17; (with_reducible refine (hV _ (HA8.out.trans ((keepQ (by assumption)).mono HA8.out.size))).mono ?_); rintro e wx ⟨vx, rfl, hox, hb⟩; have hsx := isSl_own hox; obtain ⟨ax, nx, cx, rfl, _⟩ := id hsx)
      | (go_at_call 19; (with_reducible refine (hY _).mono ?_); rintro e wx ⟨vx, rfl, hox, hb⟩; have hsx := isSl_own hox; obtain ⟨ax, nx, cx, rfl, _⟩ := id hsx; have hsy := isSl_below hone (keepR hb (by assumption)))
      | (go_at_call 12; (with_reducible refine (hN' _).mono ?_); rintro e wy ⟨vy, rfl, hoy, hb⟩; have hsy := isSl_own hoy; obtain ⟨ay, ny, cy, rfl, _⟩ := id hsy; have hsx := isSl_below hsx hb)
      | (go_at_call 14; (with_reducible refine (hL' _).mono ?_); rintro e wy ⟨vy, rfl, hoy, hb⟩; have hsy := isSl_own hoy; obtain ⟨ay, ny, cy, rfl, _⟩ := id hsy; have hsx := isSl_below hsx hb)
      | (go_at_call 16; (with_reducible refine (hT' _).mono ?_); rintro e wy ⟨vy, rfl, hoy, hb⟩; have hsy := isSl_own hoy; obtain ⟨ay, ny, cy, rfl, _⟩ := id hsy; have hsx := isSl_below hsx hb)
      | (go_at_call 18; (with_reducible refine (hV' _ (HA8.out.trans ((keepQ (by assumption)).mono HA8.out.size))).mono ?_); rintro e wy ⟨vy, rfl, hoy, hb⟩; have hsy := isSl_own hoy; obtain ⟨ay, ny, cy, rfl, _⟩ := id hsy; have hsx := isSl_below hsx hb)
      | (go_at_call 10; (with_reducible refine (bytes_sl hsx hsy).mono ?_); rintro e wz ⟨rfl, hb⟩))
    all_goals (
      go_wp2_with fail
      go_ret
      exact ⟨rfl, by have h := HA0.out.trans ((HA8.out.trans ((keepQ (W := wz) (by assumption)).mono HA8.out.size)).mono (Nat.le_of_lt hbl)); rw [← HBQ.out] at h; exact h⟩)
end Go.Proofs.Ytihpalbmkcoalaa.binPutsWalk
