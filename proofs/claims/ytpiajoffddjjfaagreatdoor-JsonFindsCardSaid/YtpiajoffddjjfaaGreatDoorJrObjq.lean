/- Reading JSON: object. -/
import Derived.Test.YtpiajoffddjjfaaGreatDoorJrO4q
set_option linter.unusedVariables false
namespace Go.Proofs.YtpiajoffddjjfaaGreatDoor
open Go.RowKit Go.Shelf
/-- names of one's own, in every world that has kept them -/
theorem nrow_of_own {B : Nat} {w1 W' : World} {na : Option Addr} {nc : Nat} {ns : List ByteArray} (h : w1.ownsRow B 9 1 (.slice na ns.length nc) ns.length (ns.map Value.string)) (h8 : ∀ t ∈ ns, t.size ≤ maxLen) (hW' : ∀ b, B ≤ b → b < w1.heap.size → NT w1 b → W'.heap[b]? = w1.heap[b]?) : NRow W' na nc ns := by
  rcases h.2 with ⟨he, hn⟩ | ⟨g, cap, cur, he, hg, hh, hc1, hc2, hc3, hc4⟩
  · simp only [Value.slice.injEq] at he
    obtain ⟨rfl, hl, rfl⟩ := he
    exact ⟨by omega, by unfold maxLen; omega, h8, .inl (List.length_eq_zero_iff.1 hl)⟩
  · simp only [Value.slice.injEq, true_and] at he
    obtain ⟨rfl, rfl⟩ := he
    refine ⟨hc1, hc2, h8, .inr ⟨g, 0, rfl, fun i t hi => ?_⟩⟩
    have hv : W'.heap[g]? = some (.cells cur 9 (0, 0)) := (hW' g hg (Array.getElem?_eq_some_iff.1 hh).1 (nt_cells hh (by decide))).trans hh
    have hil : i < ns.length := (List.getElem?_eq_some_iff.1 hi).1
    have hmi : (ns.map Value.string)[i]? = some (.string t) := by rw [List.getElem?_map, hi]; rfl
    rw [← hc4, List.getElem?_take, if_pos (by omega)] at hmi
    rw [Nat.zero_add]
    simp only [World.cell?, hv]
    simpa using hmi
/-- an Obj's part, as far as is said -/
theorem object1_any (s : ByteArray) (p r B rb bx sb sv : Nat) (hsm : s.size ≤ 100000) (hpe : p ≠ 1) (ih : ThC s p r) (R : Js.Out (Js.OSt × Nat)) (hR0 : R ≠ .inl (0, 0)) (t : K.Tok) (q : Nat) (a : Js.OSt) (w0 W : World) (hq : q ≤ s.size)
    (hne : ∀ e, Js.partO2 (Js.thing2 (strB s) r) (strB s) r t q a = .inl e → R = .inl e) (ha : OStt B p rb bx sb sv a W) (hr : RJ W p s q r) (hE : Err W) (hE0 : Err w0) (hp : p < rb) (hrb : rb < B) (hbx : bx < B) (hpx : p ≠ bx) (hrx : rb ≠ bx) (hpsb : p ≠ sb) (hps : p ≠ sv) (hsb : sb < B) (hsbx : sb ≠ bx) (hsvB : sv < B) (hBW : B ≤ W.heap.size) (hsv : w0.heap.size ≤ sv) (hxb : w0.heap.size ≤ bx) (hG : w0.grownBy W (some p)) :
    Calls Tryz.prog 45 #[tokV t, .pointer (some ⟨sb, 0, none⟩), .pointer (some ⟨rb, 0, none⟩), .pointer (some ⟨bx, 0, none⟩)] W fun e w' => PaR (OStt B p rb bx sb sv) p s r w0 (Js.partO2 (Js.thing2 (strB s) r) (strB s) r t q a) e w' ∧ KeepT W w' := by
  have hl := strB_len s
  unfold Js.partO2 at hne ⊢
  by_cases h1 : Js.okT t = true ∧ t.kind = 7 ∧ a.1.length ≤ 100000
  · rw [if_pos h1] at hne ⊢
    obtain ⟨hok, hk, hlen⟩ := h1
    by_cases h2 : hasN a.1 (strOfNums t.s) = true
    · rw [if_pos h2]
      exact object1_twice s r B p rb bx sb sv t q a w0 W hok hk hlen h2 ha hps hsv hG
    · rw [if_neg h2] at hne ⊢
      have h2' : hasN a.1 (strOfNums t.s) = false := by simpa using h2
      unfold Js.partO3 at hne ⊢
      have hN1 := fun W' hr' hE' => jnext_any s p q r W' hsm hq hr' hE'
      obtain ⟨X, hX⟩ : ∃ X, Js.nx (strB s) r q = X := ⟨_, rfl⟩
      rw [hX] at hne hN1 ⊢
      cases X with
      | inl e => exact absurd (hne _ rfl) hR0
      | inr cq =>
        obtain ⟨c, q1⟩ := cq
        simp only at hne ⊢
        by_cases h3 : c.kind = 5 ∧ q1 ≤ (strB s).length
        · rw [if_pos h3] at hne ⊢
          have hN2 := fun W' hr' hE' => jnext_any s p q1 r W' hsm (by omega) hr' hE'
          obtain ⟨Y, hY⟩ : ∃ Y, Js.nx (strB s) r q1 = Y := ⟨_, rfl⟩
          rw [hY] at hne hN2 ⊢
          cases Y with
          | inl e => exact absurd (hne _ rfl) hR0
          | inr uq =>
            obtain ⟨u, q2⟩ := uq
            simp only at hne ⊢
            by_cases h4 : q2 ≤ (strB s).length
            · rw [if_pos h4] at hne ⊢
              have hth := fun W' hr' hE' hn => ih u q2 W' (by omega) hr' hE' hn
              obtain ⟨Z, hZ⟩ : ∃ Z, Js.thing2 (strB s) r u q2 = Z := ⟨_, rfl⟩
              rw [hZ] at hne hth ⊢
              cases Z with
              | inl e => exact absurd (hne _ rfl) hR0
              | inr vq =>
                obtain ⟨v, q3⟩ := vq
                simp only at hne ⊢
                by_cases h5 : q3 ≤ (strB s).length ∧ a.1.length ≤ 100000
                · rw [if_pos h5]
                  exact object1_ok s r B p rb bx sb sv t q a w0 W c q1 u q2 v q3 hok hk hlen h2' h3.1 hN1 hN2 (fun W' hr' hE' => hth W' hr' hE' (by simp)) ha hr hE hE0 hpe hp hrb hbx hpx hrx hpsb hps hsb hsbx hsvB hBW hsv hxb hG
                · rw [if_neg h5] at hne
                  exact absurd (hne _ rfl) hR0
            · rw [if_neg h4] at hne
              exact absurd (hne _ rfl) hR0
        · rw [if_neg h3] at hne
          exact absurd (hne _ rfl) hR0
  · rw [if_neg h1] at hne
    exact absurd (hne _ rfl) hR0
set_option maxRecDepth 100000 in
set_option maxHeartbeats 4000000 in
theorem object_ok (s : ByteArray) (p r : Nat) (hsm : s.size ≤ 100000) (hpl : ∀ q, q ≤ s.size → (K.next (strB s) q).2.1 ≤ s.size) (hr1 : r ≤ 1000) (hpe : p ≠ 1) (ih : ThC s p r) (q : Nat) (W : World) (hq : q ≤ s.size) (hr : RJ W p s q (r + 1)) (hE : Err W)
    (R : Js.Out (Js.OSt × Nat)) (hR : Js.partsP (Js.partO2 (Js.thing2 (strB s) r) (strB s) r) (strB s) r 4 q ([], []) = R) (hR0 : R ≠ .inl (0, 0)) :
    Calls Tryz.prog 35 #[.pointer (some ⟨p, 0, none⟩)] W (ThR p s (r + 1) W (Js.andThen R fun (o, q) => .inr (.mk 6 0 ⟨#[]⟩ o.1 o.2, q))) := by
  have hmm := @run_makeMap Tryz.prog
  have hmf : ∀ (fn : Fn) (first cap : Array Value) (w : World), (Instr.makeFunc fn first cap).run Tryz.prog w = .ok (.func fn first cap) w := fun _ _ _ _ => rfl
  have hpW := rj_lt hr
  have hA1 := (Below.refl _ W).alloc (Nat.le_refl _) (.cells #[.pointer (some ⟨p, 0, none⟩)] 45)
  have hA2 := hA1.alloc hA1.size (.cells jzero 25)
  obtain ⟨W2, hW2⟩ : ∃ W2, ((W.alloc (.cells #[.pointer (some ⟨p, 0, none⟩)] 45)).alloc (.cells jzero 25)) = W2 := ⟨_, rfl⟩
  have hs2 : W2.heap.size = W.heap.size + 1 + 1 := by rw [← hW2, World.size_alloc, World.size_alloc]
  have hbr2 : Boxed W2 W.heap.size 45 (.pointer (some ⟨p, 0, none⟩)) := by rw [← hW2]; exact (Boxed.new W _ _).alloc _
  have hz2 : JAt W2 (W.heap.size + 1) jzero := by
    have := jat_alloc (W.alloc (.cells #[.pointer (some ⟨p, 0, none⟩)] 45)) jzero
    rwa [World.size_alloc, hW2] at this
  rw [hW2] at hA2
  have hA3 := (Below.refl _ W2).alloc (Nat.le_refl _) (.cells #[.int .i64 6, .int .i64 0, .string ⟨#[]⟩, .slice none 0 0, .slice none 0 0] 25)
  have hA4 := hA3.alloc hA3.size (.map #[] 0)
  have hA5 := hA4.alloc hA4.size (.cells #[.map (some (W.heap.size + 1 + 1 + 1))] 55)
  obtain ⟨W5, hW5⟩ : ∃ W5, ((W2.alloc (.cells #[.int .i64 6, .int .i64 0, .string ⟨#[]⟩, .slice none 0 0, .slice none 0 0] 25)).alloc (.map #[] 0)).alloc (.cells #[.map (some (W.heap.size + 1 + 1 + 1))] 55) = W5 := ⟨_, rfl⟩
  have hx5 : JAt W5 (W.heap.size + 1 + 1) #[.int .i64 6, .int .i64 0, .string ⟨#[]⟩, .slice none 0 0, .slice none 0 0] := by
    have := jat_old (jat_old (jat_alloc W2 #[.int .i64 6, .int .i64 0, .string ⟨#[]⟩, .slice none 0 0, .slice none 0 0]) (.map #[] 0)) (.cells #[.map (some (W.heap.size + 1 + 1 + 1))] 55)
    rwa [hs2, hW5] at this
  have hN5 : NSet W5 (W.heap.size + 1 + 1 + 1) 0 [] := by
    have h := nset_below (nset_made (W2.alloc (.cells #[.int .i64 6, .int .i64 0, .string ⟨#[]⟩, .slice none 0 0, .slice none 0 0] 25))) ((Below.refl _ _).alloc (Nat.le_refl _) (.cells #[.map (some (W.heap.size + 1 + 1 + 1))] 55))
    rwa [World.size_alloc, hs2, hW5] at h
  have hbs5 : Boxed W5 (W.heap.size + 1 + 1 + 1 + 1) 55 (.map (some (W.heap.size + 1 + 1 + 1))) := by
    have h := Boxed.new ((W2.alloc (.cells #[.int .i64 6, .int .i64 0, .string ⟨#[]⟩, .slice none 0 0, .slice none 0 0] 25)).alloc (.map #[] 0)) 55 (.map (some (W.heap.size + 1 + 1 + 1)))
    rwa [World.size_alloc, World.size_alloc, hs2, hW5] at h
  have hs5 : W5.heap.size = W.heap.size + 5 := by rw [← hW5, World.size_alloc, World.size_alloc, World.size_alloc, hs2]
  rw [hW5] at hA5
  have hbr5 : Boxed W5 W.heap.size 45 (.pointer (some ⟨p, 0, none⟩)) := (hA5.block _ hbr2.lt).trans hbr2
  have hP := parts_any (OStt (W.heap.size + 5) p W.heap.size (W.heap.size + 1 + 1) (W.heap.size + 1 + 1 + 1 + 1) (W.heap.size + 1 + 1 + 1)) (Js.partO2 (Js.thing2 (strB s) r) (strB s) r) s p r 4 45 #[.pointer (some ⟨W.heap.size + 1 + 1 + 1 + 1, 0, none⟩), .pointer (some ⟨W.heap.size, 0, none⟩), .pointer (some ⟨W.heap.size + 1 + 1, 0, none⟩)] W2
    (fun a W W' row h hg ht => ostt_kept (by omega) (by omega) (by omega) (by omega) (by omega) (by omega) h hg ht) hsm hpl (fun t q a a' q' _ h => by have := Js.partO2_place h; rwa [strB_len] at this) (fun _ _ => rfl) R
    (fun t q a W1 hq1 hne ha hr1 hE1 hG1 => by
      have hbl := ha.2.1.lt
      exact object1_any s p r (W.heap.size + 5) W.heap.size (W.heap.size + 1 + 1) (W.heap.size + 1 + 1 + 1 + 1) (W.heap.size + 1 + 1 + 1) hsm hpe ih R hR0 t q a W2 W1 hq1 hne ha hr1 hE1 (err_below hE hA2) (by omega) (by omega) (by omega) (by omega) (by omega) (by omega) (by omega) (by omega) (by omega) (by omega) (by omega) (by omega) (by omega) hG1)
    q ([], []) W5 hq ⟨hbr5, hbs5, ⟨[], hN5, fun _ => rfl⟩, by simp, rfl, none, 0, none, 0, [], hx5, World.ownsRow_nil _ _ _ _, World.ownsRow_nil _ _ _ _, jel2_nil _ _ _⟩ (rj_below (rj_below hr hA2) hA5) (err_below (err_below hE hA2) hA5) (err_below hE hA2) hpe (grownJ_of_below hA5 _) hR hR0 (by omega)
  rw [← hW5] at hP
  have hG2 := grownJ_of_below hA2 (some p)
  have hr2 := rj_below hr hA2
  clear hR hR0 ih hx5 hN5 hbs5 hbr5 hA5 hA4 hA3 hs5 hW5 hbr2
  subst hW2
  cases R with
  | inl ae =>
    obtain ⟨ea, er⟩ := ae
    go_enter Tryz.func35, Tryz.ntmps35
    go_wp2_with (go_at_call 43; (with_reducible refine hP.mono ?_); rintro e w1 ⟨rfl, hg⟩)
    exact ⟨rfl, rfl, grownJ_then hG2 hg (fun b e => .inr e)⟩
  | inr vq =>
    obtain ⟨⟨nms, vs⟩, q'⟩ := vq
    go_enter Tryz.func35, Tryz.ntmps35
    go_wp2_with (go_at_call 43; (with_reducible refine hP.mono ?_); rintro e w1 ⟨⟨u, rfl⟩, ⟨hb1, hb2, ⟨hs, hN1, hhs⟩, h8, h9, na, nc, a, c, cs, hx1, hn1, hown1, hel1⟩, hr1, hg⟩; have hz1 : JAt w1 (W.heap.size + 1) jzero := (hg.block (W.heap.size + 1) (jat_lt hz2) (fun e => by cases e; omega)).trans hz2; simp only at hx1 hn1 hown1 hel1 h8; have H9 := Lib.hid h9; clear h9; obtain ⟨⟨x0, x1, x2, x3, x4⟩, _⟩ := jbox5 hx1; obtain ⟨⟨y0, y1, y2, y3, y4⟩, z0, z1, z2, z3, z4⟩ := jbox5 hz1)
    refine bodyPost_ret (results_cell_row Tryz.results35 _ _ (W.heap.size + 1) _ _ _ _ rfl (jat_set5 hz1 _ _ _ _ _) Tryz.underlying25 rfl json_info) rfl ?_
    refine ⟨⟨_, _, _, _, _, _, _, _, _, rfl, freshJ_obj (B := W.heap.size + 5) (ns := nms) (by unfold J64; omega) (by unfold J64; omega) (by omega) (by omega) hown1 (jel_of2 hel1 fun g h => .inl h) (fun W' hW' => ?_) _ _ _ _ _⟩, rj_set5o hr1 (by omega) _ _ _ _ _, ?_⟩
    · exact nrow_of_own hn1 h8 hW'
    · exact grownJ_then (grownJ_then hG2 hg (fun b e => .inr e)) (grownJ_set5 w1 (W.heap.size + 1) _ _ _ _ _) (fun b e => .inl (by cases e; omega))
end Go.Proofs.YtpiajoffddjjfaaGreatDoor
