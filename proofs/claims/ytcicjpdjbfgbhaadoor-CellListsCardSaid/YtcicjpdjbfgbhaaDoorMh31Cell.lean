/- Layer 14: list. -/
import Derived.Test.YtcicjpdjbfgbhaaDoorMh30Cell
set_option linter.unusedVariables false
set_option linter.unusedSimpArgs false
namespace Go.Proofs.YtcicjpdjbfgbhaaDoor
open Go.RowKit Go.Shelf
attribute [local go_sem] Oper.semAt_some
theorem list_deep (s : ByteArray) (p q N : Nat) (W : World) (hsm : s.size ≤ 1000000) (hr : RV W p s q 4 N) :
    Calls Tryd.prog 81 #[.pointer (some ⟨p, 0, none⟩)] W (VtR p s 4 N W (Vt.lsV (.inl (q, 3)))) := by
  have hA1 := (Below.refl _ W).alloc (Nat.le_refl _) (.cells #[.pointer (some ⟨p, 0, none⟩)] 111)
  have hA2 := hA1.alloc hA1.size (.cells vzero 24)
  obtain ⟨⟨c0, c1, c2, c3⟩, f1, f2, f3⟩ := rv_cells (rv_below hr hA2)
  have b1 := ((Boxed.new W 111 (.pointer (some ⟨p, 0, none⟩))).alloc (.cells vzero 24)).cell
  have hA9 := grownV_of_below hA2 (some p)
  go_enter Tryd.func81, Tryd.ntmps81
  go_wp2
  exact ⟨rfl, rfl, hA9⟩
theorem list_world {s : ByteArray} {p q o N : Nat} {W : World} (hr : RV W p s q o N) : ∃ w : World, (((W.setCell ⟨p, 2, none⟩ (.int .i64 ((o : Int) + 1))).alloc (.cells #[.pointer (some ⟨p, 0, none⟩)] 111)).alloc (.cells vzero 24)).alloc (.cells #[.int .i64 5, .int .i64 0, .string ⟨#[]⟩, .slice none 0 0] 24) = w ∧
    w.heap.size = W.heap.size + 3 ∧ RV w p s q (o + 1) N ∧ Boxed w W.heap.size 111 (.pointer (some ⟨p, 0, none⟩)) ∧ VAt w (W.heap.size + 1) vzero ∧ VAt w (W.heap.size + 1 + 1) #[.int .i64 5, .int .i64 0, .string ⟨#[]⟩, .slice none 0 0] ∧ W.grownBy w (some p) := by
  have h1 := rv_openI hr (o + 1) ((o : Int) + 1) (by push_cast; rfl)
  have hg := grownV_set W p 2 (.int .i64 ((o : Int) + 1))
  have hs : (W.setCell ⟨p, 2, none⟩ (.int .i64 ((o : Int) + 1))).heap.size = W.heap.size := by simp
  obtain ⟨V, hV⟩ : ∃ V, W.setCell ⟨p, 2, none⟩ (.int .i64 ((o : Int) + 1)) = V := ⟨_, rfl⟩
  rw [hV] at h1 hg hs ⊢
  have hA1 := (Below.refl _ V).alloc (Nat.le_refl _) (.cells #[.pointer (some ⟨p, 0, none⟩)] 111)
  have hA2 := hA1.alloc hA1.size (.cells vzero 24)
  have hA3 := hA2.alloc hA2.size (.cells #[.int .i64 5, .int .i64 0, .string ⟨#[]⟩, .slice none 0 0] 24)
  have z1 := Boxed.new V 111 (.pointer (some ⟨p, 0, none⟩))
  have z2 := vat_alloc (V.alloc (.cells #[.pointer (some ⟨p, 0, none⟩)] 111)) vzero
  have z3 := vat_alloc ((V.alloc (.cells #[.pointer (some ⟨p, 0, none⟩)] 111)).alloc (.cells vzero 24)) #[.int .i64 5, .int .i64 0, .string ⟨#[]⟩, .slice none 0 0]
  rw [World.size_alloc, hs] at z2
  rw [World.size_alloc, World.size_alloc, hs] at z3
  rw [hs] at z1
  exact ⟨_, rfl, by simp [hs], rv_below h1 hA3, (z1.alloc _).alloc _, vat_below ((Below.refl _ _).alloc (Nat.le_refl _) _) z2, z3, grownV_two hg (grownV_of_below hA3 _)⟩
set_option maxRecDepth 100000 in
set_option maxHeartbeats 4000000 in
theorem vlist_any (s : ByteArray) (p o q N : Nat) (W : World) (hsm : s.size ≤ 1000000) (ho : o < 4) (hq : q < s.size) (hN : N ≤ q + 1) (hN1 : 1 ≤ N) (rv : Nat → Vt.Out (PV × Nat)) (hrv : ValC s p (o + 1) rv) (hpl : ∀ q v q', q ≤ s.size → rv q = .inr (v, q') → q + szV v ≤ q' ∧ q' ≤ s.size) (hr : RV W p s q o N) :
    Calls Tryd.prog 81 #[.pointer (some ⟨p, 0, none⟩)] W (VtR p s o N W (Vt.lsV (Vt.lst rv (strB s) (q + 1)))) := by
  have hmf : ∀ (fn : Fn) (first cap : Array Value) (w : World), (Instr.makeFunc fn first cap).run Tryd.prog w = .ok (.func fn first cap) w := fun _ _ _ _ => rfl
  have hpW := rv_lt hr
  obtain ⟨R, hR⟩ : ∃ R, Vt.lst rv (strB s) (q + 1) = R := ⟨_, rfl⟩
  rw [hR]
  have hA1 := (Below.refl _ W).alloc (Nat.le_refl _) (.cells #[.pointer (some ⟨p, 0, none⟩)] 111)
  have hA2 := hA1.alloc hA1.size (.cells vzero 24)
  obtain ⟨⟨c0, c1, c2, c3⟩, f1, f2, f3⟩ := rv_cells (rv_below hr hA2)
  obtain ⟨⟨a0, a1, a2, a3⟩, g1, g2, g3⟩ := rv_cells hr
  have b1 := ((Boxed.new W 111 (.pointer (some ⟨p, 0, none⟩))).alloc (.cells vzero 24)).cell
  have d1 : ((o : Int) == 4) = false := by simp; omega
  refine (callsIn_wide (n := 100)).1 ?_
  refine callsIn_of_wp_marks Tryd.func81 rfl trivial ?_ rfl
  simp only [Tryd.ntmps81, List.size_toArray, List.length_cons, List.length_nil, Nat.reduceAdd, Nat.reduceSub, Array.replicate_succ, Array.replicate_zero, List.push_toArray, List.append_toArray, List.nil_append, List.cons_append]
  gi_wp2
  obtain ⟨w, hw, hws, hwr, hwb1, hwb2, hwb3, hwg⟩ := list_world hr
  rw [hw]
  clear hw hA1 hA2 c0 c1 c2 c3 f1 f2 f3 a0 a1 a2 a3 g1 g2 g3 b1 d1 hr
  have HR := Lib.hid hR; clear hR
  refine wpIn_rangeFunc_gives rfl (by decide) (gf := 87) (fs := #[.pointer (some ⟨p, 0, none⟩)]) (lb := #[]) ?hg trivial (enters_of Tryd.func87 (by kernel_rfl) rfl)
    (encs := fun x => #[ivV x]) (Kp := fun A C => C.heap[p]? = A.heap[p]?) (Tn := fun A C => A.grownBy C (some p)) (X := XI s p (o + 1) N) (S := ItS s p (o + 1) N R) (Pp := ItP R)
    (fun l J W' hB hJ hY h0 => by
      have h := items_in 99 (by decide) l s p (o + 1) N q hsm rv hrv hpl J hJ hY W' hq hN (rv_below hwr hB) h0
      rw [HR.out] at h
      exact h)
    (fun A C k o _ hT hk ho => (hT.block k (Array.getElem?_eq_some_iff.1 hk).1 (fun e => by cases e; omega)).trans hk)
    (fun A C D h k => k.trans h) (fun A C h => by obtain ⟨o, o', hl, _, _, rfl⟩ := h; exact World.putObj_heap_other (by omega)) (fun _ => rfl)
    (LI p N W.heap.size (W.heap.size + 1) (W.heap.size + 1 + 1) (W.heap.size + 5) W) (fun xs A C h ht => li_kept h (turnedAt_grown ht).1 (.inl (by omega)) (by omega) (by omega) (by omega) (by omega))
    (fun xs A C h ht => li_kept h ht (.inr rfl) (by omega) (by omega) (by omega) (by omega))
    (fun xs A C h ht => by obtain ⟨q', e, hr⟩ := h; exact ⟨q', e, rv_kept hr (turnedAt_grown ht).1 (fun e => by cases e; omega)⟩)
    (fun V hV hs => ⟨⟨(hV.block _ hwb1.lt).trans hwb1, vat_below hV hwb2⟩, ⟨grownV_two hwg (grownV_of_below hV _), by omega⟩, [], none, 0, [], vat_below hV hwb3, World.ownsRow_nil _ _ _ _, fun i y h => by simp at h, fun _ => rfl⟩) ?round ?done ?pan
  case hg => rfl
  case pan =>
    rintro D c xs V hD ⟨ea, er, e1, rfl⟩ hL hK
    subst e1
    refine ⟨by simp, .inl ⟨_, _, rfl, run_takeDeferred hK, ?_⟩⟩
    exact ⟨rfl, grownV_then hL.2.1.1 (grownBy_putObj' V D _) (fun b e => .inl (by cases e; omega))⟩
  case done =>
    rintro D xs V hD ⟨q', e1, hr⟩ ⟨⟨hb1, hb2⟩, ⟨hg, hsz⟩, ys, a, cap, cs, hb3, hown, hel, hys⟩ hK
    subst e1
    obtain ⟨⟨c0, c1, c2, c3⟩, f1, f2, f3⟩ := rv_cells hr
    have x1 := hb1.cell
    obtain ⟨⟨y0, y1, y2, y3⟩, v0, v1, v2, v3⟩ := box4 hb3
    obtain ⟨⟨z0, z1, z2, z3⟩, u0, u1, u2, u3⟩ := box4 hb2
    have hsub : (((o + 1 : Nat) : Int) - 1) = (o : Int) := by push_cast; omega
    gi_wp2
    have hbW : W.heap.size + 1 < V.heap.size := vat_lt hb2
    have hr1 := rv_other4 (b := W.heap.size + 1) (rv_open hr o) (by omega) (.int .i64 5) (.int .i64 0) (.string ⟨#[]⟩) (.slice a ys.length cap)
    have hz1 := vat_set4 (vat_other hb2 (show W.heap.size + 1 ≠ p by omega) 2 (.int .i64 (o : Int))) (.int .i64 5) (.int .i64 0) (.string ⟨#[]⟩) (.slice a ys.length cap)
    have hg1 : W.grownBy _ (some p) := grown_new4 (grownV_two hg (grownV_set V p 2 (.int .i64 (o : Int)))) (show W.heap.size ≤ W.heap.size + 1 by omega) 0 1 2 3 (.int .i64 5) (.int .i64 0) (.string ⟨#[]⟩) (.slice a ys.length cap)
    have hoth : ∀ b, b ≠ p → b ≠ W.heap.size + 1 → (((((V.setCell ⟨p, 2, none⟩ (.int .i64 (o : Int))).setCell ⟨W.heap.size + 1, 0, none⟩ (.int .i64 5)).setCell ⟨W.heap.size + 1, 1, none⟩ (.int .i64 0)).setCell ⟨W.heap.size + 1, 2, none⟩ (.string ⟨#[]⟩)).setCell ⟨W.heap.size + 1, 3, none⟩ (.slice a ys.length cap)).heap[b]? = V.heap[b]? := fun b q1 q2 => by
      rw [Below.heap_setCell _ _ _ b q2, Below.heap_setCell _ _ _ b q2, Below.heap_setCell _ _ _ b q2, Below.heap_setCell _ _ _ b q2, Below.heap_setCell _ _ _ b q1]
    obtain ⟨G, hG⟩ : ∃ G, ((((V.setCell ⟨p, 2, none⟩ (.int .i64 (o : Int))).setCell ⟨W.heap.size + 1, 0, none⟩ (.int .i64 5)).setCell ⟨W.heap.size + 1, 1, none⟩ (.int .i64 0)).setCell ⟨W.heap.size + 1, 2, none⟩ (.string ⟨#[]⟩)).setCell ⟨W.heap.size + 1, 3, none⟩ (.slice a ys.length cap) = G := ⟨_, rfl⟩
    rw [hG] at hr1 hz1 hg1 hoth ⊢
    have hKG : G.heap[D]? = some (.deferred (some [])) := (hoth D (by omega) (by omega)).trans hK
    have hne : ∀ b, b ≠ D → (G.putObj D (.deferred none)).heap[b]? = G.heap[b]? := fun b hb => World.putObj_heap_other hb
    refine ⟨by simp, .inl ⟨_, _, rfl, run_takeDeferred hKG, ?_⟩⟩
    have hz2 : VAt (G.putObj D (.deferred none)) (W.heap.size + 1) _ := (hne _ (by omega)).trans hz1
    refine ⟨_, results_cell_row Tryd.results81 _ _ (W.heap.size + 1) _ _ _ _ rfl hz2 Tryd.underlying24 rfl val4, ?_⟩
    have hGs : V.heap.size ≤ G.heap.size := by rw [← hG]; simp
    refine ⟨⟨.mk 5 0 ⟨#[]⟩ ys, 5, 0, ⟨#[]⟩, a, ys.length, cap, rfl, fun W' hW' => ?_, fun h => by rw [hys (by simp only [szV] at h; omega)]⟩, ?_, ?_⟩
    · obtain ⟨q1, q2, q3⟩ := velT_is hown hel (W' := W') (fun b b1 b2 => (hW' b (by omega) (by simp; omega)).trans ((hne b (by omega)).trans (hoth b (by omega) (by omega))))
      unfold Is
      exact ⟨⟨by omega, by omega⟩, ⟨by omega, by omega⟩, by unfold maxLen; decide, a, cap, rfl, q1, q2, q3⟩
    · have e : N + szV (.mk 5 0 ⟨#[]⟩ (ivs xs)) - 1 = N + szL (ivs xs) := by simp only [szV]; omega
      rw [e]
      exact (hne p (by omega)).trans hr1
    · exact grownV_then hg1 (grownBy_putObj' G D _) (fun b e => .inl (by cases e; omega))
  case round =>
    rintro l pre ⟨v, v', d0, d1, d2, a9, len9, cap9⟩ W0 V hs0 hI0 hTn ⟨hF, hv, hbd, q2, hr2⟩ hI
    refine wpIn_act (a' := ?a2) ?e ?k
    case e => (simp [ivV]; rfl)
    case k =>
      gi_wp2
      have hsn : szL (ivs (pre ++ [(v, v', d0, d1, d2, a9, len9, cap9)])) = szL (ivs pre) + szV v := szL_snoc pre _
      have hsi : ivs (pre ++ [(v, v', d0, d1, d2, a9, len9, cap9)]) = ivs pre ++ [v] := ivs_snoc pre _
      replace hv : N + szL (ivs pre) + szV v ≤ 100 → v' = v := hv
      replace hbd : N + szL (ivs pre) + szV v ≤ s.size := hbd
      replace hr2 : RV V p s q2 (o + 1) (N + szL (ivs pre) + szV v) := hr2
      replace hF : Fresh W0.heap.size V v' (.agg #[.int .i64 d0, .int .i64 d1, .string d2, .slice a9 len9 cap9]) := hF
      have hA := (Below.refl _ V).alloc (Nat.le_refl _) (.cells #[.int .i64 d0, .int .i64 d1, .string d2, .slice a9 len9 cap9] 24)
      refine ⟨(KeepsOthers.alloc V _).from _, hA.block p (rv_lt hr2), fun W2 htn => ?_⟩
      have hg2 := (turnedAt_grown htn).1
      have hVs := hTn.size
      have hI2 : LI p N W.heap.size (W.heap.size + 1) (W.heap.size + 1 + 1) (W.heap.size + 5) W pre W2 := li_kept (li_kept hI (grownV_of_below hA (some p)) (.inr rfl) (by omega) (by omega) (by omega) (by omega)) hg2 (.inl (by omega)) (by omega) (by omega) (by omega) (by omega)
      have hr3 : RV W2 p s q2 (o + 1) (N + szL (ivs pre) + szV v) := rv_kept (rv_below hr2 hA) hg2 (fun e => by cases e; omega)
      have hx2 : VAt W2 V.heap.size #[.int .i64 d0, .int .i64 d1, .string d2, .slice a9 len9 cap9] := vat_kept (vat_alloc V _) hg2 (fun e => by injection e with e; omega)
      have hV2 : ∀ b, b < V.heap.size → b ≠ W.heap.size + 4 → W2.heap[b]? = V.heap[b]? := fun b b2 b1 => (hg2.block b (by simp; omega) (fun e => by injection e with e; omega)).trans (hA.block b b2)
      have hs2 : V.heap.size + 1 ≤ W2.heap.size := by have := hg2.size; simp at this; omega
      clear hA htn hg2 hI hr2
      obtain ⟨⟨hb1, hb2⟩, ⟨hg0, hsz0⟩, ys, a, cap, cs, hb3, hown, hel, hys⟩ := hI0
      have hW02 : ∀ b, b < W0.heap.size → b ≠ p → b ≠ W.heap.size + 4 → W2.heap[b]? = W0.heap[b]? := fun b q1 q2 q3 => (hV2 b (by omega) q3).trans (hTn.block b q1 (fun e => q2 (by cases e; rfl)))
      have hb1' : Boxed W2 W.heap.size 111 (.pointer (some ⟨p, 0, none⟩)) := (hW02 _ (by omega) (by omega) (by omega)).trans hb1
      have hb2' : VAt W2 (W.heap.size + 1) vzero := (hW02 _ (by omega) (by omega) (by omega)).trans hb2
      have hb3' : VAt W2 (W.heap.size + 1 + 1) #[.int .i64 5, .int .i64 0, .string ⟨#[]⟩, .slice a ys.length cap] := (hW02 _ (by omega) (by omega) (by omega)).trans hb3
      have hown2 : W2.ownsRow (W.heap.size + 5) 24 4 (.slice a ys.length cap) ys.length cs := ownT_kept hown (fun b q1 q2 => hW02 b q2 (by omega) (by omega))
      obtain ⟨⟨c0, c1, c2, c3⟩, f1, f2, f3⟩ := rv_cells hr3
      obtain ⟨⟨m0, m1, m2, m3⟩, _⟩ := box4 hx2
      have x1 := hI2.1.1.cell
      by_cases h100 : N + szL (ivs pre) + szV v ≤ 100
      · have e1 : decide ((N : Int) + (szL (ivs pre) : Int) + (szV v : Int) ≤ 100) = true := by simp; omega
        have hyl : ys.length ≤ 100 := by rw [hys (by omega)]; have := szL_len (ivs pre); omega
        obtain ⟨i0, hi, hi0, hi1, hi2⟩ := info_parts info_val
        gi_wp2
        obtain ⟨bx, hbx⟩ : ∃ bx, V.heap.size = bx := ⟨_, rfl⟩
        rw [hbx] at hx2 ⊢
        refine wpIn_region_heldR (S := fun W => VAt W bx #[.int .i64 d0, .int .i64 d1, .string d2, .slice a9 len9 cap9]) (by kernel_rfl) (by kernel_rfl) hx2 (fun hHeld => ?_)
        have hA5 := (Below.refl _ W2.drew).alloc (Nat.le_refl _) (.cells #[.int .i64 0, .int .i64 0, .string ⟨#[]⟩, .slice none 0 0] 24)
        have hS5 : VAt (W2.drew.alloc (.cells #[.int .i64 0, .int .i64 0, .string ⟨#[]⟩, .slice none 0 0] 24)) bx #[.int .i64 d0, .int .i64 d1, .string d2, .slice a9 len9 cap9] := vat_below hA5 hHeld
        have hx5 : VAt (W2.drew.alloc (.cells #[.int .i64 0, .int .i64 0, .string ⟨#[]⟩, .slice none 0 0] 24)) (W.heap.size + 1 + 1) #[.int .i64 5, .int .i64 0, .string ⟨#[]⟩, .slice a ys.length cap] := vat_below hA5 (show VAt W2.drew _ _ from hb3')
        have hown5 : (W2.drew.alloc (.cells #[.int .i64 0, .int .i64 0, .string ⟨#[]⟩, .slice none 0 0] 24)).ownsRow (W.heap.size + 5) 24 4 (.slice a ys.length cap) ys.length cs := ownsRow_below (show W2.drew.ownsRow _ _ _ _ _ _ from hown2) hA5
        have hsz5 : W.heap.size + 5 ≤ (W2.drew.alloc (.cells #[.int .i64 0, .int .i64 0, .string ⟨#[]⟩, .slice none 0 0] 24)).heap.size := by rw [World.size_alloc]; show _ ≤ W2.heap.size + 1; omega
        have hub : ∀ b, (Value.slice a ys.length cap).ownBlock = some b → W.heap.size + 5 ≤ b ∧ b < W0.heap.size := fun b e => ⟨(ownT_blk hown b e).2, (ownT_blk hown b e).1⟩
        have hnb : ∀ b, b < W.heap.size + 5 → some b ≠ (Value.slice a ys.length cap).ownBlock := fun b hb e => by have := hub b e.symm; omega
        have hnx : some bx ≠ (Value.slice a ys.length cap).ownBlock := fun e => by have := hub bx e.symm; omega
        have hbxg : ∀ g, ((Value.slice (some ⟨g, 0, none⟩) (ys.length + 1) 0).ownBlock = (Value.slice a ys.length cap).ownBlock ∨ (Value.slice (some ⟨g, 0, none⟩) (ys.length + 1) 0).ownBlock = some (W2.drew.alloc (.cells #[.int .i64 0, .int .i64 0, .string ⟨#[]⟩, .slice none 0 0] 24)).heap.size) → bx ≠ g := fun g h e => by
          rcases h with h | h
          · have := hub g (h ▸ rfl); omega
          · rw [World.size_alloc] at h
            simp only [Value.ownBlock, Option.some.injEq] at h
            have : W2.drew.heap.size = W2.heap.size := rfl
            omega
        obtain ⟨⟨y0, y1, y2, y3⟩, _⟩ := box4 hb3'
        obtain ⟨⟨n0, n1, n2, n3⟩, _⟩ := box4 hx5
        obtain ⟨⟨n0', n1', n2', n3'⟩, _⟩ := box4 (show VAt (W2.alloc (.cells #[.int .i64 0, .int .i64 0, .string ⟨#[]⟩, .slice none 0 0] 24)) (W.heap.size + 1 + 1) #[.int .i64 5, .int .i64 0, .string ⟨#[]⟩, .slice a ys.length cap] from hx5)
        have hlt9 : (ys.length : Int) < (ys.length : Int) + 1 := by omega
        refine wpAnyH_take (i := 0) (v := ?_) rfl (by kernel_rfl) (by kernel_rfl) (by kernel_rfl) (fun _ _ _ h => nomatch h.1) (Or.inl ⟨by rfl, ?_⟩) (by assumption) ?_
        rotate_left
        · intro w9 hSw; obtain ⟨⟨t0, t1, t2, t3⟩, _⟩ := box4 hSw; go_simp; (try with_reducible rfl)
        (try simp only [Act.put, List.setIfInBounds_toArray, List.set_cons_zero, List.set_cons_succ])
        refine wpAnyH_take (i := 2) (v := ?_) rfl (by kernel_rfl) (by kernel_rfl) (by kernel_rfl) (fun _ _ _ h => nomatch h.1) (Or.inl ⟨by rfl, ?_⟩) (by assumption) ?_
        rotate_left
        · intro w9 hSw; obtain ⟨⟨t0, t1, t2, t3⟩, _⟩ := box4 hSw; go_simp; (try with_reducible rfl)
        (try simp only [Act.put, List.setIfInBounds_toArray, List.set_cons_zero, List.set_cons_succ])
        refine wpAnyH_ready (rs := [1, 4]) (by kernel_rfl) (by simp) (AllReadyH.cons rfl (fun K hK => ?_) (AllReadyH.cons rfl (fun K hK => ?_) AllReadyH.nil))
        · go_simp
          refine hK.out _ _ (hHeld) (fun hHeld => ?_)
          clear hK K
          refine wpAnyH_take (i := 3) (v := ?_) rfl (by kernel_rfl) (by kernel_rfl) (by kernel_rfl) (fun _ _ _ h => nomatch h.1) (Or.inl ⟨by rfl, ?_⟩) (by assumption) ?_
          rotate_left
          · intro w9 hSw; obtain ⟨⟨t0, t1, t2, t3⟩, _⟩ := box4 hSw; go_simp; (try with_reducible rfl)
          (try simp only [Act.put, List.setIfInBounds_toArray, List.set_cons_zero, List.set_cons_succ])
          refine wpAnyH_ready (rs := [4]) (by kernel_rfl) (by simp) (AllReadyH.cons rfl (fun K hK => ?_) AllReadyH.nil)
          · go_simp
            refine hK.out _ _ (hS5) (fun hHeld => ?_)
            clear hK K
            refine wpAnyH_ready (rs := [5]) (by kernel_rfl) (by simp) (AllReadyH.cons rfl (fun K hK => ?_) AllReadyH.nil)
            · refine step_append_at _ rfl _ _ 22 rfl (W.heap.size + 5) 24 i0 (.agg vzero) 4 56 Tryd.underlying22 hi hi0 hi1 hi2 rfl (by decide) (.slice a ys.length cap) ys.length cs (by first | rfl | simp [Act.eval]) hown5 (some ⟨W2.heap.size, 0, none⟩) 1 1 [.int .i64 0, .int .i64 0, .string ⟨#[]⟩, .slice none 0 0] (by first | rfl | simp [Act.eval]) ⟨rfl, .inr ⟨_, rfl, cells_new W2.drew [_, _, _, _] _⟩⟩ (by simp [Value.oneCell']) (by unfold maxLen; omega) (by omega) hsz5 ?_; intro v6 w6 hown6 hgr6 hat6; obtain ⟨g6, c6, rfl⟩ := ownT_succ hown6; have hgb6 := (ownT_blk hown6 g6 rfl).2; obtain ⟨⟨r0, r1, r2, r3⟩, l0, l1, l2, l3⟩ := ownT_last hown6; have hx6 := vat_kept hx5 hgr6 (hnb _ (by omega)); obtain ⟨⟨s0, s1, s2, s3⟩, k0, k1, k2, k3⟩ := box4 hx6; have hx7 := vat_o4 hx6 (show W.heap.size + 1 + 1 ≠ g6 by omega) (ys.length * 4) (ys.length * 4 + 1) (ys.length * 4 + 2) (ys.length * 4 + 3) (.int .i64 d0) (.int .i64 d1) (.string d2) (.slice a9 len9 cap9); obtain ⟨⟨s0', s1', s2', s3'⟩, k0', k1', k2', k3'⟩ := box4 hx7; have hown8 := ownT_kept hown6 (W' := w6.setCell ⟨W.heap.size + 1 + 1, 3, none⟩ (.slice (some ⟨g6, 0, none⟩) (ys.length + 1) c6)) (fun b q1 _ => Below.heap_setCell _ _ _ b (by show b ≠ W.heap.size + 1 + 1; omega)); obtain ⟨⟨r0', r1', r2', r3'⟩, l0', l1', l2', l3'⟩ := ownT_last hown8; have hS6 := vat_kept hS5 hgr6 hnx; have hbg : bx ≠ g6 := hbxg g6 hat6
              refine hK.out _ _ (hS6) (fun hHeld => ?_)
              clear hK K
              refine wpAnyH_take (i := 6) (v := ?_) rfl (by kernel_rfl) (by kernel_rfl) (by kernel_rfl) (fun _ _ _ h => nomatch h.1) (Or.inl ⟨by rfl, ?_⟩) (by assumption) ?_
              rotate_left
              · intro w9 hSw; obtain ⟨⟨t0, t1, t2, t3⟩, _⟩ := box4 hSw; go_simp; (try with_reducible rfl)
              (try simp only [Act.put, List.setIfInBounds_toArray, List.set_cons_zero, List.set_cons_succ])
              refine wpAnyH_take (i := 8) (v := ?_) rfl (by kernel_rfl) (by kernel_rfl) (by kernel_rfl) (fun _ _ _ h => nomatch h.1) (Or.inl ⟨by rfl, ?_⟩) (by assumption) ?_
              rotate_left
              · intro w9 hSw; obtain ⟨⟨t0, t1, t2, t3⟩, _⟩ := box4 hSw; go_simp; (try with_reducible rfl)
              (try simp only [Act.put, List.setIfInBounds_toArray, List.set_cons_zero, List.set_cons_succ])
              refine wpAnyH_ready (rs := [7, 9]) (by kernel_rfl) (by simp) (AllReadyH.cons rfl (fun K hK => ?_) (AllReadyH.cons rfl (fun K hK => ?_) AllReadyH.nil))
              · go_simp
                refine hK.out _ _ (vat_o4 hHeld hbg _ _ _ _ _ _ _ _) (fun hHeld => ?_)
                clear hK K
                refine wpAnyH_ready (rs := [9]) (by kernel_rfl) (by simp) (AllReadyH.cons rfl (fun K hK => ?_) AllReadyH.nil)
                · go_simp
                  refine hK.out _ _ (vat_other hHeld (by omega) 3 _) (fun hHeld => ?_)
                  clear hK K
                  refine wpAnyH_done (by kernel_rfl) ⟨rfl, ?_⟩ _
                  exact li_push (.inl rfl) hb1' hb2' hb3' hown hel hown2 (by omega) (by omega) (by omega) (by omega) (by omega) (Nat.le_refl _) (rv_lt hr3) hI2.2.1.1 hTn hF (by omega) (fun b q1 q2 => hV2 b q2 (by omega)) hown6 hgr6 hat6 hys hv hsn hsi
              · go_simp
                refine hK.out _ _ (vat_other hHeld (by omega) 3 _) (fun hHeld => ?_)
                clear hK K
                refine wpAnyH_ready (rs := [7]) (by kernel_rfl) (by simp) (AllReadyH.cons rfl (fun K hK => ?_) AllReadyH.nil)
                · go_simp
                  refine hK.out _ _ (vat_o4 hHeld hbg _ _ _ _ _ _ _ _) (fun hHeld => ?_)
                  clear hK K
                  refine wpAnyH_done (by kernel_rfl) ⟨rfl, ?_⟩ _
                  exact li_push (.inr rfl) hb1' hb2' hb3' hown hel hown2 (by omega) (by omega) (by omega) (by omega) (by omega) (Nat.le_refl _) (rv_lt hr3) hI2.2.1.1 hTn hF (by omega) (fun b q1 q2 => hV2 b q2 (by omega)) hown6 hgr6 hat6 hys hv hsn hsi
        · go_simp
          refine hK.out _ _ (hS5) (fun hHeld => ?_)
          clear hK K
          refine wpAnyH_ready (rs := [1]) (by kernel_rfl) (by simp) (AllReadyH.cons rfl (fun K hK => ?_) AllReadyH.nil)
          · go_simp
            refine hK.out _ _ (hHeld) (fun hHeld => ?_)
            clear hK K
            refine wpAnyH_take (i := 3) (v := ?_) rfl (by kernel_rfl) (by kernel_rfl) (by kernel_rfl) (fun _ _ _ h => nomatch h.1) (Or.inl ⟨by rfl, ?_⟩) (by assumption) ?_
            rotate_left
            · intro w9 hSw; obtain ⟨⟨t0, t1, t2, t3⟩, _⟩ := box4 hSw; go_simp; (try with_reducible rfl)
            (try simp only [Act.put, List.setIfInBounds_toArray, List.set_cons_zero, List.set_cons_succ])
            refine wpAnyH_ready (rs := [5]) (by kernel_rfl) (by simp) (AllReadyH.cons rfl (fun K hK => ?_) AllReadyH.nil)
            · refine step_append_at _ rfl _ _ 22 rfl (W.heap.size + 5) 24 i0 (.agg vzero) 4 56 Tryd.underlying22 hi hi0 hi1 hi2 rfl (by decide) (.slice a ys.length cap) ys.length cs (by first | rfl | simp [Act.eval]) hown5 (some ⟨W2.heap.size, 0, none⟩) 1 1 [.int .i64 0, .int .i64 0, .string ⟨#[]⟩, .slice none 0 0] (by first | rfl | simp [Act.eval]) ⟨rfl, .inr ⟨_, rfl, cells_new W2.drew [_, _, _, _] _⟩⟩ (by simp [Value.oneCell']) (by unfold maxLen; omega) (by omega) hsz5 ?_; intro v6 w6 hown6 hgr6 hat6; obtain ⟨g6, c6, rfl⟩ := ownT_succ hown6; have hgb6 := (ownT_blk hown6 g6 rfl).2; obtain ⟨⟨r0, r1, r2, r3⟩, l0, l1, l2, l3⟩ := ownT_last hown6; have hx6 := vat_kept hx5 hgr6 (hnb _ (by omega)); obtain ⟨⟨s0, s1, s2, s3⟩, k0, k1, k2, k3⟩ := box4 hx6; have hx7 := vat_o4 hx6 (show W.heap.size + 1 + 1 ≠ g6 by omega) (ys.length * 4) (ys.length * 4 + 1) (ys.length * 4 + 2) (ys.length * 4 + 3) (.int .i64 d0) (.int .i64 d1) (.string d2) (.slice a9 len9 cap9); obtain ⟨⟨s0', s1', s2', s3'⟩, k0', k1', k2', k3'⟩ := box4 hx7; have hown8 := ownT_kept hown6 (W' := w6.setCell ⟨W.heap.size + 1 + 1, 3, none⟩ (.slice (some ⟨g6, 0, none⟩) (ys.length + 1) c6)) (fun b q1 _ => Below.heap_setCell _ _ _ b (by show b ≠ W.heap.size + 1 + 1; omega)); obtain ⟨⟨r0', r1', r2', r3'⟩, l0', l1', l2', l3'⟩ := ownT_last hown8; have hS6 := vat_kept hS5 hgr6 hnx; have hbg : bx ≠ g6 := hbxg g6 hat6
              refine hK.out _ _ (hS6) (fun hHeld => ?_)
              clear hK K
              refine wpAnyH_take (i := 6) (v := ?_) rfl (by kernel_rfl) (by kernel_rfl) (by kernel_rfl) (fun _ _ _ h => nomatch h.1) (Or.inl ⟨by rfl, ?_⟩) (by assumption) ?_
              rotate_left
              · intro w9 hSw; obtain ⟨⟨t0, t1, t2, t3⟩, _⟩ := box4 hSw; go_simp; (try with_reducible rfl)
              (try simp only [Act.put, List.setIfInBounds_toArray, List.set_cons_zero, List.set_cons_succ])
              refine wpAnyH_take (i := 8) (v := ?_) rfl (by kernel_rfl) (by kernel_rfl) (by kernel_rfl) (fun _ _ _ h => nomatch h.1) (Or.inl ⟨by rfl, ?_⟩) (by assumption) ?_
              rotate_left
              · intro w9 hSw; obtain ⟨⟨t0, t1, t2, t3⟩, _⟩ := box4 hSw; go_simp; (try with_reducible rfl)
              (try simp only [Act.put, List.setIfInBounds_toArray, List.set_cons_zero, List.set_cons_succ])
              refine wpAnyH_ready (rs := [7, 9]) (by kernel_rfl) (by simp) (AllReadyH.cons rfl (fun K hK => ?_) (AllReadyH.cons rfl (fun K hK => ?_) AllReadyH.nil))
              · go_simp
                refine hK.out _ _ (vat_o4 hHeld hbg _ _ _ _ _ _ _ _) (fun hHeld => ?_)
                clear hK K
                refine wpAnyH_ready (rs := [9]) (by kernel_rfl) (by simp) (AllReadyH.cons rfl (fun K hK => ?_) AllReadyH.nil)
                · go_simp
                  refine hK.out _ _ (vat_other hHeld (by omega) 3 _) (fun hHeld => ?_)
                  clear hK K
                  refine wpAnyH_done (by kernel_rfl) ⟨rfl, ?_⟩ _
                  exact li_push (.inl rfl) hb1' hb2' hb3' hown hel hown2 (by omega) (by omega) (by omega) (by omega) (by omega) (Nat.le_refl _) (rv_lt hr3) hI2.2.1.1 hTn hF (by omega) (fun b q1 q2 => hV2 b q2 (by omega)) hown6 hgr6 hat6 hys hv hsn hsi
              · go_simp
                refine hK.out _ _ (vat_other hHeld (by omega) 3 _) (fun hHeld => ?_)
                clear hK K
                refine wpAnyH_ready (rs := [7]) (by kernel_rfl) (by simp) (AllReadyH.cons rfl (fun K hK => ?_) AllReadyH.nil)
                · go_simp
                  refine hK.out _ _ (vat_o4 hHeld hbg _ _ _ _ _ _ _ _) (fun hHeld => ?_)
                  clear hK K
                  refine wpAnyH_done (by kernel_rfl) ⟨rfl, ?_⟩ _
                  exact li_push (.inr rfl) hb1' hb2' hb3' hown hel hown2 (by omega) (by omega) (by omega) (by omega) (by omega) (Nat.le_refl _) (rv_lt hr3) hI2.2.1.1 hTn hF (by omega) (fun b q1 q2 => hV2 b q2 (by omega)) hown6 hgr6 hat6 hys hv hsn hsi
      · have e1 : decide ((N : Int) + (szL (ivs pre) : Int) + (szV v : Int) ≤ 100) = false := by simp; omega
        gi_wp2
        refine ⟨KeepsFrom.refl _ _, rfl, hI2.1, hI2.2.1, ?_⟩
        obtain ⟨ys, a, cap, cs, k5, k6, k7, _⟩ := hI2.2.2
        exact ⟨ys, a, cap, cs, k5, k6, k7, fun h => by rw [hsn] at h; omega⟩
end Go.Proofs.YtcicjpdjbfgbhaaDoor
