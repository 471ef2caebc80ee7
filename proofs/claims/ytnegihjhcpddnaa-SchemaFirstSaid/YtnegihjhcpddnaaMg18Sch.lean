/- The document's SameSlots of the same slots, wherever they lie. -/
import Derived.Test.YtnegihjhcpddnaaMg15Sch
import Derived.Test.YtnegihjhcpddnaaRefCmpq
import Derived.Deep.DeepCutAuto
import Derived.BigQuiet
import Derived.Test.YtnegihjhcpddnaaStr
import Derived.Deep.QuietTactic
set_option linter.unusedVariables false
set_option linter.unusedSimpArgs false
namespace Go.Proofs.Ytnegihjhcpddnaa
open Go.RowKit Go.Shelf
theorem quietS_run {P : Program} {o : Oper} {a : Act} {C : World → Prop} {K : Act → Prop} {v : Value} (h1 : ∀ w, C w → o.quietAt P a C w v) (h2 : K (a.put o.dst v)) : o.quiet P a C K := ⟨v, h1, h2⟩
theorem below_drewS {B : Nat} {a w : World} (h : Below B a w) : Below B a w.drew := h.drew
set_option maxRecDepth 100000 in
set_option maxHeartbeats 8000000 in
theorem refSameSlots_same (l : List SlotM) (w : World) (a1 a2 : Option Addr) (c1 c2 : Nat) (h1 : SlotRow w a1 c1 l) (h2 : SlotRow w a2 c2 l) : Calls Try.prog 13 #[.slice a1 l.length c1, .slice a2 l.length c2] w fun e w' => e = .returned (.bool true) ∧ Below w.heap.size w w' := by
  obtain ⟨p1, p2, p3⟩ := h1
  obtain ⟨q1, q2, q3⟩ := h2
  unfold maxLen at p2 q2
  have hn : ((l.length : Int) != (l.length : Int)) = false := by simp
  have HP := Lib.hid p3; have HQ := Lib.hid q3
  clear p3 q3
  go_enter Try.func13, Try.ntmps13
  go_wp2
  go_loopw [5] (fun i wr => ∃ q : Nat, q ≤ l.length ∧ i = .int .i64 (q : Int) ∧ Below w.heap.size w wr) (fun i _ => l.length - (intOf i).toNat)
  case atStart => exact ⟨0, Nat.zero_le _, rfl, Below.refl _ _⟩
  case round =>
    obtain ⟨q, hq, rfl, hbl⟩ := hrel
    rcases Nat.lt_or_ge q l.length with hlt | hge
    · have hd : decide ((q : Int) < (l.length : Int)) = true := by simp; omega
      obtain ⟨s, hs⟩ : ∃ s, l[q]? = some s := ⟨l[q], List.getElem?_eq_getElem hlt⟩
      obtain ⟨b1, o1, rfl, hr1⟩ : ∃ b off, a1 = some ⟨b, off, none⟩ ∧ ∀ i s, l[i]? = some s → SlotAt w b (off + i * 7) s := by
        rcases HP.out with h | h
        · subst h; simp at hlt
        · exact h
      obtain ⟨b2, o2, rfl, hr2⟩ : ∃ b off, a2 = some ⟨b, off, none⟩ ∧ ∀ i s, l[i]? = some s → SlotAt w b (off + i * 7) s := by
        rcases HQ.out with h | h
        · subst h; simp at hlt
        · exact h
      obtain ⟨k, n, t, a, len, cap, ⟨g0, g1, g2, g3, g4, g5, g6⟩, hI, hsn, hdf⟩ := slotAt_form (hr1 q s hs)
      obtain ⟨k', n', t', a', len', cap', ⟨e0, e1, e2, e3, e4, e5, e6⟩, _, _, hdf'⟩ := slotAt_form (hr2 q s hs)
      have hSm : ∀ W, Below w.heap.size w W → Calls Try.prog 25 #[.agg #[.int .i64 k, .int .i64 n, .string t, .slice a len cap], .agg #[.int .i64 k', .int .i64 n', .string t', .slice a' len' cap']] W fun e w' => e = .returned (.bool true) ∧ Below W.heap.size W w' := fun W hb =>
        (refSame_any s.df s.df W _ _ (is_below hb _ _ hdf) (is_below hb _ _ hdf')).mono fun e w' h => ⟨by rw [h.1, show (cmpV s.df s.df == 0) = true by rw [(cmpV_zero _ _).2 rfl]; rfl], h.2⟩
      have HSm := Lib.hid hSm
      have HC : Hid (∀ W, Below w.heap.size w W → (W.cell? ⟨b1, o1 + q * 7, none⟩ = some (.string s.nm) ∧ W.cell? ⟨b1, o1 + q * 7 + 1, none⟩ = some (.int .i64 s.ty) ∧ W.cell? ⟨b1, o1 + q * 7 + 2, none⟩ = some (.bool s.rq) ∧ W.cell? ⟨b1, o1 + q * 7 + 3, none⟩ = some (.int .i64 k) ∧ W.cell? ⟨b1, o1 + q * 7 + 4, none⟩ = some (.int .i64 n) ∧ W.cell? ⟨b1, o1 + q * 7 + 5, none⟩ = some (.string t) ∧ W.cell? ⟨b1, o1 + q * 7 + 6, none⟩ = some (.slice a len cap)) ∧
          (W.cell? ⟨b2, o2 + q * 7, none⟩ = some (.string s.nm) ∧ W.cell? ⟨b2, o2 + q * 7 + 1, none⟩ = some (.int .i64 s.ty) ∧ W.cell? ⟨b2, o2 + q * 7 + 2, none⟩ = some (.bool s.rq) ∧ W.cell? ⟨b2, o2 + q * 7 + 3, none⟩ = some (.int .i64 k') ∧ W.cell? ⟨b2, o2 + q * 7 + 4, none⟩ = some (.int .i64 n') ∧ W.cell? ⟨b2, o2 + q * 7 + 5, none⟩ = some (.string t') ∧ W.cell? ⟨b2, o2 + q * 7 + 6, none⟩ = some (.slice a' len' cap'))) := Lib.hid fun W hb =>
        ⟨⟨cell_below hb g0, cell_below hb g1, cell_below hb g2, cell_below hb g3, cell_below hb g4, cell_below hb g5, cell_below hb g6⟩, ⟨cell_below hb e0, cell_below hb e1, cell_below hb e2, cell_below hb e3, cell_below hb e4, cell_below hb e5, cell_below hb e6⟩⟩
      clear hSm hdf hdf' g0 g1 g2 g3 g4 g5 g6 e0 e1 e2 e3 e4 e5 e6 hr1 hr2
      have n1 : (s.nm.toList != s.nm.toList) = false := by simp
      have n2 : (s.ty != s.ty) = false := by simp
      have n3 : (s.rq != s.rq) = false := by simp
      go_wp2_with fail
      refine wp_region_quiet (C := fun W => Below w.heap.size w W) (by kernel_rfl) (by kernel_rfl) hbl.drew ?_
      clear hbl
      iterate 51 (first
        | (refine BigFrame.wpQuiet_skip (by rfl) ?_; simp only [Act.put, List.setIfInBounds_toArray, List.set_cons_zero, List.set_cons_succ])
        | (refine BigFrame.wpQuiet_want (by rfl) (fun K hK => ?_)
           apply quietS_run
           · intro W hC
             unfold Oper.quietAt
             have HB := Lib.hid hC
             obtain ⟨⟨g0, g1, g2, g3, g4, g5, g6⟩, ⟨e0, e1, e2, e3, e4, e5, e6⟩⟩ := HC.out W hC
             go_simp
             first
               | done
               | with_reducible rfl
               | ((with_reducible refine (HSm.out _ HB.out).mono ?_); exact fun e w' ⟨he, hb⟩ => ⟨he, HB.out.trans (hb.mono HB.out.size)⟩)
           refine hK _ ?_; clear hK K; simp only [Act.put, List.setIfInBounds_toArray, List.set_cons_zero, List.set_cons_succ]))
      refine wpQuiet_nil ?_
      intro W9 hC9
      go_wp2_with fail
      go_roundw
      case rel => exact ⟨q + 1, by omega, by go_num, hC9⟩
      case measure => simp [intOf]; omega
    · obtain rfl : q = l.length := by omega
      have hd : decide ((l.length : Int) < (l.length : Int)) = false := by simp
      go_wp2
      go_ret
      exact ⟨rfl, hbl⟩
end Go.Proofs.Ytnegihjhcpddnaa

/- The document's comparisons of two slices (douaneref01's Bytes and Ints). -/
namespace Go.Proofs.Ytnegihjhcpddnaa
open Go.RowKit Go.Shelf
def RBytes (l r : List Int) (w : World) (e : Ending) (w' : World) : Prop := e = .returned (.bool (decide (l = r))) ∧ ∃ n, w' = w.drewN n
set_option maxHeartbeats 400000 in
theorem refBytes_any (a b : Option Addr) (n m c d : Nat) (l r : List Int) (w : World) (hl : Row w .u8 a n c l) (hr : Row w .u8 b m d r) :
    Calls Try.prog 67 #[.slice a n c, .slice b m d] w (RBytes l r w) := by
  obtain ⟨h1, h2, h3, h4⟩ := hl
  obtain ⟨k1, k2, k3, k4⟩ := hr
  unfold maxLen at h3 k3
  by_cases hnm : n = m
  · subst hnm
    have hb : ((n : Int) != (n : Int)) = false := by simp
    have H1 := Lib.hid h1; clear h1
    have K1 := Lib.hid k1; clear k1
    have H4 := Lib.hid h4; clear h4
    have K4 := Lib.hid k4; clear k4
    go_enter Try.func67, Try.ntmps67
    go_wp2
    go_loopw [5] (fun i wr => ∃ k nq : Nat, k ≤ n ∧ i = .int .i64 k ∧ wr = w.drewN nq ∧ ∀ j, j < k → l[j]?.getD 0 = r[j]?.getD 0)
      (fun i _ => n - (intOf i).toNat)
    case atStart => exact ⟨0, 0, Nat.zero_le _, rfl, rfl, fun j hj => by omega⟩
    case round =>
      obtain ⟨k, nq, hk, rfl, rfl, heq⟩ := hrel
      have HE := Lib.hid heq; clear heq
      by_cases hlt : k < n
      · rcases H4.out with h0 | ⟨p, o, rfl, hc⟩
        · exact absurd h0 (by omega)
        rcases K4.out with h0 | ⟨p', o', rfl, hc'⟩
        · exact absurd h0 (by omega)
        have c1 := hc k hlt
        have c2 := hc' k hlt
        clear hc hc'
        by_cases hx : l[k]?.getD 0 = r[k]?.getD 0
        · have HX := Lib.hid hx
          rw [hx] at c1
          generalize r[k]?.getD 0 = x at c1 c2
          clear hx
          have hne : (x != x) = false := by simp
          go_wp2
          go_quiet (fail)
          go_wp2
          go_roundw
          case rel => exact ⟨k + 1, _, by omega, by go_num, rfl, fun j hj => by
            rcases Nat.lt_or_ge j k with h | h
            · exact HE.out j h
            · obtain rfl : j = k := by omega
              exact HX.out⟩
          case measure => simp [intOf]; omega
        · have hne : (l[k]?.getD 0 != r[k]?.getD 0) = true := by simpa using hx
          have HX := Lib.hid hx; clear hx
          go_wp2
          go_quiet (fail)
          go_wp2
          go_ret
          refine ⟨ret_bool ?_, _, World.drewN_drewN _ _ _⟩
          have := HX.out
          simp; intro h; rw [h] at this; exact this rfl
      · obtain rfl : k = n := by omega
        go_wp2
        go_ret
        refine ⟨ret_bool ?_, _, rfl⟩
        have h1 := H1.out
        have k1 := K1.out
        simp
        exact getD_ext l r (by omega) (fun i hi => HE.out i (by omega))
  · have hb : ((n : Int) != (m : Int)) = true := by simp; omega
    have hne : l ≠ r := fun h => by rw [h] at h1; omega
    have HN := Lib.hid hne; clear hne h1 k1 h4 k4
    go_enter Try.func67, Try.ntmps67
    go_wp2
    go_ret
    exact ⟨ret_bool (by simp; exact HN.out), 0, rfl⟩
set_option maxHeartbeats 400000 in
theorem refInts_any (a b : Option Addr) (n m c d : Nat) (l r : List Int) (w : World) (hl : Row w .i64 a n c l) (hr : Row w .i64 b m d r) :
    Calls Try.prog 14 #[.slice a n c, .slice b m d] w (RBytes l r w) := by
  obtain ⟨h1, h2, h3, h4⟩ := hl
  obtain ⟨k1, k2, k3, k4⟩ := hr
  unfold maxLen at h3 k3
  by_cases hnm : n = m
  · subst hnm
    have hb : ((n : Int) != (n : Int)) = false := by simp
    have H1 := Lib.hid h1; clear h1
    have K1 := Lib.hid k1; clear k1
    have H4 := Lib.hid h4; clear h4
    have K4 := Lib.hid k4; clear k4
    go_enter Try.func14, Try.ntmps14
    go_wp2
    go_loopw [5] (fun i wr => ∃ k nq : Nat, k ≤ n ∧ i = .int .i64 k ∧ wr = w.drewN nq ∧ ∀ j, j < k → l[j]?.getD 0 = r[j]?.getD 0)
      (fun i _ => n - (intOf i).toNat)
    case atStart => exact ⟨0, 0, Nat.zero_le _, rfl, rfl, fun j hj => by omega⟩
    case round =>
      obtain ⟨k, nq, hk, rfl, rfl, heq⟩ := hrel
      have HE := Lib.hid heq; clear heq
      by_cases hlt : k < n
      · rcases H4.out with h0 | ⟨p, o, rfl, hc⟩
        · exact absurd h0 (by omega)
        rcases K4.out with h0 | ⟨p', o', rfl, hc'⟩
        · exact absurd h0 (by omega)
        have c1 := hc k hlt
        have c2 := hc' k hlt
        clear hc hc'
        by_cases hx : l[k]?.getD 0 = r[k]?.getD 0
        · have HX := Lib.hid hx
          rw [hx] at c1
          generalize r[k]?.getD 0 = x at c1 c2
          clear hx
          have hne : (x != x) = false := by simp
          go_wp2
          go_quiet (fail)
          go_wp2
          go_roundw
          case rel => exact ⟨k + 1, _, by omega, by go_num, rfl, fun j hj => by
            rcases Nat.lt_or_ge j k with h | h
            · exact HE.out j h
            · obtain rfl : j = k := by omega
              exact HX.out⟩
          case measure => simp [intOf]; omega
        · have hne : (l[k]?.getD 0 != r[k]?.getD 0) = true := by simpa using hx
          have HX := Lib.hid hx; clear hx
          go_wp2
          go_quiet (fail)
          go_wp2
          go_ret
          refine ⟨ret_bool ?_, _, World.drewN_drewN _ _ _⟩
          have := HX.out
          simp; intro h; rw [h] at this; exact this rfl
      · obtain rfl : k = n := by omega
        go_wp2
        go_ret
        refine ⟨ret_bool ?_, _, rfl⟩
        have h1 := H1.out
        have k1 := K1.out
        simp
        exact getD_ext l r (by omega) (fun i hi => HE.out i (by omega))
  · have hb : ((n : Int) != (m : Int)) = true := by simp; omega
    have hne : l ≠ r := fun h => by rw [h] at h1; omega
    have HN := Lib.hid hne; clear hne h1 k1 h4 k4
    go_enter Try.func14, Try.ntmps14
    go_wp2
    go_ret
    exact ⟨ret_bool (by simp; exact HN.out), 0, rfl⟩
end Go.Proofs.Ytnegihjhcpddnaa
