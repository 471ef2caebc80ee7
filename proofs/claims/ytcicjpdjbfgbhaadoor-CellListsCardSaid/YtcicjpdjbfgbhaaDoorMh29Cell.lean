/- Layer 14: the iterator over a list's values. -/
import Derived.Test.YtcicjpdjbfgbhaaDoorMh27Cell
import Derived.Test.YtcicjpdjbfgbhaaDoorMh28Cell
set_option linter.unusedVariables false
set_option linter.unusedSimpArgs false
namespace Go.Proofs.YtcicjpdjbfgbhaaDoor
open Go.RowKit Go.Shelf
attribute [local go_sem] Oper.semAt_some
/-- what is handed on: the value of the text, the one that is kept, and its cells -/
abbrev IV := PV × PV × Int × Int × ByteArray × Option Addr × Nat × Nat
def ivV (x : IV) : Value := .agg #[.int .i64 x.2.2.1, .int .i64 x.2.2.2.1, .string x.2.2.2.2.1, .slice x.2.2.2.2.2.1 x.2.2.2.2.2.2.1 x.2.2.2.2.2.2.2]
def ivs (xs : List IV) : List PV := xs.map (·.1)
theorem ivs_snoc (xs : List IV) (x : IV) : ivs (xs ++ [x]) = ivs xs ++ [x.1] := by simp [ivs]
theorem szL_snoc (xs : List IV) (x : IV) : szL (ivs (xs ++ [x])) = szL (ivs xs) + szV x.1 := by rw [ivs_snoc, szL_append]; simp [szL]
/-- how a value lies in the world of the yield -/
def XI (s : ByteArray) (p o N0 : Nat) (pre : List IV) (W0 : World) (x : IV) (W1 : World) : Prop :=
  Fresh W0.heap.size W1 x.2.1 (ivV x) ∧ (N0 + szL (ivs pre) + szV x.1 ≤ 100 → x.2.1 = x.1) ∧ N0 + szL (ivs pre) + szV x.1 ≤ s.size ∧ ∃ q, RV W1 p s q o (N0 + szL (ivs pre) + szV x.1)
/-- what value comes to at every place -/
def ValC (s : ByteArray) (p o : Nat) (rv : Nat → Vt.Out (PV × Nat)) : Prop := ∀ (q N : Nat) (W : World), q ≤ s.size → N ≤ q → RV W p s q o N → Calls Tryd.prog 78 #[.pointer (some ⟨p, 0, none⟩)] W (VtR p s o (N + 1) W (rv q))
theorem items_at (rv : Nat → Vt.Out (PV × Nat)) (l : List Int) (f i : Nat) (acc : List PV) (h : l.length + 1 ≤ i + f) (hi : i ≤ l.length) : Vt.items rv l f i acc = (match rv i with
    | .inl e => .inl e
    | .inr (v, q) =>
      if l.length ≤ q then .inl (l.length, 2)
      else if l[q]?.getD 0 = 32 then Vt.items rv l (f - 1) (q + 1) (acc ++ [v])
      else if l[q]?.getD 0 = 93 then .inr (acc ++ [v], q + 1)
      else .inl (q, 2)) := by
  obtain ⟨f, rfl⟩ : ∃ g, f = g + 1 := ⟨f - 1, by omega⟩
  rfl
theorem vtR_l {F : Nat} {args : Array Value} {p : Nat} {s : ByteArray} {o n a : Nat} {er : Int} {W0 W : World} (h : Calls Tryd.prog F args W (VtR p s o n W0 (.inl (a, er)))) : Calls Tryd.prog F args W fun e w' => e = .panicked (wrongT (a : Int) er) ∧ W0.grownBy w' (some p) := h.mono fun _ _ h => h
theorem vtR_r {F : Nat} {args : Array Value} {p : Nat} {s : ByteArray} {o n q : Nat} {v : PV} {W0 W : World} (h : Calls Tryd.prog F args W (VtR p s o n W0 (.inr (v, q)))) : Calls Tryd.prog F args W fun e w' => (∃ v' d0 d1 d2 a len cap, e = .returned (.agg #[.int .i64 d0, .int .i64 d1, .string d2, .slice a len cap]) ∧ Fresh W0.heap.size w' v' (.agg #[.int .i64 d0, .int .i64 d1, .string d2, .slice a len cap]) ∧ (n + szV v ≤ 101 → v' = v)) ∧ RV w' p s q o (n + szV v - 1) ∧ W0.grownBy w' (some p) := h.mono fun _ _ h => h
theorem it_measure {s : ByteArray} {p : Nat} {W : World} {q o n : Nat} (h : RV W p s q o n) : s.size - (match W.cell? ⟨p, 1, none⟩ with | some (.int _ q) => q.toNat | _ => 0) = s.size - q := by rw [(rv_cells h).1.2.1]; simp
/-- where the items end -/
def ItS (s : ByteArray) (p o N0 : Nat) (R : Vt.Out (List PV × Nat)) (xs : List IV) (W : World) : Prop := ∃ q, R = .inr (ivs xs, q) ∧ RV W p s q o (N0 + szL (ivs xs))
/-- .. where they give up -/
def ItP (R : Vt.Out (List PV × Nat)) (c : List PanicEntry) (xs : List IV) (W : World) : Prop := ∃ a er, R = .inl (a, er) ∧ c = wrongT (a : Nat) er
def ItR (s : ByteArray) (p o N0 : Nat) (R : Vt.Out (List PV × Nat)) (J : List IV → World → Prop) (e : Ending) (W : World) : Prop := (∃ v xs, e = .returned v ∧ ItS s p o N0 R xs W ∧ J xs W) ∨ (∃ c xs, e = .panicked c ∧ ItP R c xs W ∧ J xs W)
set_option maxRecDepth 100000 in
set_option maxHeartbeats 4000000 in
theorem items_in (n : Nat) (hn : 1 ≤ n) (l : Nat) (s : ByteArray) (p o N0 q : Nat) (hsm : s.size ≤ 1000000) (rv : Nat → Vt.Out (PV × Nat)) (hrv : ValC s p o rv) (hpl : ∀ q v q', q ≤ s.size → rv q = .inr (v, q') → q + szV v ≤ q' ∧ q' ≤ s.size)
    (J : List IV → World → Prop) (hJ : ∀ s A C, J s A → A.grownBy C (some p) → J s C)
    (hY : ∀ pre x W0 W1, J pre W0 → W0.grownBy W1 (some p) → XI s p o N0 pre W0 x W1 → YieldAt Fence.wide (n - 1) Tryd.prog l #[ivV x] W1 fun e W' => e = .returned (.bool true) ∧ J (pre ++ [x]) W' ∧ W'.heap[p]? = W1.heap[p]?)
    (W : World) (hq : q < s.size) (hN : N0 ≤ q + 1) (hr : RV W p s q o N0) (h0 : J [] W) :
    CallsIn Fence.wide n Tryd.prog 87 #[.pointer (some ⟨p, 0, none⟩), .func (.yield l) #[] #[]] W (ItR s p o N0 (Vt.lst rv (strB s) (q + 1)) J) := by
  have hbs := strB_bytes s
  have hH : ∀ (q N : Nat) (W : World), q < s.size → RV W p s q o N → Calls Tryd.prog 80 #[.pointer (some ⟨p, 0, none⟩)] W fun e w' => e = .returned (.int .u8 ((strB s)[q]?.getD 0)) ∧ ∃ k, w' = W.drewN k := fun q N W hq hr => (here_any s p q o N W hsm (by omega) hr).mono fun e w' h => by unfold HereR at h; rw [if_pos hq] at h; exact h
  have hHe : ∀ (N : Nat) (W : World), RV W p s s.size o N → Calls Tryd.prog 80 #[.pointer (some ⟨p, 0, none⟩)] W fun e w' => e = .panicked (wrongT (s.size : Int) 2) ∧ ∃ k, w' = W.drewN k := fun N W hr => (here_any s p s.size o N W hsm (by omega) hr).mono fun e w' h => by unfold HereR at h; rw [if_neg (by omega)] at h; exact h
  obtain ⟨R, hR⟩ : ∃ R, Vt.lst rv (strB s) (q + 1) = R := ⟨_, rfl⟩
  rw [hR]
  unfold Vt.lst at hR
  obtain ⟨⟨c0, c1, c2, c3⟩, f1, f2, f3⟩ := rv_cells hr
  have hr1 := rv_atI hr (q + 1) ((q : Int) + 1) (by push_cast; rfl)
  have hg1 := grownV_set W p 1 (.int .i64 ((q : Int) + 1))
  have hJ1 := hJ _ _ _ h0 hg1
  refine callsIn_of_wp Tryd.func87 rfl trivial ?_ rfl
  simp only [Tryd.ntmps87, List.size_toArray, List.length_cons, List.length_nil, Nat.reduceAdd, Nat.reduceSub, Array.replicate_succ, Array.replicate_zero, List.push_toArray, List.append_toArray, List.nil_append, List.cons_append]
  by_cases hlt : q + 1 < s.size
  · rw [if_neg (by rw [strB_len]; omega)] at hR
    have hH1 := hH (q + 1) N0 _ hlt hr1
    have hxb := hbs (q + 1)
    obtain ⟨x, hx⟩ : ∃ x, (strB s)[q + 1]?.getD 0 = x := ⟨_, rfl⟩
    simp only [hx] at hR hH1 hxb
    by_cases h93 : x = 93
    · rw [if_pos h93] at hR
      have d1 : (x == 93) = true := by simpa using h93
      have HR := Lib.hid hR
      have HX := Lib.hid h93
      clear hR hx hH hHe hrv hpl hY h93
      gi_wp2_with (refine ⟨trivial, ?_⟩; gi_at_call 80; refine (callsIn_wide.2 hH1).mono ?_; rintro e w1 ⟨rfl, k, rfl⟩; have hr2 := rv_drew hr1 k; obtain ⟨⟨d0, d1', d2, d3⟩, g1, g2, g3⟩ := rv_cells hr2)
      refine bodyPost_ret (results_none rfl _ _ _) rfl ?_
      exact .inl ⟨_, [], rfl, ⟨q + 1 + 1, HR.out.symm, rv_atI hr2 (q + 1 + 1) _ (by push_cast; rfl)⟩, hJ _ _ _ (hJ _ _ _ hJ1 (grownV_drew _ _ _)) (grownV_set _ p 1 _)⟩
    · rw [if_neg h93] at hR
      have d1 : (x == 93) = false := by simpa using h93
      have HR := Lib.hid hR
      have HX := Lib.hid h93
      have HH := Lib.hid hH; have HHE := Lib.hid hHe; have HV := Lib.hid hrv; have HPL := Lib.hid hpl; have HY := Lib.hid hY; have HJ := Lib.hid hJ; have HB := Lib.hid hbs
      clear hR hx hH hHe hrv hpl h93 hY hJ hbs
      gi_wp2_with (refine ⟨trivial, ?_⟩; gi_at_call 80; refine (callsIn_wide.2 hH1).mono ?_; rintro e w1 ⟨rfl, k, rfl⟩; have hr2 := rv_drew hr1 k; obtain ⟨⟨d0, d1', d2, d3⟩, g1, g2, g3⟩ := rv_cells hr2)
      clear d0 d1' d2 d3 g1 g2 g3 c0 c1 c2 c3 f1 f2 f3 hH1 hxb d1
      have hJ2 := HJ.out _ _ _ hJ1 (grownV_drew _ k _)
      clear hJ1 hg1
      gi_loopw [] (fun wr => ∃ (i : Nat) (pre : List IV), q < i ∧ i ≤ s.size ∧ N0 + szL (ivs pre) ≤ i ∧ J pre wr ∧ RV wr p s i o (N0 + szL (ivs pre)) ∧ Hid (∃ f, s.size + 1 ≤ i + f ∧ Vt.items rv (strB s) f i (ivs pre) = R)) (fun wr => s.size - (match wr.cell? ⟨p, 1, none⟩ with | some (.int _ q) => q.toNat | _ => 0))
      case atStart => exact ⟨q + 1, [], by omega, by omega, by simp [ivs, szL]; omega, hJ2, by simpa [ivs, szL] using hr2, Lib.hid ⟨(strB s).length + 1, by rw [strB_len]; omega, HR.out⟩⟩
      case round =>
        clear hr2 hJ2 hr1 hr
        obtain ⟨i, pre, hqi, hi, hNi, hJp, hr, HF⟩ := hrel
        obtain ⟨f, hf, hit⟩ := HF.out
        rw [items_at rv (strB s) f i (ivs pre) (by rw [strB_len]; exact hf) (by rw [strB_len]; exact hi)] at hit
        have hV := HV.out i (N0 + szL (ivs pre)) wr hi hNi hr
        have hP := HPL.out i
        obtain ⟨X, hX⟩ : ∃ X, rv i = X := ⟨_, rfl⟩
        simp only [hX] at hit hV hP
        have HX1 := Lib.hid hX; clear hX
        cases X with
        | inl ea =>
          obtain ⟨ea, er⟩ := ea
          simp only at hit
          have HI := Lib.hid hit; clear hit
          have hV := vtR_l hV
          clear hP
          gi_wp2_with (refine ⟨trivial, ?_⟩; gi_at_call 78; refine (callsIn_wide.2 hV).mono ?_; rintro e w1 ⟨rfl, hg9⟩)
          exact ⟨rfl, .inr ⟨_, pre, rfl, ⟨ea, er, HI.out.symm, rfl⟩, HJ.out _ _ _ hJp hg9⟩⟩
        | inr vq =>
          obtain ⟨v, i2⟩ := vq
          simp only at hit
          have HI := Lib.hid hit; clear hit
          have hV := vtR_r hV
          obtain ⟨hp1, hp2⟩ := hP v i2 hi rfl
          clear hP
          have hsn : szL (ivs pre) + szV v = szL (ivs pre ++ [v]) := by rw [szL_append]; simp [szL]
          gi_wp2_with (refine ⟨trivial, ?_⟩; gi_at_call 78; refine (callsIn_wide.2 hV).mono ?_; rintro e w1 ⟨⟨v', d0, d1, d2, a9, len, cap, rfl, hF9, hv9⟩, hr9, hg9⟩)
          have hN9 : N0 + szL (ivs pre) + 1 + szV v - 1 = N0 + szL (ivs pre) + szV v := by omega
          rw [hN9] at hr9
          obtain ⟨fn, tmps, assign, body, hy, hR9⟩ := HY.out pre (v, v', d0, d1, d2, a9, len, cap) wr w1 hJp hg9 ⟨hF9, fun h => hv9 (by simp only at h ⊢; omega), by simp only; omega, i2, hr9⟩
          simp only [ivV] at hy
          rw [hy]
          refine ⟨fun _ => hn, hR9.mono ?_⟩
          rintro e W3 ⟨rfl, hJ3, hK3⟩
          clear hy hR9 hV hF9 hv9
          have hr3 : RV W3 p s i2 o (N0 + szL (ivs pre) + szV v) := hK3.trans hr9
          have hszs : szL (ivs (pre ++ [(v, v', d0, d1, d2, a9, len, cap)])) = szL (ivs pre) + szV v := szL_snoc pre _
          have hivs : ivs (pre ++ [(v, v', d0, d1, d2, a9, len, cap)]) = ivs pre ++ [v] := ivs_snoc pre _
          clear hK3 hr9 hg9 hN9 hJp
          have hit := HI.out
          by_cases hl2 : i2 < s.size
          · rw [if_neg (by rw [strB_len]; omega)] at hit
            have hH2 := HH.out i2 _ W3 hl2 hr3
            have hyb := HB.out i2
            obtain ⟨y, hy⟩ : ∃ y, (strB s)[i2]?.getD 0 = y := ⟨_, rfl⟩
            simp only [hy] at hit hH2 hyb
            by_cases h32 : y = 32
            · rw [if_pos h32] at hit
              have e1 : (y == 32) = true := by simpa using h32
              have HIT := Lib.hid hit; have HY3 := Lib.hid h32
              clear hit hy h32 HI
              gi_wp2_with (refine ⟨trivial, ?_⟩; gi_at_call 80; refine (callsIn_wide.2 hH2).mono ?_; rintro e w4 ⟨rfl, k, rfl⟩; have hr4 := rv_drew hr3 k; obtain ⟨⟨m0, m1, m2, m3⟩, g1, g2, g3⟩ := rv_cells hr4)
              have hr5 := rv_atI hr4 (i2 + 1) ((i2 : Int) + 1) (by push_cast; rfl)
              refine ⟨⟨i2 + 1, pre ++ [(v, v', d0, d1, d2, a9, len, cap)], by omega, by omega, by rw [hszs]; omega, HJ.out _ _ _ (HJ.out _ _ _ hJ3 (grownV_drew _ k _)) (grownV_set _ p 1 _), by rw [hszs, ← Nat.add_assoc]; exact hr5, Lib.hid ⟨f - 1, by omega, by rw [hivs]; exact HIT.out⟩⟩, ?_⟩
              rw [it_measure hr, it_measure hr5]
              omega
            · rw [if_neg h32] at hit
              have e1 : (y == 32) = false := by simpa using h32
              by_cases h93' : y = 93
              · rw [if_pos h93'] at hit
                have e2 : (y == 93) = true := by simpa using h93'
                have HIT := Lib.hid hit; have HY3 := Lib.hid h32; have HY4 := Lib.hid h93'
                clear hit hy h32 h93' HI
                gi_wp2_with (refine ⟨trivial, ?_⟩; gi_at_call 80; refine (callsIn_wide.2 hH2).mono ?_; rintro e w4 ⟨rfl, k, rfl⟩; have hr4 := rv_drew hr3 k; obtain ⟨⟨m0, m1, m2, m3⟩, g1, g2, g3⟩ := rv_cells hr4)
                refine bodyPost_ret (results_none rfl _ _ _) rfl ?_
                exact .inl ⟨_, pre ++ [(v, v', d0, d1, d2, a9, len, cap)], rfl, ⟨i2 + 1, by rw [hivs]; exact HIT.out.symm, by rw [hszs, ← Nat.add_assoc]; exact rv_atI hr4 (i2 + 1) _ (by push_cast; rfl)⟩, HJ.out _ _ _ (HJ.out _ _ _ hJ3 (grownV_drew _ k _)) (grownV_set _ p 1 _)⟩
              · rw [if_neg h93'] at hit
                have e2 : (y == 93) = false := by simpa using h93'
                have HIT := Lib.hid hit; have HY3 := Lib.hid h32; have HY4 := Lib.hid h93'
                clear hit hy h32 h93' HI
                gi_wp2_with (refine ⟨trivial, ?_⟩; gi_at_call 80; refine (callsIn_wide.2 hH2).mono ?_; rintro e w4 ⟨rfl, k, rfl⟩; have hr4 := rv_drew hr3 k; obtain ⟨⟨m0, m1, m2, m3⟩, g1, g2, g3⟩ := rv_cells hr4)
                exact ⟨rfl, .inr ⟨_, pre ++ [(v, v', d0, d1, d2, a9, len, cap)], rfl, ⟨i2, 2, HIT.out.symm, rfl⟩, HJ.out _ _ _ hJ3 (grownV_drew _ k _)⟩⟩
          · rw [if_pos (by rw [strB_len]; omega)] at hit
            obtain rfl : i2 = s.size := by omega
            have hH2 := HHE.out _ W3 hr3
            have HIT := Lib.hid hit
            clear hit HI
            gi_wp2_with (refine ⟨trivial, ?_⟩; gi_at_call 80; refine (callsIn_wide.2 hH2).mono ?_; rintro e w4 ⟨rfl, k, rfl⟩)
            exact ⟨rfl, .inr ⟨_, pre ++ [(v, v', d0, d1, d2, a9, len, cap)], rfl, ⟨s.size, 2, by rw [← HIT.out, strB_len], rfl⟩, HJ.out _ _ _ hJ3 (grownV_drew _ k _)⟩⟩
  · rw [if_pos (by rw [strB_len]; omega)] at hR
    have hqe : q + 1 = s.size := by omega
    rw [hqe] at hr1
    have hH1 := hHe N0 _ hr1
    have HR := Lib.hid hR
    clear hR hH hHe hrv hpl hY
    gi_wp2_with (refine ⟨trivial, ?_⟩; gi_at_call 80; refine (callsIn_wide.2 hH1).mono ?_; rintro e w1 ⟨rfl, k, rfl⟩)
    exact ⟨rfl, .inr ⟨_, [], rfl, ⟨s.size, 2, by rw [← HR.out, strB_len], rfl⟩, hJ _ _ _ hJ1 (grownV_drew _ k _)⟩⟩
end Go.Proofs.YtcicjpdjbfgbhaaDoor
