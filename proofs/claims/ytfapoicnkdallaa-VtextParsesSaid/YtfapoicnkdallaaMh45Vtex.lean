/- Layer 14, the document: get, of lists. -/
import Derived.Test.YtfapoicnkdallaaMh44Vtex
set_option linter.unusedVariables false
set_option linter.unusedSimpArgs false
namespace Go.Proofs.Ytfapoicnkdallaa
open Go.RowKit Go.Shelf
set_option maxRecDepth 100000 in
set_option maxHeartbeats 4000000 in
theorem get_deep (s : ByteArray) (p : Nat) (hsm : s.size ≤ 1000000) (hp : p < s.size) (hx : (strB s)[p]?.getD 0 = 91) (w : World) : Calls Try.prog 19 #[.string s, .int .i64 (p : Int), .int .i64 0] w (ScR (gT (Vt.lsV (.inl (p, 3)))) w) := by
  obtain ⟨hB, hz1, hz2, hs⟩ := get_vars w
  obtain ⟨⟨y0, y1, y2, y3⟩, x0, x1, x2, x3⟩ := box4 hz1
  obtain ⟨⟨n0, n1, n2, n3⟩, _⟩ := box4 hz2
  rw [strB_at s p hp] at hx
  have d0 : ((p : Int) == (s.size : Int)) = false := by simp; omega
  have d1 : ((s[p].toNat : Int) == 39) = false := by simp; omega
  have d2 : ((s[p].toNat : Int) == 45) = false := by simp; omega
  have d3 : ((s[p].toNat : Int) == 34) = false := by simp; omega
  have d4 : ((s[p].toNat : Int) == 91) = true := by simpa using hx
  have d5 : decide ((48 : Int) ≤ (s[p].toNat : Int)) = true := by simp; omega
  have d6 : decide ((s[p].toNat : Int) ≤ 57) = false := by simp; omega
  have HX := Lib.hid hx; clear hx
  go_enter Try.func19, Try.ntmps19
  go_wp2
  refine bodyPost_ret (vresults_row_tmp2 Try.results19 _ _ w.heap.size 25 _ _ _ rfl hz1 Try.underlying25 rfl val4) rfl ?_
  exact get_none14 hB
theorem scR_l {F : Nat} {args : Array Value} {a : Nat} {er : Int} {W0 W : World} (h : Calls Try.prog F args W (ScR (gT (.inl (a, er))) W0)) : Calls Try.prog F args W fun e w' => ∃ d0 d1 d2 a9 len cap, e = .returned (.tuple #[.agg #[.int .i64 d0, .int .i64 d1, .string d2, .slice a9 len cap], .int .i64 (a : Int), .int .i64 er]) ∧ Fresh W0.heap.size w' (.mk 0 0 ⟨#[]⟩ []) (.agg #[.int .i64 d0, .int .i64 d1, .string d2, .slice a9 len cap]) ∧ Below W0.heap.size W0 w' := h
theorem scR_r {F : Nat} {args : Array Value} {v : PV} {q : Nat} {W0 W : World} (h : Calls Try.prog F args W (ScR (gT (.inr (v, q))) W0)) : Calls Try.prog F args W fun e w' => ∃ d0 d1 d2 a9 len cap, e = .returned (.tuple #[.agg #[.int .i64 d0, .int .i64 d1, .string d2, .slice a9 len cap], .int .i64 (q : Int), .int .i64 0]) ∧ Fresh W0.heap.size w' v (.agg #[.int .i64 d0, .int .i64 d1, .string d2, .slice a9 len cap]) ∧ Below W0.heap.size W0 w' := h
/-- behind a value -/
def aft (rv : Nat → Vt.Out (PV × Nat)) (l : List Int) (f i : Nat) (acc : List PV) : Vt.Out (List PV × Nat) :=
  if l.length ≤ i then .inl (l.length, 2) else if l[i]?.getD 0 = 32 then Vt.items rv l f (i + 1) acc else if l[i]?.getD 0 = 93 then .inr (acc, i + 1) else .inl (i, 2)
/-- where the reading of a list stands -/
def GS (rv : Nat → Vt.Out (PV × Nat)) (l : List Int) (p : Nat) (R : Vt.Out (List PV × Nat)) (i : Nat) (acc : List PV) : Prop :=
  (acc = [] ∧ i = p + 1 ∧ Vt.lst rv l (p + 1) = R) ∨ (acc ≠ [] ∧ ∃ f, l.length + 1 ≤ i + 1 + f ∧ aft rv l f i acc = R)
/-- .. and how it lies in memory -/
def GI (w : World) (i : Nat) (acc : List PV) (W : World) : Prop :=
  Below w.heap.size w W ∧ w.heap.size + 3 ≤ W.heap.size ∧ VAt W w.heap.size vzero ∧ VAt W (w.heap.size + 1) vzero ∧
    ∃ a cap cs, VAt W (w.heap.size + 1 + 1) #[.int .i64 5, .int .i64 0, .string ⟨#[]⟩, .slice a acc.length cap] ∧ W.ownsRow (w.heap.size + 3) 25 4 (.slice a acc.length cap) acc.length cs ∧ VElT (w.heap.size + 3) W (.slice a acc.length cap) acc cs
theorem gi_start (w : World) (p : Nat) : GI w (p + 1) [] (((w.alloc (.cells vzero 25)).alloc (.cells vzero 25)).alloc (.cells #[.int .i64 5, .int .i64 0, .string ⟨#[]⟩, .slice none 0 0] 25)) := by
  obtain ⟨hB, hz1, hz2, hs⟩ := get_vars w
  have hA3 := (Below.refl _ ((w.alloc (.cells vzero 25)).alloc (.cells vzero 25))).alloc (Nat.le_refl _) (.cells #[.int .i64 5, .int .i64 0, .string ⟨#[]⟩, .slice none 0 0] 25)
  have h3 := vat_alloc ((w.alloc (.cells vzero 25)).alloc (.cells vzero 25)) #[.int .i64 5, .int .i64 0, .string ⟨#[]⟩, .slice none 0 0]
  rw [hs] at h3
  exact ⟨hB.trans (hA3.mono hB.size), by rw [World.size_alloc, hs]; omega, vat_below hA3 hz1, vat_below hA3 hz2, none, 0, [], h3, World.ownsRow_nil _ _ _ _, fun i y h => by simp at h⟩
theorem items_step {rv : Nat → Vt.Out (PV × Nat)} {l : List Int} {f j : Nat} {acc : List PV} (h : l.length + 1 ≤ j + f) (hj : j ≤ l.length) : Vt.items rv l f j acc = (match rv j with | .inl e => .inl e | .inr (v, q) => aft rv l (f - 1) q (acc ++ [v])) := items_at rv l f j acc h hj
theorem gs_first {rv : Nat → Vt.Out (PV × Nat)} {l : List Int} {p : Nat} {R : Vt.Out (List PV × Nat)} {i : Nat} (hS : GS rv l p R i []) (hi : i ≤ l.length) (hov : rv l.length = .inl (l.length, 2)) (h : i < l.length → l[i]?.getD 0 ≠ 93) :
    (∀ e, rv i = .inl e → R = .inl e) ∧ ∀ v q, rv i = .inr (v, q) → i < q → GS rv l p R q ([] ++ [v]) := by
  rcases hS with ⟨_, hip, hR⟩ | ⟨hne, _⟩
  · rw [← hip] at hR
    unfold Vt.lst at hR
    by_cases hl : l.length ≤ i
    · rw [if_pos hl] at hR
      obtain rfl : i = l.length := by omega
      exact ⟨fun e he => by rw [hov] at he; cases he; exact hR.symm, fun v q he => by rw [hov] at he; cases he⟩
    · rw [if_neg hl, if_neg (h (by omega)), items_step (by omega) hi] at hR
      refine ⟨fun e he => by rw [he] at hR; exact hR.symm, fun v q he hq => .inr ⟨by simp, l.length, by omega, ?_⟩⟩
      rw [he] at hR
      exact hR
  · exact absurd rfl hne
theorem gs_end0 {rv : Nat → Vt.Out (PV × Nat)} {l : List Int} {p : Nat} {R : Vt.Out (List PV × Nat)} {i : Nat} (hS : GS rv l p R i []) (hi : i < l.length) (h : l[i]?.getD 0 = 93) : R = .inr ([], i + 1) := by
  rcases hS with ⟨_, hip, hR⟩ | ⟨hne, _⟩
  · rw [← hip] at hR
    unfold Vt.lst at hR
    rw [if_neg (by omega), if_pos h] at hR
    exact hR.symm
  · exact absurd rfl hne
theorem gs_next {rv : Nat → Vt.Out (PV × Nat)} {l : List Int} {p : Nat} {R : Vt.Out (List PV × Nat)} {i : Nat} {acc : List PV} (hne : acc ≠ []) (hS : GS rv l p R i acc) (hi : i < l.length) (h : l[i]?.getD 0 = 32) :
    (∀ e, rv (i + 1) = .inl e → R = .inl e) ∧ ∀ v q, rv (i + 1) = .inr (v, q) → i + 1 < q → GS rv l p R q (acc ++ [v]) := by
  rcases hS with ⟨h0, _⟩ | ⟨_, f, hf, hR⟩
  · exact absurd h0 hne
  · unfold aft at hR
    rw [if_neg (by omega), if_pos h, items_step (by omega) (by omega)] at hR
    refine ⟨fun e he => by rw [he] at hR; exact hR.symm, fun v q he hq => .inr ⟨by simp, f - 1, by omega, ?_⟩⟩
    rw [he] at hR
    exact hR
theorem gs_stop {rv : Nat → Vt.Out (PV × Nat)} {l : List Int} {p : Nat} {R : Vt.Out (List PV × Nat)} {i : Nat} {acc : List PV} (hne : acc ≠ []) (hS : GS rv l p R i acc) (hi : i ≤ l.length) :
    (i = l.length → R = .inl (l.length, 2)) ∧ (i < l.length → l[i]?.getD 0 = 93 → R = .inr (acc, i + 1)) ∧ (i < l.length → l[i]?.getD 0 ≠ 93 → l[i]?.getD 0 ≠ 32 → R = .inl (i, 2)) := by
  rcases hS with ⟨h0, _⟩ | ⟨_, f, hf, hR⟩
  · exact absurd h0 hne
  · unfold aft at hR
    refine ⟨fun h => ?_, fun h h93 => ?_, fun h h93 h32 => ?_⟩
    · rw [if_pos (by omega)] at hR; exact hR.symm
    · rw [if_neg (by omega), if_neg (by omega), if_pos h93] at hR; exact hR.symm
    · rw [if_neg (by omega), if_neg h32, if_neg h93] at hR; exact hR.symm
theorem cells_app14 (w : World) (o : Obj) (k0 k1 k2 k3 : Value) : Cells ((w.alloc o).alloc (.cells #[k0, k1, k2, k3] 25)) 4 (some ⟨w.heap.size + 1, 0, none⟩) 1 [k0, k1, k2, k3] := by
  have h := cells_new (w.alloc o) [k0, k1, k2, k3] 25
  rw [World.size_alloc] at h
  exact ⟨rfl, .inr ⟨_, rfl, h⟩⟩
/-- a value more -/
theorem gi_push {w W0 w4 w7 F : World} {q : Nat} {acc : List PV} {v : PV} {a : Option Addr} {cap : Nat} {cs : List Value} {k0 k1 : Int} {k2 : ByteArray} {a9 : Option Addr} {len9 cap9 : Nat} {o1 o2 : Obj} {g6 c6 : Nat}
    (hB : Below w.heap.size w W0) (hs : w.heap.size + 3 ≤ W0.heap.size) (hz1 : VAt W0 w.heap.size vzero) (hz2 : VAt W0 (w.heap.size + 1) vzero) (hz3 : VAt W0 (w.heap.size + 1 + 1) #[.int .i64 5, .int .i64 0, .string ⟨#[]⟩, .slice a acc.length cap])
    (hown : W0.ownsRow (w.heap.size + 3) 25 4 (.slice a acc.length cap) acc.length cs) (hel : VElT (w.heap.size + 3) W0 (.slice a acc.length cap) acc cs)
    (hB4 : Below W0.heap.size W0 w4) (hF : Fresh W0.heap.size w4 v (.agg #[.int .i64 k0, .int .i64 k1, .string k2, .slice a9 len9 cap9]))
    (hown7 : w7.ownsRow (w.heap.size + 3) 25 4 (.slice (some ⟨g6, 0, none⟩) (acc.length + 1) c6) (acc.length + 1) (cs ++ [.int .i64 k0, .int .i64 k1, .string k2, .slice a9 len9 cap9])) (hgr7 : ((w4.alloc o1).alloc o2).grownBy w7 (Value.slice a acc.length cap).ownBlock)
    (hat7 : (Value.slice (some ⟨g6, 0, none⟩) (acc.length + 1) c6).ownBlock = (Value.slice a acc.length cap).ownBlock ∨ (Value.slice (some ⟨g6, 0, none⟩) (acc.length + 1) c6).ownBlock = some ((w4.alloc o1).alloc o2).heap.size)
    (hF9 : F = w7.setCell ⟨w.heap.size + 1 + 1, 3, none⟩ (.slice (some ⟨g6, 0, none⟩) (acc.length + 1) c6)) : GI w q (acc ++ [v]) F := by
  subst hF9
  have hla : (acc ++ [v]).length = acc.length + 1 := by simp
  have hA1 := (Below.refl _ w4).alloc (Nat.le_refl _) o1
  have hA2 := hA1.alloc hA1.size o2
  have hB5 := hB4.trans (hA2.mono hB4.size)
  have hs5 := hB5.size
  have hub := fun b e => (ownT_blk hown b e).2
  have hsz := hgr7.size
  have hnb : ∀ b, b < w.heap.size + 3 → some b ≠ (Value.slice a acc.length cap).ownBlock := fun b hb e => by have := hub b e.symm; omega
  have hk : ∀ b, b < w.heap.size + 3 → w7.heap[b]? = W0.heap[b]? := fun b hb => (hgr7.block b (by omega) (hnb b hb)).trans (hB5.block b (by omega))
  refine ⟨?_, ?_, ?_, ?_, some ⟨g6, 0, none⟩, c6, cs ++ [.int .i64 k0, .int .i64 k1, .string k2, .slice a9 len9 cap9], ?_, ?_, ?_⟩
  · have h1 := hB.trans (hB5.mono hB.size)
    obtain ⟨a1, a2, a3, a4, a5⟩ := h1
    obtain ⟨b1, b2, b3, b4, b5⟩ := hgr7
    exact Below.setCell ⟨b1.trans a1, b2.trans a2, b3.trans a3, Nat.le_trans a4 b4, fun b hb => (b5 b (by omega) (hnb b (by omega))).trans (a5 b hb)⟩ (p := ⟨w.heap.size + 1 + 1, 3, none⟩) (by show w.heap.size ≤ w.heap.size + 1 + 1; omega) _
  · simp; omega
  · exact vat_other ((hk _ (by omega)).trans hz1) (by omega) 3 _
  · exact vat_other ((hk _ (by omega)).trans hz2) (by omega) 3 _
  · rw [hla]; exact vat_set ((hk _ (by omega)).trans hz3) 3 _
  · rw [hla]; exact ownT_kept hown7 (fun b q1 _ => Below.heap_setCell _ _ _ b (by show b ≠ w.heap.size + 1 + 1; omega))
  · rw [hla]
    exact velT_push (p := w.heap.size) hown hel (by omega) hs (grownV_of_below hB4 _) hF (by simp; omega) (fun b q1 q2 => hA2.block b q2) hgr7 hat7 rfl (by simp) (fun b q1 q2 q3 => Below.heap_setCell _ _ _ b (by show b ≠ w.heap.size + 1 + 1; omega))
set_option maxRecDepth 100000 in
set_option maxHeartbeats 8000000 in
theorem get_list (s : ByteArray) (p : Nat) (dd : Int) (hsm : s.size ≤ 1000000) (hd1 : 1 ≤ dd) (hd8 : dd ≤ 8) (hp : p < s.size) (hx : (strB s)[p]?.getD 0 = 91) (rv : Nat → Vt.Out (PV × Nat))
    (ih : ∀ i W, i ≤ s.size → Calls Try.prog 19 #[.string s, .int .i64 (i : Int), .int .i64 (dd - 1)] W (ScR (gT (rv i)) W)) (hov : rv s.size = .inl (s.size, 2)) (herr : ∀ i a er, rv i = .inl (a, er) → er ≠ 0) (hpl : ∀ i v q, rv i = .inr (v, q) → i + szV v ≤ q ∧ q ≤ s.size) (w : World) :
    Calls Try.prog 19 #[.string s, .int .i64 (p : Int), .int .i64 dd] w (ScR (gT (Vt.lsV (Vt.lst rv (strB s) (p + 1)))) w) := by
  obtain ⟨hB, hz1, hz2, hs⟩ := get_vars w
  obtain ⟨⟨y0, y1, y2, y3⟩, x0, x1, x2, x3⟩ := box4 hz1
  obtain ⟨⟨n0, n1, n2, n3⟩, _⟩ := box4 hz2
  obtain ⟨R, hR⟩ : ∃ R, Vt.lst rv (strB s) (p + 1) = R := ⟨_, rfl⟩
  rw [hR]
  obtain ⟨RR, hRR⟩ : ∃ RR, Vt.lsV R = RR := ⟨_, rfl⟩
  rw [hRR]
  have HRR := Lib.hid hRR; clear hRR
  have HS : GS rv (strB s) p R (p + 1) [] := .inl ⟨rfl, rfl, hR⟩
  have HS := Lib.hid HS; have HG := Lib.hid (gi_start w p); clear hR
  rw [strB_at s p hp] at hx
  have d0 : ((p : Int) == (s.size : Int)) = false := by simp; omega
  have d1 : ((s[p].toNat : Int) == 39) = false := by simp; omega
  have d2 : ((s[p].toNat : Int) == 45) = false := by simp; omega
  have d3 : ((s[p].toNat : Int) == 34) = false := by simp; omega
  have d4 : ((s[p].toNat : Int) == 91) = true := by simpa using hx
  have d5 : decide ((48 : Int) ≤ (s[p].toNat : Int)) = true := by simp; omega
  have d6 : decide ((s[p].toNat : Int) ≤ 57) = false := by simp; omega
  have d7 : (dd == 0) = false := by simp; omega
  have HX := Lib.hid hx; clear hx
  have HOV := Lib.hid hov; have HIH := Lib.hid ih; have HER := Lib.hid herr; have HPL := Lib.hid hpl
  clear ih herr hpl hov
  go_enter Try.func19, Try.ntmps19
  go_wp2
  go_loopw [17, 18, 19, 20] (fun iv _ _ _ wr => ∃ (i : Nat) (acc : List PV), p < i ∧ i ≤ s.size ∧ iv = .int .i64 i ∧ acc.length ≤ i ∧ GI w i acc wr ∧ Hid (GS rv (strB s) p R i acc)) (fun iv _ _ _ _ => s.size - (intOf iv).toNat)
  case atStart => exact ⟨p + 1, [], by omega, by omega, by push_cast; rfl, Nat.zero_le _, HG.out, HS⟩
  case round =>
    clear HG HS
    obtain ⟨i, acc, hpi, hi, rfl, hal', hG, HS⟩ := hrel
    have hal : acc.length ≤ 1000000 := by omega
    obtain ⟨hB0, hs0, q1, q2, a, cap, cs, q3, hown, hel⟩ := hG
    obtain ⟨⟨m0, m1, m2, m3⟩, l0, l1, l2, l3⟩ := box4 q3
    obtain ⟨⟨o0, o1, o2, o3⟩, r0, r1, r2, r3⟩ := box4 q1
    obtain ⟨⟨t0, t1, t2, t3⟩, _⟩ := box4 q2
    by_cases hacc : acc = []
    · subst hacc
      have hl0 : (([] : List PV).length : Int) = 0 := rfl
      by_cases h93 : i < s.size ∧ (strB s)[i]?.getD 0 = 93
      · have hRe := gs_end0 HS.out (by rw [strB_len]; exact h93.1) h93.2
        obtain ⟨hlt, h93⟩ := h93
        rw [strB_at s i hlt] at h93
        have f1 : ((i : Int) == (s.size : Int)) = false := by simp; omega
        have f2 : ((s[i].toNat : Int) != 93) = false := by simpa using h93
        have H93 := Lib.hid h93; clear h93
        have hg := HRR.out
        rw [hRe] at hg
        simp only [Vt.lsV] at hg
        subst hg
        clear hRe HRR HS
        go_wp2
        refine bodyPost_ret (vresults_row_tmp2 Try.results19 _ _ w.heap.size 25 _ _ _ rfl (vat_set4 q1 _ _ _ _) Try.underlying25 rfl val4) rfl ?_
        refine get_end14 hB0 (fun W' hW' => ?_)
        obtain ⟨u1, u2, u3⟩ := velT_is hown hel (W' := W') (fun b b1 b2 => hW' b (by omega) b2)
        unfold Is
        exact ⟨⟨by omega, by omega⟩, ⟨by omega, by omega⟩, by unfold maxLen; decide, a, cap, rfl, u1, u2, u3⟩
      · have hgo := gs_first HS.out (by rw [strB_len]; exact hi) (by rw [strB_len]; exact HOV.out) (fun h k => h93 ⟨by rw [strB_len] at h; exact h, k⟩)
        have hyl : ([] : List PV).length ≤ 1000000 := by simp
        obtain ⟨i0, hi0, hi1, hi2, hi3⟩ := info_parts info_val
        rcases Nat.lt_or_ge i s.size with hlt | hge
        · have h93' : (strB s)[i]?.getD 0 ≠ 93 := fun k => h93 ⟨hlt, k⟩
          rw [strB_at s i hlt] at h93'
          have f1 : ((i : Int) == (s.size : Int)) = false := by simp; omega
          have f2 : ((s[i].toNat : Int) != 93) = true := by simpa using h93'
          have H93 := Lib.hid h93'; clear h93 h93'
          obtain ⟨X, hX⟩ : ∃ X, rv (i) = X := ⟨_, rfl⟩
          have hG : ∀ W, Calls Try.prog 19 #[.string s, .int .i64 (i : Int), .int .i64 (dd - 1)] W (ScR (gT X) W) := fun W => by have h := HIH.out (i) W (by omega); rw [hX] at h; exact h
          rw [hX] at hgo
          cases X with
          | inl ae =>
            obtain ⟨ea, er⟩ := ae
            have hR' := hgo.1 _ rfl
            have hne : (er != 0) = true := by simpa using HER.out _ _ _ hX
            have hg := HRR.out
            rw [hR'] at hg
            simp only [Vt.lsV] at hg
            subst hg
            clear hgo hR' HRR HS hX
            have hG := fun W => scR_l (hG W)
            go_wp2_with (go_at_call 19; (with_reducible refine (hG _).mono ?_); rintro e w4 ⟨k0, k1, k2, a9, len9, cap9, rfl, hF, hB4⟩; have hA4 := (Below.refl _ w4).alloc (Nat.le_refl _) (.cells #[.int .i64 k0, .int .i64 k1, .string k2, .slice a9 len9 cap9] 25); have z1 := vat_below hA4 (vat_below hB4 q1); have z2 := vat_below hA4 (vat_below hB4 q2); obtain ⟨⟨o0', o1', o2', o3'⟩, r0', r1', r2', r3'⟩ := box4 z1; obtain ⟨⟨t0', t1', t2', t3'⟩, _⟩ := box4 z2)
            refine bodyPost_ret (vresults_row_tmp2 Try.results19 _ _ w.heap.size 25 _ _ _ rfl (vat_set4 z1 _ _ _ _) Try.underlying25 rfl val4) rfl ?_
            exact get_end14 (v := .mk 0 0 ⟨#[]⟩ []) (hB0.trans ((hB4.trans (hA4.mono hB4.size)).mono hB0.size)) (fresh_none _ _)
          | inr vq =>
            obtain ⟨v, q⟩ := vq
            obtain ⟨pl1, pl2⟩ := HPL.out _ _ _ hX
            have hvp := szV_pos v
            have HSN := Lib.hid (hgo.2 v q rfl (by omega))
            have hG := fun W => scR_r (hG W)
            clear hgo hX HS
            go_wp2_with (first
              | (go_at_call 19; (with_reducible refine (hG _).mono ?_); rintro e w4 ⟨k0, k1, k2, a9, len9, cap9, rfl, hF, hB4⟩; have hA4 := (Below.refl _ w4).alloc (Nat.le_refl _) (.cells #[.int .i64 k0, .int .i64 k1, .string k2, .slice a9 len9 cap9] 25); have z3 := vat_below hA4 (vat_below hB4 q3); obtain ⟨⟨m0', m1', m2', m3'⟩, l0', l1', l2', l3'⟩ := box4 z3; have hA5 := hA4.alloc hA4.size (.cells #[.int .i64 k0, .int .i64 k1, .string k2, .slice a9 len9 cap9] 25); have z5 := vat_below hA5 (vat_below hB4 q3); have hown5 := ownsRow_below (ownsRow_below hown hB4) hA5; have hsz5 : w.heap.size + 3 ≤ ((w4.alloc (.cells #[.int .i64 k0, .int .i64 k1, .string k2, .slice a9 len9 cap9] 25)).alloc (.cells #[.int .i64 k0, .int .i64 k1, .string k2, .slice a9 len9 cap9] 25)).heap.size := (by have h1 := hB4.size; have h2 := hA5.size; omega))
              | (at_builtin; refine wpList_append_at _ rfl _ _ 23 rfl (w.heap.size + 3) 25 i0 (.agg vzero) 4 56 Try.underlying23 hi0 hi1 hi2 hi3 rfl (by decide) (.slice a 0 cap) 0 cs rfl hown5 (some ⟨w4.heap.size + 1, 0, none⟩) 1 1 [.int .i64 k0, .int .i64 k1, .string k2, .slice a9 len9 cap9] rfl (cells_app14 w4 _ _ _ _ _) (by simp [Value.oneCell']) (by unfold maxLen; omega) (by omega) hsz5 ?_; intro v6 w7 hown7 hgr7 hat7; obtain ⟨g6, c6, rfl⟩ := ownT_succ hown7; have z7 := vat_kept z5 hgr7 (fun e => (by have := (ownT_blk hown _ e.symm).2; omega)); obtain ⟨⟨m0'', m1'', m2'', m3''⟩, l0'', l1'', l2'', l3''⟩ := box4 z7))
            go_roundw
            case rel => exact ⟨q, ([] : List PV) ++ [v], by omega, by omega, rfl, by simp; omega, gi_push hB0 hs0 q1 q2 q3 hown hel hB4 hF hown7 hgr7 hat7 rfl, HSN⟩
            case measure => simp [intOf]; omega
        · have f1 : ((i : Int) == (s.size : Int)) = true := by simp; omega
          clear h93
          obtain rfl : i = s.size := by omega
          obtain ⟨X, hX⟩ : ∃ X, rv (s.size) = X := ⟨_, rfl⟩
          have hG : ∀ W, Calls Try.prog 19 #[.string s, .int .i64 (s.size : Int), .int .i64 (dd - 1)] W (ScR (gT X) W) := fun W => by have h := HIH.out (s.size) W (by omega); rw [hX] at h; exact h
          rw [hX] at hgo
          cases X with
          | inl ae =>
            obtain ⟨ea, er⟩ := ae
            have hR' := hgo.1 _ rfl
            have hne : (er != 0) = true := by simpa using HER.out _ _ _ hX
            have hg := HRR.out
            rw [hR'] at hg
            simp only [Vt.lsV] at hg
            subst hg
            clear hgo hR' HRR HS hX
            have hG := fun W => scR_l (hG W)
            go_wp2_with (go_at_call 19; (with_reducible refine (hG _).mono ?_); rintro e w4 ⟨k0, k1, k2, a9, len9, cap9, rfl, hF, hB4⟩; have hA4 := (Below.refl _ w4).alloc (Nat.le_refl _) (.cells #[.int .i64 k0, .int .i64 k1, .string k2, .slice a9 len9 cap9] 25); have z1 := vat_below hA4 (vat_below hB4 q1); have z2 := vat_below hA4 (vat_below hB4 q2); obtain ⟨⟨o0', o1', o2', o3'⟩, r0', r1', r2', r3'⟩ := box4 z1; obtain ⟨⟨t0', t1', t2', t3'⟩, _⟩ := box4 z2)
            refine bodyPost_ret (vresults_row_tmp2 Try.results19 _ _ w.heap.size 25 _ _ _ rfl (vat_set4 z1 _ _ _ _) Try.underlying25 rfl val4) rfl ?_
            exact get_end14 (v := .mk 0 0 ⟨#[]⟩ []) (hB0.trans ((hB4.trans (hA4.mono hB4.size)).mono hB0.size)) (fresh_none _ _)
          | inr vq => rw [HOV.out] at hX; cases hX
    · have hlen : 0 < acc.length := List.length_pos_iff.2 hacc
      have g0 : decide ((0 : Int) < (acc.length : Int)) = true := by simp; omega
      obtain ⟨st1, st2, st3⟩ := gs_stop hacc HS.out (by rw [strB_len]; exact hi)
      rw [strB_len] at st1 st2 st3
      have hyl : acc.length ≤ 1000000 := hal
      obtain ⟨i0, hi0, hi1, hi2, hi3⟩ := info_parts info_val
      rcases Nat.lt_or_ge i s.size with hlt | hge
      · have f1 : ((i : Int) == (s.size : Int)) = false := by simp; omega
        have hsi := strB_at s i hlt
        rw [hsi] at st2 st3
        by_cases h93 : (s[i].toNat : Int) = 93
        · have hRe := st2 hlt h93
          have f2 : ((s[i].toNat : Int) != 93) = false := by simpa using h93
          have H93 := Lib.hid h93; clear h93 st1 st2 st3 hsi
          have hg := HRR.out
          rw [hRe] at hg
          simp only [Vt.lsV] at hg
          subst hg
          clear hRe HRR HS
          go_wp2
          refine bodyPost_ret (vresults_row_tmp2 Try.results19 _ _ w.heap.size 25 _ _ _ rfl (vat_set4 q1 _ _ _ _) Try.underlying25 rfl val4) rfl ?_
          refine get_end14 hB0 (fun W' hW' => ?_)
          obtain ⟨u1, u2, u3⟩ := velT_is hown hel (W' := W') (fun b b1 b2 => hW' b (by omega) b2)
          unfold Is
          exact ⟨⟨by omega, by omega⟩, ⟨by omega, by omega⟩, by unfold maxLen; decide, a, cap, rfl, u1, u2, u3⟩
        · have f2 : ((s[i].toNat : Int) != 93) = true := by simpa using h93
          by_cases h32 : (s[i].toNat : Int) = 32
          · have hgo := gs_next hacc HS.out (by rw [strB_len]; exact hlt) (by rw [hsi]; exact h32)
            have f3 : ((s[i].toNat : Int) != 32) = false := by simpa using h32
            have H93 := Lib.hid h93; have H32 := Lib.hid h32; clear h93 h32 st1 st2 st3 hsi
            obtain ⟨X, hX⟩ : ∃ X, rv (i + 1) = X := ⟨_, rfl⟩
            have hG : ∀ W, Calls Try.prog 19 #[.string s, .int .i64 ((i : Int) + 1), .int .i64 (dd - 1)] W (ScR (gT X) W) := fun W => by have h := HIH.out (i + 1) W (by omega); rw [hX] at h; exact h
            rw [hX] at hgo
            cases X with
            | inl ae =>
              obtain ⟨ea, er⟩ := ae
              have hR' := hgo.1 _ rfl
              have hne : (er != 0) = true := by simpa using HER.out _ _ _ hX
              have hg := HRR.out
              rw [hR'] at hg
              simp only [Vt.lsV] at hg
              subst hg
              clear hgo hR' HRR HS hX
              have hG := fun W => scR_l (hG W)
              go_wp2_with (go_at_call 19; (with_reducible refine (hG _).mono ?_); rintro e w4 ⟨k0, k1, k2, a9, len9, cap9, rfl, hF, hB4⟩; have hA4 := (Below.refl _ w4).alloc (Nat.le_refl _) (.cells #[.int .i64 k0, .int .i64 k1, .string k2, .slice a9 len9 cap9] 25); have z1 := vat_below hA4 (vat_below hB4 q1); have z2 := vat_below hA4 (vat_below hB4 q2); obtain ⟨⟨o0', o1', o2', o3'⟩, r0', r1', r2', r3'⟩ := box4 z1; obtain ⟨⟨t0', t1', t2', t3'⟩, _⟩ := box4 z2)
              refine bodyPost_ret (vresults_row_tmp2 Try.results19 _ _ w.heap.size 25 _ _ _ rfl (vat_set4 z1 _ _ _ _) Try.underlying25 rfl val4) rfl ?_
              exact get_end14 (v := .mk 0 0 ⟨#[]⟩ []) (hB0.trans ((hB4.trans (hA4.mono hB4.size)).mono hB0.size)) (fresh_none _ _)
            | inr vq =>
              obtain ⟨v, q⟩ := vq
              obtain ⟨pl1, pl2⟩ := HPL.out _ _ _ hX
              have hvp := szV_pos v
              have HSN := Lib.hid (hgo.2 v q rfl (by omega))
              have hG := fun W => scR_r (hG W)
              clear hgo hX HS
              go_wp2_with (first
                | (go_at_call 19; (with_reducible refine (hG _).mono ?_); rintro e w4 ⟨k0, k1, k2, a9, len9, cap9, rfl, hF, hB4⟩; have hA4 := (Below.refl _ w4).alloc (Nat.le_refl _) (.cells #[.int .i64 k0, .int .i64 k1, .string k2, .slice a9 len9 cap9] 25); have z3 := vat_below hA4 (vat_below hB4 q3); obtain ⟨⟨m0', m1', m2', m3'⟩, l0', l1', l2', l3'⟩ := box4 z3; have hA5 := hA4.alloc hA4.size (.cells #[.int .i64 k0, .int .i64 k1, .string k2, .slice a9 len9 cap9] 25); have z5 := vat_below hA5 (vat_below hB4 q3); have hown5 := ownsRow_below (ownsRow_below hown hB4) hA5; have hsz5 : w.heap.size + 3 ≤ ((w4.alloc (.cells #[.int .i64 k0, .int .i64 k1, .string k2, .slice a9 len9 cap9] 25)).alloc (.cells #[.int .i64 k0, .int .i64 k1, .string k2, .slice a9 len9 cap9] 25)).heap.size := (by have h1 := hB4.size; have h2 := hA5.size; omega))
                | (at_builtin; refine wpList_append_at _ rfl _ _ 23 rfl (w.heap.size + 3) 25 i0 (.agg vzero) 4 56 Try.underlying23 hi0 hi1 hi2 hi3 rfl (by decide) (.slice a acc.length cap) acc.length cs rfl hown5 (some ⟨w4.heap.size + 1, 0, none⟩) 1 1 [.int .i64 k0, .int .i64 k1, .string k2, .slice a9 len9 cap9] rfl (cells_app14 w4 _ _ _ _ _) (by simp [Value.oneCell']) (by unfold maxLen; omega) (by omega) hsz5 ?_; intro v6 w7 hown7 hgr7 hat7; obtain ⟨g6, c6, rfl⟩ := ownT_succ hown7; have z7 := vat_kept z5 hgr7 (fun e => (by have := (ownT_blk hown _ e.symm).2; omega)); obtain ⟨⟨m0'', m1'', m2'', m3''⟩, l0'', l1'', l2'', l3''⟩ := box4 z7))
              go_roundw
              case rel => exact ⟨q, acc ++ [v], by omega, by omega, rfl, by simp; omega, gi_push hB0 hs0 q1 q2 q3 hown hel hB4 hF hown7 hgr7 hat7 rfl, HSN⟩
              case measure => simp [intOf]; omega
          · have hRe := st3 hlt h93 h32
            have f3 : ((s[i].toNat : Int) != 32) = true := by simpa using h32
            have H93 := Lib.hid h93; have H32 := Lib.hid h32; clear h93 h32 st1 st2 st3 hsi
            have hg := HRR.out
            rw [hRe] at hg
            simp only [Vt.lsV, strB_len] at hg
            subst hg
            clear hRe HRR HS
            go_wp2
            refine bodyPost_ret (vresults_row_tmp2 Try.results19 _ _ w.heap.size 25 _ _ _ rfl (vat_set4 q1 _ _ _ _) Try.underlying25 rfl val4) rfl ?_
            exact get_end14 (v := .mk 0 0 ⟨#[]⟩ []) hB0 (fresh_none _ _)
      · have hRe := st1 (by omega)
        have f1 : ((i : Int) == (s.size : Int)) = true := by simp; omega
        obtain rfl : i = s.size := by omega
        clear st1 st2 st3
        have hg := HRR.out
        rw [hRe] at hg
        simp only [Vt.lsV, strB_len] at hg
        subst hg
        clear hRe HRR HS
        go_wp2
        refine bodyPost_ret (vresults_row_tmp2 Try.results19 _ _ w.heap.size 25 _ _ _ rfl (vat_set4 q1 _ _ _ _) Try.underlying25 rfl val4) rfl ?_
        exact get_end14 (v := .mk 0 0 ⟨#[]⟩ []) hB0 (fresh_none _ _)
end Go.Proofs.Ytfapoicnkdallaa
