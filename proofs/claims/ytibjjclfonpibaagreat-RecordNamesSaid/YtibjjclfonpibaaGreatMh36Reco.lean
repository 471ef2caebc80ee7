/- The program's records: told, lacks, what Fill hands to gather. (Made by gen_rcf.py.) -/
import Derived.Test.YtibjjclfonpibaaGreatMh35Reco
set_option linter.unusedVariables false
set_option linter.unusedSimpArgs false
set_option maxRecDepth 100000
namespace Go.Proofs.YtibjjclfonpibaaGreat
open Go.RowKit Go.Shelf
namespace Rc
/-- what is wrong with a name, behind others, and its value -/
def toldE (x : Sc.Ver) (ahead : List ByteArray) (nm : ByteArray) (v : PV) : Int := if (ixN ahead nm).isSome = true then 6 else match Sc.col x nm with
  | none => 7
  | some c => if Sc.fits (Sc.slotOf x c).ty v = true then 0 else 8
def lackB (x : Sc.Ver) (names : List ByteArray) (n : Nat) : Bool := (Sc.slotOf x n).rq && !(ixN names (Sc.slotOf x n).nm).isSome
def lacksB (x : Sc.Ver) (names : List ByteArray) : Bool := (x.cols.findIdx? (lackB x names)).isSome
def fillV (x : Sc.Ver) (names : List ByteArray) (vals : List PV) (n : Nat) : PV := match ixN names (Sc.slotOf x n).nm with
  | none => (Sc.slotOf x n).df
  | some i => vals[i]?.getD Sc.nilV
def fillL (x : Sc.Ver) (names : List ByteArray) (vals : List PV) : List PV := x.cols.map (fillV x names vals)
end Rc
theorem nRow_nth {W : World} {a : Option Addr} {cap : Nat} {l : List ByteArray} (h : NRow W a cap l) {i : Nat} {s : ByteArray} (hs : l[i]? = some s) : ∃ b off, a = some ⟨b, off, none⟩ ∧ W.cell? ⟨b, off + i, none⟩ = some (.string s) := by
  rcases h.2.2 with h3 | ⟨b, off, ha, hc⟩
  · subst h3; simp at hs
  · exact ⟨b, off, ha, hc i s hs⟩
theorem slotRow_nth {W : World} {a : Option Addr} {cap : Nat} {l : List SlotM} (h : SlotRow W a cap l) {i : Nat} {s : SlotM} (hs : l[i]? = some s) : ∃ b off, a = some ⟨b, off, none⟩ ∧ SlotAt W b (off + i * 7) s := by
  rcases h.2.2 with h3 | ⟨b, off, ha, hc⟩
  · subst h3; simp at hs
  · exact ⟨b, off, ha, hc i s hs⟩
theorem col_mem {x : Sc.Ver} {nm : ByteArray} {c : Nat} (h : Sc.col x nm = some c) : c ∈ x.cols := by
  unfold Sc.col at h
  exact List.mem_of_find?_eq_some h
theorem size_strN (w : World) : (sizeOf (Tryz.prog.elem 40)).run Tryz.prog w = .ok 1 w := by kernel_rfl
/-- names[:q] -/
theorem subN (a : Option Addr) (n c q : Nat) (hq : q ≤ n) (hnc : n ≤ c) : ∃ a', (∀ W, (Instr.slice 40 (.slice a n c) none (some (.int .i64 (q : Int))) none).run Tryz.prog W = .ok (.slice a' q c) W) ∧
    ∀ (W : World) (l : List ByteArray), l.length = n → NRow W a c l → NRow W a' c (l.take q) := by
  have hsz : (Tryz.prog.info? 9).map (·.size) = some 1 := by kernel_rfl
  refine ⟨if c = 0 then a else a.map (·.add (0 * 1)), fun W => ?_, fun W l hl h => ?_⟩
  · have h1 := run_slice_h (P := Tryz.prog) W 40 a n c Tryz.underlying40 .i64 (q : Int) (by omega) (by omega)
    rw [size_strN W] at h1
    simpa [Result.andThen, sliced] using h1
  · refine ⟨by rw [List.length_take]; have := h.1; omega, h.2.1, ?_⟩
    rcases h.2.2 with h3 | ⟨b, off, rfl, hc⟩
    · left; rw [h3]; simp
    · right
      refine ⟨b, off, ?_, fun i s hs => hc i s (by
        rw [List.getElem?_take] at hs
        split at hs
        · exact hs
        · cases hs)⟩
      split
      · rfl
      · simp [Addr.add_lit]
set_option maxHeartbeats 8000000 in
theorem told_any (x : Sc.Ver) (ahead : List ByteArray) (nm : ByteArray) (v : PV) (sa : Option Addr) (sc : Nat) (ca : Option Addr) (cc : Nat) (na : Option Addr) (nc : Nat) (Y : Value) (w : World) (hok : Sc.VerOk 16 x) (hva : VerAt w x sa sc ca cc) (hn : NRow w na nc ahead) (hnm : nm.size ≤ maxLen) (hv : Is w v Y) (hvz : szV v ≤ 1000000) :
    Calls Tryz.prog 43 #[.agg #[.slice sa x.slots.length sc, .slice ca x.cols.length cc], .slice na ahead.length nc, .string nm, Y] w fun e w' => e = .returned (.int .i64 (Rc.toldE x ahead nm v)) ∧ Below w.heap.size w w' := by
  obtain ⟨k, nn, tx, la, ll, lc, rfl⟩ := is_form9 hv
  have hBT := belowTwo w (.cells #[.slice sa x.slots.length sc, .slice ca x.cols.length cc] 67) (.cells #[.int .i64 k, .int .i64 nn, .string tx, .slice la ll lc] 42)
  have hC := col_any x sa sc ca cc nm _ hok.lt hnm (verAt_below hva hBT)
  have hN := fun W (hb : Below w.heap.size w W) => containsN_any na nc ahead nm W (nRow_below hb hn) hnm
  obtain ⟨Q, hQ⟩ : ∃ Q, (Rc.ixN ahead nm).isSome = Q := ⟨_, rfl⟩
  rw [hQ] at hN
  obtain ⟨al, hal⟩ : ∃ al, ahead.length = al := ⟨_, rfl⟩
  obtain ⟨sl, hsl⟩ : ∃ sl, x.slots.length = sl := ⟨_, rfl⟩
  obtain ⟨cl, hcl⟩ : ∃ cl, x.cols.length = cl := ⟨_, rfl⟩
  obtain ⟨cI, hcI⟩ : ∃ cI, Sc.colI x nm = cI := ⟨_, rfl⟩
  have hans : Rc.toldE x ahead nm v = if Q = true then 6 else match Sc.col x nm with
    | none => 7
    | some c => if Sc.fits (Sc.slotOf x c).ty v = true then 0 else 8 := by unfold Rc.toldE; rw [hQ]
  rw [hsl, hcl] at hBT hC
  rw [hcI] at hC
  rw [hal] at hN
  rw [hal, hsl, hcl]
  obtain ⟨A, hA⟩ : ∃ A, Rc.toldE x ahead nm v = A := ⟨_, rfl⟩
  rw [hA] at hans ⊢
  have HC := Lib.hid hC; have HN := Lib.hid hN
  cases Q with
  | true =>
    have hA6 : 6 = A := by rw [hans]; rfl
    have HA := Lib.hid hA6
    clear hC hN hva hn hv hvz hok hnm hQ hal hsl hcl hcI hans hA hA6
    go_enter Tryz.func43, Tryz.ntmps43
    go_wp2_with (first
      | (go_at_call 70; (with_reducible refine HC.out.mono ?_); rintro e w1 ⟨rfl, hB1⟩; have hBw := hBT.trans (hB1.mono hBT.size); have hX := res2' hB1; have hV := res2 hB1)
      | (go_at_call 71; (with_reducible refine (HN.out _ hBw).mono ?_); rintro e w2 ⟨rfl, kk, rfl⟩; have hB2 := below_drewN (Below.refl w1.heap.size w1) kk))
    go_ret
    exact ⟨ret_int HA.out, hBw.trans (hB2.mono hBw.size)⟩
  | false =>
    simp only [Bool.false_eq_true, if_false] at hans
    cases hcol : Sc.col x nm with
    | none =>
      rw [hcol] at hans
      have hcm : cI = -1 := by rw [← hcI]; unfold Sc.colI; rw [hcol]
      subst hcm
      have hA6 : 7 = A := hans.symm
      have HA := Lib.hid hA6
      clear hC hN hva hn hv hvz hok hnm hQ hal hsl hcl hcI hans hA hA6 hcol
      go_enter Tryz.func43, Tryz.ntmps43
      go_wp2_with (first
        | (go_at_call 70; (with_reducible refine HC.out.mono ?_); rintro e w1 ⟨rfl, hB1⟩; have hBw := hBT.trans (hB1.mono hBT.size); have hX := res2' hB1; have hV := res2 hB1)
        | (go_at_call 71; (with_reducible refine (HN.out _ hBw).mono ?_); rintro e w2 ⟨rfl, kk, rfl⟩; have hB2 := below_drewN (Below.refl w1.heap.size w1) kk))
      go_ret
      exact ⟨ret_int HA.out, hBw.trans (hB2.mono hBw.size)⟩
    | some c =>
      rw [hcol] at hans
      simp only at hans
      have hcm : cI = (c : Int) := by rw [← hcI]; unfold Sc.colI; rw [hcol]
      subst hcm
      have hcx := hok.lt c (col_mem hcol)
      obtain ⟨s, hs⟩ : ∃ s, x.slots[c]? = some s := ⟨x.slots[c], List.getElem?_eq_getElem hcx⟩
      have hso : Sc.slotOf x c = s := by unfold Sc.slotOf; rw [hs]; rfl
      obtain ⟨B, hB⟩ : ∃ B, Sc.fits s.ty v = B := ⟨_, rfl⟩
      rw [hso, hB] at hans
      have hty := (hok.ok s (List.mem_of_getElem? hs)).1
      have hcl2 : c < sl := by rw [← hsl]; exact hcx
      obtain ⟨sb, so, rfl, hsAt⟩ := slotRow_nth hva.1 hs
      have hF := fun (W : World) E (hW : Below w.heap.size w W) (hE : IsSlot W s E) => fits_any s v hvz (by omega) W E _ hE (is_below hW _ _ hv)
      rw [hB] at hF
      obtain ⟨kx, kn, kt, ka, kl, kc, ⟨i0, i1, i2, i3, i4, i5, i6⟩, hIy, hsn, hdf⟩ := slotAt_form hsAt
      have hFt := fun (W : World) (hb : Below w.heap.size w W) => hF W _ hb (isSlot_below hb ⟨_, _, _, _, _, _, _, rfl, hsn, hIy, rfl, rfl, rfl, hdf⟩)
      have hlt0 : decide ((c : Int) < 0) = false := by simp
      have HFt0 := Lib.hid hFt
      clear hC hN hva hn hv hvz hok hnm hQ hal hsl hcl hcI hA hcol hF hFt hsAt hIy hsn hdf hs hso hB hty hcx
      cases B with
      | true =>
        have hA6 : 0 = A := hans.symm
        have HA := Lib.hid hA6
        clear hans hA6
        go_enter Tryz.func43, Tryz.ntmps43
        go_wp2_with (first
          | (go_at_call 70; (with_reducible refine HC.out.mono ?_); rintro e w1 ⟨rfl, hB1⟩; have hBw := hBT.trans (hB1.mono hBT.size); have hX := res2' hB1; have hV := res2 hB1)
          | (go_at_call 71; (with_reducible refine (HN.out _ hBw).mono ?_); rintro e w2 ⟨rfl, kk, rfl⟩; have hB2 := below_drewN (Below.refl w1.heap.size w1) kk))
        obtain ⟨W0, hW0⟩ : ∃ W0, w1.drewN kk = W0 := ⟨_, rfl⟩
        have hX2 := (hB2.block _ (Array.getElem?_eq_some_iff.1 hX).1).trans hX
        have hV2 := (hB2.block _ (Array.getElem?_eq_some_iff.1 hV).1).trans hV
        have hBw2 := hBw.trans (hB2.mono hBw.size)
        rw [hW0] at hX2 hV2 hBw2 ⊢
        clear hW0 hB2 hX hV
        have e0 := at_heap (i := 0) (v := .slice (some ⟨sb, so, none⟩) sl sc) hX2 rfl
        have e1 := at_heap (i := 1) (v := .slice ca cl cc) hX2 rfl
        have t0 := at_heap (i := 0) (v := .int .i64 k) hV2 rfl
        have t1 := at_heap (i := 1) (v := .int .i64 nn) hV2 rfl
        have t2 := at_heap (i := 2) (v := .string tx) hV2 rfl
        have t3 := at_heap (i := 3) (v := .slice la ll lc) hV2 rfl
        have g0 := cell_below hBw2 i0
        have g1 := cell_below hBw2 i1
        have g2 := cell_below hBw2 i2
        have g3 := cell_below hBw2 i3
        have g4 := cell_below hBw2 i4
        have g5 := cell_below hBw2 i5
        have g6 := cell_below hBw2 i6
        have hFt := fun (W : World) (hb : Below W0.heap.size W0 W) => HFt0.out W (hBw2.trans (hb.mono hBw2.size))
        have HFt := Lib.hid hFt
        clear hFt i0 i1 i2 i3 i4 i5 i6
        refine wp_region_quiet (C := fun W => Below W0.heap.size W0 W) (by kernel_rfl) (by kernel_rfl) (below_drew W0) ?_
        iterate 9 (first
          | ((with_reducible refine BigFrame.wpQuiet_skip ?_ ?_); (focus rfl); simp only [Act.put, List.setIfInBounds_toArray, List.set_cons_zero, List.set_cons_succ])
          | ((with_reducible refine BigFrame.wpQuiet_want ?_ (fun K hK => ?_))
             focus rfl
             apply quiet_run9
             · intro W hC
               unfold Oper.quietAt
               have HC := Lib.hid hC
               have u0 := cell_below hC e0
               have u1 := cell_below hC e1
               have z0 := cell_below hC g0
               have z1 := cell_below hC g1
               have z2 := cell_below hC g2
               have z3 := cell_below hC g3
               have z4 := cell_below hC g4
               have z5 := cell_below hC g5
               have z6 := cell_below hC g6
               have p0 := cell_below hC t0
               have p1 := cell_below hC t1
               have p2 := cell_below hC t2
               have p3 := cell_below hC t3
               clear hC
               go_simp
               first
                 | done
                 | with_reducible rfl
                 | ((with_reducible refine (HFt.out _ HC.out).mono ?_); exact fun e w' ⟨he, hb⟩ => ⟨he, HC.out.trans (hb.mono HC.out.size)⟩)
             (with_reducible refine hK _ ?_); clear hK K; simp only [Act.put, List.setIfInBounds_toArray, List.set_cons_zero, List.set_cons_succ]))
        refine wpQuiet_nil ?_
        intro W9 hB9
        (try simp only at hB9)
        go_wp2_with fail
        go_ret
        exact ⟨ret_int HA.out, hBw2.trans (hB9.mono hBw2.size)⟩
      | false =>
        have hA6 : 8 = A := hans.symm
        have HA := Lib.hid hA6
        clear hans hA6
        go_enter Tryz.func43, Tryz.ntmps43
        go_wp2_with (first
          | (go_at_call 70; (with_reducible refine HC.out.mono ?_); rintro e w1 ⟨rfl, hB1⟩; have hBw := hBT.trans (hB1.mono hBT.size); have hX := res2' hB1; have hV := res2 hB1)
          | (go_at_call 71; (with_reducible refine (HN.out _ hBw).mono ?_); rintro e w2 ⟨rfl, kk, rfl⟩; have hB2 := below_drewN (Below.refl w1.heap.size w1) kk))
        obtain ⟨W0, hW0⟩ : ∃ W0, w1.drewN kk = W0 := ⟨_, rfl⟩
        have hX2 := (hB2.block _ (Array.getElem?_eq_some_iff.1 hX).1).trans hX
        have hV2 := (hB2.block _ (Array.getElem?_eq_some_iff.1 hV).1).trans hV
        have hBw2 := hBw.trans (hB2.mono hBw.size)
        rw [hW0] at hX2 hV2 hBw2 ⊢
        clear hW0 hB2 hX hV
        have e0 := at_heap (i := 0) (v := .slice (some ⟨sb, so, none⟩) sl sc) hX2 rfl
        have e1 := at_heap (i := 1) (v := .slice ca cl cc) hX2 rfl
        have t0 := at_heap (i := 0) (v := .int .i64 k) hV2 rfl
        have t1 := at_heap (i := 1) (v := .int .i64 nn) hV2 rfl
        have t2 := at_heap (i := 2) (v := .string tx) hV2 rfl
        have t3 := at_heap (i := 3) (v := .slice la ll lc) hV2 rfl
        have g0 := cell_below hBw2 i0
        have g1 := cell_below hBw2 i1
        have g2 := cell_below hBw2 i2
        have g3 := cell_below hBw2 i3
        have g4 := cell_below hBw2 i4
        have g5 := cell_below hBw2 i5
        have g6 := cell_below hBw2 i6
        have hFt := fun (W : World) (hb : Below W0.heap.size W0 W) => HFt0.out W (hBw2.trans (hb.mono hBw2.size))
        have HFt := Lib.hid hFt
        clear hFt i0 i1 i2 i3 i4 i5 i6
        refine wp_region_quiet (C := fun W => Below W0.heap.size W0 W) (by kernel_rfl) (by kernel_rfl) (below_drew W0) ?_
        iterate 9 (first
          | ((with_reducible refine BigFrame.wpQuiet_skip ?_ ?_); (focus rfl); simp only [Act.put, List.setIfInBounds_toArray, List.set_cons_zero, List.set_cons_succ])
          | ((with_reducible refine BigFrame.wpQuiet_want ?_ (fun K hK => ?_))
             focus rfl
             apply quiet_run9
             · intro W hC
               unfold Oper.quietAt
               have HC := Lib.hid hC
               have u0 := cell_below hC e0
               have u1 := cell_below hC e1
               have z0 := cell_below hC g0
               have z1 := cell_below hC g1
               have z2 := cell_below hC g2
               have z3 := cell_below hC g3
               have z4 := cell_below hC g4
               have z5 := cell_below hC g5
               have z6 := cell_below hC g6
               have p0 := cell_below hC t0
               have p1 := cell_below hC t1
               have p2 := cell_below hC t2
               have p3 := cell_below hC t3
               clear hC
               go_simp
               first
                 | done
                 | with_reducible rfl
                 | ((with_reducible refine (HFt.out _ HC.out).mono ?_); exact fun e w' ⟨he, hb⟩ => ⟨he, HC.out.trans (hb.mono HC.out.size)⟩)
             (with_reducible refine hK _ ?_); clear hK K; simp only [Act.put, List.setIfInBounds_toArray, List.set_cons_zero, List.set_cons_succ]))
        refine wpQuiet_nil ?_
        intro W9 hB9
        (try simp only at hB9)
        go_wp2_with fail
        go_ret
        exact ⟨ret_int HA.out, hBw2.trans (hB9.mono hBw2.size)⟩
set_option maxHeartbeats 4000000 in
theorem lack1_any (x : Sc.Ver) (names : List ByteArray) (n : Nat) (xb nb : Nat) (sa : Option Addr) (sc : Nat) (na : Option Addr) (nc : Nat) (W : World) (hsr : SlotRow W sa sc x.slots) (hn : NRow W na nc names) (hlt : n < x.slots.length) (hsm : x.slots.length ≤ 100)
    (c0 : W.cell? ⟨xb, 0, none⟩ = some (.slice sa x.slots.length sc)) (c1 : W.cell? ⟨nb, 0, none⟩ = some (.slice na names.length nc)) :
    Calls Tryz.prog 73 #[.int .i64 (n : Int), .pointer (some ⟨xb, 0, none⟩), .pointer (some ⟨nb, 0, none⟩)] W fun e w' => e = .returned (.bool (Rc.lackB x names n)) ∧ Below W.heap.size W w' := by
  obtain ⟨s, hs⟩ : ∃ s, x.slots[n]? = some s := ⟨x.slots[n], List.getElem?_eq_getElem hlt⟩
  have hso : Sc.slotOf x n = s := by unfold Sc.slotOf; rw [hs]; rfl
  obtain ⟨sb, so, rfl, hsAt⟩ := slotRow_nth hsr hs
  obtain ⟨kx, kn, kt, ka, kl, kc, ⟨i0, i1, i2, i3, i4, i5, i6⟩, hIy, hsn, hdf⟩ := slotAt_form hsAt
  have hB1 := (Below.refl _ W).alloc (Nat.le_refl _) (.cells #[.string s.nm, .int .i64 s.ty, .bool s.rq, .int .i64 kx, .int .i64 kn, .string kt, .slice ka kl kc] 44)
  have hN := fun V (hb : Below W.heap.size W V) => containsN_any na nc names s.nm V (nRow_below hb hn) hsn
  have hans : Rc.lackB x names n = (s.rq && !(Rc.ixN names s.nm).isSome) := by unfold Rc.lackB; rw [hso]
  obtain ⟨Q, hQ⟩ : ∃ Q, (Rc.ixN names s.nm).isSome = Q := ⟨_, rfl⟩
  obtain ⟨sl, hsl⟩ : ∃ sl, x.slots.length = sl := ⟨_, rfl⟩
  obtain ⟨al, hal⟩ : ∃ al, names.length = al := ⟨_, rfl⟩
  obtain ⟨A, hA⟩ : ∃ A, Rc.lackB x names n = A := ⟨_, rfl⟩
  rw [hA] at hans ⊢
  rw [hQ] at hans hN
  rw [hal] at hN c1
  rw [hsl] at c0 hlt hsm
  have c1' := cell_below hB1 c1
  obtain ⟨rq, hrq⟩ : ∃ rq, s.rq = rq := ⟨_, rfl⟩
  rw [hrq] at hans i2 hB1 c1'
  have HN := Lib.hid hN; have HA := Lib.hid hans
  clear hN hans hA hQ hal hsl hs hso hsAt hIy hdf hrq hsr hn
  cases rq with
  | true =>
    go_enter Tryz.func73, Tryz.ntmps73
    go_wp2_with (go_at_call 71; (with_reducible refine (HN.out _ hB1).mono ?_); rintro e w2 ⟨rfl, kk, rfl⟩)
    go_ret
    exact ⟨ret_bool (by rw [HA.out]; simp), below_drewN hB1 kk⟩
  | false =>
    go_enter Tryz.func73, Tryz.ntmps73
    go_wp2_with fail
    go_ret
    exact ⟨ret_bool (by rw [HA.out]; simp), hB1⟩
set_option maxHeartbeats 4000000 in
theorem lacks_any (x : Sc.Ver) (names : List ByteArray) (sa : Option Addr) (sc : Nat) (ca : Option Addr) (cc : Nat) (na : Option Addr) (nc : Nat) (w : World) (hok : Sc.VerOk 16 x) (hva : VerAt w x sa sc ca cc) (hn : NRow w na nc names) :
    Calls Tryz.prog 44 #[.agg #[.slice sa x.slots.length sc, .slice ca x.cols.length cc], .slice na names.length nc] w fun e w' => e = .returned (.bool (Rc.lacksB x names)) ∧ Below w.heap.size w w' := by
  have hmf : ∀ (fn : Fn) (first cap : Array Value) (w : World), (Instr.makeFunc fn first cap).run Tryz.prog w = .ok (.func fn first cap) w := fun _ _ _ _ => rfl
  have hBT := belowTwo w (.cells #[.slice sa x.slots.length sc, .slice ca x.cols.length cc] 67) (.cells #[.slice na names.length nc] 40)
  have h2 := Below.refl ((w.alloc (.cells #[.slice sa x.slots.length sc, .slice ca x.cols.length cc] 67)).alloc (.cells #[.slice na names.length nc] 40)).heap.size ((w.alloc (.cells #[.slice sa x.slots.length sc, .slice ca x.cols.length cc] 67)).alloc (.cells #[.slice na names.length nc] 40))
  have k0 := at_heap (i := 0) (v := .slice sa x.slots.length sc) (res2' h2) rfl
  have k1 := at_heap (i := 0) (v := .slice na names.length nc) (res2 h2) rfl
  have hva2 := verAt_below hva hBT
  have hG := containsFunc_any ca cc x.cols (Rc.lackB x names) 73 #[.pointer (some ⟨w.heap.size, 0, none⟩), .pointer (some ⟨w.heap.size + 1, 0, none⟩)] _ hva2.2 (enters_of Tryz.func73 (by kernel_rfl) rfl)
    (fun i c W hs hb => lack1_any x names c w.heap.size (w.heap.size + 1) sa sc na nc W (slotRow_below hb hva2.1) (nRow_below (hBT.trans (hb.mono hBT.size)) hn) (hok.lt c (List.mem_of_getElem? hs)) (Nat.le_trans hok.num (by omega)) (cell_below hb k0) (cell_below hb k1))
  obtain ⟨sl, hsl⟩ : ∃ sl, x.slots.length = sl := ⟨_, rfl⟩
  obtain ⟨cl, hcl⟩ : ∃ cl, x.cols.length = cl := ⟨_, rfl⟩
  obtain ⟨al, hal⟩ : ∃ al, names.length = al := ⟨_, rfl⟩
  obtain ⟨A, hA⟩ : ∃ A, Rc.lacksB x names = A := ⟨_, rfl⟩
  have hA2 : (x.cols.findIdx? (Rc.lackB x names)).isSome = A := hA
  rw [hA2] at hG
  rw [hsl, hcl, hal] at hG hBT
  rw [hsl, hcl, hal, hA]
  have H := Lib.hid hG
  clear hG hva hn hok hva2 k0 k1 h2 hsl hcl hal hA hA2
  go_enter Tryz.func44, Tryz.ntmps44
  go_wp2_with (go_at_call 72; (with_reducible refine H.out.mono ?_); rintro e w2 ⟨rfl, hB2⟩)
  go_ret
  exact ⟨rfl, hBT.trans (hB2.mono hBT.size)⟩
theorem vat_new {W W' : World} (hb : Below (W.alloc (.cells vzero 42)).heap.size (W.alloc (.cells vzero 42)) W') : VAt W' W.heap.size vzero := vat_below hb (vat_alloc W vzero)
set_option maxHeartbeats 8000000 in
theorem fill1_any (x : Sc.Ver) (names : List ByteArray) (vals : List PV) (i n : Nat) (xb nb vb : Nat) (sa : Option Addr) (sc : Nat) (ca : Option Addr) (cl cc : Nat) (na : Option Addr) (nc : Nat) (b : Option Addr) (d : Nat) (w : World) (v : PV)
    (hsr : SlotRow w sa sc x.slots) (hn : NRow w na nc names) (hP : PRow w b d vals) (hlen : names.length = vals.length) (hlt : n < x.slots.length) (hsm : x.slots.length ≤ 100)
    (c0 : w.cell? ⟨xb, 0, none⟩ = some (.slice sa x.slots.length sc)) (c1 : w.cell? ⟨nb, 0, none⟩ = some (.slice na names.length nc)) (c2 : w.cell? ⟨vb, 0, none⟩ = some (.slice b vals.length d)) (hv : v = Rc.fillV x names vals n) :
    Calls Tryz.prog 46 #[.int .i64 (i : Int), .int .i64 (n : Int), .pointer (some ⟨nb, 0, none⟩), .pointer (some ⟨xb, 0, none⟩), .pointer (some ⟨vb, 0, none⟩)] w fun e w' => (∃ X, e = .returned X ∧ Is w' v X) ∧ Below w.heap.size w w' := by
  obtain ⟨s, hs⟩ : ∃ s, x.slots[n]? = some s := ⟨x.slots[n], List.getElem?_eq_getElem hlt⟩
  have hso : Sc.slotOf x n = s := by unfold Sc.slotOf; rw [hs]; rfl
  obtain ⟨sb, so, rfl, hsAt⟩ := slotRow_nth hsr hs
  obtain ⟨kx, kn, kt, ka, kl, kc, ⟨i0, i1, i2, i3, i4, i5, i6⟩, hIy, hsn, hdf⟩ := slotAt_form hsAt
  obtain ⟨W0, hW0⟩ : ∃ W0, w.alloc (.cells vzero 42) = W0 := ⟨_, rfl⟩
  have hB1 := (Below.refl _ w).alloc (Nat.le_refl _) (.cells vzero 42)
  have hVt := fun W' (hb : Below (w.alloc (.cells vzero 42)).heap.size (w.alloc (.cells vzero 42)) W') => vat_new hb
  rw [hW0] at hB1 hVt
  have hN := fun V (hb : Below W0.heap.size W0 V) => indexN_any na nc names s.nm V (nRow_below (hB1.trans (hb.mono hB1.size)) hn) hsn
  obtain ⟨sl, hsl⟩ : ∃ sl, x.slots.length = sl := ⟨_, rfl⟩
  obtain ⟨al, hal⟩ : ∃ al, names.length = al := ⟨_, rfl⟩
  rw [hsl] at c0 hlt hsm
  rw [← hlen] at c2
  rw [hal] at hN c1 c2
  have e0 := cell_below hB1 c0
  have e1 := cell_below hB1 c1
  have e2 := cell_below hB1 c2
  have g0 := cell_below hB1 i0
  have g3 := cell_below hB1 i3
  have g4 := cell_below hB1 i4
  have g5 := cell_below hB1 i5
  have g6 := cell_below hB1 i6
  have hans : v = match Rc.ixN names s.nm with | none => s.df | some i => vals[i]?.getD Sc.nilV := by rw [hv]; unfold Rc.fillV; rw [hso]
  cases hix : Rc.ixN names s.nm with
  | some c =>
    have hc : c < vals.length := by
      unfold Rc.ixN at hix
      rw [List.findIdx?_eq_some_iff_getElem] at hix
      obtain ⟨h1, _⟩ := hix
      omega
    obtain ⟨y, hy⟩ : ∃ y, vals[c]? = some y := ⟨vals[c], List.getElem?_eq_getElem hc⟩
    rw [hix] at hans hN
    simp only [hy, Option.getD_some] at hans
    subst hans
    obtain ⟨pb, po, k, nn, tx, la, ll, lc, rfl, ⟨f0, f1, f2, f3⟩, hIs⟩ := pRow_val hP hy
    have y0 := cell_below hB1 f0
    have y1 := cell_below hB1 f1
    have y2 := cell_below hB1 f2
    have y3 := cell_below hB1 f3
    have hca : c < al := by omega
    have hd : decide ((c : Int) ≥ 0) = true := by simp
    simp only [Rc.ixJ] at hN
    have HN := Lib.hid hN; have HI := Lib.hid hIs; have HV := Lib.hid hVt
    clear hN hIs hVt hsr hn hP hlen hix hy f0 f1 f2 f3 hdf c0 c1 c2 hal hsl hs hso hsAt hIy hv hc i0 i1 i2 i3 i4 i5 i6 hsn
    go_enter Tryz.func46, Tryz.ntmps46
    go_wp2
    refine wp_region_quiet (C := fun W => Below W0.heap.size W0 W) (by kernel_rfl) (by kernel_rfl) (below_drew W0) ?_
    iterate 9 (first
      | ((with_reducible refine BigFrame.wpQuiet_skip ?_ ?_); (focus rfl); simp only [Act.put, List.setIfInBounds_toArray, List.set_cons_zero, List.set_cons_succ])
      | ((with_reducible refine BigFrame.wpQuiet_want ?_ (fun K hK => ?_))
         focus rfl
         apply quiet_run9
         · intro W hC
           unfold Oper.quietAt
           have HC := Lib.hid hC
           have u0 := cell_below hC e0
           have u1 := cell_below hC e1
           have u2 := cell_below hC g0
           clear hC
           go_simp
           first
             | done
             | with_reducible rfl
             | ((with_reducible refine (HN.out _ HC.out).mono ?_); exact fun e w' ⟨he, k, hk⟩ => ⟨he, by rw [hk]; exact below_drewN HC.out k⟩)
         (with_reducible refine hK _ ?_); clear hK K; simp only [Act.put, List.setIfInBounds_toArray, List.set_cons_zero, List.set_cons_succ]))
    refine wpQuiet_nil ?_
    intro W9 hB9
    (try simp only at hB9)
    have z1 := cell_below hB9 e2
    have w0 := cell_below hB9 y0
    have w1 := cell_below hB9 y1
    have w2 := cell_below hB9 y2
    have w3 := cell_below hB9 y3
    obtain ⟨⟨p0, p1, p2, p3⟩, q0, q1, q2, q3⟩ := box4 (HV.out _ hB9)
    go_wp2_with fail
    refine bodyPost_ret (results_cell_row Tryz.results46 _ _ w.heap.size _ _ _ _ rfl (vat_set4 (HV.out _ hB9) _ _ _ _) Tryz.underlying42 rfl val4) rfl ?_
    have hBk := hB1.trans (hB9.mono hB1.size)
    exact ⟨⟨_, rfl, is_set4 _ _ _ _ HI.out hBk (Nat.le_refl _)⟩, below_set4 hBk (Nat.le_refl _) _ _ _ _ _ _ _ _⟩
  | none =>
    rw [hix] at hans hN
    simp only at hans
    subst hans
    have hd : decide ((-1 : Int) ≥ 0) = false := by decide
    simp only [Rc.ixJ] at hN
    have HN := Lib.hid hN; have HI := Lib.hid hdf; have HV := Lib.hid hVt
    clear hN hVt hsr hn hP hlen hix hdf c0 c1 c2 hal hsl hs hso hsAt hIy hv i0 i1 i2 i3 i4 i5 i6 hsn
    go_enter Tryz.func46, Tryz.ntmps46
    go_wp2
    refine wp_region_quiet (C := fun W => Below W0.heap.size W0 W) (by kernel_rfl) (by kernel_rfl) (below_drew W0) ?_
    iterate 9 (first
      | ((with_reducible refine BigFrame.wpQuiet_skip ?_ ?_); (focus rfl); simp only [Act.put, List.setIfInBounds_toArray, List.set_cons_zero, List.set_cons_succ])
      | ((with_reducible refine BigFrame.wpQuiet_want ?_ (fun K hK => ?_))
         focus rfl
         apply quiet_run9
         · intro W hC
           unfold Oper.quietAt
           have HC := Lib.hid hC
           have u0 := cell_below hC e0
           have u1 := cell_below hC e1
           have u2 := cell_below hC g0
           clear hC
           go_simp
           first
             | done
             | with_reducible rfl
             | ((with_reducible refine (HN.out _ HC.out).mono ?_); exact fun e w' ⟨he, k, hk⟩ => ⟨he, by rw [hk]; exact below_drewN HC.out k⟩)
         (with_reducible refine hK _ ?_); clear hK K; simp only [Act.put, List.setIfInBounds_toArray, List.set_cons_zero, List.set_cons_succ]))
    refine wpQuiet_nil ?_
    intro W9 hB9
    (try simp only at hB9)
    have z0 := cell_below hB9 e0
    have w3 := cell_below hB9 g3
    have w4 := cell_below hB9 g4
    have w5 := cell_below hB9 g5
    have w6 := cell_below hB9 g6
    obtain ⟨⟨p0, p1, p2, p3⟩, q0, q1, q2, q3⟩ := box4 (HV.out _ hB9)
    go_wp2_with fail
    refine bodyPost_ret (results_cell_row Tryz.results46 _ _ w.heap.size _ _ _ _ rfl (vat_set4 (HV.out _ hB9) _ _ _ _) Tryz.underlying42 rfl val4) rfl ?_
    have hBk := hB1.trans (hB9.mono hB1.size)
    exact ⟨⟨_, rfl, is_set4 _ _ _ _ HI.out hBk (Nat.le_refl _)⟩, below_set4 hBk (Nat.le_refl _) _ _ _ _ _ _ _ _⟩
end Go.Proofs.YtibjjclfonpibaaGreat
