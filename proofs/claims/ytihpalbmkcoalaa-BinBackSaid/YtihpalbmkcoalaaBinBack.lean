/- The walk of BinBack: what is put is read again, with what stands behind it left. -/
import Derived.Test.YtihpalbmkcoalaaBinAlive
import Derived.Test.YtihpalbmkcoalaaValGreat
import Derived.Deep.RegionHeld3
namespace Go.Proofs.Ytihpalbmkcoalaa.binBackWalk
open Go.RowKit Go.Shelf
attribute [local go_sem] Oper.semAt_some
theorem mem_bd {l : List Int} (h : ∀ x ∈ l, 0 ≤ x ∧ x ≤ 255) : Bytes l := fun i => by
  rcases Nat.lt_or_ge i l.length with h1 | h1
  · rw [List.getElem?_eq_getElem h1]; exact h _ (List.getElem_mem h1)
  · rw [List.getElem?_eq_none h1]; simp
theorem bput_bd : ∀ v : PV, okV v = true → ∀ x ∈ putV v, 0 ≤ x ∧ x ≤ 255 := by
  intro v
  induction v using pv_ind with
  | h k n s l ih =>
    intro h x hx
    obtain ⟨⟨hk0, hk5⟩, hn1, _, _, _, hol, _, _⟩ := ok_parts h
    have hL : ∀ l : List PV, (∀ y ∈ l, okV y = true → ∀ x ∈ putV y, 0 ≤ x ∧ x ≤ 255) → (∀ y ∈ l, okV y = true) → ∀ x ∈ putL l, 0 ≤ x ∧ x ≤ 255 := by
      intro l
      induction l with
      | nil => intro _ _ x hx; simp [putL] at hx
      | cons y r ih2 =>
        intro h1 h2 x hx
        simp only [putL, List.mem_append] at hx
        rcases hx with hx | hx
        · exact h1 y (by simp) (h2 y (by simp)) x hx
        · exact ih2 (fun y hy => h1 y (by simp [hy])) (fun y hy => h2 y (by simp [hy])) x hx
    simp only [putV, List.mem_cons] at hx
    rcases hx with rfl | hx
    · omega
    · split at hx
      · rename_i h1; have := hn1 h1; simp at hx; omega
      · split at hx
        · exact Bn.spl_bd _ _ x hx
        · split at hx
          · rcases List.mem_append.1 hx with hx | hx
            · exact Bn.spl_bd _ _ x hx
            · exact bytes_all (strB_bytes s) x hx
          · split at hx
            · rcases List.mem_append.1 hx with hx | hx
              · exact Bn.spl_bd _ _ x hx
              · exact hL l ih (okL_mem hol) x hx
            · simp at hx
theorem bd_append {l r : List Int} (h1 : ∀ x ∈ l, 0 ≤ x ∧ x ≤ 255) (h2 : ∀ x ∈ r, 0 ≤ x ∧ x ≤ 255) : ∀ x ∈ l ++ r, 0 ≤ x ∧ x ≤ 255 := fun x hx => by
  rcases List.mem_append.1 hx with hx | hx
  · exact h1 x hx
  · exact h2 x hx
/-- a box of a value's, and all below as it was -/
theorem keepP {b : Nat} {c0 c1 c2 c3 : Value} {A W W' : World} (h : ((W.cell? ⟨b, 0, none⟩ = some c0 ∧ W.cell? ⟨b, 1, none⟩ = some c1) ∧ (W.cell? ⟨b, 2, none⟩ = some c2 ∧ W.cell? ⟨b, 3, none⟩ = some c3)) ∧ Below A.heap.size A W) (hb : b < A.heap.size) (hw : Below A.heap.size W W') :
    ((W'.cell? ⟨b, 0, none⟩ = some c0 ∧ W'.cell? ⟨b, 1, none⟩ = some c1) ∧ (W'.cell? ⟨b, 2, none⟩ = some c2 ∧ W'.cell? ⟨b, 3, none⟩ = some c3)) ∧ Below A.heap.size A W' :=
  ⟨⟨⟨(hw.cell (p := ⟨b, 0, none⟩) hb).trans h.1.1.1, (hw.cell (p := ⟨b, 1, none⟩) hb).trans h.1.1.2⟩, (hw.cell (p := ⟨b, 2, none⟩) hb).trans h.1.2.1, (hw.cell (p := ⟨b, 3, none⟩) hb).trans h.1.2.2⟩, h.2.trans hw⟩
theorem keepQ {b : Nat} {c0 c1 c2 c3 : Value} {A W : World} (h : ((W.cell? ⟨b, 0, none⟩ = some c0 ∧ W.cell? ⟨b, 1, none⟩ = some c1) ∧ (W.cell? ⟨b, 2, none⟩ = some c2 ∧ W.cell? ⟨b, 3, none⟩ = some c3)) ∧ Below A.heap.size A W) : Below A.heap.size A W := h.2
theorem below_alloc' (A W : World) (h : A.heap.size ≤ W.heap.size) (o : Obj) : Below A.heap.size W (W.alloc o) := (Below.refl _ W).alloc h o
theorem below_drew2 (A W : World) : Below A.heap.size W W.drew := ⟨rfl, rfl, rfl, Nat.le_refl _, fun _ _ => rfl⟩
theorem keepR {b : Nat} {c0 c1 c2 c3 : Value} {A W W' : World} (hb : Below W.heap.size W W') (h : ((W.cell? ⟨b, 0, none⟩ = some c0 ∧ W.cell? ⟨b, 1, none⟩ = some c1) ∧ (W.cell? ⟨b, 2, none⟩ = some c2 ∧ W.cell? ⟨b, 3, none⟩ = some c3)) ∧ Below A.heap.size A W) : Below A.heap.size A W' := h.2.trans (hb.mono h.2.size)
theorem isSl_row {W : World} {a : Option Addr} {n cap : Nat} {l : List Int} (h : Row W .u8 a n cap l) : IsSl W (.slice a n cap) l := ⟨a, n, cap, rfl, h⟩
/-- the same, of what is under a call -/
theorem got_under2 {A W w' : World} (h : Below A.heap.size A W) (hb : Below W.heap.size W w') : Below A.heap.size W w' := hb.mono h.size
set_option maxRecDepth 100000 in
set_option maxHeartbeats 8000000 in
theorem walk (a0 : Int) (a1 : Int) (a2 : ByteArray) (t3 : PV) (v3 : Value) (a4 : Option Addr) (len4 cap4 : Nat) (z4 : List Int) (w : World) (w0 : (Lit.int .i64 a0).wf = true) (w1 : (Lit.int .i64 a1).wf = true) (w2 : a2.size ≤ maxLen) (w3 : Is w t3 v3) (w4 : IsRow .u8 w a4 len4 cap4 z4) :
    Calls Try.prog 5 #[.int .i64 a0, .int .i64 a1, .string a2, v3, .slice a4 len4 cap4] w fun e w' => e = .returned (.bool true) ∧ Below w.heap.size w w' := by
  obtain ⟨hy, hbw⟩ := row_of_isRow w4
  have hby := bytes_of hbw
  clear w4 hbw
  generalize z4.take len4 = y at *
  have hal := fun W => alive_any W
  have h0 := wf_i64 w0
  have h1 : I64 a1 := wf_i64 w1
  clear w0 w1
  have hnv := nums_is t3 v3 w3
  obtain ⟨k, m, s, va, vl, vc, rfl⟩ := is_form w3
  have hA0 := (Below.refl _ w).alloc (Nat.le_refl _) (vobj k m s va vl vc)
  have hG := fun W (hW : Below (w.alloc (vobj k m s va vl vc)).heap.size (w.alloc (vobj k m s va vl vc)) W) => great_any t3 W _ (is_below hW _ _ (is_below hA0 _ _ w3))
  have hV := fun W (hW : Below (w.alloc (vobj k m s va vl vc)).heap.size (w.alloc (vobj k m s va vl vc)) W) => bvalue_any t3 W _ (is_below hW _ _ (is_below hA0 _ _ w3))
  have hI := fun W (hW : Below (w.alloc (vobj k m s va vl vc)).heap.size (w.alloc (vobj k m s va vl vc)) W) => is_below hW _ _ (is_below hA0 _ _ w3)
  have HI := Lib.hid hI
  clear hI
  unfold maxLen at w2
  by_cases c1 : 300 < a2.size
  · have d1 : decide ((300 : Int) < (a2.size : Int)) = true := by simp; omega
    clear hG hV hy hby w3
    go_enter Try.func5, Try.ntmps5
    go_wp2_with (first | (go_at_call 8; (with_reducible refine (hal _).mono ?_); rintro e wA ⟨rfl, hA⟩))
    go_ret
    exact ⟨rfl, hA0.trans (hA.mono hA0.size)⟩
  have d1 : decide ((300 : Int) < (a2.size : Int)) = false := by simp; omega
  by_cases c2 : 300 < len4
  · have d2 : decide ((300 : Int) < (len4 : Int)) = true := by simp; omega
    clear hG hV hy hby w3
    go_enter Try.func5, Try.ntmps5
    go_wp2_with (first | (go_at_call 8; (with_reducible refine (hal _).mono ?_); rintro e wA ⟨rfl, hA⟩))
    go_ret
    exact ⟨rfl, hA0.trans (hA.mono hA0.size)⟩
  have d2 : decide ((300 : Int) < (len4 : Int)) = false := by simp; omega
  by_cases c3 : a0 < 0
  · have d3 : decide (a0 < 0) = true := by simpa using c3
    clear hG hV hy hby w3
    go_enter Try.func5, Try.ntmps5
    go_wp2_with (first | (go_at_call 8; (with_reducible refine (hal _).mono ?_); rintro e wA ⟨rfl, hA⟩))
    go_ret
    exact ⟨rfl, hA0.trans (hA.mono hA0.size)⟩
  obtain ⟨n, rfl⟩ := Int.eq_ofNat_of_zero_le (show 0 ≤ a0 by omega)
  have d3 : decide ((n : Int) < 0) = false := by simp
  by_cases c4 : 2147483647 < n
  · have d4 : decide ((2147483647 : Int) < (n : Int)) = true := by simp; omega
    clear hG hV hy hby w3
    go_enter Try.func5, Try.ntmps5
    go_wp2_with (first | (go_at_call 8; (with_reducible refine (hal _).mono ?_); rintro e wA ⟨rfl, hA⟩))
    go_ret
    exact ⟨rfl, hA0.trans (hA.mono hA0.size)⟩
  have d4 : decide ((2147483647 : Int) < (n : Int)) = false := by simp; omega
  have hn4 : n ≤ 2147483647 := by omega
  have hs3 : a2.size ≤ 300 := by omega
  have hl3 : len4 ≤ 300 := by omega
  clear c1 c2 c3 c4
  obtain ⟨g, hg⟩ : ∃ g, greatV t3 = g := ⟨_, rfl⟩
  rw [hg] at hG
  cases g with
  | true =>
    clear hV hy hby w3 hg
    go_enter Try.func5, Try.ntmps5
    go_wp2_with (first
      | (go_at_call 8; (with_reducible refine (hal _).mono ?_); rintro e wA ⟨rfl, hA⟩; obtain ⟨e0, e1, e2, e3⟩ := box_cells hA)
      | (go_at_call 9; (with_reducible refine (hG _ hA).mono ?_); rintro e wB ⟨rfl, hB⟩))
    go_ret
    exact ⟨rfl, hA0.trans ((hA.trans (hB.mono hA.size)).mono hA0.size)⟩
  | false =>
  by_cases hr : rightV t3 = true
  · have hval : valB t3 = putV t3 := by unfold valB; rw [if_pos hr]
    rw [hval] at hV
    have hrv := fun r => rValue_put t3 hr hnv r
    have hpl := bput_len t3 (right_ok hr).1
    have hpl2 : (putV t3).length ≤ 21000 := by have := (right_ok hr).2.1; omega
    have hpos : 0 < (putV t3).length := by cases t3; simp [putV]
    have hb2 := bput_bd t3 (right_ok hr).1
    generalize putV t3 = l2 at *
    clear hpl hval hg hnv hr
    have hsp := spn_in (n : Int) 2147483647 4 (by omega) (by omega)
    rw [Int.toNat_natCast] at hsp
    have hN := fun W => num_any (n : Int) W
    rw [hsp] at hN
    have hT := fun W => btext_any a2 W (by omega)
    obtain ⟨q, hq, hq2⟩ : ∃ q : Nat, (n : Int).tmod 256 = (q : Int) ∧ q ≤ 255 := ⟨n % 256, by rw [Int.tmod_eq_emod_of_nonneg (by omega)]; omega, by omega⟩
    have hY := fun W => byte_any (q : Int) W
    rw [spn_byte _ (by omega) (by omega)] at hY
    have hL := fun W => long_any a1 W
    have r1 := fun r => rNum_put n hn4 r
    have r3 := fun r => rText_put a2 (by omega) r
    have r5 := fun r => rLong_put a1 h1 r
    have hl1 := Bn.spl_len n 4
    have hl3 : (Bn.spl a2.size 4 ++ strB a2).length = 4 + a2.size := by simp [Bn.spl_len, strB_len]
    have hl5 : (spl64 a1).length = 8 := by simp [spl64, Bn.spl_len]
    have hbT : Bytes (Bn.spl n 4 ++ (l2 ++ ((Bn.spl a2.size 4 ++ strB a2) ++ ((q : Int) :: (spl64 a1 ++ y))))) := mem_bd (bd_append (Bn.spl_bd n 4) (bd_append hb2 (bd_append (bd_append (Bn.spl_bd _ 4) (bytes_all (strB_bytes a2))) (bd_append (l := [(q : Int)]) (by simp; omega) (bd_append (Bn.spl_bd _ 8) (bytes_all hby))))))
    generalize Bn.spl n 4 = l1 at *
    generalize Bn.spl a2.size 4 ++ strB a2 = l3 at *
    generalize spl64 a1 = l5 at *
    have HBT := Lib.hid hbT
    clear hbT hb2 hby
    have hly := hy.1
    have HY := Lib.hid hy
    have hbl : w.heap.size < (w.alloc (vobj k m s va vl vc)).heap.size := by simp
    clear hy w3 hsp
    go_enter Try.func5, Try.ntmps5
    go_upto_region 5 with (first
      | (go_at_call 8; (with_reducible refine (hal _).mono ?_); rintro e wA ⟨rfl, hA⟩; obtain ⟨e0, e1, e2, e3⟩ := box_cells hA)
      | (go_at_call 9; (with_reducible refine (hG _ hA).mono ?_); rintro e wB ⟨rfl, hB⟩; have hAB := hA.trans (hB.mono hA.size); obtain ⟨f0, f1, f2, f3⟩ := box_cells hAB)
      | (go_at_call 17; (with_reducible refine (hV _ hAB).mono ?_); rintro e wC ⟨v, rfl, ho, hC⟩; obtain ⟨av, cv, rfl, _⟩ := got_row (n := l2.length) ho rfl))
    have hAC := hAB.trans (hC.mono hAB.size)
    obtain ⟨p0, p1, p2, p3⟩ := box_cells hAC
    have hHYA := Lib.hid (fun W (hW : Below (w.alloc (vobj k m s va vl vc)).heap.size (w.alloc (vobj k m s va vl vc)) W) => row_below HY.out (hA0.trans (hW.mono hA0.size)) rfl)
    have hA0' := Lib.hid hA0
    generalize w.alloc (vobj k m s va vl vc) = A at *
    generalize hbq : w.heap.size = b at *
    have HBQ := Lib.hid hbq
    clear hbq
    clear hal hG hA hB hAB e0 e1 e2 e3 f0 f1 f2 f3 ho hC HY hA0
    have hflat : ∀ u1 u2 u3 u4 u5 u6 : Value, [(u1, l1), (u2, l2), (u3, l3), (u4, [(q : Int)]), (u5, l5), (u6, y)].flatMap (·.2) = l1 ++ (l2 ++ (l3 ++ ((q : Int) :: (l5 ++ y)))) := fun _ _ _ _ _ _ => by simp
    go_wp2_with fail
    go_region_held3 (fun W => ((W.cell? ⟨b, 0, none⟩ = some (.int .i64 k) ∧ W.cell? ⟨b, 1, none⟩ = some (.int .i64 m)) ∧ (W.cell? ⟨b, 2, none⟩ = some (.string s) ∧ W.cell? ⟨b, 3, none⟩ = some (.slice va vl vc))) ∧ Below A.heap.size A W)
      (first | assumption | exact keepP (by assumption) hbl (got_under2 (keepQ (by assumption)) hb) | exact keepP hSL hbl (got_under2 (keepQ hSL) hb) | exact keepP ⟨⟨⟨p0, p1⟩, p2, p3⟩, hAC⟩ hbl (below_drew2 _ _) | exact keepP (by assumption) hbl (below_alloc' _ _ (keepQ (by assumption)).size _)) (first
      | (go_at_call 11; (with_reducible refine (hN _).mono ?_); rintro e wN ⟨v1, rfl, ho1, hb⟩; have hs1 := isSl_own ho1; obtain ⟨a11, n11, c11, rfl, _⟩ := id hs1)
      | (go_at_call 17; (with_reducible refine (hV _ (keepQ (by assumption))).mono ?_); rintro e wV ⟨v2, rfl, ho2, hb⟩; have hs2 := isSl_own ho2; obtain ⟨a12, n12, c12, rfl, _⟩ := id hs2; have hs1 := isSl_below hs1 hb)
      | (go_at_call 15; (with_reducible refine (hT _).mono ?_); rintro e wT ⟨v3, rfl, ho3, hb⟩; have hs3 := isSl_own ho3; obtain ⟨a13, n13, c13, rfl, _⟩ := id hs3; have hs1 := isSl_below hs1 hb; have hs2 := isSl_below hs2 hb)
      | (go_at_call 19; (with_reducible refine (hY _).mono ?_); rintro e wY ⟨v4, rfl, ho4, hb⟩; have hs4 := isSl_own ho4; obtain ⟨a14, n14, c14, rfl, _⟩ := id hs4; have hs1 := isSl_below hs1 hb; have hs2 := isSl_below hs2 hb; have hs3 := isSl_below hs3 hb)
      | (go_at_call 13; (with_reducible refine (hL _).mono ?_); rintro e wL ⟨v5, rfl, ho5, hb⟩; have hAL := keepR hb (by assumption); have hSL : ((wL.cell? ⟨b, 0, none⟩ = some (.int .i64 k) ∧ wL.cell? ⟨b, 1, none⟩ = some (.int .i64 m)) ∧ (wL.cell? ⟨b, 2, none⟩ = some (.string s) ∧ wL.cell? ⟨b, 3, none⟩ = some (.slice va vl vc))) ∧ Below A.heap.size A wL := keepP (by assumption) hbl (got_under2 (keepQ (by assumption)) hb); have hs5 := isSl_own ho5; obtain ⟨a15, n15, c15, rfl, _⟩ := id hs5; have hs1 := isSl_below hs1 hb; have hs2 := isSl_below hs2 hb; have hs3 := isSl_below hs3 hb; have hs4 := isSl_below hs4 hb)
      | (go_at_call 37; (with_reducible refine (all_many wL 6 [(.slice a11 n11 c11, l1), (.slice a12 n12 c12, l2), (.slice a13 n13 c13, l3), (.slice a14 n14 c14, [(q : Int)]), (.slice a15 n15 c15, l5), (.slice a4 len4 cap4, y)] (List.forall_mem_cons.2 ⟨hs1, List.forall_mem_cons.2 ⟨hs2, List.forall_mem_cons.2 ⟨hs3, List.forall_mem_cons.2 ⟨hs4, List.forall_mem_cons.2 ⟨hs5, List.forall_mem_cons.2 ⟨isSl_row (hHYA.out _ hAL), by simp⟩⟩⟩⟩⟩⟩) rfl (by omega) (by simp [hl1, hl3, hl5]; omega) #[.slice a11 n11 c11, .slice a12 n12 c12, .slice a13 n13 c13, .slice a14 n14 c14, .slice a15 n15 c15, .slice a4 len4 cap4] rfl).mono ?_); rintro e wR ⟨v6, rfl, ho6, hb⟩; obtain ⟨a16, n16, c16, rfl, hr6⟩ := isSl_own ho6; rw [hflat] at hr6; have hRead := rdRead_any a16 n16 c16 _ wR hr6 HBT.out (by rw [← hr6.1]; simp [hl1, hl3, hl5, hly]; omega))
      | (go_at_call 28; (with_reducible refine hRead.mono ?_); rintro e wX ⟨p, rfl, hp, hRX, hb⟩; have hpA := Nat.le_trans (Below.size (keepQ (W := wR) (by assumption))) hp))
    all_goals (
      have hSX : ((wX.cell? ⟨b, 0, none⟩ = some (.int .i64 k) ∧ wX.cell? ⟨b, 1, none⟩ = some (.int .i64 m)) ∧ (wX.cell? ⟨b, 2, none⟩ = some (.string s) ∧ wX.cell? ⟨b, 3, none⟩ = some (.slice va vl vc))) ∧ Below A.heap.size A wX := by assumption
      obtain ⟨⟨⟨x0, x1⟩, x2, x3⟩, hAX⟩ := hSX
      have hRX' := rd_below hRX (below_drew' wX)
      have hNum6 := rdNum_any p _ _ hRX'
      rw [r1] at hNum6
      have HR1 := Lib.hid hrv; have HR3 := Lib.hid r3; have HR5 := Lib.hid r5
      have hqn : (((q : Int).toNat : Nat) : Int) = (q : Int) := by omega
      have hqq : ((q : Int) == (q : Int)) = true := by simp
      have hll : ((Bn.lf (some y)).length : Int) = (len4 : Int) := by simp only [Bn.lf]; rw [hly]
      have HLL := Lib.hid hll; have HQN := Lib.hid hqn
      have HA0 := hA0'
      rename_i hSS
      clear hSS hll hqn hRX' hRX hrv r1 r3 r5 p0 p1 p2 p3 hAC hflat hV hHYA hN hT hY hL hs1 hs2 hs3 hs4 hs5 ho1 ho2 ho3 ho4 ho5 ho6 hr6 hRead hSL hAL hb hp
      go_wp2_with fail
      go_region_held3 (fun W => ((W.cell? ⟨b, 0, none⟩ = some (.int .i64 k) ∧ W.cell? ⟨b, 1, none⟩ = some (.int .i64 m)) ∧ (W.cell? ⟨b, 2, none⟩ = some (.string s) ∧ W.cell? ⟨b, 3, none⟩ = some (.slice va vl vc))) ∧ Below A.heap.size A W)
        (first | assumption | exact keepP (by assumption) hbl hb | exact keepP ⟨⟨⟨x0, x1⟩, x2, x3⟩, hAX⟩ hbl (below_drew2 _ _)) (first
        | (go_at_call 24; (with_reducible refine hNum6.mono ?_); rintro e w1 ⟨rfl, hR1, hg⟩; have hb := below_p hg hpA (keepQ (by assumption)).size; have hVal := rdValue_any p _ w1 hR1; rw [HR1.out] at hVal)
        | (go_at_call 27; (with_reducible refine hVal.mono ?_); rintro e w2 ⟨x, rfl, hF, hR2, hg⟩; obtain ⟨y0, y1, y2, y3, y4, y5, rfl⟩ := is_form (fresh_is hF); have hb := below_p hg hpA (keepQ (W := w1) (by assumption)).size; have hSm := refSame_any t3 t3 w2 _ _ (fresh_is hF) (HI.out w2 ((keepQ (W := w1) (by assumption)).trans hb)); rw [(same_bool t3 t3).2 rfl] at hSm)
        | (go_at_call 33; (with_reducible refine hSm.mono ?_); rintro e w3 ⟨rfl, hb0⟩; have hb := hb0.mono (keepQ (W := w2) (by assumption)).size; have hR3 := rd_below hR2 hb0; have hTx := rdText_any p _ w3 hR3; rw [HR3.out] at hTx)
        | (go_at_call 26; (with_reducible refine hTx.mono ?_); rintro e w4 ⟨rfl, hR4, hg⟩; have hb := below_p hg hpA (keepQ (W := w3) (by assumption)).size; have hBt := rdByte_any p _ w4 hR4; rw [rByte_cons] at hBt; dsimp only at hBt; rw [HQN.out] at hBt)
        | (go_at_call 23; (with_reducible refine hBt.mono ?_); rintro e w5 ⟨rfl, hR5, hg⟩; have hb := below_p hg hpA (keepQ (W := w4) (by assumption)).size; have hLo := rdLong_any p _ w5 hR5; rw [HR5.out] at hLo)
        | (go_at_call 25; (with_reducible refine hLo.mono ?_); rintro e w6 ⟨rfl, hR6, hg⟩; have hb := below_p hg hpA (keepQ (W := w5) (by assumption)).size; have hLe : Calls Try.prog 22 #[.pointer (some ⟨p, 0, none⟩)] w6 (fun e w' => e = .returned (.int .i64 (len4 : Int)) ∧ w6 = w') := (by have h := rdLeft_any p _ w6 hR6; rw [HLL.out] at h; exact h); have hBa : Calls Try.prog 20 #[.pointer (some ⟨p, 0, none⟩)] w6 (fun e w' => e = .returned (.bool false) ∧ w6 = w') := rdBad_any p _ w6 hR6)
        | (go_at_call 22; (with_reducible refine hLe.mono ?_); rintro e w' ⟨rfl, rfl⟩)
        | (go_at_call 20; (with_reducible refine hBa.mono ?_); rintro e w' ⟨rfl, rfl⟩))
      all_goals (
        go_wp2_with fail
        go_ret
        exact ⟨rfl, by have h := HA0.out.trans ((keepQ (W := w6) (by assumption)).mono (Nat.le_of_lt hbl)); rw [← HBQ.out] at h; exact h⟩))
  · have hval : valB t3 = [] := by unfold valB; rw [if_neg hr]
    rw [hval] at hV
    clear hy hby w3 hg hval hr
    go_enter Try.func5, Try.ntmps5
    go_wp2_with (first
      | (go_at_call 8; (with_reducible refine (hal _).mono ?_); rintro e wA ⟨rfl, hA⟩; obtain ⟨e0, e1, e2, e3⟩ := box_cells hA)
      | (go_at_call 9; (with_reducible refine (hG _ hA).mono ?_); rintro e wB ⟨rfl, hB⟩; have hAB := hA.trans (hB.mono hA.size); obtain ⟨f0, f1, f2, f3⟩ := box_cells hAB)
      | (go_at_call 17; (with_reducible refine (hV _ hAB).mono ?_); rintro e wC ⟨v, rfl, ho, hC⟩; obtain ⟨av, cv, rfl, _⟩ := got_row (n := 0) ho rfl))
    go_ret
    exact ⟨rfl, hA0.trans ((hAB.trans (hC.mono hAB.size)).mono hA0.size)⟩
end Go.Proofs.Ytihpalbmkcoalaa.binBackWalk
