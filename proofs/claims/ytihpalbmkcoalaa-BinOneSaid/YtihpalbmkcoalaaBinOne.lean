/- The walk of BinOne: two right values have the same bytes just if they are the same, and no value's bytes begin another one's. -/
import Derived.Test.YtihpalbmkcoalaaBinAlive
import Derived.Test.YtihpalbmkcoalaaValGreat
import Derived.Test.YtihpalbmkcoalaaValOrder
import Derived.Deep.RegionHeld3
namespace Go.Proofs.Ytihpalbmkcoalaa.binOneWalk
open Go.RowKit Go.Shelf
attribute [local go_sem] Oper.semAt_some
theorem bput_bd : ∀ v : PV, okV v = true → ∀ x ∈ putV v, 0 ≤ x ∧ x ≤ 255 := by
  intro v
  induction v using pv_ind with
  | h k n s l ih =>
    intro h x hx
    obtain ⟨⟨hk0, hk5⟩, hn1, _, _, _, hol, _, _⟩ := ok_parts h
    have hL : ∀ l : List PV, (∀ y ∈ l, okV y = true → ∀ x ∈ putV y, 0 ≤ x ∧ x ≤ 255) → (∀ y ∈ l, okV y = true) → ∀ x ∈ putL l, 0 ≤ x ∧ x ≤ 255 := by
      intro l
      induction l with
      | nil => intro _ _ x hx; simp [putL] at hx
      | cons y r ih2 =>
        intro h1 h2 x hx
        simp only [putL, List.mem_append] at hx
        rcases hx with hx | hx
        · exact h1 y (by simp) (h2 y (by simp)) x hx
        · exact ih2 (fun y hy => h1 y (by simp [hy])) (fun y hy => h2 y (by simp [hy])) x hx
    simp only [putV, List.mem_cons] at hx
    rcases hx with rfl | hx
    · omega
    · split at hx
      · rename_i h1; have := hn1 h1; simp at hx; omega
      · split at hx
        · exact Bn.spl_bd _ _ x hx
        · split at hx
          · rcases List.mem_append.1 hx with hx | hx
            · exact Bn.spl_bd _ _ x hx
            · exact bytes_all (strB_bytes s) x hx
          · split at hx
            · rcases List.mem_append.1 hx with hx | hx
              · exact Bn.spl_bd _ _ x hx
              · exact hL l ih (okL_mem hol) x hx
            · simp at hx
theorem put_inj {a b : PV} (ha : rightV a = true) (hb : rightV b = true) (na : numsV a) (nb : numsV b) : putV a = putV b ↔ a = b := by
  constructor
  · intro h
    have h1 := rValue_put a ha na []
    have h2 := rValue_put b hb nb []
    rw [h] at h1
    rw [h1] at h2
    exact congrArg Prod.fst h2
  · intro h; rw [h]
theorem bd_num (n : Nat) (s : Bn.St) (h : ∀ x ∈ Bn.lf s, 0 ≤ x ∧ x ≤ 255) : ∀ x ∈ Bn.lf (Bn.num n s).2, 0 ≤ x ∧ x ≤ 255 := by
  cases s with
  | none => simp [Bn.num, Bn.lf]
  | some l =>
    simp only [Bn.num]
    split
    · intro x hx; exact h x (List.mem_of_mem_drop hx)
    · simp [Bn.lf]
theorem bd_rNum (s : Bn.St) (h : ∀ x ∈ Bn.lf s, 0 ≤ x ∧ x ≤ 255) : ∀ x ∈ Bn.lf (Bn.rNum s).2, 0 ≤ x ∧ x ≤ 255 := by
  unfold Bn.rNum
  split
  · simp [Bn.lf]
  · exact bd_num 4 s h
theorem bd_rText (s : Bn.St) (h : ∀ x ∈ Bn.lf s, 0 ≤ x ∧ x ≤ 255) : ∀ x ∈ Bn.lf (Bn.rText s).2, 0 ≤ x ∧ x ≤ 255 := by
  have h1 := bd_rNum s h
  unfold Bn.rText
  cases hs : (Bn.rNum s).2 with
  | none => simp [Bn.txt, Bn.lf]
  | some l =>
    rw [hs] at h1
    simp only [Bn.txt]
    split
    · intro x hx; exact h1 x (List.mem_of_mem_drop hx)
    · simp [Bn.lf]
def Ok (r : PV × Bn.St) : Prop := numsV r.1 ∧ ∀ x ∈ Bn.lf r.2, 0 ≤ x ∧ x ≤ 255
theorem flat_nums (k n : Int) (s : ByteArray) (hn : I64 n) : numsV (.mk k n s []) := by unfold numsV numsV.numsL; exact ⟨hn, trivial⟩
theorem numsL_snoc {l : List PV} {v : PV} (h : numsV.numsL l) (hv : numsV v) : numsV.numsL (l ++ [v]) := by
  induction l with
  | nil => simp only [List.nil_append]; unfold numsV.numsL numsV.numsL; exact ⟨hv, trivial⟩
  | cons x r ih =>
    unfold numsV.numsL at h
    simp only [List.cons_append]
    unfold numsV.numsL
    exact ⟨h.1, ih h.2⟩
theorem rep_nums (g : Bn.St → PV × Bn.St) (hg : ∀ s, (∀ x ∈ Bn.lf s, 0 ≤ x ∧ x ≤ 255) → Ok (g s)) (n : Nat) (s : Bn.St) (hs : ∀ x ∈ Bn.lf s, 0 ≤ x ∧ x ≤ 255) : numsV.numsL (Bn.rep g n s).1 ∧ ∀ x ∈ Bn.lf (Bn.rep g n s).2, 0 ≤ x ∧ x ≤ 255 := by
  induction n with
  | zero => exact ⟨by unfold Bn.rep numsV.numsL; trivial, hs⟩
  | succ n ih =>
    have h := hg _ ih.2
    exact ⟨numsL_snoc ih.1 h.1, h.2⟩
theorem node_nums (lst : Nat → Bn.St → List PV × Bn.St) (hL : ∀ n s, (∀ x ∈ Bn.lf s, 0 ≤ x ∧ x ≤ 255) → numsV.numsL (lst n s).1 ∧ ∀ x ∈ Bn.lf (lst n s).2, 0 ≤ x ∧ x ≤ 255) (s : Bn.St) (hs : ∀ x ∈ Bn.lf s, 0 ≤ x ∧ x ≤ 255) : Ok (Bn.node lst s) := by
  have h1 := bd_num 1 s hs
  have h2 := Bn.num_lt 1 (Bn.rByte s).2 h1
  have h3 := bd_num 1 (Bn.rByte s).2 h1
  unfold Bn.node
  split
  · exact ⟨flat_nums _ _ _ (by have h4 : (Bn.rByte (Bn.rByte s).2).1 < 256 := h2; unfold I64; omega), h3⟩
  · split
    · exact ⟨flat_nums _ _ _ (rLong_bd _), bd_num 8 _ h1⟩
    · split
      · exact ⟨flat_nums _ _ _ ⟨by omega, by omega⟩, bd_rText _ h1⟩
      · split
        · have h := hL (Bn.rNum (Bn.rByte s).2).1 _ (bd_rNum _ h1)
          refine ⟨?_, h.2⟩
          unfold numsV
          exact ⟨⟨by omega, by omega⟩, h.1⟩
        · exact ⟨flat_nums _ _ _ ⟨by omega, by omega⟩, h1⟩
theorem get_ok (d : Nat) : ∀ s, (∀ x ∈ Bn.lf s, 0 ≤ x ∧ x ≤ 255) → Ok (Bn.get d s) := by
  induction d with
  | zero => intro s hs; exact node_nums (Bn.lst none) (fun n s _ => ⟨by unfold Bn.lst numsV.numsL; trivial, by simp [Bn.lst, Bn.lf]⟩) s hs
  | succ d ih =>
    intro s hs
    refine node_nums (Bn.lst (some (Bn.get d))) (fun n s hs => ?_) s hs
    simp only [Bn.lst]
    split
    · exact ⟨by unfold numsV.numsL; trivial, by simp [Bn.lf]⟩
    · exact rep_nums (Bn.get d) ih n s hs
theorem get_nums (d : Nat) (l : List Int) (v : PV) (r : List Int) (hl : ∀ x ∈ l, 0 ≤ x ∧ x ≤ 255) (h : Bn.get d (some l) = (v, some r)) : numsV v := by
  have := (get_ok d (some l) hl).1
  rwa [h] at this
/-- a beginning of a value's bytes is none's -/
theorem cut_bad {a : PV} (ha : rightV a = true) (na : numsV a) {k : Nat} (hk : k < (putV a).length) (hbd : ∀ x ∈ putV a, 0 ≤ x ∧ x ≤ 255) :
    (rValue (some ((putV a).take k))).2 = none := by
  unfold rValue
  obtain ⟨v, s1, hv⟩ : ∃ v s1, Bn.get 4 (some ((putV a).take k)) = (v, s1) := ⟨_, _, rfl⟩
  rw [hv]
  cases s1 with
  | none => rfl
  | some r =>
    simp only [rFin]
    split
    · rename_i hr
      exfalso
      have hb' : ∀ x ∈ (putV a).take k, 0 ≤ x ∧ x ≤ 255 := fun x hx => hbd x (List.mem_of_mem_take hx)
      have h1 := get_inv 4 _ v r hb' hv
      have hn := get_nums 4 _ v r hb' hv
      have h2 : putV a = putV v ++ (r ++ (putV a).drop k) := by
        conv => lhs; rw [← List.take_append_drop k (putV a), h1]
        rw [List.append_assoc]
      have h3 := rValue_put v hr hn (r ++ (putV a).drop k)
      rw [← h2] at h3
      have h4 := rValue_put a ha na []
      rw [List.append_nil, h3] at h4
      have h5 := congrArg Prod.snd h4
      simp only [Option.some.injEq, List.append_eq_nil_iff] at h5
      have h6 := congrArg List.length h5.2
      simp at h6
      omega
    · rfl
/-- no value's bytes begin another one's -/
theorem begin_not {a b : PV} (ha : rightV a = true) (hb : rightV b = true) (na : numsV a) (nb : numsV b) (hl : (putV b).length < (putV a).length) : (putV a).take (putV b).length ≠ putV b := by
  intro h
  have h2 : putV a = putV b ++ (putV a).drop (putV b).length := by
    conv => lhs; rw [← List.take_append_drop (putV b).length (putV a), h]
  have h3 := rValue_put b hb nb ((putV a).drop (putV b).length)
  rw [← h2] at h3
  have h4 := rValue_put a ha na []
  rw [List.append_nil, h3] at h4
  have h5 := congrArg Prod.snd h4
  simp only [Option.some.injEq] at h5
  have h6 := congrArg List.length h5
  simp at h6
  omega
/-- two boxes, and all below as it was -/
theorem keep2 {b d : Nat} {c0 c1 c2 c3 d0 d1 d2 d3 : Value} {A W W' : World} (h : (((W.cell? ⟨b, 0, none⟩ = some c0 ∧ W.cell? ⟨b, 1, none⟩ = some c1) ∧ (W.cell? ⟨b, 2, none⟩ = some c2 ∧ W.cell? ⟨b, 3, none⟩ = some c3)) ∧ ((W.cell? ⟨d, 0, none⟩ = some d0 ∧ W.cell? ⟨d, 1, none⟩ = some d1) ∧ (W.cell? ⟨d, 2, none⟩ = some d2 ∧ W.cell? ⟨d, 3, none⟩ = some d3))) ∧ Below A.heap.size A W) (hb : Below W.heap.size W W') :
    (((W'.cell? ⟨b, 0, none⟩ = some c0 ∧ W'.cell? ⟨b, 1, none⟩ = some c1) ∧ (W'.cell? ⟨b, 2, none⟩ = some c2 ∧ W'.cell? ⟨b, 3, none⟩ = some c3)) ∧ ((W'.cell? ⟨d, 0, none⟩ = some d0 ∧ W'.cell? ⟨d, 1, none⟩ = some d1) ∧ (W'.cell? ⟨d, 2, none⟩ = some d2 ∧ W'.cell? ⟨d, 3, none⟩ = some d3))) ∧ Below A.heap.size A W' :=
  ⟨⟨⟨⟨cell_below hb h.1.1.1.1, cell_below hb h.1.1.1.2⟩, cell_below hb h.1.1.2.1, cell_below hb h.1.1.2.2⟩, ⟨cell_below hb h.1.2.1.1, cell_below hb h.1.2.1.2⟩, cell_below hb h.1.2.2.1, cell_below hb h.1.2.2.2⟩, h.2.trans (hb.mono h.2.size)⟩
theorem keep2Q {b d : Nat} {c0 c1 c2 c3 d0 d1 d2 d3 : Value} {A W : World} (h : (((W.cell? ⟨b, 0, none⟩ = some c0 ∧ W.cell? ⟨b, 1, none⟩ = some c1) ∧ (W.cell? ⟨b, 2, none⟩ = some c2 ∧ W.cell? ⟨b, 3, none⟩ = some c3)) ∧ ((W.cell? ⟨d, 0, none⟩ = some d0 ∧ W.cell? ⟨d, 1, none⟩ = some d1) ∧ (W.cell? ⟨d, 2, none⟩ = some d2 ∧ W.cell? ⟨d, 3, none⟩ = some d3))) ∧ Below A.heap.size A W) : Below A.heap.size A W := h.2
set_option maxRecDepth 100000 in
set_option maxHeartbeats 8000000 in
theorem walk (t0 : PV) (v0 : Value) (t1 : PV) (v1 : Value) (a2 : Int) (w : World) (w0 : Is w t0 v0) (w1 : Is w t1 v1) (w2 : (Lit.int .u8 a2).wf = true) :
    Calls Try.prog 6 #[v0, v1, .int .u8 a2] w fun e w' => e = .returned (.bool true) ∧ Below w.heap.size w w' := by
  have hal := fun W => alive_any W
  have h2 := wf_u8 w2
  have na := nums_is t0 v0 w0
  have nb := nums_is t1 v1 w1
  obtain ⟨k0, m0, s0, e0, l0, p0, rfl⟩ := is_form w0
  obtain ⟨k1, m1, s1, e1, l1, p1, rfl⟩ := is_form w1
  have hA0 := (Below.refl _ w).alloc (Nat.le_refl _) (vobj k0 m0 s0 e0 l0 p0)
  have hA1 := hA0.alloc hA0.size (vobj k1 m1 s1 e1 l1 p1)
  have hbx := fun W hW => box2_cells (k := k0) (n := m0) (s := s0) (a := e0) (len := l0) (cap := p0) (k' := k1) (n' := m1) (s' := s1) (a' := e1) (len' := l1) (cap' := p1) (w := w) (W := W) hW
  have hAA : Below w.heap.size w ((w.alloc (vobj k0 m0 s0 e0 l0 p0)).alloc (vobj k1 m1 s1 e1 l1 p1)) := hA1
  have hi0 : ∀ W, Below ((w.alloc (vobj k0 m0 s0 e0 l0 p0)).alloc (vobj k1 m1 s1 e1 l1 p1)).heap.size ((w.alloc (vobj k0 m0 s0 e0 l0 p0)).alloc (vobj k1 m1 s1 e1 l1 p1)) W → Is W t0 (.agg #[.int .i64 k0, .int .i64 m0, .string s0, .slice e0 l0 p0]) := fun W hW => is_below hW _ _ (is_below hAA _ _ w0)
  have hi1 : ∀ W, Below ((w.alloc (vobj k0 m0 s0 e0 l0 p0)).alloc (vobj k1 m1 s1 e1 l1 p1)).heap.size ((w.alloc (vobj k0 m0 s0 e0 l0 p0)).alloc (vobj k1 m1 s1 e1 l1 p1)) W → Is W t1 (.agg #[.int .i64 k1, .int .i64 m1, .string s1, .slice e1 l1 p1]) := fun W hW => is_below hW _ _ (is_below hAA _ _ w1)
  have hga := fun W hW => great_any t0 W _ (hi0 W hW)
  have hgb := fun W hW => great_any t1 W _ (hi1 W hW)
  obtain ⟨ga, ega⟩ : ∃ g, greatV t0 = g := ⟨_, rfl⟩
  obtain ⟨gb, egb⟩ : ∃ g, greatV t1 = g := ⟨_, rfl⟩
  rw [ega] at hga
  rw [egb] at hgb
  have I0 := Lib.hid hi0; have I1 := Lib.hid hi1
  have HBX := Lib.hid hbx; have HAA := Lib.hid hAA
  clear hi0 hi1 w0 w1 hA0 hA1 hbx hAA ega egb w2
  cases ga with
  | true =>
    clear hgb
    go_enter Try.func6, Try.ntmps6
    go_wp2_with (first
      | (go_at_call 8; (with_reducible refine (hal _).mono ?_); rintro e wA ⟨rfl, hA⟩; obtain ⟨⟨x0, x1, x2, x3⟩, y0, y1, y2, y3⟩ := HBX.out _ hA)
      | (go_at_call 9; (with_reducible refine (hga _ hA).mono ?_); rintro e wB ⟨rfl, hB⟩))
    go_ret
    exact ⟨rfl, HAA.out.trans ((hA.trans (hB.mono hA.size)).mono HAA.out.size)⟩
  | false =>
  cases gb with
  | true =>
    go_enter Try.func6, Try.ntmps6
    go_wp2_with (first
      | (go_at_call 8; (with_reducible refine (hal _).mono ?_); rintro e wA ⟨rfl, hA⟩; obtain ⟨⟨x0, x1, x2, x3⟩, y0, y1, y2, y3⟩ := HBX.out _ hA)
      | (go_at_call 9; (first
        | ((with_reducible refine (hga _ hA).mono ?_); rintro e wB ⟨rfl, hB⟩; have hAB := hA.trans (hB.mono hA.size); clear x0 x1 x2 x3 y0 y1 y2 y3; obtain ⟨⟨x0, x1, x2, x3⟩, y0, y1, y2, y3⟩ := HBX.out _ hAB)
        | ((with_reducible refine (hgb _ hAB).mono ?_); rintro e wC ⟨rfl, hC⟩))))
    go_ret
    exact ⟨rfl, HAA.out.trans ((hAB.trans (hC.mono hAB.size)).mono HAA.out.size)⟩
  | false =>
  have hVa := fun W hW => bvalue_any t0 W _ (I0.out W hW)
  have hVb := fun W hW => bvalue_any t1 W _ (I1.out W hW)
  have hS := fun W hW => refSame_any t0 t1 W _ _ (I0.out W hW) (I1.out W hW)
  have ha1 : valB t0 ≠ [] → rightV t0 = true ∧ valB t0 = putV t0 := fun h => by
    unfold valB at h ⊢
    by_cases hr : rightV t0 = true
    · rw [if_pos hr]; exact ⟨hr, rfl⟩
    · rw [if_neg hr] at h; exact absurd rfl h
  have hb1 : valB t1 ≠ [] → rightV t1 = true ∧ valB t1 = putV t1 := fun h => by
    unfold valB at h ⊢
    by_cases hr : rightV t1 = true
    · rw [if_pos hr]; exact ⟨hr, rfl⟩
    · rw [if_neg hr] at h; exact absurd rfl h
  obtain ⟨px, epx⟩ : ∃ l, valB t0 = l := ⟨_, rfl⟩
  obtain ⟨py, epy⟩ : ∃ l, valB t1 = l := ⟨_, rfl⟩
  rw [epx] at hVa ha1
  rw [epy] at hVb hb1
  have HA1 := Lib.hid ha1; have HB1 := Lib.hid hb1; have HS := Lib.hid hS; have NA := Lib.hid na; have NB := Lib.hid nb
  clear epx epy ha1 hb1 hS na nb I0 I1
  go_enter Try.func6, Try.ntmps6
  go_upto_region 5 with (first
    | (go_at_call 8; (with_reducible refine (hal _).mono ?_); rintro e wA ⟨rfl, hA⟩; obtain ⟨⟨x0, x1, x2, x3⟩, y0, y1, y2, y3⟩ := HBX.out _ hA)
    | (go_at_call 9; (first
      | ((with_reducible refine (hga _ hA).mono ?_); rintro e wB ⟨rfl, hB⟩; have hAB := hA.trans (hB.mono hA.size); clear x0 x1 x2 x3 y0 y1 y2 y3; obtain ⟨⟨x0, x1, x2, x3⟩, y0, y1, y2, y3⟩ := HBX.out _ hAB)
      | ((with_reducible refine (hgb _ hAB).mono ?_); rintro e wC ⟨rfl, hC⟩))))
  have hAC := hAB.trans (hC.mono hAB.size)
  clear x0 x1 x2 x3 y0 y1 y2 y3
  obtain ⟨⟨x0, x1, x2, x3⟩, y0, y1, y2, y3⟩ := HBX.out _ hAC
  clear HBX hA hB hC hAB hal hga hgb
  generalize (w.alloc (vobj k0 m0 s0 e0 l0 p0)).alloc (vobj k1 m1 s1 e1 l1 p1) = A at *
  generalize hb0 : w.heap.size = b0 at *
  generalize hb1' : b0 + 1 = b1 at *
  have HB0 := Lib.hid hb0
  clear hb0 hb1'
  go_wp2_with fail
  go_region_held3 (fun W => (((W.cell? ⟨b0, 0, none⟩ = some (.int .i64 k0) ∧ W.cell? ⟨b0, 1, none⟩ = some (.int .i64 m0)) ∧ (W.cell? ⟨b0, 2, none⟩ = some (.string s0) ∧ W.cell? ⟨b0, 3, none⟩ = some (.slice e0 l0 p0))) ∧ ((W.cell? ⟨b1, 0, none⟩ = some (.int .i64 k1) ∧ W.cell? ⟨b1, 1, none⟩ = some (.int .i64 m1)) ∧ (W.cell? ⟨b1, 2, none⟩ = some (.string s1) ∧ W.cell? ⟨b1, 3, none⟩ = some (.slice e1 l1 p1)))) ∧ Below A.heap.size A W)
    (first | assumption | exact keep2 (by assumption) hb | exact keep2 ⟨⟨⟨⟨x0, x1⟩, x2, x3⟩, ⟨y0, y1⟩, y2, y3⟩, hAC⟩ (below_drew' _)) (first
    | (go_at_call 17; (first
      | ((with_reducible refine (hVa _ (keep2Q (by assumption))).mono ?_); rintro e wX ⟨vx, rfl, hox, hb⟩; obtain ⟨ax, cx, rfl, hrx⟩ := got_row hox rfl)
      | ((with_reducible refine (hVb _ (keep2Q (by assumption))).mono ?_); rintro e wY ⟨vy, rfl, hoy, hb⟩; obtain ⟨ay, cy, rfl, hry⟩ := got_row hoy rfl; have hrx := row_below hrx hb rfl))))
  have hSY : (((wY.cell? ⟨b0, 0, none⟩ = some (.int .i64 k0) ∧ wY.cell? ⟨b0, 1, none⟩ = some (.int .i64 m0)) ∧ (wY.cell? ⟨b0, 2, none⟩ = some (.string s0) ∧ wY.cell? ⟨b0, 3, none⟩ = some (.slice e0 l0 p0))) ∧ ((wY.cell? ⟨b1, 0, none⟩ = some (.int .i64 k1) ∧ wY.cell? ⟨b1, 1, none⟩ = some (.int .i64 m1)) ∧ (wY.cell? ⟨b1, 2, none⟩ = some (.string s1) ∧ wY.cell? ⟨b1, 3, none⟩ = some (.slice e1 l1 p1)))) ∧ Below A.heap.size A wY := by assumption
  rename_i hSS
  clear hSS x0 x1 x2 x3 y0 y1 y2 y3 hAC hVa hVb hox hoy hb
  obtain ⟨⟨⟨⟨x0, x1⟩, x2, x3⟩, ⟨y0, y1⟩, y2, y3⟩, hAY⟩ := hSY
  have hfin : ∀ W, Below wY.heap.size wY W → Below w.heap.size w W := fun W hW => by
    have h := HAA.out
    rw [← HB0.out] at h
    exact h.trans ((hAY.trans (hW.mono hAY.size)).mono h.size)
  have HFIN := Lib.hid hfin
  have hlx : px.length ≤ maxLen := Nat.le_trans hrx.2.1 hrx.2.2.1
  have hly : py.length ≤ maxLen := Nat.le_trans hry.2.1 hry.2.2.1
  unfold maxLen at hlx hly
  clear hfin HAA HB0
  by_cases hx : px = []
  · subst hx
    clear hrx hry HA1 HB1
    go_wp2_with fail
    go_ret
    exact ⟨rfl, HFIN.out _ (Below.refl _ _)⟩
  have dx : ((px.length : Int) == 0) = false := by
    cases px with
    | nil => exact absurd rfl hx
    | cons y l => simp; omega
  by_cases hy : py = []
  · subst hy
    clear hrx hry HA1 HB1 hx
    go_wp2_with fail
    go_ret
    exact ⟨rfl, HFIN.out _ (Below.refl _ _)⟩
  have dy : ((py.length : Int) == 0) = false := by
    cases py with
    | nil => exact absurd rfl hy
    | cons y l => simp; omega
  obtain ⟨rx, ex⟩ := HA1.out hx
  obtain ⟨ry, ey⟩ := HB1.out hy
  have hposx : 0 < px.length := by
    cases px with
    | nil => exact absurd rfl hx
    | cons y l => simp
  have hbx := bput_bd t0 (right_ok rx).1
  have hlx2 := bput_len t0 (right_ok rx).1
  have hszx := (right_ok rx).2.1
  have hinj := put_inj rx ry NA.out NB.out
  have hcut := fun (k : Nat) (hk : k < (putV t0).length) => cut_bad rx NA.out hk hbx
  have hbeg := fun h => begin_not rx ry NA.out NB.out h
  have hlenx : px.length ≤ 21000 := by rw [ex]; omega
  rw [← ex] at hbx hinj hcut hbeg
  rw [← ey] at hinj hbeg
  have hbool : (cmpV t0 t1 == 0) = decide (px = py) := by
    rw [Bool.eq_iff_iff, same_bool, decide_eq_true_iff, hinj]
  have hBy : ∀ W, Below wY.heap.size wY W → Calls Try.prog 10 #[.slice ax px.length cx, .slice ay py.length cy] W fun e w' => e = .returned (.bool (decide (px = py))) ∧ Below W.heap.size W w' := fun W hW => by
    refine (refBytes_any ax ay _ _ cx cy px py W (row_below hrx hW rfl) (row_below hry hW rfl)).mono ?_
    rintro e w' ⟨rfl, n, rfl⟩
    exact ⟨rfl, below_drewN' n⟩
  have hSm : ∀ W, Below wY.heap.size wY W → Calls Try.prog 33 #[.agg #[.int .i64 k0, .int .i64 m0, .string s0, .slice e0 l0 p0], .agg #[.int .i64 k1, .int .i64 m1, .string s1, .slice e1 l1 p1]] W fun e w' => e = .returned (.bool (decide (px = py))) ∧ Below W.heap.size W w' := fun W hW => by
    have h := HS.out W (hAY.trans (hW.mono hAY.size))
    rw [hbool] at h
    exact h
  obtain ⟨r, hr⟩ : ∃ r, decide (px = py) = r := ⟨_, rfl⟩
  rw [hr] at hBy hSm
  have hne : (r != r) = false := by simp
  obtain ⟨k, hk, hkl⟩ : ∃ k : Nat, (a2).tmod (px.length : Int) = (k : Int) ∧ k < px.length := by
    obtain ⟨n2, rfl⟩ := Int.eq_ofNat_of_zero_le h2.1
    exact ⟨n2 % px.length, by rw [Int.tmod_eq_emod_of_nonneg (by omega)]; omega, Nat.mod_lt _ hposx⟩
  have hw2 : IntKind.i64.wrap a2 = a2 := IntWalk.i64_in _ (by omega)
  have hc := hcut k hkl
  obtain ⟨ak, hsk, hrk⟩ := sub_high ax px.length cx k (by omega) hrx.2.1
  have hRead : ∀ W, Below wY.heap.size wY W → Calls Try.prog 28 #[.slice ak k cx] W fun e w' => ∃ p, e = .returned (.pointer (some ⟨p, 0, none⟩)) ∧ W.heap.size ≤ p ∧ RD w' p (some (px.take k)) ∧ Below W.heap.size W w' := fun W hW =>
    rdRead_any ak k cx (px.take k) W (hrk W px (row_below hrx hW rfl)) (fun i => by
      rw [List.getElem?_take]
      split
      · rcases Nat.lt_or_ge i px.length with h | h
        · rw [List.getElem?_eq_getElem h]; exact hbx _ (List.getElem_mem h)
        · rw [List.getElem?_eq_none h]; simp
      · simp) (by omega)
  have HBy := Lib.hid hBy; have HSm := Lib.hid hSm; have HRead := Lib.hid hRead
  have HRX := Lib.hid hrx; have HRY := Lib.hid hry; have HBEG := Lib.hid hbeg
  clear hx hy rx ry ex ey hbx hlx2 hszx hinj hcut hbeg hbool hBy hSm hr hrk hRead hrx hry HA1 HB1 HS NA NB
  go_wp2_with fail
  go_region_held3 (fun W => (((W.cell? ⟨b0, 0, none⟩ = some (.int .i64 k0) ∧ W.cell? ⟨b0, 1, none⟩ = some (.int .i64 m0)) ∧ (W.cell? ⟨b0, 2, none⟩ = some (.string s0) ∧ W.cell? ⟨b0, 3, none⟩ = some (.slice e0 l0 p0))) ∧ ((W.cell? ⟨b1, 0, none⟩ = some (.int .i64 k1) ∧ W.cell? ⟨b1, 1, none⟩ = some (.int .i64 m1)) ∧ (W.cell? ⟨b1, 2, none⟩ = some (.string s1) ∧ W.cell? ⟨b1, 3, none⟩ = some (.slice e1 l1 p1)))) ∧ Below wY.heap.size wY W)
    (first | assumption | exact keep2 (by assumption) hb | exact keep2 ⟨⟨⟨⟨x0, x1⟩, x2, x3⟩, ⟨y0, y1⟩, y2, y3⟩, Below.refl _ _⟩ (below_drew' _)) (first
    | (go_at_call 10; (with_reducible refine (HBy.out _ (keep2Q (by assumption))).mono ?_); rintro e w1 ⟨rfl, hb⟩)
    | (go_at_call 33; (with_reducible refine (HSm.out _ (keep2Q (by assumption))).mono ?_); rintro e w2 ⟨rfl, hb⟩))
  all_goals (
    have hb2 : Below wY.heap.size wY w2 := keep2Q (by assumption)
    rename_i hSS
    clear hSS x0 x1 x2 x3 y0 y1 y2 y3 hb
    by_cases hle : px.length ≤ py.length
    · have dle : decide (px.length ≤ py.length) = true := by simpa using hle
      go_wp2_with (first
        | (go_at_call 28; (with_reducible refine (HRead.out _ hb2).mono ?_); rintro e w3 ⟨p, rfl, hp, hR3, hb3⟩; have hVal := rdValue_any p _ w3 hR3)
        | (go_at_call 27; (with_reducible refine hVal.mono ?_); rintro e w4 ⟨x, rfl, hF, hR4, hg4⟩; rw [hc] at hR4; have hBa := rdBad_any p none w4 hR4)
        | (go_at_call 20; (with_reducible refine hBa.mono ?_); rintro e w' ⟨rfl, rfl⟩))
      go_ret
      exact ⟨rfl, HFIN.out _ ((hb2.trans (hb3.mono hb2.size)).trans (below_p hg4 (Nat.le_trans hb2.size hp) (Nat.le_trans hb2.size hb3.size)))⟩
    · have dle : decide (px.length ≤ py.length) = false := by simpa using hle
      obtain ⟨ay2, hsy, hry2⟩ := sub_high ax px.length cx py.length (by omega) HRX.out.2.1
      have hBy2 : ∀ W, Below wY.heap.size wY W → Calls Try.prog 10 #[.slice ay2 py.length cx, .slice ay py.length cy] W fun e w' => e = .returned (.bool false) ∧ Below W.heap.size W w' := fun W hW => by
        refine (refBytes_any ay2 ay _ _ cx cy (px.take py.length) py W (hry2 W px (row_below HRX.out hW rfl)) (row_below HRY.out hW rfl)).mono ?_
        rintro e w' ⟨rfl, n, rfl⟩
        exact ⟨ret_bool (decide_eq_false (HBEG.out (by omega))), below_drewN' n⟩
      have HBy2 := Lib.hid hBy2
      have hcx := HRX.out.2.1
      clear hBy2 hry2
      go_wp2_with (first
        | (go_at_call 28; (with_reducible refine (HRead.out _ hb2).mono ?_); rintro e w3 ⟨p, rfl, hp, hR3, hb3⟩; have hVal := rdValue_any p _ w3 hR3)
        | (go_at_call 27; (with_reducible refine hVal.mono ?_); rintro e w4 ⟨x, rfl, hF, hR4, hg4⟩; rw [hc] at hR4; have hBa := rdBad_any p none w4 hR4; have hb4 := (hb2.trans (hb3.mono hb2.size)).trans (below_p hg4 (Nat.le_trans hb2.size hp) (Nat.le_trans hb2.size hb3.size)))
        | (go_at_call 20; (with_reducible refine hBa.mono ?_); rintro e w' ⟨rfl, rfl⟩)
        | (go_at_call 10; (with_reducible refine (HBy2.out _ hb4).mono ?_); rintro e w5 ⟨rfl, hb5⟩))
      go_ret
      exact ⟨rfl, HFIN.out _ (hb4.trans (hb5.mono hb4.size))⟩)
end Go.Proofs.Ytihpalbmkcoalaa.binOneWalk
