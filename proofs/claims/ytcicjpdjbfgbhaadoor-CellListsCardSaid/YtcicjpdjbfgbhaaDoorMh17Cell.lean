/- Layer 15: what a value's thing tells. -/
import Derived.Test.YtcicjpdjbfgbhaaDoorMh15Cell
import Derived.Test.YtcicjpdjbfgbhaaDoorMh16Cell
import Derived.Test.YtcicjpdjbfgbhaaDoorMh8Cell
import Derived.RangeFuncBox
set_option linter.unusedVariables false
set_option linter.unusedSimpArgs false
set_option maxRecDepth 100000
namespace Go.Proofs.YtcicjpdjbfgbhaaDoor
open Go.RowKit Go.Shelf
/-- the program's two tables -/
def KindsAt (w : World) : Prop := w.cell? ⟨0, 0, none⟩ = some (.int .i64 0) ∧ w.cell? ⟨0, 1, none⟩ = some (.int .i64 1) ∧ w.cell? ⟨0, 2, none⟩ = some (.int .i64 2) ∧ w.cell? ⟨0, 3, none⟩ = some (.int .i64 0) ∧
  w.cell? ⟨0, 4, none⟩ = some (.int .i64 4) ∧ w.cell? ⟨0, 5, none⟩ = some (.int .i64 5) ∧ w.cell? ⟨0, 6, none⟩ = some (.int .i64 3)
def BareAt (w : World) : Prop := w.cell? ⟨1, 0, none⟩ = some (.int .i64 3) ∧ w.cell? ⟨1, 1, none⟩ = some (.int .i64 4)
theorem kinds_below {w w' : World} (h : KindsAt w) (hb : Below w.heap.size w w') : KindsAt w' :=
  ⟨cellJ_below hb h.1, cellJ_below hb h.2.1, cellJ_below hb h.2.2.1, cellJ_below hb h.2.2.2.1, cellJ_below hb h.2.2.2.2.1, cellJ_below hb h.2.2.2.2.2.1, cellJ_below hb h.2.2.2.2.2.2⟩
theorem bare_below {w w' : World} (h : BareAt w) (hb : Below w.heap.size w w') : BareAt w' := ⟨cellJ_below hb h.1, cellJ_below hb h.2⟩
theorem find_sym {s : ByteArray} {ok : Bool} {y : JV} (h : FindR 6 [symB] [.mk 4 0 s [] []] symB ok y) : ok = true ∧ y = .mk 4 0 s [] [] := by
  rcases h with ⟨h1, _, i, h2, _, h3⟩ | ⟨h1, _, h2⟩
  · have hi : i = 0 := by have := (List.getElem?_eq_some_iff.1 h2).1; simpa using this
    subst hi
    simp at h3
    exact ⟨h1, h3.symm⟩
  · exfalso
    rcases h2 with h2 | h2 | ⟨i, h2, _, h3⟩
    · exact h2 rfl
    · exact h2 symB (by simp) rfl
    · have hi : i = 0 := by have := (List.getElem?_eq_some_iff.1 h2).1; simpa using this
      subst hi
      simp at h3
set_option maxHeartbeats 4000000 in
/-- the name that a name's thing tells -/
theorem nameOf_any (s : ByteArray) (hs : nameB (strB s) = true) (w : World) (x : Value) (hi : IsJ w (.mk 6 0 ⟨#[]⟩ [symB] [.mk 4 0 s [] []]) x) : Calls Tryd.prog 44 #[x] w fun e w' => e = .returned (.tuple #[.string s, .bool true]) ∧ Below w.heap.size w w' := by
  have hF := fun W hi => find_any 6 0 ⟨#[]⟩ [symB] [.mk 4 0 s [] []] symB W x hi
  have hsz : s.size ≤ 40 := by simp [nameB] at hs; have := hs.1.1.2; rwa [strB_len] at this
  have hN := fun W => isName_any s W (by unfold maxLen; omega)
  rw [hs] at hN
  have hcl := fun W => clone_any s W (by omega)
  have hi2 := hi
  unfold IsJ at hi2
  obtain ⟨_, _, _, na, nc, a, cap, hx, _⟩ := hi2
  simp only [List.length_cons, List.length_nil, Nat.zero_add] at hx
  subst hx
  have hA1 := (Below.refl _ w).alloc (Nat.le_refl _) (.cells #[.int .i64 6, .int .i64 0, .string ⟨#[]⟩, .slice na 1 nc, .slice a 1 cap] 30)
  have hx1 := jat_alloc w #[.int .i64 6, .int .i64 0, .string ⟨#[]⟩, .slice na 1 nc, .slice a 1 cap]
  have HI := Lib.hid (isJ_below hA1 _ _ hi)
  have HF := Lib.hid hF
  clear hi hF
  go_enter Tryd.func44, Tryd.ntmps44
  go_wp2_with (first
    | (go_at_call 63; (with_reducible refine (HF.out _ HI.out).mono ?_); rintro e w2 ⟨Y, ok, y, rfl, hY, hF2, hb2⟩; obtain ⟨rfl, rfl⟩ := find_sym hF2; unfold IsJ at hY; obtain ⟨_, _, _, yna, ync, ya, ycap, hY9, _⟩ := hY; simp only [List.length_nil] at hY9; subst hY9; have hA2 := (Below.refl _ w2).alloc (Nat.le_refl _) (.cells #[.int .i64 4, .int .i64 0, .string s, .slice yna 0 ync, .slice ya 0 ycap] 30); have hx2 := jat_below hA2 (jat_below hb2 hx1); have hy2 := jat_alloc w2 #[.int .i64 4, .int .i64 0, .string s, .slice yna 0 ync, .slice ya 0 ycap]; obtain ⟨⟨x0, x1, x2, x3, x4⟩, -⟩ := jbox5 hx2; obtain ⟨⟨y0, y1, y2, y3, y4⟩, -⟩ := jbox5 hy2)
    | (go_at_call 37; (with_reducible refine (hN _).mono ?_); rintro e w3 ⟨rfl, rfl⟩)
    | (go_at_call 30; (with_reducible refine (hcl _).mono ?_); rintro e w4 ⟨rfl, hb4⟩))
  refine bodyPost_ret (results_tmp2 rfl _ _ _) rfl ?_
  exact ⟨rfl, (hA1.trans ((hb2.trans (hA2.mono hb2.size)).mono hA1.size)).trans (hb4.mono (by have := hA1.size; have := hb2.size; have := hA2.size; omega))⟩
/-- what the closure comes to -/
def ToC (v : PV) (W : World) (e : Ending) (w' : World) : Prop := ∃ k n s a len cap, e = .returned (.agg #[.int .i64 k, .int .i64 n, .string s, .slice a len cap]) ∧ Below W.heap.size W w' ∧ FreshC Is W.heap.size w' v (.agg #[.int .i64 k, .int .i64 n, .string s, .slice a len cap])
theorem set_same {W : World} {b : Nat} {t : TypeId} {v : Value} (h : Boxed W b t v) : Below W.heap.size W (W.setCell ⟨b, 0, none⟩ v) := by
  refine ⟨rfl, rfl, rfl, by simp, fun j _ => ?_⟩
  by_cases hj : j = b
  · subst hj
    exact (Boxed.set v h).trans h.symm
  · exact Below.heap_setCell _ _ _ j hj
theorem grow_vals {B : Nat} {W : World} {u : Value} {ys : List PV} (h : GRow Is 4 24 B W u ys) : ∃ a cap, u = .slice a ys.length cap ∧ ∀ W' : World, (∀ b, B ≤ b → b < W.heap.size → W'.heap[b]? = W.heap[b]?) → ys.length ≤ cap ∧ cap ≤ maxLen ∧ (ys = [] ∨ ∃ b off, a = some ⟨b, off, none⟩ ∧ IsL W' b ys off) := by
  obtain ⟨a, cap, he, _⟩ := grow_at h (fun _ _ _ => rfl)
  refine ⟨a, cap, he, fun W' hb => ?_⟩
  obtain ⟨a', cap', he', h1, h2, h3⟩ := grow_at h hb
  rw [he] at he'
  simp only [Value.slice.injEq, true_and] at he'
  obtain ⟨rfl, rfl⟩ := he'
  refine ⟨h1, h2, h3.imp id fun ⟨b, e, hc⟩ => ⟨b, 0, e, isL_of fun i y hy => ?_⟩⟩
  obtain ⟨ds, hd, hcells, hi⟩ := hc i y hy
  obtain ⟨d0, d1, d2, d3, rfl⟩ : ∃ d0 d1 d2 d3, ds = [d0, d1, d2, d3] := by
    match ds, hd with
    | [d0, d1, d2, d3], _ => exact ⟨d0, d1, d2, d3, rfl⟩
  rw [Nat.zero_add]
  exact ⟨d0, d1, d2, d3, ⟨hcells 0 _ rfl, hcells 1 _ rfl, hcells 2 _ rfl, hcells 3 _ rfl⟩, hi⟩
theorem row_freshV {B : Nat} {W : World} {k n : Int} {s : ByteArray} {a : Option Addr} {m c R : Nat} {ys : List PV} (h : GRow Is 4 24 R W (.slice a m c) ys) (hk : I64 k) (hn : I64 n) (hs : s.size ≤ maxLen) (hR : B ≤ R) :
    FreshC Is B W (.mk k n s ys) (.agg #[.int .i64 k, .int .i64 n, .string s, .slice a m c]) := fun W' hb => by
  obtain ⟨a', cap, e, hr⟩ := grow_vals h
  simp only [Value.slice.injEq] at e
  obtain ⟨rfl, rfl, rfl⟩ := e
  obtain ⟨h1, h2, h3⟩ := hr W' fun b b1 b2 => hb b (by omega) b2
  unfold Is
  exact ⟨hk, hn, hs, _, _, rfl, h1, h2, h3⟩
/-- behind the closure's beginning -/
theorem tcopyA {w w' : World} {c0 c1 c2 c3 c4 : Value} (hb : Below (((w.alloc (.cells #[c0, c1, c2, c3, c4] 30)).alloc (.cells vzero 24)).drew).heap.size
      (((w.alloc (.cells #[c0, c1, c2, c3, c4] 30)).alloc (.cells vzero 24)).drew) w') (cs : Array Value) :
    w.heap.size + 1 < w'.heap.size ∧ VAt (w'.alloc (.cells cs 24)) w'.heap.size cs ∧ VAt (w'.alloc (.cells cs 24)) (w.heap.size + 1) vzero ∧ JAt (w'.alloc (.cells cs 24)) w.heap.size #[c0, c1, c2, c3, c4] ∧
      Below w.heap.size w (w'.alloc (.cells cs 24)) := by
  have hB0 := ((Below.refl _ w).alloc (Nat.le_refl _) (Obj.cells #[c0, c1, c2, c3, c4] 30))
  have hB1 := (hB0.alloc hB0.size (Obj.cells vzero 24)).drew
  have hB := hB1.trans (hb.mono hB1.size)
  have hz := vat_below hb (vat_alloc_drew _ _)
  rw [World.size_alloc] at hz
  have hj := jat_below ((Below.refl _ w').alloc (Nat.le_refl _) (.cells cs 24)) (jat_below hb (show JAt (World.drew _) _ _ from jat_old (jat_alloc w #[c0, c1, c2, c3, c4]) _))
  refine ⟨?_, vat_alloc _ _, vat_below ((Below.refl _ w').alloc (Nat.le_refl _) _) hz, hj, hB.alloc hB.size _⟩
  have := hb.size
  simp at this
  omega
theorem vafter3 {w w' : World} {o1 o2 : Obj} {cs : Array Value} (hb : Below ((((w.alloc o1).alloc o2).alloc (.cells cs 24)).drew).heap.size ((((w.alloc o1).alloc o2).alloc (.cells cs 24)).drew) w') : VAt w' (w.heap.size + 1 + 1) cs := by
  have hq := vat_below hb (vat_alloc_drew _ _)
  rwa [World.size_alloc, World.size_alloc] at hq
theorem tcopyB {w w' : World} {c0 c1 c2 c3 c4 : Value} (hb : Below ((((w.alloc (.cells #[c0, c1, c2, c3, c4] 30)).alloc (.cells vzero 24)).alloc (.cells vzero 24)).drew).heap.size
      ((((w.alloc (.cells #[c0, c1, c2, c3, c4] 30)).alloc (.cells vzero 24)).alloc (.cells vzero 24)).drew) w') (d0 d1 d2 d3 : Value) (W : World)
    (hW : W = ((((w'.setCell ⟨w.heap.size + 1 + 1, 0, none⟩ d0).setCell ⟨w.heap.size + 1 + 1, 1, none⟩ d1).setCell ⟨w.heap.size + 1 + 1, 2, none⟩ d2).setCell ⟨w.heap.size + 1 + 1, 3, none⟩ d3)) :
    w.heap.size + 1 < w.heap.size + 1 + 1 ∧ VAt W (w.heap.size + 1 + 1) #[d0, d1, d2, d3] ∧ VAt W (w.heap.size + 1) vzero ∧ JAt W w.heap.size #[c0, c1, c2, c3, c4] ∧ Below w.heap.size w W := by
  subst hW
  have hB0 := ((Below.refl _ w).alloc (Nat.le_refl _) (Obj.cells #[c0, c1, c2, c3, c4] 30))
  have hB1 := (hB0.alloc hB0.size (Obj.cells vzero 24))
  have hB2 := (hB1.alloc hB1.size (Obj.cells vzero 24)).drew
  have hB := hB2.trans (hb.mono hB2.size)
  have hq := vafter3 hb
  have hz : VAt w' (w.heap.size + 1) vzero := by
    refine vat_below hb ?_
    have h := vat_below ((Below.refl _ _).alloc (Nat.le_refl _) (.cells vzero 24)) (vat_alloc (w.alloc (.cells #[c0, c1, c2, c3, c4] 30)) vzero)
    rw [World.size_alloc] at h
    exact h
  have hj : JAt w' w.heap.size #[c0, c1, c2, c3, c4] := jat_below hb (show JAt (World.drew _) _ _ from jat_old (jat_old (jat_alloc w #[c0, c1, c2, c3, c4]) _) _)
  have hj2 : ∀ (V : World) (i : Nat) (d : Value), JAt V w.heap.size #[c0, c1, c2, c3, c4] → JAt (V.setCell ⟨w.heap.size + 1 + 1, i, none⟩ d) w.heap.size #[c0, c1, c2, c3, c4] := fun V i d h => jat_other h (by omega) i d
  exact ⟨by omega, vat_set4 hq _ _ _ _, vat_other4 hz (by omega) _ _ _ _ _ _ _ _, hj2 _ _ _ (hj2 _ _ _ (hj2 _ _ _ (hj2 _ _ _ hj))), below_set4 hB (by omega) _ _ _ _ _ _ _ _⟩
theorem okL_mem {l : List PV} (h : okL l = true) : ∀ x ∈ l, okV x = true := by
  induction l with
  | nil => intro x hx; simp at hx
  | cons y r ih =>
    simp only [okL, Bool.and_eq_true] at h
    intro x hx
    rcases List.mem_cons.1 hx with rfl | hx
    · exact h.1
    · exact ih h.2 x hx
theorem jtake_stepV (l : List PV) (q : Nat) (y : PV) (h : l[q]? = some y) : l.take (q + 1) = l.take q ++ [y] := by rw [List.take_add_one, h]; rfl
theorem val_size15 : (Tryd.prog.info? 24).map (·.size) = some 4 := by kernel_rfl
set_option maxHeartbeats 8000000 in
theorem told1_any (po pf : Nat) (v : PV) : okV v = true → small v → ∀ W x, KindsAt W → Boxed W po 4 (.bool true) → Boxed W pf 68 (.func (.func 43) #[] #[.pointer (some ⟨po, 0, none⟩), .pointer (some ⟨pf, 0, none⟩)]) → IsJ W (jOf v) x →
    Calls Tryd.prog 43 #[x, .pointer (some ⟨po, 0, none⟩), .pointer (some ⟨pf, 0, none⟩)] W (ToC v W) := by
  induction v using pv_ind with
  | h k n s l ih =>
    intro ho hsm W x hK hbo hbf hi
    by_cases hk : k = 3
    · subst hk
      rw [okV3] at ho; simp only [Bool.and_eq_true, beq_iff_eq] at ho
      obtain ⟨⟨rfl, hnm⟩, h3⟩ := ho
      obtain rfl := List.isEmpty_iff.1 h3
      rw [jOf3] at hi
      have hno := fun V hi => nameOf_any s hnm V x hi
      have hI := fun V (hb : Below W.heap.size W V) => isJ_below hb _ _ hi
      have hss : s.size ≤ maxLen := by unfold small at hsm; unfold maxLen; omega
      unfold IsJ at hi
      obtain ⟨_, _, _, na, nc, a, cap, hx, _⟩ := hi
      simp only [List.length_cons, List.length_nil, Nat.zero_add] at hx
      subst hx
      have hcl := fun w => clone_any ⟨#[]⟩ w (by decide)
      have HI := Lib.hid hI; have HNO := Lib.hid hno; have HBO := Lib.hid hbo
      clear hI hno hsm ih h3 hnm
      have hA1 := (Below.refl _ W).alloc (Nat.le_refl _) (.cells #[.int .i64 6, .int .i64 0, .string ⟨#[]⟩, .slice na 1 nc, .slice a 1 cap] 30)
      have hA2 := hA1.alloc hA1.size (.cells vzero 24)
      have kc := (kinds_below (kinds_below hK hA1) ((Below.refl _ _).alloc (Nat.le_refl _) (.cells vzero 24))).2.2.2.2.2.2
      go_enter Tryd.func43, Tryd.ntmps43
      go_upto_region 1 with fail
      go_cut [5] (fun s5 V => ∃ b5, s5 = .pointer (some ⟨b5, 0, none⟩) ∧ W.heap.size + 1 < b5 ∧ VAt V b5 #[.int .i64 3, .int .i64 0, .string ⟨#[]⟩, .slice none 0 0] ∧ VAt V (W.heap.size + 1) vzero ∧ JAt V W.heap.size #[.int .i64 6, .int .i64 0, .string ⟨#[]⟩, .slice na 1 nc, .slice a 1 cap] ∧ Below W.heap.size W V)
      case first =>
        go_region_held3 (fun V => (V.cell? ⟨W.heap.size, 0, none⟩ = some (.int .i64 6) ∧ V.cell? ⟨0, 6, none⟩ = some (.int .i64 3)) ∧ V.cell? ⟨W.heap.size, 1, none⟩ = some (.int .i64 0) ∧ V.cell? ⟨W.heap.size, 2, none⟩ = some (.string ⟨#[]⟩)) (first | ((try dsimp only); refine ⟨⟨?_, ?_⟩, ?_, ?_⟩ <;> first | (with_reducible refine cell_set4 ?_ (by first | (simp; done) | (simp; omega)); go_keep) | (go_keep; done) | (with_reducible refine cell_below hb ?_; go_keep) | (with_reducible refine cell_alloc ?_; go_keep) | (with_reducible refine cell_alloc (cell_below hb ?_); go_keep))) (first
            | (go_at_call 30; (with_reducible refine (hcl _).mono ?_); rintro e w' ⟨rfl, hb⟩; first | (with_reducible have hq := vafter3 hb; obtain ⟨⟨q0, q1, q2, q3⟩, f0, f1, f2, f3⟩ := box4 hq) | skip))
        all_goals (go_wp2_with fail; go_meet)
        all_goals (first
          | exact ⟨_, rfl, tcopyA hb _⟩
          | exact ⟨_, rfl, tcopyB hb _ _ _ _ _ rfl⟩)
      case rest =>
        obtain ⟨b5, rfl, hb5, hv5, hres, hj, hB⟩ := hcut
        obtain ⟨⟨j0, j1, j2, j3, j4⟩, -⟩ := jbox5 hj
        have hI3 := HI.out wc hB
        have hpo := HBO.out.lt
        clear kc hA1 hA2
        go_wp2_with (go_at_call 44; (with_reducible refine (HNO.out _ hI3).mono ?_); rintro e w2 ⟨rfl, hb2⟩; have hv6 := vat_below hb2 hv5; have hr6 := vat_below hb2 hres; obtain ⟨⟨y0, y1, y2, y3⟩, f0, f1, f2, f3⟩ := box4 hv6; have hO := hB.trans (hb2.mono hB.size); have ho6 : Boxed w2 po _ _ := (hO.block po hpo).trans HBO.out; have o1 := ho6.cell; have o2 := ho6.frozen; have hv7 : VAt (w2.setCell ⟨b5, 2, none⟩ (.string s)) b5 #[.int .i64 3, .int .i64 0, .string s, .slice none 0 0] := vat_set hv6 2 _; have ho7 : Boxed (w2.setCell ⟨b5, 2, none⟩ (.string s)) po _ _ := (Below.heap_setCell w2 ⟨b5, 2, none⟩ (.string s) po (show po ≠ b5 by omega)).trans ho6; have o3 := ho7.cell; have o4 := ho7.frozen; have hv8 : VAt ((w2.setCell ⟨b5, 2, none⟩ (.string s)).setCell ⟨po, 0, none⟩ (.bool true)) b5 _ := vat_other hv7 (show b5 ≠ po by omega) 0 _; have hr7 : VAt (w2.setCell ⟨b5, 2, none⟩ (.string s)) (W.heap.size + 1) _ := vat_other hr6 (show W.heap.size + 1 ≠ b5 by omega) 2 _; have hr8 : VAt ((w2.setCell ⟨b5, 2, none⟩ (.string s)).setCell ⟨po, 0, none⟩ (.bool true)) (W.heap.size + 1) _ := vat_other hr7 (show W.heap.size + 1 ≠ po by omega) 0 _; obtain ⟨⟨z0, z1, z2, z3⟩, -⟩ := box4 hv8; obtain ⟨⟨r0, r1, r2, r3⟩, t0, t1, t2, t3⟩ := box4 hr8)
        refine bodyPost_ret (results_cell_row Tryd.results43 _ _ (W.heap.size + 1) _ _ _ _ rfl (vat_set4 hr8 _ _ _ _) Tryd.underlying24 rfl val_size15) rfl ⟨_, _, _, _, _, _, rfl, below_set4 ?_ (by omega) _ _ _ _ _ _ _ _, ?_⟩
        · exact (hO.setCell (p := ⟨b5, 2, none⟩) (by show W.heap.size ≤ b5; omega) _).trans ((set_same ho7).mono (by have := hO.size; simp; omega))
        · exact fun W' _ => by
            unfold Is
            exact ⟨by unfold I64; omega, by unfold I64; omega, hss, none, 0, rfl, Nat.le_refl _, by unfold maxLen; omega, .inl rfl⟩
    · rw [jOfE _ _ _ _ hk] at hi
      obtain ⟨kk, rfl, hkk, kc0⟩ : ∃ kk : Nat, k = (kk : Int) ∧ kk < 6 ∧ ∀ V, KindsAt V → V.cell? ⟨0, kk, none⟩ = some (.int .i64 (kk : Int)) := by
        rcases okV_kind ho with rfl | rfl | rfl | rfl | rfl | rfl
        · exact ⟨0, rfl, by omega, fun V h => h.1⟩
        · exact ⟨1, rfl, by omega, fun V h => h.2.1⟩
        · exact ⟨2, rfl, by omega, fun V h => h.2.2.1⟩
        · exact absurd rfl hk
        · exact ⟨4, rfl, by omega, fun V h => h.2.2.2.2.1⟩
        · exact ⟨5, rfl, by omega, fun V h => h.2.2.2.2.2.1⟩
      have hoL : okL l = true := by
        rcases okV_kind ho with h | h | h | h | h | h <;> simp only [h] at ho
        · rw [okV0] at ho; simp only [Bool.and_eq_true] at ho; rw [List.isEmpty_iff.1 ho.2]; rfl
        · rw [okV1] at ho; simp only [Bool.and_eq_true] at ho; rw [List.isEmpty_iff.1 ho.2]; rfl
        · rw [okV2] at ho; simp only [Bool.and_eq_true] at ho; rw [List.isEmpty_iff.1 ho.2]; rfl
        · exact absurd h hk
        · rw [okV4] at ho; simp only [Bool.and_eq_true] at ho; rw [List.isEmpty_iff.1 ho.2]; rfl
        · rw [okV5] at ho; simp only [Bool.and_eq_true] at ho; exact ho.2
      have hoM := okL_mem hoL
      unfold small at hsm
      obtain ⟨hs, hl, hL⟩ := hsm
      unfold IsJ at hi
      obtain ⟨h1, h2, h3, na, nc, a, cap, hx, _, h4, h5, h6⟩ := hi
      rw [jOfL_eq] at hx h4 h6
      simp only [List.length_nil, List.length_map] at hx h4
      subst hx
      have hcl := fun w => clone_any s w hs
      have HIH := Lib.hid (fun x hx => ih x hx (hoM x hx) (small_mem hL x hx))
      have HBO := Lib.hid hbo; have HBF := Lib.hid hbf; have HK := Lib.hid hK
      have dk : ((kk : Int) == 6) = false := by rw [beq_eq_false_iff_ne]; omega
      clear ih hL ho hoL hoM
      have hA1 := (Below.refl _ W).alloc (Nat.le_refl _) (.cells #[.int .i64 (kk : Int), .int .i64 n, .string s, .slice na 0 nc, .slice a l.length cap] 30)
      have hA2 := hA1.alloc hA1.size (.cells vzero 24)
      have kc := kc0 _ (kinds_below (kinds_below hK hA1) ((Below.refl _ _).alloc (Nat.le_refl _) (.cells vzero 24)))
      have hkk7 : kk < 7 := by omega
      have hkk8 : (kk : Int) < 7 := by omega
      go_enter Tryd.func43, Tryd.ntmps43
      go_upto_region 1 with fail
      go_cut [5] (fun s5 V => ∃ b5, s5 = .pointer (some ⟨b5, 0, none⟩) ∧ W.heap.size + 1 < b5 ∧ VAt V b5 #[.int .i64 (kk : Int), .int .i64 n, .string s, .slice none 0 0] ∧ VAt V (W.heap.size + 1) vzero ∧ JAt V W.heap.size #[.int .i64 (kk : Int), .int .i64 n, .string s, .slice na 0 nc, .slice a l.length cap] ∧ Below W.heap.size W V)
      case first =>
        go_region_held3 (fun V => (V.cell? ⟨W.heap.size, 0, none⟩ = some (.int .i64 (kk : Int)) ∧ V.cell? ⟨0, kk, none⟩ = some (.int .i64 (kk : Int))) ∧ V.cell? ⟨W.heap.size, 1, none⟩ = some (.int .i64 n) ∧ V.cell? ⟨W.heap.size, 2, none⟩ = some (.string s)) (first | ((try dsimp only); refine ⟨⟨?_, ?_⟩, ?_, ?_⟩ <;> first | (with_reducible refine cell_set4 ?_ (by first | (simp; done) | (simp; omega)); go_keep) | (go_keep; done) | (with_reducible refine cell_below hb ?_; go_keep) | (with_reducible refine cell_alloc ?_; go_keep) | (with_reducible refine cell_alloc (cell_below hb ?_); go_keep))) (first
            | (go_at_call 30; (with_reducible refine (hcl _).mono ?_); rintro e w' ⟨rfl, hb⟩; first | (with_reducible have hq := vafter3 hb; obtain ⟨⟨q0, q1, q2, q3⟩, f0, f1, f2, f3⟩ := box4 hq) | skip))
        all_goals (go_wp2_with fail; go_meet)
        all_goals (first
          | exact ⟨_, rfl, tcopyA hb _⟩
          | exact ⟨_, rfl, tcopyB hb _ _ _ _ _ rfl⟩)
      case rest =>
        obtain ⟨b5, rfl, hb5, hv5, hres, hj, hB⟩ := hcut
        obtain ⟨⟨p0, p1, p2, p3⟩, q0, q1, q2, q3⟩ := box4 hv5
        obtain ⟨⟨j0, j1, j2, j3, j4⟩, -⟩ := jbox5 hj
        have hbw := vat_lt hv5
        have HV := Lib.hid hv5; have HRS := Lib.hid hres
        clear hv5 hres hj kc hA1 hA2
        go_wp2_with fail
        go_loopw [9, 38] (fun _ i wr => ∃ q : Nat, q ≤ l.length ∧ i = .int .i64 (q : Int) ∧ Below W.heap.size W wr ∧ wc.heap.size ≤ wr.heap.size ∧ ∃ a' m c', Hid (VAt wr b5 #[.int .i64 (kk : Int), .int .i64 n, .string s, .slice a' m c']) ∧ Hid (VAt wr (W.heap.size + 1) vzero) ∧ Hid (GRow Is 4 24 wc.heap.size wr (.slice a' m c') (l.take q))) (fun _ i _ => l.length - (intOf i).toNat)
        case atStart => exact ⟨0, Nat.zero_le _, rfl, hB, Nat.le_refl _, none, 0, 0, HV, HRS, Lib.hid (grow_nil _ _ _ _ _)⟩
        case round =>
          obtain ⟨q, hq, rfl, hBr, hsz, a', m, c', HX, HZ, HG⟩ := hrel
          clear p0 p1 p2 p3 q0 q1 q2 q3 j0 j1 j2 j3 j4
          rcases Nat.lt_or_ge q l.length with hlt | hge
          · have hd : decide (q < l.length) = true := by simpa using hlt
            obtain ⟨y, hy⟩ : ∃ y, l[q]? = some y := ⟨l[q], List.getElem?_eq_getElem hlt⟩
            have hne : l.map jOf ≠ [] := fun h => by rw [List.map_eq_nil_iff] at h; rw [h] at hlt; simp at hlt
            obtain ⟨ba, oa, rfl, hIs⟩ := h6.resolve_left hne
            have hcall := HIH.out y (List.mem_of_getElem? hy)
            have hjy : (l.map jOf)[q]? = some (jOf y) := by rw [List.getElem?_map, hy]; rfl
            obtain ⟨Jy, hJy⟩ : ∃ J, jOf y = J := ⟨_, rfl⟩
            rw [hJy] at hjy hcall
            cases Jy with
            | mk yk yn ys yns yl =>
            obtain ⟨yna, ync, ya, yc, ⟨g0, g1, g2, g3, g4⟩, hiy⟩ := isJL_val (isJL_below hBr hIs) q _ _ _ _ _ hjy
            have hst := jtake_stepV l q y hy
            obtain ⟨cs, hown, hel⟩ := HG.out
            have hrl : (l.take q).length = q := by rw [List.length_take]; omega
            obtain ⟨YS, hYS⟩ : ∃ YS, l.take q = YS := ⟨_, rfl⟩
            rw [hYS] at hst hown hel hrl
            rw [hrl] at hown
            obtain ⟨rfl, -⟩ : m = q ∧ True := by
              obtain ⟨_, _, e⟩ := own_formC hown
              simp only [Value.slice.injEq] at e
              exact ⟨e.2.1, trivial⟩
            obtain ⟨i0, hi, hi0, hi1, hi2⟩ := info_parts info_val
            have hA3 := (Below.refl _ wr).alloc (Nat.le_refl _) (.cells #[.int .i64 yk, .int .i64 yn, .string ys, .slice yna yns.length ync, .slice ya yl.length yc] 30)
            have hA3' := hBr.trans (hA3.mono hBr.size)
            have hx3 := vat_below hA3 HX.out
            have hbwr := vat_lt HX.out
            have hpo := HBO.out.lt
            have hpf := HBF.out.lt
            have hWr := hBr.size
            have hbf0 : Boxed wr pf _ _ := (hBr.block pf hpf).trans HBF.out
            have hbf3 : Boxed (wr.alloc (.cells #[.int .i64 yk, .int .i64 yn, .string ys, .slice yna yns.length ync, .slice ya yl.length yc] 30)) pf _ _ := (hA3'.block pf hpf).trans HBF.out
            have hbo3 : Boxed (wr.alloc (.cells #[.int .i64 yk, .int .i64 yn, .string ys, .slice yna yns.length ync, .slice ya yl.length yc] 30)) po _ _ := (hA3'.block po hpo).trans HBO.out
            have k0 := hbf0.cell
            have k1 := hbf3.cell
            obtain ⟨⟨-, -, -, y4⟩, -, -, -, f4⟩ := box4 HX.out
            obtain ⟨⟨-, -, -, x4⟩, -, -, -, e4⟩ := box4 hx3
            have HC := Lib.hid (hcall (wr.alloc (.cells #[.int .i64 yk, .int .i64 yn, .string ys, .slice yna yns.length ync, .slice ya yl.length yc] 30)).drew (.agg #[.int .i64 yk, .int .i64 yn, .string ys, .slice yna yns.length ync, .slice ya yl.length yc]) (kinds_below (kinds_below HK.out hA3') (below_drewC _)) (show Boxed (World.drew _) _ _ _ from hbo3) (show Boxed (World.drew _) _ _ _ from hbf3) (isJ_below (hA3.trans ((below_drewC _).mono hA3.size)) _ _ hiy))
            have HOW := Lib.hid hown; have HEL := Lib.hid hel; have HST := Lib.hid hst; have HRL := Lib.hid hrl; have HX3 := Lib.hid hx3
            have HO2 := Lib.hid (own_blk8 hown)
            clear hcall hiy hown hel hst hrl hx3 hYS hIs hjy hJy hne h6 HIH hbf0 hbo3 hbf3 kc0
            go_wp2_with fail
            go_region_law (first
              | (refine step_append_at _ rfl _ _ 22 rfl wc.heap.size 24 i0 (.agg vzero) 4 56 Tryd.underlying22 hi hi0 hi1 hi2 rfl (by decide) (.slice a' m c') m cs (by simp [Act.eval]) ho5 (some ⟨w4.heap.size, 0, none⟩) 1 1 [.int .i64 d0, .int .i64 d1, .string d2, .slice d3 d4 d5] (by simp [Act.eval]) ⟨rfl, .inr ⟨_, rfl, cells_new _ [_, _, _, _] _⟩⟩ (by simp [Value.oneCell']) (by unfold maxLen; omega) (by omega) (by simp; omega) ?_; intro v6 w6 hown6 hgr6 hat6; obtain ⟨a6, c6, rfl⟩ := own_formC hown6; have hx6 : VAt w6 b5 _ := (hgr6.block _ (by have := vat_lt hx5; omega) (fun e => by have := (HO2.out _ e.symm).2; omega)).trans hx5; obtain ⟨⟨-, -, -, y64⟩, -, -, -, f64⟩ := box4 hx6)
              | (go_simp; go_wp2_with (go_at_call 43; (with_reducible refine HC.out.mono ?_); rintro e w4 ⟨d0, d1, d2, d3, d4, d5, rfl, hb4', hF4⟩; have hs4 : wr.heap.size + 1 ≤ w4.heap.size := (by have := hb4'.size; simpa using this); have hx4 := vat_below hb4' (show VAt (World.drew _) b5 _ from HX3.out); obtain ⟨⟨-, -, -, y44⟩, -, -, -, f44⟩ := box4 hx4; have hx5 := vat_below ((Below.refl _ w4).alloc (Nat.le_refl _) (.cells #[.int .i64 d0, .int .i64 d1, .string d2, .slice d3 d4 d5] 24)) hx4; obtain ⟨⟨-, -, -, y54⟩, -, -, -, f54⟩ := box4 hx5; have hA4 := (hA3.trans ((below_drewC _).mono hA3.size)).trans (hb4'.mono (by simp)); have ho5 : (w4.alloc (.cells #[.int .i64 d0, .int .i64 d1, .string d2, .slice d3 d4 d5] 24)).ownsRow wc.heap.size 24 4 (.slice a' m c') m cs := own_kept8 (show wr.ownsRow _ _ _ _ _ _ from HOW.out) (fun b b1 b2 => (Below.heap_alloc w4 _ b (by have := hA4.size; omega)).trans (hA4.block b b2)))))
            all_goals (
              have hsz6 := hgr6.size
              rw [World.size_alloc] at hsz6
              have hA5 := (Below.refl _ w4).alloc (Nat.le_refl _) (.cells #[.int .i64 d0, .int .i64 d1, .string d2, .slice d3 d4 d5] 24)
              have hw4 := hA4.size
              have hB6 := below_grownC ((hBr.trans (hA4.mono hWr)).trans (hA5.mono (by omega))) hgr6 (by simp; omega) (fun g e => by have := (HO2.out g e).2; have := hB.size; omega)
              have hlen : (YS ++ [y]).length = m + 1 := by rw [List.length_append, HRL.out]; rfl
              have hel6 := gel_step (P := Is) (n := 4) (p := b5) (cs := cs) (ys := YS) (ds := [.int .i64 d0, .int .i64 d1, .string d2, .slice d3 d4 d5]) (w0 := wr) (w4 := w4) (w6 := w6) (v' := .slice a6 (m + 1) c6) (y := y) (by rw [HRL.out]; exact HOW.out) HEL.out (by omega) hsz (grown_belowC hA4 _) (freshC_mono hF4 (by simp)) rfl hA5 hgr6 hat6
              have hrow6 : GRow Is 4 24 wc.heap.size w6 (.slice a6 (m + 1) c6) (YS ++ [y]) := ⟨_, by rw [hlen]; exact hown6, hel6⟩
              have hz6 : VAt w6 (W.heap.size + 1) vzero := (hgr6.block _ (by have := vat_lt HZ.out; simp; omega) (fun e => by have := (HO2.out _ e.symm).2; omega)).trans (vat_below hA5 (vat_below hA4 HZ.out))
              have hG7 : Hid (GRow Is 4 24 wc.heap.size (w6.setCell ⟨b5, 3, none⟩ (.slice a6 (m + 1) c6)) (.slice a6 (m + 1) c6) (l.take (m + 1))) := Lib.hid (by
                rw [HST.out]
                exact grow_keep hrow6 (by simp) (fun b b1 b2 => Below.heap_setCell _ _ _ b (by show b ≠ b5; omega)))
              go_wp2
              go_roundw
              case rel => exact ⟨m + 1, by omega, by go_num, hB6.setCell (p := ⟨b5, 3, none⟩) (by show W.heap.size ≤ b5; omega) _, by simp; omega, a6, m + 1, c6, Lib.hid (vat_set hx6 3 _), Lib.hid (vat_other hz6 (by omega) _ _), hG7⟩
              case measure => simp [intOf]; omega)
          · obtain rfl : q = l.length := by omega
            have hd : decide (l.length < l.length) = false := by simp
            obtain ⟨⟨p0, p1, p2, p3⟩, q0, q1, q2, q3⟩ := box4 HX.out
            obtain ⟨⟨r0, r1, r2, r3⟩, t0, t1, t2, t3⟩ := box4 HZ.out
            go_wp2_with fail
            refine bodyPost_ret (results_cell_row Tryd.results43 _ _ (W.heap.size + 1) _ _ _ _ rfl (vat_set4 HZ.out _ _ _ _) Tryd.underlying24 rfl val_size15) rfl ⟨_, _, _, _, _, _, rfl, below_set4 hBr (by omega) _ _ _ _ _ _ _ _, ?_⟩
            have hG := HG.out
            rw [List.take_length] at hG
            have hG2 := grow_keep (W' := _) hG (show wr.heap.size ≤ ((((wr.setCell ⟨W.heap.size + 1, 0, none⟩ (.int .i64 (kk : Int))).setCell ⟨W.heap.size + 1, 1, none⟩ (.int .i64 n)).setCell ⟨W.heap.size + 1, 2, none⟩ (.string s)).setCell ⟨W.heap.size + 1, 3, none⟩ (.slice a' m c')).heap.size by simp) (fun b b1 b2 => by
              rw [Below.heap_setCell _ _ _ b (by show b ≠ W.heap.size + 1; omega), Below.heap_setCell _ _ _ b (by show b ≠ W.heap.size + 1; omega), Below.heap_setCell _ _ _ b (by show b ≠ W.heap.size + 1; omega), Below.heap_setCell _ _ _ b (by show b ≠ W.heap.size + 1; omega)])
            exact row_freshV hG2 h1 h2 h3 (by have := hB.size; omega)
end Go.Proofs.YtcicjpdjbfgbhaaDoor
