/- Layer 15: the thing of a value. -/
import Derived.Test.YtcicjpdjbfgbhaaDoorMh13Cell
import Derived.Test.YtcicjpdjbfgbhaaDoorMh14Cell
import Derived.Deep.RegionWith
import Derived.Deep.RegionLaw
import Derived.Deep.RegionHeld3
import Derived.Deep.DeepCutAuto
set_option linter.unusedVariables false
set_option linter.unusedSimpArgs false
set_option maxRecDepth 100000
namespace Go.Proofs.YtcicjpdjbfgbhaaDoor
open Go.RowKit Go.Shelf
theorem info_json15 : (Tryd.prog.info? 30).map (fun i => (i.zero, i.size, i.bytes)) = some (some (.agg jzero), 5, 80) := by kernel_rfl
/-- things in a growing row are the things of a list -/
theorem grow_json {B : Nat} {W : World} {u : Value} {ys : List JV} (h : GRow IsJ 5 30 B W u ys) : ∃ a cap, u = .slice a ys.length cap ∧ ∀ W' : World, (∀ b, B ≤ b → b < W.heap.size → W'.heap[b]? = W.heap[b]?) → ys.length ≤ cap ∧ cap ≤ maxLen ∧ (ys = [] ∨ ∃ b off, a = some ⟨b, off, none⟩ ∧ IsJL W' b ys off) := by
  obtain ⟨a, cap, he, _⟩ := grow_at h (fun _ _ _ => rfl)
  refine ⟨a, cap, he, fun W' hb => ?_⟩
  obtain ⟨a', cap', he', h1, h2, h3⟩ := grow_at h hb
  rw [he] at he'
  simp only [Value.slice.injEq, true_and] at he'
  obtain ⟨rfl, rfl⟩ := he'
  refine ⟨h1, h2, h3.imp id fun ⟨b, e, hc⟩ => ⟨b, 0, e, isJL_of fun i y hy => ?_⟩⟩
  obtain ⟨ds, hd, hcells, hi⟩ := hc i y hy
  obtain ⟨d0, d1, d2, d3, d4, rfl⟩ : ∃ d0 d1 d2 d3 d4, ds = [d0, d1, d2, d3, d4] := by
    match ds, hd with
    | [d0, d1, d2, d3, d4], _ => exact ⟨d0, d1, d2, d3, d4, rfl⟩
  rw [Nat.zero_add]
  exact ⟨d0, d1, d2, d3, d4, ⟨hcells 0 _ rfl, hcells 1 _ rfl, hcells 2 _ rfl, hcells 3 _ rfl, hcells 4 _ rfl⟩, hi⟩
/-- what thing comes to -/
def ThC (v : PV) (w : World) (e : Ending) (w' : World) : Prop := ∃ k n s na nl nc a len cap, e = .returned (.agg #[.int .i64 k, .int .i64 n, .string s, .slice na nl nc, .slice a len cap]) ∧ Below w.heap.size w w' ∧ FreshC IsJ w.heap.size w' (jOf v) (.agg #[.int .i64 k, .int .i64 n, .string s, .slice na nl nc, .slice a len cap])
theorem json_size15 : (Tryd.prog.info? 30).map (·.size) = some 5 := by kernel_rfl
/-- a name's thing -/
theorem sym_is {W : World} {g1 g2 : Nat} {s : ByteArray} (hn : W.heap[g1]? = some (.cells #[.string symB] 9 (0, 0))) (ht : JAt W g2 #[.int .i64 4, .int .i64 0, .string s, .slice none 0 0, .slice none 0 0]) (hs : s.size ≤ maxLen) :
    IsJ W (.mk 6 0 ⟨#[]⟩ [symB] [.mk 4 0 s [] []]) (.agg #[.int .i64 6, .int .i64 0, .string ⟨#[]⟩, .slice (some ⟨g1, 0, none⟩) 1 1, .slice (some ⟨g2, 0, none⟩) 1 1]) := by
  have hj : ∀ n : Int, (decide (-9223372036854775808 ≤ n) && decide (n ≤ 9223372036854775807)) = true → J64 n := fun n h => by simpa [J64] using h
  unfold IsJ
  refine ⟨hj _ rfl, hj _ rfl, by unfold maxLen; decide, _, 1, _, 1, rfl, ⟨by simp, by unfold maxLen; decide, fun t ht => by rw [List.mem_singleton.1 ht]; unfold maxLen; decide, .inr ⟨g1, 0, rfl, fun i t hi => ?_⟩⟩, by simp, by unfold maxLen; decide, .inr ⟨g2, 0, rfl, ?_⟩⟩
  · obtain ⟨h1, h2⟩ := List.getElem?_eq_some_iff.1 hi
    obtain rfl : i = 0 := by simpa using h1
    simp at h2
    subst h2
    simp [World.cell?, hn]
  · unfold IsJL IsJL
    obtain ⟨⟨y0, y1, y2, y3, y4⟩, _⟩ := jbox5 ht
    refine ⟨⟨_, _, _, _, _, ⟨y0, y1, y2, y3, y4⟩, ?_⟩, trivial⟩
    unfold IsJ
    exact ⟨hj _ rfl, hj _ rfl, hs, none, 0, none, 0, rfl, ⟨Nat.le_refl _, by unfold maxLen; omega, by simp, .inl rfl⟩, Nat.le_refl _, by unfold maxLen; omega, .inl rfl⟩
theorem sym_fresh {B : Nat} {W : World} {g1 g2 : Nat} {s : ByteArray} (hn : W.heap[g1]? = some (.cells #[.string symB] 9 (0, 0))) (ht : JAt W g2 #[.int .i64 4, .int .i64 0, .string s, .slice none 0 0, .slice none 0 0]) (hs : s.size ≤ maxLen) (h1 : B ≤ g1) (h2 : B ≤ g2) :
    FreshC IsJ B W (.mk 6 0 ⟨#[]⟩ [symB] [.mk 4 0 s [] []]) (.agg #[.int .i64 6, .int .i64 0, .string ⟨#[]⟩, .slice (some ⟨g1, 0, none⟩) 1 1, .slice (some ⟨g2, 0, none⟩) 1 1]) := fun W' k =>
  sym_is ((k g1 h1 (Array.getElem?_eq_some_iff.1 hn).1).trans hn) ((k g2 h2 (jat_lt ht)).trans ht) hs
theorem jafter3 {w w' : World} {o1 o2 : Obj} {cs : Array Value} (hb : Below ((((w.alloc o1).alloc o2).alloc (.cells cs 30)).drew).heap.size ((((w.alloc o1).alloc o2).alloc (.cells cs 30)).drew) w') : JAt w' (w.heap.size + 1 + 1) cs := by
  have hq := jat_below hb (jat_alloc_drew _ _)
  rwa [World.size_alloc, World.size_alloc] at hq
theorem jcopyA {w w' : World} {c0 c1 c2 : Value} {a : Option Addr} {len cap : Nat} (hb : Below (((w.alloc (.cells #[c0, c1, c2, .slice a len cap] 24)).alloc (.cells jzero 30)).drew).heap.size
      (((w.alloc (.cells #[c0, c1, c2, .slice a len cap] 24)).alloc (.cells jzero 30)).drew) w') (cs : Array Value) :
    w.heap.size + 1 < w'.heap.size ∧ JAt (w'.alloc (.cells cs 30)) w'.heap.size cs ∧ JAt (w'.alloc (.cells cs 30)) (w.heap.size + 1) jzero ∧ (w'.alloc (.cells cs 30)).cell? ⟨w.heap.size, 3, none⟩ = some (.slice a len cap) ∧
      Below w.heap.size w (w'.alloc (.cells cs 30)) := by
  have hB0 := ((Below.refl _ w).alloc (Nat.le_refl _) (Obj.cells #[c0, c1, c2, .slice a len cap] 24))
  have hB1 := (hB0.alloc hB0.size (Obj.cells jzero 30)).drew
  have hB := hB1.trans (hb.mono hB1.size)
  have hz := jat_below hb (jat_alloc_drew _ _)
  rw [World.size_alloc] at hz
  refine ⟨?_, jat_alloc _ _, jat_below ((Below.refl _ w').alloc (Nat.le_refl _) _) hz, cell_alloc (cell_below hb (by simp)), hB.alloc hB.size _⟩
  have := hb.size
  simp at this
  omega
theorem jcell_set5 {W : World} {p : Addr} {c : Value} {b : Nat} {d0 d1 d2 d3 d4 : Value} (h : W.cell? p = some c) (hne : p.block ≠ b) :
    (((((W.setCell ⟨b, 0, none⟩ d0).setCell ⟨b, 1, none⟩ d1).setCell ⟨b, 2, none⟩ d2).setCell ⟨b, 3, none⟩ d3).setCell ⟨b, 4, none⟩ d4).cell? p = some c := by
  have h1 : ∀ (W : World) (i : Nat) (d : Value), (W.setCell ⟨b, i, none⟩ d).cell? p = W.cell? p := fun W i d => by
    simp only [World.cell?, Below.heap_setCell W ⟨b, i, none⟩ d p.block hne]
  rw [h1, h1, h1, h1, h1, h]
theorem jat_other5 {W : World} {b b' : Nat} {cs : Array Value} (h : JAt W b cs) (hne : b ≠ b') (d0 d1 d2 d3 d4 : Value) :
    JAt (((((W.setCell ⟨b', 0, none⟩ d0).setCell ⟨b', 1, none⟩ d1).setCell ⟨b', 2, none⟩ d2).setCell ⟨b', 3, none⟩ d3).setCell ⟨b', 4, none⟩ d4) b cs :=
  jat_other (jat_other (jat_other (jat_other (jat_other h hne 0 d0) hne 1 d1) hne 2 d2) hne 3 d3) hne 4 d4
theorem jcopyB {w w' : World} {c0 c1 c2 : Value} {a : Option Addr} {len cap : Nat} {zs : Array Value} (hb : Below ((((w.alloc (.cells #[c0, c1, c2, .slice a len cap] 24)).alloc (.cells jzero 30)).alloc (.cells jzero 30)).drew).heap.size
      ((((w.alloc (.cells #[c0, c1, c2, .slice a len cap] 24)).alloc (.cells jzero 30)).alloc (.cells jzero 30)).drew) w') (d0 d1 d2 d3 d4 : Value) (W : World)
    (hW : W = (((((w'.setCell ⟨w.heap.size + 1 + 1, 0, none⟩ d0).setCell ⟨w.heap.size + 1 + 1, 1, none⟩ d1).setCell ⟨w.heap.size + 1 + 1, 2, none⟩ d2).setCell ⟨w.heap.size + 1 + 1, 3, none⟩ d3).setCell ⟨w.heap.size + 1 + 1, 4, none⟩ d4)) :
    w.heap.size + 1 < w.heap.size + 1 + 1 ∧ JAt W (w.heap.size + 1 + 1) #[d0, d1, d2, d3, d4] ∧ JAt W (w.heap.size + 1) jzero ∧ W.cell? ⟨w.heap.size, 3, none⟩ = some (.slice a len cap) ∧ Below w.heap.size w W := by
  subst hW
  have hB0 := ((Below.refl _ w).alloc (Nat.le_refl _) (Obj.cells #[c0, c1, c2, .slice a len cap] 24))
  have hB1 := (hB0.alloc hB0.size (Obj.cells jzero 30))
  have hB2 := (hB1.alloc hB1.size (Obj.cells jzero 30)).drew
  have hB := hB2.trans (hb.mono hB2.size)
  have hq := jafter3 hb
  have hz : JAt w' (w.heap.size + 1) jzero := by
    refine jat_below hb ?_
    have h := jat_below ((Below.refl _ _).alloc (Nat.le_refl _) (.cells jzero 30)) (jat_alloc (w.alloc (.cells #[c0, c1, c2, .slice a len cap] 24)) jzero)
    rw [World.size_alloc] at h
    exact h
  exact ⟨by omega, jat_set5 hq _ _ _ _ _, jat_other5 hz (by omega) _ _ _ _ _, jcell_set5 (cell_below hb (cell_below (⟨rfl, rfl, rfl, Nat.le_refl _, fun _ _ => rfl⟩ : Below _ _ (World.drew _)) (cell_alloc (cell_alloc (by simp))))) (by simp; omega), jbelow_set5 hB (by omega) _ _ _ _ _ _ _ _ _ _⟩
theorem map_take {α β : Type} (f : α → β) (l : List α) (q : Nat) (y : α) (h : l[q]? = some y) : (l.take (q + 1)).map f = (l.take q).map f ++ [f y] := by
  rw [List.take_add_one, h]; simp
theorem own_formC {w : World} {base : Nat} {e : TypeId} {size : Nat} {v : Value} {n : Nat} {xs : List Value} (h : w.ownsRow base e size v n xs) : ∃ a c, v = .slice a n c := by
  rcases h.2 with ⟨rfl, rfl⟩ | ⟨g, cap, cur, rfl, _⟩
  · exact ⟨_, _, rfl⟩
  · exact ⟨_, _, rfl⟩
theorem below_grownC {B : Nat} {w W V : World} {row : Option Nat} (h : Below B w W) (k : W.grownBy V row) (hB : B ≤ W.heap.size) (hr : ∀ g, row = some g → B ≤ g) : Below B w V := by
  obtain ⟨a1, a2, a3, a4, a5⟩ := h
  obtain ⟨b1, b2, b3, b4, b5⟩ := k
  exact ⟨b1.trans a1, b2.trans a2, b3.trans a3, Nat.le_trans a4 b4, fun j hj => (b5 j (by omega) (fun e => by have := hr j e.symm; omega)).trans (a5 j hj)⟩
theorem grown_belowC {W W' : World} (h : Below W.heap.size W W') (row : Option Nat) : W.grownBy W' row := ⟨h.os, h.tape, h.output, h.size, fun k hk _ => h.block k hk⟩
theorem below_drewC (w : World) : Below w.heap.size w w.drew := ⟨rfl, rfl, rfl, Nat.le_refl _, fun _ _ => rfl⟩
/-- a thing whose list is a row of one's own -/
theorem row_fresh {B : Nat} {W : World} {k n : Int} {s : ByteArray} {a : Option Addr} {m c R : Nat} {ys : List JV} (h : GRow IsJ 5 30 R W (.slice a m c) ys) (hk : J64 k) (hn : J64 n) (hs : s.size ≤ maxLen) (hR : B ≤ R) :
    FreshC IsJ B W (.mk k n s [] ys) (.agg #[.int .i64 k, .int .i64 n, .string s, .slice none 0 0, .slice a m c]) := fun W' hb => by
  obtain ⟨a', cap, e, hr⟩ := grow_json h
  simp only [Value.slice.injEq] at e
  obtain ⟨rfl, rfl, rfl⟩ := e
  obtain ⟨h1, h2, h3⟩ := hr W' fun b b1 b2 => hb b (by omega) b2
  unfold IsJ
  exact ⟨hk, hn, hs, none, 0, _, _, rfl, ⟨Nat.le_refl _, by unfold maxLen; omega, by simp, .inl rfl⟩, h1, h2, h3⟩
set_option maxHeartbeats 8000000 in
theorem thing_any (v : PV) : small v → ∀ w x, Is w v x → Calls Tryd.prog 22 #[x] w (ThC v w) := by
  induction v using pv_ind with
  | h k n s l ih =>
    intro hsm w x hi
    unfold small at hsm
    obtain ⟨hs, hl, hL⟩ := hsm
    unfold Is at hi
    obtain ⟨h1, h2, h3, a, cap, rfl, h4, h5, h6⟩ := hi
    have hcl := fun w => clone_any s w hs
    have HI := Lib.hid (fun x hx => ih x hx (small_mem hL x hx))
    have hA1 := (Below.refl _ w).alloc (Nat.le_refl _) (.cells #[.int .i64 k, .int .i64 n, .string s, .slice a l.length cap] 24)
    have hA2 := hA1.alloc hA1.size (.cells jzero 30)
    have hz0 : JAt ((w.alloc (.cells #[.int .i64 k, .int .i64 n, .string s, .slice a l.length cap] 24)).alloc (.cells jzero 30)) (w.heap.size + 1) jzero := by
      have h := jat_alloc (w.alloc (.cells #[.int .i64 k, .int .i64 n, .string s, .slice a l.length cap] 24)) jzero
      rwa [World.size_alloc] at h
    clear ih hL
    by_cases hk : k = 3
    · subst hk
      go_enter Tryd.func22, Tryd.ntmps22
      go_wp2_with (go_at_call 30; (with_reducible refine (hcl _).mono ?_); rintro e w2 ⟨rfl, hb2⟩; have hz2 := jat_below hb2 hz0; have hA5 := ((Below.refl _ w2).alloc (Nat.le_refl _) (.cells #[.int .i64 4, .int .i64 0, .string s, .slice none 0 0, .slice none 0 0] 30)).alloc ((Below.refl _ w2).alloc (Nat.le_refl _) (.cells #[.int .i64 4, .int .i64 0, .string s, .slice none 0 0, .slice none 0 0] 30)).size (.cells #[.string symB] 9); have hA6 := hA5.alloc hA5.size (.cells #[.int .i64 4, .int .i64 0, .string s, .slice none 0 0, .slice none 0 0] 30); have hz5 := jat_below hA6 hz2; obtain ⟨⟨y0, y1, y2, y3, y4⟩, f0, f1, f2, f3, f4⟩ := jbox5 hz5; obtain ⟨⟨x0, x1, x2, x3, x4⟩, -⟩ := jbox5 (jat_old (jat_alloc w2 #[.int .i64 4, .int .i64 0, .string s, .slice none 0 0, .slice none 0 0]) (.cells #[.string symB] 9)); unfold symB at y0 y1 y2 y3 y4 f0 f1 f2 f3 f4 x0 x1 x2 x3 x4)
      have hb2s := hb2.size
      rw [World.size_alloc, World.size_alloc] at hb2s
      refine bodyPost_ret (results_cell_row Tryd.results22 _ _ (w.heap.size + 1) _ _ _ _ rfl (jat_set5 hz5 _ _ _ _ _) Tryd.underlying30 rfl json_size15) rfl ⟨_, _, _, _, _, _, _, _, _, rfl, jbelow_set5 (hA2.trans ((hb2.trans (hA6.mono hb2.size)).mono hA2.size)) (by omega) _ _ _ _ _ _ _ _ _ _, ?_⟩
      rw [jOf3]
      have hn1 : (((w2.alloc (.cells #[.int .i64 4, .int .i64 0, .string s, .slice none 0 0, .slice none 0 0] 30)).alloc (.cells #[.string symB] 9)).alloc (.cells #[.int .i64 4, .int .i64 0, .string s, .slice none 0 0, .slice none 0 0] 30)).heap[w2.heap.size + 1]? = some (.cells #[.string symB] 9) := by
        rw [Below.heap_alloc _ _ _ (by simp)]
        have h := World.alloc_heap_new (w2.alloc (.cells #[.int .i64 4, .int .i64 0, .string s, .slice none 0 0, .slice none 0 0] 30)) (.cells #[.string symB] 9)
        rwa [World.size_alloc] at h
      have hn2 : JAt (((w2.alloc (.cells #[.int .i64 4, .int .i64 0, .string s, .slice none 0 0, .slice none 0 0] 30)).alloc (.cells #[.string symB] 9)).alloc (.cells #[.int .i64 4, .int .i64 0, .string s, .slice none 0 0, .slice none 0 0] 30)) (w2.heap.size + 1 + 1) #[.int .i64 4, .int .i64 0, .string s, .slice none 0 0, .slice none 0 0] := by
        have h := jat_alloc ((w2.alloc (.cells #[.int .i64 4, .int .i64 0, .string s, .slice none 0 0, .slice none 0 0] 30)).alloc (.cells #[.string symB] 9)) #[.int .i64 4, .int .i64 0, .string s, .slice none 0 0, .slice none 0 0]
        rwa [World.size_alloc, World.size_alloc] at h
      refine sym_fresh ?_ (jat_other5 hn2 (by omega) _ _ _ _ _) h3 (by omega) (by omega)
      rw [Below.heap_setCell _ _ _ _ (by show _ ≠ w.heap.size + 1; omega), Below.heap_setCell _ _ _ _ (by show _ ≠ w.heap.size + 1; omega), Below.heap_setCell _ _ _ _ (by show _ ≠ w.heap.size + 1; omega), Below.heap_setCell _ _ _ _ (by show _ ≠ w.heap.size + 1; omega), Below.heap_setCell _ _ _ _ (by show _ ≠ w.heap.size + 1; omega)]
      exact hn1
    · have dk : (k == 3) = false := by simpa using hk
      go_enter Tryd.func22, Tryd.ntmps22
      go_upto_region 4 with fail
      go_cut [4] (fun s4 W => ∃ b4, s4 = .pointer (some ⟨b4, 0, none⟩) ∧ w.heap.size + 1 < b4 ∧ JAt W b4 #[.int .i64 k, .int .i64 n, .string s, .slice none 0 0, .slice none 0 0] ∧ JAt W (w.heap.size + 1) jzero ∧ W.cell? ⟨w.heap.size, 3, none⟩ = some (.slice a l.length cap) ∧ Below w.heap.size w W)
      case first =>
        go_region_held3 (fun W => W.cell? ⟨w.heap.size, 0, none⟩ = some (.int .i64 k) ∧ W.cell? ⟨w.heap.size, 1, none⟩ = some (.int .i64 n) ∧ W.cell? ⟨w.heap.size, 2, none⟩ = some (.string s)) (first | ((try dsimp only); refine ⟨?_, ?_, ?_⟩ <;> first | (with_reducible refine jcell_set5 ?_ (by first | (simp; done) | (simp; omega)); go_keep) | (go_keep; done) | (with_reducible refine cell_below hb ?_; go_keep) | (with_reducible refine cell_alloc ?_; go_keep) | (with_reducible refine cell_alloc (cell_below hb ?_); go_keep))) (first
            | (go_at_call 30; (with_reducible refine (hcl _).mono ?_); rintro e w' ⟨rfl, hb⟩; first | (with_reducible have hq := jafter3 hb; obtain ⟨⟨q0, q1, q2, q3, q4⟩, f0, f1, f2, f3, f4⟩ := jbox5 hq) | skip))
        all_goals (go_wp2_with fail; go_meet)
        all_goals (first
          | exact ⟨_, rfl, jcopyA hb _⟩
          | exact ⟨_, rfl, jcopyB (zs := #[]) hb _ _ _ _ _ _ rfl⟩)
      case rest =>
        obtain ⟨b4, rfl, hb4, hbox, hres, hce, hB⟩ := hcut
        obtain ⟨⟨p0, p1, p2, p3, p4⟩, q0, q1, q2, q3, q4⟩ := jbox5 hbox
        obtain ⟨⟨r0, r1, r2, r3, r4⟩, t0, t1, t2, t3, t4⟩ := jbox5 hres
        have hbw := jat_lt hbox
        have HB := Lib.hid hbox; have HRS := Lib.hid hres
        clear hz0 hbox hres
        go_wp2_with fail
        go_loopw [6, 29] (fun _ i wr => ∃ q : Nat, q ≤ l.length ∧ i = .int .i64 (q : Int) ∧ Below w.heap.size w wr ∧ wc.heap.size ≤ wr.heap.size ∧ ∃ a' m c', Hid (JAt wr b4 #[.int .i64 k, .int .i64 n, .string s, .slice none 0 0, .slice a' m c']) ∧ Hid (JAt wr (w.heap.size + 1) jzero) ∧ Hid (GRow IsJ 5 30 wc.heap.size wr (.slice a' m c') ((l.take q).map jOf))) (fun _ i _ => l.length - (intOf i).toNat)
        case atStart => exact ⟨0, Nat.zero_le _, rfl, hB, Nat.le_refl _, none, 0, 0, HB, HRS, Lib.hid (grow_nil _ _ _ _ _)⟩
        case round =>
          obtain ⟨q, hq, rfl, hBr, hsz, a', m, c', HX, HZ, HG⟩ := hrel
          clear p0 p1 p2 p3 p4 q0 q1 q2 q3 q4 r0 r1 r2 r3 r4 t0 t1 t2 t3 t4
          rcases Nat.lt_or_ge q l.length with hlt | hge
          · have hd : decide (q < l.length) = true := by simpa using hlt
            obtain ⟨y, hy⟩ : ∃ y, l[q]? = some y := ⟨l[q], List.getElem?_eq_getElem hlt⟩
            have hne : l ≠ [] := fun h => by rw [h] at hlt; simp at hlt
            obtain ⟨ba, oa, rfl, hIs⟩ := h6.resolve_left hne
            have hcall := HI.out y (List.mem_of_getElem? hy)
            cases y with
            | mk yk yn ys yl =>
            obtain ⟨ya, yc, ⟨g0, g1, g2, g3⟩, hiy⟩ := isL_val (isL_below hBr hIs) q _ _ _ _ hy
            have hst := map_take jOf l q _ hy
            obtain ⟨cs, hown, hel⟩ := HG.out
            have hrl : ((l.take q).map jOf).length = q := by rw [List.length_map, List.length_take]; omega
            obtain ⟨YS, hYS⟩ : ∃ YS, (l.take q).map jOf = YS := ⟨_, rfl⟩
            rw [hYS] at hst hown hel hrl
            rw [hrl] at hown
            obtain ⟨rfl, -⟩ : m = q ∧ True := by
              obtain ⟨_, _, e⟩ := own_formC hown
              simp only [Value.slice.injEq] at e
              exact ⟨e.2.1, trivial⟩
            obtain ⟨i0, hi, hi0, hi1, hi2⟩ := info_parts info_json15
            have hA3 := (Below.refl _ wr).alloc (Nat.le_refl _) (.cells #[.int .i64 yk, .int .i64 yn, .string ys, .slice ya yl.length yc] 24)
            have hx3 := jat_below hA3 HX.out
            have hbwr := jat_lt HX.out
            obtain ⟨⟨-, -, -, -, y4⟩, -, -, -, -, f4⟩ := jbox5 HX.out
            obtain ⟨⟨-, -, -, -, x4⟩, -, -, -, -, e4⟩ := jbox5 hx3
            have HC := Lib.hid hcall; have HIY := Lib.hid (is_below (hA3.trans ((below_drewC _).mono hA3.size)) _ _ hiy); have HOW := Lib.hid hown; have HEL := Lib.hid hel; have HST := Lib.hid hst; have HRL := Lib.hid hrl; have HX3 := Lib.hid hx3
            have HO2 := Lib.hid (own_blk8 hown)
            clear hcall hiy hown hel hst hrl hx3 hYS hIs hy hne h6 HI
            go_wp2_with fail
            go_region_law (first
              | (refine step_append_at _ rfl _ _ 28 rfl wc.heap.size 30 i0 (.agg jzero) 5 80 Tryd.underlying28 hi hi0 hi1 hi2 rfl (by decide) (.slice a' m c') m cs (by simp [Act.eval]) ho5 (some ⟨w4.heap.size, 0, none⟩) 1 1 [.int .i64 d0, .int .i64 d1, .string d2, .slice d3 d4 d5, .slice d6 d7 d8] (by simp [Act.eval]) ⟨rfl, .inr ⟨_, rfl, cells_new _ [_, _, _, _, _] _⟩⟩ (by simp [Value.oneCell']) (by unfold maxLen; omega) (by omega) (by simp; omega) ?_; intro v6 w6 hown6 hgr6 hat6; obtain ⟨a6, c6, rfl⟩ := own_formC hown6; have hx6 : JAt w6 b4 _ := (hgr6.block _ (by have := jat_lt hx5; omega) (fun e => by have := (HO2.out _ e.symm).2; omega)).trans hx5; obtain ⟨⟨-, -, -, -, y64⟩, -, -, -, -, f64⟩ := jbox5 hx6)
              | (go_simp; go_wp2_with (go_at_call 22; (with_reducible refine (HC.out _ _ HIY.out).mono ?_); rintro e w4 ⟨d0, d1, d2, d3, d4, d5, d6, d7, d8, rfl, hb4', hF4⟩; have hs4 : wr.heap.size + 1 ≤ w4.heap.size := (by have := hb4'.size; simpa using this); have hx4 := jat_below hb4' (show JAt (World.drew _) b4 _ from HX3.out); obtain ⟨⟨-, -, -, -, y44⟩, -, -, -, -, f44⟩ := jbox5 hx4; have hx5 := jat_below ((Below.refl _ w4).alloc (Nat.le_refl _) (.cells #[.int .i64 d0, .int .i64 d1, .string d2, .slice d3 d4 d5, .slice d6 d7 d8] 30)) hx4; obtain ⟨⟨-, -, -, -, y54⟩, -, -, -, -, f54⟩ := jbox5 hx5; have hA4 := (hA3.trans ((below_drewC _).mono hA3.size)).trans (hb4'.mono (by simp)); have ho5 : (w4.alloc (.cells #[.int .i64 d0, .int .i64 d1, .string d2, .slice d3 d4 d5, .slice d6 d7 d8] 30)).ownsRow wc.heap.size 30 5 (.slice a' m c') m cs := own_kept8 (show wr.ownsRow _ _ _ _ _ _ from HOW.out) (fun b b1 b2 => (Below.heap_alloc w4 _ b (by have := hA4.size; omega)).trans (hA4.block b b2)))))
            all_goals (
              have hsz6 := hgr6.size
              rw [World.size_alloc] at hsz6
              have hA5 := (Below.refl _ w4).alloc (Nat.le_refl _) (.cells #[.int .i64 d0, .int .i64 d1, .string d2, .slice d3 d4 d5, .slice d6 d7 d8] 30)
              have hw4 := hA4.size
              have hBa := hBr.size
              have hB6 := below_grownC ((hBr.trans (hA4.mono hBa)).trans (hA5.mono (by omega))) hgr6 (by simp; omega) (fun g e => by have := (HO2.out g e).2; have := hB.size; omega)
              have hlen : (YS ++ [jOf (.mk yk yn ys yl)]).length = m + 1 := by rw [List.length_append, HRL.out]; rfl
              have hel6 := gel_step (P := IsJ) (n := 5) (p := b4) (cs := cs) (ys := YS) (ds := [.int .i64 d0, .int .i64 d1, .string d2, .slice d3 d4 d5, .slice d6 d7 d8]) (w0 := wr) (w4 := w4) (w6 := w6) (v' := .slice a6 (m + 1) c6) (y := jOf (.mk yk yn ys yl)) (by rw [HRL.out]; exact HOW.out) HEL.out (by omega) hsz (grown_belowC hA4 _) (freshC_mono hF4 (by simp)) rfl hA5 hgr6 hat6
              have hrow6 : GRow IsJ 5 30 wc.heap.size w6 (.slice a6 (m + 1) c6) (YS ++ [jOf (.mk yk yn ys yl)]) := ⟨_, by rw [hlen]; exact hown6, hel6⟩
              have hz6 : JAt w6 (w.heap.size + 1) jzero := (hgr6.block _ (by have := jat_lt HZ.out; simp; omega) (fun e => by have := (HO2.out _ e.symm).2; omega)).trans (jat_below hA5 (jat_below hA4 HZ.out))
              have hG7 : Hid (GRow IsJ 5 30 wc.heap.size (w6.setCell ⟨b4, 4, none⟩ (.slice a6 (m + 1) c6)) (.slice a6 (m + 1) c6) ((l.take (m + 1)).map jOf)) := Lib.hid (by
                rw [HST.out]
                exact grow_keep hrow6 (by simp) (fun b b1 b2 => Below.heap_setCell _ _ _ b (by show b ≠ b4; omega)))
              go_wp2
              go_roundw
              case rel => exact ⟨m + 1, by omega, by go_num, hB6.setCell (p := ⟨b4, 4, none⟩) (by show w.heap.size ≤ b4; omega) _, by simp; omega, a6, m + 1, c6, Lib.hid (jat_set hx6 4 _), Lib.hid (jat_other hz6 (by omega) _ _), hG7⟩
              case measure => simp [intOf]; omega)
          · obtain rfl : q = l.length := by omega
            have hd : decide (l.length < l.length) = false := by simp
            obtain ⟨⟨p0, p1, p2, p3, p4⟩, q0, q1, q2, q3, q4⟩ := jbox5 HX.out
            obtain ⟨⟨r0, r1, r2, r3, r4⟩, t0, t1, t2, t3, t4⟩ := jbox5 HZ.out
            go_wp2_with fail
            refine bodyPost_ret (results_cell_row Tryd.results22 _ _ (w.heap.size + 1) _ _ _ _ rfl (jat_set5 HZ.out _ _ _ _ _) Tryd.underlying30 rfl json_size15) rfl ⟨_, _, _, _, _, _, _, _, _, rfl, jbelow_set5 hBr (by omega) _ _ _ _ _ _ _ _ _ _, ?_⟩
            rw [jOfE _ _ _ _ hk, jOfL_eq]
            have hG := HG.out
            rw [List.take_length] at hG
            have hG2 := grow_keep (W' := _) hG (show wr.heap.size ≤ (((((wr.setCell ⟨w.heap.size + 1, 0, none⟩ (.int .i64 k)).setCell ⟨w.heap.size + 1, 1, none⟩ (.int .i64 n)).setCell ⟨w.heap.size + 1, 2, none⟩ (.string s)).setCell ⟨w.heap.size + 1, 3, none⟩ (.slice none 0 0)).setCell ⟨w.heap.size + 1, 4, none⟩ (.slice a' m c')).heap.size by simp) (fun b b1 b2 => by
              rw [Below.heap_setCell _ _ _ b (by show b ≠ w.heap.size + 1; omega), Below.heap_setCell _ _ _ b (by show b ≠ w.heap.size + 1; omega), Below.heap_setCell _ _ _ b (by show b ≠ w.heap.size + 1; omega), Below.heap_setCell _ _ _ b (by show b ≠ w.heap.size + 1; omega), Below.heap_setCell _ _ _ b (by show b ≠ w.heap.size + 1; omega)])
            exact row_fresh hG2 h1 h2 h3 (by have := hB.size; omega)
end Go.Proofs.YtcicjpdjbfgbhaaDoor
