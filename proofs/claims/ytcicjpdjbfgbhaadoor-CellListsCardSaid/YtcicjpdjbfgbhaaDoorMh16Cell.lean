/- The program's Find. -/
import Derived.Test.YtcicjpdjbfgbhaaDoorMh1Cell
import Derived.Test.YtcicjpdjbfgbhaaDoorMh0Cell
set_option linter.unusedVariables false
namespace Go.Proofs.YtcicjpdjbfgbhaaDoor
open Go.RowKit Go.Shelf
theorem list_ne {s t : ByteArray} (h : s ≠ t) : (s.toList == t.toList) = false := by
  rw [beq_eq_false_iff_ne, toList_data, toList_data]
  exact fun h' => h (ByteArray.ext (Array.toList_inj.1 h'))
/-- where a text stands first in a row -/
def Ix (ns : List ByteArray) (name : ByteArray) (z : Int) : Prop := (∃ i : Nat, z = i ∧ ns[i]? = some name ∧ ∀ j : Nat, j < i → ns[j]? ≠ some name) ∨ z = -1 ∧ ∀ t ∈ ns, t ≠ name
set_option maxHeartbeats 4000000 in
theorem index_any (a : Option Addr) (c : Nat) (ns : List ByteArray) (name : ByteArray) (w : World) (hu : NRow w a c ns) :
    Calls Tryd.prog 72 #[.slice a ns.length c, .string name] w fun e w' => ∃ z, e = .returned (.int .i64 z) ∧ Ix ns name z ∧ Below w.heap.size w w' := by
  obtain ⟨h1, h2, _, hx⟩ := hu
  have hm : ns.length ≤ maxLen := Nat.le_trans h1 h2
  unfold maxLen at hm
  go_enter Tryd.func72, Tryd.ntmps72
  go_wp2_with fail
  go_loopw [5, 8] (fun _ i wr => ∃ q : Nat, i = .int .i64 (q : Int) ∧ q ≤ ns.length ∧ Below w.heap.size w wr ∧ Hid (∀ j, j < q → ns[j]? ≠ some name)) (fun _ i _ => ns.length - (intOf i).toNat)
  case atStart => exact ⟨0, rfl, Nat.zero_le _, Below.refl _ _, Lib.hid (fun j hj => by omega)⟩
  case round =>
  obtain ⟨q, rfl, hq, hB, HQ⟩ := hrel
  rcases Nat.lt_or_ge q ns.length with hlt | hge
  · have hd : decide (q < ns.length) = true := by simpa using hlt
    have hne : ns ≠ [] := fun h => by rw [h] at hlt; simp at hlt
    obtain ⟨b, off, rfl, hc⟩ := hx.resolve_left hne
    obtain ⟨t, ht⟩ : ∃ t, ns[q]? = some t := ⟨_, List.getElem?_eq_getElem hlt⟩
    have z0 := cellJ_below hB (hc q t ht)
    have HT := Lib.hid ht
    clear hx hc hne ht
    by_cases htn : t = name
    · subst htn
      go_wp2_with fail
      go_ret
      exact ⟨_, rfl, .inl ⟨q, rfl, HT.out, HQ.out⟩, hB⟩
    · have e1 := list_ne (fun h : name = t => htn h.symm)
      have e2 := list_ne htn
      have HN := Lib.hid htn
      clear htn
      go_wp2_with fail
      go_roundw
      case rel =>
        have hnq : ∀ j : Nat, j < q + 1 → ns[j]? ≠ some name := fun j hj => by
          rcases Nat.lt_or_ge j q with h | h
          · exact HQ.out j h
          · obtain rfl : j = q := by omega
            rw [HT.out]; intro h; injection h with h; exact HN.out h
        exact ⟨q + 1, by go_num, hlt, hB, Lib.hid hnq⟩
      case measure => simp [intOf]; omega
  · have hd : decide (q < ns.length) = false := by simpa using hge
    obtain rfl : q = ns.length := by omega
    go_wp2_with fail
    go_ret
    have hnone : ∀ t, t ∈ ns → t ≠ name := fun t ht h => by
      obtain ⟨i, hi, he⟩ := List.getElem_of_mem ht
      exact HQ.out i hi (by rw [List.getElem?_eq_getElem hi, he, h])
    exact ⟨_, rfl, .inr ⟨rfl, hnone⟩, hB⟩
theorem ix_some (ns : List ByteArray) (name : ByteArray) : ∃ z, Ix ns name z := by
  have key : ∀ n, (∃ i : Nat, ns[i]? = some name ∧ ∀ j : Nat, j < i → ns[j]? ≠ some name) ∨ ∀ j : Nat, j < n → ns[j]? ≠ some name := by
    intro n
    induction n with
    | zero => exact .inr fun j hj => by omega
    | succ n ih =>
      rcases ih with h | h
      · exact .inl h
      · by_cases hn : ns[n]? = some name
        · exact .inl ⟨n, hn, h⟩
        · refine .inr fun j hj => ?_
          rcases Nat.lt_or_ge j n with h1 | h1
          · exact h j h1
          · obtain rfl : j = n := by omega
            exact hn
  rcases key ns.length with ⟨i, h⟩ | h
  · exact ⟨i, .inl ⟨i, rfl, h⟩⟩
  · refine ⟨-1, .inr ⟨rfl, fun t ht he => ?_⟩⟩
    obtain ⟨i, hi, hti⟩ := List.getElem_of_mem ht
    exact h i hi (by rw [List.getElem?_eq_getElem hi, hti, he])
theorem ix_one {ns : List ByteArray} {name : ByteArray} {z z' : Int} (h : Ix ns name z) (h' : Ix ns name z') : z = z' := by
  rcases h with ⟨i, rfl, h1, h2⟩ | ⟨rfl, h1⟩ <;> rcases h' with ⟨i', rfl, h1', h2'⟩ | ⟨rfl, h1'⟩
  · rcases Nat.lt_trichotomy i i' with h | h | h
    · exact absurd h1 (h2' i h)
    · rw [h]
    · exact absurd h1' (h2 i' h)
  · exact absurd rfl (h1' _ (List.mem_of_getElem? h1))
  · exact absurd rfl (h1 _ (List.mem_of_getElem? h1'))
  · rfl
/-- what Find tells -/
def FindR (k : Int) (ns : List ByteArray) (l : List JV) (name : ByteArray) (ok : Bool) (y : JV) : Prop :=
  (ok = true ∧ k = 6 ∧ ∃ i : Nat, ns[i]? = some name ∧ (∀ j : Nat, j < i → ns[j]? ≠ some name) ∧ l[i]? = some y) ∨
  (ok = false ∧ y = JV.nil ∧ (k ≠ 6 ∨ (∀ t ∈ ns, t ≠ name) ∨ ∃ i : Nat, ns[i]? = some name ∧ (∀ j : Nat, j < i → ns[j]? ≠ some name) ∧ l.length ≤ i))
set_option maxRecDepth 100000 in
set_option maxHeartbeats 4000000 in
theorem find_any (k m : Int) (s : ByteArray) (ns : List ByteArray) (l : List JV) (name : ByteArray) (w : World) (x : Value) (hi : IsJ w (.mk k m s ns l) x) :
    Calls Tryd.prog 63 #[x, .string name] w fun e w' => ∃ Y ok y, e = .returned (.tuple #[Y, .bool ok]) ∧ IsJ w' y Y ∧ FindR k ns l name ok y ∧ Below w.heap.size w w' := by
  unfold IsJ at hi
  obtain ⟨_, _, _, na, nc, a, cap, rfl, hn, h4, h5, h6⟩ := hi
  have hm : l.length ≤ maxLen := Nat.le_trans h4 h5
  have hm2 : ns.length ≤ maxLen := Nat.le_trans hn.1 hn.2.1
  unfold maxLen at hm hm2
  have hA1 := (Below.refl _ w).alloc (Nat.le_refl _) (jobj k m s na ns.length nc a l.length cap)
  have hA2 := hA1.alloc (by simp) (.cells jzero 30)
  have hI := fun W hu => index_any na nc ns name W hu
  have HN := Lib.hid (nrow_below hA2 hn)
  have hz := jat_alloc (w.alloc (jobj k m s na ns.length nc a l.length cap)) jzero
  rw [World.size_alloc] at hz
  have HZ := Lib.hid hz
  have hx0 := jat_old (jat_alloc w #[.int .i64 k, .int .i64 m, .string s, .slice na ns.length nc, .slice a l.length cap]) (.cells jzero 30)
  have HX0 := Lib.hid hx0
  have hb0 := jbuild_zero
  clear hn hz hx0
  obtain ⟨Z, hZ⟩ := ix_some ns name
  have hI2 : ∀ W, NRow W na nc ns → Calls Tryd.prog 72 #[.slice na ns.length nc, .string name] W fun e w' => e = .returned (.int .i64 Z) ∧ Below W.heap.size W w' := fun W hu =>
    (hI W hu).mono fun e w' ⟨z, h1, h2, h3⟩ => ⟨by rw [h1, ix_one h2 hZ], h3⟩
  clear hI
  have hend : ∀ W (d : Array Value), Below w.heap.size w W → True := fun _ _ _ => trivial
  clear hend
  by_cases hk : k = 6
  · subst hk
    have hil : Z = -1 ∨ ∃ i : Nat, Z = i ∧ ns[i]? = some name ∧ ∀ j : Nat, j < i → ns[j]? ≠ some name := by
      rcases hZ with ⟨i, h1, h2⟩ | ⟨h1, _⟩
      · exact .inr ⟨i, h1, h2⟩
      · exact .inl h1
    rcases hil with rfl | ⟨i, rfl, hi1, hi2⟩
    · have hnone : FindR 6 ns l name false JV.nil := .inr ⟨rfl, rfl, .inr (.inl (by
        rcases hZ with ⟨i, h1, _⟩ | ⟨_, h2⟩
        · omega
        · exact h2))⟩
      have HF := Lib.hid hnone
      clear hnone hZ h6
      go_enter Tryd.func63, Tryd.ntmps63
      go_wp2_with (go_at_call 72; (with_reducible refine (hI2 _ HN.out).mono ?_); rintro e w1 ⟨rfl, hb1⟩; have hB1 := hA2.trans (hb1.mono hA2.size); have hz1 := jat_below hb1 HZ.out; have hx1 := jat_below hb1 HX0.out; obtain ⟨⟨x0, x1, x2, x3, x4⟩, _⟩ := jbox5 hx1; obtain ⟨⟨z0, z1, z2, z3, z4⟩, y0, y1, y2, y3, y4⟩ := jbox5 hz1)
      refine bodyPost_ret (jresults_row_tmp Tryd.results63 _ _ (w.heap.size + 1) _ _ _ _ rfl (jat_set5 hz1 _ _ _ _ _) Tryd.underlying30 rfl json_info) rfl ?_
      exact ⟨_, false, JV.nil, rfl, isJ_zero _, HF.out, jbelow_set5 hB1 (by omega) _ _ _ _ _ _ _ _ _ _⟩
    · rcases Nat.lt_or_ge i l.length with hlt | hge
      · have hd : decide ((l.length : Int) ≤ (i : Int)) = false := decide_eq_false (by omega)
        have hd0 : decide ((i : Int) < 0) = false := decide_eq_false (by omega)
        obtain ⟨y, hy⟩ : ∃ y, l[i]? = some y := ⟨_, List.getElem?_eq_getElem hlt⟩
        have hne : l ≠ [] := fun h => by rw [h] at hlt; simp at hlt
        obtain ⟨b, off, rfl, hc⟩ := h6.resolve_left hne
        have hF : FindR 6 ns l name true y := .inl ⟨rfl, rfl, i, hi1, hi2, hy⟩
        have HF := Lib.hid hF
        cases y with
        | mk yk yn ys yns yl =>
        obtain ⟨na', nc', ya, yc, ⟨g0, g1, g2, g3, g4⟩, hi'⟩ := isJL_val hc i _ _ _ _ _ hy
        have HI := Lib.hid hi'
        have HG : Hid (w.cell? ⟨b, off + i * 5, none⟩ = some (.int .i64 yk) ∧ w.cell? ⟨b, off + i * 5 + 1, none⟩ = some (.int .i64 yn) ∧ w.cell? ⟨b, off + i * 5 + 2, none⟩ = some (.string ys) ∧ w.cell? ⟨b, off + i * 5 + 3, none⟩ = some (.slice na' yns.length nc') ∧ w.cell? ⟨b, off + i * 5 + 4, none⟩ = some (.slice ya yl.length yc)) := Lib.hid ⟨g0, g1, g2, g3, g4⟩
        clear hZ h6 hF hc hne hy hi' hi1 hi2 g0 g1 g2 g3 g4
        go_enter Tryd.func63, Tryd.ntmps63
        go_wp2_with (go_at_call 72; (with_reducible refine (hI2 _ HN.out).mono ?_); rintro e w1 ⟨rfl, hb1⟩; have hB1 := hA2.trans (hb1.mono hA2.size); have hz1 := jat_below hb1 HZ.out; have hx1 := jat_below hb1 HX0.out; obtain ⟨⟨x0, x1, x2, x3, x4⟩, _⟩ := jbox5 hx1; obtain ⟨⟨z0, z1, z2, z3, z4⟩, y0, y1, y2, y3, y4⟩ := jbox5 hz1; have g0 := cellJ_below hB1 HG.out.1; have g1 := cellJ_below hB1 HG.out.2.1; have g2 := cellJ_below hB1 HG.out.2.2.1; have g3 := cellJ_below hB1 HG.out.2.2.2.1; have g4 := cellJ_below hB1 HG.out.2.2.2.2)
        refine bodyPost_ret (jresults_row_tmp Tryd.results63 _ _ (w.heap.size + 1) _ _ _ _ rfl (jat_set5 hz1 _ _ _ _ _) Tryd.underlying30 rfl json_info) rfl ?_
        have hBe := jbelow_set5 hB1 (show w.heap.size ≤ w.heap.size + 1 by omega) 0 1 2 3 4 (.int .i64 yk) (.int .i64 yn) (.string ys) (.slice na' yns.length nc') (.slice ya yl.length yc)
        exact ⟨_, true, _, rfl, isJ_below hBe _ _ HI.out, HF.out, hBe⟩
      · have hd : decide ((l.length : Int) ≤ (i : Int)) = true := decide_eq_true (by omega)
        have hd0 : decide ((i : Int) < 0) = false := decide_eq_false (by omega)
        have hF : FindR 6 ns l name false JV.nil := .inr ⟨rfl, rfl, .inr (.inr ⟨i, hi1, hi2, hge⟩)⟩
        have HF := Lib.hid hF
        clear hZ h6 hF hi1 hi2
        go_enter Tryd.func63, Tryd.ntmps63
        go_wp2_with (go_at_call 72; (with_reducible refine (hI2 _ HN.out).mono ?_); rintro e w1 ⟨rfl, hb1⟩; have hB1 := hA2.trans (hb1.mono hA2.size); have hz1 := jat_below hb1 HZ.out; have hx1 := jat_below hb1 HX0.out; obtain ⟨⟨x0, x1, x2, x3, x4⟩, _⟩ := jbox5 hx1; obtain ⟨⟨z0, z1, z2, z3, z4⟩, y0, y1, y2, y3, y4⟩ := jbox5 hz1)
        refine bodyPost_ret (jresults_row_tmp Tryd.results63 _ _ (w.heap.size + 1) _ _ _ _ rfl (jat_set5 hz1 _ _ _ _ _) Tryd.underlying30 rfl json_info) rfl ?_
        exact ⟨_, false, JV.nil, rfl, isJ_zero _, HF.out, jbelow_set5 hB1 (by omega) _ _ _ _ _ _ _ _ _ _⟩
  · have hkn : (k != 6) = true := by simpa using hk
    have hF : FindR k ns l name false JV.nil := .inr ⟨rfl, rfl, .inl hk⟩
    have HF := Lib.hid hF
    clear hZ h6 hF hk
    go_enter Tryd.func63, Tryd.ntmps63
    go_wp2_with (go_at_call 72; (with_reducible refine (hI2 _ HN.out).mono ?_); rintro e w1 ⟨rfl, hb1⟩; have hB1 := hA2.trans (hb1.mono hA2.size); have hz1 := jat_below hb1 HZ.out; have hx1 := jat_below hb1 HX0.out; obtain ⟨⟨x0, x1, x2, x3, x4⟩, _⟩ := jbox5 hx1; obtain ⟨⟨z0, z1, z2, z3, z4⟩, y0, y1, y2, y3, y4⟩ := jbox5 hz1)
    refine bodyPost_ret (jresults_row_tmp Tryd.results63 _ _ (w.heap.size + 1) _ _ _ _ rfl (jat_set5 hz1 _ _ _ _ _) Tryd.underlying30 rfl json_info) rfl ?_
    exact ⟨_, false, JV.nil, rfl, isJ_zero _, HF.out, jbelow_set5 hB1 (by omega) _ _ _ _ _ _ _ _ _ _⟩
end Go.Proofs.YtcicjpdjbfgbhaaDoor
