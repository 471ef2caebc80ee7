/- Reading JSON: a row of things takes one more (no walk). -/
import Derived.Test.YtpiajoffddjjfaaGreatDoorMg19Jso
import Derived.Test.YtpiajoffddjjfaaGreatDoorMg7Jso
set_option linter.unusedVariables false
namespace Go.Proofs.YtpiajoffddjjfaaGreatDoor
open Go.RowKit Go.Shelf
theorem sets5 (cs : List Value) (n : Nat) (hn : cs.length = n * 5) (z0 z1 z2 z3 z4 d0 d1 d2 d3 d4 : Value) :
    (((((cs ++ [z0, z1, z2, z3, z4]).set (n * 5) d0).set (n * 5 + 1) d1).set (n * 5 + 2) d2).set (n * 5 + 3) d3).set (n * 5 + 4) d4 = cs ++ [d0, d1, d2, d3, d4] := by
  rw [List.set_append_right _ _ (by omega), List.set_append_right _ _ (by omega), List.set_append_right _ _ (by omega), List.set_append_right _ _ (by omega), List.set_append_right _ _ (by omega)]
  rw [← hn]
  have e0 : cs.length - cs.length = 0 := by omega
  have e1 : cs.length + 1 - cs.length = 1 := by omega
  have e2 : cs.length + 2 - cs.length = 2 := by omega
  have e3 : cs.length + 3 - cs.length = 3 := by omega
  have e4 : cs.length + 4 - cs.length = 4 := by omega
  rw [e0, e1, e2, e3, e4]
  rfl
/-- five cells stored -/
def set5 (W : World) (g k : Nat) (d0 d1 d2 d3 d4 : Value) : World := ((((W.setCell ⟨g, k, none⟩ d0).setCell ⟨g, k + 1, none⟩ d1).setCell ⟨g, k + 2, none⟩ d2).setCell ⟨g, k + 3, none⟩ d3).setCell ⟨g, k + 4, none⟩ d4
theorem set5_heap (W : World) (g k : Nat) (d0 d1 d2 d3 d4 : Value) (b : Nat) (h : b ≠ g) : (set5 W g k d0 d1 d2 d3 d4).heap[b]? = W.heap[b]? := by
  unfold set5
  rw [Below.heap_setCell _ _ _ b h, Below.heap_setCell _ _ _ b h, Below.heap_setCell _ _ _ b h, Below.heap_setCell _ _ _ b h, Below.heap_setCell _ _ _ b h]
theorem set5_size (W : World) (g k : Nat) (d0 d1 d2 d3 d4 : Value) : (set5 W g k d0 d1 d2 d3 d4).heap.size = W.heap.size := by simp [set5]
theorem grownJ_two {w W V : World} {r : Option Nat} (h : w.grownBy W r) (k : W.grownBy V r) : w.grownBy V r := grownJ_then h k (fun _ e => .inr e)
theorem set5_grown (W : World) (g k : Nat) (d0 d1 d2 d3 d4 : Value) : W.grownBy (set5 W g k d0 d1 d2 d3 d4) (some g) :=
  grownJ_two (grownJ_two (grownJ_two (grownJ_two (grownJ_set W g k d0) (grownJ_set _ g (k + 1) d1)) (grownJ_set _ g (k + 2) d2)) (grownJ_set _ g (k + 3) d3)) (grownJ_set _ g (k + 4) d4)
/-- the last thing's cells are stored -/
theorem own_sets5 {W : World} {B n g' : Nat} {v' z0 z1 z2 z3 z4 : Value} {cs : List Value} (hown : W.ownsRow B 25 5 v' (n + 1) (cs ++ [z0, z1, z2, z3, z4])) (hlen : cs.length = n * 5) (hg' : v'.ownBlock = some g') (d0 d1 d2 d3 d4 : Value) :
    (((((W.setCell ⟨g', n * 5, none⟩ d0).setCell ⟨g', n * 5 + 1, none⟩ d1).setCell ⟨g', n * 5 + 2, none⟩ d2).setCell ⟨g', n * 5 + 3, none⟩ d3).setCell ⟨g', n * 5 + 4, none⟩ d4).ownsRow B 25 5 v' (n + 1) (cs ++ [d0, d1, d2, d3, d4]) := by
  have k0 := own_setJ (c := d0) hown hg' (show n * 5 < (n + 1) * 5 by omega)
  have k1 := own_setJ (c := d1) k0 hg' (show n * 5 + 1 < (n + 1) * 5 by omega)
  have k2 := own_setJ (c := d2) k1 hg' (show n * 5 + 2 < (n + 1) * 5 by omega)
  have k3 := own_setJ (c := d3) k2 hg' (show n * 5 + 3 < (n + 1) * 5 by omega)
  have h := own_setJ (c := d4) k3 hg' (show n * 5 + 4 < (n + 1) * 5 by omega)
  rw [sets5 cs n hlen] at h
  exact h
/-- a thing more: F is the world behind all stores -/
theorem jel_push {B p : Nat} {W0 W4 V w6 F : World} {u v' : Value} {ys : List JV} {cs : List Value} {y : JV} {d0 d1 d2 d3 d4 : Value} {g' : Nat} (hown : W0.ownsRow B 25 5 u ys.length cs) (hel : JEl B W0 u ys cs) (hp : p < B) (hB : B ≤ W0.heap.size)
    (hg : W0.grownBy W4 (some p)) (hF : FreshJ W0.heap.size W4 y (.agg #[d0, d1, d2, d3, d4])) (hV : Below W4.heap.size W4 V) (hg6 : V.grownBy w6 u.ownBlock)
    (hv : v'.ownBlock = u.ownBlock ∨ v'.ownBlock = some V.heap.size) (hg' : v'.ownBlock = some g') (hs7 : w6.heap.size ≤ F.heap.size) (hF7 : ∀ b, B ≤ b → b < w6.heap.size → b ≠ g' → F.heap[b]? = w6.heap[b]?) : JEl B F v' (ys ++ [y]) (cs ++ [d0, d1, d2, d3, d4]) := by
  have hlen : cs.length = ys.length * 5 := hown.1
  have hub := own_blkJ hown
  have hs1 := hg.size
  have hs2 := hV.size
  have hs3 := hg6.size
  have h7 : ∀ b, B ≤ b → b < W4.heap.size → some b ≠ u.ownBlock → b ≠ g' → F.heap[b]? = W4.heap[b]? := fun b hb0 hb hne h3 =>
    (hF7 b hb0 (by omega) h3).trans ((hg6.block b (by omega) hne).trans (hV.block b hb))
  intro i z hz
  rcases Nat.lt_or_ge i ys.length with hlt | hge
  · rw [List.getElem?_append_left hlt] at hz
    obtain ⟨c0, c1, c2, c3, c4, E, F', ⟨u0, u1, u2, u3, u4⟩, ⟨q1, q2, q3⟩, hi⟩ := hel i z hz
    refine ⟨c0, c1, c2, c3, c4, E, F', ⟨?_, ?_, ?_, ?_, ?_⟩, ⟨q1, by omega, fun g hg => ?_⟩, fun W' h' => hi W' fun b b1 b2 b3 => ?_⟩
    · rw [List.getElem?_append_left (by omega), u0]
    · rw [List.getElem?_append_left (by omega), u1]
    · rw [List.getElem?_append_left (by omega), u2]
    · rw [List.getElem?_append_left (by omega), u3]
    · rw [List.getElem?_append_left (by omega), u4]
    · rcases hv with hv | hv
      · exact q3 g (hv ▸ hg)
      · rw [hv] at hg; cases hg; exact .inr (by omega)
    · have hbg : b ≠ g' := fun e => by
        subst e
        rcases hv with hv | hv
        · rcases q3 b (by rw [← hv]; exact hg') with h | h <;> omega
        · rw [hv] at hg'; cases hg'; omega
      have e : F.heap[b]? = W0.heap[b]? := by rw [h7 b (by omega) (by omega) (fun e => by rcases q3 b e.symm with h | h <;> omega) hbg, hg.block b (by omega) (by simp; omega)]
      exact (h' b b1 b2 (nt_eq b3 e)).trans e
  · have hil : i < (ys ++ [y]).length := (List.getElem?_eq_some_iff.1 hz).1
    rw [List.length_append] at hil
    simp only [List.length_cons, List.length_nil] at hil
    obtain rfl : i = ys.length := by omega
    rw [List.getElem?_append_right (by omega), Nat.sub_self] at hz
    simp at hz
    subst hz
    refine ⟨d0, d1, d2, d3, d4, W0.heap.size, W4.heap.size, ⟨?_, ?_, ?_, ?_, ?_⟩, ⟨hB, by omega, fun g hg => ?_⟩, fun W' h' => hF W' fun b b1 b2 b3 => ?_⟩
    · rw [List.getElem?_append_right (by omega), show ys.length * 5 - cs.length = 0 by omega]; rfl
    · rw [List.getElem?_append_right (by omega), show ys.length * 5 + 1 - cs.length = 1 by omega]; rfl
    · rw [List.getElem?_append_right (by omega), show ys.length * 5 + 2 - cs.length = 2 by omega]; rfl
    · rw [List.getElem?_append_right (by omega), show ys.length * 5 + 3 - cs.length = 3 by omega]; rfl
    · rw [List.getElem?_append_right (by omega), show ys.length * 5 + 4 - cs.length = 4 by omega]; rfl
    · rcases hv with hv | hv
      · exact .inl (hub g (hv ▸ hg)).1
      · rw [hv] at hg; cases hg; exact .inr (by omega)
    · have hbg : b ≠ g' := fun e => by
        subst e
        rcases hv with hv | hv
        · have := (hub b (by rw [← hv]; exact hg')).1; omega
        · rw [hv] at hg'; cases hg'; omega
      have e : F.heap[b]? = W4.heap[b]? := h7 b (by omega) b2 (fun e => by have := (hub b e.symm).1; omega) hbg
      exact (h' b b1 b2 (nt_eq b3 e)).trans e
end Go.Proofs.YtpiajoffddjjfaaGreatDoor

/- Layer 7: the library's number of four digits in sixteen. -/
namespace Go.Proofs.YtpiajoffddjjfaaGreatDoor
open Go.RowKit Go.Shelf
namespace K
def hv (l : List Int) (k : Nat) : Int := (l.take k).foldl (fun m x => m * 16 + hexv x) 0
theorem hv_succ (l : List Int) (k : Nat) (h : k < l.length) : hv l (k + 1) = hv l k * 16 + hexv (l[k]?.getD 0) := by
  unfold hv; rw [take_succ_getD l k h, List.foldl_append]; rfl
theorem hexv_bd (x : Int) : -1 ≤ hexv x ∧ hexv x ≤ 15 := by 
  unfold hexv
  repeat' split
  all_goals omega
theorem hex4_eq (l : List Int) (h : l.length = 4) : hex4 (l[0]?.getD 0) (l[1]?.getD 0) (l[2]?.getD 0) (l[3]?.getD 0) =
    if (∃ j, j < 4 ∧ hexv (l[j]?.getD 0) < 0) then -1 else hv l 4 := by
  match l, h with
  | [a, b, c, d], _ =>
    unfold hex4
    by_cases hx : hexv a < 0 ∨ hexv b < 0 ∨ hexv c < 0 ∨ hexv d < 0
    · rw [if_pos (by simpa using hx), if_pos]
      rcases hx with h | h | h | h
      · exact ⟨0, by decide, h⟩
      · exact ⟨1, by decide, h⟩
      · exact ⟨2, by decide, h⟩
      · exact ⟨3, by decide, h⟩
    · rw [if_neg (by simpa using hx), if_neg]
      · simp [hv]
      · rintro ⟨j, hj, hlt⟩
        match j, hj with
        | 0, _ => exact hx (.inl hlt)
        | 1, _ => exact hx (.inr (.inl hlt))
        | 2, _ => exact hx (.inr (.inr (.inl hlt)))
        | 3, _ => exact hx (.inr (.inr (.inr hlt)))
def lowOk (x : Int) : Bool :=
  (if 48 ≤ x ∧ x ≤ 57 then hexv x == x - 48 else if 97 ≤ bits .or .u8 x 32 ∧ bits .or .u8 x 32 ≤ 122 then
    (if bits .or .u8 x 32 ≤ 102 then hexv x == bits .or .u8 x 32 - 87 else hexv x == -1) else hexv x == -1) && decide (0 ≤ bits .or .u8 x 32) && decide (bits .or .u8 x 32 ≤ 255)
theorem lowOk_all (x : Int) (h0 : 0 ≤ x) (h1 : x ≤ 255) : lowOk x = true := U.u8_all lowOk (by decide +kernel) x h0 h1
end K
set_option maxHeartbeats 4000000 in
set_option maxRecDepth 100000 in
theorem parse16_any (s : ByteArray) (w : World) (hs : s.size = 4) (g : Int) (hg : K.hex4 ((strB s)[0]?.getD 0) ((strB s)[1]?.getD 0) ((strB s)[2]?.getD 0) ((strB s)[3]?.getD 0) = g) :
    Calls Tryz.prog 85 #[.string s, .int .i64 16, .int .i64 16] w fun e w' =>
      ((g < 0 ∧ e = .returned (.tuple #[.int .u64 0, .iface 129 (.int .i64 2)])) ∨ (0 ≤ g ∧ g ≤ 65535 ∧ e = .returned (.tuple #[.int .u64 g, .nilIface]))) ∧ Below w.heap.size w w' := by
  have hlen : (strB s).length = 4 := by rw [strB_len, hs]
  rw [K.hex4_eq _ hlen] at hg
  obtain ⟨cap, w1, hconv, hrow, hB⟩ := conv_bytes w s (by unfold maxLen; omega)
  have hb := strB_bytes s
  have hstep := fun k h => K.hv_succ (strB s) k h
  rw [hlen] at hstep
  have hbd := fun k : Nat => K.hexv_bd ((strB s)[k]?.getD 0)
  have hlow := fun k : Nat => K.lowOk_all _ (hb k).1 (hb k).2
  have hz : K.hv (strB s) 0 = 0 := rfl
  have hne : s.toList.isEmpty = false := by
    rw [toList_data]
    cases h : s.data.toList with
    | nil => have : s.data.toList.length = 4 := by simpa using hs
             rw [h] at this; cases this
    | cons _ _ => rfl
  rw [hs] at hconv hrow
  obtain ⟨_, h4c, hcm, hcells⟩ := hrow
  obtain ⟨b, off, heq, hcell⟩ : ∃ b off, (some ⟨w.heap.size, 0, none⟩ : Option Addr) = some ⟨b, off, none⟩ ∧ ∀ i, i < 4 → w1.cell? ⟨b, off + i, none⟩ = some (.int .u8 ((strB s)[i]?.getD 0)) := by
    rcases hcells with h | h
    · cases h
    · exact h
  cases heq
  simp only [Nat.zero_add] at hcell
  generalize hl : strB s = l at *
  have HG := Lib.hid hg; clear hg
  have HS := Lib.hid hstep; clear hstep
  have HBD := Lib.hid hbd; clear hbd
  have HLO := Lib.hid hlow; clear hlow
  have HB := Lib.hid hb; clear hb
  have HL := Lib.hid hl; clear hl
  go_enter Tryz.func85, Tryz.ntmps85
  go_wp2
  go_loop [12, 13, 101] (fun u n i => ∃ k : Nat, k ≤ 4 ∧ u = .bool false ∧ i = .int .i64 k ∧ n = .int .u64 (K.hv l k) ∧ 0 ≤ K.hv l k ∧ K.hv l k < 16 ^ k ∧ Hid (∀ j, j < k → 0 ≤ K.hexv (l[j]?.getD 0))) (fun _ _ i => 4 - (intOf i).toNat)
  case atStart => exact ⟨0, by decide, rfl, rfl, by rw [hz], by rw [hz]; decide, by rw [hz]; decide, Lib.hid (fun j h => by omega)⟩
  case round =>
    obtain ⟨k, hk, rfl, rfl, rfl, hn0, hn1, HJ⟩ := hrel
    rename_i hw
    by_cases hk4 : k = 4
    · subst hk4
      have hge : K.hv l 4 = g := by
        rw [← HG.out, if_neg]
        rintro ⟨j, hj, hlt⟩
        have := HJ.out j hj; omega
      have d0 : decide ((4 : Int) < 4) = false := by decide
      go_wp2
      go_ret2
      exact ⟨.inr ⟨by omega, by omega, rfl⟩, hB⟩
    · have hk4' : k < 4 := by omega
      have hc := hcell k hk4'
      have HC := Lib.hid hcell; clear hcell hcells
      have hx := HB.out k
      have hlo := HLO.out k
      have hbd := HBD.out k
      have hst := HS.out k hk4'
      have hbad : K.hexv (l[k]?.getD 0) < 0 → g = -1 := fun h => by rw [← HG.out, if_pos ⟨k, hk4', h⟩]
      have hgood : 0 ≤ K.hexv (l[k]?.getD 0) → ∀ j, j < k + 1 → 0 ≤ K.hexv (l[j]?.getD 0) := fun h j hj => by
        rcases Nat.lt_or_ge j k with h1 | h1
        · exact HJ.out j h1
        · obtain rfl : j = k := by omega
          exact h
      have HGOOD := Lib.hid hgood; clear hgood
      have HBAD := Lib.hid hbad; clear hbad
      have hn3 : K.hv l k < 65536 / 16 := by
        have : (16 : Int) ^ k ≤ 16 ^ 3 := by
          have : k = 0 ∨ k = 1 ∨ k = 2 ∨ k = 3 := by omega
          rcases this with rfl | rfl | rfl | rfl <;> decide
        omega
      have hn4 : ∀ d : Int, 0 ≤ d → d ≤ 15 → K.hv l k * 16 + d < 16 ^ (k + 1) := fun d h0 h1 => by
        have : (16 : Int) ^ (k + 1) = 16 ^ k * 16 := by rw [Int.pow_succ]
        omega
      have HN4 := Lib.hid hn4; clear hn4
      have HST := Lib.hid hst; clear hst
      clear hn1 hz hlen
      generalize hv0 : K.hv l k = n at *
      generalize hx0 : l[k]?.getD 0 = x at *
      generalize hy0 : K.hexv x = y at *
      unfold K.lowOk at hlo
      rw [hy0] at hlo
      obtain ⟨z, hzz⟩ : ∃ z, bits .or .u8 x 32 = z := ⟨_, rfl⟩
      simp only [hzz, Bool.and_eq_true, decide_eq_true_eq] at hlo
      obtain ⟨⟨hlo, hz0⟩, hz1⟩ := hlo
      have hki : decide ((k : Int) < 4) = true := by simp; omega
      clear hv0 hx0 hy0
      have h95 : x = 95 → z = 127 := by rintro rfl; rw [← hzz]; decide
      by_cases hdig : 48 ≤ x ∧ x ≤ 57
      · rw [if_pos hdig] at hlo
        have hy : y = x - 48 := by simpa using hlo
        have HY := Lib.hid hy; clear hy hlo
        have f1 : (x == 95) = false := by simp; omega
        have f2 : decide (48 ≤ x) = true := by simp; omega
        have f3 : decide (x ≤ 57) = true := by simp; omega
        clear h95 hzz hz0 hz1 hw
        go_wp2
        all_goals try (exfalso; omega)
        all_goals
          go_round
          case rel => exact ⟨k + 1, by omega, rfl, by go_num, by rw [HST.out, HY.out]; try (congr 1; omega), by rw [HST.out, HY.out]; omega, by rw [HST.out]; exact HN4.out y (by have := HY.out; omega) hbd.2, Lib.hid (HGOOD.out (by have := HY.out; omega))⟩
          case measure => simp [intOf]; omega
      · rw [if_neg hdig] at hlo
        have f2 : (decide (48 ≤ x) && decide (x ≤ 57)) = false := by simpa using hdig
        by_cases hlet : 97 ≤ z ∧ z ≤ 122
        · rw [if_pos hlet] at hlo
          have e1 : decide (97 ≤ z) = true := by simpa using hlet.1
          have e2 : decide (z ≤ 122) = true := by simpa using hlet.2
          by_cases hsix : z ≤ 102
          · rw [if_pos hsix] at hlo
            have f1 : (x == 95) = false := by simp; omega
            clear h95
            have hy : y = z - 87 := by simpa using hlo
            have HY := Lib.hid hy; clear hy hlo
            go_wp2
            all_goals try (exfalso; omega)
            all_goals
              go_round
              case rel => exact ⟨k + 1, by omega, rfl, by go_num, by rw [HST.out, HY.out]; try (congr 1; omega), by rw [HST.out, HY.out]; omega, by rw [HST.out]; exact HN4.out y (by have := HY.out; omega) hbd.2, Lib.hid (HGOOD.out (by have := HY.out; omega))⟩
              case measure => simp [intOf]; omega
          · rw [if_neg hsix] at hlo
            have f1 : (x == 95) = false := by simp; omega
            clear h95
            have hy : y = -1 := by simpa using hlo
            have HY := Lib.hid hy; clear hy hlo
            go_wp2
            all_goals try (exfalso; omega)
            all_goals (go_ret2; exact ⟨.inl ⟨by have := HBAD.out (by have := HY.out; omega); omega, rfl⟩, hB⟩)
        · rw [if_neg hlet] at hlo
          have hy : y = -1 := by simpa using hlo
          have HY := Lib.hid hy; clear hy hlo
          go_wp2
          all_goals try (exfalso; omega)
          all_goals (go_ret2; exact ⟨.inl ⟨by have := HBAD.out (by have := HY.out; omega); omega, rfl⟩, hB⟩)
end Go.Proofs.YtpiajoffddjjfaaGreatDoor
