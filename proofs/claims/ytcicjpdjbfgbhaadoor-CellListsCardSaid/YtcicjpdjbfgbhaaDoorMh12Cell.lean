/- The texts of values: add, quoted, bracketed, Text. -/
import Derived.Test.YtcicjpdjbfgbhaaDoorMh4Cell
import Derived.Test.YtcicjpdjbfgbhaaDoorMh8Cell
import Derived.Test.YtcicjpdjbfgbhaaDoorMh11Cell
import Derived.Deep.RegionWith
import Derived.Deep.RegionLaw
set_option linter.unusedSimpArgs false
namespace Go.Proofs.YtcicjpdjbfgbhaaDoor
open Go.RowKit Go.Shelf
def quoteB : List Int → List Int
  | [] => []
  | x :: r => (if x = 34 ∨ x = 92 then [92, x] else [x]) ++ quoteB r
theorem quote_append (l r : List Int) : quoteB (l ++ r) = quoteB l ++ quoteB r := by
  induction l with
  | nil => rfl
  | cons x l ih => simp only [List.cons_append, quoteB, ih, List.append_assoc]
mutual
/-- a value's text -/
def textV : PV → List Int
  | .mk k n s l =>
    if k = 0 then [110, 117, 108, 108]
    else if k = 1 then (if n = 0 then [102, 97, 108, 115, 101] else [116, 114, 117, 101])
    else if k = 2 then M.prt n
    else if k = 3 then 39 :: strB s
    else if k = 4 then [34] ++ quoteB (strB s) ++ [34]
    else if k = 5 then [91] ++ textL l ++ [93]
    else []
/-- values' texts, a blank between two -/
def textL : List PV → List Int
  | [] => []
  | x :: r => textV x ++ textM r
/-- .. a blank ahead of each -/
def textM : List PV → List Int
  | [] => []
  | x :: r => 32 :: (textV x ++ textM r)
end
theorem quote_len (l : List Int) : l.length ≤ (quoteB l).length ∧ (quoteB l).length ≤ 2 * l.length := by
  induction l with
  | nil => simp [quoteB]
  | cons x r ih =>
    simp only [quoteB, List.length_append, List.length_cons]
    split <;> simp <;> omega
theorem quote_take (l : List Int) (q : Nat) (h : q < l.length) : quoteB (l.take (q + 1)) = quoteB (l.take q) ++ (if l[q]?.getD 0 = 34 ∨ l[q]?.getD 0 = 92 then [92, l[q]?.getD 0] else [l[q]?.getD 0]) := by
  rw [take_succ_getD l q h, quote_append]
  simp only [quoteB, List.append_nil]
theorem quote_take_len (l : List Int) (q : Nat) : (quoteB (l.take q)).length ≤ (quoteB l).length := by
  have : quoteB l = quoteB (l.take q) ++ quoteB (l.drop q) := by
    rw [← quote_append, List.take_append_drop]
  rw [this, List.length_append]; omega
set_option maxHeartbeats 2000000 in
theorem quoted_any (s : ByteArray) (w0 w : World) (v : Value) (xs : List Int) (ho : Owns w0 w v xs) (hl : xs.length + (quoteB (strB s)).length + 10 ≤ 70368744177664) :
    Calls Tryd.prog 53 #[v, .string s] w fun e w' => ∃ v', e = .returned v' ∧ Owns w0 w' v' (xs ++ ([34] ++ quoteB (strB s) ++ [34])) := by
  have hsl := strB_len s
  have hql := quote_len (strB s)
  have hso : s.size ≤ 70368744177664 := by omega
  have HL := Lib.hid hl
  have HQ := Lib.hid (quote_take_len (strB s))
  clear hl hql
  go_enter Tryd.func53, Tryd.ntmps53
  go_wp2_with (first
    | (at_builtin; refine wpList_owns_one rfl _ _ rfl w0 v xs rfl (owns_below ho ((Below.refl _ w).alloc (Nat.le_refl _) _)) w.heap.size 34 rfl (by simp) (by have := HL.out; omega) ?_))
  intro v1 w1 ho1 _
  go_wp2
  go_loopw [0, 5, 11] (fun b _ i wr => ∃ q : Nat, q ≤ s.size ∧ i = .int .i64 (q : Int) ∧ Owns w0 wr b (xs ++ ([34] ++ quoteB ((strB s).take q)))) (fun _ _ i _ => s.size - (intOf i).toNat)
  case atStart => exact ⟨0, Nat.zero_le _, rfl, ho1⟩
  case round =>
    obtain ⟨q, hq, rfl, how⟩ := hrel
    have hlen := HQ.out q
    have hln2 := HL.out
    have hbl : (xs ++ ([34] ++ quoteB ((strB s).take q))).length ≤ 70368744177660 := by simp only [List.length_append, List.length_cons, List.length_nil]; omega
    have HBL := Lib.hid hbl
    rcases Nat.lt_or_ge q s.size with hlt | hge
    · have hx := strB_at s q hlt
      have hst := quote_take (strB s) q (by omega)
      rw [hx] at hst
      have hd : decide (q < s.size) = true := by simpa using hlt
      have HH := Lib.hid how
      clear hx hlen hln2 hbl how
      by_cases hc : (s[q].toNat : Int) = 34 ∨ (s[q].toNat : Int) = 92
      · rw [if_pos hc] at hst
        have HST := Lib.hid hst; clear hst
        have hb1 : ((s[q].toNat : Int) == 34) = true ∨ ((s[q].toNat : Int) == 34) = false ∧ ((s[q].toNat : Int) == 92) = true := by
          rcases hc with h | h
          · left; rw [h]; rfl
          · right; rw [h]; exact ⟨rfl, rfl⟩
        generalize hcc : (s[q].toNat : Int) = c at hc hb1 HST
        clear hc
        rcases hb1 with hb1 | ⟨hb1, hb2⟩
        all_goals (
          go_wp2_with (first
            | (at_builtin; refine wpList_owns_one rfl _ _ rfl w0 u0 _ rfl (owns_below HH.out ((Below.refl _ wr).alloc (Nat.le_refl _) _)) wr.heap.size 92 rfl (by simp) (by have := HBL.out; simp only [List.length_append, List.length_cons, List.length_nil] at this ⊢; omega) ?_))
          intro v2 w2 ho2 _
          go_wp2_with (first
            | (at_builtin; refine wpList_owns_one rfl _ _ rfl w0 v2 _ rfl (owns_below ho2 ((Below.refl _ w2).alloc (Nat.le_refl _) _)) w2.heap.size c rfl (by simp) (by have := HBL.out; simp only [List.length_append, List.length_cons, List.length_nil] at this ⊢; omega) ?_))
          intro v3 w3 ho3 _
          go_wp2
          go_roundw
          all_goals (first | (case' rel => exact ⟨q + 1, by omega, by go_num, owns_congr ho3 (by rw [HST.out]; simp [List.append_assoc])⟩) | (case' measure => simp [intOf]; omega)))
      · rw [if_neg hc] at hst
        have HST := Lib.hid hst; clear hst
        have hb1 : ((s[q].toNat : Int) == 34) = false := by simp only [beq_eq_false_iff_ne]; omega
        have hb2 : ((s[q].toNat : Int) == 92) = false := by simp only [beq_eq_false_iff_ne]; omega
        generalize hcc : (s[q].toNat : Int) = c at hc hb1 hb2 HST
        clear hc
        go_wp2_with (first
          | (at_builtin; refine wpList_owns_one rfl _ _ rfl w0 u0 _ rfl (owns_below HH.out ((Below.refl _ wr).alloc (Nat.le_refl _) _)) wr.heap.size c rfl (by simp) (by have := HBL.out; simp only [List.length_append, List.length_cons, List.length_nil] at this ⊢; omega) ?_))
        intro v3 w3 ho3 _
        go_wp2
        go_roundw
        all_goals (first | (case' rel => exact ⟨q + 1, by omega, by go_num, owns_congr ho3 (by rw [HST.out]; simp [List.append_assoc])⟩) | (case' measure => simp [intOf]; omega))
    · obtain rfl : q = s.size := by omega
      have htk : (strB s).take s.size = strB s := by rw [List.take_of_length_le (by omega)]
      rw [htk] at how hbl
      have hd : decide (s.size < s.size) = false := by simp
      clear hln2 hlen hsl HBL hbl htk
      go_wp2_with (first
        | (at_builtin; refine wpList_owns_one rfl _ _ rfl w0 u0 _ rfl (owns_below how ((Below.refl _ wr).alloc (Nat.le_refl _) _)) wr.heap.size 34 rfl (by simp) (by have := HL.out; simp only [List.length_append, List.length_cons, List.length_nil]; omega) ?_))
      intro v3 w3 ho3 _
      go_wp2
      go_ret
      exact ⟨_, rfl, owns_congr ho3 (by simp [List.append_assoc])⟩
theorem textM_append (l r : List PV) : textM (l ++ r) = textM l ++ textM r := by
  induction l with
  | nil => simp [textM]
  | cons x l ih => simp only [List.cons_append, textM, ih, List.append_assoc]
theorem textL_take (l : List PV) (q : Nat) (y : PV) (h : l[q]? = some y) : textL (l.take (q + 1)) = textL (l.take q) ++ (if q = 0 then [] else [32]) ++ textV y := by
  obtain ⟨hl, rfl⟩ := List.getElem?_eq_some_iff.1 h
  cases l with
  | nil => simp at hl
  | cons x r =>
    cases q with
    | zero => simp [textL, textM]
    | succ q =>
      have hl' : q < r.length := by simpa using hl
      have h2 : r.take (q + 1) = r.take q ++ [r[q]] := by rw [List.take_add_one, List.getElem?_eq_getElem hl']; rfl
      simp only [List.take_succ_cons, textL, List.getElem_cons_succ]
      rw [h2, textM_append]
      simp [textM, List.append_assoc]
theorem textL_take_len (l : List PV) (q : Nat) : (textL (l.take q)).length ≤ (textL l).length := by
  cases l with
  | nil => simp
  | cons x r =>
    cases q with
    | zero => simp [textL]
    | succ q =>
      simp only [List.take_succ_cons, textL, List.length_append]
      have h : textM r = textM (r.take q) ++ textM (r.drop q) := by rw [← textM_append, List.take_append_drop]
      rw [h, List.length_append]; omega
theorem vbox_grown {W w' : World} {v : Value} (hg : W.grownBy w' v.ownBlock) {b : Nat} (hne : some b ≠ v.ownBlock) {c0 c1 c2 c3 : Value}
    (h : W.cell? ⟨b, 0, none⟩ = some c0 ∧ W.cell? ⟨b, 1, none⟩ = some c1 ∧ W.cell? ⟨b, 2, none⟩ = some c2 ∧ W.cell? ⟨b, 3, none⟩ = some c3) :
    w'.cell? ⟨b, 0, none⟩ = some c0 ∧ w'.cell? ⟨b, 1, none⟩ = some c1 ∧ w'.cell? ⟨b, 2, none⟩ = some c2 ∧ w'.cell? ⟨b, 3, none⟩ = some c3 :=
  ⟨cell_grown hg h.1 hne, cell_grown hg h.2.1 hne, cell_grown hg h.2.2.1 hne, cell_grown hg h.2.2.2 hne⟩
abbrev vobj' (k n : Int) (s : ByteArray) (a : Option Addr) (len cap : Nat) : Obj := Obj.cells #[.int .i64 k, .int .i64 n, .string s, .slice a len cap] 24
theorem boxed_new {w W : World} {k n : Int} {s : ByteArray} {a : Option Addr} {len cap : Nat} (hb : Below (w.alloc (vobj' k n s a len cap)).heap.size (w.alloc (vobj' k n s a len cap)) W) :
    W.cell? ⟨w.heap.size, 0, none⟩ = some (.int .i64 k) ∧ W.cell? ⟨w.heap.size, 1, none⟩ = some (.int .i64 n) ∧ W.cell? ⟨w.heap.size, 2, none⟩ = some (.string s) ∧ W.cell? ⟨w.heap.size, 3, none⟩ = some (.slice a len cap) :=
  ⟨cell_below hb (by simp), cell_below hb (by simp), cell_below hb (by simp), cell_below hb (by simp)⟩
set_option maxHeartbeats 2000000 in
theorem bracketed_any (l : List PV) (w0 : World)
    (hadd : ∀ y ∈ l, ∀ w v xs x, Is w0 y x → Owns w0 w v xs → xs.length + (textV y).length + 10 ≤ 70368744177664 → Calls Tryd.prog 31 #[v, x] w fun e w' => ∃ v', e = .returned v' ∧ Owns w0 w' v' (xs ++ textV y))
    (w : World) (v : Value) (xs : List Int) (a : Option Addr) (cap : Nat) (h4 : l.length ≤ cap) (h5 : cap ≤ maxLen) (h6 : l = [] ∨ ∃ b off, a = some ⟨b, off, none⟩ ∧ IsL w0 b l off)
    (ho : Owns w0 w v xs) (hl : xs.length + (textL l).length + 12 ≤ 70368744177664) :
    Calls Tryd.prog 54 #[v, .slice a l.length cap] w fun e w' => ∃ v', e = .returned v' ∧ Owns w0 w' v' (xs ++ ([91] ++ textL l ++ [93])) := by
  have hm : l.length ≤ maxLen := Nat.le_trans h4 h5
  unfold maxLen at hm
  have HL := Lib.hid hl
  have HT := Lib.hid (textL_take_len l)
  have HA := Lib.hid hadd
  clear hl hadd
  go_enter Tryd.func54, Tryd.ntmps54
  go_wp2_with (first
    | (at_builtin; refine wpList_owns_one rfl _ _ rfl w0 v xs rfl (owns_below ho ((Below.refl _ w).alloc (Nat.le_refl _) _)) w.heap.size 91 rfl (by simp) (by have := HL.out; omega) ?_))
  intro v1 w1 ho1 _
  go_wp2
  go_loopw [0, 5, 6, 12] (fun b _ _ i wr => ∃ q : Nat, q ≤ l.length ∧ i = .int .i64 (q : Int) ∧ Owns w0 wr b (xs ++ ([91] ++ textL (l.take q)))) (fun _ _ _ i _ => l.length - (intOf i).toNat)
  case atStart => exact ⟨0, Nat.zero_le _, rfl, by simpa [textL] using ho1⟩
  case round =>
    obtain ⟨q, hq, rfl, how⟩ := hrel
    have hlen := HT.out q
    have hln2 := HL.out
    have hbl : (xs ++ ([91] ++ textL (l.take q))).length ≤ 70368744177660 := by simp only [List.length_append, List.length_cons, List.length_nil]; omega
    have HBL := Lib.hid hbl
    rcases Nat.lt_or_ge q l.length with hlt | hge
    · have hd : decide (q < l.length) = true := by simpa using hlt
      obtain ⟨y, hy⟩ : ∃ y, l[q]? = some y := ⟨l[q], List.getElem?_eq_getElem hlt⟩
      obtain ⟨b, off, rfl, hIs⟩ : ∃ b off, a = some ⟨b, off, none⟩ ∧ IsL w0 b l off := by
        rcases h6 with h | h
        · subst h; simp at hlt
        · exact h
      have hst := textL_take l q y hy
      have hn := HT.out (q + 1)
      have hcall := HA.out y (List.mem_of_getElem? hy)
      have HST := Lib.hid hst
      have hly : (textL (l.take q)).length + (textV y).length + (if q = 0 then 0 else 1) ≤ (textL l).length := by
        rw [hst] at hn
        simp only [List.length_append] at hn
        split at hn <;> rename_i h <;> simp [h] at hn ⊢ <;> omega
      cases y with
      | mk yk yn ys yl =>
      obtain ⟨ya, yc, ⟨g0, g1, g2, g3⟩, hi⟩ := isL_val hIs q _ _ _ _ hy
      replace g0 := cell_below how.2 g0
      replace g1 := cell_below how.2 g1
      replace g2 := cell_below how.2 g2
      replace g3 := cell_below how.2 g3
      have hi2 := Lib.hid hi
      have HLY := Lib.hid hly
      have HC := Lib.hid hcall
      have HH := Lib.hid how
      have hA0 := (Below.refl _ wr).alloc (Nat.le_refl _) (vobj' yk yn ys ya yl.length yc)
      have HO := Lib.hid (owns_below how hA0)
      clear h6 hIs hi hy hst hn hcall hly hlen hln2 hbl how
      rcases Nat.eq_zero_or_pos q with hq0 | hq0
      · subst hq0
        rw [Nat.zero_mul, Nat.add_zero] at g0 g1 g2 g3
        have HLY0 := Lib.hid (show (textL (l.take 0)).length + (textV (.mk yk yn ys yl)).length ≤ (textL l).length by have := HLY.out; simp at this ⊢; omega)
        go_wp2_with (first
          | (go_at_call 31; (refine (HC.out _ _ _ _ hi2.out HO.out (by have := HLY0.out; have := HL.out; simp only [List.length_append, List.length_cons, List.length_nil]; omega)).mono ?_); rintro e w' ⟨v3, rfl, ho3⟩))
        all_goals go_roundw
        all_goals (first | (case' rel => exact ⟨1, by omega, by go_num, owns_congr ho3 (by rw [HST.out]; simp)⟩) | (case' measure => simp [intOf]; omega))
      · have hgt : decide (0 < (q : Int)) = true := by simp; omega
        have HLY1 := Lib.hid (show (textL (l.take q)).length + (textV (.mk yk yn ys yl)).length + 1 ≤ (textL l).length by have := HLY.out; rw [if_neg (by omega)] at this; omega)
        have HST1 := Lib.hid (show textL (l.take (q + 1)) = textL (l.take q) ++ [32] ++ textV (.mk yk yn ys yl) by have := HST.out; rwa [if_neg (by omega)] at this)
        clear HST HLY
        go_wp2_with (first
          | (at_builtin; refine wpList_owns_one rfl _ _ rfl w0 u0 _ rfl (owns_below HO.out ((Below.refl _ _).alloc (Nat.le_refl _) _)) (wr.heap.size + 1) 32 rfl (by simp) (by have := HBL.out; simp only [List.length_append, List.length_cons, List.length_nil] at this ⊢; omega) ?_))
        intro v2 w2 ho2 hgr
        obtain ⟨e0, e1, e2, e3⟩ := vbox_grown hgr (owns_lt HH.out (Nat.le_refl _)) (boxed_new ((Below.refl _ (wr.alloc (vobj' yk yn ys ya yl.length yc))).alloc (Nat.le_refl _) _))
        clear hgr
        go_wp2_with (first
          | (go_at_call 31; (refine (HC.out _ _ _ _ hi2.out ho2 (by have := HLY1.out; have := HL.out; simp only [List.length_append, List.length_cons, List.length_nil]; omega)).mono ?_); rintro e w' ⟨v3, rfl, ho3⟩))
        all_goals go_roundw
        all_goals (first | (case' rel => exact ⟨q + 1, by omega, by go_num, owns_congr ho3 (by rw [HST1.out]; simp)⟩) | (case' measure => simp [intOf]; omega))
    · obtain rfl : q = l.length := by omega
      have htk : l.take l.length = l := List.take_length
      rw [htk] at how hbl
      have hd : decide (l.length < l.length) = false := by simp
      clear hln2 hlen HBL hbl htk
      go_wp2_with (first
        | (at_builtin; refine wpList_owns_one rfl _ _ rfl w0 u0 _ rfl (owns_below how ((Below.refl _ wr).alloc (Nat.le_refl _) _)) wr.heap.size 93 rfl (by simp) (by have := HL.out; simp only [List.length_append, List.length_cons, List.length_nil]; omega) ?_))
      intro v3 w3 ho3 _
      go_wp2
      go_ret
      exact ⟨_, rfl, owns_congr ho3 (by simp)⟩
theorem text0 (n : Int) (s : ByteArray) (l : List PV) : textV (.mk 0 n s l) = [110, 117, 108, 108] := by simp [textV]
theorem text1 (n : Int) (s : ByteArray) (l : List PV) : textV (.mk 1 n s l) = if n = 0 then [102, 97, 108, 115, 101] else [116, 114, 117, 101] := by simp [textV]
theorem text2 (n : Int) (s : ByteArray) (l : List PV) : textV (.mk 2 n s l) = M.prt n := by simp [textV]
theorem text3 (n : Int) (s : ByteArray) (l : List PV) : textV (.mk 3 n s l) = 39 :: strB s := by simp [textV]
theorem text4 (n : Int) (s : ByteArray) (l : List PV) : textV (.mk 4 n s l) = [34] ++ quoteB (strB s) ++ [34] := by simp [textV]
theorem text5 (n : Int) (s : ByteArray) (l : List PV) : textV (.mk 5 n s l) = [91] ++ textL l ++ [93] := by simp [textV]
theorem text6 (k n : Int) (s : ByteArray) (l : List PV) (h0 : k ≠ 0) (h1 : k ≠ 1) (h2 : k ≠ 2) (h3 : k ≠ 3) (h4 : k ≠ 4) (h5 : k ≠ 5) : textV (.mk k n s l) = [] := by simp [textV, *]
set_option maxHeartbeats 4000000 in
theorem vAdd_any (t : PV) (w0 : World) : ∀ w v xs x, Is w0 t x → Owns w0 w v xs → xs.length + (textV t).length + 10 ≤ 70368744177664 →
    Calls Tryd.prog 31 #[v, x] w fun e w' => ∃ v', e = .returned v' ∧ Owns w0 w' v' (xs ++ textV t) := by
  induction t using pv_ind with
  | h k n s l ih =>
    intro w v xs x hi ho hl
    unfold Is at hi
    obtain ⟨h1, h2, h3, a, cap, rfl, h4, h5, h6⟩ := hi
    have hB0 := (Below.refl _ w).alloc (Nat.le_refl _) (vobj' k n s a l.length cap)
    have HO := Lib.hid (owns_below ho hB0)
    have hq := fun w v xs => quoted_any s w0 w v xs
    have hbr := fun w v xs => bracketed_any l w0 ih w v xs a cap h4 h5 h6
    have hp := fun w => numPrint_any n w h2.1 h2.2
    unfold Prt at hp
    have hsl := strB_len s
    clear ih h6 h4 h5
    obtain ⟨T, hT⟩ : ∃ T, textV (.mk k n s l) = T := ⟨_, rfl⟩
    rw [hT] at hl ⊢
    by_cases k0 : k = 0
    · subst k0
      rw [text0] at hT
      subst hT
      clear hq hbr hp
      have HL := Lib.hid hl; clear hl
      go_enter Tryd.func31, Tryd.ntmps31
      go_wp2_with (first
        | (at_builtin; refine wpList_owns_str rfl _ _ rfl w0 v xs rfl HO.out ⟨#[110, 117, 108, 108]⟩ rfl (show xs.length + 4 ≤ 70368744177664 by have := HL.out; simp only [List.length_cons, List.length_nil] at this; omega) ?_))
      intro v3 w3 ho3 _
      go_wp2
      go_ret
      exact ⟨_, rfl, owns_congr ho3 rfl⟩
    by_cases k1 : k = 1
    · subst k1
      clear k0 hq hbr hp
      rw [text1] at hT
      have HL := Lib.hid hl; clear hl
      by_cases hn : n = 0
      · subst hn
        rw [if_pos rfl] at hT
        subst hT
        go_enter Tryd.func31, Tryd.ntmps31
        go_wp2_with (first
          | (at_builtin; refine wpList_owns_str rfl _ _ rfl w0 v xs rfl HO.out ⟨#[102, 97, 108, 115, 101]⟩ rfl (show xs.length + 5 ≤ 70368744177664 by have := HL.out; simp only [List.length_cons, List.length_nil] at this; omega) ?_))
        intro v3 w3 ho3 _
        go_wp2
        go_ret
        exact ⟨_, rfl, owns_congr ho3 rfl⟩
      · have hne : (n == 0) = false := by simpa using hn
        rw [if_neg hn] at hT
        subst hT
        go_enter Tryd.func31, Tryd.ntmps31
        go_wp2_with (first
          | (at_builtin; refine wpList_owns_str rfl _ _ rfl w0 v xs rfl HO.out ⟨#[116, 114, 117, 101]⟩ rfl (show xs.length + 4 ≤ 70368744177664 by have := HL.out; simp only [List.length_cons, List.length_nil] at this; omega) ?_))
        intro v3 w3 ho3 _
        go_wp2
        go_ret
        exact ⟨_, rfl, owns_congr ho3 rfl⟩
    by_cases k2 : k = 2
    · subst k2
      clear k0 k1 hq hbr
      rw [text2] at hT
      have hpb := prt_bytes n
      rw [hT] at hp hpb
      have hss := strB_strOfNums T hpb
      have hsz : (strOfNums T).size = T.length := by rw [← strB_len, hss]
      have HL := Lib.hid hl
      have HS := Lib.hid hss
      have HZ := Lib.hid hsz
      clear hl hT hpb hss hsz
      go_enter Tryd.func31, Tryd.ntmps31
      go_wp2_with (first
        | (go_at_call 52; (with_reducible refine (hp _).mono ?_); rintro e w' ⟨rfl, hb⟩)
        | (at_builtin; refine wpList_owns_str rfl _ _ rfl w0 v xs rfl (owns_below HO.out hb) _ rfl (by have := HL.out; have := HZ.out; omega) ?_))
      intro v3 w3 ho3 _
      go_wp2
      go_ret
      exact ⟨_, rfl, owns_congr ho3 (by rw [HS.out])⟩
    by_cases k3 : k = 3
    · subst k3
      clear k0 k1 k2 hq hbr hp
      rw [text3] at hT
      have HL := Lib.hid hl
      have HT := Lib.hid hT
      clear hl hT
      go_enter Tryd.func31, Tryd.ntmps31
      go_wp2_with fail
      go_region_law (first
        | (refine step_owns_one rfl _ _ rfl w0 v xs (by simp [Act.eval, Act.put]) (owns_below HO.out (((Below.refl _ _).alloc (Nat.le_refl _) _).drew)) (w.heap.size + 1) 39 (by simp [Act.eval, Act.put]) (by simp) (by have := HL.out; omega) ?_; intro v2 w2 ho2 hgr; have e2 := cell_grown hgr (p := ⟨w.heap.size, 2, none⟩) (c := .string s) (by simp) (owns_lt ho (Nat.le_refl _)))
        | (refine step_owns_str rfl _ _ rfl w0 v2 _ (by simp [Act.eval, Act.put]) ho2 s (by simp [Act.eval, Act.put]) (by have := HL.out; rw [← HT.out] at this; simp only [List.length_append, List.length_cons, List.length_nil] at this ⊢; omega) ?_; intro v3 w3 ho3 hgr3))
      all_goals (
        go_simp
        go_wp2_with fail
        go_ret
        exact ⟨_, rfl, owns_congr ho3 (by rw [← HT.out]; simp)⟩)
    by_cases k4 : k = 4
    · subst k4
      clear k0 k1 k2 k3 hbr hp
      rw [text4] at hT
      have HL := Lib.hid hl
      have HT := Lib.hid hT
      clear hl hT
      go_enter Tryd.func31, Tryd.ntmps31
      go_wp2_with (first
        | (go_at_call 53; (refine (hq _ _ _ HO.out (by have := HL.out; rw [← HT.out] at this; simp only [List.length_append, List.length_cons, List.length_nil] at this; omega)).mono ?_); rintro e w' ⟨v3, rfl, ho3⟩))
      go_ret
      exact ⟨_, rfl, owns_congr ho3 (by rw [HT.out])⟩
    by_cases k5 : k = 5
    · subst k5
      clear k0 k1 k2 k3 k4 hq hp
      rw [text5] at hT
      have HL := Lib.hid hl
      have HT := Lib.hid hT
      clear hl hT
      go_enter Tryd.func31, Tryd.ntmps31
      go_wp2_with (first
        | (go_at_call 54; (refine (hbr _ _ _ HO.out (by have := HL.out; rw [← HT.out] at this; simp only [List.length_append, List.length_cons, List.length_nil] at this; omega)).mono ?_); rintro e w' ⟨v3, rfl, ho3⟩))
      go_ret
      exact ⟨_, rfl, owns_congr ho3 (by rw [HT.out])⟩
    · rw [text6 _ _ _ _ k0 k1 k2 k3 k4 k5] at hT
      subst hT
      have d0 : (k == 0) = false := by simpa using k0
      have d1 : (k == 1) = false := by simpa using k1
      have d2 : (k == 2) = false := by simpa using k2
      have d3 : (k == 3) = false := by simpa using k3
      have d4 : (k == 4) = false := by simpa using k4
      have d5 : (k == 5) = false := by simpa using k5
      clear hq hbr hp k0 k1 k2 k3 k4 k5
      go_enter Tryd.func31, Tryd.ntmps31
      go_wp2_with fail
      all_goals (go_ret; exact ⟨_, rfl, owns_congr HO.out (by simp)⟩)
set_option maxHeartbeats 1000000 in
theorem text_any (t : PV) (hl : (textV t).length ≤ 1000000000) (w : World) (x : Value) (hi : Is w t x) : Calls Tryd.prog 12 #[x] w fun e w' => e = .returned (.string (strOfNums (textV t))) ∧ Below w.heap.size w w' := by
  obtain ⟨k, n, s, l, rfl⟩ : ∃ k m s l, t = .mk k m s l := by cases t; exact ⟨_, _, _, _, rfl⟩
  have hi2 := Lib.hid hi
  unfold Is at hi
  obtain ⟨h1, h2, h3, a, cap, rfl, h4, h5, h6⟩ := hi
  have hB0 := (Below.refl _ w).alloc (Nat.le_refl _) (vobj' k n s a l.length cap)
  have ha := fun W hi => vAdd_any (.mk k n s l) W W (.slice none 0 0) [] (.agg #[.int .i64 k, .int .i64 n, .string s, .slice a l.length cap]) hi (owns_nil W) (by simp only [List.length_nil]; omega)
  obtain ⟨T, hT⟩ : ∃ T, textV (.mk k n s l) = T := ⟨_, rfl⟩
  rw [hT] at ha ⊢
  clear hT h6 hl
  have HA := Lib.hid (ha _ (is_below hB0 _ _ hi2.out))
  clear ha
  go_enter Tryd.func12, Tryd.ntmps12
  go_wp2_with (first | (go_at_call 31; (with_reducible refine HA.out.mono ?_); rintro e w' ⟨v3, rfl, ho3⟩; have hcv := conv_owned w' _ _ v3 ([] ++ T) ho3.1))
  go_ret
  exact ⟨rfl, hB0.trans (ho3.2.mono hB0.size)⟩
end Go.Proofs.YtcicjpdjbfgbhaaDoor
