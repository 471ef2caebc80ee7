/- The document's each: is a value, and all in it, right by itself? (made by gen_each.py) -/
import Derived.Test.YtcicjpdjbfgbhaaGreatDoorMh34Cell
import Derived.Test.YtcicjpdjbfgbhaaGreatDoorMh23Cell
namespace Go.Proofs.YtcicjpdjbfgbhaaGreatDoor
open Go.RowKit Go.Shelf
attribute [local go_sem] Oper.semAt_some
theorem emp_iff (s : ByteArray) : s.toList.isEmpty = true ↔ s = ⟨#[]⟩ := by
  rw [toList_data]
  constructor
  · intro h
    apply ByteArray.ext
    apply Array.toList_inj.1
    rw [List.isEmpty_iff.1 h]
  · intro h; rw [h]; rfl
set_option maxRecDepth 100000 in
set_option maxHeartbeats 8000000 in
theorem refEach_any (v : PV) : ∀ w x, Is w v x → Calls Tryz.prog 42 #[x] w fun e w' => e = .returned (.bool (okV v)) ∧ Below w.heap.size w w' := by
  induction v using pv_ind with
  | h k n s l ih =>
    intro w x hi
    unfold Is at hi
    obtain ⟨h1, h2, h3, a, cap, rfl, h4, h5, h6⟩ := hi
    have hm : l.length ≤ maxLen := Nat.le_trans h4 h5
    have hB0 := (Below.refl _ w).alloc (Nat.le_refl _) (vobj k n s a l.length cap)
    have hname := fun w => refIsName_any s w h3
    have hval := fun w (h : s.size ≤ 200) => refValid_any s w (by omega)
    obtain ⟨vl, hvl⟩ : ∃ b, U.validS s = b := ⟨_, rfl⟩
    obtain ⟨nm, hnm⟩ : ∃ b, nameB (strB s) = b := ⟨_, rfl⟩
    rw [hvl] at hval
    rw [hnm] at hname
    unfold maxLen at h3 hm
    by_cases kneg : k < 0
    · have hok : okV (.mk k n s l) = false := okV6 _ _ _ _ (by omega) (by omega) (by omega) (by omega) (by omega) (by omega)
      rw [hok]
      have d0 : decide (k < 0) = true := by simpa using kneg
      clear ih h6 hvl hnm hname hval hok
      go_enter Tryz.func42, Tryz.ntmps42
      go_wp2_with (first
          | (go_at_call 64; (with_reducible refine (hname _).mono ?_); rintro e w1 ⟨rfl, rfl⟩)
          | (go_at_call 65; (with_reducible refine (hval _ hs200).mono ?_); rintro e w1 ⟨rfl, hb1⟩; obtain ⟨e0, e1, e2, e3⟩ := box_cells hb1; have hB1 := hB0.trans (hb1.mono hB0.size)))
      go_ret
      exact ⟨rfl, by first | exact hB1 | exact hB0⟩
    have dneg : decide (k < 0) = false := by simpa using kneg
    by_cases kbig : 5 < k
    · have hok : okV (.mk k n s l) = false := okV6 _ _ _ _ (by omega) (by omega) (by omega) (by omega) (by omega) (by omega)
      rw [hok]
      have d0 : decide (5 < k) = true := by simpa using kbig
      clear ih h6 hvl hnm hname hval hok
      go_enter Tryz.func42, Tryz.ntmps42
      go_wp2_with (first
          | (go_at_call 64; (with_reducible refine (hname _).mono ?_); rintro e w1 ⟨rfl, rfl⟩)
          | (go_at_call 65; (with_reducible refine (hval _ hs200).mono ?_); rintro e w1 ⟨rfl, hb1⟩; obtain ⟨e0, e1, e2, e3⟩ := box_cells hb1; have hB1 := hB0.trans (hb1.mono hB0.size)))
      go_ret
      exact ⟨rfl, by first | exact hB1 | exact hB0⟩
    have dbig : decide (5 < k) = false := by simpa using kbig
    by_cases k5 : k = 5
    · subst k5
      rw [okV5]
      rcases (show (s.toList.isEmpty = true) ∨ (s.toList.isEmpty = false) by cases s.toList.isEmpty <;> simp) with hs | hs
      · obtain rfl := (emp_iff s).1 hs
        by_cases hn : n = 0
        · subst hn
          by_cases h20 : l.length ≤ 20
          · have d20 : decide ((20 : Int) < (l.length : Int)) = false := by simp; omega
            obtain ⟨r, hr⟩ : ∃ r, okL l = r := ⟨_, rfl⟩
            have hok : ((0 : Int) == 0 && (ByteArray.toList ⟨#[]⟩).isEmpty && decide (l.length ≤ 20) && okL l) = r := by rw [hs, hr]; simp [h20]
            rw [hok]
            have HR := Lib.hid hr
            have HI := Lib.hid ih
            clear ih hvl hnm hname hval hok kneg kbig hr
            go_enter Tryz.func42, Tryz.ntmps42
            go_wp2_with fail
            go_loopw [3] (fun i wr => ∃ q : Nat, q ≤ l.length ∧ i = .int .i64 (q : Int) ∧ Below (w.alloc (vobj 5 0 ⟨#[]⟩ a l.length cap)).heap.size (w.alloc (vobj 5 0 ⟨#[]⟩ a l.length cap)) wr ∧ Hid (okL (l.drop q) = r)) (fun i _ => l.length - (intOf i).toNat)
            case atStart => exact ⟨0, Nat.zero_le _, rfl, Below.refl _ _, HR.out⟩
            case round =>
              obtain ⟨q, hq, rfl, hB, HQ⟩ := hrel
              obtain ⟨f0, f1, f2, f3⟩ := box_cells hB
              by_cases hql : q < l.length
              · have hdq : decide (q < l.length) = true := by simpa using hql
                obtain ⟨y, hy⟩ : ∃ y, l[q]? = some y := ⟨l[q], List.getElem?_eq_getElem hql⟩
                obtain ⟨b, off, rfl, hIs⟩ : ∃ b off, a = some ⟨b, off, none⟩ ∧ IsL w b l off := by
                  rcases h6 with h | h
                  · subst h; simp at hql
                  · exact h
                have hdrop : okL (l.drop q) = (okV y && okL (l.drop (q + 1))) := by
                  rw [show l.drop q = y :: l.drop (q + 1) by
                    rw [List.drop_eq_getElem_cons hql]
                    rw [List.getElem?_eq_getElem hql] at hy
                    cases hy; rfl]
                  simp only [okL]
                rw [HQ.out] at hdrop
                have hcall := fun w x hx => HI.out y (List.mem_of_getElem? hy) w x hx
                obtain ⟨z, hz⟩ : ∃ z, okV y = z := ⟨_, rfl⟩
                rw [hz] at hdrop hcall
                cases y with
                | mk yk yn ys yl =>
                obtain ⟨ya, yc, ⟨g0, g1, g2, g3⟩, hiy⟩ := isL_val (isL_below hB (isL_below hB0 hIs)) q _ _ _ _ hy
                have hi2 := Lib.hid hiy
                have HD := Lib.hid hdrop
                have HC := Lib.hid hcall
                clear h6 hIs hiy hy hz hdrop HQ hcall
                cases z with
                | true =>
                  go_wp2_with (first | (go_at_call 42; (with_reducible refine (HC.out _ _ hi2.out).mono ?_); rintro e w' ⟨rfl, hb⟩))
                  go_roundw
                  all_goals (first
                    | (case' rel => exact ⟨q + 1, by omega, by go_num, hB.trans (hb.mono hB.size), Lib.hid (by rw [HD.out, Bool.true_and])⟩)
                    | (case' measure => simp [intOf]; omega))
                | false =>
                  have hrf : r = false := by rw [HD.out, Bool.false_and]
                  subst hrf
                  go_wp2_with (first | (go_at_call 42; (with_reducible refine (HC.out _ _ hi2.out).mono ?_); rintro e w' ⟨rfl, hb⟩))
                  go_ret
                  exact ⟨rfl, hB0.trans ((hB.trans (hb.mono hB.size)).mono hB0.size)⟩
              · obtain rfl : q = l.length := by omega
                have hdq : decide (l.length < l.length) = false := by simp
                have hrt : r = true := by
                  have h := HQ.out
                  rw [List.drop_length] at h
                  simp only [okL] at h
                  exact h.symm
                subst hrt
                go_wp2_with fail
                go_ret
                exact ⟨rfl, hB0.trans (hB.mono hB0.size)⟩
          · have d20 : decide ((20 : Int) < (l.length : Int)) = true := by simp; omega
            have hok : ((0 : Int) == 0 && (ByteArray.toList ⟨#[]⟩).isEmpty && decide (l.length ≤ 20) && okL l) = false := by simp [h20]
            rw [hok]
            clear ih h6 hvl hnm hname hval hok kneg kbig
            go_enter Tryz.func42, Tryz.ntmps42
            go_wp2_with (first
                | (go_at_call 64; (with_reducible refine (hname _).mono ?_); rintro e w1 ⟨rfl, rfl⟩)
                | (go_at_call 65; (with_reducible refine (hval _ hs200).mono ?_); rintro e w1 ⟨rfl, hb1⟩; obtain ⟨e0, e1, e2, e3⟩ := box_cells hb1; have hB1 := hB0.trans (hb1.mono hB0.size)))
            go_ret
            exact ⟨rfl, by first | exact hB1 | exact hB0⟩
        · have dn : (n != 0) = true := by simpa using hn
          have hok : (n == 0 && (ByteArray.toList ⟨#[]⟩).isEmpty && decide (l.length ≤ 20) && okL l) = false := by simp [hn]
          rw [hok]
          clear ih h6 hvl hnm hname hval hok kneg kbig
          go_enter Tryz.func42, Tryz.ntmps42
          go_wp2_with (first
              | (go_at_call 64; (with_reducible refine (hname _).mono ?_); rintro e w1 ⟨rfl, rfl⟩)
              | (go_at_call 65; (with_reducible refine (hval _ hs200).mono ?_); rintro e w1 ⟨rfl, hb1⟩; obtain ⟨e0, e1, e2, e3⟩ := box_cells hb1; have hB1 := hB0.trans (hb1.mono hB0.size)))
          go_ret
          exact ⟨rfl, by first | exact hB1 | exact hB0⟩
      · have hok : (n == 0 && s.toList.isEmpty && decide (l.length ≤ 20) && okL l) = false := by rw [hs]; simp
        rw [hok]
        clear ih h6 hvl hnm hname hval hok kneg kbig
        go_enter Tryz.func42, Tryz.ntmps42
        go_wp2_with (first
            | (go_at_call 64; (with_reducible refine (hname _).mono ?_); rintro e w1 ⟨rfl, rfl⟩)
            | (go_at_call 65; (with_reducible refine (hval _ hs200).mono ?_); rintro e w1 ⟨rfl, hb1⟩; obtain ⟨e0, e1, e2, e3⟩ := box_cells hb1; have hB1 := hB0.trans (hb1.mono hB0.size)))
        go_ret
        exact ⟨rfl, by first | exact hB1 | exact hB0⟩
    by_cases hl : l = []
    · subst hl
      have hs : (s.toList.isEmpty = true) ∨ (s.toList.isEmpty = false) := by cases s.toList.isEmpty <;> simp
      by_cases k0 : k = 0
      · subst k0
        rw [okV0]
        rcases hs with hs | hs
        · obtain rfl := (emp_iff s).1 hs
          by_cases hn : n = 0
          · subst hn
            have hok : ((0 : Int) == 0 && (ByteArray.toList ⟨#[]⟩).isEmpty && ([] : List PV).isEmpty) = true := by rw [hs]; rfl
            rw [hok]
            clear ih h6 hvl hnm hname hval hok kneg kbig k5
            go_enter Tryz.func42, Tryz.ntmps42
            go_wp2_with (first
                | (go_at_call 64; (with_reducible refine (hname _).mono ?_); rintro e w1 ⟨rfl, rfl⟩)
                | (go_at_call 65; (with_reducible refine (hval _ hs200).mono ?_); rintro e w1 ⟨rfl, hb1⟩; obtain ⟨e0, e1, e2, e3⟩ := box_cells hb1; have hB1 := hB0.trans (hb1.mono hB0.size)))
            go_loopw [3] (fun i wr => i = .int .i64 0 ∧ Below (w.alloc (vobj 0 0 ⟨#[]⟩ a ([] : List PV).length cap)).heap.size (w.alloc (vobj 0 0 ⟨#[]⟩ a ([] : List PV).length cap)) wr) (fun _ _ => 0)
            case atStart => exact ⟨rfl, by first | exact hb1 | exact Below.refl _ _⟩
            case round =>
              obtain ⟨rfl, hB⟩ := hrel
              obtain ⟨f0, f1, f2, f3⟩ := box_cells hB
              go_wp2
              go_ret
              exact ⟨rfl, hB0.trans (hB.mono hB0.size)⟩
          · have dn : (n != 0) = true := by simpa using hn
            have hok : (n == 0 && (ByteArray.toList ⟨#[]⟩).isEmpty && ([] : List PV).isEmpty) = false := by simp [hn]
            rw [hok]
            clear ih h6 hvl hnm hname hval hok kneg kbig k5
            go_enter Tryz.func42, Tryz.ntmps42
            go_wp2_with (first
                | (go_at_call 64; (with_reducible refine (hname _).mono ?_); rintro e w1 ⟨rfl, rfl⟩)
                | (go_at_call 65; (with_reducible refine (hval _ hs200).mono ?_); rintro e w1 ⟨rfl, hb1⟩; obtain ⟨e0, e1, e2, e3⟩ := box_cells hb1; have hB1 := hB0.trans (hb1.mono hB0.size)))
            go_ret
            exact ⟨rfl, by first | exact hB1 | exact hB0⟩
        · have hok : (n == 0 && s.toList.isEmpty && ([] : List PV).isEmpty) = false := by rw [hs]; simp
          rw [hok]
          clear ih h6 hvl hnm hname hval hok kneg kbig k5
          go_enter Tryz.func42, Tryz.ntmps42
          go_wp2_with (first
              | (go_at_call 64; (with_reducible refine (hname _).mono ?_); rintro e w1 ⟨rfl, rfl⟩)
              | (go_at_call 65; (with_reducible refine (hval _ hs200).mono ?_); rintro e w1 ⟨rfl, hb1⟩; obtain ⟨e0, e1, e2, e3⟩ := box_cells hb1; have hB1 := hB0.trans (hb1.mono hB0.size)))
          go_ret
          exact ⟨rfl, by first | exact hB1 | exact hB0⟩
      by_cases k1 : k = 1
      · subst k1
        rw [okV1]
        rcases hs with hs | hs
        · obtain rfl := (emp_iff s).1 hs
          by_cases hn : n = 0
          · subst hn
            have hok : (((0 : Int) == 0 || (0 : Int) == 1) && (ByteArray.toList ⟨#[]⟩).isEmpty && ([] : List PV).isEmpty) = true := by rw [hs]; rfl
            rw [hok]
            clear ih h6 hvl hnm hname hval hok kneg kbig k5
            go_enter Tryz.func42, Tryz.ntmps42
            go_wp2_with (first
                | (go_at_call 64; (with_reducible refine (hname _).mono ?_); rintro e w1 ⟨rfl, rfl⟩)
                | (go_at_call 65; (with_reducible refine (hval _ hs200).mono ?_); rintro e w1 ⟨rfl, hb1⟩; obtain ⟨e0, e1, e2, e3⟩ := box_cells hb1; have hB1 := hB0.trans (hb1.mono hB0.size)))
            go_loopw [3] (fun i wr => i = .int .i64 0 ∧ Below (w.alloc (vobj 1 0 ⟨#[]⟩ a ([] : List PV).length cap)).heap.size (w.alloc (vobj 1 0 ⟨#[]⟩ a ([] : List PV).length cap)) wr) (fun _ _ => 0)
            case atStart => exact ⟨rfl, by first | exact hb1 | exact Below.refl _ _⟩
            case round =>
              obtain ⟨rfl, hB⟩ := hrel
              obtain ⟨f0, f1, f2, f3⟩ := box_cells hB
              go_wp2
              go_ret
              exact ⟨rfl, hB0.trans (hB.mono hB0.size)⟩
          by_cases hn1 : n = 1
          · subst hn1
            have hok : (((1 : Int) == 0 || (1 : Int) == 1) && (ByteArray.toList ⟨#[]⟩).isEmpty && ([] : List PV).isEmpty) = true := by rw [hs]; rfl
            rw [hok]
            clear ih h6 hvl hnm hname hval hok kneg kbig k5 hn
            go_enter Tryz.func42, Tryz.ntmps42
            go_wp2_with (first
                | (go_at_call 64; (with_reducible refine (hname _).mono ?_); rintro e w1 ⟨rfl, rfl⟩)
                | (go_at_call 65; (with_reducible refine (hval _ hs200).mono ?_); rintro e w1 ⟨rfl, hb1⟩; obtain ⟨e0, e1, e2, e3⟩ := box_cells hb1; have hB1 := hB0.trans (hb1.mono hB0.size)))
            go_loopw [3] (fun i wr => i = .int .i64 0 ∧ Below (w.alloc (vobj 1 1 ⟨#[]⟩ a ([] : List PV).length cap)).heap.size (w.alloc (vobj 1 1 ⟨#[]⟩ a ([] : List PV).length cap)) wr) (fun _ _ => 0)
            case atStart => exact ⟨rfl, by first | exact hb1 | exact Below.refl _ _⟩
            case round =>
              obtain ⟨rfl, hB⟩ := hrel
              obtain ⟨f0, f1, f2, f3⟩ := box_cells hB
              go_wp2
              go_ret
              exact ⟨rfl, hB0.trans (hB.mono hB0.size)⟩
          · have dn : (n != 0) = true := by simpa using hn
            have dn1 : (n == 1) = false := by simpa using hn1
            have hok : ((n == 0 || n == 1) && (ByteArray.toList ⟨#[]⟩).isEmpty && ([] : List PV).isEmpty) = false := by simp [hn, hn1]
            rw [hok]
            clear ih h6 hvl hnm hname hval hok kneg kbig k5
            go_enter Tryz.func42, Tryz.ntmps42
            go_wp2_with (first
                | (go_at_call 64; (with_reducible refine (hname _).mono ?_); rintro e w1 ⟨rfl, rfl⟩)
                | (go_at_call 65; (with_reducible refine (hval _ hs200).mono ?_); rintro e w1 ⟨rfl, hb1⟩; obtain ⟨e0, e1, e2, e3⟩ := box_cells hb1; have hB1 := hB0.trans (hb1.mono hB0.size)))
            go_ret
            exact ⟨rfl, by first | exact hB1 | exact hB0⟩
        · have hok : ((n == 0 || n == 1) && s.toList.isEmpty && ([] : List PV).isEmpty) = false := by rw [hs]; simp
          rw [hok]
          clear ih h6 hvl hnm hname hval hok kneg kbig k5 k0
          go_enter Tryz.func42, Tryz.ntmps42
          go_wp2_with (first
              | (go_at_call 64; (with_reducible refine (hname _).mono ?_); rintro e w1 ⟨rfl, rfl⟩)
              | (go_at_call 65; (with_reducible refine (hval _ hs200).mono ?_); rintro e w1 ⟨rfl, hb1⟩; obtain ⟨e0, e1, e2, e3⟩ := box_cells hb1; have hB1 := hB0.trans (hb1.mono hB0.size)))
          go_ret
          exact ⟨rfl, by first | exact hB1 | exact hB0⟩
      by_cases k2 : k = 2
      · subst k2
        rw [okV2]
        rcases hs with hs | hs
        · obtain rfl := (emp_iff s).1 hs
          have hok : ((ByteArray.toList ⟨#[]⟩).isEmpty && ([] : List PV).isEmpty) = true := by rw [hs]; rfl
          rw [hok]
          clear ih h6 hvl hnm hname hval hok kneg kbig k5 k0 k1
          go_enter Tryz.func42, Tryz.ntmps42
          go_wp2_with (first
              | (go_at_call 64; (with_reducible refine (hname _).mono ?_); rintro e w1 ⟨rfl, rfl⟩)
              | (go_at_call 65; (with_reducible refine (hval _ hs200).mono ?_); rintro e w1 ⟨rfl, hb1⟩; obtain ⟨e0, e1, e2, e3⟩ := box_cells hb1; have hB1 := hB0.trans (hb1.mono hB0.size)))
          go_loopw [3] (fun i wr => i = .int .i64 0 ∧ Below (w.alloc (vobj 2 n ⟨#[]⟩ a ([] : List PV).length cap)).heap.size (w.alloc (vobj 2 n ⟨#[]⟩ a ([] : List PV).length cap)) wr) (fun _ _ => 0)
          case atStart => exact ⟨rfl, by first | exact hb1 | exact Below.refl _ _⟩
          case round =>
            obtain ⟨rfl, hB⟩ := hrel
            obtain ⟨f0, f1, f2, f3⟩ := box_cells hB
            go_wp2
            go_ret
            exact ⟨rfl, hB0.trans (hB.mono hB0.size)⟩
        · have hok : (s.toList.isEmpty && ([] : List PV).isEmpty) = false := by rw [hs]; simp
          rw [hok]
          clear ih h6 hvl hnm hname hval hok kneg kbig k5 k0 k1
          go_enter Tryz.func42, Tryz.ntmps42
          go_wp2_with (first
              | (go_at_call 64; (with_reducible refine (hname _).mono ?_); rintro e w1 ⟨rfl, rfl⟩)
              | (go_at_call 65; (with_reducible refine (hval _ hs200).mono ?_); rintro e w1 ⟨rfl, hb1⟩; obtain ⟨e0, e1, e2, e3⟩ := box_cells hb1; have hB1 := hB0.trans (hb1.mono hB0.size)))
          go_ret
          exact ⟨rfl, by first | exact hB1 | exact hB0⟩
      by_cases k3 : k = 3
      · subst k3
        rw [okV3, hnm]
        by_cases hn : n = 0
        · subst hn
          cases nm with
          | true =>
            have hok : ((0 : Int) == 0 && true && ([] : List PV).isEmpty) = true := rfl
            rw [hok]
            clear ih h6 hvl hnm hval hok kneg kbig k5 k0 k1 k2 hs
            go_enter Tryz.func42, Tryz.ntmps42
            go_wp2_with (first
                | (go_at_call 64; (with_reducible refine (hname _).mono ?_); rintro e w1 ⟨rfl, rfl⟩)
                | (go_at_call 65; (with_reducible refine (hval _ hs200).mono ?_); rintro e w1 ⟨rfl, hb1⟩; obtain ⟨e0, e1, e2, e3⟩ := box_cells hb1; have hB1 := hB0.trans (hb1.mono hB0.size)))
            go_loopw [3] (fun i wr => i = .int .i64 0 ∧ Below (w.alloc (vobj 3 0 s a ([] : List PV).length cap)).heap.size (w.alloc (vobj 3 0 s a ([] : List PV).length cap)) wr) (fun _ _ => 0)
            case atStart => exact ⟨rfl, by first | exact hb1 | exact Below.refl _ _⟩
            case round =>
              obtain ⟨rfl, hB⟩ := hrel
              obtain ⟨f0, f1, f2, f3⟩ := box_cells hB
              go_wp2
              go_ret
              exact ⟨rfl, hB0.trans (hB.mono hB0.size)⟩
          | false =>
            have hok : ((0 : Int) == 0 && false && ([] : List PV).isEmpty) = false := rfl
            rw [hok]
            clear ih h6 hvl hnm hval hok kneg kbig k5 k0 k1 k2 hs
            go_enter Tryz.func42, Tryz.ntmps42
            go_wp2_with (first
                | (go_at_call 64; (with_reducible refine (hname _).mono ?_); rintro e w1 ⟨rfl, rfl⟩)
                | (go_at_call 65; (with_reducible refine (hval _ hs200).mono ?_); rintro e w1 ⟨rfl, hb1⟩; obtain ⟨e0, e1, e2, e3⟩ := box_cells hb1; have hB1 := hB0.trans (hb1.mono hB0.size)))
            go_ret
            exact ⟨rfl, by first | exact hB1 | exact hB0⟩
        · have dn : (n != 0) = true := by simpa using hn
          have hok : (n == 0 && nm && ([] : List PV).isEmpty) = false := by simp [hn]
          rw [hok]
          clear ih h6 hvl hnm hname hval hok kneg kbig k5 k0 k1 k2 hs
          go_enter Tryz.func42, Tryz.ntmps42
          go_wp2_with (first
              | (go_at_call 64; (with_reducible refine (hname _).mono ?_); rintro e w1 ⟨rfl, rfl⟩)
              | (go_at_call 65; (with_reducible refine (hval _ hs200).mono ?_); rintro e w1 ⟨rfl, hb1⟩; obtain ⟨e0, e1, e2, e3⟩ := box_cells hb1; have hB1 := hB0.trans (hb1.mono hB0.size)))
          go_ret
          exact ⟨rfl, by first | exact hB1 | exact hB0⟩
      · obtain rfl : k = 4 := by omega
        rw [okV4, hvl]
        by_cases hn : n = 0
        · subst hn
          by_cases hs200 : s.size ≤ 200
          · have d200 : decide ((200 : Int) < (s.size : Int)) = false := by simp; omega
            cases vl with
            | true =>
              have hok : ((0 : Int) == 0 && decide (s.size ≤ 200) && true && ([] : List PV).isEmpty) = true := by simp [hs200]
              rw [hok]
              clear ih h6 hvl hnm hname hok kneg kbig k5 k0 k1 k2 k3 hs
              go_enter Tryz.func42, Tryz.ntmps42
              go_wp2_with (first
                  | (go_at_call 64; (with_reducible refine (hname _).mono ?_); rintro e w1 ⟨rfl, rfl⟩)
                  | (go_at_call 65; (with_reducible refine (hval _ hs200).mono ?_); rintro e w1 ⟨rfl, hb1⟩; obtain ⟨e0, e1, e2, e3⟩ := box_cells hb1; have hB1 := hB0.trans (hb1.mono hB0.size)))
              go_loopw [3] (fun i wr => i = .int .i64 0 ∧ Below (w.alloc (vobj 4 0 s a ([] : List PV).length cap)).heap.size (w.alloc (vobj 4 0 s a ([] : List PV).length cap)) wr) (fun _ _ => 0)
              case atStart => exact ⟨rfl, by first | exact hb1 | exact Below.refl _ _⟩
              case round =>
                obtain ⟨rfl, hB⟩ := hrel
                obtain ⟨f0, f1, f2, f3⟩ := box_cells hB
                go_wp2
                go_ret
                exact ⟨rfl, hB0.trans (hB.mono hB0.size)⟩
            | false =>
              have hok : ((0 : Int) == 0 && decide (s.size ≤ 200) && false && ([] : List PV).isEmpty) = false := by simp
              rw [hok]
              clear ih h6 hvl hnm hname hok kneg kbig k5 k0 k1 k2 k3 hs
              go_enter Tryz.func42, Tryz.ntmps42
              go_wp2_with (first
                  | (go_at_call 64; (with_reducible refine (hname _).mono ?_); rintro e w1 ⟨rfl, rfl⟩)
                  | (go_at_call 65; (with_reducible refine (hval _ hs200).mono ?_); rintro e w1 ⟨rfl, hb1⟩; obtain ⟨e0, e1, e2, e3⟩ := box_cells hb1; have hB1 := hB0.trans (hb1.mono hB0.size)))
              go_ret
              exact ⟨rfl, by first | exact hB1 | exact hB0⟩
          · have d200 : decide ((200 : Int) < (s.size : Int)) = true := by simp; omega
            have hok : ((0 : Int) == 0 && decide (s.size ≤ 200) && vl && ([] : List PV).isEmpty) = false := by simp [hs200]
            rw [hok]
            clear ih h6 hvl hnm hname hval hok kneg kbig k5 k0 k1 k2 k3 hs
            go_enter Tryz.func42, Tryz.ntmps42
            go_wp2_with (first
                | (go_at_call 64; (with_reducible refine (hname _).mono ?_); rintro e w1 ⟨rfl, rfl⟩)
                | (go_at_call 65; (with_reducible refine (hval _ hs200).mono ?_); rintro e w1 ⟨rfl, hb1⟩; obtain ⟨e0, e1, e2, e3⟩ := box_cells hb1; have hB1 := hB0.trans (hb1.mono hB0.size)))
            go_ret
            exact ⟨rfl, by first | exact hB1 | exact hB0⟩
        · have dn : (n != 0) = true := by simpa using hn
          have hok : (n == 0 && decide (s.size ≤ 200) && vl && ([] : List PV).isEmpty) = false := by simp [hn]
          rw [hok]
          clear ih h6 hvl hnm hname hval hok kneg kbig k5 k0 k1 k2 k3 hs
          go_enter Tryz.func42, Tryz.ntmps42
          go_wp2_with (first
              | (go_at_call 64; (with_reducible refine (hname _).mono ?_); rintro e w1 ⟨rfl, rfl⟩)
              | (go_at_call 65; (with_reducible refine (hval _ hs200).mono ?_); rintro e w1 ⟨rfl, hb1⟩; obtain ⟨e0, e1, e2, e3⟩ := box_cells hb1; have hB1 := hB0.trans (hb1.mono hB0.size)))
          go_ret
          exact ⟨rfl, by first | exact hB1 | exact hB0⟩
    · have hok : okV (.mk k n s l) = false := by
        cases hb : okV (.mk k n s l) with
        | false => rfl
        | true => exact absurd ((ok_parts hb).2.2.2.1 k5) hl
      rw [hok]
      have dk : (k != 5) = true := by simpa using k5
      have hlp : 0 < l.length := List.length_pos_iff.2 hl
      have dl : decide (0 < l.length) = true := by simpa using hlp
      have dl2 : decide ((0 : Int) < (l.length : Int)) = true := by simp; omega
      have dl3 : l.isEmpty = false := by simpa using hl
      clear ih h6 hvl hnm hname hval hok kneg kbig k5
      go_enter Tryz.func42, Tryz.ntmps42
      go_wp2_with (first
          | (go_at_call 64; (with_reducible refine (hname _).mono ?_); rintro e w1 ⟨rfl, rfl⟩)
          | (go_at_call 65; (with_reducible refine (hval _ hs200).mono ?_); rintro e w1 ⟨rfl, hb1⟩; obtain ⟨e0, e1, e2, e3⟩ := box_cells hb1; have hB1 := hB0.trans (hb1.mono hB0.size)))
      go_ret
      exact ⟨rfl, by first | exact hB1 | exact hB0⟩
end Go.Proofs.YtcicjpdjbfgbhaaGreatDoor
