/- The document's layer 7: Next. -/
import Derived.Test.YtiflnciapboccaaDoorTokRef2
import Derived.Test.YtiflnciapboccaaDoorTokRef4
import Derived.Test.YtiflnciapboccaaDoorTokNext
set_option linter.unusedVariables false
namespace Go.Proofs.YtiflnciapboccaaDoor
open Go.RowKit Go.Shelf
theorem results_refNext (tmps : Array Value) (w : World) (g : Nat) (cs : Array Value) (hp : tmps.getD 4 undef = .pointer (some ⟨g, 0, none⟩)) (hg : GAt w g cs) (hs : cs.size = 5) :
    (results Tryd.f10 tmps).run Tryd.prog w = .ok (.tuple #[.agg cs, tmps.getD 5 undef, tmps.getD 6 undef]) w :=
  results_row_tmp2 Tryd.results10 tmps w g _ cs _ _ hp hg Tryd.underlying24 rfl (by rw [token_info, hs])
namespace K
theorem nb_iff (x : Int) : [45, 43, 46, 101, 69, 48, 49, 50, 51, 52, 53, 54, 55, 56, 57].contains x = nb.contains x := by
  rw [Bool.eq_iff_iff, List.contains_iff_mem, List.contains_iff_mem]
  simp [nb, dg]; omega
theorem num1_iff (x : Int) : ([45, 48, 49, 50, 51, 52, 53, 54, 55, 56, 57].contains x = true) ↔ (x = 45 ∨ dg.contains x = true) := by
  rw [dg_iff, List.contains_iff_mem]
  simp; omega
theorem lt_iff (x : Int) : lt.contains x = true ↔ (97 ≤ x ∧ x ≤ 122) ∨ (65 ≤ x ∧ x ≤ 90) := by
  rw [List.contains_iff_mem]
  simp [lt]; omega
theorem mk_iff (x : Int) : mk.contains x = true ↔ x = 91 ∨ x = 93 ∨ x = 123 ∨ x = 125 ∨ x = 58 ∨ x = 44 := by
  rw [List.contains_iff_mem]
  simp [mk]
/-- a token that begins with none of the marks, with no quote and no number's byte -/
theorem tok_word (l : List Int) (p : Nat) (hp : p < l.length) (h34 : l[p]?.getD 0 ≠ 34) (hn : ¬ (l[p]?.getD 0 = 45 ∨ dg.contains (l[p]?.getD 0) = true)) (hm : ¬ mk.contains (l[p]?.getD 0) = true) :
    tok l p = if isWord (row l p (runTo lt l p)) = true then (⟨9, p, runTo lt l p, row l p (runTo lt l p), 0⟩, runTo lt l p, 0) else (zero, p, 2) := by
  unfold tok
  rw [if_neg (by omega), if_neg h34, if_neg hn]
  by_cases hl : lt.contains (l[p]?.getD 0) = true
  · rw [if_pos hl]
  · rw [if_neg hl, if_neg hm]
    have : runTo lt l p = p := runTo_stop lt l p (fun _ => by simpa using hl)
    rw [this, if_neg]
    unfold row isWord
    rw [List.drop_of_length_le (by rw [List.length_take]; omega)]
    simp
/-- a mark -/
theorem tok_mark (l : List Int) (p : Nat) (hp : p < l.length) (hm : mk.contains (l[p]?.getD 0) = true) :
    tok l p = (⟨1 + (mk.idxOf (l[p]?.getD 0) : Nat), p, (p + 1 : Nat), [], 0⟩, p + 1, 0) := by
  have hx := (mk_iff _).1 hm
  unfold tok
  rw [if_neg (by omega), if_neg (by omega), if_neg (by rw [dg_iff]; omega), if_neg (by rw [lt_iff]; omega), if_pos hm]
/-- a number -/
theorem tok_num (l : List Int) (p : Nat) (hp : p < l.length) (hn : l[p]?.getD 0 = 45 ∨ dg.contains (l[p]?.getD 0) = true) :
    tok l p = if (number (row l p (runTo nb l p))).2 = 0 then (⟨8, p, runTo nb l p, [], (number (row l p (runTo nb l p))).1⟩, runTo nb l p, 0) else (zero, p, (number (row l p (runTo nb l p))).2) := by
  unfold tok
  rw [if_neg (by omega), if_neg (by rw [dg_iff] at hn; omega), if_pos hn]
end K
/-- the two cells' blocks of the document's Next: what it answers, and the token so far -/
def NX (w : World) (W : World) (q : Nat) : Prop := GAt W w.heap.size tzero ∧ GAt W (w.heap.size + 1) #[.int .i64 0, .int .i64 (q : Int), .int .i64 (q : Int), .string ⟨#[]⟩, .int .i64 0] ∧ Below w.heap.size w W
theorem nx_below {w W W' : World} {q : Nat} (h : NX w W q) (hb : Below W.heap.size W W') : NX w W' q := ⟨gat_below hb h.1, gat_below hb h.2.1, h.2.2.trans (hb.mono h.2.2.size)⟩
theorem nx_end {w W : World} {q : Nat} (h : NX w W q) (d0 d1 d2 d3 d4 : Value) (W' : World)
    (hW : W' = ((((W.setCell ⟨w.heap.size, 0, none⟩ d0).setCell ⟨w.heap.size, 1, none⟩ d1).setCell ⟨w.heap.size, 2, none⟩ d2).setCell ⟨w.heap.size, 3, none⟩ d3).setCell ⟨w.heap.size, 4, none⟩ d4) :
    GAt W' w.heap.size #[d0, d1, d2, d3, d4] ∧ Below w.heap.size w W' := by
  subst hW
  exact ⟨gat_set5 h.1 _ _ _ _ _, below_set5 h.2.2 (Nat.le_refl _) 0 1 2 3 4 d0 d1 d2 d3 d4⟩
theorem nx_end2 {w W : World} {q : Nat} (h : NX w W q) (e0 e2 : Value) (d0 d1 d2 d3 d4 : Value) (W' : World)
    (hW : W' = (((((((W.setCell ⟨w.heap.size + 1, 0, none⟩ e0).setCell ⟨w.heap.size + 1, 2, none⟩ e2).setCell ⟨w.heap.size, 0, none⟩ d0).setCell ⟨w.heap.size, 1, none⟩ d1).setCell ⟨w.heap.size, 2, none⟩ d2).setCell ⟨w.heap.size, 3, none⟩ d3).setCell ⟨w.heap.size, 4, none⟩ d4).drew) :
    GAt W' w.heap.size #[d0, d1, d2, d3, d4] ∧ Below w.heap.size w W' := by
  subst hW
  have hne : w.heap.size ≠ w.heap.size + 1 := by omega
  exact ⟨gat_drew (gat_set5 (gat_other (gat_other h.1 hne 0 e0) hne 2 e2) _ _ _ _ _), (below_set5 ((h.2.2.setCell (p := ⟨w.heap.size + 1, 0, none⟩) (Nat.le_succ _) e0).setCell (p := ⟨w.heap.size + 1, 2, none⟩) (Nat.le_succ _) e2) (Nat.le_refl _) 0 1 2 3 4 d0 d1 d2 d3 d4).drew⟩
theorem strOfNums_row (s : ByteArray) (p q : Nat) : strOfNums (K.row (strB s) p q) = s.extract p q := by
  rw [← strOfNums_strB (s.extract p q), strB_sub]; rfl
theorem build_text7 (W : World) (a b : Int) (s : ByteArray) : (Instr.build 24 #[(0, .int .i64 7), (1, .int .i64 a), (2, .int .i64 b), (3, .string s)]).run Tryd.prog W = .ok (.agg #[.int .i64 7, .int .i64 a, .int .i64 b, .string s, .int .i64 0]) W :=
  run_build W 24 _ _ (by kernel_rfl)
theorem build_num8 (W : World) (a b n : Int) : (Instr.build 24 #[(0, .int .i64 8), (1, .int .i64 a), (2, .int .i64 b), (4, .int .i64 n)]).run Tryd.prog W = .ok (.agg #[.int .i64 8, .int .i64 a, .int .i64 b, .string ⟨#[]⟩, .int .i64 n]) W :=
  run_build W 24 _ _ (by kernel_rfl)
theorem build_word9 (W : World) (a b : Int) (s : ByteArray) : (Instr.build 24 #[(0, .int .i64 9), (1, .int .i64 a), (2, .int .i64 b), (3, .string s)]).run Tryd.prog W = .ok (.agg #[.int .i64 9, .int .i64 a, .int .i64 b, .string s, .int .i64 0]) W :=
  run_build W 24 _ _ (by kernel_rfl)
theorem ret_tok {t : K.Tok} {v : Value} {a b c d : Int} (h : v = tokV t) (h' : a = c) (h'' : b = d) : Ending.returned (.tuple #[v, .int .i64 a, .int .i64 b]) = .returned (.tuple #[tokV t, .int .i64 c, .int .i64 d]) := by rw [h, h', h'']
set_option maxHeartbeats 16000000 in
set_option maxRecDepth 100000 in
theorem refNext_any (s : ByteArray) (p : Int) (w : World) (hsm : s.size ≤ 100000) (hp0 : -9223372036854775808 ≤ p) (hp1 : p ≤ 9223372036854775807) :
    Calls Tryd.prog 10 #[.string s, .int .i64 p] w fun e w' => e = .returned (.tuple #[tokV (K.nextAt (strB s) p).1, .int .i64 (K.nextAt (strB s) p).2.1, .int .i64 (K.nextAt (strB s) p).2.2]) ∧ Below w.heap.size w w' := by
  obtain ⟨g, hg⟩ : ∃ g, K.nextAt (strB s) p = g := ⟨_, rfl⟩
  rw [hg]
  unfold K.nextAt at hg
  rw [strB_len] at hg
  have H5 := token_info
  by_cases hin : 0 ≤ p ∧ p ≤ s.size
  case neg =>
    rw [if_neg hin] at hg
    subst hg
    have HIN := Lib.hid hin
    rcases Int.lt_or_le p 0 with h0 | h0
    · have d1 : decide (p < 0) = true := decide_eq_true h0
      clear hin
      go_enter Tryd.func10, Tryd.ntmps10
      go_wp2
      refine bodyPost_ret (results_refNext _ _ w.heap.size _ rfl (gat_old (gat_alloc _ _) _) rfl) rfl ?_
      exact ⟨ret_vii rfl rfl rfl, ((Below.refl _ w).alloc (Nat.le_refl _) _).alloc (by simp) _⟩
    · have d1 : decide (p < 0) = false := decide_eq_false (by omega)
      have d2 : decide ((s.size : Int) < p) = true := decide_eq_true (by omega)
      clear hin
      go_enter Tryd.func10, Tryd.ntmps10
      go_wp2
      refine bodyPost_ret (results_refNext _ _ w.heap.size _ rfl (gat_old (gat_alloc _ _) _) rfl) rfl ?_
      exact ⟨ret_vii rfl rfl rfl, ((Below.refl _ w).alloc (Nat.le_refl _) _).alloc (by simp) _⟩
  rw [if_pos hin] at hg
  obtain ⟨n, rfl⟩ := Int.eq_ofNat_of_zero_le hin.1
  have hn : n ≤ s.size := by omega
  rw [Int.toNat_natCast] at hg
  unfold K.next at hg
  have d1 : decide ((n : Int) < 0) = false := by simp
  have d2 : decide ((s.size : Int) < (n : Int)) = false := by simp; omega
  have d2' : decide (s.size < n) = false := by simp; omega
  have l1 := K.runTo_le K.bl (strB s) n (by rw [strB_len]; exact hn)
  rw [strB_len] at l1
  obtain ⟨q, hq⟩ : ∃ q, K.runTo K.bl (strB s) n = q := ⟨_, rfl⟩
  simp only [hq] at l1 hg
  have HQ := Lib.hid hq; clear hq
  have HG := Lib.hid hg; clear hg
  go_enter Tryd.func10, Tryd.ntmps10
  go_wp2
  go_loop [1] (fun i => ∃ k : Nat, k ≤ s.size ∧ i = .int .i64 k ∧ Hid (K.runTo K.bl (strB s) k = q)) (fun i => s.size - (intOf i).toNat)
  case atStart => exact ⟨n, hn, rfl, HQ⟩
  case round =>
    clear HQ
    obtain ⟨k, hk, rfl, HK⟩ := hrel
    by_cases hgo : ∃ h : k < s.size, K.bl.contains (s[k].toNat : Int) = true
    · obtain ⟨hlt, hbl⟩ := hgo
      have hx := strB_at s k hlt
      have hd : decide (k < s.size) = true := decide_eq_true hlt
      have HS : Hid (K.runTo K.bl (strB s) (k + 1) = q) := Lib.hid (by rw [← K.runTo_step K.bl (strB s) k (by rw [strB_len]; exact hlt) (by rw [hx]; exact hbl)]; exact HK.out)
      have cI := fun w => refIn_any (s[k].toNat : Int) ⟨#[32, 9, 10, 13]⟩ K.bl (by decide) w (by decide)
      simp only [hbl] at cI
      clear hbl hx
      go_wp2_with (go_at_call 21; (with_reducible refine (cI _).mono ?_); rintro e w' ⟨rfl, rfl⟩)
      go_round
      case rel => exact ⟨k + 1, by omega, by go_num, HS⟩
      case measure => simp [intOf]; omega
    · have hkq : k = q := by
        rw [← HK.out]
        refine (K.runTo_stop K.bl (strB s) k (fun h => ?_)).symm
        rw [strB_len] at h
        rw [strB_at s k h]
        cases hc : K.bl.contains (s[k].toNat : Int) with
        | false => rfl
        | true => exact absurd ⟨h, hc⟩ hgo
      subst hkq
      have cI : ∀ (h : k < s.size) w, Calls Tryd.prog 21 #[.int .u8 (s[k].toNat : Int), .string ⟨#[32, 9, 10, 13]⟩] w fun e w' => e = .returned (.bool false) ∧ w = w' := fun h w => by
        have hh := refIn_any (s[k].toNat : Int) ⟨#[32, 9, 10, 13]⟩ K.bl (by decide) w (by decide)
        rwa [show K.bl.contains (s[k].toNat : Int) = false by
          cases hc : K.bl.contains (s[k].toNat : Int) with
          | false => rfl
          | true => exact absurd ⟨h, hc⟩ hgo] at hh
      clear hgo HK l1 hin d1 d2 d2' hn
      rcases Nat.lt_or_ge k s.size with hlt | hge
      case inr =>
        have hd : decide (k < s.size) = false := decide_eq_false (by omega)
        have hd2 : ((k : Int) == (s.size : Int)) = true := by simp; omega
        have hg := HG.out
        unfold K.tok at hg
        rw [strB_len, if_pos hge] at hg
        subst hg
        clear cI
        go_wp2
        refine bodyPost_ret (results_refNext _ _ w.heap.size _ rfl (gat_old (gat_alloc _ _) _) rfl) rfl ?_
        exact ⟨ret_vii rfl rfl rfl, ((Below.refl _ w).alloc (Nat.le_refl _) _).alloc (by simp) _⟩
      have hd : decide (k < s.size) = true := decide_eq_true hlt
      have hd2 : ((k : Int) == (s.size : Int)) = false := by simp; omega
      have cI := cI hlt
      go_upto_region 10 with (go_at_call 21; (with_reducible refine (cI _).mono ?_); rintro e w' ⟨rfl, rfl⟩)
      have HNX0 : NX w ((w.alloc (.cells tzero 24)).alloc (.cells #[.int .i64 0, .int .i64 (k : Int), .int .i64 (k : Int), .string ⟨#[]⟩, .int .i64 0] 24)) k :=
        ⟨gat_old (gat_alloc _ _) _, by have h := gat_alloc (w.alloc (.cells tzero 24)) #[.int .i64 0, .int .i64 (k : Int), .int .i64 (k : Int), .string ⟨#[]⟩, .int .i64 0]; rwa [World.size_alloc] at h, ((Below.refl _ w).alloc (Nat.le_refl _) _).alloc (by simp) _⟩
      have hx := strB_at s k hlt
      have hu := u8_bd s[k]
      have HX := Lib.hid hx; clear hx
      go_wp2
      clear cI
      go_loopw [9] (fun i wr => ∃ j : Nat, j ≤ 6 ∧ i = .int .i64 (j : Int) ∧ Hid (∀ m, m < j → K.mk[m]?.getD 0 ≠ (s[k].toNat : Int)) ∧ NX w wr k) (fun i _ => 6 - (intOf i).toNat)
      case atStart => exact ⟨0, Nat.zero_le _, rfl, Lib.hid (fun m h => by omega), HNX0⟩
      case round =>
        clear HNX0
        obtain ⟨j, hj, rfl, HJ, HNX⟩ := hrel
        have HN' := Lib.hid HNX
        obtain ⟨⟨p0, p1, p2, p3, p4⟩, q0, q1, q2, q3, q4⟩ := box5 HNX.2.1
        have r0 := HNX.1
        obtain ⟨_, s0, s1, s2, s3, s4⟩ := box5 r0
        have hsz : w.heap.size + 1 < wr.heap.size := gat_lt HNX.2.1
        clear r0 HNX
        have hj7 : j = 0 ∨ j = 1 ∨ j = 2 ∨ j = 3 ∨ j = 4 ∨ j = 5 ∨ j = 6 := by omega
        rcases hj7 with rfl | rfl | rfl | rfl | rfl | rfl | rfl
        case inl =>
          by_cases hv : (s[k].toNat : Int) = 91
          · have e1 : ((s[k].toNat : Int) == (((ByteArray.mk #[91, 93, 123, 125, 58, 44])[0]'(by decide)).toNat : Int)) = true := (show ((s[k].toNat : Int) == (91 : Int)) = true by simpa using hv)
            have hg := HG.out
            rw [K.tok_mark (strB s) k (by rw [strB_len]; exact hlt) (by rw [HX.out, hv]; decide), HX.out, hv, show ((K.mk.idxOf (91 : Int) : Nat) : Int) = 0 by decide] at hg
            subst hg
            have HV := Lib.hid hv; clear hv hu
            go_wp2
            go_region
            all_goals go_wp2
            all_goals
              refine bodyPost_ret (results_refNext _ _ w.heap.size _ rfl (nx_end2 HN'.out _ _ _ _ _ _ _ _ rfl).1 rfl) rfl ?_
              exact ⟨ret_vii rfl (by simp) rfl, (nx_end2 HN'.out _ _ _ _ _ _ _ _ rfl).2⟩
          · have e1 : ((s[k].toNat : Int) == (((ByteArray.mk #[91, 93, 123, 125, 58, 44])[0]'(by decide)).toNat : Int)) = false := (show ((s[k].toNat : Int) == (91 : Int)) = false by simpa using hv)
            have HJ2 : Hid (∀ m, m < 1 → K.mk[m]?.getD 0 ≠ (s[k].toNat : Int)) := Lib.hid (fun m hm => by
              rcases Nat.lt_or_ge m 0 with h | h
              · exact HJ.out m h
              · obtain rfl : m = 0 := by omega
                exact fun h => hv h.symm)
            have HV := Lib.hid hv; clear hv HJ hu
            go_wp2
            go_region
            all_goals go_wp2
            all_goals
              go_roundw
              case rel => exact ⟨1, by omega, rfl, HJ2, nx_below HN'.out (Below.refl _ _).drew⟩
              case measure => simp [intOf]
        case inr.inl =>
          by_cases hv : (s[k].toNat : Int) = 93
          · have e1 : ((s[k].toNat : Int) == (((ByteArray.mk #[91, 93, 123, 125, 58, 44])[1]'(by decide)).toNat : Int)) = true := (show ((s[k].toNat : Int) == (93 : Int)) = true by simpa using hv)
            have hg := HG.out
            rw [K.tok_mark (strB s) k (by rw [strB_len]; exact hlt) (by rw [HX.out, hv]; decide), HX.out, hv, show ((K.mk.idxOf (93 : Int) : Nat) : Int) = 1 by decide] at hg
            subst hg
            have HV := Lib.hid hv; clear hv hu
            go_wp2
            go_region
            all_goals go_wp2
            all_goals
              refine bodyPost_ret (results_refNext _ _ w.heap.size _ rfl (nx_end2 HN'.out _ _ _ _ _ _ _ _ rfl).1 rfl) rfl ?_
              exact ⟨ret_vii rfl (by simp) rfl, (nx_end2 HN'.out _ _ _ _ _ _ _ _ rfl).2⟩
          · have e1 : ((s[k].toNat : Int) == (((ByteArray.mk #[91, 93, 123, 125, 58, 44])[1]'(by decide)).toNat : Int)) = false := (show ((s[k].toNat : Int) == (93 : Int)) = false by simpa using hv)
            have HJ2 : Hid (∀ m, m < 2 → K.mk[m]?.getD 0 ≠ (s[k].toNat : Int)) := Lib.hid (fun m hm => by
              rcases Nat.lt_or_ge m 1 with h | h
              · exact HJ.out m h
              · obtain rfl : m = 1 := by omega
                exact fun h => hv h.symm)
            have HV := Lib.hid hv; clear hv HJ hu
            go_wp2
            go_region
            all_goals go_wp2
            all_goals
              go_roundw
              case rel => exact ⟨2, by omega, rfl, HJ2, nx_below HN'.out (Below.refl _ _).drew⟩
              case measure => simp [intOf]
        case inr.inr.inl =>
          by_cases hv : (s[k].toNat : Int) = 123
          · have e1 : ((s[k].toNat : Int) == (((ByteArray.mk #[91, 93, 123, 125, 58, 44])[2]'(by decide)).toNat : Int)) = true := (show ((s[k].toNat : Int) == (123 : Int)) = true by simpa using hv)
            have hg := HG.out
            rw [K.tok_mark (strB s) k (by rw [strB_len]; exact hlt) (by rw [HX.out, hv]; decide), HX.out, hv, show ((K.mk.idxOf (123 : Int) : Nat) : Int) = 2 by decide] at hg
            subst hg
            have HV := Lib.hid hv; clear hv hu
            go_wp2
            go_region
            all_goals go_wp2
            all_goals
              refine bodyPost_ret (results_refNext _ _ w.heap.size _ rfl (nx_end2 HN'.out _ _ _ _ _ _ _ _ rfl).1 rfl) rfl ?_
              exact ⟨ret_vii rfl (by simp) rfl, (nx_end2 HN'.out _ _ _ _ _ _ _ _ rfl).2⟩
          · have e1 : ((s[k].toNat : Int) == (((ByteArray.mk #[91, 93, 123, 125, 58, 44])[2]'(by decide)).toNat : Int)) = false := (show ((s[k].toNat : Int) == (123 : Int)) = false by simpa using hv)
            have HJ2 : Hid (∀ m, m < 3 → K.mk[m]?.getD 0 ≠ (s[k].toNat : Int)) := Lib.hid (fun m hm => by
              rcases Nat.lt_or_ge m 2 with h | h
              · exact HJ.out m h
              · obtain rfl : m = 2 := by omega
                exact fun h => hv h.symm)
            have HV := Lib.hid hv; clear hv HJ hu
            go_wp2
            go_region
            all_goals go_wp2
            all_goals
              go_roundw
              case rel => exact ⟨3, by omega, rfl, HJ2, nx_below HN'.out (Below.refl _ _).drew⟩
              case measure => simp [intOf]
        case inr.inr.inr.inl =>
          by_cases hv : (s[k].toNat : Int) = 125
          · have e1 : ((s[k].toNat : Int) == (((ByteArray.mk #[91, 93, 123, 125, 58, 44])[3]'(by decide)).toNat : Int)) = true := (show ((s[k].toNat : Int) == (125 : Int)) = true by simpa using hv)
            have hg := HG.out
            rw [K.tok_mark (strB s) k (by rw [strB_len]; exact hlt) (by rw [HX.out, hv]; decide), HX.out, hv, show ((K.mk.idxOf (125 : Int) : Nat) : Int) = 3 by decide] at hg
            subst hg
            have HV := Lib.hid hv; clear hv hu
            go_wp2
            go_region
            all_goals go_wp2
            all_goals
              refine bodyPost_ret (results_refNext _ _ w.heap.size _ rfl (nx_end2 HN'.out _ _ _ _ _ _ _ _ rfl).1 rfl) rfl ?_
              exact ⟨ret_vii rfl (by simp) rfl, (nx_end2 HN'.out _ _ _ _ _ _ _ _ rfl).2⟩
          · have e1 : ((s[k].toNat : Int) == (((ByteArray.mk #[91, 93, 123, 125, 58, 44])[3]'(by decide)).toNat : Int)) = false := (show ((s[k].toNat : Int) == (125 : Int)) = false by simpa using hv)
            have HJ2 : Hid (∀ m, m < 4 → K.mk[m]?.getD 0 ≠ (s[k].toNat : Int)) := Lib.hid (fun m hm => by
              rcases Nat.lt_or_ge m 3 with h | h
              · exact HJ.out m h
              · obtain rfl : m = 3 := by omega
                exact fun h => hv h.symm)
            have HV := Lib.hid hv; clear hv HJ hu
            go_wp2
            go_region
            all_goals go_wp2
            all_goals
              go_roundw
              case rel => exact ⟨4, by omega, rfl, HJ2, nx_below HN'.out (Below.refl _ _).drew⟩
              case measure => simp [intOf]
        case inr.inr.inr.inr.inl =>
          by_cases hv : (s[k].toNat : Int) = 58
          · have e1 : ((s[k].toNat : Int) == (((ByteArray.mk #[91, 93, 123, 125, 58, 44])[4]'(by decide)).toNat : Int)) = true := (show ((s[k].toNat : Int) == (58 : Int)) = true by simpa using hv)
            have hg := HG.out
            rw [K.tok_mark (strB s) k (by rw [strB_len]; exact hlt) (by rw [HX.out, hv]; decide), HX.out, hv, show ((K.mk.idxOf (58 : Int) : Nat) : Int) = 4 by decide] at hg
            subst hg
            have HV := Lib.hid hv; clear hv hu
            go_wp2
            go_region
            all_goals go_wp2
            all_goals
              refine bodyPost_ret (results_refNext _ _ w.heap.size _ rfl (nx_end2 HN'.out _ _ _ _ _ _ _ _ rfl).1 rfl) rfl ?_
              exact ⟨ret_vii rfl (by simp) rfl, (nx_end2 HN'.out _ _ _ _ _ _ _ _ rfl).2⟩
          · have e1 : ((s[k].toNat : Int) == (((ByteArray.mk #[91, 93, 123, 125, 58, 44])[4]'(by decide)).toNat : Int)) = false := (show ((s[k].toNat : Int) == (58 : Int)) = false by simpa using hv)
            have HJ2 : Hid (∀ m, m < 5 → K.mk[m]?.getD 0 ≠ (s[k].toNat : Int)) := Lib.hid (fun m hm => by
              rcases Nat.lt_or_ge m 4 with h | h
              · exact HJ.out m h
              · obtain rfl : m = 4 := by omega
                exact fun h => hv h.symm)
            have HV := Lib.hid hv; clear hv HJ hu
            go_wp2
            go_region
            all_goals go_wp2
            all_goals
              go_roundw
              case rel => exact ⟨5, by omega, rfl, HJ2, nx_below HN'.out (Below.refl _ _).drew⟩
              case measure => simp [intOf]
        case inr.inr.inr.inr.inr.inl =>
          by_cases hv : (s[k].toNat : Int) = 44
          · have e1 : ((s[k].toNat : Int) == (((ByteArray.mk #[91, 93, 123, 125, 58, 44])[5]'(by decide)).toNat : Int)) = true := (show ((s[k].toNat : Int) == (44 : Int)) = true by simpa using hv)
            have hg := HG.out
            rw [K.tok_mark (strB s) k (by rw [strB_len]; exact hlt) (by rw [HX.out, hv]; decide), HX.out, hv, show ((K.mk.idxOf (44 : Int) : Nat) : Int) = 5 by decide] at hg
            subst hg
            have HV := Lib.hid hv; clear hv hu
            go_wp2
            go_region
            all_goals go_wp2
            all_goals
              refine bodyPost_ret (results_refNext _ _ w.heap.size _ rfl (nx_end2 HN'.out _ _ _ _ _ _ _ _ rfl).1 rfl) rfl ?_
              exact ⟨ret_vii rfl (by simp) rfl, (nx_end2 HN'.out _ _ _ _ _ _ _ _ rfl).2⟩
          · have e1 : ((s[k].toNat : Int) == (((ByteArray.mk #[91, 93, 123, 125, 58, 44])[5]'(by decide)).toNat : Int)) = false := (show ((s[k].toNat : Int) == (44 : Int)) = false by simpa using hv)
            have HJ2 : Hid (∀ m, m < 6 → K.mk[m]?.getD 0 ≠ (s[k].toNat : Int)) := Lib.hid (fun m hm => by
              rcases Nat.lt_or_ge m 5 with h | h
              · exact HJ.out m h
              · obtain rfl : m = 5 := by omega
                exact fun h => hv h.symm)
            have HV := Lib.hid hv; clear hv HJ hu
            go_wp2
            go_region
            all_goals go_wp2
            all_goals
              go_roundw
              case rel => exact ⟨6, by omega, rfl, HJ2, nx_below HN'.out (Below.refl _ _).drew⟩
              case measure => simp [intOf]
        case inr.inr.inr.inr.inr.inr =>
          have hno : ¬ K.mk.contains (s[k].toNat : Int) = true := fun h => by
            rw [List.contains_iff_mem] at h
            obtain ⟨j, hj, he⟩ := List.getElem_of_mem h
            exact HJ.out j hj (by rw [List.getElem?_eq_getElem hj]; exact he)
          clear p0 p1 p2 p3 p4 q0 q1 q2 q3 q4
          have hbt := build_text7
          have hb8 := build_num8
          have hb9 := build_word9
          have hbz := build_zero
          have hkl : k < (strB s).length := by rw [strB_len]; exact hlt
          by_cases h34 : (s[k].toNat : Int) = 34
          · have e1 : ((s[k].toNat : Int) == 34) = true := by simpa using h34
            have hg := HG.out
            have cT := fun w => refTextTok_any s (k + 1) ((k : Int) + 1) (by omega) w hsm (by omega)
            unfold K.tok at hg
            rw [if_neg (by omega), if_pos (by rw [HX.out]; exact h34)] at hg
            unfold K.textB at cT
            have H34 := Lib.hid h34; clear h34 hno
            cases hT : K.text (strB s) (k + 1) with
            | mk o q =>
              cases o with
              | none =>
                rw [hT] at hg cT
                simp only at hg cT
                subst hg
                clear hT HG
                go_wp2_with (go_at_call 22; (with_reducible refine (cT _).mono ?_); rintro e w1 ⟨rfl, hB1⟩; have HN1 := Lib.hid (nx_below HN'.out hB1); have P := box5 HN1.out.1; obtain ⟨_, t0, t1, t2, t3, t4⟩ := P)
                refine bodyPost_ret (results_refNext _ _ w.heap.size _ rfl (nx_end HN1.out _ _ _ _ _ _ rfl).1 rfl) rfl ?_
                exact ⟨ret_tok rfl rfl rfl, (nx_end HN1.out _ _ _ _ _ _ rfl).2⟩
              | some o =>
                rw [hT] at hg cT
                simp only at hg cT
                subst hg
                clear hT HG
                go_wp2_with (go_at_call 22; (with_reducible refine (cT _).mono ?_); rintro e w1 ⟨rfl, hB1⟩; have HN1 := Lib.hid (nx_below HN'.out hB1); have P := box5 HN1.out.1; obtain ⟨_, t0, t1, t2, t3, t4⟩ := P)
                refine bodyPost_ret (results_refNext _ _ w.heap.size _ rfl (nx_end HN1.out _ _ _ _ _ _ rfl).1 rfl) rfl ?_
                exact ⟨ret_tok rfl rfl rfl, (nx_end HN1.out _ _ _ _ _ _ rfl).2⟩
          have e1 : ((s[k].toNat : Int) == 34) = false := by simpa using h34
          have cI := fun w => refIn_any (s[k].toNat : Int) ⟨#[45, 48, 49, 50, 51, 52, 53, 54, 55, 56, 57]⟩ [45, 48, 49, 50, 51, 52, 53, 54, 55, 56, 57] (by decide) w (by decide)
          by_cases hnum : (s[k].toNat : Int) = 45 ∨ K.dg.contains (s[k].toNat : Int) = true
          · rw [(K.num1_iff _).2 hnum] at cI
            have hg := HG.out
            rw [K.tok_num (strB s) k hkl (by rw [HX.out]; exact hnum)] at hg
            have hle := K.runTo_le K.nb (strB s) k (by omega)
            rw [strB_len] at hle
            obtain ⟨E, hE⟩ : ∃ E, K.runTo K.nb (strB s) k = E := ⟨_, rfl⟩
            rw [hE] at hg hle
            have hro : strB (s.extract k E) = K.row (strB s) k E := strB_sub s k E
            rw [← hro] at hg
            have cN := fun w => refNumber_any (s.extract k E) w (by rw [ByteArray.size_extract]; omega)
            obtain ⟨nv, er, hne⟩ : ∃ nv er, K.number (strB (s.extract k E)) = (nv, er) := ⟨_, _, rfl⟩
            rw [hne] at hg cN
            simp only at hg cN
            have HNUM := Lib.hid hnum
            have HG2 := Lib.hid hg
            have HEE := Lib.hid hE
            clear hnum h34 hno hro hg hE hne HG HJ
            go_wp2_with (go_at_call 21; (with_reducible refine (cI _).mono ?_); rintro e w' ⟨rfl, rfl⟩)
            go_loop [13] (fun i => ∃ q : Nat, q ≤ s.size ∧ i = .int .i64 (q : Int) ∧ Hid (K.runTo K.nb (strB s) q = E)) (fun i => s.size - (intOf i).toNat)
            case atStart => exact ⟨k, hk, rfl, HEE⟩
            case round =>
              obtain ⟨q, hq, rfl, HQ⟩ := hrel
              clear HEE cI
              by_cases hgo : ∃ h : q < s.size, K.nb.contains (s[q].toNat : Int) = true
              · obtain ⟨hlt2, hbl⟩ := hgo
                have hx := strB_at s q hlt2
                have hd3 : decide (q < s.size) = true := decide_eq_true hlt2
                have HS : Hid (K.runTo K.nb (strB s) (q + 1) = E) := Lib.hid (by rw [← K.runTo_step K.nb (strB s) q (by rw [strB_len]; exact hlt2) (by rw [hx]; exact hbl)]; exact HQ.out)
                have cJ := fun w => refIn_any (s[q].toNat : Int) ⟨#[45, 43, 46, 101, 69, 48, 49, 50, 51, 52, 53, 54, 55, 56, 57]⟩ [45, 43, 46, 101, 69, 48, 49, 50, 51, 52, 53, 54, 55, 56, 57] (by decide) w (by decide)
                simp only [K.nb_iff, hbl] at cJ
                clear hbl hx
                go_wp2_with (go_at_call 21; (with_reducible refine (cJ _).mono ?_); rintro e w' ⟨rfl, rfl⟩)
                go_round
                case rel => exact ⟨q + 1, by omega, by go_num, HS⟩
                case measure => simp [intOf]; omega
              · obtain rfl : q = E := by
                  rw [← HQ.out]
                  refine (K.runTo_stop K.nb (strB s) q (fun h => ?_)).symm
                  rw [strB_len] at h
                  rw [strB_at s q h]
                  cases hc : K.nb.contains (s[q].toNat : Int) with
                  | false => rfl
                  | true => exact absurd ⟨h, hc⟩ hgo
                have cJ : ∀ (h : q < s.size) w, Calls Tryd.prog 21 #[.int .u8 (s[q].toNat : Int), .string ⟨#[45, 43, 46, 101, 69, 48, 49, 50, 51, 52, 53, 54, 55, 56, 57]⟩] w fun e w' => e = .returned (.bool false) ∧ w = w' := fun h w => by
                  have hh := refIn_any (s[q].toNat : Int) ⟨#[45, 43, 46, 101, 69, 48, 49, 50, 51, 52, 53, 54, 55, 56, 57]⟩ [45, 43, 46, 101, 69, 48, 49, 50, 51, 52, 53, 54, 55, 56, 57] (by decide) w (by decide)
                  rwa [K.nb_iff, show K.nb.contains (s[q].toNat : Int) = false by
                    cases hc : K.nb.contains (s[q].toNat : Int) with
                    | false => rfl
                    | true => exact absurd ⟨h, hc⟩ hgo] at hh
                clear hgo HQ
                have hg := HG2.out
                clear HG2
                by_cases her : er = 0
                · rw [if_pos her] at hg
                  subst hg
                  have e5 : (er != 0) = false := by simpa using her
                  have HER := Lib.hid her; clear her
                  rcases Nat.lt_or_ge q s.size with hlt2 | hge2
                  · have hd3 : decide (q < s.size) = true := decide_eq_true hlt2
                    have cJ := cJ hlt2
                    go_wp2_with (first | (go_at_call 21; (with_reducible refine (cJ _).mono ?_); rintro e w' ⟨rfl, rfl⟩) | (go_at_call 23; (with_reducible refine (cN _).mono ?_); rintro e w' ⟨rfl, rfl⟩))
                    refine bodyPost_ret (results_refNext _ _ w.heap.size _ rfl (nx_end HN'.out _ _ _ _ _ _ rfl).1 rfl) rfl ?_
                    exact ⟨ret_tok rfl rfl rfl, (nx_end HN'.out _ _ _ _ _ _ rfl).2⟩
                  · have hd3 : decide (q < s.size) = false := decide_eq_false (by omega)
                    clear cJ
                    go_wp2_with (first | (go_at_call 23; (with_reducible refine (cN _).mono ?_); rintro e w' ⟨rfl, rfl⟩))
                    refine bodyPost_ret (results_refNext _ _ w.heap.size _ rfl (nx_end HN'.out _ _ _ _ _ _ rfl).1 rfl) rfl ?_
                    exact ⟨ret_tok rfl rfl rfl, (nx_end HN'.out _ _ _ _ _ _ rfl).2⟩
                · rw [if_neg her] at hg
                  subst hg
                  have e5 : (er != 0) = true := by simpa using her
                  have HER := Lib.hid her; clear her
                  rcases Nat.lt_or_ge q s.size with hlt2 | hge2
                  · have hd3 : decide (q < s.size) = true := decide_eq_true hlt2
                    have cJ := cJ hlt2
                    go_wp2_with (first | (go_at_call 21; (with_reducible refine (cJ _).mono ?_); rintro e w' ⟨rfl, rfl⟩) | (go_at_call 23; (with_reducible refine (cN _).mono ?_); rintro e w' ⟨rfl, rfl⟩))
                    refine bodyPost_ret (results_refNext _ _ w.heap.size _ rfl (nx_end HN'.out _ _ _ _ _ _ rfl).1 rfl) rfl ?_
                    exact ⟨ret_tok rfl rfl rfl, (nx_end HN'.out _ _ _ _ _ _ rfl).2⟩
                  · have hd3 : decide (q < s.size) = false := decide_eq_false (by omega)
                    clear cJ
                    go_wp2_with (first | (go_at_call 23; (with_reducible refine (cN _).mono ?_); rintro e w' ⟨rfl, rfl⟩))
                    refine bodyPost_ret (results_refNext _ _ w.heap.size _ rfl (nx_end HN'.out _ _ _ _ _ _ rfl).1 rfl) rfl ?_
                    exact ⟨ret_tok rfl rfl rfl, (nx_end HN'.out _ _ _ _ _ _ rfl).2⟩
          · rw [show [45, 48, 49, 50, 51, 52, 53, 54, 55, 56, 57].contains (s[k].toNat : Int) = false by
              cases hc : [45, 48, 49, 50, 51, 52, 53, 54, 55, 56, 57].contains (s[k].toNat : Int) with
              | false => rfl
              | true => exact absurd ((K.num1_iff _).1 hc) hnum] at cI
            have hg := HG.out
            rw [K.tok_word (strB s) k hkl (by rw [HX.out]; exact h34) (by rw [HX.out]; exact hnum) (by rw [HX.out]; exact hno)] at hg
            have hle := K.runTo_le K.lt (strB s) k (by omega)
            rw [strB_len] at hle
            obtain ⟨E, hE⟩ : ∃ E, K.runTo K.lt (strB s) k = E := ⟨_, rfl⟩
            rw [hE] at hg hle
            have hro : strB (s.extract k E) = K.row (strB s) k E := strB_sub s k E
            rw [← hro] at hg
            have hst := strOfNums_strB (s.extract k E)
            have z1 : (s.extract k E).toList = [116, 114, 117, 101] ↔ strB (s.extract k E) = [116, 114, 117, 101] := toList_lit _ [116, 114, 117, 101] _ rfl (by decide)
            have z2 : (s.extract k E).toList = [102, 97, 108, 115, 101] ↔ strB (s.extract k E) = [102, 97, 108, 115, 101] := toList_lit _ [102, 97, 108, 115, 101] _ rfl (by decide)
            have z3 : (s.extract k E).toList = [110, 117, 108, 108] ↔ strB (s.extract k E) = [110, 117, 108, 108] := toList_lit _ [110, 117, 108, 108] _ rfl (by decide)
            unfold K.isWord at hg
            simp only [decide_eq_true_eq] at hg
            have h1 : ((s.extract k E).toList = [116, 114, 117, 101] ∨ (s.extract k E).toList = [102, 97, 108, 115, 101] ∨ (s.extract k E).toList = [110, 117, 108, 108]) → g = (⟨9, k, E, strB (s.extract k E), 0⟩, (E : Int), 0) := fun h => by
              rw [← hg, if_pos (by rwa [z1, z2, z3] at h)]
            have h2 : ¬ ((s.extract k E).toList = [116, 114, 117, 101] ∨ (s.extract k E).toList = [102, 97, 108, 115, 101] ∨ (s.extract k E).toList = [110, 117, 108, 108]) → g = (K.zero, (k : Int), 2) := fun h => by
              rw [← hg, if_neg (by rwa [z1, z2, z3] at h)]
            have H1 := Lib.hid h1
            have H2 := Lib.hid h2
            have HST := Lib.hid hst
            have HEE := Lib.hid hE
            clear hnum h34 hno hro hg hE HG HJ h1 h2 z1 z2 z3 hst
            go_wp2_with (go_at_call 21; (with_reducible refine (cI _).mono ?_); rintro e w' ⟨rfl, rfl⟩)
            go_loop [13] (fun i => ∃ q : Nat, q ≤ s.size ∧ i = .int .i64 (q : Int) ∧ Hid (K.runTo K.lt (strB s) q = E)) (fun i => s.size - (intOf i).toNat)
            case atStart => exact ⟨k, hk, rfl, HEE⟩
            case round =>
              obtain ⟨q, hq, rfl, HQ⟩ := hrel
              clear HEE cI
              by_cases hgo : ∃ h : q < s.size, K.lt.contains (s[q].toNat : Int) = true
              · obtain ⟨hlt2, hbl⟩ := hgo
                have hx := strB_at s q hlt2
                have hd3 : decide (q < s.size) = true := decide_eq_true hlt2
                have HS : Hid (K.runTo K.lt (strB s) (q + 1) = E) := Lib.hid (by rw [← K.runTo_step K.lt (strB s) q (by rw [strB_len]; exact hlt2) (by rw [hx]; exact hbl)]; exact HQ.out)
                rw [K.lt_iff] at hbl
                clear hx
                by_cases hlo : 97 ≤ (s[q].toNat : Int)
                · have f1 : decide (97 ≤ (s[q].toNat : Int)) = true := decide_eq_true hlo
                  have f2 : decide ((s[q].toNat : Int) ≤ 122) = true := decide_eq_true (by omega)
                  clear hbl hlo
                  go_wp2
                  go_round
                  case rel => exact ⟨q + 1, by omega, by go_num, HS⟩
                  case measure => simp [intOf]; omega
                · have f1 : decide (97 ≤ (s[q].toNat : Int)) = false := decide_eq_false hlo
                  have f3 : decide (65 ≤ (s[q].toNat : Int)) = true := decide_eq_true (by omega)
                  have f4 : decide ((s[q].toNat : Int) ≤ 90) = true := decide_eq_true (by omega)
                  clear hbl hlo
                  go_wp2
                  go_round
                  case rel => exact ⟨q + 1, by omega, by go_num, HS⟩
                  case measure => simp [intOf]; omega
              · obtain rfl : q = E := by
                  rw [← HQ.out]
                  refine (K.runTo_stop K.lt (strB s) q (fun h => ?_)).symm
                  rw [strB_len] at h
                  rw [strB_at s q h]
                  cases hc : K.lt.contains (s[q].toNat : Int) with
                  | false => rfl
                  | true => exact absurd ⟨h, hc⟩ hgo
                have hnl : ∀ h : q < s.size, ¬ ((97 ≤ (s[q].toNat : Int) ∧ (s[q].toNat : Int) ≤ 122) ∨ (65 ≤ (s[q].toNat : Int) ∧ (s[q].toNat : Int) ≤ 90)) := fun h hh => hgo ⟨h, (K.lt_iff _).2 hh⟩
                have HNL := Lib.hid hnl
                clear hgo HQ hnl
                go_upto_region 31 with fail
                go_cut [152] (fun s152 W => s152 = .bool false ∧ W = wr)
                case first =>
                  rcases Nat.lt_or_ge q s.size with hlt2 | hge2
                  · have hd3 : decide (q < s.size) = true := decide_eq_true hlt2
                    have hh := HNL.out hlt2
                    rcases Int.lt_or_le (s[q].toNat : Int) 65 with a1 | a1
                    · have f1 : decide (97 ≤ (s[q].toNat : Int)) = false := decide_eq_false (by omega)
                      have f3 : decide (65 ≤ (s[q].toNat : Int)) = false := decide_eq_false (by omega)
                      clear a1 hh
                      go_wp2
                      go_meet
                      exact ⟨rfl, rfl⟩
                    · rcases Int.lt_or_le (s[q].toNat : Int) 97 with a2 | a2
                      · have f1 : decide (97 ≤ (s[q].toNat : Int)) = false := decide_eq_false (by omega)
                        have f3 : decide (65 ≤ (s[q].toNat : Int)) = true := decide_eq_true (by omega)
                        have f4 : decide ((s[q].toNat : Int) ≤ 90) = false := decide_eq_false (by omega)
                        clear a1 a2 hh
                        go_wp2
                        go_meet
                        exact ⟨rfl, rfl⟩
                      · have f1 : decide (97 ≤ (s[q].toNat : Int)) = true := decide_eq_true (by omega)
                        have f2 : decide ((s[q].toNat : Int) ≤ 122) = false := decide_eq_false (by omega)
                        have f3 : decide (65 ≤ (s[q].toNat : Int)) = true := decide_eq_true (by omega)
                        have f4 : decide ((s[q].toNat : Int) ≤ 90) = false := decide_eq_false (by omega)
                        clear a1 a2 hh
                        go_wp2
                        go_meet
                        exact ⟨rfl, rfl⟩
                  · have hd3 : decide (q < s.size) = false := decide_eq_false (by omega)
                    go_wp2
                    go_meet
                    exact ⟨rfl, rfl⟩
                case rest =>
                obtain ⟨rfl, hwc⟩ := hcut
                rw [hwc]
                clear hwc HNL
                go_wp2
                all_goals
                  refine bodyPost_ret (results_refNext _ _ w.heap.size _ rfl (nx_end HN'.out _ _ _ _ _ _ rfl).1 rfl) rfl ?_
                  first
                    | (have hg := H1.out (by simp_all; done)
                       rw [hg]
                       exact ⟨ret_tok (by show Value.agg _ = .agg (tokC _); unfold tokC; rw [HST.out]) rfl rfl, (nx_end HN'.out _ _ _ _ _ _ rfl).2⟩)
                    | (have hg := H2.out (by simp_all; done)
                       rw [hg]
                       exact ⟨ret_tok rfl rfl rfl, (nx_end HN'.out _ _ _ _ _ _ rfl).2⟩)
end Go.Proofs.YtiflnciapboccaaDoor
