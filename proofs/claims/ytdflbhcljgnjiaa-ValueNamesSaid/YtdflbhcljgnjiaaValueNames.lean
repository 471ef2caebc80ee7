/- The walk of ValueNames: two names' symbols stand as the names do, byte by byte, and no name has a blank. -/
import Derived.Test.YtdflbhcljgnjiaaValAlive
import Derived.Test.YtdflbhcljgnjiaaValMath
namespace Go.Proofs.Ytdflbhcljgnjiaa.valueNamesWalk
open Go.RowKit Go.Shelf
theorem less_cmp : ∀ a b : List UInt8, Op.bytesLess a b = decide (cmpB (a.map fun x => (x.toNat : Int)) (b.map fun x => (x.toNat : Int)) < 0) := by
  intro a
  induction a with
  | nil => intro b; cases b <;> simp [Op.bytesLess, cmpB]
  | cons x a ih =>
    intro b
    cases b with
    | nil => simp [Op.bytesLess, cmpB]
    | cons y b =>
      simp only [Op.bytesLess, List.map_cons, cmpB]
      rcases Nat.lt_trichotomy x.toNat y.toNat with h | h | h
      · have h1 : decide (x < y) = true := by simpa [UInt8.lt_iff_toNat_lt] using h
        rw [if_pos (by omega)]
        unfold cmpI
        rw [if_pos (by omega), h1]
        simp
      · have hxy : x = y := UInt8.toNat_inj.1 h
        subst hxy
        rw [if_neg (by omega), ← ih]
        simp
      · have h1 : decide (x < y) = false := by simp [UInt8.lt_iff_toNat_lt]; omega
        have h2 : (x == y) = false := by
          simp only [beq_eq_false_iff_ne]; intro e; subst e; omega
        rw [if_pos (by omega)]
        unfold cmpI
        rw [if_neg (by omega), if_pos (by omega), h1, h2]
        simp
theorem sym_cmp (a b : ByteArray) : cmpV (.mk 3 0 a []) (.mk 3 0 b []) = cmpB (strB a) (strB b) := by
  simp only [cmpV, cmpI_self]
  rw [if_neg (by simp [orI])]
  split
  · rfl
  · rename_i h
    have h' : strB a = strB b := by simpa using h
    rw [h', (cmpB_zero _ _).2 rfl]; simp [cmpL]
theorem sym_right (a : ByteArray) (h : nameB (strB a) = true) : rightV (.mk 3 0 a []) = true := by
  unfold rightV
  rw [okV3, h]
  simp [deepV, deepL, szV, szL]
theorem sym_text (a : ByteArray) : strOfNums (textV (.mk 3 0 a [])) = ⟨#[39]⟩ ++ a := by
  rw [text3]
  apply ByteArray.ext
  apply Array.toList_inj.1
  have h := congrArg (fun s : ByteArray => s.data.toList) (strOfNums_strB a)
  simp only [strOfNums] at h ⊢
  simp at h ⊢
  exact h
set_option maxRecDepth 100000 in
set_option maxHeartbeats 4000000 in
theorem walk (a0 : ByteArray) (a1 : ByteArray) (w : World) (w0 : a0.size ≤ maxLen) (w1 : a1.size ≤ maxLen) :
    Calls Try.prog 5 #[.string a0, .string a1] w fun e w' => e = .returned (.bool true) ∧ Below w.heap.size w w' := by
  have hal := alive_any w
  have hn0 := fun w => isName_any a0 w w0
  have hn1 := fun w => isName_any a1 w w1
  by_cases h0 : 100 < a0.size
  · have d0 : decide (100 < (a0.size : Int)) = true := by simp; omega
    go_enter Try.func5, Try.ntmps5
    go_wp2_with (first
      | (go_at_call 6; (with_reducible refine hal.mono ?_); rintro e w2 ⟨rfl, hB⟩))
    go_ret
    exact ⟨rfl, hB⟩
  have d0 : decide (100 < (a0.size : Int)) = false := by simp; omega
  by_cases h1 : 100 < a1.size
  · have d1 : decide (100 < (a1.size : Int)) = true := by simp; omega
    go_enter Try.func5, Try.ntmps5
    go_wp2_with (first
      | (go_at_call 6; (with_reducible refine hal.mono ?_); rintro e w2 ⟨rfl, hB⟩))
    go_ret
    exact ⟨rfl, hB⟩
  have d1 : decide (100 < (a1.size : Int)) = false := by simp; omega
  obtain ⟨n0, e0⟩ : ∃ n, nameB (strB a0) = n := ⟨_, rfl⟩
  obtain ⟨n1, e1⟩ : ∃ n, nameB (strB a1) = n := ⟨_, rfl⟩
  rw [e0] at hn0
  rw [e1] at hn1
  cases n0 with
  | false =>
    clear e0 e1
    go_enter Try.func5, Try.ntmps5
    go_wp2_with (first
      | (go_at_call 6; (with_reducible refine hal.mono ?_); rintro e w2 ⟨rfl, hB⟩)
      | (go_at_call 15; (with_reducible refine (hn0 _).mono ?_); rintro e w3 ⟨rfl, rfl⟩))
    go_ret
    exact ⟨rfl, hB⟩
  | true =>
  cases n1 with
  | false =>
    clear e0 e1
    go_enter Try.func5, Try.ntmps5
    go_wp2_with (first
      | (go_at_call 6; (with_reducible refine hal.mono ?_); rintro e w2 ⟨rfl, hB⟩)
      | (go_at_call 15; (first | with_reducible refine (hn0 _).mono ?_ | with_reducible refine (hn1 _).mono ?_); rintro e w3 ⟨rfl, rfl⟩))
    go_ret
    exact ⟨rfl, hB⟩
  | true =>
    have hs0 := fun w => symbol_any a0 w
    have hs1 := fun w => symbol_any a1 w
    have hk : ∀ w, Calls Try.prog 14 #[.agg #[.int .i64 3, .int .i64 0, .string a0, .slice none 0 0], .agg #[.int .i64 3, .int .i64 0, .string a1, .slice none 0 0]] w fun e w' => e = .returned (.int .i64 (cmpB (strB a0) (strB a1))) ∧ Below w.heap.size w w' := fun w => by
      have := compare_any (.mk 3 0 a0 []) (.mk 3 0 a1 []) w _ _ (is_flat w 3 0 a0 (i64_lit _ rfl) (i64_lit _ rfl) w0) (is_flat w 3 0 a1 (i64_lit _ rfl) (i64_lit _ rfl) w1)
      rwa [sym_cmp] at this
    have hr : ∀ w, Calls Try.prog 8 #[.agg #[.int .i64 3, .int .i64 0, .string a0, .slice none 0 0]] w fun e w' => e = .returned (.bool true) ∧ Below w.heap.size w w' := fun w => by
      have := right_any (.mk 3 0 a0 []) (by simp [szV, szL]) w _ (is_flat w 3 0 a0 (i64_lit _ rfl) (i64_lit _ rfl) w0)
      rwa [sym_right a0 e0] at this
    have ht : ∀ w, Calls Try.prog 9 #[.agg #[.int .i64 3, .int .i64 0, .string a0, .slice none 0 0]] w fun e w' => e = .returned (.string (⟨#[39]⟩ ++ a0)) ∧ Below w.heap.size w w' := fun w => by
      have := text_any (.mk 3 0 a0 []) (by rw [text3]; simp [strB_len]; omega) w _ (is_flat w 3 0 a0 (i64_lit _ rfl) (i64_lit _ rfl) w0)
      rwa [sym_text] at this
    have hch := name_chars e0
    have hless : Op.bytesLess a0.toList a1.toList = decide (cmpB (strB a0) (strB a1) < 0) := by
      rw [toList_data, toList_data, less_cmp]; rfl
    have heq : (a0.toList == a1.toList) = decide (cmpB (strB a0) (strB a1) = 0) := by
      rw [toList_data, toList_data]
      by_cases h : a0 = a1
      · subst h; simp [(cmpB_zero _ _).2 rfl]
      · rw [decide_eq_false (fun e => h (strB_inj ((cmpB_zero _ _).1 e)))]
        simp only [beq_eq_false_iff_ne, ne_eq]
        exact fun e => h (ByteArray.ext (Array.toList_inj.1 e))
    have hb3 := cmpB_bd (strB a0) (strB a1)
    generalize cmpB (strB a0) (strB a1) = k at hk hless heq hb3
    have hch2 : ∀ q (h : q < a0.size), ((a0[q].toNat : Int) == 32) = false ∧ decide (127 < (a0[q].toNat : Int)) = false := fun q h => by
      have hx := strB_at a0 q h
      have hm : (a0[q].toNat : Int) ∈ strB a0 := by
        rw [← hx, List.getElem?_eq_getElem (by rw [strB_len]; exact h)]
        exact List.getElem_mem _
      have := hch _ hm
      constructor
      · simp only [beq_eq_false_iff_ne]; omega
      · simp; omega
    have HCH := Lib.hid hch2
    clear hch hch2 e0 e1
    unfold maxLen at w0 w1
    rcases hb3 with rfl | rfl | rfl
    all_goals (
      first | replace hless := hless.trans (show decide (_ < (0 : Int)) = true from rfl) | replace hless := hless.trans (show decide (_ < (0 : Int)) = false from rfl)
      first | replace heq := heq.trans (show decide (_ = (0 : Int)) = true from rfl) | replace heq := heq.trans (show decide (_ = (0 : Int)) = false from rfl)
      go_enter Try.func5, Try.ntmps5
      go_wp2_with (first
        | (go_at_call 6; (with_reducible refine hal.mono ?_); rintro e w2 ⟨rfl, hB⟩)
        | (go_at_call 15; (first | with_reducible refine (hn0 _).mono ?_ | with_reducible refine (hn1 _).mono ?_); rintro e w3 ⟨rfl, rfl⟩))
      go_loop [5] (fun i => ∃ q : Nat, q ≤ a0.size ∧ i = .int .i64 q) (fun i => a0.size - (intOf i).toNat)
      case atStart => exact ⟨0, Nat.zero_le _, rfl⟩
      case round =>
        obtain ⟨q, hq, rfl⟩ := hrel
        rcases Nat.lt_or_ge q a0.size with hlt | hge
        · have hd : decide (q < a0.size) = true := by simpa using hlt
          obtain ⟨c1, c2⟩ := HCH.out q hlt
          go_wp2_with fail
          go_round
          case rel => exact ⟨q + 1, by omega, by go_num⟩
          case measure => simp [intOf]; omega
        · have hd : decide (q < a0.size) = false := by simpa using hge
          go_wp2_with (first
            | (go_at_call 16; (first | with_reducible refine (hs0 _).mono ?_ | with_reducible refine (hs1 _).mono ?_); rintro e w3 ⟨rfl, hq3⟩; have hB := hB.trans (hq3.mono hB.size))
            | (go_at_call 14; (with_reducible refine (hk _).mono ?_); rintro e w3 ⟨rfl, hq3⟩; have hB := hB.trans (hq3.mono hB.size))
            | (go_at_call 8; (with_reducible refine (hr _).mono ?_); rintro e w3 ⟨rfl, hq3⟩; have hB := hB.trans (hq3.mono hB.size))
            | (go_at_call 9; (with_reducible refine (ht _).mono ?_); rintro e w3 ⟨rfl, hq3⟩; have hB := hB.trans (hq3.mono hB.size)))
          go_ret
          exact ⟨rfl, hB⟩)
end Go.Proofs.Ytdflbhcljgnjiaa.valueNamesWalk
