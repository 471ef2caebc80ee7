/- The walk of TokenQuotes: what is quoted is one Text that means it, wherever it stands. -/
import Derived.Test.YtiflnciapboccaaDoorTokAlive
import Derived.Test.YtiflnciapboccaaDoorTokQuoteM
import Derived.Test.YtiflnciapboccaaDoorUtfRefText
set_option linter.unusedVariables false
namespace Go.Proofs.YtiflnciapboccaaDoor
open Go.RowKit Go.Shelf
set_option maxHeartbeats 1000000 in
theorem refValidT_any (s : ByteArray) (w : World) (hs : s.size ≤ 1099511627776) : Calls Tryd.prog 16 #[.string s] w fun e w' => e = .returned (.bool (U.validS s)) ∧ Below w.heap.size w w' := by
  have hC := refCodes_any s w hs
  have hd : U.validS s = decide (U.lastEnd (U.cds s.size (strB s) 0) = s.size) := rfl
  rw [hd]
  unfold Cds at hC
  generalize U.lastEnd (U.cds s.size (strB s) 0) = m at *
  generalize U.cds s.size (strB s) 0 = cs at *
  clear hd
  have hsz : s.size ≤ maxLen := by unfold maxLen; omega
  unfold maxLen at hsz
  go_enter Tryd.func16, Tryd.ntmps16
  go_wp2_with (first | (go_at_call 26; (with_reducible refine hC.mono ?_); rintro e w1 ⟨v, rfl, _, hb⟩))
  go_ret
  exact ⟨ret_bool (by rw [Bool.eq_iff_iff]; simp; omega), hb⟩
def blanksOf (k : Nat) : ByteArray := strOfNums (List.replicate k 32)
theorem strB_blanks (k : Nat) : strB (blanksOf k) = List.replicate k 32 := strB_strOfNums _ (fun x hx => by rw [List.eq_of_mem_replicate hx]; omega)
theorem blanks_size (k : Nat) : (blanksOf k).size = k := by rw [← strB_len, strB_blanks, List.length_replicate]
theorem blanks_succ (k : Nat) : blanksOf k ++ ⟨#[32]⟩ = blanksOf (k + 1) := by
  unfold blanksOf
  rw [List.replicate_succ', ← strOfNums_append]; rfl
theorem quote_bytes (l : List Int) (h : ∀ x ∈ l, 0 ≤ x ∧ x ≤ 255) : ∀ x ∈ K.q1s l, 0 ≤ x ∧ x ≤ 255 := by
  intro x hx
  obtain ⟨y, hy, hxy⟩ := List.mem_flatMap.1 hx
  have hy := h y hy
  unfold K.q1 at hxy
  split at hxy
  · simp only [List.mem_cons, List.not_mem_nil, or_false] at hxy; omega
  · split at hxy
    · simp only [List.mem_cons, List.not_mem_nil, or_false] at hxy
      have h1 : K.hexd (y / 16) = (if y / 16 < 10 then 48 + y / 16 else 87 + y / 16) := rfl
      have h2 : K.hexd (y % 16) = (if y % 16 < 10 then 48 + y % 16 else 87 + y % 16) := rfl
      rcases hxy with h | h | h | h | h | h
      · omega
      · omega
      · omega
      · omega
      · rw [h, h1]; split <;> omega
      · rw [h, h2]; split <;> omega
    · simp only [List.mem_cons, List.not_mem_nil, or_false] at hxy; omega
theorem build_text (W : World) (a b : Int) (s : ByteArray) : (Instr.build 24 #[(0, .int .i64 7), (1, .int .i64 a), (2, .int .i64 b), (3, .string s)]).run Tryd.prog W = .ok (.agg #[.int .i64 7, .int .i64 a, .int .i64 b, .string s, .int .i64 0]) W :=
  run_build W 24 _ _ (by kernel_rfl)
theorem eql_text (W : World) (a b c n : Int) (s : ByteArray) : (binOp .eql 24 (.agg #[.int .i64 a, .int .i64 b, .int .i64 c, .string s, .int .i64 n]) (.agg #[.int .i64 a, .int .i64 b, .int .i64 c, .string s, .int .i64 n])).run Tryd.prog W = .ok (.bool true) W := by
  go_simp
/-- the two tokens that a quoted text between blanks comes to, in memory -/
theorem all_quoted (s : ByteArray) (hv : U.validS s = true) (k : Nat) (hk : k ≤ 8) (hsm : s.size ≤ 300) (q : ByteArray) (hq : q = strOfNums (K.quote (strB s))) (w : World) (hE : Err w) :
    q.size ≤ 100000 → (blanksOf k ++ q ++ blanksOf k).size ≤ 100000 → Calls Tryd.prog 11 #[.string (blanksOf k ++ q ++ blanksOf k)] w fun e w' => ∃ g C, e = .returned (.tuple #[.slice (some ⟨g, 0, none⟩) 2 C, .int .i64 ((k : Int) + q.size + k), .int .i64 0]) ∧ 2 ≤ C ∧ C ≤ maxLen ∧
      (w'.cell? ⟨g, 0, none⟩ = some (.int .i64 7) ∧ w'.cell? ⟨g, 1, none⟩ = some (.int .i64 k) ∧ w'.cell? ⟨g, 2, none⟩ = some (.int .i64 ((k : Int) + q.size)) ∧ w'.cell? ⟨g, 3, none⟩ = some (.string s) ∧ w'.cell? ⟨g, 4, none⟩ = some (.int .i64 0) ∧ w'.cell? ⟨g, 5, none⟩ = some (.int .i64 0)) ∧ Below w.heap.size w w' := by
  intro hq1 hq2
  have hcs := (U.valid_iff s).1 hv
  have hok := (U.codes_parse s).1.1
  have hval : U.lastEnd (U.cds s.size (strB s) 0) = s.size := of_decide_eq_true hv
  have hqs : strB q = [34] ++ K.q1s (strB s) ++ [34] := by
    rw [hq]
    have : K.quote (strB s) = [34] ++ K.q1s (strB s) ++ [34] := by unfold K.quote; rw [strB_len, if_pos hval]; rfl
    rw [this, strB_strOfNums]
    intro x hx
    simp only [List.mem_append, List.mem_singleton] at hx
    rcases hx with (h | h) | h
    · omega
    · exact quote_bytes _ (mem_bytes' (strB_bytes s)) x h
    · omega
  have hlen : q.size = (K.q1s (strB s)).length + 2 := by rw [← strB_len, hqs]; simp
  have hits := K.its_quoted (U.codesOf s) k hok (strB s) hcs q.size hlen
  refine (all_any _ w hq2 hE).mono ?_
  rintro e w' ⟨v, rfl, hown, hb⟩
  have hstr : strB (blanksOf k ++ q ++ blanksOf k) = List.replicate k 32 ++ ([34] ++ K.q1s (strB s) ++ [34] ++ List.replicate k 32) := by
    rw [strB_append, strB_append, strB_blanks, hqs, List.append_assoc]
  rw [hstr, hits] at hown ⊢
  have ht : K.toks [((⟨7, k, ((k + q.size : Nat) : Int), strB s, 0⟩ : K.Tok), k + q.size, 0), (⟨0, ((k + q.size + k : Nat) : Int), ((k + q.size + k : Nat) : Int), [], 0⟩, k + q.size + k, 0)] = [⟨7, k, ((k + q.size : Nat) : Int), strB s, 0⟩, ⟨0, ((k + q.size + k : Nat) : Int), ((k + q.size + k : Nat) : Int), [], 0⟩] := rfl
  rw [ht] at hown
  obtain ⟨h1, h2⟩ := hown
  rcases h2 with ⟨_, h0⟩ | ⟨g, cap, cur, rfl, _, hg, hn, hm, hs2, htk⟩
  · exact absurd h0 (by simp)
  · have hc : ∀ j u, (tcells [⟨7, k, ((k + q.size : Nat) : Int), strB s, 0⟩, ⟨0, ((k + q.size + k : Nat) : Int), ((k + q.size + k : Nat) : Int), [], 0⟩])[j]? = some u → w'.cell? ⟨g, j, none⟩ = some u := fun j u hu => by
      rw [← htk, List.getElem?_take] at hu
      split at hu
      · simp only [World.cell?, hg]
        simpa using hu
      · cases hu
    refine ⟨g, cap, ?_, hn, hm, ⟨hc 0 _ rfl, hc 1 _ rfl, ?_, ?_, hc 4 _ rfl, hc 5 _ rfl⟩, hb⟩
    · show Ending.returned (.tuple #[.slice (some ⟨g, 0, none⟩) 2 cap, .int .i64 ((k + q.size + k : Nat) : Int), .int .i64 0]) = _
      rw [Int.natCast_add, Int.natCast_add]
    · have := hc 2 _ rfl
      rw [Int.natCast_add] at this
      exact this
    · have := hc 3 _ rfl
      rw [strOfNums_strB] at this
      exact this
namespace tokenQuotesWalk
set_option maxRecDepth 100000 in
set_option maxHeartbeats 8000000 in
theorem walk (a0 : ByteArray) (a1 : Int) (w : World) (w0 : a0.size ≤ maxLen) (w1 : (Lit.int .u8 a1).wf = true) (hE : Err w) :
    Calls Tryd.prog 5 #[.string a0, .int .u8 a1] w fun e w' => e = .returned (.bool true) ∧ Below w.heap.size w w' := by
  have H5 := token_info
  have ha := tokAlive_any w hE
  rcases Nat.lt_or_ge 300 a0.size with hbig | hsm
  · have d1 : decide ((300 : Int) < (a0.size : Int)) = true := by simp; omega
    go_enter Tryd.func5, Tryd.ntmps5
    go_wp2_with (go_at_call 8; (with_reducible refine ha.mono ?_); rintro e w1 ⟨rfl, hB1⟩)
    go_ret
    exact ⟨rfl, hB1⟩
  have d1 : decide ((300 : Int) < (a0.size : Int)) = false := by simp; omega
  have hu := wf_u8 w1
  obtain ⟨k, hk⟩ : ∃ k : Nat, a1.tmod 9 = (k : Int) := ⟨(a1.tmod 9).toNat, by rw [Int.tmod_eq_emod_of_nonneg hu.1]; omega⟩
  have hk8 : k ≤ 8 := by rw [Int.tmod_eq_emod_of_nonneg hu.1] at hk; omega
  have hQ := fun w => quote_any a0 w (by omega)
  have hV := fun w => refValidT_any a0 w (by omega)
  obtain ⟨q, hq⟩ : ∃ q, strOfNums (K.quote (strB a0)) = q := ⟨_, rfl⟩
  rw [hq] at hQ
  cases hv : U.validS a0 with
  | false =>
    have hq0 : q = ⟨#[]⟩ := by
      rw [← hq]
      have : ¬ U.lastEnd (U.cds a0.size (strB a0) 0) = a0.size := of_decide_eq_false hv
      unfold K.quote
      rw [strB_len, if_neg this]; rfl
    subst hq0
    simp only [hv] at hV
    clear hq hk
    go_enter Tryd.func5, Tryd.ntmps5
    go_wp2_with (first
      | (go_at_call 8; (with_reducible refine ha.mono ?_); rintro e w1 ⟨rfl, hB1⟩)
      | (go_at_call 14; (with_reducible refine (hQ _).mono ?_); rintro e w2 ⟨rfl, hB2⟩)
      | (go_at_call 16; (with_reducible refine (hV _).mono ?_); rintro e w3 ⟨rfl, hB3⟩))
    go_ret
    exact ⟨rfl, (hB1.trans (hB2.mono hB1.size)).trans (hB3.mono (Nat.le_trans hB1.size hB2.size))⟩
  | true =>
    simp only [hv] at hV
    have hql : q.size ≤ 1802 := by
      have hval : U.lastEnd (U.cds a0.size (strB a0) 0) = a0.size := of_decide_eq_true hv
      have hqq : K.quote (strB a0) = [34] ++ K.q1s (strB a0) ++ [34] := by unfold K.quote; rw [strB_len, if_pos hval]; rfl
      have h1 := K.q1s_len (strB a0)
      rw [strB_len] at h1
      rw [← hq, hqq, ← strB_len, strB_strOfNums]
      · simp; omega
      · intro x hx
        simp only [List.mem_append, List.mem_singleton] at hx
        rcases hx with (h | h) | h
        · omega
        · exact quote_bytes _ (mem_bytes' (strB_bytes a0)) x h
        · omega
    have hbs : (blanksOf k).size = k := blanks_size k
    have hA := fun w hE => all_quoted a0 hv k hk8 hsm q hq.symm w hE (by omega) (by rw [ByteArray.size_append, ByteArray.size_append, hbs]; omega)
    have HQ := Lib.hid hq; clear hq
    have hbt := build_text
    have het := eql_text
    go_enter Tryd.func5, Tryd.ntmps5
    go_wp2_with (first
      | (go_at_call 8; (with_reducible refine ha.mono ?_); rintro e w1 ⟨rfl, hB1⟩)
      | (go_at_call 14; (with_reducible refine (hQ _).mono ?_); rintro e w2 ⟨rfl, hB2⟩)
      | (go_at_call 16; (with_reducible refine (hV _).mono ?_); rintro e w3 ⟨rfl, hB3⟩))
    have hB13 := (hB1.trans (hB2.mono hB1.size)).trans (hB3.mono (Nat.le_trans hB1.size hB2.size))
    have hE3 := err_below hE hB13
    go_loopw [6, 7] (fun h i wr => ∃ j : Nat, j ≤ k ∧ i = .int .i64 (j : Int) ∧ h = .string (blanksOf j) ∧ wr = w3) (fun _ i _ => k - (intOf i).toNat)
    case atStart => exact ⟨0, Nat.zero_le _, rfl, rfl, rfl⟩
    case round =>
      obtain ⟨j, hj, rfl, rfl, hwr⟩ := hrel
      rcases Nat.lt_or_ge j k with hlt | hge
      · have hd : decide (j < k) = true := by simpa using hlt
        have hbl := blanks_succ j
        have hbj : (blanksOf j).size = j := blanks_size j
        clear hA hbs
        go_wp2
        go_roundw
        case rel => exact ⟨j + 1, hlt, by go_num, rfl, by first | trivial | exact hwr⟩
        case measure => simp [intOf]; omega
      · obtain rfl : j = k := by omega
        rw [hwr]
        have hd : decide (j < j) = false := by simp
        have e1 : ((j : Int) + q.size + j == (q.size : Int) + 2 * j) = true := by simp; omega
        go_wp2_with (go_at_call 11; (with_reducible refine (hA _ hE3).mono ?_); rintro e w4 ⟨g, C, rfl, hC, hCm, ⟨y0, y1, y2, y3, y4, y5⟩, hB4⟩)
        go_ret
        exact ⟨rfl, hB13.trans (hB4.mono hB13.size)⟩
end tokenQuotesWalk
end Go.Proofs.YtiflnciapboccaaDoor
