/- Layer 9 of the program: what stands behind a field. -/
import Derived.Test.YtclnephomnkieaaCsvIdx
import Derived.Test.YtclnephomnkieaaCsvRefF
import Derived.Laws.ResultCell
import Derived.Laws.Rows
set_option linter.unusedVariables false
namespace Go.Proofs.Ytclnephomnkieaa
open Go.RowKit Go.Shelf
namespace V
/-- what a mark tells of what stands behind a field, in a text of n bytes -/
def mk (n : Nat) (b : List Int) : Int × Nat := match b with
  | [] => (2, n)
  | 44 :: t => (1, n - t.length)
  | 13 :: 10 :: t => (2, n - t.length)
  | _ => (0, n - b.length)
/-- d and a come -/
def crlf : List Int → Bool
  | 13 :: 10 :: _ => true
  | _ => false
theorem crlf_iff (l : List Int) : crlf l = true ↔ ∃ u, l = 13 :: 10 :: u := by
  unfold crlf
  split
  · simp
  · rename_i h; constructor
    · intro h2; cases h2
    · rintro ⟨u, hu⟩; exact absurd hu (h u)
theorem mk_other (n : Nat) (x : Int) (t : List Int) (h : x ≠ 44) (h2 : ¬ (x = 13 ∧ ∃ u, t = 10 :: u)) : mk n (x :: t) = (0, n - (x :: t).length) := by
  unfold mk
  split
  · rename_i heq; cases heq
  · rename_i heq; injection heq with h3 _; exact absurd h3 h
  · rename_i heq; injection heq with h3 h4; exact absurd ⟨h3, _, h4⟩ h2
  · rfl
end V
theorem pre_crlf (t : List UInt8) : Lib.hasPrefix t [13, 10] = true ↔ ∃ u, (t.map fun b => (b.toNat : Int)) = 13 :: 10 :: u := by
  have hb : ∀ x n : UInt8, n = x ↔ (x.toNat : Int) = (n.toNat : Int) := fun x n => by rw [← UInt8.toNat_inj]; omega
  match t with
  | [] => simp [Lib.hasPrefix]
  | [a] => simp [Lib.hasPrefix]
  | a :: b :: r =>
    unfold Lib.hasPrefix
    simp only [List.isPrefixOf, Bool.and_true, List.map_cons, Bool.and_eq_true, beq_iff_eq, hb]
    constructor
    · rintro ⟨h1, h2⟩; exact ⟨_, by rw [h1, h2]; rfl⟩
    · rintro ⟨u, h⟩
      injection h with h1 h2
      injection h2 with h2 _
      exact ⟨h1, h2⟩
theorem pre_calls (s : ByteArray) (p : Nat) (hp : p ≤ s.size) (w : World) :
    Calls Try.prog 30 #[.string (s.extract p s.size), .string ⟨#[13, 10]⟩] w fun e w' => e = .returned (.bool (V.crlf ((strB s).drop p))) ∧ w' = w := by
  refine (Try.strings_HasPrefix (s.extract p s.size) ⟨#[13, 10]⟩ w).mono ?_
  rintro e w' ⟨rfl, rfl⟩
  refine ⟨?_, rfl⟩
  have h := pre_crlf (s.extract p s.size).data.toList
  have h2 := strB_sub9 s p s.size
  rw [List.take_of_length_le (by rw [strB_len]; exact Nat.le_refl _)] at h2
  rw [← V.crlf_iff] at h
  rw [← h2]
  exact ret_bool (Bool.eq_iff_iff.2 h)
theorem results_tmp_row {P : Program} {fn : Func} {p u : Tmp} {ty : TypeId} (h : fn.results = #[.tmp u, .cell p ty]) (tmps : Array Value) (w : World) (g : Nat) (t : TypeId) (cs : Array Value) (fr : Nat × Nat) (d : TypeDesc)
    (hp : tmps.getD p undef = .pointer (some ⟨g, 0, none⟩)) (hg : w.heap[g]? = some (.cells cs t fr))
    (hu : P.underlying ty = some d) (hd : (match d with | .struct _ | .array _ _ => true | _ => false) = true) (hi : (P.info? ty).map (·.size) = some cs.size) :
    (results fn tmps).run P w = .ok (.tuple #[tmps.getD u undef, .agg cs]) w := by
  have hp' : tmps[p]?.getD undef = .pointer (some ⟨g, 0, none⟩) := by simpa using hp
  simp [results, h, hp', asAddr, run_loadVar_row w g t ty cs fr d hg hu hd hi, Result.andThen]
theorem mark_info : (Try.prog.info? 44).map (·.size) = some 2 := by kernel_rfl
theorem mk_comma (s : ByteArray) (p : Nat) (hlt : p < s.size) : V.mk s.size (44 :: (strB s).drop (p + 1)) = (1, p + 1) := by
  show ((1 : Int), s.size - ((strB s).drop (p + 1)).length) = _
  rw [List.length_drop, strB_len]; congr 1; omega
/-- what stands there, as the tests find it -/
theorem mk_cases (s : ByteArray) (p : Nat) (hlt : p < s.size) : V.mk s.size ((strB s).drop p) =
    if (s[p].toNat : Int) = 44 then (1, p + 1) else if V.crlf ((strB s).drop p) = true then (2, p + 2) else (0, p) := by
  have hd := drop_at s p hlt
  by_cases h44 : (s[p].toNat : Int) = 44
  · rw [if_pos h44, hd, h44]; exact mk_comma s p hlt
  rw [if_neg h44]
  by_cases hc : V.crlf ((strB s).drop p) = true
  · rw [if_pos hc]
    obtain ⟨u, hu⟩ := (V.crlf_iff _).1 hc
    have hl : ((strB s).drop p).length = u.length + 2 := by rw [hu]; rfl
    rw [List.length_drop, strB_len] at hl
    rw [hu]
    show ((2 : Int), s.size - u.length) = _
    congr 1; omega
  · rw [if_neg hc]
    have hl : ((strB s).drop p).length = s.size - p := by rw [List.length_drop, strB_len]
    rw [hd, V.mk_other _ _ _ h44 (fun ⟨h1, u, h2⟩ => hc ((V.crlf_iff _).2 ⟨u, by rw [hd, h1, h2]⟩)), ← hd, hl]
    congr 1; omega
set_option maxRecDepth 100000 in
set_option maxHeartbeats 4000000 in
theorem behind_any (s : ByteArray) (p : Nat) (w : World) (hsm : s.size ≤ 100000000) (hp : p ≤ s.size) :
    Calls Try.prog 25 #[.string s, .int .i64 (p : Int)] w fun e w' => e = .returned (.agg #[.int .i64 (V.mk s.size ((strB s).drop p)).1, .int .i64 ((V.mk s.size ((strB s).drop p)).2 : Nat)]) ∧ Below w.heap.size w w' := by
  have hB : ∀ (c : Array Value), Below w.heap.size w (w.alloc (.cells c 44)) := fun c => (Below.refl _ w).alloc (Nat.le_refl _) _
  have hC : ∀ (c : Array Value), (w.alloc (.cells c 44)).heap[w.heap.size]? = some (.cells c 44 (0, 0)) := fun c => World.alloc_heap_new w _
  rcases Nat.lt_or_ge p s.size with hlt | hge
  · have hP := pre_calls s p hp
    rw [mk_cases s p hlt]
    obtain ⟨C, hC0⟩ : ∃ C, V.crlf ((strB s).drop p) = C := ⟨_, rfl⟩
    simp only [hC0] at hP ⊢
    obtain ⟨x, hx⟩ : ∃ x : UInt8, s[p] = x := ⟨_, rfl⟩
    have hx0 : ∀ h : p < s.size, s[p]'h = x := fun _ => hx
    rw [hx]
    have hne : ((p : Int) == (s.size : Int)) = false := by simp; omega
    by_cases h44 : (x.toNat : Int) = 44
    · rw [if_pos h44]
      have e1 : ((x.toNat : Int) == 44) = true := by simpa using h44
      clear hP hC0 h44
      go_enter Try.func25, Try.ntmps25
      go_wp2
      exact bodyPost_ret (results_cell_row Try.results25 _ _ w.heap.size _ _ _ _ rfl (hC _) Try.underlying44 rfl mark_info) rfl ⟨rfl, hB _⟩
    · rw [if_neg h44]
      have e1 : ((x.toNat : Int) == 44) = false := by simpa using h44
      clear h44 hC0
      cases C
      all_goals
        go_enter Try.func25, Try.ntmps25
        go_wp2_with (go_at_call 30; (with_reducible refine (hP _).mono ?_); rintro e w1 ⟨rfl, rfl⟩)
        exact bodyPost_ret (results_cell_row Try.results25 _ _ w.heap.size _ _ _ _ rfl (hC _) Try.underlying44 rfl mark_info) rfl ⟨rfl, hB _⟩
  · obtain rfl : p = s.size := by omega
    rw [List.drop_eq_nil_of_le (by rw [strB_len]; exact Nat.le_refl _)]
    show Calls _ _ _ _ fun e w' => e = .returned (.agg #[.int .i64 2, .int .i64 (s.size : Int)]) ∧ Below w.heap.size w w'
    go_enter Try.func25, Try.ntmps25
    go_wp2
    exact bodyPost_ret (results_cell_row Try.results25 _ _ w.heap.size _ _ _ _ rfl (hC _) Try.underlying44 rfl mark_info) rfl ⟨rfl, hB _⟩
end Go.Proofs.Ytclnephomnkieaa
