/- Layer 7: a quoted text is one Text that means it (no walk). -/
import Derived.Test.YtiflnciapboccaaDoorTokQuote
import Derived.Test.YtiflnciapboccaaDoorTokShift
import Derived.Test.YtiflnciapboccaaDoorUtfLaw
namespace Go.Proofs.YtiflnciapboccaaDoor
namespace K
theorem q1s_append (a b : List Int) : q1s (a ++ b) = q1s a ++ q1s b := by unfold q1s; rw [List.flatMap_append]
theorem q1s_high (l : List Int) (h : ∀ x ∈ l, 128 ≤ x) : q1s l = l := by
  induction l with
  | nil => rfl
  | cons x l ih =>
    have hx := h x (List.mem_cons_self ..)
    have he : q1s (x :: l) = q1 x ++ q1s l := rfl
    rw [he, ih (fun y hy => h y (List.mem_cons_of_mem _ hy))]
    unfold q1
    rw [if_neg (by omega), if_neg (by omega)]; rfl
theorem at_app (A B : List Int) (i : Nat) : (A ++ B)[A.length + i]?.getD 0 = B[i]?.getD 0 := by
  rw [List.getElem?_append_right (by omega)]; congr 2; omega
theorem hexv_hexd (k : Int) (h0 : 0 ≤ k) (h1 : k < 16) : hexv (hexd k) = k := by
  have : k = 0 ∨ k = 1 ∨ k = 2 ∨ k = 3 ∨ k = 4 ∨ k = 5 ∨ k = 6 ∨ k = 7 ∨ k = 8 ∨ k = 9 ∨ k = 10 ∨ k = 11 ∨ k = 12 ∨ k = 13 ∨ k = 14 ∨ k = 15 := by omega
  rcases this with rfl | rfl | rfl | rfl | rfl | rfl | rfl | rfl | rfl | rfl | rfl | rfl | rfl | rfl | rfl | rfl <;> rfl
/-- a code's bytes, quoted, are read as them -/
theorem text_code (c : Int) (hc : U.size c ≠ 0) (A T : List Int) :
    text (A ++ (q1s (U.put c) ++ T)) A.length = pre (U.put c) (text (A ++ (q1s (U.put c) ++ T)) (A.length + (q1s (U.put c)).length)) := by
  have hga : ∀ B : List Int, B ≠ [] → getAt (A ++ B) (A.length : Nat) = U.get B := fun B hB => by
    unfold getAt
    have : 0 < B.length := List.length_pos_iff.2 hB
    rw [if_pos (by rw [List.length_append]; omega), Int.toNat_natCast, List.drop_append_of_le_length (Nat.le_refl _), List.drop_length]; rfl
  have h0 := fun B => at_app A B 0
  simp only [Nat.add_zero] at h0
  by_cases hlow : c < 128
  · obtain ⟨hp, hc0⟩ : U.put c = [c] ∧ 0 ≤ c := by
      rcases U.size_cases c with ⟨q, hp⟩ | ⟨q, a, _, hp⟩ | ⟨q, _, _, hp⟩ | ⟨q, _, _, _, hp⟩ | ⟨q, _, _, hp⟩
      · exact absurd q hc
      · exact ⟨hp, a⟩
      all_goals omega
    have hq : q1s [c] = q1 c := by simp [q1s]
    rw [hp, hq]
    conv => lhs; rw [text_eq]
    by_cases h34 : c = 34 ∨ c = 92
    · have hq1 : q1 c = [92, c] := by unfold q1; rw [if_pos h34]
      rw [hq1]
      have hlen : (A ++ ([92, c] ++ T)).length = A.length + (2 + T.length) := by simp; omega
      have hesc : esc (A ++ ([92, c] ++ T)) A.length = ([c], 2) := by
        unfold esc
        rw [if_pos (by omega), at_app A _ 1]
        have : ([92, c] ++ T)[1]?.getD 0 = c := rfl
        rw [this]
        have : esc1 c = some c := by unfold esc1; rw [if_pos (by omega)]
        rw [this]
      rw [if_neg (by omega), h0, if_neg (by show ¬ (92 : Int) = 34; omega), if_pos (by rfl), hesc, if_neg (by simp)]
      rfl
    · by_cases h32 : c < 32
      · have hq1 : q1 c = [92, 117, 48, 48, hexd (c / 16), hexd (c % 16)] := by unfold q1; rw [if_neg h34, if_pos h32]
        rw [hq1]
        have hlen : (A ++ ([92, 117, 48, 48, hexd (c / 16), hexd (c % 16)] ++ T)).length = A.length + (6 + T.length) := by simp; omega
        have hunit : unit (A ++ ([92, 117, 48, 48, hexd (c / 16), hexd (c % 16)] ++ T)) A.length = c := by
          unfold unit
          rw [if_pos ⟨by omega, by rw [h0]; rfl, by rw [at_app A _ 1]; rfl⟩, at_app A _ 2, at_app A _ 3, at_app A _ 4, at_app A _ 5]
          show hex4 48 48 (hexd (c / 16)) (hexd (c % 16)) = c
          unfold hex4
          rw [hexv_hexd _ (by omega) (by omega), hexv_hexd _ (by omega) (by omega), show hexv 48 = 0 from rfl, if_neg (by omega)]
          omega
        have hesc : esc (A ++ ([92, 117, 48, 48, hexd (c / 16), hexd (c % 16)] ++ T)) A.length = ([c], 6) := by
          unfold esc
          rw [if_pos (by omega), at_app A _ 1]
          show (match esc1 117 with | some m => ([m], 2) | none => escU _ A.length) = _
          have : esc1 117 = none := rfl
          rw [this]
          show escU _ A.length = _
          unfold escU
          rw [hunit, if_neg (by omega), if_pos hc, hp]
        rw [if_neg (by omega), h0, if_neg (by show ¬ (92 : Int) = 34; omega), if_pos (by rfl), hesc, if_neg (by simp)]
        rfl
      · have hq1 : q1 c = [c] := by unfold q1; rw [if_neg h34, if_neg h32]
        rw [hq1]
        have hlen : (A ++ ([c] ++ T)).length = A.length + (1 + T.length) := by simp; omega
        have hg : getAt (A ++ ([c] ++ T)) (A.length : Nat) = (c, 1) := by
          rw [hga _ (by simp), ← hp, U.get_put c T hc, hp]; rfl
        have hz : ([c] ++ T)[0]?.getD 0 = c := rfl
        rw [if_neg (by omega), h0, hz, if_neg (by omega), if_neg (by omega), hg, if_neg (by simp; omega)]
        rw [List.drop_append_of_le_length (Nat.le_refl _), List.drop_length]
        rfl
  · have hhi : ∀ x ∈ U.put c, 128 ≤ x := by
      rcases U.size_cases c with ⟨q, hp⟩ | ⟨q, _, a, hp⟩ | ⟨q, a, b, hp⟩ | ⟨q, a, b, _, hp⟩ | ⟨q, a, b, hp⟩
      · exact absurd q hc
      · omega
      all_goals
        rw [hp]
        intro x hx
        simp only [List.mem_cons, List.not_mem_nil, or_false] at hx
        omega
    rw [q1s_high _ hhi]
    have hne : U.put c ≠ [] := by
      rcases U.size_cases c with ⟨q, hp⟩ | ⟨q, _, a, hp⟩ | ⟨q, a, b, hp⟩ | ⟨q, a, b, _, hp⟩ | ⟨q, a, b, hp⟩
      · exact absurd q hc
      all_goals (rw [hp]; simp)
    have hpos : 0 < (U.put c).length := List.length_pos_iff.2 hne
    have hg : getAt (A ++ (U.put c ++ T)) (A.length : Nat) = (c, (U.put c).length) := by
      rw [hga _ (by simp [hne]), U.get_put c T hc]
    have hfirst : (128 : Int) ≤ (U.put c ++ T)[0]?.getD 0 := by
      rw [List.getElem?_append_left hpos, List.getElem?_eq_getElem hpos]
      exact hhi _ (List.getElem_mem _)
    conv => lhs; rw [text_eq]
    rw [if_neg (by simp; omega), h0, if_neg (by omega), if_neg (by omega), hg, if_neg (by simp only; omega)]
    rw [List.drop_append_of_le_length (Nat.le_refl _), List.drop_length, List.nil_append, List.take_append_of_le_length (Nat.le_refl _), List.take_length]
/-- a valid text, quoted, is read as it -/
theorem text_quoted (cs : List Int) : ∀ A R : List Int, U.okAll cs = true →
    text (A ++ (q1s (cs.flatMap U.put) ++ (34 :: R))) A.length = (some (cs.flatMap U.put), A.length + (q1s (cs.flatMap U.put)).length + 1) := by
  induction cs with
  | nil =>
    intro A R _
    show text (A ++ (34 :: R)) A.length = (some [], A.length + 0 + 1)
    rw [text_eq, if_neg (by simp), if_pos (by simp)]
  | cons c cs ih =>
    intro A R h
    obtain ⟨hc, hcs⟩ := (U.okAll_cons c cs).1 h
    rw [List.flatMap_cons, q1s_append]
    have h1 := text_code c hc A (q1s (cs.flatMap U.put) ++ (34 :: R))
    have h2 := ih (A ++ q1s (U.put c)) R hcs
    rw [List.length_append, List.append_assoc] at h2
    rw [List.append_assoc, h1, h2]
    simp only [pre, List.length_append]
    congr 1; omega
/-- a quoted text between blanks is one Text that means it, and End -/
theorem its_quoted (cs : List Int) (k : Nat) (h : U.okAll cs = true) (L : List Int) (hL : L = cs.flatMap U.put) (q : Nat) (hq : q = (q1s L).length + 2) :
    its (List.replicate k 32 ++ ([34] ++ q1s L ++ [34] ++ List.replicate k 32)) = [(⟨7, k, ((k + q : Nat) : Int), L, 0⟩, k + q, 0), (⟨0, ((k + q + k : Nat) : Int), ((k + q + k : Nat) : Int), [], 0⟩, k + q + k, 0)] := by
  subst hL
  have hb : ∀ x ∈ List.replicate k (32 : Int), bl.contains x = true := fun x hx => by rw [List.eq_of_mem_replicate hx]; rfl
  rw [its_blanks (h := List.replicate k 32) (l := _) hb, List.length_replicate]
  have hX : [34] ++ q1s (cs.flatMap U.put) ++ [34] ++ List.replicate k 32 = [34] ++ (q1s (cs.flatMap U.put) ++ (34 :: List.replicate k 32)) := by simp
  rw [hX]
  obtain ⟨X, hXe⟩ : ∃ X, [34] ++ (q1s (cs.flatMap U.put) ++ (34 :: List.replicate k 32)) = X := ⟨_, rfl⟩
  have hlen : X.length = q + k := by rw [← hXe]; simp; omega
  have htx := text_quoted cs [34] (List.replicate k 32) h
  rw [hXe] at htx ⊢
  have hr0 : runTo bl X 0 = 0 := runTo_stop bl X 0 (fun _ => by rw [← hXe]; rfl)
  have h34 : X[0]?.getD 0 = 34 := by rw [← hXe]; rfl
  have hn0 : next X 0 = (⟨7, 0, (q : Nat), cs.flatMap U.put, 0⟩, q, 0) := by
    unfold next tok
    rw [hr0, if_neg (by omega), if_pos h34]
    have htx' : text X (0 + 1) = (some (cs.flatMap U.put), q) := by
      rw [show q = [(34 : Int)].length + (q1s (cs.flatMap U.put)).length + 1 by rw [hq]; simp; omega]
      exact htx
    rw [htx']
    rfl
  have hrq : runTo bl X q = q + k := by
    unfold runTo
    have hd : X.drop q = List.replicate k 32 := by
      rw [← hXe, ← hX, List.drop_append_of_le_length (by simp; omega), List.drop_of_length_le (by simp; omega), List.nil_append]
    rw [hd, List.takeWhile_replicate]
    rw [if_pos (by rfl), List.length_replicate]
  have hnq : next X q = (⟨0, ((q + k : Nat) : Int), ((q + k : Nat) : Int), [], 0⟩, q + k, 0) := by
    unfold next tok
    rw [hrq, if_pos (by omega)]
  have hits : its X = [next X 0, next X q] := by
    unfold its
    rw [show X.length + 1 = (q + k - 1) + 1 + 1 by omega]
    simp only [items]
    rw [hn0]
    simp only [ne_eq, not_true_eq_false, false_or]
    rw [if_neg (by decide)]
    have hq' := hnq
    rw [if_pos (.inr (by rw [hnq]))]
  rw [hits, hn0, hnq]
  simp only [List.map_cons, List.map_nil, mvR, mvT, if_true]
  congr 2
  · simp; omega
  · simp; omega
end K
end Go.Proofs.YtiflnciapboccaaDoor
