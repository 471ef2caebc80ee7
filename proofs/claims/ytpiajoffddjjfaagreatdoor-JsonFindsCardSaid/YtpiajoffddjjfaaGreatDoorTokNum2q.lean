/- Layer 7: the number at a place: strings.ContainsAny and num.Parse of the row. -/
import Derived.Test.YtpiajoffddjjfaaGreatDoorTokNumq
namespace Go.Proofs.YtpiajoffddjjfaaGreatDoor
open Go.RowKit Go.Shelf
theorem indexAny_iff (c : List UInt8) : ∀ l : List UInt8, 0 ≤ Lib.indexAny l c ↔ l.any (fun b => c.contains b) = true
  | [] => by simp [Lib.indexAny]
  | b :: l => by
    have ih := indexAny_iff c l
    have hge := Lib.indexAny_ge c l
    unfold Lib.indexAny
    cases hb : c.contains b with
    | true => rw [List.any_cons, hb]; simp
    | false =>
      rw [List.any_cons, hb, Bool.false_or, ← ih]
      by_cases h2 : Lib.indexAny l c = -1
      · have h3 : (Lib.indexAny l c == -1) = true := by simpa using h2
        rw [h3]; simp; omega
      · have h3 : (Lib.indexAny l c == -1) = false := by simpa using h2
        rw [h3]; simp; omega
theorem dot_u8 (b : UInt8) : (ByteArray.mk #[46, 101, 69]).data.toList.contains b = [46, 101, 69].contains (b.toNat : Int) := by
  have h : ∀ n : UInt8, b = n ↔ (b.toNat : Int) = (n.toNat : Int) := fun n => by rw [← UInt8.toNat_inj]; omega
  rw [Bool.eq_iff_iff]
  simp [h]
theorem containsAny_eq (t : ByteArray) : Lib.containsAny t.data.toList (ByteArray.mk #[46, 101, 69]).data.toList = (strB t).any (fun x => [46, 101, 69].contains x) := by
  unfold Lib.containsAny
  rw [Bool.eq_iff_iff, decide_eq_true_iff, indexAny_iff]
  unfold strB
  rw [List.any_map]
  simp only [Function.comp_def]
  rw [show (fun b => (ByteArray.mk #[46, 101, 69]).data.toList.contains b) = (fun b : UInt8 => [46, 101, 69].contains (b.toNat : Int)) from funext dot_u8]
namespace K
theorem one_out (c l : List Int) (p : Nat) (h : one c l p ≠ p) : p < l.length ∧ c.contains (l[p]?.getD 0) = true := by
  unfold one at h; split at h
  · assumption
  · exact absurd rfl h
/-- a row that is a number has a byte of . e E just if it goes on behind its whole part -/
theorem num_any (r : List Int) (h : isNum r = true) : r.any (fun x => [46, 101, 69].contains x) = decide (whole r < r.length) := by
  have h1 : one [45] r 0 ≤ r.length := (one_le [45] r 0 (Nat.zero_le _)).2.1
  have hw := runTo_le dg r (one [45] r 0) h1
  have hin := runTo_in dg r (one [45] r 0)
  have hf : one [45] r 0 = 0 ∨ (one [45] r 0 = 1 ∧ r[0]?.getD 0 = 45) := by
    by_cases h0 : one [45] r 0 = 0
    · exact .inl h0
    · have := one_out [45] r 0 h0
      refine .inr ⟨?_, by simpa using this.2⟩
      unfold one; rw [if_pos this]
  change _ = decide (runTo dg r (one [45] r 0) < r.length)
  unfold isNum whole at h
  generalize one [45] r 0 = f at *
  generalize runTo dg r f = a at *
  split at h
  · cases h
  rename_i hne
  rw [Bool.eq_iff_iff, List.any_eq_true, decide_eq_true_iff]
  constructor
  · rintro ⟨x, hx, hc⟩
    obtain ⟨q, hq, rfl⟩ := List.getElem_of_mem hx
    rcases Nat.lt_or_ge a r.length with hlt | hge
    · exact hlt
    · exfalso
      have hxq : r[q]?.getD 0 = r[q] := by rw [List.getElem?_eq_getElem hq]; rfl
      rcases Nat.lt_or_ge q f with hqf | hqf
      · rcases hf with rfl | ⟨rfl, h45⟩
        · omega
        · obtain rfl : q = 0 := by omega
          rw [hxq] at h45
          rw [h45] at hc
          revert hc; decide
      · have hd := hin q hqf (by omega)
        rw [hxq] at hd
        simp [dg] at hd hc
        omega
  · intro hlt
    unfold frac at h
    by_cases hd : one [46] r a = a
    · rw [if_pos hd] at h
      simp only at h
      unfold expo at h
      by_cases he : one [101, 69] r a = a
      · rw [if_pos he] at h
        simp at h; omega
      · have := one_out _ _ _ he
        refine ⟨r[a], List.getElem_mem _, ?_⟩
        have h2 := this.2
        rw [List.getElem?_eq_getElem hlt, Option.getD_some] at h2
        simp at h2 ⊢; omega
    · have := one_out _ _ _ hd
      refine ⟨r[a], List.getElem_mem _, ?_⟩
      have h2 := this.2
      rw [List.getElem?_eq_getElem hlt, Option.getD_some] at h2
      simp at h2 ⊢; omega
def numAt (l : List Int) (p : Nat) : Int × Nat × Int :=
  if (number (row l p (runTo nb l p))).2 = 0 then ((number (row l p (runTo nb l p))).1, runTo nb l p, 0) else (0, p, (number (row l p (runTo nb l p))).2)
theorem row_ascii (l : List Int) (p : Nat) (x : Int) (hx : x ∈ row l p (runTo nb l p)) : x < 128 := by
  unfold row at hx
  obtain ⟨i, hi, rfl⟩ := List.getElem_of_mem hx
  have hi' := hi
  rw [List.length_drop, List.length_take] at hi'
  have := runTo_in nb l p (p + i) (by omega) (by omega)
  rw [List.getElem_drop, List.getElem_take]
  rw [List.getElem?_eq_getElem (by omega), Option.getD_some] at this
  simp [nb, dg] at this
  omega
end K
set_option maxHeartbeats 2000000 in
theorem tokNumber_any (s : ByteArray) (p : Nat) (w : World) (hsm : s.size ≤ 100000) (hp : p ≤ s.size) :
    Calls Tryz.prog 51 #[.string s, .int .i64 p] w fun e w' => e = .returned (.tuple #[.int .i64 (K.numAt (strB s) p).1, .int .i64 ((K.numAt (strB s) p).2.1 : Nat), .int .i64 (K.numAt (strB s) p).2.2]) ∧ Below w.heap.size w w' := by
  have hm : s.size ≤ maxLen := by unfold maxLen; omega
  have c1 := fun w => tokRun_any s ⟨#[48, 49, 50, 51, 52, 53, 54, 55, 56, 57, 45, 43, 46, 101, 69]⟩ K.nb (by decide) p w hm hp
  have l1 := K.runTo_le K.nb (strB s) p (by rw [strB_len]; exact hp)
  rw [strB_len] at l1
  have hasc := K.row_ascii (strB s) p
  obtain ⟨g, hg⟩ : ∃ g, K.numAt (strB s) p = g := ⟨_, rfl⟩
  rw [hg]
  unfold K.numAt at hg
  obtain ⟨q, hq⟩ : ∃ q, K.runTo K.nb (strB s) p = q := ⟨_, rfl⟩
  simp only [hq] at c1 l1 hg hasc
  clear hq
  have hrow : strB (s.extract p q) = K.row (strB s) p q := strB_sub s p q
  rw [← hrow] at hg hasc
  clear hrow
  have hts : (s.extract p q).size ≤ 100000 := by rw [ByteArray.size_extract]; omega
  have htm : (s.extract p q).size ≤ maxLen := by unfold maxLen; omega
  have c2 := fun w => isNumber_any (s.extract p q) w htm
  have c3 : ∀ w, Calls Tryz.prog 56 #[.string (s.extract p q), .string ⟨#[46, 101, 69]⟩] w fun e w' => e = .returned (.bool ((strB (s.extract p q)).any fun x => [46, 101, 69].contains x)) ∧ Below w.heap.size w w' := fun w => by
    have h := Tryz.strings_ContainsAny_laid (s.extract p q) ⟨#[46, 101, 69]⟩ w (by omega) (by decide) (fun j b hb => by
      have hmem : (b.toNat : Int) ∈ strB (s.extract p q) := List.mem_map.2 ⟨b, List.mem_of_getElem? hb, rfl⟩
      have := hasc _ hmem
      omega) (fun j b hb => by
      have hmem := List.mem_of_getElem? hb
      have hall : ∀ b ∈ (ByteArray.mk #[46, 101, 69]).data.toList, b.toNat < 128 := by decide
      exact hall b hmem)
    rw [containsAny_eq] at h
    exact h
  have c4 := fun w => numParse_any (s.extract p q) w htm
  have hz : (s.extract p q).toList = [45, 48] ↔ strB (s.extract p q) = [45, 48] := toList_lit _ [45, 48] [45, 48] rfl (by decide)
  have hany := K.num_any (strB (s.extract p q))
  clear hasc
  by_cases hn : K.isNum (strB (s.extract p q)) = true
  · simp only [hn] at c2
    have hany := hany hn
    by_cases hwl : K.whole (strB (s.extract p q)) < (strB (s.extract p q)).length
    · have hnum : K.number (strB (s.extract p q)) = (0, 5) := by unfold K.number; rw [if_neg (fun h => by rw [hn] at h; cases h), if_pos hwl]
      rw [hnum, if_neg (by decide)] at hg
      subst hg
      rw [decide_eq_true hwl] at hany
      simp only [hany] at c3
      clear hwl hany hn hz c4 hnum
      go_enter Tryz.func51, Tryz.ntmps51
      go_wp2_with (first | (go_at_call 47; (with_reducible refine (c1 _).mono ?_); rintro e w' ⟨rfl, rfl⟩) | (go_at_call 55; (with_reducible refine (c2 _).mono ?_); rintro e w' ⟨rfl, rfl⟩) | (go_at_call 56; (with_reducible refine (c3 _).mono ?_); rintro e w1 ⟨rfl, hB⟩) | (go_at_call 57; (with_reducible refine (c4 _).mono ?_); rintro e w' ⟨rfl, rfl⟩))
      go_ret3
      exact ⟨rfl, hB⟩
    · have hnum : K.number (strB (s.extract p q)) = if strB (s.extract p q) = [45, 48] then (0, 0) else M.parse (strB (s.extract p q)) := by unfold K.number; rw [if_neg (fun h => by rw [hn] at h; cases h), if_neg hwl]
      rw [hnum] at hg
      clear hnum
      rw [decide_eq_false hwl] at hany
      simp only [hany] at c3
      clear hwl hany hn
      by_cases hm0 : strB (s.extract p q) = [45, 48]
      · rw [if_pos hm0] at hg
        rw [if_pos rfl] at hg
        subst hg
        have hT : ((s.extract p q).toList = [45, 48]) = True := by simp [hz, hm0]
        clear hz hm0
        go_enter Tryz.func51, Tryz.ntmps51
        go_wp2_with (first | (go_at_call 47; (with_reducible refine (c1 _).mono ?_); rintro e w' ⟨rfl, rfl⟩) | (go_at_call 55; (with_reducible refine (c2 _).mono ?_); rintro e w' ⟨rfl, rfl⟩) | (go_at_call 56; (with_reducible refine (c3 _).mono ?_); rintro e w1 ⟨rfl, hB⟩) | (go_at_call 57; (with_reducible refine (c4 _).mono ?_); rintro e w' ⟨rfl, rfl⟩))
        all_goals first | (go_ret3; exact ⟨rfl, hB⟩) | (exfalso; simp_all; done)
      · rw [if_neg hm0] at hg
        have hT : ((s.extract p q).toList = [45, 48]) = False := by simp [hz, hm0]
        clear hz hm0
        obtain ⟨n, e, hne⟩ : ∃ n e, M.parse (strB (s.extract p q)) = (n, e) := ⟨_, _, rfl⟩
        simp only [hne] at c4 hg
        clear hne
        by_cases he : e = 0
        · subst he
          rw [if_pos rfl] at hg
          subst hg
          go_enter Tryz.func51, Tryz.ntmps51
          go_wp2_with (first | (go_at_call 47; (with_reducible refine (c1 _).mono ?_); rintro e w' ⟨rfl, rfl⟩) | (go_at_call 55; (with_reducible refine (c2 _).mono ?_); rintro e w' ⟨rfl, rfl⟩) | (go_at_call 56; (with_reducible refine (c3 _).mono ?_); rintro e w1 ⟨rfl, hB⟩) | (go_at_call 57; (with_reducible refine (c4 _).mono ?_); rintro e w' ⟨rfl, rfl⟩))
          all_goals first | (go_ret3; exact ⟨rfl, hB⟩) | (exfalso; simp_all; done)
        · rw [if_neg he] at hg
          subst hg
          have h1 : (e == 0) = false := by simpa using he
          have h2 : (e != 0) = true := by simpa using he
          go_enter Tryz.func51, Tryz.ntmps51
          go_wp2_with (first | (go_at_call 47; (with_reducible refine (c1 _).mono ?_); rintro e w' ⟨rfl, rfl⟩) | (go_at_call 55; (with_reducible refine (c2 _).mono ?_); rintro e w' ⟨rfl, rfl⟩) | (go_at_call 56; (with_reducible refine (c3 _).mono ?_); rintro e w1 ⟨rfl, hB⟩) | (go_at_call 57; (with_reducible refine (c4 _).mono ?_); rintro e w' ⟨rfl, rfl⟩))
          all_goals first | (go_ret3; exact ⟨rfl, hB⟩) | (exfalso; simp_all; done)
  · have hn' : K.isNum (strB (s.extract p q)) = false := by simpa using hn
    simp only [hn'] at c2
    have hnum : K.number (strB (s.extract p q)) = (0, 2) := by unfold K.number; rw [if_pos hn']
    rw [hnum, if_neg (by decide)] at hg
    clear hnum
    subst hg
    clear hany hn hn' hz c3 c4
    go_enter Tryz.func51, Tryz.ntmps51
    go_wp2_with (first | (go_at_call 47; (with_reducible refine (c1 _).mono ?_); rintro e w' ⟨rfl, rfl⟩) | (go_at_call 55; (with_reducible refine (c2 _).mono ?_); rintro e w' ⟨rfl, rfl⟩) | (go_at_call 56; (with_reducible refine (c3 _).mono ?_); rintro e w1 ⟨rfl, hB⟩) | (go_at_call 57; (with_reducible refine (c4 _).mono ?_); rintro e w' ⟨rfl, rfl⟩))
    go_ret3
    exact ⟨rfl, Below.refl _ _⟩
end Go.Proofs.YtpiajoffddjjfaaGreatDoor
