/- Package bin: put, Value. -/
import Derived.Test.YtihpalbmkcoalaaBinVal
namespace Go.Proofs.Ytihpalbmkcoalaa
open Go.RowKit Go.Shelf
attribute [local go_sem] Oper.semAt_some
/-- a slice value that leads to these bytes -/
def IsSl (W : World) (v : Value) (l : List Int) : Prop := ∃ a n cap, v = .slice a n cap ∧ Row W .u8 a n cap l
theorem isSl_own {W : World} {base : Nat} {v : Value} {l : List Int} (h : W.ownsRow base 5 1 v l.length (u8s l)) : IsSl W v l := by
  obtain ⟨a, cap, e, hr⟩ := row_of_owns (k := .u8) h
  exact ⟨a, _, cap, e, hr⟩
theorem isSl_below {W W' : World} {v : Value} {l : List Int} (h : IsSl W v l) (hb : Below W.heap.size W W') : IsSl W' v l := by
  obtain ⟨a, n, cap, e, hr⟩ := h
  exact ⟨a, n, cap, e, row_below hr hb rfl⟩
theorem rows_of {W : World} : ∀ ps : List (Value × List Int), (∀ p ∈ ps, IsSl W p.1 p.2) → ∃ rows : List R4, rows.length = ps.length ∧ cat rows = ps.flatMap (·.2) ∧ ∀ (i : Nat) (x : R4), rows[i]? = some x → ∃ p : Value × List Int, ps[i]? = some p ∧ p.1 = .slice x.1 x.2.1 x.2.2.1 ∧ Row W .u8 x.1 x.2.1 x.2.2.1 x.2.2.2 := by
  intro ps
  induction ps with
  | nil => intro _; exact ⟨[], rfl, rfl, by simp⟩
  | cons p ps ih =>
    intro h
    obtain ⟨rows, h1, h2, h3⟩ := ih fun q hq => h q (by simp [hq])
    obtain ⟨a, n, cap, e, hr⟩ := h p (by simp)
    refine ⟨(a, n, cap, p.2) :: rows, by simp [h1], by simp only [cat, List.flatMap_cons] at h2 ⊢; rw [h2], fun i x hx => ?_⟩
    cases i with
    | zero => simp at hx; subst hx; exact ⟨p, rfl, e, hr⟩
    | succ i => simpa using h3 i x (by simpa using hx)
theorem all_at (W : World) (g n cap : Nat) (ps : List (Value × List Int)) (hc : ∀ (i : Nat) (p : Value × List Int), ps[i]? = some p → W.cell? ⟨g, i, none⟩ = some p.1) (h : ∀ p ∈ ps, IsSl W p.1 p.2) (hn : ps.length = n) (hcap : n ≤ cap) (hm : cap ≤ maxLen) (hl : (ps.flatMap (·.2)).length ≤ 1000000000) :
    Calls Try.prog 37 #[.slice (some ⟨g, 0, none⟩) n cap] W (Got W (ps.flatMap (·.2))) := by
  obtain ⟨rows, h1, h2, h3⟩ := rows_of ps h
  rw [← h2] at hl ⊢
  refine all_any rows g n cap W (fun i x hx => ?_) (by omega) hcap hm hl
  obtain ⟨p, q1, q2, q3⟩ := h3 i x hx
  exact ⟨by rw [hc i p q1, q2], q3⟩
theorem all_many (W : World) (n : Nat) (ps : List (Value × List Int)) (h : ∀ p ∈ ps, IsSl W p.1 p.2) (hn : ps.length = n) (hm : n ≤ 1000) (hl : (ps.flatMap (·.2)).length ≤ 1000000000) (cs : Array Value) (hcs : cs = (ps.map (·.1)).toArray) :
    Calls Try.prog 37 #[.slice (some ⟨W.heap.size, 0, none⟩) n n] (W.alloc (.cells cs 27)) (Got W (ps.flatMap (·.2))) := by
  subst hcs
  have hA := (Below.refl W.heap.size W).alloc (Nat.le_refl _) (.cells (ps.map (·.1)).toArray 27)
  refine (all_at _ W.heap.size n n ps (fun i p hp => ?_) (fun p hp => isSl_below (h p hp) hA) hn (Nat.le_refl _) (by unfold maxLen; omega) hl).mono ?_
  · have := cells_new W (ps.map (·.1)) 27 i p.1 (by simp [hp])
    simpa [Addr.add_lit] using this
  · rintro e w' ⟨v, rfl, ho, hb⟩
    exact ⟨v, rfl, ownsRow_mono ho hA.size, hA.trans (hb.mono hA.size)⟩
theorem all_two (W : World) (v1 v2 : Value) (l1 l2 : List Int) (h1 : IsSl W v1 l1) (h2 : IsSl W v2 l2) (hl : l1.length + l2.length ≤ 1000000000) :
    Calls Try.prog 37 #[.slice (some ⟨W.heap.size, 0, none⟩) 2 2] (W.alloc (.cells #[v1, v2] 27)) (Got W (l1 ++ l2)) := by
  have := all_many W 2 [(v1, l1), (v2, l2)] (by intro p hp; simp at hp; rcases hp with rfl | rfl <;> assumption) rfl (by omega) (by simp; omega) #[v1, v2] rfl
  simpa using this
/-- a row of another type is left alone by what grows a row -/
theorem owns_other {W W' : World} {v : Value} {base size n : Nat} {e : TypeId} {xs : List Value} (hg : W.grownBy W' v.ownBlock) (hv : W.ownsRow base e size v n xs) {u : Value} {base' size' m : Nat} {e' : TypeId} {ys : List Value} (hu : W.ownsRow base' e' size' u m ys) (hne : e' ≠ e) : W'.ownsRow base' e' size' u m ys := by
  refine ⟨hu.1, ?_⟩
  rcases hu.2 with h' | ⟨g, cap, cur, rfl, hb, hgb, r'⟩
  · exact .inl h'
  · refine .inr ⟨g, cap, cur, rfl, hb, ?_, r'⟩
    rw [hg.block g (Array.getElem?_eq_some_iff.1 hgb).1 (fun e1 => ?_)]
    · exact hgb
    · rcases hv.2 with ⟨rfl, _⟩ | ⟨g2, _, _, rfl, _, hg2, _⟩
      · cases e1
      · have : g = g2 := by simpa [Value.ownBlock] using e1
        subst this
        rw [hgb] at hg2; cases hg2; exact hne rfl
theorem info_sl : (Try.prog.info? 27).map (fun i => (i.zero, i.size, i.bytes)) = some (some (.slice none 0 0), 1, 24) := by kernel_rfl
mutual
/-- a value's bytes -/
def putV : PV → List Int
  | .mk k n s l => k :: (if k = 1 then [n] else if k = 2 then spl64 n else if k = 3 ∨ k = 4 then Bn.spl s.size 4 ++ strB s else if k = 5 then Bn.spl l.length 4 ++ putL l else [])
def putL : List PV → List Int
  | [] => []
  | x :: r => putV x ++ putL r
end
theorem putL_append (l r : List PV) : putL (l ++ r) = putL l ++ putL r := by
  induction l with
  | nil => rfl
  | cons x l ih => simp only [List.cons_append, putL, ih, List.append_assoc]
theorem putL_take (l : List PV) (i : Nat) (y : PV) (h : l[i]? = some y) : putL (l.take (i + 1)) = putL (l.take i) ++ putV y := by
  rw [List.take_add_one, h, putL_append]; simp [putL]
theorem putL_take_len (l : List PV) (i : Nat) : (putL (l.take i)).length ≤ (putL l).length := by
  have e : putL l = putL (l.take i) ++ putL (l.drop i) := by rw [← putL_append, List.take_append_drop]
  rw [e, List.length_append]; omega
/-- what a value that is formed has in it -/
theorem ok_parts {k n : Int} {s : ByteArray} {l : List PV} (h : okV (.mk k n s l) = true) : (0 ≤ k ∧ k ≤ 5) ∧ (k = 1 → n = 0 ∨ n = 1) ∧ s.size ≤ 200 ∧ (k ≠ 5 → l = []) ∧ l.length ≤ 20 ∧ okL l = true ∧ (k ≠ 3 → k ≠ 4 → s.toList.isEmpty = true) ∧ (k ≠ 1 → k ≠ 2 → n = 0) := by
  have hemp : ∀ s : ByteArray, s.toList.isEmpty = true → s.size ≤ 200 := fun s hs => by
    rw [toList_data] at hs; simp at hs; simp [ByteArray.size, hs]
  by_cases k0 : k = 0
  · subst k0; rw [okV0] at h; simp only [Bool.and_eq_true, beq_iff_eq, List.isEmpty_iff] at h; obtain ⟨⟨rfl, h2⟩, rfl⟩ := h
    exact ⟨by omega, by omega, hemp s (by simp [h2]), fun _ => rfl, by simp, rfl, fun _ _ => by simp [h2], fun _ _ => rfl⟩
  by_cases k1 : k = 1
  · subst k1; rw [okV1] at h; simp only [Bool.and_eq_true, Bool.or_eq_true, beq_iff_eq, List.isEmpty_iff] at h; obtain ⟨⟨h1, h2⟩, rfl⟩ := h
    exact ⟨by omega, fun _ => h1, hemp s (by simp [h2]), fun _ => rfl, by simp, rfl, fun _ _ => by simp [h2], fun h => absurd rfl h⟩
  by_cases k2 : k = 2
  · subst k2; rw [okV2] at h; simp only [Bool.and_eq_true, List.isEmpty_iff] at h; obtain ⟨h2, rfl⟩ := h
    exact ⟨by omega, by omega, hemp s (by simp [h2]), fun _ => rfl, by simp, rfl, fun _ _ => by simp [h2], fun _ h => absurd rfl h⟩
  by_cases k3 : k = 3
  · subst k3; rw [okV3] at h; simp only [Bool.and_eq_true, beq_iff_eq, List.isEmpty_iff] at h; obtain ⟨⟨rfl, h2⟩, rfl⟩ := h
    refine ⟨by omega, by omega, ?_, fun _ => rfl, by simp, rfl, fun h => absurd rfl h, fun _ _ => rfl⟩
    have := strB_len s
    simp only [nameB, Bool.and_eq_true, decide_eq_true_eq] at h2
    omega
  by_cases k4 : k = 4
  · subst k4; rw [okV4] at h; simp only [Bool.and_eq_true, beq_iff_eq, List.isEmpty_iff, decide_eq_true_eq] at h; obtain ⟨⟨⟨rfl, h2⟩, h3⟩, rfl⟩ := h
    exact ⟨by omega, by omega, h2, fun _ => rfl, by simp, rfl, fun _ h => absurd rfl h, fun _ _ => rfl⟩
  by_cases k5 : k = 5
  · subst k5; rw [okV5] at h; simp only [Bool.and_eq_true, beq_iff_eq, decide_eq_true_eq] at h; obtain ⟨⟨⟨rfl, h2⟩, h3⟩, h4⟩ := h
    exact ⟨by omega, by omega, hemp s h2, fun h => absurd rfl h, h3, h4, fun _ _ => h2, fun _ _ => rfl⟩
  · rw [okV6 _ _ _ _ k0 k1 k2 k3 k4 k5] at h; cases h
theorem okL_mem {l : List PV} (h : okL l = true) : ∀ x ∈ l, okV x = true := by
  induction l with
  | nil => simp
  | cons y r ih =>
    intro x hx
    simp only [okL, Bool.and_eq_true] at h
    rcases List.mem_cons.1 hx with rfl | hx
    · exact h.1
    · exact ih h.2 x hx
theorem bput_len : ∀ v : PV, okV v = true → (putV v).length ≤ 210 * szV v := by
  intro v
  induction v using pv_ind with
  | h k n s l ih =>
    intro h
    have hp := ok_parts h
    have h3 := hp.2.2.1
    have h6 := hp.2.2.2.2.2.1
    clear hp
    have hl : (putL l).length ≤ 210 * szL l := by
      clear h
      induction l with
      | nil => simp [putL]
      | cons x r ih2 =>
        simp only [okL, Bool.and_eq_true] at h6
        have h1 := ih x (by simp) h6.1
        have h2 := ih2 (fun y hy => ih y (by simp [hy])) h6.2
        simp only [putL, szL, List.length_append]
        omega
    simp only [putV, szV, List.length_cons]
    split
    · simp; omega
    · split
      · simp [spl64, Bn.spl_len]; omega
      · split
        · simp [Bn.spl_len, strB_len]; omega
        · split
          · simp [Bn.spl_len]; omega
          · simp; omega
theorem spn_in (n most : Int) (size : Nat) (h0 : 0 ≤ n) (h1 : n ≤ most) : spn n most size = Bn.spl n.toNat size := by unfold spn; rw [if_neg (by omega)]
theorem spn_byte (n : Int) (h0 : 0 ≤ n) (h1 : n ≤ 255) : spn n 255 1 = [n] := by
  rw [spn_in n 255 1 h0 h1]
  simp [Bn.spl]
  omega
end Go.Proofs.Ytihpalbmkcoalaa
