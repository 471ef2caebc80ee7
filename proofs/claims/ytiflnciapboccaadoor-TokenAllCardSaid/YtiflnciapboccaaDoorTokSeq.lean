/- Layer 7: the iterator over a text's tokens. -/
import Derived.Test.YtiflnciapboccaaDoorTokNext
import Derived.Test.YtiflnciapboccaaDoorMade
namespace Go.Proofs.YtiflnciapboccaaDoor
open Go.RowKit Go.Shelf
set_option linter.unusedVariables false
attribute [local go_sem] Oper.semAt_some
namespace K
theorem tx_place (f : Nat) : ∀ (l : List Int) (p : Nat), p ≤ l.length → p ≤ (tx f l p).2 ∧ (tx f l p).2 ≤ l.length ∧ ((tx f l p).1 ≠ none → p < (tx f l p).2) := by
  induction f with
  | zero => intro l p h; simp [tx, h]
  | succ f ih =>
    intro l p h
    simp only [tx]
    split
    · simp; omega
    · rename_i h1
      split
      · simp; omega
      · rename_i h34
        have hpc := pc_room l p (by omega)
        have hpre : ∀ b (x : Option (List Int) × Nat), (pre b x).2 = x.2 ∧ ((pre b x).1 ≠ none → x.1 ≠ none) := fun b x => by rcases x with ⟨_ | o, q⟩ <;> simp [pre]
        split
        · rename_i h92
          split
          · simp; omega
          · rename_i hn
            unfold pc at hpc
            rw [if_pos h92] at hpc
            have := ih l (p + (esc l p).2) hpc
            have h2 := hpre (esc l p).1 (tx f l (p + (esc l p).2))
            rw [h2.1]
            exact ⟨by omega, this.2.1, fun h => by have := this.2.2 (h2.2 h); omega⟩
        · split
          · simp; omega
          · rename_i hn
            have hg := U.getAt_le l p h
            have := ih l (p + (getAt l p).2) hg.1
            have h2 := hpre ((l.drop p).take (getAt l p).2) (tx f l (p + (getAt l p).2))
            rw [h2.1]
            exact ⟨by omega, this.2.1, fun h => by have := this.2.2 (h2.2 h); omega⟩
theorem runTo_pos (c l : List Int) (p : Nat) (h : p < l.length) (hc : c.contains (l[p]?.getD 0) = true) : p < runTo c l p := by
  rw [runTo_step c l p h hc]
  have := runTo_le c l (p + 1) h
  omega
theorem tok_place (l : List Int) (p : Nat) (hp : p ≤ l.length) : p ≤ (tok l p).2.1 ∧ (tok l p).2.1 ≤ l.length ∧ ((tok l p).2.2 = 0 → (tok l p).1.kind ≠ 0 → p < (tok l p).2.1) := by
  unfold tok
  by_cases h1 : l.length ≤ p
  · rw [if_pos h1]; exact ⟨Nat.le_refl _, hp, fun _ h => absurd rfl h⟩
  rw [if_neg h1]
  by_cases h2 : l[p]?.getD 0 = 34
  · rw [if_pos h2]
    have ht := tx_place (l.length + 1) l (p + 1) (by omega)
    change p + 1 ≤ (text l (p + 1)).2 ∧ (text l (p + 1)).2 ≤ l.length ∧ _ at ht
    cases hT : text l (p + 1) with
    | mk o q =>
      rw [hT] at ht
      cases o with
      | none => exact ⟨by simp only at ht ⊢; omega, by simp only at ht ⊢; omega, fun h => by cases h⟩
      | some o => exact ⟨by simp only at ht ⊢; omega, by simp only at ht ⊢; omega, fun _ _ => by simp only at ht ⊢; omega⟩
  rw [if_neg h2]
  by_cases h3 : l[p]?.getD 0 = 45 ∨ dg.contains (l[p]?.getD 0) = true
  · rw [if_pos h3]
    have hle := runTo_le nb l p hp
    have hpos := runTo_pos nb l p (by omega) (by
      rw [dg_iff] at h3
      rw [List.contains_iff_mem]
      simp [nb, dg]; omega)
    split
    · exact ⟨by simp only; omega, hle.2, fun _ _ => hpos⟩
    · rename_i h5; exact ⟨Nat.le_refl _, hp, fun h _ => absurd h h5⟩
  rw [if_neg h3]
  by_cases h4 : lt.contains (l[p]?.getD 0) = true
  · rw [if_pos h4]
    have hle := runTo_le lt l p hp
    have hpos := runTo_pos lt l p (by omega) h4
    split
    · exact ⟨by simp only; omega, hle.2, fun _ _ => hpos⟩
    · exact ⟨Nat.le_refl _, hp, fun h => by cases h⟩
  rw [if_neg h4]
  by_cases h5 : mk.contains (l[p]?.getD 0) = true
  · rw [if_pos h5]; exact ⟨by simp only; omega, by simp only; omega, fun _ _ => by simp only; omega⟩
  · rw [if_neg h5]; exact ⟨Nat.le_refl _, hp, fun h => by cases h⟩
theorem next_place (l : List Int) (p : Nat) (hp : p ≤ l.length) : p ≤ (next l p).2.1 ∧ (next l p).2.1 ≤ l.length ∧ ((next l p).2.2 = 0 → (next l p).1.kind ≠ 0 → p < (next l p).2.1) := by
  have h1 := runTo_le bl l p hp
  have h2 := tok_place l (runTo bl l p) h1.2
  unfold next
  exact ⟨by omega, h2.2.1, fun a b => by have := h2.2.2 a b; omega⟩
theorem items_stop (f : Nat) (l : List Int) (p : Nat) (h : (next l p).2.2 ≠ 0 ∨ (next l p).1.kind = 0) : items (f + 1) l p = [next l p] := by simp only [items]; rw [if_pos h]
theorem items_go (f : Nat) (l : List Int) (p : Nat) (h : ¬ ((next l p).2.2 ≠ 0 ∨ (next l p).1.kind = 0)) : items (f + 1) l p = next l p :: items f l (next l p).2.1 := by simp only [items]; rw [if_neg h]
end K
abbrev Item := K.Tok × Nat × Int
def itemV (x : Item) : Array Value := #[tokV x.1, .agg #[.int .i64 (x.2.1 : Nat), .int .i64 x.2.2]]
/-- what a round keeps for the iterator: its own box, the library's variable, and what it made since the round before -/
def KT (Bs : Nat) (W0 W1 A C : World) : Prop := (∀ v, Boxed A Bs 9 v → Boxed C Bs 9 v) ∧ (Err A → Err C) ∧
  ∀ b cs t f, W0.heap.size ≤ b → b < W1.heap.size → A.heap[b]? = some (.cells cs t f) → C.heap[b]? = some (.cells cs t f)
theorem kt_trans (Bs : Nat) (W0 W1 A C D : World) (h : KT Bs W0 W1 A C) (k : KT Bs W0 W1 C D) : KT Bs W0 W1 A D :=
  ⟨fun v hv => k.1 v (h.1 v hv), fun e => k.2.1 (h.2.1 e), fun b cs t f h1 h2 h3 => k.2.2 b cs t f h1 h2 (h.2.2 b cs t f h1 h2 h3)⟩
theorem err_grown {A C : World} {row : Option Nat} (h : Err A) (hg : A.grownBy C row) (hne : some 1 ≠ row) : Err C := by
  obtain ⟨ev, h1, h2⟩ := h
  refine ⟨ev, ?_, h2⟩
  rw [← h1]
  simp only [World.cell?, hg.block 1 (cell_lt h1) hne]
theorem kt_grown {Bs : Nat} {W0 W1 A C : World} {row : Option Nat} (hg : A.grownBy C row) (h1 : some Bs ≠ row) (h2 : some 1 ≠ row) (h3 : ∀ g, row = some g → ¬ (W0.heap.size ≤ g ∧ g < W1.heap.size)) : KT Bs W0 W1 A C :=
  ⟨fun v hv => hv.kept hg h1, fun e => err_grown e hg h2, fun b cs t f ha hb hc => (hg.block b (Array.getElem?_eq_some_iff.1 hc).1 (fun e => h3 b e.symm ⟨ha, hb⟩)).trans hc⟩
theorem kt_turned {B Bs : Nat} {W0 W1 A C : World} (h : Turned B A C) : KT Bs W0 W1 A C := by
  obtain ⟨l, o, o', hB, hl, hc, _, rfl⟩ := h
  have hg := grownBy_putObj' A l o'
  refine ⟨fun v hv => hv.kept hg (fun e => ?_), fun e => ?_, fun b cs t f _ _ h3 => (hg.block b (Array.getElem?_eq_some_iff.1 h3).1 (fun e => ?_)).trans h3⟩
  · cases e
    have h : A.heap[Bs]? = some (.cells #[v] 9 (0, 0)) := hv
    rw [h] at hl; cases hl; simp [Obj.isCells] at hc
  · obtain ⟨ev, h1, h2⟩ := e
    have hne : (1 : Nat) ≠ l := fun e => by
      subst e
      simp only [World.cell?, hl] at h1
      cases o <;> simp [Obj.isCells] at hc h1
    exact err_grown ⟨ev, h1, h2⟩ hg (fun e => hne (by cases e; rfl))
  · cases e
    rw [h3] at hl; cases hl; simp [Obj.isCells] at hc
set_option maxRecDepth 100000 in
set_option maxHeartbeats 4000000 in
theorem tokens1_in (n : Nat) (hn : 1 ≤ n) (l Bs : Nat) (s : ByteArray) (hsm : s.size ≤ 100000) (J Jx : List Item → World → Prop) (hJ : ∀ s A C, J s A → Below A.heap.size A C → J s C)
    (hY : ∀ pre x W0 W1, J pre W0 → Below W0.heap.size W0 W1 → pre.length < s.size + 1 → YieldAt Fence.wide (n - 1) Tryd.prog l (itemV x) W1 fun e W' =>
      (e = .returned (.bool true) ∧ J (pre ++ [x]) W' ∧ KT Bs W0 W1 W1 W') ∨ (e = .returned (.bool false) ∧ Jx (pre ++ [x]) W'))
    (W : World) (hBs : Boxed W Bs 9 (.string s)) (hE : Err W) (h0 : J [] W) :
    CallsIn Fence.wide n Tryd.prog 36 #[.func (.yield l) #[] #[], .pointer (some ⟨Bs, 0, none⟩)] W fun e W' => (∃ v, e = .returned v) ∧
      ((∃ ys, ys = K.its (strB s) ∧ J ys W') ∨ (∃ pre, Jx pre W')) := by
  refine callsIn_of_wp Tryd.func36 rfl trivial ?_ rfl
  simp only [Tryd.ntmps36, List.size_toArray, List.length_cons, List.length_nil, Nat.reduceAdd, Nat.reduceSub, Array.replicate_succ, Array.replicate_zero, List.push_toArray, List.append_toArray, List.nil_append, List.cons_append]
  have H5 := token_info
  gi_wp2
  gi_loopw [3] (fun i wr => ∃ (p f : Nat) (pre : List Item), p ≤ s.size ∧ i = .int .i64 p ∧ J pre wr ∧ Boxed wr Bs 9 (.string s) ∧ Err wr ∧ Hid (pre ++ K.items f (strB s) p = K.its (strB s)) ∧ s.size + 1 ≤ p + f ∧ pre.length ≤ p)
    (fun i _ => s.size - (intOf i).toNat)
  case atStart => exact ⟨0, s.size + 1, [], Nat.zero_le _, rfl, h0, hBs, hE, Lib.hid (by unfold K.its; rw [strB_len]; rfl), by omega, by simp⟩
  case round =>
    obtain ⟨p, f, pre, hp, rfl, hJs, hnx, hEr, HCD, hpf, hpl⟩ := hrel
    have hcx := hnx.cell
    have hN : ∀ w, Err w → Calls Tryd.prog 9 #[.string s, .int .i64 (p : Int)] w _ := fun w hE => next_any s p w hsm (by omega) (by omega) hE
    have hna : K.nextAt (strB s) (p : Int) = ((K.next (strB s) p).1, (((K.next (strB s) p).2.1 : Nat) : Int), (K.next (strB s) p).2.2) := by
      unfold K.nextAt; rw [if_pos (by rw [strB_len]; omega), Int.toNat_natCast]
    simp only [hna] at hN
    clear hna
    have hpla := K.next_place (strB s) p (by rw [strB_len]; exact hp)
    have hst := K.items_stop (f - 1) (strB s) p
    have hgo := K.items_go (f - 1) (strB s) p
    rw [show f - 1 + 1 = f by omega] at hst hgo
    rw [strB_len] at hpla
    obtain ⟨⟨tk, ta, te, ts, tn⟩, x, er, hT⟩ : ∃ T x er, K.next (strB s) p = (T, x, er) := ⟨_, _, _, rfl⟩
    simp only [hT] at hN hpla hst hgo
    clear hT
    have HST := Lib.hid hst; clear hst
    have HGO := Lib.hid hgo; clear hgo
    have HPLA := Lib.hid hpla; clear hpla
    unfold tokV tokC at hN
    simp only at hN
    gi_wp2_with (refine ⟨trivial, ?_⟩; gi_at_call 9; refine (callsIn_wide.2 (hN _ hEr)).mono ?_; rintro e W1 ⟨rfl, hB1⟩; obtain ⟨fn, tmps, assign, body, hy, hR⟩ := hY pre (⟨tk, ta, te, ts, tn⟩, x, er) wr (W1.alloc (.cells #[.int .i64 tk, .int .i64 ta, .int .i64 te, .string (strOfNums ts), .int .i64 tn] 24)) hJs (hB1.alloc hB1.size _) (by omega); simp only [itemV, tokV, tokC] at hy)
    refine hR.mono ?_
    have hnx2 : Boxed (W1.alloc (.cells #[.int .i64 tk, .int .i64 ta, .int .i64 te, .string (strOfNums ts), .int .i64 tn] 24)) Bs 9 (.string s) := (((hB1.alloc hB1.size _).block Bs hnx.lt).trans hnx)
    have hE2 : Err (W1.alloc (.cells #[.int .i64 tk, .int .i64 ta, .int .i64 te, .string (strOfNums ts), .int .i64 tn] 24)) := err_below hEr (hB1.alloc hB1.size _)
    have hg2 := gat_alloc W1 #[.int .i64 tk, .int .i64 ta, .int .i64 te, .string (strOfNums ts), .int .i64 tn]
    rintro e W3 (⟨rfl, hJ3, k1, k2, k3⟩ | ⟨rfl, hJx3⟩)
    · have hc0 := gat_cell (k3 _ _ _ _ hB1.size (by rw [World.size_alloc]; exact Nat.lt_succ_self _) hg2) 0 _ rfl
      have hnx3 := k1 _ hnx2
      have hE3 := k2 hE2
      clear k1 k2 k3 hnx2 hE2 hg2 hR hy hnx hcx
      by_cases her : er = 0
      · by_cases htk : tk = 0
        · have hcd : pre ++ [((⟨tk, ta, te, ts, tn⟩ : K.Tok), x, er)] = K.its (strB s) := by rw [← HST.out (.inr htk)]; exact HCD.out
          have HC2 := Lib.hid hcd; clear hcd
          have e1 : (er != 0) = false := by simpa using her
          have e2 : (tk == 0) = true := by simpa using htk
          have HE := Lib.hid her; have HK := Lib.hid htk; clear her htk
          gi_wp2
          all_goals
            refine bodyPost_ret (results_none rfl _ _ _) rfl ?_
            exact ⟨⟨_, rfl⟩, .inl ⟨_, HC2.out, hJ3⟩⟩
        · have hcd : (pre ++ [((⟨tk, ta, te, ts, tn⟩ : K.Tok), x, er)]) ++ K.items (f - 1) (strB s) x = K.its (strB s) := by
            rw [List.append_assoc, List.singleton_append, ← HGO.out (by rintro (h | h); exact h her; exact htk h)]; exact HCD.out
          have hpl2 := HPLA.out
          have hpx := hpl2.2.2 her htk
          have HC2 := Lib.hid hcd; clear hcd
          have e1 : (er != 0) = false := by simpa using her
          have e2 : (tk == 0) = false := by simpa using htk
          have HE := Lib.hid her; have HK := Lib.hid htk; clear her htk
          gi_wp2
          go_roundw
          case rel => exact ⟨x, f - 1, pre ++ [((⟨tk, ta, te, ts, tn⟩ : K.Tok), x, er)], hpl2.2.1, rfl, hJ3, hnx3, hE3, HC2, by omega, by simp; omega⟩
          case measure => simp [intOf]; omega
      · have hcd : pre ++ [((⟨tk, ta, te, ts, tn⟩ : K.Tok), x, er)] = K.its (strB s) := by rw [← HST.out (.inl her)]; exact HCD.out
        have HC2 := Lib.hid hcd; clear hcd
        have e1 : (er != 0) = true := by simpa using her
        have HE := Lib.hid her; clear her
        gi_wp2
        all_goals
          refine bodyPost_ret (results_none rfl _ _ _) rfl ?_
          exact ⟨⟨_, rfl⟩, .inl ⟨_, HC2.out, hJ3⟩⟩
    · clear hnx2 hE2 hg2 hR hy hnx hcx
      gi_wp2
      all_goals
        refine bodyPost_ret (results_none rfl _ _ _) rfl ?_
        exact ⟨⟨_, rfl⟩, .inr ⟨_, hJx3⟩⟩
end Go.Proofs.YtiflnciapboccaaDoor
