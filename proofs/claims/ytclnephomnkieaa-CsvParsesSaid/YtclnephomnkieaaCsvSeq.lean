/- Layer 9 of the program: the iterator over a text's fields. -/
import Derived.Test.YtclnephomnkieaaCsvIts
import Derived.Test.YtclnephomnkieaaTurns
set_option linter.unusedVariables false
namespace Go.Proofs.Ytclnephomnkieaa
open Go.RowKit Go.Shelf
attribute [local go_sem] Oper.semAt_some
def fldV (x : Fld) : Array Value := #[.string (strOfNums x.1), .agg #[.int .i64 x.2.1, .int .i64 (x.2.2 : Nat)]]
/-- between two rounds no block but a mark's turns, one from B on -/
def TnM (B : Nat) (A C : World) : Prop := ∃ row : Option Nat, A.grownBy C row ∧ (∀ b o, row = some b → A.heap[b]? = some o → ∃ cs f, o = .cells cs 44 f) ∧ ∀ b, row = some b → B ≤ b
theorem grown_of_below {A B : World} (h : Below A.heap.size A B) : A.grownBy B none := by
  obtain ⟨h1, h2, h3, h4, h5⟩ := h
  exact ⟨h1, h2, h3, h4, fun k hk _ => h5 k hk⟩
theorem tnM_of {N : Nat} {A B C : World} {b : Nat} {cs : Array Value} (h : Below A.heap.size A B) (hg : B.grownBy C (some b)) (hm : MAt B b cs) (hN : N ≤ b) : TnM N A C := by
  refine ⟨some b, grownBy_trans' (grown_of_below h) hg, fun b' o e ho => ?_, fun b' e => by cases e; exact hN⟩
  cases e
  have h1 := h.block b (Array.getElem?_eq_some_iff.1 ho).1
  rw [ho] at h1
  have h2 : B.heap[b]? = some (.cells cs 44 (0, 0)) := hm
  rw [h1] at h2
  cases h2
  exact ⟨_, _, rfl⟩
/-- what a round keeps for the iterator: its own box, all marks -/
def KM (Bs : Nat) (A C : World) : Prop := (∀ v, Boxed A Bs 9 v → Boxed C Bs 9 v) ∧ ∀ (b : Nat) (cs : Array Value) (f : Nat × Nat), A.heap[b]? = some (Obj.cells cs 44 f) → C.heap[b]? = some (Obj.cells cs 44 f)
theorem km_trans {Bs : Nat} {A C D : World} (h : KM Bs A C) (k : KM Bs C D) : KM Bs A D := ⟨fun v hv => k.1 v (h.1 v hv), fun b cs f hb => k.2 b cs f (h.2 b cs f hb)⟩
theorem km_turned {B Bs : Nat} {A C : World} (h : Turned B A C) : KM Bs A C := by
  obtain ⟨l, o, o', hB, hl, hc, _, rfl⟩ := h
  have hg := grownBy_putObj' A l o'
  refine ⟨fun v hv => hv.kept hg (fun e => ?_), fun b cs f h3 => (hg.block b (Array.getElem?_eq_some_iff.1 h3).1 (fun e => ?_)).trans h3⟩
  · cases e
    have h : A.heap[Bs]? = some (.cells #[v] 9 (0, 0)) := hv
    rw [h] at hl; cases hl; simp [Obj.isCells] at hc
  · cases e
    rw [h3] at hl; cases hl; simp [Obj.isCells] at hc
theorem grown_cell (W : World) (b i : Nat) (v : Value) : W.grownBy (W.setCell ⟨b, i, none⟩ v) (some b) :=
  ⟨rfl, rfl, rfl, (KeepsWalks.setCell W _ v).size, fun k _ hk => Below.heap_setCell _ _ _ k (fun e => hk (by rw [e]))⟩
theorem grown_cell2 (W : World) (b : Nat) (u v : Value) : W.grownBy ((W.setCell ⟨b, 0, none⟩ u).setCell ⟨b, 1, none⟩ v) (some b) := by
  have h1 := grown_cell W b 0 u
  have h2 := grown_cell (W.setCell ⟨b, 0, none⟩ u) b 1 v
  exact ⟨rfl, rfl, rfl, Nat.le_trans h1.size h2.size, fun k hk hne => (h2.block k (Nat.lt_of_lt_of_le hk h1.size) hne).trans (h1.block k hk hne)⟩
theorem mark_box_ne {W : World} {b B : Nat} {cs : Array Value} {v : Value} (hm : MAt W b cs) (hb : Boxed W B 9 v) : some B ≠ some b := by
  intro e
  cases e
  have h1 : W.heap[b]? = some (.cells cs 44 (0, 0)) := hm
  have h2 : W.heap[b]? = some (.cells #[v] 9 (0, 0)) := hb
  rw [h1] at h2
  injection h2 with h2
  injection h2 with _ h2 _
  exact absurd h2 (by decide)
/-- the loop's measure: what the mark tells -/
def mu (n mB : Nat) (W : World) : Nat := match W.cell? ⟨mB, 0, none⟩, W.cell? ⟨mB, 1, none⟩ with
  | some (.int _ k), some (.int _ p) => if k = 1 then 2 * (n - p.toNat) + 2 else if k = 2 then 2 * (n - p.toNat) + 1 else 0
  | _, _ => 0
theorem mu_at {n mB : Nat} {W : World} {k : Int} {p : Nat} (h : MAt W mB #[.int .i64 k, .int .i64 (p : Int)]) : mu n mB W = if k = 1 then 2 * (n - p) + 2 else if k = 2 then 2 * (n - p) + 1 else 0 := by
  unfold mu
  rw [mat_cell h 0 _ rfl, mat_cell h 1 _ rfl]
  simp
/-- what is still to come -/
def more (s : ByteArray) (f : Nat) (k : Int) (p : Nat) : List Fld := if k = 1 ∨ (k = 2 ∧ p < s.size) then V.items s f p else []
theorem its_more (s : ByteArray) : V.its s = more s (s.size + 1) 2 0 := by
  unfold V.its more
  simp
theorem more_go (s : ByteArray) (f : Nat) (k : Int) (p : Nat) (h : k = 1 ∨ (k = 2 ∧ p < s.size)) : more s (f + 1) k p = FRes s ((strB s).drop p) :: more s f (FRes s ((strB s).drop p)).2.1 (FRes s ((strB s).drop p)).2.2 := by
  unfold more
  rw [if_pos h]
  rfl
theorem more_stop (s : ByteArray) (f : Nat) (k : Int) (p : Nat) (h : ¬ (k = 1 ∨ (k = 2 ∧ p < s.size))) : more s f k p = [] := by
  unfold more; rw [if_neg h]
set_option maxRecDepth 100000 in
set_option maxHeartbeats 4000000 in
theorem fields1_in (n : Nat) (hn : 1 ≤ n) (l Bs B : Nat) (s : ByteArray) (hsm : s.size ≤ 100000000) (J Jx : List Fld → World → Prop) (hJ : ∀ s A C, J s A → TnM B A C → J s C)
    (hY : ∀ pre x W1, J pre W1 → pre.length < s.size + 1 → YieldAt Fence.wide (n - 1) Try.prog l (fldV x) W1 fun e W' =>
      (e = .returned (.bool true) ∧ J (pre ++ [x]) W' ∧ KM Bs W1 W') ∨ (e = .returned (.bool false) ∧ Jx (pre ++ [x]) W'))
    (W : World) (hBW : B ≤ W.heap.size) (hBs : Boxed W Bs 9 (.string s)) (h0 : J [] W) :
    CallsIn Fence.wide n Try.prog 21 #[.func (.yield l) #[] #[], .pointer (some ⟨Bs, 0, none⟩)] W fun e W' => (∃ v, e = .returned v) ∧
      ((∃ ys, ys = V.its s ∧ J ys W') ∨ (∃ pre, (∃ t, V.its s = pre ++ t) ∧ Jx pre W')) := by
  refine callsIn_of_wp Try.func21 rfl trivial ?_ rfl
  simp only [Try.ntmps21, List.size_toArray, List.length_cons, List.length_nil, Nat.reduceAdd, Nat.reduceSub, Array.replicate_succ, Array.replicate_zero, List.push_toArray, List.append_toArray, List.nil_append, List.cons_append]
  have hm0 := mat_alloc W #[.int .i64 2, .int .i64 0]
  have hBs0 := hBs.alloc (.cells #[.int .i64 2, .int .i64 0] 44)
  have hJ0 : J [] (W.alloc (.cells #[.int .i64 2, .int .i64 0] 44)) := hJ _ _ _ h0 ⟨none, World.grownBy_alloc W _ none, fun _ _ e => (by cases e), fun _ e => by cases e⟩
  obtain ⟨mB, hmB⟩ : ∃ mB, W.heap.size = mB := ⟨_, rfl⟩
  rw [hmB] at hm0 hBW
  gi_wp2
  gi_loopw [4] (fun _ wr => ∃ (p f : Nat) (k : Int) (pre : List Fld), p ≤ s.size ∧ (k = 1 ∨ k = 2 ∨ k = 0) ∧ MAt wr mB #[.int .i64 k, .int .i64 (p : Int)] ∧ J pre wr ∧ Boxed wr Bs 9 (.string s) ∧ Hid (pre ++ more s f k p = V.its s) ∧ ((k = 1 ∨ (k = 2 ∧ p < s.size)) → s.size + 1 ≤ p + f ∧ pre.length ≤ p))
    (fun _ wr => mu s.size mB wr)
  case atStart => exact ⟨0, s.size + 1, 2, [], Nat.zero_le _, .inr (.inl rfl), hm0, hJ0, hBs0, Lib.hid (its_more s).symm, fun _ => ⟨by omega, by simp⟩⟩
  case round =>
    obtain ⟨p, f, k, pre, hp, hk, hm, hJs, hbx, HCD, hco⟩ := hrel
    obtain ⟨⟨c0, c1⟩, f0, f1⟩ := mat_facts hm
    have hcx := hbx.cell
    have hmu := mu_at (n := s.size) hm
    have HMU := Lib.hid hmu; clear hmu
    by_cases hgo : k = 1 ∨ (k = 2 ∧ p < s.size)
    · obtain ⟨hpf, hpl⟩ := hco hgo
      obtain ⟨g, rfl⟩ : ∃ g, f = g + 1 := ⟨f - 1, by omega⟩
      have hcd := HCD.out
      rw [more_go s g k p hgo] at hcd
      have hpla := V.fres_place s p hp
      have hkind := (V.rest_step s [] [] (if k = 1 then 1 else 2) p hp (by rcases hgo with h | ⟨h1, h2⟩; exact .inl (by rw [if_pos h]); exact .inr ⟨by rw [if_neg (by omega)], rfl, h2⟩)).2.2.2
      have hN := fun w => begun_any s p w hsm hp
      obtain ⟨⟨t, k', p'⟩, hT⟩ : ∃ T, FRes s ((strB s).drop p) = T := ⟨_, rfl⟩
      simp only [hT, markV] at hN hpla hcd hkind
      clear hT HCD hco
      have HC2 := Lib.hid hcd; clear hcd
      have HPL := Lib.hid hpla; clear hpla
      have hkk : k' = 1 ∨ k' = 2 ∨ k' = 0 := by omega
      have HGO := Lib.hid hgo
      have htest : ((k == 1) = true) ∨ ((k == 1) = false ∧ (k == 2) = true ∧ decide (p < s.size) = true) := by
        rcases hgo with h | ⟨h1, h2⟩
        · exact .inl (by simpa using h)
        · exact .inr ⟨by rw [h1]; rfl, by rw [h1]; rfl, by simpa using h2⟩
      clear hgo hkind
      rcases htest with t1 | ⟨t1, t2, t3⟩
      all_goals
        gi_wp2_with (refine ⟨trivial, ?_⟩; gi_at_call 22; refine (callsIn_wide.2 (hN _)).mono ?_; rintro e w1 ⟨rfl, hB1⟩; have hm1 := mat_below hm hB1; obtain ⟨⟨d0, d1⟩, g0, g1⟩ := mat_facts hm1; have hbx1 : Boxed w1 Bs 9 (.string s) := (hB1.block Bs hbx.lt).trans hbx; have hcx1 := hbx1.cell; have hm2 := mat_set2 hm1 (.int .i64 k') (.int .i64 (p' : Int)); have hg2 := grown_cell2 w1 mB (.int .i64 k') (.int .i64 (p' : Int)); have hbx2 := hbx1.kept hg2 (mark_box_ne hm1 hbx1); have hJ2 := hJ _ _ _ hJs (tnM_of hB1 hg2 hm1 hBW); obtain ⟨fn, tmps, assign, body, hy, hR⟩ := hY pre (t, k', p') _ hJ2 (by omega); simp only [fldV] at hy)
      all_goals try (exfalso; simp_all [undef]; done)
      all_goals
        refine hR.mono ?_
        rintro e W3 (⟨rfl, hJ3, k1, k2⟩ | ⟨rfl, hJx3⟩)
        · have hm3 : MAt W3 mB #[.int .i64 k', .int .i64 (p' : Int)] := k2 _ _ _ hm2
          have hbx3 := k1 _ hbx2
          clear hR hy hm2 hbx2 k1 k2 hg2 hm1 hbx1 hcx1 d0 d1 g0 g1 hJ2
          gi_wp2
          go_roundw
          case rel => exact ⟨p', g, k', pre ++ [(t, k', p')], HPL.out.1, hkk, hm3, hJ3, hbx3, Lib.hid (by rw [List.append_assoc]; exact HC2.out), fun hgo2 => by
            have h1 := HPL.out
            have h2 : p < p' := by
              rcases hgo2 with h | ⟨h3, h4⟩
              · exact h1.2.1 h
              · exact h1.2.2.1 h3 (by omega)
            simp; omega⟩
          case measure =>
            rw [mu_at hm3, HMU.out]
            have h1 := HPL.out
            have h2 := HGO.out
            rcases h2 with rfl | ⟨rfl, h5⟩
            · rcases hkk with rfl | rfl | rfl
              · have := h1.2.1 rfl; simp; omega
              · simp; omega
              · simp
            · rcases hkk with rfl | rfl | rfl
              · have := h1.2.1 rfl; simp; omega
              · have := h1.2.2.1 rfl h5; simp; omega
              · simp
        · have hpr : ∃ r, V.its s = (pre ++ [(t, k', p')]) ++ r := ⟨_, by rw [List.append_assoc]; exact HC2.out.symm⟩
          have HPR := Lib.hid hpr
          clear hR hy hm2 hbx2 hg2 hm1 hbx1 hcx1 d0 d1 g0 g1 hJ2 hpr
          gi_wp2
          refine bodyPost_ret (results_none rfl _ _ _) rfl ?_
          exact ⟨⟨_, rfl⟩, .inr ⟨_, HPR.out, hJx3⟩⟩
    · have hcd := HCD.out
      rw [more_stop s f k p hgo, List.append_nil] at hcd
      have HC2 := Lib.hid hcd; clear hcd HCD
      have htest : ((k == 1) = false ∧ (k == 2) = false) ∨ ((k == 1) = false ∧ (k == 2) = true ∧ decide (p < s.size) = false) := by
        rcases hk with h | h | h
        · exact absurd (.inl h) hgo
        · exact .inr ⟨by rw [h]; rfl, by rw [h]; rfl, by simp; exact Nat.le_of_not_lt fun h2 => hgo (.inr ⟨h, h2⟩)⟩
        · exact .inl ⟨by rw [h]; rfl, by rw [h]; rfl⟩
      clear hgo hco
      rcases htest with ⟨t1, t2⟩ | ⟨t1, t2, t3⟩
      all_goals
        gi_wp2
        refine bodyPost_end (results_none rfl _ _ _) rfl ?_
        exact ⟨⟨_, rfl⟩, .inl ⟨_, HC2.out, hJs⟩⟩
theorem fields_in (n : Nat) (s : ByteArray) (w : World) :
    CallsIn Fence.wide n Try.prog 18 #[.string s] w fun e w' => e = .returned (.func (.func 21) #[] #[.pointer (some ⟨w.heap.size, 0, none⟩)]) ∧ w' = w.alloc (.cells #[.string s] 9) := by
  refine callsIn_of_wp Try.func18 rfl trivial ?_ rfl
  simp only [Try.ntmps18, List.size_toArray, List.length_cons, List.length_nil, Nat.reduceAdd, Nat.reduceSub, Array.replicate_succ, Array.replicate_zero, List.push_toArray, List.append_toArray, List.nil_append, List.cons_append]
  gi_wp2
  go_ret
  exact ⟨rfl, rfl⟩
end Go.Proofs.Ytclnephomnkieaa
