/- As Turns, of an iterator that says what each thing is that it hands on, in the world of its handing on. -/
import Derived.Test.YtibjjclfonpibaaMh32Cast
import Derived.Test.YtibjjclfonpibaaMh17Cast
import Derived.Test.YtibjjclfonpibaaMh39Cast
import Derived.Test.YtibjjclfonpibaaMh33Cast
import Derived.OwnWalkIn
import Derived.TacticsInMore
import Derived.LoopNIn
import Derived.LoopIn
namespace Go.Proofs.Ytibjjclfonpibaa
open Go.RowKit Go.Shelf
/-- what an iterator promises that turns worlds by Tn between two rounds: V says what each is that it hands on; S says what has come, and how the world is behind it -/
def SeqTurnsV {α : Type} (F : Fence) (n : Nat) (P : Program) (g : Nat) (lb : Array Value) (encs : α → Array Value) (Kp Tn : World → World → Prop) (V : List α → α → World → Prop) (S Sp : List α → World → Prop) (N : Nat) (w : World) : Prop :=
  ∀ (l : Nat) (J Jx : List α → World → Prop) (W : World), Below w.heap.size w W → (∀ s A C, J s A → Tn A C → J s C) → (∀ s A C, Jx s A → Tn A C → Jx s C) →
    (∀ pre x W1, J pre W1 → V pre x W1 → pre.length < N → YieldAt F (n - 1) P l (encs x) W1 fun e W' =>
      (e = .returned (.bool true) ∧ J (pre ++ [x]) W' ∧ Kp W1 W') ∨ (e = .returned (.bool false) ∧ Jx (pre ++ [x]) W')) →
    J [] W →
    CallsIn F n P g (#[.func (.yield l) #[] #[]] ++ lb) W fun e W' => (∃ v, e = .returned v) ∧ ((∃ xs, S xs W' ∧ J xs W') ∨ (∃ pre, Sp pre W' ∧ Jx pre W'))
variable {F : Fence} {n : Nat} {P : Program}
theorem wpIn_rangeFunc_turnsV {α : Type} {g : Operand} {ps : Array Tmp} {assign body : Code} {Q : Exit → Act → World → Prop} {a : Act} {w : World}
    (hro : F.round = none) (h1 : 1 ≤ n) {gf : Nat} {lb : Array Value} (hg : a.eval g = .func (.func gf) #[] lb) (hFg : F.fn gf) (eg : ∀ args w, (callFunc gf args).run P w = .ok (.enter gf args) w)
    {encs : α → Array Value} {Kp Tn : World → World → Prop} {V : List α → α → World → Prop} {S Sp : List α → World → Prop} {N : Nat} (hseq : SeqTurnsV F (n - 1) P gf lb encs Kp Tn V S Sp N w)
    (hTn : ∀ (A C : World) (k : Nat) (o : Obj), w.heap.size ≤ k → Tn A C → A.heap[k]? = some o → o.isCells = false → C.heap[k]? = some o)
    (hKt : ∀ A C D : World, Kp A C → Kp C D → Kp A D) (hKb : ∀ A C : World, Turned w.heap.size A C → Kp A C) (hps : ∀ x, (encs x).size = ps.size)
    (I : List α → World → Prop) (Ix : Code → List α → World → Prop) (hI : OwnFrom w.heap.size I) (hIx : ∀ c, OwnFrom w.heap.size (Ix c))
    (hIT : ∀ (s : List α) (A C : World), I s A → Tn A C → I s C) (hIxT : ∀ (c : Code) (s : List α) (A C : World), Ix c s A → Tn A C → Ix c s C)
    (hS : OwnFrom w.heap.size S) (hSp : OwnFrom w.heap.size Sp) (h0 : I [] w)
    (hround : ∀ (l : Nat) (pre : List α) (x : α) (W : World), I pre W → V pre x W → pre.length < N →
      assign.wpIn (F.inRound l) (n - 1 - 1) P (Exit.then (fun a₁ W₁ => KeepsFrom w.heap.size W W₁ ∧ Kp W W₁ ∧ ∀ W₂, Turned w.heap.size W₁ W₂ →
          body.wpIn (F.inRound l) (n - 1 - 1) P (turnPost w.heap.size Kp I Ix (pre ++ [x]) W₂) a₁ W₂) (fun _ _ _ => False))
        { tmps := (ps.zip (encs x)).foldl (fun t (p, v) => t.setIfInBounds p v) a.tmps, defers := [] } W)
    (hdone : ∀ (D : Nat) (xs : List α) (W : World), w.heap.size ≤ D → S xs W → I xs W → W.heap[D]? = some (.deferred (some [])) → Q .normal { a with defers := { target := .collected D, args := #[] } :: a.defers } W)
    (hstop : ∀ (D : Nat) (c : Code) (pre : List α) (W : World), w.heap.size ≤ D → Sp pre W → Ix c pre W → W.heap[D]? = some (.deferred (some [])) → c.wpIn F n P Q { a with defers := { target := .collected D, args := #[] } :: a.defers } W) :
    (Code.rangeFunc g ps assign body).wpIn F n P Q a w := by
  obtain ⟨D, hD⟩ : ∃ D, D = w.heap.size := ⟨_, rfl⟩
  refine wpIn_rangeFunc fun fn hfn => ?_
  rw [hro]
  -- the loop's record, by its state and its pending jump
  obtain ⟨rec, hrec⟩ : ∃ rec : LoopState → Option Code → Obj, rec = fun st j => .loop { state := st, pending := j, fn, tmps := a.tmps, params := ps, assign, body, defers := D } := ⟨_, rfl⟩
  have hnc : ∀ st j, (rec st j).isCells = false := fun st j => by rw [hrec]; rfl
  have hnw : ∀ st j, (rec st j).isWalk = false := fun st j => by rw [hrec]; rfl
  -- the loop's two blocks, in a world
  obtain ⟨Lies, hLies⟩ : ∃ Lies : LoopState → Option Code → World → Prop, Lies = fun st j W => W.heap[D + 1]? = some (rec st j) ∧ W.heap[D]? = some (.deferred (some [])) := ⟨_, rfl⟩
  have lies : ∀ {st j W}, Lies st j W ↔ W.heap[D + 1]? = some (rec st j) ∧ W.heap[D]? = some (.deferred (some [])) := fun {st j W} => by rw [hLies]
  have liesPut : ∀ {st j W} st' j', Lies st j W → Lies st' j' (W.putObj (D + 1) (rec st' j')) := fun {st j W} st' j' h => by
    rw [lies] at h ⊢
    exact ⟨World.putObj_heap_same (Array.getElem?_eq_some_iff.1 h.1).1, (World.putObj_heap_other (by omega)).trans h.2⟩
  have turn : ∀ {st j W} st' j', Lies st j W → Turned w.heap.size W (W.putObj (D + 1) (rec st' j')) := fun {st j W} st' j' h => ⟨D + 1, rec st j, _, by omega, (lies.1 h).1, hnc _ _, hnw _ _, rfl⟩
  have liesKeep : ∀ {st j A C}, KeepsFrom w.heap.size A C → Lies st j A → Lies st j C := fun {st j A C} k h => by
    rw [lies] at h ⊢
    exact ⟨k.same _ _ (by omega) h.1 (hnc _ _), k.same _ _ (by omega) h.2 rfl⟩
  have liesTurn : ∀ {st j A C}, Tn A C → Lies st j A → Lies st j C := fun {st j A C} k h => by
    rw [lies] at h ⊢
    exact ⟨hTn _ _ _ _ (by omega) k h.1 (hnc _ _), hTn _ _ _ _ (by omega) k h.2 rfl⟩
  have start := run_enterLoop_outer (P := P) (w := w) fn a.tmps ps assign body
  rw [← hD] at start
  obtain ⟨W0, hW0⟩ : ∃ W0, W0 = (w.alloc (.deferred (some []))).alloc (rec .ready none) := ⟨_, rfl⟩
  have lies0 : Lies .ready none W0 := by
    rw [lies, hW0]
    refine ⟨?_, (Below.heap_alloc _ _ _ (by simp; omega)).trans (by rw [hD]; exact World.alloc_heap_new w _)⟩
    have := World.alloc_heap_new (w.alloc (.deferred (some []))) (rec .ready none)
    rwa [World.size_alloc, ← hD] at this
  have below0 : Below w.heap.size w W0 := hW0 ▸ ((Below.refl _ w).alloc (Nat.le_refl _) _).alloc (by simp) _
  have i0 : I [] W0 := hW0 ▸ hI.alloc _ (hI.alloc _ h0)
  refine ⟨D + 1, [{ target := .collected D, args := #[] }], W0, { target := .fn (.func gf) lb, args := #[.func (.yield (D + 1)) #[] #[]] }, W0, gf, #[.func (.yield (D + 1)) #[] #[]] ++ lb, W0,
    by rw [start, hW0, hrec], by simp only [resolve, hg]; simp [go_sem], fun f' hf' => ?_, by simp [invoke, go_sem, eg], fun _ => h1, ?_⟩
  · simp [Target.leads] at hf'; subst hf'; exact hFg
  refine (hseq (D + 1) (fun s W => I s W ∧ Lies .ready none W) (fun s W => ∃ c, Ix c s W ∧ Lies .done (some c) W) W0 below0
    (fun s A C h k => ⟨hIT _ _ _ h.1 k, liesTurn k h.2⟩) (fun s A C ⟨c, h⟩ k => ⟨c, hIxT _ _ _ _ h.1 k, liesTurn k h.2⟩) ?_ ⟨i0, lies0⟩).mono ?_
  · rintro pre x W ⟨hi, hL⟩ hVx hlen
    have hl1 := (lies.1 hL).1
    have hy := run_yield (P := P) (args := encs x) (by rw [hrec] at hl1; exact hl1) (hps x)
    refine ⟨fn, _, assign, body, hy, roundIn_of_wpIn hfn (wpIn_mono (hround (D + 1) pre x W hi hVx hlen) ?_)⟩
    rintro e a₁ W₁ hp
    cases e with
    | normal =>
      obtain ⟨k1, kp1, hb⟩ := hp
      have hL1 := liesKeep k1 hL
      have hb1 := run_beginRound (P := P) (w := W₁) (by have := (lies.1 hL1).1; rw [hrec] at this; exact this) rfl
      have e2 : (W₁.putObj (D + 1) (rec .busy none)) = W₁.putObj (D + 1) (.loop { state := .busy, pending := none, fn, tmps := a.tmps, params := ps, assign, body, defers := D }) := by rw [hrec]
      refine ⟨_, hb1, ?_⟩
      rw [← e2]
      have hL2 := liesPut .busy none hL1
      have t2 := turn .busy none hL1
      refine wpIn_mono (hb _ t2) ?_
      have fin : ∀ (jump : Option Code) (W3 : World), KeepsFrom w.heap.size (W₁.putObj (D + 1) (rec .busy none)) W3 → Lies .busy none W3 ∧
          (Instr.endRound (D + 1) jump).run P W3 = .ok (.bool jump.isNone) (W3.putObj (D + 1) (rec (if jump.isNone then .ready else .done) jump)) := fun jump W3 k => by
        have hL3 := liesKeep k hL2
        refine ⟨hL3, ?_⟩
        have h3 := (lies.1 hL3).1
        rw [hrec] at h3
        have := run_endRound (P := P) jump h3
        rw [hrec]; exact this
      have left : ∀ (jump : Code) (W3 : World), KeepsFrom w.heap.size (W₁.putObj (D + 1) (rec .busy none)) W3 → Ix jump (pre ++ [x]) W3 → ∃ v w', (Instr.endRound (D + 1) (some jump)).run P W3 = .ok v w' ∧
          ((Ending.returned v = .returned (.bool true) ∧ (I (pre ++ [x]) w' ∧ Lies .ready none w') ∧ Kp W w') ∨ (Ending.returned v = .returned (.bool false) ∧ ∃ c, Ix c (pre ++ [x]) w' ∧ Lies .done (some c) w')) := fun jump W3 k h => by
        obtain ⟨hL3, hr⟩ := fin (some jump) W3 k
        exact ⟨_, _, hr, .inr ⟨rfl, jump, ownFrom_turned (hIx _) h (turn _ _ hL3), liesPut _ _ hL3⟩⟩
      rintro e a3 W3 hp
      cases e with
      | normal =>
        obtain ⟨k3, kp3, hi3⟩ := hp
        obtain ⟨hL3, hr⟩ := fin none W3 k3
        exact ⟨_, _, hr, .inl ⟨rfl, ⟨ownFrom_turned hI hi3 (turn _ _ hL3), liesPut _ _ hL3⟩, hKt _ _ _ (hKt _ _ _ (hKt _ _ _ kp1 (hKb _ _ t2)) kp3) (hKb _ _ (turn _ _ hL3))⟩⟩
      | ret => exact left .ret W3 hp.1 hp.2
      | exit id => exact left (.exit id) W3 hp.1 hp.2
      | goto t => exact left (.goto t) W3 hp.1 hp.2
      | panic ch => exact hp.elim
      | outgrown => exact hp.elim
    | ret => exact hp.elim
    | exit id => exact hp.elim
    | goto t => exact hp.elim
    | panic ch => exact hp.elim
    | outgrown => exact hp.elim
  · have stop : ∀ {st j W}, Lies st j W → st ≠ .busy → ∃ W4, (Instr.endLoop (D + 1)).run P W = .ok j W4 ∧ Turned w.heap.size W W4 ∧ W4.heap[D]? = some (.deferred (some [])) := fun {st j W} hL hb => by
      have h3 := (lies.1 hL).1
      rw [hrec] at h3
      exact ⟨_, run_endLoop h3 hb, ⟨D + 1, _, _, by omega, h3, rfl, rfl, rfl⟩, (World.putObj_heap_other (by omega)).trans (lies.1 hL).2⟩
    rintro e W2 ⟨⟨v, rfl⟩, ⟨xs, hs, hi, hL⟩ | ⟨pre, hs, c, hi, hL⟩⟩
    · obtain ⟨W4, hr, ht, hd⟩ := stop hL (by simp)
      exact ⟨none, W4, hr, hdone D xs W4 (by omega) (ownFrom_turned hS hs ht) (ownFrom_turned hI hi ht) hd⟩
    · obtain ⟨W4, hr, ht, hd⟩ := stop hL (by simp)
      exact ⟨some c, W4, hr, hstop D c pre W4 (by omega) (ownFrom_turned hSp hs ht) (ownFrom_turned (hIx _) hi ht) hd⟩
end Go.Proofs.Ytibjjclfonpibaa

/- The program's cast: the iterator over the versions that steps lead to. -/
set_option linter.unusedVariables false
set_option linter.unusedSimpArgs false
set_option maxRecDepth 100000
namespace Go.Proofs.Ytibjjclfonpibaa
open Go.RowKit Go.Shelf
attribute [local go_sem] Oper.semAt_some
theorem caNan (a : Int) (w : World) : Calls Try.prog 42 #[.int .i64 a] w fun e w' => e = .returned (.bool false) ∧ w' = w := by
  have h : ((a : Int) != a) = false := by simp
  go_enter Try.func42, Try.ntmps42
  go_wp2
  go_ret
  exact ⟨rfl, rfl⟩
namespace Ca
def cmpI (a b : Int) : Int := if a < b then -1 else if b < a then 1 else 0
/-- where j steps lead to -/
def stepI (a b : Int) (j : Nat) : Int := if a ≤ b then a + j else a - j
def dist (a b : Int) : Nat := (b - a).natAbs
theorem stepI_zero (a b : Int) : stepI a b 0 = a := by unfold stepI; split <;> simp
theorem stepI_end {a b : Int} {j : Nat} (hj : j ≤ dist a b) : stepI a b j = b ↔ j = dist a b := by unfold stepI dist at *; split <;> omega
theorem stepI_succ {a b : Int} {j : Nat} (hj : j < dist a b) : stepI a b j + cmpI b a = stepI a b (j + 1) := by
  unfold stepI cmpI dist at *
  split <;> split <;> (try split) <;> omega
theorem stepI_in {a b : Int} {j : Nat} (hj : j ≤ dist a b) : (a ≤ stepI a b j ∧ stepI a b j ≤ b) ∨ (b ≤ stepI a b j ∧ stepI a b j ≤ a) := by unfold stepI dist at *; split <;> omega
end Ca
theorem caCmp (a b : Int) (w : World) : Calls Try.prog 33 #[.int .i64 a, .int .i64 b] w fun e w' => e = .returned (.int .i64 (Ca.cmpI a b)) ∧ w' = w := by
  have h1 := caNan
  by_cases hab : a < b
  · have hd : decide (a < b) = true := by simpa using hab
    have hc : Ca.cmpI a b = -1 := by unfold Ca.cmpI; rw [if_pos hab]
    rw [hc]
    clear hab hc
    go_enter Try.func33, Try.ntmps33
    go_wp2_with (go_at_call 42; (with_reducible refine (h1 _ _).mono ?_); rintro e w1 ⟨rfl, rfl⟩)
    go_ret
    exact ⟨rfl, rfl⟩
  · have hd : decide (a < b) = false := by simpa using hab
    by_cases hba : b < a
    · have hd2 : decide (b < a) = true := by simpa using hba
      have hc : Ca.cmpI a b = 1 := by unfold Ca.cmpI; rw [if_neg hab, if_pos hba]
      rw [hc]
      clear hab hba hc
      go_enter Try.func33, Try.ntmps33
      go_wp2_with (go_at_call 42; (with_reducible refine (h1 _ _).mono ?_); rintro e w1 ⟨rfl, rfl⟩)
      go_ret
      exact ⟨rfl, rfl⟩
    · have hd2 : decide (b < a) = false := by simpa using hba
      have hc : Ca.cmpI a b = 0 := by unfold Ca.cmpI; rw [if_neg hab, if_neg hba]
      rw [hc]
      clear hab hba hc
      go_enter Try.func33, Try.ntmps33
      go_wp2_with (go_at_call 42; (with_reducible refine (h1 _ _).mono ?_); rintro e w1 ⟨rfl, rfl⟩)
      go_ret
      exact ⟨rfl, rfl⟩
/-- what is handed on: the version that so many steps lead to -/
def CaV (t : TemplM) (a b : Int) (pre : List VItem) (y : VItem) (W : World) : Prop := Rc.verOf t (Ca.stepI a b (pre.length + 1)) = some y.1 ∧ y.2.1.2.1 = y.1.slots.length ∧ y.2.2.2.1 = y.1.cols.length ∧ VerAt W y.1 y.2.1.1 y.2.1.2.2 y.2.2.1 y.2.2.2.2
/-- what a round keeps for the iterator: all blocks but the one of what is stepped -/
def CaK (w0 : World) (bx : Nat) (A C : World) : Prop := (Below w0.heap.size w0 A → Below w0.heap.size w0 C) ∧ ∀ b cs t fr, A.heap[b]? = some (.cells cs t fr) → b ≠ bx → C.heap[b]? = some (.cells cs t fr)
theorem caBox {W : World} {b : Nat} {v : Value} {t : TypeId} (h : W.heap[b]? = some (.cells #[v] t (0, 0))) : W.cell? ⟨b, 0, none⟩ = some v := by simp [World.cell?, h]
theorem caThree {W : World} {b : Nat} {u0 u1 u2 : Value} {t : TypeId} (h : W.heap[b]? = some (.cells #[u0, u1, u2] t (0, 0))) : W.cell? ⟨b, 0, none⟩ = some u0 ∧ W.cell? ⟨b, 1, none⟩ = some u1 ∧ W.cell? ⟨b, 2, none⟩ = some u2 := by
  refine ⟨?_, ?_, ?_⟩ <;> simp [World.cell?, h]
set_option maxHeartbeats 16000000 in
theorem caSteps1_in (n : Nat) (hn : 1 ≤ n) (l bf bt bT bx : Nat) (w0 : World) (t : TemplM) (sa : Option Addr) (sc : Nat) (ta : Option Addr) (tc : Nat) (a b : Int) (hg : greatT t = false) (hi : IsTempl w0 t (.agg #[.string t.nm, .slice sa t.slots.length sc, .slice ta t.steps.length tc]))
    (ha : 1 ≤ a ∧ a ≤ 9) (hb : 1 ≤ b ∧ b ≤ 9) (hver : ∀ j, j ≤ Ca.dist a b → ∃ x, Rc.verOf t (Ca.stepI a b j) = some x)
    (J Jx : List VItem → World → Prop) (hJ : ∀ s A C, J s A → Below A.heap.size A C → J s C)
    (hY : ∀ pre x W1, J pre W1 → CaV t a b pre x W1 → pre.length < 9 → YieldAt Fence.wide (n - 1) Try.prog l (verV x) W1 fun e W' =>
      (e = .returned (.bool true) ∧ J (pre ++ [x]) W' ∧ CaK w0 bx W1 W') ∨ (e = .returned (.bool false) ∧ Jx (pre ++ [x]) W'))
    (W : World) (hW : Below w0.heap.size w0 W) (hf : W.heap[bf]? = some (.cells #[.int .i64 a] 3 (0, 0))) (ht : W.heap[bt]? = some (.cells #[.int .i64 b] 3 (0, 0))) (hT : W.heap[bT]? = some (.cells #[.string t.nm, .slice sa t.slots.length sc, .slice ta t.steps.length tc] 25 (0, 0)))
    (hne : bf ≠ bx ∧ bt ≠ bx ∧ bT ≠ bx) (h0 : J [] W) :
    CallsIn Fence.wide n Try.prog 32 #[.func (.yield l) #[] #[], .pointer (some ⟨bf, 0, none⟩), .pointer (some ⟨bt, 0, none⟩), .pointer (some ⟨bT, 0, none⟩)] W fun e W' => (∃ v, e = .returned v) ∧
      ((∃ ys, ys.length = Ca.dist a b ∧ J ys W') ∨ (∃ pre, True ∧ Jx pre W')) := by
  have hCm := fun (W : World) => caCmp b a W
  refine callsIn_of_wp Try.func32 rfl trivial ?_ rfl
  simp only [Try.ntmps32, List.size_toArray, List.length_cons, List.length_nil, Nat.reduceAdd, Nat.reduceSub, Array.replicate_succ, Array.replicate_zero, List.push_toArray, List.append_toArray, List.nil_append, List.cons_append]
  have c0 := caBox hf
  have HI := Lib.hid hi; have HG := Lib.hid hg; have HY := Lib.hid hY; have HJ := Lib.hid hJ; have HV := Lib.hid hver; have HF := Lib.hid hf; have HT := Lib.hid ht; have HTT := Lib.hid hT; have HW := Lib.hid hW; have H0 := Lib.hid h0
  obtain ⟨d, hd⟩ : ∃ d, Ca.dist a b = d := ⟨_, rfl⟩
  have hd8 : d ≤ 8 := by rw [← hd]; unfold Ca.dist; omega
  have HD := Lib.hid hd
  rw [hd]
  clear hi hg hY hJ hver hf ht hT hW h0 hd
  gi_wp2
  gi_loopw [5] (fun i wr => ∃ (q : Nat) (pre : List VItem), q ≤ d ∧ i = .int .i64 (Ca.stepI a b q) ∧ pre.length = q ∧ Below w0.heap.size w0 wr ∧ wr.heap[bf]? = some (.cells #[.int .i64 a] 3 (0, 0)) ∧ wr.heap[bt]? = some (.cells #[.int .i64 b] 3 (0, 0)) ∧ wr.heap[bT]? = some (.cells #[.string t.nm, .slice sa t.slots.length sc, .slice ta t.steps.length tc] 25 (0, 0)) ∧ J pre wr) (fun i _ => (b - intOf i).natAbs)
  case atStart => exact ⟨0, [], Nat.zero_le _, by rw [Ca.stepI_zero], rfl, HW.out, HF.out, HT.out, HTT.out, H0.out⟩
  case round =>
    obtain ⟨q, pre, hq, rfl, hpl, hB, hf, ht, hT, hJs⟩ := hrel
    have y0 := caBox hf
    have y1 := caBox ht
    obtain ⟨z0, z1, z2⟩ := caThree hT
    obtain ⟨v, hv⟩ : ∃ v, Ca.stepI a b q = v := ⟨_, rfl⟩
    rcases Nat.lt_or_ge q d with hlt | hge
    · have hvb : (v != b) = true := by
        rw [bne_iff_ne, ← hv]
        intro e
        have := (Ca.stepI_end (by rw [HD.out]; omega)).1 e
        rw [HD.out] at this; omega
      obtain ⟨x, hx⟩ := HV.out (q + 1) (by rw [HD.out]; omega)
      obtain ⟨L, m, hL, hxm, hvm⟩ := Ca.verOf_at hx
      have hm9 : m + 1 ≤ 9 := by
        have h1 := (List.getElem?_eq_some_iff.1 hxm).1
        have h2 := Sc.vers_length hL
        omega
      have hvn : IntKind.i64.wrap (v + Ca.cmpI b a) = ((m + 1 : Nat) : Int) := by
        rw [← hv, Ca.stepI_succ (by rw [HD.out]; omega), hvm, IntKind.wrap_i64]; omega
      have hAt := fun (W : World) (hb : Below w0.heap.size w0 W) => atC t L m x W _ HG.out hL hxm (isTempl_below hb HI.out)
      have HAT := Lib.hid hAt; have HX := Lib.hid hx; have HVM := Lib.hid hvm; have HVV := Lib.hid hv
      rw [hv]
      clear hAt hx hxm hvm hL hv
      gi_wp2_with (first
        | (refine ⟨trivial, ?_⟩; gi_at_call 33; refine (callsIn_wide.2 (hCm _)).mono ?_; rintro e W1 ⟨rfl, rfl⟩)
        | (refine ⟨trivial, ?_⟩; gi_at_call 34; refine (callsIn_wide.2 (HAT.out _ hB)).mono ?_; rintro e W2 ⟨⟨xa, xc, xa', xc', rfl, hva⟩, hB2⟩; have HVA := Lib.hid hva; clear hva))
      have hA6 := (Below.refl _ W2).alloc (Nat.le_refl _) (.cells #[.slice xa x.slots.length xc, .slice xa' x.cols.length xc'] 56)
      have hBA := hB2.trans (hA6.mono hB2.size)
      obtain ⟨x0, x1, _, _⟩ := two_all (heap_self9 W2 (.cells #[.slice xa x.slots.length xc, .slice xa' x.cols.length xc'] 56))
      have hcv : CaV t a b pre (x, (xa, x.slots.length, xc), (xa', x.cols.length, xc')) (W2.alloc (.cells #[.slice xa x.slots.length xc, .slice xa' x.cols.length xc'] 56)) := ⟨by rw [hpl]; exact HX.out, rfl, rfl, verAt_below HVA.out hA6⟩
      obtain ⟨fn, tmps, assign, body, hy, hR9⟩ := HY.out pre (x, (xa, x.slots.length, xc), (xa', x.cols.length, xc')) _ (HJ.out _ _ _ hJs hBA) hcv (by omega)
      simp only [verV, vSl, vCo] at hy
      have hfA := (hBA.block _ (Array.getElem?_eq_some_iff.1 hf).1).trans hf
      have htA := (hBA.block _ (Array.getElem?_eq_some_iff.1 ht).1).trans ht
      have hTA := (hBA.block _ (Array.getElem?_eq_some_iff.1 hT).1).trans hT
      have hBB := hB.trans (hBA.mono hB.size)
      have HFA := Lib.hid hfA; have HTA := Lib.hid htA; have HTTA := Lib.hid hTA; have HBB := Lib.hid hBB
      clear hcv hfA htA hTA hBB hBA hA6 hB2 z0 z1 z2 y0 y1 hf ht hT hJs
      gi_wp2
      rw [hy]
      refine ⟨fun _ => hn, hR9.mono ?_⟩
      rintro e W3 (⟨rfl, hJ3, hK3⟩ | ⟨rfl, hJx3⟩)
      · clear hy hR9
        have HJ3 := Lib.hid hJ3; have HK3 := Lib.hid hK3
        clear hJ3 hK3
        gi_wp2
        go_roundw
        case rel => exact ⟨q + 1, pre ++ [(x, (xa, x.slots.length, xc), (xa', x.cols.length, xc'))], by omega, (by rw [HVM.out]; first | rfl | simp), by simp [hpl], HK3.out.1 HBB.out, HK3.out.2 _ _ _ _ HFA.out hne.1, HK3.out.2 _ _ _ _ HTA.out hne.2.1, HK3.out.2 _ _ _ _ HTTA.out hne.2.2, HJ3.out⟩
        case measure =>
          have e1 := HVM.out
          have e2 := HVV.out
          have e3 := HD.out
          unfold Ca.stepI at e1 e2
          unfold Ca.dist at e3
          simp only [intOf]
          split at e1 <;> split at e2 <;> omega
      · clear hy hR9
        gi_wp2
        all_goals (
          refine bodyPost_ret (results_none rfl _ _ _) rfl ?_
          exact ⟨⟨_, rfl⟩, .inr ⟨_, trivial, hJx3⟩⟩)
    · obtain rfl : q = d := by omega
      have hve : v = b := by rw [← hv]; exact (Ca.stepI_end (by rw [HD.out]; omega)).2 HD.out.symm
      rw [hv, hve]
      have hvb : (b != b) = false := by simp
      have HPL := Lib.hid hpl
      clear hv hve hpl
      gi_wp2
      all_goals (
        refine bodyPost_end (results_none rfl _ _ _) rfl ?_
        exact ⟨⟨_, rfl⟩, .inl ⟨pre, HPL.out, hJs⟩⟩)
end Go.Proofs.Ytibjjclfonpibaa
