/- A range over an iterator that makes memory, tells how what it hands on lies in the world of the yield, and may give up by a panic; the body is never left but by its end. (Out of Made.) -/
import Derived.Test.YtcicjpdjbfgbhaaDoorMh27Cell
import Derived.Deep.RegionHeldLaw
import Derived.OrdersIn
import Derived.OwnWalkIn
namespace Go.Proofs.YtcicjpdjbfgbhaaDoor
open Go.RowKit Go.Shelf
/-- what an iterator promises that turns worlds by Tn between two rounds: X says what it hands on; S what has come where it ends, Pp where it gives up -/
def SeqGives {α : Type} (F : Fence) (n : Nat) (P : Program) (g : Nat) (fs lb : Array Value) (encs : α → Array Value) (Kp : World → World → Prop) (Tn : World → World → Prop) (X : List α → World → α → World → Prop) (S : List α → World → Prop) (Pp : List PanicEntry → List α → World → Prop) (w : World) : Prop :=
  ∀ (l : Nat) (J : List α → World → Prop) (W : World), Below w.heap.size w W → (∀ s A C, J s A → Tn A C → J s C) →
    (∀ pre x W0 W1, J pre W0 → Tn W0 W1 → X pre W0 x W1 → YieldAt F (n - 1) P l (encs x) W1 fun e W' => e = .returned (.bool true) ∧ J (pre ++ [x]) W' ∧ Kp W1 W') →
    J [] W →
    CallsIn F n P g (fs ++ #[.func (.yield l) #[] #[]] ++ lb) W fun e W' => (∃ v xs, e = .returned v ∧ S xs W' ∧ J xs W') ∨ (∃ c xs, e = .panicked c ∧ Pp c xs W' ∧ J xs W')
/-- what one step of the loop's own book-keeping does: its record, which lies at a place, is another one -/
def TurnedAt (B : Nat) (A C : World) : Prop := ∃ o o', A.heap[B]? = some o ∧ o.isCells = false ∧ o.isWalk = false ∧ C = A.putObj B o'
theorem turnedAt_grown {B : Nat} {A C : World} (h : TurnedAt B A C) : A.grownBy C (some B) ∧ ∃ o, A.heap[B]? = some o ∧ o.isCells = false := by
  obtain ⟨o, o', hl, hc, _, rfl⟩ := h
  exact ⟨grownBy_putObj' A B o', o, hl, hc⟩
/-- how a round's body is left -/
def givePost {α : Type} (B : Nat) (Kp : World → World → Prop) (I : List α → World → Prop) (xs : List α) (W : World) : Exit → Act → World → Prop
  | .normal, _, W' => KeepsFrom B W W' ∧ Kp W W' ∧ I xs W'
  | _, _, _ => False
variable {F : Fence} {n : Nat} {P : Program}
theorem wpIn_rangeFunc_gives {α : Type} {g : Operand} {ps : Array Tmp} {assign body : Code} {Q : Exit → Act → World → Prop} {a : Act} {w : World}
    (hro : F.round = none) (h1 : 1 ≤ n) {gf : Nat} {fs lb : Array Value} (hg : a.eval g = .func (.func gf) fs lb) (hFg : F.fn gf) (eg : ∀ args w, (callFunc gf args).run P w = .ok (.enter gf args) w)
    {encs : α → Array Value} {Kp : World → World → Prop} {Tn : World → World → Prop} {X : List α → World → α → World → Prop} {S : List α → World → Prop} {Pp : List PanicEntry → List α → World → Prop} (hseq : SeqGives F (n - 1) P gf fs lb encs Kp Tn X S Pp w)
    (hTn : ∀ (A C : World) (k : Nat) (o : Obj), w.heap.size ≤ k → Tn A C → A.heap[k]? = some o → o.isCells = false → C.heap[k]? = some o)
    (hKt : ∀ A C D : World, Kp A C → Kp C D → Kp A D) (hKb : ∀ A C : World, TurnedAt (w.heap.size + 1) A C → Kp A C) (hps : ∀ x, (encs x).size = ps.size)
    (I : List α → World → Prop) (hI : ∀ (s : List α) (A C : World), I s A → TurnedAt (w.heap.size + 1) A C → I s C)
    (hIT : ∀ (s : List α) (A C : World), I s A → Tn A C → I s C)
    (hS : ∀ (s : List α) (A C : World), S s A → TurnedAt (w.heap.size + 1) A C → S s C) (h0 : ∀ W : World, Below w.heap.size w W → w.heap.size + 2 ≤ W.heap.size → I [] W)
    (hround : ∀ (l : Nat) (pre : List α) (x : α) (W0 W : World), w.heap.size + 2 ≤ W0.heap.size → I pre W0 → Tn W0 W → X pre W0 x W → I pre W →
      assign.wpIn (F.inRound l) (n - 1 - 1) P (Exit.then (fun a₁ W₁ => KeepsFrom w.heap.size W W₁ ∧ Kp W W₁ ∧ ∀ W₂, TurnedAt (w.heap.size + 1) W₁ W₂ →
          body.wpIn (F.inRound l) (n - 1 - 1) P (givePost w.heap.size Kp I (pre ++ [x]) W₂) a₁ W₂) (fun _ _ _ => False))
        { tmps := (ps.zip (encs x)).foldl (fun t (p, v) => t.setIfInBounds p v) a.tmps, defers := [] } W)
    (hdone : ∀ (D : Nat) (xs : List α) (W : World), D = w.heap.size → S xs W → I xs W → W.heap[D]? = some (.deferred (some [])) → Q .normal { a with defers := { target := .collected D, args := #[] } :: a.defers } W)
    (hpan : ∀ (D : Nat) (c : List PanicEntry) (xs : List α) (W : World), D = w.heap.size → Pp c xs W → I xs W → W.heap[D]? = some (.deferred (some [])) → Q (.panic c) { a with defers := { target := .collected D, args := #[] } :: a.defers } W) :
    (Code.rangeFunc g ps assign body).wpIn F n P Q a w := by
  obtain ⟨D, hD⟩ : ∃ D, D = w.heap.size := ⟨_, rfl⟩
  refine wpIn_rangeFunc fun fn hfn => ?_
  rw [hro]
  -- the loop's record, by its state and its pending jump
  obtain ⟨rec, hrec⟩ : ∃ rec : LoopState → Option Code → Obj, rec = fun st j => .loop { state := st, pending := j, fn, tmps := a.tmps, params := ps, assign, body, defers := D } := ⟨_, rfl⟩
  have hnc : ∀ st j, (rec st j).isCells = false := fun st j => by rw [hrec]; rfl
  have hnw : ∀ st j, (rec st j).isWalk = false := fun st j => by rw [hrec]; rfl
  -- the loop's two blocks, in a world
  obtain ⟨Lies, hLies⟩ : ∃ Lies : LoopState → Option Code → World → Prop, Lies = fun st j W => W.heap[D + 1]? = some (rec st j) ∧ W.heap[D]? = some (.deferred (some [])) := ⟨_, rfl⟩
  have lies : ∀ {st j W}, Lies st j W ↔ W.heap[D + 1]? = some (rec st j) ∧ W.heap[D]? = some (.deferred (some [])) := fun {st j W} => by rw [hLies]
  have liesPut : ∀ {st j W} st' j', Lies st j W → Lies st' j' (W.putObj (D + 1) (rec st' j')) := fun {st j W} st' j' h => by
    rw [lies] at h ⊢
    exact ⟨World.putObj_heap_same (Array.getElem?_eq_some_iff.1 h.1).1, (World.putObj_heap_other (by omega)).trans h.2⟩
  have turn : ∀ {st j W} st' j', Lies st j W → TurnedAt (w.heap.size + 1) W (W.putObj (D + 1) (rec st' j')) := fun {st j W} st' j' h => by rw [← hD]; exact ⟨rec st j, _, (lies.1 h).1, hnc _ _, hnw _ _, rfl⟩
  have liesKeep : ∀ {st j A C}, KeepsFrom w.heap.size A C → Lies st j A → Lies st j C := fun {st j A C} k h => by
    rw [lies] at h ⊢
    exact ⟨k.same _ _ (by omega) h.1 (hnc _ _), k.same _ _ (by omega) h.2 rfl⟩
  have liesTurn : ∀ {st j A C}, Tn A C → Lies st j A → Lies st j C := fun {st j A C} k h => by
    rw [lies] at h ⊢
    exact ⟨hTn _ _ _ _ (by omega) k h.1 (hnc _ _), hTn _ _ _ _ (by omega) k h.2 rfl⟩
  have start := run_enterLoop_outer (P := P) (w := w) fn a.tmps ps assign body
  rw [← hD] at start
  obtain ⟨W0, hW0⟩ : ∃ W0, W0 = (w.alloc (.deferred (some []))).alloc (rec .ready none) := ⟨_, rfl⟩
  have lies0 : Lies .ready none W0 := by
    rw [lies, hW0]
    refine ⟨?_, (Below.heap_alloc _ _ _ (by simp; omega)).trans (by rw [hD]; exact World.alloc_heap_new w _)⟩
    have := World.alloc_heap_new (w.alloc (.deferred (some []))) (rec .ready none)
    rwa [World.size_alloc, ← hD] at this
  have below0 : Below w.heap.size w W0 := hW0 ▸ ((Below.refl _ w).alloc (Nat.le_refl _) _).alloc (by simp) _
  have hsz0 : w.heap.size + 2 ≤ W0.heap.size := by rw [hW0, World.size_alloc, World.size_alloc]; omega
  have i0 : I [] W0 := h0 W0 below0 hsz0
  refine ⟨D + 1, [{ target := .collected D, args := #[] }], W0, { target := .fn (.func gf) lb, args := fs ++ #[.func (.yield (D + 1)) #[] #[]] }, W0, gf, fs ++ #[.func (.yield (D + 1)) #[] #[]] ++ lb, W0,
    by rw [start, hW0, hrec], by simp only [resolve, hg]; simp [go_sem], fun f' hf' => ?_, by simp [invoke, go_sem, eg], fun _ => h1, ?_⟩
  · simp [Target.leads] at hf'; subst hf'; exact hFg
  refine (hseq (D + 1) (fun s W => I s W ∧ Lies .ready none W) W0 below0
    (fun s A C h k => ⟨hIT _ _ _ h.1 k, liesTurn k h.2⟩) ?_ ⟨i0, lies0⟩).mono ?_
  · rintro pre x Wp W ⟨hi0, hL0⟩ hTp hX
    have hi := hIT _ _ _ hi0 hTp
    have hL := liesTurn hTp hL0
    have hl1 := (lies.1 hL).1
    have hy := run_yield (P := P) (args := encs x) (by rw [hrec] at hl1; exact hl1) (hps x)
    refine ⟨fn, _, assign, body, hy, roundIn_of_wpIn hfn (wpIn_mono (hround (D + 1) pre x Wp W (by have := (Array.getElem?_eq_some_iff.1 (lies.1 hL0).1).1; omega) hi0 hTp hX hi) ?_)⟩
    rintro e a₁ W₁ hp
    cases e with
    | normal =>
      obtain ⟨k1, kp1, hb⟩ := hp
      have hL1 := liesKeep k1 hL
      have hb1 := run_beginRound (P := P) (w := W₁) (by have := (lies.1 hL1).1; rw [hrec] at this; exact this) rfl
      have e2 : (W₁.putObj (D + 1) (rec .busy none)) = W₁.putObj (D + 1) (.loop { state := .busy, pending := none, fn, tmps := a.tmps, params := ps, assign, body, defers := D }) := by rw [hrec]
      refine ⟨_, hb1, ?_⟩
      rw [← e2]
      have hL2 := liesPut .busy none hL1
      have t2 := turn .busy none hL1
      refine wpIn_mono (hb _ t2) ?_
      rintro e a3 W3 hp
      cases e with
      | normal =>
        obtain ⟨k3, kp3, hi3⟩ := hp
        have hL3 := liesKeep k3 hL2
        have h3 := (lies.1 hL3).1
        rw [hrec] at h3
        have hr := run_endRound (P := P) none h3
        have hr' : (Instr.endRound (D + 1) none).run P W3 = .ok (.bool true) (W3.putObj (D + 1) (rec .ready none)) := by rw [hrec]; exact hr
        exact ⟨_, _, hr', rfl, ⟨hI _ _ _ hi3 (turn _ _ hL3), liesPut _ _ hL3⟩, hKt _ _ _ (hKt _ _ _ (hKt _ _ _ kp1 (hKb _ _ t2)) kp3) (hKb _ _ (turn _ _ hL3))⟩
      | ret => exact hp.elim
      | exit id => exact hp.elim
      | goto t => exact hp.elim
      | panic ch => exact hp.elim
      | outgrown => exact hp.elim
    | ret => exact hp.elim
    | exit id => exact hp.elim
    | goto t => exact hp.elim
    | panic ch => exact hp.elim
    | outgrown => exact hp.elim
  · have stop : ∀ {st j W}, Lies st j W → st ≠ .busy → ∃ W4, (Instr.endLoop (D + 1)).run P W = .ok j W4 ∧ TurnedAt (w.heap.size + 1) W W4 ∧ W4.heap[D]? = some (.deferred (some [])) := fun {st j W} hL hb => by
      have h3 := (lies.1 hL).1
      rw [hrec] at h3
      exact ⟨_, run_endLoop h3 hb, by rw [← hD]; exact ⟨_, _, h3, rfl, rfl, rfl⟩, (World.putObj_heap_other (by omega)).trans (lies.1 hL).2⟩
    rintro e W2 (⟨v, xs, rfl, hs, hi, hL⟩ | ⟨c, xs, rfl, hs, hi, hL⟩)
    · obtain ⟨W4, hr, ht, hd⟩ := stop hL (by simp)
      exact ⟨none, W4, hr, hdone D xs W4 (by omega) (hS _ _ _ hs ht) (hI _ _ _ hi ht) hd⟩
    · exact hpan D c xs W2 (by omega) hs hi (lies.1 hL).2
/-- of a fence that lets all in, in a round: what goes outside goes there too -/
theorem uponIn_of_upon {l : Nat} {o : Oper} {a : Act} {K : Act → World → Prop} {Q1 Q : Exit → Act → World → Prop} (hQ : ∀ e a w, Q1 e a w → Q e a w) {r : Result Next} (h : o.upon P a K Q1 r) : o.uponIn (Fence.wide.inRound l) n P a K Q r := by
  have hL : LetsOut Q1 → LetsOut Q := fun ⟨a, w, h⟩ => ⟨a, w, hQ _ _ _ h⟩
  cases r with
  | ok x w' =>
    cases x <;> simp only [Oper.upon] at h <;> simp only [Oper.uponIn]
    case value => exact h
    case skip => exact h
    case defer => exact h
    case enter f args =>
      refine ⟨fun k => by simp [Fence.inRound, Fence.wide] at k, (callsIn_wide (n := n - 1)).2 (h.mono fun e w k => ?_)⟩
      cases e with
      | returned v => exact k
      | panicked c => exact hQ _ _ _ k
      | outgrown => exact hL k
    case row row args => exact ⟨fun k => by simp [Fence.inRound, Fence.wide] at k, fun c cs _ => let ⟨v, w', r, s⟩ := h c cs; ⟨v, w', r, stepsIn_wide.2 s⟩⟩
  | halt x w' => cases x <;> simp only [Oper.upon] at h <;> simp only [Oper.uponIn] <;> exact hQ _ _ _ h
/-- left by its end alone -/
def normalOnly (Q : Exit → Act → World → Prop) : Exit → Act → World → Prop := fun e a w => e = .normal ∧ Q e a w
def noDefer (o : Oper) : Bool := match o.op with | .defer _ => false | _ => true
theorem wpAnyIn_of_wpAny {l : Nat} {md : Region.Mode} {ops : Array Oper} {Q : Exit → Act → World → Prop} (hd : ∀ (i : Nat) (o : Oper), ops[i]? = some o → noDefer o = true) :
    ∀ (fuel : Nat) (listed : Array Bool) (a : Act) (w : World), wpAny P md ops (normalOnly Q) fuel listed a w → wpAnyIn (Fence.wide.inRound l) n P md ops Q fuel listed a w := by
  intro fuel
  induction fuel with
  | zero => intro listed a w h; exact ⟨h.1, h.2.2⟩
  | succ fuel ih =>
    intro listed a w h
    refine ⟨fun k => (h.1 k).2, fun i hi => ?_⟩
    have h2 := h.2 i hi
    unfold wpOp at h2
    unfold wpOpIn
    cases ho : ops[i]? with
    | none => rw [ho] at h2; exact ih _ _ _ h2
    | some o =>
      rw [ho] at h2
      simp only at h2 ⊢
      split
      · rename_i hw
        rw [if_pos hw] at h2
        rcases h2 with h2 | ⟨_, _, _, h2, _⟩
        · refine Oper.wpIn_mono (fun a w k => ih _ a w k) ⟨fun _ _ => trivial, ?_⟩
          rw [Oper.semAt_plain _ _ _ (fun c e => by have := hd i o ho; unfold noDefer at this; rw [e] at this; cases this)]
          exact uponIn_of_upon (fun e a w k => k.2) h2
        · cases h2
      · rename_i hw
        rw [if_neg hw] at h2
        exact ⟨fun _ _ => trivial, ih _ _ _ h2⟩
theorem wpIn_region_heldR {l id : Nat} {ops : Array Oper} {Q : Exit → Act → World → Prop} {S : World → Prop} {a : Act} {w : World} (hm : P.follows .mixedOrders = true) (hd : ops.all noDefer = true) (hS : S w.drew)
    (h : S w.drew → wpAnyH P .any ops (normalOnly Q) S ops.size (Array.replicate ops.size false) a w.drew) : (Code.region id ops true).wpIn (Fence.wide.inRound l) n P Q a w :=
  wpIn_region_any hm (wpAnyIn_of_wpAny (fun i o ho => by
    rw [Array.all_eq_true] at hd
    obtain ⟨hlt, rfl⟩ := Array.getElem?_eq_some_iff.1 ho
    exact hd i hlt) _ _ _ _ (wpAny_of_held _ _ _ _ (h hS)))
end Go.Proofs.YtcicjpdjbfgbhaaDoor
