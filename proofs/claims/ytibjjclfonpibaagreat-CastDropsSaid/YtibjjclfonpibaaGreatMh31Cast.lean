/- The program's contracts of stage 10. -/
import Derived.Test.YtibjjclfonpibaaGreatMh28Cast
import Derived.Test.YtibjjclfonpibaaGreatMh29Cast
import Derived.Test.YtibjjclfonpibaaGreatMh30Cast
import Derived.Test.YtibjjclfonpibaaGreatMh13Cast
import Derived.Test.YtibjjclfonpibaaGreatMh24Cast
import Derived.Test.YtibjjclfonpibaaGreatMh11Cast
import Derived.Test.YtibjjclfonpibaaGreatMh25Cast
import Derived.OwnWalkIn
import Derived.TacticsInMore
import Derived.LoopNIn
import Derived.LoopIn
set_option linter.unusedVariables false
namespace Go.Proofs.YtibjjclfonpibaaGreat
open Go.RowKit Go.Shelf
theorem allC : AllC := spAll_any spAdd_any reorder_any
theorem atC : AtC := atA allC
end Go.Proofs.YtibjjclfonpibaaGreat

/- The program's records: at, version, fit; schema.At of every number. -/
set_option linter.unusedVariables false
set_option linter.unusedSimpArgs false
set_option maxRecDepth 100000
namespace Go.Proofs.YtibjjclfonpibaaGreat
open Go.RowKit Go.Shelf
theorem allN (t : TemplM) (w : World) (X : Value) (hg : greatT t = false) (hi : IsTempl w t X) : Calls Tryz.prog 78 #[X] w fun e w' => (∃ a c, e = .returned (.slice a (lastN t) c)) ∧ Below w.heap.size w w' :=
  (allC t w X hg hi).mono fun e w' h => by
    refine ⟨?_, h.2⟩
    have h2 := h.1
    unfold lastN
    cases hv : Sc.vers t with
    | none => rw [hv] at h2; exact h2
    | some L => rw [hv] at h2; obtain ⟨a, c, e, _⟩ := h2; exact ⟨a, c, e⟩
theorem verOf_none {t : TemplM} {v : Int} (h : Rc.verOf t v = none) : v < 1 ∨ (lastN t : Int) < v := by
  unfold Rc.verOf at h
  split at h
  · rename_i hlt; exact .inl hlt
  · rename_i hlt
    right
    unfold lastN
    cases hv : Sc.vers t with
    | none => simp only; omega
    | some L =>
      rw [hv] at h
      simp only [Option.bind_some, List.getElem?_eq_none_iff] at h
      simp only
      omega
theorem verOf_some {t : TemplM} {v : Int} {x : Sc.Ver} (h : Rc.verOf t v = some x) : ∃ (L : List Sc.Ver) (n : Nat), Sc.vers t = some L ∧ L[n]? = some x ∧ v = ((n + 1 : Nat) : Int) ∧ n + 1 ≤ 9 := by
  unfold Rc.verOf at h
  split at h
  · cases h
  · rename_i hlt
    cases hv : Sc.vers t with
    | none => rw [hv] at h; cases h
    | some L =>
      rw [hv] at h
      simp only [Option.bind_some] at h
      have := (List.getElem?_eq_some_iff.1 h).1
      have h9 := Sc.vers_length hv
      exact ⟨L, (v - 1).toNat, rfl, h, by omega, by omega⟩
theorem verOf_ok {t : TemplM} {v : Int} {x : Sc.Ver} (h : Rc.verOf t v = some x) : Sc.VerOk 16 x := by
  obtain ⟨L, n, hv, hx, _⟩ := verOf_some h
  exact vers_ok hv x (List.mem_of_getElem? hx)
theorem lastN_le (t : TemplM) : lastN t ≤ 9 := by
  unfold lastN
  cases hv : Sc.vers t with
  | none => simp
  | some L => simp only; have := Sc.vers_length hv; omega
set_option maxHeartbeats 4000000 in
theorem atNo (t : TemplM) (v : Int) (w : World) (X : Value) (hg : greatT t = false) (hv : v < 1 ∨ (lastN t : Int) < v) (hI : I64 v) (hi : IsTempl w t X) : Calls Tryz.prog 62 #[X, .int .i64 v] w fun e w' =>
    (∃ sa n sc ca m cc, e = .returned (.tuple #[.agg #[.slice sa n sc, .slice ca m cc], .bool false])) ∧ Below w.heap.size w w' := by
  have h0 := hi
  obtain ⟨h1, sa, sc, ta, tc, rfl, hsl, hst⟩ := hi
  have hBT := belowTwo w (.cells #[.string t.nm, .slice sa t.slots.length sc, .slice ta t.steps.length tc] 25) (.cells #[.slice none 0 0, .slice none 0 0] 67)
  have hA := allN t _ _ hg (isTempl_below hBT h0)
  have hb0 := fun W => build_ver0 W
  obtain ⟨n, hn⟩ : ∃ n, lastN t = n := ⟨_, rfl⟩
  rw [hn] at hA hv
  have H := Lib.hid hA
  unfold I64 at hI
  by_cases hlo : v < 1
  · have d1 : decide (v < 1) = true := by simpa using hlo
    have HLO := Lib.hid hlo
    clear hA h0 hsl hst hn hv hlo
    go_enter Tryz.func62, Tryz.ntmps62
    go_wp2_with (first
      | (go_at_call 78; (with_reducible refine H.out.mono ?_); rintro e w1 ⟨⟨a, c, rfl⟩, hB1⟩; have hH := res2 hB1; obtain ⟨f0, f1, f2, f3⟩ := two_all hH; have hBw := hBT.trans (hB1.mono hBT.size)))
    refine bodyPost_ret (results_cell_tmpS Tryz.results62 _ _ (w.heap.size + 1) _ _ _ _ rfl (step_out _ _ hH hBw (by omega)).1 Tryz.underlying67 rfl (by kernel_rfl)) rfl ?_
    exact ⟨⟨_, _, _, _, _, _, rfl⟩, (step_out _ _ hH hBw (by omega)).2⟩
  · have d1 : decide (v < 1) = false := by simpa using hlo
    have d2 : decide (v > (n : Int)) = true := by simp; omega
    have HLO := Lib.hid hlo
    clear hA h0 hsl hst hn hv hlo
    go_enter Tryz.func62, Tryz.ntmps62
    go_wp2_with (first
      | (go_at_call 78; (with_reducible refine H.out.mono ?_); rintro e w1 ⟨⟨a, c, rfl⟩, hB1⟩; have hH := res2 hB1; obtain ⟨f0, f1, f2, f3⟩ := two_all hH; have hBw := hBT.trans (hB1.mono hBT.size)))
    refine bodyPost_ret (results_cell_tmpS Tryz.results62 _ _ (w.heap.size + 1) _ _ _ _ rfl (step_out _ _ hH hBw (by omega)).1 Tryz.underlying67 rfl (by kernel_rfl)) rfl ?_
    exact ⟨⟨_, _, _, _, _, _, rfl⟩, (step_out _ _ hH hBw (by omega)).2⟩
/-- fit -/
theorem fitR_any (x : Sc.Ver) (sa : Option Addr) (sc : Nat) (ca : Option Addr) (cc : Nat) (vs : List PV) (b : Option Addr) (d : Nat) (w : World) (hv : VerAt w x sa sc ca cc) (hr : PRow w b d vs) (hty : ∀ s ∈ x.slots, 0 ≤ s.ty) (hsz : ∀ v ∈ vs, szV v ≤ 1000000) (hsm : x.slots.length ≤ 100000) (hsv : vs.length ≤ 100000) :
    Calls Tryz.prog 41 #[.agg #[.slice sa x.slots.length sc, .slice ca x.cols.length cc], .slice b vs.length d] w fun e w' => e = .returned (.bool (Rc.fitL x.slots vs)) ∧ Below w.heap.size w w' := by
  have hA1 := (Below.refl _ w).alloc (Nat.le_refl _) (.cells #[.slice sa x.slots.length sc, .slice ca x.cols.length cc] 67)
  have hE := equalF_any sa b sc d x.slots vs _ (slotRow_below hA1 hv.1) (pRow_below hA1 hr) hty hsz hsm hsv (Rc.fitL x.slots vs) (Rc.fitL_iff _ _)
  obtain ⟨B, hB⟩ : ∃ B, Rc.fitL x.slots vs = B := ⟨_, rfl⟩
  obtain ⟨n, hn⟩ : ∃ n, x.slots.length = n := ⟨_, rfl⟩
  obtain ⟨m, hm⟩ : ∃ m, vs.length = m := ⟨_, rfl⟩
  obtain ⟨k, hk⟩ : ∃ k, x.cols.length = k := ⟨_, rfl⟩
  rw [hB, hn, hm, hk] at hE
  rw [hB, hn, hm, hk]
  rw [hn, hk] at hA1
  have H := Lib.hid hE
  clear hE hB hv hr hty hsz hsm hsv hn hm hk
  go_enter Tryz.func41, Tryz.ntmps41
  go_wp2_with (go_at_call 65; (with_reducible refine H.out.mono ?_); rintro e w1 ⟨rfl, hB1⟩)
  go_ret
  exact ⟨rfl, hA1.trans (hB1.mono hA1.size)⟩
/-- a version that reads so wherever what lies from B on is as it is -/
def VerFresh (B : Nat) (w : World) (x : Sc.Ver) (sa : Option Addr) (sc : Nat) (ca : Option Addr) (cc : Nat) : Prop := ∀ W' : World, (∀ b, B ≤ b → b < w.heap.size → W'.heap[b]? = w.heap[b]?) → VerAt W' x sa sc ca cc
theorem verFresh_at {B : Nat} {w : World} {x : Sc.Ver} {sa : Option Addr} {sc : Nat} {ca : Option Addr} {cc : Nat} (h : VerFresh B w x sa sc ca cc) : VerAt w x sa sc ca cc := h w fun _ _ _ => rfl
theorem verFresh_later {B : Nat} {w w1 : World} {x : Sc.Ver} {sa : Option Addr} {sc : Nat} {ca : Option Addr} {cc : Nat} (h : VerFresh B w x sa sc ca cc) (hs : w.heap.size ≤ w1.heap.size) (hb : ∀ b, B ≤ b → b < w.heap.size → w1.heap[b]? = w.heap[b]?) : VerFresh B w1 x sa sc ca cc :=
  fun w' h' => h w' fun b h1 h2 => (h' b h1 (by omega)).trans (hb b h1 h2)
theorem verFresh_mono {B B' : Nat} {w : World} {x : Sc.Ver} {sa : Option Addr} {sc : Nat} {ca : Option Addr} {cc : Nat} (h : VerFresh B w x sa sc ca cc) (hb : B' ≤ B) : VerFresh B' w x sa sc ca cc := fun w' h' => h w' fun b h1 h2 => h' b (Nat.le_trans hb h1) h2
theorem verAt_below {w w1 : World} {x : Sc.Ver} {sa : Option Addr} {sc : Nat} {ca : Option Addr} {cc : Nat} (h : VerAt w x sa sc ca cc) (hb : Below w.heap.size w w1) : VerAt w1 x sa sc ca cc := ⟨slotRow_below hb h.1, row_below h.2 hb rfl⟩
theorem verFresh_set2' {B b : Nat} {w : World} {x : Sc.Ver} {sa : Option Addr} {sc : Nat} {ca : Option Addr} {cc : Nat} (h : VerFresh B w x sa sc ca cc) (hb : b < B) (u0 u1 : Value) : VerFresh B ((w.setCell ⟨b, 0, none⟩ u0).setCell ⟨b, 1, none⟩ u1) x sa sc ca cc := by
  have h1 := fun (W : World) (i : Nat) (u : Value) => (grown_set9 W b i u).size
  refine verFresh_later h (Nat.le_trans (h1 _ 0 u0) (h1 _ 1 u1)) fun c hc hl => ?_
  rw [Below.heap_setCell _ ⟨b, 1, none⟩ u1 c (by show c ≠ b; omega), Below.heap_setCell _ ⟨b, 0, none⟩ u0 c (by show c ≠ b; omega)]
set_option maxHeartbeats 4000000 in
theorem atF (t : TemplM) (L : List Sc.Ver) (v : Nat) (x : Sc.Ver) (w : World) (X : Value) (hg : greatT t = false) (hv : Sc.vers t = some L) (hx : L[v]? = some x) (hi : IsTempl w t X) : Calls Tryz.prog 62 #[X, .int .i64 ((v + 1 : Nat) : Int)] w fun e w' =>
    (∃ sa sc ca cc, e = .returned (.tuple #[.agg #[.slice sa x.slots.length sc, .slice ca x.cols.length cc], .bool true]) ∧ VerFresh w.heap.size w' x sa sc ca cc) ∧ Below w.heap.size w w' := by
  have h0 := hi
  obtain ⟨h1, sa, sc, ta, tc, rfl, hsl, hst⟩ := hi
  have hBT := belowTwo w (.cells #[.string t.nm, .slice sa t.slots.length sc, .slice ta t.steps.length tc] 25) (.cells #[.slice none 0 0, .slice none 0 0] 67)
  have hA := allC t _ _ hg (isTempl_below hBT h0)
  rw [hv] at hA
  simp only at hA
  have hlen := Sc.vers_length hv
  have hvl := (List.getElem?_eq_some_iff.1 hx).1
  have hok := vers_ok hv x (List.mem_of_getElem? hx)
  have hF := fun sa sc ca cc W hV => fresh_any x sa sc ca cc W hok.num (Nat.le_trans hok.len (by omega)) (fun s hs => (hok.ok s hs).2.2) hV
  obtain ⟨n, hn⟩ : ∃ n, L.length = n := ⟨_, rfl⟩
  rw [hn] at hA hvl hlen
  have HX := Lib.hid hx; have HF := Lib.hid hF; have H := Lib.hid hA
  have hn9 : n ≤ 9 := by omega
  have d1 : decide ((v : Int) + 1 < 1) = false := by simp; omega
  have d2 : decide ((v : Int) + 1 > (n : Int)) = false := by simp; omega
  have d3 : decide ((v : Int) < (n : Int)) = true := by simp; omega
  have hw1 : IntKind.i64.wrap ((v : Int) + 1 - 1) = (v : Int) := by
    have := Sc.wrapI v (by omega)
    rwa [show (v : Int) + 1 - 1 = (v : Int) by omega]
  rw [show ((v + 1 : Nat) : Int) = (v : Int) + 1 by omega]
  clear hA hF hx hv h0 hsl hst hok hlen hn
  go_enter Tryz.func62, Tryz.ntmps62
  go_wp2_with (first
    | (go_at_call 78; (with_reducible refine H.out.mono ?_); rintro e w1 ⟨⟨a, c, rfl, hc1, hc2, hrow⟩, hB1⟩; obtain ⟨b, off, sv, cv, rfl, q0, q1, hvi⟩ := hrow v x HX.out; obtain ⟨sa1, sc1, ca1, cc1, cs1, rfl, rfl, hva, _, _⟩ := verIn_at hvi hB1; have hH := res2 hB1; obtain ⟨f0, f1, f2, f3⟩ := two_all hH; have HVA := Lib.hid hva; have hlt1 := (Array.getElem?_eq_some_iff.1 hH).1; have hBw := hBT.trans (hB1.mono hBT.size))
    | (go_at_call 83; (with_reducible refine (HF.out _ _ _ _ _ HVA.out).mono ?_); rintro e w2 ⟨⟨sa2, sc2, ca2, cc2, rfl, hag⟩, hB2⟩; have hH := (hB2.block _ hlt1).trans hH; obtain ⟨f0, f1, f2, f3⟩ := two_all hH; have hBw2 := hBw.trans (hB2.mono hBw.size)))
  refine bodyPost_ret (results_cell_tmpS Tryz.results62 _ _ (w.heap.size + 1) _ _ _ _ rfl (step_out _ _ hH hBw2 (by omega)).1 Tryz.underlying67 rfl (by kernel_rfl)) rfl ?_
  exact ⟨⟨sa2, sc2, ca2, cc2, rfl, verFresh_mono (verFresh_set2' (B := w1.heap.size) hag hlt1 _ _) hBw.size⟩, (step_out _ _ hH hBw2 (by omega)).2⟩
/-- what lay in w1 lies behind a new block, too -/
theorem next_block {w1 : World} {b : Nat} {o o' : Obj} (h : w1.heap[b]? = some o) : (w1.alloc o').heap[b]? = some o := (((Below.refl _ w1).alloc (Nat.le_refl _) o').block b (Array.getElem?_eq_some_iff.1 h).1).trans h
end Go.Proofs.YtibjjclfonpibaaGreat

/- As Turns, of an iterator that says what each thing is that it hands on, in the world of its handing on. -/
namespace Go.Proofs.YtibjjclfonpibaaGreat
open Go.RowKit Go.Shelf
/-- what an iterator promises that turns worlds by Tn between two rounds: V says what each is that it hands on; S says what has come, and how the world is behind it -/
def SeqTurnsV {α : Type} (F : Fence) (n : Nat) (P : Program) (g : Nat) (lb : Array Value) (encs : α → Array Value) (Kp Tn : World → World → Prop) (V : List α → α → World → Prop) (S Sp : List α → World → Prop) (N : Nat) (w : World) : Prop :=
  ∀ (l : Nat) (J Jx : List α → World → Prop) (W : World), Below w.heap.size w W → (∀ s A C, J s A → Tn A C → J s C) → (∀ s A C, Jx s A → Tn A C → Jx s C) →
    (∀ pre x W1, J pre W1 → V pre x W1 → pre.length < N → YieldAt F (n - 1) P l (encs x) W1 fun e W' =>
      (e = .returned (.bool true) ∧ J (pre ++ [x]) W' ∧ Kp W1 W') ∨ (e = .returned (.bool false) ∧ Jx (pre ++ [x]) W')) →
    J [] W →
    CallsIn F n P g (#[.func (.yield l) #[] #[]] ++ lb) W fun e W' => (∃ v, e = .returned v) ∧ ((∃ xs, S xs W' ∧ J xs W') ∨ (∃ pre, Sp pre W' ∧ Jx pre W'))
variable {F : Fence} {n : Nat} {P : Program}
theorem wpIn_rangeFunc_turnsV {α : Type} {g : Operand} {ps : Array Tmp} {assign body : Code} {Q : Exit → Act → World → Prop} {a : Act} {w : World}
    (hro : F.round = none) (h1 : 1 ≤ n) {gf : Nat} {lb : Array Value} (hg : a.eval g = .func (.func gf) #[] lb) (hFg : F.fn gf) (eg : ∀ args w, (callFunc gf args).run P w = .ok (.enter gf args) w)
    {encs : α → Array Value} {Kp Tn : World → World → Prop} {V : List α → α → World → Prop} {S Sp : List α → World → Prop} {N : Nat} (hseq : SeqTurnsV F (n - 1) P gf lb encs Kp Tn V S Sp N w)
    (hTn : ∀ (A C : World) (k : Nat) (o : Obj), w.heap.size ≤ k → Tn A C → A.heap[k]? = some o → o.isCells = false → C.heap[k]? = some o)
    (hKt : ∀ A C D : World, Kp A C → Kp C D → Kp A D) (hKb : ∀ A C : World, Turned w.heap.size A C → Kp A C) (hps : ∀ x, (encs x).size = ps.size)
    (I : List α → World → Prop) (Ix : Code → List α → World → Prop) (hI : OwnFrom w.heap.size I) (hIx : ∀ c, OwnFrom w.heap.size (Ix c))
    (hIT : ∀ (s : List α) (A C : World), I s A → Tn A C → I s C) (hIxT : ∀ (c : Code) (s : List α) (A C : World), Ix c s A → Tn A C → Ix c s C)
    (hS : OwnFrom w.heap.size S) (hSp : OwnFrom w.heap.size Sp) (h0 : I [] w)
    (hround : ∀ (l : Nat) (pre : List α) (x : α) (W : World), I pre W → V pre x W → pre.length < N →
      assign.wpIn (F.inRound l) (n - 1 - 1) P (Exit.then (fun a₁ W₁ => KeepsFrom w.heap.size W W₁ ∧ Kp W W₁ ∧ ∀ W₂, Turned w.heap.size W₁ W₂ →
          body.wpIn (F.inRound l) (n - 1 - 1) P (turnPost w.heap.size Kp I Ix (pre ++ [x]) W₂) a₁ W₂) (fun _ _ _ => False))
        { tmps := (ps.zip (encs x)).foldl (fun t (p, v) => t.setIfInBounds p v) a.tmps, defers := [] } W)
    (hdone : ∀ (D : Nat) (xs : List α) (W : World), w.heap.size ≤ D → S xs W → I xs W → W.heap[D]? = some (.deferred (some [])) → Q .normal { a with defers := { target := .collected D, args := #[] } :: a.defers } W)
    (hstop : ∀ (D : Nat) (c : Code) (pre : List α) (W : World), w.heap.size ≤ D → Sp pre W → Ix c pre W → W.heap[D]? = some (.deferred (some [])) → c.wpIn F n P Q { a with defers := { target := .collected D, args := #[] } :: a.defers } W) :
    (Code.rangeFunc g ps assign body).wpIn F n P Q a w := by
  obtain ⟨D, hD⟩ : ∃ D, D = w.heap.size := ⟨_, rfl⟩
  refine wpIn_rangeFunc fun fn hfn => ?_
  rw [hro]
  -- the loop's record, by its state and its pending jump
  obtain ⟨rec, hrec⟩ : ∃ rec : LoopState → Option Code → Obj, rec = fun st j => .loop { state := st, pending := j, fn, tmps := a.tmps, params := ps, assign, body, defers := D } := ⟨_, rfl⟩
  have hnc : ∀ st j, (rec st j).isCells = false := fun st j => by rw [hrec]; rfl
  have hnw : ∀ st j, (rec st j).isWalk = false := fun st j => by rw [hrec]; rfl
  -- the loop's two blocks, in a world
  obtain ⟨Lies, hLies⟩ : ∃ Lies : LoopState → Option Code → World → Prop, Lies = fun st j W => W.heap[D + 1]? = some (rec st j) ∧ W.heap[D]? = some (.deferred (some [])) := ⟨_, rfl⟩
  have lies : ∀ {st j W}, Lies st j W ↔ W.heap[D + 1]? = some (rec st j) ∧ W.heap[D]? = some (.deferred (some [])) := fun {st j W} => by rw [hLies]
  have liesPut : ∀ {st j W} st' j', Lies st j W → Lies st' j' (W.putObj (D + 1) (rec st' j')) := fun {st j W} st' j' h => by
    rw [lies] at h ⊢
    exact ⟨World.putObj_heap_same (Array.getElem?_eq_some_iff.1 h.1).1, (World.putObj_heap_other (by omega)).trans h.2⟩
  have turn : ∀ {st j W} st' j', Lies st j W → Turned w.heap.size W (W.putObj (D + 1) (rec st' j')) := fun {st j W} st' j' h => ⟨D + 1, rec st j, _, by omega, (lies.1 h).1, hnc _ _, hnw _ _, rfl⟩
  have liesKeep : ∀ {st j A C}, KeepsFrom w.heap.size A C → Lies st j A → Lies st j C := fun {st j A C} k h => by
    rw [lies] at h ⊢
    exact ⟨k.same _ _ (by omega) h.1 (hnc _ _), k.same _ _ (by omega) h.2 rfl⟩
  have liesTurn : ∀ {st j A C}, Tn A C → Lies st j A → Lies st j C := fun {st j A C} k h => by
    rw [lies] at h ⊢
    exact ⟨hTn _ _ _ _ (by omega) k h.1 (hnc _ _), hTn _ _ _ _ (by omega) k h.2 rfl⟩
  have start := run_enterLoop_outer (P := P) (w := w) fn a.tmps ps assign body
  rw [← hD] at start
  obtain ⟨W0, hW0⟩ : ∃ W0, W0 = (w.alloc (.deferred (some []))).alloc (rec .ready none) := ⟨_, rfl⟩
  have lies0 : Lies .ready none W0 := by
    rw [lies, hW0]
    refine ⟨?_, (Below.heap_alloc _ _ _ (by simp; omega)).trans (by rw [hD]; exact World.alloc_heap_new w _)⟩
    have := World.alloc_heap_new (w.alloc (.deferred (some []))) (rec .ready none)
    rwa [World.size_alloc, ← hD] at this
  have below0 : Below w.heap.size w W0 := hW0 ▸ ((Below.refl _ w).alloc (Nat.le_refl _) _).alloc (by simp) _
  have i0 : I [] W0 := hW0 ▸ hI.alloc _ (hI.alloc _ h0)
  refine ⟨D + 1, [{ target := .collected D, args := #[] }], W0, { target := .fn (.func gf) lb, args := #[.func (.yield (D + 1)) #[] #[]] }, W0, gf, #[.func (.yield (D + 1)) #[] #[]] ++ lb, W0,
    by rw [start, hW0, hrec], by simp only [resolve, hg]; simp [go_sem], fun f' hf' => ?_, by simp [invoke, go_sem, eg], fun _ => h1, ?_⟩
  · simp [Target.leads] at hf'; subst hf'; exact hFg
  refine (hseq (D + 1) (fun s W => I s W ∧ Lies .ready none W) (fun s W => ∃ c, Ix c s W ∧ Lies .done (some c) W) W0 below0
    (fun s A C h k => ⟨hIT _ _ _ h.1 k, liesTurn k h.2⟩) (fun s A C ⟨c, h⟩ k => ⟨c, hIxT _ _ _ _ h.1 k, liesTurn k h.2⟩) ?_ ⟨i0, lies0⟩).mono ?_
  · rintro pre x W ⟨hi, hL⟩ hVx hlen
    have hl1 := (lies.1 hL).1
    have hy := run_yield (P := P) (args := encs x) (by rw [hrec] at hl1; exact hl1) (hps x)
    refine ⟨fn, _, assign, body, hy, roundIn_of_wpIn hfn (wpIn_mono (hround (D + 1) pre x W hi hVx hlen) ?_)⟩
    rintro e a₁ W₁ hp
    cases e with
    | normal =>
      obtain ⟨k1, kp1, hb⟩ := hp
      have hL1 := liesKeep k1 hL
      have hb1 := run_beginRound (P := P) (w := W₁) (by have := (lies.1 hL1).1; rw [hrec] at this; exact this) rfl
      have e2 : (W₁.putObj (D + 1) (rec .busy none)) = W₁.putObj (D + 1) (.loop { state := .busy, pending := none, fn, tmps := a.tmps, params := ps, assign, body, defers := D }) := by rw [hrec]
      refine ⟨_, hb1, ?_⟩
      rw [← e2]
      have hL2 := liesPut .busy none hL1
      have t2 := turn .busy none hL1
      refine wpIn_mono (hb _ t2) ?_
      have fin : ∀ (jump : Option Code) (W3 : World), KeepsFrom w.heap.size (W₁.putObj (D + 1) (rec .busy none)) W3 → Lies .busy none W3 ∧
          (Instr.endRound (D + 1) jump).run P W3 = .ok (.bool jump.isNone) (W3.putObj (D + 1) (rec (if jump.isNone then .ready else .done) jump)) := fun jump W3 k => by
        have hL3 := liesKeep k hL2
        refine ⟨hL3, ?_⟩
        have h3 := (lies.1 hL3).1
        rw [hrec] at h3
        have := run_endRound (P := P) jump h3
        rw [hrec]; exact this
      have left : ∀ (jump : Code) (W3 : World), KeepsFrom w.heap.size (W₁.putObj (D + 1) (rec .busy none)) W3 → Ix jump (pre ++ [x]) W3 → ∃ v w', (Instr.endRound (D + 1) (some jump)).run P W3 = .ok v w' ∧
          ((Ending.returned v = .returned (.bool true) ∧ (I (pre ++ [x]) w' ∧ Lies .ready none w') ∧ Kp W w') ∨ (Ending.returned v = .returned (.bool false) ∧ ∃ c, Ix c (pre ++ [x]) w' ∧ Lies .done (some c) w')) := fun jump W3 k h => by
        obtain ⟨hL3, hr⟩ := fin (some jump) W3 k
        exact ⟨_, _, hr, .inr ⟨rfl, jump, ownFrom_turned (hIx _) h (turn _ _ hL3), liesPut _ _ hL3⟩⟩
      rintro e a3 W3 hp
      cases e with
      | normal =>
        obtain ⟨k3, kp3, hi3⟩ := hp
        obtain ⟨hL3, hr⟩ := fin none W3 k3
        exact ⟨_, _, hr, .inl ⟨rfl, ⟨ownFrom_turned hI hi3 (turn _ _ hL3), liesPut _ _ hL3⟩, hKt _ _ _ (hKt _ _ _ (hKt _ _ _ kp1 (hKb _ _ t2)) kp3) (hKb _ _ (turn _ _ hL3))⟩⟩
      | ret => exact left .ret W3 hp.1 hp.2
      | exit id => exact left (.exit id) W3 hp.1 hp.2
      | goto t => exact left (.goto t) W3 hp.1 hp.2
      | panic ch => exact hp.elim
      | outgrown => exact hp.elim
    | ret => exact hp.elim
    | exit id => exact hp.elim
    | goto t => exact hp.elim
    | panic ch => exact hp.elim
    | outgrown => exact hp.elim
  · have stop : ∀ {st j W}, Lies st j W → st ≠ .busy → ∃ W4, (Instr.endLoop (D + 1)).run P W = .ok j W4 ∧ Turned w.heap.size W W4 ∧ W4.heap[D]? = some (.deferred (some [])) := fun {st j W} hL hb => by
      have h3 := (lies.1 hL).1
      rw [hrec] at h3
      exact ⟨_, run_endLoop h3 hb, ⟨D + 1, _, _, by omega, h3, rfl, rfl, rfl⟩, (World.putObj_heap_other (by omega)).trans (lies.1 hL).2⟩
    rintro e W2 ⟨⟨v, rfl⟩, ⟨xs, hs, hi, hL⟩ | ⟨pre, hs, c, hi, hL⟩⟩
    · obtain ⟨W4, hr, ht, hd⟩ := stop hL (by simp)
      exact ⟨none, W4, hr, hdone D xs W4 (by omega) (ownFrom_turned hS hs ht) (ownFrom_turned hI hi ht) hd⟩
    · obtain ⟨W4, hr, ht, hd⟩ := stop hL (by simp)
      exact ⟨some c, W4, hr, hstop D c pre W4 (by omega) (ownFrom_turned hSp hs ht) (ownFrom_turned (hIx _) hi ht) hd⟩
end Go.Proofs.YtibjjclfonpibaaGreat

/- The program's cast: the iterator over the versions that steps lead to. -/
set_option linter.unusedVariables false
set_option linter.unusedSimpArgs false
set_option maxRecDepth 100000
namespace Go.Proofs.YtibjjclfonpibaaGreat
open Go.RowKit Go.Shelf
attribute [local go_sem] Oper.semAt_some
theorem caNan (a : Int) (w : World) : Calls Tryz.prog 103 #[.int .i64 a] w fun e w' => e = .returned (.bool false) ∧ w' = w := by
  have h : ((a : Int) != a) = false := by simp
  go_enter Tryz.func103, Tryz.ntmps103
  go_wp2
  go_ret
  exact ⟨rfl, rfl⟩
namespace Ca
def cmpI (a b : Int) : Int := if a < b then -1 else if b < a then 1 else 0
/-- where j steps lead to -/
def stepI (a b : Int) (j : Nat) : Int := if a ≤ b then a + j else a - j
def dist (a b : Int) : Nat := (b - a).natAbs
theorem stepI_zero (a b : Int) : stepI a b 0 = a := by unfold stepI; split <;> simp
theorem stepI_end {a b : Int} {j : Nat} (hj : j ≤ dist a b) : stepI a b j = b ↔ j = dist a b := by unfold stepI dist at *; split <;> omega
theorem stepI_succ {a b : Int} {j : Nat} (hj : j < dist a b) : stepI a b j + cmpI b a = stepI a b (j + 1) := by
  unfold stepI cmpI dist at *
  split <;> split <;> (try split) <;> omega
theorem stepI_in {a b : Int} {j : Nat} (hj : j ≤ dist a b) : (a ≤ stepI a b j ∧ stepI a b j ≤ b) ∨ (b ≤ stepI a b j ∧ stepI a b j ≤ a) := by unfold stepI dist at *; split <;> omega
end Ca
theorem caCmp (a b : Int) (w : World) : Calls Tryz.prog 89 #[.int .i64 a, .int .i64 b] w fun e w' => e = .returned (.int .i64 (Ca.cmpI a b)) ∧ w' = w := by
  have h1 := caNan
  by_cases hab : a < b
  · have hd : decide (a < b) = true := by simpa using hab
    have hc : Ca.cmpI a b = -1 := by unfold Ca.cmpI; rw [if_pos hab]
    rw [hc]
    clear hab hc
    go_enter Tryz.func89, Tryz.ntmps89
    go_wp2_with (go_at_call 103; (with_reducible refine (h1 _ _).mono ?_); rintro e w1 ⟨rfl, rfl⟩)
    go_ret
    exact ⟨rfl, rfl⟩
  · have hd : decide (a < b) = false := by simpa using hab
    by_cases hba : b < a
    · have hd2 : decide (b < a) = true := by simpa using hba
      have hc : Ca.cmpI a b = 1 := by unfold Ca.cmpI; rw [if_neg hab, if_pos hba]
      rw [hc]
      clear hab hba hc
      go_enter Tryz.func89, Tryz.ntmps89
      go_wp2_with (go_at_call 103; (with_reducible refine (h1 _ _).mono ?_); rintro e w1 ⟨rfl, rfl⟩)
      go_ret
      exact ⟨rfl, rfl⟩
    · have hd2 : decide (b < a) = false := by simpa using hba
      have hc : Ca.cmpI a b = 0 := by unfold Ca.cmpI; rw [if_neg hab, if_neg hba]
      rw [hc]
      clear hab hba hc
      go_enter Tryz.func89, Tryz.ntmps89
      go_wp2_with (go_at_call 103; (with_reducible refine (h1 _ _).mono ?_); rintro e w1 ⟨rfl, rfl⟩)
      go_ret
      exact ⟨rfl, rfl⟩
/-- what is handed on: the version that so many steps lead to -/
def CaV (t : TemplM) (a b : Int) (pre : List VItem) (y : VItem) (W : World) : Prop := Rc.verOf t (Ca.stepI a b (pre.length + 1)) = some y.1 ∧ y.2.1.2.1 = y.1.slots.length ∧ y.2.2.2.1 = y.1.cols.length ∧ VerAt W y.1 y.2.1.1 y.2.1.2.2 y.2.2.1 y.2.2.2.2
/-- what a round keeps for the iterator: all blocks but the one of what is stepped -/
def CaK (w0 : World) (bx : Nat) (A C : World) : Prop := (Below w0.heap.size w0 A → Below w0.heap.size w0 C) ∧ ∀ b cs t fr, A.heap[b]? = some (.cells cs t fr) → b ≠ bx → C.heap[b]? = some (.cells cs t fr)
theorem caBox {W : World} {b : Nat} {v : Value} {t : TypeId} (h : W.heap[b]? = some (.cells #[v] t (0, 0))) : W.cell? ⟨b, 0, none⟩ = some v := by simp [World.cell?, h]
theorem caThree {W : World} {b : Nat} {u0 u1 u2 : Value} {t : TypeId} (h : W.heap[b]? = some (.cells #[u0, u1, u2] t (0, 0))) : W.cell? ⟨b, 0, none⟩ = some u0 ∧ W.cell? ⟨b, 1, none⟩ = some u1 ∧ W.cell? ⟨b, 2, none⟩ = some u2 := by
  refine ⟨?_, ?_, ?_⟩ <;> simp [World.cell?, h]
set_option maxHeartbeats 16000000 in
theorem caSteps1_in (n : Nat) (hn : 1 ≤ n) (l bf bt bT bx : Nat) (w0 : World) (t : TemplM) (sa : Option Addr) (sc : Nat) (ta : Option Addr) (tc : Nat) (a b : Int) (hg : greatT t = false) (hi : IsTempl w0 t (.agg #[.string t.nm, .slice sa t.slots.length sc, .slice ta t.steps.length tc]))
    (ha : 1 ≤ a ∧ a ≤ 9) (hb : 1 ≤ b ∧ b ≤ 9) (hver : ∀ j, j ≤ Ca.dist a b → ∃ x, Rc.verOf t (Ca.stepI a b j) = some x)
    (J Jx : List VItem → World → Prop) (hJ : ∀ s A C, J s A → Below A.heap.size A C → J s C)
    (hY : ∀ pre x W1, J pre W1 → CaV t a b pre x W1 → pre.length < 9 → YieldAt Fence.wide (n - 1) Tryz.prog l (verV x) W1 fun e W' =>
      (e = .returned (.bool true) ∧ J (pre ++ [x]) W' ∧ CaK w0 bx W1 W') ∨ (e = .returned (.bool false) ∧ Jx (pre ++ [x]) W'))
    (W : World) (hW : Below w0.heap.size w0 W) (hf : W.heap[bf]? = some (.cells #[.int .i64 a] 3 (0, 0))) (ht : W.heap[bt]? = some (.cells #[.int .i64 b] 3 (0, 0))) (hT : W.heap[bT]? = some (.cells #[.string t.nm, .slice sa t.slots.length sc, .slice ta t.steps.length tc] 25 (0, 0)))
    (hne : bf ≠ bx ∧ bt ≠ bx ∧ bT ≠ bx) (h0 : J [] W) :
    CallsIn Fence.wide n Tryz.prog 88 #[.func (.yield l) #[] #[], .pointer (some ⟨bf, 0, none⟩), .pointer (some ⟨bt, 0, none⟩), .pointer (some ⟨bT, 0, none⟩)] W fun e W' => (∃ v, e = .returned v) ∧
      ((∃ ys, ys.length = Ca.dist a b ∧ J ys W') ∨ (∃ pre, True ∧ Jx pre W')) := by
  have hCm := fun (W : World) => caCmp b a W
  refine callsIn_of_wp Tryz.func88 rfl trivial ?_ rfl
  simp only [Tryz.ntmps88, List.size_toArray, List.length_cons, List.length_nil, Nat.reduceAdd, Nat.reduceSub, Array.replicate_succ, Array.replicate_zero, List.push_toArray, List.append_toArray, List.nil_append, List.cons_append]
  have c0 := caBox hf
  have HI := Lib.hid hi; have HG := Lib.hid hg; have HY := Lib.hid hY; have HJ := Lib.hid hJ; have HV := Lib.hid hver; have HF := Lib.hid hf; have HT := Lib.hid ht; have HTT := Lib.hid hT; have HW := Lib.hid hW; have H0 := Lib.hid h0
  obtain ⟨d, hd⟩ : ∃ d, Ca.dist a b = d := ⟨_, rfl⟩
  have hd8 : d ≤ 8 := by rw [← hd]; unfold Ca.dist; omega
  have HD := Lib.hid hd
  rw [hd]
  clear hi hg hY hJ hver hf ht hT hW h0 hd
  gi_wp2
  gi_loopw [5] (fun i wr => ∃ (q : Nat) (pre : List VItem), q ≤ d ∧ i = .int .i64 (Ca.stepI a b q) ∧ pre.length = q ∧ Below w0.heap.size w0 wr ∧ wr.heap[bf]? = some (.cells #[.int .i64 a] 3 (0, 0)) ∧ wr.heap[bt]? = some (.cells #[.int .i64 b] 3 (0, 0)) ∧ wr.heap[bT]? = some (.cells #[.string t.nm, .slice sa t.slots.length sc, .slice ta t.steps.length tc] 25 (0, 0)) ∧ J pre wr) (fun i _ => (b - intOf i).natAbs)
  case atStart => exact ⟨0, [], Nat.zero_le _, by rw [Ca.stepI_zero], rfl, HW.out, HF.out, HT.out, HTT.out, H0.out⟩
  case round =>
    obtain ⟨q, pre, hq, rfl, hpl, hB, hf, ht, hT, hJs⟩ := hrel
    have y0 := caBox hf
    have y1 := caBox ht
    obtain ⟨z0, z1, z2⟩ := caThree hT
    obtain ⟨v, hv⟩ : ∃ v, Ca.stepI a b q = v := ⟨_, rfl⟩
    rcases Nat.lt_or_ge q d with hlt | hge
    · have hvb : (v != b) = true := by
        rw [bne_iff_ne, ← hv]
        intro e
        have := (Ca.stepI_end (by rw [HD.out]; omega)).1 e
        rw [HD.out] at this; omega
      obtain ⟨x, hx⟩ := HV.out (q + 1) (by rw [HD.out]; omega)
      obtain ⟨L, m, hL, hxm, hvm⟩ := Ca.verOf_at hx
      have hm9 : m + 1 ≤ 9 := by
        have h1 := (List.getElem?_eq_some_iff.1 hxm).1
        have h2 := Sc.vers_length hL
        omega
      have hvn : IntKind.i64.wrap (v + Ca.cmpI b a) = ((m + 1 : Nat) : Int) := by
        rw [← hv, Ca.stepI_succ (by rw [HD.out]; omega), hvm, IntKind.wrap_i64]; omega
      have hAt := fun (W : World) (hb : Below w0.heap.size w0 W) => atC t L m x W _ HG.out hL hxm (isTempl_below hb HI.out)
      have HAT := Lib.hid hAt; have HX := Lib.hid hx; have HVM := Lib.hid hvm; have HVV := Lib.hid hv
      rw [hv]
      clear hAt hx hxm hvm hL hv
      gi_wp2_with (first
        | (refine ⟨trivial, ?_⟩; gi_at_call 89; refine (callsIn_wide.2 (hCm _)).mono ?_; rintro e W1 ⟨rfl, rfl⟩)
        | (refine ⟨trivial, ?_⟩; gi_at_call 62; refine (callsIn_wide.2 (HAT.out _ hB)).mono ?_; rintro e W2 ⟨⟨xa, xc, xa', xc', rfl, hva⟩, hB2⟩; have HVA := Lib.hid hva; clear hva))
      have hA6 := (Below.refl _ W2).alloc (Nat.le_refl _) (.cells #[.slice xa x.slots.length xc, .slice xa' x.cols.length xc'] 67)
      have hBA := hB2.trans (hA6.mono hB2.size)
      obtain ⟨x0, x1, _, _⟩ := two_all (heap_self9 W2 (.cells #[.slice xa x.slots.length xc, .slice xa' x.cols.length xc'] 67))
      have hcv : CaV t a b pre (x, (xa, x.slots.length, xc), (xa', x.cols.length, xc')) (W2.alloc (.cells #[.slice xa x.slots.length xc, .slice xa' x.cols.length xc'] 67)) := ⟨by rw [hpl]; exact HX.out, rfl, rfl, verAt_below HVA.out hA6⟩
      obtain ⟨fn, tmps, assign, body, hy, hR9⟩ := HY.out pre (x, (xa, x.slots.length, xc), (xa', x.cols.length, xc')) _ (HJ.out _ _ _ hJs hBA) hcv (by omega)
      simp only [verV, vSl, vCo] at hy
      have hfA := (hBA.block _ (Array.getElem?_eq_some_iff.1 hf).1).trans hf
      have htA := (hBA.block _ (Array.getElem?_eq_some_iff.1 ht).1).trans ht
      have hTA := (hBA.block _ (Array.getElem?_eq_some_iff.1 hT).1).trans hT
      have hBB := hB.trans (hBA.mono hB.size)
      have HFA := Lib.hid hfA; have HTA := Lib.hid htA; have HTTA := Lib.hid hTA; have HBB := Lib.hid hBB
      clear hcv hfA htA hTA hBB hBA hA6 hB2 z0 z1 z2 y0 y1 hf ht hT hJs
      gi_wp2
      rw [hy]
      refine ⟨fun _ => hn, hR9.mono ?_⟩
      rintro e W3 (⟨rfl, hJ3, hK3⟩ | ⟨rfl, hJx3⟩)
      · clear hy hR9
        have HJ3 := Lib.hid hJ3; have HK3 := Lib.hid hK3
        clear hJ3 hK3
        gi_wp2
        go_roundw
        case rel => exact ⟨q + 1, pre ++ [(x, (xa, x.slots.length, xc), (xa', x.cols.length, xc'))], by omega, (by rw [HVM.out]; first | rfl | simp), by simp [hpl], HK3.out.1 HBB.out, HK3.out.2 _ _ _ _ HFA.out hne.1, HK3.out.2 _ _ _ _ HTA.out hne.2.1, HK3.out.2 _ _ _ _ HTTA.out hne.2.2, HJ3.out⟩
        case measure =>
          have e1 := HVM.out
          have e2 := HVV.out
          have e3 := HD.out
          unfold Ca.stepI at e1 e2
          unfold Ca.dist at e3
          simp only [intOf]
          split at e1 <;> split at e2 <;> omega
      · clear hy hR9
        gi_wp2
        all_goals (
          refine bodyPost_ret (results_none rfl _ _ _) rfl ?_
          exact ⟨⟨_, rfl⟩, .inr ⟨_, trivial, hJx3⟩⟩)
    · obtain rfl : q = d := by omega
      have hve : v = b := by rw [← hv]; exact (Ca.stepI_end (by rw [HD.out]; omega)).2 HD.out.symm
      rw [hv, hve]
      have hvb : (b != b) = false := by simp
      have HPL := Lib.hid hpl
      clear hv hve hpl
      gi_wp2
      all_goals (
        refine bodyPost_end (results_none rfl _ _ _) rfl ?_
        exact ⟨⟨_, rfl⟩, .inl ⟨pre, HPL.out, hJs⟩⟩)
end Go.Proofs.YtibjjclfonpibaaGreat
