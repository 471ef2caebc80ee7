/- Layer 9 of the program: Parse, what its rounds have come to. -/
import Derived.Test.YtclnephomnkieaaCsvSeq
import Derived.Test.YtclnephomnkieaaCsvPri
set_option linter.unusedVariables false
namespace Go.Proofs.Ytclnephomnkieaa
open Go.RowKit Go.Shelf
/-- append of a slice as one step of a region that draws, inside a fence -/
theorem stepIn_append_at {P : Program} {w : World} {F : Fence} {nF : Nat} {ops : Array Oper} {o : Oper} {a : Act} {K : Act → World → Prop} {Q : Exit → Act → World → Prop} {E : Prop} (hgd : o.guard = none) (s x : Operand) (t : TypeId)
    (ho : o.op = .call { callee := .builtin .append, args := #[s, x], argTypes := #[t, t] }) (base : Nat) (e : TypeId) (i : TypeInfo) (z : Value) (size bytes : Nat) (ht : P.underlying t = some (.slice e)) (hi : P.info? e = some i) (hz : i.zero = some z)
    (hsize : i.size = size) (hby : i.bytes = bytes) (hzs : z.cells.size = size) (hsz : 0 < size) (v : Value) (n : Nat) (xs : List Value) (hs : a.eval s = v) (hown : w.ownsRow base e size v n xs)
    (A : Option Addr) (m c : Nat) (news : List Value) (hx : a.eval x = .slice A m c) (hr : Cells w size A m news) (h1 : ∀ u ∈ news, u.oneCell' = true) (h63 : n + m ≤ maxLen) (hbytes : (n + m) * bytes ≤ 140737488355328) (hbase : base ≤ w.heap.size)
    (h : ∀ v' w', w'.ownsRow base e size v' (n + m) (xs ++ news) → w.grownBy w' v.ownBlock → (v'.ownBlock = v.ownBlock ∨ v'.ownBlock = some w.heap.size) → K (a.put o.dst v') w') : if Region.wanted o (yielded ops a.tmps) = true then Oper.wpIn F nF P o a w K Q else E := by
  have hw : Region.wanted o (yielded ops a.tmps) = true := by simp [Region.wanted, hgd]
  rw [if_pos hw]
  obtain ⟨v', w', hrun, h2, h3, h4⟩ := run_append_at (P := P) w base t o.type e i z size bytes ht hi hz hsize hby hzs hsz v n xs hown A m c news hr h1 h63 hbytes hbase
  unfold Oper.wpIn
  refine ⟨by simp [Oper.about, ho, resolve, Target.leads, Sem.run_pure], ?_⟩
  rw [Oper.semAt_plain F _ _ (by rw [ho]; intro c hc'; cases hc')]
  simp [execOp, ho, resolve, invoke, builtin, hs, hx, hrun, Result.andThen]
  exact h v' w' h2 h3 h4
/-- three results in cells -/
theorem results_cells3 {P : Program} {fn : Func} {p q r : Tmp} {t1 t2 t3 : TypeId} (h : fn.results = #[.cell p t1, .cell q t2, .cell r t3]) (tmps : Array Value) (w : World) (a b c : Addr) (v1 v2 v3 : Value)
    (hp : tmps.getD p undef = .pointer (some a)) (hq : tmps.getD q undef = .pointer (some b)) (hr : tmps.getD r undef = .pointer (some c)) (h1 : (loadVar t1 a).run P w = .ok v1 w) (h2 : (loadVar t2 b).run P w = .ok v2 w) (h3 : (loadVar t3 c).run P w = .ok v3 w) :
    (results fn tmps).run P w = .ok (.tuple #[v1, v2, v3]) w := by
  have hp' : tmps[p]?.getD undef = .pointer (some a) := by simpa using hp
  have hq' : tmps[q]?.getD undef = .pointer (some b) := by simpa using hq
  have hr' : tmps[r]?.getD undef = .pointer (some c) := by simpa using hr
  simp [results, h, hp', hq', hr', asAddr, h1, h2, h3, Result.andThen]
theorem load_rows {W : World} {B : Nat} {v : Value} (h : Boxed W B 23 v) : (loadVar 23 ⟨B, 0, none⟩).run Try.prog W = .ok v W := by
  have := h.cell
  simp [go_sem, this]
theorem load_int {W : World} {B : Nat} {v : Value} (h : Boxed W B 3 v) : (loadVar 3 ⟨B, 0, none⟩).run Try.prog W = .ok v W := by
  have := h.cell
  simp [go_sem, this]
theorem load_err {W : World} {B : Nat} {v : Value} (h : Boxed W B 24 v) : (loadVar 24 ⟨B, 0, none⟩).run Try.prog W = .ok v W := by
  have := h.cell
  simp [go_sem, this]
/-- what turns is no block of cells, but a mark's -/
def Sep (W : World) (row : Option Nat) : Prop := ∀ (b : Nat) (cs : Array Value) (t : TypeId) (f : Nat × Nat), row = some b → W.heap[b]? = some (Obj.cells cs t f) → t = 44
theorem boxed_sep {W W' : World} {B : Nat} {t : TypeId} {v : Value} {row : Option Nat} (h : Boxed W B t v) (ht : t ≠ 44) (hg : W.grownBy W' row) (hs : Sep W row) : Boxed W' B t v := h.kept hg (fun e => ht (hs B _ _ _ e.symm h))
theorem owns_sep {W W' : World} {base : Nat} {e : TypeId} {v : Value} {n : Nat} {xs : List Value} {row : Option Nat} (h : W.ownsRow base e 1 v n xs) (ht : e ≠ 44) (hg : W.grownBy W' row) (hs : Sep W row) : W'.ownsRow base e 1 v n xs := by
  refine World.ownsRow.kept h hg ?_
  cases hb : v.ownBlock with
  | none => exact .inl rfl
  | some b =>
    refine .inr fun e' => ?_
    obtain ⟨_, _, cs, hc⟩ := own_blk' h b hb
    exact ht (hs b _ _ _ e'.symm hc)
theorem frow_sep {B : Nat} {W W' : World} {u : Value} {l : Fs} {row : Option Nat} (h : FRow B W u l) (hg : W.grownBy W' row) (hs : Sep W row) : FRow B W' u l := owns_sep h (by decide) hg hs
theorem frows_sep {B C : Nat} {W W' : World} {v : Value} {L : Rws} {row : Option Nat} (h : FRows B C W v L) (hg : W.grownBy W' row) (hs : Sep W row) : FRows B C W' v L := by
  obtain ⟨us, hown, hl, hr⟩ := h
  exact ⟨us, owns_sep hown (by decide) hg hs, hl, fun i hi => by obtain ⟨u, hu, hf, hk⟩ := hr i hi; exact ⟨u, hu, frow_sep hf hg hs, hk⟩⟩
theorem frows_mono {B B' C : Nat} {W : World} {v : Value} {L : Rws} (h : FRows B C W v L) (hb : B' ≤ B) : FRows B' C W v L := by
  obtain ⟨us, hown, hl, hr⟩ := h
  exact ⟨us, ownsRow_mono hown hb, hl, fun i hi => by obtain ⟨u, hu, hf, hk⟩ := hr i hi; exact ⟨u, hu, ownsRow_mono hf hb, hk⟩⟩
/-- the results' variables -/
def Res3 (B : Nat) (v : Value) (p e : Int) (W : World) : Prop := Boxed W B 23 v ∧ Boxed W (B + 1) 3 (.int .i64 p) ∧ Boxed W (B + 2) 24 (.int .i64 e)
theorem res3_sep {B : Nat} {v : Value} {p e : Int} {W W' : World} {row : Option Nat} (h : Res3 B v p e W) (hg : W.grownBy W' row) (hs : Sep W row) : Res3 B v p e W' :=
  ⟨boxed_sep h.1 (by decide) hg hs, boxed_sep h.2.1 (by decide) hg hs, boxed_sep h.2.2 (by decide) hg hs⟩
/-- the rows so far, and the row at hand -/
def Rows9 (B C : Nat) (vo vr : Value) (a : Rws × Fs) (W : World) : Prop := Boxed W (B + 3) 23 vo ∧ Boxed W (B + 4) 38 vr ∧ FRows (B + 6) C W vo a.1 ∧ FRow C W vr a.2 ∧ B + 6 ≤ C ∧ C ≤ W.heap.size
theorem rows9_sep {B C : Nat} {vo vr : Value} {a : Rws × Fs} {W W' : World} {row : Option Nat} (h : Rows9 B C vo vr a W) (hg : W.grownBy W' row) (hs : Sep W row) : Rows9 B C vo vr a W' :=
  ⟨boxed_sep h.1 (by decide) hg hs, boxed_sep h.2.1 (by decide) hg hs, frows_sep h.2.2.1 hg hs, frow_sep h.2.2.2.1 hg hs, h.2.2.2.2.1, Nat.le_trans h.2.2.2.2.2 hg.size⟩
/-- what the rounds have come to -/
def ParI (w : World) (pre : List Fld) (W : World) : Prop :=
  Res3 w.heap.size (.slice none 0 0) 0 0 W ∧ (∃ C vo vr, Rows9 w.heap.size C vo vr (V.sofar pre) W) ∧ Below w.heap.size w W ∧ ∀ x ∈ pre, x.2.1 ≠ 0
/-- .. where a round has left the loop -/
def ParX (w : World) (c : Code) (pre : List Fld) (W : World) : Prop :=
  c = .ret ∧ (∃ q x, pre = q ++ [x] ∧ x.2.1 = 0 ∧ Res3 w.heap.size (.slice none 0 0) (x.2.2 : Nat) 2 W) ∧ Below w.heap.size w W
theorem parI_sep {w W W' : World} {pre : List Fld} {row : Option Nat} (h : ParI w pre W) (hg : W.grownBy W' row) (hs : Sep W row) (hB : ∀ b, row = some b → w.heap.size ≤ b) : ParI w pre W' := by
  obtain ⟨h1, ⟨C, vo, vr, h2⟩, h3, h4⟩ := h
  exact ⟨res3_sep h1 hg hs, ⟨C, vo, vr, rows9_sep h2 hg hs⟩, h3.grown hg h3.size hB, h4⟩
theorem parX_sep {w W W' : World} {c : Code} {pre : List Fld} {row : Option Nat} (h : ParX w c pre W) (hg : W.grownBy W' row) (hs : Sep W row) (hB : ∀ b, row = some b → w.heap.size ≤ b) : ParX w c pre W' := by
  obtain ⟨h1, ⟨q, x, h2, h3, h4⟩, h5⟩ := h
  exact ⟨h1, ⟨q, x, h2, h3, res3_sep h4 hg hs⟩, h5.grown hg h5.size hB⟩
theorem sep_own {W : World} {row : Option Nat} (h : ∀ b, row = some b → ∃ o : Obj, W.heap[b]? = some o ∧ o.isCells = false) : Sep W row := fun b cs t f e hc => by
  obtain ⟨o, ho, hn⟩ := h b e
  rw [hc] at ho; cases ho; simp [Obj.isCells] at hn
theorem parI_own (w : World) (B : Nat) (hB : w.heap.size ≤ B) : OwnFrom B (ParI w) := fun s W W' row hs hg hr => parI_sep hs hg (sep_own fun b e => (hr b e).2) (fun b e => Nat.le_trans hB (hr b e).1)
theorem parX_own (w : World) (c : Code) (B : Nat) (hB : w.heap.size ≤ B) : OwnFrom B (ParX w c) := fun s W W' row hs hg hr => parX_sep hs hg (sep_own fun b e => (hr b e).2) (fun b e => Nat.le_trans hB (hr b e).1)
theorem sep_tn {W : World} {row : Option Nat} (h : ∀ b o, row = some b → W.heap[b]? = some o → ∃ cs f, o = .cells cs 44 f) : Sep W row := fun b cs t f e hc => by
  obtain ⟨cs', f', h2⟩ := h b _ e hc
  cases h2; rfl
theorem parI_tn {w A C : World} {pre : List Fld} {B : Nat} (hB : w.heap.size ≤ B) (h : ParI w pre A) (ht : TnM B A C) : ParI w pre C := by
  obtain ⟨row, hg, h1, h2⟩ := ht
  exact parI_sep h hg (sep_tn h1) (fun b e => Nat.le_trans hB (h2 b e))
theorem parX_tn {w A C : World} {c : Code} {pre : List Fld} {B : Nat} (hB : w.heap.size ≤ B) (h : ParX w c pre A) (ht : TnM B A C) : ParX w c pre C := by
  obtain ⟨row, hg, h1, h2⟩ := ht
  exact parX_sep h hg (sep_tn h1) (fun b e => Nat.le_trans hB (h2 b e))
theorem frows_set {B C b i : Nat} {W : World} {v u : Value} {L : Rws} (h : FRows B C W v L) (hb : b < B) : FRows B C (W.setCell ⟨b, i, none⟩ u) v L := by
  obtain ⟨us, hown, hl, hr⟩ := h
  exact ⟨us, ownsRow_setCell_below (a := ⟨b, i, none⟩) hown hb u, hl, fun j hj => by obtain ⟨x, hx, hf, hk⟩ := hr j hj; exact ⟨x, hx, ownsRow_setCell_below (a := ⟨b, i, none⟩) hf hb u, hk⟩⟩
theorem frow_set {B b i : Nat} {W : World} {v u : Value} {L : Fs} (h : FRow B W v L) (hb : b < B) : FRow B (W.setCell ⟨b, i, none⟩ u) v L := ownsRow_setCell_below (a := ⟨b, i, none⟩) h hb u
theorem boxed_set {W : World} {B b : Nat} {t : TypeId} {v : Value} (h : Boxed W B t v) (hne : B ≠ b) (u : Value) : Boxed (W.setCell ⟨b, 0, none⟩ u) B t v := h.kept (grown_cell W b 0 u) (fun e => hne (by cases e; rfl))
/-- the results are stored -/
theorem res3_set {B : Nat} {v v' : Value} {p p' e e' : Int} {W : World} (h : Res3 B v p e W) : Res3 B v' p' e' (((W.setCell ⟨B, 0, none⟩ v').setCell ⟨B + 1, 0, none⟩ (.int .i64 p')).setCell ⟨B + 2, 0, none⟩ (.int .i64 e')) :=
  ⟨boxed_set (boxed_set (h.1.set v') (by omega) _) (by omega) _, boxed_set ((boxed_set h.2.1 (by omega) _).set _) (by omega) _, (boxed_set (boxed_set h.2.2 (by omega) _) (by omega) _).set _⟩
theorem heap_set3 {B D : Nat} {W : World} {u v x : Value} (h : B + 3 ≤ D) : (((W.setCell ⟨B, 0, none⟩ u).setCell ⟨B + 1, 0, none⟩ v).setCell ⟨B + 2, 0, none⟩ x).heap[D]? = W.heap[D]? :=
  (Below.heap_setCell _ _ _ D (by show D ≠ B + 2; omega)).trans ((Below.heap_setCell _ _ _ D (by show D ≠ B + 1; omega)).trans (Below.heap_setCell _ _ _ D (by show D ≠ B; omega)))
theorem below_set3 {B : Nat} {w W : World} {u v x : Value} (h : Below B w W) : Below B w (((W.setCell ⟨B, 0, none⟩ u).setCell ⟨B + 1, 0, none⟩ v).setCell ⟨B + 2, 0, none⟩ x) :=
  ((h.setCell (p := ⟨B, 0, none⟩) (Nat.le_refl _) u).setCell (p := ⟨B + 1, 0, none⟩) (Nat.le_add_right _ _) v).setCell (p := ⟨B + 2, 0, none⟩) (Nat.le_add_right _ _) x
theorem sep_put {W : World} {D : Nat} {o : Obj} (h : W.heap[D]? = some o) (ho : o.isCells = false) : Sep W (some D) := sep_own fun b e => by cases e; exact ⟨o, h, ho⟩
end Go.Proofs.Ytclnephomnkieaa
