/- Layer 9 of the program: Parse, what a round does. -/
import Derived.Test.YtclnephomnkieaaCsvPar
set_option linter.unusedVariables false
namespace Go.Proofs.Ytclnephomnkieaa
open Go.RowKit Go.Shelf
theorem km_grown {Bs : Nat} {A C : World} {row : Option Nat} (hg : A.grownBy C row) (h1 : ∀ v, Boxed A Bs 9 v → some Bs ≠ row) (h2 : ∀ (b : Nat) (cs : Array Value) (f : Nat × Nat), row = some b → A.heap[b]? = some (Obj.cells cs 44 f) → False) : KM Bs A C :=
  ⟨fun v hv => hv.kept hg (h1 v hv), fun b cs f hb => (hg.block b (Array.getElem?_eq_some_iff.1 hb).1 (fun e => h2 b cs f e.symm hb)).trans hb⟩
theorem km_none {Bs : Nat} {A C : World} (hg : A.grownBy C none) : KM Bs A C := km_grown hg (by simp) (fun b cs f e => by cases e)
theorem km_box {Bs b : Nat} {A : World} {t : TypeId} {v u : Value} (hb : Boxed A b t v) (ht : t ≠ 44) (hne : Bs ≠ b) : KM Bs A (A.setCell ⟨b, 0, none⟩ u) :=
  km_grown (grown_cell A b 0 u) (fun _ _ e => hne (by cases e; rfl)) (fun b' cs f e hc => by
    cases e
    have h : A.heap[b]? = some (.cells #[v] t (0, 0)) := hb
    rw [h] at hc; cases hc; exact ht rfl)
theorem km_row {Bs : Nat} {A C : World} {base : Nat} {e : TypeId} {v : Value} {n : Nat} {xs : List Value} (hr : A.ownsRow base e 1 v n xs) (he : e ≠ 44) (hs : e ≠ 9 ∨ some Bs ≠ v.ownBlock) (hg : A.grownBy C v.ownBlock) : KM Bs A C :=
  km_grown hg (fun _ hbx => by
    rcases hs with hs | hs
    · exact hbx.not_row hs.symm hr
    · exact hs) (fun b cs f e' hc => by
    obtain ⟨_, _, cs', hc'⟩ := own_blk' hr b e'
    rw [hc] at hc'; cases hc'; exact he rfl)
theorem keeps_none {A C : World} (hg : A.grownBy C none) : KeepsOthers A C := ⟨hg.size, fun k o hk _ => (hg.block k (Array.getElem?_eq_some_iff.1 hk).1 (by simp)).trans hk⟩
theorem grown_drew (A : World) : A.grownBy A.drew none := grown_of_below ((Below.refl _ A).drew)
theorem grown_same (A : World) : A.grownBy A none := grown_of_below (Below.refl _ A)
theorem sep_none (A : World) : Sep A none := fun _ _ _ _ e => by cases e
/-- the row at hand has grown: nothing else of the rounds' has turned -/
theorem par_grow {B C : Nat} {vo vr v' : Value} {L : Rws} {R : Fs} {f : List Int} {p e : Int} {v : Value} {A w3 : World} {o : Obj} (hr : Res3 B v p e A) (h9 : Rows9 B C vo vr (L, R) A)
    (hg : (A.alloc o).grownBy w3 vr.ownBlock) (hown : w3.ownsRow C 9 1 v' (R.length + 1) (strs R ++ [.string (strOfNums f)])) :
    Res3 B v p e w3 ∧ Boxed w3 (B + 3) 23 vo ∧ Boxed w3 (B + 4) 38 vr ∧ FRows (B + 6) C w3 vo L ∧ FRow C w3 v' (R ++ [f]) ∧ KM (B + 5) A w3 ∧ KeepsOthers A w3 ∧ C ≤ w3.heap.size := by
  obtain ⟨r1, r2, r3⟩ := hr
  obtain ⟨b3, b4, hfr, hfo, hC1, hC2⟩ := h9
  have ho : FRow C (A.alloc o) vr R := hfo.alloc o
  have hsz : (A.alloc o).heap.size = A.heap.size + 1 := by simp
  have hblk : ∀ b, vr.ownBlock = some b → C ≤ b := fun b h => (own_blk' hfo b h).2.1
  have hne : ∀ b, b < C → some b ≠ vr.ownBlock := fun b hb e => by have := hblk b e.symm; omega
  have hfr1 : FRows (B + 6) C (A.alloc o) vo L := frows_below hfr ((Below.refl _ A).alloc (Nat.le_refl _) o)
  refine ⟨⟨(r1.alloc o).kept hg (hne _ (by omega)), (r2.alloc o).kept hg (hne _ (by omega)), (r3.alloc o).kept hg (hne _ (by omega))⟩, (b3.alloc o).kept hg (hne _ (by omega)), (b4.alloc o).kept hg (hne _ (by omega)),
    frows_row hfr1 ho (Nat.le_refl _) hg, frow_push hown, ?_, ?_, ?_⟩
  · exact km_trans (km_none (World.grownBy_alloc A o none)) (km_row ho (by decide) (.inr (hne _ (by omega))) hg)
  · exact (KeepsOthers.alloc A o).trans (keepsOthers_grown hg ho)
  · have := hg.size; omega
/-- behind a field with more to come -/
theorem par_more {w A w3 : World} {pre : List Fld} {f : List Int} {p : Nat} {C : Nat} {vo vr v' : Value} {o : Obj} (hr : Res3 w.heap.size (.slice none 0 0) 0 0 A) (h9 : Rows9 w.heap.size C vo vr (V.sofar pre) A)
    (hB : Below w.heap.size w A) (hall : ∀ y ∈ pre, y.2.1 ≠ 0) (hg : (A.alloc o).grownBy w3 vr.ownBlock) (hown : w3.ownsRow C 9 1 v' ((V.sofar pre).2.length + 1) (strs (V.sofar pre).2 ++ [.string (strOfNums f)])) :
    Boxed w3 (w.heap.size + 4) 38 vr ∧ ParI w (pre ++ [(f, 1, p)]) (w3.setCell ⟨w.heap.size + 4, 0, none⟩ v') ∧ KM (w.heap.size + 5) A (w3.setCell ⟨w.heap.size + 4, 0, none⟩ v') ∧ KeepsOthers A (w3.setCell ⟨w.heap.size + 4, 0, none⟩ v') := by
  obtain ⟨⟨r1, r2, r3⟩, b3, b4, hfr, hfo, hk, ho, hsz⟩ := par_grow hr h9 hg hown
  obtain ⟨_, _, _, hfo0, hC1, hC2⟩ := h9
  have hsf : V.sofar (pre ++ [(f, 1, p)]) = ((V.sofar pre).1, (V.sofar pre).2 ++ [f]) := by rw [V.sofar_snoc]; rfl
  have hB3 : Below w.heap.size w w3 := (hB.alloc hB.size o).grown hg (by have := hB.size; simp; omega) (fun k e => by have := (own_blk' hfo0 k e).2.1; omega)
  refine ⟨b4, ⟨⟨boxed_set r1 (by omega) _, boxed_set r2 (by omega) _, boxed_set r3 (by omega) _⟩, ⟨C, vo, v', ?_⟩, hB3.setCell (p := ⟨w.heap.size + 4, 0, none⟩) (Nat.le_add_right _ _) _, ?_⟩, km_trans hk (km_box b4 (by decide) (by omega)), ho.trans (KeepsOthers.setCell _ _ _)⟩
  · rw [hsf]
    exact ⟨boxed_set b3 (by omega) _, b4.set _, frows_set hfr (by omega), frow_set hfo (by omega), hC1, by simpa [World.setCell] using hsz⟩
  · intro y hy
    rcases List.mem_append.1 hy with hy | hy
    · exact hall y hy
    · have : y = (f, 1, p) := by simpa using hy
      rw [this]; simp
/-- behind a row's last field -/
theorem par_last {w A w3 w5 : World} {pre : List Fld} {f : List Int} {p : Nat} {C : Nat} {vo vr v' vo' : Value} {us : List Value} {o o2 : Obj} (hr : Res3 w.heap.size (.slice none 0 0) 0 0 A) (h9 : Rows9 w.heap.size C vo vr (V.sofar pre) A)
    (hB : Below w.heap.size w A) (hall : ∀ y ∈ pre, y.2.1 ≠ 0) (hg : (A.alloc o).grownBy w3 vr.ownBlock) (hown : w3.ownsRow C 9 1 v' ((V.sofar pre).2.length + 1) (strs (V.sofar pre).2 ++ [.string (strOfNums f)]))
    (hous : (w3.alloc o2).ownsRow (w.heap.size + 6) 38 1 vo (V.sofar pre).1.length us) (hul : us.length = (V.sofar pre).1.length) (hel : ∀ i, i < (V.sofar pre).1.length → ∃ u, us[i]? = some u ∧ FRow (w.heap.size + 6) (w3.alloc o2) u ((V.sofar pre).1[i]?.getD []) ∧ ∀ k, u.ownBlock = some k → k < C)
    (hg5 : (w3.alloc o2).grownBy w5 vo.ownBlock) (hnew : w5.ownsRow (w.heap.size + 6) 38 1 vo' ((V.sofar pre).1.length + 1) (us ++ [v'])) :
    Boxed w5 (w.heap.size + 3) 23 vo ∧ Boxed (w5.setCell ⟨w.heap.size + 3, 0, none⟩ vo') (w.heap.size + 4) 38 vr ∧
    ParI w (pre ++ [(f, 2, p)]) ((w5.setCell ⟨w.heap.size + 3, 0, none⟩ vo').setCell ⟨w.heap.size + 4, 0, none⟩ (.slice none 0 0)) ∧ KM (w.heap.size + 5) A ((w5.setCell ⟨w.heap.size + 3, 0, none⟩ vo').setCell ⟨w.heap.size + 4, 0, none⟩ (.slice none 0 0)) ∧
    KeepsOthers A ((w5.setCell ⟨w.heap.size + 3, 0, none⟩ vo').setCell ⟨w.heap.size + 4, 0, none⟩ (.slice none 0 0)) := by
  obtain ⟨⟨r1, r2, r3⟩, b3, b4, hfr, hfo, hk, ho, hsz⟩ := par_grow hr h9 hg hown
  obtain ⟨_, _, _, hfo0, hC1, hC2⟩ := h9
  have hsf : V.sofar (pre ++ [(f, 2, p)]) = ((V.sofar pre).1 ++ [(V.sofar pre).2 ++ [f]], []) := by rw [V.sofar_snoc]; rfl
  have hB3 : Below w.heap.size w w3 := (hB.alloc hB.size o).grown hg (by have := hB.size; simp; omega) (fun k e => by have := (own_blk' hfo0 k e).2.1; omega)
  have hblk : ∀ b, vo.ownBlock = some b → w.heap.size + 6 ≤ b := fun b h => (own_blk' hous b h).2.1
  have hne : ∀ b, b < w.heap.size + 6 → some b ≠ vo.ownBlock := fun b hb e => by have := hblk b e.symm; omega
  have hB5 : Below w.heap.size w w5 := (hB3.alloc hB3.size o2).grown hg5 (by have := hB3.size; simp; omega) (fun k e => by have := hblk k e; omega)
  have hfo2 : FRow C (w3.alloc o2) v' ((V.sofar pre).2 ++ [f]) := hfo.alloc o2
  have hpush := frows_push hous hul hel hfo2 hC1 hg5 hnew (by simp; omega)
  have c3 := (b3.alloc o2).kept hg5 (hne _ (by omega))
  have c4 := (b4.alloc o2).kept hg5 (hne _ (by omega))
  have d4 := boxed_set c4 (b := w.heap.size + 3) (by omega) vo'
  have hs5 := hg5.size
  have hs3 : (w3.alloc o2).heap.size = w3.heap.size + 1 := by simp
  refine ⟨c3, d4, ⟨⟨boxed_set (boxed_set ((r1.alloc o2).kept hg5 (hne _ (by omega))) (by omega) _) (by omega) _, boxed_set (boxed_set ((r2.alloc o2).kept hg5 (hne _ (by omega))) (by omega) _) (by omega) _, boxed_set (boxed_set ((r3.alloc o2).kept hg5 (hne _ (by omega))) (by omega) _) (by omega) _⟩, ⟨(w3.alloc o2).heap.size, vo', .slice none 0 0, ?_⟩, ?_, ?_⟩, ?_, ?_⟩
  · rw [hsf]
    exact ⟨boxed_set (c3.set _) (by omega) _, d4.set _, frows_set (frows_set hpush (by omega)) (by omega), frow_nil _ _, by omega, by simpa [World.setCell] using hs5⟩
  · exact (hB5.setCell (p := ⟨w.heap.size + 3, 0, none⟩) (Nat.le_add_right _ _) _).setCell (p := ⟨w.heap.size + 4, 0, none⟩) (Nat.le_add_right _ _) _
  · intro y hy
    rcases List.mem_append.1 hy with hy | hy
    · exact hall y hy
    · have : y = (f, 2, p) := by simpa using hy
      rw [this]; simp
  · exact km_trans (km_trans hk (km_trans (km_none (World.grownBy_alloc w3 o2 none)) (km_row hous (by decide) (.inl (by decide)) hg5))) (km_trans (km_box c3 (by decide) (by omega)) (km_box d4 (by decide) (by omega)))
  · exact (ho.trans ((KeepsOthers.alloc w3 o2).trans (keepsOthers_grown hg5 hous))).trans ((KeepsOthers.setCell _ _ _).trans (KeepsOthers.setCell _ _ _))
/-- behind a field that is wrong: the round leaves -/
theorem par_wrong {w A : World} {pre : List Fld} {f : List Int} {p : Nat} (hr : Res3 w.heap.size (.slice none 0 0) 0 0 A) (hB : Below w.heap.size w A) :
    ParX w .ret (pre ++ [(f, 0, p)]) (((A.setCell ⟨w.heap.size, 0, none⟩ (.slice none 0 0)).setCell ⟨w.heap.size + 1, 0, none⟩ (.int .i64 (p : Int))).setCell ⟨w.heap.size + 2, 0, none⟩ (.int .i64 2)) ∧
    KeepsOthers A (((A.setCell ⟨w.heap.size, 0, none⟩ (.slice none 0 0)).setCell ⟨w.heap.size + 1, 0, none⟩ (.int .i64 (p : Int))).setCell ⟨w.heap.size + 2, 0, none⟩ (.int .i64 2)) :=
  ⟨⟨rfl, ⟨pre, (f, 0, p), rfl, rfl, res3_set hr⟩, below_set3 hB⟩, ((KeepsOthers.setCell _ _ _).trans (KeepsOthers.setCell _ _ _)).trans (KeepsOthers.setCell _ _ _)⟩
theorem parX_drew {w A : World} {c : Code} {pre : List Fld} (h : ParX w c pre A) : ParX w c pre A.drew := parX_sep h (grown_drew A) (sep_none A) (fun _ e => by cases e)
end Go.Proofs.Ytclnephomnkieaa
