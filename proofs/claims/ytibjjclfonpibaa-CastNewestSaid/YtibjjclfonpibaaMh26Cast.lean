/- The program's schema: what its steps share. (Made by gen_spr.py.) -/
import Derived.Test.YtibjjclfonpibaaMh22Cast
import Derived.Test.YtibjjclfonpibaaMh25Cast
import Derived.Test.YtibjjclfonpibaaMh18Cast
set_option linter.unusedVariables false
set_option linter.unusedSimpArgs false
set_option maxRecDepth 100000
namespace Go.Proofs.Ytibjjclfonpibaa
open Go.RowKit Go.Shelf
theorem results_cell_tmpS {P : Program} {fn : Func} {p u : Tmp} {ty : TypeId} (h : fn.results = #[.cell p ty, .tmp u]) (tmps : Array Value) (w : World) (g : Nat) (t : TypeId) (cs : Array Value) (fr : Nat × Nat) (d : TypeDesc)
    (hp : tmps.getD p undef = .pointer (some ⟨g, 0, none⟩)) (hg : w.heap[g]? = some (.cells cs t fr))
    (hu : P.underlying ty = some d) (hd : (match d with | .struct _ | .array _ _ => true | _ => false) = true) (hi : (P.info? ty).map (·.size) = some cs.size) :
    (results fn tmps).run P w = .ok (.tuple #[.agg cs, tmps.getD u undef]) w := by
  rw [results_cell_tmp h, hp]
  simp [asAddr, run_loadVar_row w g t ty cs fr d hg hu hd hi, Result.andThen]
/-- what a step comes to -/
def StepPost (o : Option Sc.Ver) (w0 w : World) (e : Ending) (w' : World) : Prop := (match o with
  | none => ∃ sa n sc ca m cc, e = .returned (.tuple #[.agg #[.slice sa n sc, .slice ca m cc], .bool false])
  | some y => ∃ sv cv, e = .returned (.tuple #[.agg #[sv, cv], .bool true]) ∧ VerIn w0 w' y sv cv) ∧ Below w.heap.size w w'
/-- what a step is given: a version, as it lies -/
structure StepIn (w0 w : World) (x : Sc.Ver) (sa : Option Addr) (sc : Nat) (ca : Option Addr) (cc : Nat) (cs : List Value) : Prop where
  below : Below w0.heap.size w0 w
  vin : VerIn w0 w x (.slice sa x.slots.length sc) (.slice ca x.cols.length cc)
  ver : VerAt w x sa sc ca cc
  sc : SCells w0 x.slots cs
  cells : Cells w 7 sa x.slots.length cs
theorem build_widS (ty : Int) (w : World) : (Instr.build 47 #[(1, .int .i64 ty)]).run Try.prog w = .ok (.agg #[.string ⟨#[]⟩, .int .i64 ty, .bool false, .int .i64 0, .int .i64 0, .string ⟨#[]⟩, .slice none 0 0]) w := run_build w 47 _ _ (by kernel_rfl)
theorem build_widT (col ty : Int) (w : World) : (Instr.build 50 #[(1, .int .i64 col), (2, .agg #[.string ⟨#[]⟩, .int .i64 ty, .bool false, .int .i64 0, .int .i64 0, .string ⟨#[]⟩, .slice none 0 0])]).run Try.prog w = .ok (.agg #[.int .i64 0, .int .i64 col, .string ⟨#[]⟩, .int .i64 ty, .bool false, .int .i64 0, .int .i64 0, .string ⟨#[]⟩, .slice none 0 0, .slice none 0 0]) w := run_build w 50 _ _ (by kernel_rfl)
theorem build_losT (col : Int) (w : World) : (Instr.build 50 #[(1, .int .i64 col)]).run Try.prog w = .ok (.agg #[.int .i64 0, .int .i64 col, .string ⟨#[]⟩, .int .i64 0, .bool false, .int .i64 0, .int .i64 0, .string ⟨#[]⟩, .slice none 0 0, .slice none 0 0]) w := run_build w 50 _ _ (by kernel_rfl)
theorem build_addT (c0 : ByteArray) (c1 c3 c4 : Int) (c2 : Bool) (c5 : ByteArray) (a : Option Addr) (len cap : Nat) (w : World) : (Instr.build 50 #[(2, .agg #[.string c0, .int .i64 c1, .bool c2, .int .i64 c3, .int .i64 c4, .string c5, .slice a len cap])]).run Try.prog w = .ok (.agg #[.int .i64 0, .int .i64 0, .string c0, .int .i64 c1, .bool c2, .int .i64 c3, .int .i64 c4, .string c5, .slice a len cap, .slice none 0 0]) w := run_build w 50 _ _ (by kernel_rfl)
theorem build_reoT (a : Option Addr) (len cap : Nat) (w : World) : (Instr.build 50 #[(3, .slice a len cap)]).run Try.prog w = .ok (.agg #[.int .i64 0, .int .i64 0, .string ⟨#[]⟩, .int .i64 0, .bool false, .int .i64 0, .int .i64 0, .string ⟨#[]⟩, .slice none 0 0, .slice a len cap]) w := run_build w 50 _ _ (by kernel_rfl)
theorem build_ver0 (w : World) : (Instr.build 56 #[]).run Try.prog w = .ok (.agg #[.slice none 0 0, .slice none 0 0]) w := run_build w 56 _ _ (by kernel_rfl)
theorem nil_row (w : World) : Row w .i64 none 0 0 [] := ⟨rfl, Nat.le_refl _, Nat.zero_le _, .inl rfl⟩
theorem i64_zero : I64 0 := ⟨by omega, by omega⟩
theorem isStep_made (w : World) (kd col ty : Int) (nm : ByteArray) (rq : Bool) (h1 : I64 kd) (h2 : I64 col) (h3 : I64 ty) (h4 : nm.size ≤ maxLen) : IsStep w ⟨kd, col, ⟨nm, ty, rq, Sc.nilV⟩, []⟩ (.agg #[.int .i64 kd, .int .i64 col, .string nm, .int .i64 ty, .bool rq, .int .i64 0, .int .i64 0, .string ⟨#[]⟩, .slice none 0 0, .slice none 0 0]) :=
  ⟨_, _, _, _, _, _, _, none, 0, rfl, h1, h2, ⟨h4, h3, rfl, rfl, rfl, nil_is w⟩, nil_row w, by simp⟩
theorem at_heap {W : World} {b i : Nat} {cs : Array Value} {t : TypeId} {fr : Nat × Nat} {v : Value} (h : W.heap[b]? = some (.cells cs t fr)) (hi : cs[i]? = some v) : W.cell? ⟨b, i, none⟩ = some v := by
  simp [World.cell?, h, hi]
theorem heap4 {w w1 : World} {o1 o2 o3 o4 : Obj} (h : Below ((((w.alloc o1).alloc o2).alloc o3).alloc o4).heap.size ((((w.alloc o1).alloc o2).alloc o3).alloc o4) w1) : w1.heap[w.heap.size]? = some o1 ∧ w1.heap[w.heap.size + 1]? = some o2 ∧ w1.heap[w.heap.size + 1 + 1]? = some o3 ∧ w1.heap[w.heap.size + 1 + 1 + 1]? = some o4 := by
  have e1 := heap_self9 w o1
  have e2 := heap_self9 (w.alloc o1) o2
  have e3 := heap_self9 ((w.alloc o1).alloc o2) o3
  have e4 := heap_self9 (((w.alloc o1).alloc o2).alloc o3) o4
  rw [World.size_alloc] at e2 e3 e4
  rw [World.size_alloc] at e3 e4
  rw [World.size_alloc] at e4
  refine ⟨(h.block _ (by simp <;> omega)).trans ?_, (h.block _ (by simp <;> omega)).trans ?_, (h.block _ (by simp <;> omega)).trans ?_, (h.block _ (by simp <;> omega)).trans e4⟩
  · exact (Below.heap_alloc _ _ _ (by simp <;> omega)).trans ((Below.heap_alloc _ _ _ (by simp <;> omega)).trans ((Below.heap_alloc _ _ _ (by simp)).trans e1))
  · exact (Below.heap_alloc _ _ _ (by simp <;> omega)).trans ((Below.heap_alloc _ _ _ (by simp <;> omega)).trans e2)
  · exact (Below.heap_alloc _ _ _ (by simp <;> omega)).trans e3
theorem heap3 {w w1 : World} {o1 o2 o3 : Obj} (h : Below (((w.alloc o1).alloc o2).alloc o3).heap.size (((w.alloc o1).alloc o2).alloc o3) w1) : w1.heap[w.heap.size]? = some o1 ∧ w1.heap[w.heap.size + 1]? = some o2 ∧ w1.heap[w.heap.size + 1 + 1]? = some o3 := by
  have e1 := heap_self9 w o1
  have e2 := heap_self9 (w.alloc o1) o2
  have e3 := heap_self9 ((w.alloc o1).alloc o2) o3
  rw [World.size_alloc] at e2 e3
  rw [World.size_alloc] at e3
  refine ⟨(h.block _ (by simp <;> omega)).trans ?_, (h.block _ (by simp <;> omega)).trans ?_, (h.block _ (by simp <;> omega)).trans e3⟩
  · exact (Below.heap_alloc _ _ _ (by simp <;> omega)).trans ((Below.heap_alloc _ _ _ (by simp <;> omega)).trans e1)
  · exact (Below.heap_alloc _ _ _ (by simp <;> omega)).trans e2
theorem below4 (w : World) (o1 o2 o3 o4 : Obj) : Below w.heap.size w ((((w.alloc o1).alloc o2).alloc o3).alloc o4) :=
  (((((Below.refl _ w).alloc (Nat.le_refl _) o1).alloc (by simp) o2).alloc (by simp <;> omega) o3).alloc (by simp <;> omega) o4)
theorem below3 (w : World) (o1 o2 o3 : Obj) : Below w.heap.size w (((w.alloc o1).alloc o2).alloc o3) :=
  ((((Below.refl _ w).alloc (Nat.le_refl _) o1).alloc (by simp) o2).alloc (by simp <;> omega) o3)
/-- the result's two cells set, ahead of the end -/
theorem step_out {w V : World} {b : Nat} {z0 z1 : Value} (u0 u1 : Value) (h : V.heap[b]? = some (.cells #[z0, z1] 56 (0, 0))) (hB : Below w.heap.size w V) (hb : w.heap.size ≤ b) :
    ((V.setCell ⟨b, 0, none⟩ u0).setCell ⟨b, 1, none⟩ u1).heap[b]? = some (.cells #[u0, u1] 56 (0, 0)) ∧ Below w.heap.size w ((V.setCell ⟨b, 0, none⟩ u0).setCell ⟨b, 1, none⟩ u1) := by
  have hk1 := grown_set9 V b 0 u0
  have hk2 := grown_set9 (V.setCell ⟨b, 0, none⟩ u0) b 1 u1
  exact ⟨set_two9 h _ _, below_grown9 (below_grown9 hB hk1 (fun c e => by cases e; omega) hB.size) hk2 (fun c e => by cases e; omega) (Nat.le_trans hB.size hk1.size)⟩
theorem step_no {w0 w V : World} {b : Nat} {z0 z1 : Value} {o : Option Sc.Ver} {e : Ending} (ho : o = none) (h : V.heap[b]? = some (.cells #[z0, z1] 56 (0, 0))) (hB : Below w.heap.size w V) (hb : w.heap.size ≤ b) (he : e = .returned (.tuple #[.agg #[.slice none 0 0, .slice none 0 0], .bool false])) :
    StepPost o w0 w e ((V.setCell ⟨b, 0, none⟩ (.slice none 0 0)).setCell ⟨b, 1, none⟩ (.slice none 0 0)) := by
  subst ho
  exact ⟨⟨_, _, _, _, _, _, he⟩, (step_out _ _ h hB hb).2⟩
theorem set_one9 {W : World} {b : Nat} {u0 u1 : Value} {t : TypeId} (h : W.heap[b]? = some (.cells #[u0, u1] t (0, 0))) (v0 : Value) : (W.setCell ⟨b, 0, none⟩ v0).heap[b]? = some (.cells #[v0, u1] t (0, 0)) := by
  obtain ⟨hlt, hk⟩ := Array.getElem?_eq_some_iff.1 h
  show (W.heap.modify b _)[b]? = _
  rw [Array.getElem?_eq_getElem (by rw [Array.size_modify]; exact hlt), Array.getElem_modify_self, hk]
  rfl
theorem step_kept {w0 w V : World} {b : Nat} {z0 z1 : Value} (u0 u1 : Value) (hw0 : Below w0.heap.size w0 w) (h : V.heap[b]? = some (.cells #[z0, z1] 56 (0, 0))) (hB : Below w.heap.size w V) (hb : w.heap.size ≤ b) : KeptT w0 w ((V.setCell ⟨b, 0, none⟩ u0).setCell ⟨b, 1, none⟩ u1) := by
  have k0 := keptT_below hw0 hB
  have hle : w0.heap.size ≤ b := Nat.le_trans hw0.size hb
  have k1 := keptT_set (i := 0) (u := u0) k0.1 hle h (by decide) (by decide)
  exact keptT_trans k0 (keptT_trans k1 (keptT_set (i := 1) (u := u1) k1.1 hle (set_one9 h u0) (by decide) (by decide)))
end Go.Proofs.Ytibjjclfonpibaa
