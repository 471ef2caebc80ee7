/- Package num's iterator over a number's digits. -/
import Derived.Test.YtihpalbmkcoalaaNum
namespace Go.Proofs.Ytihpalbmkcoalaa
open Go.RowKit Go.Shelf
attribute [local go_sem] Oper.semAt_some
/-- a number's digits, the last one first -/
def M.dg (m : Nat) : List Int := if m < 10 then [(m : Int)] else ((m % 10 : Nat) : Int) :: M.dg (m / 10)
termination_by m
decreasing_by omega
theorem M.dg_lt (m : Nat) (h : m < 10) : M.dg m = [(m : Int)] := by rw [M.dg, if_pos h]
theorem M.dg_ge (m : Nat) (h : ¬ m < 10) : M.dg m = ((m % 10 : Nat) : Int) :: M.dg (m / 10) := by rw [M.dg, if_neg h]
theorem M.dg_D (m : Nat) : M.D m = (M.dg m).reverse.map (48 + ·) := by
  induction m using Nat.strongRecOn with
  | _ m ih =>
    by_cases h : m < 10
    · rw [M.D_lt m h, M.dg_lt m h]; rfl
    · rw [M.D_ge m h, M.dg_ge m h, ih _ (by omega)]; simp
theorem M.dg_len (m : Nat) : (M.dg m).length = (M.D m).length := by rw [M.dg_D]; simp

/-- a block of bytes that is a variable's array -/
def Arr (W : World) (B : Nat) (t : TypeId) (xs : List Int) : Prop := W.heap[B]? = some (.cells (u8s xs).toArray t (0, 0))
theorem Arr.lt {W : World} {B : Nat} {t : TypeId} {xs : List Int} (h : Arr W B t xs) : B < W.heap.size := (Array.getElem?_eq_some_iff.1 h).1
theorem Arr.cell {W : World} {B : Nat} {t : TypeId} {xs : List Int} (h : Arr W B t xs) (i : Nat) (hi : i < xs.length) : W.cell? ⟨B, i, none⟩ = some (.int .u8 (xs[i]?.getD 0)) := by
  simp [World.cell?, show W.heap[B]? = _ from h, u8s, List.getElem?_eq_getElem hi]
theorem Arr.frozen {W : World} {B : Nat} {t : TypeId} {xs : List Int} (h : Arr W B t xs) (i : Nat) : W.frozen? ⟨B, i, none⟩ = false := by simp [World.frozen?, show W.heap[B]? = _ from h]
theorem Arr.kept {W W' : World} {row : Option Nat} {B : Nat} {t : TypeId} {xs : List Int} (h : Arr W B t xs) (hg : W.grownBy W' row) (hne : some B ≠ row) : Arr W' B t xs := (hg.block B h.lt hne).trans h
theorem Arr.alloc {W : World} {B : Nat} {t : TypeId} {xs : List Int} (h : Arr W B t xs) (o : Obj) : Arr (W.alloc o) B t xs := h.kept (World.grownBy_alloc W o none) (by simp)
theorem Arr.other {W : World} {B B' : Nat} {t : TypeId} {xs : List Int} (h : Arr W B t xs) (hne : B ≠ B') (u : Value) : Arr (W.setCell ⟨B', 0, none⟩ u) B t xs := h.kept (grownBy_setCell' W B' u) (fun e => hne (by cases e; rfl))
theorem Arr.set {W : World} {B : Nat} {t : TypeId} {xs : List Int} (h : Arr W B t xs) (i : Nat) (x : Int) : Arr (W.setCell ⟨B, i, none⟩ (.int .u8 x)) B t (xs.set i x) := by
  obtain ⟨hlt, hk⟩ := Array.getElem?_eq_some_iff.1 h
  show (W.heap.modify B _)[B]? = _
  rw [Array.getElem?_eq_getElem (by rw [Array.size_modify]; exact hlt), Array.getElem_modify_self, hk]
  simp [u8s, List.map_set]
theorem grownBy_setAt (W : World) (b i : Nat) (v : Value) : W.grownBy (W.setCell ⟨b, i, none⟩ v) (some b) :=
  ⟨rfl, rfl, rfl, (KeepsWalks.setCell W _ v).size, fun k _ hk => Below.heap_setCell _ _ _ k (fun e => hk (by rw [e]))⟩
theorem Boxed.otherAt {W : World} {B B' : Nat} {t : TypeId} {v : Value} (h : Boxed W B t v) (hne : B ≠ B') (i : Nat) (u : Value) : Boxed (W.setCell ⟨B', i, none⟩ u) B t v := h.kept (grownBy_setAt W B' i u) (fun e => hne (by cases e; rfl))
theorem arr_own {β : Type} (B : Nat) (t : TypeId) (f : β → List Int) : Own (fun s W => Arr W B t (f s)) := fun s X Y row hs hg hrow =>
  hs.kept hg (fun e' => by obtain ⟨o, ho, hc⟩ := hrow B e'.symm; rw [show X.heap[B]? = _ from hs] at ho; cases ho; cases hc)
theorem Arr.new (W : World) (t : TypeId) (xs : List Int) (cs : Array Value) (h : cs = (u8s xs).toArray) : Arr (W.alloc (.cells cs t)) W.heap.size t xs := by subst h; exact World.alloc_heap_new W _
/-- the twenty bytes of room, behind so many digits -/
def M.room (pre : List Int) : List Int := List.replicate (20 - pre.length) 0 ++ pre.reverse.map fun x => (48 + x) % 256
theorem M.room_len (pre : List Int) (h : pre.length ≤ 20) : (M.room pre).length = 20 := by simp [M.room]; omega
theorem M.room_step (pre : List Int) (x : Int) (h : pre.length < 20) : (M.room pre).set (19 - pre.length) ((48 + x) % 256) = M.room (pre ++ [x]) := by
  unfold M.room
  have e : 20 - pre.length = (19 - pre.length) + 1 := by omega
  rw [e, List.replicate_succ', List.append_assoc, List.set_append_right _ _ (by simp)]
  simp
theorem M.dg_digits (m : Nat) : ∀ x ∈ M.dg m, 0 ≤ x ∧ x ≤ 9 := by
  induction m using Nat.strongRecOn with
  | _ m ih =>
    intro x hx
    by_cases h : m < 10
    · rw [M.dg_lt m h] at hx; simp at hx; omega
    · rw [M.dg_ge m h] at hx
      simp only [List.mem_cons] at hx
      rcases hx with rfl | hx
      · omega
      · exact ih _ (by omega) x hx
theorem M.room_end (m : Nat) : M.room (M.dg m) = List.replicate (20 - (M.dg m).length) 0 ++ (M.dg m).reverse.map (48 + ·) := by
  unfold M.room
  congr 1
  refine List.map_congr_left fun x hx => ?_
  have := M.dg_digits m x (by simpa using hx)
  omega
end Go.Proofs.Ytihpalbmkcoalaa
