/- Values: the pure ones, and how they lie in memory. -/
import Derived.Test.YtfapoicnkdallaaMh1Thre
namespace Go.Proofs.Ytfapoicnkdallaa
open Go.RowKit Go.Shelf
/-- a value: its kind, its number, its text, what is in it -/
inductive PV where
  | mk (k n : Int) (s : ByteArray) (l : List PV)
theorem pv_ind {p : PV → Prop} (h : ∀ k n s l, (∀ x ∈ l, p x) → p (.mk k n s l)) : ∀ v, p v := by
  intro v
  refine PV.rec (motive_1 := p) (motive_2 := fun l => ∀ x ∈ l, p x) (fun k n s l ih => h k n s l ih) (by simp) (fun x r hx hr y hy => ?_) v
  rcases List.mem_cons.1 hy with rfl | hy
  · exact hx
  · exact hr y hy
/-- an int of 64 bits -/
def I64 (n : Int) : Prop := -9223372036854775808 ≤ n ∧ n ≤ 9223372036854775807
mutual
/-- a value in memory -/
def Is (w : World) : PV → Value → Prop
  | .mk k n s l, v => I64 k ∧ I64 n ∧ s.size ≤ maxLen ∧ ∃ a cap, v = .agg #[.int .i64 k, .int .i64 n, .string s, .slice a l.length cap] ∧ l.length ≤ cap ∧ cap ≤ maxLen ∧
      (l = [] ∨ ∃ b off, a = some ⟨b, off, none⟩ ∧ IsL w b l off)
/-- values that lie one behind the other -/
def IsL (w : World) (b : Nat) : List PV → Nat → Prop
  | [], _ => True
  | x :: r, off => (∃ c0 c1 c2 c3, (w.cell? ⟨b, off, none⟩ = some c0 ∧ w.cell? ⟨b, off + 1, none⟩ = some c1 ∧ w.cell? ⟨b, off + 2, none⟩ = some c2 ∧ w.cell? ⟨b, off + 3, none⟩ = some c3) ∧ Is w x (.agg #[c0, c1, c2, c3])) ∧ IsL w b r (off + 4)
end
theorem isL_at {w : World} {b : Nat} : ∀ {l : List PV} {off : Nat}, IsL w b l off → ∀ i x, l[i]? = some x → ∃ c0 c1 c2 c3, (w.cell? ⟨b, off + i * 4, none⟩ = some c0 ∧ w.cell? ⟨b, off + i * 4 + 1, none⟩ = some c1 ∧ w.cell? ⟨b, off + i * 4 + 2, none⟩ = some c2 ∧ w.cell? ⟨b, off + i * 4 + 3, none⟩ = some c3) ∧ Is w x (.agg #[c0, c1, c2, c3]) := by
  intro l
  induction l with
  | nil => intro off _ i x h; simp at h
  | cons y r ih =>
    intro off h i x hx
    unfold IsL at h
    cases i with
    | zero => simp at hx; subst hx; simpa using h.1
    | succ i =>
      have := ih h.2 i x (by simpa using hx)
      simpa [Nat.succ_mul, Nat.add_assoc, Nat.add_comm, Nat.add_left_comm] using this
theorem isL_of {w : World} {b : Nat} : ∀ {l : List PV} {off : Nat}, (∀ i x, l[i]? = some x → ∃ c0 c1 c2 c3, (w.cell? ⟨b, off + i * 4, none⟩ = some c0 ∧ w.cell? ⟨b, off + i * 4 + 1, none⟩ = some c1 ∧ w.cell? ⟨b, off + i * 4 + 2, none⟩ = some c2 ∧ w.cell? ⟨b, off + i * 4 + 3, none⟩ = some c3) ∧ Is w x (.agg #[c0, c1, c2, c3])) → IsL w b l off := by
  intro l
  induction l with
  | nil => intro off _; unfold IsL; trivial
  | cons y r ih =>
    intro off h
    unfold IsL
    refine ⟨by simpa using h 0 y rfl, ih fun i x hx => ?_⟩
    have := h (i + 1) x (by simpa using hx)
    simpa [Nat.succ_mul, Nat.add_assoc, Nat.add_comm, Nat.add_left_comm] using this
/-- the value at a place, its cells as they are -/
theorem isL_val {w : World} {b off : Nat} {l : List PV} (h : IsL w b l off) (i : Nat) (k n : Int) (s : ByteArray) (r : List PV) (hx : l[i]? = some (.mk k n s r)) : ∃ a cap,
    (w.cell? ⟨b, off + i * 4, none⟩ = some (.int .i64 k) ∧ w.cell? ⟨b, off + i * 4 + 1, none⟩ = some (.int .i64 n) ∧ w.cell? ⟨b, off + i * 4 + 2, none⟩ = some (.string s) ∧ w.cell? ⟨b, off + i * 4 + 3, none⟩ = some (.slice a r.length cap)) ∧
    Is w (.mk k n s r) (.agg #[.int .i64 k, .int .i64 n, .string s, .slice a r.length cap]) := by
  obtain ⟨c0, c1, c2, c3, ⟨g0, g1, g2, g3⟩, hi⟩ := isL_at h i _ hx
  have h2 := hi
  unfold Is at h2
  obtain ⟨_, _, _, a, cap, e, _⟩ := h2
  simp only [Value.agg.injEq, Array.mk.injEq, List.cons.injEq, and_true] at e
  obtain ⟨rfl, rfl, rfl, rfl⟩ := e
  exact ⟨a, cap, ⟨g0, g1, g2, g3⟩, hi⟩
theorem cell_below {w w' : World} (hb : Below w.heap.size w w') {p : Addr} {v : Value} (h : w.cell? p = some v) : w'.cell? p = some v := by
  have hbk : p.block < w.heap.size := by
    simp only [World.cell?] at h
    rcases Nat.lt_or_ge p.block w.heap.size with h' | h'
    · exact h'
    · rw [Array.getElem?_eq_none h'] at h; cases h
  exact (hb.cell hbk).trans h
theorem is_below {w w' : World} (hb : Below w.heap.size w w') : ∀ v x, Is w v x → Is w' v x := by
  intro v
  induction v using pv_ind with
  | h k n s l ih =>
    intro x h
    unfold Is at h ⊢
    obtain ⟨h1, h2, h3, a, cap, rfl, h4, h5, h6⟩ := h
    refine ⟨h1, h2, h3, a, cap, rfl, h4, h5, ?_⟩
    rcases h6 with h6 | ⟨b, off, rfl, h6⟩
    · exact .inl h6
    · refine .inr ⟨b, off, rfl, isL_of fun i y hy => ?_⟩
      obtain ⟨c0, c1, c2, c3, ⟨g0, g1, g2, g3⟩, hi⟩ := isL_at h6 i y hy
      exact ⟨c0, c1, c2, c3, ⟨cell_below hb g0, cell_below hb g1, cell_below hb g2, cell_below hb g3⟩, ih y (List.mem_of_getElem? hy) _ hi⟩
theorem isL_below {w w' : World} (hb : Below w.heap.size w w') {b : Nat} {l : List PV} {off : Nat} (h : IsL w b l off) : IsL w' b l off :=
  isL_of fun i y hy => by
    obtain ⟨c0, c1, c2, c3, ⟨g0, g1, g2, g3⟩, hi⟩ := isL_at h i y hy
    exact ⟨c0, c1, c2, c3, ⟨cell_below hb g0, cell_below hb g1, cell_below hb g2, cell_below hb g3⟩, is_below hb _ _ hi⟩
mutual
/-- how many nodes -/
def szV : PV → Nat
  | .mk _ _ _ l => szL l + 1
def szL : List PV → Nat
  | [] => 0
  | x :: r => szV x + szL r
end
mutual
/-- how deep, as the program says it -/
def deepV : PV → Nat
  | .mk k _ _ l => deepL l + (if k = 5 then 1 else 0)
def deepL : List PV → Nat
  | [] => 0
  | x :: r => max (deepV x) (deepL r)
end
theorem deep_le : ∀ v, deepV v ≤ szV v := by
  intro v
  induction v using pv_ind with
  | h k n s l ih =>
    have : deepL l ≤ szL l := by
      clear k n s
      induction l with
      | nil => simp [deepL, szL]
      | cons x r ih2 =>
        have h1 := ih x (by simp)
        have h2 := ih2 fun y hy => ih y (by simp [hy])
        simp only [deepL, szL]
        omega
    simp only [deepV, szV]
    split <;> omega
theorem szV_pos (v : PV) : 0 < szV v := by cases v; simp [szV]
theorem szL_append (l r : List PV) : szL (l ++ r) = szL l + szL r := by
  induction l with
  | nil => simp [szL]
  | cons x l ih => simp only [List.cons_append, szL, ih]; omega
theorem szL_mem {l : List PV} {x : PV} (h : x ∈ l) : szV x ≤ szL l := by
  induction l with
  | nil => simp at h
  | cons y r ih =>
    simp only [szL]
    rcases List.mem_cons.1 h with rfl | h
    · omega
    · have := ih h; omega
end Go.Proofs.Ytfapoicnkdallaa
