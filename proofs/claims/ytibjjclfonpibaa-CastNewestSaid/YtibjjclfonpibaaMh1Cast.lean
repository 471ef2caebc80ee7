/- Values: the pure ones, and how they lie in memory. -/
import Derived.Test.YtibjjclfonpibaaMh0Cast
import Derived.Deep.Slices
namespace Go.Proofs.Ytibjjclfonpibaa
open Go.RowKit Go.Shelf
/-- a value: its kind, its number, its text, what is in it -/
inductive PV where
  | mk (k n : Int) (s : ByteArray) (l : List PV)
theorem pv_ind {p : PV → Prop} (h : ∀ k n s l, (∀ x ∈ l, p x) → p (.mk k n s l)) : ∀ v, p v := by
  intro v
  refine PV.rec (motive_1 := p) (motive_2 := fun l => ∀ x ∈ l, p x) (fun k n s l ih => h k n s l ih) (by simp) (fun x r hx hr y hy => ?_) v
  rcases List.mem_cons.1 hy with rfl | hy
  · exact hx
  · exact hr y hy
/-- an int of 64 bits -/
def I64 (n : Int) : Prop := -9223372036854775808 ≤ n ∧ n ≤ 9223372036854775807
mutual
/-- a value in memory -/
def Is (w : World) : PV → Value → Prop
  | .mk k n s l, v => I64 k ∧ I64 n ∧ s.size ≤ maxLen ∧ ∃ a cap, v = .agg #[.int .i64 k, .int .i64 n, .string s, .slice a l.length cap] ∧ l.length ≤ cap ∧ cap ≤ maxLen ∧
      (l = [] ∨ ∃ b off, a = some ⟨b, off, none⟩ ∧ IsL w b l off)
/-- values that lie one behind the other -/
def IsL (w : World) (b : Nat) : List PV → Nat → Prop
  | [], _ => True
  | x :: r, off => (∃ c0 c1 c2 c3, (w.cell? ⟨b, off, none⟩ = some c0 ∧ w.cell? ⟨b, off + 1, none⟩ = some c1 ∧ w.cell? ⟨b, off + 2, none⟩ = some c2 ∧ w.cell? ⟨b, off + 3, none⟩ = some c3) ∧ Is w x (.agg #[c0, c1, c2, c3])) ∧ IsL w b r (off + 4)
end
theorem isL_at {w : World} {b : Nat} : ∀ {l : List PV} {off : Nat}, IsL w b l off → ∀ i x, l[i]? = some x → ∃ c0 c1 c2 c3, (w.cell? ⟨b, off + i * 4, none⟩ = some c0 ∧ w.cell? ⟨b, off + i * 4 + 1, none⟩ = some c1 ∧ w.cell? ⟨b, off + i * 4 + 2, none⟩ = some c2 ∧ w.cell? ⟨b, off + i * 4 + 3, none⟩ = some c3) ∧ Is w x (.agg #[c0, c1, c2, c3]) := by
  intro l
  induction l with
  | nil => intro off _ i x h; simp at h
  | cons y r ih =>
    intro off h i x hx
    unfold IsL at h
    cases i with
    | zero => simp at hx; subst hx; simpa using h.1
    | succ i =>
      have := ih h.2 i x (by simpa using hx)
      simpa [Nat.succ_mul, Nat.add_assoc, Nat.add_comm, Nat.add_left_comm] using this
theorem isL_of {w : World} {b : Nat} : ∀ {l : List PV} {off : Nat}, (∀ i x, l[i]? = some x → ∃ c0 c1 c2 c3, (w.cell? ⟨b, off + i * 4, none⟩ = some c0 ∧ w.cell? ⟨b, off + i * 4 + 1, none⟩ = some c1 ∧ w.cell? ⟨b, off + i * 4 + 2, none⟩ = some c2 ∧ w.cell? ⟨b, off + i * 4 + 3, none⟩ = some c3) ∧ Is w x (.agg #[c0, c1, c2, c3])) → IsL w b l off := by
  intro l
  induction l with
  | nil => intro off _; unfold IsL; trivial
  | cons y r ih =>
    intro off h
    unfold IsL
    refine ⟨by simpa using h 0 y rfl, ih fun i x hx => ?_⟩
    have := h (i + 1) x (by simpa using hx)
    simpa [Nat.succ_mul, Nat.add_assoc, Nat.add_comm, Nat.add_left_comm] using this
/-- the value at a place, its cells as they are -/
theorem isL_val {w : World} {b off : Nat} {l : List PV} (h : IsL w b l off) (i : Nat) (k n : Int) (s : ByteArray) (r : List PV) (hx : l[i]? = some (.mk k n s r)) : ∃ a cap,
    (w.cell? ⟨b, off + i * 4, none⟩ = some (.int .i64 k) ∧ w.cell? ⟨b, off + i * 4 + 1, none⟩ = some (.int .i64 n) ∧ w.cell? ⟨b, off + i * 4 + 2, none⟩ = some (.string s) ∧ w.cell? ⟨b, off + i * 4 + 3, none⟩ = some (.slice a r.length cap)) ∧
    Is w (.mk k n s r) (.agg #[.int .i64 k, .int .i64 n, .string s, .slice a r.length cap]) := by
  obtain ⟨c0, c1, c2, c3, ⟨g0, g1, g2, g3⟩, hi⟩ := isL_at h i _ hx
  have h2 := hi
  unfold Is at h2
  obtain ⟨_, _, _, a, cap, e, _⟩ := h2
  simp only [Value.agg.injEq, Array.mk.injEq, List.cons.injEq, and_true] at e
  obtain ⟨rfl, rfl, rfl, rfl⟩ := e
  exact ⟨a, cap, ⟨g0, g1, g2, g3⟩, hi⟩
theorem cell_below {w w' : World} (hb : Below w.heap.size w w') {p : Addr} {v : Value} (h : w.cell? p = some v) : w'.cell? p = some v := by
  have hbk : p.block < w.heap.size := by
    simp only [World.cell?] at h
    rcases Nat.lt_or_ge p.block w.heap.size with h' | h'
    · exact h'
    · rw [Array.getElem?_eq_none h'] at h; cases h
  exact (hb.cell hbk).trans h
theorem is_below {w w' : World} (hb : Below w.heap.size w w') : ∀ v x, Is w v x → Is w' v x := by
  intro v
  induction v using pv_ind with
  | h k n s l ih =>
    intro x h
    unfold Is at h ⊢
    obtain ⟨h1, h2, h3, a, cap, rfl, h4, h5, h6⟩ := h
    refine ⟨h1, h2, h3, a, cap, rfl, h4, h5, ?_⟩
    rcases h6 with h6 | ⟨b, off, rfl, h6⟩
    · exact .inl h6
    · refine .inr ⟨b, off, rfl, isL_of fun i y hy => ?_⟩
      obtain ⟨c0, c1, c2, c3, ⟨g0, g1, g2, g3⟩, hi⟩ := isL_at h6 i y hy
      exact ⟨c0, c1, c2, c3, ⟨cell_below hb g0, cell_below hb g1, cell_below hb g2, cell_below hb g3⟩, ih y (List.mem_of_getElem? hy) _ hi⟩
theorem isL_below {w w' : World} (hb : Below w.heap.size w w') {b : Nat} {l : List PV} {off : Nat} (h : IsL w b l off) : IsL w' b l off :=
  isL_of fun i y hy => by
    obtain ⟨c0, c1, c2, c3, ⟨g0, g1, g2, g3⟩, hi⟩ := isL_at h i y hy
    exact ⟨c0, c1, c2, c3, ⟨cell_below hb g0, cell_below hb g1, cell_below hb g2, cell_below hb g3⟩, is_below hb _ _ hi⟩
mutual
/-- how many nodes -/
def szV : PV → Nat
  | .mk _ _ _ l => szL l + 1
def szL : List PV → Nat
  | [] => 0
  | x :: r => szV x + szL r
end
mutual
/-- how deep, as the program says it -/
def deepV : PV → Nat
  | .mk k _ _ l => deepL l + (if k = 5 then 1 else 0)
def deepL : List PV → Nat
  | [] => 0
  | x :: r => max (deepV x) (deepL r)
end
theorem deep_le : ∀ v, deepV v ≤ szV v := by
  intro v
  induction v using pv_ind with
  | h k n s l ih =>
    have : deepL l ≤ szL l := by
      clear k n s
      induction l with
      | nil => simp [deepL, szL]
      | cons x r ih2 =>
        have h1 := ih x (by simp)
        have h2 := ih2 fun y hy => ih y (by simp [hy])
        simp only [deepL, szL]
        omega
    simp only [deepV, szV]
    split <;> omega
theorem szL_append (l r : List PV) : szL (l ++ r) = szL l + szL r := by
  induction l with
  | nil => simp [szL]
  | cons x l ih => simp only [List.cons_append, szL, ih]; omega
theorem szL_mem {l : List PV} {x : PV} (h : x ∈ l) : szV x ≤ szL l := by
  induction l with
  | nil => simp at h
  | cons y r ih =>
    simp only [szL]
    rcases List.mem_cons.1 h with rfl | h
    · omega
    · have := ih h; omega
end Go.Proofs.Ytibjjclfonpibaa

/- Values that came in: opened. -/
set_option maxRecDepth 100000
namespace Go.Proofs.Ytibjjclfonpibaa
open Go.RowKit Go.ChangeShapes Go.WideShapes
theorem cellsOf_val : Try.prog.cellsOf 39 = 4 := by kernel_rfl
theorem cells_four {W : World} {a : Addr} {cs : List Value} (h : W.cells? 0 a 4 = some cs) : ∃ c0 c1 c2 c3, cs = [c0, c1, c2, c3] ∧ W.cell? (a.add 0) = some c0 ∧ W.cell? (a.add 1) = some c1 ∧ W.cell? (a.add 2) = some c2 ∧ W.cell? (a.add 3) = some c3 := by
  obtain ⟨_, hlen, hc⟩ := World.cells?_some h
  match cs, hlen with
  | [c0, c1, c2, c3], _ => exact ⟨c0, c1, c2, c3, rfl, hc 0 (by omega), hc 1 (by omega), hc 2 (by omega), hc 3 (by omega)⟩
instance : Inhabited PV := ⟨.mk 0 0 ⟨#[]⟩ []⟩
/-- whatever reads as a value is one -/
theorem open_value {H : Type} {enc : TypeId × Value → H} {W : World} {spare : Nat → Bool} {held : Bool} (fuel : Nat) : ∀ (cs : List Value) (x : DataW H × List MemPlace), DataW.trod enc Try.prog W 0 spare held fuel 39 cs = some x →
    ∃ c0 c1 c2 c3, cs = [c0, c1, c2, c3] ∧ ∃ t : PV, Is W t (.agg #[c0, c1, c2, c3]) := by
  induction fuel using Nat.strongRecOn with
  | _ fuel ih =>
    intro cs x h
    obtain ⟨xs, n, hfu, _, hlen, hxl, hf⟩ := DataW.trod_struct Try.underlying39 h
    rw [cellsOf_val] at hlen
    match cs, hlen with
    | [c0, c1, c2, c3], _ =>
    have h0 := hf 0 _ rfl
    have h1 := hf 1 _ rfl
    have h2 := hf 2 _ rfl
    have h3 := hf 3 _ rfl
    have hxl' : xs.length = 4 := hxl
    match xs, hxl' with
    | [x0, x1, x2, x3], _ =>
    replace h0 : DataW.trod enc Try.prog W 0 spare held n 3 [c0] = some x0 := h0
    replace h1 : DataW.trod enc Try.prog W 0 spare held n 2 [c1] = some x1 := h1
    replace h2 : DataW.trod enc Try.prog W 0 spare held n 9 [c2] = some x2 := h2
    replace h3 : DataW.trod enc Try.prog W 0 spare held n 26 [c3] = some x3 := h3
    obtain ⟨k, e0, _, wk⟩ := DataW.trod_int Try.underlying3 h0
    obtain ⟨m, e1, _, wm⟩ := DataW.trod_int Try.underlying2 h1
    obtain ⟨s, e2, _, ws⟩ := DataW.trod_string Try.underlying9 h2
    simp only [List.cons.injEq, and_true] at e0 e1 e2
    subst e0 e1 e2
    refine ⟨_, _, _, _, rfl, ?_⟩
    rcases DataW.trod_slice Try.underlying26 h3 with ⟨e3, _⟩ | ⟨a, len, cap, elems, rest, n', hn', e3, _, _, hl, hm, hlen, hel, _, _⟩
    · simp only [List.cons.injEq, and_true] at e3
      subst e3
      refine ⟨.mk k m s [], ?_⟩
      unfold Is
      exact ⟨wf_i64 wk, wf_i64 wm, ws, none, 0, rfl, Nat.le_refl _, by unfold maxLen; omega, .inl rfl⟩
    · simp only [List.cons.injEq, and_true] at e3
      subst e3
      have each : ∀ i, i < len → ∃ t : PV, ∃ c0 c1 c2 c3, (W.cell? ((a.add (i * 4)).add 0) = some c0 ∧ W.cell? ((a.add (i * 4)).add 1) = some c1 ∧ W.cell? ((a.add (i * 4)).add 2) = some c2 ∧ W.cell? ((a.add (i * 4)).add 3) = some c3) ∧ Is W t (.agg #[c0, c1, c2, c3]) := fun i hi => by
        have he := hel i hi
        rw [cellsOf_val, List.getElem?_eq_getElem (by omega)] at he
        obtain ⟨cs', g1, g2⟩ := Option.bind_eq_some_iff.1 he
        obtain ⟨d0, d1, d2, d3, rfl, q0, q1, q2, q3⟩ := cells_four g1
        obtain ⟨_, _, _, _, e, t, ht⟩ := ih n' (by omega) _ _ g2
        simp only [List.cons.injEq, and_true] at e
        obtain ⟨rfl, rfl, rfl, rfl⟩ := e
        exact ⟨t, d0, d1, d2, d3, ⟨q0, q1, q2, q3⟩, ht⟩
      obtain ⟨f, hf⟩ := Go.Deep.choose_lt each
      refine ⟨.mk k m s ((List.range len).map f), ?_⟩
      unfold Is
      refine ⟨wf_i64 wk, wf_i64 wm, ws, some a, cap, by simp, by simpa using hl, hm, ?_⟩
      rcases Nat.eq_zero_or_pos len with hz | hz
      · subst hz; exact .inl rfl
      · obtain ⟨b, off, spot⟩ := a
        have hspot : spot = none := by
          obtain ⟨c0, _, _, _, ⟨q0, _⟩, _⟩ := hf 0 hz
          simpa [Addr.add] using World.cell?_spot q0
        subst hspot
        refine .inr ⟨b, off, rfl, isL_of fun i y hy => ?_⟩
        have hi : i < len := by
          have := (List.getElem?_eq_some_iff.1 hy).1
          simpa using this
        obtain ⟨c0, c1, c2, c3, ⟨q0, q1, q2, q3⟩, ht⟩ := hf i hi
        have hyf : f i = y := by
          rw [List.getElem?_map, List.getElem?_range hi] at hy
          simpa using hy
        subst hyf
        simp only [Addr.add_lit, Nat.add_zero] at q0 q1 q2 q3
        exact ⟨c0, c1, c2, c3, ⟨q0, q1, q2, q3⟩, ht⟩
end Go.Proofs.Ytibjjclfonpibaa
