/- Things of JSON: the pure ones, and how they lie in memory. -/
import Derived.Test.YtpiajoffddjjfaaGreatDoorStr
namespace Go.Proofs.YtpiajoffddjjfaaGreatDoor
open Go.RowKit Go.Shelf
/-- a thing: its kind, its number, its text, its names, what is in it -/
inductive JV where
  | mk (k n : Int) (s : ByteArray) (ns : List ByteArray) (l : List JV)
theorem jv_ind {p : JV → Prop} (h : ∀ k n s ns l, (∀ x ∈ l, p x) → p (.mk k n s ns l)) : ∀ v, p v := by
  intro v
  refine JV.rec (motive_1 := p) (motive_2 := fun l => ∀ x ∈ l, p x) (fun k n s ns l ih => h k n s ns l ih) (by simp) (fun x r hx hr y hy => ?_) v
  rcases List.mem_cons.1 hy with rfl | hy
  · exact hx
  · exact hr y hy
/-- an int of 64 bits -/
def J64 (n : Int) : Prop := -9223372036854775808 ≤ n ∧ n ≤ 9223372036854775807
/-- texts in a row -/
def NRow (w : World) (a : Option Addr) (cap : Nat) (ns : List ByteArray) : Prop := ns.length ≤ cap ∧ cap ≤ maxLen ∧ (∀ s ∈ ns, s.size ≤ maxLen) ∧ (ns = [] ∨ ∃ b off, a = some ⟨b, off, none⟩ ∧ ∀ i t, ns[i]? = some t → w.cell? ⟨b, off + i, none⟩ = some (.string t))
mutual
/-- a thing in memory -/
def IsJ (w : World) : JV → Value → Prop
  | .mk k n s ns l, v => J64 k ∧ J64 n ∧ s.size ≤ maxLen ∧ ∃ na nc a cap, v = .agg #[.int .i64 k, .int .i64 n, .string s, .slice na ns.length nc, .slice a l.length cap] ∧ NRow w na nc ns ∧ l.length ≤ cap ∧ cap ≤ maxLen ∧
      (l = [] ∨ ∃ b off, a = some ⟨b, off, none⟩ ∧ IsJL w b l off)
/-- things that lie one behind the other -/
def IsJL (w : World) (b : Nat) : List JV → Nat → Prop
  | [], _ => True
  | x :: r, off => (∃ c0 c1 c2 c3 c4, (w.cell? ⟨b, off, none⟩ = some c0 ∧ w.cell? ⟨b, off + 1, none⟩ = some c1 ∧ w.cell? ⟨b, off + 2, none⟩ = some c2 ∧ w.cell? ⟨b, off + 3, none⟩ = some c3 ∧ w.cell? ⟨b, off + 4, none⟩ = some c4) ∧ IsJ w x (.agg #[c0, c1, c2, c3, c4])) ∧ IsJL w b r (off + 5)
end
theorem isJL_at {w : World} {b : Nat} : ∀ {l : List JV} {off : Nat}, IsJL w b l off → ∀ i x, l[i]? = some x → ∃ c0 c1 c2 c3 c4, (w.cell? ⟨b, off + i * 5, none⟩ = some c0 ∧ w.cell? ⟨b, off + i * 5 + 1, none⟩ = some c1 ∧ w.cell? ⟨b, off + i * 5 + 2, none⟩ = some c2 ∧ w.cell? ⟨b, off + i * 5 + 3, none⟩ = some c3 ∧ w.cell? ⟨b, off + i * 5 + 4, none⟩ = some c4) ∧ IsJ w x (.agg #[c0, c1, c2, c3, c4]) := by
  intro l
  induction l with
  | nil => intro off _ i x h; simp at h
  | cons y r ih =>
    intro off h i x hx
    unfold IsJL at h
    cases i with
    | zero => simp at hx; subst hx; simpa using h.1
    | succ i =>
      have := ih h.2 i x (by simpa using hx)
      simpa [Nat.succ_mul, Nat.add_assoc, Nat.add_comm, Nat.add_left_comm] using this
theorem isJL_of {w : World} {b : Nat} : ∀ {l : List JV} {off : Nat}, (∀ i x, l[i]? = some x → ∃ c0 c1 c2 c3 c4, (w.cell? ⟨b, off + i * 5, none⟩ = some c0 ∧ w.cell? ⟨b, off + i * 5 + 1, none⟩ = some c1 ∧ w.cell? ⟨b, off + i * 5 + 2, none⟩ = some c2 ∧ w.cell? ⟨b, off + i * 5 + 3, none⟩ = some c3 ∧ w.cell? ⟨b, off + i * 5 + 4, none⟩ = some c4) ∧ IsJ w x (.agg #[c0, c1, c2, c3, c4])) → IsJL w b l off := by
  intro l
  induction l with
  | nil => intro off _; unfold IsJL; trivial
  | cons y r ih =>
    intro off h
    unfold IsJL
    refine ⟨by simpa using h 0 y rfl, ih fun i x hx => ?_⟩
    have := h (i + 1) x (by simpa using hx)
    simpa [Nat.succ_mul, Nat.add_assoc, Nat.add_comm, Nat.add_left_comm] using this
/-- the thing at a place, its cells as they are -/
theorem isJL_val {w : World} {b off : Nat} {l : List JV} (h : IsJL w b l off) (i : Nat) (k n : Int) (s : ByteArray) (ns : List ByteArray) (r : List JV) (hx : l[i]? = some (.mk k n s ns r)) : ∃ na nc a cap,
    (w.cell? ⟨b, off + i * 5, none⟩ = some (.int .i64 k) ∧ w.cell? ⟨b, off + i * 5 + 1, none⟩ = some (.int .i64 n) ∧ w.cell? ⟨b, off + i * 5 + 2, none⟩ = some (.string s) ∧ w.cell? ⟨b, off + i * 5 + 3, none⟩ = some (.slice na ns.length nc) ∧ w.cell? ⟨b, off + i * 5 + 4, none⟩ = some (.slice a r.length cap)) ∧
    IsJ w (.mk k n s ns r) (.agg #[.int .i64 k, .int .i64 n, .string s, .slice na ns.length nc, .slice a r.length cap]) := by
  obtain ⟨c0, c1, c2, c3, c4, ⟨g0, g1, g2, g3, g4⟩, hi⟩ := isJL_at h i _ hx
  have h2 := hi
  unfold IsJ at h2
  obtain ⟨_, _, _, na, nc, a, cap, e, _⟩ := h2
  simp only [Value.agg.injEq, Array.mk.injEq, List.cons.injEq, and_true] at e
  obtain ⟨rfl, rfl, rfl, rfl, rfl⟩ := e
  exact ⟨na, nc, a, cap, ⟨g0, g1, g2, g3, g4⟩, hi⟩
theorem cellJ_below {w w' : World} (hb : Below w.heap.size w w') {p : Addr} {v : Value} (h : w.cell? p = some v) : w'.cell? p = some v := by
  have hbk : p.block < w.heap.size := by
    simp only [World.cell?] at h
    rcases Nat.lt_or_ge p.block w.heap.size with h' | h'
    · exact h'
    · rw [Array.getElem?_eq_none h'] at h; cases h
  exact (hb.cell hbk).trans h
theorem nrow_below {w w' : World} (hb : Below w.heap.size w w') {a : Option Addr} {cap : Nat} {ns : List ByteArray} (h : NRow w a cap ns) : NRow w' a cap ns :=
  ⟨h.1, h.2.1, h.2.2.1, h.2.2.2.imp id fun ⟨b, off, ha, hc⟩ => ⟨b, off, ha, fun i t hi => cellJ_below hb (hc i t hi)⟩⟩
theorem isJ_below {w w' : World} (hb : Below w.heap.size w w') : ∀ v x, IsJ w v x → IsJ w' v x := by
  intro v
  induction v using jv_ind with
  | h k n s ns l ih =>
    intro x h
    unfold IsJ at h ⊢
    obtain ⟨h1, h2, h3, na, nc, a, cap, rfl, hn, h4, h5, h6⟩ := h
    refine ⟨h1, h2, h3, na, nc, a, cap, rfl, nrow_below hb hn, h4, h5, ?_⟩
    rcases h6 with h6 | ⟨b, off, rfl, h6⟩
    · exact .inl h6
    · refine .inr ⟨b, off, rfl, isJL_of fun i y hy => ?_⟩
      obtain ⟨c0, c1, c2, c3, c4, ⟨g0, g1, g2, g3, g4⟩, hi⟩ := isJL_at h6 i y hy
      exact ⟨c0, c1, c2, c3, c4, ⟨cellJ_below hb g0, cellJ_below hb g1, cellJ_below hb g2, cellJ_below hb g3, cellJ_below hb g4⟩, ih y (List.mem_of_getElem? hy) _ hi⟩
theorem isJL_below {w w' : World} (hb : Below w.heap.size w w') {b : Nat} {l : List JV} {off : Nat} (h : IsJL w b l off) : IsJL w' b l off :=
  isJL_of fun i y hy => by
    obtain ⟨c0, c1, c2, c3, c4, ⟨g0, g1, g2, g3, g4⟩, hi⟩ := isJL_at h i y hy
    exact ⟨c0, c1, c2, c3, c4, ⟨cellJ_below hb g0, cellJ_below hb g1, cellJ_below hb g2, cellJ_below hb g3, cellJ_below hb g4⟩, isJ_below hb _ _ hi⟩
/-- the empty thing -/
theorem isJ_nil (w : World) : IsJ w (.mk 0 0 ⟨#[]⟩ [] []) (.agg #[.int .i64 0, .int .i64 0, .string ⟨#[]⟩, .slice none 0 0, .slice none 0 0]) := by
  unfold IsJ
  exact ⟨by unfold J64; omega, by unfold J64; omega, Nat.zero_le _, none, 0, none, 0, rfl, ⟨Nat.le_refl _, by unfold maxLen; omega, by simp, .inl rfl⟩, Nat.le_refl _, by unfold maxLen; omega, .inl rfl⟩
mutual
/-- how much: things and names -/
def szJ : JV → Nat
  | .mk _ _ _ ns l => szJL l + 1 + ns.length
def szJL : List JV → Nat
  | [] => 0
  | x :: r => szJ x + szJL r
end
theorem szJ_pos (v : JV) : 0 < szJ v := by cases v; simp [szJ]; omega
theorem szJL_append (l r : List JV) : szJL (l ++ r) = szJL l + szJL r := by
  induction l with
  | nil => simp [szJL]
  | cons x l ih => simp only [List.cons_append, szJL, ih]; omega
theorem szJL_mem {l : List JV} {x : JV} (h : x ∈ l) : szJ x ≤ szJL l := by
  induction l with
  | nil => simp at h
  | cons y r ih =>
    simp only [szJL]
    rcases List.mem_cons.1 h with rfl | h
    · omega
    · have := ih h; omega
theorem len_szJL (l : List JV) : l.length ≤ szJL l := by
  induction l with
  | nil => simp
  | cons y r ih => simp only [szJL, List.length_cons]; have := szJ_pos y; omega
theorem jtake_step (l : List JV) (i : Nat) (y : JV) (h : l[i]? = some y) : l.take (i + 1) = l.take i ++ [y] := by
  rw [List.take_add_one, h]; rfl
/-- a struct that was laid into a new cell -/
abbrev jobj (k n : Int) (s : ByteArray) (na : Option Addr) (nl nc : Nat) (a : Option Addr) (len cap : Nat) : Obj := Obj.cells #[.int .i64 k, .int .i64 n, .string s, .slice na nl nc, .slice a len cap] 25
end Go.Proofs.YtpiajoffddjjfaaGreatDoor
