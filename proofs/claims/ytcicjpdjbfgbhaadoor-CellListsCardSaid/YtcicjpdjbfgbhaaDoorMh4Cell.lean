/- Values: the pure ones, and how they lie in memory. -/
import Derived.Test.YtcicjpdjbfgbhaaDoorMh0Cell
namespace Go.Proofs.YtcicjpdjbfgbhaaDoor
open Go.RowKit Go.Shelf
/-- a value: its kind, its number, its text, what is in it -/
inductive PV where
  | mk (k n : Int) (s : ByteArray) (l : List PV)
theorem pv_ind {p : PV → Prop} (h : ∀ k n s l, (∀ x ∈ l, p x) → p (.mk k n s l)) : ∀ v, p v := by
  intro v
  refine PV.rec (motive_1 := p) (motive_2 := fun l => ∀ x ∈ l, p x) (fun k n s l ih => h k n s l ih) (by simp) (fun x r hx hr y hy => ?_) v
  rcases List.mem_cons.1 hy with rfl | hy
  · exact hx
  · exact hr y hy
/-- an int of 64 bits -/
def I64 (n : Int) : Prop := -9223372036854775808 ≤ n ∧ n ≤ 9223372036854775807
mutual
/-- a value in memory -/
def Is (w : World) : PV → Value → Prop
  | .mk k n s l, v => I64 k ∧ I64 n ∧ s.size ≤ maxLen ∧ ∃ a cap, v = .agg #[.int .i64 k, .int .i64 n, .string s, .slice a l.length cap] ∧ l.length ≤ cap ∧ cap ≤ maxLen ∧
      (l = [] ∨ ∃ b off, a = some ⟨b, off, none⟩ ∧ IsL w b l off)
/-- values that lie one behind the other -/
def IsL (w : World) (b : Nat) : List PV → Nat → Prop
  | [], _ => True
  | x :: r, off => (∃ c0 c1 c2 c3, (w.cell? ⟨b, off, none⟩ = some c0 ∧ w.cell? ⟨b, off + 1, none⟩ = some c1 ∧ w.cell? ⟨b, off + 2, none⟩ = some c2 ∧ w.cell? ⟨b, off + 3, none⟩ = some c3) ∧ Is w x (.agg #[c0, c1, c2, c3])) ∧ IsL w b r (off + 4)
end
theorem isL_at {w : World} {b : Nat} : ∀ {l : List PV} {off : Nat}, IsL w b l off → ∀ i x, l[i]? = some x → ∃ c0 c1 c2 c3, (w.cell? ⟨b, off + i * 4, none⟩ = some c0 ∧ w.cell? ⟨b, off + i * 4 + 1, none⟩ = some c1 ∧ w.cell? ⟨b, off + i * 4 + 2, none⟩ = some c2 ∧ w.cell? ⟨b, off + i * 4 + 3, none⟩ = some c3) ∧ Is w x (.agg #[c0, c1, c2, c3]) := by
  intro l
  induction l with
  | nil => intro off _ i x h; simp at h
  | cons y r ih =>
    intro off h i x hx
    unfold IsL at h
    cases i with
    | zero => simp at hx; subst hx; simpa using h.1
    | succ i =>
      have := ih h.2 i x (by simpa using hx)
      simpa [Nat.succ_mul, Nat.add_assoc, Nat.add_comm, Nat.add_left_comm] using this
theorem isL_of {w : World} {b : Nat} : ∀ {l : List PV} {off : Nat}, (∀ i x, l[i]? = some x → ∃ c0 c1 c2 c3, (w.cell? ⟨b, off + i * 4, none⟩ = some c0 ∧ w.cell? ⟨b, off + i * 4 + 1, none⟩ = some c1 ∧ w.cell? ⟨b, off + i * 4 + 2, none⟩ = some c2 ∧ w.cell? ⟨b, off + i * 4 + 3, none⟩ = some c3) ∧ Is w x (.agg #[c0, c1, c2, c3])) → IsL w b l off := by
  intro l
  induction l with
  | nil => intro off _; unfold IsL; trivial
  | cons y r ih =>
    intro off h
    unfold IsL
    refine ⟨by simpa using h 0 y rfl, ih fun i x hx => ?_⟩
    have := h (i + 1) x (by simpa using hx)
    simpa [Nat.succ_mul, Nat.add_assoc, Nat.add_comm, Nat.add_left_comm] using this
/-- the value at a place, its cells as they are -/
theorem isL_val {w : World} {b off : Nat} {l : List PV} (h : IsL w b l off) (i : Nat) (k n : Int) (s : ByteArray) (r : List PV) (hx : l[i]? = some (.mk k n s r)) : ∃ a cap,
    (w.cell? ⟨b, off + i * 4, none⟩ = some (.int .i64 k) ∧ w.cell? ⟨b, off + i * 4 + 1, none⟩ = some (.int .i64 n) ∧ w.cell? ⟨b, off + i * 4 + 2, none⟩ = some (.string s) ∧ w.cell? ⟨b, off + i * 4 + 3, none⟩ = some (.slice a r.length cap)) ∧
    Is w (.mk k n s r) (.agg #[.int .i64 k, .int .i64 n, .string s, .slice a r.length cap]) := by
  obtain ⟨c0, c1, c2, c3, ⟨g0, g1, g2, g3⟩, hi⟩ := isL_at h i _ hx
  have h2 := hi
  unfold Is at h2
  obtain ⟨_, _, _, a, cap, e, _⟩ := h2
  simp only [Value.agg.injEq, Array.mk.injEq, List.cons.injEq, and_true] at e
  obtain ⟨rfl, rfl, rfl, rfl⟩ := e
  exact ⟨a, cap, ⟨g0, g1, g2, g3⟩, hi⟩
theorem cell_below {w w' : World} (hb : Below w.heap.size w w') {p : Addr} {v : Value} (h : w.cell? p = some v) : w'.cell? p = some v := by
  have hbk : p.block < w.heap.size := by
    simp only [World.cell?] at h
    rcases Nat.lt_or_ge p.block w.heap.size with h' | h'
    · exact h'
    · rw [Array.getElem?_eq_none h'] at h; cases h
  exact (hb.cell hbk).trans h
theorem is_below {w w' : World} (hb : Below w.heap.size w w') : ∀ v x, Is w v x → Is w' v x := by
  intro v
  induction v using pv_ind with
  | h k n s l ih =>
    intro x h
    unfold Is at h ⊢
    obtain ⟨h1, h2, h3, a, cap, rfl, h4, h5, h6⟩ := h
    refine ⟨h1, h2, h3, a, cap, rfl, h4, h5, ?_⟩
    rcases h6 with h6 | ⟨b, off, rfl, h6⟩
    · exact .inl h6
    · refine .inr ⟨b, off, rfl, isL_of fun i y hy => ?_⟩
      obtain ⟨c0, c1, c2, c3, ⟨g0, g1, g2, g3⟩, hi⟩ := isL_at h6 i y hy
      exact ⟨c0, c1, c2, c3, ⟨cell_below hb g0, cell_below hb g1, cell_below hb g2, cell_below hb g3⟩, ih y (List.mem_of_getElem? hy) _ hi⟩
theorem isL_below {w w' : World} (hb : Below w.heap.size w w') {b : Nat} {l : List PV} {off : Nat} (h : IsL w b l off) : IsL w' b l off :=
  isL_of fun i y hy => by
    obtain ⟨c0, c1, c2, c3, ⟨g0, g1, g2, g3⟩, hi⟩ := isL_at h i y hy
    exact ⟨c0, c1, c2, c3, ⟨cell_below hb g0, cell_below hb g1, cell_below hb g2, cell_below hb g3⟩, is_below hb _ _ hi⟩
mutual
/-- how many nodes -/
def szV : PV → Nat
  | .mk _ _ _ l => szL l + 1
def szL : List PV → Nat
  | [] => 0
  | x :: r => szV x + szL r
end
mutual
/-- how deep, as the program says it -/
def deepV : PV → Nat
  | .mk k _ _ l => deepL l + (if k = 5 then 1 else 0)
def deepL : List PV → Nat
  | [] => 0
  | x :: r => max (deepV x) (deepL r)
end
theorem deep_le : ∀ v, deepV v ≤ szV v := by
  intro v
  induction v using pv_ind with
  | h k n s l ih =>
    have : deepL l ≤ szL l := by
      clear k n s
      induction l with
      | nil => simp [deepL, szL]
      | cons x r ih2 =>
        have h1 := ih x (by simp)
        have h2 := ih2 fun y hy => ih y (by simp [hy])
        simp only [deepL, szL]
        omega
    simp only [deepV, szV]
    split <;> omega
theorem szV_pos (v : PV) : 0 < szV v := by cases v; simp [szV]
theorem szL_append (l r : List PV) : szL (l ++ r) = szL l + szL r := by
  induction l with
  | nil => simp [szL]
  | cons x l ih => simp only [List.cons_append, szL, ih]; omega
theorem szL_mem {l : List PV} {x : PV} (h : x ∈ l) : szV x ≤ szL l := by
  induction l with
  | nil => simp at h
  | cons y r ih =>
    simp only [szL]
    rcases List.mem_cons.1 h with rfl | h
    · omega
    · have := ih h; omega
end Go.Proofs.YtcicjpdjbfgbhaaDoor

/- How deep a value is, and how many nodes it has: both sides. -/
namespace Go.Proofs.YtcicjpdjbfgbhaaDoor
open Go.RowKit Go.Shelf
set_option maxHeartbeats 1000000 in
/-- what comes of a list's things, one behind the other -/
theorem foldInt_any (f : Nat) (hf : f = 35 ∨ f = 36) (g : Int → PV → Int) (l : List PV) (first : Int)
    (hc : ∀ i y, l[i]? = some y → ∀ w x, Is w y x → Calls Tryd.prog f #[.int .i64 ((l.take i).foldl g first), x] w fun e w' => e = .returned (.int .i64 ((l.take (i + 1)).foldl g first)) ∧ Below w.heap.size w w')
    (w : World) (a : Option Addr) (cap : Nat) (hl : l.length ≤ cap) (hcap : cap ≤ maxLen) (hL : l = [] ∨ ∃ b off, a = some ⟨b, off, none⟩ ∧ IsL w b l off) :
    Calls Tryd.prog 34 #[.slice a l.length cap, .int .i64 first, .func (.func f) #[] #[]] w fun e w' => e = .returned (.int .i64 (l.foldl g first)) ∧ Below w.heap.size w w' := by
  have hm : l.length ≤ maxLen := Nat.le_trans hl hcap
  unfold maxLen at hm
  have HC := Lib.hid hc; clear hc
  go_enter Tryd.func34, Tryd.ntmps34
  go_wp2_with fail
  go_loopw [1, 8, 11] (fun c _ i wr => ∃ k : Nat, i = .int .i64 (k : Int) ∧ c = .int .i64 ((l.take k).foldl g first) ∧ k ≤ l.length ∧ Below w.heap.size w wr) (fun _ _ i _ => l.length - (intOf i).toNat)
  case atStart => exact ⟨0, rfl, rfl, Nat.zero_le _, Below.refl _ w⟩
  case round =>
  obtain ⟨k, rfl, rfl, hk, hB⟩ := hrel
  by_cases hkl : k < l.length
  · have hd : decide (k < l.length) = true := by simp; omega
    obtain ⟨y, hy⟩ : ∃ y, l[k]? = some y := ⟨l[k], List.getElem?_eq_getElem hkl⟩
    obtain ⟨b, off, rfl, hIs⟩ : ∃ b off, a = some ⟨b, off, none⟩ ∧ IsL w b l off := by
      rcases hL with h | h
      · subst h; simp at hkl
      · exact h
    cases y with
    | mk yk yn ys yl =>
    obtain ⟨ya, yc, ⟨g0, g1, g2, g3⟩, hi⟩ := isL_val hIs k _ _ _ _ hy
    replace g0 := cell_below hB g0
    replace g1 := cell_below hB g1
    replace g2 := cell_below hB g2
    replace g3 := cell_below hB g3
    have hi2 := Lib.hid (is_below hB _ _ hi)
    have HY := Lib.hid hy
    clear hL hIs hi hy
    have hA0 := (Below.refl _ wr).alloc (Nat.le_refl _) (Obj.cells #[.int .i64 yk, .int .i64 yn, .string ys, .slice ya yl.length yc] 24)
    rcases hf with rfl | rfl
    all_goals go_wp2_with (first | ((first | go_at_call 35 | go_at_call 36); (with_reducible refine (HC.out k _ HY.out _ _ (is_below hA0 _ _ hi2.out)).mono ?_); rintro e w' ⟨rfl, hb⟩))
    all_goals go_roundw
    all_goals (first | (case' rel => exact ⟨k + 1, by go_num, rfl, by omega, hB.trans ((hA0.trans (hb.mono hA0.size)).mono hB.size)⟩) | (case' measure => simp [intOf]; omega))
  · have hd : decide (k < l.length) = false := by simp; omega
    obtain rfl : k = l.length := by omega
    go_wp2_with fail
    go_ret
    exact ⟨ret_int (by rw [List.take_length]), hB⟩
set_option maxHeartbeats 1000000 in
theorem deep1_any (y : PV) (d : Int) (w : World) (x : Value) (hi : Is w y x) (h : ∀ w x, Is w y x → Calls Tryd.prog 19 #[x] w fun e w' => e = .returned (.int .i64 (deepV y)) ∧ Below w.heap.size w w') :
    Calls Tryd.prog 35 #[.int .i64 d, x] w fun e w' => e = .returned (.int .i64 (max d (deepV y))) ∧ Below w.heap.size w w' := by
  cases y with
  | mk k n s l =>
  have hi2 := Lib.hid hi
  unfold Is at hi
  obtain ⟨h1, h2, h3, a, cap, rfl, h4, h5, h6⟩ := hi
  have h' : ∀ w W, Is w (PV.mk k n s l) (.agg #[.int .i64 k, .int .i64 n, .string s, .slice a l.length cap]) → Below w.heap.size w W →
    Calls Tryd.prog 19 #[.agg #[.int .i64 k, .int .i64 n, .string s, .slice a l.length cap]] W fun e w' => e = .returned (.int .i64 (deepV (.mk k n s l))) ∧ Below W.heap.size W w' := fun w W hi hB => h W _ (is_below hB _ _ hi)
  obtain ⟨D, hD⟩ : ∃ D, deepV (.mk k n s l) = D := ⟨_, rfl⟩
  rw [hD] at h' ⊢
  clear h6 hD h
  have hB0 := (Below.refl _ w).alloc (Nat.le_refl _) (Obj.cells #[.int .i64 k, .int .i64 n, .string s, .slice a l.length cap] 24)
  rcases Int.le_total d (D : Int) with hd | hd
  · go_enter Tryd.func35, Tryd.ntmps35
    go_wp2_with (first | (go_at_call 19; (with_reducible refine (h' _ _ hi2.out hB0).mono ?_); rintro e w' ⟨rfl, hb⟩))
    all_goals (first | (exfalso; omega) | (go_ret; exact ⟨ret_int (by omega), hB0.trans (hb.mono hB0.size)⟩))
  · go_enter Tryd.func35, Tryd.ntmps35
    go_wp2_with (first | (go_at_call 19; (with_reducible refine (h' _ _ hi2.out hB0).mono ?_); rintro e w' ⟨rfl, hb⟩))
    all_goals (first | (exfalso; omega) | (go_ret; exact ⟨ret_int (by omega), hB0.trans (hb.mono hB0.size)⟩))
set_option maxHeartbeats 1000000 in
theorem nodes1_any (y : PV) (d : Nat) (w : World) (x : Value) (hi : Is w y x) (hd : d + szV y ≤ 1000000) (h : ∀ w x, Is w y x → Calls Tryd.prog 20 #[x] w fun e w' => e = .returned (.int .i64 (szV y)) ∧ Below w.heap.size w w') :
    Calls Tryd.prog 36 #[.int .i64 d, x] w fun e w' => e = .returned (.int .i64 ((d : Int) + szV y)) ∧ Below w.heap.size w w' := by
  cases y with
  | mk k n s l =>
  have hi2 := Lib.hid hi
  unfold Is at hi
  obtain ⟨h1, h2, h3, a, cap, rfl, h4, h5, h6⟩ := hi
  have h' : ∀ w W, Is w (PV.mk k n s l) (.agg #[.int .i64 k, .int .i64 n, .string s, .slice a l.length cap]) → Below w.heap.size w W →
    Calls Tryd.prog 20 #[.agg #[.int .i64 k, .int .i64 n, .string s, .slice a l.length cap]] W fun e w' => e = .returned (.int .i64 (szV (.mk k n s l))) ∧ Below W.heap.size W w' := fun w W hi hB => h W _ (is_below hB _ _ hi)
  obtain ⟨D, hD⟩ : ∃ D, szV (.mk k n s l) = D := ⟨_, rfl⟩
  rw [hD] at h' hd ⊢
  clear h6 hD h
  have hB0 := (Below.refl _ w).alloc (Nat.le_refl _) (Obj.cells #[.int .i64 k, .int .i64 n, .string s, .slice a l.length cap] 24)
  go_enter Tryd.func36, Tryd.ntmps36
  go_wp2_with (first | (go_at_call 20; (with_reducible refine (h' _ _ hi2.out hB0).mono ?_); rintro e w' ⟨rfl, hb⟩))
  go_ret
  exact ⟨ret_int (by go_num), hB0.trans (hb.mono hB0.size)⟩
theorem foldl_deep (l : List PV) (d : Nat) : l.foldl (fun (d : Int) y => max d (deepV y)) (d : Int) = ((max d (deepL l) : Nat) : Int) := by
  induction l generalizing d with
  | nil => simp [deepL]
  | cons y l ih =>
    simp only [List.foldl_cons, deepL]
    rw [show max (d : Int) (deepV y : Int) = ((max d (deepV y) : Nat) : Int) by omega, ih]
    congr 1; omega
theorem foldl_sz (l : List PV) (d : Nat) : l.foldl (fun (d : Int) y => d + szV y) (d : Int) = ((d + szL l : Nat) : Int) := by
  induction l generalizing d with
  | nil => simp [szL]
  | cons y l ih =>
    simp only [List.foldl_cons, szL]
    rw [show (d : Int) + (szV y : Int) = ((d + szV y : Nat) : Int) by omega, ih]
    congr 1; omega
theorem take_step (l : List PV) (i : Nat) (y : PV) (h : l[i]? = some y) : l.take (i + 1) = l.take i ++ [y] := by
  rw [List.take_add_one, h]; rfl
theorem foldl_take {α : Type} (g : α → PV → α) (z : α) (l : List PV) (i : Nat) (y : PV) (h : l[i]? = some y) : (l.take (i + 1)).foldl g z = g ((l.take i).foldl g z) y := by
  rw [take_step l i y h, List.foldl_append]; rfl
theorem szL_take (l : List PV) (i : Nat) (y : PV) (h : l[i]? = some y) : szL (l.take i) + szV y ≤ szL l := by
  have h1 : szL (l.take (i + 1) ++ l.drop (i + 1)) = szL l := by rw [List.take_append_drop]
  rw [take_step l i y h, szL_append, szL_append] at h1
  simp only [szL] at h1
  omega
/-- a struct that was laid into a new cell -/
abbrev vobj (k n : Int) (s : ByteArray) (a : Option Addr) (len cap : Nat) : Obj := Obj.cells #[.int .i64 k, .int .i64 n, .string s, .slice a len cap] 24
set_option maxHeartbeats 1000000 in
theorem deep_any (v : PV) : szV v ≤ 1000000 → ∀ w x, Is w v x → Calls Tryd.prog 19 #[x] w fun e w' => e = .returned (.int .i64 (deepV v)) ∧ Below w.heap.size w w' := by
  induction v using pv_ind with
  | h k n s l ih =>
    intro hsz w x hi
    have hdl := deep_le (.mk k n s l)
    simp only [szV, deepV] at hsz hdl
    unfold Is at hi
    obtain ⟨h1, h2, h3, a, cap, rfl, h4, h5, h6⟩ := hi
    have hB0 := (Below.refl _ w).alloc (Nat.le_refl _) (vobj k n s a l.length cap)
    have hfold := fun W h6 => foldInt_any 35 (.inl rfl) (fun d y => max d (deepV y)) l 0 (fun i y hy w x hx => by
      rw [foldl_take _ _ _ _ _ hy]
      exact deep1_any y _ w x hx fun w x hx => ih y (List.mem_of_getElem? hy) (by have := szL_mem (List.mem_of_getElem? hy); omega) w x hx) W a cap h4 h5 h6
    rw [show l.foldl (fun (d : Int) y => max d (deepV y)) (0 : Int) = ((deepL l : Nat) : Int) by simpa using foldl_deep l 0] at hfold
    have H6 := Lib.hid (show l = [] ∨ ∃ b off, a = some ⟨b, off, none⟩ ∧ IsL (w.alloc (vobj k n s a l.length cap)) b l off by
      rcases h6 with h6 | ⟨b, off, rfl, h6⟩
      · exact .inl h6
      · exact .inr ⟨b, off, rfl, isL_below hB0 h6⟩)
    clear h6 ih
    obtain ⟨D, hD⟩ : ∃ D, deepL l = D := ⟨_, rfl⟩
    have hv : deepV (.mk k n s l) = D + (if k = 5 then 1 else 0) := by simp only [deepV, hD]
    rw [hD] at hfold hdl
    rw [hv]
    clear hv hD
    by_cases hk : k = 5
    · subst hk
      simp only [if_true] at hdl ⊢
      go_enter Tryd.func19, Tryd.ntmps19
      go_wp2_with (first | (go_at_call 34; (with_reducible refine (hfold _ H6.out).mono ?_); rintro e w' ⟨rfl, hb⟩; have hc0 := cell_below hb (p := ⟨w.heap.size, 0, none⟩) (v := .int .i64 5) (by simp)))
      all_goals go_ret
      all_goals exact ⟨ret_int (by go_num), hB0.trans (hb.mono hB0.size)⟩
    · have hk' : (k == 5) = false := by simpa using hk
      rw [if_neg hk] at hdl ⊢
      go_enter Tryd.func19, Tryd.ntmps19
      go_wp2_with (first | (go_at_call 34; (with_reducible refine (hfold _ H6.out).mono ?_); rintro e w' ⟨rfl, hb⟩; have hc0 := cell_below hb (p := ⟨w.heap.size, 0, none⟩) (v := .int .i64 k) (by simp)))
      all_goals go_ret
      all_goals exact ⟨ret_int (by omega), hB0.trans (hb.mono hB0.size)⟩
set_option maxHeartbeats 1000000 in
theorem nodes_any (v : PV) : szV v ≤ 1000000 → ∀ w x, Is w v x → Calls Tryd.prog 20 #[x] w fun e w' => e = .returned (.int .i64 (szV v)) ∧ Below w.heap.size w w' := by
  induction v using pv_ind with
  | h k n s l ih =>
    intro hsz w x hi
    simp only [szV] at hsz
    unfold Is at hi
    obtain ⟨h1, h2, h3, a, cap, rfl, h4, h5, h6⟩ := hi
    have hB0 := (Below.refl _ w).alloc (Nat.le_refl _) (vobj k n s a l.length cap)
    have hfold := fun W h6 => foldInt_any 36 (.inr rfl) (fun d y => d + szV y) l 1 (fun i y hy w x hx => by
      have h7 := szL_take l i y hy
      rw [foldl_take _ _ _ _ _ hy, show (l.take i).foldl (fun (d : Int) y => d + szV y) 1 = ((1 + szL (l.take i) : Nat) : Int) from foldl_sz (l.take i) 1]
      exact nodes1_any y _ w x hx (by omega) fun w x hx => ih y (List.mem_of_getElem? hy) (by omega) w x hx) W a cap h4 h5 h6
    rw [show l.foldl (fun (d : Int) y => d + szV y) (1 : Int) = ((1 + szL l : Nat) : Int) from foldl_sz l 1] at hfold
    have H6 := Lib.hid (show l = [] ∨ ∃ b off, a = some ⟨b, off, none⟩ ∧ IsL (w.alloc (vobj k n s a l.length cap)) b l off by
      rcases h6 with h6 | ⟨b, off, rfl, h6⟩
      · exact .inl h6
      · exact .inr ⟨b, off, rfl, isL_below hB0 h6⟩)
    clear h6 ih
    simp only [szV]
    obtain ⟨D, hD⟩ : ∃ D, szL l = D := ⟨_, rfl⟩
    rw [hD] at hfold ⊢
    clear hD
    go_enter Tryd.func20, Tryd.ntmps20
    go_wp2_with (first | (go_at_call 34; (with_reducible refine (hfold _ H6.out).mono ?_); rintro e w' ⟨rfl, hb⟩))
    all_goals go_ret
    all_goals exact ⟨ret_int (by omega), hB0.trans (hb.mono hB0.size)⟩
end Go.Proofs.YtcicjpdjbfgbhaaDoor
