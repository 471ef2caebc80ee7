/- The walk of RecordApart: a record is new memory. -/
import Derived.Test.YtibjjclfonpibaaGreatMh50Reco
import Derived.Test.YtibjjclfonpibaaGreatMh51Reco
import Derived.Test.YtibjjclfonpibaaGreatMh10Reco
import Derived.Test.YtibjjclfonpibaaGreatMh0Reco
import Derived.SizedLaws
set_option linter.unusedVariables false
set_option linter.unusedSimpArgs false
set_option maxRecDepth 100000
namespace Go.Proofs.YtibjjclfonpibaaGreat
open Go.RowKit Go.Shelf
/-- texts that a machine can hold, wherever in a value -/
def txtV : PV → Prop
  | .mk _ _ s l => s.size ≤ 140737488355328 ∧ txtL l
where txtL : List PV → Prop
  | [] => True
  | x :: r => txtV x ∧ txtL r
theorem txt_small : ∀ v : PV, txtV v → szV v ≤ 1000 → small v := by
  refine pv_ind fun k n s l ih h hz => ?_
  unfold txtV at h
  simp only [szV] at hz
  unfold small
  have hl : ∀ r : List PV, szL r ≤ 1000 → r.length ≤ szL r := by
    intro r
    induction r with
    | nil => intro _; simp [szL]
    | cons x r ihr => intro h; simp only [szL] at h ⊢; have := ihr (by omega); have := szV_pos x; simp; omega
  refine ⟨h.1, by have := hl l (by omega); omega, ?_⟩
  have h2 := h.2
  have hz2 : szL l ≤ 1000 := by omega
  clear h hz
  induction l with
  | nil => trivial
  | cons x r ihr =>
    unfold txtV.txtL at h2
    simp only [szL] at hz2
    unfold small.smallL
    exact ⟨ih x (List.mem_cons_self ..) h2.1 (by omega), ihr (fun y hy => ih y (List.mem_cons_of_mem _ hy)) h2.2 (by omega)⟩
theorem make_ok {t : TemplM} {v : Int} {row : List PV} (h : (Rc.make t v row).2 = 0) : ∃ x, Rc.verOf t v = some x ∧ row.length = x.cols.length ∧ Rc.fitL x.slots (Rc.made x row) = true ∧ Rc.make t v row = (⟨v, Rc.made x row⟩, 0) := by
  unfold Rc.make at h ⊢
  cases hv : Rc.verOf t v with
  | none =>
    rw [hv] at h
    simp only at h
    split at h <;> cases h
  | some x =>
    rw [hv] at h
    simp only at h ⊢
    by_cases hl : row.length = x.cols.length
    · rw [if_neg (by simpa using hl)] at h ⊢
      split at h
      · rename_i hf
        exact ⟨x, rfl, hl, hf, by rw [if_pos hf]⟩
      · cases h
    · rw [if_pos hl] at h
      cases h
namespace recordApartWalk
end recordApartWalk
end Go.Proofs.YtibjjclfonpibaaGreat

/- Rows of values that came in: opened; the machine's own reach pays their texts' bounds. -/
set_option linter.unusedVariables false
set_option linter.unusedSimpArgs false
set_option maxRecDepth 100000
namespace Go.Proofs.YtibjjclfonpibaaGreat
open Go.RowKit Go.Shelf Go.ChangeShapes Go.WideShapes Go.Deep
theorem weights_all9 {H : Type} {P : Program} {e : TypeId} : ∀ {l : List (DataW H)} {d : DataW H}, d ∈ l → ∀ n ∈ d.weights P e, n ∈ DataW.weightsAll P e l
  | d0 :: l, d, h, n, hn => by
    simp only [DataW.weightsAll, List.mem_append]
    rcases List.mem_cons.1 h with rfl | h
    · exact .inl hn
    · exact .inr (weights_all9 h n hn)
theorem txt_list {l : List PV} (h : ∀ x ∈ l, txtV x) : txtV.txtL l := by
  induction l with
  | nil => trivial
  | cons x r ih =>
    unfold txtV.txtL
    exact ⟨h x (List.mem_cons_self ..), ih fun y hy => h y (List.mem_cons_of_mem _ hy)⟩
theorem open_value9 {H : Type} {enc : TypeId × Value → H} {W : World} {spare : Nat → Bool} {held : Bool} (fuel : Nat) : ∀ (cs : List Value) (x : DataW H × List MemPlace), DataW.trod enc Tryz.prog W 0 spare held fuel 42 cs = some x → (∀ n ∈ x.1.weights Tryz.prog 42, n ≤ reachBytes) →
    ∃ c0 c1 c2 c3, cs = [c0, c1, c2, c3] ∧ ∃ t : PV, Is W t (.agg #[c0, c1, c2, c3]) ∧ txtV t := by
  have hrb : reachBytes = 140737488351232 := rfl
  induction fuel using Nat.strongRecOn with
  | _ fuel ih =>
    intro cs x h hw
    obtain ⟨xs, n, hfu, hxe, hlen, hxl, hf⟩ := DataW.trod_struct Tryz.underlying42 h
    rw [cellsOf_val] at hlen
    match cs, hlen with
    | [c0, c1, c2, c3], _ =>
    have h0 := hf 0 _ rfl
    have h1 := hf 1 _ rfl
    have h2 := hf 2 _ rfl
    have h3 := hf 3 _ rfl
    have hxl' : xs.length = 4 := hxl
    match xs, hxl' with
    | [x0, x1, x2, x3], _ =>
    replace h0 : DataW.trod enc Tryz.prog W 0 spare held n 3 [c0] = some x0 := h0
    replace h1 : DataW.trod enc Tryz.prog W 0 spare held n 2 [c1] = some x1 := h1
    replace h2 : DataW.trod enc Tryz.prog W 0 spare held n 9 [c2] = some x2 := h2
    replace h3 : DataW.trod enc Tryz.prog W 0 spare held n 26 [c3] = some x3 := h3
    have hagg : ∀ (j : Nat) (t : TypeId) (d : DataW H) (n : Nat), [3, 2, 9, 26][j]? = some t → [x0.1, x1.1, x2.1, x3.1][j]? = some d → n ∈ d.weights Tryz.prog t → n ≤ reachBytes := fun j t d n ht hd hn => hw n (by
      rw [hxe]
      simp only [DataW.weights, Tryz.underlying42]
      exact DataW.weights_mem_each (j := j) ht hd n hn)
    obtain ⟨k, e0, _, wk⟩ := DataW.trod_int Tryz.underlying3 h0
    obtain ⟨m, e1, _, wm⟩ := DataW.trod_int Tryz.underlying2 h1
    obtain ⟨s, e2, hx2, ws⟩ := DataW.trod_string Tryz.underlying9 h2
    simp only [List.cons.injEq, and_true] at e0 e1 e2
    subst e0 e1 e2
    have hss : s.size ≤ 140737488355328 := by
      have h9 := hagg 2 _ _ s.data.toList.length rfl rfl (by rw [hx2]; simp [DataW.weights])
      simp at h9
      omega
    refine ⟨_, _, _, _, rfl, ?_⟩
    rcases DataW.trod_slice Tryz.underlying26 h3 with ⟨e3, _⟩ | ⟨a, len, cap, elems, rest, n', hn', e3, hx3, _, hl, hm, hlen, hel, _, _⟩
    · simp only [List.cons.injEq, and_true] at e3
      subst e3
      refine ⟨.mk k m s [], ?_, hss, trivial⟩
      unfold Is
      exact ⟨wf_i64 wk, wf_i64 wm, ws, none, 0, rfl, Nat.le_refl _, by unfold maxLen; omega, .inl rfl⟩
    · simp only [List.cons.injEq, and_true] at e3
      subst e3
      have each : ∀ i, i < len → ∃ t : PV, ∃ c0 c1 c2 c3, (W.cell? ((a.add (i * 4)).add 0) = some c0 ∧ W.cell? ((a.add (i * 4)).add 1) = some c1 ∧ W.cell? ((a.add (i * 4)).add 2) = some c2 ∧ W.cell? ((a.add (i * 4)).add 3) = some c3) ∧ Is W t (.agg #[c0, c1, c2, c3]) ∧ txtV t := fun i hi => by
        have he := hel i hi
        rw [cellsOf_val, List.getElem?_eq_getElem (by omega)] at he
        obtain ⟨cs', g1, g2⟩ := Option.bind_eq_some_iff.1 he
        obtain ⟨d0, d1, d2, d3, rfl, q0, q1, q2, q3⟩ := cells_four g1
        obtain ⟨_, _, _, _, e, t, ht, htx⟩ := ih n' (by omega) _ _ g2 (fun z hz => hagg 3 _ _ z rfl rfl (by
          rw [hx3]
          simp only [DataW.weights, Tryz.underlying26]
          exact List.mem_cons_of_mem _ (List.mem_append_left _ (weights_all9 (List.mem_map.2 ⟨_, List.getElem_mem _, rfl⟩) z hz))))
        simp only [List.cons.injEq, and_true] at e
        obtain ⟨rfl, rfl, rfl, rfl⟩ := e
        exact ⟨t, d0, d1, d2, d3, ⟨q0, q1, q2, q3⟩, ht, htx⟩
      obtain ⟨f, hf⟩ := Go.Deep.choose_lt each
      refine ⟨.mk k m s ((List.range len).map f), ?_, hss, txt_list fun y hy => ?_⟩
      · unfold Is
        refine ⟨wf_i64 wk, wf_i64 wm, ws, some a, cap, by simp, by simpa using hl, hm, ?_⟩
        rcases Nat.eq_zero_or_pos len with hz | hz
        · subst hz; exact .inl rfl
        · obtain ⟨b, off, rfl⟩ : ∃ b off, a = ⟨b, off, none⟩ := by
            obtain ⟨c0, _, _, _, ⟨hc, _⟩, _⟩ := hf 0 hz
            obtain ⟨b, off, spot⟩ := a
            have hspot : spot = none := by simpa [Addr.add] using World.cell?_spot hc
            subst hspot
            exact ⟨b, off, rfl⟩
          refine .inr ⟨b, off, rfl, isL_of fun i y hy => ?_⟩
          have hi : i < len := by
            have := (List.getElem?_eq_some_iff.1 hy).1
            simpa using this
          rw [List.getElem?_map, List.getElem?_range hi] at hy
          simp only [Option.map_some, Option.some.injEq] at hy
          subst hy
          obtain ⟨c0, c1, c2, c3, ⟨q0, q1, q2, q3⟩, hI, _⟩ := hf i hi
          simp only [Addr.add_lit] at q0 q1 q2 q3
          exact ⟨c0, c1, c2, c3, ⟨q0, q1, q2, q3⟩, hI⟩
      · obtain ⟨i, hi, rfl⟩ := List.mem_map.1 hy
        obtain ⟨_, _, _, _, _, _, htx⟩ := hf i (List.mem_range.1 hi)
        exact htx
/-- a row of values -/
theorem open_vals {H : Type} {enc : TypeId × Value → H} {W : World} {fuel : Nat} {a0 : Option Addr} {len0 cap0 : Nat} {x : DataW H × List MemPlace} (h3 : DataW.trod enc Tryz.prog W 0 (fun _ => true) true fuel 26 (Value.slice a0 len0 cap0).cells.toList = some x)
    (hw : ∀ n ∈ x.1.weights Tryz.prog 26, n ≤ reachBytes) : ∃ l : List PV, l.length = len0 ∧ PRow W a0 cap0 l ∧ ∀ y ∈ l, txtV y := by
  rcases DataW.trod_slice Tryz.underlying26 h3 with ⟨e3, _⟩ | ⟨a, len, cap, elems, rest, n', hn', e3, hx3, _, hl, hm, hlen, hel, _, _⟩
  · simp [Value.cells] at e3
    obtain ⟨rfl, rfl, rfl⟩ := e3
    exact ⟨[], rfl, ⟨Nat.le_refl _, by unfold maxLen; omega, .inl rfl⟩, by simp⟩
  · simp [Value.cells] at e3
    obtain ⟨rfl, rfl, rfl⟩ := e3
    have each : ∀ i, i < len0 → ∃ t : PV, ∃ c0 c1 c2 c3, (W.cell? ((a.add (i * 4)).add 0) = some c0 ∧ W.cell? ((a.add (i * 4)).add 1) = some c1 ∧ W.cell? ((a.add (i * 4)).add 2) = some c2 ∧ W.cell? ((a.add (i * 4)).add 3) = some c3) ∧ Is W t (.agg #[c0, c1, c2, c3]) ∧ txtV t := fun i hi => by
      have he := hel i hi
      rw [cellsOf_val, List.getElem?_eq_getElem (by omega)] at he
      obtain ⟨cs', g1, g2⟩ := Option.bind_eq_some_iff.1 he
      obtain ⟨d0, d1, d2, d3, rfl, q0, q1, q2, q3⟩ := cells_four g1
      obtain ⟨_, _, _, _, e, t, ht, htx⟩ := open_value9 n' _ _ g2 (fun z hz => hw z (by
        rw [hx3]
        simp only [DataW.weights, Tryz.underlying26]
        exact List.mem_cons_of_mem _ (List.mem_append_left _ (weights_all9 (List.mem_map.2 ⟨_, List.getElem_mem _, rfl⟩) z hz))))
      simp only [List.cons.injEq, and_true] at e
      obtain ⟨rfl, rfl, rfl, rfl⟩ := e
      exact ⟨t, d0, d1, d2, d3, ⟨q0, q1, q2, q3⟩, ht, htx⟩
    obtain ⟨f, hf⟩ := Go.Deep.choose_lt each
    refine ⟨(List.range len0).map f, by simp, ⟨by simpa using hl, hm, ?_⟩, fun y hy => ?_⟩
    · rcases Nat.eq_zero_or_pos len0 with hz | hz
      · subst hz; exact .inl rfl
      · obtain ⟨b, off, rfl⟩ : ∃ b off, a = ⟨b, off, none⟩ := by
          obtain ⟨c0, _, _, _, ⟨hc, _⟩, _⟩ := hf 0 hz
          obtain ⟨b, off, spot⟩ := a
          have hspot : spot = none := by simpa [Addr.add] using World.cell?_spot hc
          subst hspot
          exact ⟨b, off, rfl⟩
        refine .inr ⟨b, off, rfl, isL_of fun i y hy => ?_⟩
        have hi : i < len0 := by
          have := (List.getElem?_eq_some_iff.1 hy).1
          simpa using this
        rw [List.getElem?_map, List.getElem?_range hi] at hy
        simp only [Option.map_some, Option.some.injEq] at hy
        subst hy
        obtain ⟨c0, c1, c2, c3, ⟨q0, q1, q2, q3⟩, hI, _⟩ := hf i hi
        simp only [Addr.add_lit] at q0 q1 q2 q3
        exact ⟨c0, c1, c2, c3, ⟨q0, q1, q2, q3⟩, hI⟩
    · obtain ⟨i, hi, rfl⟩ := List.mem_map.1 hy
      obtain ⟨_, _, _, _, _, _, htx⟩ := hf i (List.mem_range.1 hi)
      exact htx
end Go.Proofs.YtibjjclfonpibaaGreat
