/- What the laws' walks share: two boxes, texts' bytes and lengths, a copy whose number is turned. -/
import Derived.Test.YtchjipkfdnfgpabValAlive
import Derived.Test.YtchjipkfdnfgpabValMath
import Derived.Deep.RegionHeld3
namespace Go.Proofs.Ytchjipkfdnfgpab
open Go.RowKit Go.Shelf
/-- two boxes' cells, and all that was there as it was -/
theorem keep8 {b b' : Nat} {c0 c1 c2 c3 d0 d1 d2 d3 : Value} {W0 W W' : World}
    (h : (((W.cell? ⟨b, 0, none⟩ = some c0 ∧ W.cell? ⟨b, 1, none⟩ = some c1) ∧ (W.cell? ⟨b, 2, none⟩ = some c2 ∧ W.cell? ⟨b, 3, none⟩ = some c3)) ∧ ((W.cell? ⟨b', 0, none⟩ = some d0 ∧ W.cell? ⟨b', 1, none⟩ = some d1) ∧ (W.cell? ⟨b', 2, none⟩ = some d2 ∧ W.cell? ⟨b', 3, none⟩ = some d3))) ∧ Below W0.heap.size W0 W) (hb : Below W.heap.size W W') :
    (((W'.cell? ⟨b, 0, none⟩ = some c0 ∧ W'.cell? ⟨b, 1, none⟩ = some c1) ∧ (W'.cell? ⟨b, 2, none⟩ = some c2 ∧ W'.cell? ⟨b, 3, none⟩ = some c3)) ∧ ((W'.cell? ⟨b', 0, none⟩ = some d0 ∧ W'.cell? ⟨b', 1, none⟩ = some d1) ∧ (W'.cell? ⟨b', 2, none⟩ = some d2 ∧ W'.cell? ⟨b', 3, none⟩ = some d3))) ∧ Below W0.heap.size W0 W' :=
  ⟨⟨⟨⟨cell_below hb h.1.1.1.1, cell_below hb h.1.1.1.2⟩, cell_below hb h.1.1.2.1, cell_below hb h.1.1.2.2⟩, ⟨cell_below hb h.1.2.1.1, cell_below hb h.1.2.1.2⟩, cell_below hb h.1.2.2.1, cell_below hb h.1.2.2.2⟩, h.2.trans (hb.mono h.2.size)⟩
theorem keepB8 {b b' : Nat} {c0 c1 c2 c3 d0 d1 d2 d3 : Value} {W0 W : World}
    (h : (((W.cell? ⟨b, 0, none⟩ = some c0 ∧ W.cell? ⟨b, 1, none⟩ = some c1) ∧ (W.cell? ⟨b, 2, none⟩ = some c2 ∧ W.cell? ⟨b, 3, none⟩ = some c3)) ∧ ((W.cell? ⟨b', 0, none⟩ = some d0 ∧ W.cell? ⟨b', 1, none⟩ = some d1) ∧ (W.cell? ⟨b', 2, none⟩ = some d2 ∧ W.cell? ⟨b', 3, none⟩ = some d3))) ∧ Below W0.heap.size W0 W) : Below W0.heap.size W0 W := h.2
theorem text_bytes : ∀ v : PV, numsV v → ∀ x ∈ textV v, 0 ≤ x ∧ x ≤ 255 := by
  intro v
  induction v using pv_ind with
  | h k n s l ih =>
    intro hn x hx
    unfold numsV at hn
    have hs : ∀ y ∈ strB s, 0 ≤ y ∧ y ≤ 255 := fun y hy => by
      obtain ⟨i, hi⟩ := List.getElem?_of_mem hy
      have := strB_bytes s i
      rwa [hi] at this
    have hq : ∀ l : List Int, (∀ y ∈ l, 0 ≤ y ∧ y ≤ 255) → ∀ y ∈ quoteB l, 0 ≤ y ∧ y ≤ 255 := by
      intro l
      induction l with
      | nil => intro _ y hy; simp [quoteB] at hy
      | cons z r ih2 =>
        intro h y hy
        have hz := h z (by simp)
        simp only [quoteB, List.mem_append] at hy
        rcases hy with hy | hy
        · split at hy <;> simp at hy <;> omega
        · exact ih2 (fun u hu => h u (by simp [hu])) y hy
    have hM : ∀ l : List PV, (∀ x ∈ l, numsV x → ∀ y ∈ textV x, 0 ≤ y ∧ y ≤ 255) → numsV.numsL l → ∀ y ∈ textM l, 0 ≤ y ∧ y ≤ 255 := by
      intro l
      induction l with
      | nil => intro _ _ y hy; simp [textM] at hy
      | cons z r ih2 =>
        intro h m y hy
        unfold numsV.numsL at m
        simp only [textM, List.mem_cons, List.mem_append] at hy
        rcases hy with rfl | hy | hy
        · omega
        · exact h z (by simp) m.1 y hy
        · exact ih2 (fun u hu => h u (by simp [hu])) m.2 y hy
    simp only [textV] at hx
    split at hx
    · simp at hx; omega
    split at hx
    · split at hx <;> simp at hx <;> omega
    split at hx
    · exact prt_bytes n x hx
    split at hx
    · simp only [List.mem_cons] at hx
      rcases hx with rfl | hx
      · omega
      · exact hs x hx
    split at hx
    · simp only [List.mem_cons, List.mem_append, List.not_mem_nil, or_false] at hx
      rcases hx with (rfl | hx) | rfl
      · omega
      · exact hq _ hs x hx
      · omega
    split at hx
    · simp only [List.mem_cons, List.mem_append, List.not_mem_nil, or_false] at hx
      rcases hx with (rfl | hx) | rfl
      · omega
      · cases l with
        | nil => simp [textL] at hx
        | cons z r =>
          have m := hn.2
          unfold numsV.numsL at m
          simp only [textL, List.mem_append] at hx
          rcases hx with hx | hx
          · exact ih z (by simp) m.1 x hx
          · exact hM r (fun u hu => ih u (by simp [hu])) m.2 x hx
      · omega
    · simp at hx
theorem is_bumped {w' : World} {o : Obj} {g : Nat} {C : Array Value} {k n : Int} {s : ByteArray} {l : List PV} (hC : VAt w' g C) (hsz : C.size = l.length * 4)
    (hel : ∀ i y, l[i]? = some y → ∃ c0 c1 c2 c3, C[i * 4]? = some c0 ∧ C[i * 4 + 1]? = some c1 ∧ C[i * 4 + 2]? = some c2 ∧ C[i * 4 + 3]? = some c3 ∧ Fresh (g + 1) w' y (.agg #[c0, c1, c2, c3]))
    (hk : I64 k) (hn : I64 n) (hs : s.size ≤ maxLen) (hl : l.length ≤ maxLen) (i : Nat) (yk yn : Int) (ys : ByteArray) (yl : List PV) (hi : l[i]? = some (.mk yk yn ys yl)) (m : Int) (hm : I64 m) :
    Is (((w'.alloc o).drew).setCell ⟨g, i * 4 + 1, none⟩ (.int .i64 m)) (.mk k n s (l.set i (.mk yk m ys yl))) (.agg #[.int .i64 k, .int .i64 n, .string s, .slice (some ⟨g, 0, none⟩) l.length l.length]) := by
  have hbw := (((Below.refl _ w').alloc (Nat.le_refl _) o).drew)
  have hC' := vat_set (vat_below hbw hC) (i * 4 + 1) (.int .i64 m)
  have hfr : ∀ y x, Fresh (g + 1) w' y x → Is (((w'.alloc o).drew).setCell ⟨g, i * 4 + 1, none⟩ (.int .i64 m)) y x := fun y x h => h _ fun b h1 h2 =>
    (Below.heap_setCell _ _ _ b (show b ≠ g by omega)).trans (hbw.block b h2)
  have hil := (List.getElem?_eq_some_iff.1 hi).1
  unfold Is
  refine ⟨hk, hn, hs, some ⟨g, 0, none⟩, l.length, by simp, by simp, hl, .inr ⟨g, 0, rfl, isL_of fun j y hj => ?_⟩⟩
  rw [Nat.zero_add]
  by_cases hji : j = i
  · subst hji
    rw [List.getElem?_set_self hil] at hj
    cases hj
    obtain ⟨c0, c1, c2, c3, e0, e1, e2, e3, hf⟩ := hel j _ hi
    have h := hfr _ _ hf
    unfold Is at h
    obtain ⟨q1, q2, q3, a', cap, e, q4, q5, q6⟩ := h
    simp only [Value.agg.injEq, Array.mk.injEq, List.cons.injEq, and_true] at e
    obtain ⟨rfl, rfl, rfl, rfl⟩ := e
    refine ⟨.int .i64 yk, .int .i64 m, .string ys, .slice a' yl.length cap, ⟨vat_cell hC' _ _ ?_, vat_cell hC' _ _ ?_, vat_cell hC' _ _ ?_, vat_cell hC' _ _ ?_⟩, ?_⟩
    · rw [Array.getElem?_setIfInBounds_ne (by omega)]; exact e0
    · rw [Array.getElem?_setIfInBounds_self_of_lt (by omega)]
    · rw [Array.getElem?_setIfInBounds_ne (by omega)]; exact e2
    · rw [Array.getElem?_setIfInBounds_ne (by omega)]; exact e3
    · unfold Is
      exact ⟨q1, hm, q3, a', cap, rfl, q4, q5, q6⟩
  · rw [List.getElem?_set_ne (fun e => hji e.symm)] at hj
    obtain ⟨c0, c1, c2, c3, e0, e1, e2, e3, hf⟩ := hel j y hj
    exact ⟨c0, c1, c2, c3, ⟨vat_cell hC' _ _ (by rw [Array.getElem?_setIfInBounds_ne (by omega)]; exact e0), vat_cell hC' _ _ (by rw [Array.getElem?_setIfInBounds_ne (by omega)]; exact e1), vat_cell hC' _ _ (by rw [Array.getElem?_setIfInBounds_ne (by omega)]; exact e2),
      vat_cell hC' _ _ (by rw [Array.getElem?_setIfInBounds_ne (by omega)]; exact e3)⟩, hfr _ _ hf⟩
theorem small_of : ∀ v : PV, okV v = true → small v := by
  intro v
  induction v using pv_ind with
  | h k n s l ih =>
    intro ho
    have hz : ∀ {t : ByteArray}, t.toList.isEmpty = true → t.size ≤ 1000 := fun {t} h => by
      rw [toList_data] at h
      have h1 : t.data.toList.length = t.size := by simp
      rw [List.isEmpty_iff.1 h] at h1
      simp at h1; omega
    have hn : ∀ {l : List PV}, l.isEmpty = true → l.length ≤ 1000 ∧ small.smallL l := fun {l} h => by
      rw [List.isEmpty_iff.1 h]; exact ⟨by simp, by unfold small.smallL; trivial⟩
    unfold small
    rcases okV_kind ho with rfl | rfl | rfl | rfl | rfl | rfl
    · rw [okV0] at ho; simp only [Bool.and_eq_true] at ho; exact ⟨hz ho.1.2, hn ho.2⟩
    · rw [okV1] at ho; simp only [Bool.and_eq_true] at ho; exact ⟨hz ho.1.2, hn ho.2⟩
    · rw [okV2] at ho; simp only [Bool.and_eq_true] at ho; exact ⟨hz ho.1, hn ho.2⟩
    · rw [okV3] at ho; simp only [Bool.and_eq_true] at ho
      have h2 := ho.1.2
      simp [nameB, strB_len] at h2
      exact ⟨by omega, hn ho.2⟩
    · rw [okV4] at ho; simp only [Bool.and_eq_true, decide_eq_true_eq] at ho; exact ⟨by omega, hn ho.2⟩
    · rw [okV5] at ho; simp only [Bool.and_eq_true, decide_eq_true_eq] at ho
      refine ⟨hz ho.1.1.2, by omega, ?_⟩
      have ho2 := ho.2
      clear ho hz hn
      induction l with
      | nil => unfold small.smallL; trivial
      | cons x r ih2 =>
        simp only [okL, Bool.and_eq_true] at ho2
        unfold small.smallL
        exact ⟨ih x (by simp) ho2.1, ih2 (fun z hz => ih z (by simp [hz])) ho2.2⟩
/-- a right value's text is short -/
theorem text_short : ∀ v : PV, okV v = true → numsV v → (textV v).length + 1 ≤ 410 * szV v := by
  intro v
  induction v using pv_ind with
  | h k n s l ih =>
    intro ho hn
    unfold numsV at hn
    simp only [szV]
    rcases okV_kind ho with rfl | rfl | rfl | rfl | rfl | rfl
    · rw [text0]; simp; omega
    · rw [text1]; split <;> simp <;> omega
    · rw [text2]; have := M.prt_len n hn.1.1 hn.1.2; omega
    · rw [text3]; rw [okV3] at ho; simp only [Bool.and_eq_true] at ho
      have h2 := ho.1.2
      simp [nameB] at h2
      simp; omega
    · rw [text4]; rw [okV4] at ho; simp only [Bool.and_eq_true, decide_eq_true_eq] at ho
      have := quote_len (strB s)
      rw [strB_len] at this
      simp; omega
    · rw [text5]; rw [okV5] at ho; simp only [Bool.and_eq_true] at ho
      have ho2 := ho.2
      have hn2 := hn.2
      have hM : ∀ l : List PV, (∀ x ∈ l, okV x = true → numsV x → (textV x).length + 1 ≤ 410 * szV x) → okL l = true → numsV.numsL l → (textM l).length ≤ 410 * szL l := by
        intro l
        induction l with
        | nil => intro _ _ _; simp [textM]
        | cons x r ih2 =>
          intro ih o m
          simp only [okL, Bool.and_eq_true] at o
          unfold numsV.numsL at m
          have h1 := ih x (by simp) o.1 m.1
          have h2 := ih2 (fun z hz => ih z (by simp [hz])) o.2 m.2
          simp only [textM, szL, List.length_cons, List.length_append]
          omega
      cases l with
      | nil => simp [textL]; omega
      | cons x r =>
        simp only [okL, Bool.and_eq_true] at ho2
        unfold numsV.numsL at hn2
        have h1 := ih x (by simp) ho2.1 hn2.1
        have h2 := hM r (fun z hz => ih z (by simp [hz])) ho2.2 hn2.2
        simp only [textL, szL, List.length_cons, List.length_append, List.length_nil]
        omega
end Go.Proofs.Ytchjipkfdnfgpab
