/- Rows of texts in memory. -/
import Derived.Test.YtclnephomnkieaaAppend
import Derived.Test.YtclnephomnkieaaCsvStates
namespace Go.Proofs.Ytclnephomnkieaa
open Go.RowKit Go.Shelf
abbrev Fs := List (List Int)
abbrev Rws := List (List (List Int))
theorem info_str : (Try.prog.info? 9).map (fun i => (i.zero, i.size, i.bytes)) = some (some (.string ⟨#[]⟩), 1, 16) := by kernel_rfl
theorem info_strs : (Try.prog.info? 38).map (fun i => (i.zero, i.size, i.bytes)) = some (some (.slice none 0 0), 1, 24) := by kernel_rfl
def strs (l : Fs) : List Value := l.map fun f => .string (strOfNums f)
theorem strs_len (l : Fs) : (strs l).length = l.length := by simp [strs]
theorem sz_str (l : List Int) : (strOfNums l).size = l.length := by unfold strOfNums; simp [ByteArray.size]
/-- a slice of texts that is read -/
def SRow (W : World) (u : Value) (l : Fs) : Prop := ∃ a c, u = .slice a l.length c ∧ l.length ≤ c ∧ c ≤ maxLen ∧ (l = [] ∨ ∃ b off, a = some ⟨b, off, none⟩ ∧ ∀ i, i < l.length → W.cell? ⟨b, off + i, none⟩ = some (.string (strOfNums (l[i]?.getD []))))
/-- a slice of such slices -/
def SRows (W : World) (v : Value) (L : Rws) : Prop := ∃ a c, v = .slice a L.length c ∧ L.length ≤ c ∧ c ≤ maxLen ∧ (L = [] ∨ ∃ b off, a = some ⟨b, off, none⟩ ∧ ∀ i, i < L.length → ∃ u, W.cell? ⟨b, off + i, none⟩ = some u ∧ SRow W u (L[i]?.getD []))
theorem cell_blk {w : World} {b o : Nat} {v : Value} (h : w.cell? ⟨b, o, none⟩ = some v) : b < w.heap.size := by
  simp only [World.cell?] at h
  rcases Nat.lt_or_ge b w.heap.size with h1 | h1
  · exact h1
  · rw [Array.getElem?_eq_none h1] at h; cases h
theorem cell_kept {w w' : World} (hb : Below w.heap.size w w') {b o : Nat} {v : Value} (h : w.cell? ⟨b, o, none⟩ = some v) : w'.cell? ⟨b, o, none⟩ = some v := (hb.cell (p := ⟨b, o, none⟩) (cell_blk h)).trans h
theorem srow_below {W W' : World} {u : Value} {l : Fs} (h : SRow W u l) (hb : Below W.heap.size W W') : SRow W' u l := by
  obtain ⟨a, c, hv, h1, h2, h3⟩ := h
  exact ⟨a, c, hv, h1, h2, h3.imp id fun ⟨b, off, ha, hc⟩ => ⟨b, off, ha, fun i hi => cell_kept hb (hc i hi)⟩⟩
theorem srows_below {W W' : World} {v : Value} {L : Rws} (h : SRows W v L) (hb : Below W.heap.size W W') : SRows W' v L := by
  obtain ⟨a, c, hv, h1, h2, h3⟩ := h
  exact ⟨a, c, hv, h1, h2, h3.imp id fun ⟨b, off, ha, hc⟩ => ⟨b, off, ha, fun i hi => by obtain ⟨u, hu, hs⟩ := hc i hi; exact ⟨u, cell_kept hb hu, srow_below hs hb⟩⟩⟩
theorem srows_nil (W : World) : SRows W (.slice none 0 0) [] := ⟨none, 0, rfl, Nat.le_refl _, by unfold maxLen; omega, .inl rfl⟩
/-- a row of one's own -/
def FRow (B : Nat) (W : World) (u : Value) (l : Fs) : Prop := W.ownsRow B 9 1 u l.length (strs l)
/-- rows of one's own, each of one's own, all of these below a place -/
def FRows (B C : Nat) (W : World) (v : Value) (L : Rws) : Prop := ∃ us : List Value, W.ownsRow B 38 1 v L.length us ∧ us.length = L.length ∧ ∀ i, i < L.length → ∃ u, us[i]? = some u ∧ FRow B W u (L[i]?.getD []) ∧ ∀ k, u.ownBlock = some k → k < C
theorem own_cells' {w : World} {base : Nat} {e : TypeId} {v : Value} {n : Nat} {xs : List Value} (h : w.ownsRow base e 1 v n xs) : ∃ a c, v = .slice a n c ∧ n ≤ c ∧ c ≤ maxLen ∧ (n = 0 ∨ ∃ g, a = some ⟨g, 0, none⟩ ∧ ∀ i u, xs[i]? = some u → w.cell? ⟨g, i, none⟩ = some u) := by
  obtain ⟨hl, h2⟩ := h
  rcases h2 with ⟨rfl, rfl⟩ | ⟨g, cap, cur, rfl, _, hg, hn, hm, hs, ht⟩
  · exact ⟨none, 0, rfl, Nat.le_refl _, by unfold maxLen; omega, .inl rfl⟩
  · refine ⟨_, cap, rfl, hn, hm, .inr ⟨g, rfl, fun i u hu => ?_⟩⟩
    rw [← ht, List.getElem?_take] at hu
    split at hu
    · simp only [World.cell?, hg]
      simpa using hu
    · cases hu
theorem strs_at (l : Fs) (i : Nat) (h : i < l.length) : (strs l)[i]? = some (.string (strOfNums (l[i]?.getD []))) := by
  unfold strs
  rw [List.getElem?_map, List.getElem?_eq_getElem h]; rfl
theorem srow_of {B : Nat} {W : World} {u : Value} {l : Fs} (h : FRow B W u l) : SRow W u l := by
  obtain ⟨a, c, hv, h1, h2, h3⟩ := own_cells' h
  exact ⟨a, c, hv, h1, h2, h3.imp (fun h => List.length_eq_zero_iff.1 h) fun ⟨g, ha, hc⟩ => ⟨g, 0, ha, fun i hi => by rw [Nat.zero_add]; exact hc i _ (strs_at l i hi)⟩⟩
theorem srows_of {B C : Nat} {W : World} {v : Value} {L : Rws} (h : FRows B C W v L) : SRows W v L := by
  obtain ⟨us, hown, hl, hr⟩ := h
  obtain ⟨a, c, hv, h1, h2, h3⟩ := own_cells' hown
  exact ⟨a, c, hv, h1, h2, h3.imp (fun h => List.length_eq_zero_iff.1 h) fun ⟨g, ha, hc⟩ => ⟨g, 0, ha, fun i hi => by
    obtain ⟨u, hu, hf, _⟩ := hr i hi
    exact ⟨u, by rw [Nat.zero_add]; exact hc i u hu, srow_of hf⟩⟩⟩
theorem frow_nil (B : Nat) (W : World) : FRow B W (.slice none 0 0) [] := World.ownsRow_nil _ _ _ _
theorem frows_nil (B C : Nat) (W : World) : FRows B C W (.slice none 0 0) [] := ⟨[], World.ownsRow_nil _ _ _ _, rfl, fun i h => by simp at h⟩
theorem frow_below {B : Nat} {W W' : World} {u : Value} {l : Fs} (h : FRow B W u l) (hb : Below W.heap.size W W') : FRow B W' u l := ownsRow_below h hb
theorem frows_below {B C : Nat} {W W' : World} {v : Value} {L : Rws} (h : FRows B C W v L) (hb : Below W.heap.size W W') : FRows B C W' v L := by
  obtain ⟨us, hown, hl, hr⟩ := h
  exact ⟨us, ownsRow_below hown hb, hl, fun i hi => by obtain ⟨u, hu, hf, hk⟩ := hr i hi; exact ⟨u, hu, frow_below hf hb, hk⟩⟩
theorem own_blk' {w : World} {base : Nat} {e : TypeId} {size : Nat} {v : Value} {n : Nat} {xs : List Value} (h : w.ownsRow base e size v n xs) : ∀ b, v.ownBlock = some b → b < w.heap.size ∧ base ≤ b ∧ ∃ cs, w.heap[b]? = some (.cells cs e (0, 0)) := by
  intro b hb
  rcases h.2 with ⟨rfl, _⟩ | ⟨g, cap, cur, rfl, h1, hg, _⟩
  · simp [Value.ownBlock] at hb
  · simp [Value.ownBlock] at hb
    subst hb
    exact ⟨(Array.getElem?_eq_some_iff.1 hg).1, h1, cur, hg⟩
theorem own_apart {W : World} {base base' : Nat} {e e' : TypeId} {size size' n n' : Nat} {u u' : Value} {xs xs' : List Value} (h : W.ownsRow base e size u n xs) (h' : W.ownsRow base' e' size' u' n' xs') (hne : e ≠ e') : u.ownBlock = none ∨ u.ownBlock ≠ u'.ownBlock := by
  cases hu : u.ownBlock with
  | none => exact .inl rfl
  | some b =>
    refine .inr fun he => ?_
    obtain ⟨_, _, cs, hc⟩ := own_blk' h b hu
    obtain ⟨_, _, cs', hc'⟩ := own_blk' h' b he.symm
    rw [hc] at hc'; cases hc'; exact hne rfl
theorem str_ne : 38 ≠ 9 := by decide
/-- the row at hand grows: the rows stay -/
theorem frows_row {B C D : Nat} {W W' : World} {v r : Value} {L : Rws} {R : Fs} (h : FRows B C W v L) (hr : FRow D W r R) (hCD : C ≤ D) (hg : W.grownBy W' r.ownBlock) : FRows B C W' v L := by
  obtain ⟨us, hown, hl, hel⟩ := h
  refine ⟨us, hown.kept hg (own_apart hown hr str_ne), hl, fun i hi => ?_⟩
  obtain ⟨u, hu, hf, hk⟩ := hel i hi
  refine ⟨u, hu, World.ownsRow.kept hf hg ?_, hk⟩
  cases hb : u.ownBlock with
  | none => exact .inl rfl
  | some b =>
    refine .inr fun he => ?_
    have h1 := hk b hb
    have h2 := (own_blk' hr b he.symm).2.1
    omega
/-- the rows grow by the row at hand -/
theorem frows_push {B C D : Nat} {W W' : World} {v v' r : Value} {L : Rws} {R : Fs} {us : List Value} (hown : W.ownsRow B 38 1 v L.length us) (hl : us.length = L.length)
    (hel : ∀ i, i < L.length → ∃ u, us[i]? = some u ∧ FRow B W u (L[i]?.getD []) ∧ ∀ k, u.ownBlock = some k → k < C) (hr : FRow D W r R) (hBD : B ≤ D) (hg : W.grownBy W' v.ownBlock)
    (hnew : W'.ownsRow B 38 1 v' (L.length + 1) (us ++ [r])) (hCW : C ≤ W.heap.size) : FRows B W.heap.size W' v' (L ++ [R]) := by
  have hkeep : ∀ {base : Nat} {u : Value} {l : Fs}, FRow base W u l → FRow base W' u l := fun hf => World.ownsRow.kept hf hg (own_apart hf hown str_ne.symm)
  refine ⟨us ++ [r], by rw [List.length_append]; exact hnew, by simp [hl], fun i hi => ?_⟩
  rw [List.length_append] at hi
  rcases Nat.lt_or_ge i L.length with hlt | hge
  · obtain ⟨u, hu, hf, hk⟩ := hel i hlt
    refine ⟨u, by rw [List.getElem?_append_left (by omega)]; exact hu, ?_, fun k h => Nat.lt_of_lt_of_le (hk k h) hCW⟩
    rw [List.getElem?_append_left hlt]
    exact hkeep hf
  · obtain rfl : i = L.length := by simp at hi; omega
    refine ⟨r, by rw [List.getElem?_append_right (by omega)]; simp [hl], ?_, fun k h => (own_blk' hr k h).1⟩
    rw [List.getElem?_append_right (Nat.le_refl _)]
    simp only [Nat.sub_self, List.getElem?_cons_zero, Option.getD_some]
    exact ownsRow_mono (hkeep hr) hBD
/-- the row at hand takes a field -/
theorem frow_push {C : Nat} {W' : World} {v : Value} {R : Fs} {F : List Int} (h : W'.ownsRow C 9 1 v (R.length + 1) (strs R ++ [.string (strOfNums F)])) : FRow C W' v (R ++ [F]) :=
  ownsRow_nth h (by simp) (by simp [strs])
theorem own_shape {w : World} {base : Nat} {e : TypeId} {size : Nat} {v : Value} {n : Nat} {xs : List Value} (h : w.ownsRow base e size v n xs) : ∃ a n c, v = .slice a n c := by
  rcases h.2 with ⟨rfl, _⟩ | ⟨g, cap, cur, rfl, _⟩ <;> exact ⟨_, _, _, rfl⟩
end Go.Proofs.Ytclnephomnkieaa
