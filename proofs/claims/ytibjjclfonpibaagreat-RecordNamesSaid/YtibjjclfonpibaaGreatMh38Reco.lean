/- RecordNames: a row told by all its columns' names, turned round: the mathematics (no walk). -/
import Derived.Test.YtibjjclfonpibaaGreatMh37Reco
import Derived.Test.YtibjjclfonpibaaGreatMh17Reco
import Derived.Test.YtibjjclfonpibaaGreatMh11Reco
set_option linter.unusedVariables false
set_option linter.unusedSimpArgs false
namespace Go.Proofs.YtibjjclfonpibaaGreat
open Go.RowKit Go.Shelf
namespace Sc
/-- no two columns have the same name -/
def NamesOk (x : Ver) : Prop := ∀ (i j a b : Nat), x.cols[i]? = some a → x.cols[j]? = some b → (slotOf x a).nm = (slotOf x b).nm → i = j
theorem col_none {x : Ver} {nm : ByteArray} (h : col x nm = none) : ∀ c ∈ x.cols, (slotOf x c).nm ≠ nm := by
  intro c hc e
  unfold col at h
  have := List.find?_eq_none.1 h c hc
  rw [e, (eqN_iff nm nm).2 rfl] at this
  exact this rfl
theorem slotOf_some {x : Ver} {c : Nat} {s : SlotM} (h : x.slots[c]? = some s) : slotOf x c = s := by unfold slotOf; rw [h]; rfl
theorem modify_at {l : List SlotM} {c i : Nat} {f : SlotM → SlotM} : (l.modify c f)[i]? = if c = i then l[i]?.map f else l[i]? := by
  rw [List.getElem?_modify]
  split
  · rfl
  · simp
theorem step_names {n : Nat} {x y : Ver} {s : StepM} (hok : VerOk n x) (h : NamesOk x) (hs : step x s = some y) : NamesOk y := by
  unfold step at hs
  split at hs
  · cases hs
  split at hs
  · split at hs
    · rename_i hc
      cases hs
      have hn := col_none hc.2.2.2
      have hslot : ∀ c, c < x.slots.length → slotOf ⟨x.slots ++ [s.sl], x.cols ++ [x.slots.length]⟩ c = slotOf x c := fun c hlt => by
        unfold slotOf; simp only; rw [List.getElem?_append_left hlt]
      have hnew : slotOf ⟨x.slots ++ [s.sl], x.cols ++ [x.slots.length]⟩ x.slots.length = s.sl := by
        unfold slotOf; simp
      intro i j a b hi hj e
      simp only at hi hj
      have cs : ∀ (i a : Nat), (x.cols ++ [x.slots.length])[i]? = some a → (x.cols[i]? = some a ∧ a < x.slots.length) ∨ (i = x.cols.length ∧ a = x.slots.length) := fun i a hi => by
        rcases Nat.lt_or_ge i x.cols.length with hl | hl
        · rw [List.getElem?_append_left hl] at hi
          exact .inl ⟨hi, hok.lt a (List.mem_of_getElem? hi)⟩
        · rw [List.getElem?_append_right hl] at hi
          have h1 := (List.getElem?_eq_some_iff.1 hi).1
          simp only [List.length_cons, List.length_nil] at h1
          have h0 : i - x.cols.length = 0 := by omega
          rw [h0] at hi
          exact .inr ⟨by omega, by simpa using hi.symm⟩
      rcases cs i a hi with ⟨hi', ha⟩ | ⟨hi', ha⟩ <;> rcases cs j b hj with ⟨hj', hb⟩ | ⟨hj', hb⟩
      · rw [hslot a ha, hslot b hb] at e
        exact h i j a b hi' hj' e
      · subst hb
        rw [hslot a ha, hnew] at e
        exact absurd e (hn a (List.mem_of_getElem? hi'))
      · subst ha
        rw [hslot b hb, hnew] at e
        exact absurd e.symm (hn b (List.mem_of_getElem? hj'))
      · omega
    · cases hs
  split at hs
  · split at hs
    · rename_i hc
      cases hs
      have ho := (once_iff _ _ hc.1).1 hc.2
      intro i j a b hi hj e
      simp only at hi hj
      rw [List.getElem?_map] at hi hj
      cases hoi : s.od[i]? with
      | none => rw [hoi] at hi; cases hi
      | some p =>
        cases hoj : s.od[j]? with
        | none => rw [hoj] at hj; cases hj
        | some q =>
          rw [hoi] at hi; rw [hoj] at hj
          simp only [Option.map_some, Option.some.injEq] at hi hj
          have hp := ho.1 p (List.mem_of_getElem? hoi)
          have hq := ho.1 q (List.mem_of_getElem? hoj)
          have hp2 : x.cols[p.toNat]? = some a := by
            rw [← hi, List.getElem?_eq_getElem (by omega)]; rfl
          have hq2 : x.cols[q.toNat]? = some b := by
            rw [← hj, List.getElem?_eq_getElem (by omega)]; rfl
          have hpq := h p.toNat q.toNat a b hp2 hq2 e
          have : p = q := by omega
          subst this
          exact nodup_at ho.2 hoi hoj
    · cases hs
  split at hs
  · cases hs
  rename_i hcol
  have hcl : s.col.toNat < x.cols.length := by omega
  obtain ⟨c0, hc0⟩ : ∃ c, x.cols[s.col.toNat]? = some c := ⟨x.cols[s.col.toNat], List.getElem?_eq_getElem hcl⟩
  split at hs
  · split at hs
    · cases hs
      intro i j a b hi hj e
      simp only at hi hj
      rw [List.getElem?_eraseIdx] at hi hj
      split at hi <;> split at hj
      · exact h i j a b hi hj e
      · have := h i (j + 1) a b hi hj e; omega
      · have := h (i + 1) j a b hi hj e; omega
      · have := h (i + 1) (j + 1) a b hi hj e; omega
    · cases hs
  split at hs
  · split at hs
    · rename_i hc
      cases hs
      rw [hc0]
      simp only [Option.getD_some]
      have hn := col_none hc.2
      have hc0l := hok.lt c0 (List.mem_of_getElem? hc0)
      obtain ⟨t0, ht0⟩ : ∃ t, x.slots[c0]? = some t := ⟨x.slots[c0], List.getElem?_eq_getElem hc0l⟩
      have hsl : ∀ c, slotOf ⟨x.slots.modify c0 (fun t => setNm t s.sl.nm), x.cols⟩ c = if c0 = c then setNm t0 s.sl.nm else slotOf x c := fun c => by
        unfold slotOf
        simp only
        rw [modify_at]
        split
        · rename_i e; subst e; rw [ht0]; rfl
        · rfl
      intro i j a b hi hj e
      simp only at hi hj
      rw [hsl a, hsl b] at e
      split at e <;> split at e
      · rename_i e1 e2; subst e1; subst e2; exact nodup_at hok.nodup hi hj
      · exact absurd e.symm (hn b (List.mem_of_getElem? hj))
      · exact absurd e (hn a (List.mem_of_getElem? hi))
      · exact h i j a b hi hj e
    · cases hs
  · simp only at hs
    split at hs
    · cases hs
      rw [hc0]
      simp only [Option.getD_some]
      have hsl : ∀ c ty, (slotOf ⟨x.slots.modify c0 (fun t => setTy t ty), x.cols⟩ c).nm = (slotOf x c).nm := fun c ty => by
        unfold slotOf
        simp only
        rw [modify_at]
        split
        · cases x.slots[c]? <;> rfl
        · rfl
      intro i j a b hi hj e
      simp only at hi hj
      rw [hsl, hsl] at e
      exact h i j a b hi hj e
    · cases hs
theorem run_names : ∀ (l : List StepM) (n : Nat) (x : Ver) (L : List Ver), VerOk n x → NamesOk x → run x l = some L → ∀ y ∈ L, NamesOk y := by
  intro l
  induction l with
  | nil => intro n x L hok h hr y hy; simp only [run, Option.some.injEq] at hr; subst hr; simp only [List.mem_singleton] at hy; subst hy; exact h
  | cons s r ih =>
    intro n x L hok h hr y hy
    simp only [run] at hr
    split at hr
    · cases hr
    · rename_i z hz
      cases hq : run z r with
      | none => rw [hq] at hr; cases hr
      | some M =>
        rw [hq] at hr
        simp only [Option.map_some, Option.some.injEq] at hr
        subst hr
        rcases List.mem_cons.1 hy with rfl | hy
        · exact h
        · exact ih (n + 1) z M (step_ok hok hz) (step_names hok h hz) hq y hy
theorem first_names {l : List SlotM} (h : firstOk l = true) : NamesOk (first l) := by
  have h1 := (firstOk_iff l).1 h
  have key : ∀ (i j : Nat), i < j → j < l.length → (l[i]?.getD default).nm ≠ (l[j]?.getD default).nm := fun i j hij hj e => by
    have h2 := col_none (h1 j hj).2 i (List.mem_range.2 hij)
    exact h2 e
  intro i j a b hi hj e
  unfold first at hi hj
  simp only [List.getElem?_range] at hi hj
  have ei : i < l.length ∧ a = i := by
    have := (List.getElem?_eq_some_iff.1 hi); simp at this; exact ⟨this.1, this.2.symm⟩
  have ej : j < l.length ∧ b = j := by
    have := (List.getElem?_eq_some_iff.1 hj); simp at this; exact ⟨this.1, this.2.symm⟩
  obtain ⟨hil, rfl⟩ := ei
  obtain ⟨hjl, rfl⟩ := ej
  rcases Nat.lt_trichotomy a b with hlt | heq | hgt
  · exact absurd e (key a b hlt hjl)
  · exact heq
  · exact absurd e.symm (key b a hgt hil)
theorem vers_names {t : TemplM} {L : List Ver} (h : vers t = some L) : ∀ y ∈ L, NamesOk y := by
  unfold vers at h
  split at h
  · rename_i hc
    exact run_names _ 8 _ _ (first_ok hc.2.2.2.2 hc.2.2.1) (first_names hc.2.2.2.2) h
  · cases h
end Sc
theorem verOf_names {t : TemplM} {v : Int} {x : Sc.Ver} (h : Rc.verOf t v = some x) : Sc.NamesOk x := by
  obtain ⟨L, n, h1, h2, _⟩ := verOf_some h
  exact Sc.vers_names h1 x (List.mem_of_getElem? h2)
namespace Rc
/-- column k's name -/
def colNm (x : Sc.Ver) (k : Nat) : ByteArray := (Sc.slotOf x (x.cols[k]?.getD 0)).nm
def turnK (n d i : Nat) : Nat := (i + d) % n
def namesT (x : Sc.Ver) (d q : Nat) : List ByteArray := (List.range q).map fun i => colNm x (turnK x.cols.length d i)
def valsT (n : Nat) (row : List PV) (d q : Nat) : List PV := (List.range q).map fun i => row[turnK n d i]?.getD Sc.nilV
theorem turnK_inj {n d i j : Nat} (hi : i < n) (hj : j < n) (h : turnK n d i = turnK n d j) : i = j := by
  unfold turnK at h
  rcases Nat.lt_trichotomy i j with hlt | heq | hgt
  · have h2 : (j - i) % n = 0 := by
      have := Nat.sub_mod_eq_zero_of_mod_eq h.symm
      rwa [show j + d - (i + d) = j - i by omega] at this
    rw [Nat.mod_eq_of_lt (by omega)] at h2
    omega
  · exact heq
  · have h2 : (i - j) % n = 0 := by
      have := Nat.sub_mod_eq_zero_of_mod_eq h
      rwa [show i + d - (j + d) = i - j by omega] at this
    rw [Nat.mod_eq_of_lt (by omega)] at h2
    omega
theorem turnK_hit {n d k : Nat} (hk : k < n) : ∃ i, i < n ∧ turnK n d i = k := by
  refine ⟨(k + (n - d % n)) % n, Nat.mod_lt _ (by omega), ?_⟩
  unfold turnK
  have hd : d % n < n := Nat.mod_lt _ (by omega)
  rw [Nat.add_mod, Nat.mod_mod, ← Nat.add_mod]
  have e : (k + (n - d % n) + d) % n = (k + (n - d % n) + d % n) % n := by rw [Nat.add_mod, Nat.add_mod (k + (n - d % n)) (d % n), Nat.mod_mod]
  rw [e, show k + (n - d % n) + d % n = k + n by omega, Nat.add_mod_right, Nat.mod_eq_of_lt hk]
theorem findIdx_at {α : Type} {p : α → Bool} {l : List α} {i : Nat} {a : α} (h1 : l[i]? = some a) (h2 : p a = true) (h3 : ∀ j b, j < i → l[j]? = some b → p b = false) : l.findIdx? p = some i := by
  obtain ⟨hlt, e⟩ := List.getElem?_eq_some_iff.1 h1
  rw [List.findIdx?_eq_some_iff_getElem]
  exact ⟨hlt, by rw [e]; exact h2, fun j hj => by
    have := h3 j (l[j]'(by omega)) hj (List.getElem?_eq_getElem _)
    simpa using this⟩
theorem namesT_at {x : Sc.Ver} {d q i : Nat} (h : i < q) : (namesT x d q)[i]? = some (colNm x (turnK x.cols.length d i)) := by
  unfold namesT
  rw [List.getElem?_map, List.getElem?_range h]
  rfl
theorem valsT_at {n : Nat} {row : List PV} {d q i : Nat} (h : i < q) : (valsT n row d q)[i]? = some (row[turnK n d i]?.getD Sc.nilV) := by
  unfold valsT
  rw [List.getElem?_map, List.getElem?_range h]
  rfl
/-- all names, turned round: the row -/
theorem fill_turned {t : TemplM} {v : Int} {x : Sc.Ver} {row : List PV} (d : Nat) (hx : verOf t v = some x) (hl : row.length = x.cols.length) (hf : fitL x.slots (made x row) = true) : fill t v (namesT x d row.length) (valsT row.length row d row.length) = (row, 0) := by
  have hok := verOf_ok hx
  have hnm := verOf_names hx
  obtain ⟨n, hn⟩ : ∃ n, x.cols.length = n := ⟨_, rfl⟩
  rw [hn] at hl
  have nmIdx : ∀ i, i < n → (namesT x d n)[i]? = some (colNm x (turnK n d i)) := fun i hi => by rw [namesT_at hi, hn]
  have vlIdx : ∀ i, i < n → (valsT n row d n)[i]? = some (row[turnK n d i]?.getD Sc.nilV) := fun i hi => valsT_at hi
  have colAt : ∀ k, k < n → ∃ c, x.cols[k]? = some c ∧ colNm x k = (Sc.slotOf x c).nm ∧ c < x.slots.length := fun k hk => by
    have hk' : k < x.cols.length := by omega
    exact ⟨x.cols[k], List.getElem?_eq_getElem hk', by unfold colNm; rw [List.getElem?_eq_getElem hk']; rfl, hok.lt _ (List.getElem_mem _)⟩
  have nmInj : ∀ k l, k < n → l < n → colNm x k = colNm x l → k = l := fun k l hk hl' e => by
    obtain ⟨a, ha, ea, _⟩ := colAt k hk
    obtain ⟨b, hb, eb, _⟩ := colAt l hl'
    rw [ea, eb] at e
    exact hnm k l a b ha hb e
  have tlt : ∀ i, i < n → turnK n d i < n := fun i hi => Nat.mod_lt _ (by omega)
  have colF : ∀ k c, k < n → x.cols[k]? = some c → Sc.col x (Sc.slotOf x c).nm = some c := fun k c hk hc => by
    unfold Sc.col
    refine Sc.find_at _ _ k c (fun i y hi hy => ?_) hc ((Sc.eqN_iff _ _).2 rfl)
    cases he : Sc.eqN (Sc.slotOf x y).nm (Sc.slotOf x c).nm with
    | false => rfl
    | true => have := hnm i k y c hy hc ((Sc.eqN_iff _ _).1 he); omega
  have rowFit : ∀ k c, k < n → x.cols[k]? = some c → Sc.fits (Sc.slotOf x c).ty (row[k]?.getD Sc.nilV) = true := fun k c hk hc => by
    have hcl := hok.lt c (List.mem_of_getElem? hc)
    have h1 := (fitL_iff _ _).1 hf
    have h2 := made_at (row := row) hcl
    rw [ix_nodup hok.nodup hc] at h2
    have h3 := h1.2 c (x.slots[c]'hcl) _ (List.getElem?_eq_getElem hcl) h2
    have h4 : Sc.slotOf x c = x.slots[c]'hcl := Sc.slotOf_some (List.getElem?_eq_getElem hcl)
    rw [h4]
    exact h3
  have ixAt : ∀ i, i < n → ixN (namesT x d n) (colNm x (turnK n d i)) = some i := fun i hi => by
    unfold ixN
    refine findIdx_at (nmIdx i hi) ((Sc.eqN_iff _ _).2 rfl) fun j b hj hb => ?_
    rw [nmIdx j (by omega)] at hb
    cases hb
    cases he : Sc.eqN (colNm x (turnK n d i)) (colNm x (turnK n d j)) with
    | false => rfl
    | true =>
      have := turnK_inj hi (by omega) (nmInj _ _ (tlt i hi) (tlt j (by omega)) ((Sc.eqN_iff _ _).1 he))
      omega
  rw [hl]
  unfold fill
  have hlen1 : (namesT x d n).length = n := by unfold namesT; simp
  have hlen2 : (valsT n row d n).length = n := by unfold valsT; simp
  rw [if_neg (by rw [hlen1, hlen2]; simp), hx]
  simp only
  have hw : wrong x (namesT x d n) (valsT n row d n) = none := wrong_none fun j hj => by
    rw [hlen1] at hj
    unfold toldAt toldE
    rw [nmIdx j hj, vlIdx j hj]
    simp only [Option.getD_some]
    have hnone : ixN ((namesT x d n).take j) (colNm x (turnK n d j)) = none := by
      unfold ixN
      rw [List.findIdx?_eq_none_iff]
      intro b hb
      obtain ⟨i, hi⟩ := List.getElem?_of_mem hb
      rw [List.getElem?_take] at hi
      split at hi
      · rename_i hij
        rw [nmIdx i (by omega)] at hi
        cases hi
        cases he : Sc.eqN (colNm x (turnK n d j)) (colNm x (turnK n d i)) with
        | false => rfl
        | true =>
          have := turnK_inj hj (by omega) (nmInj _ _ (tlt j hj) (tlt i (by omega)) ((Sc.eqN_iff _ _).1 he))
          omega
      · cases hi
    obtain ⟨c, hc, ec, _⟩ := colAt _ (tlt j hj)
    rw [hnone, ec, colF _ c (tlt j hj) hc]
    simp only [Option.isSome_none, Bool.false_eq_true, if_false]
    rw [if_pos (rowFit _ c (tlt j hj) hc)]
  rw [hw]
  simp only
  have hlk : lacksB x (namesT x d n) = false := by
    unfold lacksB
    rw [List.findIdx?_eq_none_iff.2]
    · rfl
    · intro c hc
      obtain ⟨k, hk⟩ := List.getElem?_of_mem hc
      have hkn : k < n := by have := (List.getElem?_eq_some_iff.1 hk).1; omega
      obtain ⟨i, hi, ei⟩ := turnK_hit (d := d) hkn
      obtain ⟨c', hc', ec, _⟩ := colAt k hkn
      rw [hk] at hc'; cases hc'
      have := ixAt i hi
      rw [ei, ec] at this
      unfold lackB
      rw [this]
      simp
  rw [hlk, if_neg (by decide)]
  congr 1
  refine List.ext_getElem? fun k => ?_
  unfold fillL
  rw [List.getElem?_map]
  rcases Nat.lt_or_ge k n with hk | hk
  · obtain ⟨c, hc, ec, _⟩ := colAt k hk
    rw [hc]
    obtain ⟨i, hi, ei⟩ := turnK_hit (d := d) hk
    have := ixAt i hi
    rw [ei, ec] at this
    simp only [Option.map_some]
    unfold fillV
    rw [this]
    simp only
    rw [vlIdx i hi, ei, List.getElem?_eq_getElem (show k < row.length by omega)]
    rfl
  · rw [List.getElem?_eq_none (by omega), List.getElem?_eq_none (by omega)]
    rfl
end Rc
end Go.Proofs.YtibjjclfonpibaaGreat

/- The document's rest of layer 10. (Made by gen_ref10rest.py.) -/
set_option linter.unusedVariables false
set_option linter.unusedSimpArgs false
namespace Go.Proofs.YtibjjclfonpibaaGreat
open Go.RowKit Go.Shelf
/-- an argument that is a step -/
def RIsStep (w : World) (s : StepM) (x : Value) : Prop := ∃ c2 c3 c4 c5 c6 c7 c8 oa oc, x = .agg #[.int .i64 s.kd, .int .i64 s.col, c2, c3, c4, c5, c6, c7, c8, .slice oa s.od.length oc] ∧ I64 s.kd ∧ I64 s.col ∧ Slot7 w s.sl c2 c3 c4 c5 c6 c7 c8 ∧ Row w .i64 oa s.od.length oc s.od ∧ ∀ x ∈ s.od, I64 x
theorem rIsStep_below {w w' : World} (hb : Below w.heap.size w w') {s : StepM} {x : Value} (h : RIsStep w s x) : RIsStep w' s x := by
  obtain ⟨c2, c3, c4, c5, c6, c7, c8, oa, oc, rfl, h1, h2, h3, h4, h5⟩ := h
  exact ⟨c2, c3, c4, c5, c6, c7, c8, oa, oc, rfl, h1, h2, slot7_below hb h3, row_below h4 hb rfl, h5⟩
theorem nilV_is (W : World) : Is W Sc.nilV (.agg #[.int .i64 0, .int .i64 0, .string ⟨#[]⟩, .slice none 0 0]) := by
  unfold Sc.nilV Is
  exact ⟨by unfold I64; omega, by unfold I64; omega, Nat.zero_le _, none, 0, rfl, Nat.le_refl _, Nat.zero_le _, .inl rfl⟩
set_option maxRecDepth 100000 in
set_option maxHeartbeats 8000000 in
theorem refRest_any (s : StepM) (w : World) (x : Value) (hs : RIsStep w s x) : Calls Tryz.prog 86 #[x] w fun e w' => e = .returned (.bool (Sc.rest s)) ∧ Below w.heap.size w w' := by
  obtain ⟨kd, col, ⟨nm, ty, rq, df⟩, od⟩ := s
  obtain ⟨c2, c3, c4, c5, c6, c7, c8, oa, oc, rfl, hk, hc, ⟨hnm, hty, rfl, rfl, rfl, hdf⟩, hod, _⟩ := hs
  have hdf0 := hdf
  obtain ⟨vk, vn, vt, va, vl, vc, e⟩ : ∃ k n t a len cap, (Value.agg #[c5, c6, c7, c8]) = .agg #[.int .i64 k, .int .i64 n, .string t, .slice a len cap] := by
    cases df
    simp only at hdf
    unfold Is at hdf
    obtain ⟨_, _, _, a, cap, e, _⟩ := hdf
    exact ⟨_, _, _, _, _, _, e⟩
  simp only [Value.agg.injEq, Array.mk.injEq, List.cons.injEq, and_true] at e
  obtain ⟨rfl, rfl, rfl, rfl⟩ := e
  simp only at hdf hnm hty hk hc hod ⊢
  have hoc := hod.2.2.1
  have hol := hod.2.1
  unfold maxLen at hoc
  clear hod hdf0
  have hB0 := (Below.refl _ w).alloc (Nat.le_refl _) (.cells #[.int .i64 kd, .int .i64 col, .string nm, .int .i64 ty, .bool rq, .int .i64 vk, .int .i64 vn, .string vt, .slice va vl vc, .slice oa od.length oc] 66)
  have hB1 := hB0.alloc hB0.size (.cells #[.string nm, .int .i64 ty, .bool rq, .int .i64 vk, .int .i64 vn, .string vt, .slice va vl vc] 44)
  have hL1 := (Below.refl _ (w.alloc (.cells #[.int .i64 kd, .int .i64 col, .string nm, .int .i64 ty, .bool rq, .int .i64 vk, .int .i64 vn, .string vt, .slice va vl vc, .slice oa od.length oc] 66))).alloc (Nat.le_refl _) (.cells #[.string nm, .int .i64 ty, .bool rq, .int .i64 vk, .int .i64 vn, .string vt, .slice va vl vc] 44)
  have hSm : ∀ W, Below w.heap.size w W → Calls Tryz.prog 28 #[.agg #[.int .i64 vk, .int .i64 vn, .string vt, .slice va vl vc], .agg #[.int .i64 0, .int .i64 0, .string ⟨#[]⟩, .slice none 0 0]] W fun e w' => e = .returned (.bool (cmpV df Sc.nilV == 0)) ∧ Below W.heap.size W w' := fun W hb => refSame_any df Sc.nilV W _ _ (is_below hb _ _ hdf) (nilV_is W)
  obtain ⟨S, hS⟩ : ∃ S, (cmpV df Sc.nilV == 0) = S := ⟨_, rfl⟩
  rw [hS] at hSm
  have hres : Sc.rest ⟨kd, col, ⟨nm, ty, rq, df⟩, od⟩ = ((decide (kd = 1) || (!rq && S)) && (decide (kd = 5) || od.isEmpty) && (decide (kd = 1) || decide (kd = 3) || decide (nm.size = 0)) && (decide (kd = 1) || decide (kd = 4) || decide (ty = 0)) && ((!decide (kd = 1) && !decide (kd = 5)) || decide (col = 0))) := by
    unfold Sc.rest
    rw [← hS]
    rfl
  rw [hres]
  obtain ⟨G, hG⟩ : ∃ G, ((decide (kd = 1) || (!rq && S)) && (decide (kd = 5) || od.isEmpty) && (decide (kd = 1) || decide (kd = 3) || decide (nm.size = 0)) && (decide (kd = 1) || decide (kd = 4) || decide (ty = 0)) && ((!decide (kd = 1) && !decide (kd = 5)) || decide (col = 0))) = G := ⟨_, rfl⟩
  rw [hG]
  have HG := Lib.hid hG
  have HSm := Lib.hid hSm
  have hx : ∀ W, Below ((w.alloc (.cells #[.int .i64 kd, .int .i64 col, .string nm, .int .i64 ty, .bool rq, .int .i64 vk, .int .i64 vn, .string vt, .slice va vl vc, .slice oa od.length oc] 66)).alloc (.cells #[.string nm, .int .i64 ty, .bool rq, .int .i64 vk, .int .i64 vn, .string vt, .slice va vl vc] 44)).heap.size ((w.alloc (.cells #[.int .i64 kd, .int .i64 col, .string nm, .int .i64 ty, .bool rq, .int .i64 vk, .int .i64 vn, .string vt, .slice va vl vc, .slice oa od.length oc] 66)).alloc (.cells #[.string nm, .int .i64 ty, .bool rq, .int .i64 vk, .int .i64 vn, .string vt, .slice va vl vc] 44)) W →
      W.cell? ⟨w.heap.size, 0, none⟩ = some (.int .i64 kd) ∧ W.cell? ⟨w.heap.size, 1, none⟩ = some (.int .i64 col) ∧ W.cell? ⟨w.heap.size, 9, none⟩ = some (.slice oa od.length oc) ∧ W.cell? ⟨w.heap.size + 1, 0, none⟩ = some (.string nm) ∧ W.cell? ⟨w.heap.size + 1, 1, none⟩ = some (.int .i64 ty) := fun W hb =>
    ⟨cell_below hb (by simp), cell_below hb (by simp), cell_below hb (by simp), cell_below hb (by simp), cell_below hb (by simp)⟩
  have HX := Lib.hid hx
  clear hx hS hres hG hSm hdf
  have hnmB : (nm.toList != []) = !decide (nm.size = 0) := by
    rw [toList_data]
    cases h : nm.data.toList with
    | nil => simp [ByteArray.size, ← Array.length_toList, h]
    | cons y r => simp [ByteArray.size, ← Array.length_toList, h]
  have hodB : od.isEmpty = decide (od.length = 0) := by cases od <;> simp
  rw [hodB] at HG
  clear hodB
  by_cases k1 : kd = 1
  · subst k1
    have e1 : ((1 : Int) != 1) = false := by decide
    have e5 : ((1 : Int) != 5) = true := by decide
    have e3 : ((1 : Int) != 3) = true := by decide
    have e4 : ((1 : Int) != 4) = true := by decide
    by_cases h_O : od.length = 0
    · have d_O : decide (0 < od.length) = false := by simp [h_O]
      have H_O := Lib.hid h_O
      clear h_O
      by_cases h_C : col = 0
      · have d_C : (col == 0) = true := by simp [h_C]
        have H_C := Lib.hid h_C
        clear h_C
        go_enter Tryz.func86, Tryz.ntmps86
        go_wp2
        go_ret
        exact ⟨ret_bool (by rw [← HG.out]; simp [*, H_O.out, H_C.out]), hB1⟩
      · have d_C : (col == 0) = false := by simp [h_C]
        have H_C := Lib.hid h_C
        clear h_C
        go_enter Tryz.func86, Tryz.ntmps86
        go_wp2
        go_ret
        exact ⟨ret_bool (by rw [← HG.out]; simp [*, H_O.out, H_C.out]), hB1⟩
    · have d_O : decide (0 < od.length) = true := by simp; omega
      have H_O := Lib.hid h_O
      clear h_O
      go_enter Tryz.func86, Tryz.ntmps86
      go_wp2
      go_ret
      exact ⟨ret_bool (by rw [← HG.out]; simp [*, H_O.out]), hB1⟩
  by_cases k5 : kd = 5
  · subst k5
    have e1 : ((5 : Int) != 1) = true := by decide
    have e5 : ((5 : Int) != 5) = false := by decide
    have e3 : ((5 : Int) != 3) = true := by decide
    have e4 : ((5 : Int) != 4) = true := by decide
    by_cases h_rq : rq = true
    · subst h_rq
      go_enter Tryz.func86, Tryz.ntmps86
      go_wp2
      go_ret
      exact ⟨ret_bool (by rw [← HG.out]; simp [*]), hB1⟩
    · have h_rq' : rq = false := by simpa using h_rq
      subst h_rq'
      clear h_rq
      by_cases h_S : S = true
      · subst h_S
        by_cases h_N : nm.size = 0
        · have d_N : nm.toList = [] := by have := hnmB; simp [h_N] at this; exact this
          have H_N := Lib.hid h_N
          clear h_N
          by_cases h_T : ty = 0
          · have d_T : (ty != 0) = false := by simp [h_T]
            have H_T := Lib.hid h_T
            clear h_T
            by_cases h_C : col = 0
            · have d_C : (col == 0) = true := by simp [h_C]
              have H_C := Lib.hid h_C
              clear h_C
              go_enter Tryz.func86, Tryz.ntmps86
              go_wp2_with (first | (go_at_call 28; (with_reducible refine (HSm.out _ hB1).mono ?_); rintro e w1 ⟨rfl, hb⟩; obtain ⟨x0, x1, x2, x3, x4⟩ := HX.out _ hb))
              go_ret
              exact ⟨ret_bool (by rw [← HG.out]; simp [*, H_N.out, H_T.out, H_C.out]), hB1.trans (hb.mono hB1.size)⟩
            · have d_C : (col == 0) = false := by simp [h_C]
              have H_C := Lib.hid h_C
              clear h_C
              go_enter Tryz.func86, Tryz.ntmps86
              go_wp2_with (first | (go_at_call 28; (with_reducible refine (HSm.out _ hB1).mono ?_); rintro e w1 ⟨rfl, hb⟩; obtain ⟨x0, x1, x2, x3, x4⟩ := HX.out _ hb))
              go_ret
              exact ⟨ret_bool (by rw [← HG.out]; simp [*, H_N.out, H_T.out, H_C.out]), hB1.trans (hb.mono hB1.size)⟩
          · have d_T : (ty != 0) = true := by simp [h_T]
            have H_T := Lib.hid h_T
            clear h_T
            go_enter Tryz.func86, Tryz.ntmps86
            go_wp2_with (first | (go_at_call 28; (with_reducible refine (HSm.out _ hB1).mono ?_); rintro e w1 ⟨rfl, hb⟩; obtain ⟨x0, x1, x2, x3, x4⟩ := HX.out _ hb))
            go_ret
            exact ⟨ret_bool (by rw [← HG.out]; simp [*, H_N.out, H_T.out]), hB1.trans (hb.mono hB1.size)⟩
        · have d_N : ¬ nm.toList = [] := by have := hnmB; simp [h_N] at this; exact this
          have H_N := Lib.hid h_N
          clear h_N
          go_enter Tryz.func86, Tryz.ntmps86
          go_wp2_with (first | (go_at_call 28; (with_reducible refine (HSm.out _ hB1).mono ?_); rintro e w1 ⟨rfl, hb⟩; obtain ⟨x0, x1, x2, x3, x4⟩ := HX.out _ hb))
          go_ret
          exact ⟨ret_bool (by rw [← HG.out]; simp [*, H_N.out]), hB1.trans (hb.mono hB1.size)⟩
      · have h_S' : S = false := by simpa using h_S
        subst h_S'
        clear h_S
        go_enter Tryz.func86, Tryz.ntmps86
        go_wp2_with (first | (go_at_call 28; (with_reducible refine (HSm.out _ hB1).mono ?_); rintro e w1 ⟨rfl, hb⟩; obtain ⟨x0, x1, x2, x3, x4⟩ := HX.out _ hb))
        go_ret
        exact ⟨ret_bool (by rw [← HG.out]; simp [*]), hB1.trans (hb.mono hB1.size)⟩
  by_cases k3 : kd = 3
  · subst k3
    have e1 : ((3 : Int) != 1) = true := by decide
    have e5 : ((3 : Int) != 5) = true := by decide
    have e3 : ((3 : Int) != 3) = false := by decide
    have e4 : ((3 : Int) != 4) = true := by decide
    by_cases h_rq : rq = true
    · subst h_rq
      go_enter Tryz.func86, Tryz.ntmps86
      go_wp2
      go_ret
      exact ⟨ret_bool (by rw [← HG.out]; simp [*]), hB1⟩
    · have h_rq' : rq = false := by simpa using h_rq
      subst h_rq'
      clear h_rq
      by_cases h_S : S = true
      · subst h_S
        by_cases h_O : od.length = 0
        · have d_O : decide (0 < od.length) = false := by simp [h_O]
          have H_O := Lib.hid h_O
          clear h_O
          by_cases h_T : ty = 0
          · have d_T : (ty != 0) = false := by simp [h_T]
            have H_T := Lib.hid h_T
            clear h_T
            go_enter Tryz.func86, Tryz.ntmps86
            go_wp2_with (first | (go_at_call 28; (with_reducible refine (HSm.out _ hB1).mono ?_); rintro e w1 ⟨rfl, hb⟩; obtain ⟨x0, x1, x2, x3, x4⟩ := HX.out _ hb))
            go_ret
            exact ⟨ret_bool (by rw [← HG.out]; simp [*, H_O.out, H_T.out]), hB1.trans (hb.mono hB1.size)⟩
          · have d_T : (ty != 0) = true := by simp [h_T]
            have H_T := Lib.hid h_T
            clear h_T
            go_enter Tryz.func86, Tryz.ntmps86
            go_wp2_with (first | (go_at_call 28; (with_reducible refine (HSm.out _ hB1).mono ?_); rintro e w1 ⟨rfl, hb⟩; obtain ⟨x0, x1, x2, x3, x4⟩ := HX.out _ hb))
            go_ret
            exact ⟨ret_bool (by rw [← HG.out]; simp [*, H_O.out, H_T.out]), hB1.trans (hb.mono hB1.size)⟩
        · have d_O : decide (0 < od.length) = true := by simp; omega
          have H_O := Lib.hid h_O
          clear h_O
          go_enter Tryz.func86, Tryz.ntmps86
          go_wp2_with (first | (go_at_call 28; (with_reducible refine (HSm.out _ hB1).mono ?_); rintro e w1 ⟨rfl, hb⟩; obtain ⟨x0, x1, x2, x3, x4⟩ := HX.out _ hb))
          go_ret
          exact ⟨ret_bool (by rw [← HG.out]; simp [*, H_O.out]), hB1.trans (hb.mono hB1.size)⟩
      · have h_S' : S = false := by simpa using h_S
        subst h_S'
        clear h_S
        go_enter Tryz.func86, Tryz.ntmps86
        go_wp2_with (first | (go_at_call 28; (with_reducible refine (HSm.out _ hB1).mono ?_); rintro e w1 ⟨rfl, hb⟩; obtain ⟨x0, x1, x2, x3, x4⟩ := HX.out _ hb))
        go_ret
        exact ⟨ret_bool (by rw [← HG.out]; simp [*]), hB1.trans (hb.mono hB1.size)⟩
  by_cases k4 : kd = 4
  · subst k4
    have e1 : ((4 : Int) != 1) = true := by decide
    have e5 : ((4 : Int) != 5) = true := by decide
    have e3 : ((4 : Int) != 3) = true := by decide
    have e4 : ((4 : Int) != 4) = false := by decide
    by_cases h_rq : rq = true
    · subst h_rq
      go_enter Tryz.func86, Tryz.ntmps86
      go_wp2
      go_ret
      exact ⟨ret_bool (by rw [← HG.out]; simp [*]), hB1⟩
    · have h_rq' : rq = false := by simpa using h_rq
      subst h_rq'
      clear h_rq
      by_cases h_S : S = true
      · subst h_S
        by_cases h_O : od.length = 0
        · have d_O : decide (0 < od.length) = false := by simp [h_O]
          have H_O := Lib.hid h_O
          clear h_O
          by_cases h_N : nm.size = 0
          · have d_N : nm.toList = [] := by have := hnmB; simp [h_N] at this; exact this
            have H_N := Lib.hid h_N
            clear h_N
            go_enter Tryz.func86, Tryz.ntmps86
            go_wp2_with (first | (go_at_call 28; (with_reducible refine (HSm.out _ hB1).mono ?_); rintro e w1 ⟨rfl, hb⟩; obtain ⟨x0, x1, x2, x3, x4⟩ := HX.out _ hb))
            go_ret
            exact ⟨ret_bool (by rw [← HG.out]; simp [*, H_O.out, H_N.out]), hB1.trans (hb.mono hB1.size)⟩
          · have d_N : ¬ nm.toList = [] := by have := hnmB; simp [h_N] at this; exact this
            have H_N := Lib.hid h_N
            clear h_N
            go_enter Tryz.func86, Tryz.ntmps86
            go_wp2_with (first | (go_at_call 28; (with_reducible refine (HSm.out _ hB1).mono ?_); rintro e w1 ⟨rfl, hb⟩; obtain ⟨x0, x1, x2, x3, x4⟩ := HX.out _ hb))
            go_ret
            exact ⟨ret_bool (by rw [← HG.out]; simp [*, H_O.out, H_N.out]), hB1.trans (hb.mono hB1.size)⟩
        · have d_O : decide (0 < od.length) = true := by simp; omega
          have H_O := Lib.hid h_O
          clear h_O
          go_enter Tryz.func86, Tryz.ntmps86
          go_wp2_with (first | (go_at_call 28; (with_reducible refine (HSm.out _ hB1).mono ?_); rintro e w1 ⟨rfl, hb⟩; obtain ⟨x0, x1, x2, x3, x4⟩ := HX.out _ hb))
          go_ret
          exact ⟨ret_bool (by rw [← HG.out]; simp [*, H_O.out]), hB1.trans (hb.mono hB1.size)⟩
      · have h_S' : S = false := by simpa using h_S
        subst h_S'
        clear h_S
        go_enter Tryz.func86, Tryz.ntmps86
        go_wp2_with (first | (go_at_call 28; (with_reducible refine (HSm.out _ hB1).mono ?_); rintro e w1 ⟨rfl, hb⟩; obtain ⟨x0, x1, x2, x3, x4⟩ := HX.out _ hb))
        go_ret
        exact ⟨ret_bool (by rw [← HG.out]; simp [*]), hB1.trans (hb.mono hB1.size)⟩
  have k9 : True := trivial
  have e1 : (kd != 1) = true := by simpa using k1
  have e5 : (kd != 5) = true := by simpa using k5
  have e3 : (kd != 3) = true := by simpa using k3
  have e4 : (kd != 4) = true := by simpa using k4
  by_cases h_rq : rq = true
  · subst h_rq
    go_enter Tryz.func86, Tryz.ntmps86
    go_wp2
    go_ret
    exact ⟨ret_bool (by rw [← HG.out]; simp [*]), hB1⟩
  · have h_rq' : rq = false := by simpa using h_rq
    subst h_rq'
    clear h_rq
    by_cases h_S : S = true
    · subst h_S
      by_cases h_O : od.length = 0
      · have d_O : decide (0 < od.length) = false := by simp [h_O]
        have H_O := Lib.hid h_O
        clear h_O
        by_cases h_N : nm.size = 0
        · have d_N : nm.toList = [] := by have := hnmB; simp [h_N] at this; exact this
          have H_N := Lib.hid h_N
          clear h_N
          by_cases h_T : ty = 0
          · have d_T : (ty != 0) = false := by simp [h_T]
            have H_T := Lib.hid h_T
            clear h_T
            go_enter Tryz.func86, Tryz.ntmps86
            go_wp2_with (first | (go_at_call 28; (with_reducible refine (HSm.out _ hB1).mono ?_); rintro e w1 ⟨rfl, hb⟩; obtain ⟨x0, x1, x2, x3, x4⟩ := HX.out _ hb))
            go_ret
            exact ⟨ret_bool (by rw [← HG.out]; simp [*, H_O.out, H_N.out, H_T.out]), hB1.trans (hb.mono hB1.size)⟩
          · have d_T : (ty != 0) = true := by simp [h_T]
            have H_T := Lib.hid h_T
            clear h_T
            go_enter Tryz.func86, Tryz.ntmps86
            go_wp2_with (first | (go_at_call 28; (with_reducible refine (HSm.out _ hB1).mono ?_); rintro e w1 ⟨rfl, hb⟩; obtain ⟨x0, x1, x2, x3, x4⟩ := HX.out _ hb))
            go_ret
            exact ⟨ret_bool (by rw [← HG.out]; simp [*, H_O.out, H_N.out, H_T.out]), hB1.trans (hb.mono hB1.size)⟩
        · have d_N : ¬ nm.toList = [] := by have := hnmB; simp [h_N] at this; exact this
          have H_N := Lib.hid h_N
          clear h_N
          go_enter Tryz.func86, Tryz.ntmps86
          go_wp2_with (first | (go_at_call 28; (with_reducible refine (HSm.out _ hB1).mono ?_); rintro e w1 ⟨rfl, hb⟩; obtain ⟨x0, x1, x2, x3, x4⟩ := HX.out _ hb))
          go_ret
          exact ⟨ret_bool (by rw [← HG.out]; simp [*, H_O.out, H_N.out]), hB1.trans (hb.mono hB1.size)⟩
      · have d_O : decide (0 < od.length) = true := by simp; omega
        have H_O := Lib.hid h_O
        clear h_O
        go_enter Tryz.func86, Tryz.ntmps86
        go_wp2_with (first | (go_at_call 28; (with_reducible refine (HSm.out _ hB1).mono ?_); rintro e w1 ⟨rfl, hb⟩; obtain ⟨x0, x1, x2, x3, x4⟩ := HX.out _ hb))
        go_ret
        exact ⟨ret_bool (by rw [← HG.out]; simp [*, H_O.out]), hB1.trans (hb.mono hB1.size)⟩
    · have h_S' : S = false := by simpa using h_S
      subst h_S'
      clear h_S
      go_enter Tryz.func86, Tryz.ntmps86
      go_wp2_with (first | (go_at_call 28; (with_reducible refine (HSm.out _ hB1).mono ?_); rintro e w1 ⟨rfl, hb⟩; obtain ⟨x0, x1, x2, x3, x4⟩ := HX.out _ hb))
      go_ret
      exact ⟨ret_bool (by rw [← HG.out]; simp [*]), hB1.trans (hb.mono hB1.size)⟩
end Go.Proofs.YtibjjclfonpibaaGreat
