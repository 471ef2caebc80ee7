/- Values: what the statements want of the order and of the texts. -/
import Derived.Test.YtcicjpdjbfgbhaaDoorMh9Cell
import Derived.Test.YtcicjpdjbfgbhaaDoorMh11Cell
import Derived.Test.YtcicjpdjbfgbhaaDoorMh12Cell
import Derived.Test.YtcicjpdjbfgbhaaDoorMh3Cell
import Derived.Test.YtcicjpdjbfgbhaaDoorMh0Cell
import Derived.Maps.OwnIn
import Derived.Deep.RegionLaw
namespace Go.Proofs.YtcicjpdjbfgbhaaDoor
open Go.RowKit Go.Shelf
theorem cmpB_zero : ∀ l r : List Int, cmpB l r = 0 ↔ l = r := by
  intro l
  induction l with
  | nil => intro r; cases r <;> simp [cmpB]
  | cons x l ih =>
    intro r
    cases r with
    | nil => simp [cmpB]
    | cons y r =>
      simp only [cmpB, List.cons.injEq]
      split
      · rename_i h
        rw [cmpI_zero]
        exact ⟨fun e => absurd e h, fun e => absurd (by omega : x - y = 0) h⟩
      · rename_i h
        rw [ih r]
        have : x = y := by omega
        simp [this]
theorem orI_zero (x y : Int) : orI x y = 0 ↔ x = 0 ∧ y = 0 := by
  unfold orI
  split
  · rename_i h; exact ⟨fun e => absurd e h, fun e => absurd e.1 h⟩
  · rename_i h; have : x = 0 := by omega
    simp [this]
theorem cmpV_zero : ∀ v v' : PV, cmpV v v' = 0 ↔ v = v' := by
  intro v
  induction v using pv_ind with
  | h k n s l ih =>
    intro v'
    cases v' with
    | mk k' n' s' l' =>
    have hl : ∀ l', cmpL l l' = 0 ↔ l = l' := by
      clear k n s k' n' s' l'
      induction l with
      | nil => intro l'; cases l' <;> simp [cmpL]
      | cons x r ih2 =>
        intro l'
        cases l' with
        | nil => simp [cmpL]
        | cons y r' =>
          simp only [cmpL, List.cons.injEq]
          have hx := ih x (by simp) y
          split
          · rename_i h
            rw [cmpI_zero]
            exact ⟨fun e => absurd e h, fun e => absurd (hx.2 e.1) h⟩
          · rename_i h
            rw [ih2 (fun z hz => ih z (by simp [hz])) r']
            have hxy := hx.1 (by omega)
            simp [hxy]
    simp only [cmpV, PV.mk.injEq]
    split
    · rename_i h
      constructor
      · intro e; exact absurd e h
      · rintro ⟨rfl, rfl, _⟩; exact absurd ((orI_zero _ _).2 ⟨cmpI_self _, cmpI_self _⟩) h
    · rename_i h
      have h0 := (orI_zero _ _).1 (by omega : orI (cmpI k k') (cmpI n n') = 0)
      have hk := (cmpI_zero _ _).1 h0.1
      have hn := (cmpI_zero _ _).1 h0.2
      split
      · rename_i hs
        rw [cmpB_zero]
        constructor
        · intro e; exact absurd e hs
        · rintro ⟨_, _, rfl, _⟩; exact absurd rfl hs
      · rename_i hs
        have hss : s = s' := strB_inj (by simpa using hs)
        rw [hl l']
        simp [hk, hn, hss]
/-! ### lists of two -/
def two (a b : PV) : PV := .mk 5 0 ⟨#[]⟩ [a, b]
theorem two_sz (a b : PV) : szV (two a b) = szV a + szV b + 1 := by simp [two, szV, szL]
/-! ### texts -/
/-- all numbers in a value are of 64 bits -/
def numsV : PV → Prop
  | .mk _ n _ l => I64 n ∧ numsL l
where numsL : List PV → Prop
  | [] => True
  | x :: r => numsV x ∧ numsL r
theorem nums_is {w : World} : ∀ v x, Is w v x → numsV v := by
  intro v
  induction v using pv_ind with
  | h k n s l ih =>
    intro x h
    unfold Is at h
    obtain ⟨h1, h2, h3, a, cap, rfl, h4, h5, h6⟩ := h
    unfold numsV
    refine ⟨h2, ?_⟩
    have hall : ∀ y ∈ l, numsV y := fun y hy => by
      rcases h6 with h6 | ⟨b, off, rfl, h6⟩
      · subst h6; simp at hy
      · obtain ⟨i, hi⟩ := List.getElem?_of_mem hy
        obtain ⟨_, _, _, _, _, hy'⟩ := isL_at h6 i y hi
        exact ih y hy _ hy'
    clear ih h6 h4 h5
    induction l with
    | nil => unfold numsV.numsL; trivial
    | cons y r ih2 =>
      unfold numsV.numsL
      exact ⟨hall y (by simp), ih2 fun z hz => hall z (by simp [hz])⟩
def kindOf (c : Int) : Int :=
  if c = 110 then 0 else if c = 102 ∨ c = 116 then 1 else if c = 45 ∨ (48 ≤ c ∧ c ≤ 57) then 2 else if c = 39 then 3 else if c = 34 then 4 else if c = 91 then 5 else 6
theorem prt_chars (n : Int) : ∀ x ∈ M.prt n, x = 45 ∨ (48 ≤ x ∧ x ≤ 57) := by
  intro x hx
  unfold M.prt at hx
  rw [List.mem_append] at hx
  rcases hx with hx | hx
  · split at hx <;> simp at hx; exact .inl hx
  · have := M.D_digits _ x hx
    simp [M.isD] at this; exact .inr this
theorem okV_kind {k n : Int} {s : ByteArray} {l : List PV} (h : okV (.mk k n s l) = true) : k = 0 ∨ k = 1 ∨ k = 2 ∨ k = 3 ∨ k = 4 ∨ k = 5 := by
  by_cases h0 : k = 0; · simp [h0]
  by_cases h1 : k = 1; · simp [h1]
  by_cases h2 : k = 2; · simp [h2]
  by_cases h3 : k = 3; · simp [h3]
  by_cases h4 : k = 4; · simp [h4]
  by_cases h5 : k = 5; · simp [h5]
  rw [okV6 _ _ _ _ h0 h1 h2 h3 h4 h5] at h
  cases h
theorem text_head {k n : Int} {s : ByteArray} {l : List PV} (h : okV (.mk k n s l) = true) : ∃ c t, textV (.mk k n s l) = c :: t ∧ kindOf c = k := by
  rcases okV_kind h with rfl | rfl | rfl | rfl | rfl | rfl
  · exact ⟨_, _, text0 _ _ _, rfl⟩
  · rw [text1]
    split
    · exact ⟨_, _, rfl, rfl⟩
    · exact ⟨_, _, rfl, rfl⟩
  · rw [text2]
    have hp : M.prt n ≠ [] := by
      unfold M.prt
      have := M.D_pos n.natAbs
      intro e
      have h2 := (List.append_eq_nil_iff.1 e).2
      rw [h2] at this
      simp at this
    obtain ⟨c, t, e⟩ := List.exists_cons_of_ne_nil hp
    refine ⟨c, t, e, ?_⟩
    have := prt_chars n c (by rw [e]; simp)
    unfold kindOf
    rw [if_neg (by omega), if_neg (by omega), if_pos this]
  · exact ⟨_, _, text3 _ _ _, rfl⟩
  · exact ⟨_, _, text4 _ _ _, rfl⟩
  · exact ⟨_, _, text5 _ _ _, rfl⟩
/-- what may stand behind a value's text -/
def Ends (r : List Int) : Prop := ∀ x t, r = x :: t → x = 32 ∨ x = 93
theorem ends_nil : Ends [] := fun _ _ h => by cases h
theorem ends_93 (r : List Int) : Ends (93 :: r) := fun _ _ h => by cases h; exact .inr rfl
theorem empty_eq {s t : ByteArray} (h : s.toList.isEmpty = true) (h' : t.toList.isEmpty = true) : s = t := by
  rw [toList_data] at h h'
  apply ByteArray.ext
  apply Array.toList_inj.1
  rw [List.isEmpty_iff.1 h, List.isEmpty_iff.1 h']
theorem textL_head {l : List PV} (ho : okL l = true) {r : List Int} {t : List Int} (hne : l ≠ []) : textL l ++ r ≠ 93 :: t := by
  cases l with
  | nil => exact absurd rfl hne
  | cons x l =>
    cases x with
    | mk k n s m =>
    have hx : okV (.mk k n s m) = true := by simp only [okL, Bool.and_eq_true] at ho; exact ho.1
    obtain ⟨c, u, e, hk⟩ := text_head hx
    simp only [textL, e]
    intro h
    simp only [List.cons_append, List.cons.injEq] at h
    rw [h.1] at hk
    have := okV_kind hx
    rw [← hk] at this
    simp [kindOf] at this
end Go.Proofs.YtcicjpdjbfgbhaaDoor

/- Layer 15: the thing of a value: the mathematics (no walk). -/
set_option linter.unusedVariables false
set_option linter.unusedSimpArgs false
namespace Go.Proofs.YtcicjpdjbfgbhaaDoor
open Go.RowKit Go.Shelf
/-- what the one member of a name's thing is called -/
abbrev symB : ByteArray := ⟨#[115, 121, 109]⟩
mutual
/-- a value's thing -/
def jOf : PV → JV
  | .mk k n s l => if k = 3 then .mk 6 0 ⟨#[]⟩ [symB] [.mk 4 0 s [] []] else .mk k n s [] (jOfL l)
def jOfL : List PV → List JV
  | [] => []
  | x :: r => jOf x :: jOfL r
end
theorem jOf3 (n : Int) (s : ByteArray) (l : List PV) : jOf (.mk 3 n s l) = .mk 6 0 ⟨#[]⟩ [symB] [.mk 4 0 s [] []] := by simp [jOf]
theorem jOfE (k n : Int) (s : ByteArray) (l : List PV) (h : k ≠ 3) : jOf (.mk k n s l) = .mk k n s [] (jOfL l) := by simp [jOf, h]
theorem jOfL_eq (l : List PV) : jOfL l = l.map jOf := by
  induction l with
  | nil => rfl
  | cons x r ih => simp [jOfL, ih]
/-- letters alone are valid -/
theorem ascii_cds (l : List Int) (h : ∀ x ∈ l, 0 ≤ x ∧ x < 128) : ∀ (f p : Nat), l.length ≤ p + f → p ≤ l.length → U.lastEnd (U.cds f l p) = if p < l.length then l.length else 0 := by
  intro f
  induction f with
  | zero => intro p h1 h2; rw [if_neg (by omega)]; rfl
  | succ f ih =>
    intro p h1 h2
    rcases Nat.lt_or_ge p l.length with hp | hp
    · rw [if_pos hp]
      have hx := h l[p] (List.getElem_mem hp)
      have hg : getAt l (p : Int) = (l[p], 1) := by
        rw [(getAt_eq l p l[p] hp (by rw [List.getElem?_eq_getElem hp]; rfl)).2]
        have hf : U.fst l[p] = (l[p], 1) := by unfold U.fst; rw [if_pos hx.2]
        rw [hf]
        simp only [Nat.sub_self, U.conts_zero]
        rw [if_neg (by omega)]
        have hs : U.size l[p] = 1 := by unfold U.size; rw [if_neg (by omega), if_pos hx.2]
        simp [U.got, hs]
      unfold U.cds
      rw [hg, if_pos (by simp)]
      have h3 := ih (p + 1) (by omega) (by omega)
      rcases hc : U.cds f l (p + 1) with _ | ⟨y, ys⟩
      · rw [hc] at h3
        have h4 : U.lastEnd [] = 0 := rfl
        rw [h4] at h3
        show p + 1 = l.length
        split at h3 <;> omega
      · rw [hc] at h3
        have hq : p + 1 < l.length := by
          by_cases hq : p + 1 < l.length
          · exact hq
          · exfalso
            have : U.cds f l (p + 1) = [] := by
              cases f with
              | zero => rfl
              | succ f =>
                unfold U.cds
                have : getAt l ((p + 1 : Nat) : Int) = (0, 0) := by unfold getAt; rw [if_neg (by omega)]
                rw [this, if_neg (by simp)]
            rw [this] at hc; cases hc
        rw [if_pos hq] at h3
        rw [← h3]
        simp [U.lastEnd]
    · rw [if_neg (by omega)]
      unfold U.cds
      have : getAt l (p : Int) = (0, 0) := by unfold getAt; rw [if_neg (by omega)]
      rw [this, if_neg (by simp)]
      rfl
theorem ascii_valid (s : ByteArray) (h : ∀ x ∈ strB s, 0 ≤ x ∧ x < 128) : U.validS s = true := by
  have h1 := ascii_cds (strB s) h s.size 0 (by rw [strB_len]; omega) (by omega)
  unfold U.validS
  rw [h1, strB_len, decide_eq_true_eq]
  split <;> omega
theorem name_valid (s : ByteArray) (h : nameB (strB s) = true) : U.validS s = true := by
  refine ascii_valid s fun x hx => ?_
  simp only [nameB, Bool.and_eq_true, List.all_eq_true] at h
  have h1 := h.2 x hx
  simp only [withinB, letterB, Bool.or_eq_true, Bool.and_eq_true, decide_eq_true_eq] at h1
  omega
theorem sym_valid : U.validS symB = true := ascii_valid _ (by decide)
theorem empty_toList {s : ByteArray} (h : s.toList.isEmpty = true) : s.toList = [] := List.isEmpty_iff.1 h
/-- a value's thing is one -/
theorem jOf_right : ∀ v : PV, okV v = true → rightJ (jOf v) = true := by
  intro v
  induction v using pv_ind with
  | h k n s l ih =>
    intro ho
    have hL : ∀ l : List PV, (∀ x ∈ l, okV x = true → rightJ (jOf x) = true) → okL l = true → rightJL (jOfL l) = true := by
      intro l
      induction l with
      | nil => intro _ _; rfl
      | cons x r ih2 =>
        intro h o
        simp only [okL, Bool.and_eq_true] at o
        simp only [jOfL, rightJL, Bool.and_eq_true]
        exact ⟨h x (by simp) o.1, ih2 (fun y hy => h y (by simp [hy])) o.2⟩
    rcases okV_kind ho with rfl | rfl | rfl | rfl | rfl | rfl
    · rw [okV0] at ho; simp only [Bool.and_eq_true, beq_iff_eq] at ho
      obtain ⟨⟨rfl, h2⟩, h3⟩ := ho
      obtain rfl := List.isEmpty_iff.1 h3
      rw [jOfE _ _ _ _ (by decide)]
      simp [rightJ, emptyJ, empty_toList h2, jOfL]
    · rw [okV1] at ho; simp only [Bool.and_eq_true, Bool.or_eq_true, beq_iff_eq] at ho
      obtain ⟨⟨h1, h2⟩, h3⟩ := ho
      obtain rfl := List.isEmpty_iff.1 h3
      rw [jOfE _ _ _ _ (by decide)]
      simp [rightJ, emptyJ, empty_toList h2, jOfL, h1]
    · rw [okV2] at ho; simp only [Bool.and_eq_true] at ho
      obtain ⟨h2, h3⟩ := ho
      obtain rfl := List.isEmpty_iff.1 h3
      rw [jOfE _ _ _ _ (by decide)]
      simp [rightJ, emptyJ, empty_toList h2, jOfL]
    · rw [okV3] at ho; simp only [Bool.and_eq_true, beq_iff_eq] at ho
      have := name_valid s ho.1.2
      rw [jOf3]
      have h9 : namesJ [] [symB] = true := by simp [namesJ, sym_valid, hasN]
      simp [rightJ, rightJL, emptyJ, h9, this]
    · rw [okV4] at ho; simp only [Bool.and_eq_true, beq_iff_eq] at ho
      obtain ⟨⟨⟨rfl, _⟩, h2⟩, h3⟩ := ho
      obtain rfl := List.isEmpty_iff.1 h3
      rw [jOfE _ _ _ _ (by decide)]
      simp [rightJ, h2, jOfL]
    · rw [okV5] at ho; simp only [Bool.and_eq_true, beq_iff_eq, decide_eq_true_eq] at ho
      obtain ⟨⟨⟨rfl, h2⟩, _⟩, h3⟩ := ho
      rw [jOfE _ _ _ _ (by decide)]
      simp [rightJ, emptyJ, empty_toList h2, hL l ih h3]
theorem jOf_sz : ∀ v : PV, szJ (jOf v) ≤ 3 * szV v := by
  intro v
  induction v using pv_ind with
  | h k n s l ih =>
    have hL : ∀ l : List PV, (∀ x ∈ l, szJ (jOf x) ≤ 3 * szV x) → szJL (jOfL l) ≤ 3 * szL l := by
      intro l
      induction l with
      | nil => intro _; simp [jOfL, szJL]
      | cons x r ih2 =>
        intro h
        have h1 := h x (by simp)
        have h2 := ih2 (fun y hy => h y (by simp [hy]))
        simp only [jOfL, szJL, szL]; omega
    by_cases hk : k = 3
    · subst hk
      rw [jOf3]
      simp [szJ, szJL, szV]
      omega
    · rw [jOfE _ _ _ _ hk]
      have := hL l ih
      simp only [szJ, szV, List.length_nil]; omega
end Go.Proofs.YtcicjpdjbfgbhaaDoor

/- append(own, src...), wherever src lies (nil too): what the slice is behind it, and in which block. -/
namespace Go.Proofs.YtcicjpdjbfgbhaaDoor
open Go.RowKit Go.Shelf
section
variable {P : Program} (w : World)
theorem run_append_at (base : Nat) (t ty e : TypeId) (i : TypeInfo) (z : Value) (size bytes : Nat) (ht : P.underlying t = some (.slice e)) (hi : P.info? e = some i) (hz : i.zero = some z)
    (hsize : i.size = size) (hby : i.bytes = bytes) (hzs : z.cells.size = size) (hsz : 0 < size) (v : Value) (n : Nat) (xs : List Value) (hown : w.ownsRow base e size v n xs)
    (a : Option Addr) (m c : Nat) (news : List Value) (hr : Cells w size a m news) (h1 : ∀ u ∈ news, u.oneCell' = true) (h63 : n + m ≤ maxLen) (hbytes : (n + m) * bytes ≤ 140737488355328) (hbase : base ≤ w.heap.size) :
    ∃ v' w', (Builtin.append_ #[t, t] ty #[v, .slice a m c]).run P w = .ok v' w' ∧ w'.ownsRow base e size v' (n + m) (xs ++ news) ∧ w.grownBy w' v.ownBlock ∧ (v'.ownBlock = v.ownBlock ∨ v'.ownBlock = some w.heap.size) := by
  obtain ⟨hl, hr⟩ := hr
  cases a with
  | none =>
    obtain rfl : m = 0 := by rcases hr with h | ⟨_, h, _⟩ <;> first | exact h | cases h
    obtain rfl : news = [] := List.length_eq_zero_iff.1 (by simpa using hl)
    refine ⟨v, w, ?_, by simpa using hown, ⟨rfl, rfl, rfl, Nat.le_refl _, fun _ _ _ => rfl⟩, .inl rfl⟩
    rcases hown.2 with ⟨rfl, rfl⟩ | ⟨g, cap, cur, rfl, _, _, hnc, _⟩
    · simp [Builtin.append_, run_underlying ht, sizeOf, typeInfo, hi, Builtin.lenOf, Builtin.firstCells]
    · simp [Builtin.append_, run_underlying ht, sizeOf, typeInfo, hi, Builtin.lenOf, Builtin.firstCells, hnc, storeCells]
  | some ad =>
    have hc : ∀ j u, news[j]? = some u → w.cell? (ad.add j) = some u := by
      rcases hr with rfl | ⟨ad', e, h⟩
      · intro j u hu
        obtain rfl : news = [] := List.length_eq_zero_iff.1 (by simpa using hl)
        simp at hu
      · cases e; exact h
    obtain ⟨v', w', hrun, h2, h3, _, h5⟩ := run_append_own_at (P := P) w base t ty e i z size bytes ht hi hz hsize hby hzs hsz v n xs hown ad m c news hl hc h1 h63 hbytes hbase
    exact ⟨v', w', hrun, h2, h3, h5⟩
/-- the same as one step of a region that draws -/
theorem step_append_at {ops : Array Oper} {o : Oper} {a : Act} {K : Act → World → Prop} {Q : Exit → Act → World → Prop} {E : Prop} (hgd : o.guard = none) (s x : Operand) (t : TypeId)
    (ho : o.op = .call { callee := .builtin .append, args := #[s, x], argTypes := #[t, t] }) (base : Nat) (e : TypeId) (i : TypeInfo) (z : Value) (size bytes : Nat) (ht : P.underlying t = some (.slice e)) (hi : P.info? e = some i) (hz : i.zero = some z)
    (hsize : i.size = size) (hby : i.bytes = bytes) (hzs : z.cells.size = size) (hsz : 0 < size) (v : Value) (n : Nat) (xs : List Value) (hs : a.eval s = v) (hown : w.ownsRow base e size v n xs)
    (A : Option Addr) (m c : Nat) (news : List Value) (hx : a.eval x = .slice A m c) (hr : Cells w size A m news) (h1 : ∀ u ∈ news, u.oneCell' = true) (h63 : n + m ≤ maxLen) (hbytes : (n + m) * bytes ≤ 140737488355328) (hbase : base ≤ w.heap.size)
    (h : ∀ v' w', w'.ownsRow base e size v' (n + m) (xs ++ news) → w.grownBy w' v.ownBlock → (v'.ownBlock = v.ownBlock ∨ v'.ownBlock = some w.heap.size) → K (a.put o.dst v') w') : if Region.wanted o (yielded ops a.tmps) = true then Oper.wp P o a w K Q else E := by
  have hw : Region.wanted o (yielded ops a.tmps) = true := by simp [Region.wanted, hgd]
  rw [if_pos hw]
  obtain ⟨v', w', hrun, h2, h3, h4⟩ := run_append_at (P := P) w base t o.type e i z size bytes ht hi hz hsize hby hzs hsz v n xs hown A m c news hr h1 h63 hbytes hbase
  unfold Oper.wp
  simp [execOp, ho, resolve, invoke, builtin, hs, hx, hrun, Result.andThen]
  exact h v' w' h2 h3 h4
end
end Go.Proofs.YtcicjpdjbfgbhaaDoor
