/- Versions of templates: the mathematics (no program is mentioned here). -/
import Derived.Test.YtnegihjhcpddnaaSchq
import Derived.Test.YtnegihjhcpddnaaValMathq
import Derived.Test.YtnegihjhcpddnaaValRightq
import Derived.Test.YtnegihjhcpddnaaValGreatq
set_option linter.unusedVariables false
namespace Go.Proofs.Ytnegihjhcpddnaa
namespace Sc
def kindV : PV → Int
  | .mk k _ _ _ => k
def nilV : PV := .mk 0 0 ⟨#[]⟩ []
/-- is a kind one of some? -/
def has (ty k : Nat) : Bool := decide (ty / 2 ^ k % 2 = 1)
/-- does a value fit a slot of these types (from 0 on)? -/
def fits (ty : Int) (v : PV) : Bool := rightV v && has ty.toNat (kindV v).toNat
def sound (s : SlotM) : Bool := nameB (strB s.nm) && decide (0 < s.ty) && decide (s.ty < 64) && fits s.ty s.df
structure Ver where
  slots : List SlotM
  cols : List Nat
def eqN (a b : ByteArray) : Bool := decide (a.data.toList = b.data.toList)
theorem eqN_iff (a b : ByteArray) : eqN a b = true ↔ a = b := by
  unfold eqN
  rw [decide_eq_true_eq]
  exact ⟨fun h => ByteArray.ext (Array.toList_inj.1 h), fun h => by rw [h]⟩
def slotOf (x : Ver) (c : Nat) : SlotM := x.slots[c]?.getD default
/-- the slot's number of the column of a name -/
def col (x : Ver) (nm : ByteArray) : Option Nat := x.cols.find? fun c => eqN (slotOf x c).nm nm
def colI (x : Ver) (nm : ByteArray) : Int := match col x nm with
  | none => -1
  | some c => c
/-- of a step, is all that its kind doesn't tell nothing? -/
def rest (s : StepM) : Bool :=
  (decide (s.kd = 1) || (!s.sl.rq && decide (cmpV s.sl.df nilV = 0))) && (decide (s.kd = 5) || s.od.isEmpty) && (decide (s.kd = 1) || decide (s.kd = 3) || decide (s.sl.nm.size = 0)) && (decide (s.kd = 1) || decide (s.kd = 4) || decide (s.sl.ty = 0)) &&
  ((!decide (s.kd = 1) && !decide (s.kd = 5)) || decide (s.col = 0))
def setNm (s : SlotM) (nm : ByteArray) : SlotM := { s with nm := nm }
def setTy (s : SlotM) (ty : Int) : SlotM := { s with ty := ty }
def once (od : List Int) (n : Nat) : Bool := (List.range n).all fun k => decide ((od.filter fun x => decide (x = (k : Int))).length = 1)
/-- a version behind a step; none: it can't be done -/
def step (x : Ver) (s : StepM) : Option Ver :=
  if rest s = false then none
  else if s.kd = 1 then (if x.cols.length ≤ 7 ∧ sound s.sl = true ∧ s.sl.rq = false ∧ col x s.sl.nm = none then some ⟨x.slots ++ [s.sl], x.cols ++ [x.slots.length]⟩ else none)
  else if s.kd = 5 then (if s.od.length = x.cols.length ∧ once s.od x.cols.length = true then some ⟨x.slots, s.od.map fun i => x.cols[i.toNat]?.getD 0⟩ else none)
  else if s.kd < 1 ∨ 5 < s.kd ∨ s.col < 0 ∨ x.cols.length ≤ s.col then none
  else if s.kd = 2 then (if 2 ≤ x.cols.length then some ⟨x.slots, x.cols.eraseIdx s.col.toNat⟩ else none)
  else if s.kd = 3 then (if nameB (strB s.sl.nm) = true ∧ col x s.sl.nm = none then some ⟨x.slots.modify (x.cols[s.col.toNat]?.getD 0) (fun t => setNm t s.sl.nm), x.cols⟩ else none)
  else (let c := x.cols[s.col.toNat]?.getD 0; let old := (slotOf x c).ty.toNat
    if 1 ≤ s.sl.ty ∧ s.sl.ty ≤ 63 ∧ old ||| s.sl.ty.toNat ≠ old then some ⟨x.slots.modify c (fun t => setTy t ((old ||| s.sl.ty.toNat : Nat) : Int)), x.cols⟩ else none)
/-- all versions from one on -/
def run : Ver → List StepM → Option (List Ver)
  | x, [] => some [x]
  | x, s :: r => match step x s with
    | none => none
    | some y => (run y r).map (x :: ·)
/-- the first one -/
def first (l : List SlotM) : Ver := ⟨l, List.range l.length⟩
def firstOk (l : List SlotM) : Bool := l.all sound && (List.range l.length).all fun i => (List.range i).all fun j => !eqN (l[j]?.getD default).nm (l[i]?.getD default).nm
/-- all versions; none, if it isn't right -/
def vers (t : TemplM) : Option (List Ver) :=
  if nameB (strB t.nm) = true ∧ 1 ≤ t.slots.length ∧ t.slots.length ≤ 8 ∧ t.steps.length ≤ 8 ∧ firstOk t.slots = true then run (first t.slots) t.steps else none
theorem run_length : ∀ (l : List StepM) (x : Ver) (L : List Ver), run x l = some L → L.length = l.length + 1 := by
  intro l
  induction l with
  | nil => intro x L h; simp only [run, Option.some.injEq] at h; subst h; rfl
  | cons s r ih =>
    intro x L h
    simp only [run] at h
    split at h
    · cases h
    · rename_i y hy
      cases hr : run y r with
      | none => rw [hr] at h; cases h
      | some M =>
        rw [hr] at h
        simp only [Option.map_some, Option.some.injEq] at h
        subst h
        have := ih y M hr
        simp [this]
theorem run_take : ∀ (l : List StepM) (x : Ver) (L : List Ver), run x l = some L → ∀ k, k ≤ l.length → run x (l.take k) = some (L.take (k + 1)) := by
  intro l
  induction l with
  | nil => intro x L h k hk; obtain rfl : k = 0 := by simpa using hk
           simp only [run, Option.some.injEq] at h; subst h; rfl
  | cons s r ih =>
    intro x L h k hk
    simp only [run] at h
    split at h
    · cases h
    · rename_i y hy
      cases hr : run y r with
      | none => rw [hr] at h; cases h
      | some M =>
        rw [hr] at h
        simp only [Option.map_some, Option.some.injEq] at h
        subst h
        cases k with
        | zero => rfl
        | succ k =>
          simp only [List.take_succ_cons, run, hy]
          rw [ih y M hr k (by simpa using hk)]
          rfl
/-- a right template cut to its first steps -/
theorem vers_take {t : TemplM} {L : List Ver} (h : vers t = some L) (k : Nat) (hk : k ≤ t.steps.length) : vers { t with steps := t.steps.take k } = some (L.take (k + 1)) := by
  unfold vers at h ⊢
  split at h
  · rename_i hc
    rw [if_pos ⟨hc.1, hc.2.1, hc.2.2.1, by simp only [List.length_take]; omega, hc.2.2.2.2⟩]
    exact run_take _ _ _ h k hk
  · cases h
theorem vers_length {t : TemplM} {L : List Ver} (h : vers t = some L) : L.length = t.steps.length + 1 ∧ t.steps.length ≤ 8 := by
  unfold vers at h
  split at h
  · rename_i hc
    exact ⟨run_length _ _ _ h, hc.2.2.2.1⟩
  · cases h
end Sc
end Go.Proofs.Ytnegihjhcpddnaa

/- The document's Great of layer 10. -/
set_option linter.unusedVariables false
namespace Go.Proofs.Ytnegihjhcpddnaa
open Go.RowKit Go.Shelf
def greatS (s : SlotM) : Bool := greatV s.df || decide (300 < s.nm.size)
def greatP (t : StepM) : Bool := greatV t.sl.df || decide (300 < t.sl.nm.size) || decide (30 < t.od.length)
def greatT (t : TemplM) : Bool := (decide (30 < t.slots.length) || decide (30 < t.steps.length) || decide (300 < t.nm.size)) || (t.slots.any greatS || t.steps.any greatP)
theorem slotAt_form {w : World} {b o : Nat} {s : SlotM} (h : SlotAt w b o s) : ∃ k n t a len cap,
    (w.cell? ⟨b, o, none⟩ = some (.string s.nm) ∧ w.cell? ⟨b, o + 1, none⟩ = some (.int .i64 s.ty) ∧ w.cell? ⟨b, o + 2, none⟩ = some (.bool s.rq) ∧ w.cell? ⟨b, o + 3, none⟩ = some (.int .i64 k) ∧ w.cell? ⟨b, o + 4, none⟩ = some (.int .i64 n) ∧ w.cell? ⟨b, o + 5, none⟩ = some (.string t) ∧ w.cell? ⟨b, o + 6, none⟩ = some (.slice a len cap)) ∧
    I64 s.ty ∧ s.nm.size ≤ maxLen ∧ Is w s.df (.agg #[.int .i64 k, .int .i64 n, .string t, .slice a len cap]) := by
  obtain ⟨c0, c1, c2, c3, c4, c5, c6, ⟨g0, g1, g2, g3, g4, g5, g6⟩, h1, h2, rfl, rfl, rfl, h3⟩ := h
  have h4 := h3
  cases hd : s.df with
  | mk k n t l =>
    rw [hd] at h4
    unfold Is at h4
    obtain ⟨_, _, _, a, cap, e, _⟩ := h4
    simp only [Value.agg.injEq, Array.mk.injEq, List.cons.injEq, and_true] at e
    obtain ⟨rfl, rfl, rfl, rfl⟩ := e
    rw [hd] at h3
    exact ⟨_, _, _, _, _, _, ⟨g0, g1, g2, g3, g4, g5, g6⟩, h2, h1, h3⟩
theorem any_take {α : Type} (p : α → Bool) (l : List α) (h : ∀ (q : Nat) (x : α), l[q]? = some x → p x = false) : l.any p = false := by
  rw [List.any_eq_false]
  intro x hx
  obtain ⟨i, hi⟩ := List.mem_iff_getElem?.1 hx
  simp [h i x hi]
theorem any_at {α : Type} (p : α → Bool) (l : List α) (q : Nat) (x : α) (h : l[q]? = some x) (hp : p x = true) : l.any p = true := List.any_eq_true.2 ⟨x, List.mem_of_getElem? h, hp⟩
set_option maxRecDepth 100000 in
set_option maxHeartbeats 4000000 in
theorem refGreat10_any (t : TemplM) (w : World) (x : Value) (hi : IsTempl w t x) : Calls Try.prog 9 #[x] w fun e w' => e = .returned (.bool (greatT t)) ∧ Below w.heap.size w w' := by
  obtain ⟨nm, slots, steps⟩ := t
  obtain ⟨hnm, sa, sc, ta, tc, rfl, ⟨hs1, hs2, hs3⟩, ⟨ht1, ht2, ht3⟩⟩ := hi
  simp only at hnm hs1 ht1 hs3 ht3 ⊢
  have hB0 := (Below.refl _ w).alloc (Nat.le_refl _) (.cells #[.string nm, .slice sa slots.length sc, .slice ta steps.length tc] 33)
  have hcx : ∀ W, Below (w.alloc (.cells #[.string nm, .slice sa slots.length sc, .slice ta steps.length tc] 33)).heap.size (w.alloc (.cells #[.string nm, .slice sa slots.length sc, .slice ta steps.length tc] 33)) W → W.cell? ⟨w.heap.size, 0, none⟩ = some (.string nm) ∧ W.cell? ⟨w.heap.size, 1, none⟩ = some (.slice sa slots.length sc) ∧ W.cell? ⟨w.heap.size, 2, none⟩ = some (.slice ta steps.length tc) := fun W hb =>
    ⟨cell_below hb (by simp), cell_below hb (by simp), cell_below hb (by simp)⟩
  obtain ⟨x0, x1, x2⟩ := hcx _ (Below.refl _ _)
  unfold maxLen at hnm hs2 ht2
  have HCX := Lib.hid hcx
  clear hcx
  unfold greatT
  by_cases h1 : (decide (30 < slots.length) || decide (30 < steps.length) || decide (300 < nm.size)) = true
  · simp only [h1, Bool.true_or]
    simp only [Bool.or_eq_true, decide_eq_true_eq] at h1
    by_cases k1 : 30 < slots.length
    · have d1 : decide ((30 : Int) < (slots.length : Int)) = true := by simp; omega
      clear hs3 ht3
      go_enter Try.func9, Try.ntmps9
      go_wp2
      go_ret
      exact ⟨rfl, hB0⟩
    · have d1 : decide ((30 : Int) < (slots.length : Int)) = false := by simp; omega
      by_cases k2 : 30 < steps.length
      · have d2 : decide ((30 : Int) < (steps.length : Int)) = true := by simp; omega
        clear hs3 ht3
        go_enter Try.func9, Try.ntmps9
        go_wp2
        go_ret
        exact ⟨rfl, hB0⟩
      · have d2 : decide ((30 : Int) < (steps.length : Int)) = false := by simp; omega
        have d3 : decide ((300 : Int) < (nm.size : Int)) = true := by simp; omega
        clear hs3 ht3
        go_enter Try.func9, Try.ntmps9
        go_wp2
        go_ret
        exact ⟨rfl, hB0⟩
  · simp only [Bool.not_eq_true] at h1
    rw [h1, Bool.false_or]
    simp only [Bool.or_eq_false_iff, decide_eq_false_iff_not] at h1
    have d1 : decide ((30 : Int) < (slots.length : Int)) = false := by simp; omega
    have d2 : decide ((30 : Int) < (steps.length : Int)) = false := by simp; omega
    have d3 : decide ((300 : Int) < (nm.size : Int)) = false := by simp; omega
    have HS3 := Lib.hid hs3; have HT3 := Lib.hid ht3
    clear hs3 ht3
    have hl30 : slots.length ≤ 30 := by omega
    have hp30 : steps.length ≤ 30 := by omega
    clear h1
    obtain ⟨G, hG⟩ : ∃ G, (slots.any greatS || steps.any greatP) = G := ⟨_, rfl⟩
    rw [hG]
    have HGG := Lib.hid hG
    clear hG
    go_enter Try.func9, Try.ntmps9
    go_wp2
    obtain ⟨W1, hW1⟩ : ∃ W1, w.alloc (.cells #[.string nm, .slice sa slots.length sc, .slice ta steps.length tc] 33) = W1 := ⟨_, rfl⟩
    rw [hW1] at HCX hB0 ⊢
    obtain ⟨bT, hbT⟩ : ∃ bT, w.heap.size = bT := ⟨_, rfl⟩
    have HB0 := Lib.hid hB0
    rw [hbT] at HCX ⊢
    clear x0 x1 x2 hW1 hB0
    go_loopw [3] (fun i wr => ∃ q : Nat, q ≤ slots.length ∧ i = .int .i64 (q : Int) ∧ Below W1.heap.size W1 wr ∧ ∀ j s, j < q → slots[j]? = some s → greatS s = false) (fun i _ => slots.length - (intOf i).toNat)
    case atStart => exact ⟨0, Nat.zero_le _, rfl, Below.refl _ _, fun j s h => by omega⟩
    case round =>
      obtain ⟨q, hq, rfl, hbl, hno⟩ := hrel
      obtain ⟨x0, x1, x2⟩ := HCX.out _ hbl
      have HNO := Lib.hid hno
      clear hno
      rcases Nat.lt_or_ge q slots.length with hlt | hge
      · have hd : decide ((q : Int) < (slots.length : Int)) = true := by simp; omega
        obtain ⟨s, hs⟩ : ∃ s, slots[q]? = some s := ⟨slots[q], List.getElem?_eq_getElem hlt⟩
        obtain ⟨b, off, rfl, hrow⟩ : ∃ b off, sa = some ⟨b, off, none⟩ ∧ ∀ i s, slots[i]? = some s → SlotAt w b (off + i * 7) s := by
          rcases HS3.out with h | h
          · subst h; simp at hlt
          · exact h
        obtain ⟨k, n, t, a, len, cap, ⟨g0, g1, g2, g3, g4, g5, g6⟩, hI, hsn, hdf⟩ := slotAt_form (slotAt_below (HB0.out.trans (hbl.mono HB0.out.size)) (hrow q s hs))
        have hGr := great_any s.df wr _ hdf
        have HS := Lib.hid hs; have HR := Lib.hid hrow
        unfold maxLen at hsn
        clear hs hrow hdf
        obtain ⟨gv, hgv⟩ : ∃ gv, greatV s.df = gv := ⟨_, rfl⟩
        rw [hgv] at hGr
        have HG := Lib.hid hgv
        clear hgv
        cases gv with
        | true =>
          have hcon : slots.any greatS = true := any_at _ _ q s HS.out (by simp [greatS, HG.out])
          go_wp2_with (go_at_call 6; (with_reducible refine hGr.mono ?_); rintro e w2 ⟨rfl, hB2⟩; obtain ⟨y0, y1, y2⟩ := HCX.out _ (hbl.trans (hB2.mono hbl.size)))
          go_ret
          exact ⟨ret_bool (by rw [← HGG.out, hcon]; rfl), HB0.out.trans ((hbl.trans (hB2.mono hbl.size)).mono HB0.out.size)⟩
        | false =>
          by_cases hb : 300 < s.nm.size
          · have hcon : slots.any greatS = true := any_at _ _ q s HS.out (by simp [greatS, hb])
            have d4 : decide ((300 : Int) < (s.nm.size : Int)) = true := by simp; omega
            go_wp2_with (go_at_call 6; (with_reducible refine hGr.mono ?_); rintro e w2 ⟨rfl, hB2⟩; obtain ⟨y0, y1, y2⟩ := HCX.out _ (hbl.trans (hB2.mono hbl.size)); have f0 := cell_below hB2 g0)
            go_ret
            exact ⟨ret_bool (by rw [← HGG.out, hcon]; rfl), HB0.out.trans ((hbl.trans (hB2.mono hbl.size)).mono HB0.out.size)⟩
          · have d4 : decide ((300 : Int) < (s.nm.size : Int)) = false := by simp; omega
            go_wp2_with (go_at_call 6; (with_reducible refine hGr.mono ?_); rintro e w2 ⟨rfl, hB2⟩; obtain ⟨y0, y1, y2⟩ := HCX.out _ (hbl.trans (hB2.mono hbl.size)); have f0 := cell_below hB2 g0)
            go_roundw
            case rel => exact ⟨q + 1, by omega, by go_num, hbl.trans (hB2.mono hbl.size), fun j s' hj hs' => by
              rcases Nat.lt_or_ge j q with h | h
              · exact HNO.out j s' h hs'
              · obtain rfl : j = q := by omega
                rw [HS.out] at hs'
                cases hs'
                simp [greatS, HG.out, hb]⟩
            case measure => simp [intOf]; omega
      · obtain rfl : q = slots.length := by omega
        have hd : decide ((slots.length : Int) < (slots.length : Int)) = false := by simp
        have hcon : slots.any greatS = false := any_take _ _ (fun j s h => HNO.out j s ((List.getElem?_eq_some_iff.1 h).1) h)
        have HF1 := Lib.hid hcon
        go_wp2
        obtain ⟨W2, hW2⟩ : ∃ W2, wr = W2 := ⟨_, rfl⟩
        rw [hW2] at hbl ⊢
        clear hW2 x0 x1 x2 HNO hcon
        go_loopw [4] (fun i wr => ∃ q : Nat, q ≤ steps.length ∧ i = .int .i64 (q : Int) ∧ Below W1.heap.size W1 wr ∧ ∀ j s, j < q → steps[j]? = some s → greatP s = false) (fun i _ => steps.length - (intOf i).toNat)
        case atStart => exact ⟨0, Nat.zero_le _, rfl, hbl, fun j s h => by omega⟩
        case round =>
          clear hbl
          obtain ⟨q, hq, rfl, hbl, hno⟩ := hrel
          obtain ⟨x0, x1, x2⟩ := HCX.out _ hbl
          have HNO := Lib.hid hno
          clear hno
          rcases Nat.lt_or_ge q steps.length with hlt | hge
          · have hd : decide ((q : Int) < (steps.length : Int)) = true := by simp; omega
            obtain ⟨s, hs⟩ : ∃ s, steps[q]? = some s := ⟨steps[q], List.getElem?_eq_getElem hlt⟩
            obtain ⟨b, off, rfl, hrow⟩ : ∃ b off, ta = some ⟨b, off, none⟩ ∧ ∀ i s, steps[i]? = some s → StepAt w b (off + i * 10) s := by
              rcases HT3.out with h | h
              · subst h; simp at hlt
              · exact h
            obtain ⟨oa, oc, ⟨e0, e1, e9⟩, _, _, hsl, hod, _⟩ := stepAt_below (HB0.out.trans (hbl.mono HB0.out.size)) (hrow q s hs)
            obtain ⟨k, n, t, a, len, cap, ⟨g0, g1, g2, g3, g4, g5, g6⟩, hI, hsn, hdf⟩ := slotAt_form hsl
            have hGr := great_any s.sl.df wr _ hdf
            have hoc := hod.2.1
            have hoc2 := hod.2.2.1
            have HS := Lib.hid hs; have HR := Lib.hid hrow
            unfold maxLen at hsn hoc2
            clear hs hrow hdf hsl hod
            obtain ⟨gv, hgv⟩ : ∃ gv, greatV s.sl.df = gv := ⟨_, rfl⟩
            rw [hgv] at hGr
            have HG := Lib.hid hgv
            clear hgv
            cases gv with
            | true =>
              have hcon : steps.any greatP = true := any_at _ _ q s HS.out (by simp [greatP, HG.out])
              go_wp2_with (go_at_call 6; (with_reducible refine hGr.mono ?_); rintro e w2 ⟨rfl, hB2⟩; obtain ⟨y0, y1, y2⟩ := HCX.out _ (hbl.trans (hB2.mono hbl.size)))
              go_ret
              exact ⟨ret_bool (by rw [← HGG.out, HF1.out, hcon]; rfl), HB0.out.trans ((hbl.trans (hB2.mono hbl.size)).mono HB0.out.size)⟩
            | false =>
              by_cases hb : 300 < s.sl.nm.size
              · have hcon : steps.any greatP = true := any_at _ _ q s HS.out (by simp [greatP, hb])
                have d4 : decide ((300 : Int) < (s.sl.nm.size : Int)) = true := by simp; omega
                go_wp2_with (go_at_call 6; (with_reducible refine hGr.mono ?_); rintro e w2 ⟨rfl, hB2⟩; obtain ⟨y0, y1, y2⟩ := HCX.out _ (hbl.trans (hB2.mono hbl.size)); have f0 := cell_below hB2 g0)
                go_ret
                exact ⟨ret_bool (by rw [← HGG.out, HF1.out, hcon]; rfl), HB0.out.trans ((hbl.trans (hB2.mono hbl.size)).mono HB0.out.size)⟩
              · have d4 : decide ((300 : Int) < (s.sl.nm.size : Int)) = false := by simp; omega
                by_cases hbo : 30 < s.od.length
                · have hcon : steps.any greatP = true := any_at _ _ q s HS.out (by simp [greatP, hbo])
                  have d5 : decide ((30 : Int) < (s.od.length : Int)) = true := by simp; omega
                  go_wp2_with (go_at_call 6; (with_reducible refine hGr.mono ?_); rintro e w2 ⟨rfl, hB2⟩; obtain ⟨y0, y1, y2⟩ := HCX.out _ (hbl.trans (hB2.mono hbl.size)); have f0 := cell_below hB2 g0; have f9 := cell_below hB2 e9)
                  go_ret
                  exact ⟨ret_bool (by rw [← HGG.out, HF1.out, hcon]; rfl), HB0.out.trans ((hbl.trans (hB2.mono hbl.size)).mono HB0.out.size)⟩
                · have d5 : decide ((30 : Int) < (s.od.length : Int)) = false := by simp; omega
                  go_wp2_with (go_at_call 6; (with_reducible refine hGr.mono ?_); rintro e w2 ⟨rfl, hB2⟩; obtain ⟨y0, y1, y2⟩ := HCX.out _ (hbl.trans (hB2.mono hbl.size)); have f0 := cell_below hB2 g0; have f9 := cell_below hB2 e9)
                  go_roundw
                  case rel => exact ⟨q + 1, by omega, by go_num, hbl.trans (hB2.mono hbl.size), fun j s' hj hs' => by
                    rcases Nat.lt_or_ge j q with h | h
                    · exact HNO.out j s' h hs'
                    · obtain rfl : j = q := by omega
                      rw [HS.out] at hs'
                      cases hs'
                      simp [greatP, HG.out, hb, hbo]⟩
                  case measure => simp [intOf]; omega
          · obtain rfl : q = steps.length := by omega
            have hd : decide ((steps.length : Int) < (steps.length : Int)) = false := by simp
            have hcon : steps.any greatP = false := any_take _ _ (fun j s h => HNO.out j s ((List.getElem?_eq_some_iff.1 h).1) h)
            go_wp2
            go_ret
            exact ⟨ret_bool (by rw [← HGG.out, HF1.out, hcon]; rfl), HB0.out.trans (hbl.mono HB0.out.size)⟩
end Go.Proofs.Ytnegihjhcpddnaa
