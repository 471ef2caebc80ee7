/- Values: what the statements want of the order and of the texts. -/
import Derived.Test.YtibjjclfonpibaaGreatMh3Cast
import Derived.Test.YtibjjclfonpibaaGreatMh4Cast
import Derived.Test.YtibjjclfonpibaaGreatMh0Cast
import Derived.Test.YtibjjclfonpibaaGreatMh2Cast
import Derived.Lib.AppendStr
import Derived.Deep.RegionWith
import Derived.Deep.RegionLaw
import Derived.Test.YtibjjclfonpibaaGreatMh1Cast
import Derived.Laws.BytesArg
import Derived.Deep.QuietTactic
import Derived.BigQuiet
namespace Go.Proofs.YtibjjclfonpibaaGreat
open Go.RowKit Go.Shelf
theorem cmpI_bd (a b : Int) : cmpI a b = -1 ∨ cmpI a b = 0 ∨ cmpI a b = 1 := by unfold cmpI; split <;> (try split) <;> simp
theorem cmpB_zero : ∀ l r : List Int, cmpB l r = 0 ↔ l = r := by
  intro l
  induction l with
  | nil => intro r; cases r <;> simp [cmpB]
  | cons x l ih =>
    intro r
    cases r with
    | nil => simp [cmpB]
    | cons y r =>
      simp only [cmpB, List.cons.injEq]
      split
      · rename_i h
        rw [cmpI_zero]
        exact ⟨fun e => absurd e h, fun e => absurd (by omega : x - y = 0) h⟩
      · rename_i h
        rw [ih r]
        have : x = y := by omega
        simp [this]
theorem cmpB_bd : ∀ l r : List Int, cmpB l r = -1 ∨ cmpB l r = 0 ∨ cmpB l r = 1 := by
  intro l
  induction l with
  | nil => intro r; cases r <;> simp [cmpB]
  | cons x l ih =>
    intro r
    cases r with
    | nil => simp [cmpB]
    | cons y r =>
      simp only [cmpB]
      split
      · exact cmpI_bd _ _
      · exact ih r
theorem orI_zero (x y : Int) : orI x y = 0 ↔ x = 0 ∧ y = 0 := by
  unfold orI
  split
  · rename_i h; exact ⟨fun e => absurd e h, fun e => absurd e.1 h⟩
  · rename_i h; have : x = 0 := by omega
    simp [this]
theorem cmpV_zero : ∀ v v' : PV, cmpV v v' = 0 ↔ v = v' := by
  intro v
  induction v using pv_ind with
  | h k n s l ih =>
    intro v'
    cases v' with
    | mk k' n' s' l' =>
    have hl : ∀ l', cmpL l l' = 0 ↔ l = l' := by
      clear k n s k' n' s' l'
      induction l with
      | nil => intro l'; cases l' <;> simp [cmpL]
      | cons x r ih2 =>
        intro l'
        cases l' with
        | nil => simp [cmpL]
        | cons y r' =>
          simp only [cmpL, List.cons.injEq]
          have hx := ih x (by simp) y
          split
          · rename_i h
            rw [cmpI_zero]
            exact ⟨fun e => absurd e h, fun e => absurd (hx.2 e.1) h⟩
          · rename_i h
            rw [ih2 (fun z hz => ih z (by simp [hz])) r']
            have hxy := hx.1 (by omega)
            simp [hxy]
    simp only [cmpV, PV.mk.injEq]
    split
    · rename_i h
      constructor
      · intro e; exact absurd e h
      · rintro ⟨rfl, rfl, _⟩; exact absurd ((orI_zero _ _).2 ⟨cmpI_self _, cmpI_self _⟩) h
    · rename_i h
      have h0 := (orI_zero _ _).1 (by omega : orI (cmpI k k') (cmpI n n') = 0)
      have hk := (cmpI_zero _ _).1 h0.1
      have hn := (cmpI_zero _ _).1 h0.2
      split
      · rename_i hs
        rw [cmpB_zero]
        constructor
        · intro e; exact absurd e hs
        · rintro ⟨_, _, rfl, _⟩; exact absurd rfl hs
      · rename_i hs
        have hss : s = s' := strB_inj (by simpa using hs)
        rw [hl l']
        simp [hk, hn, hss]
theorem cmpL_bd : ∀ l l' : List PV, cmpL l l' = -1 ∨ cmpL l l' = 0 ∨ cmpL l l' = 1 := by
  intro l
  induction l with
  | nil => intro l'; cases l' <;> simp [cmpL]
  | cons x r ih =>
    intro l'
    cases l' with
    | nil => simp [cmpL]
    | cons y r' =>
      simp only [cmpL]
      split
      · exact cmpI_bd _ _
      · exact ih r'
theorem cmpV_bd (v v' : PV) : cmpV v v' = -1 ∨ cmpV v v' = 0 ∨ cmpV v v' = 1 := by
  cases v with
  | mk k n s l =>
  cases v' with
  | mk k' n' s' l' =>
  simp only [cmpV]
  split
  · unfold orI; split <;> exact cmpI_bd _ _
  · split
    · exact cmpB_bd _ _
    · exact cmpL_bd _ _
/-! ### lists of two -/
def two (a b : PV) : PV := .mk 5 0 ⟨#[]⟩ [a, b]
/-! ### texts -/
end Go.Proofs.YtibjjclfonpibaaGreat

/- Versions of templates: the mathematics (no program is mentioned here). -/
set_option linter.unusedVariables false
namespace Go.Proofs.YtibjjclfonpibaaGreat
namespace Sc
def kindV : PV → Int
  | .mk k _ _ _ => k
def nilV : PV := .mk 0 0 ⟨#[]⟩ []
/-- is a kind one of some? -/
def has (ty k : Nat) : Bool := decide (ty / 2 ^ k % 2 = 1)
/-- does a value fit a slot of these types (from 0 on)? -/
def fits (ty : Int) (v : PV) : Bool := rightV v && has ty.toNat (kindV v).toNat
def sound (s : SlotM) : Bool := nameB (strB s.nm) && decide (0 < s.ty) && decide (s.ty < 64) && fits s.ty s.df
structure Ver where
  slots : List SlotM
  cols : List Nat
def eqN (a b : ByteArray) : Bool := decide (a.data.toList = b.data.toList)
theorem eqN_iff (a b : ByteArray) : eqN a b = true ↔ a = b := by
  unfold eqN
  rw [decide_eq_true_eq]
  exact ⟨fun h => ByteArray.ext (Array.toList_inj.1 h), fun h => by rw [h]⟩
def slotOf (x : Ver) (c : Nat) : SlotM := x.slots[c]?.getD default
/-- the slot's number of the column of a name -/
def col (x : Ver) (nm : ByteArray) : Option Nat := x.cols.find? fun c => eqN (slotOf x c).nm nm
def colI (x : Ver) (nm : ByteArray) : Int := match col x nm with
  | none => -1
  | some c => c
/-- of a step, is all that its kind doesn't tell nothing? -/
def rest (s : StepM) : Bool :=
  (decide (s.kd = 1) || (!s.sl.rq && decide (cmpV s.sl.df nilV = 0))) && (decide (s.kd = 5) || s.od.isEmpty) && (decide (s.kd = 1) || decide (s.kd = 3) || decide (s.sl.nm.size = 0)) && (decide (s.kd = 1) || decide (s.kd = 4) || decide (s.sl.ty = 0)) &&
  ((!decide (s.kd = 1) && !decide (s.kd = 5)) || decide (s.col = 0))
def setNm (s : SlotM) (nm : ByteArray) : SlotM := { s with nm := nm }
def setTy (s : SlotM) (ty : Int) : SlotM := { s with ty := ty }
def once (od : List Int) (n : Nat) : Bool := (List.range n).all fun k => decide ((od.filter fun x => decide (x = (k : Int))).length = 1)
/-- a version behind a step; none: it can't be done -/
def step (x : Ver) (s : StepM) : Option Ver :=
  if rest s = false then none
  else if s.kd = 1 then (if x.cols.length ≤ 7 ∧ sound s.sl = true ∧ s.sl.rq = false ∧ col x s.sl.nm = none then some ⟨x.slots ++ [s.sl], x.cols ++ [x.slots.length]⟩ else none)
  else if s.kd = 5 then (if s.od.length = x.cols.length ∧ once s.od x.cols.length = true then some ⟨x.slots, s.od.map fun i => x.cols[i.toNat]?.getD 0⟩ else none)
  else if s.kd < 1 ∨ 5 < s.kd ∨ s.col < 0 ∨ x.cols.length ≤ s.col then none
  else if s.kd = 2 then (if 2 ≤ x.cols.length then some ⟨x.slots, x.cols.eraseIdx s.col.toNat⟩ else none)
  else if s.kd = 3 then (if nameB (strB s.sl.nm) = true ∧ col x s.sl.nm = none then some ⟨x.slots.modify (x.cols[s.col.toNat]?.getD 0) (fun t => setNm t s.sl.nm), x.cols⟩ else none)
  else (let c := x.cols[s.col.toNat]?.getD 0; let old := (slotOf x c).ty.toNat
    if 1 ≤ s.sl.ty ∧ s.sl.ty ≤ 63 ∧ old ||| s.sl.ty.toNat ≠ old then some ⟨x.slots.modify c (fun t => setTy t ((old ||| s.sl.ty.toNat : Nat) : Int)), x.cols⟩ else none)
/-- all versions from one on -/
def run : Ver → List StepM → Option (List Ver)
  | x, [] => some [x]
  | x, s :: r => match step x s with
    | none => none
    | some y => (run y r).map (x :: ·)
/-- the first one -/
def first (l : List SlotM) : Ver := ⟨l, List.range l.length⟩
def firstOk (l : List SlotM) : Bool := l.all sound && (List.range l.length).all fun i => (List.range i).all fun j => !eqN (l[j]?.getD default).nm (l[i]?.getD default).nm
/-- all versions; none, if it isn't right -/
def vers (t : TemplM) : Option (List Ver) :=
  if nameB (strB t.nm) = true ∧ 1 ≤ t.slots.length ∧ t.slots.length ≤ 8 ∧ t.steps.length ≤ 8 ∧ firstOk t.slots = true then run (first t.slots) t.steps else none
theorem run_length : ∀ (l : List StepM) (x : Ver) (L : List Ver), run x l = some L → L.length = l.length + 1 := by
  intro l
  induction l with
  | nil => intro x L h; simp only [run, Option.some.injEq] at h; subst h; rfl
  | cons s r ih =>
    intro x L h
    simp only [run] at h
    split at h
    · cases h
    · rename_i y hy
      cases hr : run y r with
      | none => rw [hr] at h; cases h
      | some M =>
        rw [hr] at h
        simp only [Option.map_some, Option.some.injEq] at h
        subst h
        have := ih y M hr
        simp [this]
theorem vers_length {t : TemplM} {L : List Ver} (h : vers t = some L) : L.length = t.steps.length + 1 ∧ t.steps.length ≤ 8 := by
  unfold vers at h
  split at h
  · rename_i hc
    exact ⟨run_length _ _ _ h, hc.2.2.2.1⟩
  · cases h
end Sc
end Go.Proofs.YtibjjclfonpibaaGreat

/- Package utf's Put and Text. -/
namespace Go.Proofs.YtibjjclfonpibaaGreat
open Go.RowKit Go.Shelf
def U.okAll (l : List Int) : Bool := l.all fun c => U.size c != 0
/-- the text of codes; whether all are codes -/
def U.text (l : List Int) : ByteArray × Bool := if U.okAll l then (strOfNums (l.flatMap U.put), true) else (ByteArray.empty, false)
end Go.Proofs.YtibjjclfonpibaaGreat

/- The document's comparisons of two slices (douaneref01's Bytes and Ints). -/
namespace Go.Proofs.YtibjjclfonpibaaGreat
open Go.RowKit Go.Shelf
def RBytes (l r : List Int) (w : World) (e : Ending) (w' : World) : Prop := e = .returned (.bool (decide (l = r))) ∧ ∃ n, w' = w.drewN n
set_option maxHeartbeats 400000 in
theorem refBytes_any (a b : Option Addr) (n m c d : Nat) (l r : List Int) (w : World) (hl : Row w .u8 a n c l) (hr : Row w .u8 b m d r) :
    Calls Tryz.prog 128 #[.slice a n c, .slice b m d] w (RBytes l r w) := by
  obtain ⟨h1, h2, h3, h4⟩ := hl
  obtain ⟨k1, k2, k3, k4⟩ := hr
  unfold maxLen at h3 k3
  by_cases hnm : n = m
  · subst hnm
    have hb : ((n : Int) != (n : Int)) = false := by simp
    have H1 := Lib.hid h1; clear h1
    have K1 := Lib.hid k1; clear k1
    have H4 := Lib.hid h4; clear h4
    have K4 := Lib.hid k4; clear k4
    go_enter Tryz.func128, Tryz.ntmps128
    go_wp2
    go_loopw [5] (fun i wr => ∃ k nq : Nat, k ≤ n ∧ i = .int .i64 k ∧ wr = w.drewN nq ∧ ∀ j, j < k → l[j]?.getD 0 = r[j]?.getD 0)
      (fun i _ => n - (intOf i).toNat)
    case atStart => exact ⟨0, 0, Nat.zero_le _, rfl, rfl, fun j hj => by omega⟩
    case round =>
      obtain ⟨k, nq, hk, rfl, rfl, heq⟩ := hrel
      have HE := Lib.hid heq; clear heq
      by_cases hlt : k < n
      · rcases H4.out with h0 | ⟨p, o, rfl, hc⟩
        · exact absurd h0 (by omega)
        rcases K4.out with h0 | ⟨p', o', rfl, hc'⟩
        · exact absurd h0 (by omega)
        have c1 := hc k hlt
        have c2 := hc' k hlt
        clear hc hc'
        by_cases hx : l[k]?.getD 0 = r[k]?.getD 0
        · have HX := Lib.hid hx
          rw [hx] at c1
          generalize r[k]?.getD 0 = x at c1 c2
          clear hx
          have hne : (x != x) = false := by simp
          go_wp2
          go_quiet (fail)
          go_wp2
          go_roundw
          case rel => exact ⟨k + 1, _, by omega, by go_num, rfl, fun j hj => by
            rcases Nat.lt_or_ge j k with h | h
            · exact HE.out j h
            · obtain rfl : j = k := by omega
              exact HX.out⟩
          case measure => simp [intOf]; omega
        · have hne : (l[k]?.getD 0 != r[k]?.getD 0) = true := by simpa using hx
          have HX := Lib.hid hx; clear hx
          go_wp2
          go_quiet (fail)
          go_wp2
          go_ret
          refine ⟨ret_bool ?_, _, World.drewN_drewN _ _ _⟩
          have := HX.out
          simp; intro h; rw [h] at this; exact this rfl
      · obtain rfl : k = n := by omega
        go_wp2
        go_ret
        refine ⟨ret_bool ?_, _, rfl⟩
        have h1 := H1.out
        have k1 := K1.out
        simp
        exact getD_ext l r (by omega) (fun i hi => HE.out i (by omega))
  · have hb : ((n : Int) != (m : Int)) = true := by simp; omega
    have hne : l ≠ r := fun h => by rw [h] at h1; omega
    have HN := Lib.hid hne; clear hne h1 k1 h4 k4
    go_enter Tryz.func128, Tryz.ntmps128
    go_wp2
    go_ret
    exact ⟨ret_bool (by simp; exact HN.out), 0, rfl⟩
end Go.Proofs.YtibjjclfonpibaaGreat

/- The document's answer for layer 1 (douaneref01): its small functions, and what the two answers have in common. -/
namespace Go.Proofs.YtibjjclfonpibaaGreat
namespace U
/-- what stands at the beginning is this code's bytes -/
def At (r : List Int) (c : Int) (n : Nat) : Prop := 0 < n ∧ size c = n ∧ ∃ t, r = put c ++ t
theorem size_cases (c : Int) : (size c = 0 ∧ put c = []) ∨ (size c = 1 ∧ 0 ≤ c ∧ c < 128 ∧ put c = [c]) ∨ (size c = 2 ∧ 128 ≤ c ∧ c < 2048 ∧ put c = [192 + c / 64, 128 + c % 64]) ∨
    (size c = 3 ∧ 2048 ≤ c ∧ c < 65536 ∧ ¬ (55296 ≤ c ∧ c ≤ 57343) ∧ put c = [224 + c / 4096, 128 + c / 64 % 64, 128 + c % 64]) ∨
    (size c = 4 ∧ 65536 ≤ c ∧ c ≤ 1114111 ∧ put c = [240 + c / 262144, 128 + c / 4096 % 64, 128 + c / 64 % 64, 128 + c % 64]) := by
  have h : (size c = 0) ∨ (size c = 1 ∧ 0 ≤ c ∧ c < 128) ∨ (size c = 2 ∧ 128 ≤ c ∧ c < 2048) ∨ (size c = 3 ∧ 2048 ≤ c ∧ c < 65536 ∧ ¬ (55296 ≤ c ∧ c ≤ 57343)) ∨ (size c = 4 ∧ 65536 ≤ c ∧ c ≤ 1114111) := by
    unfold size; repeat' split
    all_goals omega
  rcases h with h | ⟨h, a⟩ | ⟨h, a⟩ | ⟨h, a⟩ | ⟨h, a⟩ <;> simp [put, h] <;> omega
theorem size_eq (c : Int) : (0 ≤ c → c < 128 → size c = 1) ∧ (128 ≤ c → c < 2048 → size c = 2) ∧ (2048 ≤ c → c < 65536 → ¬ (55296 ≤ c ∧ c ≤ 57343) → size c = 3) ∧ (65536 ≤ c → c ≤ 1114111 → size c = 4) := by
  refine ⟨fun a b => ?_, fun a b => ?_, fun a b d => ?_, fun a b => ?_⟩ <;> (unfold size; repeat' split) <;> omega
theorem fst_cases (x : Int) : (x < 128 ∧ fst x = (x, 1)) ∨ (192 ≤ x ∧ x < 224 ∧ fst x = (x - 192, 2)) ∨ (224 ≤ x ∧ x < 240 ∧ fst x = (x - 224, 3)) ∨ (240 ≤ x ∧ x < 248 ∧ fst x = (x - 240, 4)) ∨ fst x = (0, 0) := by
  unfold fst
  repeat' split
  all_goals simp <;> omega
theorem cont_iff (x : Int) : cont x = true ↔ 128 ≤ x ∧ x < 192 := by simp [cont]
theorem get_of (r : List Int) (c : Int) (n : Nat) (h : At r c n) : get r = (c, n) := by
  obtain ⟨hn, hs, t, rfl⟩ := h
  rcases size_cases c with ⟨h, hp⟩ | ⟨h, a, b, hp⟩ | ⟨h, a, b, hp⟩ | ⟨h, a, b, d, hp⟩ | ⟨h, a, b, hp⟩ <;> rw [h] at hs
  · omega
  · obtain rfl : n = 1 := by omega
    have hf : fst c = (c, 1) := by rcases fst_cases c with q | q | q | q | q <;> first | exact q.2 | omega | (unfold fst; rw [if_pos b])
    simp [hp, get, hf, conts, got, h]
  · obtain rfl : n = 2 := by omega
    have hf : fst (192 + c / 64) = (c / 64, 2) := by unfold fst; rw [if_neg (by omega), if_pos (by omega)]; simp; omega
    have k1 : cont (128 + c % 64) = true := (cont_iff _).2 (by omega)
    have e : c / 64 * 64 + (128 + c % 64 - 128) = c := by omega
    simp [hp, get, hf, conts, got, k1, e, h]
  · obtain rfl : n = 3 := by omega
    have hf : fst (224 + c / 4096) = (c / 4096, 3) := by unfold fst; rw [if_neg (by omega), if_neg (by omega), if_pos (by omega)]; simp; omega
    have k1 : cont (128 + c % 64) = true := (cont_iff _).2 (by omega)
    have k2 : cont (128 + c / 64 % 64) = true := (cont_iff _).2 (by omega)
    have e : (c / 4096 * 64 + (128 + c / 64 % 64 - 128)) * 64 + (128 + c % 64 - 128) = c := by omega
    simp [hp, get, hf, conts, got, k1, k2, e, h]
  · obtain rfl : n = 4 := by omega
    have hf : fst (240 + c / 262144) = (c / 262144, 4) := by unfold fst; rw [if_neg (by omega), if_neg (by omega), if_neg (by omega), if_pos (by omega)]; simp; omega
    have k1 : cont (128 + c % 64) = true := (cont_iff _).2 (by omega)
    have k2 : cont (128 + c / 64 % 64) = true := (cont_iff _).2 (by omega)
    have k3 : cont (128 + c / 4096 % 64) = true := (cont_iff _).2 (by omega)
    have e : ((c / 262144 * 64 + (128 + c / 4096 % 64 - 128)) * 64 + (128 + c / 64 % 64 - 128)) * 64 + (128 + c % 64 - 128) = c := by omega
    simp [hp, get, hf, conts, got, k1, k2, k3, e, h]
theorem conts_some (r : List Int) (n : Nat) (c d : Int) (h : conts r n c = some d) : n = 0 ∧ d = c ∨ ∃ x t m, n = m + 1 ∧ r = x :: t ∧ 128 ≤ x ∧ x < 192 ∧ conts t m (c * 64 + (x - 128)) = some d := by
  cases n with
  | zero => left; rw [conts_zero] at h; cases h; exact ⟨rfl, rfl⟩
  | succ m =>
    right
    cases r with
    | nil => simp [conts] at h
    | cons x t =>
      rw [conts_succ] at h
      by_cases hx : cont x = true
      · rw [if_pos hx] at h; exact ⟨x, t, m, rfl, rfl, ((cont_iff x).1 hx).1, ((cont_iff x).1 hx).2, h⟩
      · rw [if_neg hx] at h; cases h
theorem at_of_get (r : List Int) (hb : ∀ x ∈ r, 0 ≤ x) (h : 0 < (get r).2) : At r (get r).1 (get r).2 := by
  cases r with
  | nil => simp [get] at h
  | cons x r =>
    have hx0 : 0 ≤ x := hb x (by simp)
    rcases fst_cases x with ⟨a, hf⟩ | ⟨a, b, hf⟩ | ⟨a, b, hf⟩ | ⟨a, b, hf⟩ | hf
    · have e := (size_eq x).1 hx0 a
      simp [get, hf, conts_zero, got, e] at h ⊢
      refine ⟨by omega, by simpa using e, ?_⟩
      simp [put, e]
    · by_cases hl : r.length + 1 < 2
      · simp [get, hf, hl] at h
      cases hc : conts r 1 (x - 192) with
      | none => simp [get, hf, hl, hc, got] at h
      | some d =>
        by_cases hs : size d = 2
        · simp only [get, hf, hl, hc, got, hs] at h ⊢
          obtain ⟨h0, _⟩ | ⟨y1, t0, m0, hm0, rfl, l0, u0, hc0⟩ := conts_some _ _ _ _ hc
          · omega
          obtain rfl : m0 = 0 := by omega
          rw [conts_zero] at hc0
          cases hc0
          have hz := size_cases ((x - 192) * 64 + (y1 - 128))
          simp at h ⊢
          refine ⟨by omega, hs, t0, ?_⟩
          rcases hz with ⟨q, _⟩ | ⟨q, _⟩ | ⟨q, _, _, hp⟩ | ⟨q, _, _, _, hp⟩ | ⟨q, _, _, hp⟩ <;> rw [q] at hs <;> first | omega | (rw [hp]; simp; omega)
        · simp [get, hf, hl, hc, got, hs] at h
    · by_cases hl : r.length + 1 < 3
      · simp [get, hf, hl] at h
      cases hc : conts r 2 (x - 224) with
      | none => simp [get, hf, hl, hc, got] at h
      | some d =>
        by_cases hs : size d = 3
        · simp only [get, hf, hl, hc, got, hs] at h ⊢
          obtain ⟨h0, _⟩ | ⟨y1, t0, m0, hm0, rfl, l0, u0, hc0⟩ := conts_some _ _ _ _ hc
          · omega
          obtain rfl : m0 = 1 := by omega
          obtain ⟨h0, _⟩ | ⟨y2, t1, m1, hm1, rfl, l1, u1, hc1⟩ := conts_some _ _ _ _ hc0
          · omega
          obtain rfl : m1 = 0 := by omega
          rw [conts_zero] at hc1
          cases hc1
          have hz := size_cases (((x - 224) * 64 + (y1 - 128)) * 64 + (y2 - 128))
          simp at h ⊢
          refine ⟨by omega, hs, t1, ?_⟩
          rcases hz with ⟨q, _⟩ | ⟨q, _⟩ | ⟨q, _, _, hp⟩ | ⟨q, _, _, _, hp⟩ | ⟨q, _, _, hp⟩ <;> rw [q] at hs <;> first | omega | (rw [hp]; simp; omega)
        · simp [get, hf, hl, hc, got, hs] at h
    · by_cases hl : r.length + 1 < 4
      · simp [get, hf, hl] at h
      cases hc : conts r 3 (x - 240) with
      | none => simp [get, hf, hl, hc, got] at h
      | some d =>
        by_cases hs : size d = 4
        · simp only [get, hf, hl, hc, got, hs] at h ⊢
          obtain ⟨h0, _⟩ | ⟨y1, t0, m0, hm0, rfl, l0, u0, hc0⟩ := conts_some _ _ _ _ hc
          · omega
          obtain rfl : m0 = 2 := by omega
          obtain ⟨h0, _⟩ | ⟨y2, t1, m1, hm1, rfl, l1, u1, hc1⟩ := conts_some _ _ _ _ hc0
          · omega
          obtain rfl : m1 = 1 := by omega
          obtain ⟨h0, _⟩ | ⟨y3, t2, m2, hm2, rfl, l2, u2, hc2⟩ := conts_some _ _ _ _ hc1
          · omega
          obtain rfl : m2 = 0 := by omega
          rw [conts_zero] at hc2
          cases hc2
          have hz := size_cases ((((x - 240) * 64 + (y1 - 128)) * 64 + (y2 - 128)) * 64 + (y3 - 128))
          simp at h ⊢
          refine ⟨by omega, hs, t2, ?_⟩
          rcases hz with ⟨q, _⟩ | ⟨q, _⟩ | ⟨q, _, _, hp⟩ | ⟨q, _, _, _, hp⟩ | ⟨q, _, _, hp⟩ <;> rw [q] at hs <;> first | omega | (rw [hp]; simp; omega)
        · simp [get, hf, hl, hc, got, hs] at h
    · simp [get, hf] at h
def lead (x : Int) : Int := if 240 ≤ x then x - 240 else if 224 ≤ x then x - 224 else if 192 ≤ x then x - 192 else x
/-- the number that the document's answer makes of the first n bytes -/
def refC (r : List Int) : Nat → Int
  | 0 => 0
  | 1 => lead (r[0]?.getD 0)
  | n + 2 => refC r (n + 1) * 64 + r[n + 1]?.getD 0 % 64
theorem refC_of (r : List Int) (c : Int) (n : Nat) (h : At r c n) : refC r n = c ∧ r.take n = put c ∧ n ≤ 4 ∧ n ≤ r.length := by
  obtain ⟨hn, hs, t, rfl⟩ := h
  rcases size_cases c with ⟨h, hp⟩ | ⟨h, a, b, hp⟩ | ⟨h, a, b, hp⟩ | ⟨h, a, b, d, hp⟩ | ⟨h, a, b, hp⟩ <;> rw [h] at hs
  · omega
  · obtain rfl : n = 1 := by omega
    simp [hp, refC, lead]; omega
  · obtain rfl : n = 2 := by omega
    simp [hp, refC, lead]; omega
  · obtain rfl : n = 3 := by omega
    simp [hp, refC, lead]; omega
  · obtain rfl : n = 4 := by omega
    simp [hp, refC, lead]; omega
theorem at_of_take (r : List Int) (c : Int) (n : Nat) (hn : 0 < n) (hl : n ≤ r.length) (h : put c = r.take n) : At r c n := by
  have h1 : (put c).length = n := by rw [h, List.length_take]; omega
  have h2 := put_len c
  refine ⟨hn, ?_, r.drop n, by rw [h, List.take_append_drop]⟩
  rw [h1] at h2
  rcases size_cases c with ⟨h, _⟩ | ⟨h, _⟩ | ⟨h, _⟩ | ⟨h, _⟩ | ⟨h, _⟩ <;> omega
/-- the number is bounded, so that nothing wraps -/
theorem refC_bd (r : List Int) (hb : ∀ i : Nat, 0 ≤ r[i]?.getD 0 ∧ r[i]?.getD 0 ≤ 255) : (∀ n, 0 ≤ refC r n) ∧ refC r 1 ≤ 191 ∧ refC r 2 ≤ 12287 ∧ refC r 3 ≤ 786431 ∧ refC r 4 ≤ 50331647 := by
  have h1 : 0 ≤ refC r 1 ∧ refC r 1 ≤ 191 := by have := hb 0; simp only [refC, lead]; (repeat' split) <;> omega
  refine ⟨fun n => ?_, h1.2, ?_, ?_, ?_⟩
  · induction n with
    | zero => simp [refC]
    | succ n ih => cases n with
      | zero => exact h1.1
      | succ n => have := hb (n + 1); simp only [refC]; omega
  all_goals simp only [refC] at h1 ⊢
  all_goals have := hb 1
  all_goals omega
end U
open Go.RowKit Go.Shelf
theorem refCode_any (c : Int) (w : World) :
    Calls Tryz.prog 140 #[.int .i64 c] w fun e w' => e = .returned (.bool (U.size c != 0)) ∧ w = w' := by
  have hz := U.size_cases c
  have hsz : ((U.size c != 0) = true ↔ (0 ≤ c ∧ c < 55296) ∨ (57343 < c ∧ c ≤ 1114111)) := by
    rw [bne_iff_ne]
    unfold U.size
    repeat' split
    all_goals simp
    all_goals omega
  generalize (U.size c != 0) = z at hsz ⊢
  have HZ := Lib.hid hsz; clear hsz hz
  go_enter Tryz.func140, Tryz.ntmps140
  go_wp2
  all_goals go_ret
  all_goals (refine ⟨ret_bool ?_, rfl⟩; have h := HZ.out; rw [Bool.eq_iff_iff, h]; simp; omega)
def Put (w : World) (c : Int) (e : Ending) (w' : World) : Prop := ∃ v, e = .returned v ∧ w'.ownsRow w.heap.size 5 1 v (U.put c).length (u8s (U.put c)) ∧ Below w.heap.size w w'
set_option maxHeartbeats 1000000 in
theorem refPut_any (c : Int) (w : World) : Calls Tryz.prog 129 #[.int .i64 c] w (Put w c) := by
  have hcode := refCode_any c
  have hb : ∀ l : List Value, Below w.heap.size w (w.alloc (.cells l.toArray 5)) := fun l => (Below.refl _ w).alloc (Nat.le_refl _) _
  rcases U.size_cases c with ⟨h, hp⟩ | ⟨h, a, b, hp⟩ | ⟨h, a, b, hp⟩ | ⟨h, a, b, d, hp⟩ | ⟨h, a, b, hp⟩
  · have hz : (U.size c != 0) = false := by simp [h]
    rw [hz] at hcode
    have H := Lib.hid h; have HP := Lib.hid hp; clear h hp hz
    go_enter Tryz.func129, Tryz.ntmps129
    go_wp2_with (first | (go_at_call 140; refine (hcode _).mono ?_; rintro e w' ⟨rfl, rfl⟩))
    go_ret
    exact ⟨_, rfl, by rw [HP.out]; exact World.ownsRow_nil _ _ _ _, Below.refl _ _⟩
  · have hz : (U.size c != 0) = true := by simp [h]
    rw [hz] at hcode
    have H := Lib.hid h; have HP := Lib.hid hp; clear h hp hz
    go_enter Tryz.func129, Tryz.ntmps129
    go_wp2_with (first | (go_at_call 140; refine (hcode _).mono ?_; rintro e w' ⟨rfl, rfl⟩))
    go_ret
    exact ⟨_, rfl, by rw [HP.out]; exact owns_built w _ _ 1 rfl (by unfold maxLen; omega), hb [_]⟩
  · have hz : (U.size c != 0) = true := by simp [h]
    rw [hz] at hcode
    have H := Lib.hid h; have HP := Lib.hid hp; clear h hp hz
    have e1 : (192 + c / 64) % 256 = 192 + c / 64 := by omega
    have e2 : (128 + c % 64) % 256 = 128 + c % 64 := by omega
    go_enter Tryz.func129, Tryz.ntmps129
    go_wp2_with (first | (go_at_call 140; refine (hcode _).mono ?_; rintro e w' ⟨rfl, rfl⟩))
    go_ret
    exact ⟨_, rfl, by rw [HP.out]; exact owns_built w _ _ 2 rfl (by unfold maxLen; omega), hb [_, _]⟩
  · have hz : (U.size c != 0) = true := by simp [h]
    rw [hz] at hcode
    have H := Lib.hid h; have HP := Lib.hid hp; clear h hp hz
    have e1 : (224 + c / 4096) % 256 = 224 + c / 4096 := by omega
    have e2 : (128 + c % 64) % 256 = 128 + c % 64 := by omega
    have e3 : (128 + c / 64 % 64) % 256 = 128 + c / 64 % 64 := by omega
    go_enter Tryz.func129, Tryz.ntmps129
    go_wp2_with (first | (go_at_call 140; refine (hcode _).mono ?_; rintro e w' ⟨rfl, rfl⟩))
    go_ret
    exact ⟨_, rfl, by rw [HP.out]; exact owns_built w _ _ 3 rfl (by unfold maxLen; omega), hb [_, _, _]⟩
  · have hz : (U.size c != 0) = true := by simp [h]
    rw [hz] at hcode
    have H := Lib.hid h; have HP := Lib.hid hp; clear h hp hz
    have e1 : (240 + c / 262144) % 256 = 240 + c / 262144 := by omega
    have e2 : (128 + c % 64) % 256 = 128 + c % 64 := by omega
    have e3 : (128 + c / 64 % 64) % 256 = 128 + c / 64 % 64 := by omega
    have e4 : (128 + c / 4096 % 64) % 256 = 128 + c / 4096 % 64 := by omega
    go_enter Tryz.func129, Tryz.ntmps129
    go_wp2_with (first | (go_at_call 140; refine (hcode _).mono ?_; rintro e w' ⟨rfl, rfl⟩))
    go_ret
    exact ⟨_, rfl, by rw [HP.out]; exact owns_built w _ _ 4 rfl (by unfold maxLen; omega), hb [_, _, _, _]⟩
end Go.Proofs.YtibjjclfonpibaaGreat
