/- Package num's Parse and Scan. -/
import Derived.Test.YtcicjpdjbfgbhaaGreatDoorMh7Cell
import Derived.Test.YtcicjpdjbfgbhaaGreatDoorMh9Cell
namespace Go.Proofs.YtcicjpdjbfgbhaaGreatDoor
open Go.RowKit Go.Shelf
/-- so many digits' number, and the next digit's place -/
theorem M.next (l : List Int) (h : ∀ x ∈ l, M.isD x = true) (k : Nat) (hk : k < l.length) : 48 ≤ l[k]?.getD 0 ∧ l[k]?.getD 0 ≤ 57 ∧
    M.val (l.take (k + 1)) = M.val (l.take k) * 10 + (l[k]?.getD 0 - 48).toNat ∧ M.val (l.take k) < 10 ^ k := by
  have hm : l[k]?.getD 0 ∈ l := by rw [List.getElem?_eq_getElem hk]; exact List.getElem_mem hk
  have h1 := h _ hm
  simp [M.isD] at h1
  refine ⟨h1.1, h1.2, ?_, ?_⟩
  · rw [take_succ_getD l k hk, M.val_snoc]
  · have := M.val_lt (l.take k) (fun x hx => h x (List.mem_of_mem_take hx))
    rwa [List.length_take, Nat.min_eq_left (by omega)] at this
set_option maxHeartbeats 1000000 in
theorem numParse_any (s : ByteArray) (w : World) (hsm : s.size ≤ maxLen) :
    Calls Tryz.prog 104 #[.string s] w fun e w' => e = .returned (.tuple #[.int .i64 (M.parse (strB s)).1, .int .i64 (M.parse (strB s)).2]) ∧ w = w' := by
  have hfo := formed_any s w hsm
  have hsg := sign_any s 0 w hsm (Nat.zero_le _)
  rw [show ((0 : Nat) : Int) = 0 from rfl] at hsg
  by_cases hf : M.formed (strB s)
  · have hfd : decide (M.formed (strB s)) = true := decide_eq_true hf
    rw [hfd] at hfo
    have hfm := M.formed_fm _ hf
    have hsl := M.sgn_le (strB s) 0 (Nat.zero_le _)
    rw [strB_len] at hsl
    have hpa : M.parse (strB s) = M.sg (M.val ((strB s).drop (M.sgn (strB s) 0))) (decide (0 < M.sgn (strB s) 0)) := by unfold M.parse; rw [if_pos hf]
    obtain ⟨p, hp⟩ : ∃ p, M.sgn (strB s) 0 = p := ⟨_, rfl⟩
    rw [hp] at hsg hsl hpa hfm
    obtain ⟨l, hl⟩ : ∃ l, (strB s).drop p = l := ⟨_, rfl⟩
    have hll : l.length = s.size - p := by rw [← hl]; simp [strB_len]
    have hlx : ∀ k, l[k]?.getD 0 = (strB s)[p + k]?.getD 0 := fun k => by rw [← hl]; simp
    rw [hl] at hpa hfm
    unfold maxLen at hsm
    obtain ⟨g, hg⟩ : ∃ g, M.parse (strB s) = g := ⟨_, rfl⟩
    rw [hg] at hpa ⊢
    clear hfd hf hp hl hg
    by_cases h19 : s.size - p > 19
    · have hv := M.long_val l hfm (by omega)
      obtain rfl : g = (0, 5) := by rw [hpa]; unfold M.sg; split <;> (rw [if_neg (by omega)])
      have hd : decide (19 < (s.size : Int) - p) = true := by simp; omega
      have HPA := Lib.hid hpa; clear hpa
      have HFM := Lib.hid hfm; clear hfm
      go_enter Tryz.func104, Tryz.ntmps104
      go_wp2_with (first | (go_at_call 106; (with_reducible refine hfo.mono ?_); rintro e w' ⟨rfl, rfl⟩) | (go_at_call 103; (with_reducible refine hsg.mono ?_); rintro e w' ⟨rfl, rfl⟩))
      go_ret2
      exact ⟨rfl, rfl⟩
    · have hd : decide (19 < (s.size : Int) - p) = false := by simp; omega
      have HPA := Lib.hid hpa; clear hpa
      have hnx := M.next l hfm.2.1
      have HFM := Lib.hid hfm; clear hfm
      have hsn := fun w => signed_any (M.val l) (decide (0 < p)) w
      rw [← HPA.out] at hsn
      have hvl : (M.val l : Int) ≤ 18446744073709551615 := by
        have := M.val_lt l HFM.out.2.1
        have := Nat.pow_le_pow_right (show 0 < 10 by omega) (show l.length ≤ 19 by omega)
        omega
      go_enter Tryz.func104, Tryz.ntmps104
      go_wp2_with (first | (go_at_call 106; (with_reducible refine hfo.mono ?_); rintro e w' ⟨rfl, rfl⟩) | (go_at_call 103; (with_reducible refine hsg.mono ?_); rintro e w' ⟨rfl, rfl⟩))
      go_loop [5, 6] (fun m i => ∃ k : Nat, k ≤ s.size - p ∧ m = .int .u64 (M.val (l.take k) : Nat) ∧ i = .int .i64 (p + k : Nat)) (fun _ i => s.size - (intOf i).toNat)
      case atStart => exact ⟨0, Nat.zero_le _, rfl, rfl⟩
      case round =>
        obtain ⟨k, hk, rfl, rfl⟩ := hrel
        rcases Nat.lt_or_ge k (s.size - p) with hlt | hge
        · obtain ⟨hx0, hx1, hv, hvb⟩ := hnx k (by omega)
          have hpk : p + k < s.size := by omega
          rw [hlx k, strB_at s (p + k) hpk] at hx0 hx1 hv
          have hb := Nat.pow_le_pow_right (show 0 < 10 by omega) (show k ≤ 18 by omega)
          have hb : M.val (l.take k) ≤ 1000000000000000000 := by omega
          have HV := Lib.hid hv; clear hv hnx
          obtain ⟨v, hve⟩ : ∃ v, M.val (l.take k) = v := ⟨_, rfl⟩
          rw [hve] at hb hvb HV ⊢
          have HVE := Lib.hid hve; clear hve hvb
          have hd2 : decide (p + k < s.size) = true := by simpa using hpk
          go_wp2
          go_round
          case rel => exact ⟨k + 1, by omega, by rw [HV.out]; go_num, by go_num⟩
          case measure => simp [intOf]; omega
        · obtain rfl : k = s.size - p := by omega
          have hd2 : decide (p + (s.size - p) < s.size) = false := by simp; omega
          have hv : M.val (l.take (s.size - p)) = M.val l := by rw [List.take_of_length_le (by omega)]
          rw [hv]; clear hv hnx
          go_wp2_with (first | (go_at_call 107; (with_reducible refine (hsn _ hvl).mono ?_); rintro e w' ⟨rfl, rfl⟩))
          go_ret2
          exact ⟨rfl, rfl⟩
  · have hfd : decide (M.formed (strB s)) = false := decide_eq_false hf
    rw [hfd] at hfo
    have hpa : M.parse (strB s) = (0, 2) := by unfold M.parse; rw [if_neg hf]
    rw [hpa]
    clear hpa hfd hf hsg
    go_enter Tryz.func104, Tryz.ntmps104
    go_wp2_with (first | (go_at_call 106; (with_reducible refine hfo.mono ?_); rintro e w' ⟨rfl, rfl⟩))
    go_ret2
    exact ⟨rfl, rfl⟩
theorem strB_sub (s : ByteArray) (a e : Nat) : strB (s.extract a e) = ((strB s).take e).drop a := by
  simp [strB, List.drop_take, List.map_take, List.map_drop]
theorem sub_size (s : ByteArray) (a e : Nat) (h : e ≤ s.size) : (s.extract a e).size = e - a := by simp; omega
set_option maxHeartbeats 1000000 in
theorem numScan_any (s : ByteArray) (p : Int) (w : World) (hsm : s.size ≤ maxLen) (hp : -9223372036854775808 ≤ p) (hp' : p ≤ 9223372036854775807) :
    Calls Tryz.prog 100 #[.string s, .int .i64 p] w fun e w' => e = .returned (.tuple #[.int .i64 (M.scan (strB s) p).1, .int .i64 (M.scan (strB s) p).2.1, .int .i64 (M.scan (strB s) p).2.2]) ∧ w = w' := by
  by_cases hin : 0 ≤ p ∧ p ≤ s.size
  · obtain ⟨q, rfl⟩ := Int.eq_ofNat_of_zero_le hin.1
    have hq : q ≤ s.size := by omega
    have hsg := fun w => sign_any s q w hsm (by omega)
    have hsl := M.sgn_le (strB s) q (by rw [strB_len]; exact hq)
    rw [strB_len] at hsl
    have hrn := fun w => run_any s (M.sgn (strB s) q) w hsm hsl.2.1
    have hrl := M.runTo_le (strB s) (M.sgn (strB s) q) (by rw [strB_len]; exact hsl.2.1)
    rw [strB_len] at hrl
    have hsc : M.scan (strB s) (q : Int) = if (M.parse (strB (s.extract q (M.runTo (strB s) (M.sgn (strB s) q))))).2 = 0 then ((M.parse (strB (s.extract q (M.runTo (strB s) (M.sgn (strB s) q))))).1, (M.runTo (strB s) (M.sgn (strB s) q) : Int), 0)
        else (0, (q : Int), (M.parse (strB (s.extract q (M.runTo (strB s) (M.sgn (strB s) q))))).2) := by
      unfold M.scan; rw [if_pos (by rw [strB_len]; omega), Int.toNat_natCast, strB_sub]
    obtain ⟨f, hf⟩ : ∃ f, M.sgn (strB s) q = f := ⟨_, rfl⟩
    simp only [hf] at hsg hsl hrn hrl hsc
    obtain ⟨e, he⟩ : ∃ e, M.runTo (strB s) f = e := ⟨_, rfl⟩
    simp only [he] at hrn hrl hsc
    have hpa := fun w => numParse_any (s.extract q e) w (by rw [sub_size _ _ _ hrl.2]; unfold maxLen at *; omega)
    obtain ⟨r, hr⟩ : ∃ r, M.parse (strB (s.extract q e)) = r := ⟨_, rfl⟩
    simp only [hr] at hpa hsc
    unfold maxLen at hsm
    clear hf he hr
    by_cases h0 : r.2 = 0
    · rw [if_pos h0] at hsc
      have hn : (r.2 != 0) = false := by simpa using h0
      rw [hsc]; clear hsc h0
      obtain ⟨r1, r2⟩ := r
      go_enter Tryz.func100, Tryz.ntmps100
      go_wp2_with (first | (go_at_call 103; (with_reducible refine (hsg _).mono ?_); rintro e w' ⟨rfl, rfl⟩) | (go_at_call 102; (with_reducible refine (hrn _).mono ?_); rintro e w' ⟨rfl, rfl⟩) | (go_at_call 104; (with_reducible refine (hpa _).mono ?_); rintro e w' ⟨rfl, rfl⟩))
      go_ret3
      exact ⟨rfl, rfl⟩
    · rw [if_neg h0] at hsc
      have hn : (r.2 != 0) = true := by simpa using h0
      rw [hsc]; clear hsc h0
      obtain ⟨r1, r2⟩ := r
      go_enter Tryz.func100, Tryz.ntmps100
      go_wp2_with (first | (go_at_call 103; (with_reducible refine (hsg _).mono ?_); rintro e w' ⟨rfl, rfl⟩) | (go_at_call 102; (with_reducible refine (hrn _).mono ?_); rintro e w' ⟨rfl, rfl⟩) | (go_at_call 104; (with_reducible refine (hpa _).mono ?_); rintro e w' ⟨rfl, rfl⟩))
      go_ret3
      exact ⟨rfl, rfl⟩
  · have hsc : M.scan (strB s) p = (0, p, 2) := by unfold M.scan; rw [if_neg (by rw [strB_len]; exact hin)]
    rw [hsc]; clear hsc
    unfold maxLen at hsm
    by_cases h0 : p < 0
    · have hd : decide (p < 0) = true := by simpa using h0
      go_enter Tryz.func100, Tryz.ntmps100
      go_wp2
      go_ret3
      exact ⟨rfl, rfl⟩
    · have hd : decide (p < 0) = false := by simpa using h0
      have hd2 : decide ((s.size : Int) < p) = true := by simp; omega
      go_enter Tryz.func100, Tryz.ntmps100
      go_wp2
      go_ret3
      exact ⟨rfl, rfl⟩
end Go.Proofs.YtcicjpdjbfgbhaaGreatDoor

/- Layer 14: the model: the value at a place of a text, or where it is wrong (no walk). -/
set_option linter.unusedVariables false
namespace Go.Proofs.YtcicjpdjbfgbhaaGreatDoor
open Go.RowKit Go.Shelf
namespace Vt
/-- what comes, or where it is wrong, and the error -/
abbrev Out (α : Type) := Sum (Nat × Int) α
/-- where a row of bytes of a kind ends -/
def runTo (f : Int → Bool) (l : List Int) (p : Nat) : Nat := p + ((l.drop p).takeWhile f).length
theorem runTo_le (f : Int → Bool) (l : List Int) (p : Nat) (hp : p ≤ l.length) : p ≤ runTo f l p ∧ runTo f l p ≤ l.length := by
  have := (List.takeWhile_prefix f (l := l.drop p)).length_le
  simp at this
  unfold runTo; omega
theorem runTo_step (f : Int → Bool) (l : List Int) (p : Nat) (hp : p < l.length) (h : f (l[p]?.getD 0) = true) : runTo f l p = runTo f l (p + 1) := by
  have e : l.drop p = l[p]?.getD 0 :: l.drop (p + 1) := by rw [List.drop_eq_getElem_cons hp, List.getElem?_eq_getElem hp]; rfl
  unfold runTo; rw [e]; simp only [List.takeWhile_cons, h, if_true, List.length_cons]; omega
theorem runTo_stop (f : Int → Bool) (l : List Int) (p : Nat) (h : p < l.length → f (l[p]?.getD 0) = false) : runTo f l p = p := by
  unfold runTo
  rcases Nat.lt_or_ge p l.length with hp | hp
  · have e : l.drop p = l[p]?.getD 0 :: l.drop (p + 1) := by rw [List.drop_eq_getElem_cons hp, List.getElem?_eq_getElem hp]; rfl
    rw [e]; simp [h hp]
  · rw [List.drop_eq_nil_of_le hp]; simp
/-- the bytes from a place to another -/
def part (l : List Int) (p q : Nat) : List Int := (l.take q).drop p
/-- a text's bytes, from behind its quote on -/
def txt : Nat → List Int → Nat → List Int → Out (List Int × Nat)
  | 0, _, _, _ => .inl (0, 0)
  | f + 1, l, p, acc =>
    if l.length ≤ p then .inl (l.length, 2)
    else if l[p]?.getD 0 = 34 then .inr (acc, p + 1)
    else if l[p]?.getD 0 = 92 then
      if p + 1 < l.length ∧ (l[p + 1]?.getD 0 = 34 ∨ l[p + 1]?.getD 0 = 92) then txt f l (p + 2) (acc ++ [l[p + 1]?.getD 0]) else .inl (p, 2)
    else txt f l (p + 1) (acc ++ [l[p]?.getD 0])
/-- a list's values, one behind the other -/
def items (rv : Nat → Out (PV × Nat)) (l : List Int) : Nat → Nat → List PV → Out (List PV × Nat)
  | 0, _, _ => .inl (0, 0)
  | f + 1, p, acc => match rv p with
    | .inl e => .inl e
    | .inr (v, q) =>
      if l.length ≤ q then .inl (l.length, 2)
      else if l[q]?.getD 0 = 32 then items rv l f (q + 1) (acc ++ [v])
      else if l[q]?.getD 0 = 93 then .inr (acc ++ [v], q + 1)
      else .inl (q, 2)
def lst (rv : Nat → Out (PV × Nat)) (l : List Int) (p : Nat) : Out (List PV × Nat) :=
  if l.length ≤ p then .inl (l.length, 2) else if l[p]?.getD 0 = 93 then .inr ([], p + 1) else items rv l (l.length + 1) p []
/-- a word's value -/
def word (t : List Int) : Option PV :=
  if t = [110, 117, 108, 108] then some (.mk 0 0 ⟨#[]⟩ [])
  else if t = [102, 97, 108, 115, 101] then some (.mk 1 0 ⟨#[]⟩ [])
  else if t = [116, 114, 117, 101] then some (.mk 1 1 ⟨#[]⟩ []) else none
def txV (T : Out (List Int × Nat)) : Out (PV × Nat) := match T with | .inl e => .inl e | .inr (t, q) => .inr (.mk 4 0 (strOfNums t) [], q)
def wdV (W : Option PV) (p q : Nat) : Out (PV × Nat) := match W with | some v => .inr (v, q) | none => .inl (p, 2)
def lsV (L : Out (List PV × Nat)) : Out (PV × Nat) := match L with | .inl e => .inl e | .inr (vs, q) => .inr (.mk 5 0 ⟨#[]⟩ vs, q)
/-- the values that are no lists -/
def flat (l : List Int) (p : Nat) : Out (PV × Nat) :=
  if l[p]?.getD 0 = 34 then txV (txt (l.length + 1) l (p + 1) [])
  else if l[p]?.getD 0 = 39 then (if nameB (part l (p + 1) (runTo withinB l (p + 1))) then .inr (.mk 3 0 (strOfNums (part l (p + 1) (runTo withinB l (p + 1)))) [], runTo withinB l (p + 1)) else .inl (p + 1, 2))
  else if l[p]?.getD 0 = 45 ∨ M.isD (l[p]?.getD 0) = true then (if (M.scan l p).2.2 = 0 then .inr (.mk 2 (M.scan l p).1 ⟨#[]⟩ [], (M.scan l p).2.1.toNat) else .inl (p, (M.scan l p).2.2))
  else if letterB (l[p]?.getD 0) = true then wdV (word (part l p (runTo letterB l p))) p (runTo letterB l p)
  else .inl (p, 2)
/-- the value at a place; sub: the values of the list that begins behind a place -/
def one (sub : Nat → Out (List PV × Nat)) (l : List Int) (p : Nat) : Out (PV × Nat) :=
  if l.length ≤ p then .inl (l.length, 2)
  else if l[p]?.getD 0 = 91 then lsV (sub p)
  else flat l p
/-- .. so many lists deep -/
def val : Nat → List Int → Nat → Out (PV × Nat)
  | 0, l => one (fun p => .inl (p, 3)) l
  | d + 1, l => one (fun p => lst (val d l) l (p + 1)) l
/-- Scan's answer: the value, the place, the error -/
def scan (l : List Int) (a : Int) : PV × Int × Int :=
  if 0 ≤ a ∧ a ≤ l.length then
    match val 4 l a.toNat with
    | .inl (q, e) => (.mk 0 0 ⟨#[]⟩ [], q, e)
    | .inr (v, q) => if rightV v then (v, q, 0) else (.mk 0 0 ⟨#[]⟩ [], a, 4)
  else (.mk 0 0 ⟨#[]⟩ [], a, 1)
def parse (l : List Int) : PV × Int × Int :=
  if (scan l 0).2.2 = 0 ∧ (scan l 0).2.1 < l.length then (.mk 0 0 ⟨#[]⟩ [], (scan l 0).2.1, 2) else scan l 0
theorem txt_place {f : Nat} : ∀ {l : List Int} {p : Nat} {acc t : List Int} {q : Nat}, txt f l p acc = .inr (t, q) → p < q ∧ q ≤ l.length ∧ t.length + p < acc.length + q := by
  induction f with
  | zero => intro l p acc t q h; simp [txt] at h
  | succ f ih =>
    intro l p acc t q h
    simp only [txt] at h
    split at h
    · cases h
    · split at h
      · simp only [Sum.inr.injEq, Prod.mk.injEq] at h; obtain ⟨rfl, rfl⟩ := h; omega
      · split at h
        · split at h
          · have := ih h; simp at this; omega
          · cases h
        · have := ih h; simp at this; omega
theorem items_place {rv : Nat → Out (PV × Nat)} {l : List Int} (hrv : ∀ p v q, p ≤ l.length → rv p = .inr (v, q) → p + szV v ≤ q ∧ q ≤ l.length) {f : Nat} : ∀ {p : Nat} {acc vs : List PV} {q : Nat}, p ≤ l.length → items rv l f p acc = .inr (vs, q) → p + szL vs ≤ q + szL acc ∧ q ≤ l.length ∧ p < q := by
  induction f with
  | zero => intro p acc vs q _ h; simp [items] at h
  | succ f ih =>
    intro p acc vs q hp h
    simp only [items] at h
    split at h
    · cases h
    · rename_i v q1 hv
      have h1 := hrv _ _ _ hp hv
      split at h
      · cases h
      · split at h
        · have := ih (by omega) h
          rw [szL_append] at this
          simp only [szL] at this
          omega
        · split at h
          · simp only [Sum.inr.injEq, Prod.mk.injEq] at h
            obtain ⟨rfl, rfl⟩ := h
            rw [szL_append]
            simp only [szL]
            omega
          · cases h
theorem lst_place {rv : Nat → Out (PV × Nat)} {l : List Int} (hrv : ∀ p v q, p ≤ l.length → rv p = .inr (v, q) → p + szV v ≤ q ∧ q ≤ l.length) {p : Nat} {vs : List PV} {q : Nat} (hp : p ≤ l.length) (h : lst rv l p = .inr (vs, q)) : p + szL vs ≤ q ∧ q ≤ l.length ∧ p < q := by
  unfold lst at h
  split at h
  · cases h
  · split at h
    · simp only [Sum.inr.injEq, Prod.mk.injEq] at h
      obtain ⟨rfl, rfl⟩ := h
      simp only [szL]; omega
    · have := items_place hrv hp h
      simp only [szL] at this; omega
theorem scan_place (l : List Int) (p : Nat) (hp : p < l.length) (h : (M.scan l p).2.2 = 0) : p < (M.scan l p).2.1.toNat ∧ (M.scan l p).2.1.toNat ≤ l.length ∧ ((M.scan l p).2.1.toNat : Int) = (M.scan l p).2.1 := by
  unfold M.scan at h ⊢
  have hin : (0 : Int) ≤ (p : Int) ∧ (p : Int) ≤ l.length := by omega
  rw [if_pos hin] at h ⊢
  rw [Int.toNat_natCast] at h ⊢
  have h1 := M.sgn_le l p (by omega)
  have h2 := M.runTo_le l (M.sgn l p) h1.2.1
  split at h
  · rename_i he
    rw [if_pos he]
    refine ⟨?_, by simp only [Int.toNat_natCast]; omega, by simp only [Int.toNat_natCast]⟩
    simp only [Int.toNat_natCast]
    rcases Nat.lt_or_ge p (M.runTo l (M.sgn l p)) with h3 | h3
    · exact h3
    · have e : (l.take (M.runTo l (M.sgn l p))).drop p = [] := List.drop_eq_nil_of_le (by simp; omega)
      rw [e] at he
      exact absurd he (by decide)
  · rename_i he
    exact absurd h he
theorem flat_place {l : List Int} {p : Nat} {v : PV} {q : Nat} (hp : p < l.length) (h : flat l p = .inr (v, q)) : p < q ∧ q ≤ l.length ∧ szV v = 1 := by
  unfold flat txV wdV at h
  split at h
  · split at h
    · cases h
    · rename_i t q1 ht
      have := txt_place ht
      simp only [Sum.inr.injEq, Prod.mk.injEq] at h
      obtain ⟨rfl, rfl⟩ := h
      simp [szV, szL]; omega
  · split at h
    · split at h
      · have := runTo_le withinB l (p + 1) hp
        simp only [Sum.inr.injEq, Prod.mk.injEq] at h
        obtain ⟨rfl, rfl⟩ := h
        simp [szV, szL]; omega
      · cases h
    · split at h
      · split at h
        · rename_i he
          have := scan_place l p hp he
          simp only [Sum.inr.injEq, Prod.mk.injEq] at h
          obtain ⟨rfl, rfl⟩ := h
          simp [szV, szL]; omega
        · cases h
      · split at h
        · rename_i hl
          have h1 := runTo_le letterB l (p + 1) hp
          rw [← runTo_step letterB l p hp hl] at h1
          split at h
          · rename_i w hw
            simp only [Sum.inr.injEq, Prod.mk.injEq] at h
            obtain ⟨rfl, rfl⟩ := h
            have : szV w = 1 := by
              unfold word at hw
              split at hw
              · cases hw; simp [szV, szL]
              · split at hw
                · cases hw; simp [szV, szL]
                · split at hw
                  · cases hw; simp [szV, szL]
                  · cases hw
            omega
          · cases h
        · cases h
theorem one_place {sub : Nat → Out (List PV × Nat)} {l : List Int} (hs : ∀ p vs q, p < l.length → sub p = .inr (vs, q) → p + szL vs < q ∧ q ≤ l.length) {p : Nat} {v : PV} {q : Nat} (h : one sub l p = .inr (v, q)) : p + szV v ≤ q ∧ q ≤ l.length := by
  unfold one lsV at h
  split at h
  · cases h
  · split at h
    · split at h
      · cases h
      · rename_i vs q1 hv
        have := hs _ _ _ (by omega) hv
        simp only [Sum.inr.injEq, Prod.mk.injEq] at h
        obtain ⟨rfl, rfl⟩ := h
        simp only [szV]; omega
    · have := flat_place (by omega) h
      omega
theorem val_place (l : List Int) : ∀ d p v q, val d l p = .inr (v, q) → p + szV v ≤ q ∧ q ≤ l.length := by
  intro d
  induction d with
  | zero => intro p v q h; exact one_place (fun _ _ _ _ h => by cases h) h
  | succ d ih =>
    intro p v q h
    refine one_place (fun p vs q hp h => ?_) h
    have := lst_place (fun p v q _ h => ih p v q h) (by omega) h
    omega
end Vt
end Go.Proofs.YtcicjpdjbfgbhaaGreatDoor
