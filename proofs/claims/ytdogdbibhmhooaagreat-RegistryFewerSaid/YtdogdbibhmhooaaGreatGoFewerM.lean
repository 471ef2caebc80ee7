/- Proved: the statement RegistryFewer: a right registry less one of its templates is right, has fewer bytes, and another one; for every input, without any condition. (Out of its walk: the frame alone, the arguments are opened, and shut again as they were.) -/
import Derived.Test.YtdogdbibhmhooaaGreatMh46Regi
import Derived.Test.YtdogdbibhmhooaaGreatMh22Regi
import Derived.ProofKit
import Derived.OpenShut
import Derived.ShutString
import Derived.ChangeOld
import Derived.Below
set_option linter.unusedVariables false
set_option linter.unusedSimpArgs false
set_option maxRecDepth 100000
namespace Go.Proofs.YtdogdbibhmhooaaGreat
open Go.RowKit Go.Shelf
theorem addr_add3 (ad : Addr) (q j : Nat) : (ad.add q).add j = ad.add (q + j) := by
  obtain ⟨b, o, sp⟩ := ad
  by_cases hq : q = 0 <;> by_cases hj : j = 0 <;> cases sp <;> simp [Addr.add, hq, hj, Nat.add_assoc]
theorem cells_part3 {W : World} {a : Option Addr} {n : Nat} {xs : List Value} (h : Cells W 3 a n xs) (q k m : Nat) (hk : q + k ≤ n) (hm : q + k ≤ m) : Cells W 3 (if m = q then a else a.map (·.add (q * 3))) k ((xs.drop (q * 3)).take (k * 3)) := by
  obtain ⟨h1, h2⟩ := h
  refine ⟨by rw [List.length_take, List.length_drop]; omega, ?_⟩
  rcases Nat.eq_zero_or_pos k with hk0 | hk0
  · exact .inl hk0
  · rcases h2 with h2 | ⟨ad, rfl, hc⟩
    · omega
    · rw [if_neg (by omega)]
      refine .inr ⟨ad.add (q * 3), rfl, fun j u hj => ?_⟩
      rw [List.getElem?_take] at hj
      split at hj
      · rw [List.getElem?_drop] at hj
        have := hc (q * 3 + j) u hj
        rw [addr_add3]
        exact this
      · cases hj
theorem size_templ9 (w : World) : (sizeOf (Tryz.prog.elem 22)).run Tryz.prog w = .ok 3 w := by kernel_rfl
theorem subT_high (a : Option Addr) (n c q : Nat) (hq : q ≤ n) (hnc : n ≤ c) : ∃ a', (∀ W, (Instr.slice 22 (.slice a n c) none (some (.int .i64 (q : Int))) none).run Tryz.prog W = .ok (.slice a' q c) W) ∧
    ∀ (W : World) (xs : List Value), Cells W 3 a n xs → Cells W 3 a' q (xs.take (q * 3)) := by
  refine ⟨if c = 0 then a else a.map (·.add (0 * 3)), fun W => ?_, fun W xs h => ?_⟩
  · have h1 := run_slice_h (P := Tryz.prog) W 22 a n c Tryz.underlying22 .i64 (q : Int) (by omega) (by omega)
    rw [size_templ9 W] at h1
    simpa [Result.andThen, sliced] using h1
  · have := cells_part3 h 0 q c (by omega) (by omega)
    simpa using this
theorem subT_low (a : Option Addr) (n c q : Nat) (hq : q ≤ n) (hnc : n ≤ c) : ∃ a', (∀ W, (Instr.slice 22 (.slice a n c) (some (.int .i64 (q : Int))) none none).run Tryz.prog W = .ok (.slice a' (n - q) (c - q)) W) ∧
    ∀ (W : World) (xs : List Value), Cells W 3 a n xs → Cells W 3 a' (n - q) (xs.drop (q * 3)) := by
  refine ⟨if c = q then a else a.map (·.add (q * 3)), fun W => ?_, fun W xs h => ?_⟩
  · have h1 := run_slice_l (P := Tryz.prog) W 22 a n c Tryz.underlying22 .i64 (q : Int) (by omega) (by omega)
    rw [size_templ9 W] at h1
    simpa [Result.andThen, sliced] using h1
  · have := cells_part3 h q (n - q) c (by omega) (by omega)
    rwa [List.take_of_length_le (by have := h.1; rw [List.length_drop]; omega)] at this
/-- three cells each, of templates that lie in w -/
def TCells (w : World) (l : List TemplM) (cs : List Value) : Prop := cs.length = l.length * 3 ∧ (∀ u ∈ cs, u.oneCell' = true) ∧
  ∀ (i : Nat) (t : TemplM), l[i]? = some t → ∃ sa sc ta tc, (cs[i * 3]? = some (.string t.nm) ∧ cs[i * 3 + 1]? = some (.slice sa t.slots.length sc) ∧ cs[i * 3 + 2]? = some (.slice ta t.steps.length tc)) ∧ t.nm.size ≤ maxLen ∧ SlotRow w sa sc t.slots ∧ StepRow w ta tc t.steps
theorem tCells_nil (w : World) : TCells w [] [] := ⟨rfl, by simp, fun i s h => by simp at h⟩
theorem tCells_append {w : World} {l r : List TemplM} {cs ds : List Value} (h : TCells w l cs) (k : TCells w r ds) : TCells w (l ++ r) (cs ++ ds) := by
  have hlen := h.1
  refine ⟨by rw [List.length_append, List.length_append, h.1, k.1]; omega, fun u hu => (List.mem_append.1 hu).elim (h.2.1 u) (k.2.1 u), fun i s hs => ?_⟩
  rcases Nat.lt_or_ge i l.length with hlt | hge
  · rw [List.getElem?_append_left hlt] at hs
    obtain ⟨sa, sc, ta, tc, hc, h7⟩ := h.2.2 i s hs
    refine ⟨sa, sc, ta, tc, ?_, h7⟩
    rw [List.getElem?_append_left (by omega), List.getElem?_append_left (by omega), List.getElem?_append_left (by omega)]
    exact hc
  · rw [List.getElem?_append_right hge] at hs
    obtain ⟨sa, sc, ta, tc, hc, h7⟩ := k.2.2 _ s hs
    refine ⟨sa, sc, ta, tc, ?_, h7⟩
    rw [List.getElem?_append_right (by omega), List.getElem?_append_right (by omega), List.getElem?_append_right (by omega)]
    have e : ∀ j, i * 3 + j - cs.length = (i - l.length) * 3 + j := fun j => by rw [hlen]; omega
    rw [show i * 3 - cs.length = (i - l.length) * 3 by rw [hlen]; omega, e 1, e 2]
    exact hc
theorem tCells_one {w : World} {t : TemplM} {sa : Option Addr} {sc : Nat} {ta : Option Addr} {tc : Nat} (h : t.nm.size ≤ maxLen) (h1 : SlotRow w sa sc t.slots) (h2 : StepRow w ta tc t.steps) : TCells w [t] [.string t.nm, .slice sa t.slots.length sc, .slice ta t.steps.length tc] :=
  ⟨rfl, by simp [Value.oneCell'], fun i s hs => by
    have hi : i < 1 := (List.getElem?_eq_some_iff.1 hs).1
    obtain rfl : i = 0 := by omega
    simp only [List.getElem?_cons_zero, Option.some.injEq] at hs
    subst hs
    exact ⟨_, _, _, _, ⟨rfl, rfl, rfl⟩, h, h1, h2⟩⟩
theorem tCells_take {w : World} {l : List TemplM} {cs : List Value} (h : TCells w l cs) (n : Nat) (hn : n ≤ l.length) : TCells w (l.take n) (cs.take (n * 3)) :=
  ⟨by rw [List.length_take, List.length_take, h.1]; omega, fun u hu => h.2.1 u (List.mem_of_mem_take hu), fun i s hs => by
    rw [List.getElem?_take] at hs
    split at hs
    · rename_i hi
      obtain ⟨sa, sc, ta, tc, hc, h7⟩ := h.2.2 i s hs
      refine ⟨sa, sc, ta, tc, ?_, h7⟩
      rw [List.getElem?_take, if_pos (by omega), List.getElem?_take, if_pos (by omega), List.getElem?_take, if_pos (by omega)]
      exact hc
    · cases hs⟩
theorem tCells_drop {w : World} {l : List TemplM} {cs : List Value} (h : TCells w l cs) (n : Nat) : TCells w (l.drop n) (cs.drop (n * 3)) :=
  ⟨by rw [List.length_drop, List.length_drop, h.1]; omega, fun u hu => h.2.1 u (List.mem_of_mem_drop hu), fun i s hs => by
    rw [List.getElem?_drop] at hs
    obtain ⟨sa, sc, ta, tc, ⟨q0, q1, q2⟩, h7⟩ := h.2.2 (n + i) s hs
    refine ⟨sa, sc, ta, tc, ⟨?_, ?_, ?_⟩, h7⟩
    · rw [List.getElem?_drop, show n * 3 + i * 3 = (n + i) * 3 by omega]; exact q0
    · rw [List.getElem?_drop, show n * 3 + (i * 3 + 1) = (n + i) * 3 + 1 by omega]; exact q1
    · rw [List.getElem?_drop, show n * 3 + (i * 3 + 2) = (n + i) * 3 + 2 by omega]; exact q2⟩
/-- a row of templates as cells -/
theorem tCells_row {w : World} {a : Option Addr} {cap : Nat} {l : List TemplM} (h : TemplRow w a cap l) : ∃ cs, TCells w l cs ∧ Cells w 3 a l.length cs := by
  obtain ⟨h1, h2, h3⟩ := h
  rcases h3 with h3 | ⟨b, off, rfl, hc⟩
  · subst h3
    exact ⟨[], tCells_nil w, rfl, .inl rfl⟩
  · clear h1 h2
    suffices H : ∀ (k : Nat), k ≤ l.length → ∃ cs, TCells w (l.take k) cs ∧ ∀ j u, cs[j]? = some u → w.cell? ⟨b, off + j, none⟩ = some u by
      obtain ⟨cs, g1, g2⟩ := H l.length (Nat.le_refl _)
      rw [List.take_length] at g1
      exact ⟨cs, g1, g1.1, .inr ⟨_, rfl, fun j u hu => by rw [Addr.add_lit]; exact g2 j u hu⟩⟩
    intro k
    induction k with
    | zero => intro _; exact ⟨[], by simpa using tCells_nil w, fun j u h => by simp at h⟩
    | succ k ih =>
      intro hk
      obtain ⟨cs, g1, g2⟩ := ih (by omega)
      have hs : l[k]? = some l[k] := List.getElem?_eq_getElem (by omega)
      obtain ⟨sa, sc, ta, tc, ⟨q0, q1, q2⟩, k1, k2, k3⟩ := hc k _ hs
      refine ⟨cs ++ [.string l[k].nm, .slice sa l[k].slots.length sc, .slice ta l[k].steps.length tc], ?_, fun j u hu => ?_⟩
      · rw [List.take_add_one, hs]
        exact tCells_append g1 (tCells_one k1 k2 k3)
      · have hlen : cs.length = k * 3 := by rw [g1.1, List.length_take, Nat.min_eq_left (by omega)]
        rcases Nat.lt_or_ge j cs.length with hlt | hge
        · rw [List.getElem?_append_left hlt] at hu
          exact g2 j u hu
        · rw [List.getElem?_append_right hge] at hu
          obtain ⟨m, rfl⟩ : ∃ m, j = k * 3 + m := ⟨j - k * 3, by omega⟩
          rw [hlen, show k * 3 + m - k * 3 = m by omega] at hu
          have hm : m < 3 := (List.getElem?_eq_some_iff.1 hu).1
          rw [show off + (k * 3 + m) = off + k * 3 + m by omega]
          match m, hm with
          | 0, _ => cases hu; exact q0
          | 1, _ => cases hu; exact q1
          | 2, _ => cases hu; exact q2
/-- a row of one's own is a row of templates -/
theorem templRow_own {w W : World} {B : Nat} {v : Value} {l : List TemplM} {cs : List Value} (h : W.ownsRow B 45 3 v l.length cs) (hs : TCells w l cs) (hb : Below w.heap.size w W) : ∃ a cap, v = .slice a l.length cap ∧ TemplRow W a cap l := by
  obtain ⟨h1, h2⟩ := h
  rcases h2 with ⟨rfl, hn⟩ | ⟨g, cap, cur, rfl, hg, hh, hn, hm, hsz, ht⟩
  · exact ⟨none, 0, by rw [hn], by omega, by unfold maxLen; omega, .inl (List.length_eq_zero_iff.1 hn)⟩
  · refine ⟨_, cap, rfl, hn, hm, .inr ⟨g, 0, rfl, fun i s hi => ?_⟩⟩
    obtain ⟨sa, sc, ta, tc, ⟨q0, q1, q2⟩, k1, k2, k3⟩ := hs.2.2 i s hi
    have hil : i < l.length := (List.getElem?_eq_some_iff.1 hi).1
    have cell : ∀ j u, cs[j]? = some u → W.cell? ⟨g, 0 + j, none⟩ = some u := fun j u hu => by
      rw [← ht, List.getElem?_take] at hu
      split at hu
      · rw [Array.getElem?_toList] at hu
        simp [World.cell?, hh, hu]
      · cases hu
    exact ⟨sa, sc, ta, tc, ⟨cell _ _ q0, cell _ _ q1, cell _ _ q2⟩, k1, slotRow_below hb k2, stepRow_below hb k3⟩
/- one more of a name, one less -/
namespace Rg
theorem twice_not {l : List TemplM} {n : Nat} {x : TemplM} (h : right l = true) (hx : l[n]? = some x) : right (l ++ [x]) = false := by
  cases hr : right (l ++ [x]) with
  | false => rfl
  | true =>
    have hn : n < l.length := (List.getElem?_eq_some_iff.1 hx).1
    have h1 := ((right_iff _).1 hr).2 l.length x (by simp)
    have h2 := ((right_iff _).1 hr).2 n x (by rw [List.getElem?_append_left hn]; exact hx)
    have := h1.2.symm.trans h2.2
    simp only [Option.some.injEq] at this
    omega
def less (l : List TemplM) (n : Nat) : List TemplM := l.take n ++ l.drop (n + 1)
theorem less_split {l : List TemplM} {n : Nat} {x : TemplM} (hx : l[n]? = some x) : l = l.take n ++ x :: l.drop (n + 1) := by
  obtain ⟨hn, he⟩ := List.getElem?_eq_some_iff.1 hx
  rw [← he, List.getElem_cons_drop, List.take_append_drop]
theorem less_mem {l : List TemplM} {n : Nat} : ∀ t ∈ less l n, t ∈ l := fun t ht => by
  rcases List.mem_append.1 ht with h | h
  · exact List.mem_of_mem_take h
  · exact List.mem_of_mem_drop h
theorem less_len {l : List TemplM} {n : Nat} (hn : n < l.length) : (less l n).length + 1 = l.length := by
  unfold less
  rw [List.length_append, List.length_take, List.length_drop]
  omega
theorem less_right {l : List TemplM} {n : Nat} {x : TemplM} (h : right l = true) (hx : l[n]? = some x) : right (less l n) = true := by
  have hn : n < l.length := (List.getElem?_eq_some_iff.1 hx).1
  have hl := less_len hn
  unfold right at h ⊢
  simp only [Bool.and_eq_true, decide_eq_true_eq, List.all_eq_true] at h ⊢
  refine ⟨⟨by omega, fun t ht => h.1.2 t (less_mem t ht)⟩, ?_⟩
  have hs : (names (less l n)).Sublist (names l) := by
    unfold names
    refine List.Sublist.map _ ?_
    conv => rhs; rw [less_split hx]
    unfold less
    exact List.Sublist.append_left (List.sublist_cons_self _ _) _
  exact h.2.sublist hs
theorem less_find {l : List TemplM} {n : Nat} {x : TemplM} (h : right l = true) (hx : l[n]? = some x) : find (less l n) x.nm = none := by
  have hf := ((right_iff l).1 h).2
  refine find_never fun j y hj hy => ?_
  have hn : n < l.length := (List.getElem?_eq_some_iff.1 hx).1
  obtain ⟨i, hi, hne⟩ : ∃ i, l[i]? = some y ∧ i ≠ n := by
    unfold less at hy
    rcases Nat.lt_or_ge j n with h1 | h1
    · rw [List.getElem?_append_left (by rw [List.length_take]; omega), List.getElem?_take, if_pos h1] at hy
      exact ⟨j, hy, by omega⟩
    · rw [List.getElem?_append_right (by rw [List.length_take]; omega), List.length_take, Nat.min_eq_left (by omega), List.getElem?_drop] at hy
      exact ⟨_, hy, by omega⟩
  refine eqN_false fun e => hne ?_
  have h1 := (hf i y hi).2
  have h2 := (hf n x hx).2
  have e9 : y.nm = x.nm := (Sc.eqN_iff _ _).1 (decide_eq_true e)
  rw [e9] at h1
  have := h1.symm.trans h2
  simp only [Option.some.injEq] at this
  exact this
theorem less_put {l : List TemplM} {n : Nat} {x : TemplM} (h : right l = true) (hx : l[n]? = some x) : (putR (less l n)).length < (putR l).length := by
  have hn : n < l.length := (List.getElem?_eq_some_iff.1 hx).1
  have hl := less_len hn
  have h6 := ((right_iff l).1 h).1
  have e1 : (putR l).length = 4 + (((l.take n).flatMap templB).length + ((templB x).length + ((l.drop (n + 1)).flatMap templB).length)) := by
    unfold putR nuB
    rw [List.length_append, spn_in _ _ _ (by omega) (by omega), Bn.spl_len]
    conv => lhs; rw [less_split hx]
    rw [List.flatMap_append, List.flatMap_cons, List.length_append, List.length_append]
  have e2 : (putR (less l n)).length = 4 + (((l.take n).flatMap templB).length + ((l.drop (n + 1)).flatMap templB).length) := by
    unfold putR nuB
    rw [List.length_append, spn_in _ _ _ (by omega) (by omega), Bn.spl_len]
    unfold less
    rw [List.flatMap_append, List.length_append]
  have e3 : 0 < (templB x).length := by
    unfold templB
    rw [List.length_append, txtB_len]
    omega
  omega
end Rg
end Go.Proofs.YtdogdbibhmhooaaGreat

/- The walk of RegistryFewer: a right registry less one of its templates is right, has fewer bytes, and another one. -/
set_option linter.unusedVariables false
set_option linter.unusedSimpArgs false
set_option maxRecDepth 100000
namespace Go.Proofs.YtdogdbibhmhooaaGreat.registryFewerWalk
open Go.RowKit Go.Shelf
set_option maxHeartbeats 8000000 in
theorem fewerA (t0 : List TemplM) (a0 : Option Addr) (c0 : Nat) (k : Nat) (hk : k ≤ 255) (w : World) (w0 : TemplRow w a0 c0 t0) :
    Calls Tryz.prog 7 #[.slice a0 t0.length c0, .int .u8 (k : Int)] w fun e w' => e = .returned (.bool true) ∧ Below w.heap.size w w' := by
  obtain ⟨i0, hi, hz0, hz1, hz2⟩ := info_parts info_templ9
  have HAl := Lib.hid (fun w => rgAlive_any w)
  have H0 := fun W hb => templRow_below (w := w) (w' := W) hb w0
  have hG0 := fun W hb => refGreat13_any a0 c0 t0 W (H0 W hb)
  obtain ⟨G0, hg0⟩ : ∃ G, greatR t0 = G := ⟨_, rfl⟩
  simp only [hg0] at hG0
  have HG0 := Lib.hid hG0
  clear hG0
  cases G0 with
  | true =>
    clear H0 hg0 w0
    go_enter Tryz.func7, Tryz.ntmps7
    go_wp2_with (first
      | (go_at_call 8; (with_reducible refine (HAl.out _).mono ?_); rintro e w2 ⟨rfl, hB2⟩)
      | (go_at_call 9; (with_reducible refine (HG0.out _ hB2).mono ?_); rintro e w3 ⟨rfl, hB3⟩))
    go_ret
    exact ⟨rfl, hB2.trans (hB3.mono hB2.size)⟩
  | false =>
  obtain ⟨l0, k0⟩ := great_asked hg0
  have hR0 := fun W hb => rgRight_any a0 c0 t0 W (H0 W hb) l0 k0
  obtain ⟨R0, hr0⟩ : ∃ R, Rg.right t0 = R := ⟨_, rfl⟩
  simp only [hr0] at hR0
  have HR0 := Lib.hid hR0
  clear hR0
  cases R0 with
  | false =>
    clear H0 hg0 w0 k0 l0 hr0
    go_enter Tryz.func7, Tryz.ntmps7
    go_wp2_with (first
      | (go_at_call 8; (with_reducible refine (HAl.out _).mono ?_); rintro e w2 ⟨rfl, hB2⟩)
      | (go_at_call 9; (with_reducible refine (HG0.out _ hB2).mono ?_); rintro e w3 ⟨rfl, hB3⟩; have hb3 := hB2.trans (hB3.mono hB2.size))
      | (go_at_call 10; (with_reducible refine (HR0.out _ hb3).mono ?_); rintro e w4 ⟨rfl, hB4⟩))
    go_ret
    exact ⟨rfl, hb3.trans (hB4.mono hb3.size)⟩
  | true =>
  have h6 := ((Rg.right_iff t0).1 hr0).1
  have hfd := ((Rg.right_iff t0).1 hr0).2
  obtain ⟨cs, hcs, hce⟩ := tCells_row w0
  obtain ⟨n, hn⟩ : ∃ n, t0.length = n := ⟨_, rfl⟩
  rw [hn] at h6
  have hF := fun nm W hb => rgFind_any a0 c0 t0 nm W (H0 W hb) l0
  rcases Nat.eq_zero_or_pos n with hz | hpos
  · have f0 : ((n : Int) == 0) = true := by rw [beq_iff_eq]; omega
    have f1 : (n == 0) = true := by rw [beq_iff_eq]; omega
    have HZ := Lib.hid hz
    rw [hn] at HG0 HR0 ⊢
    clear H0 hg0 w0 k0 l0 hr0 hfd hcs hce hF hz hn
    go_enter Tryz.func7, Tryz.ntmps7
    go_wp2_with (first
      | (go_at_call 8; (with_reducible refine (HAl.out _).mono ?_); rintro e w2 ⟨rfl, hB2⟩)
      | (go_at_call 9; (with_reducible refine (HG0.out _ hB2).mono ?_); rintro e w3 ⟨rfl, hB3⟩; have hb3 := hB2.trans (hB3.mono hB2.size))
      | (go_at_call 10; (with_reducible refine (HR0.out _ hb3).mono ?_); rintro e w4 ⟨rfl, hB4⟩))
    go_ret
    exact ⟨rfl, hb3.trans (hB4.mono hb3.size)⟩
  · have f0 : ((n : Int) == 0) = false := by rw [beq_eq_false_iff_ne]; omega
    have f1 : (n == 0) = false := by rw [beq_eq_false_iff_ne]; omega
    obtain ⟨q0, hq0⟩ : ∃ q, k % n = q := ⟨_, rfl⟩
    have hq0n : q0 < n := by rw [← hq0]; exact Nat.mod_lt _ hpos
    have hrem : ((k : Int)).tmod (n : Int) = (q0 : Int) := by
      rw [← hq0, Int.tmod_eq_emod_of_nonneg (by omega)]; rfl
    have hcv : IntKind.i64.wrap (k : Int) = (k : Int) := by rw [IntKind.wrap_i64]; omega
    have hwq : IntKind.i64.wrap (q0 : Int) = (q0 : Int) := by rw [IntKind.wrap_i64]; omega
    obtain ⟨x, hx⟩ : ∃ x, t0[q0]? = some x := ⟨t0[q0], List.getElem?_eq_getElem (by omega)⟩
    obtain ⟨m, hm⟩ : ∃ m, n = m + 1 := ⟨n - 1, by omega⟩
    have hln : (Rg.less t0 q0).length = m := by have := Rg.less_len (l := t0) (n := q0) (by omega); omega
    have hlr := Rg.less_right hr0 hx
    have kl : Asked (Rg.less t0 q0) := fun t ht => k0 t (Rg.less_mem t ht)
    have hRT : ∀ W a c, TemplRow W a c (Rg.less t0 q0) → Calls Tryz.prog 10 #[.slice a m c] W fun e w' => e = .returned (.bool true) ∧ Below W.heap.size W w' := fun W a c h => by
      have := rgRight_any a c (Rg.less t0 q0) W h (by omega) kl
      rw [hlr, hln] at this
      exact this
    have hPT : ∀ W a c, TemplRow W a c (Rg.less t0 q0) → Calls Tryz.prog 13 #[.slice a m c] W (Got W (Rg.putR (Rg.less t0 q0))) := fun W a c h => by
      have := rgPut_any a c (Rg.less t0 q0) W h (by omega) kl
      rw [putIf_right hlr, hln] at this
      exact this
    have hPL : ∀ W, Below w.heap.size w W → Calls Tryz.prog 13 #[.slice a0 n c0] W (Got W (Rg.putR t0)) := fun W hb => by
      have := rgPut_any a0 c0 t0 W (H0 W hb) l0 k0
      rw [putIf_right hr0, hn] at this
      exact this
    have hST : ∀ W a c, TemplRow W a c (Rg.less t0 q0) → Below w.heap.size w W → Calls Tryz.prog 17 #[.slice a m c, .slice a0 n c0] W fun e w' => e = .returned (.bool false) ∧ Below W.heap.size W w' := fun W a c h hb => by
      have := rgSame_any a a0 c c0 (Rg.less t0 q0) t0 W h (H0 W hb)
      rw [eqB_not (fun e => by have := congrArg List.length e; omega), hln, hn] at this
      exact this
    have hFT : ∀ W a c, TemplRow W a c (Rg.less t0 q0) → Calls Tryz.prog 15 #[.slice a m c, .string x.nm] W fun e w' => e = .returned (.int .i64 (-1)) ∧ Below W.heap.size W w' := fun W a c h => by
      have := rgFind_any a c (Rg.less t0 q0) x.nm W h (by omega)
      rw [Rg.less_find hr0 hx, hln] at this
      exact this
    have hput := Rg.less_put hr0 hx
    generalize Rg.putR (Rg.less t0 q0) = LF at *
    generalize Rg.putR t0 = LL at *
    obtain ⟨NF, hNF⟩ : ∃ N, LF.length = N := ⟨_, rfl⟩
    obtain ⟨NL, hNL⟩ : ∃ N, LL.length = N := ⟨_, rfl⟩
    rw [hNF, hNL] at hput
    have p1 : decide ((NF : Int) < (NL : Int)) = true := by simp; omega
    have p2 : decide (NF < NL) = true := decide_eq_true hput
    obtain ⟨ah, hrunH, hcellH⟩ := subT_high a0 n c0 q0 (by omega) (by have := w0.1; omega)
    obtain ⟨al, hrunL, hcellL⟩ := subT_low a0 n c0 (q0 + 1) (by omega) (by have := w0.1; omega)
    have hq1 : IntKind.i64.wrap ((q0 : Int) + 1) = ((q0 + 1 : Nat) : Int) := by rw [IntKind.wrap_i64]; omega
    have hrunL' := hrunL
    rw [show ((q0 + 1 : Nat) : Int) = (q0 : Int) + 1 by omega] at hrunL'
    have HRT := Lib.hid hRT; have HPT := Lib.hid hPT; have HPL := Lib.hid hPL; have HST := Lib.hid hST; have HFT := Lib.hid hFT; have HN := Lib.hid hn; have HX := Lib.hid hx; have HCS := Lib.hid hcs; have HCE := Lib.hid hce; have HW0 := Lib.hid w0; have HNF := Lib.hid hNF; have HNL := Lib.hid hNL; have HLN := Lib.hid hln; have HCH := Lib.hid hcellH; have HCL := Lib.hid hcellL; have HM := Lib.hid hm
    have c1 : Cells w 3 ah q0 (cs.take (q0 * 3)) := hcellH w cs (by rw [← hn]; exact hce)
    have c2 : Cells w 3 al (n - (q0 + 1)) (cs.drop ((q0 + 1) * 3)) := hcellL w cs (by rw [← hn]; exact hce)
    have HC1 := Lib.hid c1; have HC2 := Lib.hid c2
    have HTK := Lib.hid (tCells_take hcs q0 (by omega)); have HTD := Lib.hid (tCells_drop hcs (q0 + 1))
    have hnl := hn
    obtain ⟨sb, so, rfl, hrow⟩ : ∃ b off, a0 = some ⟨b, off, none⟩ ∧ ∀ i s, t0[i]? = some s → TemplAt w b (off + i * 3) s := by
      rcases w0.2.2 with h | h
      · subst h; simp at hnl; omega
      · exact h
    obtain ⟨la, lc, oa, oc, ⟨g0, g1, g2⟩, hsn, hst⟩ := templAt_form (hrow q0 x hx)
    obtain ⟨r9, hr9⟩ : ∃ r, n - (q0 + 1) = r := ⟨_, rfl⟩
    rw [hr9] at HC2 hrunL hrunL'
    have hsum : q0 + r9 = m := by omega
    have HSUM := Lib.hid hsum
    have hr96 : r9 ≤ 6 := by omega
    rw [hn] at HG0 HR0 HCE ⊢
    clear H0 hg0 w0 k0 l0 hr0 hfd hcs hce hF hn hnl hx hRT hPT hPL hST hFT hput hNF hNL hln hlr kl hcellH hcellL c1 c2 hrow g1 g2 hst hq0 hm hr9 hsum
    go_enter Tryz.func7, Tryz.ntmps7
    go_upto_region 7 with (first
      | (go_at_call 8; (with_reducible refine (HAl.out _).mono ?_); rintro e w2 ⟨rfl, hB2⟩)
      | (go_at_call 9; (with_reducible refine (HG0.out _ hB2).mono ?_); rintro e w3 ⟨rfl, hB3⟩; have hb3 := hB2.trans (hB3.mono hB2.size))
      | (go_at_call 10; (with_reducible refine (HR0.out _ hb3).mono ?_); rintro e w4 ⟨rfl, hB4⟩; have hb4 := hb3.trans (hB4.mono hb3.size)))
    have hown0 := fun W : World => World.ownsRow_nil W w.heap.size 45 3
    have hcellA : Cells w4 3 ah q0 (cs.take (q0 * 3)) := cells_below9 HC1.out hb4
    have h1a := HTK.out.2.1
    go_upto_region 8 with (first
      | (at_builtin; refine wpList_append_at _ rfl _ _ 22 rfl w.heap.size 45 i0 (.agg vz3) 3 64 Tryz.underlying22 hi hz0 hz1 hz2 rfl (by decide) (.slice none 0 0) 0 [] rfl (hown0 _) ah q0 c0 (cs.take (q0 * 3)) rfl hcellA h1a (by unfold maxLen; omega) (by omega) hb4.size ?_; intro v6 w6 hown6 hg6 _))
    have hown6' := ownsRow_nth hown6 (Nat.zero_add q0) (List.nil_append (cs.take (q0 * 3)))
    have hb6 := hb4.trans (below_grown hg6 (hown0 _) hb4.size)
    obtain ⟨a6, c6, rfl⟩ := own_form9 hown6'
    have hcellB : Cells w6 3 al r9 (cs.drop ((q0 + 1) * 3)) := cells_below9 HC2.out hb6
    have h1b := HTD.out.2.1
    clear hown6 hg6 hcellA h1a
    go_upto_region 9 with (first
      | (at_builtin; refine wpList_append_at _ rfl _ _ 22 rfl w.heap.size 45 i0 (.agg vz3) 3 64 Tryz.underlying22 hi hz0 hz1 hz2 rfl (by decide) (.slice a6 q0 c6) q0 (cs.take (q0 * 3)) rfl hown6' al r9 (c0 - (q0 + 1)) (cs.drop ((q0 + 1) * 3)) rfl hcellB h1b (by unfold maxLen; omega) (by omega) hb6.size ?_; intro v8 w8 hown8 hg8 _))
    have hb8 := hb6.trans (below_grown hg8 hown6' hb6.size)
    obtain ⟨a8, c8, e8, hrow8⟩ := templRow_own (l := Rg.less t0 q0) (ownsRow_nth hown8 (by rw [HLN.out]; exact HSUM.out) rfl) (tCells_append HTK.out HTD.out) hb8
    rw [HLN.out] at e8
    subst e8
    have HROW8 := Lib.hid hrow8
    have y0 := cell_below hb8 g0
    clear hown8 hg8 hrow8 hown6' hcellB h1b
    go_wp2_with (first
      | (go_at_call 10; (with_reducible refine (HRT.out _ _ _ HROW8.out).mono ?_); rintro e w9 ⟨rfl, hB9⟩; have hrow9 := Lib.hid (templRow_below hB9 HROW8.out); have hb9 := hb8.trans (hB9.mono hb8.size))
      | (go_at_call 13; (with_reducible refine (HPT.out _ _ _ hrow9.out).mono ?_); rintro e w10 ⟨v10, rfl, ho10, hB10⟩; obtain ⟨a10, c10, rfl, hr10⟩ := got_row ho10 HNF.out; have hrow10 := Lib.hid (templRow_below hB10 hrow9.out); have hb10 := hb9.trans (hB10.mono hb9.size))
      | (go_at_call 13; (with_reducible refine (HPL.out _ hb10).mono ?_); rintro e w11 ⟨v11, rfl, ho11, hB11⟩; obtain ⟨a11, c11, rfl, hr11⟩ := got_row ho11 HNL.out; have hrow11 := Lib.hid (templRow_below hB11 hrow10.out); have hb11 := hb10.trans (hB11.mono hb10.size))
      | (go_at_call 17; (with_reducible refine (HST.out _ _ _ hrow11.out hb11).mono ?_); rintro e w12 ⟨rfl, hB12⟩; have hrow12 := Lib.hid (templRow_below hB12 hrow11.out); have hb12 := hb11.trans (hB12.mono hb11.size); have y9 := cell_below hb12 g0)
      | (go_at_call 15; (with_reducible refine (HFT.out _ _ _ hrow12.out).mono ?_); rintro e w13 ⟨rfl, hB13⟩))
    go_ret
    exact ⟨rfl, hb12.trans (hB13.mono hb12.size)⟩
theorem walk (t0 : List TemplM) (a0 : Option Addr) (c0 : Nat) (a1 : Int) (w : World) (w0 : TemplRow w a0 c0 t0) (w1 : (Lit.int .u8 a1).wf = true) :
    Calls Tryz.prog 7 #[.slice a0 t0.length c0, .int .u8 a1] w fun e w' => e = .returned (.bool true) ∧ Below w.heap.size w w' := by
  have hb : 0 ≤ a1 ∧ a1 ≤ 255 := by simpa [Lit.wf, IntKind.min, IntKind.max, IntKind.signed, IntKind.bits] using w1
  obtain ⟨k, rfl⟩ : ∃ k : Nat, a1 = (k : Int) := ⟨a1.toNat, by omega⟩
  exact fewerA t0 a0 c0 k (by omega) w w0
end Go.Proofs.YtdogdbibhmhooaaGreat.registryFewerWalk

/- Proved: the statement RegistryFewer: a right registry less one of its templates is right, has fewer bytes, and another one; for every input, without any condition. (Out of its walk: the frame alone, the arguments are opened, and shut again as they were.) -/
namespace Go.Proofs.YtdogdbibhmhooaaGreat.registryFewerSaid
open Go.ChangeShapes Go.WideShapes Go.ChangeAt Go.RowKit
open Go.ChangeMaps (open_string shut_string)
set_option linter.unusedVariables false

theorem own : ownKnob Tryz.prog.godebug = none := by kernel_rfl
theorem laidOut : laidOutB Tryz.prog = true := by kernel_rfl

set_option maxRecDepth 100000 in
theorem lifted (os : Os) (started : os.Started) (H : Type) (enc : TypeId × Value → H) :
    ReturnsInHanded {} Tryz.checked os 7 .any (Rows.registryFewerSpec.pre6 enc Tryz.prog Tryz.f7 Rows.registryFewerRow.domain false) (Rows.registryFewerSpec.post enc Tryz.prog Tryz.f7 false true false false) := by
  refine returnsInHanded_of_change (C := Tryz.checked) own started (by kernel_rfl) Tryz.func7
    (ChangeSpec.witness6 (enc := enc) (C := Tryz.checked) false ⟨#[], #[.slice none 0 0, .int .u8 0], []⟩ 8 (by kernel_rfl) (by kernel_rfl) (by kernel_rfl) (by kernel_rfl)) ?_
  intro W base args ds gs before hval0 hW hcnd _
  have hval : ∀ (j : Nat) t v, Tryz.f7.params[j]? = some t → args[j]? = some v → Value.okWide Tryz.prog W .any base t v := hval0
  have hW' := hW
  obtain ⟨p, q, hA0, hV, rfl, hfz, hnd⟩ := hW
  have hA : DataW.TrodAll enc Tryz.prog W 0 (fun _ => true) true Tryz.f7.params.toList args.toList ds p := hA0
  rw [Tryz.params7] at hA hval
  obtain ⟨v0, vs0, d0, ds0, p0, q0, hargs, rfl, rfl, h0, r0⟩ := trodAll_cons hA
  obtain ⟨v1, vs1, d1, ds1, p1, q1, rfl, rfl, rfl, h1, r1⟩ := trodAll_cons r0
  obtain ⟨rfl, rfl, rfl⟩ := trodAll_nil r1
  obtain rfl : args = #[v0, v1] := by cases args; simp_all
  obtain ⟨rfl, rfl⟩ := trodVars_none hV
  obtain ⟨a0, len0, c0, rfl⟩ := okWide_slice Tryz.underlying22 (hval 0 22 v0 rfl rfl)
  have k0 := h0
  have lt0 : ∀ x ∈ p0, x.block < W.heap.size := by obtain ⟨m, hm⟩ := k0; exact DataW.trod_lt m _ _ _ hm
  obtain ⟨t0, e0, w0⟩ : ∃ l : List TemplM, l.length = len0 ∧ TemplRow W a0 c0 l := by
    obtain ⟨fuel, hf⟩ := h0
    exact open_templs hf
  subst e0
  obtain ⟨a1, rfl, rfl, rfl, w1⟩ := open_int Tryz.underlying5 (hval 1 5 v1 rfl rfl) h1
  clear hA0 hval0
  refine (registryFewerWalk.walk t0 a0 c0 a1 W w0 w1).mono fun e W' ⟨he, bel⟩ => ?_
  subst he
  exact ⟨_, rfl, _, _, _, [], _, [], hW', trodAll_mk1 (shut_bool Tryz.underlying4 _), (trodAll_cons_mk (Below.trod laidOut (by kernel_rfl) (of_decide_eq_true (by kernel_rfl)) k0 bel lt0) (trodAll_cons_mk (shut_int Tryz.underlying5 w1) trodAll_mk0)), rfl, bel.frame _, fun h => by cases h⟩

theorem over : Rows.registryFewerRow.holds Tryz.pinned (OpenSpec.ofChange Rows.registryFewerSpec) :=
  OpenClaim.holds_of_wide 7 Tryz.f7 rfl rfl rfl rfl rfl rfl rfl ⟨rfl, rfl, rfl, rfl, rfl⟩ rfl rfl rfl rfl rfl (by kernel_rfl) Tryz.func7 (by kernel_rfl)
    (of_decide_eq_true (by kernel_rfl)) (by unfold Func.isWrapper; first | (rw [if_pos (by decide +kernel)]; kernel_rfl) | (rw [if_neg (by decide +kernel)]; exact ⟨rfl, rfl⟩))
    (fun os started H enc _ => lifted os started H enc)

theorem proved : Rows.RegistryFewerSaid := over
end Go.Proofs.YtdogdbibhmhooaaGreat.registryFewerSaid
