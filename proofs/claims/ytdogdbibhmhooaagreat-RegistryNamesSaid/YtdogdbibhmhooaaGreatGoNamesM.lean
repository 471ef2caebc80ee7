/- Proved: the statement RegistryNames: of a right registry each template is found by its name, and one more of a name that is there makes it one that isn't; for every input, without any condition. (Out of its walk: the frame alone, the arguments are opened, and shut again as they were.) -/
import Derived.Test.YtdogdbibhmhooaaGreatMh46Regi
import Derived.Test.YtdogdbibhmhooaaGreatMh22Regi
import Derived.ProofKit
import Derived.OpenShut
import Derived.ShutString
import Derived.ChangeOld
import Derived.Below
set_option linter.unusedVariables false
set_option linter.unusedSimpArgs false
set_option maxRecDepth 100000
namespace Go.Proofs.YtdogdbibhmhooaaGreat
open Go.RowKit Go.Shelf
theorem addr_add3 (ad : Addr) (q j : Nat) : (ad.add q).add j = ad.add (q + j) := by
  obtain ⟨b, o, sp⟩ := ad
  by_cases hq : q = 0 <;> by_cases hj : j = 0 <;> cases sp <;> simp [Addr.add, hq, hj, Nat.add_assoc]
theorem cells_part3 {W : World} {a : Option Addr} {n : Nat} {xs : List Value} (h : Cells W 3 a n xs) (q k m : Nat) (hk : q + k ≤ n) (hm : q + k ≤ m) : Cells W 3 (if m = q then a else a.map (·.add (q * 3))) k ((xs.drop (q * 3)).take (k * 3)) := by
  obtain ⟨h1, h2⟩ := h
  refine ⟨by rw [List.length_take, List.length_drop]; omega, ?_⟩
  rcases Nat.eq_zero_or_pos k with hk0 | hk0
  · exact .inl hk0
  · rcases h2 with h2 | ⟨ad, rfl, hc⟩
    · omega
    · rw [if_neg (by omega)]
      refine .inr ⟨ad.add (q * 3), rfl, fun j u hj => ?_⟩
      rw [List.getElem?_take] at hj
      split at hj
      · rw [List.getElem?_drop] at hj
        have := hc (q * 3 + j) u hj
        rw [addr_add3]
        exact this
      · cases hj
theorem size_templ9 (w : World) : (sizeOf (Tryz.prog.elem 22)).run Tryz.prog w = .ok 3 w := by kernel_rfl
theorem subT_high (a : Option Addr) (n c q : Nat) (hq : q ≤ n) (hnc : n ≤ c) : ∃ a', (∀ W, (Instr.slice 22 (.slice a n c) none (some (.int .i64 (q : Int))) none).run Tryz.prog W = .ok (.slice a' q c) W) ∧
    ∀ (W : World) (xs : List Value), Cells W 3 a n xs → Cells W 3 a' q (xs.take (q * 3)) := by
  refine ⟨if c = 0 then a else a.map (·.add (0 * 3)), fun W => ?_, fun W xs h => ?_⟩
  · have h1 := run_slice_h (P := Tryz.prog) W 22 a n c Tryz.underlying22 .i64 (q : Int) (by omega) (by omega)
    rw [size_templ9 W] at h1
    simpa [Result.andThen, sliced] using h1
  · have := cells_part3 h 0 q c (by omega) (by omega)
    simpa using this
theorem subT_low (a : Option Addr) (n c q : Nat) (hq : q ≤ n) (hnc : n ≤ c) : ∃ a', (∀ W, (Instr.slice 22 (.slice a n c) (some (.int .i64 (q : Int))) none none).run Tryz.prog W = .ok (.slice a' (n - q) (c - q)) W) ∧
    ∀ (W : World) (xs : List Value), Cells W 3 a n xs → Cells W 3 a' (n - q) (xs.drop (q * 3)) := by
  refine ⟨if c = q then a else a.map (·.add (q * 3)), fun W => ?_, fun W xs h => ?_⟩
  · have h1 := run_slice_l (P := Tryz.prog) W 22 a n c Tryz.underlying22 .i64 (q : Int) (by omega) (by omega)
    rw [size_templ9 W] at h1
    simpa [Result.andThen, sliced] using h1
  · have := cells_part3 h q (n - q) c (by omega) (by omega)
    rwa [List.take_of_length_le (by have := h.1; rw [List.length_drop]; omega)] at this
/-- three cells each, of templates that lie in w -/
def TCells (w : World) (l : List TemplM) (cs : List Value) : Prop := cs.length = l.length * 3 ∧ (∀ u ∈ cs, u.oneCell' = true) ∧
  ∀ (i : Nat) (t : TemplM), l[i]? = some t → ∃ sa sc ta tc, (cs[i * 3]? = some (.string t.nm) ∧ cs[i * 3 + 1]? = some (.slice sa t.slots.length sc) ∧ cs[i * 3 + 2]? = some (.slice ta t.steps.length tc)) ∧ t.nm.size ≤ maxLen ∧ SlotRow w sa sc t.slots ∧ StepRow w ta tc t.steps
theorem tCells_nil (w : World) : TCells w [] [] := ⟨rfl, by simp, fun i s h => by simp at h⟩
theorem tCells_append {w : World} {l r : List TemplM} {cs ds : List Value} (h : TCells w l cs) (k : TCells w r ds) : TCells w (l ++ r) (cs ++ ds) := by
  have hlen := h.1
  refine ⟨by rw [List.length_append, List.length_append, h.1, k.1]; omega, fun u hu => (List.mem_append.1 hu).elim (h.2.1 u) (k.2.1 u), fun i s hs => ?_⟩
  rcases Nat.lt_or_ge i l.length with hlt | hge
  · rw [List.getElem?_append_left hlt] at hs
    obtain ⟨sa, sc, ta, tc, hc, h7⟩ := h.2.2 i s hs
    refine ⟨sa, sc, ta, tc, ?_, h7⟩
    rw [List.getElem?_append_left (by omega), List.getElem?_append_left (by omega), List.getElem?_append_left (by omega)]
    exact hc
  · rw [List.getElem?_append_right hge] at hs
    obtain ⟨sa, sc, ta, tc, hc, h7⟩ := k.2.2 _ s hs
    refine ⟨sa, sc, ta, tc, ?_, h7⟩
    rw [List.getElem?_append_right (by omega), List.getElem?_append_right (by omega), List.getElem?_append_right (by omega)]
    have e : ∀ j, i * 3 + j - cs.length = (i - l.length) * 3 + j := fun j => by rw [hlen]; omega
    rw [show i * 3 - cs.length = (i - l.length) * 3 by rw [hlen]; omega, e 1, e 2]
    exact hc
theorem tCells_one {w : World} {t : TemplM} {sa : Option Addr} {sc : Nat} {ta : Option Addr} {tc : Nat} (h : t.nm.size ≤ maxLen) (h1 : SlotRow w sa sc t.slots) (h2 : StepRow w ta tc t.steps) : TCells w [t] [.string t.nm, .slice sa t.slots.length sc, .slice ta t.steps.length tc] :=
  ⟨rfl, by simp [Value.oneCell'], fun i s hs => by
    have hi : i < 1 := (List.getElem?_eq_some_iff.1 hs).1
    obtain rfl : i = 0 := by omega
    simp only [List.getElem?_cons_zero, Option.some.injEq] at hs
    subst hs
    exact ⟨_, _, _, _, ⟨rfl, rfl, rfl⟩, h, h1, h2⟩⟩
theorem tCells_take {w : World} {l : List TemplM} {cs : List Value} (h : TCells w l cs) (n : Nat) (hn : n ≤ l.length) : TCells w (l.take n) (cs.take (n * 3)) :=
  ⟨by rw [List.length_take, List.length_take, h.1]; omega, fun u hu => h.2.1 u (List.mem_of_mem_take hu), fun i s hs => by
    rw [List.getElem?_take] at hs
    split at hs
    · rename_i hi
      obtain ⟨sa, sc, ta, tc, hc, h7⟩ := h.2.2 i s hs
      refine ⟨sa, sc, ta, tc, ?_, h7⟩
      rw [List.getElem?_take, if_pos (by omega), List.getElem?_take, if_pos (by omega), List.getElem?_take, if_pos (by omega)]
      exact hc
    · cases hs⟩
theorem tCells_drop {w : World} {l : List TemplM} {cs : List Value} (h : TCells w l cs) (n : Nat) : TCells w (l.drop n) (cs.drop (n * 3)) :=
  ⟨by rw [List.length_drop, List.length_drop, h.1]; omega, fun u hu => h.2.1 u (List.mem_of_mem_drop hu), fun i s hs => by
    rw [List.getElem?_drop] at hs
    obtain ⟨sa, sc, ta, tc, ⟨q0, q1, q2⟩, h7⟩ := h.2.2 (n + i) s hs
    refine ⟨sa, sc, ta, tc, ⟨?_, ?_, ?_⟩, h7⟩
    · rw [List.getElem?_drop, show n * 3 + i * 3 = (n + i) * 3 by omega]; exact q0
    · rw [List.getElem?_drop, show n * 3 + (i * 3 + 1) = (n + i) * 3 + 1 by omega]; exact q1
    · rw [List.getElem?_drop, show n * 3 + (i * 3 + 2) = (n + i) * 3 + 2 by omega]; exact q2⟩
/-- a row of templates as cells -/
theorem tCells_row {w : World} {a : Option Addr} {cap : Nat} {l : List TemplM} (h : TemplRow w a cap l) : ∃ cs, TCells w l cs ∧ Cells w 3 a l.length cs := by
  obtain ⟨h1, h2, h3⟩ := h
  rcases h3 with h3 | ⟨b, off, rfl, hc⟩
  · subst h3
    exact ⟨[], tCells_nil w, rfl, .inl rfl⟩
  · clear h1 h2
    suffices H : ∀ (k : Nat), k ≤ l.length → ∃ cs, TCells w (l.take k) cs ∧ ∀ j u, cs[j]? = some u → w.cell? ⟨b, off + j, none⟩ = some u by
      obtain ⟨cs, g1, g2⟩ := H l.length (Nat.le_refl _)
      rw [List.take_length] at g1
      exact ⟨cs, g1, g1.1, .inr ⟨_, rfl, fun j u hu => by rw [Addr.add_lit]; exact g2 j u hu⟩⟩
    intro k
    induction k with
    | zero => intro _; exact ⟨[], by simpa using tCells_nil w, fun j u h => by simp at h⟩
    | succ k ih =>
      intro hk
      obtain ⟨cs, g1, g2⟩ := ih (by omega)
      have hs : l[k]? = some l[k] := List.getElem?_eq_getElem (by omega)
      obtain ⟨sa, sc, ta, tc, ⟨q0, q1, q2⟩, k1, k2, k3⟩ := hc k _ hs
      refine ⟨cs ++ [.string l[k].nm, .slice sa l[k].slots.length sc, .slice ta l[k].steps.length tc], ?_, fun j u hu => ?_⟩
      · rw [List.take_add_one, hs]
        exact tCells_append g1 (tCells_one k1 k2 k3)
      · have hlen : cs.length = k * 3 := by rw [g1.1, List.length_take, Nat.min_eq_left (by omega)]
        rcases Nat.lt_or_ge j cs.length with hlt | hge
        · rw [List.getElem?_append_left hlt] at hu
          exact g2 j u hu
        · rw [List.getElem?_append_right hge] at hu
          obtain ⟨m, rfl⟩ : ∃ m, j = k * 3 + m := ⟨j - k * 3, by omega⟩
          rw [hlen, show k * 3 + m - k * 3 = m by omega] at hu
          have hm : m < 3 := (List.getElem?_eq_some_iff.1 hu).1
          rw [show off + (k * 3 + m) = off + k * 3 + m by omega]
          match m, hm with
          | 0, _ => cases hu; exact q0
          | 1, _ => cases hu; exact q1
          | 2, _ => cases hu; exact q2
/-- a row of one's own is a row of templates -/
theorem templRow_own {w W : World} {B : Nat} {v : Value} {l : List TemplM} {cs : List Value} (h : W.ownsRow B 45 3 v l.length cs) (hs : TCells w l cs) (hb : Below w.heap.size w W) : ∃ a cap, v = .slice a l.length cap ∧ TemplRow W a cap l := by
  obtain ⟨h1, h2⟩ := h
  rcases h2 with ⟨rfl, hn⟩ | ⟨g, cap, cur, rfl, hg, hh, hn, hm, hsz, ht⟩
  · exact ⟨none, 0, by rw [hn], by omega, by unfold maxLen; omega, .inl (List.length_eq_zero_iff.1 hn)⟩
  · refine ⟨_, cap, rfl, hn, hm, .inr ⟨g, 0, rfl, fun i s hi => ?_⟩⟩
    obtain ⟨sa, sc, ta, tc, ⟨q0, q1, q2⟩, k1, k2, k3⟩ := hs.2.2 i s hi
    have hil : i < l.length := (List.getElem?_eq_some_iff.1 hi).1
    have cell : ∀ j u, cs[j]? = some u → W.cell? ⟨g, 0 + j, none⟩ = some u := fun j u hu => by
      rw [← ht, List.getElem?_take] at hu
      split at hu
      · rw [Array.getElem?_toList] at hu
        simp [World.cell?, hh, hu]
      · cases hu
    exact ⟨sa, sc, ta, tc, ⟨cell _ _ q0, cell _ _ q1, cell _ _ q2⟩, k1, slotRow_below hb k2, stepRow_below hb k3⟩
/- one more of a name, one less -/
namespace Rg
theorem twice_not {l : List TemplM} {n : Nat} {x : TemplM} (h : right l = true) (hx : l[n]? = some x) : right (l ++ [x]) = false := by
  cases hr : right (l ++ [x]) with
  | false => rfl
  | true =>
    have hn : n < l.length := (List.getElem?_eq_some_iff.1 hx).1
    have h1 := ((right_iff _).1 hr).2 l.length x (by simp)
    have h2 := ((right_iff _).1 hr).2 n x (by rw [List.getElem?_append_left hn]; exact hx)
    have := h1.2.symm.trans h2.2
    simp only [Option.some.injEq] at this
    omega
def less (l : List TemplM) (n : Nat) : List TemplM := l.take n ++ l.drop (n + 1)
theorem less_split {l : List TemplM} {n : Nat} {x : TemplM} (hx : l[n]? = some x) : l = l.take n ++ x :: l.drop (n + 1) := by
  obtain ⟨hn, he⟩ := List.getElem?_eq_some_iff.1 hx
  rw [← he, List.getElem_cons_drop, List.take_append_drop]
theorem less_mem {l : List TemplM} {n : Nat} : ∀ t ∈ less l n, t ∈ l := fun t ht => by
  rcases List.mem_append.1 ht with h | h
  · exact List.mem_of_mem_take h
  · exact List.mem_of_mem_drop h
theorem less_len {l : List TemplM} {n : Nat} (hn : n < l.length) : (less l n).length + 1 = l.length := by
  unfold less
  rw [List.length_append, List.length_take, List.length_drop]
  omega
theorem less_right {l : List TemplM} {n : Nat} {x : TemplM} (h : right l = true) (hx : l[n]? = some x) : right (less l n) = true := by
  have hn : n < l.length := (List.getElem?_eq_some_iff.1 hx).1
  have hl := less_len hn
  unfold right at h ⊢
  simp only [Bool.and_eq_true, decide_eq_true_eq, List.all_eq_true] at h ⊢
  refine ⟨⟨by omega, fun t ht => h.1.2 t (less_mem t ht)⟩, ?_⟩
  have hs : (names (less l n)).Sublist (names l) := by
    unfold names
    refine List.Sublist.map _ ?_
    conv => rhs; rw [less_split hx]
    unfold less
    exact List.Sublist.append_left (List.sublist_cons_self _ _) _
  exact h.2.sublist hs
theorem less_find {l : List TemplM} {n : Nat} {x : TemplM} (h : right l = true) (hx : l[n]? = some x) : find (less l n) x.nm = none := by
  have hf := ((right_iff l).1 h).2
  refine find_never fun j y hj hy => ?_
  have hn : n < l.length := (List.getElem?_eq_some_iff.1 hx).1
  obtain ⟨i, hi, hne⟩ : ∃ i, l[i]? = some y ∧ i ≠ n := by
    unfold less at hy
    rcases Nat.lt_or_ge j n with h1 | h1
    · rw [List.getElem?_append_left (by rw [List.length_take]; omega), List.getElem?_take, if_pos h1] at hy
      exact ⟨j, hy, by omega⟩
    · rw [List.getElem?_append_right (by rw [List.length_take]; omega), List.length_take, Nat.min_eq_left (by omega), List.getElem?_drop] at hy
      exact ⟨_, hy, by omega⟩
  refine eqN_false fun e => hne ?_
  have h1 := (hf i y hi).2
  have h2 := (hf n x hx).2
  have e9 : y.nm = x.nm := (Sc.eqN_iff _ _).1 (decide_eq_true e)
  rw [e9] at h1
  have := h1.symm.trans h2
  simp only [Option.some.injEq] at this
  exact this
theorem less_put {l : List TemplM} {n : Nat} {x : TemplM} (h : right l = true) (hx : l[n]? = some x) : (putR (less l n)).length < (putR l).length := by
  have hn : n < l.length := (List.getElem?_eq_some_iff.1 hx).1
  have hl := less_len hn
  have h6 := ((right_iff l).1 h).1
  have e1 : (putR l).length = 4 + (((l.take n).flatMap templB).length + ((templB x).length + ((l.drop (n + 1)).flatMap templB).length)) := by
    unfold putR nuB
    rw [List.length_append, spn_in _ _ _ (by omega) (by omega), Bn.spl_len]
    conv => lhs; rw [less_split hx]
    rw [List.flatMap_append, List.flatMap_cons, List.length_append, List.length_append]
  have e2 : (putR (less l n)).length = 4 + (((l.take n).flatMap templB).length + ((l.drop (n + 1)).flatMap templB).length) := by
    unfold putR nuB
    rw [List.length_append, spn_in _ _ _ (by omega) (by omega), Bn.spl_len]
    unfold less
    rw [List.flatMap_append, List.length_append]
  have e3 : 0 < (templB x).length := by
    unfold templB
    rw [List.length_append, txtB_len]
    omega
  omega
end Rg
end Go.Proofs.YtdogdbibhmhooaaGreat

/- The walk of RegistryNames: of a right registry each template is found by its name, and one more of a name that is there makes it one that isn't. -/
set_option linter.unusedVariables false
set_option linter.unusedSimpArgs false
set_option maxRecDepth 100000
namespace Go.Proofs.YtdogdbibhmhooaaGreat.registryNamesWalk
open Go.RowKit Go.Shelf
set_option maxHeartbeats 8000000 in
theorem namesA (t0 : List TemplM) (a0 : Option Addr) (c0 : Nat) (k : Nat) (hk : k ≤ 255) (w : World) (w0 : TemplRow w a0 c0 t0) :
    Calls Tryz.prog 6 #[.slice a0 t0.length c0, .int .u8 (k : Int)] w fun e w' => e = .returned (.bool true) ∧ Below w.heap.size w w' := by
  obtain ⟨i0, hi, hz0, hz1, hz2⟩ := info_parts info_templ9
  have HAl := Lib.hid (fun w => rgAlive_any w)
  have H0 := fun W hb => templRow_below (w := w) (w' := W) hb w0
  have hG0 := fun W hb => refGreat13_any a0 c0 t0 W (H0 W hb)
  obtain ⟨G0, hg0⟩ : ∃ G, greatR t0 = G := ⟨_, rfl⟩
  simp only [hg0] at hG0
  have HG0 := Lib.hid hG0
  clear hG0
  cases G0 with
  | true =>
    clear H0 hg0 w0
    go_enter Tryz.func6, Tryz.ntmps6
    go_wp2_with (first
      | (go_at_call 8; (with_reducible refine (HAl.out _).mono ?_); rintro e w2 ⟨rfl, hB2⟩)
      | (go_at_call 9; (with_reducible refine (HG0.out _ hB2).mono ?_); rintro e w3 ⟨rfl, hB3⟩))
    go_ret
    exact ⟨rfl, hB2.trans (hB3.mono hB2.size)⟩
  | false =>
  obtain ⟨l0, k0⟩ := great_asked hg0
  have hR0 := fun W hb => rgRight_any a0 c0 t0 W (H0 W hb) l0 k0
  obtain ⟨R0, hr0⟩ : ∃ R, Rg.right t0 = R := ⟨_, rfl⟩
  simp only [hr0] at hR0
  have HR0 := Lib.hid hR0
  clear hR0
  cases R0 with
  | false =>
    clear H0 hg0 w0 k0 l0 hr0
    go_enter Tryz.func6, Tryz.ntmps6
    go_wp2_with (first
      | (go_at_call 8; (with_reducible refine (HAl.out _).mono ?_); rintro e w2 ⟨rfl, hB2⟩)
      | (go_at_call 9; (with_reducible refine (HG0.out _ hB2).mono ?_); rintro e w3 ⟨rfl, hB3⟩; have hb3 := hB2.trans (hB3.mono hB2.size))
      | (go_at_call 10; (with_reducible refine (HR0.out _ hb3).mono ?_); rintro e w4 ⟨rfl, hB4⟩))
    go_ret
    exact ⟨rfl, hb3.trans (hB4.mono hb3.size)⟩
  | true =>
  have h6 := ((Rg.right_iff t0).1 hr0).1
  have hfd := ((Rg.right_iff t0).1 hr0).2
  obtain ⟨cs, hcs, hce⟩ := tCells_row w0
  obtain ⟨n, hn⟩ : ∃ n, t0.length = n := ⟨_, rfl⟩
  rw [hn] at h6
  have hF := fun nm W hb => rgFind_any a0 c0 t0 nm W (H0 W hb) l0
  rcases Nat.eq_zero_or_pos n with hz | hpos
  · have f0 : ((n : Int) == 0) = true := by rw [beq_iff_eq]; omega
    have f1 : (n == 0) = true := by rw [beq_iff_eq]; omega
    have HZ := Lib.hid hz
    rw [hn] at HG0 HR0 ⊢
    clear H0 hg0 w0 k0 l0 hr0 hfd hcs hce hF hz hn
    go_enter Tryz.func6, Tryz.ntmps6
    go_wp2_with (first
      | (go_at_call 8; (with_reducible refine (HAl.out _).mono ?_); rintro e w2 ⟨rfl, hB2⟩)
      | (go_at_call 9; (with_reducible refine (HG0.out _ hB2).mono ?_); rintro e w3 ⟨rfl, hB3⟩; have hb3 := hB2.trans (hB3.mono hB2.size))
      | (go_at_call 10; (with_reducible refine (HR0.out _ hb3).mono ?_); rintro e w4 ⟨rfl, hB4⟩))
    go_ret
    exact ⟨rfl, hb3.trans (hB4.mono hb3.size)⟩
  · have f0 : ((n : Int) == 0) = false := by rw [beq_eq_false_iff_ne]; omega
    have f1 : (n == 0) = false := by rw [beq_eq_false_iff_ne]; omega
    obtain ⟨q0, hq0⟩ : ∃ q, k % n = q := ⟨_, rfl⟩
    have hq0n : q0 < n := by rw [← hq0]; exact Nat.mod_lt _ hpos
    have hrem : ((k : Int)).tmod (n : Int) = (q0 : Int) := by
      rw [← hq0, Int.tmod_eq_emod_of_nonneg (by omega)]; rfl
    have hcv : IntKind.i64.wrap (k : Int) = (k : Int) := by rw [IntKind.wrap_i64]; omega
    have hwq : IntKind.i64.wrap (q0 : Int) = (q0 : Int) := by rw [IntKind.wrap_i64]; omega
    obtain ⟨x, hx⟩ : ∃ x, t0[q0]? = some x := ⟨t0[q0], List.getElem?_eq_getElem (by omega)⟩
    have hRT : ∀ W a c, TemplRow W a c (t0 ++ [x]) → Calls Tryz.prog 10 #[.slice a (n + 1) c] W fun e w' => e = .returned (.bool false) ∧ Below W.heap.size W w' := fun W a c h => by
      have := rgRight_any a c (t0 ++ [x]) W h (by rw [List.length_append]; simp; omega) (fun t ht => by
        rcases List.mem_append.1 ht with h | h
        · exact k0 t h
        · simp only [List.mem_cons, List.not_mem_nil, or_false] at h
          subst h; exact k0 _ (List.mem_of_getElem? hx))
      rw [Rg.twice_not hr0 hx, List.length_append, hn] at this
      exact this
    have hPT : ∀ W a c, TemplRow W a c (t0 ++ [x]) → Calls Tryz.prog 13 #[.slice a (n + 1) c] W (Got W []) := fun W a c h => by
      have := rgPut_any a c (t0 ++ [x]) W h (by rw [List.length_append]; simp; omega) (fun t ht => by
        rcases List.mem_append.1 ht with h | h
        · exact k0 t h
        · simp only [List.mem_cons, List.not_mem_nil, or_false] at h
          subst h; exact k0 _ (List.mem_of_getElem? hx))
      unfold Rg.putIf at this
      rw [Rg.twice_not hr0 hx, if_neg (by simp), List.length_append, hn] at this
      exact this
    have HRT := Lib.hid hRT; have HPT := Lib.hid hPT; have HF := Lib.hid hF; have HFD := Lib.hid hfd; have HN := Lib.hid hn; have HX := Lib.hid hx; have HCS := Lib.hid hcs; have HCE := Lib.hid hce; have HW0 := Lib.hid w0; have HQ := Lib.hid hq0
    rw [hn] at HG0 HR0 HF HCE ⊢
    clear H0 hg0 w0 k0 l0 hr0 hfd hcs hce hF hn hx hRT hPT hq0
    go_enter Tryz.func6, Tryz.ntmps6
    go_wp2_with (first
      | (go_at_call 8; (with_reducible refine (HAl.out _).mono ?_); rintro e w2 ⟨rfl, hB2⟩)
      | (go_at_call 9; (with_reducible refine (HG0.out _ hB2).mono ?_); rintro e w3 ⟨rfl, hB3⟩; have hb3 := hB2.trans (hB3.mono hB2.size))
      | (go_at_call 10; (with_reducible refine (HR0.out _ hb3).mono ?_); rintro e w4 ⟨rfl, hB4⟩; have hb4 := hb3.trans (hB4.mono hb3.size)))
    go_loopw [5] (fun i wr => ∃ q : Nat, q ≤ n ∧ i = .int .i64 (q : Int) ∧ Below w.heap.size w wr) (fun i _ => n - (intOf i).toNat)
    case atStart => exact ⟨0, Nat.zero_le _, rfl, hb4⟩
    case round =>
      obtain ⟨q, hq, rfl, hbw⟩ := hrel
      have hnl := HN.out
      rcases Nat.lt_or_ge q n with hlt | hge
      · have hd : decide ((q : Int) < (n : Int)) = true := by simp; omega
        obtain ⟨y, hy⟩ : ∃ y, t0[q]? = some y := ⟨t0[q], List.getElem?_eq_getElem (by omega)⟩
        obtain ⟨sb, so, rfl, hrow⟩ : ∃ b off, a0 = some ⟨b, off, none⟩ ∧ ∀ i s, t0[i]? = some s → TemplAt w b (off + i * 3) s := by
          rcases HW0.out.2.2 with h | h
          · subst h; simp at hnl; omega
          · exact h
        obtain ⟨la, lc, oa, oc, ⟨g0, g1, g2⟩, hsn, hst⟩ := templAt_form (hrow q y hy)
        have y0 := cell_below hbw g0
        have hfy := (HFD.out q y hy).2
        have HX9 := Lib.hid (HF.out y.nm wr hbw)
        rw [hfy, show Rg.ixJ (some q) = (q : Int) from rfl] at HX9
        have hne : ((q : Int) != (q : Int)) = false := by simp
        clear hrow g0 g1 g2 hst hsn hy hfy hnl
        go_wp2_with (go_at_call 15; (with_reducible refine (HX9.out).mono ?_); rintro e w5 ⟨rfl, hB5⟩)
        go_roundw
        case rel => exact ⟨q + 1, by omega, by go_num, hbw.trans (hB5.mono hbw.size)⟩
        case measure => simp [intOf]; omega
      · obtain rfl : q = n := by omega
        have hd : decide ((q : Int) < (q : Int)) = false := by simp
        obtain ⟨sb, so, rfl, hrow⟩ : ∃ b off, a0 = some ⟨b, off, none⟩ ∧ ∀ i s, t0[i]? = some s → TemplAt w b (off + i * 3) s := by
          rcases HW0.out.2.2 with h | h
          · subst h; simp at hnl; omega
          · exact h
        obtain ⟨la, lc, oa, oc, ⟨g0, g1, g2⟩, hsn, hst⟩ := templAt_form (hrow q0 x HX.out)
        obtain ⟨_, sa', sc', ta', tc', e9, hs9, ht9⟩ := hst
        injection e9 with e9
        have e9' := congrArg Array.toList e9
        simp only [List.cons.injEq, and_true, Value.slice.injEq] at e9'
        obtain ⟨_, ⟨rfl, _, rfl⟩, rfl, _, rfl⟩ := e9'
        have HT1 := Lib.hid (tCells_one hsn hs9 ht9)
        have hcells : Cells wr 3 (some ⟨sb, so, none⟩) q cs := cells_below9 HCE.out hbw
        have h1c := HCS.out.2.1
        have hown0 := fun W : World => World.ownsRow_nil W w.heap.size 45 3
        clear hrow hsn hs9 ht9 hnl
        go_upto_region 12 with (first
          | (at_builtin; refine wpList_append_at _ rfl _ _ 22 rfl w.heap.size 45 i0 (.agg vz3) 3 64 Tryz.underlying22 hi hz0 hz1 hz2 rfl (by decide) (.slice none 0 0) 0 [] rfl (hown0 _) (some ⟨sb, so, none⟩) q c0 cs rfl hcells h1c (by unfold maxLen; omega) (by omega) hbw.size ?_; intro v6 w6 hown6 hg6 _))
        have hown6' := ownsRow_nth hown6 (Nat.zero_add q) (List.nil_append cs)
        have hb6 := hbw.trans (below_grown hg6 (hown0 _) hbw.size)
        obtain ⟨a6, c6, rfl⟩ := own_form9 hown6'
        have y0 := cell_below hb6 g0
        have y1 := cell_below hb6 g1
        have y2 := cell_below hb6 g2
        have hA6 := (Below.refl _ w6).alloc (Nat.le_refl _) (.cells #[.string x.nm, .slice la x.slots.length lc, .slice oa x.steps.length oc] 45)
        have hown7 := ownsRow_below hown6' hA6
        have hb7 := hb6.trans (hA6.mono hb6.size)
        have hl8 : (t0 ++ [x]).length = q + 1 := by rw [List.length_append, HN.out]; rfl
        have HL8 := Lib.hid hl8
        clear hown6 hown6' hg6 g0 g1 g2 hcells h1c hl8
        go_upto_region 13 with (first
          | (at_builtin; refine wpList_append_at _ rfl _ _ 22 rfl w.heap.size 45 i0 (.agg vz3) 3 64 Tryz.underlying22 hi hz0 hz1 hz2 rfl (by decide) (.slice a6 q c6) q cs rfl hown7 (some ⟨w6.heap.size, 0, none⟩) 1 1 [.string x.nm, .slice la x.slots.length lc, .slice oa x.steps.length oc] rfl ⟨rfl, .inr ⟨_, rfl, cells_new w6 [.string x.nm, .slice la x.slots.length lc, .slice oa x.steps.length oc] 45⟩⟩ (by simp [Value.oneCell']) (by unfold maxLen; omega) (by omega) hb7.size ?_; intro v8 w8 hown8 hg8 _))
        have hb8 := hb7.trans (below_grown hg8 hown7 hb7.size)
        obtain ⟨a8, c8, e8, hrow8⟩ := templRow_own (ownsRow_nth hown8 HL8.out.symm rfl) (tCells_append HCS.out HT1.out) hb8
        rw [HL8.out] at e8
        subst e8
        have HROW8 := Lib.hid hrow8
        clear hown8 hg8 hrow8 hown7 hA6 y0 y1 y2
        go_wp2_with (first
          | (go_at_call 10; (with_reducible refine (HRT.out _ _ _ HROW8.out).mono ?_); rintro e w9 ⟨rfl, hB9⟩; have hrow9 := Lib.hid (templRow_below hB9 HROW8.out); have hb9 := hb8.trans (hB9.mono hb8.size))
          | (go_at_call 13; (with_reducible refine (HPT.out _ _ _ hrow9.out).mono ?_); rintro e w10 ⟨v10, rfl, ho10, hB10⟩; obtain ⟨a10, c10, rfl, hr10⟩ := got_row (n := 0) ho10 rfl))
        go_ret
        exact ⟨rfl, hb9.trans (hB10.mono hb9.size)⟩
theorem walk (t0 : List TemplM) (a0 : Option Addr) (c0 : Nat) (a1 : Int) (w : World) (w0 : TemplRow w a0 c0 t0) (w1 : (Lit.int .u8 a1).wf = true) :
    Calls Tryz.prog 6 #[.slice a0 t0.length c0, .int .u8 a1] w fun e w' => e = .returned (.bool true) ∧ Below w.heap.size w w' := by
  have hb : 0 ≤ a1 ∧ a1 ≤ 255 := by simpa [Lit.wf, IntKind.min, IntKind.max, IntKind.signed, IntKind.bits] using w1
  obtain ⟨k, rfl⟩ : ∃ k : Nat, a1 = (k : Int) := ⟨a1.toNat, by omega⟩
  exact namesA t0 a0 c0 k (by omega) w w0
end Go.Proofs.YtdogdbibhmhooaaGreat.registryNamesWalk

/- Proved: the statement RegistryNames: of a right registry each template is found by its name, and one more of a name that is there makes it one that isn't; for every input, without any condition. (Out of its walk: the frame alone, the arguments are opened, and shut again as they were.) -/
namespace Go.Proofs.YtdogdbibhmhooaaGreat.registryNamesSaid
open Go.ChangeShapes Go.WideShapes Go.ChangeAt Go.RowKit
open Go.ChangeMaps (open_string shut_string)
set_option linter.unusedVariables false

theorem own : ownKnob Tryz.prog.godebug = none := by kernel_rfl
theorem laidOut : laidOutB Tryz.prog = true := by kernel_rfl

set_option maxRecDepth 100000 in
theorem lifted (os : Os) (started : os.Started) (H : Type) (enc : TypeId × Value → H) :
    ReturnsInHanded {} Tryz.checked os 6 .any (Rows.registryNamesSpec.pre6 enc Tryz.prog Tryz.f6 Rows.registryNamesRow.domain false) (Rows.registryNamesSpec.post enc Tryz.prog Tryz.f6 false true false false) := by
  refine returnsInHanded_of_change (C := Tryz.checked) own started (by kernel_rfl) Tryz.func6
    (ChangeSpec.witness6 (enc := enc) (C := Tryz.checked) false ⟨#[], #[.slice none 0 0, .int .u8 0], []⟩ 8 (by kernel_rfl) (by kernel_rfl) (by kernel_rfl) (by kernel_rfl)) ?_
  intro W base args ds gs before hval0 hW hcnd _
  have hval : ∀ (j : Nat) t v, Tryz.f6.params[j]? = some t → args[j]? = some v → Value.okWide Tryz.prog W .any base t v := hval0
  have hW' := hW
  obtain ⟨p, q, hA0, hV, rfl, hfz, hnd⟩ := hW
  have hA : DataW.TrodAll enc Tryz.prog W 0 (fun _ => true) true Tryz.f6.params.toList args.toList ds p := hA0
  rw [Tryz.params6] at hA hval
  obtain ⟨v0, vs0, d0, ds0, p0, q0, hargs, rfl, rfl, h0, r0⟩ := trodAll_cons hA
  obtain ⟨v1, vs1, d1, ds1, p1, q1, rfl, rfl, rfl, h1, r1⟩ := trodAll_cons r0
  obtain ⟨rfl, rfl, rfl⟩ := trodAll_nil r1
  obtain rfl : args = #[v0, v1] := by cases args; simp_all
  obtain ⟨rfl, rfl⟩ := trodVars_none hV
  obtain ⟨a0, len0, c0, rfl⟩ := okWide_slice Tryz.underlying22 (hval 0 22 v0 rfl rfl)
  have k0 := h0
  have lt0 : ∀ x ∈ p0, x.block < W.heap.size := by obtain ⟨m, hm⟩ := k0; exact DataW.trod_lt m _ _ _ hm
  obtain ⟨t0, e0, w0⟩ : ∃ l : List TemplM, l.length = len0 ∧ TemplRow W a0 c0 l := by
    obtain ⟨fuel, hf⟩ := h0
    exact open_templs hf
  subst e0
  obtain ⟨a1, rfl, rfl, rfl, w1⟩ := open_int Tryz.underlying5 (hval 1 5 v1 rfl rfl) h1
  clear hA0 hval0
  refine (registryNamesWalk.walk t0 a0 c0 a1 W w0 w1).mono fun e W' ⟨he, bel⟩ => ?_
  subst he
  exact ⟨_, rfl, _, _, _, [], _, [], hW', trodAll_mk1 (shut_bool Tryz.underlying4 _), (trodAll_cons_mk (Below.trod laidOut (by kernel_rfl) (of_decide_eq_true (by kernel_rfl)) k0 bel lt0) (trodAll_cons_mk (shut_int Tryz.underlying5 w1) trodAll_mk0)), rfl, bel.frame _, fun h => by cases h⟩

theorem over : Rows.registryNamesRow.holds Tryz.pinned (OpenSpec.ofChange Rows.registryNamesSpec) :=
  OpenClaim.holds_of_wide 6 Tryz.f6 rfl rfl rfl rfl rfl rfl rfl ⟨rfl, rfl, rfl, rfl, rfl⟩ rfl rfl rfl rfl rfl (by kernel_rfl) Tryz.func6 (by kernel_rfl)
    (of_decide_eq_true (by kernel_rfl)) (by unfold Func.isWrapper; first | (rw [if_pos (by decide +kernel)]; kernel_rfl) | (rw [if_neg (by decide +kernel)]; exact ⟨rfl, rfl⟩))
    (fun os started H enc _ => lifted os started H enc)

theorem proved : Rows.RegistryNamesSaid := over
end Go.Proofs.YtdogdbibhmhooaaGreat.registryNamesSaid
