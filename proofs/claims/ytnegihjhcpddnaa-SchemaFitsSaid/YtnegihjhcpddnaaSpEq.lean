/- The program's schema: Last, Right, At, over what all comes to. -/
import Derived.Test.YtnegihjhcpddnaaSpGq
import Derived.Test.YtnegihjhcpddnaaSpXq
import Derived.Test.YtnegihjhcpddnaaSpAq
import Derived.Test.YtnegihjhcpddnaaSpBq
import Derived.Test.YtnegihjhcpddnaaSchAliveq
set_option linter.unusedVariables false
set_option linter.unusedSimpArgs false
set_option maxRecDepth 100000
namespace Go.Proofs.Ytnegihjhcpddnaa
open Go.RowKit Go.Shelf
/-- versions in a row -/
def VerRow (w W : World) (a : Option Addr) (c : Nat) (L : List Sc.Ver) : Prop := ∀ (i : Nat) (x : Sc.Ver), L[i]? = some x → ∃ b off sv cv, a = some ⟨b, off, none⟩ ∧ W.cell? ⟨b, off + i * 2, none⟩ = some sv ∧ W.cell? ⟨b, off + i * 2 + 1, none⟩ = some cv ∧ VerIn w W x sv cv
/-- what all must come to -/
def AllC : Prop := ∀ (t : TemplM) (w : World) (X : Value), greatT t = false → IsTempl w t X → Calls Try.prog 23 #[X] w fun e w' =>
  (match Sc.vers t with
    | none => ∃ a c, e = .returned (.slice a 0 c)
    | some L => ∃ a c, e = .returned (.slice a L.length c) ∧ L.length ≤ c ∧ c ≤ maxLen ∧ VerRow w w' a c L) ∧ Below w.heap.size w w'
theorem vers_ok {t : TemplM} {L : List Sc.Ver} (h : Sc.vers t = some L) : ∀ y ∈ L, Sc.VerOk 16 y := by
  unfold Sc.vers at h
  split at h
  · rename_i hc
    intro y hy
    have := Sc.run_ok _ 8 _ _ (Sc.first_ok hc.2.2.2.2 hc.2.2.1) h y hy
    exact ⟨this.lt, this.nodup, this.len, by have := this.num; omega, this.ok⟩
  · cases h
def lastN (t : TemplM) : Nat := match Sc.vers t with
  | none => 0
  | some L => L.length
set_option maxHeartbeats 2000000 in
theorem last_any (hAll : AllC) (t : TemplM) (w : World) (X : Value) (hg : greatT t = false) (hi : IsTempl w t X) : Calls Try.prog 11 #[X] w fun e w' => e = .returned (.int .i64 (lastN t : Int)) ∧ Below w.heap.size w w' := by
  have h0 := hi
  obtain ⟨h1, sa, sc, ta, tc, rfl, hsl, hst⟩ := hi
  have hA1 := (Below.refl _ w).alloc (Nat.le_refl _) (.cells #[.string t.nm, .slice sa t.slots.length sc, .slice ta t.steps.length tc] 33)
  have hA := hAll t _ _ hg (isTempl_below hA1 h0)
  have hA2 : Calls Try.prog 23 #[.agg #[.string t.nm, .slice sa t.slots.length sc, .slice ta t.steps.length tc]] (w.alloc (.cells #[.string t.nm, .slice sa t.slots.length sc, .slice ta t.steps.length tc] 33)) fun e w' => (∃ a c, e = .returned (.slice a (lastN t) c)) ∧ Below (w.alloc (.cells #[.string t.nm, .slice sa t.slots.length sc, .slice ta t.steps.length tc] 33)).heap.size (w.alloc (.cells #[.string t.nm, .slice sa t.slots.length sc, .slice ta t.steps.length tc] 33)) w' := hA.mono fun e w' h => by
    refine ⟨?_, h.2⟩
    have h2 := h.1
    unfold lastN
    cases hv : Sc.vers t with
    | none => rw [hv] at h2; exact h2
    | some L => rw [hv] at h2; obtain ⟨a, c, e, _⟩ := h2; exact ⟨a, c, e⟩
  obtain ⟨N, hN⟩ : ∃ N, lastN t = N := ⟨_, rfl⟩
  rw [hN] at hA2 ⊢
  have H := Lib.hid hA2
  clear hA hA2 hN h0 hsl hst
  go_enter Try.func11, Try.ntmps11
  go_wp2_with (go_at_call 23; (with_reducible refine H.out.mono ?_); rintro e w1 ⟨⟨a, c, rfl⟩, hB1⟩)
  go_ret
  exact ⟨rfl, hA1.trans (hB1.mono hA1.size)⟩
theorem lastA (hAll : AllC) : LastC := fun t L w X hg hv hi => (last_any hAll t w X hg hi).mono fun e w' h => by
  have : lastN t = L.length := by unfold lastN; rw [hv]
  rw [this] at h
  exact h
set_option maxHeartbeats 2000000 in
theorem rightA (hAll : AllC) : RightC := fun t w X hg hi => by
  have h0 := hi
  obtain ⟨h1, sa, sc, ta, tc, rfl, hsl, hst⟩ := hi
  have hA1 := (Below.refl _ w).alloc (Nat.le_refl _) (.cells #[.string t.nm, .slice sa t.slots.length sc, .slice ta t.steps.length tc] 33)
  have hA := last_any hAll t _ _ hg (isTempl_below hA1 h0)
  have hb : decide ((lastN t : Int) > 0) = (Sc.vers t).isSome := by
    unfold lastN
    cases hv : Sc.vers t with
    | none => rfl
    | some L =>
      have := (Sc.vers_length hv).1
      simp
      omega
  obtain ⟨N, hN⟩ : ∃ N, lastN t = N := ⟨_, rfl⟩
  rw [hN] at hA hb
  rw [← hb]
  have H := Lib.hid hA
  clear hA hb hN h0 hsl hst
  go_enter Try.func10, Try.ntmps10
  go_wp2_with (go_at_call 11; (with_reducible refine H.out.mono ?_); rintro e w1 ⟨rfl, hB1⟩)
  go_ret
  exact ⟨ret_bool (by simp), hA1.trans (hB1.mono hA1.size)⟩
theorem res2 {w w1 : World} {o1 o2 : Obj} (h : Below ((w.alloc o1).alloc o2).heap.size ((w.alloc o1).alloc o2) w1) : w1.heap[w.heap.size + 1]? = some o2 := by
  have e := heap_self9 (w.alloc o1) o2
  rw [World.size_alloc] at e
  exact (h.block _ (by simp)).trans e
theorem belowTwo (w : World) (o1 o2 : Obj) : Below w.heap.size w ((w.alloc o1).alloc o2) := ((Below.refl _ w).alloc (Nat.le_refl _) o1).alloc (by simp) o2
set_option maxHeartbeats 4000000 in
theorem atA (hAll : AllC) : AtC := fun t L v x w X hg hv hx hi => by
  have h0 := hi
  obtain ⟨h1, sa, sc, ta, tc, rfl, hsl, hst⟩ := hi
  have hBT := belowTwo w (.cells #[.string t.nm, .slice sa t.slots.length sc, .slice ta t.steps.length tc] 33) (.cells #[.slice none 0 0, .slice none 0 0] 38)
  have hA := hAll t _ _ hg (isTempl_below hBT h0)
  rw [hv] at hA
  simp only at hA
  have hlen := Sc.vers_length hv
  have hvl := (List.getElem?_eq_some_iff.1 hx).1
  have hok := vers_ok hv x (List.mem_of_getElem? hx)
  have hF := fun sa sc ca cc W hV => fresh_any x sa sc ca cc W hok.num (Nat.le_trans hok.len (by omega)) (fun s hs => (hok.ok s hs).2.2) hV
  obtain ⟨n, hn⟩ : ∃ n, L.length = n := ⟨_, rfl⟩
  rw [hn] at hA hvl hlen
  have HX := Lib.hid hx; have HF := Lib.hid hF; have H := Lib.hid hA
  have hn9 : n ≤ 9 := by omega
  have d1 : decide ((v : Int) + 1 < 1) = false := by simp; omega
  have d2 : decide ((v : Int) + 1 > (n : Int)) = false := by simp; omega
  have d3 : decide ((v : Int) < (n : Int)) = true := by simp; omega
  have hw1 : IntKind.i64.wrap ((v : Int) + 1 - 1) = (v : Int) := by
    have := Sc.wrapI v (by omega)
    rwa [show (v : Int) + 1 - 1 = (v : Int) by omega]
  rw [show ((v + 1 : Nat) : Int) = (v : Int) + 1 by omega]
  clear hA hF hx hv h0 hsl hst hok hlen hn
  go_enter Try.func12, Try.ntmps12
  go_wp2_with (first
    | (go_at_call 23; (with_reducible refine H.out.mono ?_); rintro e w1 ⟨⟨a, c, rfl, hc1, hc2, hrow⟩, hB1⟩; obtain ⟨b, off, sv, cv, rfl, q0, q1, hvi⟩ := hrow v x HX.out; obtain ⟨sa1, sc1, ca1, cc1, cs1, rfl, rfl, hva, _, _⟩ := verIn_at hvi hB1; have hH := res2 hB1; obtain ⟨f0, f1, f2, f3⟩ := two_all hH; have HVA := Lib.hid hva; have hlt1 := (Array.getElem?_eq_some_iff.1 hH).1; have hBw := hBT.trans (hB1.mono hBT.size))
    | (go_at_call 24; (with_reducible refine (HF.out _ _ _ _ _ HVA.out).mono ?_); rintro e w2 ⟨⟨sa2, sc2, ca2, cc2, rfl, hag⟩, hB2⟩; have hH := (hB2.block _ hlt1).trans hH; obtain ⟨f0, f1, f2, f3⟩ := two_all hH; have hBw2 := hBw.trans (hB2.mono hBw.size)))
  refine bodyPost_ret (results_cell_tmpS Try.results12 _ _ (w.heap.size + 1) _ _ _ _ rfl (step_out _ _ hH hBw2 (by omega)).1 Try.underlying38 rfl (by kernel_rfl)) rfl ?_
  refine ⟨⟨sa2, sc2, ca2, cc2, rfl, hag _ fun b hb hlt => ?_⟩, (step_out _ _ hH hBw2 (by omega)).2⟩
  obtain ⟨o, hbo⟩ : ∃ o, w2.heap[b]? = some o := ⟨w2.heap[b], Array.getElem?_eq_getElem hlt⟩
  rw [hbo]
  exact heap_set1 (heap_set1 hbo (by omega)) (by omega)
set_option maxHeartbeats 4000000 in
theorem atNA (hAll : AllC) : AtNC := fun t L v w X hg hv hlv hvm hi => by
  have h0 := hi
  obtain ⟨h1, sa, sc, ta, tc, rfl, hsl, hst⟩ := hi
  have hBT := belowTwo w (.cells #[.string t.nm, .slice sa t.slots.length sc, .slice ta t.steps.length tc] 33) (.cells #[.slice none 0 0, .slice none 0 0] 38)
  have hA := hAll t _ _ hg (isTempl_below hBT h0)
  rw [hv] at hA
  simp only at hA
  have hlen := Sc.vers_length hv
  have hb0 := fun W => build_ver0 W
  obtain ⟨n, hn⟩ : ∃ n, L.length = n := ⟨_, rfl⟩
  rw [hn] at hA hlv hlen
  have H := Lib.hid hA
  have d1 : decide ((v : Int) < 1) = false := by simp; omega
  have d2 : decide ((v : Int) > (n : Int)) = true := by simp; omega
  have HLV := Lib.hid hlv
  clear hA hv h0 hsl hst hlen hn hlv
  go_enter Try.func12, Try.ntmps12
  go_wp2_with (first
    | (go_at_call 23; (with_reducible refine H.out.mono ?_); rintro e w1 ⟨⟨a, c, rfl, hc1, hc2, hrow⟩, hB1⟩; have hH := res2 hB1; obtain ⟨f0, f1, f2, f3⟩ := two_all hH; have hBw := hBT.trans (hB1.mono hBT.size)))
  refine bodyPost_ret (results_cell_tmpS Try.results12 _ _ (w.heap.size + 1) _ _ _ _ rfl (step_out _ _ hH hBw (by omega)).1 Try.underlying38 rfl (by kernel_rfl)) rfl ?_
  exact ⟨⟨_, _, _, _, _, _, rfl⟩, (step_out _ _ hH hBw (by omega)).2⟩
theorem colC9 : ColC := fun x sa sc ca cc nm w h1 h2 h3 => col_any x sa sc ca cc nm w h1 h2 h3
theorem fitsC : FitsC := fun s v w X Y h1 h2 h3 h4 => fits_any s v h1 h2 w X Y h3 h4
end Go.Proofs.Ytnegihjhcpddnaa
