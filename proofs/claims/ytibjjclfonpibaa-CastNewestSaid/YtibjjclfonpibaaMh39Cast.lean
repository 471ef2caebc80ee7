/- The program's contracts of stage 10. -/
import Derived.Test.YtibjjclfonpibaaMh36Cast
import Derived.Test.YtibjjclfonpibaaMh37Cast
import Derived.Test.YtibjjclfonpibaaMh38Cast
import Derived.Test.YtibjjclfonpibaaMh19Cast
set_option linter.unusedVariables false
namespace Go.Proofs.Ytibjjclfonpibaa
open Go.RowKit Go.Shelf
theorem allC : AllC := spAll_any spAdd_any reorder_any
theorem atC : AtC := atA allC
end Go.Proofs.Ytibjjclfonpibaa

/- The program's records: at, version, fit; schema.At of every number. -/
set_option linter.unusedVariables false
set_option linter.unusedSimpArgs false
set_option maxRecDepth 100000
namespace Go.Proofs.Ytibjjclfonpibaa
open Go.RowKit Go.Shelf
theorem allN (t : TemplM) (w : World) (X : Value) (hg : greatT t = false) (hi : IsTempl w t X) : Calls Try.prog 20 #[X] w fun e w' => (∃ a c, e = .returned (.slice a (lastN t) c)) ∧ Below w.heap.size w w' :=
  (allC t w X hg hi).mono fun e w' h => by
    refine ⟨?_, h.2⟩
    have h2 := h.1
    unfold lastN
    cases hv : Sc.vers t with
    | none => rw [hv] at h2; exact h2
    | some L => rw [hv] at h2; obtain ⟨a, c, e, _⟩ := h2; exact ⟨a, c, e⟩
theorem verOf_none {t : TemplM} {v : Int} (h : Rc.verOf t v = none) : v < 1 ∨ (lastN t : Int) < v := by
  unfold Rc.verOf at h
  split at h
  · rename_i hlt; exact .inl hlt
  · rename_i hlt
    right
    unfold lastN
    cases hv : Sc.vers t with
    | none => simp only; omega
    | some L =>
      rw [hv] at h
      simp only [Option.bind_some, List.getElem?_eq_none_iff] at h
      simp only
      omega
theorem verOf_some {t : TemplM} {v : Int} {x : Sc.Ver} (h : Rc.verOf t v = some x) : ∃ (L : List Sc.Ver) (n : Nat), Sc.vers t = some L ∧ L[n]? = some x ∧ v = ((n + 1 : Nat) : Int) ∧ n + 1 ≤ 9 := by
  unfold Rc.verOf at h
  split at h
  · cases h
  · rename_i hlt
    cases hv : Sc.vers t with
    | none => rw [hv] at h; cases h
    | some L =>
      rw [hv] at h
      simp only [Option.bind_some] at h
      have := (List.getElem?_eq_some_iff.1 h).1
      have h9 := Sc.vers_length hv
      exact ⟨L, (v - 1).toNat, rfl, h, by omega, by omega⟩
theorem verOf_ok {t : TemplM} {v : Int} {x : Sc.Ver} (h : Rc.verOf t v = some x) : Sc.VerOk 16 x := by
  obtain ⟨L, n, hv, hx, _⟩ := verOf_some h
  exact vers_ok hv x (List.mem_of_getElem? hx)
theorem lastN_le (t : TemplM) : lastN t ≤ 9 := by
  unfold lastN
  cases hv : Sc.vers t with
  | none => simp
  | some L => simp only; have := Sc.vers_length hv; omega
set_option maxHeartbeats 4000000 in
theorem atNo (t : TemplM) (v : Int) (w : World) (X : Value) (hg : greatT t = false) (hv : v < 1 ∨ (lastN t : Int) < v) (hI : I64 v) (hi : IsTempl w t X) : Calls Try.prog 34 #[X, .int .i64 v] w fun e w' =>
    (∃ sa n sc ca m cc, e = .returned (.tuple #[.agg #[.slice sa n sc, .slice ca m cc], .bool false])) ∧ Below w.heap.size w w' := by
  have h0 := hi
  obtain ⟨h1, sa, sc, ta, tc, rfl, hsl, hst⟩ := hi
  have hBT := belowTwo w (.cells #[.string t.nm, .slice sa t.slots.length sc, .slice ta t.steps.length tc] 25) (.cells #[.slice none 0 0, .slice none 0 0] 56)
  have hA := allN t _ _ hg (isTempl_below hBT h0)
  have hb0 := fun W => build_ver0 W
  obtain ⟨n, hn⟩ : ∃ n, lastN t = n := ⟨_, rfl⟩
  rw [hn] at hA hv
  have H := Lib.hid hA
  unfold I64 at hI
  by_cases hlo : v < 1
  · have d1 : decide (v < 1) = true := by simpa using hlo
    have HLO := Lib.hid hlo
    clear hA h0 hsl hst hn hv hlo
    go_enter Try.func34, Try.ntmps34
    go_wp2_with (first
      | (go_at_call 20; (with_reducible refine H.out.mono ?_); rintro e w1 ⟨⟨a, c, rfl⟩, hB1⟩; have hH := res2 hB1; obtain ⟨f0, f1, f2, f3⟩ := two_all hH; have hBw := hBT.trans (hB1.mono hBT.size)))
    refine bodyPost_ret (results_cell_tmpS Try.results34 _ _ (w.heap.size + 1) _ _ _ _ rfl (step_out _ _ hH hBw (by omega)).1 Try.underlying56 rfl (by kernel_rfl)) rfl ?_
    exact ⟨⟨_, _, _, _, _, _, rfl⟩, (step_out _ _ hH hBw (by omega)).2⟩
  · have d1 : decide (v < 1) = false := by simpa using hlo
    have d2 : decide (v > (n : Int)) = true := by simp; omega
    have HLO := Lib.hid hlo
    clear hA h0 hsl hst hn hv hlo
    go_enter Try.func34, Try.ntmps34
    go_wp2_with (first
      | (go_at_call 20; (with_reducible refine H.out.mono ?_); rintro e w1 ⟨⟨a, c, rfl⟩, hB1⟩; have hH := res2 hB1; obtain ⟨f0, f1, f2, f3⟩ := two_all hH; have hBw := hBT.trans (hB1.mono hBT.size)))
    refine bodyPost_ret (results_cell_tmpS Try.results34 _ _ (w.heap.size + 1) _ _ _ _ rfl (step_out _ _ hH hBw (by omega)).1 Try.underlying56 rfl (by kernel_rfl)) rfl ?_
    exact ⟨⟨_, _, _, _, _, _, rfl⟩, (step_out _ _ hH hBw (by omega)).2⟩
/-- fit -/
theorem fitR_any (x : Sc.Ver) (sa : Option Addr) (sc : Nat) (ca : Option Addr) (cc : Nat) (vs : List PV) (b : Option Addr) (d : Nat) (w : World) (hv : VerAt w x sa sc ca cc) (hr : PRow w b d vs) (hty : ∀ s ∈ x.slots, 0 ≤ s.ty) (hsz : ∀ v ∈ vs, szV v ≤ 1000000) (hsm : x.slots.length ≤ 100000) (hsv : vs.length ≤ 100000) :
    Calls Try.prog 40 #[.agg #[.slice sa x.slots.length sc, .slice ca x.cols.length cc], .slice b vs.length d] w fun e w' => e = .returned (.bool (Rc.fitL x.slots vs)) ∧ Below w.heap.size w w' := by
  have hA1 := (Below.refl _ w).alloc (Nat.le_refl _) (.cells #[.slice sa x.slots.length sc, .slice ca x.cols.length cc] 56)
  have hE := equalF_any sa b sc d x.slots vs _ (slotRow_below hA1 hv.1) (pRow_below hA1 hr) hty hsz hsm hsv (Rc.fitL x.slots vs) (Rc.fitL_iff _ _)
  obtain ⟨B, hB⟩ : ∃ B, Rc.fitL x.slots vs = B := ⟨_, rfl⟩
  obtain ⟨n, hn⟩ : ∃ n, x.slots.length = n := ⟨_, rfl⟩
  obtain ⟨m, hm⟩ : ∃ m, vs.length = m := ⟨_, rfl⟩
  obtain ⟨k, hk⟩ : ∃ k, x.cols.length = k := ⟨_, rfl⟩
  rw [hB, hn, hm, hk] at hE
  rw [hB, hn, hm, hk]
  rw [hn, hk] at hA1
  have H := Lib.hid hE
  clear hE hB hv hr hty hsz hsm hsv hn hm hk
  go_enter Try.func40, Try.ntmps40
  go_wp2_with (go_at_call 49; (with_reducible refine H.out.mono ?_); rintro e w1 ⟨rfl, hB1⟩)
  go_ret
  exact ⟨rfl, hA1.trans (hB1.mono hA1.size)⟩
/-- a version that reads so wherever what lies from B on is as it is -/
def VerFresh (B : Nat) (w : World) (x : Sc.Ver) (sa : Option Addr) (sc : Nat) (ca : Option Addr) (cc : Nat) : Prop := ∀ W' : World, (∀ b, B ≤ b → b < w.heap.size → W'.heap[b]? = w.heap[b]?) → VerAt W' x sa sc ca cc
theorem verFresh_at {B : Nat} {w : World} {x : Sc.Ver} {sa : Option Addr} {sc : Nat} {ca : Option Addr} {cc : Nat} (h : VerFresh B w x sa sc ca cc) : VerAt w x sa sc ca cc := h w fun _ _ _ => rfl
theorem verFresh_later {B : Nat} {w w1 : World} {x : Sc.Ver} {sa : Option Addr} {sc : Nat} {ca : Option Addr} {cc : Nat} (h : VerFresh B w x sa sc ca cc) (hs : w.heap.size ≤ w1.heap.size) (hb : ∀ b, B ≤ b → b < w.heap.size → w1.heap[b]? = w.heap[b]?) : VerFresh B w1 x sa sc ca cc :=
  fun w' h' => h w' fun b h1 h2 => (h' b h1 (by omega)).trans (hb b h1 h2)
theorem verFresh_mono {B B' : Nat} {w : World} {x : Sc.Ver} {sa : Option Addr} {sc : Nat} {ca : Option Addr} {cc : Nat} (h : VerFresh B w x sa sc ca cc) (hb : B' ≤ B) : VerFresh B' w x sa sc ca cc := fun w' h' => h w' fun b h1 h2 => h' b (Nat.le_trans hb h1) h2
theorem verAt_below {w w1 : World} {x : Sc.Ver} {sa : Option Addr} {sc : Nat} {ca : Option Addr} {cc : Nat} (h : VerAt w x sa sc ca cc) (hb : Below w.heap.size w w1) : VerAt w1 x sa sc ca cc := ⟨slotRow_below hb h.1, row_below h.2 hb rfl⟩
theorem verFresh_set2' {B b : Nat} {w : World} {x : Sc.Ver} {sa : Option Addr} {sc : Nat} {ca : Option Addr} {cc : Nat} (h : VerFresh B w x sa sc ca cc) (hb : b < B) (u0 u1 : Value) : VerFresh B ((w.setCell ⟨b, 0, none⟩ u0).setCell ⟨b, 1, none⟩ u1) x sa sc ca cc := by
  have h1 := fun (W : World) (i : Nat) (u : Value) => (grown_set9 W b i u).size
  refine verFresh_later h (Nat.le_trans (h1 _ 0 u0) (h1 _ 1 u1)) fun c hc hl => ?_
  rw [Below.heap_setCell _ ⟨b, 1, none⟩ u1 c (by show c ≠ b; omega), Below.heap_setCell _ ⟨b, 0, none⟩ u0 c (by show c ≠ b; omega)]
set_option maxHeartbeats 4000000 in
theorem atF (t : TemplM) (L : List Sc.Ver) (v : Nat) (x : Sc.Ver) (w : World) (X : Value) (hg : greatT t = false) (hv : Sc.vers t = some L) (hx : L[v]? = some x) (hi : IsTempl w t X) : Calls Try.prog 34 #[X, .int .i64 ((v + 1 : Nat) : Int)] w fun e w' =>
    (∃ sa sc ca cc, e = .returned (.tuple #[.agg #[.slice sa x.slots.length sc, .slice ca x.cols.length cc], .bool true]) ∧ VerFresh w.heap.size w' x sa sc ca cc) ∧ Below w.heap.size w w' := by
  have h0 := hi
  obtain ⟨h1, sa, sc, ta, tc, rfl, hsl, hst⟩ := hi
  have hBT := belowTwo w (.cells #[.string t.nm, .slice sa t.slots.length sc, .slice ta t.steps.length tc] 25) (.cells #[.slice none 0 0, .slice none 0 0] 56)
  have hA := allC t _ _ hg (isTempl_below hBT h0)
  rw [hv] at hA
  simp only at hA
  have hlen := Sc.vers_length hv
  have hvl := (List.getElem?_eq_some_iff.1 hx).1
  have hok := vers_ok hv x (List.mem_of_getElem? hx)
  have hF := fun sa sc ca cc W hV => fresh_any x sa sc ca cc W hok.num (Nat.le_trans hok.len (by omega)) (fun s hs => (hok.ok s hs).2.2) hV
  obtain ⟨n, hn⟩ : ∃ n, L.length = n := ⟨_, rfl⟩
  rw [hn] at hA hvl hlen
  have HX := Lib.hid hx; have HF := Lib.hid hF; have H := Lib.hid hA
  have hn9 : n ≤ 9 := by omega
  have d1 : decide ((v : Int) + 1 < 1) = false := by simp; omega
  have d2 : decide ((v : Int) + 1 > (n : Int)) = false := by simp; omega
  have d3 : decide ((v : Int) < (n : Int)) = true := by simp; omega
  have hw1 : IntKind.i64.wrap ((v : Int) + 1 - 1) = (v : Int) := by
    have := Sc.wrapI v (by omega)
    rwa [show (v : Int) + 1 - 1 = (v : Int) by omega]
  rw [show ((v + 1 : Nat) : Int) = (v : Int) + 1 by omega]
  clear hA hF hx hv h0 hsl hst hok hlen hn
  go_enter Try.func34, Try.ntmps34
  go_wp2_with (first
    | (go_at_call 20; (with_reducible refine H.out.mono ?_); rintro e w1 ⟨⟨a, c, rfl, hc1, hc2, hrow⟩, hB1⟩; obtain ⟨b, off, sv, cv, rfl, q0, q1, hvi⟩ := hrow v x HX.out; obtain ⟨sa1, sc1, ca1, cc1, cs1, rfl, rfl, hva, _, _⟩ := verIn_at hvi hB1; have hH := res2 hB1; obtain ⟨f0, f1, f2, f3⟩ := two_all hH; have HVA := Lib.hid hva; have hlt1 := (Array.getElem?_eq_some_iff.1 hH).1; have hBw := hBT.trans (hB1.mono hBT.size))
    | (go_at_call 43; (with_reducible refine (HF.out _ _ _ _ _ HVA.out).mono ?_); rintro e w2 ⟨⟨sa2, sc2, ca2, cc2, rfl, hag⟩, hB2⟩; have hH := (hB2.block _ hlt1).trans hH; obtain ⟨f0, f1, f2, f3⟩ := two_all hH; have hBw2 := hBw.trans (hB2.mono hBw.size)))
  refine bodyPost_ret (results_cell_tmpS Try.results34 _ _ (w.heap.size + 1) _ _ _ _ rfl (step_out _ _ hH hBw2 (by omega)).1 Try.underlying56 rfl (by kernel_rfl)) rfl ?_
  exact ⟨⟨sa2, sc2, ca2, cc2, rfl, verFresh_mono (verFresh_set2' (B := w1.heap.size) hag hlt1 _ _) hBw.size⟩, (step_out _ _ hH hBw2 (by omega)).2⟩
/-- what lay in w1 lies behind a new block, too -/
theorem next_block {w1 : World} {b : Nat} {o o' : Obj} (h : w1.heap[b]? = some o) : (w1.alloc o').heap[b]? = some o := (((Below.refl _ w1).alloc (Nat.le_refl _) o').block b (Array.getElem?_eq_some_iff.1 h).1).trans h
end Go.Proofs.Ytibjjclfonpibaa
