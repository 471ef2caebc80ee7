/- Layer 9 of the program: a field in quotes; a field. -/
import Derived.Test.YtclnephomnkieaaCsvBeh
import Derived.Test.YtclnephomnkieaaOwns
set_option linter.unusedVariables false
namespace Go.Proofs.Ytclnephomnkieaa
open Go.RowKit Go.Shelf
namespace V
/-- what is read of a field in quotes, F having been read -/
def qOn (F r : List Int) : Option (List Int × List Int) := (quoted r).map fun p => (F ++ p.1, p.2)
theorem qOn_nil (r : List Int) : qOn [] r = quoted r := by
  unfold qOn
  cases quoted r with
  | none => rfl
  | some p => rfl
theorem qOn_end (F : List Int) : qOn F [] = none := rfl
theorem qOn_step (F : List Int) (x : Int) (r : List Int) (h : x ≠ 34) : qOn F (x :: r) = qOn (F ++ [x]) r := by
  unfold qOn
  conv => lhs; unfold quoted
  rw [if_neg h]
  cases quoted r with
  | none => rfl
  | some p => simp
theorem qOn_two (F r : List Int) : qOn F (34 :: 34 :: r) = qOn (F ++ [34]) r := by
  unfold qOn
  rw [quoted_two]
  cases quoted r with
  | none => rfl
  | some p => simp
theorem qOn_one (F t : List Int) (h : ∀ u, t ≠ 34 :: u) : qOn F (34 :: t) = some (F, t) := by
  unfold qOn
  rw [quoted_one t h]
  simp
end V
/-- what a field's reading answers: the field in its reading, the mark -/
def QRes (s : ByteArray) (Q : Option (List Int × List Int)) : List Int × (Int × Nat) := match Q with
  | none => ([], (0, s.size))
  | some (f, b) => (f, V.mk s.size b)
def markV (m : Int × Nat) : Value := .agg #[.int .i64 m.1, .int .i64 (m.2 : Nat)]
/-- a mark's block -/
def MAt (W : World) (b : Nat) (cs : Array Value) : Prop := W.heap[b]? = some (.cells cs 44 (0, 0))
theorem mat_lt {W : World} {b : Nat} {cs : Array Value} (h : MAt W b cs) : b < W.heap.size := (Array.getElem?_eq_some_iff.1 h).1
theorem mat_cell {W : World} {b : Nat} {cs : Array Value} (h : MAt W b cs) (i : Nat) (c : Value) (hc : cs[i]? = some c) : W.cell? ⟨b, i, none⟩ = some c := by
  simp [World.cell?, show W.heap[b]? = _ from h, hc]
theorem mat_frozen {W : World} {b : Nat} {cs : Array Value} (h : MAt W b cs) (i : Nat) : W.frozen? ⟨b, i, none⟩ = false := by simp [World.frozen?, show W.heap[b]? = _ from h]
theorem mat_below {W W' : World} {b : Nat} {cs : Array Value} (h : MAt W b cs) (hb : Below W.heap.size W W') : MAt W' b cs := (hb.block b (mat_lt h)).trans h
theorem mat_alloc (W : World) (cs : Array Value) : MAt (W.alloc (.cells cs 44)) W.heap.size cs := World.alloc_heap_new W _
theorem mat_set {W : World} {b : Nat} {cs : Array Value} (h : MAt W b cs) (i : Nat) (c : Value) : MAt (W.setCell ⟨b, i, none⟩ c) b (cs.setIfInBounds i c) := by
  obtain ⟨hlt, hk⟩ := Array.getElem?_eq_some_iff.1 h
  show (W.heap.modify b _)[b]? = _
  rw [Array.getElem?_eq_getElem (by rw [Array.size_modify]; exact hlt), Array.getElem_modify_self, hk]
  rfl
theorem mat_set2 {W : World} {b : Nat} {c0 c1 : Value} (h : MAt W b #[c0, c1]) (d0 d1 : Value) : MAt ((W.setCell ⟨b, 0, none⟩ d0).setCell ⟨b, 1, none⟩ d1) b #[d0, d1] := mat_set (mat_set h 0 d0) 1 d1
theorem mat_facts {W : World} {b : Nat} {c0 c1 : Value} (h : MAt W b #[c0, c1]) : (W.cell? ⟨b, 0, none⟩ = some c0 ∧ W.cell? ⟨b, 1, none⟩ = some c1) ∧ (W.frozen? ⟨b, 0, none⟩ = false ∧ W.frozen? ⟨b, 1, none⟩ = false) :=
  ⟨⟨mat_cell h 0 _ rfl, mat_cell h 1 _ rfl⟩, mat_frozen h 0, mat_frozen h 1⟩
theorem below_set2 {B : Nat} {w W : World} (h : Below B w W) {b : Nat} (hb : B ≤ b) (d0 d1 : Value) : Below B w ((W.setCell ⟨b, 0, none⟩ d0).setCell ⟨b, 1, none⟩ d1) := (h.setCell (p := ⟨b, 0, none⟩) hb d0).setCell (p := ⟨b, 1, none⟩) hb d1
/-- the result's cells, and own bytes above them -/
theorem mark_room {w W : World} (c : Array Value) (h : Below (w.alloc (.cells c 44)).heap.size (w.alloc (.cells c 44)) W) : MAt W w.heap.size c :=
  (h.block _ (by simp)).trans (World.alloc_heap_new w _)
theorem mark_below {w W : World} (c : Array Value) (h : Below (w.alloc (.cells c 44)).heap.size (w.alloc (.cells c 44)) W) : Below w.heap.size w W :=
  ((Below.refl w.heap.size w).alloc (Nat.le_refl _) _).trans (h.mono (by simp))
set_option maxRecDepth 100000 in
set_option maxHeartbeats 8000000 in
theorem quoted_any (s : ByteArray) (p : Nat) (w : World) (hsm : s.size ≤ 100000000) (hp : p ≤ s.size) :
    Calls Try.prog 24 #[.string s, .int .i64 (p : Int)] w fun e w' => e = .returned (.tuple #[.string (strOfNums (QRes s (V.quoted ((strB s).drop p))).1), markV (QRes s (V.quoted ((strB s).drop p))).2]) ∧ Below w.heap.size w w' := by
  obtain ⟨Q, hQ⟩ : ∃ Q, V.quoted ((strB s).drop p) = Q := ⟨_, rfl⟩
  rw [hQ]
  have HQ0 := Lib.hid hQ; clear hQ
  have hBh : ∀ q w, q ≤ s.size → Calls Try.prog 25 #[.string s, .int .i64 (q : Int)] w _ := fun q w h => behind_any s q w hsm h
  go_enter Try.func24, Try.ntmps24
  go_wp2
  go_loopw [1, 6] (fun i v wr => ∃ (q : Nat) (F : List Int), q ≤ s.size ∧ i = .int .i64 q ∧ Owns (w.alloc (.cells #[.int .i64 0, .int .i64 0] 44)) wr v F ∧ F.length ≤ q ∧ Hid (V.qOn F ((strB s).drop q) = Q)) (fun i _ _ => s.size - (intOf i).toNat)
  case atStart => exact ⟨p, [], hp, rfl, owns_nil _, Nat.zero_le _, Lib.hid (by rw [V.qOn_nil]; exact HQ0.out)⟩
  case round =>
    obtain ⟨q, F, hq, rfl, hown, hFl, HQ⟩ := hrel
    rcases Nat.lt_or_ge q s.size with hlt | hge
    · have hd := drop_at s q hlt
      have d1 : decide (q < s.size) = true := by simpa using hlt
      by_cases h34 : (s[q].toNat : Int) = 34
      · have e1 : ((s[q].toNat : Int) == 34) = true := by simpa using h34
        have HQ2 := HQ.out
        rw [hd, h34] at HQ2
        obtain ⟨av, nv, cv, rfl⟩ := own_shape hown.1
        by_cases hend : ∃ h : q + 1 < s.size, (s[q + 1].toNat : Int) = 34
        · obtain ⟨hl2, h35⟩ := hend
          rw [drop_at s (q + 1) hl2, h35, V.qOn_two] at HQ2
          have HQ3 := Lib.hid HQ2; clear HQ2 hd
          have e2 : (((q : Int) + 1) == (s.size : Int)) = false := by simp; omega
          have e3 : ((s[q + 1].toNat : Int) != 34) = false := by simpa using h35
          have HS := Lib.hid h35
          clear h34 h35
          have hown1 := owns_below hown ((Below.refl _ wr).alloc (Nat.le_refl _) (.cells #[.int .u8 (s[q + 1].toNat : Int)] 5))
          go_wp2_with (first
            | (at_builtin; refine wpList_owns_one rfl _ _ rfl (w.alloc (.cells #[.int .i64 0, .int .i64 0] 44)) (.slice av nv cv) F rfl hown1 wr.heap.size (s[q + 1].toNat : Int) rfl (by simp) (by omega) ?_; intro v' w2 hown2 hg2))
          go_roundw
          case rel => exact ⟨q + 2, F ++ [34], hl2, by go_num, by rw [HS.out] at hown2; exact hown2, by simp; omega, HQ3⟩
          case measure => simp [intOf]; omega
        · have hne : ∀ u, (strB s).drop (q + 1) ≠ 34 :: u := fun u he => by
            have hl2 : q + 1 < s.size := by
              rcases Nat.lt_or_ge (q + 1) s.size with h | h
              · exact h
              · rw [List.drop_eq_nil_of_le (by rw [strB_len]; exact h)] at he; cases he
            rw [drop_at s (q + 1) hl2] at he
            injection he with he _
            exact hend ⟨hl2, he⟩
          rw [V.qOn_one F _ hne] at HQ2
          subst HQ2
          have hb := fun w => hBh (q + 1) w hlt
          have hcast : ((q + 1 : Nat) : Int) = (q : Int) + 1 := by omega
          simp only [hcast] at hb
          clear hcast
          obtain ⟨m1, m2, hm⟩ : ∃ m1 m2, V.mk s.size ((strB s).drop (q + 1)) = (m1, m2) := ⟨_, _, rfl⟩
          simp only [hm] at hb
          have HM := Lib.hid hm
          have hownd := owns_below hown ((Below.refl wr.heap.size wr).drew)
          have hcv := conv_owned _ _ _ _ _ hownd.1
          have hout : (((q : Int) + 1) == (s.size : Int)) = true ∨ ((((q : Int) + 1) == (s.size : Int)) = false ∧ ∃ h : q + 1 < s.size, ((s[q + 1].toNat : Int) != 34) = true) := by
            rcases Nat.lt_or_ge (q + 1) s.size with h | h
            · exact .inr ⟨by simp; omega, h, by
                rw [bne_iff_ne]
                exact fun e => hend ⟨h, e⟩⟩
            · exact .inl (by simp; omega)
          clear hne hm h34 hd HQ0 hBh hend
          rcases hout with e2 | ⟨e2, hl2, e3⟩
          all_goals
            go_wp2
            go_region_with (go_at_call 25; (with_reducible refine (hb _).mono ?_); rintro e w1 ⟨rfl, hB1⟩; have hown1 := owns_below hownd hB1; have hcv1 := conv_owned _ _ _ _ _ hown1.1; have hm1 := mark_room _ hown1.2; obtain ⟨⟨c0, c1⟩, f0, f1⟩ := mat_facts hm1)
            all_goals go_wp2
            all_goals exact bodyPost_ret (results_tmp_row Try.results24 _ _ w.heap.size _ _ _ _ rfl (mat_set2 hm1 _ _) Try.underlying44 rfl mark_info) rfl ⟨by
              show _ = Ending.returned (.tuple #[.string (strOfNums F), markV (V.mk s.size ((strB s).drop (q + 1)))])
              rw [HM.out]; rfl, below_set2 (mark_below _ hown1.2) (Nat.le_refl _) _ _⟩
      · have hq2 := HQ.out
        rw [hd, V.qOn_step _ _ _ h34] at hq2
        have HQ2 := Lib.hid hq2; clear hq2 hd
        have e1 : ((s[q].toNat : Int) == 34) = false := by simpa using h34
        clear h34
        obtain ⟨av, nv, cv, rfl⟩ := own_shape hown.1
        have hown1 := owns_below hown ((Below.refl _ wr).alloc (Nat.le_refl _) (.cells #[.int .u8 (s[q].toNat : Int)] 5))
        go_wp2_with (first
          | (at_builtin; refine wpList_owns_one rfl _ _ rfl (w.alloc (.cells #[.int .i64 0, .int .i64 0] 44)) (.slice av nv cv) F rfl hown1 wr.heap.size (s[q].toNat : Int) rfl (by simp) (by omega) ?_; intro v' w2 hown2 hg2))
        go_roundw
        case rel => exact ⟨q + 1, F ++ [(s[q].toNat : Int)], hlt, by go_num, hown2, by simp; omega, HQ2⟩
        case measure => simp [intOf]; omega
    · obtain rfl : q = s.size := by omega
      have hq2 := HQ.out
      rw [List.drop_eq_nil_of_le (by rw [strB_len]; exact Nat.le_refl _), V.qOn_end] at hq2
      subst hq2
      have hc := mark_room _ hown.2
      obtain ⟨⟨c0, c1⟩, f0, f1⟩ := mat_facts hc
      go_wp2
      exact bodyPost_ret (results_tmp_row Try.results24 _ _ w.heap.size _ _ _ _ rfl (mat_set2 hc _ _) Try.underlying44 rfl mark_info) rfl ⟨rfl, below_set2 (mark_below _ hown.2) (Nat.le_refl _) _ _⟩
end Go.Proofs.Ytclnephomnkieaa
