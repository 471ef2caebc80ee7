/- strings.IndexAny, ContainsAny and HasPrefix as the program's layer 9 calls them. -/
import Derived.Test.YtclnephomnkieaaCsvAny
set_option linter.unusedVariables false
namespace Go.Proofs.Ytclnephomnkieaa
open Go.RowKit Go.Shelf
theorem spc_has (x : UInt8) : spc.data.toList.contains x = V.sp (x.toNat : Int) := by
  have h : ∀ y : UInt8, (x = y) ↔ (x.toNat : Int) = (y.toNat : Int) := fun y => by rw [← UInt8.toNat_inj]; omega
  show List.contains [44, 34, 13, 10] x = _
  unfold V.sp
  rw [Bool.eq_iff_iff]
  simp [h]
  omega
theorem noAny_far {s : ByteArray} {i n : Nat} (hno : Lib.NoAny s.data.toList spc.data.toList i) (h : ∀ j (hj : j < s.size), i ≤ j → j < i + n → 128 ≤ (s[j]'hj).toNat) : Lib.NoAny s.data.toList spc.data.toList (i + n) := by
  intro j b hj hb
  rcases Nat.lt_or_ge j i with h1 | h1
  · exact hno j b h1 hb
  · have hlt : j < s.size := by
      have := (List.getElem?_eq_some_iff.1 hb).1
      simpa using this
    have h2 := h j hlt h1 hj
    have h3 := Lib.data_getElem? s j hlt
    rw [h3] at hb
    cases hb
    have hx := spc_has s[j]
    rw [hx]
    unfold V.sp
    exact decide_eq_false (by omega)
set_option maxRecDepth 100000 in
set_option maxHeartbeats 4000000 in
theorem idx_short (s : ByteArray) (h8 : s.size ≤ 8) (w : World) :
    Calls Try.prog 23 #[.string s, .string spc] w fun e w' => e = .returned (.int .i64 (Lib.indexAny s.data.toList spc.data.toList)) ∧ Below w.heap.size w w' := by
  have hU : ∀ w, Calls Try.prog 27 #[.int .i64 (s.size : Int)] w fun e w' => e = .returned (.bool false) ∧ w' = w := fun w => by
    have h := Any.strings_shouldUseASCIISet { Try.lays153 with } (s.size : Int) w
    rw [decide_eq_false (by omega)] at h
    exact h
  have hIn : ∀ (x : UInt8) w, Calls Try.prog 26 #[.string spc, .int .i32 (x.toNat : Int)] w fun e w' => (∃ v, e = .returned (.int .i64 v) ∧ decide (0 ≤ v) = V.sp (x.toNat : Int)) ∧ Below w.heap.size w w' := fun x w => by
    rcases Nat.lt_or_ge x.toNat 128 with hx | hx
    · refine (Any.strings_IndexRune_ascii { Try.lays153 with } spc (x.toNat : Int) w (by omega) (by omega)).mono ?_
      rintro e w' ⟨rfl, rfl⟩
      refine ⟨⟨_, rfl, ?_⟩, Below.refl _ _⟩
      have h := Lib.contains_iff_indexByte spc.data.toList x
      rw [show ((x.toNat : Int)).toNat.toUInt8 = x by simp, ← h, spc_has]
    · refine (rune_high (x.toNat : Int) (by omega) (by have := x.toNat_lt; omega) w).mono ?_
      rintro e w' ⟨rfl, hb⟩
      exact ⟨⟨_, rfl, by unfold V.sp; rw [decide_eq_false (by decide), decide_eq_false (by omega)]⟩, hb⟩
  have hR := rune_high
  go_enter Try.func23, Try.ntmps23
  go_wp2_with (go_at_call 27; (with_reducible refine (hU _).mono ?_); rintro e w1 ⟨rfl, rfl⟩)
  go_loopg [9, 10] s.size (fun g _ _ wx => ∃ i : Nat, i + g = s.size ∧ wx.heap[w1.heap.size]? = some (.stringIter s i) ∧ Below w1.heap.size w1 wx ∧ Hid (Lib.NoAny s.data.toList spc.data.toList i))
  case atStart => exact ⟨0, by omega, World.iter_heap _ _ _, (Below.refl _ _).alloc (Nat.le_refl _) _, Lib.hid (Lib.NoAny.zero _ _)⟩
  case round =>
    obtain ⟨i, hig, hit, hB, HN⟩ := hrel
    rcases Nat.lt_or_ge i s.size with hlt | hge
    · rcases Nat.lt_or_ge (s[i]'hlt).toNat 128 with hx | hx
      · have hnx := fun ty => Lib.run_next_ascii_at (P := Try.prog) wr w1.heap.size s i ty hit hlt hx
        have hit2 := Lib.iterAt_heap wr w1.heap.size s i (i + 1) hit
        have hB2 := Lib.below_iterAt hB (Nat.le_refl _) s (i + 1)
        have hxl := Lib.data_getElem? s i hlt
        have hsp := spc_has s[i]
        obtain ⟨x, hx0⟩ : ∃ x : UInt8, s[i]'hlt = x := ⟨_, rfl⟩
        rw [hx0] at hnx hxl hsp hx
        have HX := Lib.hid hxl; have HSP := Lib.hid hsp
        clear hx0 hxl hsp
        cases hs : V.sp (x.toNat : Int)
        · go_wp2_with (go_at_call 26; (with_reducible refine (hIn x _).mono ?_); rintro e w2 ⟨⟨v, rfl, hv⟩, hB3⟩; rw [hs] at hv; have hv := of_decide_eq_false hv)
          go_roundg (gk - 1)
          case measure => omega
          case rel => exact ⟨i + 1, by omega, (hB3.block _ (Array.getElem?_eq_some_iff.1 hit2).1).trans hit2, hB2.trans (hB3.mono hB2.size), Lib.hid (HN.out.succ HX.out (HSP.out.trans hs))⟩
        · go_wp2_with (go_at_call 26; (with_reducible refine (hIn x _).mono ?_); rintro e w2 ⟨⟨v, rfl, hv⟩, hB3⟩; rw [hs] at hv; have hv := of_decide_eq_true hv)
          go_ret
          exact ⟨by rw [Lib.indexAny_hit HN.out HX.out (HSP.out.trans hs)]; rfl, hB2.trans (hB3.mono hB2.size)⟩
      · have hnx := fun ty => Lib.run_next_any_at (P := Try.prog) wr w1.heap.size s i ty hit hlt
        have hd := dec_room s i hlt hx
        have hd2 := decode_high s i hlt hx
        have hd3 := decode_le s i
        obtain ⟨r, n, hD⟩ : ∃ r n, Utf8.decode s i = (r, n) := ⟨_, _, rfl⟩
        simp only [hD] at hnx hd hd2 hd3
        have hit2 := Lib.iterAt_heap wr w1.heap.size s i (i + n) hit
        have hB2 := Lib.below_iterAt hB (Nat.le_refl _) s (i + n)
        have HN2 := Lib.hid (noAny_far (n := n) HN.out (fun j hj h1 h2 => by
          rcases Nat.lt_or_ge i j with h3 | h3
          · exact hd.2 j hj h3 h2
          · obtain rfl : j = i := by omega
            exact hx))
        have hr := hd.1
        clear hd hD hx
        go_wp2_with (go_at_call 26; (with_reducible refine (hR (r : Int) (by omega) (by omega) _).mono ?_); rintro e w2 ⟨rfl, hB3⟩)
        go_roundg (gk - n)
        case measure => omega
        case rel => exact ⟨i + n, by omega, (hB3.block _ (Array.getElem?_eq_some_iff.1 hit2).1).trans hit2, hB2.trans (hB3.mono hB2.size), HN2⟩
    · obtain rfl : i = s.size := by omega
      have hnx := fun ty => Lib.run_next_end_at (P := Try.prog) wr w1.heap.size s s.size ty hit (by omega)
      go_wp2
      go_ret
      exact ⟨by rw [Lib.indexAny_none (by have h := HN.out; simpa using h)]; rfl, hB⟩
theorem idx_any (s : ByteArray) (hsm : s.size ≤ 100000000) (w : World) :
    Calls Try.prog 23 #[.string s, .string spc] w fun e w' => e = .returned (.int .i64 (Lib.indexAny s.data.toList spc.data.toList)) ∧ Below w.heap.size w w' := by
  rcases Nat.lt_or_ge 8 s.size with h8 | h8
  · have h116 : (Try.prog.info? (Try.lays153_ren.t 116)).map (fun i => (i.zero, i.size)) = some (some (.agg (Array.replicate 256 (.bool false))), 256) := by kernel_rfl
    obtain ⟨hz, hsz⟩ := zero_of_info h116
    refine (Any.strings_IndexAny_long Try.lays153 hz hsz s spc w (by decide) h8 (by omega) (by decide) (fun j b hb => ?_)).mono ?_
    · have hmem := List.mem_of_getElem? hb
      have hall : ∀ b ∈ spc.data.toList, b.toNat < 128 := by decide
      exact hall b hmem
    · rintro e w' ⟨h1, h2⟩
      refine ⟨h1, ?_⟩
      rw [h2]
      exact ((Below.refl _ _).alloc (Nat.le_refl _) _).alloc (by simp) _
  · exact idx_short s h8 w
namespace V
/-- the first special byte's place; -1: none -/
def idx (l : List Int) : Int := if behind l = [] then -1 else ((bare l).length : Int)
theorem idx_cons (x : Int) (l : List Int) : idx (x :: l) = if sp x = true then 0 else if idx l = -1 then -1 else idx l + 1 := by
  unfold idx behind bare
  cases h : sp x
  · simp only [List.dropWhile_cons, List.takeWhile_cons, h, Bool.not_false, if_true, Bool.false_eq_true, if_false]
    split
    · simp
    · rw [if_neg (by omega)]; simp
  · simp [h]
end V
theorem indexAny_eq (l : List UInt8) : Lib.indexAny l spc.data.toList = V.idx (l.map fun b => (b.toNat : Int)) := by
  induction l with
  | nil => rfl
  | cons x l ih =>
    rw [List.map_cons, V.idx_cons, ← ih, ← spc_has]
    show (if _ then _ else _) = _
    simp
theorem idx_calls (s : ByteArray) (hsm : s.size ≤ 100000000) (w : World) :
    Calls Try.prog 23 #[.string s, .string spc] w fun e w' => e = .returned (.int .i64 (V.idx (strB s))) ∧ Below w.heap.size w w' := by
  have h := idx_any s hsm w
  rw [indexAny_eq] at h
  exact h
theorem V.idx_all (l : List Int) : decide (0 ≤ V.idx l) = !(l.all fun x => !V.sp x) := by
  induction l with
  | nil => rfl
  | cons x l ih =>
    rw [V.idx_cons, List.all_cons]
    cases h : V.sp x
    · simp only [Bool.false_eq_true, if_false, Bool.not_false, Bool.true_and, ← ih]
      have : -1 ≤ V.idx l := by unfold V.idx; split <;> omega
      split
      · rename_i h2; rw [h2]
      · rw [decide_eq_true (by omega), decide_eq_true (by omega)]
    · simp
set_option maxRecDepth 100000 in
/-- ContainsAny: whether a byte is special -/
theorem contains_calls (s : ByteArray) (hsm : s.size ≤ 100000000) (w : World) :
    Calls Try.prog 19 #[.string s, .string spc] w fun e w' => e = .returned (.bool (!((strB s).all fun x => !V.sp x))) ∧ Below w.heap.size w w' := by
  have hI := fun w => idx_calls s hsm w
  have hv := V.idx_all (strB s)
  obtain ⟨v, hx⟩ : ∃ v, V.idx (strB s) = v := ⟨_, rfl⟩
  rw [hx] at hv hI
  rw [← hv]
  clear hv hx
  go_enter Try.func19, Try.ntmps19
  go_wp2_with (go_at_call 23; (with_reducible refine (hI _).mono ?_); rintro e w2 ⟨rfl, hB⟩)
  go_ret
  exact ⟨rfl, hB⟩
end Go.Proofs.Ytclnephomnkieaa
