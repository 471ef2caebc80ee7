/- Layer 1: what the statements ask first (alive). -/
import Derived.Test.YtjkdmflpfaolaaaUtfRefText
namespace Go.Proofs.Ytjkdmflpfaolaaa
open Go.RowKit Go.Shelf
/-- a slice just written out -/
theorem row_built (w : World) (k : IntKind) (t : TypeId) (l : List Int) (cs : Array Value) (hcs : cs = (l.map (Value.int k)).toArray) (n : Nat) (hn : l.length = n) (hm : n ≤ maxLen) (g : Nat) (hg : g = w.heap.size) : Row (w.alloc (.cells cs t)) k (some ⟨g, 0, none⟩) n n l := by
  subst hcs hg
  refine ⟨hn, Nat.le_refl _, hm, .inr ⟨_, 0, rfl, fun i hi => ?_⟩⟩
  have h := cells_new w (l.map (Value.int k)) t i (.int k (l[i]?.getD 0)) (by simp [List.getElem?_eq_getElem (show i < l.length by omega)])
  simpa [Addr.add_lit] using h
theorem bytes_lit (l : List Int) (h : (l.all fun x => decide (0 ≤ x ∧ x ≤ 255)) = true) : Bytes l := by
  intro i
  rcases Nat.lt_or_ge i l.length with h1 | h1
  · rw [List.getElem?_eq_getElem h1]
    have := List.all_eq_true.1 h _ (List.getElem_mem h1)
    simpa using this
  · rw [List.getElem?_eq_none h1]; simp
theorem Get_any (a : Option Addr) (len cap : Nat) (l : List Int) (p : Int) (w : World) (hr : Row w .u8 a len cap l) (hb : Bytes l) (hp : -9223372036854775808 ≤ p) (hp' : p ≤ 9223372036854775807) :
    Calls Try.prog 9 #[.slice a len cap, .int .i64 p] w fun e w' => e = .returned (.tuple #[.int .i64 (getAt l p).1, .int .i64 ((getAt l p).2 : Int), .bool (decide (0 < (getAt l p).2))]) ∧ w = w' := by
  have hg := get_any a len cap l p w hr hb hp hp'
  generalize getAt l p = g at hg ⊢
  go_enter Try.func9, Try.ntmps9
  go_wp2_with (first | (go_at_call 21; refine hg.mono ?_; rintro e w' ⟨rfl, rfl⟩))
  go_ret3
  exact ⟨rfl, rfl⟩
theorem aliveTxt : ∃ s : ByteArray, U.text [97, 8364] = (s, true) ∧ s.size = 4 ∧ U.validS s = true ∧ U.countS s = 2 := by
  refine ⟨strOfNums [97, 226, 130, 172], ?_, ?_, ?_, ?_⟩ <;> decide +kernel
set_option maxRecDepth 100000 in
set_option maxHeartbeats 2000000 in
theorem alive_any (w : World) : Calls Try.prog 8 #[] w fun e w' => e = .returned (.bool true) ∧ Below w.heap.size w w' := by
  obtain ⟨s, ht, hs4, hle, hlen⟩ := aliveTxt
  have hp : U.put 8364 = [226, 130, 172] := by decide
  have g1 : getAt [226, 130, 172] 0 = (8364, 3) := by decide
  have g2 : getAt [192, 128] 0 = (0, 0) := by decide
  have HT := Lib.hid ht; clear ht
  have hsm : s.size ≤ maxLen := by unfold maxLen; omega
  have hv := fun w => valid_any s w hsm
  have hc := fun w => count_any s w hsm
  rw [hle] at hv
  rw [hlen] at hc
  have h4 : ((s.size : Int) == 4) = true := by rw [hs4]; rfl
  clear hs4 hle hlen hsm
  have G1 := Lib.hid g1; clear g1
  have G2 := Lib.hid g2; clear g2
  have HP := Lib.hid hp; clear hp
  go_enter Try.func8, Try.ntmps8
  go_wp2_with fail
  with_reducible refine (put_any 8364 _).mono ?_
  rintro e w1 ⟨v, rfl, hown, hb1⟩
  rw [HP.out] at hown
  obtain ⟨a, cap, rfl, hrow⟩ := row_of_owns hown
  have hrow : Row w1 .u8 a 3 cap [226, 130, 172] := hrow
  go_wp2_with fail
  with_reducible refine (Get_any _ _ _ _ 0 w1 hrow (bytes_lit _ (by decide)) (by omega) (by omega)).mono ?_
  rintro e w' ⟨rfl, rfl⟩
  rw [G1.out]
  go_wp2_with fail
  have hr2 := row_built w1 .u8 5 [192, 128] #[.int .u8 192, .int .u8 128] rfl 2 rfl (by unfold maxLen; omega) w1.heap.size rfl
  with_reducible refine (Get_any _ _ _ _ 0 _ hr2 (bytes_lit _ (by decide)) (by omega) (by omega)).mono ?_
  rintro e w' ⟨rfl, rfl⟩
  rw [G2.out]
  go_wp2_with fail
  have hr3 := row_built (w1.alloc (.cells #[.int .u8 192, .int .u8 128] 5)) .i64 3 [97, 8364] #[.int .i64 97, .int .i64 8364] rfl 2 rfl (by unfold maxLen; omega) (w1.heap.size + 1) (by simp)
  with_reducible refine (text_any _ _ _ _ _ hr3 (by omega)).mono ?_
  rintro e w3 ⟨rfl, hb3⟩
  rw [HT.out]
  go_wp2_with fail
  have hB3 : Below w.heap.size w w3 := ((((hb1.alloc (by have := hb1.size; omega) _).alloc (by have := hb1.size; simp; omega) _)).trans (hb3.mono (by have := hb1.size; simp; omega)))
  have hr1 : Row (w3.alloc (.cells #[.int .u8 226, .int .u8 130, .int .u8 172] 5)) .u8 a 3 cap [226, 130, 172] :=
    row_below (row_below (row_below (row_below hrow ((Below.refl _ w1).alloc (Nat.le_refl _) _) rfl) ((Below.refl _ _).alloc (Nat.le_refl _) _) rfl) hb3 rfl) ((Below.refl _ w3).alloc (Nat.le_refl _) _) rfl
  have hr4 := row_built w3 .u8 5 [226, 130, 172] #[.int .u8 226, .int .u8 130, .int .u8 172] rfl 3 rfl (by unfold maxLen; omega) w3.heap.size rfl
  with_reducible refine (refBytes_any _ _ _ _ _ _ _ _ _ hr1 hr4).mono ?_
  rintro e w4 ⟨rfl, nq, rfl⟩
  go_wp2_with fail
  with_reducible refine (hv _).mono ?_
  rintro e w5 ⟨rfl, hb5⟩
  go_wp2_with fail
  with_reducible refine (hc _).mono ?_
  rintro e w6 ⟨rfl, hb6⟩
  go_wp2
  go_ret
  refine ⟨rfl, ?_⟩
  have hs := hB3.size
  exact ((below_drewN (hB3.alloc hB3.size _) nq).trans (hb5.mono (by simp; omega))).trans (hb6.mono (by have := hb5.size; simp at this; omega))
end Go.Proofs.Ytjkdmflpfaolaaa
