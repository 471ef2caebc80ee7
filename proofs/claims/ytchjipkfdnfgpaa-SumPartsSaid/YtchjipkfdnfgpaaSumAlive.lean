/- Layer 4: what the statements ask first (alive). -/
import Derived.Test.YtchjipkfdnfgpaaSumMake
import Derived.Test.YtchjipkfdnfgpaaSumMore
import Derived.Deep.RegionHeld3
import Derived.Lib.SmallJoins
namespace Go.Proofs.Ytchjipkfdnfgpaa
open Go.RowKit Go.Shelf
def nine : List Int := [49, 50, 51, 52, 53, 54, 55, 56, 57]
theorem nine_sum : S.more (S.mk S.Poly) 0 nine = 3421780262 := by decide +kernel
theorem nine_four : S.more (S.mk S.Poly) 0 (nine.take 4) = 2615402659 := by decide +kernel
theorem nine_none : S.more (S.mk S.Poly) 0 [] = 0 := by decide +kernel
theorem nine_parts : S.more (S.mk S.Poly) 2615402659 (nine.drop 4) = 3421780262 := by decide +kernel
theorem no_table (l : List Int) : S.more [] 0 l = -1 := if_neg (fun h => by have := S.isT_len h.1; simp at this)
theorem get_300 : S.get (S.put 300) = 300 := S.get_put 300 (by omega) (by omega)
theorem made_row {w w' : World} {l : List Int} {e : Ending} (h : Made w l e w') : ∃ a cap, e = .returned (.slice a l.length cap) ∧ Row w' .i64 a l.length cap l ∧ Below w.heap.size w w' := by
  obtain ⟨v, rfl, hown, hb⟩ := h
  obtain ⟨a, cap, rfl, hrw⟩ := row_of_owns hown
  exact ⟨a, cap, rfl, hrw, hb⟩
theorem madeB_row {w w' : World} {l : List Int} {e : Ending} (h : MadeB w l e w') : ∃ a cap, e = .returned (.slice a l.length cap) ∧ Row w' .u8 a l.length cap l ∧ Below w.heap.size w w' := by
  obtain ⟨v, rfl, hown, hb⟩ := h
  obtain ⟨a, cap, rfl, hrw⟩ := row_of_owns hown
  exact ⟨a, cap, rfl, hrw, hb⟩
theorem row_nil (w : World) (k : IntKind) : Row w k none 0 0 [] := ⟨rfl, Nat.le_refl _, by unfold maxLen; omega, .inl rfl⟩
theorem row_part {w : World} {k : IntKind} {b off len cap : Nat} {l : List Int} (h : Row w k (some ⟨b, off, none⟩) len cap l) (i n : Nat) (hn : i + n ≤ len) : Row w k (some ⟨b, off + i, none⟩) n (cap - i) ((l.drop i).take n) := by
  obtain ⟨h1, h2, h3, h4⟩ := h
  refine ⟨by simp; omega, by omega, by omega, ?_⟩
  rcases h4 with h0 | ⟨b', o', e, hc⟩
  · exact .inl (by omega)
  · cases e
    refine .inr ⟨b, off + i, rfl, fun j hj => ?_⟩
    have := hc (i + j) (by omega)
    rw [← Nat.add_assoc] at this
    rw [this, List.getElem?_take, if_pos hj, List.getElem?_drop]
/-- a constant text's bytes, as a slice -/
theorem row_marked (w : World) (k : IntKind) (t : TypeId) (fr : Nat × Nat) (l : List Int) (cs : Array Value) (hcs : cs = (l.map (Value.int k)).toArray) (n : Nat) (hn : l.length = n) (hm : n ≤ maxLen) : Row (w.alloc (.cells cs t fr)) k (some ⟨w.heap.size, 0, none⟩) n n l := by
  subst hcs
  refine ⟨hn, Nat.le_refl _, hm, .inr ⟨_, 0, rfl, fun i hi => ?_⟩⟩
  rw [World.cell?_alloc_mark]
  simp [List.getElem?_eq_getElem (show i < l.length by omega)]
theorem row_drew {w : World} {k : IntKind} {a : Option Addr} {n c : Nat} {l : List Int} (h : Row w k a n c l) : Row w.drew k a n c l := row_below h ((Below.refl w.heap.size w).drew) rfl
theorem put_b (n : Int) : Bytes (S.put n) := by
  intro i
  rcases Nat.lt_or_ge i (S.put n).length with h | h
  · rw [List.getElem?_eq_getElem h]; exact S.put_bytes n _ (List.getElem_mem h)
  · rw [List.getElem?_eq_none h]; simp
theorem make_poly (w : World) : Calls Try.prog 9 #[.int .i64 3988292384] w fun e w' => ∃ a cap, e = .returned (.slice a 256 cap) ∧ Row w' .i64 a 256 cap (S.mk S.Poly) ∧ Below w.heap.size w w' :=
  (make_any 3988292384 w (by omega) (by omega)).mono fun e w' h => by
    obtain ⟨a, cap, h1, h2, h3⟩ := made_row h
    have e1 : S.make 3988292384 = S.mk S.Poly := if_pos (by decide)
    rw [e1] at h1 h2
    rw [S.mk_len] at h1 h2
    exact ⟨a, cap, h1, h2, h3⟩
set_option maxRecDepth 100000 in
set_option maxHeartbeats 4000000 in
theorem sumAlive_any (w : World) : Calls Try.prog 8 #[] w fun e w' => e = .returned (.bool true) ∧ Below w.heap.size w w' := by
  have hmk := make_poly w
  go_enter Try.func8, Try.ntmps8
  have kc := fun (w : World) (C : Array Value) (n c : Nat) => Lib.run_convert_bytes_const (P := Try.prog) w 23 5 C n c Try.underlying23 Try.underlying5
  go_wp2_with (go_at_call 9; (with_reducible refine hmk.mono ?_); rintro e w1 ⟨a, cap, rfl, hrw, hb1⟩)
  clear kc
  obtain ⟨W, hW⟩ : ∃ W, W = (w1.alloc (.cells #[.int .u8 49, .int .u8 50, .int .u8 51, .int .u8 52, .int .u8 53, .int .u8 54, .int .u8 55, .int .u8 56, .int .u8 57] 5 (9, 10))) := ⟨_, rfl⟩
  rw [← hW]
  have hB : Below w.heap.size w W := hW ▸ hb1.alloc hb1.size _
  have hN : Row W .u8 (some ⟨w1.heap.size, 0, none⟩) 9 9 nine := hW ▸ row_marked w1 .u8 _ _ nine _ rfl 9 rfl (by unfold maxLen; omega)
  have hT : Row W .i64 a 256 cap (S.mk S.Poly) := hW ▸ row_below hrw ((Below.refl _ w1).alloc (Nat.le_refl _) _) rfl
  have HW := Lib.hid hW; clear hW hrw hb1 hmk
  have bn : Bytes nine := bytes_lit _ rfl
  have o1 : ∀ W', Below W.heap.size W W' → Calls Try.prog 14 #[.slice a 256 cap, .slice (some ⟨w1.heap.size, 0, none⟩) 9 9] W' fun e w' => e = .returned (.int .i64 3421780262) ∧ W' = w' := fun W' h => by
    have := of_any _ _ _ _ _ _ _ _ _ (row_below hT h rfl) (row_below hN h rfl) bn
    rwa [nine_sum] at this
  have o2 : ∀ W', Below W.heap.size W W' → Calls Try.prog 14 #[.slice a 256 cap, .slice none 0 0] W' fun e w' => e = .returned (.int .i64 0) ∧ W' = w' := fun W' h => by
    have := of_any _ _ _ _ _ _ _ _ _ (row_below hT h rfl) (row_nil W' .u8) (bytes_lit _ rfl)
    rwa [nine_none] at this
  have o3 : ∀ W', Below W.heap.size W W' → Calls Try.prog 14 #[.slice a 256 cap, .slice (some ⟨w1.heap.size, 0, none⟩) 4 9] W' fun e w' => e = .returned (.int .i64 2615402659) ∧ W' = w' := fun W' h => by
    have := of_any _ _ _ _ _ _ _ _ _ (row_below hT h rfl) (row_part (row_below hN h rfl) 0 4 (by omega)) (bytes_lit _ rfl)
    rwa [show (nine.drop 0).take 4 = nine.take 4 from rfl, nine_four] at this
  have o4 : ∀ W', Below W.heap.size W W' → Calls Try.prog 12 #[.slice a 256 cap, .int .i64 2615402659, .slice (some ⟨w1.heap.size, 4, none⟩) 5 5] W' fun e w' => e = .returned (.int .i64 3421780262) ∧ W' = w' := fun W' h => by
    have := more_any _ _ _ _ 2615402659 _ _ _ _ _ (row_below hT h rfl) (row_part (row_below hN h rfl) 4 5 (by omega)) (bytes_lit _ rfl) (by omega) (by omega)
    rw [show (nine.drop 4).take 5 = nine.drop 4 from rfl, nine_parts] at this
    exact this
  have o5 : ∀ W', Below W.heap.size W W' → Calls Try.prog 14 #[.slice none 0 0, .slice (some ⟨w1.heap.size, 0, none⟩) 9 9] W' fun e w' => e = .returned (.int .i64 (-1)) ∧ W' = w' := fun W' h => by
    have := of_any _ _ _ _ _ _ _ _ _ (row_nil W' .i64) (row_below hN h rfl) bn
    rwa [no_table] at this
  have o7 : ∀ (W : World) a n c, Row W .u8 a n c (S.put 300) → Calls Try.prog 18 #[.slice a n c] W fun e w' => e = .returned (.int .i64 300) ∧ ∃ n, w' = W.drewN n := fun W a n c h => by
    have := get_any a n c _ W h (put_b 300)
    rwa [get_300] at this
  have o6 : ∀ W', Below W.heap.size W W' → Calls Try.prog 16 #[.int .i64 300] W' fun e w' => ∃ a3 c3, e = .returned (.slice a3 4 c3) ∧ Row w' .u8 a3 4 c3 (S.put 300) ∧ Below W.heap.size W w' := fun W' h => (put_any 300 W').mono fun e w' h3 => by
    obtain ⟨a3, c3, rfl, hr3, hb3⟩ := madeB_row h3
    exact ⟨a3, c3, rfl, hr3, h.trans (hb3.mono h.size)⟩
  have O1 := Lib.hid o1; have O2 := Lib.hid o2; have O3 := Lib.hid o3; have O4 := Lib.hid o4; have O5 := Lib.hid o5; have O6 := Lib.hid o6; have O7 := Lib.hid o7
  have hBase := Below.refl W.heap.size W
  clear hN hT bn o1 o2 o3 o4 o5 o6 o7
  go_region_held3 (fun W' => Below W.heap.size W W') (first | assumption | exact below_drewN (by assumption) _ | exact below_drew _) (first
    | (go_at_call 14; (first | with_reducible refine (O1.out _ (by assumption)).mono ?_ | with_reducible refine (O2.out _ (by assumption)).mono ?_ | with_reducible refine (O3.out _ (by assumption)).mono ?_ | with_reducible refine (O5.out _ (by assumption)).mono ?_); rintro e w' ⟨rfl, rfl⟩)
    | (go_at_call 12; (with_reducible refine (O4.out _ (by assumption)).mono ?_); rintro e w' ⟨rfl, rfl⟩)
    | (go_at_call 16; (with_reducible refine (O6.out _ (by assumption)).mono ?_); rintro e w3 ⟨a3, c3, rfl, hr3, hb3⟩)
    | (go_at_call 18; (with_reducible refine (O7.out _ _ _ _ hr3).mono ?_); rintro e w4 ⟨rfl, n4, rfl⟩))
  all_goals (
    go_wp2_with fail
    go_ret
    exact ⟨rfl, hB.trans ((show Below W.heap.size W _ by assumption).mono hB.size)⟩)
end Go.Proofs.Ytchjipkfdnfgpaa
