/- Layer 4: what the statements ask first (alive). -/
import Derived.Test.YtdnijiehfokagaaSumMake
import Derived.Test.YtdnijiehfokagaaSumMore
import Derived.Deep.RegionHeld3
import Derived.Lib.SmallJoins
namespace Go.Proofs.Ytdnijiehfokagaa
open Go.RowKit Go.Shelf
def nine : List Int := [49, 50, 51, 52, 53, 54, 55, 56, 57]
theorem nine_sum : S.more (S.mk S.Poly) 0 nine = 3421780262 := by decide +kernel
theorem nine_four : S.more (S.mk S.Poly) 0 (nine.take 4) = 2615402659 := by decide +kernel
theorem nine_none : S.more (S.mk S.Poly) 0 [] = 0 := by decide +kernel
theorem nine_parts : S.more (S.mk S.Poly) 2615402659 (nine.drop 4) = 3421780262 := by decide +kernel
theorem no_table (l : List Int) : S.more [] 0 l = -1 := if_neg (fun h => by have := S.isT_len h.1; simp at this)
theorem get_300 : S.get (S.put 300) = 300 := S.get_put 300 (by omega) (by omega)
theorem made_row {w w' : World} {l : List Int} {e : Ending} (h : Made w l e w') : ∃ a cap, e = .returned (.slice a l.length cap) ∧ Row w' .i64 a l.length cap l ∧ Below w.heap.size w w' := by
  obtain ⟨v, rfl, hown, hb⟩ := h
  obtain ⟨a, cap, rfl, hrw⟩ := row_of_owns hown
  exact ⟨a, cap, rfl, hrw, hb⟩
theorem madeB_row {w w' : World} {l : List Int} {e : Ending} (h : MadeB w l e w') : ∃ a cap, e = .returned (.slice a l.length cap) ∧ Row w' .u8 a l.length cap l ∧ Below w.heap.size w w' := by
  obtain ⟨v, rfl, hown, hb⟩ := h
  obtain ⟨a, cap, rfl, hrw⟩ := row_of_owns hown
  exact ⟨a, cap, rfl, hrw, hb⟩
theorem row_nil (w : World) (k : IntKind) : Row w k none 0 0 [] := ⟨rfl, Nat.le_refl _, by unfold maxLen; omega, .inl rfl⟩
theorem row_part {w : World} {k : IntKind} {b off len cap : Nat} {l : List Int} (h : Row w k (some ⟨b, off, none⟩) len cap l) (i n : Nat) (hn : i + n ≤ len) : Row w k (some ⟨b, off + i, none⟩) n (cap - i) ((l.drop i).take n) := by
  obtain ⟨h1, h2, h3, h4⟩ := h
  refine ⟨by simp; omega, by omega, by omega, ?_⟩
  rcases h4 with h0 | ⟨b', o', e, hc⟩
  · exact .inl (by omega)
  · cases e
    refine .inr ⟨b, off + i, rfl, fun j hj => ?_⟩
    have := hc (i + j) (by omega)
    rw [← Nat.add_assoc] at this
    rw [this, List.getElem?_take, if_pos hj, List.getElem?_drop]
/-- a constant text's bytes, as a slice -/
theorem row_marked (w : World) (k : IntKind) (t : TypeId) (fr : Nat × Nat) (l : List Int) (cs : Array Value) (hcs : cs = (l.map (Value.int k)).toArray) (n : Nat) (hn : l.length = n) (hm : n ≤ maxLen) : Row (w.alloc (.cells cs t fr)) k (some ⟨w.heap.size, 0, none⟩) n n l := by
  subst hcs
  refine ⟨hn, Nat.le_refl _, hm, .inr ⟨_, 0, rfl, fun i hi => ?_⟩⟩
  rw [World.cell?_alloc_mark]
  simp [List.getElem?_eq_getElem (show i < l.length by omega)]
theorem row_drew {w : World} {k : IntKind} {a : Option Addr} {n c : Nat} {l : List Int} (h : Row w k a n c l) : Row w.drew k a n c l := row_below h ((Below.refl w.heap.size w).drew) rfl
theorem put_b (n : Int) : Bytes (S.put n) := by
  intro i
  rcases Nat.lt_or_ge i (S.put n).length with h | h
  · rw [List.getElem?_eq_getElem h]; exact S.put_bytes n _ (List.getElem_mem h)
  · rw [List.getElem?_eq_none h]; simp
theorem make_poly (w : World) : Calls Try.prog 27 #[.int .i64 3988292384] w fun e w' => ∃ a cap, e = .returned (.slice a 256 cap) ∧ Row w' .i64 a 256 cap (S.mk S.Poly) ∧ Below w.heap.size w w' :=
  (make_any 3988292384 w (by omega) (by omega)).mono fun e w' h => by
    obtain ⟨a, cap, h1, h2, h3⟩ := made_row h
    have e1 : S.make 3988292384 = S.mk S.Poly := if_pos (by decide)
    rw [e1] at h1 h2
    rw [S.mk_len] at h1 h2
    exact ⟨a, cap, h1, h2, h3⟩
end Go.Proofs.Ytdnijiehfokagaa
