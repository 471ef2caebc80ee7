/- Layer 7: unit, escaped, escape. -/
import Derived.Test.YtiflnciapboccaaDoorTokHex
import Derived.Test.YtiflnciapboccaaDoorTok1
import Derived.Test.YtiflnciapboccaaDoorUtfText
namespace Go.Proofs.YtiflnciapboccaaDoor
open Go.RowKit Go.Shelf
/-- the library's variable for a wrong text holds an error, whichever -/
def Err (w : World) : Prop := ∃ ev, w.cell? ⟨1, 0, none⟩ = some ev ∧ (ev = .nilIface ∨ ∃ te pe, ev = .iface te pe)
theorem cell_lt {w : World} {b o : Nat} {v : Value} (h : w.cell? ⟨b, o, none⟩ = some v) : b < w.heap.size := by
  simp only [World.cell?] at h
  rcases Nat.lt_or_ge b w.heap.size with h1 | h1
  · exact h1
  · rw [Array.getElem?_eq_none h1] at h; cases h
theorem err_below {w w' : World} (h : Err w) (hb : Below w.heap.size w w') : Err w' := by
  obtain ⟨ev, h1, h2⟩ := h
  exact ⟨ev, (hb.cell (p := ⟨1, 0, none⟩) (cell_lt h1)).trans h1, h2⟩
set_option maxHeartbeats 1000000 in
theorem pub16_any (s : ByteArray) (w : World) (hE : Err w) (hs : s.size = 4) (g : Int) (hg : K.hex4 ((strB s)[0]?.getD 0) ((strB s)[1]?.getD 0) ((strB s)[2]?.getD 0) ((strB s)[3]?.getD 0) = g) :
    Calls Tryd.prog 73 #[.string s, .int .i64 16, .int .i64 16] w fun e w' =>
      ((g < 0 ∧ ∃ N, e = .returned (.tuple #[.int .u64 0, .iface 110 (.pointer (some ⟨N, 0, none⟩))])) ∨ (0 ≤ g ∧ g ≤ 65535 ∧ e = .returned (.tuple #[.int .u64 g, .nilIface]))) ∧ Below w.heap.size w w' := by
  have hP := parse16_any s w hs g hg
  rcases Int.lt_or_le g 0 with h0 | h0
  · have hP2 : Calls Tryd.prog 76 #[.string s, .int .i64 16, .int .i64 16] w fun e w' => e = .returned (.tuple #[.int .u64 0, .iface 108 (.int .i64 2)]) ∧ Below w.heap.size w w' :=
      hP.mono fun e w' ⟨h, hB⟩ => ⟨by rcases h with ⟨_, h⟩ | ⟨h1, _⟩; exact h; omega, hB⟩
    clear hP
    go_enter Tryd.func73, Tryd.ntmps73
    go_wp2_with (first | (go_at_call 76; ((with_reducible refine hP2.mono ?_)); rintro e w1 ⟨rfl, hB1⟩; obtain ⟨ev, hv, hev⟩ := err_below hE hB1) | (go_at_call 77; (with_reducible refine (Tryd.strconv_toError_syntax _ s _ _ ev _ (by omega) hv hev).mono ?_); rintro e w2 ⟨N, rfl, _, _, hB2⟩))
    go_ret2
    exact ⟨.inl ⟨h0, N, rfl⟩, hB1.trans (hB2.mono hB1.size)⟩
  · have hP2 : Calls Tryd.prog 76 #[.string s, .int .i64 16, .int .i64 16] w fun e w' => (e = .returned (.tuple #[.int .u64 g, .nilIface]) ∧ g ≤ 65535) ∧ Below w.heap.size w w' :=
      hP.mono fun e w' ⟨h, hB⟩ => ⟨by rcases h with ⟨h1, _⟩ | ⟨_, h2, h⟩; omega; exact ⟨h, h2⟩, hB⟩
    clear hP
    go_enter Tryd.func73, Tryd.ntmps73
    go_wp2_with (first | (go_at_call 76; (with_reducible refine hP2.mono ?_); rintro e w1 ⟨⟨rfl, hg5⟩, hB1⟩))
    go_ret2
    exact ⟨.inr ⟨h0, hg5, rfl⟩, hB1⟩
end Go.Proofs.YtiflnciapboccaaDoor
