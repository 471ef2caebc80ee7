/- Package bin: node. -/
import Derived.Test.YtfapoicnkdallaaMh19Thre
import Derived.Test.YtfapoicnkdallaaMh1Thre
import Derived.Test.YtfapoicnkdallaaMh16Thre
import Derived.Laws.MakeOwn
import Derived.Lib.AppendZeros
import Derived.RegionTactic
import Derived.Lib.SliceRun
import Derived.Test.YtfapoicnkdallaaMh13Thre
import Derived.Test.YtfapoicnkdallaaMh20Thre
namespace Go.Proofs.Ytfapoicnkdallaa
open Go.RowKit Go.Shelf
attribute [local go_sem] Oper.semAt_some
theorem grown_new {w W : World} {row : Option Nat} (h : w.grownBy W row) {b : Nat} (hb : w.heap.size ≤ b) (i : Nat) (v : Value) : w.grownBy (W.setCell ⟨b, i, none⟩ v) row :=
  ⟨h.os, h.tape, h.output, Nat.le_trans h.size (KeepsWalks.setCell W _ v).size, fun k hk hne => (Below.heap_setCell _ _ _ k (by show k ≠ b; omega)).trans (h.block k hk hne)⟩
theorem grown_new4 {w W : World} {row : Option Nat} (h : w.grownBy W row) {b : Nat} (hb : w.heap.size ≤ b) (i0 i1 i2 i3 : Nat) (d0 d1 d2 d3 : Value) :
    w.grownBy ((((W.setCell ⟨b, i0, none⟩ d0).setCell ⟨b, i1, none⟩ d1).setCell ⟨b, i2, none⟩ d2).setCell ⟨b, i3, none⟩ d3) row :=
  grown_new (grown_new (grown_new (grown_new h hb i0 d0) hb i1 d1) hb i2 d2) hb i3 d3
theorem is_flat' (w : World) (k n : Int) (s : ByteArray) (hk : I64 k) (hn : I64 n) (hs : s.size ≤ maxLen) : Is w (.mk k n s []) (.agg #[.int .i64 k, .int .i64 n, .string s, .slice none 0 0]) := by
  unfold Is
  exact ⟨hk, hn, hs, none, 0, rfl, Nat.le_refl _, by unfold maxLen; omega, .inl rfl⟩
theorem fresh_flat (B : Nat) (w : World) (k n : Int) (s : ByteArray) (hk : I64 k) (hn : I64 n) (hs : s.size ≤ maxLen) : Fresh B w (.mk k n s []) (.agg #[.int .i64 k, .int .i64 n, .string s, .slice none 0 0]) := fun w' _ => is_flat' w' k n s hk hn hs
theorem val4 : (Try.prog.info? 25).map (·.size) = some 4 := by
  obtain ⟨i0, hi, hz0, hz1, hz2⟩ := info_parts info_val
  rw [hi]; simp [hz1]
end Go.Proofs.Ytfapoicnkdallaa
