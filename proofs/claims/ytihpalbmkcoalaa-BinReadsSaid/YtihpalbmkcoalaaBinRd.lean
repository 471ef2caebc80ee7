/- Package bin: a reader in memory; Read, Left, Bad, Done, fail; what is taken. -/
import Derived.Test.YtihpalbmkcoalaaBinModel
import Derived.Test.YtihpalbmkcoalaaSub
import Derived.Test.YtihpalbmkcoalaaBin
import Derived.RegionTactic
namespace Go.Proofs.Ytihpalbmkcoalaa
open Go.RowKit Go.Shelf
attribute [local go_sem] Oper.semAt_some
def RdAt (W : World) (p : Nat) (v : Value) (bad : Bool) : Prop := W.heap[p]? = some (.cells #[v, .bool bad] 53 (0, 0))
theorem rdAt_cells {W : World} {p : Nat} {v : Value} {bad : Bool} (h : RdAt W p v bad) : (W.cell? ⟨p, 0, none⟩ = some v ∧ W.cell? ⟨p, 1, none⟩ = some (.bool bad)) ∧ (W.frozen? ⟨p, 0, none⟩ = false ∧ W.frozen? ⟨p, 1, none⟩ = false) := by
  simp [World.cell?, World.frozen?, show W.heap[p]? = _ from h]
theorem rdAt_lt {W : World} {p : Nat} {v : Value} {bad : Bool} (h : RdAt W p v bad) : p < W.heap.size := (Array.getElem?_eq_some_iff.1 h).1
theorem rdAt_left {W : World} {p : Nat} {v : Value} {bad : Bool} (h : RdAt W p v bad) (v' : Value) : RdAt (W.setCell ⟨p, 0, none⟩ v') p v' bad := by
  obtain ⟨hlt, hk⟩ := Array.getElem?_eq_some_iff.1 h
  show (W.heap.modify p _)[p]? = _
  rw [Array.getElem?_eq_getElem (by rw [Array.size_modify]; exact hlt), Array.getElem_modify_self, hk]
  rfl
theorem rdAt_bad {W : World} {p : Nat} {v : Value} {bad : Bool} (h : RdAt W p v bad) (b : Bool) : RdAt (W.setCell ⟨p, 1, none⟩ (.bool b)) p v b := by
  obtain ⟨hlt, hk⟩ := Array.getElem?_eq_some_iff.1 h
  show (W.heap.modify p _)[p]? = _
  rw [Array.getElem?_eq_getElem (by rw [Array.size_modify]; exact hlt), Array.getElem_modify_self, hk]
  rfl
theorem grown_refl (W : World) (row : Option Nat) : W.grownBy W row := ⟨rfl, rfl, rfl, Nat.le_refl _, fun _ _ _ => rfl⟩
theorem grown_set1 {W : World} (b i : Nat) (v : Value) : W.grownBy (W.setCell ⟨b, i, none⟩ v) (some b) :=
  ⟨rfl, rfl, rfl, (KeepsWalks.setCell W _ v).size, fun k _ hk => Below.heap_setCell _ _ _ k (fun e => hk (by rw [e]))⟩
theorem grown_then {A C D : World} {row : Option Nat} (h : A.grownBy C row) (k : C.grownBy D row) : A.grownBy D row :=
  ⟨k.os.trans h.os, k.tape.trans h.tape, k.output.trans h.output, Nat.le_trans h.size k.size, fun i hi hne => by rw [k.block i (Nat.lt_of_lt_of_le hi h.size) hne, h.block i hi hne]⟩
theorem grown_of_below {W W' : World} (h : Below W.heap.size W W') (row : Option Nat) : W.grownBy W' row := ⟨h.os, h.tape, h.output, h.size, fun k hk _ => h.block k hk⟩
/-- bytes that lie beside a reader -/
theorem row_kept {W W' : World} {p : Nat} {v : Value} {bad : Bool} (h : RdAt W p v bad) (hv : ∀ k x, v ≠ .int k x) (hg : W.grownBy W' (some p)) {a : Option Addr} {n c : Nat} {l : List Int} (hr : Row W .u8 a n c l) : Row W' .u8 a n c l := by
  obtain ⟨h1, h2, h3, h4⟩ := hr
  refine ⟨h1, h2, h3, ?_⟩
  rcases h4 with h4 | ⟨b, off, rfl, hc⟩
  · exact .inl h4
  · refine .inr ⟨b, off, rfl, fun i hi => ?_⟩
    have h0 := hc i hi
    have hbk : b < W.heap.size := by
      simp only [World.cell?] at h0
      rcases Nat.lt_or_ge b W.heap.size with h | h
      · exact h
      · rw [Array.getElem?_eq_none h] at h0; cases h0
    have hne : b ≠ p := by
      rintro rfl
      simp only [World.cell?, show W.heap[b]? = _ from h] at h0
      rcases hx : off + i with _ | _ | x
      · rw [hx] at h0; simp at h0; exact hv _ _ h0
      · rw [hx] at h0; simp at h0
      · rw [hx] at h0; simp at h0
    rw [← h0]
    simp only [World.cell?, hg.block b hbk (by simpa using hne)]
/-- it leads to a block of bytes, if anywhere -/
def U8 (W : World) (a : Option Addr) : Prop := ∀ ad, a = some ad → ∃ cs fr, W.heap[ad.block]? = some (.cells cs 5 fr)
theorem u8_below {W W' : World} {a : Option Addr} (h : U8 W a) (hb : Below W.heap.size W W') : U8 W' a := fun ad e => by
  obtain ⟨cs, fr, h1⟩ := h ad e
  exact ⟨cs, fr, (hb.block _ (Array.getElem?_eq_some_iff.1 h1).1).trans h1⟩
/-- a reader in memory: what it has left -/
def RD (W : World) (p : Nat) (s : Bn.St) : Prop := ∃ a cap, RdAt W p (.slice a (Bn.lf s).length cap) s.isNone ∧ Row W .u8 a (Bn.lf s).length cap (Bn.lf s) ∧ Bytes (Bn.lf s) ∧ U8 W a
/-- what leaves the reader and all blocks of bytes as they are leaves what it has left -/
theorem rd_kept {W W' : World} {p : Nat} {s : Bn.St} (h : RD W p s) (hp : W'.heap[p]? = W.heap[p]?) (hu : ∀ (b : Nat) (cs : Array Value) (fr : Nat × Nat), W.heap[b]? = some (Obj.cells cs 5 fr) → W'.heap[b]? = W.heap[b]?) : RD W' p s := by
  obtain ⟨a, cap, h1, h2, h3, h4⟩ := h
  refine ⟨a, cap, hp.trans h1, ?_, h3, fun ad e => ?_⟩
  · obtain ⟨r1, r2, r3, r4⟩ := h2
    refine ⟨r1, r2, r3, ?_⟩
    rcases r4 with r4 | ⟨b, off, rfl, hc⟩
    · exact .inl r4
    · refine .inr ⟨b, off, rfl, fun i hi => ?_⟩
      obtain ⟨cs, fr, h5⟩ := h4 _ rfl
      rw [← hc i hi]
      simp only [World.cell?, hu b cs fr h5]
  · obtain ⟨cs, fr, h5⟩ := h4 ad e
    exact ⟨cs, fr, (hu _ cs fr h5).trans h5⟩
theorem rd_lt {W : World} {p : Nat} {s : Bn.St} (h : RD W p s) : p < W.heap.size := by
  obtain ⟨a, cap, h1, _⟩ := h
  exact rdAt_lt h1
theorem rd_below {W W' : World} {p : Nat} {s : Bn.St} (h : RD W p s) (hb : Below W.heap.size W W') : RD W' p s := by
  obtain ⟨a, cap, h1, h2, h3, h4⟩ := h
  exact ⟨a, cap, (hb.block p (rdAt_lt h1)).trans h1, row_below h2 hb rfl, h3, u8_below h4 hb⟩
theorem rd_none {W : World} {p : Nat} (h : RdAt W p (.slice none 0 0) true) : RD W p none := ⟨none, 0, h, ⟨rfl, Nat.le_refl _, by unfold maxLen; omega, .inl rfl⟩, fun i => by simp [Bn.lf], fun _ e => by cases e⟩
set_option maxHeartbeats 1000000 in
theorem rdBad_any (p : Nat) (s : Bn.St) (w : World) (h : RD w p s) : Calls Try.prog 20 #[.pointer (some ⟨p, 0, none⟩)] w fun e w' => e = .returned (.bool s.isNone) ∧ w = w' := by
  obtain ⟨a, cap, h1, _⟩ := h
  obtain ⟨⟨c0, c1⟩, _⟩ := rdAt_cells h1
  generalize s.isNone = b at *
  clear h1
  go_enter Try.func20, Try.ntmps20
  go_wp2
  all_goals (go_ret; exact ⟨rfl, rfl⟩)
theorem rdBad_nil (w : World) : Calls Try.prog 20 #[.pointer none] w fun e w' => e = .returned (.bool true) ∧ w = w' := by
  go_enter Try.func20, Try.ntmps20
  go_wp2
  all_goals (go_ret; exact ⟨rfl, rfl⟩)
set_option maxHeartbeats 1000000 in
theorem rdLeft_any (p : Nat) (s : Bn.St) (w : World) (h : RD w p s) : Calls Try.prog 22 #[.pointer (some ⟨p, 0, none⟩)] w fun e w' => e = .returned (.int .i64 ((Bn.lf s).length : Int)) ∧ w = w' := by
  have hB := rdBad_any p s w h
  obtain ⟨a, cap, h1, _⟩ := h
  obtain ⟨⟨c0, c1⟩, _⟩ := rdAt_cells h1
  clear h1
  cases s with
  | none =>
    simp only [Option.isNone_none, Bn.lf] at *
    go_enter Try.func22, Try.ntmps22
    go_wp2_with (first | (go_at_call 20; (with_reducible refine hB.mono ?_); rintro e w' ⟨rfl, rfl⟩))
    all_goals (go_ret; exact ⟨rfl, rfl⟩)
  | some l =>
    simp only [Option.isNone_some, Bn.lf] at *
    go_enter Try.func22, Try.ntmps22
    go_wp2_with (first | (go_at_call 20; (with_reducible refine hB.mono ?_); rintro e w' ⟨rfl, rfl⟩))
    all_goals (go_ret; exact ⟨rfl, rfl⟩)
theorem rdLeft_nil (w : World) : Calls Try.prog 22 #[.pointer none] w fun e w' => e = .returned (.int .i64 0) ∧ w = w' := by
  have hB := rdBad_nil w
  go_enter Try.func22, Try.ntmps22
  go_wp2_with (first | (go_at_call 20; (with_reducible refine hB.mono ?_); rintro e w' ⟨rfl, rfl⟩))
  all_goals (go_ret; exact ⟨rfl, rfl⟩)
/-- nothing left, and not bad -/
def Bn.done (s : Bn.St) : Bool := match s with
  | some [] => true
  | _ => false
set_option maxHeartbeats 1000000 in
theorem rdDone_any (p : Nat) (s : Bn.St) (w : World) (h : RD w p s) : Calls Try.prog 21 #[.pointer (some ⟨p, 0, none⟩)] w fun e w' => e = .returned (.bool (Bn.done s)) ∧ w = w' := by
  have hB := rdBad_any p s w h
  have hL := rdLeft_any p s w h
  clear h
  cases s with
  | none =>
    simp only [Option.isNone_none, Bn.lf] at *
    go_enter Try.func21, Try.ntmps21
    go_wp2_with (first | (go_at_call 20; (with_reducible refine hB.mono ?_); rintro e w' ⟨rfl, rfl⟩) | (go_at_call 22; (with_reducible refine hL.mono ?_); rintro e w' ⟨rfl, rfl⟩))
    all_goals (go_ret; exact ⟨rfl, rfl⟩)
  | some l =>
    simp only [Option.isNone_some, Bn.lf] at *
    have hd : Bn.done (some l) = decide (l.length = 0) := by cases l <;> simp [Bn.done]
    rw [hd]
    have HD := Lib.hid hd; clear hd
    go_enter Try.func21, Try.ntmps21
    go_wp2_with (first | (go_at_call 20; (with_reducible refine hB.mono ?_); rintro e w' ⟨rfl, rfl⟩) | (go_at_call 22; (with_reducible refine hL.mono ?_); rintro e w' ⟨rfl, rfl⟩))
    all_goals (go_ret; exact ⟨ret_bool (by simp [Bool.beq_eq_decide_eq]), rfl⟩)
theorem rdDone_nil (w : World) : Calls Try.prog 21 #[.pointer none] w fun e w' => e = .returned (.bool false) ∧ w = w' := by
  have hB := rdBad_nil w
  go_enter Try.func21, Try.ntmps21
  go_wp2_with (first | (go_at_call 20; (with_reducible refine hB.mono ?_); rintro e w' ⟨rfl, rfl⟩))
  all_goals (go_ret; exact ⟨rfl, rfl⟩)
set_option maxHeartbeats 1000000 in
theorem rdFail_any (p : Nat) (s : Bn.St) (w : World) (h : RD w p s) : Calls Try.prog 66 #[.pointer (some ⟨p, 0, none⟩)] w fun e w' => (∃ v, e = .returned v) ∧ RD w' p none ∧ w.grownBy w' (some p) := by
  obtain ⟨a, cap, h1, _⟩ := h
  obtain ⟨⟨c0, c1⟩, f0, f1⟩ := rdAt_cells h1
  have h2 := rdAt_left h1 (.slice none 0 0)
  obtain ⟨⟨d0, d1⟩, g0, g1⟩ := rdAt_cells h2
  have hE := rdAt_bad h2 true
  have hG := grown_then (grown_set1 (W := w) p 0 (.slice none 0 0)) (grown_set1 p 1 (.bool true))
  generalize s.isNone = b at *
  clear h1 h2
  go_enter Try.func66, Try.ntmps66
  go_wp2
  refine bodyPost_end (results_none rfl _ _ _) rfl ?_
  exact ⟨⟨_, rfl⟩, rd_none hE, hG⟩
theorem rdFail_nil (w : World) : Calls Try.prog 66 #[.pointer none] w fun e w' => (∃ v, e = .returned v) ∧ w = w' := by
  go_enter Try.func66, Try.ntmps66
  go_wp2
  refine bodyPost_end (results_none rfl _ _ _) rfl ?_
  exact ⟨⟨_, rfl⟩, rfl⟩
end Go.Proofs.Ytihpalbmkcoalaa
