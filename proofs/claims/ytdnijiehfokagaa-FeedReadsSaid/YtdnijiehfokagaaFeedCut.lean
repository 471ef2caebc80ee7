/- Package feed: a feed in memory; New, Closed, Waits, cut, whole. -/
import Derived.Test.YtdnijiehfokagaaFeedSize
import Derived.RegionTactic
namespace Go.Proofs.Ytdnijiehfokagaa
open Go.RowKit Go.Shelf
/-- a feed in memory: its most, what it holds, its error -/
def FeedAt (W : World) (p most : Nat) (v : Value) (code : Nat) : Prop := W.heap[p]? = some (.cells #[.int .i64 (most : Int), v, .int .i64 (code : Int)] 53 (0, 0))
theorem feedAt_lt {W : World} {p most : Nat} {v : Value} {code : Nat} (h : FeedAt W p most v code) : p < W.heap.size := (Array.getElem?_eq_some_iff.1 h).1
theorem feedAt_cells {W : World} {p most : Nat} {v : Value} {code : Nat} (h : FeedAt W p most v code) : (W.cell? ⟨p, 0, none⟩ = some (.int .i64 (most : Int)) ∧ W.cell? ⟨p, 1, none⟩ = some v ∧ W.cell? ⟨p, 2, none⟩ = some (.int .i64 (code : Int))) ∧
    (W.frozen? ⟨p, 0, none⟩ = false ∧ W.frozen? ⟨p, 1, none⟩ = false ∧ W.frozen? ⟨p, 2, none⟩ = false) := by
  simp [World.cell?, World.frozen?, show W.heap[p]? = _ from h]
theorem feedAt_same {W W' : World} {p most : Nat} {v : Value} {code : Nat} (h : FeedAt W p most v code) (he : W'.heap[p]? = W.heap[p]?) : FeedAt W' p most v code := he.trans h
theorem feedAt_held {W : World} {p most : Nat} {v : Value} {code : Nat} (h : FeedAt W p most v code) (v' : Value) : FeedAt (W.setCell ⟨p, 1, none⟩ v') p most v' code := by
  obtain ⟨hlt, hk⟩ := Array.getElem?_eq_some_iff.1 h
  show (W.heap.modify p _)[p]? = _
  rw [Array.getElem?_eq_getElem (by rw [Array.size_modify]; exact hlt), Array.getElem_modify_self, hk]
  rfl
theorem feedAt_code {W : World} {p most : Nat} {v : Value} {code : Nat} (h : FeedAt W p most v code) (c : Nat) : FeedAt (W.setCell ⟨p, 2, none⟩ (.int .i64 (c : Int))) p most v c := by
  obtain ⟨hlt, hk⟩ := Array.getElem?_eq_some_iff.1 h
  show (W.heap.modify p _)[p]? = _
  rw [Array.getElem?_eq_getElem (by rw [Array.size_modify]; exact hlt), Array.getElem_modify_self, hk]
  rfl
theorem feedAt_other {W : World} {p most : Nat} {v : Value} {code : Nat} (h : FeedAt W p most v code) (q : Addr) (hq : p ≠ q.block) (u : Value) : FeedAt (W.setCell q u) p most v code := (Below.heap_setCell W q u p hq).trans h
theorem feedAt_below {W W' : World} {p most : Nat} {v : Value} {code : Nat} (h : FeedAt W p most v code) (hb : Below W.heap.size W W') : FeedAt W' p most v code := (hb.block p (feedAt_lt h)).trans h
theorem feedAt_alloc {W : World} {p most : Nat} {v : Value} {code : Nat} (h : FeedAt W p most v code) (o : Obj) : FeedAt (W.alloc o) p most v code := feedAt_below h ((Below.refl _ W).alloc (Nat.le_refl _) o)
/-- a pointer to no bytes' cell is not the feed -/
theorem feedAt_row {W : World} {p most : Nat} {a : Value} {code : Nat} (h : FeedAt W p most a code) {b off : Nat} {x : Int} (hc : W.cell? ⟨b, off, none⟩ = some (.int .u8 x)) (hv : ∀ k n, a ≠ .int k n) : b ≠ p := by
  rintro rfl
  simp only [World.cell?, show W.heap[b]? = _ from h] at hc
  rcases off with _ | _ | _ | off
  · simp at hc
  · simp at hc; exact hv _ _ hc
  · simp at hc
  · simp at hc
theorem grown_below {W W' : World} {B : Nat} (h : Below B W W') (hB : W.heap.size ≤ B) (row : Option Nat) : W.grownBy W' row := ⟨h.os, h.tape, h.output, h.size, fun k hk _ => h.block k (Nat.lt_of_lt_of_le hk hB)⟩
theorem grown_trans {A C D : World} {row : Option Nat} (h : A.grownBy C row) (k : C.grownBy D row) : A.grownBy D row :=
  ⟨k.os.trans h.os, k.tape.trans h.tape, k.output.trans h.output, Nat.le_trans h.size k.size, fun i hi hne => by rw [k.block i (Nat.lt_of_lt_of_le hi h.size) hne, h.block i hi hne]⟩
theorem grown_set {W : World} (b i : Nat) (v : Value) : W.grownBy (W.setCell ⟨b, i, none⟩ v) (some b) :=
  ⟨rfl, rfl, rfl, (KeepsWalks.setCell W _ v).size, fun k _ hk => Below.heap_setCell _ _ _ k (fun e => hk (by rw [e]))⟩
set_option maxHeartbeats 1000000 in
theorem new_any (m : Int) (w : World) : Calls Try.prog 16 #[.int .i64 m] w fun e w' => e = .returned (.pointer (some ⟨w.heap.size, 0, none⟩)) ∧ FeedAt w' w.heap.size (min (max m 0) 65535).toNat (.slice none 0 0) 0 ∧ Below w.heap.size w w' := by
  obtain ⟨q, hq⟩ : ∃ q : Nat, (q : Int) = min (max m 0) 65535 := ⟨(min (max m 0) 65535).toNat, by omega⟩
  have hq2 : (min (max m 0) 65535).toNat = q := by omega
  rw [hq2]
  have hB := (Below.refl _ w).alloc (Nat.le_refl _) (Obj.cells #[.int .i64 (q : Int), .slice none 0 0, .int .i64 0] 53)
  have hN : FeedAt (w.alloc (Obj.cells #[.int .i64 (q : Int), .slice none 0 0, .int .i64 0] 53)) w.heap.size q (.slice none 0 0) 0 := World.alloc_heap_new w _
  have e1 : (if (65535 : Int) < (if m < 0 then 0 else m) then 65535 else (if m < 0 then 0 else m)) = (q : Int) := by split <;> split <;> omega
  have HQ := Lib.hid hq; clear hq hq2
  go_enter Try.func16, Try.ntmps16
  go_wp2
  all_goals (go_ret; exact ⟨rfl, hN, hB⟩)
set_option maxHeartbeats 1000000 in
theorem closed_any (p most : Nat) (v : Value) (code : Nat) (w : World) (h : FeedAt w p most v code) : Calls Try.prog 14 #[.pointer (some ⟨p, 0, none⟩)] w fun e w' => e = .returned (.int .i64 (code : Int)) ∧ w = w' := by
  obtain ⟨⟨c0, c1, c2⟩, _⟩ := feedAt_cells h
  clear h
  go_enter Try.func14, Try.ntmps14
  go_wp2
  go_ret
  exact ⟨rfl, rfl⟩
theorem closed_nil (w : World) : Calls Try.prog 14 #[.pointer none] w fun e w' => e = .returned (.int .i64 1) ∧ w = w' := by
  go_enter Try.func14, Try.ntmps14
  go_wp2
  go_ret
  exact ⟨rfl, rfl⟩
theorem waits_any (p most : Nat) (a : Option Addr) (n c : Nat) (code : Nat) (w : World) (h : FeedAt w p most (.slice a n c) code) : Calls Try.prog 15 #[.pointer (some ⟨p, 0, none⟩)] w fun e w' => e = .returned (.int .i64 (n : Int)) ∧ w = w' := by
  obtain ⟨⟨c0, c1, c2⟩, _⟩ := feedAt_cells h
  clear h
  go_enter Try.func15, Try.ntmps15
  go_wp2
  go_ret
  exact ⟨rfl, rfl⟩
theorem waits_nil (w : World) : Calls Try.prog 15 #[.pointer none] w fun e w' => e = .returned (.int .i64 0) ∧ w = w' := by
  go_enter Try.func15, Try.ntmps15
  go_wp2
  go_ret
  exact ⟨rfl, rfl⟩
set_option maxHeartbeats 1000000 in
theorem whole_in (n : Nat) (p : Nat) (w : World) :
    CallsIn Fence.wide n Try.prog 24 #[.pointer (some ⟨p, 0, none⟩)] w fun e w' => e = .returned (.func (.func 29) #[] #[.pointer (some ⟨w.heap.size, 0, none⟩)]) ∧ w' = w.alloc (.cells #[.pointer (some ⟨p, 0, none⟩)] 32) := by
  refine callsIn_of_wp Try.func24 rfl trivial ?_ rfl
  simp only [Try.ntmps24, List.size_toArray, List.length_cons, List.length_nil, Nat.reduceAdd, Nat.reduceSub, Array.replicate_succ, Array.replicate_zero, List.push_toArray, List.append_toArray, List.nil_append, List.cons_append]
  gi_wp2
  go_ret
  exact ⟨rfl, rfl⟩
set_option maxRecDepth 100000 in
set_option maxHeartbeats 2000000 in
theorem cut_any (p most : Nat) (b off len cap : Nat) (n g : Nat) (l : List Int) (w : World) (h : FeedAt w p most (.slice (some ⟨b, off, none⟩) len cap) 0) (hr : Row w .u8 (some ⟨b, off, none⟩) len cap l) (hl : Bytes l) (hn : n = g + 12) (hnl : n ≤ len) :
    Calls Try.prog 31 #[.pointer (some ⟨p, 0, none⟩), .int .i64 (n : Int)] w fun e w' => ∃ a1 a2, e = .returned (.agg #[.int .i64 (F.kind l), .slice a1 g g]) ∧ Row w .u8 a1 g g ((l.drop 8).take g) ∧ Row w .u8 a2 (len - n) (cap - n) (l.drop n) ∧
      (a2 = some ⟨b, off, none⟩ ∨ a2 = some ⟨b, off + n, none⟩) ∧ (a1 = some ⟨b, off, none⟩ ∨ a1 = some ⟨b, off + 8, none⟩) ∧ FeedAt w' p most (.slice a2 (len - n) (cap - n)) 0 ∧ w.grownBy w' (some p) := by
  obtain ⟨⟨c0, c1, c2⟩, ⟨z0, z1, z2⟩⟩ := feedAt_cells h
  obtain ⟨h1, h2, h3, h4⟩ := id hr
  have hk : w.cell? ⟨b, off + 3, none⟩ = some (.int .u8 (F.kind l)) := by
    rcases h4 with h0 | ⟨b', o', e, hc⟩
    · omega
    · cases e; exact hc 3 (by omega)
  have hkb := hl 3
  have hkb1 : 0 ≤ F.kind l := hkb.1
  have hkb2 : F.kind l ≤ 255 := hkb.2
  have hb : b < w.heap.size := by
    simp only [World.cell?] at hk
    rcases Nat.lt_or_ge b w.heap.size with h | h
    · exact h
    · rw [Array.getElem?_eq_none h] at hk; cases hk
  have hp := feedAt_lt h
  unfold maxLen at h3
  obtain ⟨kd, hkd⟩ : ∃ x, F.kind l = x := ⟨_, rfl⟩
  rw [hkd] at hk hkb1 hkb2 ⊢
  obtain ⟨e8, he8⟩ : ∃ e8 : Nat, e8 = g + 8 := ⟨_, rfl⟩
  obtain ⟨a1, hs1, hr1, ha1⟩ : ∃ a1, (∀ W, (Instr.slice 22 (.slice (some ⟨b, off, none⟩) len cap) (some (.int .i64 8)) (some (.int .i64 (e8 : Int))) (some (.int .i64 (e8 : Int)))).run Try.prog W = .ok (.slice a1 g g) W) ∧
      Row w .u8 a1 g g ((l.drop 8).take g) ∧ (a1 = some ⟨b, off, none⟩ ∨ a1 = some ⟨b, off + 8, none⟩) := by
    refine ⟨if e8 = 8 then some ⟨b, off, none⟩ else (some (⟨b, off, none⟩ : Addr)).map (·.add (8 * 1)), fun W => ?_, ?_, ?_⟩
    · have h1 := run_slice_lhm (P := Try.prog) W 22 (some ⟨b, off, none⟩) len cap Try.underlying22 .i64 .i64 .i64 8 (e8 : Int) (e8 : Int) (by omega) (by omega) (by omega) (by omega)
      rw [size_u8 W] at h1
      have eg : e8 - 8 = g := by omega
      simpa [Result.andThen, sliced, eg] using h1
    · have := row_at hr 8 g e8 (by omega) (by omega) (by omega)
      rwa [show e8 - 8 = g by omega] at this
    · split
      · exact .inl rfl
      · exact .inr rfl
  obtain ⟨a2, hs2, hr2, ha2⟩ : ∃ a2, (∀ W, (Instr.slice 22 (.slice (some ⟨b, off, none⟩) len cap) (some (.int .i64 (n : Int))) none none).run Try.prog W = .ok (.slice a2 (len - n) (cap - n)) W) ∧
      Row w .u8 a2 (len - n) (cap - n) (l.drop n) ∧ (a2 = some ⟨b, off, none⟩ ∨ a2 = some ⟨b, off + n, none⟩) := by
    refine ⟨if cap = n then some ⟨b, off, none⟩ else (some (⟨b, off, none⟩ : Addr)).map (·.add (n * 1)), fun W => ?_, ?_, ?_⟩
    · have h1 := run_slice_l (P := Try.prog) W 22 (some ⟨b, off, none⟩) len cap Try.underlying22 .i64 (n : Int) (by omega) (by omega)
      rw [size_u8 W] at h1
      simpa [Result.andThen, sliced] using h1
    · have := row_at hr n (len - n) cap (by omega) (by omega) (Nat.le_refl _)
      rwa [List.take_of_length_le (by simp; omega)] at this
    · split
      · exact .inl rfl
      · exact .inr (by simp [Addr.add, show n ≠ 0 by omega])
  have hsub : (n : Int) - 4 = (e8 : Int) := by omega
  have hw3 : IntKind.i64.wrap kd = kd := IntWalk.i64_in _ (by omega)
  have H1 := Lib.hid h1; have HN := Lib.hid hn
  have H := Lib.hid h
  have HL : (3 : Int) < (len : Int) := by omega
  have hw8 : wrap64 (e8 : Int) = (e8 : Int) := by unfold wrap64; omega
  clear h h1 hl hr h4 hkb hn he8 hnl
  go_enter Try.func31, Try.ntmps31
  go_wp2
  go_region
  go_wp2
  have hF : FeedAt (w.setCell ⟨p, 1, none⟩ (.slice a2 (len - n) (cap - n))) p most (.slice a2 (len - n) (cap - n)) 0 := feedAt_held H.out _
  exact bodyPost_ret (v := .agg #[.int .i64 kd, .slice a1 g g]) (by simp [results, Try.results31, go_sem]) rfl
    ⟨a1, a2, rfl, hr1, hr2, ha2, ha1, feedAt_alloc (feedAt_alloc hF _) _, grown_trans (grown_set p 1 _) (grown_below (((Below.refl _ _).alloc (Nat.le_refl _) _).alloc (by simp) _).drew (Nat.le_refl _) _)⟩
end Go.Proofs.Ytdnijiehfokagaa
