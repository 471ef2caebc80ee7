/- Package sum's iterator over a table's numbers, and Make. -/
import Derived.Test.YtdnijiehfokagaaSum
import Derived.Laws.MakeOwn
namespace Go.Proofs.Ytdnijiehfokagaa
open Go.RowKit Go.Shelf
attribute [local go_sem] Oper.semAt_some
/-- a box is left alone by what grows a row of another type, wherever the two lie -/
theorem boxed_row {W W' : World} {B : Nat} {t : TypeId} {u : Value} (hb : Boxed W B t u) {v : Value} (hg : W.grownBy W' v.ownBlock) {base : Nat} {e : TypeId} {size n : Nat} {xs : List Value} (hrow : W.ownsRow base e size v n xs) (hne : t ≠ e) : Boxed W' B t u :=
  hb.kept hg (fun h => by
    rcases hrow.2 with ⟨rfl, _⟩ | ⟨g, cap, cur, rfl, _, hgb, _⟩
    · simp [Value.ownBlock] at h
    · obtain rfl : B = g := by simpa [Value.ownBlock] using h
      rw [show W.heap[B]? = _ from hb] at hgb
      cases hgb; exact hne rfl)
theorem keepsBox_row {W W' : World} {B : Nat} {t : TypeId} {v : Value} (hg : W.grownBy W' v.ownBlock) {base : Nat} {e : TypeId} {size n : Nat} {xs : List Value} (hrow : W.ownsRow base e size v n xs) (hne : t ≠ e) : KeepsBox B t W W' :=
  fun _ hv => boxed_row hv hg hrow hne
theorem ownsRow_setBox {W : World} {B : Nat} {t : TypeId} {u : Value} (hb : Boxed W B t u) {v : Value} {base : Nat} {e : TypeId} {size n : Nat} {xs : List Value} (hrow : W.ownsRow base e size v n xs) (hne : t ≠ e) (u' : Value) : (W.setCell ⟨B, 0, none⟩ u').ownsRow base e size v n xs := by
  refine ⟨hrow.1, ?_⟩
  rcases hrow.2 with h | ⟨g, cap, cur, rfl, hg, hgb, r⟩
  · exact .inl h
  · refine .inr ⟨g, cap, cur, rfl, hg, ?_, r⟩
    rw [Below.heap_setCell _ _ _ _ (fun h : g = B => by subst h; rw [show W.heap[g]? = _ from hb] at hgb; cases hgb; exact hne rfl)]
    exact hgb
theorem mk_take (p k : Nat) (h : k < 256) : (S.mk p).take k ++ [(S.row p k : Int)] = (S.mk p).take (k + 1) := by
  rw [take_succ_getD _ _ (by rw [S.mk_len]; exact h), S.mk_at p k h]
set_option maxRecDepth 100000 in
set_option maxHeartbeats 2000000 in
theorem numbers1_in (n : Nat) (hn : 1 ≤ n) (l Bs p : Nat) (hp : p < 4294967296) (J Jx : List Int → World → Prop)
    (hY : ∀ pre x W, J pre W → pre.length < 256 → YieldAt Fence.wide (n - 1) Try.prog l #[.int .u32 x] W fun e W' =>
      (e = .returned (.bool true) ∧ J (pre ++ [x]) W' ∧ KeepsBox Bs 72 W W') ∨ (e = .returned (.bool false) ∧ Jx (pre ++ [x]) W'))
    (W : World) (hBs : Boxed W Bs 72 (.int .u32 p)) (h0 : J [] W) :
    CallsIn Fence.wide n Try.prog 39 #[.func (.yield l) #[] #[], .pointer (some ⟨Bs, 0, none⟩)] W fun e W' => (∃ v, e = .returned v) ∧
      ((∃ ys, ys = S.mk p ∧ J ys W') ∨ (∃ pre, pre <+: S.mk p ∧ Jx pre W')) := by
  refine callsIn_of_wp Try.func39 rfl trivial ?_ rfl
  simp only [Try.ntmps39, List.size_toArray, List.length_cons, List.length_nil, Nat.reduceAdd, Nat.reduceSub, Array.replicate_succ, Array.replicate_zero, List.push_toArray, List.append_toArray, List.nil_append, List.cons_append]
  gi_wp2
  gi_loopw [4] (fun i wr => ∃ k : Nat, k ≤ 256 ∧ i = .int .u32 k ∧ J ((S.mk p).take k) wr ∧ Boxed wr Bs 72 (.int .u32 p)) (fun i _ => 256 - (intOf i).toNat)
  case atStart => exact ⟨0, by omega, rfl, h0, hBs⟩
  case round =>
    obtain ⟨k, hk, rfl, hJs, hnx⟩ := hrel
    have hcx := hnx.cell
    by_cases hlt : k < 256
    · have hd : decide (k < 256) = true := by simpa using hlt
      have hT : Hid ((S.mk p).take k ++ [(S.row p k : Int)] = (S.mk p).take (k + 1)) := Lib.hid (mk_take p k hlt)
      have hdv := fun w => divided_any k p w (by omega) hp
      have hpl : ((S.mk p).take k).length < 256 := by rw [List.length_take, S.mk_len]; omega
      generalize ((S.row p k : Nat) : Int) = x at hT hdv
      obtain ⟨fn, tmps, assign, body, hy, hR⟩ := hY _ x wr hJs hpl
      clear hpl
      gi_wp2_with (refine ⟨trivial, ?_⟩; gi_at_call 40; refine (callsIn_wide.2 (hdv _)).mono ?_; rintro e w' ⟨rfl, rfl⟩)
      refine hR.mono ?_
      rintro e W3 (⟨rfl, hJ3, hk3⟩ | ⟨rfl, hJx3⟩)
      · gi_wp2
        go_roundw
        case rel => exact ⟨k + 1, by omega, by go_num, by rw [← hT.out]; exact hJ3, hk3 _ hnx⟩
        case measure => simp [intOf]; omega
      · gi_wp2
        refine bodyPost_ret (results_none rfl _ _ _) rfl ?_
        exact ⟨⟨_, rfl⟩, .inr ⟨_, by rw [hT.out]; exact List.take_prefix _ _, hJx3⟩⟩
    · obtain rfl : k = 256 := by omega
      have hT : Hid ((S.mk p).take 256 = S.mk p) := Lib.hid (List.take_of_length_le (by rw [S.mk_len]; omega))
      gi_wp2
      refine bodyPost_end (results_none rfl _ _ _) rfl ?_
      exact ⟨⟨_, rfl⟩, .inl ⟨_, hT.out, hJs⟩⟩
set_option maxHeartbeats 1000000 in
theorem numbers_in (n : Nat) (p : Int) (w : World) :
    CallsIn Fence.wide n Try.prog 34 #[.int .u32 p] w fun e w' => e = .returned (.func (.func 39) #[] #[.pointer (some ⟨w.heap.size, 0, none⟩)]) ∧ w' = w.alloc (.cells #[.int .u32 p] 72) := by
  refine callsIn_of_wp Try.func34 rfl trivial ?_ rfl
  simp only [Try.ntmps34, List.size_toArray, List.length_cons, List.length_nil, Nat.reduceAdd, Nat.reduceSub, Array.replicate_succ, Array.replicate_zero, List.push_toArray, List.append_toArray, List.nil_append, List.cons_append]
  gi_wp2
  go_ret
  exact ⟨rfl, rfl⟩
theorem numbers_stops (n : Nat) (hn : 1 ≤ n) (Bs p : Nat) (hp : p < 4294967296) (w : World) (hBs : Boxed w Bs 72 (.int .u32 p)) :
    SeqStopsK Fence.wide n Try.prog 39 #[.pointer (some ⟨Bs, 0, none⟩)] (fun x : Int => #[Value.int .u32 x]) (KeepsBox Bs 72) (fun ys => ys = S.mk p)
      (fun pre => pre <+: S.mk p) 256 w := fun l J Jx W hW _ _ hY h0 =>
  numbers1_in n hn l Bs p hp J Jx hY W ((hW.block Bs hBs.lt).trans hBs) h0
/-- a slice that the call has made -/
def Made (w : World) (l : List Int) (e : Ending) (w' : World) : Prop := ∃ v, e = .returned v ∧ w'.ownsRow w.heap.size 3 1 v l.length (i64s l) ∧ Below w.heap.size w w'
theorem mk_wrap (p : Nat) (hp : p < 4294967296) : (S.mk p).map (fun x => wrap64 x) = S.mk p := by
  conv => rhs; rw [← List.map_id (S.mk p)]
  refine List.map_congr_left fun x hx => ?_
  simp only [S.mk, List.mem_map, List.mem_range] at hx
  obtain ⟨i, hi, rfl⟩ := hx
  have := S.row_lt (p := p) (x := i) hp (by omega)
  unfold wrap64
  simp only [id]
  omega
set_option maxRecDepth 100000 in
set_option maxHeartbeats 2000000 in
theorem make_any (p : Int) (w : World) (hp0 : -9223372036854775808 ≤ p) (hp1 : p ≤ 9223372036854775807) :
    Calls Try.prog 27 #[.int .i64 p] w (Made w (S.make p)) := by
  obtain ⟨i0, hi, hz0, hz1, hz2⟩ := info_parts info_int
  have hft := fun w => fits_any p w
  by_cases hnum : S.num p = true
  · rw [hnum] at hft
    obtain ⟨q, rfl⟩ := Int.eq_ofNat_of_zero_le ((S.num_iff p).1 hnum).1
    have hq : q < 4294967296 := by have := ((S.num_iff _).1 hnum).2; omega
    have hmk : Hid (S.make (q : Int) = S.mk q) := Lib.hid (by unfold S.make; rw [if_pos hnum, Int.toNat_natCast])
    clear hnum
    refine (callsIn_wide (n := 100)).1 ?_
    refine callsIn_of_wp_marks Try.func27 rfl trivial ?_ rfl
    simp only [Try.ntmps27, List.size_toArray, List.length_cons, List.length_nil, Nat.reduceAdd, Nat.reduceSub, Array.replicate_succ, Array.replicate_zero, List.push_toArray, List.append_toArray, List.nil_append, List.cons_append]
    gi_wp2_with (first
      | (refine ⟨trivial, ?_⟩; gi_at_call 33; refine (callsIn_wide.2 (hft _)).mono ?_; rintro e w' ⟨rfl, rfl⟩)
      | (gi_at_make; refine wpListIn_make_own _ rfl _ _ 60 rfl w.heap.size 3 i0 (.int .i64 0) 1 Try.underlying60 hi hz0 hz1 .i64 .i64 256 256 rfl rfl rfl (by rw [hz2]; omega) (by unfold maxLen; omega) (Nat.le_refl _) ?_; intro w1 hown1 hgrow1)
      | (refine ⟨trivial, ?_⟩; gi_at_call 34; refine (numbers_in _ _ _).mono ?_; rintro e w' ⟨rfl, rfl⟩))
    have bN := Boxed.new (w1.alloc (.cells #[.slice (some ⟨w.heap.size, 0, none⟩) 0 256] 60)) 72 (.int .u32 q)
    have b1 := Boxed.new w1 60 (.slice (some ⟨w.heap.size, 0, none⟩) 0 256)
    rw [World.size_alloc] at bN
    have hs1 := hgrow1.size
    have hB1 : Below w.heap.size w w1 := ⟨hgrow1.os, hgrow1.tape, hgrow1.output, hgrow1.size, fun i hi => hgrow1.block i hi (by simp)⟩
    have hB0 := (hB1.alloc hs1 (.cells #[.slice (some ⟨w.heap.size, 0, none⟩) 0 256] 60)).alloc (by simp; omega) (.cells #[.int .u32 q] 72)
    refine wpIn_rangeFunc_ownG rfl (by decide) (gf := 39) (lb := #[.pointer (some ⟨w1.heap.size + 1, 0, none⟩)]) rfl trivial (enters_of Try.func39 (by kernel_rfl) rfl)
      (numbers_stops _ (by decide) (w1.heap.size + 1) q hq _ bN) keepsBox_t (fun W l o o' _ hl ho _ => keepsBox_b W l o o' hl ho) (Below.refl _ _) (fun _ => rfl)
      (fun pre W => (∃ v, Boxed W w1.heap.size 60 v ∧ W.ownsRow w.heap.size 3 1 v pre.length (i64s (pre.map fun x => wrap64 x)) ∧ True) ∧
        (Below w.heap.size w W ∧ w1.heap.size + 1 + 1 ≤ W.heap.size))
      (fun _ _ _ => False)
      (OwnFrom.and (Own.from (holdsRow_own _ _ _ _ _ (fun pre => pre.length) (fun pre : List Int => i64s (pre.map fun x => wrap64 x)) (fun _ _ => True)) _) (OwnFrom.and (ownFrom_below (Nat.le_refl _) (by simp; omega)) (fun s W W' row hs hg hr => Nat.le_trans hs hg.size)))
      (fun _ _ _ _ _ hs _ _ => hs)
      ⟨⟨_, b1.alloc _, (hown1.alloc _).alloc _, trivial⟩, hB0, by simp⟩ ?a1 ?assign ?body ?done ?stop
    case assign =>
      intro l x W K hK
      gi_wp2
      exact hK
    case body =>
      rintro l pre x W ⟨⟨v, hv, hrow, _⟩, hB, hsz⟩ hlt
      have hc := hv.cell
      have hf := hv.frozen
      have hrow2 := hrow.alloc (.cells #[.int .i64 (wrap64 x)] 3)
      gi_wp2_with (gi_at_builtin; refine wpListIn_append_own _ rfl _ _ 60 rfl w.heap.size 3 i0 (.int .i64 0) 1 8 Try.underlying60 hi hz0 hz1 hz2 rfl (by decide) _ _ _ rfl hrow2 ⟨W.heap.size, 0, none⟩ 1 1 [.int .i64 (wrap64 x)] rfl rfl (cells_new _ [_] _) (by simp [Value.oneCell']) (by unfold maxLen; omega) (by omega) (by simp; omega) ?_; intro v' w2 hown' hgrow _; obtain ⟨g', cap', rfl⟩ := ownsRow_succ hown'; have hv1 := boxed_row (hv.alloc _) hgrow hrow2 (by decide); have hc1 := hv1.cell; have hf1 := hv1.frozen)
      have hg : (W.alloc (.cells #[.int .i64 (wrap64 x)] 3)).grownBy w2 v.ownBlock := hgrow
      refine ⟨(((KeepsOthers.alloc W _).trans (keepsOthers_grown hg hrow2)).trans (KeepsOthers.setCell _ _ _)).from _,
        keepsBox_t (keepsBox_of (World.grownBy_alloc W _ none) (by simp)) (keepsBox_t (keepsBox_row hg hrow2 (by decide)) (keepsBox_of (grownBy_setCell' _ _ _) (by simp))),
        ⟨_, hv1.set _, ownsRow_nth (ownsRow_setBox hv1 hown' (by decide) _) (by simp) (by simp [i64s]), trivial⟩, ?_, ?_⟩
      · exact ((hB.alloc hB.size _).trans (below_grown hg hrow2 (by have := hB.size; simp; omega))).setCell (p := ⟨w1.heap.size, 0, none⟩) hs1 _
      · have := hg.size; simp [World.setCell] at this ⊢; omega
    case done =>
      rintro D ys W hD rfl ⟨⟨v, hv, hrow, _⟩, hB, hsz⟩ hK
      have hc := hv.cell
      gi_wp2
      refine ⟨by simp, .inl ⟨_, _, rfl, run_takeDeferred hK, ?_⟩⟩
      exact ⟨_, results_tmp (t := 2) rfl _ _ _, v, rfl, by
        rw [hmk.out]
        exact ownsRow_nth (ownsRow_putObj hrow _ hK rfl) rfl (by rw [mk_wrap q hq]),
        hB.trans (belowK_b (w := w) (Nat.le_refl _) W D _ _ (by simp at hD; omega) hK rfl rfl)⟩
    case stop =>
      rintro D c pre W _ _ h _
      exact h.elim
  · have hnum' : S.num p = false := by simpa using hnum
    rw [hnum'] at hft
    have hmk : Hid (S.make p = []) := Lib.hid (by unfold S.make; rw [if_neg hnum])
    clear hnum hnum'
    go_enter Try.func27, Try.ntmps27
    go_wp2_with (go_at_call 33; (with_reducible refine (hft _).mono ?_); rintro e w' ⟨rfl, rfl⟩)
    go_ret
    exact ⟨_, rfl, by rw [hmk.out]; exact World.ownsRow_nil _ _ _ _, Below.refl _ _⟩
end Go.Proofs.Ytdnijiehfokagaa
