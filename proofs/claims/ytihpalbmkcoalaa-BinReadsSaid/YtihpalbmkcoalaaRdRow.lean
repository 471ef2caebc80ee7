/- Values in a growing row of one's own, made one by one (no walk). -/
import Derived.Test.YtihpalbmkcoalaaRdByte
import Derived.Test.YtihpalbmkcoalaaBinList
import Derived.Test.YtihpalbmkcoalaaAppend
namespace Go.Proofs.Ytihpalbmkcoalaa
open Go.RowKit Go.Shelf
/-- the row's values: each in blocks of its own -/
def VEl (B : Nat) (W : World) (u : Value) (ys : List PV) (cs : List Value) : Prop :=
  ∀ (i : Nat) (y : PV), ys[i]? = some y → ∃ c0 c1 c2 c3 E F, (cs[i * 4]? = some c0 ∧ cs[i * 4 + 1]? = some c1 ∧ cs[i * 4 + 2]? = some c2 ∧ cs[i * 4 + 3]? = some c3) ∧
    (B ≤ E ∧ F ≤ W.heap.size ∧ ∀ g, u.ownBlock = some g → g < E ∨ F ≤ g) ∧ ∀ W' : World, (∀ b, E ≤ b → b < F → W'.heap[b]? = W.heap[b]?) → Is W' y (.agg #[c0, c1, c2, c3])
def VRow (B : Nat) (W : World) (u : Value) (ys : List PV) : Prop := ∃ cs, W.ownsRow B 24 4 u ys.length cs ∧ VEl B W u ys cs
theorem vrow_nil (B : Nat) (W : World) : VRow B W (.slice none 0 0) [] := ⟨[], World.ownsRow_nil _ _ _ _, fun i y h => by simp at h⟩
theorem own_kept {B : Nat} {W W' : World} {e : TypeId} {size n : Nat} {v : Value} {xs : List Value} (h : W.ownsRow B e size v n xs) (hb : ∀ b, B ≤ b → b < W.heap.size → W'.heap[b]? = W.heap[b]?) : W'.ownsRow B e size v n xs := by
  refine ⟨h.1, ?_⟩
  rcases h.2 with hn | ⟨g, cap, cur, rfl, hg, hh, r⟩
  · exact .inl hn
  · exact .inr ⟨g, cap, cur, rfl, hg, (hb g hg (Array.getElem?_eq_some_iff.1 hh).1).trans hh, r⟩
theorem vrow_keep {B : Nat} {W W' : World} {u : Value} {ys : List PV} (h : VRow B W u ys) (hs : W.heap.size ≤ W'.heap.size) (hb : ∀ b, B ≤ b → b < W.heap.size → W'.heap[b]? = W.heap[b]?) : VRow B W' u ys := by
  obtain ⟨cs, h1, h2⟩ := h
  refine ⟨cs, own_kept h1 hb, fun i y hy => ?_⟩
  obtain ⟨c0, c1, c2, c3, E, F, hc, ⟨q1, q2, q3⟩, hi⟩ := h2 i y hy
  exact ⟨c0, c1, c2, c3, E, F, hc, ⟨q1, Nat.le_trans q2 hs, q3⟩, fun W2 h => hi W2 fun b b1 b2 => (h b b1 b2).trans (hb b (by omega) (by omega))⟩
theorem own_blk {w : World} {base : Nat} {e : TypeId} {size : Nat} {v : Value} {n : Nat} {xs : List Value} (h : w.ownsRow base e size v n xs) : ∀ b, v.ownBlock = some b → b < w.heap.size ∧ base ≤ b := by
  intro b hb
  rcases h.2 with ⟨rfl, _⟩ | ⟨g, cap, cur, rfl, h1, hg, _⟩
  · simp [Value.ownBlock] at hb
  · obtain rfl : g = b := by simpa [Value.ownBlock] using hb
    exact ⟨(Array.getElem?_eq_some_iff.1 hg).1, h1⟩
theorem vel_step {B p : Nat} {w0 w4 w6 : World} {u v' : Value} {ys : List PV} {cs : List Value} {y : PV} {o : Obj} {d0 d1 d2 d3 : Value} (hown : w0.ownsRow B 24 4 u ys.length cs) (h : VEl B w0 u ys cs) (hp : p < B) (hB : B ≤ w0.heap.size)
    (hg : w0.grownBy w4 (some p)) (hF : Fresh w0.heap.size w4 y (.agg #[d0, d1, d2, d3])) (hg6 : (w4.alloc o).grownBy w6 u.ownBlock) (hv : v'.ownBlock = u.ownBlock ∨ v'.ownBlock = some (w4.alloc o).heap.size) :
    VEl B w6 v' (ys ++ [y]) (cs ++ [d0, d1, d2, d3]) := by
  have hlen : cs.length = ys.length * 4 := hown.1
  have hub := own_blk hown
  have hs1 := hg.size
  have hs2 : (w4.alloc o).heap.size = w4.heap.size + 1 := World.size_alloc _ _
  have hs3 := hg6.size
  have hal : ∀ b, b < w4.heap.size → (w4.alloc o).heap[b]? = w4.heap[b]? := fun b hb => Below.heap_alloc w4 _ _ hb
  have h6 : ∀ b, b < w4.heap.size → some b ≠ u.ownBlock → w6.heap[b]? = w4.heap[b]? := fun b hb hne => (hg6.block b (by omega) hne).trans (hal b hb)
  intro i z hz
  rcases Nat.lt_or_ge i ys.length with hlt | hge
  · rw [List.getElem?_append_left hlt] at hz
    obtain ⟨c0, c1, c2, c3, E, F, ⟨u0, u1, u2, u3⟩, ⟨q1, q2, q3⟩, hi⟩ := h i z hz
    refine ⟨c0, c1, c2, c3, E, F, ⟨?_, ?_, ?_, ?_⟩, ⟨q1, by omega, fun g hg => ?_⟩, fun W' h' => hi W' fun b b1 b2 => ?_⟩
    · rw [List.getElem?_append_left (by omega), u0]
    · rw [List.getElem?_append_left (by omega), u1]
    · rw [List.getElem?_append_left (by omega), u2]
    · rw [List.getElem?_append_left (by omega), u3]
    · rcases hv with hv | hv
      · exact q3 g (hv ▸ hg)
      · rw [hv] at hg; cases hg; exact .inr (by omega)
    · rw [h' b b1 b2, h6 b (by omega) (fun e => by rcases q3 b e.symm with h | h <;> omega), hg.block b (by omega) (by simp; omega)]
  · have hil : i < (ys ++ [y]).length := (List.getElem?_eq_some_iff.1 hz).1
    rw [List.length_append] at hil
    simp only [List.length_cons, List.length_nil] at hil
    obtain rfl : i = ys.length := by omega
    rw [List.getElem?_append_right (by omega), Nat.sub_self] at hz
    simp at hz
    subst hz
    refine ⟨d0, d1, d2, d3, w0.heap.size, w4.heap.size, ⟨?_, ?_, ?_, ?_⟩, ⟨hB, by omega, fun g hg => ?_⟩, fun W' h' => hF W' fun b b1 b2 => ?_⟩
    · rw [List.getElem?_append_right (by omega), show ys.length * 4 - cs.length = 0 by omega]; rfl
    · rw [List.getElem?_append_right (by omega), show ys.length * 4 + 1 - cs.length = 1 by omega]; rfl
    · rw [List.getElem?_append_right (by omega), show ys.length * 4 + 2 - cs.length = 2 by omega]; rfl
    · rw [List.getElem?_append_right (by omega), show ys.length * 4 + 3 - cs.length = 3 by omega]; rfl
    · rcases hv with hv | hv
      · exact .inl (hub g (hv ▸ hg)).1
      · rw [hv] at hg; cases hg; exact .inr (by omega)
    · rw [h' b b1 b2, h6 b b2 (fun e => by have := (hub b e.symm).1; omega)]
/-- such a row is the list of a value -/
theorem vrow_is {B : Nat} {W : World} {u : Value} {ys : List PV} (h : VRow B W u ys) {W' : World} (hb : ∀ b, B ≤ b → b < W.heap.size → W'.heap[b]? = W.heap[b]?) :
    ∃ a cap, u = .slice a ys.length cap ∧ ys.length ≤ cap ∧ cap ≤ maxLen ∧ (ys = [] ∨ ∃ b off, a = some ⟨b, off, none⟩ ∧ IsL W' b ys off) := by
  obtain ⟨cs, h1, h2⟩ := h
  rcases h1.2 with ⟨rfl, hn⟩ | ⟨g, cap, cur, rfl, hg, hh, hc1, hc2, hc3, hc4⟩
  · exact ⟨none, 0, by rw [hn], by omega, by unfold maxLen; omega, .inl (List.length_eq_zero_iff.1 hn)⟩
  · refine ⟨_, cap, rfl, hc1, hc2, .inr ⟨g, 0, rfl, isL_of fun i y hy => ?_⟩⟩
    obtain ⟨c0, c1, c2, c3, E, F, ⟨u0, u1, u2, u3⟩, ⟨q1, q2, q3⟩, hi⟩ := h2 i y hy
    have hv : VAt W' g cur := (hb g hg (Array.getElem?_eq_some_iff.1 hh).1).trans hh
    have hil : i < ys.length := (List.getElem?_eq_some_iff.1 hy).1
    have at_ : ∀ j c, j < ys.length * 4 → cs[j]? = some c → cur[j]? = some c := fun j c hj hjc => by
      rw [← hc4, List.getElem?_take, if_pos hj] at hjc
      simpa using hjc
    rw [Nat.zero_add]
    exact ⟨c0, c1, c2, c3, ⟨vat_cell hv _ _ (at_ _ _ (by omega) u0), vat_cell hv _ _ (at_ _ _ (by omega) u1), vat_cell hv _ _ (at_ _ _ (by omega) u2), vat_cell hv _ _ (at_ _ _ (by omega) u3)⟩, hi W' fun b b1 b2 => hb b (by omega) (by omega)⟩
/-- a block of our own is written -/
theorem rt_set {S : Src} {W : World} {p b : Nat} {s : Bn.St} (h : RT S W p s) (hb : p < b) (i : Nat) (v : Value) : RT S (W.setCell ⟨b, i, none⟩ v) p s :=
  rt_kept h ((Below.refl _ W).setCell (p := ⟨b, i, none⟩) (by show _ ≤ b; have := h.1; omega) v) (Below.heap_setCell _ _ _ p (by show p ≠ b; omega))
theorem rt_set4 {S : Src} {W : World} {p b : Nat} {s : Bn.St} (h : RT S W p s) (hb : p < b) (i0 i1 i2 i3 : Nat) (d0 d1 d2 d3 : Value) :
    RT S ((((W.setCell ⟨b, i0, none⟩ d0).setCell ⟨b, i1, none⟩ d1).setCell ⟨b, i2, none⟩ d2).setCell ⟨b, i3, none⟩ d3) p s :=
  rt_set (rt_set (rt_set (rt_set h hb i0 d0) hb i1 d1) hb i2 d2) hb i3 d3
/-- what the document's get answers: the value is said where the reader isn't bad then -/
def GRet (S : Src) (p : Nat) (w : World) (v : PV) (s : Bn.St) (e : Ending) (w' : World) : Prop :=
  ∃ d0 d1 d2 d3, e = .returned (.agg #[.int .i64 d0, .int .i64 d1, .string d2, d3]) ∧ (∃ a n c, d3 = .slice a n c) ∧ (s ≠ none → Fresh w.heap.size w' v (.agg #[.int .i64 d0, .int .i64 d1, .string d2, d3])) ∧ RT S w' p s ∧ w.grownBy w' (some p)
theorem get_end {S : Src} {w W : World} {p : Nat} {s : Bn.St} {v : PV} {d0 d1 : Int} {d2 : ByteArray} {a : Option Addr} {n c : Nat} (hpw : p < w.heap.size) (hR : RT S W p s) (hG : w.grownBy W (some p)) (hF : s ≠ none → Fresh (w.heap.size + 1) W v (.agg #[.int .i64 d0, .int .i64 d1, .string d2, .slice a n c])) :
    GRet S p w v s (.returned (.agg #[.int .i64 d0, .int .i64 d1, .string d2, .slice a n c])) ((((W.setCell ⟨w.heap.size, 0, none⟩ (.int .i64 d0)).setCell ⟨w.heap.size, 1, none⟩ (.int .i64 d1)).setCell ⟨w.heap.size, 2, none⟩ (.string d2)).setCell ⟨w.heap.size, 3, none⟩ (.slice a n c)) := by
  refine ⟨_, _, _, _, rfl, ⟨_, _, _, rfl⟩, fun hs => fresh_mono (fresh_later (hF hs) (by simp) fun b h1 _ => ?_) (Nat.le_succ _), rt_set4 hR hpw _ _ _ _ _ _ _ _, grown_new4 hG (Nat.le_refl _) _ _ _ _ _ _ _ _⟩
  rw [Below.heap_setCell _ _ _ b (by show b ≠ w.heap.size; omega), Below.heap_setCell _ _ _ b (by show b ≠ w.heap.size; omega), Below.heap_setCell _ _ _ b (by show b ≠ w.heap.size; omega), Below.heap_setCell _ _ _ b (by show b ≠ w.heap.size; omega)]
end Go.Proofs.Ytihpalbmkcoalaa
