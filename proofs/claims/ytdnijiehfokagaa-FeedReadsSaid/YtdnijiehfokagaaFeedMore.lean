/- Layer 5: what stays of frames while a feed takes more. -/
import Derived.Test.YtdnijiehfokagaaFeedAlive
import Derived.Test.YtdnijiehfokagaaEq
namespace Go.Proofs.Ytdnijiehfokagaa
open Go.RowKit Go.Shelf
/-- bytes, and not what the feed holds -/
def KG (W : World) (v : Value) (b : Nat) : Prop := (∃ cs fr, W.heap[b]? = some (.cells cs 5 fr)) ∧ some b ≠ v.ownBlock
theorem kg_lt {W : World} {v : Value} {b : Nat} (h : KG W v b) : b < W.heap.size := by
  obtain ⟨⟨cs, fr, h⟩, _⟩ := h
  exact (Array.getElem?_eq_some_iff.1 h).1
theorem kg_new {w W : World} {u v : Value} {xs : List (Int × Option Addr × Nat)} {fs : List (Int × List Int)} (h : Pays W (PG w u v W) xs fs) : Pays W (KG W v) xs fs :=
  pays_same (fun _ _ _ => rfl) (fun _ hb => ⟨hb.2.2, hb.2.1⟩) h
theorem kg_ne {B : Nat} {W : World} {p most c : Nat} {v u : Value} {r : List Int} (hp : FS B W p most u c r) {b : Nat} (h : KG W v b) : b ≠ p := by
  rintro rfl
  obtain ⟨⟨cs, fr, h⟩, _⟩ := h
  rw [show W.heap[b]? = _ from hp.here] at h
  cases h
theorem kg_take {B : Nat} {W W' : World} {p most c : Nat} {v v' : Value} {r : List Int} (hp : FS B W p most v c r) (hP : Past p v W W') (hat : v'.ownBlock = v.ownBlock ∨ ∀ b, v'.ownBlock = some b → W.heap.size ≤ b)
    {xs : List (Int × Option Addr × Nat)} {fs : List (Int × List Int)} (h : Pays W (KG W v) xs fs) : Pays W' (KG W' v') xs fs := by
  have hs : ∀ b, KG W v b → W'.heap[b]? = W.heap[b]? := fun b hb => hP.block b (kg_lt hb) (kg_ne hp hb) hb.2
  refine pays_same (fun b hb _ => hs b hb) (fun b hb => ⟨?_, fun e => ?_⟩) h
  · obtain ⟨⟨cs, fr, h⟩, _⟩ := hb
    exact ⟨cs, fr, (hs b ⟨⟨cs, fr, h⟩, by assumption⟩).trans h⟩
  · rcases hat with h | h
    · exact hb.2 (e.trans h)
    · have := h b e.symm; have := kg_lt hb; omega
theorem kg_grown {W W' : World} {v u : Value} {base : Nat} {e : TypeId} {size n : Nat} {us : List Value} (hg : W.grownBy W' u.ownBlock) (hu : W.ownsRow base e size u n us) (he : e ≠ 5)
    {xs : List (Int × Option Addr × Nat)} {fs : List (Int × List Int)} (h : Pays W (KG W v) xs fs) : Pays W' (KG W' v) xs fs := by
  have hs : ∀ b, KG W v b → W'.heap[b]? = W.heap[b]? := fun b hb => hg.block b (kg_lt hb) (fun e' => by
    obtain ⟨_, _, cs, hc⟩ := own_block hu b e'.symm
    obtain ⟨⟨cs', fr, h'⟩, _⟩ := hb
    rw [hc] at h'; cases h'; exact he rfl)
  refine pays_same (fun b hb _ => hs b hb) (fun b hb => ⟨?_, hb.2⟩) h
  obtain ⟨⟨cs, fr, h'⟩, h2⟩ := hb
  exact ⟨cs, fr, (hs b ⟨⟨cs, fr, h'⟩, h2⟩).trans h'⟩
theorem fs_grown {B : Nat} {W W' : World} {p most c : Nat} {v u : Value} {r : List Int} (hp : FS B W p most v c r) {base : Nat} {e : TypeId} {size n : Nat} {us : List Value} (hg : W.grownBy W' u.ownBlock) (hu : W.ownsRow base e size u n us) (he : e ≠ 5) (he2 : e ≠ 53) : FS B W' p most v c r := by
  refine ⟨feedAt_same hp.here (hg.block p (feedAt_lt hp.here) (feed_not_own hp.here hu he2)), ⟨hp.own.1, ?_⟩, hp.st, hp.bytes, hp.base⟩
  rcases hp.own.2 with h' | ⟨g, cap, cur, rfl, h1, hgb, r'⟩
  · exact .inl h'
  · refine .inr ⟨g, cap, cur, rfl, h1, ?_, r'⟩
    rw [hg.block g (Array.getElem?_eq_some_iff.1 hgb).1 (fun e' => ?_)]
    · exact hgb
    · obtain ⟨_, _, cs, hc⟩ := own_block hu g e'.symm
      rw [hgb] at hc; cases hc; exact he rfl
theorem pays_append {W : World} {G : Nat → Prop} {ys : List (Int × Option Addr × Nat)} {gs : List (Int × List Int)} (h2 : Pays W G ys gs) : ∀ {xs fs}, Pays W G xs fs → Pays W G (xs ++ ys) (fs ++ gs) := by
  intro xs
  induction xs with
  | nil => intro fs h; cases fs with
    | nil => exact h2
    | cons => exact h.elim
  | cons y xs ih => intro fs h; cases fs with
    | nil => exact h.elim
    | cons f fs => exact ⟨h.1, h.2.1, h.2.2.1, ih h.2.2.2⟩
/-- frame i, as it lies -/
theorem pays_at {W : World} {G : Nat → Prop} : ∀ {xs : List (Int × Option Addr × Nat)} {fs : List (Int × List Int)}, Pays W G xs fs → ∀ i, i < fs.length → ∃ a, xs[i]? = some ((fs[i]?.getD (0, [])).1, a, (fs[i]?.getD (0, [])).2.length) ∧ Row W .u8 a (fs[i]?.getD (0, [])).2.length (fs[i]?.getD (0, [])).2.length (fs[i]?.getD (0, [])).2 := by
  intro xs
  induction xs with
  | nil => intro fs h i hi; cases fs with
    | nil => simp at hi
    | cons => exact h.elim
  | cons y xs ih => intro fs h i hi; cases fs with
    | nil => exact h.elim
    | cons f fs =>
      cases i with
      | zero =>
        obtain ⟨y1, y2, y3⟩ := y
        obtain ⟨h1, h2, _, _⟩ := h
        dsimp only at h1 h2
        have h3 := h2.1
        subst h1 h3
        exact ⟨y2, rfl, h2⟩
      | succ i => simpa using ih h.2.2.2 i (by simpa using hi)
theorem fcells_at (xs : List (Int × Option Addr × Nat)) : ∀ (i : Nat) (k : Int) (a : Option Addr) (n : Nat), xs[i]? = some (k, a, n) → (fcells xs)[i * 2]? = some (.int .i64 k) ∧ (fcells xs)[i * 2 + 1]? = some (.slice a n n) := by
  induction xs with
  | nil => intro i k a n h; simp at h
  | cons x xs ih =>
    intro i k a n h
    have e : fcells (x :: xs) = .int .i64 x.1 :: .slice x.2.1 x.2.2 x.2.2 :: fcells xs := rfl
    rw [e]
    cases i with
    | zero => simp at h; subst h; exact ⟨rfl, rfl⟩
    | succ i =>
      have := ih i k a n (by simpa using h)
      rw [show (i + 1) * 2 = i * 2 + 1 + 1 by omega]
      simpa using this
/-- frame i's cells, behind its slice's address -/
theorem cells_at {W : World} {b off n : Nat} {xs : List (Int × Option Addr × Nat)} (h : Cells W 2 (some ⟨b, off, none⟩) n (fcells xs)) {i : Nat} (hi : i < n) {k : Int} {a : Option Addr} {m : Nat} (hx : xs[i]? = some (k, a, m)) :
    W.cell? ⟨b, off + i * 2, none⟩ = some (.int .i64 k) ∧ W.cell? ⟨b, off + i * 2 + 1, none⟩ = some (.slice a m m) := by
  obtain ⟨h1, h2⟩ := fcells_at xs i k a m hx
  rcases h.2 with h0 | ⟨ad, e, hc⟩
  · omega
  · cases e
    have q1 := hc _ _ h1
    have q2 := hc _ _ h2
    rw [Addr.add_lit] at q1 q2
    exact ⟨q1, by rw [Nat.add_assoc]; exact q2⟩
theorem fs_save {B B1 : Nat} {W W' : World} {p q most c : Nat} {v : Value} {r : List Int} (h : FS B W p most v c r) (hs : Save B1 q W W') (hB : W.heap.size ≤ B1) (hne : p ≠ q) (hq : ∀ b, v.ownBlock = some b → b ≠ q) : FS B W' p most v c r := by
  refine ⟨feedAt_same h.here (hs p (Nat.lt_of_lt_of_le (feedAt_lt h.here) hB) hne), ⟨h.own.1, ?_⟩, h.st, h.bytes, h.base⟩
  rcases h.own.2 with h' | ⟨g, cap, cur, rfl, h1, hg, r'⟩
  · exact .inl h'
  · exact .inr ⟨g, cap, cur, rfl, h1, (hs g (Nat.lt_of_lt_of_le (Array.getElem?_eq_some_iff.1 hg).1 hB) (hq g rfl)).trans hg, r'⟩
theorem wrap_small (n : Nat) (h : n ≤ 1000000000) : wrap64 (n : Int) = (n : Int) := by unfold wrap64; omega
theorem read_snoc (M : Nat) (t : List Int) (k : Nat) (fs : List (Int × List Int)) (c : Nat) (r : List Int) (he : F.read M (t.take k) = (fs, c, r)) :
    F.read M (t.take (k + 1)) = (fs ++ (F.take M c r ((t.drop k).take 1)).1, (F.take M c r ((t.drop k).take 1)).2) := by
  have e : t.take (k + 1) = t.take k ++ (t.drop k).take 1 := by rw [List.take_add]
  rw [e, F.read_take, he]
theorem row_save {B1 q : Nat} {W W' : World} {base : Nat} {e : TypeId} {size n : Nat} {u : Value} {xs : List Value} (h : W.ownsRow base e size u n xs) (hs : Save B1 q W W') (hB : W.heap.size ≤ B1) (hq : ∀ b, u.ownBlock = some b → b ≠ q) : W'.ownsRow base e size u n xs := by
  refine ⟨h.1, ?_⟩
  rcases h.2 with h' | ⟨g, cap, cur, rfl, h1, hg, r'⟩
  · exact .inl h'
  · exact .inr ⟨g, cap, cur, rfl, h1, (hs g (Nat.lt_of_lt_of_le (Array.getElem?_eq_some_iff.1 hg).1 hB) (hq g rfl)).trans hg, r'⟩
theorem pays_save {B B1 q most c : Nat} {v : Value} {r : List Int} {W W' : World} {G : Nat → Prop} {xs : List (Int × Option Addr × Nat)} {fs : List (Int × List Int)} (hp : FS B W q most v c r) (h : Pays W G xs fs) (hG : ∀ b, G b → ∃ cs fr, W.heap[b]? = some (.cells cs 5 fr))
    (hs : Save B1 q W W') (hB : W.heap.size ≤ B1) : Pays W' (fun _ => True) xs fs :=
  pays_same (fun b hb hlt => hs b (Nat.lt_of_lt_of_le hlt hB) (fun e => by
    subst e
    obtain ⟨cs, fr, h⟩ := hG _ hb
    rw [show W.heap[b]? = _ from hp.here] at h
    cases h)) (fun _ _ => trivial) h
theorem own_addr {w : World} {base : Nat} {e : TypeId} {size : Nat} {A : Option Addr} {C n m : Nat} {xs : List Value} (h : w.ownsRow base e size (.slice A m C) n xs) (h0 : 0 < n) : ∃ g, A = some ⟨g, 0, none⟩ := by
  rcases h.2 with ⟨_, h1⟩ | ⟨g, _, _, e, _⟩
  · omega
  · cases e; exact ⟨g, rfl⟩
end Go.Proofs.Ytdnijiehfokagaa
