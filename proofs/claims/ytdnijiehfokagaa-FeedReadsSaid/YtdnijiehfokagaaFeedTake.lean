/- Package feed: Take. -/
import Derived.Test.YtdnijiehfokagaaFeedWhole
import Derived.Test.YtdnijiehfokagaaAppend
namespace Go.Proofs.Ytdnijiehfokagaa
open Go.RowKit Go.Shelf
attribute [local go_sem] Oper.semAt_some
def fcells (xs : List (Int × Option Addr × Nat)) : List Value := xs.flatMap fun x => [.int .i64 x.1, .slice x.2.1 x.2.2 x.2.2]
theorem fcells_snoc (xs : List (Int × Option Addr × Nat)) (x : Int × Option Addr × Nat) : fcells (xs ++ [x]) = fcells xs ++ [.int .i64 x.1, .slice x.2.1 x.2.2 x.2.2] := by simp [fcells]
theorem fcells_append (xs ys : List (Int × Option Addr × Nat)) : fcells (xs ++ ys) = fcells xs ++ fcells ys := by simp [fcells]
theorem fcells_one (xs : List (Int × Option Addr × Nat)) : ∀ u ∈ fcells xs, u.oneCell' = true := by
  intro u hu
  simp only [fcells, List.mem_flatMap] at hu
  obtain ⟨x, _, hu⟩ := hu
  simp at hu
  rcases hu with rfl | rfl <;> simp [Value.oneCell']
theorem info_frame : (Try.prog.info? 44).map (fun i => (i.zero, i.size, i.bytes)) = some (some (.agg #[.int .i64 0, .slice none 0 0]), 2, 32) := by kernel_rfl
theorem cells_own {w : World} {base : Nat} {e : TypeId} {size : Nat} {v : Value} {n : Nat} {xs : List Value} (h : w.ownsRow base e size v n xs) : ∃ A C, v = .slice A n C ∧ Cells w size A n xs := by
  obtain ⟨h1, h2⟩ := h
  rcases h2 with ⟨rfl, rfl⟩ | ⟨g, cap, cur, rfl, _, hg, hn, _, hs, ht⟩
  · exact ⟨none, 0, rfl, h1, .inl rfl⟩
  · refine ⟨_, cap, rfl, h1, .inr ⟨_, rfl, fun j u hu => ?_⟩⟩
    rw [← ht, List.getElem?_take] at hu
    split at hu
    · rw [Addr.add_lit]
      simp only [World.cell?, hg, Nat.zero_add]
      simpa using hu
    · cases hu
theorem cells_own' {w : World} {base : Nat} {e : TypeId} {size : Nat} {A : Option Addr} {C n m : Nat} {xs : List Value} (h : w.ownsRow base e size (.slice A m C) n xs) : Cells w size A n xs := by
  obtain ⟨A', C', e', h2⟩ := cells_own h
  have hn : m = n := by
    rcases h.2 with ⟨e, rfl⟩ | ⟨_, _, _, e, _⟩ <;> cases e <;> rfl
  subst hn
  cases e'; exact h2
/-- what has turned: p's block and v's own one alone -/
structure Past (p : Nat) (v : Value) (w w' : World) : Prop where
  os : w'.os = w.os
  tape : w'.tape = w.tape
  output : w'.output = w.output
  size : w.heap.size ≤ w'.heap.size
  block : ∀ k, k < w.heap.size → k ≠ p → some k ≠ v.ownBlock → w'.heap[k]? = w.heap[k]?
theorem past_refl (p : Nat) (v : Value) (w : World) : Past p v w w := ⟨rfl, rfl, rfl, Nat.le_refl _, fun _ _ _ _ => rfl⟩
theorem past_grown {p : Nat} {v : Value} {w A C : World} (h : Past p v w A) (hg : A.grownBy C (some p)) : Past p v w C :=
  ⟨hg.os.trans h.os, hg.tape.trans h.tape, hg.output.trans h.output, Nat.le_trans h.size hg.size, fun k hk hp hv => (hg.block k (Nat.lt_of_lt_of_le hk h.size) (by simpa using hp)).trans (h.block k hk hp hv)⟩
theorem past_own {p : Nat} {v : Value} {w C : World} (hg : w.grownBy C v.ownBlock) : Past p v w C :=
  ⟨hg.os, hg.tape, hg.output, hg.size, fun k hk _ hv => hg.block k hk hv⟩
/-- the frames' payloads: in v's old block or in new memory, and not in v''s -/
def PG (w : World) (v v' : Value) (w' : World) (b : Nat) : Prop := (some b = v.ownBlock ∨ w.heap.size ≤ b) ∧ some b ≠ v'.ownBlock ∧ ∃ cs fr, w'.heap[b]? = some (.cells cs 5 fr)
/-- what Take comes to -/
def Took (p most : Nat) (v : Value) (x : List (Int × List Int) × Nat × List Int) (w : World) (e : Ending) (w' : World) : Prop :=
  ∃ A C xs v', e = .returned (.slice A x.1.length C) ∧ w'.ownsRow w.heap.size 44 2 (.slice A x.1.length C) x.1.length (fcells xs) ∧ Pays w' (PG w v v' w') xs x.1 ∧ FeedAt w' p most v' x.2.1 ∧ w'.ownsRow 0 5 1 v' x.2.2.length (u8s x.2.2) ∧ Past p v w w' ∧
    (v'.ownBlock = v.ownBlock ∨ ∀ b, v'.ownBlock = some b → w.heap.size ≤ b)
theorem take_nil (a : Value) (w : World) : Calls Try.prog 13 #[.pointer none, a] w fun e w' => e = .returned (.slice none 0 0) ∧ w = w' := by
  go_enter Try.func13, Try.ntmps13
  go_wp2
  go_ret
  exact ⟨rfl, rfl⟩
theorem own_block {w : World} {base : Nat} {e : TypeId} {size : Nat} {v : Value} {n : Nat} {xs : List Value} (h : w.ownsRow base e size v n xs) : ∀ b, v.ownBlock = some b → b < w.heap.size ∧ base ≤ b ∧ ∃ cs, w.heap[b]? = some (.cells cs e (0, 0)) := by
  intro b hb
  rcases h.2 with ⟨rfl, _⟩ | ⟨g, cap, cur, rfl, h1, hg, _⟩
  · simp [Value.ownBlock] at hb
  · obtain rfl : g = b := by simpa [Value.ownBlock] using hb
    exact ⟨(Array.getElem?_eq_some_iff.1 hg).1, h1, cur, hg⟩
theorem feed_not_own {w : World} {p most code : Nat} {v u : Value} (hF : FeedAt w p most v code) {base : Nat} {e : TypeId} {size : Nat} {n : Nat} {xs : List Value} (h : w.ownsRow base e size u n xs) (hne : e ≠ 53) : some p ≠ u.ownBlock := by
  intro hp
  obtain ⟨_, _, cs, hc⟩ := own_block h p hp.symm
  rw [show w.heap[p]? = _ from hF] at hc
  cases hc; exact hne rfl
set_option maxHeartbeats 2000000 in
theorem take_closed (p most code : Nat) (v : Value) (a : Value) (w : World) (hF : FeedAt w p most v (code + 1)) (hown : w.ownsRow 0 5 1 v 0 []) : Calls Try.prog 13 #[.pointer (some ⟨p, 0, none⟩), a] w (Took p most v ([], code + 1, []) w) := by
  have hT : ∀ w', w = w' → Took p most v ([], code + 1, []) w (.returned (.slice none 0 0)) w' := fun w' h => by
    subst h
    exact ⟨none, 0, [], v, rfl, World.ownsRow_nil _ _ _ _, trivial, hF, hown, past_refl _ _ _, .inl rfl⟩
  obtain ⟨⟨c0, c1, c2⟩, _⟩ := feedAt_cells hF
  have hne : (((code + 1 : Nat) : Int) != 0) = true := by simp; omega
  generalize ((code + 1 : Nat) : Int) = cc at *
  have HT := Lib.hid hT; clear hT hF hown
  go_enter Try.func13, Try.ntmps13
  go_wp2
  go_ret
  exact HT.out _ rfl
/-- the iterator, as the loop takes it -/
theorem whole_turns (n : Nat) (hn : 1 ≤ n) (p most fb : Nat) (G : Nat → Prop) (a : Option Addr) (len cap : Nat) (r : List Int) (hr : Bytes r) (N : Nat) (hN : r.length < N) (w : World) (B : Nat) (hpB : p < B) (hGB : ∀ b, G b → b < B ∧ b ≠ p) (hB : B ≤ w.heap.size)
    (hbx : Boxed w fb 32 (.pointer (some ⟨p, 0, none⟩))) (hfb : fb ≠ p) (hp : FeedAt w p most (.slice a len cap) 0) (hrow : Row w .u8 a len cap r) (hG : InG G a) :
    SeqTurns Fence.wide n Try.prog 29 #[.pointer (some ⟨fb, 0, none⟩)] fenc (fun A C => Below B A C ∧ KeepsBox fb 32 A C) (fun A C => A.grownBy C (some p)) (Left w p most G (.slice a len cap) r) (fun _ _ => True) N w :=
  fun l J Jx W hW hJ hJx hY h0 =>
    whole1_in n hn l fb p most G a len cap r hr w W J Jx N hN B hpB hGB hJ hJx hY (Nat.le_trans hB hW.size)
      (fun k hk _ => hW.block k (Nat.lt_of_lt_of_le hk hB)) ((hW.block fb hbx.lt).trans hbx) hfb (feedAt_below hp hW) hrow hG h0
theorem grown_later {w A C : World} {row : Option Nat} (h : w.grownBy A row) (hb : Below w.heap.size A C) : w.grownBy C row :=
  ⟨hb.os.trans h.os, hb.tape.trans h.tape, hb.output.trans h.output, Nat.le_trans h.size hb.size, fun k hk hne => (hb.block k hk).trans (h.block k hk hne)⟩
theorem grown_put {w W : World} {row : Option Nat} {D : Nat} {o' : Obj} (h : w.grownBy W row) (hD : w.heap.size ≤ D) : w.grownBy (W.putObj D o') row :=
  ⟨h.os, h.tape, h.output, by rw [World.putObj_size]; exact h.size, fun k hk hne => (World.putObj_heap_other (by omega)).trans (h.block k hk hne)⟩
/-- what the loop's body keeps: the frames that have come, and all else but p -/
def Coll (w2 : World) (p : Nat) (pre : List (Int × Option Addr × Nat)) (W : World) : Prop :=
  (∃ v, Boxed W w2.heap.size 33 v ∧ W.ownsRow w2.heap.size 44 2 v pre.length (fcells pre) ∧ True) ∧ w2.grownBy W (some p)
theorem coll_own (w2 : World) (p B : Nat) (hB : w2.heap.size ≤ B) : OwnFrom B (Coll w2 p) :=
  OwnFrom.and (Own.from (holdsRow_own _ _ _ _ _ (fun pre => pre.length) fcells (fun _ _ => True)) _)
    (fun s A C row h hg hr => ⟨hg.os.trans h.os, hg.tape.trans h.tape, hg.output.trans h.output, Nat.le_trans h.size hg.size, fun k hk hp =>
      (hg.block k (Nat.lt_of_lt_of_le hk h.size) (fun e => by have := (hr k e.symm).1; omega)).trans (h.block k hk hp)⟩)
theorem coll_turn (w2 : World) (p : Nat) (hp : p < w2.heap.size) (s : List (Int × Option Addr × Nat)) (A C : World) (h : Coll w2 p s A) (hg : A.grownBy C (some p)) : Coll w2 p s C := by
  obtain ⟨⟨v, h1, h2, _⟩, h3⟩ := h
  refine ⟨⟨v, h1.kept hg (by simp; omega), h2.kept hg ?_, trivial⟩, grown_trans h3 hg⟩
  rcases h2.2 with ⟨rfl, _⟩ | ⟨g, cap, cur, rfl, hb, _⟩
  · exact .inl rfl
  · exact .inr (by simp [Value.ownBlock]; omega)
theorem left_own (w : World) (p most : Nat) (G : Nat → Prop) (v0 : Value) (r : List Int) (B : Nat) : OwnFrom B (Left w p most G v0 r) := fun s A C row h hg hr => by
  obtain ⟨a, n, c, h1, h2⟩ := h
  refine ⟨a, n, c, feedAt_same h1 (hg.block p (feedAt_lt h1) (fun e => ?_)), h2⟩
  obtain ⟨_, o, ho, hc⟩ := hr p e.symm
  rw [show A.heap[p]? = _ from h1] at ho
  cases ho; cases hc
theorem turned_cell {B : Nat} {A C : World} (h : Turned B A C) {q : Addr} {u : Value} (hc : A.cell? q = some u) : C.cell? q = some u := by
  obtain ⟨l, hl, hg, o, ho, hoc⟩ := turned_grown h
  exact cell_kept hc hg (fun r e => by cases e; exact ⟨o, ho, hoc⟩)
set_option maxRecDepth 100000 in
set_option maxHeartbeats 4000000 in
theorem take_wait (p most : Nat) (v : Value) (r t : List Int) (a : Option Addr) (n c : Nat) (w : World) (hF : FeedAt w p most v 0) (hown : w.ownsRow 0 5 1 v r.length (u8s r)) (hr : Bytes r)
    (ht : Row w .u8 a n c t) (htb : Bytes t) (hlen : r.length + n ≤ 1000000000) :
    Calls Try.prog 13 #[.pointer (some ⟨p, 0, none⟩), .slice a n c] w (Took p most v (F.read most (r ++ t)) w) := by
  obtain ⟨iu, hiu, hu0, hu1, hu2⟩ := info_parts info_u8
  obtain ⟨jf, hjf, hf0, hf1, hf2'⟩ := info_parts info_frame
  obtain ⟨⟨c0, c1, c2⟩, ⟨z0, z1, z2⟩⟩ := feedAt_cells hF
  have htl : t.length = n := ht.1
  refine (callsIn_wide (n := 100)).1 ?_
  refine callsIn_of_wp_marks Try.func13 rfl trivial ?_ rfl
  simp only [Try.ntmps13, List.size_toArray, List.length_cons, List.length_nil, Nat.reduceAdd, Nat.reduceSub, Array.replicate_succ, Array.replicate_zero, List.push_toArray, List.append_toArray, List.nil_append, List.cons_append]
  gi_wp2_with (first
    | (gi_at_builtin; refine wpListIn_append_at _ rfl _ _ 22 rfl 0 5 iu (.int .u8 0) 1 1 Try.underlying22 hiu hu0 hu1 hu2 rfl (by decide) _ _ _ rfl hown _ _ _ _ rfl (cells_of_row ht) (by simp [Value.oneCell']) (by unfold maxLen; omega) (by omega) (Nat.zero_le _) ?_; intro v1 w1 hown1 hgrow1' hat1'; have hgrow1 : w.grownBy w1 v.ownBlock := hgrow1'; have hat1 : v1.ownBlock = v.ownBlock ∨ v1.ownBlock = some w.heap.size := hat1'; clear hgrow1' hat1'; obtain ⟨a1, cap1, rfl, hrow1, had1⟩ := row_own (l := r ++ t) (ownsRow_nth hown1 rfl (by simp [u8s])); have hF1 := feedAt_same hF (hgrow1.block p (feedAt_lt hF) (feed_not_own hF hown (by decide))); obtain ⟨⟨d0, d1, d2⟩, ⟨y0, y1, y2⟩⟩ := feedAt_cells hF1)
    | (refine ⟨trivial, ?_⟩; gi_at_call 24; refine (whole_in _ _ _).mono ?_; rintro e w' ⟨rfl, rfl⟩))
  obtain ⟨w2, hw2⟩ : ∃ w2, w2 = w1.setCell ⟨p, 1, none⟩ (.slice a1 (r.length + n) cap1) := ⟨_, rfl⟩
  rw [← hw2]
  have hF2 : FeedAt w2 p most (.slice a1 (r.length + n) cap1) 0 := hw2 ▸ feedAt_held hF1 _
  have hg12 : w1.grownBy w2 (some p) := hw2 ▸ grown_set p 1 _
  have hp1 := feedAt_lt hF1
  have hs12 : w2.heap.size = w1.heap.size := by rw [hw2]; simp [World.setCell]
  have hown2 : w2.ownsRow 0 5 1 (.slice a1 (r.length + n) cap1) (r ++ t).length (u8s (r ++ t)) :=
    (ownsRow_nth hown1 (by simp [htl]) (by simp [u8s])).kept hg12 (by
      exact .inr (fun h => feed_not_own hF1 hown1 (by decide) h.symm))
  have hblk : ∀ b, some b = (Value.slice a1 (r.length + n) cap1).ownBlock → b < w2.heap.size ∧ b ≠ p ∧ ∃ cs, w2.heap[b]? = some (.cells cs 5 (0, 0)) := fun b hb => by
    obtain ⟨h1, _, h2⟩ := own_block hown2 b hb.symm
    exact ⟨h1, fun h => feed_not_own hF2 hown2 (by decide) (h ▸ hb), h2⟩
  have hs1 : w1.heap.size = w2.heap.size := hs12.symm
  rw [hs1]
  have hrow2 : Row w2 .u8 a1 (r.length + n) cap1 (r ++ t) := by
    obtain ⟨a', c', e, h, _⟩ := row_own hown2
    have el : (r ++ t).length = r.length + n := by simp [htl]
    rw [el] at e h
    cases e; exact h
  have hig : InG (fun b => some b = (Value.slice a1 (r.length + n) cap1).ownBlock) a1 := by
    rintro ad rfl; rfl
  have hbt := bytes_app hr htb
  have hst := F.st_read most (r ++ t)
  have hct := F.read_count most (r ++ t)
  have htot : (r ++ t).length ≤ 1000000000 := by simp [htl]; omega
  have HG1 := Lib.hid hgrow1; have HA1 := Lib.hid hat1
  have hp2 := feedAt_lt hF2
  obtain ⟨W3, hW3⟩ : ∃ W3, W3 = (w2.alloc (.cells #[.slice none 0 0] 33)) := ⟨_, rfl⟩
  rw [← hW3]
  have HS12 := Lib.hid hs12
  clear hs12 hs1 hw2 hown1 hrow1 had1 hF1 d0 d1 d2 y0 y1 y2 hp1
  have hW3s : W3.heap.size = w2.heap.size + 1 := by rw [hW3]; simp
  have hlb : Boxed W3 w2.heap.size 33 (.slice none 0 0) := hW3 ▸ Boxed.new _ _ _
  have hbf : Boxed (W3.alloc (.cells #[.pointer (some ⟨p, 0, none⟩)] 32)) (w2.heap.size + 1) 32 (.pointer (some ⟨p, 0, none⟩)) := by
    have := Boxed.new W3 32 (.pointer (some ⟨p, 0, none⟩))
    rwa [hW3s] at this
  have hb23 : Below w2.heap.size w2 W3 := hW3 ▸ (Below.refl _ w2).alloc (Nat.le_refl _) _
  have hb24 : Below w2.heap.size w2 (W3.alloc (.cells #[.pointer (some ⟨p, 0, none⟩)] 32)) := hb23.alloc (by omega) _
  refine wpIn_rangeFunc_turns rfl (by decide) (gf := 29) (lb := #[.pointer (some ⟨w2.heap.size + 1, 0, none⟩)]) ?hg trivial (enters_of Try.func29 (by kernel_rfl) rfl)
    (whole_turns _ (by decide) p most (w2.heap.size + 1) (fun b => some b = (Value.slice a1 (r.length + n) cap1).ownBlock) a1 (r.length + n) cap1 (r ++ t) hbt 2000000000 (by omega) _ w2.heap.size hp2 (fun b h => ⟨(hblk b h).1, (hblk b h).2.1⟩) (by rw [World.size_alloc]; omega)
      hbf (by omega) (feedAt_below hF2 hb24) (row_below hrow2 hb24 rfl) hig)
    (fun A C k o hk0 hT hk ho => (hT.block k (Array.getElem?_eq_some_iff.1 hk).1 (fun e => by cases e; rw [World.size_alloc] at hk0; omega)).trans hk)
    (fun A C D h k => ⟨h.1.trans k.1, keepsBox_t h.2 k.2⟩)
    (fun A C h => by
      obtain ⟨l, o, o', hl, ho, hc, hw, rfl⟩ := h
      exact ⟨belowK_b (w := w2) (Nat.le_refl _) A l o o' (by rw [World.size_alloc] at hl; omega) ho hc hw, keepsBox_b A l o o' ho hc⟩)
    (fun _ => rfl) (Coll w2 p) (fun _ _ _ => False) (coll_own w2 p _ (by rw [World.size_alloc]; omega)) (fun _ _ _ _ _ h _ _ => h) (coll_turn w2 p hp2) (fun _ _ _ _ h _ => h) (left_own _ _ _ _ _ _ _) (fun _ _ _ _ _ _ _ => trivial)
    ⟨⟨_, hlb.alloc _, World.ownsRow_nil _ _ _ _, trivial⟩, grown_below hb24 (Nat.le_refl _) _⟩ ?round ?done ?stop
  case hg => rfl
  all_goals clear hW3s hW3
  case stop => exact fun _ _ _ _ _ _ h _ => h.elim
  case round =>
    rintro l pre ⟨xk, xa, xn⟩ W hI hlt
    refine wpIn_act (a' := ?a2) ?e ?k
    case e => (simp [fenc]; rfl)
    case k =>
      gi_wp2
      obtain ⟨⟨vl, hbl, hrl, _⟩, hgr⟩ := hI
      have hWs : w2.heap.size ≤ W.heap.size := hgr.size
      refine ⟨(KeepsOthers.alloc W _).from _, ⟨(Below.refl _ W).alloc hWs _, keepsBox_of (World.grownBy_alloc W _ none) (by simp)⟩, fun W2 htn => ?_⟩
      have hI1 : Coll w2 p pre (W.alloc (.cells #[.int .i64 xk, .slice xa xn xn] 44)) := ⟨⟨vl, hbl.alloc _, hrl.alloc _, trivial⟩, grown_trans hgr (World.grownBy_alloc W _ _)⟩
      obtain ⟨⟨vl2, hb2, hr2, _⟩, hg2⟩ := ownFrom_turned (coll_own w2 p _ hb24.size) hI1 htn
      have x0 : W2.cell? ⟨W.heap.size, 0, none⟩ = some (.int .i64 xk) := turned_cell htn (by have := cells_new W [Value.int .i64 xk, .slice xa xn xn] 44 0 _ rfl; rwa [Addr.add_lit] at this)
      have x1 : W2.cell? ⟨W.heap.size, 1, none⟩ = some (.slice xa xn xn) := turned_cell htn (by have := cells_new W [Value.int .i64 xk, .slice xa xn xn] 44 1 _ rfl; rwa [Addr.add_lit] at this)
      have hc2 := hb2.cell
      have hf2 := hb2.frozen
      have hrow3 := hr2.alloc (.cells #[.int .i64 xk, .slice xa xn xn] 44)
      have hW2s : w2.heap.size ≤ W2.heap.size := hg2.size
      clear hI1 hbl hrl hgr htn
      gi_wp2_with (gi_at_builtin; refine wpListIn_append_at _ rfl _ _ 33 rfl w2.heap.size 44 jf _ 2 32 Try.underlying33 hjf hf0 hf1 hf2' rfl (by decide) _ _ _ rfl hrow3 (some ⟨W2.heap.size, 0, none⟩) 1 1 [.int .i64 xk, .slice xa xn xn] rfl ⟨rfl, .inr ⟨_, rfl, cells_new _ [_, _] _⟩⟩ (by simp [Value.oneCell']) (by unfold maxLen; omega) (by omega) (by simp; omega) ?_; intro v' w3 hown' hgrow' hat'; obtain ⟨g', cap', rfl⟩ := ownsRow_succ hown'; have hv1 := boxed_row (hb2.alloc _) hgrow' hrow3 (by decide); have hc1 := hv1.cell; have hfz1 := hv1.frozen)
      have hg : (W2.alloc (.cells #[.int .i64 xk, .slice xa xn xn] 44)).grownBy w3 vl2.ownBlock := hgrow'
      refine ⟨(((KeepsOthers.alloc W2 _).trans (keepsOthers_grown hg hrow3)).trans (KeepsOthers.setCell _ _ _)).from _,
        ⟨(((Below.refl _ W2).alloc hW2s _).trans (below_grown hg hrow3 (by simp; omega))).setCell (p := ⟨w2.heap.size, 0, none⟩) (Nat.le_refl _) _, keepsBox_t (keepsBox_of (World.grownBy_alloc W2 _ none) (by simp)) (keepsBox_t (keepsBox_row hg hrow3 (by decide)) (keepsBox_of (grownBy_setCell' _ _ _) (by simp)))⟩,
        ⟨⟨_, hv1.set _, ownsRow_nth (ownsRow_setBox hv1 hown' (by decide) _) (by simp) (by simp [fcells]), trivial⟩, ?_⟩⟩
      exact grown_later hg2 ((((Below.refl _ W2).alloc hW2s _).trans (below_grown hg hrow3 (by simp; omega))).setCell (p := ⟨w2.heap.size, 0, none⟩) (Nat.le_refl _) _)
  case done =>
    rintro D xs W hD ⟨a', n', c', hFW, hRw, hIG, hPy, hcl, hsame⟩ ⟨⟨vl, hbl, hrl, _⟩, hgr⟩ hK
    have hidle := F.read_idle (most := most) (b := r ++ t)
    generalize F.read most (r ++ t) = x at *
    obtain ⟨fs, cd, rs⟩ := x
    dsimp only at *
    have hlx := pays_len hPy
    obtain ⟨N, hN⟩ : ∃ N, xs.length = N := ⟨_, rfl⟩
    rw [hN] at hrl hlx
    obtain ⟨A, C, rfl, _⟩ := cells_own hrl
    have hV := HA1.out
    have hgw := HG1.out
    have fin : ∀ (W' : World) (v' : Value), FeedAt W' p most v' cd → W'.ownsRow 0 5 1 v' rs.length (u8s rs) → w2.grownBy W' (some p) → W'.ownsRow w2.heap.size 44 2 (.slice A N C) N (fcells xs) →
        (v'.ownBlock = (Value.slice a1 (r.length + n) cap1).ownBlock ∧ xs = [] ∨ ∀ b, v'.ownBlock = some b → w2.heap.size ≤ b) → Took p most v (fs, cd, rs) w (.returned (.slice A N C)) W' := fun W' v' h1 h2 h3 h4 h5 => by
      have hsz : w.heap.size ≤ w2.heap.size := Nat.le_trans hgw.size hg12.size
      refine ⟨A, C, xs, v', by rw [hlx], hlx ▸ ownsRow_mono h4 hsz, ?_, h1, h2, past_grown (past_grown (past_own hgw) hg12) h3, ?_⟩
      · rcases h5 with ⟨_, rfl⟩ | h5
        · cases fs with
          | nil => trivial
          | cons => exact hPy.elim
        · refine pays_same (fun b hb _ => ?_) (fun b hb => ?_) hPy
          · obtain ⟨q1, q2, _⟩ := hblk b hb
            exact (h3.block b q1 (by simpa using q2)).trans (hb24.block b q1).symm
          · obtain ⟨q1, q2, cs, q3⟩ := hblk b hb
            refine ⟨?_, fun h => ?_, cs, _, (h3.block b q1 (by simpa using q2)).trans q3⟩
            · rcases hV with h | h
              · exact .inl (hb.trans h)
              · right; rw [h] at hb; cases hb; exact Nat.le_refl _
            · have := h5 b h.symm; omega
      · rcases h5 with ⟨h5, _⟩ | h5
        · rcases hV with h | h
          · exact .inl (h5.trans h)
          · right; intro b hb; rw [h5, h] at hb; cases hb; exact Nat.le_refl _
        · exact .inr fun b hb => Nat.le_trans hsz (h5 b hb)
    have hnp : ∀ b, (Value.slice A N C).ownBlock = some b → b ≠ p := fun b hb => by have := (own_block hrl b hb).2.1; omega
    have hFc := feedAt_cells hFW
    obtain ⟨⟨f0, f1, f2⟩, ⟨g0, g1, g2⟩⟩ := hFc
    have hcc := hbl.cell
    have hrest : W.grownBy (W.putObj D (.deferred none)) (some D) := grownBy_putObj' W D _
    have hrW : Row W .u8 a' n' c' rs := row_same hRw (fun ad e _ => by
      obtain ⟨q1, q2, _⟩ := hblk _ (hIG ad e)
      exact (hgr.block _ q1 (by simpa using q2)).trans (hb24.block _ q1).symm)
    have hDp : D ≠ p := by have := hb24.size; omega
    have hD2 : w2.heap.size ≤ D := Nat.le_trans hb24.size hD
    have HFIN := Lib.hid fin; have HF := Lib.hid hFW; have HRL := Lib.hid hrl; have HLX := Lib.hid hlx; have HNX := Lib.hid hN; have HCL := Lib.hid hcl; have HSA := Lib.hid hsame; have HST := Lib.hid hst; have HO2 := Lib.hid hown2; have HBL := Lib.hid hblk; have HID := Lib.hid hidle; have HLB := Lib.hid hbl; have HRSL : Hid (rs.length ≤ 1000000000) := Lib.hid (by omega)
    clear fin hFW hrl hlx hN hcl hsame hst hct hblk hPy hRw hIG hV hgw hig hrow2 hbt hgrow1 hat1 hbl hb23 hb24 hlb hbf hidle
    clear hF hown hr ht htb c0 c1 c2 z0 z1 z2 htl hF2
    rcases Nat.eq_zero_or_pos N with h0 | h0
    · have HN0 := Lib.hid h0
      have hlz : decide (0 < N) = false := by simp; omega
      clear h0
      gi_wp2
      refine ⟨by simp, .inl ⟨_, _, rfl, run_takeDeferred hK, ?_⟩⟩
      have hxs : xs = [] := List.length_eq_zero_iff.1 (HNX.out.trans HN0.out)
      have hfs : fs = [] := List.length_eq_zero_iff.1 (HLX.out.symm.trans HN0.out)
      refine ⟨_, results_tmp (t := 4) rfl _ _ _, HFIN.out _ (.slice a' n' c') (feedAt_same HF.out (hrest.block p (feedAt_lt HF.out) (by simp; omega))) ?_ (grown_put hgr hD2) (ownsRow_putObj HRL.out _ hK rfl) ?_⟩
      · rcases HST.out with ⟨h1, rfl⟩ | ⟨rfl, _⟩
        · rw [HCL.out (by omega)]
          exact World.ownsRow_nil _ _ _ _
        · rw [HSA.out hxs rfl, HID.out hfs rfl]
          refine ownsRow_putObj ((HO2.out).kept hgr ?_) _ hK rfl
          exact .inr (fun h => by have := (HBL.out p h.symm).2.1; exact this rfl)
      · rcases HST.out with ⟨h1, rfl⟩ | ⟨rfl, _⟩
        · right; intro b hb; rw [HCL.out (by omega)] at hb; cases hb
        · left; exact ⟨by rw [HSA.out hxs rfl], hxs⟩
    · have hlz : decide (0 < N) = true := by simp; omega
      have HN0 := Lib.hid h0; clear h0
      have hrl2 : rs.length ≤ 1000000000 := HRSL.out
      gi_wp2_with (gi_at_builtin; refine wpListIn_append_at _ rfl _ _ 22 rfl w2.heap.size 5 iu (.int .u8 0) 1 1 Try.underlying22 hiu hu0 hu1 hu2 rfl (by decide) _ 0 [] rfl (World.ownsRow_nil _ _ _ _) _ _ _ _ rfl (cells_of_row hrW) (by simp [Value.oneCell']) (by have := hrW.1; unfold maxLen; omega) (by have := hrW.1; omega) hgr.size ?_; intro v2 w4 hown4' hgrow4' hat4'; have hgrow4 : W.grownBy w4 none := hgrow4'; have hF4 := feedAt_same HF.out (hgrow4.block p (feedAt_lt HF.out) (by simp)); have hF4c := feedAt_cells hF4; obtain ⟨⟨d0, d1, d2⟩, ⟨y0, y1, y2⟩⟩ := hF4c; clear hgrow4'; have hcc4 := (HLB.out.kept hgrow4 (by simp)).cell; obtain ⟨a4, cap4, rfl, hrow4, had4⟩ := row_own (l := rs) (ownsRow_nth hown4' rfl (by simp [u8s])))
      refine ⟨by simp, .inl ⟨_, _, rfl, run_takeDeferred (by
        refine (Below.heap_setCell w4 ⟨p, 1, none⟩ _ D hDp).trans ?_
        exact (hgrow4.block D (Array.getElem?_eq_some_iff.1 hK).1 (by simp)).trans hK), ?_⟩⟩
      have hg5 : w2.grownBy (w4.setCell ⟨p, 1, none⟩ (.slice a4 n' cap4)) (some p) := grown_trans (grown_trans hgr ⟨hgrow4.os, hgrow4.tape, hgrow4.output, hgrow4.size, fun k hk _ => hgrow4.block k hk (by simp)⟩) (grown_set p 1 _)
      rw [Nat.zero_add] at hown4'
      have hown5 : w4.ownsRow w2.heap.size 5 1 (.slice a4 n' cap4) rs.length (u8s rs) := ownsRow_nth hown4' hrW.1.symm (by simp [u8s])
      have hset := grown_set (W := w4) p 1 (.slice a4 n' cap4)
      have hne4 : some p ≠ (Value.slice a4 n' cap4).ownBlock := fun h => by have := (own_block hown5 p h.symm).2.1; omega
      have hneA : some p ≠ (Value.slice A N C).ownBlock := fun h => by have := (own_block HRL.out p h.symm).2.1; omega
      have hrl4 : w4.ownsRow w2.heap.size 44 2 (.slice A N C) N (fcells xs) := by
        refine HRL.out.kept hgrow4 ?_
        cases h : (Value.slice A N C).ownBlock with
        | none => exact .inl rfl
        | some b => exact .inr (by simp)
      have hK5 : (w4.setCell ⟨p, 1, none⟩ (.slice a4 n' cap4)).heap[D]? = some (.deferred (some [])) := (Below.heap_setCell w4 ⟨p, 1, none⟩ _ D hDp).trans ((hgrow4.block D (Array.getElem?_eq_some_iff.1 hK).1 (by simp)).trans hK)
      refine ⟨_, results_tmp (t := 4) rfl _ _ _, HFIN.out _ (.slice a4 n' cap4) (feedAt_same (feedAt_held hF4 _) (World.putObj_heap_other (Ne.symm hDp))) (ownsRow_mono (ownsRow_putObj (hown5.kept hset (.inr hne4.symm)) _ hK5 rfl) (Nat.zero_le _)) (grown_put hg5 hD2)
        (ownsRow_putObj (hrl4.kept hset (.inr hneA.symm)) _ hK5 rfl) (.inr fun b hb => (own_block hown5 b hb).2.1)⟩
theorem take_bytes {most c : Nat} {r t : List Int} (hr : Bytes r) (ht : Bytes t) : Bytes (F.take most c r t).2.2 := by
  unfold F.take
  split
  · exact mem_bytes (F.readBytes most _ (r ++ t) (Nat.lt_succ_self _) (bytes_mem (bytes_app hr ht))).1
  · exact mem_bytes (by simp)
/-- Take, of a feed as it is -/
theorem take5_any (p most code : Nat) (v : Value) (r t : List Int) (a : Option Addr) (n c : Nat) (w : World) (hF : FeedAt w p most v code) (hst : F.St most code r) (hown : w.ownsRow 0 5 1 v r.length (u8s r)) (hr : Bytes r)
    (ht : Row w .u8 a n c t) (htb : Bytes t) (hlen : r.length + n ≤ 1000000000) :
    Calls Try.prog 13 #[.pointer (some ⟨p, 0, none⟩), .slice a n c] w (Took p most v (F.take most code r t) w) := by
  unfold F.take
  rcases hst with ⟨h0, rfl⟩ | ⟨rfl, _⟩
  · obtain ⟨c', rfl⟩ : ∃ c', code = c' + 1 := ⟨code - 1, by omega⟩
    rw [if_neg (by omega)]
    exact take_closed p most c' v _ w hF hown
  · rw [if_pos rfl]
    exact take_wait p most v r t a n c w hF hown hr ht htb hlen
/-- a feed of our own, from block B on -/
structure FS (B : Nat) (w : World) (p most : Nat) (v : Value) (c : Nat) (r : List Int) : Prop where
  here : FeedAt w p most v c
  own : w.ownsRow B 5 1 v r.length (u8s r)
  st : F.St most c r
  bytes : Bytes r
  base : B ≤ p
/-- what Take turns of a feed of our own -/
def FSTook (B p most : Nat) (v : Value) (x : List (Int × List Int) × Nat × List Int) (w : World) (e : Ending) (w' : World) : Prop :=
  ∃ A C xs v', e = .returned (.slice A x.1.length C) ∧ w'.ownsRow w.heap.size 44 2 (.slice A x.1.length C) x.1.length (fcells xs) ∧ Pays w' (PG w v v' w') xs x.1 ∧ FS B w' p most v' x.2.1 x.2.2 ∧ Past p v w w' ∧
    (v'.ownBlock = v.ownBlock ∨ ∀ b, v'.ownBlock = some b → w.heap.size ≤ b) ∧ Below B w w'
theorem own_base {w' : World} {B : Nat} {v' : Value} {n : Nat} {xs : List Value} (h : w'.ownsRow 0 5 1 v' n xs) (hb : ∀ b, v'.ownBlock = some b → B ≤ b) : w'.ownsRow B 5 1 v' n xs := by
  refine ⟨h.1, ?_⟩
  rcases h.2 with h | ⟨g, cap, cur, rfl, _, r⟩
  · exact .inl h
  · exact .inr ⟨g, cap, cur, rfl, hb g rfl, r⟩
theorem fs_take {B p most c : Nat} {v : Value} {r t : List Int} {a : Option Addr} {n cc : Nat} {w : World} (h : FS B w p most v c r) (hB : B ≤ w.heap.size) (ht : Row w .u8 a n cc t) (htb : Bytes t) (hn : n ≤ 100000000) (hm : most ≤ 65535) :
    Calls Try.prog 13 #[.pointer (some ⟨p, 0, none⟩), .slice a n cc] w (FSTook B p most v (F.take most c r t) w) := by
  have hl := F.st_len h.st
  refine (take5_any p most c v r t a n cc w h.here h.st (ownsRow_mono h.own (Nat.zero_le _)) h.bytes ht htb (by omega)).mono fun e w' hT => ?_
  obtain ⟨A, C, xs, v', rfl, q1, q2, q3, q4, q5, q6⟩ := hT
  have hv : ∀ b, v.ownBlock = some b → B ≤ b := fun b hb => (own_block h.own b hb).2.1
  have hv' : ∀ b, v'.ownBlock = some b → B ≤ b := fun b hb => by
    rcases q6 with q6 | q6
    · exact hv b (q6 ▸ hb)
    · exact Nat.le_trans hB (q6 b hb)
  exact ⟨A, C, xs, v', rfl, q1, q2, ⟨q3, own_base q4 hv', F.st_take t h.st, take_bytes h.bytes htb, h.base⟩, q5, q6,
    ⟨q5.os, q5.tape, q5.output, q5.size, fun k hk => q5.block k (by omega) (by have := h.base; omega) (fun e => by have := hv k e.symm; omega)⟩⟩
theorem fs_new {B : Nat} {w' : World} {p most : Nat} (h : FeedAt w' p most (.slice none 0 0) 0) (hB : B ≤ p) : FS B w' p most (.slice none 0 0) 0 [] :=
  ⟨h, World.ownsRow_nil _ _ _ _, F.st_nil most, mem_bytes (by simp), hB⟩
theorem fs_below {B : Nat} {w w' : World} {p most c : Nat} {v : Value} {r : List Int} (h : FS B w p most v c r) (hb : Below w.heap.size w w') : FS B w' p most v c r :=
  ⟨feedAt_below h.here hb, ownsRow_below h.own hb, h.st, h.bytes, h.base⟩
theorem fs_closed {B : Nat} {w : World} {p most c : Nat} {v : Value} {r : List Int} (h : FS B w p most v c r) : Calls Try.prog 14 #[.pointer (some ⟨p, 0, none⟩)] w fun e w' => e = .returned (.int .i64 (c : Int)) ∧ w = w' := closed_any p most v c w h.here
theorem fs_waits {B : Nat} {w : World} {p most c : Nat} {v : Value} {r : List Int} (h : FS B w p most v c r) : Calls Try.prog 15 #[.pointer (some ⟨p, 0, none⟩)] w fun e w' => e = .returned (.int .i64 (r.length : Int)) ∧ w = w' := by
  obtain ⟨a, cap, e, _⟩ := row_own h.own
  subst e
  exact waits_any p most a r.length cap c w h.here
/-- another feed is left alone -/
theorem fs_past {B : Nat} {w w' : World} {p most c : Nat} {v : Value} {r : List Int} {q mo cq : Nat} {u : Value} {rq : List Int} (h : FS B w q mo u cq rq) (hp : FS B w p most v c r) (hP : Past p v w w') (hqp : q ≠ p) (hne : ∀ b, u.ownBlock = some b → v.ownBlock ≠ some b) : FS B w' q mo u cq rq := by
  have hlt := feedAt_lt h.here
  refine ⟨feedAt_same h.here (hP.block q hlt hqp (feed_not_own h.here hp.own (by decide))), ⟨h.own.1, ?_⟩, h.st, h.bytes, h.base⟩
  rcases h.own.2 with h' | ⟨g, cap, cur, rfl, h1, hg, r'⟩
  · exact .inl h'
  · refine .inr ⟨g, cap, cur, rfl, h1, ?_, r'⟩
    rw [hP.block g (Array.getElem?_eq_some_iff.1 hg).1 (fun e => ?_) (fun e => hne g rfl e.symm)]
    · exact hg
    · subst e; exact feed_not_own hp.here h.own (by decide) rfl
/-- a row of another type is left alone -/
theorem row_past {B : Nat} {w w' : World} {p most c : Nat} {v : Value} {r : List Int} (hp : FS B w p most v c r) (hP : Past p v w w') {base : Nat} {e : TypeId} {size : Nat} {u : Value} {n : Nat} {xs : List Value} (h : w.ownsRow base e size u n xs)
    (h1 : e ≠ 53) (h2 : e ≠ 5) : w'.ownsRow base e size u n xs := by
  refine ⟨h.1, ?_⟩
  rcases h.2 with h' | ⟨g, cap, cur, rfl, hb, hg, r'⟩
  · exact .inl h'
  · refine .inr ⟨g, cap, cur, rfl, hb, ?_, r'⟩
    rw [hP.block g (Array.getElem?_eq_some_iff.1 hg).1 (fun e => ?_) (fun e => ?_)]
    · exact hg
    · subst e; exact feed_not_own hp.here h h1 rfl
    · obtain ⟨_, _, cs, hc⟩ := own_block hp.own g e.symm
      rw [hg] at hc; cases hc; exact h2 rfl
theorem own_above {B : Nat} {v v' : Value} {w : World} (hat : v'.ownBlock = v.ownBlock ∨ ∀ b, v'.ownBlock = some b → w.heap.size ≤ b) (hv : ∀ b, v.ownBlock = some b → B ≤ b) (hB : B ≤ w.heap.size) : ∀ b, v'.ownBlock = some b → B ≤ b := fun b hb => by
  rcases hat with h | h
  · rw [h] at hb; exact hv b hb
  · exact Nat.le_trans hB (h b hb)
end Go.Proofs.Ytdnijiehfokagaa
