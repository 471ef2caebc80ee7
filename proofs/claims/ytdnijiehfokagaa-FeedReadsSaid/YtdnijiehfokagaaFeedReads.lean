/- The walk of FeedReads: a feed that takes all bytes, in whatever pieces, comes to the document's frames, error, and rest, behind each piece. -/
import Derived.Test.YtdnijiehfokagaaFeedMore
import Derived.Test.YtdnijiehfokagaaFeedRefRead
import Derived.Test.YtdnijiehfokagaaRows2
namespace Go.Proofs.Ytdnijiehfokagaa.feedReadsWalk
open Go.RowKit Go.Shelf
theorem bytes_eq (a b : Option Addr) (n m c d : Nat) (l : List Int) (w : World) (hl : Row w .u8 a n c l) (hr : Row w .u8 b m d l) :
    Calls Try.prog 12 #[.slice a n c, .slice b m d] w fun e w' => e = .returned (.bool true) ∧ ∃ n, w' = w.drewN n :=
  (refBytes_any a b n m c d l l w hl hr).mono fun e w' h => by
    obtain ⟨h1, h2⟩ := h
    exact ⟨by rw [h1]; simp, h2⟩
set_option maxRecDepth 100000 in
set_option maxHeartbeats 4000000 in
theorem same_any (A : Option Addr) (C : Nat) (A' : Option Addr) (C' N base base' : Nat) (fs : List (Int × List Int)) (xs : List (Int × Option Addr × Nat)) (ys : List (Int × Option Addr × Nat × Nat)) (G G' : Nat → Prop) (w : World) (hN : fs.length = N) (hb : N ≤ 1000000)
    (hx : w.ownsRow base 44 2 (.slice A N C) N (fcells xs)) (hy : w.ownsRow base' 57 2 (.slice A' N C') N (rcells ys)) (px : Pays w G xs fs) (py : RPays w G' ys fs) :
    Calls Try.prog 18 #[.slice A N C, .slice A' N C'] w fun e w' => e = .returned (.bool true) ∧ ∃ n, w' = w.drewN n := by
  have HHX := Lib.hid hx; have HHY := Lib.hid hy; have HPX := Lib.hid px; have HPY := Lib.hid py; have HN := Lib.hid hN
  clear hx hy px py hN
  go_enter Try.func18, Try.ntmps18
  go_wp2
  go_loopw [5] (fun i wr2 => ∃ k nq : Nat, k ≤ N ∧ i = .int .i64 (k : Nat) ∧ wr2 = w.drewN nq) (fun i _ => N - (intOf i).toNat)
  case atStart => exact ⟨0, 0, Nat.zero_le _, rfl, rfl⟩
  case round =>
    obtain ⟨k, nq, hk, rfl, rfl⟩ := hrel
    by_cases hlt2 : k < N
    · obtain ⟨gx, rfl⟩ := own_addr HHX.out (by omega)
      obtain ⟨gy, rfl⟩ := own_addr HHY.out (by omega)
      obtain ⟨ax, hxk, hrx⟩ := pays_at HPX.out k (by rw [HN.out]; exact hlt2)
      obtain ⟨ay, cy, hyk, hry⟩ := rpays_at HPY.out k (by rw [HN.out]; exact hlt2)
      obtain ⟨x0, x1⟩ := cells_at (cells_own' HHX.out) hlt2 hxk
      obtain ⟨y0, y1⟩ := cells_rat (cells_own' HHY.out) hlt2 hyk
      rw [Nat.zero_add] at x0 x1 y0 y1
      have hby : ∀ n', Calls Try.prog 12 #[.slice ax (fs[k]?.getD (0, [])).2.length (fs[k]?.getD (0, [])).2.length, .slice ay (fs[k]?.getD (0, [])).2.length cy] (w.drewN (nq + n')) fun e w'' => e = .returned (.bool true) ∧ ∃ n, w'' = w.drewN (nq + n) := fun n' =>
        (bytes_eq _ _ _ _ _ _ _ _ (row_below hrx (below_drewN (Below.refl _ _) _) rfl) (row_below hry (below_drewN (Below.refl _ _) _) rfl)).mono fun e w'' ⟨h1, m, h2⟩ => ⟨h1, n' + m, by rw [h2, World.drewN_drewN, Nat.add_assoc]⟩
      generalize (fs[k]?.getD (0, [])).2.length = m at *
      generalize (fs[k]?.getD (0, [])).1 = kd at *
      have HBY := Lib.hid hby
      have hkd : (kd != kd) = false := by simp
      clear hby hxk hyk hrx hry
      go_wp2
      go_quiet (first | (go_at_call 12; exact HBY.out _))
      go_wp2
      go_roundw
      case rel => exact ⟨k + 1, _, by omega, by go_num, rfl⟩
      case measure => simp [intOf]; omega
    · obtain rfl : k = N := by omega
      go_wp2
      go_ret
      exact ⟨rfl, _, rfl⟩
/-- the frames that came: bytes, neither what the feed holds nor what the law itself holds -/
def KA (W : World) (v u : Value) (b : Nat) : Prop := (∃ cs fr, W.heap[b]? = some (.cells cs 5 fr)) ∧ some b ≠ v.ownBlock ∧ some b ≠ u.ownBlock
theorem ka_lt {W : World} {v u : Value} {b : Nat} (h : KA W v u b) : b < W.heap.size := by
  obtain ⟨⟨cs, fr, h⟩, _⟩ := h
  exact (Array.getElem?_eq_some_iff.1 h).1
theorem ka_keep {W W' : World} {v u v' u' : Value} (hs : ∀ b, KA W v u b → W'.heap[b]? = W.heap[b]?) (hv : ∀ b, b < W.heap.size → some b ≠ v.ownBlock → some b ≠ v'.ownBlock) (hu : ∀ b, b < W.heap.size → some b ≠ u.ownBlock → some b ≠ u'.ownBlock)
    {xs : List (Int × Option Addr × Nat)} {fs : List (Int × List Int)} (h : Pays W (KA W v u) xs fs) : Pays W' (KA W' v' u') xs fs :=
  pays_same (fun b hb _ => hs b hb) (fun b hb => by
    obtain ⟨⟨cs, fr, h'⟩, h2, h3⟩ := hb
    have hlt := (Array.getElem?_eq_some_iff.1 h').1
    exact ⟨⟨cs, fr, (hs b ⟨⟨cs, fr, h'⟩, h2, h3⟩).trans h'⟩, hv b hlt h2, hu b hlt h3⟩) h
theorem ne_at {v v' : Value} {W : World} (hat : v'.ownBlock = v.ownBlock ∨ ∀ b, v'.ownBlock = some b → W.heap.size ≤ b) : ∀ b, b < W.heap.size → some b ≠ v.ownBlock → some b ≠ v'.ownBlock := fun b hlt hne e => by
  rcases hat with h | h
  · exact hne (e.trans h)
  · have := h b e.symm; omega
theorem own_keep {W W' : World} {base : Nat} {e : TypeId} {size n : Nat} {u : Value} {xs : List Value} (h : W.ownsRow base e size u n xs) (hs : ∀ b, u.ownBlock = some b → W'.heap[b]? = W.heap[b]?) : W'.ownsRow base e size u n xs := by
  refine ⟨h.1, ?_⟩
  rcases h.2 with h' | ⟨g, cap, cur, rfl, h1, hg, r'⟩
  · exact .inl h'
  · exact .inr ⟨g, cap, cur, rfl, h1, (hs g rfl).trans hg, r'⟩
theorem own_typed {W : World} {base base' : Nat} {e e' : TypeId} {size size' n n' : Nat} {u u' : Value} {xs xs' : List Value} (h : W.ownsRow base e size u n xs) (h' : W.ownsRow base' e' size' u' n' xs') (hne : e ≠ e') : ∀ b, u.ownBlock = some b → some b ≠ u'.ownBlock := fun b hb he => by
  obtain ⟨_, _, cs, hc⟩ := own_block h b hb
  obtain ⟨_, _, cs', hc'⟩ := own_block h' b he.symm
  rw [hc] at hc'; cases hc'; exact hne rfl
/-- the law's state behind some pieces -/
structure Now (w : World) (p M : Nat) (al : List Int) (v7 v8 v : Value) (fs : List (Int × List Int)) (c : Nat) (r : List Int) (ys : List (Int × Option Addr × Nat)) (W : World) : Prop where
  feed : FS w.heap.size W p M v c r
  all : W.ownsRow w.heap.size 5 1 v7 al.length (u8s al)
  got : W.ownsRow w.heap.size 44 2 v8 fs.length (fcells ys)
  pays : Pays W (KA W v v7) ys fs
  apart : ∀ b, v7.ownBlock = some b → some b ≠ v.ownBlock
  below : Below w.heap.size w W
/-- all = append(all, piece...) -/
theorem Now.more {w : World} {p M : Nat} {al al' : List Int} {v7 v8 v v7' : Value} {fs : List (Int × List Int)} {c : Nat} {r : List Int} {ys : List (Int × Option Addr × Nat)} {W W' : World} (h : Now w p M al v7 v8 v fs c r ys W) (hown : W'.ownsRow w.heap.size 5 1 v7' al'.length (u8s al')) (hg : W.grownBy W' v7.ownBlock)
    (hat : v7'.ownBlock = v7.ownBlock ∨ v7'.ownBlock = some W.heap.size) : Now w p M al' v7' v8 v fs c r ys W' := by
  have hat' : v7'.ownBlock = v7.ownBlock ∨ ∀ b, v7'.ownBlock = some b → W.heap.size ≤ b := hat.imp id fun h b hb => by rw [h] at hb; cases hb; exact Nat.le_refl _
  have hfo := h.feed.own
  refine ⟨⟨feedAt_same h.feed.here (hg.block p (feedAt_lt h.feed.here) (feed_not_own h.feed.here h.all (by decide))), own_keep hfo fun b hb => hg.block b (own_block hfo b hb).1 (fun e => h.apart b e.symm hb.symm), h.feed.st, h.feed.bytes, h.feed.base⟩, hown,
    own_keep h.got fun b hb => hg.block b (own_block h.got b hb).1 (own_typed h.got h.all (by decide) b hb), ka_keep (fun b hb => hg.block b (ka_lt hb) hb.2.2) (fun _ _ h => h) (ne_at hat') h.pays, fun b hb he => ?_, h.below.trans (below_grown hg h.all h.below.size)⟩
  rcases hat with h1 | h1
  · exact h.apart b (h1 ▸ hb) he
  · rw [h1] at hb; cases hb
    have := (own_block hfo _ he.symm).1; omega
/-- got = append(got, f.Take(piece)...) -/
theorem Now.taken {w : World} {p M : Nat} {al : List Int} {v7 v8 v v' v8' : Value} {fs : List (Int × List Int)} {c : Nat} {r : List Int} {ys xs : List (Int × Option Addr × Nat)} {W W' W'' : World} {x : List (Int × List Int) × Nat × List Int} (h : Now w p M al v7 v8 v fs c r ys W)
    (hp : Pays W' (PG W v v' W') xs x.1) (hf : FS w.heap.size W' p M v' x.2.1 x.2.2) (hP : Past p v W W') (hat : v'.ownBlock = v.ownBlock ∨ ∀ b, v'.ownBlock = some b → W.heap.size ≤ b) (hB : Below w.heap.size W W')
    (hg : W'.grownBy W'' v8.ownBlock) (hown : W''.ownsRow w.heap.size 44 2 v8' (fs ++ x.1).length (fcells (ys ++ xs))) : Now w p M al v7 v8' v' (fs ++ x.1) x.2.1 x.2.2 (ys ++ xs) W'' := by
  have hall' : W'.ownsRow w.heap.size 5 1 v7 al.length (u8s al) := own_keep h.all fun b hb => hP.block b (own_block h.all b hb).1 (fun e => feed_not_own h.feed.here h.all (by decide) (e ▸ hb.symm)) (h.apart b hb)
  have hgot' := row_past h.feed hP h.got (by decide) (by decide)
  have hap : ∀ b, v7.ownBlock = some b → some b ≠ v'.ownBlock := fun b hb => ne_at hat b (own_block h.all b hb).1 (h.apart b hb)
  have hpo : ∀ b, KA W v v7 b → b ≠ p := fun b hb => kg_ne h.feed ⟨hb.1, hb.2.1⟩
  have p1 : Pays W' (KA W' v' v7) ys fs := ka_keep (fun b hb => hP.block b (ka_lt hb) (hpo b hb) hb.2.1) (ne_at hat) (fun _ _ h => h) h.pays
  have p2 : Pays W' (KA W' v' v7) xs x.1 := pays_same (fun _ _ _ => rfl) (fun b hb => ⟨hb.2.2, hb.2.1, fun e => by
    rcases hb.1 with h1 | h1
    · exact h.apart b e.symm h1
    · have := (own_block h.all b e.symm).1; omega⟩) hp
  have hty : ∀ b, (∃ (cs : Array Value) (fr : Nat × Nat), W'.heap[b]? = some (Obj.cells cs 5 fr)) → W''.heap[b]? = W'.heap[b]? := fun b ⟨cs, fr, hc⟩ => hg.block b (Array.getElem?_eq_some_iff.1 hc).1 (fun e => by
    obtain ⟨_, _, cs', hc'⟩ := own_block hgot' b e.symm
    rw [hc] at hc'; cases hc')
  exact ⟨fs_grown hf hg hgot' (by decide) (by decide), own_keep hall' fun b hb => hty b (by obtain ⟨_, _, cs, hc⟩ := own_block hall' b hb; exact ⟨cs, _, hc⟩), hown, ka_keep (fun b hb => hty b hb.1) (fun _ _ h => h) (fun _ _ h => h) (pays_append p2 p1), hap,
    (h.below.trans hB).trans (below_grown hg hgot' (Nat.le_trans h.below.size hB.size))⟩
theorem Now.later {w : World} {p M : Nat} {al : List Int} {v7 v8 v : Value} {fs : List (Int × List Int)} {c : Nat} {r : List Int} {ys : List (Int × Option Addr × Nat)} {W W' : World} (h : Now w p M al v7 v8 v fs c r ys W) (hb : Below W.heap.size W W') : Now w p M al v7 v8 v fs c r ys W' :=
  ⟨fs_below h.feed hb, ownsRow_below h.all hb, ownsRow_below h.got hb, ka_keep (fun b hk => hb.block b (ka_lt hk)) (fun _ _ h => h) (fun _ _ h => h) h.pays, h.apart, h.below.trans (hb.mono h.below.size)⟩
set_option maxRecDepth 100000 in
set_option maxHeartbeats 8000000 in
theorem walk (a0 : Option Addr) (len0 cap0 : Nat) (A0 : Nat → Option Addr) (L0 C0 : Nat → Nat) (T0 : Nat → List Int) (a1 : Int) (w : World) (w0 : IsRows w a0 len0 cap0 A0 L0 C0 T0) (w1 : (Lit.int .i64 a1).wf = true) :
    Calls Try.prog 4 #[.slice a0 len0 cap0, .int .i64 a1] w fun e w' => e = .returned (.bool true) ∧ Below w.heap.size w w' := by
  clear w1
  have hal := fun W => feedAlive_any W
  by_cases hn : 40 < len0
  · have hd : decide ((40 : Int) < (len0 : Int)) = true := by simp; omega
    have HN := Lib.hid hn; clear hn w0
    go_enter Try.func4, Try.ntmps4
    go_wp2_with (first
      | (go_at_call 9; (with_reducible refine (hal _).mono ?_); rintro e wA ⟨rfl, hA⟩))
    go_ret
    exact ⟨rfl, hA⟩
  · have hd : decide ((40 : Int) < (len0 : Int)) = false := by simp; omega
    obtain ⟨M, hM⟩ : ∃ M : Nat, (min (max a1 0) 65535).toNat = M := ⟨_, rfl⟩
    have hM2 : M ≤ 65535 := by omega
    have hMi : (M : Int) = min (max a1 0) 65535 := by omega
    have hnew := fun W => new_any a1 W
    rw [hM] at hnew
    obtain ⟨iu, hiu, hu0, hu1, hu2⟩ := info_parts info_u8
    obtain ⟨jf, hjf, hf0, hf1, hf2⟩ := info_parts info_frame
    have HN := Lib.hid hn; have HW := Lib.hid w0; have HMI := Lib.hid hMi
    clear hn hM hMi
    obtain ⟨hlc, hcm, -, -⟩ := w0
    unfold maxLen at hcm
    have hn40 : len0 ≤ 40 := by have := HN.out; omega
    go_enter Try.func4, Try.ntmps4
    go_wp2_with (first
      | (go_at_call 9; (with_reducible refine (hal _).mono ?_); rintro e wA ⟨rfl, hA⟩)
      | (go_at_call 13; (with_reducible refine (take_nil _ _).mono ?_); rintro e w' ⟨rfl, rfl⟩)
      | (go_at_call 14; (with_reducible refine (closed_nil _).mono ?_); rintro e w' ⟨rfl, rfl⟩)
      | (go_at_call 15; (with_reducible refine (waits_nil _).mono ?_); rintro e w' ⟨rfl, rfl⟩)
      | (go_at_call 16; (with_reducible refine (hnew _).mono ?_); intro e wf hf; obtain ⟨rfl, hFf, hbf⟩ := hf; have hf1' : FS w.heap.size wf wA.heap.size M (.slice none 0 0) 0 [] := fs_new hFf hA.size; have hBf := hA.trans (hbf.mono hA.size); clear hFf hbf))
    go_loopw [7, 8, 9] (fun v7 v8 v9 wr => ∃ (k : Nat) (al : List Int) (v : Value) (fs : List (Int × List Int)) (c : Nat) (r : List Int) (ys : List (Int × Option Addr × Nat)), k ≤ len0 ∧ v9 = .int .i64 (k : Nat) ∧ al.length ≤ 500 * k ∧ Bytes al ∧ F.read M al = (fs, c, r) ∧ Now w wA.heap.size M al v7 v8 v fs c r ys wr) (fun _ _ v9 _ => len0 - (intOf v9).toNat)
    case atStart => exact ⟨0, [], _, [], 0, [], [], Nat.zero_le _, rfl, Nat.zero_le _, mem_bytes (by simp), F.read_wait (F.size_nil M), hf1', World.ownsRow_nil _ _ _ _, World.ownsRow_nil _ _ _ _, trivial, (fun b hb => by cases hb), hBf⟩
    case round =>
      obtain ⟨k, al, v, fs, c, r, ys, hk, rfl, hll, hba, hrd, hnow⟩ := hrel
      by_cases hlt : k < len0
      · obtain ⟨-, -, q3, q4⟩ := isRows_row HW.out hnow.below
        rcases q3 with h0 | ⟨b0, o0, rfl, hc⟩
        · omega
        have c1 := hc k hlt
        obtain ⟨hrow, hbT⟩ := q4 k hlt
        have hlater : ∀ W', Below w.heap.size w W' → W'.cell? ⟨b0, o0 + k, none⟩ = some (.slice (A0 k) (L0 k) (C0 k)) ∧ Row W' .u8 (A0 k) (L0 k) (C0 k) (T0 k) := fun W' hW' => by
          obtain ⟨-, -, q3', q4'⟩ := isRows_row HW.out hW'
          refine ⟨?_, (q4' k hlt).1⟩
          rcases q3' with h0 | ⟨b1, o1, e, hc'⟩
          · omega
          · cases e; exact hc' k hlt
        clear hc q4
        generalize A0 k = A at c1 hrow hlater
        generalize C0 k = C at c1 hrow hlater
        have hTl := hrow.1
        generalize L0 k = Ln at c1 hrow hTl hlater
        generalize T0 k = T at hrow hbT hTl hlater
        have HLT := Lib.hid hlater; clear hlater
        by_cases h3 : 500 < Ln
        · have d3 : decide ((500 : Int) < (Ln : Int)) = true := by simp; omega
          have H3 := Lib.hid h3; clear h3 hrow hTl
          have hBk := hnow.below
          go_wp2
          go_ret
          exact ⟨rfl, hBk⟩
        · have d3 : decide ((500 : Int) < (Ln : Int)) = false := by simp; omega
          obtain ⟨x, hx⟩ : ∃ x, F.take M c r T = x := ⟨_, rfl⟩
          have hrd2 : F.read M (al ++ T) = (fs ++ x.1, x.2.1, x.2.2) := by rw [F.read_take, hrd, hx]
          have hl2 : (al ++ T).length ≤ 500 * (k + 1) := by simp [hTl]; omega
          have hb2 := bytes_app hba hbT
          have hcn := F.read_count M (al ++ T)
          rw [hrd2] at hcn
          have hl3 : fs.length + x.1.length ≤ 100000 := by simp at hcn hl2; omega
          have hl4 : al.length + Ln ≤ 100000 := by omega
          have hl5 : (al ++ T).length ≤ 100000 := by omega
          obtain ⟨al', hal'⟩ : ∃ l, al ++ T = l := ⟨_, rfl⟩
          obtain ⟨fs', hfs'⟩ : ∃ l, fs ++ x.1 = l := ⟨_, rfl⟩
          rw [hal', hfs'] at hrd2
          rw [hal'] at hl2 hb2 hl5
          have hfl : fs'.length ≤ 100000 := by rw [← hfs']; simpa using hl3
          have HAL := Lib.hid hal'; have HFS := Lib.hid hfs'
          clear hal' hfs'
          have HX := Lib.hid hx; have HRD2 := Lib.hid hrd2; have HL2 := Lib.hid hl2; have HB2 := Lib.hid hb2; have HBT := Lib.hid hbT; have HNW := Lib.hid hnow; have HTL := Lib.hid hTl; have HRW := Lib.hid hrow; have HL5 := Lib.hid hl5
          have ho7 := hnow.all
          have hszr := hnow.below.size
          have hLn : Ln ≤ 500 := by omega
          clear hx hrd2 hl2 hb2 hbT hnow hTl hrow hcn hba hrd hll h3 hl5
          go_wp2_with (first
            | (at_builtin; refine wpList_append_at _ rfl _ _ 22 rfl w.heap.size 5 iu (.int .u8 0) 1 1 Try.underlying22 hiu hu0 hu1 hu2 rfl (by decide) _ _ _ rfl ho7 _ _ _ _ rfl (cells_of_row HRW.out) (by simp [Value.oneCell']) (by unfold maxLen; omega) (by omega) hszr ?_; intro v7' w2 hown2 hgr2 hat2; have hn1 := HNW.out.more (al' := al') (ownsRow_nth hown2 (by rw [← HAL.out]; simp [HTL.out]) (by rw [← HAL.out]; simp [u8s])) hgr2 hat2; obtain ⟨a7, c7, rfl, hr7, -⟩ := row_own hn1.all; obtain ⟨k2, r2⟩ := HLT.out _ hn1.below; clear hown2 hgr2 hat2 ho7)
            | (go_at_call 13; (with_reducible refine (fs_take hn1.feed hn1.below.size r2 HBT.out (by omega) hM2).mono ?_); intro e w4 h4; rw [HX.out] at h4; obtain ⟨A4, C4, xs4, v4, rfl, own4, pays4, hf4, past4, at4, hB4'⟩ := h4; have hg4 := row_past hn1.feed past4 hn1.got (by decide) (by decide); have hs4 : w.heap.size ≤ w4.heap.size := Nat.le_trans hn1.below.size past4.size)
            | (at_builtin; refine wpList_append_at _ rfl _ _ 33 rfl w.heap.size 44 jf _ 2 32 Try.underlying33 hjf hf0 hf1 hf2 rfl (by decide) _ _ _ rfl hg4 _ _ _ _ rfl (cells_own' own4) (fcells_one _) (by unfold maxLen; omega) (by omega) hs4 ?_; intro v8' w5 hown5 hgr5 hat5; have hn2 := hn1.taken pays4 hf4 past4 at4 hB4' hgr5 (ownsRow_nth hown5 (by simp) (by rw [fcells_append])); rw [HFS.out] at hn2; obtain ⟨A8, C8, rfl, -⟩ := cells_own hn2.got; obtain ⟨a7', c7', e7, hr7', -⟩ := row_own hn2.all; cases e7; clear hown5 hgr5 hat5 hg4 pays4 hf4 past4 at4 hB4' own4)
            | (go_at_call 17; (with_reducible refine (ref05Read_any a1 _ _ _ al' _ hr7' HB2.out (by have := HL5.out; omega) M HMI.out).mono ?_); intro e w6 h6; unfold RR at h6; rw [HRD2.out] at h6; obtain ⟨A6, C6, xs6, rfl, own6, pays6, hB6⟩ := h6; have hn3 := hn2.later hB6; have hsm := same_any A8 C8 A6 C6 _ _ _ _ _ _ _ _ w6 rfl (by omega) hn3.got own6 hn3.pays pays6; have HSM := Lib.hid hsm; clear hsm)
            | (go_at_call 18; (with_reducible refine HSM.out.mono ?_); rintro e w7 ⟨rfl, n7, rfl⟩; have hn4 := hn3.later (below_drewN (Below.refl _ _) n7))
            | (go_at_call 14; (with_reducible refine (fs_closed hn4.feed).mono ?_); rintro e w' ⟨rfl, rfl⟩)
            | (go_at_call 15; (with_reducible refine (fs_waits hn4.feed).mono ?_); rintro e w' ⟨rfl, rfl⟩))
          go_roundw
          case rel => exact ⟨k + 1, al', v4, fs', x.2.1, x.2.2, ys ++ xs4, by omega, by go_num, HL2.out, HB2.out, HRD2.out, hn4⟩
          case measure => simp [intOf]; omega
      · obtain rfl : k = len0 := by omega
        have hBk := hnow.below
        go_wp2
        go_ret
        exact ⟨rfl, hBk⟩
end Go.Proofs.Ytdnijiehfokagaa.feedReadsWalk
