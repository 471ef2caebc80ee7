/- Layer 7: All. -/
import Derived.Test.YtiflnciapboccaaDoorTokSeq
import Derived.Test.YtiflnciapboccaaDoorAppend
set_option linter.unusedVariables false
namespace Go.Proofs.YtiflnciapboccaaDoor
open Go.RowKit Go.Shelf
attribute [local go_sem] Oper.semAt_some
/-- a block of a state's two cells -/
def SAt (W : World) (b : Nat) (cs : Array Value) : Prop := W.heap[b]? = some (.cells cs 52 (0, 0))
theorem sat_lt {W : World} {b : Nat} {cs : Array Value} (h : SAt W b cs) : b < W.heap.size := (Array.getElem?_eq_some_iff.1 h).1
theorem sat_cell {W : World} {b : Nat} {cs : Array Value} (h : SAt W b cs) (i : Nat) (c : Value) (hc : cs[i]? = some c) : W.cell? ⟨b, i, none⟩ = some c := by
  simp [World.cell?, show W.heap[b]? = _ from h, hc]
theorem sat_frozen {W : World} {b : Nat} {cs : Array Value} (h : SAt W b cs) (i : Nat) : W.frozen? ⟨b, i, none⟩ = false := by simp [World.frozen?, show W.heap[b]? = _ from h]
theorem sat_kept {W W' : World} {row : Option Nat} {b : Nat} {cs : Array Value} (hg : W.grownBy W' row) (hne : some b ≠ row) (h : SAt W b cs) : SAt W' b cs := (hg.block b (sat_lt h) hne).trans h
theorem sat_below {W W' : World} {b : Nat} {cs : Array Value} (hb : Below W.heap.size W W') (h : SAt W b cs) : SAt W' b cs := (hb.block b (sat_lt h)).trans h
theorem sat_alloc (W : World) (cs : Array Value) : SAt (W.alloc (.cells cs 52)) W.heap.size cs := World.alloc_heap_new W _
theorem sat_set {W : World} {b : Nat} {cs : Array Value} (h : SAt W b cs) (i : Nat) (c : Value) : SAt (W.setCell ⟨b, i, none⟩ c) b (cs.setIfInBounds i c) := by
  obtain ⟨hlt, hk⟩ := Array.getElem?_eq_some_iff.1 h
  show (W.heap.modify b _)[b]? = _
  rw [Array.getElem?_eq_getElem (by rw [Array.size_modify]; exact hlt), Array.getElem_modify_self, hk]
  rfl
theorem sat_own {β : Type} (b : Nat) (f : β → Array Value) : Own (fun (s : β) W => SAt W b (f s)) := fun s W W' row h hg hr =>
  sat_kept hg (fun e => by
    obtain ⟨o, ho, hc⟩ := hr b e.symm
    have h' : W.heap[b]? = some (.cells (f s) 52 (0, 0)) := h
    rw [h'] at ho; cases ho; simp [Obj.isCells] at hc) h
theorem turned_block {B : Nat} {A C : World} (h : Turned B A C) {b : Nat} {cs : Array Value} {t : TypeId} {f : Nat × Nat} (hc : A.heap[b]? = some (.cells cs t f)) : C.heap[b]? = some (.cells cs t f) := by
  obtain ⟨l, o, o', _, hl, ho, _, rfl⟩ := h
  refine (World.putObj_heap_other (fun e => ?_)).trans hc
  subst e
  rw [hc] at hl; cases hl; simp [Obj.isCells] at ho
theorem info_tok : (Tryd.prog.info? 24).map (fun i => (i.zero, i.size, i.bytes)) = some (some (.agg tzero), 5, 48) := by kernel_rfl
def tcells (L : List K.Tok) : List Value := L.flatMap fun t => (tokC t).toList
theorem tcells_len (L : List K.Tok) : (tcells L).length = L.length * 5 := by
  induction L with
  | nil => rfl
  | cons t L ih => simp only [tcells, List.flatMap_cons, List.length_append, List.length_cons] at ih ⊢; rw [ih]; simp [tokC]; omega
theorem tcells_snoc (L : List K.Tok) (t : K.Tok) : tcells (L ++ [t]) = tcells L ++ [.int .i64 t.kind, .int .i64 t.a, .int .i64 t.e, .string (strOfNums t.s), .int .i64 t.n] := by
  simp [tcells, tokC]
namespace K
theorem toks_snoc (L : List (Tok × Nat × Int)) (x : Tok × Nat × Int) : toks (L ++ [x]) = toks L ++ if x.2.2 = 0 then [x.1] else [] := by
  unfold toks
  rw [List.filter_append, List.map_append]
  congr 1
  by_cases h : x.2.2 = 0
  · simp [h]
  · simp [h]
theorem toks_le (L : List (Tok × Nat × Int)) : (toks L).length ≤ L.length := by
  unfold toks; rw [List.length_map]; exact List.length_filter_le _ _
theorem lastAt_snoc (L : List (Tok × Nat × Int)) (x : Tok × Nat × Int) : lastAt (L ++ [x]) = x.2.1 := by simp [lastAt]
theorem lastErr_snoc (L : List (Tok × Nat × Int)) (x : Tok × Nat × Int) : lastErr (L ++ [x]) = x.2.2 := by simp [lastErr]
end K
/-- what a round has come to -/
def AllI (w : World) (pre : List Item) (W : World) : Prop :=
  ((∃ v, Boxed W w.heap.size 31 v ∧ W.ownsRow (w.heap.size + 3) 24 5 v (K.toks pre).length (tcells (K.toks pre)) ∧ True) ∧
    SAt W (w.heap.size + 1) #[.int .i64 (K.lastAt pre : Nat), .int .i64 (K.lastErr pre)]) ∧ (Below w.heap.size w W ∧ w.heap.size + 3 ≤ W.heap.size)
theorem allI_own (w : World) (B : Nat) (hB : w.heap.size ≤ B) : OwnFrom B (AllI w) :=
  OwnFrom.and (OwnFrom.and (Own.from (holdsRow_own _ _ _ _ _ (fun pre => (K.toks pre).length) (fun pre : List Item => tcells (K.toks pre)) (fun _ _ => True)) _) (Own.from (sat_own _ _) _))
    (OwnFrom.and (ownFrom_below (Nat.le_refl _) hB) (fun s W W' row hs hg hr => Nat.le_trans hs hg.size))
theorem allI_turn (w : World) (pre : List Item) (A C : World) (h : AllI w pre A) (hb : Below A.heap.size A C) : AllI w pre C := by
  obtain ⟨⟨⟨v, h1, h2, _⟩, h3⟩, h4, h5⟩ := h
  exact ⟨⟨⟨v, (hb.block _ h1.lt).trans h1, ownsRow_below h2 hb, trivial⟩, sat_below hb h3⟩, h4.trans (hb.mono (Nat.le_trans (by omega) h5)), Nat.le_trans h5 hb.size⟩
def AllR (s : ByteArray) (w : World) (e : Ending) (w' : World) : Prop :=
  ∃ v, e = .returned (.tuple #[v, .int .i64 (K.lastAt (K.its (strB s)) : Nat), .int .i64 (K.lastErr (K.its (strB s)))]) ∧
    w'.ownsRow w.heap.size 24 5 v (K.toks (K.its (strB s))).length (tcells (K.toks (K.its (strB s)))) ∧ Below w.heap.size w w'
theorem tokens_in (n : Nat) (s : ByteArray) (w : World) :
    CallsIn Fence.wide n Tryd.prog 24 #[.string s] w fun e w' => e = .returned (.func (.func 36) #[] #[.pointer (some ⟨w.heap.size, 0, none⟩)]) ∧ w' = w.alloc (.cells #[.string s] 9) := by
  refine callsIn_of_wp Tryd.func24 rfl trivial ?_ rfl
  simp only [Tryd.ntmps24, List.size_toArray, List.length_cons, List.length_nil, Nat.reduceAdd, Nat.reduceSub, Array.replicate_succ, Array.replicate_zero, List.push_toArray, List.append_toArray, List.nil_append, List.cons_append]
  gi_wp2
  go_ret
  exact ⟨rfl, rfl⟩
theorem its_len (f : Nat) : ∀ (l : List Int) (p : Nat), (K.items f l p).length ≤ f := by
  induction f with
  | zero => intro l p; simp [K.items]
  | succ f ih =>
    intro l p
    simp only [K.items]
    split
    · simp
    · simp only [List.length_cons]; have := ih l (K.next l p).2.1; omega
theorem grown_set (W : World) (b i : Nat) (v : Value) : W.grownBy (W.setCell ⟨b, i, none⟩ v) (some b) :=
  ⟨rfl, rfl, rfl, (KeepsWalks.setCell W _ v).size, fun k _ hk => Below.heap_setCell _ _ _ k (fun e => hk (by rw [e]))⟩
theorem boxed_other {W : World} {B B' : Nat} {t : TypeId} {v : Value} (h : Boxed W B t v) (hne : B ≠ B') (i : Nat) (u : Value) : Boxed (W.setCell ⟨B', i, none⟩ u) B t v := h.kept (grown_set W B' i u) (fun e => hne (by cases e; rfl))
theorem all_end2 {w w3 : World} {v : Value} {n : Nat} {xs : List Value} {a b : Value} (hbl : Boxed w3 w.heap.size 31 v) (hown : w3.ownsRow (w.heap.size + 3) 24 5 v n xs) (hsl : SAt w3 (w.heap.size + 1) #[a, b]) (hB : Below w.heap.size w w3) (hs : w.heap.size + 3 ≤ w3.heap.size)
    (c0 c1 : Value) (W4 : World) (hW : W4 = (w3.setCell ⟨w.heap.size + 1, 0, none⟩ c0).setCell ⟨w.heap.size + 1, 1, none⟩ c1) :
    Boxed W4 w.heap.size 31 v ∧ W4.ownsRow (w.heap.size + 3) 24 5 v n xs ∧ SAt W4 (w.heap.size + 1) #[c0, c1] ∧ Below w.heap.size w W4 ∧ w.heap.size + 3 ≤ W4.heap.size := by
  subst hW
  have h := ((Below.refl w.heap.size w3).setCell (p := ⟨w.heap.size + 1, 0, none⟩) (Nat.le_succ _) c0).setCell (p := ⟨w.heap.size + 1, 1, none⟩) (Nat.le_succ _) c1
  have hne : w.heap.size ≠ w.heap.size + 1 := by omega
  exact ⟨boxed_other (boxed_other hbl hne 0 c0) hne 1 c1, ownsRow_setCell_below (ownsRow_setCell_below hown (show w.heap.size + 1 < w.heap.size + 3 by omega) _) (show w.heap.size + 1 < w.heap.size + 3 by omega) _, sat_set (sat_set hsl 0 c0) 1 c1, hB.trans h, Nat.le_trans hs h.size⟩
theorem all_end {w w3 : World} {v0 v : Value} {n : Nat} {xs : List Value} {a b : Value} (hbl : Boxed w3 w.heap.size 31 v0) (hown : w3.ownsRow (w.heap.size + 3) 24 5 v n xs) (hsl : SAt w3 (w.heap.size + 1) #[a, b]) (hB : Below w.heap.size w w3) (hs : w.heap.size + 3 ≤ w3.heap.size)
    (c0 c1 : Value) (W4 : World) (hW : W4 = ((w3.setCell ⟨w.heap.size, 0, none⟩ v).setCell ⟨w.heap.size + 1, 0, none⟩ c0).setCell ⟨w.heap.size + 1, 1, none⟩ c1) :
    Boxed W4 w.heap.size 31 v ∧ W4.ownsRow (w.heap.size + 3) 24 5 v n xs ∧ SAt W4 (w.heap.size + 1) #[c0, c1] ∧ Below w.heap.size w W4 ∧ w.heap.size + 3 ≤ W4.heap.size := by
  have h := (Below.refl w.heap.size w3).setCell (p := ⟨w.heap.size, 0, none⟩) (Nat.le_refl _) v
  exact all_end2 (hbl.set v) (ownsRow_setCell_below hown (show w.heap.size < w.heap.size + 3 by omega) _) (sat_kept (grown_set w3 w.heap.size 0 v) (fun e => by simp at e) hsl) (hB.trans h) (Nat.le_trans hs h.size) c0 c1 W4 hW
set_option maxRecDepth 100000 in
set_option maxHeartbeats 8000000 in
theorem all_any (s : ByteArray) (w : World) (hsm : s.size ≤ 100000) (hE : Err w) :
    Calls Tryd.prog 11 #[.string s] w (AllR s w) := by
  obtain ⟨jf, hjf, hf0, hf1, hf2⟩ := info_parts info_tok
  have hE1 : 1 < w.heap.size := by obtain ⟨ev, h, _⟩ := hE; exact cell_lt h
  have H5 := token_info
  refine (callsIn_wide (n := 100)).1 ?_
  refine callsIn_of_wp_marks Tryd.func11 rfl trivial ?_ rfl
  simp only [Tryd.ntmps11, List.size_toArray, List.length_cons, List.length_nil, Nat.reduceAdd, Nat.reduceSub, Array.replicate_succ, Array.replicate_zero, List.push_toArray, List.append_toArray, List.nil_append, List.cons_append]
  gi_wp2_with (refine ⟨trivial, ?_⟩; gi_at_call 24; refine (tokens_in _ _ _).mono ?_; rintro e w' ⟨rfl, rfl⟩)
  have b1 := Boxed.new w 31 (.slice none 0 0)
  have b2 := sat_alloc (w.alloc (.cells #[.slice none 0 0] 31)) #[.int .i64 0, .int .i64 0]
  have bN := Boxed.new ((w.alloc (.cells #[.slice none 0 0] 31)).alloc (.cells #[.int .i64 0, .int .i64 0] 52)) 9 (.string s)
  simp only [World.size_alloc] at b2 bN
  have hB0 : Below w.heap.size w (((w.alloc (.cells #[.slice none 0 0] 31)).alloc (.cells #[.int .i64 0, .int .i64 0] 52)).alloc (.cells #[.string s] 9)) := (((Below.refl _ w).alloc (Nat.le_refl _) _).alloc (by simp) _).alloc (by simp; omega) _
  have hb2' : SAt (((w.alloc (.cells #[.slice none 0 0] 31)).alloc (.cells #[.int .i64 0, .int .i64 0] 52)).alloc (.cells #[.string s] 9)) (w.heap.size + 1) #[.int .i64 0, .int .i64 0] := sat_below ((Below.refl _ _).alloc (Nat.le_refl _) _) b2
  have hEN := err_below hE hB0
  refine wpIn_rangeFunc_made rfl (by decide) (gf := 36) (lb := #[.pointer (some ⟨w.heap.size + 1 + 1, 0, none⟩)]) ?hg trivial (enters_of Tryd.func36 (by kernel_rfl) rfl)
    (encs := itemV) (Kp := KT (w.heap.size + 1 + 1)) (Tn := fun A C => Below A.heap.size A C) (S := fun ys _ => ys = K.its (strB s)) (Sp := fun _ _ => True) (N := s.size + 1)
    (fun l J Jx W hW hJ hJx hY h0 => (tokens1_in _ (by decide) l _ s hsm J Jx hJ hY W ((hW.block _ bN.lt).trans bN) (err_below hEN hW) h0).mono (fun e W' ⟨hv, hh⟩ => ⟨hv, hh.imp (fun h => h) (fun ⟨pre, h⟩ => ⟨pre, trivial, h⟩)⟩))
    (fun A C k o _ hT hk ho => (hT.block k (Array.getElem?_eq_some_iff.1 hk).1).trans hk)
    (fun W0 W1 A C D h k => kt_trans _ W0 W1 A C D h k) (fun W0 W1 A C h => kt_turned h) (fun _ => rfl)
    (AllI w) (fun _ _ _ => False) (allI_own w _ hB0.size) (fun _ _ _ _ _ h _ _ => h) (fun pre A C h hb => allI_turn w pre A C h hb) (fun _ _ _ _ h _ => h) (fun _ _ _ _ hs _ _ => hs) (fun _ _ _ _ hs _ _ => hs)
    ⟨⟨⟨_, (b1.alloc _).alloc _, World.ownsRow_nil _ _ _ _, trivial⟩, hb2'⟩, hB0, by simp⟩ ?round ?done ?stop
  case hg => rfl
  case stop => exact fun _ _ _ _ _ _ h _ => h.elim
  case done =>
    rintro D ys W hD rfl ⟨⟨⟨v, hv, hrow, _⟩, hu⟩, hB, hsz⟩ hK
    have hc := hv.cell
    have s0 := sat_cell hu 0 _ rfl
    have s1 := sat_cell hu 1 _ rfl
    gi_wp2
    gi_region
    all_goals gi_wp2
    all_goals
      have hK' : W.drew.heap[D]? = some (Obj.deferred (some [])) := hK
      refine ⟨by simp, .inl ⟨_, _, rfl, run_takeDeferred hK', ?_⟩⟩
      exact ⟨_, results_tmp3 (t := 2) (u := 3) (v := 4) rfl _ _ _, v, rfl, ownsRow_mono (ownsRow_putObj (W := W.drew) hrow.drew _ hK' rfl) (by omega),
        hB.drew.trans (belowK_b (w := w) (Nat.le_refl _) W.drew D _ _ (by simp at hD; omega) hK' rfl rfl)⟩
  case round =>
    rintro l pre ⟨⟨tk, ta, te, ts, tn⟩, x, er⟩ W0 W hI0 hTn hI hlt
    refine wpIn_act (a' := ?a2) ?e ?k
    case e => (simp [itemV, tokV, tokC]; rfl)
    case k =>
      gi_wp2
      obtain ⟨⟨⟨v, hbl, hrl, _⟩, hsl⟩, hBl, hsz⟩ := hI0
      obtain ⟨av, nv, cv, rfl⟩ : ∃ a n c, v = Value.slice a n c := by
        rcases hrl.2 with ⟨h, _⟩ | ⟨g, cap, cur, h, _⟩
        · exact ⟨_, _, _, h⟩
        · exact ⟨_, _, _, h⟩
      have hg0 : ∀ g, (Value.slice av nv cv).ownBlock = some g → w.heap.size + 3 ≤ g ∧ g < W0.heap.size := fun g h => hrl.lt g h
      have hWs := hTn.size
      have hb0A : Below W0.heap.size W0 ((W.alloc (.cells #[.int .i64 tk, .int .i64 ta, .int .i64 te, .string (strOfNums ts), .int .i64 tn] 24)).alloc (.cells #[.int .i64 (x : Int), .int .i64 er] 52)) := (hTn.alloc hTn.size _).alloc (by simp; omega) _
      refine ⟨((KeepsOthers.alloc W _).trans (KeepsOthers.alloc _ _)).from _, kt_trans _ _ _ _ _ _ (kt_grown (World.grownBy_alloc W _ none) (by simp) (by simp) (fun g e => by cases e)) (kt_grown (World.grownBy_alloc _ _ none) (by simp) (by simp) (fun g e => by cases e)), fun W2 htn => ?_⟩
      have hs2 : W2.heap.size = W.heap.size + 2 := by
        obtain ⟨lp, o, o', _, _, _, _, rfl⟩ := htn
        simp
      have hbl2 : Boxed W2 w.heap.size 31 (.slice av nv cv) := turned_block htn ((hb0A.block _ hbl.lt).trans hbl)
      have hsl2 : SAt W2 (w.heap.size + 1) _ := turned_block htn (sat_below hb0A hsl)
      have hrow2 : W2.ownsRow (w.heap.size + 3) 24 5 (.slice av nv cv) (K.toks pre).length (tcells (K.toks pre)) := by
        have h := ownsRow_below hrl hb0A
        obtain ⟨lp, o, o', _, hlo, hoc, _, rfl⟩ := htn
        exact ownsRow_putObj h _ hlo hoc
      have hgt2 : GAt W2 W.heap.size #[.int .i64 tk, .int .i64 ta, .int .i64 te, .string (strOfNums ts), .int .i64 tn] := turned_block htn (gat_old (gat_alloc W _) _)
      have hst2 : SAt W2 (W.heap.size + 1) #[.int .i64 (x : Int), .int .i64 er] := turned_block htn (by have h := sat_alloc (W.alloc (.cells #[.int .i64 tk, .int .i64 ta, .int .i64 te, .string (strOfNums ts), .int .i64 tn] 24)) #[.int .i64 (x : Int), .int .i64 er]; rwa [World.size_alloc] at h)
      have hB2 : Below w.heap.size w W2 := by
        have h1 := hBl.trans (hb0A.mono (by omega))
        obtain ⟨lp, o, o', hlB, hlo, hoc, hw, rfl⟩ := htn
        exact h1.trans (belowK_b (n₀ := w.heap.size) (w := w) (Nat.le_refl _) _ lp o o' (by simp at hlB; omega) hlo hoc hw)
      have hs2' : W.heap.size + 1 < W2.heap.size := by omega
      clear hb0A htn hI hbl hsl hrl hTn hBl hs2
      have hc2 := hbl2.cell
      have hf2' := hbl2.frozen
      obtain ⟨⟨p0, p1, p2, p3, p4⟩, _⟩ := box5 hgt2
      have s0 := sat_cell hst2 0 _ rfl
      have s1 := sat_cell hst2 1 _ rfl
      have r0 := sat_cell hsl2 0 _ rfl
      have r1 := sat_cell hsl2 1 _ rfl
      have q0 := sat_frozen hsl2 0
      have q1 := sat_frozen hsl2 1
      have hK1 : ∀ (A C : World) (row : Option Nat), A.grownBy C row → (∀ g, row = some g → g = w.heap.size ∨ g = w.heap.size + 1 ∨ (Value.slice av nv cv).ownBlock = some g) → KT (w.heap.size + 1 + 1) W0 W A C := fun A C row hg hr => by
        refine kt_grown hg (fun e => ?_) (fun e => ?_) (fun g e => ?_)
        · rcases hr _ e.symm with h | h | h
          · omega
          · omega
          · have := hg0 _ h; omega
        · rcases hr _ e.symm with h | h | h
          · omega
          · omega
          · have := hg0 _ h; omega
        · rcases hr _ e with h | h | h
          · omega
          · omega
          · have := hg0 _ h; omega
      have kset : ∀ (A : World) (b i : Nat) (u : Value), (b = w.heap.size ∨ b = w.heap.size + 1) → KT (w.heap.size + 1 + 1) W0 W A (A.setCell ⟨b, i, none⟩ u) := fun A b i u h =>
        hK1 _ _ (some b) (grown_set A b i u) (fun g e => by cases e; rcases h with h | h; exact .inl h; exact .inr (.inl h))
      by_cases her : er = 0
      · have e1 : (er == 0) = true := by simpa using her
        have HE := Lib.hid her; clear her
        have hrow3 := hrow2.alloc (.cells #[.int .i64 tk, .int .i64 ta, .int .i64 te, .string (strOfNums ts), .int .i64 tn] 24)
        have hlen := K.toks_le pre
        gi_wp2_with (gi_at_builtin; refine wpListIn_append_at _ rfl _ _ 31 rfl (w.heap.size + 3) 24 jf _ 5 48 Tryd.underlying31 hjf hf0 hf1 hf2 rfl (by decide) (.slice av nv cv) _ _ rfl hrow3 (some ⟨W2.heap.size, 0, none⟩) 1 1 [.int .i64 tk, .int .i64 ta, .int .i64 te, .string (strOfNums ts), .int .i64 tn] rfl ⟨rfl, .inr ⟨_, rfl, cells_new _ [_, _, _, _, _] _⟩⟩ (by simp [Value.oneCell']) (by unfold maxLen; omega) (by omega) (by simp; omega) ?_; intro v' w3 hown' hgrow' _; obtain ⟨g', cap', rfl⟩ := ownsRow_succ hown'; have hbl3 := boxed_past (hbl2.alloc _) hgrow' hrow3 (by omega); have hsl3 := sat_kept hgrow' (fun e => by have := hg0 _ e.symm; omega) (sat_below ((Below.refl _ W2).alloc (Nat.le_refl _) _) hsl2); have hst3 := sat_kept hgrow' (fun e => by have := hg0 _ e.symm; omega) (sat_below ((Below.refl _ W2).alloc (Nat.le_refl _) _) hst2); have hc3 := hbl3.cell; have hf3 := hbl3.frozen; have t0 := sat_cell hst3 0 _ rfl; have t1 := sat_cell hst3 1 _ rfl; have a0 := sat_cell hsl3 0 _ rfl; have a1 := sat_cell hsl3 1 _ rfl; have u0 := sat_frozen hsl3 0; have u1 := sat_frozen hsl3 1)
        have hg : (W2.alloc (.cells #[.int .i64 tk, .int .i64 ta, .int .i64 te, .string (strOfNums ts), .int .i64 tn] 24)).grownBy w3 (Value.slice av nv cv).ownBlock := hgrow'
        have hB3 : Below w.heap.size w w3 := (hB2.alloc hB2.size _).trans ((below_grown hg hrow3 (by simp; omega)).mono (by omega))
        refine ⟨(((((KeepsOthers.alloc W2 _).trans (keepsOthers_grown hg hrow3)).trans (KeepsOthers.setCell _ _ _)).trans (KeepsOthers.setCell _ _ _)).trans (KeepsOthers.setCell _ _ _)).from _,
          kt_trans _ _ _ _ _ _ (hK1 _ _ none (World.grownBy_alloc W2 _ none) (fun g e => by cases e)) (kt_trans _ _ _ _ _ _ (hK1 _ _ _ hg (fun g e => .inr (.inr e))) (kt_trans _ _ _ _ _ _ (kset _ _ _ _ (.inl rfl)) (kt_trans _ _ _ _ _ _ (kset _ _ _ _ (.inr rfl)) (kset _ _ _ _ (.inr rfl))))), ?_⟩
        have hts : K.toks (pre ++ [((⟨tk, ta, te, ts, tn⟩ : K.Tok), x, er)]) = K.toks pre ++ [⟨tk, ta, te, ts, tn⟩] := by rw [K.toks_snoc, if_pos HE.out]
        have hs3 := hg.size
        rw [World.size_alloc] at hs3
        obtain ⟨z1, z2, z3, z4, z5⟩ := all_end hbl3 hown' hsl3 hB3 (by omega) (.int .i64 (x : Int)) (.int .i64 er) _ rfl
        exact ⟨⟨⟨_, z1, ownsRow_nth z2 (by rw [hts]; simp) (by rw [hts, tcells_snoc]), trivial⟩, by rw [K.lastAt_snoc, K.lastErr_snoc]; exact z3⟩, z4, z5⟩
      · have e1 : (er == 0) = false := by simpa using her
        have HE := Lib.hid her; clear her
        gi_wp2
        have hts : K.toks (pre ++ [((⟨tk, ta, te, ts, tn⟩ : K.Tok), x, er)]) = K.toks pre := by rw [K.toks_snoc, if_neg HE.out, List.append_nil]
        refine ⟨((KeepsOthers.setCell _ _ _).trans (KeepsOthers.setCell _ _ _)).from _, kt_trans _ _ _ _ _ _ (kset _ _ _ _ (.inr rfl)) (kset _ _ _ _ (.inr rfl)), ?_⟩
        obtain ⟨z1, z2, z3, z4, z5⟩ := all_end2 hbl2 hrow2 hsl2 hB2 (by omega) (.int .i64 (x : Int)) (.int .i64 er) _ rfl
        exact ⟨⟨⟨_, z1, ownsRow_nth z2 (by rw [hts]) (by rw [hts]), trivial⟩, by rw [K.lastAt_snoc, K.lastErr_snoc]; exact z3⟩, z4, z5⟩
end Go.Proofs.YtiflnciapboccaaDoor
