/- Layer 7: tokens in memory; word. -/
import Derived.Test.YtpiajoffddjjfaaGreatDoorMg27Jso
import Derived.Test.YtpiajoffddjjfaaGreatDoorTokNum2q
import Derived.Laws.ResultCell
import Derived.Laws.Rows
import Derived.Test.YtpiajoffddjjfaaGreatDoorMg20Jso
namespace Go.Proofs.YtpiajoffddjjfaaGreatDoor
open Go.RowKit Go.Shelf
/-- a block of a token's cells, all of them -/
def GAt (W : World) (b : Nat) (cs : Array Value) : Prop := W.heap[b]? = some (.cells cs 60 (0, 0))
theorem gat_lt {W : World} {b : Nat} {cs : Array Value} (h : GAt W b cs) : b < W.heap.size := (Array.getElem?_eq_some_iff.1 h).1
theorem gat_cell {W : World} {b : Nat} {cs : Array Value} (h : GAt W b cs) (i : Nat) (c : Value) (hc : cs[i]? = some c) : W.cell? ⟨b, i, none⟩ = some c := by
  simp [World.cell?, show W.heap[b]? = _ from h, hc]
theorem gat_frozen {W : World} {b : Nat} {cs : Array Value} (h : GAt W b cs) (i : Nat) : W.frozen? ⟨b, i, none⟩ = false := by simp [World.frozen?, show W.heap[b]? = _ from h]
theorem gat_below {W W' : World} {b : Nat} {cs : Array Value} (hb : Below W.heap.size W W') (h : GAt W b cs) : GAt W' b cs := (hb.block b (gat_lt h)).trans h
theorem gat_alloc (W : World) (cs : Array Value) : GAt (W.alloc (.cells cs 60)) W.heap.size cs := World.alloc_heap_new W _
theorem gat_alloc_drew (W : World) (cs : Array Value) : GAt ((W.alloc (.cells cs 60)).drew) W.heap.size cs := World.alloc_heap_new W _
theorem gat_old {W : World} {b : Nat} {cs : Array Value} (h : GAt W b cs) (o : Obj) : GAt (W.alloc o) b cs := gat_below ((Below.refl _ W).alloc (Nat.le_refl _) _) h
theorem gat_set {W : World} {b : Nat} {cs : Array Value} (h : GAt W b cs) (i : Nat) (c : Value) : GAt (W.setCell ⟨b, i, none⟩ c) b (cs.setIfInBounds i c) := by
  obtain ⟨hlt, hk⟩ := Array.getElem?_eq_some_iff.1 h
  show (W.heap.modify b _)[b]? = _
  rw [Array.getElem?_eq_getElem (by rw [Array.size_modify]; exact hlt), Array.getElem_modify_self, hk]
  rfl
theorem gat_other {W : World} {b b' : Nat} {cs : Array Value} (h : GAt W b cs) (hne : b ≠ b') (i : Nat) (c : Value) : GAt (W.setCell ⟨b', i, none⟩ c) b cs := (Below.heap_setCell W ⟨b', i, none⟩ c b hne).trans h
theorem box5 {W : World} {b : Nat} {c0 c1 c2 c3 c4 : Value} (h : GAt W b #[c0, c1, c2, c3, c4]) : (W.cell? ⟨b, 0, none⟩ = some c0 ∧ W.cell? ⟨b, 1, none⟩ = some c1 ∧ W.cell? ⟨b, 2, none⟩ = some c2 ∧ W.cell? ⟨b, 3, none⟩ = some c3 ∧ W.cell? ⟨b, 4, none⟩ = some c4) ∧
    (W.frozen? ⟨b, 0, none⟩ = false ∧ W.frozen? ⟨b, 1, none⟩ = false ∧ W.frozen? ⟨b, 2, none⟩ = false ∧ W.frozen? ⟨b, 3, none⟩ = false ∧ W.frozen? ⟨b, 4, none⟩ = false) :=
  ⟨⟨gat_cell h 0 _ rfl, gat_cell h 1 _ rfl, gat_cell h 2 _ rfl, gat_cell h 3 _ rfl, gat_cell h 4 _ rfl⟩, gat_frozen h 0, gat_frozen h 1, gat_frozen h 2, gat_frozen h 3, gat_frozen h 4⟩
theorem gat_set5 {W : World} {b : Nat} {c0 c1 c2 c3 c4 : Value} (h : GAt W b #[c0, c1, c2, c3, c4]) (d0 d1 d2 d3 d4 : Value) :
    GAt (((((W.setCell ⟨b, 0, none⟩ d0).setCell ⟨b, 1, none⟩ d1).setCell ⟨b, 2, none⟩ d2).setCell ⟨b, 3, none⟩ d3).setCell ⟨b, 4, none⟩ d4) b #[d0, d1, d2, d3, d4] :=
  gat_set (gat_set (gat_set (gat_set (gat_set h 0 d0) 1 d1) 2 d2) 3 d3) 4 d4
theorem below_set5 {B : Nat} {w W : World} (h : Below B w W) {b : Nat} (hb : B ≤ b) (i0 i1 i2 i3 i4 : Nat) (d0 d1 d2 d3 d4 : Value) :
    Below B w (((((W.setCell ⟨b, i0, none⟩ d0).setCell ⟨b, i1, none⟩ d1).setCell ⟨b, i2, none⟩ d2).setCell ⟨b, i3, none⟩ d3).setCell ⟨b, i4, none⟩ d4) :=
  ((((h.setCell (p := ⟨b, i0, none⟩) hb d0).setCell (p := ⟨b, i1, none⟩) hb d1).setCell (p := ⟨b, i2, none⟩) hb d2).setCell (p := ⟨b, i3, none⟩) hb d3).setCell (p := ⟨b, i4, none⟩) hb d4
theorem results_row_tmp {P : Program} {fn : Func} {p u : Tmp} {ty : TypeId} (h : fn.results = #[.cell p ty, .tmp u]) (tmps : Array Value) (w : World) (g : Nat) (t : TypeId) (cs : Array Value) (fr : Nat × Nat) (d : TypeDesc)
    (hp : tmps.getD p undef = .pointer (some ⟨g, 0, none⟩)) (hg : w.heap[g]? = some (.cells cs t fr))
    (hu : P.underlying ty = some d) (hd : (match d with | .struct _ | .array _ _ => true | _ => false) = true) (hi : (P.info? ty).map (·.size) = some cs.size) :
    (results fn tmps).run P w = .ok (.tuple #[.agg cs, tmps.getD u undef]) w := by
  rw [results_cell_tmp h, hp]
  simp [asAddr, run_loadVar_row w g t ty cs fr d hg hu hd hi, Result.andThen]
theorem results_row_tmp2 {P : Program} {fn : Func} {p u v : Tmp} {ty : TypeId} (h : fn.results = #[.cell p ty, .tmp u, .tmp v]) (tmps : Array Value) (w : World) (g : Nat) (t : TypeId) (cs : Array Value) (fr : Nat × Nat) (d : TypeDesc)
    (hp : tmps.getD p undef = .pointer (some ⟨g, 0, none⟩)) (hg : w.heap[g]? = some (.cells cs t fr))
    (hu : P.underlying ty = some d) (hd : (match d with | .struct _ | .array _ _ => true | _ => false) = true) (hi : (P.info? ty).map (·.size) = some cs.size) :
    (results fn tmps).run P w = .ok (.tuple #[.agg cs, tmps.getD u undef, tmps.getD v undef]) w := by
  have hp' : tmps[p]?.getD undef = .pointer (some ⟨g, 0, none⟩) := by simpa using hp
  simp [results, h, hp', asAddr, run_loadVar_row w g t ty cs fr d hg hu hd hi, Result.andThen]
def tokC (t : K.Tok) : Array Value := #[.int .i64 t.kind, .int .i64 t.a, .int .i64 t.e, .string (strOfNums t.s), .int .i64 t.n]
def tokV (t : K.Tok) : Value := .agg (tokC t)
abbrev tzero : Array Value := #[.int .i64 0, .int .i64 0, .int .i64 0, .string ⟨#[]⟩, .int .i64 0]
theorem ret_sii {k l : IntKind} {a b : ByteArray} {c d e f : Int} (h : a = b) (h' : c = d) (h'' : e = f) : Ending.returned (.tuple #[.string a, .int k c, .int l e]) = .returned (.tuple #[.string b, .int k d, .int l f]) := by rw [h, h', h'']
def K.wordAt (l : List Int) (p : Nat) : List Int × Nat × Int := if K.isWord (K.row l p (K.runTo K.lt l p)) = true then (K.row l p (K.runTo K.lt l p), K.runTo K.lt l p, 0) else ([], p, 2)
theorem clone_any (s : ByteArray) (w : World) (hsm : s.size ≤ 100000) :
    Calls Tryz.prog 58 #[.string s] w fun e w' => e = .returned (.string s) ∧ Below w.heap.size w w' := by
  have c := fun w => Tryz.stringslite_Clone s w (by omega)
  go_enter Tryz.func58, Tryz.ntmps58
  go_wp2_with (go_at_call 67; (with_reducible refine (c _).mono ?_); rintro e w1 ⟨rfl, hB1⟩)
  go_ret
  exact ⟨rfl, hB1⟩
set_option maxHeartbeats 2000000 in
theorem tokWord_any (s : ByteArray) (p : Nat) (w : World) (hsm : s.size ≤ 100000) (hp : p ≤ s.size) :
    Calls Tryz.prog 52 #[.string s, .int .i64 p] w fun e w' => e = .returned (.tuple #[.string (strOfNums (K.wordAt (strB s) p).1), .int .i64 ((K.wordAt (strB s) p).2.1 : Nat), .int .i64 (K.wordAt (strB s) p).2.2]) ∧ Below w.heap.size w w' := by
  have hm : s.size ≤ maxLen := by unfold maxLen; omega
  have c1 := fun w => tokRun_any s ⟨#[65, 66, 67, 68, 69, 70, 71, 72, 73, 74, 75, 76, 77, 78, 79, 80, 81, 82, 83, 84, 85, 86, 87, 88, 89, 90, 97, 98, 99, 100, 101, 102, 103, 104, 105, 106, 107, 108, 109, 110, 111, 112, 113, 114, 115, 116, 117, 118, 119, 120, 121, 122]⟩ K.lt (by decide) p w hm hp
  have l1 := K.runTo_le K.lt (strB s) p (by rw [strB_len]; exact hp)
  rw [strB_len] at l1
  obtain ⟨g, hg⟩ : ∃ g, K.wordAt (strB s) p = g := ⟨_, rfl⟩
  rw [hg]
  unfold K.wordAt at hg
  obtain ⟨q, hq⟩ : ∃ q, K.runTo K.lt (strB s) p = q := ⟨_, rfl⟩
  simp only [hq] at c1 l1 hg
  clear hq
  have hrow : strB (s.extract p q) = K.row (strB s) p q := strB_sub s p q
  rw [← hrow] at hg
  clear hrow
  have hts : (s.extract p q).size ≤ 100000 := by rw [ByteArray.size_extract]; omega
  have c2 := fun w => clone_any (s.extract p q) w hts
  have z1 : (s.extract p q).toList = [116, 114, 117, 101] ↔ strB (s.extract p q) = [116, 114, 117, 101] := toList_lit _ [116, 114, 117, 101] _ rfl (by decide)
  have z2 : (s.extract p q).toList = [102, 97, 108, 115, 101] ↔ strB (s.extract p q) = [102, 97, 108, 115, 101] := toList_lit _ [102, 97, 108, 115, 101] _ rfl (by decide)
  have z3 : (s.extract p q).toList = [110, 117, 108, 108] ↔ strB (s.extract p q) = [110, 117, 108, 108] := toList_lit _ [110, 117, 108, 108] _ rfl (by decide)
  unfold K.isWord at hg
  simp only [decide_eq_true_eq] at hg
  have h1 : ((s.extract p q).toList = [116, 114, 117, 101] ∨ (s.extract p q).toList = [102, 97, 108, 115, 101] ∨ (s.extract p q).toList = [110, 117, 108, 108]) → g = (strB (s.extract p q), q, 0) := fun h => by
    rw [← hg, if_pos]; rwa [z1, z2, z3] at h
  have h2 : ¬ ((s.extract p q).toList = [116, 114, 117, 101] ∨ (s.extract p q).toList = [102, 97, 108, 115, 101] ∨ (s.extract p q).toList = [110, 117, 108, 108]) → g = ([], p, 2) := fun h => by
    rw [← hg, if_neg]; rwa [z1, z2, z3] at h
  have hstr := strOfNums_strB (s.extract p q)
  clear z1 z2 z3 hg
  have H1 := Lib.hid h1; clear h1
  have H2 := Lib.hid h2; clear h2
  have HS := Lib.hid hstr; clear hstr
  go_enter Tryz.func52, Tryz.ntmps52
  go_wp2_with (first | (go_at_call 47; (with_reducible refine (c1 _).mono ?_); rintro e w' ⟨rfl, rfl⟩) | (go_at_call 58; (with_reducible refine (c2 _).mono ?_); rintro e w1 ⟨rfl, hB1⟩))
  all_goals
    go_ret3
    first
      | (have hg := H1.out (by simp_all; done)
         subst hg
         exact ⟨ret_sii HS.out.symm rfl rfl, hB1⟩)
      | (have hg := H2.out (by simp_all; done)
         subst hg
         exact ⟨rfl, Below.refl _ _⟩)
end Go.Proofs.YtpiajoffddjjfaaGreatDoor

/- Reading JSON: word; a thing's leaves. -/
set_option linter.unusedVariables false
namespace Go.Proofs.YtpiajoffddjjfaaGreatDoor
open Go.RowKit Go.Shelf
theorem isJ_leaf (w : World) (k n : Int) (s : ByteArray) (hk : J64 k) (hn : J64 n) (hs : s.size ≤ maxLen) : IsJ w (.mk k n s [] []) (.agg #[.int .i64 k, .int .i64 n, .string s, .slice none 0 0, .slice none 0 0]) := by
  unfold IsJ
  exact ⟨hk, hn, hs, none, 0, none, 0, rfl, ⟨Nat.le_refl _, Nat.zero_le _, by simp, .inl rfl⟩, Nat.le_refl _, Nat.zero_le _, .inl rfl⟩
/-- a thing without names and things, as its value -/
def leafV (v : JV) : Value := match v with | .mk k n s _ _ => .agg #[.int .i64 k, .int .i64 n, .string s, .slice none 0 0, .slice none 0 0]
set_option maxRecDepth 100000 in
set_option maxHeartbeats 2000000 in
theorem word_any (t : List Int) (hb : ∀ x ∈ t, 0 ≤ x ∧ x ≤ 255) (w : World) : Calls Tryz.prog 36 #[.string (strOfNums t)] w fun e w' => e = .returned (leafV (Js.wordJ t)) ∧ Below w.heap.size w w' := by
  have hB : ∀ c, Below w.heap.size w (w.alloc (.cells c 25)) := fun c => (Below.refl _ w).alloc (Nat.le_refl _) _
  have z1 : (strOfNums t).toList = [116, 114, 117, 101] ↔ t = [116, 114, 117, 101] := by rw [toList_lit _ [116, 114, 117, 101] [116, 114, 117, 101] rfl (by decide), strB_strOfNums t hb]
  have z2 : (strOfNums t).toList = [102, 97, 108, 115, 101] ↔ t = [102, 97, 108, 115, 101] := by rw [toList_lit _ [102, 97, 108, 115, 101] [102, 97, 108, 115, 101] rfl (by decide), strB_strOfNums t hb]
  unfold Js.wordJ
  obtain ⟨S, hS⟩ : ∃ S, strOfNums t = S := ⟨_, rfl⟩
  rw [hS] at z1 z2 ⊢
  by_cases h1 : t = [116, 114, 117, 101]
  · rw [if_pos h1]
    have hx := z1.2 h1
    clear z1 z2 h1 hS
    go_enter Tryz.func36, Tryz.ntmps36
    go_wp2
    exact bodyPost_ret (results_cell_row Tryz.results36 _ _ w.heap.size _ _ _ _ rfl (jat_alloc w _) Tryz.underlying25 rfl json_info) rfl ⟨rfl, hB _⟩
  · rw [if_neg h1]
    have hx : (S.toList == [116, 114, 117, 101]) = false := beq_eq_false_iff_ne.2 fun h => h1 (z1.1 h)
    by_cases h2 : t = [102, 97, 108, 115, 101]
    · rw [if_pos h2]
      have hy := z2.2 h2
      clear z1 z2 h1 h2 hS
      go_enter Tryz.func36, Tryz.ntmps36
      go_wp2
      exact bodyPost_ret (results_cell_row Tryz.results36 _ _ w.heap.size _ _ _ _ rfl (jat_alloc w _) Tryz.underlying25 rfl json_info) rfl ⟨rfl, hB _⟩
    · rw [if_neg h2]
      have hy : (S.toList == [102, 97, 108, 115, 101]) = false := beq_eq_false_iff_ne.2 fun h => h2 (z2.1 h)
      clear z1 z2 h1 h2 hS
      go_enter Tryz.func36, Tryz.ntmps36
      go_wp2
      exact bodyPost_ret (results_cell_row Tryz.results36 _ _ w.heap.size _ _ _ _ rfl (jat_alloc w _) Tryz.underlying25 rfl json_info) rfl ⟨rfl, hB _⟩
end Go.Proofs.YtpiajoffddjjfaaGreatDoor
