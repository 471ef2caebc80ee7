/- Layer 14: what is read has the text that it was read of (no walk). -/
import Derived.Test.YtcicjpdjbfgbhaaDoorMh21Cell
import Derived.Shelf.Small.Strs
import Derived.Shelf.Strings.Search1
import Derived.Test.YtcicjpdjbfgbhaaDoorProg
import Derived.Test.YtcicjpdjbfgbhaaDoorMh20Cell
import Derived.Test.YtcicjpdjbfgbhaaDoorMh13Cell
set_option linter.unusedVariables false
set_option linter.unusedSimpArgs false
namespace Go.Proofs.YtcicjpdjbfgbhaaDoor.Vt
open Go.RowKit Go.Shelf
theorem part_eq (l : List Int) (p q : Nat) : part l p q = (l.drop p).take (q - p) := by unfold part; rw [List.drop_take]
theorem part_cat {l : List Int} {p q r : Nat} (h1 : p ≤ q) (h2 : q ≤ r) : part l p q ++ part l q r = part l p r := by
  rw [part_eq, part_eq, part_eq]
  obtain ⟨a, rfl⟩ : ∃ a, q = p + a := ⟨q - p, by omega⟩
  obtain ⟨b, rfl⟩ : ∃ b, r = p + a + b := ⟨r - (p + a), by omega⟩
  rw [show p + a - p = a by omega, show p + a + b - (p + a) = b by omega, show p + a + b - p = a + b by omega, ← List.drop_drop, List.take_add]
theorem part_one {l : List Int} {p : Nat} (h : p < l.length) : part l p (p + 1) = [l[p]?.getD 0] := by
  rw [part_eq, show p + 1 - p = 1 by omega, List.drop_eq_getElem_cons h, List.getElem?_eq_getElem h]
  rfl
theorem part_mem {l : List Int} {p q : Nat} : ∀ x ∈ part l p q, x ∈ l := fun x hx => by
  unfold part at hx
  exact List.mem_of_mem_take (List.mem_of_mem_drop hx)
theorem getD_mem {l : List Int} {p : Nat} (h : p < l.length) : l[p]?.getD 0 ∈ l := by
  rw [List.getElem?_eq_getElem h]
  exact List.getElem_mem h
theorem txt_back {l : List Int} : ∀ (f p : Nat) (acc t : List Int) (q : Nat), p ≤ l.length → txt f l p acc = .inr (t, q) → ∃ u, t = acc ++ u ∧ part l p q = quoteB u ++ [34] ∧ ∀ x ∈ u, x ∈ l := by
  intro f
  induction f with
  | zero => intro p acc t q _ h; simp [txt] at h
  | succ f ih =>
    intro p acc t q hp h
    have hpl := txt_place h
    simp only [txt] at h
    split at h
    · cases h
    · rename_i hlt
      split at h
      · rename_i h34
        simp only [Sum.inr.injEq, Prod.mk.injEq] at h
        obtain ⟨rfl, rfl⟩ := h
        exact ⟨[], by simp, by rw [part_one (by omega), h34]; rfl, by simp⟩
      · rename_i h34
        split at h
        · rename_i h92
          split at h
          · rename_i hy
            obtain ⟨u, hu, hpt, hm⟩ := ih _ _ _ _ (by omega) h
            have h2 := txt_place h
            refine ⟨l[p + 1]?.getD 0 :: u, by rw [hu]; simp, ?_, ?_⟩
            · rw [← part_cat (show p ≤ p + 1 by omega) (show p + 1 ≤ q by omega), ← part_cat (show p + 1 ≤ p + 1 + 1 by omega) (show p + 1 + 1 ≤ q by omega), part_one (by omega), part_one hy.1, h92, hpt]
              simp only [quoteB]
              rw [if_pos hy.2]
              simp
            · intro x hx
              rcases List.mem_cons.1 hx with rfl | hx
              · exact getD_mem hy.1
              · exact hm x hx
          · cases h
        · rename_i h92
          obtain ⟨u, hu, hpt, hm⟩ := ih _ _ _ _ (by omega) h
          have h2 := txt_place h
          refine ⟨l[p]?.getD 0 :: u, by rw [hu]; simp, ?_, ?_⟩
          · rw [← part_cat (show p ≤ p + 1 by omega) (show p + 1 ≤ q by omega), part_one (by omega), hpt]
            simp only [quoteB]
            rw [if_neg (by omega)]
            simp
          · intro x hx
            rcases List.mem_cons.1 hx with rfl | hx
            · exact getD_mem (by omega)
            · exact hm x hx
theorem items_back {rv : Nat → Out (PV × Nat)} {l : List Int} (hrv : ∀ p v q, p ≤ l.length → rv p = .inr (v, q) → p ≤ q ∧ q ≤ l.length ∧ part l p q = textV v) : ∀ (f p : Nat) (acc vs : List PV) (q : Nat), p ≤ l.length → items rv l f p acc = .inr (vs, q) → ∃ us, us ≠ [] ∧ vs = acc ++ us ∧ p ≤ q ∧ part l p q = textL us ++ [93] := by
  intro f
  induction f with
  | zero => intro p acc vs q _ h; simp [items] at h
  | succ f ih =>
    intro p acc vs q hp h
    simp only [items] at h
    split at h
    · cases h
    · rename_i v q1 hv
      obtain ⟨h1, h2, h3⟩ := hrv _ _ _ hp hv
      split at h
      · cases h
      · split at h
        · rename_i hl h32
          obtain ⟨us, hne, hvs, hq, hpt⟩ := ih _ _ _ _ (by omega) h
          obtain ⟨y, us, rfl⟩ := List.exists_cons_of_ne_nil hne
          refine ⟨v :: y :: us, by simp, by rw [hvs]; simp, by omega, ?_⟩
          rw [← part_cat h1 (show q1 ≤ q by omega), ← part_cat (show q1 ≤ q1 + 1 by omega) hq, part_one (by omega), h32, h3, hpt]
          simp [textL, textM]
        · split at h
          · rename_i hl _ h93
            simp only [Sum.inr.injEq, Prod.mk.injEq] at h
            obtain ⟨rfl, rfl⟩ := h
            refine ⟨[v], by simp, rfl, by omega, ?_⟩
            rw [← part_cat h1 (show q1 ≤ q1 + 1 by omega), part_one (by omega), h93, h3]
            simp [textL, textM]
          · cases h
theorem flat_back {l : List Int} (hl : ∀ x ∈ l, 0 ≤ x ∧ x ≤ 255) {p : Nat} {v : PV} {q : Nat} (hp : p < l.length) (h : flat l p = .inr (v, q)) : part l p q = textV v := by
  have hfl := flat_place hp h
  unfold flat txV wdV at h
  split at h
  · rename_i h34
    split at h
    · cases h
    · rename_i t q1 ht
      simp only [Sum.inr.injEq, Prod.mk.injEq] at h
      obtain ⟨rfl, rfl⟩ := h
      obtain ⟨u, rfl, hpt, hm⟩ := txt_back _ _ _ _ _ (by omega) ht
      rw [text4, ← part_cat (show p ≤ p + 1 by omega) (show p + 1 ≤ q1 by omega), part_one hp, h34, hpt, strB_strOfNums _ (fun x hx => hl x (hm x (by simpa using hx)))]
      simp
  · split at h
    · rename_i h39
      split at h
      · simp only [Sum.inr.injEq, Prod.mk.injEq] at h
        obtain ⟨rfl, rfl⟩ := h
        rw [text3, ← part_cat (show p ≤ p + 1 by omega) (show p + 1 ≤ _ by omega), part_one hp, h39, strB_strOfNums _ (fun x hx => hl x (part_mem x hx))]
        rfl
      · cases h
    · split at h
      · split at h
        · rename_i he
          have hsp := scan_place l p hp he
          simp only [Sum.inr.injEq, Prod.mk.injEq] at h
          obtain ⟨rfl, rfl⟩ := h
          rw [text2]
          unfold M.scan at he ⊢
          have hin : (0 : Int) ≤ (p : Int) ∧ (p : Int) ≤ l.length := by omega
          rw [if_pos hin] at he ⊢
          rw [Int.toNat_natCast] at he ⊢
          split at he
          · rename_i hz
            rw [if_pos hz]
            have := M.prt_parse _ hz
            simp only [Int.toNat_natCast]
            unfold part
            exact this.symm
          · rename_i hz
            exact absurd he hz
        · cases h
      · split at h
        · split at h
          · rename_i w hw
            simp only [Sum.inr.injEq, Prod.mk.injEq] at h
            obtain ⟨rfl, rfl⟩ := h
            unfold word at hw
            split at hw
            · rename_i e; cases hw; rw [e, text0]
            · split at hw
              · rename_i e; cases hw; rw [e, text1, if_pos rfl]
              · split at hw
                · rename_i e; cases hw; rw [e, text1, if_neg (by decide)]
                · cases hw
          · cases h
        · cases h
theorem one_back {sub : Nat → Out (List PV × Nat)} {l : List Int} (hl : ∀ x ∈ l, 0 ≤ x ∧ x ≤ 255) (hs : ∀ p vs q, p < l.length → sub p = .inr (vs, q) → p + 1 ≤ q ∧ part l (p + 1) q = textL vs ++ [93]) {p : Nat} {v : PV} {q : Nat} (h : one sub l p = .inr (v, q)) : part l p q = textV v := by
  unfold one lsV at h
  split at h
  · cases h
  · split at h
    · rename_i hlt h91
      split at h
      · cases h
      · rename_i vs q1 hv
        have h1 := hs _ _ _ (by omega) hv
        simp only [Sum.inr.injEq, Prod.mk.injEq] at h
        obtain ⟨rfl, rfl⟩ := h
        rw [text5, ← part_cat (show p ≤ p + 1 by omega) h1.1, part_one (by omega), h91, h1.2]
        simp
    · exact flat_back hl (by omega) h
theorem val_back (l : List Int) (hl : ∀ x ∈ l, 0 ≤ x ∧ x ≤ 255) : ∀ d p v q, val d l p = .inr (v, q) → part l p q = textV v := by
  intro d
  induction d with
  | zero => intro p v q h; exact one_back hl (fun _ _ _ _ h => by cases h) h
  | succ d ih =>
    intro p v q h
    refine one_back hl (fun p vs q hp h => ?_) h
    unfold lst at h
    split at h
    · cases h
    · split at h
      · rename_i h93
        simp only [Sum.inr.injEq, Prod.mk.injEq] at h
        obtain ⟨rfl, rfl⟩ := h
        exact ⟨by omega, by rw [part_one (by omega), h93]; rfl⟩
      · obtain ⟨us, hne, hvs, hq, hpt⟩ := items_back (fun p v q _ h => by have := val_place l d p v q h; exact ⟨by omega, this.2, ih p v q h⟩) _ _ _ _ _ (by omega) h
        rw [hvs]
        exact ⟨by omega, by simpa using hpt⟩
end Go.Proofs.YtcicjpdjbfgbhaaDoor.Vt

/- The library contracts that the walks take, laid at this program: no walk, one application each. -/
namespace Go.Proofs
open Go.Shelf
def Tryd.lays137_ren : Go.Shelf.Ren := ⟨fun | 137 => 90 | 217 => 92 | 266 => 96 | n => n, fun | 9 => 9 | 5 => 5 | 3 => 3 | n => n, fun | n => n⟩
theorem Tryd.lays137 : Go.Proofs.Lays.n137 Tryd.prog Tryd.lays137_ren := {
  mixed := by kernel_rfl
  f137 := Tryd.func90.trans (congrArg some (by kernel_rfl))
  f217 := Tryd.func92.trans (congrArg some (by kernel_rfl))
  f266 := Tryd.func96.trans (congrArg some (by kernel_rfl))
  t3 := Tryd.underlying3
  a3 := Tryd.isAgg3
  z3 := Tryd.sizeOf3
  v3 := Tryd.zeroValue3
  t5 := Tryd.underlying5
  a5 := Tryd.isAgg5
  z5 := Tryd.sizeOf5
  v5 := Tryd.zeroValue5
  t9 := Tryd.underlying9
  a9 := Tryd.isAgg9
  z9 := Tryd.sizeOf9
  v9 := Tryd.zeroValue9 }
open Go.RowKit in
/-- strings.IndexByte: "IndexByte returns the index of the first instance of c in s, or -1 if c is not present in s.": IT RETURNS 'Lib.indexByte s c'; the world is as it was. (LAID: no walk: one application.) -/
theorem Tryd.strings_IndexByte (s : ByteArray) (c : Int) (w : World) :
    Calls Tryd.prog 90 #[.string s, .int .u8 c] w fun e w' => e = .returned (.int .i64 (Lib.indexByte s.data.toList c.toNat.toUInt8)) ∧ w' = w := Any.strings_IndexByte Tryd.lays137 s c w
end Go.Proofs

/- Layer 14: the reader in memory; within, here, skip, run. -/
set_option linter.unusedVariables false
namespace Go.Proofs.YtcicjpdjbfgbhaaDoor
open Go.RowKit Go.Shelf
/-- the reader: its text, its place, how many lists are open, how many values have begun -/
def RV (w : World) (p : Nat) (s : ByteArray) (a o n : Nat) : Prop := w.heap[p]? = some (.cells #[.string s, .int .i64 (a : Int), .int .i64 (o : Int), .int .i64 (n : Int)] 113 (0, 0))
theorem rv_lt {w : World} {p : Nat} {s : ByteArray} {a o n : Nat} (h : RV w p s a o n) : p < w.heap.size := (Array.getElem?_eq_some_iff.1 h).1
theorem rv_cells {w : World} {p : Nat} {s : ByteArray} {a o n : Nat} (h : RV w p s a o n) : (w.cell? ⟨p, 0, none⟩ = some (.string s) ∧ w.cell? ⟨p, 1, none⟩ = some (.int .i64 (a : Int)) ∧ w.cell? ⟨p, 2, none⟩ = some (.int .i64 (o : Int)) ∧ w.cell? ⟨p, 3, none⟩ = some (.int .i64 (n : Int))) ∧
    w.frozen? ⟨p, 1, none⟩ = false ∧ w.frozen? ⟨p, 2, none⟩ = false ∧ w.frozen? ⟨p, 3, none⟩ = false := by
  refine ⟨⟨?_, ?_, ?_, ?_⟩, ?_, ?_, ?_⟩ <;> simp [World.cell?, World.frozen?, show w.heap[p]? = _ from h]
theorem rv_kept {w w' : World} {p : Nat} {s : ByteArray} {a o n : Nat} {row : Option Nat} (h : RV w p s a o n) (hg : w.grownBy w' row) (hne : some p ≠ row) : RV w' p s a o n := (hg.block p (rv_lt h) hne).trans h
theorem rv_below {w w' : World} {p : Nat} {s : ByteArray} {a o n : Nat} (h : RV w p s a o n) (hb : Below w.heap.size w w') : RV w' p s a o n := (hb.block p (rv_lt h)).trans h
theorem rv_drew {w : World} {p : Nat} {s : ByteArray} {a o n : Nat} (h : RV w p s a o n) (k : Nat) : RV (w.drewN k) p s a o n := h
theorem rv_set {w : World} {p : Nat} {s : ByteArray} {a o n : Nat} (h : RV w p s a o n) (i : Nat) (c : Value) {cs : Array Value} (hc : cs = (#[.string s, .int .i64 (a : Int), .int .i64 (o : Int), .int .i64 (n : Int)] : Array Value).setIfInBounds i c) : (w.setCell ⟨p, i, none⟩ c).heap[p]? = some (.cells cs 113 (0, 0)) := by
  obtain ⟨hlt, hk⟩ := Array.getElem?_eq_some_iff.1 h
  show (w.heap.modify p _)[p]? = _
  rw [Array.getElem?_eq_getElem (by rw [Array.size_modify]; exact hlt), Array.getElem_modify_self, hk, hc]
  rfl
theorem rv_at {w : World} {p : Nat} {s : ByteArray} {a o n : Nat} (h : RV w p s a o n) (q : Nat) : RV (w.setCell ⟨p, 1, none⟩ (.int .i64 (q : Int))) p s q o n := rv_set h 1 _ rfl
theorem rv_open {w : World} {p : Nat} {s : ByteArray} {a o n : Nat} (h : RV w p s a o n) (q : Nat) : RV (w.setCell ⟨p, 2, none⟩ (.int .i64 (q : Int))) p s a q n := rv_set h 2 _ rfl
theorem rv_nodes {w : World} {p : Nat} {s : ByteArray} {a o n : Nat} (h : RV w p s a o n) (q : Nat) : RV (w.setCell ⟨p, 3, none⟩ (.int .i64 (q : Int))) p s a o q := rv_set h 3 _ rfl
theorem rv_other {W : World} {p b : Nat} {s : ByteArray} {a o n : Nat} (h : RV W p s a o n) (hne : p ≠ b) (i : Nat) (c : Value) : RV (W.setCell ⟨b, i, none⟩ c) p s a o n := (Below.heap_setCell W ⟨b, i, none⟩ c p hne).trans h
theorem grownV_of_below {A B : World} (h : Below A.heap.size A B) (row : Option Nat) : A.grownBy B row := by
  obtain ⟨h1, h2, h3, h4, h5⟩ := h
  exact ⟨h1, h2, h3, h4, fun k hk _ => h5 k hk⟩
theorem grownV_set (W : World) (b i : Nat) (v : Value) : W.grownBy (W.setCell ⟨b, i, none⟩ v) (some b) :=
  ⟨rfl, rfl, rfl, (KeepsWalks.setCell W _ v).size, fun k _ hk => Below.heap_setCell _ _ _ k (fun e => hk (by rw [e]))⟩
theorem grownV_drew (W : World) (k : Nat) (row : Option Nat) : W.grownBy (W.drewN k) row := ⟨rfl, rfl, rfl, Nat.le_refl _, fun _ _ _ => rfl⟩
/-- .. behind what has grown from w on: a block that w had not, or the one that may turn -/
theorem grownV_then {w W V : World} {row row' : Option Nat} (h : w.grownBy W row) (k : W.grownBy V row') (hr : ∀ b, row' = some b → w.heap.size ≤ b ∨ row = some b) : w.grownBy V row := by
  obtain ⟨a1, a2, a3, a4, a5⟩ := h
  obtain ⟨b1, b2, b3, b4, b5⟩ := k
  exact ⟨b1.trans a1, b2.trans a2, b3.trans a3, Nat.le_trans a4 b4, fun j hj hne => (b5 j (by omega) (fun e => by
    rcases hr j e.symm with h | h
    · omega
    · exact hne h.symm)).trans (a5 j hj hne)⟩
theorem grownV_two {w W V : World} {r : Option Nat} (h : w.grownBy W r) (k : W.grownBy V r) : w.grownBy V r := grownV_then h k (fun _ e => .inr e)
theorem grownV_rfl (W : World) (r : Option Nat) : W.grownBy W r := ⟨rfl, rfl, rfl, Nat.le_refl _, fun _ _ _ => rfl⟩
/-- what a reader gives up by -/
def wrongT (a e : Int) : List PanicEntry := [{ v := .iface 119 (.agg #[.int .i64 a, .int .i64 e]), recovered := false }]
theorem vidx_contains (l : List UInt8) (c : UInt8) : 0 ≤ Lib.indexByte l c ↔ c ∈ l := by
  induction l with
  | nil => simp [Lib.indexByte]
  | cons b l ih =>
    have hge := Lib.indexByte_ge l c
    by_cases h : b = c
    · subst h; simp [Lib.indexByte]
    · have h1 : (b == c) = false := by simpa using h
      unfold Lib.indexByte
      rw [h1]
      by_cases h2 : Lib.indexByte l c = -1
      · have h3 : (Lib.indexByte l c == -1) = true := by simpa using h2
        rw [h3]
        have : ¬ c ∈ l := fun hc => by have := ih.2 hc; omega
        simp [this]; exact fun e => h e.symm
      · have h3 : (Lib.indexByte l c == -1) = false := by simpa using h2
        rw [h3]
        have : c ∈ l := ih.1 (by omega)
        simp [this]; omega
theorem vtoU8 (x : Int) (h0 : 0 ≤ x) (h1 : x ≤ 255) : ((x.toNat.toUInt8).toNat : Int) = x := by
  simp [Nat.toUInt8]; omega
theorem vmem_strB (s : ByteArray) (x : Int) (h0 : 0 ≤ x) (h1 : x ≤ 255) : x ∈ strB s ↔ x.toNat.toUInt8 ∈ s.data.toList := by
  unfold strB
  rw [List.mem_map]
  constructor
  · rintro ⟨b, hb, rfl⟩
    have : ((b.toNat : Int)).toNat.toUInt8 = b := by simp [Nat.toUInt8]
    rw [this]; exact hb
  · intro h
    exact ⟨_, h, vtoU8 x h0 h1⟩
theorem vwithin_any (c : ByteArray) (x : Int) (w : World) (h0 : 0 ≤ x) (h1 : x ≤ 255) :
    Calls Tryd.prog 84 #[.string c, .int .u8 x] w fun e w' => e = .returned (.bool ((strB c).contains x)) ∧ w = w' := by
  have hI := Tryd.strings_IndexByte c x w
  have hge := Lib.indexByte_ge c.data.toList x.toNat.toUInt8
  have hc := vidx_contains c.data.toList x.toNat.toUInt8
  rw [← vmem_strB c x h0 h1] at hc
  obtain ⟨i, hi⟩ : ∃ i, Lib.indexByte c.data.toList x.toNat.toUInt8 = i := ⟨_, rfl⟩
  rw [hi] at hI hge hc
  clear hi
  obtain ⟨g, hg⟩ : ∃ g, (strB c).contains x = g := ⟨_, rfl⟩
  have hgc : g = true ↔ 0 ≤ i := by rw [← hg, hc, List.contains_iff_mem]
  rw [hg]
  clear hg hc
  have HG := Lib.hid hgc; clear hgc
  go_enter Tryd.func84, Tryd.ntmps84
  go_wp2_with (go_at_call 90; (with_reducible refine hI.mono ?_); rintro e w' ⟨rfl, rfl⟩)
  go_ret
  exact ⟨ret_bool (by rw [Bool.eq_iff_iff, HG.out]; simp), rfl⟩
/-- the byte at a place, or that the text ends there -/
def HereR (s : ByteArray) (a : Nat) (w : World) (e : Ending) (w' : World) : Prop := (if a < s.size then e = .returned (.int .u8 ((strB s)[a]?.getD 0)) else e = .panicked (wrongT a 2)) ∧ ∃ k, w' = w.drewN k
set_option maxRecDepth 100000 in
theorem here_any (s : ByteArray) (p a o n : Nat) (w : World) (hsm : s.size ≤ 1000000) (ha : a ≤ s.size) (hr : RV w p s a o n) :
    Calls Tryd.prog 80 #[.pointer (some ⟨p, 0, none⟩)] w (HereR s a w) := by
  obtain ⟨⟨c0, c1, c2, c3⟩, _⟩ := rv_cells hr
  unfold HereR
  by_cases h : a < s.size
  · simp only [if_pos h]
    have hx := strB_at s a h
    simp only [hx]
    have h1 : ((a : Int) == (s.size : Int)) = false := by simp; omega
    have h2 : (0 : Int) ≤ (a : Int) ∧ (a : Int) < (s.size : Int) := by omega
    clear hx hr
    go_enter Tryd.func80, Tryd.ntmps80
    go_wp2
    go_region
    go_wp2
    go_region
    go_wp2
    go_ret
    exact ⟨rfl, 2, rfl⟩
  · simp only [if_neg h]
    have h1 : ((a : Int) == (s.size : Int)) = true := by simp; omega
    clear hr
    go_enter Tryd.func80, Tryd.ntmps80
    go_wp2
    go_region
    go_wp2
    exact ⟨rfl, rfl, 1, rfl⟩
end Go.Proofs.YtcicjpdjbfgbhaaDoor
