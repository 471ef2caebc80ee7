/- Layer 7: Quote. -/
import Derived.Test.YtcicjpdjbfgbhaaDoorMh39Cell
import Derived.Test.YtcicjpdjbfgbhaaDoorMh11Cell
import Derived.Test.YtcicjpdjbfgbhaaDoorMh19Cell
import Derived.Test.YtcicjpdjbfgbhaaDoorMh2Cell
import Derived.Test.YtcicjpdjbfgbhaaDoorMh1Cell
import Derived.Test.YtcicjpdjbfgbhaaDoorMh8Cell
import Derived.Test.YtcicjpdjbfgbhaaDoorMh13Cell
namespace Go.Proofs.YtcicjpdjbfgbhaaDoor
open Go.RowKit Go.Shelf
theorem wpList_owns_many {ops : Array Oper} {rest : List Oper} {o : Oper} {a : Act} {w : World} {Q : Exit → Act → World → Prop} (hgd : o.guard = none) (sl x : Operand)
    (ho : o.op = .call { callee := .builtin .append, args := #[sl, x], argTypes := #[58, 58] }) (w0 : World) (v : Value) (xs : List Int) (hs : a.eval sl = v) (hown : Owns w0 w v xs) (g : Nat) (cs : List Int) (m : Nat) (hm : cs.length = m) (hx : a.eval x = .slice (some ⟨g, 0, none⟩) m m)
    (hc : ∀ j u, (u8s cs)[j]? = some u → w.cell? ((⟨g, 0, none⟩ : Addr).add j) = some u) (hlen : xs.length + m ≤ 70368744177664)
    (h : ∀ v' w', Owns w0 w' v' (xs ++ cs) → w.grownBy w' v.ownBlock → wpList Tryd.prog ops Q rest (a.put o.dst v') w') : wpList Tryd.prog ops Q (o :: rest) a w := by
  obtain ⟨i0, hi, hz0, hz1, hz2⟩ := info_parts info_u8
  refine wpList_append_own w hgd sl x 58 ho w0.heap.size 5 i0 (.int .u8 0) 1 1 Tryd.underlying58 hi hz0 hz1 hz2 rfl (by decide) v xs.length (u8s xs) hs hown.1 ⟨g, 0, none⟩ m m (u8s cs) hx (by simp [u8s, hm]) hc (by simp [u8s, Value.oneCell']) (by unfold maxLen; omega) (by omega) hown.2.size
    fun v' w' h1 h2 _ => h v' w' ⟨ownsRow_nth h1 (by simp [hm]) (by rw [u8s_append]), hown.2.trans (below_grown h2 hown.1 hown.2.size |>.mono (Nat.le_refl _))⟩ h2
theorem step_owns_many {ops : Array Oper} {o : Oper} {a : Act} {w : World} {K : Act → World → Prop} {Q : Exit → Act → World → Prop} {E : Prop} (hg : o.guard = none) (sl x : Operand)
    (ho : o.op = Op.call { callee := Callee.builtin Builtin.append, args := #[sl, x], argTypes := #[58, 58] }) (w0 : World) (v : Value) (xs : List Int) (hs : a.eval sl = v) (hown : Owns w0 w v xs) (g : Nat) (cs : List Int) (m : Nat) (hm : cs.length = m) (hx : a.eval x = .slice (some ⟨g, 0, none⟩) m m)
    (hc : ∀ j u, (u8s cs)[j]? = some u → w.cell? ((⟨g, 0, none⟩ : Addr).add j) = some u) (hlen : xs.length + m ≤ 70368744177664)
    (h : ∀ v' w', Owns w0 w' v' (xs ++ cs) → w.grownBy w' v.ownBlock → K (a.put o.dst v') w') : if Region.wanted o (yielded ops a.tmps) = true then Oper.wp Tryd.prog o a w K Q else E := by
  have hw : Region.wanted o (yielded ops a.tmps) = true := by simp [Region.wanted, hg]
  rw [if_pos hw]
  obtain ⟨i0, hi, hz0, hz1, hz2⟩ := info_parts info_u8
  obtain ⟨v', w', hrun, h1, h2, _⟩ := run_append_own (P := Tryd.prog) w w0.heap.size 58 o.type 5 i0 (.int .u8 0) 1 1 Tryd.underlying58 hi hz0 hz1 hz2 rfl (by decide) v xs.length (u8s xs) hown.1 ⟨g, 0, none⟩ m m (u8s cs) (by simp [u8s, hm]) hc (by simp [u8s, Value.oneCell']) (by unfold maxLen; omega) (by omega) hown.2.size
  unfold Oper.wp
  simp [execOp, ho, resolve, invoke, builtin, hs, hx, hrun, Result.andThen]
  exact h v' w' ⟨ownsRow_nth h1 (by simp [hm]) (by rw [u8s_append]), hown.2.trans (below_grown h2 hown.1 hown.2.size |>.mono (Nat.le_refl _))⟩ h2
namespace K
def q1s (l : List Int) : List Int := l.flatMap q1
theorem q1s_take (l : List Int) (q : Nat) (h : q < l.length) : q1s (l.take (q + 1)) = q1s (l.take q) ++ q1 (l[q]?.getD 0) := by
  unfold q1s; rw [take_succ_getD l q h, List.flatMap_append]; simp
theorem q1_len (x : Int) : (q1 x).length ≤ 6 := by unfold q1; repeat' split
                                                   all_goals simp
theorem q1s_len (l : List Int) : (q1s l).length ≤ 6 * l.length := by
  induction l with
  | nil => simp [q1s]
  | cons x l ih => have := q1_len x; simp only [q1s, List.flatMap_cons, List.length_append, List.length_cons] at ih ⊢; omega
end K
theorem hexAt (k : Int) (h0 : 0 ≤ k) (h1 : k < 16) (h : k.toNat < (ByteArray.mk #[48, 49, 50, 51, 52, 53, 54, 55, 56, 57, 97, 98, 99, 100, 101, 102]).size) :
    (((ByteArray.mk #[48, 49, 50, 51, 52, 53, 54, 55, 56, 57, 97, 98, 99, 100, 101, 102])[k.toNat]'h).toNat : Int) = K.hexd k := by
  have : k = 0 ∨ k = 1 ∨ k = 2 ∨ k = 3 ∨ k = 4 ∨ k = 5 ∨ k = 6 ∨ k = 7 ∨ k = 8 ∨ k = 9 ∨ k = 10 ∨ k = 11 ∨ k = 12 ∨ k = 13 ∨ k = 14 ∨ k = 15 := by omega
  rcases this with rfl | rfl | rfl | rfl | rfl | rfl | rfl | rfl | rfl | rfl | rfl | rfl | rfl | rfl | rfl | rfl <;> rfl
set_option maxHeartbeats 4000000 in
theorem quote_any (s : ByteArray) (w : World) (hsm : s.size ≤ 100000) :
    Calls Tryd.prog 56 #[.string s] w fun e w' => e = .returned (.string (strOfNums (K.quote (strB s)))) ∧ Below w.heap.size w w' := by
  have hv := fun w => valid_any s w (by unfold maxLen; omega)
  have hval : U.validS s = decide (U.lastEnd (U.cds s.size (strB s) 0) = s.size) := rfl
  rw [hval] at hv
  obtain ⟨g, hg⟩ : ∃ g, K.quote (strB s) = g := ⟨_, rfl⟩
  rw [hg]
  unfold K.quote at hg
  rw [strB_len] at hg
  by_cases hok : U.lastEnd (U.cds s.size (strB s) 0) = s.size
  · rw [if_pos hok] at hg
    simp only [decide_eq_true hok] at hv
    change [34] ++ K.q1s (strB s) ++ [34] = g at hg
    subst hg
    clear hok hval
    have hlen := fun q => K.q1s_len ((strB s).take q)
    go_enter Tryd.func56, Tryd.ntmps56
    go_wp2_with (go_at_call 38; (with_reducible refine (hv _).mono ?_); rintro e w1 ⟨rfl, hB1⟩)
    have ho1 : Owns w (w1.alloc (.cells #[.int .u8 34] 5)) (.slice (some ⟨w1.heap.size, 0, none⟩) 1 1) [34] :=
      ⟨ownsRow_mono (owns_built w1 [.int .u8 34] 5 1 rfl (by decide)) hB1.size, hB1.alloc hB1.size _⟩
    go_loopw [3, 12] (fun b i wr => ∃ q : Nat, q ≤ s.size ∧ i = .int .i64 (q : Int) ∧ Owns w wr b ([34] ++ K.q1s ((strB s).take q))) (fun _ i _ => s.size - (intOf i).toNat)
    case atStart => exact ⟨0, Nat.zero_le _, rfl, ho1⟩
    case round =>
      obtain ⟨q, hq, rfl, how⟩ := hrel
      have hbl : ([34] ++ K.q1s ((strB s).take q)).length ≤ 700000 := by have := hlen q; simp only [List.length_append, List.length_cons, List.length_nil]; rw [List.length_take] at this; omega
      have HBL := Lib.hid hbl; clear hbl
      have HLEN := Lib.hid hlen; clear hlen
      have HOW := Lib.hid how
      rcases Nat.lt_or_ge q s.size with hlt | hge
      · have hx := strB_at s q hlt
        have hst := K.q1s_take (strB s) q (by rw [strB_len]; exact hlt)
        rw [hx] at hst
        have hu := u8_bd s[q]
        have hd : decide (q < s.size) = true := by simpa using hlt
        clear hx how
        by_cases hc : (s[q].toNat : Int) = 34 ∨ (s[q].toNat : Int) = 92
        · have hq1 : K.q1 (s[q].toNat : Int) = [92, (s[q].toNat : Int)] := by unfold K.q1; rw [if_pos hc]
          rw [hq1] at hst
          have HST := Lib.hid hst; clear hst hq1
          have hb1 : ((s[q].toNat : Int) == 34) = true ∨ ((s[q].toNat : Int) == 34) = false ∧ ((s[q].toNat : Int) == 92) = true := by
            rcases hc with h | h
            · left; rw [h]; rfl
            · right; rw [h]; exact ⟨rfl, rfl⟩
          generalize hcc : (s[q].toNat : Int) = c at hc hb1 HST hu
          clear hc
          rcases hb1 with hb1 | ⟨hb1, hb2⟩
          all_goals
            go_wp2_with (at_builtin; refine wpList_owns_many rfl _ _ rfl w u3 _ rfl (owns_below HOW.out ((Below.refl _ wr).alloc (Nat.le_refl _) _)) wr.heap.size [92, c] 2 rfl rfl (cells_new _ [_, _] _) (by have := HBL.out; omega) ?_; intro v' w2 hown2 _)
            go_roundw
            case rel => exact ⟨q + 1, by omega, by go_num, by rw [HST.out, ← List.append_assoc]; exact hown2⟩
            case measure => simp [intOf]; omega
        · by_cases hlow : (s[q].toNat : Int) < 32
          · have hq1 : K.q1 (s[q].toNat : Int) = [92, 117] ++ [48, 48, K.hexd ((s[q].toNat : Int) / 16), K.hexd ((s[q].toNat : Int) % 16)] := by unfold K.q1; rw [if_neg hc, if_pos hlow]; rfl
            obtain ⟨cs, hcs⟩ : ∃ cs, cs = [48, 48, K.hexd ((s[q].toNat : Int) / 16), K.hexd ((s[q].toNat : Int) % 16)] := ⟨_, rfl⟩
            rw [hq1, ← hcs] at hst
            have HST := Lib.hid hst; clear hst hq1
            have e1 : ((s[q].toNat : Int) == 34) = false := by simp; omega
            have e2 : ((s[q].toNat : Int) == 92) = false := by simp; omega
            have e3 : decide ((s[q].toNat : Int) < 32) = true := by simpa using hlow
            generalize hcc : (s[q].toNat : Int) = c at hc hlow e1 e2 e3 hcs hu
            have HCS := Lib.hid hcs; clear hcs
            have a1 := U.and15 c hu.1 hu.2
            go_wp2_with (at_builtin; refine wpList_owns_str rfl _ _ rfl w u3 _ rfl HOW.out ⟨#[92, 117]⟩ rfl (show _ + 2 ≤ 70368744177664 by have := HBL.out; omega) ?_; intro v' w2 hown2 _)
            have hln := HBL.out
            have hsz2 : (ByteArray.mk #[92, 117]).size = 2 := rfl
            have hb1 : 0 ≤ c / 16 ∧ c / 16 < 16 := by omega
            have hb2 : 0 ≤ c % 16 ∧ c % 16 < 16 := by omega
            have hi1 := hexAt (c / 16) hb1.1 hb1.2
            have hi2 := hexAt (c % 16) hb2.1 hb2.2
            have hm4 : cs.length = 4 := by rw [HCS.out]; rfl
            clear hcc
            go_region_law (refine step_owns_many rfl _ _ rfl w v' _ (by simp [Act.eval]) (owns_below hown2 (((Below.refl _ w2).alloc (Nat.le_refl _) _).drew)) w2.heap.size cs 4 hm4 (by simp [Act.eval]) (fun j u h => cells_new w2 [.int .u8 48, .int .u8 48, .int .u8 (K.hexd (c / 16)), .int .u8 (K.hexd (c % 16))] 5 j u (by rw [HCS.out] at h; exact h)) (by simp only [List.length_append, List.length_cons, List.length_nil, strB_len] at hln ⊢; omega) ?_; intro v3 w3 hown3 _)
            all_goals
              go_simp
              go_wp2
              go_roundw
              case rel => exact ⟨q + 1, by omega, by go_num, by rw [HST.out, ← List.append_assoc, ← List.append_assoc]; exact hown3⟩
              case measure => simp [intOf]; omega
          · have hq1 : K.q1 (s[q].toNat : Int) = [(s[q].toNat : Int)] := by unfold K.q1; rw [if_neg hc, if_neg hlow]
            rw [hq1] at hst
            have HST := Lib.hid hst; clear hst hq1
            have e1 : ((s[q].toNat : Int) == 34) = false := by simp; omega
            have e2 : ((s[q].toNat : Int) == 92) = false := by simp; omega
            have e3 : decide ((s[q].toNat : Int) < 32) = false := by simp; omega
            generalize hcc : (s[q].toNat : Int) = c at hc hlow e1 e2 e3 HST hu
            go_wp2_with (at_builtin; refine wpList_owns_many rfl _ _ rfl w u3 _ rfl (owns_below HOW.out ((Below.refl _ wr).alloc (Nat.le_refl _) _)) wr.heap.size [c] 1 rfl rfl (cells_new _ [_] _) (by have := HBL.out; omega) ?_; intro v' w2 hown2 _)
            go_roundw
            case rel => exact ⟨q + 1, by omega, by go_num, by rw [HST.out, ← List.append_assoc]; exact hown2⟩
            case measure => simp [intOf]; omega
      · have hqe : q = s.size := by omega
        have htk : (strB s).take q = strB s := by rw [hqe, ← strB_len, List.take_length]
        rw [htk] at how
        have hd : decide (q < s.size) = false := by simpa using hge
        have HT := Lib.hid how
        rw [htk] at HBL HOW
        clear how htk hqe
        go_wp2_with (at_builtin; refine wpList_owns_many rfl _ _ rfl w u3 _ rfl (owns_below HOW.out ((Below.refl _ wr).alloc (Nat.le_refl _) _)) wr.heap.size [34] 1 rfl rfl (cells_new _ [_] _) (by have := HBL.out; omega) ?_; intro v' w2 hown2 _; have hcv := conv_owned w2 w.heap.size _ v' _ hown2.1)
        go_ret
        exact ⟨rfl, hown2.2⟩
  · rw [if_neg hok] at hg
    subst hg
    simp only [decide_eq_false hok] at hv
    clear hok hval
    go_enter Tryd.func56, Tryd.ntmps56
    go_wp2_with (go_at_call 38; (with_reducible refine (hv _).mono ?_); rintro e w1 ⟨rfl, hB1⟩)
    go_ret
    exact ⟨rfl, hB1⟩
end Go.Proofs.YtcicjpdjbfgbhaaDoor

/- Printing JSON: the text of a thing; what appends keep (no walk). -/
set_option linter.unusedVariables false
namespace Go.Proofs.YtcicjpdjbfgbhaaDoor
open Go.RowKit Go.Shelf
mutual
/-- a thing's text -/
def txJ : JV → List Int
  | .mk k n s ns l => if k = 1 then (if n = 1 then [116, 114, 117, 101] else [102, 97, 108, 115, 101]) else if k = 2 then M.prt n else if k = 4 then K.quote (strB s) else if k = 5 then [91] ++ (txs l false ns).drop 1 ++ [93]
    else if k = 6 then [123] ++ (txs l true ns).drop 1 ++ [125] else [110, 117, 108, 108]
/-- the texts of a row of things, a comma ahead of each -/
def txs : List JV → Bool → List ByteArray → List Int
  | [], _, _ => []
  | x :: r, o, ns => 44 :: ((if o = true then K.quote (strB (ns.headD ⟨#[]⟩)) ++ [58] else []) ++ txJ x ++ txs r o ns.tail)
end
def piece (o : Bool) (nm : ByteArray) (y : JV) : List Int := (if o = true then K.quote (strB nm) ++ [58] else []) ++ txJ y
theorem txs_append (l r : List JV) (o : Bool) (ns : List ByteArray) : txs (l ++ r) o ns = txs l o ns ++ txs r o (ns.drop l.length) := by
  induction l generalizing ns with
  | nil => simp [txs]
  | cons x l ih =>
    simp only [List.cons_append, txs, ih, List.length_cons]
    rw [show ns.tail.drop l.length = ns.drop (l.length + 1) by rw [List.drop_tail]]
    simp
theorem txs_step (l : List JV) (o : Bool) (ns : List ByteArray) (q : Nat) (y : JV) (h : l[q]? = some y) : txs (l.take (q + 1)) o ns = txs (l.take q) o ns ++ 44 :: piece o (ns[q]?.getD ⟨#[]⟩) y := by
  have hq := (List.getElem?_eq_some_iff.1 h).1
  rw [List.take_add_one, h, Option.toList_some, txs_append, List.length_take, Nat.min_eq_left (by omega)]
  have : (ns.drop q).headD ⟨#[]⟩ = ns[q]?.getD ⟨#[]⟩ := by rw [List.headD_eq_head?_getD, List.head?_drop]
  simp only [txs, piece, this, List.append_nil]
/-- the texts so far, commas between them -/
def Jt (l : List JV) (o : Bool) (ns : List ByteArray) (q : Nat) : List Int := (txs (l.take q) o ns).drop 1
theorem jt_zero (l : List JV) (o : Bool) (ns : List ByteArray) : Jt l o ns 0 = [] := by simp [Jt, txs]
theorem jt_one (l : List JV) (o : Bool) (ns : List ByteArray) (y : JV) (h : l[0]? = some y) : Jt l o ns 1 = piece o (ns[0]?.getD ⟨#[]⟩) y := by
  unfold Jt
  rw [txs_step l o ns 0 y h]
  simp [txs]
theorem txs_ne (l : List JV) (o : Bool) (ns : List ByteArray) (h : l ≠ []) : 0 < (txs l o ns).length := by
  cases l with
  | nil => exact absurd rfl h
  | cons x r => simp [txs]
theorem jt_step (l : List JV) (o : Bool) (ns : List ByteArray) (q : Nat) (y : JV) (h : l[q]? = some y) (h0 : 0 < q) : Jt l o ns (q + 1) = Jt l o ns q ++ [44] ++ piece o (ns[q]?.getD ⟨#[]⟩) y := by
  have hq := (List.getElem?_eq_some_iff.1 h).1
  unfold Jt
  rw [txs_step l o ns q y h, List.drop_append_of_le_length (txs_ne _ _ _ (fun e => by
    have h9 : (l.take q).length = 0 := by rw [e]; rfl
    rw [List.length_take] at h9
    omega))]
  simp
theorem jt_len (l : List JV) (o : Bool) (ns : List ByteArray) (q : Nat) : (Jt l o ns q).length ≤ ((txs l o ns).drop 1).length := by
  unfold Jt
  have h := congrArg List.length (txs_append (l.take q) (l.drop q) o ns)
  rw [List.take_append_drop, List.length_append] at h
  simp only [List.length_drop]
  omega
theorem jt_all (l : List JV) (o : Bool) (ns : List ByteArray) : Jt l o ns l.length = (txs l o ns).drop 1 := by unfold Jt; rw [List.take_length]
/-- things that can be told -/
inductive PrJ : JV → Prop where
  | mk (k n : Int) (s : ByteArray) (ns : List ByteArray) (l : List JV) (h4 : k = 4 → s.size ≤ 100000 ∧ K.quote (strB s) ≠ []) (h6 : k = 6 → ns.length = l.length ∧ ∀ t ∈ ns, t.size ≤ 100000 ∧ K.quote (strB t) ≠ []) (hl : ∀ x ∈ l, PrJ x) : PrJ (.mk k n s ns l)
/-- what is not a block of several bytes -/
def Small (o : Obj) : Prop := ∀ cs f, o = .cells cs 5 f → cs.size ≤ 1
/-- appends onto v keep all small blocks but its own -/
def KZ (w : World) (v : Value) (w' : World) : Prop := ∀ z o, w.heap[z]? = some o → Small o → some z ≠ v.ownBlock → w'.heap[z]? = some o
def Apart (w : World) (v v' : Value) : Prop := ∀ z o, w.heap[z]? = some o → Small o → some z ≠ v.ownBlock → some z ≠ v'.ownBlock
theorem kz_grown {w w' : World} {v : Value} (hg : w.grownBy w' v.ownBlock) : KZ w v w' := fun z o hz _ hne => (hg.block z (Array.getElem?_eq_some_iff.1 hz).1 hne).trans hz
theorem kz_below {w w' : World} {v : Value} (hb : Below w.heap.size w w') : KZ w v w' := fun z o hz _ _ => (hb.block z (Array.getElem?_eq_some_iff.1 hz).1).trans hz
theorem kz_trans {w w1 w2 : World} {v v1 : Value} (h : KZ w v w1) (ha : Apart w v v1) (k : KZ w1 v1 w2) : KZ w v w2 := fun z o hz hs hne => k z o (h z o hz hs hne) hs (ha z o hz hs hne)
theorem apart_trans {w w1 : World} {v v1 v2 : Value} (h : KZ w v w1) (ha : Apart w v v1) (k : Apart w1 v1 v2) : Apart w v v2 := fun z o hz hs hne => k z o (h z o hz hs hne) hs (ha z o hz hs hne)
theorem kz_refl (w : World) (v : Value) : KZ w v w := fun _ _ h _ _ => h
theorem apart_refl (w : World) (v : Value) : Apart w v v := fun _ _ _ _ h => h
/-- a row of two bytes and more is no small block -/
theorem owns_big {w0 w : World} {v : Value} {xs : List Int} (h : Owns w0 w v xs) (h2 : 2 ≤ xs.length) {z : Nat} {o : Obj} (hz : w.heap[z]? = some o) (hs : Small o) : some z ≠ v.ownBlock := by
  intro e
  rcases h.1.2 with ⟨rfl, hn⟩ | ⟨g, cap, cur, rfl, hg, hh, hc1, hc2, hc3, hc4⟩
  · cases e
  · simp only [Value.ownBlock, Option.some.injEq] at e
    subst e
    rw [hz] at hh
    have := hs cur (0, 0) (by injection hh)
    omega
/-- whatever was appended: two bytes and more behind it -/
theorem apart_big {w0 w w' : World} {v v' : Value} {xs : List Int} (h : Owns w0 w' v' xs) (h2 : 2 ≤ xs.length) (hk : KZ w v w') : Apart w v v' := fun z o hz hs hne => owns_big h h2 (hk z o hz hs hne) hs
theorem small_json (cs : Array Value) (f : Nat × Nat) : Small (.cells cs 30 f) := fun cs' f' e => by
  injection e with _ e _
  exact absurd e (by decide)
theorem small_one (c : Value) (t : TypeId) (f : Nat × Nat) : Small (.cells #[c] t f) := fun cs' f' e => by
  injection e with e _ _
  subst e
  simp
/-- what add comes to -/
def AddR (w0 w : World) (v : Value) (xs T : List Int) (e : Ending) (w' : World) : Prop := ∃ v', e = .returned v' ∧ Owns w0 w' v' (xs ++ T) ∧ KZ w v w'
/-- .. and addParts -/
def PartsR (w0 w : World) (v : Value) (xs T : List Int) (e : Ending) (w' : World) : Prop := ∃ v', e = .returned v' ∧ Owns w0 w' v' (xs ++ T) ∧ KZ w v w' ∧ Apart w v v'
end Go.Proofs.YtcicjpdjbfgbhaaDoor
