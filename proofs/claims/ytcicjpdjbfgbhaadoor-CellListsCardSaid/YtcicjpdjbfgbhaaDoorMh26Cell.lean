/- Layer 14: text. -/
import Derived.Test.YtcicjpdjbfgbhaaDoorMh25Cell
import Derived.Test.YtcicjpdjbfgbhaaDoorMh11Cell
set_option linter.unusedVariables false
set_option linter.unusedSimpArgs false
namespace Go.Proofs.YtcicjpdjbfgbhaaDoor
open Go.RowKit Go.Shelf
theorem wpList_ownsB_one {ops : Array Oper} {rest : List Oper} {o : Oper} {a : Act} {w : World} {Q : Exit → Act → World → Prop} (hgd : o.guard = none) (sl x : Operand)
    (ho : o.op = .call { callee := .builtin .append, args := #[sl, x], argTypes := #[58, 58] }) (B : Nat) (v : Value) (xs : List Int) (hs : a.eval sl = v) (hown : w.ownsRow B 5 1 v xs.length (u8s xs)) (hB : B ≤ w.heap.size) (g : Nat) (c : Int) (hx : a.eval x = .slice (some ⟨g, 0, none⟩) 1 1)
    (hc : w.cell? ⟨g, 0, none⟩ = some (.int .u8 c)) (hlen : xs.length ≤ 70368744177664)
    (h : ∀ v' w', w'.ownsRow B 5 1 v' (xs.length + 1) (u8s (xs ++ [c])) → w.grownBy w' v.ownBlock → wpList Tryd.prog ops Q rest (a.put o.dst v') w') : wpList Tryd.prog ops Q (o :: rest) a w := by
  obtain ⟨i0, hi, hz0, hz1, hz2⟩ := info_parts info_u8
  refine wpList_append_own w hgd sl x 58 ho B 5 i0 (.int .u8 0) 1 1 Tryd.underlying58 hi hz0 hz1 hz2 rfl (by decide) v xs.length (u8s xs) hs hown ⟨g, 0, none⟩ 1 1 [.int .u8 c] hx rfl (fun j u hu => ?_) (by simp [Value.oneCell']) (by unfold maxLen; omega) (by omega) hB
    fun v' w' h1 h2 _ => h v' w' (ownsRow_nth h1 (by simp) (by rw [u8s_append]; rfl)) h2
  match j, hu with
  | 0, hu => simp at hu; subst hu; exact hc
  | j + 1, hu => simp at hu
theorem ownB_kept {B : Nat} {W W' : World} {e : TypeId} {size n : Nat} {v : Value} {xs : List Value} {p : Nat} (h : W.ownsRow B e size v n xs) (hg : W.grownBy W' (some p)) (hp : p < B) : W'.ownsRow B e size v n xs := by
  refine ⟨h.1, ?_⟩
  rcases h.2 with hn | ⟨g, cap, cur, rfl, hg1, hh, r⟩
  · exact .inl hn
  · exact .inr ⟨g, cap, cur, rfl, hg1, (hg.block g (Array.getElem?_eq_some_iff.1 hh).1 (fun e => by cases e; omega)).trans hh, r⟩
theorem ownB_blk {B : Nat} {W : World} {e : TypeId} {size n : Nat} {v : Value} {xs : List Value} (h : W.ownsRow B e size v n xs) : ∀ b, v.ownBlock = some b → B ≤ b := by
  intro b hb
  rcases h.2 with ⟨rfl, _⟩ | ⟨g, cap, cur, rfl, hg1, _⟩
  · simp [Value.ownBlock] at hb
  · simp [Value.ownBlock] at hb; omega
/-- a text's loop -/
def TxI (s : ByteArray) (p a o n : Nat) (w : World) (T : Vt.Out (List Int × Nat)) (q : Nat) (bs : List Int) (v : Value) (wr : World) : Prop :=
  (a < q ∧ q ≤ s.size ∧ bs.length ≤ q) ∧ RV wr p s q o n ∧ VAt wr w.heap.size vzero ∧ (w.grownBy wr (some p) ∧ w.heap.size + 1 ≤ wr.heap.size) ∧ wr.ownsRow (w.heap.size + 1) 5 1 v bs.length (u8s bs) ∧ (∃ f, s.size + 1 ≤ q + f ∧ Vt.txt f (strB s) q bs = T) ∧ ∀ x ∈ bs, 0 ≤ x ∧ x ≤ 255
theorem txt_at (l : List Int) (q : Nat) (bs : List Int) (f : Nat) (h : l.length + 1 ≤ q + f) (hq : q ≤ l.length) : Vt.txt f l q bs = (if l.length ≤ q then .inl (l.length, 2)
    else if l[q]?.getD 0 = 34 then .inr (bs, q + 1)
    else if l[q]?.getD 0 = 92 then
      if q + 1 < l.length ∧ (l[q + 1]?.getD 0 = 34 ∨ l[q + 1]?.getD 0 = 92) then Vt.txt (f - 1) l (q + 2) (bs ++ [l[q + 1]?.getD 0]) else .inl (q, 2)
    else Vt.txt (f - 1) l (q + 1) (bs ++ [l[q]?.getD 0])) := by
  obtain ⟨f, rfl⟩ : ∃ g, f = g + 1 := ⟨f - 1, by omega⟩
  rfl
/-- a byte more -/
theorem txI_push {s : ByteArray} {p a o n : Nat} {w : World} {T : Vt.Out (List Int × Nat)} {q' : Nat} {bs : List Int} {v v' : Value} {W1 W2 : World} {x : Int} {o9 : Obj} (hpw : p < w.heap.size) (ha : a < q') (hq : q' < s.size) (hl : bs.length ≤ q') (hr : RV W1 p s q' o n) (hz : VAt W1 w.heap.size vzero) (hg : w.grownBy W1 (some p)) (hs : w.heap.size + 1 ≤ W1.heap.size)
    (hown : W1.ownsRow (w.heap.size + 1) 5 1 v bs.length (u8s bs)) (hown2 : W2.ownsRow (w.heap.size + 1) 5 1 v' (bs.length + 1) (u8s (bs ++ [x]))) (hg2 : (W1.alloc o9).grownBy W2 v.ownBlock) (hx : 0 ≤ x ∧ x ≤ 255) (hb : ∀ x ∈ bs, 0 ≤ x ∧ x ≤ 255) (hT : ∃ f, s.size + 1 ≤ q' + 1 + f ∧ Vt.txt f (strB s) (q' + 1) (bs ++ [x]) = T) (z : Int) (hz' : z = ((q' + 1 : Nat) : Int)) :
    TxI s p a o n w T (q' + 1) (bs ++ [x]) v' (W2.setCell ⟨p, 1, none⟩ (.int .i64 z)) ∧ (RV W2 p s q' o n) := by
  have hub := ownB_blk hown
  have hA := (Below.refl W1.heap.size W1).alloc (Nat.le_refl _) o9
  have hne : some p ≠ v.ownBlock := fun e => by have := hub p e.symm; omega
  have hr2 : RV W2 p s q' o n := rv_kept (rv_below hr hA) hg2 hne
  have hz2 : VAt W2 w.heap.size vzero := vat_kept (vat_below hA hz) hg2 (fun e => by have := hub _ e.symm; omega)
  have hg3 : w.grownBy W2 (some p) := grownV_then (grownV_two hg (grownV_of_below hA _)) hg2 (fun b e => .inl (by have := hub b e; omega))
  have hs2 : w.heap.size + 1 ≤ W2.heap.size := by have := hg2.size; rw [World.size_alloc] at this; omega
  refine ⟨⟨⟨by omega, by omega, by simp; omega⟩, rv_atI hr2 (q' + 1) z hz', vat_other hz2 (by omega) 1 _, ⟨grownV_two hg3 (grownV_set _ p 1 _), by simpa using hs2⟩, ownB_kept (ownsRow_nth hown2 (by simp) rfl) (grownV_set W2 p 1 _) (by omega), hT, ?_⟩, hr2⟩
  intro y hy
  rw [List.mem_append] at hy
  rcases hy with h | h
  · exact hb y h
  · simp at h; subst h; exact hx
theorem txI_measure {s : ByteArray} {p : Nat} {W : World} {q o n : Nat} (h : RV W p s q o n) : s.size - (match W.cell? ⟨p, 1, none⟩ with | some (.int _ q) => q.toNat | _ => 0) = s.size - q := by rw [(rv_cells h).1.2.1]; simp
set_option maxRecDepth 100000 in
set_option maxHeartbeats 4000000 in
theorem vtext_any (s : ByteArray) (p a o n : Nat) (w : World) (hsm : s.size ≤ 1000000) (hn : 1 ≤ n) (ha : a < s.size) (hr : RV w p s a o n) :
    Calls Tryd.prog 82 #[.pointer (some ⟨p, 0, none⟩)] w (VtR p s o n w (Vt.txV (Vt.txt ((strB s).length + 1) (strB s) (a + 1) []))) := by
  have hpw := rv_lt hr
  have hbs := strB_bytes s
  have hH : ∀ (q : Nat) (W : World), q < s.size → RV W p s q o n → Calls Tryd.prog 80 #[.pointer (some ⟨p, 0, none⟩)] W fun e w' => e = .returned (.int .u8 ((strB s)[q]?.getD 0)) ∧ ∃ k, w' = W.drewN k := fun q W hq hr => (here_any s p q o n W hsm (by omega) hr).mono fun e w' h => by unfold HereR at h; rw [if_pos hq] at h; exact h
  have hHe : ∀ (W : World), RV W p s s.size o n → Calls Tryd.prog 80 #[.pointer (some ⟨p, 0, none⟩)] W fun e w' => e = .panicked (wrongT (s.size : Int) 2) ∧ ∃ k, w' = W.drewN k := fun W hr => (here_any s p s.size o n W hsm (by omega) hr).mono fun e w' h => by unfold HereR at h; rw [if_neg (by omega)] at h; exact h
  have hK := fun q W hq hr => skip_any s p q o n W hsm hq hr
  obtain ⟨T, hT⟩ : ∃ T, Vt.txt ((strB s).length + 1) (strB s) (a + 1) [] = T := ⟨_, rfl⟩
  rw [hT]
  obtain ⟨R, hR⟩ : ∃ R, Vt.txV T = R := ⟨_, rfl⟩
  rw [hR]
  have HR := Lib.hid hR; clear hR
  obtain ⟨hr1, hz1, hg1, hs1⟩ := vt_begin hr 1 (.int .i64 ((a : Int) + 1)) (rv_atI hr (a + 1) ((a : Int) + 1) (by push_cast; rfl))
  have HI0 : TxI s p a o n w T (a + 1) [] (.slice none 0 0) _ := ⟨⟨by omega, by omega, Nat.zero_le _⟩, hr1, hz1, ⟨hg1, by omega⟩, World.ownsRow_nil _ _ _ _, ⟨(strB s).length + 1, by rw [strB_len]; omega, hT⟩, by simp⟩
  have HI := Lib.hid HI0; clear HI0
  obtain ⟨⟨b0, b1, b2, b3⟩, e1, e2, e3⟩ := rv_cells hr
  obtain ⟨⟨c0, c1, c2, c3⟩, f1, f2, f3⟩ := rv_cells hr1
  clear hT hr1 hz1 hg1 hs1
  go_enter Tryd.func82, Tryd.ntmps82
  go_wp2
  go_loopw [3] (fun v wr => ∃ (q : Nat) (bs : List Int), TxI s p a o n w T q bs v wr) (fun _ wr => s.size - (match wr.cell? ⟨p, 1, none⟩ with | some (.int _ q) => q.toNat | _ => 0))
  case atStart => exact ⟨a + 1, [], HI.out⟩
  case round =>
    clear HI b0 b1 b2 b3 e1 e2 e3 c0 c1 c2 c3 f1 f2 f3
    obtain ⟨q, bs, HI⟩ := hrel
    have HI' := HI
    obtain ⟨⟨haq, hq, hl⟩, hr1, hz1, ⟨hg1, hs1⟩, hown, ⟨f, hf, hT⟩, hby⟩ := HI'
    rw [txt_at (strB s) q bs f (by rw [strB_len]; exact hf) (by rw [strB_len]; exact hq)] at hT
    obtain ⟨⟨c0, c1, c2, c3⟩, f1, f2, f3⟩ := rv_cells hr1
    by_cases hlt : q < s.size
    · rw [if_neg (by rw [strB_len]; omega)] at hT
      have hH1 := fun W hr => hH q W hlt hr
      have hxb := hbs q
      obtain ⟨x, hx⟩ : ∃ x, (strB s)[q]?.getD 0 = x := ⟨_, rfl⟩
      simp only [hx] at hT hH1 hxb
      by_cases h34 : x = 34
      · rw [if_pos h34] at hT
        have hg := HR.out
        rw [← hT] at hg
        simp only [Vt.txV] at hg
        subst hg
        have d1 : (x != 34) = false := by simpa using h34
        have hcv := fun k => conv_owned ((wr.drewN k).setCell ⟨p, 1, none⟩ (.int .i64 ((q : Int) + 1))) (w.heap.size + 1) bs.length u3 bs (ownB_kept (ownB_kept hown (grownV_drew _ k (some p)) (by omega)) (grownV_set _ p 1 _) (by omega))
        clear hH hHe hK hT HR hx
        go_wp2_with (go_at_call 80; (with_reducible refine (hH1 _ hr1).mono ?_); rintro e w1 ⟨rfl, k, rfl⟩; have hz3 := vat_other (show VAt (wr.drewN k) w.heap.size vzero from hz1) (show w.heap.size ≠ p by omega) 1 (.int .i64 ((q : Int) + 1)); obtain ⟨⟨y0, y1, y2, y3⟩, x0, x1, x2, x3⟩ := box4 hz3)
        refine bodyPost_ret (results_cell_row Tryd.results82 _ _ w.heap.size _ _ _ _ rfl (vat_set4 hz3 _ _ _ _) Tryd.underlying24 rfl val4) rfl ?_
        have hsz : (strOfNums bs).size = bs.length := by rw [← strB_len, strB_strOfNums bs hby]
        exact vt_end (v := .mk 4 0 (strOfNums bs) []) hpw (rv_atI (rv_drew hr1 _) (q + 1) _ (by push_cast; rfl)) (grownV_two (grownV_two hg1 (grownV_drew _ _ _)) (grownV_set _ p 1 _)) (fresh_flat _ _ 4 0 _ ⟨by omega, by omega⟩ ⟨by omega, by omega⟩ (by rw [hsz]; unfold maxLen; omega)) (fun _ => rfl)
      · rw [if_neg h34] at hT
        have d1 : (x != 34) = true := by simpa using h34
        by_cases h92 : x = 92
        · rw [if_pos h92] at hT
          have d2 : (x == 92) = true := by simpa using h92
          have hK1 := hK q
          obtain ⟨g, hg⟩ : ∃ g, decide (q + 1 < s.size ∧ ((strB s)[q + 1]?.getD 0 = 34 ∨ (strB s)[q + 1]?.getD 0 = 92)) = g := ⟨_, rfl⟩
          rw [hg] at hK1
          cases g with
          | false =>
            rw [if_neg (by rw [strB_len]; simpa using hg)] at hT
            have hg := HR.out
            rw [← hT] at hg
            simp only [Vt.txV] at hg
            subst hg
            unfold StepR at hK1
            simp only [Bool.false_eq_true, if_false] at hK1
            have hK2 := fun k => hK1 (wr.drewN k) hlt (rv_drew hr1 k)
            clear hH hHe hK hK1 hT HR hx
            go_wp2_with (first
              | (go_at_call 80; (first | (with_reducible refine (hH1 _ hr1).mono ?_) | (with_reducible refine (hH1 _ (rv_drew hr1 _)).mono ?_)); rintro e w1 ⟨rfl, k, rfl⟩)
              | (go_at_call 88; (with_reducible refine (hK2 _).mono ?_); rintro e w1 ⟨rfl, hg5⟩))
            exact ⟨rfl, rfl, grownV_two (grownV_two hg1 (grownV_drew _ _ _)) hg5⟩
          | true =>
            have hg2 : q + 1 < s.size ∧ ((strB s)[q + 1]?.getD 0 = 34 ∨ (strB s)[q + 1]?.getD 0 = 92) := by simpa using hg
            rw [if_pos (by rw [strB_len]; exact hg2)] at hT
            unfold StepR at hK1
            simp only [if_true] at hK1
            have hK2 := fun k => hK1 (wr.drewN k) hlt (rv_drew hr1 k)
            have hyb := hbs (q + 1)
            have hH2 := fun W hr => hH (q + 1) W hg2.1 hr
            obtain ⟨y, hy⟩ : ∃ y, (strB s)[q + 1]?.getD 0 = y := ⟨_, rfl⟩
            simp only [hy] at hT hH2 hyb
            have hT2 : ∃ f, s.size + 1 ≤ q + 1 + 1 + f ∧ Vt.txt f (strB s) (q + 1 + 1) (bs ++ [y]) = T := ⟨f - 1, by omega, hT⟩
            have HT2 := Lib.hid hT2
            have hlt2 := hg2.1
            clear hg hg2 hH hHe hK hK1 hT hT2 hx hy
            go_wp2_with (first
              | (go_at_call 80; (first | (with_reducible refine (hH1 _ hr1).mono ?_) | (with_reducible refine (hH1 _ (rv_drew hr1 _)).mono ?_) | (with_reducible refine (hH2 _ hr5).mono ?_)); rintro e w1 ⟨rfl, k, rfl⟩)
              | (go_at_call 88; (with_reducible refine (hK2 _).mono ?_); rintro e w5 ⟨⟨v5, rfl⟩, hr5, hg5⟩; have hG5 := grownV_two (grownV_two hg1 (grownV_drew wr _ (some p))) hg5; have hz5 : VAt w5 w.heap.size vzero := vat_kept (show VAt (wr.drewN _) w.heap.size vzero from hz1) hg5 (fun e => by cases e; omega); have hs5 : w.heap.size + 1 ≤ w5.heap.size := Nat.le_trans hs1 hg5.size; have hown5 := ownB_kept (ownB_kept hown (grownV_drew wr _ (some p)) (by omega)) hg5 (by omega);
                        have hownK : ∀ k, ((w5.drewN k).alloc (.cells #[.int .u8 y] 5)).ownsRow (w.heap.size + 1) 5 1 u3 bs.length (u8s bs) := fun k => ownsRow_below (ownB_kept hown5 (grownV_drew w5 k (some p)) (by omega)) ((Below.refl _ (w5.drewN k)).alloc (Nat.le_refl _) _);
                        have hcK : ∀ k, ((w5.drewN k).alloc (.cells #[.int .u8 y] 5)).cell? ⟨w5.heap.size, 0, none⟩ = some (.int .u8 y) := fun k => (Boxed.new (w5.drewN k) 5 (.int .u8 y)).cell;
                        have hsK : ∀ k, w.heap.size + 1 ≤ ((w5.drewN k).alloc (.cells #[.int .u8 y] 5)).heap.size := (fun k => by rw [World.size_alloc]; show _ ≤ w5.heap.size + 1; omega);
                        have hPush : ∀ (k : Nat) (v' : Value) (w2 : World), w2.ownsRow (w.heap.size + 1) 5 1 v' (bs.length + 1) (u8s (bs ++ [y])) → ((w5.drewN k).alloc (.cells #[.int .u8 y] 5)).grownBy w2 u3.ownBlock → TxI s p a o n w T (q + 1 + 1) (bs ++ [y]) v' (w2.setCell ⟨p, 1, none⟩ (.int .i64 (((q + 1 : Nat) : Int) + 1))) ∧ RV w2 p s (q + 1) o n := (fun k v' w2 hown2 hg2 =>
                          txI_push hpw (by omega) hlt2 (by omega) (rv_drew hr5 k) (show VAt (w5.drewN k) w.heap.size vzero from hz5) (grownV_two hG5 (grownV_drew w5 k _)) hs5 (ownB_kept hown5 (grownV_drew w5 k (some p)) (by omega)) hown2 hg2 hyb hby HT2.out (((q + 1 : Nat) : Int) + 1) (by push_cast; rfl)))
              | (at_builtin; refine wpList_ownsB_one rfl _ _ rfl (w.heap.size + 1) u3 bs rfl (hownK _) (hsK _) _ y rfl (hcK _) (by omega) ?_; intro v' w2 hown2 hg2; obtain ⟨hI2, hr2⟩ := hPush _ v' w2 hown2 hg2; obtain ⟨⟨d0, d1', d2', d3⟩, g1, g2, g3⟩ := rv_cells hr2))
            go_roundw
            case rel => exact ⟨q + 1 + 1, bs ++ [y], hI2⟩
            case measure =>
              have hm := txI_measure hI2.2.1
              rw [show (((q + 1 : Nat) : Int) + 1) = (q : Int) + 1 + 1 by push_cast; rfl] at hm
              rw [txI_measure hr1, hm]
              omega
        · rw [if_neg h92] at hT
          have d2 : (x == 92) = false := by simpa using h92
          have hT2 : ∃ f, s.size + 1 ≤ q + 1 + f ∧ Vt.txt f (strB s) (q + 1) (bs ++ [x]) = T := ⟨f - 1, by omega, hT⟩
          have HT2 := Lib.hid hT2
          have hownK : ∀ k, ((wr.drewN k).alloc (.cells #[.int .u8 x] 5)).ownsRow (w.heap.size + 1) 5 1 u3 bs.length (u8s bs) := fun k => ownsRow_below (ownB_kept hown (grownV_drew wr k (some p)) (by omega)) ((Below.refl _ (wr.drewN k)).alloc (Nat.le_refl _) _)
          have hcK : ∀ k, ((wr.drewN k).alloc (.cells #[.int .u8 x] 5)).cell? ⟨wr.heap.size, 0, none⟩ = some (.int .u8 x) := fun k => (Boxed.new (wr.drewN k) 5 (.int .u8 x)).cell
          have hsK : ∀ k, w.heap.size + 1 ≤ ((wr.drewN k).alloc (.cells #[.int .u8 x] 5)).heap.size := fun k => by rw [World.size_alloc]; show _ ≤ wr.heap.size + 1; omega
          have hPush : ∀ (k : Nat) (v' : Value) (w2 : World), w2.ownsRow (w.heap.size + 1) 5 1 v' (bs.length + 1) (u8s (bs ++ [x])) → ((wr.drewN k).alloc (.cells #[.int .u8 x] 5)).grownBy w2 u3.ownBlock → TxI s p a o n w T (q + 1) (bs ++ [x]) v' (w2.setCell ⟨p, 1, none⟩ (.int .i64 ((q : Int) + 1))) ∧ RV w2 p s q o n := fun k v' w2 hown2 hg2 =>
            txI_push hpw haq hlt hl (rv_drew hr1 k) (show VAt (wr.drewN k) w.heap.size vzero from hz1) (grownV_two hg1 (grownV_drew _ k _)) hs1 (ownB_kept hown (grownV_drew wr k (some p)) (by omega)) hown2 hg2 hxb hby HT2.out ((q : Int) + 1) (by push_cast; rfl)
          clear hH hHe hK hT hT2 hx
          go_wp2_with (first
            | (go_at_call 80; (first | (with_reducible refine (hH1 _ hr1).mono ?_) | (with_reducible refine (hH1 _ (rv_drew hr1 _)).mono ?_) | (with_reducible refine (hH1 _ (rv_drew (rv_drew hr1 _) _)).mono ?_)); rintro e w1 ⟨rfl, k, rfl⟩)
            | (at_builtin; refine wpList_ownsB_one rfl _ _ rfl (w.heap.size + 1) u3 bs rfl (hownK _) (hsK _) _ x rfl (hcK _) (by omega) ?_; intro v' w2 hown2 hg2; obtain ⟨hI2, hr2⟩ := hPush _ v' w2 hown2 hg2; obtain ⟨⟨d0, d1', d2', d3⟩, g1, g2, g3⟩ := rv_cells hr2))
          go_roundw
          case rel => exact ⟨q + 1, bs ++ [x], hI2⟩
          case measure => rw [txI_measure hr1, txI_measure hI2.2.1]; omega
    · rw [if_pos (by rw [strB_len]; omega)] at hT
      obtain rfl : q = s.size := by omega
      have hg := HR.out
      rw [← hT] at hg
      simp only [strB_len, Vt.txV] at hg
      subst hg
      have hHe1 := hHe wr hr1
      clear hH hHe hK
      go_wp2_with (go_at_call 80; (with_reducible refine hHe1.mono ?_); rintro e w1 ⟨rfl, k, rfl⟩)
      exact ⟨rfl, rfl, grownV_two hg1 (grownV_drew _ _ _)⟩
end Go.Proofs.YtcicjpdjbfgbhaaDoor
