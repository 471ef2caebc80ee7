/- The walk of TokenAll: all tokens of every text, or those ahead of what is wrong, and every text's JSON, are the document's. -/
import Derived.Test.YtiflnciapboccaaDoorTokAlive
import Derived.Test.YtiflnciapboccaaDoorTokRef5
import Derived.Test.YtiflnciapboccaaDoorTokenOrder
import Derived.Test.YtiflnciapboccaaDoorTokenQuotes
import Derived.Deep.DeepCutAuto
set_option linter.unusedVariables false
namespace Go.Proofs.YtiflnciapboccaaDoor
open Go.RowKit Go.Shelf
-- the document's Quote
abbrev hexB : ByteArray := ⟨#[48, 49, 50, 51, 52, 53, 54, 55, 56, 57, 97, 98, 99, 100, 101, 102]⟩
theorem hex_extract (k : Nat) (h : k < 16) : hexB.extract k (k + 1) = strOfNums [K.hexd k] := by
  have : k = 0 ∨ k = 1 ∨ k = 2 ∨ k = 3 ∨ k = 4 ∨ k = 5 ∨ k = 6 ∨ k = 7 ∨ k = 8 ∨ k = 9 ∨ k = 10 ∨ k = 11 ∨ k = 12 ∨ k = 13 ∨ k = 14 ∨ k = 15 := by omega
  rcases this with rfl | rfl | rfl | rfl | rfl | rfl | rfl | rfl | rfl | rfl | rfl | rfl | rfl | rfl | rfl | rfl <;> decide
theorem strOfNums_sz (l : List Int) : (strOfNums l).size = l.length := by
  unfold strOfNums
  simp [ByteArray.size]
theorem extract_at (s : ByteArray) (p : Nat) (h : p < s.size) : s.extract p (p + 1) = strOfNums [(s[p].toNat : Int)] := by
  have h1 := strOfNums_strB (s.extract p (p + 1))
  rw [← h1]
  congr 1
  have h2 := strB_sub s p (p + 1)
  rw [h2]
  have hl := strB_len s
  have hx := strB_at s p h
  rw [List.getElem?_eq_getElem (by omega)] at hx
  simp only [Option.getD_some] at hx
  rw [List.drop_take, show p + 1 - p = 1 by omega, List.drop_eq_getElem_cons (by omega)]
  simp [hx]
set_option maxHeartbeats 8000000 in
set_option maxRecDepth 100000 in
theorem refQuote_any (s : ByteArray) (w : World) (hsm : s.size ≤ 1000) :
    Calls Tryd.prog 15 #[.string s] w fun e w' => e = .returned (.string (strOfNums (K.quote (strB s)))) ∧ Below w.heap.size w w' := by
  have hV := fun w => refValidT_any s w (by omega)
  cases hv : U.validS s with
  | false =>
    have hq0 : strOfNums (K.quote (strB s)) = ⟨#[]⟩ := by
      have : ¬ U.lastEnd (U.cds s.size (strB s) 0) = s.size := of_decide_eq_false hv
      unfold K.quote
      rw [strB_len, if_neg this]; rfl
    rw [hq0]
    simp only [hv] at hV
    clear hq0
    go_enter Tryd.func15, Tryd.ntmps15
    go_wp2_with (go_at_call 16; (with_reducible refine (hV _).mono ?_); rintro e w1 ⟨rfl, hB1⟩)
    go_ret
    exact ⟨rfl, hB1⟩
  | true =>
    have hqq : K.quote (strB s) = [34] ++ K.q1s (strB s) ++ [34] := by
      have hval : U.lastEnd (U.cds s.size (strB s) 0) = s.size := of_decide_eq_true hv
      unfold K.quote; rw [strB_len, if_pos hval]; rfl
    simp only [hv] at hV
    have hlen := fun q => K.q1s_len ((strB s).take q)
    have HLEN := Lib.hid hlen; clear hlen
    have HQQ := Lib.hid hqq; clear hqq
    go_enter Tryd.func15, Tryd.ntmps15
    go_wp2_with (go_at_call 16; (with_reducible refine (hV _).mono ?_); rintro e w1 ⟨rfl, hB1⟩)
    go_loopw [4, 5, 6] (fun o i _ wr => ∃ q : Nat, q ≤ s.size ∧ i = .int .i64 (q : Int) ∧ o = .string (strOfNums ([34] ++ K.q1s ((strB s).take q))) ∧ Below w.heap.size w wr) (fun _ i _ _ => s.size - (intOf i).toNat)
    case atStart => exact ⟨0, Nat.zero_le _, rfl, rfl, hB1⟩
    case round =>
      obtain ⟨q, hq, rfl, rfl, hBr⟩ := hrel
      obtain ⟨X, hX⟩ : ∃ X, [34] ++ K.q1s ((strB s).take q) = X := ⟨_, rfl⟩
      have hXl : X.length ≤ 6001 := by
        have := HLEN.out q
        rw [List.length_take, strB_len] at this
        rw [← hX]; simp; omega
      rcases Nat.lt_or_ge q s.size with hlt | hge
      · have hx := strB_at s q hlt
        have hstep := K.q1s_take (strB s) q (by rw [strB_len]; exact hlt)
        rw [hx] at hstep
        have hd : decide (q < s.size) = true := decide_eq_true hlt
        have hnext : [34] ++ K.q1s ((strB s).take (q + 1)) = X ++ K.q1 (s[q].toNat : Int) := by rw [hstep, ← hX, List.append_assoc]
        have HNEXT := Lib.hid hnext
        rw [hX]
        obtain ⟨O, hO⟩ : ∃ O, strOfNums X = O := ⟨_, rfl⟩
        have hOs : O.size ≤ 6001 := by rw [← hO, strOfNums_sz]; exact hXl
        have hap : ∀ l : List Int, O ++ strOfNums l = strOfNums (X ++ l) := fun l => by rw [← hO, strOfNums_append]
        have HAP := Lib.hid hap
        rw [hO]
        have hc0 : ¬ maxLen < O.size := by unfold maxLen; omega
        have hc1 : ¬ maxLen < O.size + 1 := by unfold maxLen; omega
        have hc2 : ¬ maxLen < O.size + 1 + 1 := by unfold maxLen; omega
        have hc4 : ¬ maxLen < O.size + 4 := by unfold maxLen; omega
        have hc5 : ¬ maxLen < O.size + 4 + 1 := by unfold maxLen; omega
        have hc6 : ¬ maxLen < O.size + 4 + 1 + 1 := by unfold maxLen; omega
        have hex := extract_at s q hlt
        have HEX := Lib.hid hex
        have hu := u8_bd s[q]
        clear hx hstep hnext hX hO hap hex hXl
        obtain ⟨m, hm⟩ : ∃ m : Nat, s[q].toNat = m := ⟨_, rfl⟩
        rw [hm] at hu HNEXT HEX
        by_cases h32 : m < 32
        · have d1 : decide ((m : Int) < 32) = true := decide_eq_true (by omega)
          have e1 := hex_extract (m / 16) (by omega)
          have e2 := hex_extract (m % 16) (by omega)
          have HE1 := Lib.hid e1
          have HE2 := Lib.hid e2
          clear e1 e2
          have hq1 : strOfNums (X ++ K.q1 (m : Int)) = O ++ ⟨#[92, 117, 48, 48]⟩ ++ hexB.extract (m / 16) (m / 16 + 1) ++ hexB.extract (m % 16) (m % 16 + 1) := by
            have h1 : K.q1 (m : Int) = [92, 117, 48, 48] ++ [K.hexd ((m / 16 : Nat) : Int)] ++ [K.hexd ((m % 16 : Nat) : Int)] := by
              unfold K.q1
              rw [if_neg (by omega), if_pos (by omega), Int.natCast_ediv, Int.natCast_emod]; rfl
            rw [h1, ← HAP.out, ← strOfNums_append, ← strOfNums_append, HE1.out, HE2.out, ← ByteArray.append_assoc, ← ByteArray.append_assoc]; rfl
          have HQ1 := Lib.hid hq1; clear hq1
          go_wp2
          go_region
          all_goals go_wp2
          all_goals
            go_roundw
            case rel => exact ⟨q + 1, hlt, by go_num, by rw [HNEXT.out, HQ1.out], hBr.drew⟩
            case measure => simp [intOf]; omega
        · have d1 : decide ((m : Int) < 32) = false := decide_eq_false (by omega)
          by_cases h34 : m = 34 ∨ m = 92
          · have hq1 : strOfNums (X ++ K.q1 (m : Int)) = O ++ ⟨#[92]⟩ ++ s.extract q (q + 1) := by
              have h1 : K.q1 (m : Int) = [92] ++ [(m : Int)] := by unfold K.q1; rw [if_pos (by omega)]; rfl
              rw [h1, ← HAP.out, ← strOfNums_append, HEX.out, ← ByteArray.append_assoc]; rfl
            have HQ1 := Lib.hid hq1; clear hq1
            rcases h34 with rfl | rfl
            all_goals
              go_wp2
              go_roundw
              case rel => exact ⟨q + 1, hlt, by go_num, by rw [HNEXT.out, HQ1.out], hBr⟩
              case measure => simp [intOf]; omega
          · have d2 : ((m : Int) == 34) = false := by simp; omega
            have d3 : ((m : Int) == 92) = false := by simp; omega
            have hq1 : strOfNums (X ++ K.q1 (m : Int)) = O ++ s.extract q (q + 1) := by
              have h1 : K.q1 (m : Int) = [(m : Int)] := by unfold K.q1; rw [if_neg (by omega), if_neg (by omega)]
              rw [h1, ← HAP.out, HEX.out]
            have HQ1 := Lib.hid hq1; clear hq1
            go_wp2
            go_roundw
            case rel => exact ⟨q + 1, hlt, by go_num, by rw [HNEXT.out, HQ1.out], hBr⟩
            case measure => simp [intOf]; omega
      · obtain rfl : q = s.size := by omega
        have hd : decide (s.size < s.size) = false := by simp
        rw [hX]
        have hOs : (strOfNums X).size ≤ 6001 := by rw [strOfNums_sz]; exact hXl
        have hc1 : ¬ maxLen < (strOfNums X).size + 1 := by unfold maxLen; omega
        have hfin : strOfNums X ++ ⟨#[34]⟩ = strOfNums (K.quote (strB s)) := by
          rw [HQQ.out, ← hX, List.take_of_length_le (by rw [strB_len]; exact Nat.le_refl _), ← strOfNums_append ([34] ++ K.q1s (strB s)) [34]]; rfl
        have HF := Lib.hid hfin
        clear hfin hX hXl
        go_wp2
        go_ret
        exact ⟨by first | rfl | rw [← HF.out]; rfl, hBr⟩
-- the document's Same and All
theorem neq_tok7 (W : World) (a b c n : Int) (s : ByteArray) : (binOp .neq 24 (.agg #[.int .i64 a, .int .i64 b, .int .i64 c, .string s, .int .i64 n]) (.agg #[.int .i64 a, .int .i64 b, .int .i64 c, .string s, .int .i64 n])).run Tryd.prog W = .ok (.bool false) W := by
  go_simp
theorem trow_below {W W' : World} {v : Value} {L : List K.Tok} (h : TRow W v L) (hb : Below W.heap.size W W') : TRow W' v L := by
  obtain ⟨a, c, hv, h1, h2, h3⟩ := h
  refine ⟨a, c, hv, h1, h2, h3.imp id fun ⟨g, hg, hc⟩ => ⟨g, hg, fun i hi => ?_⟩⟩
  obtain ⟨x0, x1, x2, x3, x4⟩ := hc i hi
  exact ⟨(hb.cell (cell_lt x0)).trans x0, (hb.cell (cell_lt x1)).trans x1, (hb.cell (cell_lt x2)).trans x2, (hb.cell (cell_lt x3)).trans x3, (hb.cell (cell_lt x4)).trans x4⟩
set_option maxRecDepth 100000 in
set_option maxHeartbeats 4000000 in
theorem refSame_any (u v : Value) (L : List K.Tok) (w : World) (hu : TRow w u L) (hv : TRow w v L) (hl : L.length ≤ 100000) :
    Calls Tryd.prog 13 #[u, v] w fun e w' => e = .returned (.bool true) ∧ Below w.heap.size w w' := by
  obtain ⟨au, cu, rfl, hcu, hcum, hxu⟩ := hu
  obtain ⟨av, cv, rfl, hcv, hcvm, hxv⟩ := hv
  have heq := neq_tok7
  go_enter Tryd.func13, Tryd.ntmps13
  go_wp2
  go_loopw [5] (fun i wr => ∃ j : Nat, j ≤ L.length ∧ i = .int .i64 (j : Int) ∧ Below w.heap.size w wr) (fun i _ => L.length - (intOf i).toNat)
  case atStart => exact ⟨0, Nat.zero_le _, rfl, Below.refl _ _⟩
  case round =>
    obtain ⟨j, hj, rfl, hBr⟩ := hrel
    rcases Nat.lt_or_ge j L.length with hlt | hge
    · have hd : decide (j < L.length) = true := by simpa using hlt
      have hne : L ≠ [] := fun h => by rw [h] at hlt; simp at hlt
      obtain ⟨g, rfl, hc⟩ := hxu.resolve_left hne
      obtain ⟨b, rfl, he⟩ := hxv.resolve_left hne
      obtain ⟨x0, x1, x2, x3, x4⟩ := hc j hlt
      obtain ⟨z0, z1, z2, z3, z4⟩ := he j hlt
      obtain ⟨t, ht⟩ : ∃ t, L[j]?.getD K.zero = t := ⟨_, rfl⟩
      simp only [ht] at x0 x1 x2 x3 x4 z0 z1 z2 z3 z4
      clear ht hc he hxu hxv hne
      have y0 := (hBr.cell (cell_lt x0)).trans x0
      have y1 := (hBr.cell (cell_lt x1)).trans x1
      have y2 := (hBr.cell (cell_lt x2)).trans x2
      have y3 := (hBr.cell (cell_lt x3)).trans x3
      have y4 := (hBr.cell (cell_lt x4)).trans x4
      have u0 := (hBr.cell (cell_lt z0)).trans z0
      have u1 := (hBr.cell (cell_lt z1)).trans z1
      have u2 := (hBr.cell (cell_lt z2)).trans z2
      have u3 := (hBr.cell (cell_lt z3)).trans z3
      have u4 := (hBr.cell (cell_lt z4)).trans z4
      clear x0 x1 x2 x3 x4 z0 z1 z2 z3 z4
      go_wp2
      go_region
      all_goals go_wp2
      all_goals
        go_roundw
        case rel => exact ⟨j + 1, hlt, by go_num, hBr.drew⟩
        case measure => simp [intOf]; omega
    · have hd : decide (j < L.length) = false := by simpa using hge
      go_wp2
      go_ret
      exact ⟨rfl, hBr⟩
theorem gat_kept {W W' : World} {row : Option Nat} {b : Nat} {cs : Array Value} (hg : W.grownBy W' row) (hne : some b ≠ row) (h : GAt W b cs) : GAt W' b cs := (hg.block b (gat_lt h) hne).trans h
def RAllR (s : ByteArray) (w : World) (e : Ending) (w' : World) : Prop :=
  ∃ v, e = .returned (.tuple #[v, .int .i64 (K.lastAt (K.its (strB s)) : Nat), .int .i64 (K.lastErr (K.its (strB s)))]) ∧
    w'.ownsRow w.heap.size 24 5 v (K.toks (K.its (strB s))).length (tcells (K.toks (K.its (strB s)))) ∧ Below w.heap.size w w'
theorem all_round {w w1 w3 : World} {v : Value} {n : Nat} {xs : List Value} (hown : w1.ownsRow w.heap.size 24 5 v n xs) (hB : Below w.heap.size w w1) (o o' : Obj) (hg : ((w1.alloc o).alloc o').grownBy w3 v.ownBlock) : Below w.heap.size w w3 := by
  have h1 := (hB.alloc hB.size o).alloc (Nat.le_trans hB.size (by simp)) o'
  exact h1.trans (below_grown hg ((hown.alloc o).alloc o') h1.size)
set_option maxRecDepth 100000 in
set_option maxHeartbeats 8000000 in
theorem refAll_any (s : ByteArray) (w : World) (hsm : s.size ≤ 100000) :
    Calls Tryd.prog 12 #[.string s] w (RAllR s w) := by
  obtain ⟨jf, hjf, hf0, hf1, hf2⟩ := info_parts info_tok
  have H5 := token_info
  have hR : ∀ (p : Nat) w, p ≤ s.size → Calls Tryd.prog 10 #[.string s, .int .i64 p] w fun e w' => e = .returned (.tuple #[tokV (K.next (strB s) p).1, .int .i64 ((K.next (strB s) p).2.1 : Nat), .int .i64 (K.next (strB s) p).2.2]) ∧ Below w.heap.size w w' := fun p w hp => by
    have h := refNext_any s p w hsm (by omega) (by omega)
    unfold K.nextAt at h
    rw [strB_len, if_pos (by omega), Int.toNat_natCast] at h
    exact h
  obtain ⟨I, hI⟩ : ∃ I, K.its (strB s) = I := ⟨_, rfl⟩
  have hlen : I.length ≤ s.size + 1 := by
    have := its_len ((strB s).length + 1) (strB s) 0
    rw [← hI, ← strB_len]; exact this
  unfold RAllR
  rw [hI]
  have HI := Lib.hid hI; clear hI
  have HR := Lib.hid hR; clear hR
  go_enter Tryd.func12, Tryd.ntmps12
  go_wp2
  go_loopw [5, 6, 7, 8, 9] (fun o i _ _ _ wr => ∃ (pre : List (K.Tok × Nat × Int)) (p f : Nat), p ≤ s.size ∧ s.size < f + p ∧ i = .int .i64 (p : Int) ∧ Hid (I = pre ++ K.items f (strB s) p) ∧ pre.length ≤ p ∧ Hid ((K.toks pre).length = pre.length) ∧ wr.ownsRow w.heap.size 24 5 o (K.toks pre).length (tcells (K.toks pre)) ∧ Below w.heap.size w wr) (fun _ i _ _ _ _ => s.size + 1 - (intOf i).toNat)
  case atStart => exact ⟨[], 0, s.size + 1, Nat.zero_le _, by omega, rfl, Lib.hid (by rw [← HI.out]; unfold K.its; rw [strB_len]; rfl), Nat.zero_le _, Lib.hid rfl, World.ownsRow_nil _ _ _ _, Below.refl _ _⟩
  case round =>
    obtain ⟨pre, p, f, hp, hf, rfl, HS, hpl, HT, hown, hB⟩ := hrel
    obtain ⟨f, rfl⟩ : ∃ f', f = f' + 1 := ⟨f - 1, by omega⟩
    have hpl2 := K.next_place (strB s) p (by rw [strB_len]; exact hp)
    rw [strB_len] at hpl2
    have cN := fun w => HR.out p w hp
    have hstop := K.items_stop f (strB s) p
    have hgo := K.items_go f (strB s) p
    obtain ⟨⟨tk, ta, te, ts, tn⟩, x, er, hT⟩ : ∃ T x er, K.next (strB s) p = (T, x, er) := ⟨_, _, _, rfl⟩
    rw [hT] at hpl2 cN hstop hgo
    simp only at hpl2 cN hstop hgo
    unfold tokV tokC at cN
    simp only at cN
    obtain ⟨ts', hts'⟩ : ∃ b, strOfNums ts = b := ⟨_, rfl⟩
    rw [hts'] at cN
    have HTS := Lib.hid hts'
    clear hT hts'
    obtain ⟨hx1, hx2, hx3⟩ := hpl2
    have HX3 := Lib.hid hx3
    have HSTOP := Lib.hid hstop
    have HGO := Lib.hid hgo
    have hpre : (K.toks pre).length ≤ 100001 := by rw [HT.out]; omega
    clear hx3 hstop hgo
    obtain ⟨av, nv, cv, rfl⟩ : ∃ a n c, u5 = Value.slice a n c := by
      rcases hown.2 with ⟨h, _⟩ | ⟨g, cap, cur, h, _⟩
      · exact ⟨_, _, _, h⟩
      · exact ⟨_, _, _, h⟩
    have hg0 : ∀ g, (Value.slice av nv cv).ownBlock = some g → g < wr.heap.size := fun g h => (hown.lt g h).2
    by_cases her : er = 0
    · have e1 : (er != 0) = false := by simpa using her
      have HE := Lib.hid her; clear her
      by_cases hk : tk = 0
      · have e2 : (tk == 0) = true := by simpa using hk
        have HK := Lib.hid hk; clear hk
        go_wp2_with (first
          | (go_at_call 10; (with_reducible refine (cN _).mono ?_); rintro e w1 ⟨rfl, hB1⟩; have hown1 := ownsRow_below hown hB1; have hrow1 := (hown1.alloc (.cells #[.int .i64 tk, .int .i64 ta, .int .i64 te, .string ts', .int .i64 tn] 24)).alloc (.cells #[.int .i64 tk, .int .i64 ta, .int .i64 te, .string ts', .int .i64 tn] 24); have hB01 := hB.trans (hB1.mono hB.size); have hgt := gat_old (gat_alloc w1 #[.int .i64 tk, .int .i64 ta, .int .i64 te, .string ts', .int .i64 tn]) (.cells #[.int .i64 tk, .int .i64 ta, .int .i64 te, .string ts', .int .i64 tn] 24))
          | (at_builtin; refine wpList_append_at _ rfl _ _ 31 rfl w.heap.size 24 jf _ 5 48 Tryd.underlying31 hjf hf0 hf1 hf2 rfl (by decide) (.slice av nv cv) _ _ rfl hrow1 (some ⟨w1.heap.size + 1, 0, none⟩) 1 1 [.int .i64 tk, .int .i64 ta, .int .i64 te, .string ts', .int .i64 tn] rfl ⟨rfl, .inr ⟨_, rfl, (by have h := cells_new (w1.alloc (.cells #[.int .i64 tk, .int .i64 ta, .int .i64 te, .string ts', .int .i64 tn] 24)) [.int .i64 tk, .int .i64 ta, .int .i64 te, .string ts', .int .i64 tn] 24; rwa [World.size_alloc] at h)⟩⟩ (by simp [Value.oneCell']) (by unfold maxLen; omega) (by omega) (by have := hB01.size; simp; omega) ?_; intro v' w3 hown' hgrow' _; have hgt3 := gat_kept hgrow' (fun e => by have := hg0 _ e.symm; have := hB1.size; omega) hgt; obtain ⟨⟨p0, p1, p2, p3, p4⟩, _⟩ := box5 hgt3))
        go_ret3
        have hIe : I = pre ++ [(⟨tk, ta, te, ts, tn⟩, x, er)] := by rw [HS.out, HSTOP.out (.inr HK.out)]
        have hto : K.toks I = K.toks pre ++ [⟨tk, ta, te, ts, tn⟩] := by rw [hIe, K.toks_snoc, if_pos HE.out]
        exact ⟨v', by rw [hIe, K.lastAt_snoc, K.lastErr_snoc, HE.out]; rfl, ownsRow_nth hown' (by rw [hto, List.length_append]; rfl) (by rw [hto, tcells_snoc, HTS.out]), all_round hown1 hB01 _ _ hgrow'⟩
      · have e2 : (tk == 0) = false := by simpa using hk
        have HK := Lib.hid hk; clear hk
        go_wp2_with (first
          | (go_at_call 10; (with_reducible refine (cN _).mono ?_); rintro e w1 ⟨rfl, hB1⟩; have hown1 := ownsRow_below hown hB1; have hrow1 := (hown1.alloc (.cells #[.int .i64 tk, .int .i64 ta, .int .i64 te, .string ts', .int .i64 tn] 24)).alloc (.cells #[.int .i64 tk, .int .i64 ta, .int .i64 te, .string ts', .int .i64 tn] 24); have hB01 := hB.trans (hB1.mono hB.size); have hgt := gat_old (gat_alloc w1 #[.int .i64 tk, .int .i64 ta, .int .i64 te, .string ts', .int .i64 tn]) (.cells #[.int .i64 tk, .int .i64 ta, .int .i64 te, .string ts', .int .i64 tn] 24))
          | (at_builtin; refine wpList_append_at _ rfl _ _ 31 rfl w.heap.size 24 jf _ 5 48 Tryd.underlying31 hjf hf0 hf1 hf2 rfl (by decide) (.slice av nv cv) _ _ rfl hrow1 (some ⟨w1.heap.size + 1, 0, none⟩) 1 1 [.int .i64 tk, .int .i64 ta, .int .i64 te, .string ts', .int .i64 tn] rfl ⟨rfl, .inr ⟨_, rfl, (by have h := cells_new (w1.alloc (.cells #[.int .i64 tk, .int .i64 ta, .int .i64 te, .string ts', .int .i64 tn] 24)) [.int .i64 tk, .int .i64 ta, .int .i64 te, .string ts', .int .i64 tn] 24; rwa [World.size_alloc] at h)⟩⟩ (by simp [Value.oneCell']) (by unfold maxLen; omega) (by omega) (by have := hB01.size; simp; omega) ?_; intro v' w3 hown' hgrow' _; have hgt3 := gat_kept hgrow' (fun e => by have := hg0 _ e.symm; have := hB1.size; omega) hgt; obtain ⟨⟨p0, p1, p2, p3, p4⟩, _⟩ := box5 hgt3))
        have hto : K.toks (pre ++ [((⟨tk, ta, te, ts, tn⟩ : K.Tok), x, er)]) = K.toks pre ++ [⟨tk, ta, te, ts, tn⟩] := by rw [K.toks_snoc, if_pos HE.out]
        have hlt := HX3.out HE.out HK.out
        go_roundw
        case rel => exact ⟨pre ++ [((⟨tk, ta, te, ts, tn⟩ : K.Tok), x, er)], x, f, hx2, by omega, rfl, Lib.hid (by rw [List.append_assoc, HS.out, HGO.out (fun h => h.elim (fun h => h HE.out) HK.out)]; rfl), by rw [List.length_append]; simp; omega, Lib.hid (by rw [hto, List.length_append, List.length_append, HT.out]; rfl), ownsRow_nth hown' (by rw [hto, List.length_append]; rfl) (by rw [hto, tcells_snoc, HTS.out]), all_round hown1 hB01 _ _ hgrow'⟩
        case measure => simp [intOf]; omega
    · have e1 : (er != 0) = true := by simpa using her
      have HE := Lib.hid her; clear her
      go_wp2_with (first
        | (go_at_call 10; (with_reducible refine (cN _).mono ?_); rintro e w1 ⟨rfl, hB1⟩; have hown1 := ownsRow_below hown hB1; have hB01 := hB.trans (hB1.mono hB.size)))
      go_ret3
      have hIe : I = pre ++ [(⟨tk, ta, te, ts, tn⟩, x, er)] := by rw [HS.out, HSTOP.out (.inl HE.out)]
      have hto : K.toks I = K.toks pre := by rw [hIe, K.toks_snoc, if_neg HE.out, List.append_nil]
      exact ⟨.slice av nv cv, by rw [hIe, K.lastAt_snoc, K.lastErr_snoc]; rfl, ownsRow_nth (hown1.alloc _) (by rw [hto]) (by rw [hto]), hB01.alloc hB01.size _⟩
-- the walk
namespace tokenAllWalk
set_option maxRecDepth 100000 in
set_option maxHeartbeats 8000000 in
theorem walk (a0 : ByteArray) (w : World) (w0 : a0.size ≤ maxLen) (hE : Err w) :
    Calls Tryd.prog 4 #[.string a0] w fun e w' => e = .returned (.bool true) ∧ Below w.heap.size w w' := by
  have ha := tokAlive_any w hE
  rcases Nat.lt_or_ge 500 a0.size with hbig | hsm
  · have d1 : decide ((500 : Int) < (a0.size : Int)) = true := by simp; omega
    go_enter Tryd.func4, Tryd.ntmps4
    go_wp2_with (go_at_call 8; (with_reducible refine ha.mono ?_); rintro e w1 ⟨rfl, hB1⟩)
    go_ret
    exact ⟨rfl, hB1⟩
  have d1 : decide ((500 : Int) < (a0.size : Int)) = false := by simp; omega
  have hA : ∀ w, Err w → Calls Tryd.prog 11 #[.string a0] w fun e w' => ∃ v, e = .returned (.tuple #[v, .int .i64 (K.lastAt (K.its (strB a0)) : Nat), .int .i64 (K.lastErr (K.its (strB a0)))]) ∧ TRow w' v (K.toks (K.its (strB a0))) ∧ Below w.heap.size w w' := fun w hE =>
    (all_any a0 w (by omega) hE).mono fun e w' ⟨v, h1, h2, h3⟩ => ⟨v, h1, trow_of h2, h3⟩
  have hR : ∀ w, Calls Tryd.prog 12 #[.string a0] w fun e w' => ∃ v, e = .returned (.tuple #[v, .int .i64 (K.lastAt (K.its (strB a0)) : Nat), .int .i64 (K.lastErr (K.its (strB a0)))]) ∧ TRow w' v (K.toks (K.its (strB a0))) ∧ Below w.heap.size w w' := fun w =>
    (refAll_any a0 w (by omega)).mono fun e w' ⟨v, h1, h2, h3⟩ => ⟨v, h1, trow_of h2, h3⟩
  have hlen : (K.toks (K.its (strB a0))).length ≤ 100000 := by
    have h1 := K.toks_le (K.its (strB a0))
    have h2 := its_len ((strB a0).length + 1) (strB a0) 0
    change (K.its (strB a0)).length ≤ _ at h2
    rw [strB_len] at h2; omega
  have hS := fun u v w hu hv => refSame_any u v (K.toks (K.its (strB a0))) w hu hv hlen
  have hQ := fun w => quote_any a0 w (by omega)
  have hP := fun w => refQuote_any a0 w (by omega)
  obtain ⟨L, hL⟩ : ∃ L, K.toks (K.its (strB a0)) = L := ⟨_, rfl⟩
  obtain ⟨q, hq⟩ : ∃ q, K.lastAt (K.its (strB a0)) = q := ⟨_, rfl⟩
  obtain ⟨er, her⟩ : ∃ er, K.lastErr (K.its (strB a0)) = er := ⟨_, rfl⟩
  obtain ⟨Q, hQe⟩ : ∃ Q, strOfNums (K.quote (strB a0)) = Q := ⟨_, rfl⟩
  simp only [hL, hq, her] at hA hR hS hlen
  rw [hQe] at hQ hP
  clear hL hq her hQe
  go_enter Tryd.func4, Tryd.ntmps4
  go_wp2_with (first
    | (go_at_call 8; (with_reducible refine ha.mono ?_); rintro e w1 ⟨rfl, hB1⟩; have hE1 := err_below hE hB1)
    | (go_at_call 11; (with_reducible refine (hA _ hE1).mono ?_); rintro e w2 ⟨v, rfl, hv, hB2⟩)
    | (go_at_call 12; (with_reducible refine (hR _).mono ?_); rintro e w3 ⟨u, rfl, hu, hB3⟩; have hv3 := trow_below hv hB3)
    | (go_at_call 13; (with_reducible refine (hS _ _ _ hv3 hu).mono ?_); rintro e w4 ⟨rfl, hB4⟩)
    | (go_at_call 14; (with_reducible refine (hQ _).mono ?_); rintro e w5 ⟨rfl, hB5⟩)
    | (go_at_call 15; (with_reducible refine (hP _).mono ?_); rintro e w6 ⟨rfl, hB6⟩))
  go_ret
  have h2 := hB1.trans (hB2.mono hB1.size)
  have h3 := h2.trans (hB3.mono h2.size)
  have h4 := h3.trans (hB4.mono h3.size)
  have h5 := h4.trans (hB5.mono h4.size)
  exact ⟨rfl, h5.trans (hB6.mono h5.size)⟩
end tokenAllWalk
end Go.Proofs.YtiflnciapboccaaDoor
