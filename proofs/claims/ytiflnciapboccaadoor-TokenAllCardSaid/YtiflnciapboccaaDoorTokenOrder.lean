/- The walk of TokenOrder: tokens stand in order, none is longer than what is left, and what is wrong is behind them. -/
import Derived.Test.YtiflnciapboccaaDoorTokAlive
import Derived.Test.YtiflnciapboccaaDoorTokOrd
set_option linter.unusedVariables false
namespace Go.Proofs.YtiflnciapboccaaDoor
open Go.RowKit Go.Shelf
theorem tcells_at (L : List K.Tok) : ∀ i, i < L.length → ∀ j, j < 5 → (tcells L)[i * 5 + j]? = (tokC (L[i]?.getD K.zero))[j]? := by
  induction L with
  | nil => intro i hi; simp at hi
  | cons t L ih =>
    intro i hi j hj
    have hc : tcells (t :: L) = (tokC t).toList ++ tcells L := by simp [tcells]
    have hl : (tokC t).toList.length = 5 := by simp [tokC]
    rw [hc]
    cases i with
    | zero =>
      rw [List.getElem?_append_left (by omega)]
      simp
    | succ i =>
      rw [List.getElem?_append_right (by omega), hl, show (i + 1) * 5 + j - 5 = i * 5 + j by omega, ih i (by simpa using hi) j hj, List.getElem?_cons_succ]
/-- a row of tokens that is read: nil, or cells at a block -/
def TRow (W : World) (v : Value) (L : List K.Tok) : Prop := ∃ a c, v = .slice a L.length c ∧ L.length ≤ c ∧ c ≤ maxLen ∧ (L = [] ∨ ∃ g, a = some ⟨g, 0, none⟩ ∧ ∀ i, i < L.length →
  (W.cell? ⟨g, i * 5, none⟩ = some (.int .i64 (L[i]?.getD K.zero).kind) ∧ W.cell? ⟨g, i * 5 + 1, none⟩ = some (.int .i64 (L[i]?.getD K.zero).a) ∧ W.cell? ⟨g, i * 5 + 2, none⟩ = some (.int .i64 (L[i]?.getD K.zero).e) ∧
   W.cell? ⟨g, i * 5 + 3, none⟩ = some (.string (strOfNums (L[i]?.getD K.zero).s)) ∧ W.cell? ⟨g, i * 5 + 4, none⟩ = some (.int .i64 (L[i]?.getD K.zero).n)))
theorem trow_of {W : World} {base : Nat} {v : Value} {L : List K.Tok} (h : W.ownsRow base 24 5 v L.length (tcells L)) : TRow W v L := by
  obtain ⟨h1, h2⟩ := h
  rcases h2 with ⟨rfl, h0⟩ | ⟨g, cap, cur, rfl, _, hg, hn, hm, hs, ht⟩
  · have hL : L = [] := List.length_eq_zero_iff.1 h0
    subst hL
    exact ⟨none, 0, rfl, Nat.le_refl _, by unfold maxLen; omega, .inl rfl⟩
  · refine ⟨_, cap, rfl, hn, hm, .inr ⟨g, rfl, fun i hi => ?_⟩⟩
    have hc : ∀ j, j < 5 → ∀ u, (tokC (L[i]?.getD K.zero))[j]? = some u → W.cell? ⟨g, i * 5 + j, none⟩ = some u := fun j hj u hu => by
      rw [← tcells_at L i hi j hj, ← ht, List.getElem?_take] at hu
      split at hu
      · simp only [World.cell?, hg]
        simpa using hu
      · cases hu
    exact ⟨hc 0 (by omega) _ rfl, hc 1 (by omega) _ rfl, hc 2 (by omega) _ rfl, hc 3 (by omega) _ rfl, hc 4 (by omega) _ rfl⟩
namespace tokenOrderWalk
set_option maxRecDepth 100000 in
set_option maxHeartbeats 8000000 in
theorem walk (a0 : ByteArray) (w : World) (w0 : a0.size ≤ maxLen) (hE : Err w) :
    Calls Tryd.prog 6 #[.string a0] w fun e w' => e = .returned (.bool true) ∧ Below w.heap.size w w' := by
  have H5 := token_info
  have ha := tokAlive_any w hE
  rcases Nat.lt_or_ge 500 a0.size with hbig | hsm
  · have d1 : decide ((500 : Int) < (a0.size : Int)) = true := by simp; omega
    go_enter Tryd.func6, Tryd.ntmps6
    go_wp2_with (go_at_call 8; (with_reducible refine ha.mono ?_); rintro e w1 ⟨rfl, hB1⟩)
    go_ret
    exact ⟨rfl, hB1⟩
  have d1 : decide ((500 : Int) < (a0.size : Int)) = false := by simp; omega
  have hA : ∀ w, Err w → Calls Tryd.prog 11 #[.string a0] w fun e w' => ∃ v, e = .returned (.tuple #[v, .int .i64 (K.lastAt (K.its (strB a0)) : Nat), .int .i64 (K.lastErr (K.its (strB a0)))]) ∧ TRow w' v (K.toks (K.its (strB a0))) ∧ Below w.heap.size w w' := fun w hE =>
    (all_any a0 w (by omega) hE).mono fun e w' ⟨v, h1, h2, h3⟩ => ⟨v, h1, trow_of h2, h3⟩
  have hord := K.its_ord (strB a0)
  rw [strB_len] at hord
  have hlen : (K.toks (K.its (strB a0))).length ≤ 100000 := by
    have h1 := K.toks_le (K.its (strB a0))
    have h2 := its_len ((strB a0).length + 1) (strB a0) 0
    change (K.its (strB a0)).length ≤ _ at h2
    rw [strB_len] at h2; omega
  obtain ⟨L, hL⟩ : ∃ L, K.toks (K.its (strB a0)) = L := ⟨_, rfl⟩
  obtain ⟨q, hq⟩ : ∃ q, K.lastAt (K.its (strB a0)) = q := ⟨_, rfl⟩
  obtain ⟨er, her⟩ : ∃ er, K.lastErr (K.its (strB a0)) = er := ⟨_, rfl⟩
  simp only [hL, hq, her] at hA hord hlen
  clear hL hq her
  obtain ⟨ho, hlast, hq2, hfin⟩ := hord
  have HO := Lib.hid ho; clear ho
  have HF := Lib.hid hfin; clear hfin
  have HLAST := Lib.hid hlast; clear hlast
  go_enter Tryd.func6, Tryd.ntmps6
  go_wp2_with (first
    | (go_at_call 8; (with_reducible refine ha.mono ?_); rintro e w1 ⟨rfl, hB1⟩; have hE1 := err_below hE hB1)
    | (go_at_call 11; (with_reducible refine (hA _ hE1).mono ?_); rintro e w2 ⟨v, rfl, ⟨av, cv, rfl, hcv, hcm, hcells⟩, hB2⟩))
  have hB12 := hB1.trans (hB2.mono hB1.size)
  go_loopw [6, 7] (fun at_ i wr => ∃ k : Nat, k ≤ L.length ∧ i = .int .i64 (k : Int) ∧ at_ = .int .i64 (K.prevE 0 L k) ∧ Below w2.heap.size w2 wr) (fun _ i _ => L.length - (intOf i).toNat)
  case atStart => exact ⟨0, Nat.zero_le _, rfl, rfl, Below.refl _ _⟩
  case round =>
    obtain ⟨k, hk, rfl, rfl, hBr⟩ := hrel
    rcases Nat.lt_or_ge k L.length with hlt | hge
    · have hd : decide (k < L.length) = true := by simpa using hlt
      obtain ⟨g, rfl, hc⟩ := hcells.resolve_left (fun h => by rw [h] at hlt; simp at hlt)
      obtain ⟨x0, x1, x2, x3, x4⟩ := hc k hlt
      have y0 := (hBr.cell (p := ⟨g, k * 5, none⟩) (cell_lt x0)).trans x0
      have y1 := (hBr.cell (p := ⟨g, k * 5 + 1, none⟩) (cell_lt x1)).trans x1
      have y2 := (hBr.cell (p := ⟨g, k * 5 + 2, none⟩) (cell_lt x2)).trans x2
      have y3 := (hBr.cell (p := ⟨g, k * 5 + 3, none⟩) (cell_lt x3)).trans x3
      have y4 := (hBr.cell (p := ⟨g, k * 5 + 4, none⟩) (cell_lt x4)).trans x4
      clear x0 x1 x2 x3 x4 hc hcells
      obtain ⟨o1, o2, o3, o4, o5⟩ := HO.out k hlt
      obtain ⟨t, ht⟩ : ∃ t, L[k]?.getD K.zero = t := ⟨_, rfl⟩
      have hnx : K.prevE 0 L (k + 1) = t.e := by rw [← ht]; rfl
      simp only [ht] at y0 y1 y2 y3 y4 o1 o2 o3 o4 o5
      clear ht
      have HNX := Lib.hid hnx; clear hnx
      obtain ⟨pe, hpe⟩ : ∃ pe, K.prevE 0 L k = pe := ⟨_, rfl⟩
      rw [hpe] at o1 ⊢
      clear hpe
      have e1 : decide (t.a < pe) = false := by simp; omega
      have e2 : decide (t.e < t.a) = false := by simp; omega
      have e3 : decide ((a0.size : Int) < t.e) = false := by simp; omega
      by_cases hk0 : t.kind = 0
      · have e4 : (t.kind == 0) = true := by simpa using hk0
        have e5 : (t.e == t.a) = true := by simpa using o4.1 hk0
        have e6 : decide ((k : Int) < (L.length : Int) - 1) = false := by have := o5 hk0; simp; omega
        have HK := Lib.hid hk0; clear hk0 o4 o5 o1 o2 o3
        go_wp2
        all_goals
          go_roundw
          case rel => exact ⟨k + 1, hlt, by go_num, by rw [HNX.out], hBr.alloc hBr.size _⟩
          case measure => simp [intOf]; omega
      · have e4 : (t.kind == 0) = false := by simpa using hk0
        have e5 : (t.e == t.a) = false := by simp; exact fun h => hk0 (o4.2 h)
        have HK := Lib.hid hk0; clear hk0 o4 o5 o1 o2 o3
        go_wp2
        all_goals
          go_roundw
          case rel => exact ⟨k + 1, hlt, by go_num, by rw [HNX.out], hBr.alloc hBr.size _⟩
          case measure => simp [intOf]; omega
    · have hkn : k = L.length := by omega
      have hla := HLAST.out
      rw [← hkn] at hla
      obtain ⟨pe, hpe⟩ : ∃ pe, K.prevE 0 L k = pe := ⟨_, rfl⟩
      rw [hpe] at hla ⊢
      clear hpe
      have hd : decide (k < L.length) = false := by simpa using hge
      have e1 : decide (pe ≤ (q : Int)) = true := by simpa using hla
      have e2 : decide (q ≤ a0.size) = true := by simpa using hq2
      by_cases her : er = 0
      · obtain ⟨hne, hk0, hqs⟩ := HF.out her
        have hpos : 0 < L.length := List.length_pos_iff.2 hne
        obtain ⟨g, rfl, hc⟩ := hcells.resolve_left hne
        obtain ⟨x0, _⟩ := hc (L.length - 1) (by omega)
        rw [hk0] at x0
        have y0 := (hBr.cell (p := ⟨g, (L.length - 1) * 5, none⟩) (cell_lt x0)).trans x0
        have e3 : (er != 0) = false := by simpa using her
        have e4 : ((q : Int) == (a0.size : Int)) = true := by simp; omega
        have HE := Lib.hid her; clear her x0 hc hcells hne hk0 hqs hkn hla
        clear HO HF HLAST
        generalize L.length = N at *
        obtain ⟨m, rfl⟩ : ∃ m, N = m + 1 := ⟨N - 1, by omega⟩
        simp only [Nat.add_sub_cancel] at y0
        go_wp2
        all_goals
          go_ret
          exact ⟨rfl, hB12.trans (hBr.mono hB12.size)⟩
      · have e3 : (er != 0) = true := by simpa using her
        have HE := Lib.hid her; clear her hkn hla
        go_wp2
        all_goals
          go_ret
          exact ⟨rfl, hB12.trans (hBr.mono hB12.size)⟩
end tokenOrderWalk
end Go.Proofs.YtiflnciapboccaaDoor
