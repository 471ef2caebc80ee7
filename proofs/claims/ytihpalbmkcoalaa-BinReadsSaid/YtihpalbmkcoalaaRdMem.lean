/- The document's reader for layer 6: in memory; Left, Done, number. -/
import Derived.Test.YtihpalbmkcoalaaBinNode
import Derived.Test.YtihpalbmkcoalaaBinBackM
import Derived.Deep.QuietTactic
import Derived.BigQuiet
import Derived.RegionTactic
namespace Go.Proofs.Ytihpalbmkcoalaa
open Go.RowKit Go.Shelf
attribute [local go_sem] Oper.semAt_some
def TAt (W : World) (p : Nat) (a : Option Addr) (n c k : Nat) (bad : Bool) : Prop := W.heap[p]? = some (.cells #[.slice a n c, .int .i64 (k : Int), .bool bad] 42 (0, 0))
theorem tAt_cells {W : World} {p : Nat} {a : Option Addr} {n c k : Nat} {bad : Bool} (h : TAt W p a n c k bad) : (W.cell? ⟨p, 0, none⟩ = some (.slice a n c) ∧ W.cell? ⟨p, 1, none⟩ = some (.int .i64 (k : Int)) ∧ W.cell? ⟨p, 2, none⟩ = some (.bool bad)) ∧
    (W.frozen? ⟨p, 0, none⟩ = false ∧ W.frozen? ⟨p, 1, none⟩ = false ∧ W.frozen? ⟨p, 2, none⟩ = false) := by
  simp [World.cell?, World.frozen?, show W.heap[p]? = _ from h]
theorem tAt_lt {W : World} {p : Nat} {a : Option Addr} {n c k : Nat} {bad : Bool} (h : TAt W p a n c k bad) : p < W.heap.size := (Array.getElem?_eq_some_iff.1 h).1
theorem tAt_at {W : World} {p : Nat} {a : Option Addr} {n c k : Nat} {bad : Bool} (h : TAt W p a n c k bad) (k' : Nat) : TAt (W.setCell ⟨p, 1, none⟩ (.int .i64 (k' : Int))) p a n c k' bad := by
  obtain ⟨hlt, hk⟩ := Array.getElem?_eq_some_iff.1 h
  show (W.heap.modify p _)[p]? = _
  rw [Array.getElem?_eq_getElem (by rw [Array.size_modify]; exact hlt), Array.getElem_modify_self, hk]
  rfl
theorem tAt_bad {W : World} {p : Nat} {a : Option Addr} {n c k : Nat} {bad : Bool} (h : TAt W p a n c k bad) (b : Bool) : TAt (W.setCell ⟨p, 2, none⟩ (.bool b)) p a n c k b := by
  obtain ⟨hlt, hk⟩ := Array.getElem?_eq_some_iff.1 h
  show (W.heap.modify p _)[p]? = _
  rw [Array.getElem?_eq_getElem (by rw [Array.size_modify]; exact hlt), Array.getElem_modify_self, hk]
  rfl
/-- the bytes that are read, and the world where they lay first -/
structure Src where
  w0 : World
  a : Option Addr
  n : Nat
  c : Nat
  l : List Int
  row : Row w0 .u8 a n c l
  bytes : Bytes l
  small : n ≤ 1000000
/-- the document's reader in memory: what it has left -/
def RT (S : Src) (W : World) (p : Nat) (s : Bn.St) : Prop := S.w0.heap.size ≤ p ∧ Below S.w0.heap.size S.w0 W ∧ ∃ k, k ≤ S.n ∧ TAt W p S.a S.n S.c k s.isNone ∧ ∀ x, s = some x → x = S.l.drop k
theorem rt_lt {S : Src} {W : World} {p : Nat} {s : Bn.St} (h : RT S W p s) : p < W.heap.size := by
  obtain ⟨_, _, k, _, h, _⟩ := h
  exact tAt_lt h
theorem rt_kept {S : Src} {W W' : World} {p : Nat} {s : Bn.St} (h : RT S W p s) (hb : Below S.w0.heap.size W W') (hp : W'.heap[p]? = W.heap[p]?) : RT S W' p s := by
  obtain ⟨h1, h2, k, h3, h4, h5⟩ := h
  exact ⟨h1, h2.trans hb, k, h3, hp.trans h4, h5⟩
theorem rt_below {S : Src} {W W' : World} {p : Nat} {s : Bn.St} (h : RT S W p s) (hb : Below W.heap.size W W') : RT S W' p s :=
  rt_kept h (hb.mono h.2.1.size) (hb.block p (rt_lt h))
theorem rt_row {S : Src} {W : World} {p : Nat} {s : Bn.St} (h : RT S W p s) : Row W .u8 S.a S.n S.c S.l := row_below S.row h.2.1 rfl
theorem rt_len {S : Src} {W : World} {p : Nat} {s : Bn.St} (h : RT S W p s) : (Bn.lf s).length ≤ S.n := by
  obtain ⟨_, _, k, h3, h4, h5⟩ := h
  cases s with
  | none => simp [Bn.lf]
  | some x =>
    have := h5 x rfl
    have hl := S.row.1
    simp only [Bn.lf]
    rw [this, List.length_drop]; omega
set_option maxHeartbeats 1000000 in
theorem rtLeft_any (S : Src) (p : Nat) (s : Bn.St) (w : World) (h : RT S w p s) : Calls Try.prog 35 #[.pointer (some ⟨p, 0, none⟩)] w fun e w' => e = .returned (.int .i64 ((Bn.lf s).length : Int)) ∧ ∃ n, w' = w.drewN n := by
  obtain ⟨_, _, k, hk, h4, h5⟩ := h
  obtain ⟨⟨c0, c1, c2⟩, _⟩ := tAt_cells h4
  have hsm := S.small
  have hl := S.row.1
  clear h4
  cases s with
  | none =>
    simp only [Option.isNone_none, Bn.lf] at *
    go_enter Try.func35, Try.ntmps35
    go_wp2
    go_ret
    exact ⟨rfl, 0, rfl⟩
  | some x =>
    obtain rfl := h5 x rfl
    simp only [Option.isNone_some, Bn.lf] at *
    obtain ⟨r, hr⟩ : ∃ r : Nat, (S.n : Int) - (k : Int) = (r : Int) := ⟨S.n - k, by omega⟩
    have hlen : ((S.l.drop k).length : Int) = (r : Int) := by rw [List.length_drop]; omega
    rw [hlen]
    have HL := Lib.hid hlen
    clear hlen h5 hl
    go_enter Try.func35, Try.ntmps35
    go_wp2
    go_quiet (fail)
    go_wp2
    go_ret
    exact ⟨rfl, _, rfl⟩
set_option maxHeartbeats 1000000 in
theorem rtDone_any (S : Src) (p : Nat) (s : Bn.St) (w : World) (h : RT S w p s) : Calls Try.prog 36 #[.pointer (some ⟨p, 0, none⟩)] w fun e w' => e = .returned (.bool (Bn.done s)) ∧ ∃ n, w' = w.drewN n := by
  obtain ⟨_, _, k, hk, h4, h5⟩ := h
  obtain ⟨⟨c0, c1, c2⟩, _⟩ := tAt_cells h4
  have hsm := S.small
  have hl := S.row.1
  clear h4
  cases s with
  | none =>
    simp only [Option.isNone_none] at *
    go_enter Try.func36, Try.ntmps36
    go_wp2
    go_quiet (fail)
    go_wp2
    go_ret
    exact ⟨rfl, _, rfl⟩
  | some x =>
    obtain rfl := h5 x rfl
    simp only [Option.isNone_some] at *
    have hd : Bn.done (some (S.l.drop k)) = ((k : Int) == (S.n : Int)) := by
      rw [Bool.eq_iff_iff, beq_iff_eq]
      have e : (S.l.drop k).length = S.n - k := by rw [List.length_drop]; omega
      cases hx : S.l.drop k with
      | nil => rw [hx] at e; simp [Bn.done] at e ⊢; omega
      | cons y r => rw [hx] at e; simp [Bn.done] at e ⊢; omega
    rw [hd]
    have HD := Lib.hid hd
    clear hd h5 hl
    go_enter Try.func36, Try.ntmps36
    go_wp2
    go_quiet (fail)
    go_wp2
    go_ret
    exact ⟨ret_bool (by simp), _, rfl⟩
theorem drop_at (l : List Int) (k i : Nat) : (l.drop k)[i]?.getD 0 = l[k + i]?.getD 0 := by rw [List.getElem?_drop]
/-- what is read turns the reader alone -/
def RtNum (S : Src) (p : Nat) (w : World) (x : Nat) (s : Bn.St) (e : Ending) (w' : World) : Prop := e = .returned (.tuple #[.int .u64 (x : Int), .bool s.isSome]) ∧ RT S w' p s ∧ w.grownBy w' (some p)
theorem grown_drewN {w w' : World} {row : Option Nat} (h : w.grownBy w' row) (n : Nat) : w.grownBy (w'.drewN n) row := grown_then h (grown_of_below (below_drewN (Below.refl _ w') n) row)
set_option maxRecDepth 100000 in
set_option maxHeartbeats 4000000 in
theorem rtNumber_any (S : Src) (m : Nat) (hm : m ≤ 8) (p : Nat) (s : Bn.St) (w : World) (h : RT S w p s) :
    Calls Try.prog 58 #[.pointer (some ⟨p, 0, none⟩), .int .i64 (m : Int)] w (RtNum S p w (Bn.num m s).1 (Bn.num m s).2) := by
  obtain ⟨hpw, hbw, k, hk, h4, h5⟩ := id h
  have H := Lib.hid h
  obtain ⟨⟨c0, c1, c2⟩, f0, f1, f2⟩ := tAt_cells h4
  have hsm := S.small
  have hl := S.row.1
  have hbadW : ∀ W n, W = (w.drewN n).setCell ⟨p, 2, none⟩ (.bool true) → RT S W p none ∧ w.grownBy W (some p) := fun W n e => by
    subst e
    have hA : TAt (w.drewN n) p S.a S.n S.c k s.isNone := h4
    refine ⟨⟨hpw, (below_drewN hbw n).setCell (p := ⟨p, 2, none⟩) hpw _, k, hk, tAt_bad hA true, fun x e => by cases e⟩, ?_⟩
    exact grown_then (grown_of_below (below_drewN (Below.refl _ w) n) _) (grown_set1 p 2 _)
  have HBAD := Lib.hid hbadW
  cases s with
  | none =>
    simp only [Option.isNone_none] at *
    rw [Bn.num_none]
    clear h hbadW h4 h5 hl
    go_enter Try.func58, Try.ntmps58
    go_wp2
    go_quiet (fail)
    go_wp2
    go_ret2
    obtain ⟨q1, q2⟩ := HBAD.out _ _ rfl
    exact ⟨rfl, q1, q2⟩
  | some x =>
    obtain rfl := h5 x rfl
    simp only [Option.isNone_some] at *
    obtain ⟨r, hr⟩ : ∃ r : Nat, (S.n : Int) - (k : Int) = (r : Int) := ⟨S.n - k, by omega⟩
    have hrl : (S.l.drop k).length = r := by rw [List.length_drop]; omega
    by_cases hmr : m ≤ r
    · have hnum : Bn.num m (some (S.l.drop k)) = (Bn.jn ((S.l.drop k).take m), some ((S.l.drop k).drop m)) := by simp only [Bn.num]; rw [if_pos (by omega)]
      rw [hnum]
      have hd1 : decide (r < m) = false := by simp; omega
      have hrow := rt_row h
      have hbd : ∀ j, j ≤ 7 → Bn.jn ((S.l.drop k).take j) < 72057594037927936 := fun j hj =>
        Nat.lt_of_lt_of_le (Bn.jn_lt _ fun x hx => bytes_all S.bytes x (List.mem_of_mem_drop (List.mem_of_mem_take hx))) (Nat.le_trans (Nat.pow_le_pow_right (by omega) (by rw [List.length_take]; omega)) (Bn.pow7 7 (Nat.le_refl _)))
      have HBD := Lib.hid hbd
      have HROW := Lib.hid hrow
      have HRL := Lib.hid hrl
      have HB := Lib.hid S.bytes
      have H4 := Lib.hid h4
      have hkr : k + r = S.n := by omega
      clear h hbadW h5 hbd hrow hrl hl hnum h4
      go_enter Try.func58, Try.ntmps58
      go_wp2
      go_quiet (fail)
      go_wp2
      go_loopw [6, 7] (fun u i wr => ∃ j nq : Nat, j ≤ m ∧ i = .int .i64 (j : Int) ∧ u = .int .u64 (Bn.jn ((S.l.drop k).take j) : Nat) ∧ wr = w.drewN nq) (fun _ i _ => m - (intOf i).toNat)
      case atStart => exact ⟨0, _, Nat.zero_le _, rfl, rfl, rfl⟩
      case round =>
        obtain ⟨j, nq, hj, rfl, rfl, rfl⟩ := hrel
        by_cases hlt : j < m
        · have hdj : decide (j < m) = true := by simpa using hlt
          have hR4 := HROW.out.2.2.2
          rcases hR4 with h0 | ⟨B', off', ha, hc⟩
          · exfalso; omega
          have cj := hc (k + j) (by omega)
          rw [ha] at c0
          have HR := Lib.hid (jn_take (S.l.drop k) j (by rw [HRL.out]; omega))
          rw [drop_at] at HR
          have hx := HB.out (k + j)
          have hb := HBD.out j (by omega)
          generalize S.l[k + j]?.getD 0 = x at cj HR hx
          generalize Bn.jn ((S.l.drop k).take j) = u at hb HR
          obtain ⟨hx0, hx1⟩ := hx
          obtain ⟨y, rfl⟩ := Int.eq_ofNat_of_zero_le hx0
          rw [Int.toNat_natCast] at HR
          obtain ⟨t, ht⟩ : ∃ t : Nat, t = k + j := ⟨_, rfl⟩
          have hsum : (k : Int) + (j : Int) = (t : Int) := by omega
          have hwm : IntKind.u64.wrap ((u : Int) * 256) = (u : Int) * 256 := by rw [IntKind.wrap_u64]; omega
          have hwa : IntKind.u64.wrap ((u : Int) * 256 + (y : Int)) = (u : Int) * 256 + (y : Int) := by rw [IntKind.wrap_u64]; omega
          have hkj : t < S.n := by omega
          rw [← ht] at cj
          clear hc ht
          go_wp2
          go_quiet (fail)
          go_wp2
          go_roundw
          case rel => exact ⟨j + 1, _, by omega, by go_num, by rw [HR.out]; simp, rfl⟩
          case measure =>
            have e : (intOf (.int .i64 ((j : Int) + 1))).toNat = j + 1 := by simp only [intOf]; omega
            have e' : (intOf (.int .i64 (j : Int))).toNat = j := by simp only [intOf]; omega
            rw [e, e']; omega
        · obtain rfl : j = m := by omega
          have hdj : decide (j < j) = false := by simp
          obtain ⟨t, ht⟩ : ∃ t : Nat, t = k + j := ⟨_, rfl⟩
          have hsum : (k : Int) + (j : Int) = (t : Int) := by omega
          have htn : t ≤ S.n := by omega
          have HT := Lib.hid ht
          clear ht
          have hA : TAt (w.drewN nq) p S.a S.n S.c k false := H4.out
          go_wp2
          go_ret2
          refine ⟨rfl, ⟨hpw, (below_drewN hbw nq).setCell (p := ⟨p, 1, none⟩) hpw _, t, htn, tAt_at hA t, fun x e => ?_⟩, grown_then (grown_of_below (below_drewN (Below.refl _ w) nq) _) (grown_set1 p 1 _)⟩
          cases e
          rw [List.drop_drop, HT.out]
    · have hnum : Bn.num m (some (S.l.drop k)) = (0, none) := by simp only [Bn.num]; rw [if_neg (by omega)]
      rw [hnum]
      have hd1 : decide (r < m) = true := by simp; omega
      clear h hbadW h4 h5 hl hnum
      go_enter Try.func58, Try.ntmps58
      go_wp2
      go_quiet (fail)
      go_wp2
      go_ret2
      obtain ⟨q1, q2⟩ := HBAD.out _ _ rfl
      exact ⟨rfl, q1, q2⟩
end Go.Proofs.Ytihpalbmkcoalaa
