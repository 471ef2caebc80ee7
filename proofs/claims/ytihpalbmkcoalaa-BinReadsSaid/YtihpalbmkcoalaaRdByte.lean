/- The document's reader for layer 6: Byte, Num, Long, Text. -/
import Derived.Test.YtihpalbmkcoalaaRdMem
namespace Go.Proofs.Ytihpalbmkcoalaa
open Go.RowKit Go.Shelf
attribute [local go_sem] Oper.semAt_some
theorem rt_bytes {S : Src} {W : World} {p : Nat} {s : Bn.St} (h : RT S W p s) : ∀ x ∈ Bn.lf s, 0 ≤ x ∧ x ≤ 255 := by
  obtain ⟨_, _, k, h3, h4, h5⟩ := h
  cases s with
  | none => simp [Bn.lf]
  | some x =>
    intro y hy
    rw [Bn.lf, h5 x rfl] at hy
    exact bytes_all S.bytes y (List.mem_of_mem_drop hy)
/-- it is bad now -/
theorem rt_bad {S : Src} {W : World} {p : Nat} {s : Bn.St} (h : RT S W p s) : RT S (W.setCell ⟨p, 2, none⟩ (.bool true)) p none := by
  obtain ⟨h1, h2, k, h3, h4, h5⟩ := h
  exact ⟨h1, h2.setCell (p := ⟨p, 2, none⟩) h1 _, k, h3, tAt_bad h4 true, fun x e => by cases e⟩
theorem rt_drewN {S : Src} {W : World} {p : Nat} {s : Bn.St} (h : RT S W p s) (n : Nat) : RT S (W.drewN n) p s := rt_below h (below_drewN (Below.refl _ W) n)
/-- what a call on the document's reader answers -/
def RtInt (S : Src) (p : Nat) (w : World) (x : Int) (s : Bn.St) (e : Ending) (w' : World) : Prop := e = .returned (.int .i64 x) ∧ RT S w' p s ∧ w.grownBy w' (some p)
set_option maxHeartbeats 1000000 in
theorem rtByte_any (S : Src) (p : Nat) (s : Bn.St) (w : World) (h : RT S w p s) : Calls Try.prog 29 #[.pointer (some ⟨p, 0, none⟩)] w (RtInt S p w (Bn.rByte s).1 (Bn.rByte s).2) := by
  have hN : Calls Try.prog 58 #[.pointer (some ⟨p, 0, none⟩), .int .i64 1] w (RtNum S p w (Bn.num 1 s).1 (Bn.num 1 s).2) := rtNumber_any S 1 (by omega) p s w h
  have hlt := Bn.num_lt 1 s (rt_bytes h)
  unfold Bn.rByte
  generalize Bn.num 1 s = r at *
  obtain ⟨x, s2⟩ := r
  dsimp only at *
  clear h
  go_enter Try.func29, Try.ntmps29
  go_wp2_with (first | (go_at_call 58; (with_reducible refine hN.mono ?_); rintro e w1 ⟨rfl, hR, hG⟩))
  go_ret
  exact ⟨rfl, hR, hG⟩
set_option maxHeartbeats 1000000 in
theorem rtLong_any (S : Src) (p : Nat) (s : Bn.St) (w : World) (h : RT S w p s) : Calls Try.prog 31 #[.pointer (some ⟨p, 0, none⟩)] w (RtInt S p w (Bn.rLong s).1 (Bn.rLong s).2) := by
  have hN : Calls Try.prog 58 #[.pointer (some ⟨p, 0, none⟩), .int .i64 8] w (RtNum S p w (Bn.num 8 s).1 (Bn.num 8 s).2) := rtNumber_any S 8 (by omega) p s w h
  unfold Bn.rLong
  generalize Bn.num 8 s = r at *
  obtain ⟨x, s2⟩ := r
  dsimp only at *
  clear h
  go_enter Try.func31, Try.ntmps31
  go_wp2_with (first | (go_at_call 58; (with_reducible refine hN.mono ?_); rintro e w1 ⟨rfl, hR, hG⟩))
  go_ret
  exact ⟨by rw [show IntKind.i64.wrap (x : Int) = wrap64 (x : Int) by rw [IntKind.wrap_i64]; unfold wrap64; omega]; rfl, hR, hG⟩
set_option maxHeartbeats 2000000 in
theorem rtNum_any (S : Src) (p : Nat) (s : Bn.St) (w : World) (h : RT S w p s) : Calls Try.prog 30 #[.pointer (some ⟨p, 0, none⟩)] w (RtInt S p w (Bn.rNum s).1 (Bn.rNum s).2) := by
  have hN : Calls Try.prog 58 #[.pointer (some ⟨p, 0, none⟩), .int .i64 4] w (RtNum S p w (Bn.num 4 s).1 (Bn.num 4 s).2) := rtNumber_any S 4 (by omega) p s w h
  have hlt := Bn.num_lt 4 s (rt_bytes h)
  have hno : (Bn.num 4 s).2 = none → (Bn.num 4 s).1 = 0 := by
    cases s with
    | none => intro _; rfl
    | some l =>
      simp only [Bn.num]
      split
      · intro e; cases e
      · intro _; rfl
  unfold Bn.rNum
  generalize Bn.num 4 s = r at *
  obtain ⟨x, s2⟩ := r
  dsimp only at *
  clear h
  cases s2 with
  | none =>
    obtain rfl := hno rfl
    rw [if_neg (by omega)]
    go_enter Try.func30, Try.ntmps30
    go_wp2_with (first | (go_at_call 58; (with_reducible refine hN.mono ?_); rintro e w1 ⟨rfl, hR, hG⟩))
    go_ret
    exact ⟨rfl, hR, hG⟩
  | some l =>
    clear hno
    by_cases hx : 2147483647 < x
    · rw [if_pos hx]
      have hd : decide (2147483647 < (x : Int)) = true := by simp; omega
      go_enter Try.func30, Try.ntmps30
      go_wp2_with (first | (go_at_call 58; (with_reducible refine hN.mono ?_); rintro e w1 ⟨rfl, hR, hG⟩; obtain ⟨_, _, k, hk, hA, hxx⟩ := id hR; obtain ⟨⟨c0, c1, c2⟩, f0, f1, f2⟩ := tAt_cells hA; simp only [Option.isSome_some] at *))
      go_ret
      exact ⟨rfl, rt_bad hR, grown_then hG (grown_set1 p 2 _)⟩
    · rw [if_neg hx]
      have hd : decide (2147483647 < (x : Int)) = false := by simp; omega
      go_enter Try.func30, Try.ntmps30
      go_wp2_with (first | (go_at_call 58; (with_reducible refine hN.mono ?_); rintro e w1 ⟨rfl, hR, hG⟩))
      go_ret
      exact ⟨rfl, hR, hG⟩
/-- what a call on the document's reader answers: a text -/
def RtStr (S : Src) (p : Nat) (w : World) (x : ByteArray) (s : Bn.St) (e : Ending) (w' : World) : Prop := e = .returned (.string x) ∧ RT S w' p s ∧ w.grownBy w' (some p)
theorem rNum_lt (s : Bn.St) : (Bn.rNum s).1 ≤ 2147483647 := by
  unfold Bn.rNum
  split
  · exact Nat.zero_le _
  · omega
set_option maxRecDepth 100000 in
set_option maxHeartbeats 4000000 in
theorem rtText_any (S : Src) (p : Nat) (s : Bn.St) (w : World) (h : RT S w p s) : Calls Try.prog 32 #[.pointer (some ⟨p, 0, none⟩)] w (RtStr S p w (Bn.rText s).1 (Bn.rText s).2) := by
  have hN := rtNum_any S p s w h
  have hlt := rNum_lt s
  unfold Bn.rText
  generalize Bn.rNum s = r at *
  obtain ⟨n, s1⟩ := r
  dsimp only at *
  clear h
  have hsm := S.small
  cases s1 with
  | none =>
    have e : Bn.txt n none = (⟨#[]⟩, none) := rfl
    rw [e]; clear e
    go_enter Try.func32, Try.ntmps32
    go_wp2_with (first | (go_at_call 30; (with_reducible refine hN.mono ?_); rintro e w1 ⟨rfl, hR, hG⟩; obtain ⟨_, _, k, hk, hA, hxx⟩ := id hR; obtain ⟨⟨c0, c1, c2⟩, f0, f1, f2⟩ := tAt_cells hA; simp only [Option.isNone_none] at c2))
    go_quiet (fail)
    go_wp2
    go_ret
    exact ⟨rfl, rt_bad (rt_drewN hR _), grown_then (grown_drewN hG _) (grown_set1 p 2 _)⟩
  | some l1 =>
    obtain ⟨r, hr⟩ : ∃ r : Nat, l1.length = r := ⟨_, rfl⟩
    by_cases hrn : r < n
    · have e : Bn.txt n (some l1) = (⟨#[]⟩, none) := by simp only [Bn.txt]; rw [if_neg (by omega)]
      rw [e]; clear e
      have hd : decide (r < n) = true := by simpa using hrn
      go_enter Try.func32, Try.ntmps32
      go_wp2_with (first | (go_at_call 30; (with_reducible refine hN.mono ?_); rintro e w1 ⟨rfl, hR, hG⟩; obtain ⟨_, _, k, hk, hA, hxx⟩ := id hR; obtain ⟨⟨c0, c1, c2⟩, f0, f1, f2⟩ := tAt_cells hA; simp only [Option.isNone_some] at c2; have hkr : (S.n : Int) - (k : Int) = (r : Int) := (by have h1 := hxx _ rfl; have h2 := S.row.1; rw [h1, List.length_drop] at hr; omega)))
      go_quiet (fail)
      go_wp2
      go_ret
      exact ⟨rfl, rt_bad (rt_drewN hR _), grown_then (grown_drewN hG _) (grown_set1 p 2 _)⟩
    · have e : Bn.txt n (some l1) = (strOfNums (l1.take n), some (l1.drop n)) := by simp only [Bn.txt]; rw [if_pos (by omega)]
      rw [e]; clear e
      have hd : decide (r < n) = false := by simpa using hrn
      go_enter Try.func32, Try.ntmps32
      go_wp2_with (first | (go_at_call 30; (with_reducible refine hN.mono ?_); rintro e w1 ⟨rfl, hR, hG⟩; obtain ⟨_, _, k, hk, hA, hxx⟩ := id hR; obtain ⟨⟨c0, c1, c2⟩, f0, f1, f2⟩ := tAt_cells hA; simp only [Option.isNone_some] at c2; have hkr : (S.n : Int) - (k : Int) = (r : Int) := (by have h1 := hxx _ rfl; have h2 := S.row.1; rw [h1, List.length_drop] at hr; omega)))
      obtain ⟨t, ht⟩ : ∃ t : Nat, t = k + n := ⟨_, rfl⟩
      have hsum : (k : Int) + (n : Int) = (t : Int) := by omega
      have hdif : (t : Int) - (n : Int) = (k : Int) := by omega
      have htn : t ≤ S.n := by omega
      have hkt : k ≤ t := by omega
      obtain ⟨a', hsl, hrow⟩ := sub_both S.a S.n S.c k t hkt htn S.row.2.1
      have hl1 := hxx _ rfl
      have hW : ∀ W m, W = (w1.drewN m).setCell ⟨p, 1, none⟩ (.int .i64 (t : Int)) → RT S W p (some (l1.drop n)) ∧ w.grownBy W (some p) := fun W m e => by
        subst e
        obtain ⟨q1, q2, _⟩ := rt_drewN hR m
        have hA' : TAt (w1.drewN m) p S.a S.n S.c k false := hA
        refine ⟨⟨q1, q2.setCell (p := ⟨p, 1, none⟩) q1 _, t, htn, tAt_at hA' t, fun x e => ?_⟩, grown_then (grown_drewN hG _) (grown_set1 p 1 _)⟩
        cases e
        rw [hl1, List.drop_drop, ht]
      have htk : (S.l.drop k).take (t - k) = l1.take n := by rw [hl1, show t - k = n by omega]
      have hrow2 : ∀ W, Row W .u8 S.a S.n S.c S.l → Row W .u8 a' (t - k) (S.c - k) (l1.take n) := fun W h => by have := hrow W _ h; rwa [htk] at this
      have hconv : ∀ m j, (convert 27 9 (.slice a' (t - k) (S.c - k))).run Try.prog (((w1.drewN m).setCell ⟨p, 1, none⟩ (.int .i64 (t : Int))).drewN j) = .ok (.string (strOfNums (l1.take n))) (((w1.drewN m).setCell ⟨p, 1, none⟩ (.int .i64 (t : Int))).drewN j) := fun m j => conv_row (hrow2 _ (rt_row (rt_drewN (hW _ m rfl).1 j)))
      have HW := Lib.hid hW
      clear ht hrow hrow2 hl1 hxx hA hr hW htk
      go_quiet (fail)
      go_wp2
      go_quiet (fail)
      go_wp2
      go_ret
      obtain ⟨q1, q2⟩ := HW.out _ _ rfl
      exact ⟨rfl, rt_drewN q1 _, grown_drewN q2 _⟩
end Go.Proofs.Ytihpalbmkcoalaa
