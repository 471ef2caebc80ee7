/- Package utf's Put and Text. -/
import Derived.Test.YtfapoicnkdallaaMh10Vtex
import Derived.Laws.BytesArg
import Derived.Test.YtfapoicnkdallaaMh1Vtex
import Derived.Deep.QuietTactic
import Derived.BigQuiet
namespace Go.Proofs.Ytfapoicnkdallaa
open Go.RowKit Go.Shelf
def U.okAll (l : List Int) : Bool := l.all fun c => U.size c != 0
/-- the text of codes; whether all are codes -/
def U.text (l : List Int) : ByteArray × Bool := if U.okAll l then (strOfNums (l.flatMap U.put), true) else (ByteArray.empty, false)
end Go.Proofs.Ytfapoicnkdallaa

/- The document's comparisons of two slices (douaneref01's Bytes and Ints). -/
namespace Go.Proofs.Ytfapoicnkdallaa
open Go.RowKit Go.Shelf
def RBytes (l r : List Int) (w : World) (e : Ending) (w' : World) : Prop := e = .returned (.bool (decide (l = r))) ∧ ∃ n, w' = w.drewN n
set_option maxHeartbeats 400000 in
theorem refBytes_any (a b : Option Addr) (n m c d : Nat) (l r : List Int) (w : World) (hl : Row w .u8 a n c l) (hr : Row w .u8 b m d r) :
    Calls Try.prog 89 #[.slice a n c, .slice b m d] w (RBytes l r w) := by
  obtain ⟨h1, h2, h3, h4⟩ := hl
  obtain ⟨k1, k2, k3, k4⟩ := hr
  unfold maxLen at h3 k3
  by_cases hnm : n = m
  · subst hnm
    have hb : ((n : Int) != (n : Int)) = false := by simp
    have H1 := Lib.hid h1; clear h1
    have K1 := Lib.hid k1; clear k1
    have H4 := Lib.hid h4; clear h4
    have K4 := Lib.hid k4; clear k4
    go_enter Try.func89, Try.ntmps89
    go_wp2
    go_loopw [5] (fun i wr => ∃ k nq : Nat, k ≤ n ∧ i = .int .i64 k ∧ wr = w.drewN nq ∧ ∀ j, j < k → l[j]?.getD 0 = r[j]?.getD 0)
      (fun i _ => n - (intOf i).toNat)
    case atStart => exact ⟨0, 0, Nat.zero_le _, rfl, rfl, fun j hj => by omega⟩
    case round =>
      obtain ⟨k, nq, hk, rfl, rfl, heq⟩ := hrel
      have HE := Lib.hid heq; clear heq
      by_cases hlt : k < n
      · rcases H4.out with h0 | ⟨p, o, rfl, hc⟩
        · exact absurd h0 (by omega)
        rcases K4.out with h0 | ⟨p', o', rfl, hc'⟩
        · exact absurd h0 (by omega)
        have c1 := hc k hlt
        have c2 := hc' k hlt
        clear hc hc'
        by_cases hx : l[k]?.getD 0 = r[k]?.getD 0
        · have HX := Lib.hid hx
          rw [hx] at c1
          generalize r[k]?.getD 0 = x at c1 c2
          clear hx
          have hne : (x != x) = false := by simp
          go_wp2
          go_quiet (fail)
          go_wp2
          go_roundw
          case rel => exact ⟨k + 1, _, by omega, by go_num, rfl, fun j hj => by
            rcases Nat.lt_or_ge j k with h | h
            · exact HE.out j h
            · obtain rfl : j = k := by omega
              exact HX.out⟩
          case measure => simp [intOf]; omega
        · have hne : (l[k]?.getD 0 != r[k]?.getD 0) = true := by simpa using hx
          have HX := Lib.hid hx; clear hx
          go_wp2
          go_quiet (fail)
          go_wp2
          go_ret
          refine ⟨ret_bool ?_, _, World.drewN_drewN _ _ _⟩
          have := HX.out
          simp; intro h; rw [h] at this; exact this rfl
      · obtain rfl : k = n := by omega
        go_wp2
        go_ret
        refine ⟨ret_bool ?_, _, rfl⟩
        have h1 := H1.out
        have k1 := K1.out
        simp
        exact getD_ext l r (by omega) (fun i hi => HE.out i (by omega))
  · have hb : ((n : Int) != (m : Int)) = true := by simp; omega
    have hne : l ≠ r := fun h => by rw [h] at h1; omega
    have HN := Lib.hid hne; clear hne h1 k1 h4 k4
    go_enter Try.func89, Try.ntmps89
    go_wp2
    go_ret
    exact ⟨ret_bool (by simp; exact HN.out), 0, rfl⟩
end Go.Proofs.Ytfapoicnkdallaa
