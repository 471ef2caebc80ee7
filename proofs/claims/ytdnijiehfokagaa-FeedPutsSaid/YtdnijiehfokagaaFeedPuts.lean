/- The walk of FeedPuts: every frame's bytes, or the error, are the document's. -/
import Derived.Test.YtdnijiehfokagaaFeedAlive
import Derived.Test.YtdnijiehfokagaaFeedRefPut
import Derived.Test.YtdnijiehfokagaaEq
namespace Go.Proofs.Ytdnijiehfokagaa.feedPutsWalk
open Go.RowKit Go.Shelf
theorem bytes_same (a b : Option Addr) (n m c d : Nat) (l : List Int) (w : World) (hl : Row w .u8 a n c l) (hr : Row w .u8 b m d l) :
    Calls Try.prog 12 #[.slice a n c, .slice b m d] w fun e w' => e = .returned (.bool true) ∧ ∃ n, w' = w.drewN n :=
  (refBytes_any a b n m c d l l w hl hr).mono fun e w' h => by
    obtain ⟨h1, h2⟩ := h
    exact ⟨by rw [h1]; simp, h2⟩
set_option maxRecDepth 100000 in
set_option maxHeartbeats 1000000 in
theorem walk (a0 : Int) (a1 : Option Addr) (len1 cap1 : Nat) (z1 : List Int) (a2 : Int) (w : World) (_ : (Lit.int .i64 a0).wf = true) (w1 : IsRow .u8 w a1 len1 cap1 z1) (_ : (Lit.int .i64 a2).wf = true) :
    Calls Try.prog 3 #[.int .i64 a0, .slice a1 len1 cap1, .int .i64 a2] w fun e w' => e = .returned (.bool true) ∧ Below w.heap.size w w' := by
  obtain ⟨hb, hbw⟩ := row_of_isRow w1
  have hbb := bytes_of hbw
  clear w1 hbw
  have hal := fun W => feedAlive_any W
  by_cases hn : len1 > 2000
  · have hd : decide ((2000 : Int) < (len1 : Int)) = true := by simp; omega
    have HN := Lib.hid hn; clear hn hb hbb
    go_enter Try.func3, Try.ntmps3
    go_wp2_with (first
      | (go_at_call 9; (with_reducible refine (hal _).mono ?_); rintro e wA ⟨rfl, hA⟩))
    go_ret
    exact ⟨rfl, hA⟩
  · have hd : decide ((2000 : Int) < (len1 : Int)) = false := by simp; omega
    have hp : ∀ W, Below w.heap.size w W → Calls Try.prog 10 #[.int .i64 a0, .slice a1 len1 cap1, .int .i64 a2] W (PutR a0 (z1.take len1) a2 W) := fun W h => put5_any a0 a2 a1 len1 cap1 _ W (row_below hb h rfl) hbb
    have hq : ∀ W, Below w.heap.size w W → Calls Try.prog 11 #[.int .i64 a0, .slice a1 len1 cap1, .int .i64 a2] W (PutR a0 (z1.take len1) a2 W) := fun W h => ref05Put_any a0 a2 a1 len1 cap1 _ W (row_below hb h rfl) hbb
    unfold PutR at hp hq
    generalize F.putE a0 (z1.take len1) a2 = x at hp hq
    obtain ⟨L, er⟩ := x
    dsimp only at hp hq
    have HP := Lib.hid hp; have HQ := Lib.hid hq; have HN := Lib.hid hn
    clear hp hq hn hb hbb
    go_enter Try.func3, Try.ntmps3
    go_wp2_with (first
      | (go_at_call 9; (with_reducible refine (hal _).mono ?_); rintro e wA ⟨rfl, hA⟩)
      | (go_at_call 10; (with_reducible refine (HP.out _ hA).mono ?_); rintro e wu ⟨au, cu, rfl, hu, hbu⟩; have hU := hA.trans (hbu.mono hA.size))
      | (go_at_call 11; (with_reducible refine (HQ.out _ hU).mono ?_); rintro e wr ⟨ar, cr, rfl, hr, hbr⟩; have hR := hU.trans (hbr.mono hU.size); have hu2 := row_below hu hbr rfl)
      | (go_at_call 12; (with_reducible refine (bytes_same _ _ _ _ _ _ _ _ hu2 hr).mono ?_); rintro e wi ⟨rfl, ni, rfl⟩; have hI := below_drewN hR ni))
    all_goals (go_ret; exact ⟨rfl, hI⟩)
end Go.Proofs.Ytdnijiehfokagaa.feedPutsWalk
