/- The walk of SumPuts: every number's four bytes, and the number of all bytes, are the document's. -/
import Derived.Test.YtchjipkfdnfgpaaSumAlive
import Derived.Test.YtchjipkfdnfgpaaSumRef2
import Derived.Test.YtchjipkfdnfgpaaEq
namespace Go.Proofs.Ytchjipkfdnfgpaa.sumPutsWalk
open Go.RowKit Go.Shelf
theorem bytes_same (a b : Option Addr) (n m c d : Nat) (l : List Int) (w : World) (hl : Row w .u8 a n c l) (hr : Row w .u8 b m d l) :
    Calls Try.prog 15 #[.slice a n c, .slice b m d] w fun e w' => e = .returned (.bool true) ∧ ∃ n, w' = w.drewN n :=
  (refBytes_any a b n m c d l l w hl hr).mono fun e w' h => by
    obtain ⟨h1, h2⟩ := h
    exact ⟨by rw [h1]; simp, h2⟩
set_option maxRecDepth 100000 in
set_option maxHeartbeats 1000000 in
theorem walk (a0 : Int) (a1 : Option Addr) (len1 cap1 : Nat) (z1 : List Int) (w : World) (w0 : (Lit.int .i64 a0).wf = true) (w1 : IsRow .u8 w a1 len1 cap1 z1) :
    Calls Try.prog 4 #[.int .i64 a0, .slice a1 len1 cap1] w fun e w' => e = .returned (.bool true) ∧ Below w.heap.size w w' := by
  obtain ⟨hb, hbw⟩ := row_of_isRow w1
  have hbb := bytes_of hbw
  clear w0 w1 hbw
  have hal := fun W => sumAlive_any W
  have hp := fun W => put_any a0 W
  have hq := fun W => ref04Put_any a0 W
  have g1 : ∀ W, Below w.heap.size w W → _ := fun W h => get_any _ _ _ _ W (row_below hb h rfl) hbb
  have g2 : ∀ W, Below w.heap.size w W → _ := fun W h => ref04Get_any _ _ _ _ W (row_below hb h rfl) hbb
  generalize S.get (z1.take len1) = r at *
  generalize S.put a0 = L at *
  have G1 := Lib.hid g1; have G2 := Lib.hid g2
  clear g1 g2 hb hbb
  go_enter Try.func4, Try.ntmps4
  go_wp2_with (first
    | (go_at_call 8; (with_reducible refine (hal _).mono ?_); rintro e wA ⟨rfl, hA⟩)
    | (go_at_call 16; (with_reducible refine (hp _).mono ?_); intro e wu h; obtain ⟨au, cu, rfl, hu, hbu⟩ := madeB_row h; clear h; have hU := hA.trans (hbu.mono hA.size))
    | (go_at_call 17; (with_reducible refine (hq _).mono ?_); intro e wr h; obtain ⟨ar, cr, rfl, hr, hbr⟩ := madeB_row h; clear h; have hR := hU.trans (hbr.mono hU.size); have hu2 := row_below hu hbr rfl)
    | (go_at_call 15; (with_reducible refine (bytes_same _ _ _ _ _ _ _ _ hu2 hr).mono ?_); rintro e wi ⟨rfl, ni, rfl⟩; have hI := below_drewN hR ni)
    | (go_at_call 18; (with_reducible refine (G1.out _ hI).mono ?_); rintro e wj ⟨rfl, n1, hwj⟩; have hJ : Below w.heap.size w wj := hwj ▸ below_drewN hI n1; clear hwj)
    | (go_at_call 19; (with_reducible refine (G2.out _ hJ).mono ?_); rintro e wk ⟨rfl, n2, hwk⟩; have hK : Below w.heap.size w wk := hwk ▸ below_drewN hJ n2; clear hwk))
  all_goals (go_ret; first | exact ⟨rfl, hK⟩ | exact ⟨rfl, hA⟩)
end Go.Proofs.Ytchjipkfdnfgpaa.sumPutsWalk
