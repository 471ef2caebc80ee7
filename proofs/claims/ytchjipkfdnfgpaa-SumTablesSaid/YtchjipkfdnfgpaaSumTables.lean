/- The walk of SumTables: the table of every polynomial, and sums by every table, are the document's. -/
import Derived.Test.YtchjipkfdnfgpaaSumAlive
import Derived.Test.YtchjipkfdnfgpaaSumRef2
import Derived.Test.YtchjipkfdnfgpaaEq
namespace Go.Proofs.Ytchjipkfdnfgpaa.sumTablesWalk
open Go.RowKit Go.Shelf
theorem ints_same (a b : Option Addr) (n m c d : Nat) (l : List Int) (w : World) (hl : Row w .i64 a n c l) (hr : Row w .i64 b m d l) :
    Calls Try.prog 10 #[.slice a n c, .slice b m d] w fun e w' => e = .returned (.bool true) ∧ ∃ n, w' = w.drewN n :=
  (refInts_any a b n m c d l l w hl hr).mono fun e w' h => by
    obtain ⟨h1, h2⟩ := h
    exact ⟨by rw [h1]; simp, h2⟩
set_option maxRecDepth 100000 in
set_option maxHeartbeats 1000000 in
theorem walk (a0 : Int) (a1 : Option Addr) (len1 cap1 : Nat) (z1 : List Int) (a2 : Int) (a3 : Option Addr) (len3 cap3 : Nat) (z3 : List Int) (w : World) (w0 : (Lit.int .i64 a0).wf = true) (w1 : IsRow .i64 w a1 len1 cap1 z1) (w2 : (Lit.int .i64 a2).wf = true) (w3 : IsRow .u8 w a3 len3 cap3 z3) :
    Calls Try.prog 3 #[.int .i64 a0, .slice a1 len1 cap1, .int .i64 a2, .slice a3 len3 cap3] w fun e w' => e = .returned (.bool true) ∧ Below w.heap.size w w' := by
  obtain ⟨l0, u0⟩ := wf_i64 w0
  obtain ⟨l2, u2⟩ := wf_i64 w2
  obtain ⟨ht, _⟩ := row_of_isRow w1
  obtain ⟨hb, hbw⟩ := row_of_isRow w3
  have hbb := bytes_of hbw
  clear w0 w1 w2 w3 hbw
  have hlt := ht.1
  have hal := fun W => sumAlive_any W
  have hmk := fun W => make_any a0 W l0 u0
  have hrm := fun W => ref04Make_any a0 W l0 u0
  have m1 : ∀ W, Below w.heap.size w W → _ := fun W h => more_any _ _ _ _ a2 _ _ _ _ W (row_below ht h rfl) (row_below hb h rfl) hbb l2 u2
  have m2 : ∀ W, Below w.heap.size w W → _ := fun W h => ref04More_any _ _ _ _ a2 _ _ _ _ W (row_below ht h rfl) (row_below hb h rfl) hbb
  have m3 : ∀ (L : List Int) W au n cu, Below w.heap.size w W → Row W .i64 au n cu L → _ := fun L W au n cu h hu => more_any au n cu L a2 _ _ _ _ W hu (row_below hb h rfl) hbb l2 u2
  have m4 : ∀ (L : List Int) W au n cu, Below w.heap.size w W → Row W .i64 au n cu L → _ := fun L W au n cu h hu => ref04More_any au n cu L a2 _ _ _ _ W hu (row_below hb h rfl) hbb
  have m5 : ∀ (L : List Int) W au n cu, Below w.heap.size w W → Row W .i64 au n cu L → _ := fun L W au n cu h hu => of_any au n cu L _ _ _ _ W hu (row_below hb h rfl) hbb
  have m6 : ∀ (L : List Int) W au n cu, Below w.heap.size w W → Row W .i64 au n cu L → _ := fun L W au n cu h hu => ref04More_any au n cu L 0 _ _ _ _ W hu (row_below hb h rfl) hbb
  have M3 := m3 (S.make a0); have M4 := m4 (S.make a0); have M5 := m5 (S.make a0); have M6 := m6 (S.make a0)
  generalize hL : S.make a0 = L at *
  generalize S.more (z1.take len1) a2 (z3.take len3) = r1 at *
  generalize S.more L a2 (z3.take len3) = r2 at *
  generalize S.more L 0 (z3.take len3) = r3 at *
  have H1 := Lib.hid m1; have H2 := Lib.hid m2; have H3 := Lib.hid M3; have H4 := Lib.hid M4; have H5 := Lib.hid M5; have H6 := Lib.hid M6
  clear m1 m2 m3 m4 m5 m6 M3 M4 M5 M6 hL ht hb hbb hlt
  go_enter Try.func3, Try.ntmps3
  go_wp2_with (first
    | (go_at_call 8; (with_reducible refine (hal _).mono ?_); rintro e wA ⟨rfl, hA⟩)
    | (go_at_call 9; (with_reducible refine (hmk _).mono ?_); intro e wu h; obtain ⟨au, cu, rfl, hu, hbu⟩ := made_row h; clear h; have hU := hA.trans (hbu.mono hA.size))
    | (go_at_call 11; (with_reducible refine (hrm _).mono ?_); intro e wr h; obtain ⟨ar, cr, rfl, hr, hbr⟩ := made_row h; clear h; have hR := hU.trans (hbr.mono hU.size); have hu2 := row_below hu hbr rfl)
    | (go_at_call 10; (with_reducible refine (ints_same _ _ _ _ _ _ _ _ hu2 hr).mono ?_); rintro e wi ⟨rfl, ni, rfl⟩; have hI := below_drewN hR ni; have hu3 := row_below hu2 (below_drewN (Below.refl _ _) ni) rfl)
    | (go_at_call 12; (first | with_reducible refine (H1.out _ hI).mono ?_ | with_reducible refine (H3.out _ _ _ _ hI hu3).mono ?_); rintro e w' ⟨rfl, rfl⟩)
    | (go_at_call 13; (first | with_reducible refine (H2.out _ hI).mono ?_ | with_reducible refine (H4.out _ _ _ _ hI hu3).mono ?_ | with_reducible refine (H6.out _ _ _ _ hI hu3).mono ?_); rintro e w' ⟨rfl, rfl⟩)
    | (go_at_call 14; (with_reducible refine (H5.out _ _ _ _ hI hu3).mono ?_); rintro e w' ⟨rfl, rfl⟩))
  all_goals (go_ret; first | exact ⟨rfl, hI⟩ | exact ⟨rfl, hA⟩)
end Go.Proofs.Ytchjipkfdnfgpaa.sumTablesWalk
