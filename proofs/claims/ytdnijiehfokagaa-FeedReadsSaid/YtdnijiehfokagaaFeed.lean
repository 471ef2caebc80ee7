/- Package feed: isKind, fits, checked; bytes.Equal. -/
import Derived.Test.YtdnijiehfokagaaSumAlive
import Derived.Test.YtdnijiehfokagaaFeedMath
import Derived.Deep.RegionHeld3
namespace Go.Proofs.Ytdnijiehfokagaa
open Go.RowKit Go.Shelf
theorem isKind_any (n : Int) (w : World) : Calls Try.prog 19 #[.int .i64 n] w fun e w' => e = .returned (.bool (decide (1 ≤ n ∧ n ≤ 9))) ∧ w = w' := by
  by_cases h1 : 1 ≤ n
  · by_cases h9 : n ≤ 9
    · have d1 : decide (1 ≤ n) = true := by simpa using h1
      have d9 : decide (n ≤ 9) = true := by simpa using h9
      have hg : decide (1 ≤ n ∧ n ≤ 9) = true := by simp; omega
      rw [hg]
      have HG := Lib.hid hg; clear hg
      go_enter Try.func19, Try.ntmps19
      go_wp2
      go_ret
      exact ⟨rfl, rfl⟩
    · have d1 : decide (1 ≤ n) = true := by simpa using h1
      have d9 : decide (n ≤ 9) = false := by simpa using h9
      have hg : decide (1 ≤ n ∧ n ≤ 9) = false := by simp; omega
      rw [hg]
      have HG := Lib.hid hg; clear hg
      go_enter Try.func19, Try.ntmps19
      go_wp2
      go_ret
      exact ⟨rfl, rfl⟩
  · have d1 : decide (1 ≤ n) = false := by simpa using h1
    have hg : decide (1 ≤ n ∧ n ≤ 9) = false := by simp; omega
    rw [hg]
    have HG := Lib.hid hg; clear hg
    go_enter Try.func19, Try.ntmps19
    go_wp2
    go_ret
    exact ⟨rfl, rfl⟩
theorem fits5_any (i : Nat) (x : Int) (w : World) (hx0 : 0 ≤ x) (hx1 : x ≤ 255) : Calls Try.prog 35 #[.int .i64 (i : Int), .int .u8 x] w fun e w' => e = .returned (.bool (F.fits i x)) ∧ w = w' := by
  have hk := fun w => isKind_any x w
  by_cases i0 : i = 0
  · have d0 : ((i : Int) == 0) = true := by simp; omega
    have hg : F.fits i x = (x == 208) := by rw [F.fits, if_pos i0]
    rw [hg]
    have HG := Lib.hid hg; clear hg hk i0
    go_enter Try.func35, Try.ntmps35
    go_wp2
    go_ret
    exact ⟨rfl, rfl⟩
  · have d0 : ((i : Int) == 0) = false := by simp; omega
    by_cases i1 : i = 1
    · have d1 : ((i : Int) == 1) = true := by simp; omega
      have hg : F.fits i x = (x == 161) := by rw [F.fits, if_neg i0, if_pos i1]
      rw [hg]
      have HG := Lib.hid hg; clear hg hk i0 i1
      go_enter Try.func35, Try.ntmps35
      go_wp2
      go_ret
      exact ⟨rfl, rfl⟩
    · have d1 : ((i : Int) == 1) = false := by simp; omega
      by_cases i2 : i = 2
      · have d2 : ((i : Int) == 2) = true := by simp; omega
        have hg : F.fits i x = (x == 1) := by rw [F.fits, if_neg i0, if_neg i1, if_pos i2]
        rw [hg]
        have HG := Lib.hid hg; clear hg hk i0 i1 i2
        go_enter Try.func35, Try.ntmps35
        go_wp2
        go_ret
        exact ⟨rfl, rfl⟩
      · have d2 : ((i : Int) == 2) = false := by simp; omega
        have hg : F.fits i x = decide (1 ≤ x ∧ x ≤ 9) := by rw [F.fits, if_neg i0, if_neg i1, if_neg i2]
        rw [hg]
        generalize decide (1 ≤ x ∧ x ≤ 9) = g at hk
        have HG := Lib.hid hg; clear hg i0 i1 i2
        go_enter Try.func35, Try.ntmps35
        go_wp2_with (go_at_call 19; (with_reducible refine (hk _).mono ?_); rintro e w' ⟨rfl, rfl⟩)
        go_ret
        exact ⟨rfl, rfl⟩
theorem conv_row {w : World} {a : Option Addr} {n c : Nat} {l : List Int} (h : Row w .u8 a n c l) : (convert 22 9 (.slice a n c)).run Try.prog w = .ok (.string (strOfNums l)) w := by
  obtain ⟨h1, _, _, h4⟩ := h
  cases a with
  | none =>
    obtain rfl : n = 0 := by rcases h4 with h | ⟨_, _, h, _⟩ <;> first | exact h | cases h
    obtain rfl : l = [] := List.length_eq_zero_iff.1 h1
    exact run_convert_bytes_nil w _ _ Try.underlying22 Try.underlying5 0 c _ Try.underlying9
  | some ad =>
    rcases h4 with rfl | ⟨b, off, e, hc⟩
    · obtain rfl : l = [] := List.length_eq_zero_iff.1 h1
      obtain ⟨b, off, sp⟩ := ad
      rw [run_convert_bytes_string w 22 9 5 _ 0 c Try.underlying22 Try.underlying5 Try.underlying9,
        run_bytesToString w ⟨b, off, sp⟩ 0 c [] (run_loadCells_list (P := Try.prog) w ⟨b, off, sp⟩ [] (by simp))]
      rfl
    · cases e
      exact run_convert_bytes_arg w _ _ Try.underlying22 Try.underlying5 b off n c l h1 (fun i hi => by simpa [List.getD] using hc i hi) _ Try.underlying9
theorem strOf_inj {l r : List Int} (hl : Bytes l) (hr : Bytes r) : (strOfNums l = strOfNums r) ↔ l = r := by
  constructor
  · intro h
    have := congrArg strB h
    have f : ∀ l, Bytes l → ∀ x ∈ l, 0 ≤ x ∧ x ≤ 255 := fun l hl x hx => by
      obtain ⟨i, hi, rfl⟩ := List.getElem_of_mem hx
      have := hl i
      rwa [List.getElem?_eq_getElem hi] at this
    rwa [strB_strOfNums l (f l hl), strB_strOfNums r (f r hr)] at this
  · intro h; rw [h]
theorem equal_any (a b : Option Addr) (n m c d : Nat) (l r : List Int) (w : World) (hl : Row w .u8 a n c l) (hr : Row w .u8 b m d r) (bl : Bytes l) (br : Bytes r) :
    Calls Try.prog 37 #[.slice a n c, .slice b m d] w fun e w' => e = .returned (.bool (decide (l = r))) ∧ w = w' := by
  have c1 := conv_row hl
  have c2 := conv_row hr
  have hg : ((strOfNums l).toList == (strOfNums r).toList) = decide (l = r) := by
    rw [Bool.eq_iff_iff, beq_iff_eq, decide_eq_true_iff, ← strOf_inj bl br]
    exact ⟨fun h => by
      apply ByteArray.ext
      apply Array.toList_inj.1
      simpa [toList_data] using h, fun h => by rw [h]⟩
  have hl1 : l.length = n := hl.1
  have hr1 : r.length = m := hr.1
  generalize decide (l = r) = g at hg
  generalize strOfNums l = s at *
  generalize strOfNums r = t at *
  have H1 := Lib.hid hl1; have H2 := Lib.hid hr1
  clear hl hr bl br hl1 hr1
  go_enter Try.func37, Try.ntmps37
  go_wp2
  go_ret
  exact ⟨rfl, rfl⟩
theorem bytes_mem {l : List Int} (h : Bytes l) : ∀ x ∈ l, 0 ≤ x ∧ x ≤ 255 := fun x hx => by
  obtain ⟨i, hi, rfl⟩ := List.getElem_of_mem hx
  have := h i
  rwa [List.getElem?_eq_getElem hi] at this
theorem mem_bytes {l : List Int} (h : ∀ x ∈ l, 0 ≤ x ∧ x ≤ 255) : Bytes l := by
  intro i
  rcases Nat.lt_or_ge i l.length with h1 | h1
  · rw [List.getElem?_eq_getElem h1]; exact h _ (List.getElem_mem h1)
  · rw [List.getElem?_eq_none h1]; simp
theorem bytes_drop {l : List Int} (h : Bytes l) (n : Nat) : Bytes (l.drop n) := mem_bytes fun x hx => bytes_mem h x (List.mem_of_mem_drop hx)
theorem bytes_take {l : List Int} (h : Bytes l) (n : Nat) : Bytes (l.take n) := mem_bytes fun x hx => bytes_mem h x (List.mem_of_mem_take hx)
theorem bytes_app {l r : List Int} (h : Bytes l) (k : Bytes r) : Bytes (l ++ r) := mem_bytes fun x hx => by
  rcases List.mem_append.1 hx with hx | hx
  · exact bytes_mem h x hx
  · exact bytes_mem k x hx
theorem chk_b (l : List Int) : Bytes (F.chk l) := put_b _
theorem size_u8 (w : World) : (sizeOf (Try.prog.elem 22)).run Try.prog w = .ok 1 w := by kernel_rfl
theorem row_at {W : World} {a : Option Addr} {n c : Nat} {l : List Int} (h : Row W .u8 a n c l) (q k m : Nat) (hk : q + k ≤ n) (hm : q + k ≤ m) (hc : m ≤ c) : Row W .u8 (if m = q then a else a.map (·.add (q * 1))) k (m - q) ((l.drop q).take k) := by
  obtain ⟨h1, h2, h3, h4⟩ := h
  refine ⟨by simp; omega, by omega, by omega, ?_⟩
  rcases h4 with h0 | ⟨b, off, rfl, hcl⟩
  · exact .inl (by omega)
  · by_cases hmq : m = q
    · exact .inl (by omega)
    · rw [if_neg hmq]
      refine .inr ⟨b, off + q, by simp [Addr.add], fun i hi => ?_⟩
      have := hcl (q + i) (by omega)
      rw [← Nat.add_assoc] at this
      rw [this, List.getElem?_take, if_pos hi, List.getElem?_drop]
/-- b[q:] -/
theorem sub_low (a : Option Addr) (n c q : Nat) (hq : q ≤ n) : ∃ a', (∀ W, (Instr.slice 22 (.slice a n c) (some (.int .i64 (q : Int))) none none).run Try.prog W = .ok (.slice a' (n - q) (c - q)) W) ∧
    ∀ W l, Row W .u8 a n c l → Row W .u8 a' (n - q) (c - q) (l.drop q) := by
  refine ⟨if c = q then a else a.map (·.add (q * 1)), fun W => ?_, fun W l h => ?_⟩
  · have h1 := run_slice_l (P := Try.prog) W 22 a n c Try.underlying22 .i64 (q : Int) (by omega) (by omega)
    rw [size_u8 W] at h1
    simpa [Result.andThen, sliced] using h1
  · have := row_at h q (n - q) c (by omega) (by have := h.2.1; omega) (Nat.le_refl _)
    rwa [List.take_of_length_le (by have := h.1; simp; omega)] at this
/-- b[:q] -/
theorem sub_high (a : Option Addr) (n c q : Nat) (hq : q ≤ n) (hnc : n ≤ c) : ∃ a', (∀ W, (Instr.slice 22 (.slice a n c) none (some (.int .i64 (q : Int))) none).run Try.prog W = .ok (.slice a' q c) W) ∧
    ∀ W l, Row W .u8 a n c l → Row W .u8 a' q c (l.take q) := by
  refine ⟨if c = 0 then a else a.map (·.add (0 * 1)), fun W => ?_, fun W l h => ?_⟩
  · have h1 := run_slice_h (P := Try.prog) W 22 a n c Try.underlying22 .i64 (q : Int) (by omega) (by omega)
    rw [size_u8 W] at h1
    simpa [Result.andThen, sliced] using h1
  · have := row_at h 0 q c (by omega) (by omega) (Nat.le_refl _)
    simpa using this
/-- b[q:r] -/
theorem sub_both (a : Option Addr) (n c q r : Nat) (hq : q ≤ r) (hr : r ≤ n) (hnc : n ≤ c) : ∃ a', (∀ W, (Instr.slice 22 (.slice a n c) (some (.int .i64 (q : Int))) (some (.int .i64 (r : Int))) none).run Try.prog W = .ok (.slice a' (r - q) (c - q)) W) ∧
    ∀ W l, Row W .u8 a n c l → Row W .u8 a' (r - q) (c - q) ((l.drop q).take (r - q)) := by
  refine ⟨if c = q then a else a.map (·.add (q * 1)), fun W => ?_, fun W l h => ?_⟩
  · have h1 := run_slice_lh (P := Try.prog) W 22 a n c Try.underlying22 .i64 .i64 (q : Int) (r : Int) (by omega) (by omega) (by omega)
    rw [size_u8 W] at h1
    simpa [Result.andThen, sliced] using h1
  · exact row_at h q (r - q) c (by omega) (by omega) (Nat.le_refl _)
/-- made: new memory, a row of bytes -/
def MadeR (w : World) (l : List Int) (e : Ending) (w' : World) : Prop := ∃ a cap, e = .returned (.slice a l.length cap) ∧ Row w' .u8 a l.length cap l ∧ Below w.heap.size w w'
set_option maxRecDepth 100000 in
set_option maxHeartbeats 2000000 in
theorem checked_any (a : Option Addr) (n c : Nat) (l : List Int) (w : World) (h : Row w .u8 a n c l) (hl : Bytes l) (hn : 2 ≤ n) :
    Calls Try.prog 21 #[.slice a n c] w (MadeR w (F.chk (l.drop 2))) := by
  obtain ⟨a2, hsl, hrw⟩ := sub_low a n c 2 hn
  have hM : ∀ W, Below w.heap.size w W → Calls Try.prog 27 #[.int .i64 3988292384] W fun e w' => ∃ a cap, e = .returned (.slice a 256 cap) ∧ Row w' .i64 a 256 cap (S.mk S.Poly) ∧ Below w.heap.size w w' := fun W hW =>
    (make_poly W).mono fun e w' ⟨b, k, h1, h2, h3⟩ => ⟨b, k, h1, h2, hW.trans (h3.mono hW.size)⟩
  have hO : ∀ W b k, Below w.heap.size w W → Row W .i64 b 256 k (S.mk S.Poly) → Calls Try.prog 26 #[.slice b 256 k, .slice a2 (n - 2) (c - 2)] W fun e w' => e = .returned (.int .i64 (S.more (S.mk S.Poly) 0 (l.drop 2))) ∧ W = w' := fun W b k hW hT =>
    of_any _ _ _ _ _ _ _ _ W hT (hrw W l (row_below h hW rfl)) (bytes_drop hl 2)
  have hP : ∀ n W, Below w.heap.size w W → Calls Try.prog 20 #[.int .i64 n] W fun e w' => ∃ a3 c3, e = .returned (.slice a3 4 c3) ∧ Row w' .u8 a3 4 c3 (S.put n) ∧ Below w.heap.size w w' := fun n W hW => (put_any n W).mono fun e w' h3 => by
    obtain ⟨a3, c3, rfl, hr3, hb3⟩ := madeB_row h3
    exact ⟨a3, c3, rfl, hr3, hW.trans (hb3.mono hW.size)⟩
  have hB := Below.refl w.heap.size w
  rw [show ((2 : Nat) : Int) = 2 from rfl] at hsl
  have HM := Lib.hid hM; have HO := Lib.hid hO; have HP := Lib.hid hP
  have hn2 : (2 : Int) ≤ (n : Int) := by omega
  show Calls _ _ _ _ (MadeR w (S.put (S.more (S.mk S.Poly) 0 (l.drop 2))))
  generalize S.more (S.mk S.Poly) 0 (l.drop 2) = x at *
  clear hM hO hP h hl hrw
  go_enter Try.func21, Try.ntmps21
  go_wp2
  go_region_held3 (fun W' => Below w.heap.size w W') (first | assumption | exact below_drewN (by assumption) _ | exact below_drew _) (first
    | (go_at_call 27; (with_reducible refine (HM.out _ (by assumption)).mono ?_); rintro e w1 ⟨b, k, rfl, hT, hb1⟩)
    | (go_at_call 26; (with_reducible refine (HO.out _ _ _ (by assumption) hT).mono ?_); rintro e w' ⟨rfl, rfl⟩)
    | (go_at_call 20; (with_reducible refine (HP.out _ _ (by assumption)).mono ?_); rintro e w3 ⟨a3, c3, rfl, hr3, hb3⟩))
  go_wp2
  go_ret
  exact ⟨_, _, rfl, hr3, by assumption⟩
end Go.Proofs.Ytdnijiehfokagaa
