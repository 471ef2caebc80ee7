/- The walk of SumParts: a sum of parts is that of the whole, by every table, and by the usual one as bit by bit. -/
import Derived.Test.YtchjipkfdnfgpaaSumAlive
import Derived.Test.YtchjipkfdnfgpaaSumRef2
namespace Go.Proofs.Ytchjipkfdnfgpaa.sumPartsWalk
open Go.RowKit Go.Shelf
theorem bits_eq (l : List Int) (hl : Bytes l) : S.more (S.mk S.Poly) 0 l = 4294967295 - (S.bit l : Int) := by
  have h1 : S.more (S.mk S.Poly) 0 l = 4294967295 - (S.run (S.mk S.Poly) 4294967295 l : Int) := if_pos ⟨S.mk_isT _ (by decide), rfl⟩
  rw [h1, S.bit_run l (fun x hx => by
    obtain ⟨i, hi, rfl⟩ := List.getElem_of_mem hx
    have := hl i
    rwa [List.getElem?_eq_getElem hi] at this)]
theorem bytes_append {a b : List Int} (ha : Bytes a) (hb : Bytes b) : Bytes (a ++ b) := by
  intro i
  rw [List.getElem?_append]
  split
  · exact ha i
  · exact hb _
set_option maxRecDepth 100000 in
set_option maxHeartbeats 2000000 in
theorem walk (a0 : Int) (a1 : Option Addr) (len1 cap1 : Nat) (z1 : List Int) (a2 : Option Addr) (len2 cap2 : Nat) (z2 : List Int) (w : World) (w0 : (Lit.int .i64 a0).wf = true) (w1 : IsRow .u8 w a1 len1 cap1 z1) (w2 : IsRow .u8 w a2 len2 cap2 z2) :
    Calls Try.prog 5 #[.int .i64 a0, .slice a1 len1 cap1, .slice a2 len2 cap2] w fun e w' => e = .returned (.bool true) ∧ Below w.heap.size w w' := by
  obtain ⟨i0, hi, hz0, hz1, hz2⟩ := info_parts info_u8
  obtain ⟨l0, u0⟩ := wf_i64 w0
  obtain ⟨hb1, hbw1⟩ := row_of_isRow w1
  obtain ⟨hb2, hbw2⟩ := row_of_isRow w2
  have bb1 := bytes_of hbw1
  have bb2 := bytes_of hbw2
  clear w0 w1 w2 hbw1 hbw2
  generalize z1.take len1 = x at *
  generalize z2.take len2 = y at *
  have hal := fun W => sumAlive_any W
  by_cases hbig : len1 ≤ 300 ∧ len2 ≤ 300 ∧ 0 ≤ a0 ∧ a0 ≤ 4294967295
  · obtain ⟨n1, n2, n3, n4⟩ := hbig
    have hn : S.num a0 = true := (S.num_iff a0).2 ⟨n3, n4⟩
    obtain ⟨p, rfl⟩ := Int.eq_ofNat_of_zero_le n3
    have hmk : ∀ W, Calls Try.prog 9 #[.int .i64 (p : Int)] W fun e w' => ∃ a cap, e = .returned (.slice a 256 cap) ∧ Row w' .i64 a 256 cap (S.mk p) ∧ Below W.heap.size W w' := fun W =>
      (make_any p W l0 u0).mono fun e w' h => by
        obtain ⟨a, cap, h1, h2, h3⟩ := made_row h
        have e1 : S.make (p : Int) = S.mk p := by unfold S.make; rw [if_pos hn, Int.toNat_natCast]
        rw [e1] at h1 h2
        rw [S.mk_len] at h1 h2
        exact ⟨a, cap, h1, h2, h3⟩
    have hpo := fun W => make_poly W
    have hpm := S.mk_isT p (by omega)
    have hmo : S.num (S.more (S.mk p) 0 x) = true := (S.more_num x hpm rfl).1
    have hms := (S.num_iff _).1 hmo
    have hpt := S.more_parts (S.mk p) 0 x y rfl
    have hbt := bits_eq (x ++ y) (bytes_append bb1 bb2)
    have hlx := hb1.1
    have hly := hb2.1
    have o1 : ∀ W a c, Row W .i64 a 256 c (S.mk p) → Below w.heap.size w W → _ := fun W a c hr h => of_any a 256 c _ _ _ _ _ W hr (row_below hb1 h rfl) bb1
    have o2 : ∀ W a c, Row W .i64 a 256 c (S.mk p) → Below w.heap.size w W → _ := fun W a c hr h => more_any a 256 c _ (S.more (S.mk p) 0 x) _ _ _ _ W hr (row_below hb2 h rfl) bb2 (by omega) (by omega)
    have o3 : ∀ W a c b n d, Row W .i64 a 256 c (S.mk p) → Row W .u8 b n d (x ++ y) → _ := fun W a c b n d hr h => of_any a 256 c _ b n d _ W hr h (bytes_append bb1 bb2)
    have o4 : ∀ W a c b n d, Row W .i64 a 256 c (S.mk S.Poly) → Row W .u8 b n d (x ++ y) → _ := fun W a c b n d hr h => of_any a 256 c _ b n d _ W hr h (bytes_append bb1 bb2)
    have o5 : ∀ W b n d, Row W .u8 b n d (x ++ y) → _ := fun W b n d h => ref04Bits_any b n d _ W h (bytes_append bb1 bb2)
    rw [hpt] at o2
    rw [hbt] at o4
    generalize S.more (S.mk p) 0 x = r1 at *
    generalize S.more (S.mk p) 0 (x ++ y) = r2 at *
    generalize 4294967295 - (S.bit (x ++ y) : Int) = r3 at *
    have O1 := Lib.hid o1; have O2 := Lib.hid o2; have O3 := Lib.hid o3; have O4 := Lib.hid o4; have O5 := Lib.hid o5
    have HB1 := Lib.hid hb1; have HB2 := Lib.hid hb2
    have HLX := Lib.hid hlx; have HLY := Lib.hid hly
    have d1 : decide ((300 : Int) < (len1 : Int)) = false := by simp; omega
    have d2 : decide ((300 : Int) < (len2 : Int)) = false := by simp; omega
    have d3 : decide ((p : Int) < 0) = false := by simp
    have d4 : decide (4294967295 < (p : Int)) = false := by simp; omega
    clear o1 o2 o3 o4 o5 hpt hbt hlx hly hb1 hb2 bb1 bb2 hmo hms hn hpm
    have HO : ∀ l : List Int, ∀ u ∈ l.map (Value.int .u8), u.oneCell' = true := fun l u hu => by
      simp only [List.mem_map] at hu
      obtain ⟨n, _, rfl⟩ := hu
      rfl
    have HO := Lib.hid HO
    go_enter Try.func5, Try.ntmps5
    go_wp2_with (first
      | (go_at_call 8; (with_reducible refine (hal _).mono ?_); rintro e wA ⟨rfl, hA⟩)
      | (go_at_call 9; (first | ((with_reducible refine (hmk _).mono ?_); rintro e wu ⟨au, cu, rfl, hu, hbu⟩; have hU := hA.trans (hbu.mono hA.size)) | ((with_reducible refine (hpo _).mono ?_); rintro e wv ⟨av, cv, rfl, hv, hbv⟩; have hV := hU.trans (hbv.mono hU.size); have hu2 := row_below hu hbv rfl)))
      | (at_builtin; refine wpList_append_cells _ rfl _ _ 23 rfl wv.heap.size 5 i0 (.int .u8 0) 1 1 Try.underlying23 hi hz0 hz1 hz2 rfl (by decide) (.slice none 0 0) 0 [] rfl (World.ownsRow_nil _ _ _ _) a1 len1 cap1 (x.map (Value.int .u8)) rfl (cells_of_row (row_below HB1.out hV rfl)) (HO.out x) (by unfold maxLen; omega) (by omega) (Nat.le_refl _) ?_; intro v1 w1 hown1 hg1; have hbl1 := below_grown hg1 (World.ownsRow_nil wv wv.heap.size 5 1) (Nat.le_refl _))
      | (at_builtin; refine wpList_append_cells _ rfl _ _ 23 rfl wv.heap.size 5 i0 (.int .u8 0) 1 1 Try.underlying23 hi hz0 hz1 hz2 rfl (by decide) v1 (0 + len1) ([] ++ x.map (Value.int .u8)) rfl hown1 a2 len2 cap2 (y.map (Value.int .u8)) rfl (cells_of_row (row_below HB2.out (hV.trans (hbl1.mono hV.size)) rfl)) (HO.out y) (by unfold maxLen; omega) (by omega) hbl1.size ?_; intro v2 w2 hown2 hg2; have hbl2 := hbl1.trans (below_grown hg2 hown1 hbl1.size); obtain ⟨ab, cb, rfl, hab⟩ := row_of_owns (k := .u8) (l := x ++ y) (ownsRow_nth (m := len1 + len2) hown2 (by omega) (by simp)); have hE := hV.trans (hbl2.mono hV.size); have hu3 := row_below hu2 hbl2 rfl; have hv3 := row_below hv hbl2 rfl)
      | (go_at_call 14; (first | with_reducible refine (O1.out _ _ _ hu3 hE).mono ?_ | with_reducible refine (O3.out _ _ _ _ _ _ hu3 hab).mono ?_ | with_reducible refine (O4.out _ _ _ _ _ _ hv3 hab).mono ?_); rintro e w' ⟨rfl, rfl⟩)
      | (go_at_call 12; (with_reducible refine (O2.out _ _ _ hu3 hE).mono ?_); rintro e w' ⟨rfl, rfl⟩)
      | (go_at_call 20; (with_reducible refine (O5.out _ _ _ _ hab).mono ?_); rintro e w' ⟨rfl, rfl⟩))
    go_ret
    exact ⟨rfl, hE⟩
  · clear hb1 hb2 bb1 bb2
    by_cases h1 : 300 < len1
    · have d1 : decide ((300 : Int) < (len1 : Int)) = true := by simp; omega
      go_enter Try.func5, Try.ntmps5
      go_wp2_with (go_at_call 8; (with_reducible refine (hal _).mono ?_); rintro e wA ⟨rfl, hA⟩)
      go_ret
      exact ⟨rfl, hA⟩
    · have d1 : decide ((300 : Int) < (len1 : Int)) = false := by simp; omega
      by_cases h2 : 300 < len2
      · have d2 : decide ((300 : Int) < (len2 : Int)) = true := by simp; omega
        go_enter Try.func5, Try.ntmps5
        go_wp2_with (go_at_call 8; (with_reducible refine (hal _).mono ?_); rintro e wA ⟨rfl, hA⟩)
        go_ret
        exact ⟨rfl, hA⟩
      · have d2 : decide ((300 : Int) < (len2 : Int)) = false := by simp; omega
        by_cases h3 : a0 < 0
        · have d3 : decide (a0 < 0) = true := by simpa using h3
          go_enter Try.func5, Try.ntmps5
          go_wp2_with (go_at_call 8; (with_reducible refine (hal _).mono ?_); rintro e wA ⟨rfl, hA⟩)
          go_ret
          exact ⟨rfl, hA⟩
        · have d3 : decide (a0 < 0) = false := by simpa using h3
          have d4 : decide (4294967295 < a0) = true := by simp; omega
          go_enter Try.func5, Try.ntmps5
          go_wp2_with (go_at_call 8; (with_reducible refine (hal _).mono ?_); rintro e wA ⟨rfl, hA⟩)
          go_ret
          exact ⟨rfl, hA⟩
end Go.Proofs.Ytchjipkfdnfgpaa.sumPartsWalk
