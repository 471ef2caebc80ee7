/- The walk of BinParts: bytes put together are read as the one and the other; a reader that is bad stays so, and has nothing left. -/
import Derived.Test.YtihpalbmkcoalaaBinAlive
import Derived.Deep.RegionHeld3
namespace Go.Proofs.Ytihpalbmkcoalaa.binPartsWalk
open Go.RowKit Go.Shelf
attribute [local go_sem] Oper.semAt_some
theorem byte_at {p q : Nat} {x y : List Int} (hx : Bytes x) (hq : q < x.length) (w : World) (h : RD w p (some (x.drop q ++ y))) : Calls Try.prog 23 #[.pointer (some ⟨p, 0, none⟩)] w fun e w' => e = .returned (.int .i64 (x[q]?.getD 0)) ∧ RD w' p (some (x.drop (q + 1) ++ y)) ∧ w.grownBy w' (some p) := by
  refine (rdByte_any p _ w h).mono ?_
  rintro e w' ⟨rfl, h1, h2⟩
  have e1 : x.drop q ++ y = x[q] :: (x.drop (q + 1) ++ y) := by rw [List.drop_eq_getElem_cons hq]; rfl
  rw [e1, rByte_cons] at h1
  rw [e1, rByte_cons]
  have := hx q
  rw [List.getElem?_eq_getElem hq] at this ⊢
  simp only [Option.getD_some] at this ⊢
  exact ⟨ret_int (by omega), h1, h2⟩
theorem cell_p {W W' : World} {p B b off : Nat} {c : Value} (hg : W.grownBy W' (some p)) (hB : B ≤ p) (hBW : B ≤ W.heap.size) (hb : b < B) (h : W.cell? ⟨b, off, none⟩ = some c) : W'.cell? ⟨b, off, none⟩ = some c := by
  rw [← h]
  simp only [World.cell?, hg.block b (by omega) (by simp; omega)]
theorem cell_lt {W : World} {b off : Nat} {c : Value} (h : W.cell? ⟨b, off, none⟩ = some c) : b < W.heap.size := by
  simp only [World.cell?] at h
  rcases Nat.lt_or_ge b W.heap.size with h' | h'
  · exact h'
  · rw [Array.getElem?_eq_none h'] at h; cases h
theorem field_kind (k n : Int) (s : ByteArray) (a : Option Addr) (len cap : Nat) (w : World) : (Instr.field 24 (.agg #[.int .i64 k, .int .i64 n, .string s, .slice a len cap]) 0).run Try.prog w = .ok (.int .i64 k) w := by kernel_rfl
theorem zero_form {w : World} {x : Value} (h : Is w (rValue none).1 x) : ∃ a c, x = .agg #[.int .i64 0, .int .i64 0, .string ⟨#[]⟩, .slice a 0 c] := by
  have e : (rValue none).1 = zv := rfl
  rw [e] at h
  unfold zv Is at h
  obtain ⟨_, _, _, a, c, rfl, _⟩ := h
  exact ⟨a, c, rfl⟩
set_option maxRecDepth 100000 in
set_option maxHeartbeats 8000000 in
theorem walk (a0 : Option Addr) (len0 cap0 : Nat) (z0 : List Int) (a1 : Option Addr) (len1 cap1 : Nat) (z1 : List Int) (w : World) (w0 : IsRow .u8 w a0 len0 cap0 z0) (w1 : IsRow .u8 w a1 len1 cap1 z1) :
    Calls Try.prog 7 #[.slice a0 len0 cap0, .slice a1 len1 cap1] w fun e w' => e = .returned (.bool true) ∧ Below w.heap.size w w' := by
  obtain ⟨hx, hbw⟩ := row_of_isRow w0
  have hbx := bytes_of hbw
  clear w0 hbw
  obtain ⟨hy, hbw⟩ := row_of_isRow w1
  have hby := bytes_of hbw
  clear w1 hbw
  generalize z0.take len0 = x at *
  generalize z1.take len1 = y at *
  have hal := fun W => alive_any W
  by_cases hn0 : 300 < len0
  · have d0 : decide ((300 : Int) < (len0 : Int)) = true := by simp; omega
    clear hx hy hbx hby
    go_enter Try.func7, Try.ntmps7
    go_wp2_with (first | (go_at_call 8; (with_reducible refine (hal _).mono ?_); rintro e wA ⟨rfl, hA⟩))
    go_ret
    exact ⟨rfl, hA⟩
  have d0 : decide ((300 : Int) < (len0 : Int)) = false := by simp; omega
  by_cases hn1 : 300 < len1
  · have d1 : decide ((300 : Int) < (len1 : Int)) = true := by simp; omega
    clear hx hy hbx hby hn0
    go_enter Try.func7, Try.ntmps7
    go_wp2_with (first | (go_at_call 8; (with_reducible refine (hal _).mono ?_); rintro e wA ⟨rfl, hA⟩))
    go_ret
    exact ⟨rfl, hA⟩
  have d1 : decide ((300 : Int) < (len1 : Int)) = false := by simp; omega
  have hlx := hx.1
  have hly := hy.1
  have HX := Lib.hid hx; have HY := Lib.hid hy; have HBX := Lib.hid hbx; have HBY := Lib.hid hby
  have HLX := Lib.hid hlx; have HLY := Lib.hid hly
  have hm0 : len0 ≤ 300 := by omega
  have hm1 : len1 ≤ 300 := by omega
  have hbxy : Bytes (x ++ y) := fun i => by
    rw [List.getElem?_append]
    split
    · exact hbx i
    · exact hby _
  have HBXY := Lib.hid hbxy
  clear hx hy hbx hby hlx hly hn0 hn1 hbxy
  go_enter Try.func7, Try.ntmps7
  go_upto_region 6 with (first
    | (go_at_call 8; (with_reducible refine (hal _).mono ?_); rintro e wA ⟨rfl, hA⟩; have hAll := all_many wA 3 [(.slice a0 len0 cap0, x), (.slice none 0 0, []), (.slice a1 len1 cap1, y)] (List.forall_mem_cons.2 ⟨⟨_, _, _, rfl, row_below HX.out hA rfl⟩, List.forall_mem_cons.2 ⟨⟨none, 0, 0, rfl, rfl, Nat.le_refl _, by unfold maxLen; omega, .inl rfl⟩, List.forall_mem_cons.2 ⟨⟨_, _, _, rfl, row_below HY.out hA rfl⟩, by simp⟩⟩⟩) rfl (by omega) (by simp [HLX.out, HLY.out]; omega) #[.slice a0 len0 cap0, .slice none 0 0, .slice a1 len1 cap1] rfl)
    | (go_at_call 37; (with_reducible refine hAll.mono ?_); rintro e w1 ⟨v1, rfl, ho1, hb1⟩; obtain ⟨aa, ca, rfl, hr1⟩ := got_row (l := x ++ y) (n := len0 + len1) (v := v1) (base := wA.heap.size) (w' := w1) (by simpa using ho1) (by simp [HLX.out, HLY.out]); have hRead := rdRead_any aa (len0 + len1) ca (x ++ y) w1 hr1 HBXY.out (by omega))
    | (go_at_call 28; (with_reducible refine hRead.mono ?_); rintro e w2 ⟨p, rfl, hp, hR2, hb2⟩))
  have hb02 := hA.trans ((hb1.trans (hb2.mono hb1.size)).mono hA.size)
  have hpw : w.heap.size ≤ p := by have := hA.size; have := hb1.size; omega
  clear hAll hRead ho1 hr1 hA hb1 hb2 hp hal
  go_wp2_with fail
  go_loopw [6] (fun i wr => ∃ q : Nat, q ≤ len0 ∧ i = .int .i64 (q : Int) ∧ RD wr p (some (x.drop q ++ y)) ∧ Below w.heap.size w wr) (fun i _ => len0 - (intOf i).toNat)
  case atStart => exact ⟨0, Nat.zero_le _, rfl, by simpa using hR2, hb02⟩
  case round =>
  obtain ⟨q, hq, rfl, hR, hB⟩ := hrel
  by_cases hql : q < len0
  · have hdq : decide (q < len0) = true := by simp; omega
    have hx4 := HX.out.2.2.2
    rcases hx4 with h0 | ⟨b, off, rfl, hc⟩
    · omega
    have hcq := hc q hql
    have hbl := cell_lt hcq
    have hcq2 := (hB.cell (p := ⟨b, off + q, none⟩) hbl).trans hcq
    have hBy := fun W hW => byte_at (y := y) HBX.out (q := q) (by rw [HLX.out]; exact hql) W (p := p) hW
    have hx0 := HBX.out q
    have hR' := rd_below hR (below_drew' wr)
    have hsz := hB.size
    generalize x[q]?.getD 0 = c at *
    have hwc : IntKind.i64.wrap c = c := IntWalk.i64_in _ (by omega)
    have hcc : (c != c) = false := by simp
    have HBy := Lib.hid hBy
    have HB := Lib.hid hB
    clear hc hcq hR hR2 hB hb02 hBy
    go_wp2_with fail
    go_region_held3 (fun W => W.cell? ⟨b, off + q, none⟩ = some (.int .u8 c)) (first | (go_keep; done) | exact cell_p hg3 hpw hsz hbl hcq2) (first
      | (go_at_call 23; (with_reducible refine (HBy.out _ hR').mono ?_); rintro e w3 ⟨rfl, hR3, hg3⟩))
    all_goals (
      go_wp2_with fail
      go_roundw
      all_goals (first
        | (case' rel => exact ⟨q + 1, by omega, by go_num, hR3, HB.out.trans (below_p (grown_then (grown_of_below (below_drew' wr) _) hg3) hpw hsz)⟩)
        | (case' measure => simp [intOf]; omega)))
  · obtain rfl : q = len0 := by omega
    have hdq : decide (q < q) = false := by simp
    have hRy : RD wr p (some y) := by
      have : x.drop q = [] := List.drop_of_length_le (by rw [HLX.out]; omega)
      rwa [this, List.nil_append] at hR
    have hLe := rdLeft_any p (some y) wr hRy
    have hle : ((Bn.lf (some y)).length : Int) = (len1 : Int) := by simp only [Bn.lf]; rw [HLY.out]
    rw [hle] at hLe
    clear hR hR2 hb02 hle
    go_wp2_with (first | (go_at_call 22; (with_reducible refine hLe.mono ?_); rintro e w' ⟨rfl, rfl⟩))
    go_loopw [7] (fun i wr => ∃ q : Nat, q ≤ len1 ∧ i = .int .i64 (q : Int) ∧ RD wr p (some (y.drop q ++ [])) ∧ Below w.heap.size w wr) (fun i _ => len1 - (intOf i).toNat)
    case atStart => exact ⟨0, Nat.zero_le _, rfl, by simpa using hRy, hB⟩
    case round =>
    clear hRy hLe hB hdq hql
    obtain ⟨q2, hq2, rfl, hR, hB⟩ := hrel
    by_cases hql : q2 < len1
    · have hdq : decide (q2 < len1) = true := by simp; omega
      have hy4 := HY.out.2.2.2
      rcases hy4 with h0 | ⟨b, off, rfl, hc⟩
      · omega
      have hcq := hc q2 hql
      have hbl := cell_lt hcq
      have hcq2 := (hB.cell (p := ⟨b, off + q2, none⟩) hbl).trans hcq
      have hBy := fun W hW => byte_at (y := []) HBY.out (q := q2) (by rw [HLY.out]; exact hql) W (p := p) hW
      have hx0 := HBY.out q2
      have hR' := rd_below hR (below_drew' _)
      have hsz := hB.size
      generalize y[q2]?.getD 0 = c at *
      have hwc : IntKind.i64.wrap c = c := IntWalk.i64_in _ (by omega)
      have hcc : (c != c) = false := by simp
      have HBy := Lib.hid hBy
      have HB := Lib.hid hB
      clear hc hcq hR hB hBy
      go_wp2_with fail
      go_region_held3 (fun W => W.cell? ⟨b, off + q2, none⟩ = some (.int .u8 c)) (first | (go_keep; done) | exact cell_p hg3 hpw hsz hbl hcq2) (first
        | (go_at_call 23; (with_reducible refine (HBy.out _ hR').mono ?_); rintro e w3 ⟨rfl, hR3, hg3⟩))
      all_goals (
        go_wp2_with fail
        go_roundw
        all_goals (first
          | (case' rel => exact ⟨q2 + 1, by omega, by go_num, hR3, HB.out.trans (below_p (grown_then (grown_of_below (below_drew' _) _) hg3) hpw hsz)⟩)
          | (case' measure => simp [intOf]; omega)))
    · obtain rfl : q2 = len1 := by omega
      have hdq : decide (q2 < q2) = false := by simp
      rw [List.append_nil, List.drop_of_length_le (by rw [HLY.out]; exact Nat.le_refl _)] at hR
      have hDo : Calls Try.prog 21 #[.pointer (some ⟨p, 0, none⟩)] _ (fun e w' => e = .returned (.bool true) ∧ _ = w') := rdDone_any p (some []) _ hR
      have hNu := rdNum_any p (some []) _ hR
      have en : Bn.rNum (some []) = (0, none) := rfl
      rw [en] at hNu
      have hsz := hB.size
      have HB := Lib.hid hB
      have hfk := field_kind
      clear hR hB
      go_wp2_with (first
        | (go_at_call 21; (with_reducible refine hDo.mono ?_); rintro e w' ⟨rfl, rfl⟩)
        | (go_at_call 24; (with_reducible refine hNu.mono ?_); rintro e w3 ⟨rfl, hR3, hg3⟩; have hBa : Calls Try.prog 20 #[.pointer (some ⟨p, 0, none⟩)] w3 (fun e w' => e = .returned (.bool true) ∧ w3 = w') := rdBad_any p none w3 hR3; have hLe : Calls Try.prog 22 #[.pointer (some ⟨p, 0, none⟩)] w3 (fun e w' => e = .returned (.int .i64 0) ∧ w3 = w') := rdLeft_any p none w3 hR3; have hTx : Calls Try.prog 26 #[.pointer (some ⟨p, 0, none⟩)] w3 (fun e w' => e = .returned (.string ⟨#[]⟩) ∧ RD w' p none ∧ w3.grownBy w' (some p)) := rdText_any p none w3 hR3)
        | (go_at_call 20; (first | ((with_reducible refine hBa5.mono ?_); rintro e w' ⟨rfl, rfl⟩) | ((with_reducible refine hBa.mono ?_); rintro e w' ⟨rfl, rfl⟩)))
        | (go_at_call 22; (with_reducible refine hLe.mono ?_); rintro e w' ⟨rfl, rfl⟩)
        | (go_at_call 26; (with_reducible refine hTx.mono ?_); rintro e w4 ⟨rfl, hR4, hg4⟩; have hVa := rdValue_any p none w4 hR4)
        | (go_at_call 27; (with_reducible refine hVa.mono ?_); rintro e w5 ⟨v5, rfl, hF5, hR5, hg5⟩; obtain ⟨a5, c5, rfl⟩ := zero_form (fresh_is hF5); have hBa5 : Calls Try.prog 20 #[.pointer (some ⟨p, 0, none⟩)] w5 (fun e w' => e = .returned (.bool true) ∧ w5 = w') := rdBad_any p none w5 hR5))
      go_ret
      exact ⟨rfl, HB.out.trans (below_p (grown_then (grown_then hg3 hg4) hg5) hpw hsz)⟩
end Go.Proofs.Ytihpalbmkcoalaa.binPartsWalk
