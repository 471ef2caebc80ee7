/- Layer 6: what the statements ask first (alive). -/
import Derived.Test.YtihpalbmkcoalaaBinValue2
import Derived.Test.YtihpalbmkcoalaaBinPutW
import Derived.Test.YtihpalbmkcoalaaBinBackM
import Derived.Test.YtihpalbmkcoalaaRefCmp
import Derived.Test.YtihpalbmkcoalaaEq
namespace Go.Proofs.Ytihpalbmkcoalaa
open Go.RowKit Go.Shelf
attribute [local go_sem] Oper.semAt_some
/-- append onto bytes of one's own: the old slice reads as it did -/
theorem append_keep (w : World) (base g n cap : Nat) (xs : List Value) (hown : w.ownsRow base 5 1 (.slice (some ⟨g, 0, none⟩) n cap) n xs) (ad : Addr) (m c : Nat) (news : List Value) (hl : news.length = m)
    (hnews : ∀ j u, news[j]? = some u → w.cell? (ad.add j) = some u) (h1 : ∀ u ∈ news, u.oneCell' = true) (h63 : n + m ≤ 1000000000) (hbase : base ≤ w.heap.size) (ty : TypeId) :
    ∃ v' w', (Builtin.append_ #[27, 27] ty #[.slice (some ⟨g, 0, none⟩) n cap, .slice (some ad) m c]).run Try.prog w = .ok v' w' ∧ w'.ownsRow base 5 1 v' (n + m) (xs ++ news) ∧ Below base w w' ∧ w'.ownsRow base 5 1 (.slice (some ⟨g, 0, none⟩) n cap) n xs ∧ w.heap.size ≤ w'.heap.size := by
  obtain ⟨i0, hi, hz0, hz1, hz2⟩ := info_parts info_u8
  obtain ⟨v', w', hrun, h2, h3, _⟩ := run_append_own (P := Try.prog) w base 27 ty 5 i0 (.int .u8 0) 1 1 Try.underlying27 hi hz0 hz1 hz2 rfl (by decide) _ n xs hown ad m c news (by omega) hnews h1 (by unfold maxLen; omega) (by omega) hbase
  refine ⟨v', w', hrun, h2, below_grown h3 hown hbase, ?_, h3.size⟩
  obtain ⟨o1, o2⟩ := hown
  rcases o2 with ⟨e, _⟩ | ⟨g', cap', cur, e, hb, hg, hnc, hcm, hs, ht⟩
  · cases e
  · cases e
    refine ⟨o1, .inr ⟨g, cap, ?_⟩⟩
    by_cases hroom : n + m ≤ cap
    · have hr := run_append_room (P := Try.prog) w 27 ty 5 i0 Try.underlying27 hi g n cap cur hg ad m c news (by rw [hz1]; omega) hnews h1 hroom (by rw [hz1]; omega)
      rw [hrun] at hr
      simp only [Result.ok.injEq] at hr
      obtain ⟨_, rfl⟩ := hr
      rw [hz1]
      refine ⟨_, rfl, hb, setRow_heap w g cur _ 5 _ hg, hnc, hcm, ?_, ?_⟩
      · simp only [List.size_toArray, List.length_append, List.length_take, List.length_drop, Array.length_toList]
        omega
      · rw [Nat.mul_one] at ht ⊢
        rw [ht, List.append_assoc]
        rw [Nat.mul_one] at o1
        rw [← o1]
        exact List.take_left
    · have holds : ∀ j u, xs[j]? = some u → w.cell? ((⟨g, 0, none⟩ : Addr).add j) = some u := World.ownsRow.cells (g := g) ⟨o1, .inr ⟨g, cap, cur, rfl, hb, hg, hnc, hcm, hs, ht⟩⟩ rfl
      have hr := run_append_grow (P := Try.prog) w 27 ty 5 i0 (.int .u8 0) Try.underlying27 hi hz0 ⟨g, 0, none⟩ n cap xs (by rw [hz1]; exact o1) holds ad m c news (by rw [hz1]; omega) hnews (by omega) (by omega) (growslice_fits (by omega) (by rw [hz2]; omega))
      rw [hrun] at hr
      simp only [Result.ok.injEq] at hr
      obtain ⟨_, rfl⟩ := hr
      exact ⟨cur, rfl, hb, ((((Below.refl w.heap.size w).drew).alloc (Nat.le_refl _) _).block g (Array.getElem?_eq_some_iff.1 hg).1).trans hg, hnc, hcm, hs, ht⟩
/-- the document's example -/
def exB : PV := .mk 5 0 ⟨#[]⟩ [.mk 2 1 ⟨#[]⟩ []]
def eB : List Int := [5, 0, 0, 0, 1, 2, 0, 0, 0, 0, 0, 0, 0, 1]
theorem exB_right : rightV exB = true := by decide +kernel
theorem exB_put : putV exB = eB := by decide +kernel
theorem exB_val : valB exB = eB := by unfold valB; rw [if_pos exB_right, exB_put]
theorem exB_nums : numsV exB := by simp [exB, numsV, numsV.numsL, I64]
theorem rValue_put (v : PV) (hr : rightV v = true) (hn : numsV v) (r : List Int) : rValue (some (putV v ++ r)) = (v, some r) := by
  obtain ⟨ho, _, hd⟩ := right_ok hr
  unfold rValue
  rw [get_put 4 v ho hn hd r]
  simp only [rFin]
  rw [if_pos hr]
theorem exB_read : rValue (some (eB ++ [7])) = (exB, some [7]) := by rw [← exB_put]; exact rValue_put exB exB_right exB_nums [7]
theorem exB_is (w : World) : Is ((w.alloc (Obj.cells #[.int .i64 2, .int .i64 1, .string ⟨#[]⟩, .slice none 0 0] 24)).alloc (Obj.cells #[.int .i64 5, .int .i64 0, .string ⟨#[]⟩, .slice (some ⟨w.heap.size, 0, none⟩) 1 1] 24)) exB (.agg #[.int .i64 5, .int .i64 0, .string ⟨#[]⟩, .slice (some ⟨w.heap.size, 0, none⟩) 1 1]) := by
  unfold exB Is
  refine ⟨⟨by omega, by omega⟩, ⟨by omega, by omega⟩, by unfold maxLen; decide, _, 1, rfl, by decide, by unfold maxLen; decide, .inr ⟨w.heap.size, 0, rfl, isL_below ((Below.refl _ _).alloc (Nat.le_refl _) _) ?_⟩⟩
  unfold IsL IsL
  exact ⟨⟨_, _, _, _, ⟨by simp, by simp, by simp, by simp⟩, is_flat' _ 2 1 _ ⟨by omega, by omega⟩ ⟨by omega, by omega⟩ (by unfold maxLen; decide)⟩, trivial⟩
theorem below_p {W W' : World} {p B : Nat} (h : W.grownBy W' (some p)) (hp : B ≤ p) (hB : B ≤ W.heap.size) : Below B W W' := ⟨h.os, h.tape, h.output, h.size, fun k hk => h.block k (by omega) (by simp; omega)⟩
theorem owns_rd {W W' : World} {p : Nat} {s : Bn.St} (hR : RD W p s) (hg : W.grownBy W' (some p)) {base n : Nat} {v : Value} {xs : List Value} (h : W.ownsRow base 5 1 v n xs) : W'.ownsRow base 5 1 v n xs := by
  refine ⟨h.1, ?_⟩
  rcases h.2 with h | ⟨g, cap, cur, rfl, hb, hgb, r⟩
  · exact .inl h
  · refine .inr ⟨g, cap, cur, rfl, hb, ?_, r⟩
    rw [hg.block g (Array.getElem?_eq_some_iff.1 hgb).1 (fun e => ?_)]
    · exact hgb
    · obtain ⟨a, c, h1, _⟩ := hR
      have : g = p := by simpa using e
      subst this
      rw [show W.heap[g]? = _ from h1] at hgb
      cases hgb
set_option maxRecDepth 100000 in
set_option maxHeartbeats 8000000 in
theorem alive_any (w : World) : Calls Try.prog 8 #[] w fun e w' => e = .returned (.bool true) ∧ Below w.heap.size w w' := by
  have hInt := fun w => int_any 1 w
  go_enter Try.func8, Try.ntmps8
  go_upto_region 2 with (first | (go_at_call 38; (with_reducible refine (hInt _).mono ?_); rintro e w1 ⟨rfl, hb1⟩; have hI0 := exB_is w1; have hA1 := ((Below.refl w1.heap.size w1).alloc (Nat.le_refl _) (Obj.cells #[.int .i64 2, .int .i64 1, .string ⟨#[]⟩, .slice none 0 0] 24)).alloc (by simp) (Obj.cells #[.int .i64 5, .int .i64 0, .string ⟨#[]⟩, .slice (some ⟨w1.heap.size, 0, none⟩) 1 1] 24); have hV0 := vat_alloc (w1.alloc (Obj.cells #[.int .i64 2, .int .i64 1, .string ⟨#[]⟩, .slice none 0 0] 24)) #[.int .i64 5, .int .i64 0, .string ⟨#[]⟩, .slice (some ⟨w1.heap.size, 0, none⟩) 1 1]; rw [World.size_alloc] at hV0))
  generalize (w1.alloc (Obj.cells #[.int .i64 2, .int .i64 1, .string ⟨#[]⟩, .slice none 0 0] 24)).alloc (Obj.cells #[.int .i64 5, .int .i64 0, .string ⟨#[]⟩, .slice (some ⟨w1.heap.size, 0, none⟩) 1 1] 24) = W0 at *
  have hB0 := hb1.trans (hA1.mono hb1.size)
  have hVal := bvalue_any exB W0 _ hI0
  rw [exB_val] at hVal
  generalize w1.heap.size + 1 = b1 at *
  generalize w1.heap.size = g1 at *
  obtain ⟨⟨e0, e1, e2, e3⟩, _⟩ := box4 hV0
  clear hb1 hA1 hInt
  go_upto_region 3 with (first | (go_at_call 17; (with_reducible refine hVal.mono ?_); rintro e w2 ⟨v2, rfl, ho2, hb2⟩; obtain ⟨g2, c2, rfl, hr2, hg2⟩ := got_addr (n := 14) ho2 rfl (by omega)))
  have hA2 := (Below.refl _ w2).alloc (Nat.le_refl _) (.cells #[.int .u8 7] 5)
  obtain ⟨v3, w3, hrun, hown3, hb3, hkeep, hs3⟩ := append_keep (w2.alloc (.cells #[.int .u8 7] 5)) W0.heap.size g2 14 c2 (u8s eB) (ownsRow_below (ownsRow_nth ho2 rfl rfl) hA2) ⟨w2.heap.size, 0, none⟩ 1 1 [.int .u8 7] rfl (cells_new w2 [.int .u8 7] 5) (by simp [Value.oneCell']) (by omega) (by have := hb2.size; have := hA2.size; omega) 27
  obtain ⟨a3, c3, rfl, hr3⟩ := got_row (l := eB ++ [7]) (n := 15) (ownsRow_nth hown3 rfl (by simp [u8s])) rfl
  have hb03 : Below W0.heap.size W0 w3 := (hb2.trans (hA2.mono hb2.size)).trans hb3
  have hRead := rdRead_any a3 15 c3 (eB ++ [7]) w3 hr3 (bytes_lit _ (by decide)) (by omega)
  clear hown3 hr3 hb3 hs3 ho2 hr2 hb2 hA2 e0 e1 e2 e3
  go_upto_region 4 with (first
    | (at_builtin; refine Lib.wpList_append_run _ rfl _ _ _ _ rfl _ _ rfl rfl _ _ hrun ?_)
    | (go_at_call 28; (with_reducible refine hRead.mono ?_); rintro e w4 ⟨p, rfl, hp, hR4, hb4⟩))
  have hb04 := hb03.trans (hb4.mono hb03.size)
  have hV4 := vat_below hb04 hV0
  have hI4 := is_below hb04 _ _ hI0
  have ho4 := ownsRow_below hkeep hb4
  have hpW : W0.heap.size ≤ p := Nat.le_trans hb03.size hp
  have hp4 := rd_lt hR4
  have hValue := rdValue_any p _ w4 hR4
  rw [exB_read] at hValue
  have HI0 := Lib.hid hI0
  clear hrun hRead hb4 hkeep hV0 hI0 hVal
  go_upto_region 5 with (first | (go_at_call 27; (with_reducible refine hValue.mono ?_); rintro e w5 ⟨x, rfl, hF5, hR5, hg5⟩; obtain ⟨d0, d1, d2, d3, d4, d5, rfl⟩ := is_form (fresh_is hF5)))
  have hA5 := (Below.refl _ w5).alloc (Nat.le_refl _) (.cells #[.int .i64 d0, .int .i64 d1, .string d2, .slice d3 d4 d5] 24)
  have hx6 := vat_alloc w5 #[.int .i64 d0, .int .i64 d1, .string d2, .slice d3 d4 d5]
  have hIx6 := is_below hA5 _ _ (fresh_is hF5)
  have hR6 := rd_below hR5 hA5
  have hb45 := below_p hg5 hpW hb04.size
  have hb06 := hb04.trans (hb45.trans (hA5.mono (Nat.le_trans hb04.size hg5.size)))
  have hV6 := vat_below hA5 (vat_grown hV4 hg5 (by have := vat_lt hV4; have := hR4; intro e; subst e; exact rd_ne hR4 hV4 rfl))
  have hI6 := is_below hb06 _ _ HI0.out
  have ho6 := ownsRow_below (owns_rd hR4 hg5 ho4) hA5
  have hp6 := rd_lt hR6
  have hsz6 := hb06.size
  generalize hW6 : w5.alloc (.cells #[.int .i64 d0, .int .i64 d1, .string d2, .slice d3 d4 d5] 24) = W6 at *
  generalize w5.heap.size = b5 at *
  clear hF5 hR5 hg5 hA5 hb45 hV4 hI4 ho4 hR4 hp4 hValue hb04 hp hb03 hW6
  have hA7 := (Below.refl _ W6).alloc (Nat.le_refl _) (.cells #[.int .u8 5, .int .u8 0, .int .u8 0, .int .u8 0, .int .u8 1, .int .u8 2, .int .u8 0, .int .u8 0, .int .u8 0, .int .u8 0, .int .u8 0, .int .u8 0, .int .u8 0, .int .u8 1] 5)
  obtain ⟨ra, rc, re, hrow6⟩ := got_row (l := eB) (n := 14) ho6 rfl
  simp only [Value.slice.injEq, true_and] at re
  obtain ⟨rfl, rfl⟩ := re
  have hBy : Calls Try.prog 10 #[.slice (some ⟨g2, 0, none⟩) 14 c2, .slice (some ⟨W6.heap.size, 0, none⟩) 14 14] (W6.alloc (.cells #[.int .u8 5, .int .u8 0, .int .u8 0, .int .u8 0, .int .u8 1, .int .u8 2, .int .u8 0, .int .u8 0, .int .u8 0, .int .u8 0, .int .u8 0, .int .u8 0, .int .u8 0, .int .u8 1] 5)) fun e w' => e = .returned (.bool true) ∧ Below W6.heap.size W6 w' := by
    have h := refBytes_any (some ⟨g2, 0, none⟩) (some ⟨W6.heap.size, 0, none⟩) 14 14 c2 14 eB eB _ (row_below hrow6 hA7 rfl) (row_built W6 .u8 5 eB _ rfl 14 rfl (by unfold maxLen; omega) _ rfl)
    refine h.mono ?_
    rintro e w' ⟨rfl, n, rfl⟩
    exact ⟨by simp, below_drewN hA7 n⟩
  have hSame : ∀ W, Below W6.heap.size W6 W → Calls Try.prog 33 #[.agg #[.int .i64 d0, .int .i64 d1, .string d2, .slice d3 d4 d5], .agg #[.int .i64 5, .int .i64 0, .string ⟨#[]⟩, .slice (some ⟨g1, 0, none⟩) 1 1]] W fun e w' => e = .returned (.bool true) ∧ Below W.heap.size W w' := fun W hW => by
    have h := refSame_any exB exB W _ _ (is_below hW _ _ hIx6) (is_below hW _ _ hI6)
    rw [(same_bool exB exB).2 rfl] at h
    exact h
  have HSame := Lib.hid hSame
  have hNum := fun w => num_any 1 w
  rw [spn_in _ _ _ (by omega) (by omega)] at hNum
  have hText := fun w => btext_any ⟨#[97]⟩ w (by decide)
  have hByt := fun w => byte_any 2 w
  rw [spn_byte _ (by omega) (by omega)] at hByt
  have hLong := fun w => long_any 3 w
  have hl1 : (Bn.spl (Int.toNat 1) 4).length = 4 := rfl
  have hl2 : (Bn.spl (ByteArray.size ⟨#[97]⟩) 4 ++ strB ⟨#[97]⟩).length = 5 := rfl
  have hl4 : (spl64 3).length = 8 := rfl
  generalize Bn.spl (Int.toNat 1) 4 = l1 at *
  generalize Bn.spl (ByteArray.size ⟨#[97]⟩) 4 ++ strB ⟨#[97]⟩ = l2 at *
  generalize spl64 3 = l4 at *
  clear hIx6 hI6 ho6 hrow6 HI0 hSame
  go_wp2_with (first
    | (go_at_call 10; (with_reducible refine hBy.mono ?_); rintro e w8 ⟨rfl, hb8⟩; have hv8 := vat_below hb8 hV6; have hx8 := vat_below hb8 hx6; obtain ⟨⟨e0, e1, e2, e3⟩, _⟩ := box4 hv8; obtain ⟨⟨i0, i1, i2, i3⟩, _⟩ := box4 hx8)
    | (go_at_call 33; (with_reducible refine (HSame.out _ hb8).mono ?_); rintro e w9 ⟨rfl, hb9⟩; have hb69 := hb8.trans (hb9.mono hb8.size); have hR9 := rd_below hR6 hb69; have hLe := rdLeft_any p (some [7]) w9 hR9; have hDo := rdDone_any p (some [7]) w9 hR9; have hBt := rdByte_any p (some [7]) w9 hR9)
    | (go_at_call 22; (with_reducible refine hLe.mono ?_); rintro e w' ⟨rfl, rfl⟩)
    | (go_at_call 21; (first | ((with_reducible refine hDo2.mono ?_); rintro e w' ⟨rfl, rfl⟩) | ((with_reducible refine hDo.mono ?_); rintro e w' ⟨rfl, rfl⟩)))
    | (go_at_call 23; (with_reducible refine hBt.mono ?_); rintro e w10 ⟨rfl, hR10, hg10⟩; have hDo2 := rdDone_any p (some []) w10 hR10; have hBd := rdBad_any p (some []) w10 hR10; have hb010 := (hb06.trans (hb69.mono hsz6)).trans (below_p hg10 hpW (Nat.le_trans hsz6 hb69.size)); clear hDo)
    | (go_at_call 20; (with_reducible refine hBd.mono ?_); rintro e w' ⟨rfl, rfl⟩)
    | (go_at_call 11; (with_reducible refine (hNum _).mono ?_); rintro e w11 ⟨u1, rfl, ho1, hb11⟩; have hs1 := isSl_own ho1; obtain ⟨a11, n11, c11, rfl, _⟩ := id hs1)
    | (go_at_call 15; (with_reducible refine (hText _).mono ?_); rintro e w12 ⟨u2, rfl, ho2, hb12⟩; have hs2 := isSl_own ho2; obtain ⟨a12, n12, c12, rfl, _⟩ := id hs2; have hs1 := isSl_below hs1 hb12)
    | (go_at_call 19; (with_reducible refine (hByt _).mono ?_); rintro e w13 ⟨u3, rfl, ho3, hb13⟩; have hs3 := isSl_own ho3; obtain ⟨a13, n13, c13, rfl, _⟩ := id hs3; have hs1 := isSl_below hs1 hb13; have hs2 := isSl_below hs2 hb13)
    | (go_at_call 13; (with_reducible refine (hLong _).mono ?_); rintro e w14 ⟨u4, rfl, ho4, hb14⟩; have hs4 := isSl_own ho4; obtain ⟨a14, n14, c14, rfl, _⟩ := id hs4; have hs1 := isSl_below hs1 hb14; have hs2 := isSl_below hs2 hb14; have hs3 := isSl_below hs3 hb14; have hAll := all_many w14 4 [(_, l1), (_, l2), (_, [2]), (_, l4)] (by intro q hq; simp only [List.mem_cons, List.not_mem_nil, or_false] at hq; rcases hq with rfl | rfl | rfl | rfl <;> assumption) rfl (by omega) (by simp [hl1, hl2, hl4]) #[.slice a11 n11 c11, .slice a12 n12 c12, .slice a13 n13 c13, .slice a14 n14 c14] rfl)
    | (go_at_call 37; (with_reducible refine hAll.mono ?_); rintro e w15 ⟨u5, rfl, ho5, hb15⟩; obtain ⟨a15, c15, rfl, _⟩ := got_row (n := 18) ho5 (by simp [hl1, hl2, hl4])))
  go_ret
  have hz := hb11.trans ((hb12.trans ((hb13.trans ((hb14.trans (hb15.mono hb14.size)).mono hb13.size)).mono hb12.size)).mono hb11.size)
  exact ⟨rfl, hB0.trans ((hb010.trans (hz.mono hb010.size)).mono hB0.size)⟩
end Go.Proofs.Ytihpalbmkcoalaa
