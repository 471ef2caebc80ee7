/- Printing JSON: addParts. -/
import Derived.Test.YtcicjpdjbfgbhaaDoorMh40Cell
set_option linter.unusedVariables false
set_option linter.unusedSimpArgs false
namespace Go.Proofs.YtcicjpdjbfgbhaaDoor
open Go.RowKit Go.Shelf
theorem kz_app {W1 wP wB wN : World} {v vP : Value} (hk : KZ W1 v wP) (ha : Apart W1 v vP) (hb : Below wP.heap.size wP wB) (hg : wB.grownBy wN vP.ownBlock) : KZ W1 v wN := kz_trans hk ha (kz_trans (kz_below (v := vP) hb) (apart_refl _ _) (kz_grown hg))
theorem jat_app {wP wB wN : World} {vP : Value} {b : Nat} {cs : Array Value} (h : JAt wP b cs) (hb : Below wP.heap.size wP wB) (hg : wB.grownBy wN vP.ownBlock) (hne : some b ≠ vP.ownBlock) : JAt wN b cs := (hg.block b (jat_lt (jat_below hb h)) hne).trans (jat_below hb h)
theorem quote_two (l : List Int) : 2 ≤ (K.quote l).length ∨ K.quote l = [] := by
  unfold K.quote
  split
  · exact .inl (by simp)
  · exact .inr rfl
theorem quote_bytes2 (s : ByteArray) : ∀ x ∈ K.quote (strB s), 0 ≤ x ∧ x ≤ 255 := by
  intro x hx
  unfold K.quote at hx
  split at hx
  · simp only [List.mem_append, List.mem_singleton] at hx
    rcases hx with (h | h) | h
    · omega
    · obtain ⟨y, hy, hxy⟩ := List.mem_flatMap.1 h
      have hy : 0 ≤ y ∧ y ≤ 255 := by
        unfold strB at hy
        obtain ⟨b, _, rfl⟩ := List.mem_map.1 hy
        have := b.toNat_lt
        omega
      unfold K.q1 at hxy
      have h1 : K.hexd (y / 16) = (if y / 16 < 10 then 48 + y / 16 else 87 + y / 16) := rfl
      have h2 : K.hexd (y % 16) = (if y % 16 < 10 then 48 + y % 16 else 87 + y % 16) := rfl
      split at hxy
      · simp only [List.mem_cons, List.not_mem_nil, or_false] at hxy; omega
      · split at hxy
        · simp only [List.mem_cons, List.not_mem_nil, or_false] at hxy
          rw [h1, h2] at hxy
          omega
        · simp only [List.mem_cons, List.not_mem_nil, or_false] at hxy; omega
    · omega
  · simp at hx
theorem jat_kz {w w' : World} {v : Value} {b : Nat} {cs : Array Value} (h : JAt w b cs) (hk : KZ w v w') (hne : some b ≠ v.ownBlock) : JAt w' b cs := hk b _ h (small_json _ _) hne
set_option maxRecDepth 100000 in
set_option maxHeartbeats 4000000 in
theorem parts_ok (l : List JV) (ns : List ByteArray) (k n : Int) (s : ByteArray) (o : Bool) (ho : (k == 6) = o) (w0 : World) (hns : o = true → ns.length = l.length ∧ ∀ t ∈ ns, t.size ≤ 100000)
    (hqn : o = true → ∀ t ∈ ns, K.quote (strB t) ≠ []) (hpos : ∀ y ∈ l, 1 ≤ (txJ y).length) (hadd : ∀ y ∈ l, ∀ w v xs x, IsJ w0 y x → Owns w0 w v xs → xs.length + (txJ y).length + 10 ≤ 70368744177664 → Calls Tryd.prog 32 #[v, x] w (AddR w0 w v xs (txJ y)))
    (w : World) (v : Value) (xs : List Int) (na : Option Addr) (nc : Nat) (a : Option Addr) (cap : Nat) (hn : NRow w0 na nc ns) (h4 : l.length ≤ cap) (h5 : cap ≤ maxLen) (h6 : l = [] ∨ ∃ b off, a = some ⟨b, off, none⟩ ∧ IsJL w0 b l off)
    (hx : 1 ≤ xs.length) (how : Owns w0 w v xs) (hl : xs.length + ((txs l o ns).drop 1).length + 10 ≤ 70368744177664) :
    Calls Tryd.prog 57 #[v, .agg #[.int .i64 k, .int .i64 n, .string s, .slice na ns.length nc, .slice a l.length cap]] w (PartsR w0 w v xs ((txs l o ns).drop 1)) := by
  have hm : l.length ≤ maxLen := Nat.le_trans h4 h5
  unfold maxLen at hm
  have HL := Lib.hid hl
  have HT := Lib.hid (jt_len l o ns)
  have HA := Lib.hid hadd
  have HN := Lib.hid hn
  have HNS := Lib.hid hns
  have HP := Lib.hid hpos
  have HNE := Lib.hid hqn
  clear hqn hl hadd hn hns hpos
  have hX := jat_alloc w #[.int .i64 k, .int .i64 n, .string s, .slice na ns.length nc, .slice a l.length cap]
  obtain ⟨⟨t0, t1, t2, t3, t4⟩, _⟩ := jbox5 hX
  have hB0 := (Below.refl _ w).alloc (Nat.le_refl _) (.cells #[.int .i64 k, .int .i64 n, .string s, .slice na ns.length nc, .slice a l.length cap] 30)
  have HX0 := Lib.hid (⟨hX, owns_below how hB0, owns_lt how (Nat.le_refl _), kz_below (v := v) hB0⟩ : _ ∧ _ ∧ _ ∧ _)
  go_enter Tryd.func57, Tryd.ntmps57
  go_wp2
  obtain ⟨W1, hW1⟩ : ∃ W1, w.alloc (.cells #[.int .i64 k, .int .i64 n, .string s, .slice na ns.length nc, .slice a l.length cap] 30) = W1 := ⟨_, rfl⟩
  obtain ⟨bX, hbX⟩ : ∃ bX, w.heap.size = bX := ⟨_, rfl⟩
  rw [hW1, hbX] at HX0 ⊢
  obtain ⟨hX1, ho1, hbv, hk1⟩ := HX0.out
  clear HX0 hX t0 t1 t2 t3 t4 hB0
  clear hW1 hbX
  have HK1 := Lib.hid hk1; have HX1 := Lib.hid hX1; have HO1 := Lib.hid ho1; have HBV := Lib.hid hbv
  clear hk1 hX1 ho1 hbv how
  go_loopw [0, 5, 6, 10] (fun b _ _ i wr => ∃ q : Nat, q ≤ l.length ∧ i = .int .i64 (q : Int) ∧ Owns w0 wr b (xs ++ Jt l o ns q) ∧ KZ W1 v wr ∧ Apart W1 v b) (fun _ _ _ i _ => l.length - (intOf i).toNat)
  case atStart => exact ⟨0, Nat.zero_le _, rfl, owns_congr HO1.out (by rw [jt_zero, List.append_nil]), kz_refl _ _, apart_refl _ _⟩
  case round =>
    obtain ⟨q, hq, rfl, how, hkz, hap⟩ := hrel
    have HLQ := Lib.hid (HT.out q)
    rcases Nat.lt_or_ge q l.length with hlt | hge
    · have hd : decide (q < l.length) = true := by simpa using hlt
      obtain ⟨y, hy⟩ : ∃ y, l[q]? = some y := ⟨l[q], List.getElem?_eq_getElem hlt⟩
      obtain ⟨b, off, rfl, hIs⟩ : ∃ b off, a = some ⟨b, off, none⟩ ∧ IsJL w0 b l off := by
        rcases h6 with h | h
        · subst h; simp at hlt
        · exact h
      have HS0 := Lib.hid (fun h0 : q = 0 => jt_one l o ns y (h0 ▸ hy))
      have HS1 := Lib.hid (jt_step l o ns q y hy)
      have HLN := Lib.hid (HT.out (q + 1))
      have HC := Lib.hid (HA.out y (List.mem_of_getElem? hy))
      have HP1 := Lib.hid (HP.out y (List.mem_of_getElem? hy))
      cases y with
      | mk yk yn ys yns yl =>
      obtain ⟨yna, ync, ya, yc, ⟨g0, g1, g2, g3, g4⟩, hi⟩ := isJL_val hIs q _ _ _ _ _ hy
      replace g0 := cellJ_below how.2 g0
      replace g1 := cellJ_below how.2 g1
      replace g2 := cellJ_below how.2 g2
      replace g3 := cellJ_below how.2 g3
      replace g4 := cellJ_below how.2 g4
      have HI := Lib.hid hi
      have hA0 := (Below.refl _ wr).alloc (Nat.le_refl _) (.cells #[.int .i64 yk, .int .i64 yn, .string ys, .slice yna yns.length ync, .slice ya yl.length yc] 30)
      have HO := Lib.hid (owns_below how hA0)
      have HKy := Lib.hid (kz_trans hkz hap (kz_below (v := u0) hA0))
      have HAp := Lib.hid hap
      have hXr := jat_kz HX1.out hkz HBV.out
      have hXy := jat_below hA0 hXr
      have hYy := jat_alloc wr #[.int .i64 yk, .int .i64 yn, .string ys, .slice yna yns.length ync, .slice ya yl.length yc]
      have HbX := Lib.hid (hap bX _ HX1.out (small_json _ _) HBV.out)
      have HbY := Lib.hid (owns_lt how (Nat.le_refl _))
      have hsy : (wr.alloc (.cells #[.int .i64 yk, .int .i64 yn, .string ys, .slice yna yns.length ync, .slice ya yl.length yc] 30)).heap.size = wr.heap.size + 1 := World.size_alloc _ _
      clear h6 hIs hi hy how hkz hap hXr hA0
      obtain ⟨⟨x0, x1, x2, x3, x4⟩, _⟩ := jbox5 hXy
      obtain ⟨⟨y0, y1, y2, y3, y4⟩, _⟩ := jbox5 hYy
      rcases Nat.eq_zero_or_pos q with hq0 | hq0
      · subst hq0
        have HSq := Lib.hid (HS0.out rfl)
        simp only [Nat.zero_mul, Nat.add_zero] at g0 g1 g2 g3 g4
        have HJ0 : Hid (Jt l o ns 0 = []) := Lib.hid (jt_zero _ _ _)
        cases o with
        | false =>
          have HSr := HSq
          have HLEN : Hid (xs.length + (Jt l false ns 0).length + (txJ (.mk yk yn ys yns yl)).length + 10 ≤ 70368744177664) := Lib.hid (by have h1 := congrArg List.length HSr.out; have h2 := HL.out; have h3 := HLN.out; (try simp only [Nat.zero_add] at h3); simp only [piece, List.length_append, List.length_cons, List.length_nil, Bool.false_eq_true, if_false] at h1; (try have h4 := congrArg List.length HJ0.out); (try simp only [List.length_nil] at h4); omega)
          go_wp2_with (first
            | (go_at_call 32; (refine (HC.out _ _ _ _ HI.out HO.out (by have := HLEN.out; simp only [List.length_append, List.length_cons, List.length_nil]; omega)).mono ?_); rintro e w9 ⟨v9, rfl, ho9, hk9⟩))
          have hk8 := kz_trans HKy.out HAp.out hk9
          have ha9 : Apart W1 v v9 := apart_big ho9 (by have := HP1.out; simp only [List.length_append, List.length_cons, List.length_nil]; omega) hk8
          all_goals go_roundw
          all_goals (first | (case' rel => exact ⟨1, by omega, by go_num, owns_congr ho9 (by rw [HSr.out, HJ0.out]; simp [piece]), hk8, ha9⟩) | (case' measure => simp [intOf]; omega))
        | true =>
          obtain ⟨hnl, hnz⟩ := HNS.out rfl
          obtain ⟨nm, hnm⟩ : ∃ nm, ns[0]? = some nm := ⟨ns[0]'(by omega), List.getElem?_eq_getElem (by omega)⟩
          have HNM : Hid (nm.size ≤ 100000) := Lib.hid (hnz nm (List.mem_of_getElem? hnm))
          obtain ⟨nb, noff, rfl, hnc⟩ : ∃ nb noff, na = some ⟨nb, noff, none⟩ ∧ ∀ i t, ns[i]? = some t → w0.cell? ⟨nb, noff + i, none⟩ = some (.string t) := by
            rcases HN.out.2.2.2 with h | h
            · subst h; simp at hnm
            · exact h
          have hn0 := hnc 0 nm hnm
          have HQN := Lib.hid (HNE.out rfl nm (List.mem_of_getElem? hnm))
          have HQB : Hid (strB (strOfNums (K.quote (strB nm))) = K.quote (strB nm)) := Lib.hid (strB_strOfNums _ (quote_bytes2 nm))
          have HQS : Hid ((strOfNums (K.quote (strB nm))).size = (K.quote (strB nm)).length) := Lib.hid (by rw [← strB_len, HQB.out])
          have hd3 : 0 < ns.length := by omega
          have hd2 : decide (0 < ns.length) = true := by simp; omega
          clear hnl
          rw [Nat.add_zero] at hn0
          have HSr := HSq.out
          rw [hnm] at HSr; simp only [Option.getD_some] at HSr; replace HSr := Lib.hid HSr
          have HLEN : Hid (xs.length + (Jt l true ns 0).length + (K.quote (strB nm)).length + (txJ (.mk yk yn ys yns yl)).length + 11 ≤ 70368744177664) := Lib.hid (by have h1 := congrArg List.length HSr.out; have h2 := HL.out; have h3 := HLN.out; (try simp only [Nat.zero_add] at h3); simp only [piece, List.length_append, List.length_cons, List.length_nil, if_true] at h1; (try have h4 := congrArg List.length HJ0.out); (try simp only [List.length_nil] at h4); omega)
          have hn1 := cellJ_below HO.out.2 hn0
          go_wp2_with (first
            | (go_at_call 56; (with_reducible refine (quote_any nm _ HNM.out).mono ?_); rintro e wQ ⟨rfl, hbQ⟩)
            | (at_builtin; refine wpList_owns_str rfl _ _ rfl w0 u0 _ rfl (owns_below HO.out hbQ) _ rfl (by have := HLEN.out; have := HQS.out; simp only [List.length_append, List.length_cons, List.length_nil]; omega) ?_))
          intro v4 w4 ho4 hg4
          rw [HQB.out] at ho4
          have hX4 := jat_app hXy hbQ hg4 HbX.out
          have hY4 := jat_app hYy hbQ hg4 HbY.out
          have hk4 := kz_app HKy.out HAp.out hbQ hg4
          obtain ⟨⟨q0, q1, q2, q3, q4⟩, _⟩ := jbox5 hX4
          obtain ⟨⟨r0, r1, r2, r3, r4⟩, _⟩ := jbox5 hY4
          clear hg4
          have hb4 := (Below.refl _ w4).alloc (Nat.le_refl _) (.cells #[.int .u8 58] 5)
          go_wp2_with (first
            | (at_builtin; refine wpList_owns_one rfl _ _ rfl w0 v4 _ rfl (owns_below ho4 hb4) w4.heap.size 58 rfl (by simp) (by have := HLEN.out; simp only [List.length_append, List.length_cons, List.length_nil]; omega) ?_))
          intro v5 w5 ho5 hg5
          have hqq : 2 ≤ (K.quote (strB nm)).length := (quote_two _).resolve_right HQN.out
          have ha4 : Apart W1 v v4 := apart_big ho4 (by simp only [List.length_append, List.length_cons, List.length_nil]; omega) hk4
          have hX5 := jat_app hX4 hb4 hg5 (ha4 bX _ HX1.out (small_json _ _) HBV.out)
          have hY5 := jat_app hY4 hb4 hg5 (owns_big ho4 (by simp only [List.length_append, List.length_cons, List.length_nil]; omega) hY4 (small_json _ _))
          have hk5 := kz_app hk4 ha4 hb4 hg5
          have ha5 : Apart W1 v v5 := apart_big ho5 (by simp only [List.length_append, List.length_cons, List.length_nil]; omega) hk5
          obtain ⟨⟨s0, s1, s2, s3, s4⟩, _⟩ := jbox5 hX5
          obtain ⟨⟨z0, z1, z2, z3, z4⟩, _⟩ := jbox5 hY5
          clear hg5
          go_wp2_with (first
            | (go_at_call 32; (refine (HC.out _ _ _ _ HI.out ho5 (by have := HLEN.out; simp only [List.length_append, List.length_cons, List.length_nil]; omega)).mono ?_); rintro e w9 ⟨v9, rfl, ho9, hk9⟩))
          have hk8 := kz_trans hk5 ha5 hk9
          have ha9 : Apart W1 v v9 := apart_big ho9 (by have := HP1.out; simp only [List.length_append, List.length_cons, List.length_nil]; omega) hk8
          all_goals go_roundw
          all_goals (first | (case' rel => exact ⟨1, by omega, by go_num, owns_congr ho9 (by rw [HSr.out, HJ0.out]; simp [piece]), hk8, ha9⟩) | (case' measure => simp [intOf]; omega))
      · skip
        have HSq := Lib.hid (HS1.out hq0)
        have hgt : decide (0 < (q : Int)) = true := by simp; omega
        cases o with
        | false =>
          have HSr := HSq
          have HLEN : Hid (xs.length + (Jt l false ns q).length + (txJ (.mk yk yn ys yns yl)).length + 11 ≤ 70368744177664) := Lib.hid (by have h1 := congrArg List.length HSr.out; have h2 := HL.out; have h3 := HLN.out; (try simp only [Nat.zero_add] at h3); simp only [piece, List.length_append, List.length_cons, List.length_nil, Bool.false_eq_true, if_false] at h1; (try have h4 := congrArg List.length HJ0.out); (try simp only [List.length_nil] at h4); omega)
          have hbC := (Below.refl _ (wr.alloc (.cells #[.int .i64 yk, .int .i64 yn, .string ys, .slice yna yns.length ync, .slice ya yl.length yc] 30))).alloc (Nat.le_refl _) (.cells #[.int .u8 44] 5)
          go_wp2_with (first
            | (at_builtin; refine wpList_owns_one rfl _ _ rfl w0 u0 _ rfl (owns_below HO.out hbC) (wr.heap.size + 1) 44 rfl (by simp) (by have := HLEN.out; simp only [List.length_append, List.length_cons, List.length_nil]; omega) ?_))
          intro v2 w2 ho2 hg2
          have hX2 := jat_app hXy hbC hg2 HbX.out
          have hY2 := jat_app hYy hbC hg2 HbY.out
          have hk2 := kz_app HKy.out HAp.out hbC hg2
          have ha2 : Apart W1 v v2 := apart_big ho2 (by simp only [List.length_append, List.length_cons, List.length_nil]; omega) hk2
          have neX2 := ha2 bX _ HX1.out (small_json _ _) HBV.out
          have neY2 := owns_big ho2 (by simp only [List.length_append, List.length_cons, List.length_nil]; omega) hY2 (small_json _ _)
          obtain ⟨⟨m0, m1, m2, m3, m4⟩, _⟩ := jbox5 hX2
          obtain ⟨⟨n0, n1, n2, n3, n4⟩, _⟩ := jbox5 hY2
          clear hg2
          go_wp2_with (first
            | (go_at_call 32; (refine (HC.out _ _ _ _ HI.out ho2 (by have := HLEN.out; simp only [List.length_append, List.length_cons, List.length_nil]; omega)).mono ?_); rintro e w9 ⟨v9, rfl, ho9, hk9⟩))
          have hk8 := kz_trans hk2 ha2 hk9
          have ha9 : Apart W1 v v9 := apart_big ho9 (by have := HP1.out; simp only [List.length_append, List.length_cons, List.length_nil]; omega) hk8
          all_goals go_roundw
          all_goals (first | (case' rel => exact ⟨q + 1, by omega, by go_num, owns_congr ho9 (by rw [HSr.out]; simp [piece]), hk8, ha9⟩) | (case' measure => simp [intOf]; omega))
        | true =>
          obtain ⟨hnl, hnz⟩ := HNS.out rfl
          obtain ⟨nm, hnm⟩ : ∃ nm, ns[q]? = some nm := ⟨ns[q]'(by omega), List.getElem?_eq_getElem (by omega)⟩
          have HNM : Hid (nm.size ≤ 100000) := Lib.hid (hnz nm (List.mem_of_getElem? hnm))
          obtain ⟨nb, noff, rfl, hnc⟩ : ∃ nb noff, na = some ⟨nb, noff, none⟩ ∧ ∀ i t, ns[i]? = some t → w0.cell? ⟨nb, noff + i, none⟩ = some (.string t) := by
            rcases HN.out.2.2.2 with h | h
            · subst h; simp at hnm
            · exact h
          have hn0 := hnc q nm hnm
          have HQN := Lib.hid (HNE.out rfl nm (List.mem_of_getElem? hnm))
          have HQB : Hid (strB (strOfNums (K.quote (strB nm))) = K.quote (strB nm)) := Lib.hid (strB_strOfNums _ (quote_bytes2 nm))
          have HQS : Hid ((strOfNums (K.quote (strB nm))).size = (K.quote (strB nm)).length) := Lib.hid (by rw [← strB_len, HQB.out])
          have hd3 : q < ns.length := by omega
          have hd2 : decide (q < ns.length) = true := by simp; omega
          clear hnl
          have HSr := HSq.out
          rw [hnm] at HSr; simp only [Option.getD_some] at HSr; replace HSr := Lib.hid HSr
          have HLEN : Hid (xs.length + (Jt l true ns q).length + (K.quote (strB nm)).length + (txJ (.mk yk yn ys yns yl)).length + 12 ≤ 70368744177664) := Lib.hid (by have h1 := congrArg List.length HSr.out; have h2 := HL.out; have h3 := HLN.out; (try simp only [Nat.zero_add] at h3); simp only [piece, List.length_append, List.length_cons, List.length_nil, if_true] at h1; (try have h4 := congrArg List.length HJ0.out); (try simp only [List.length_nil] at h4); omega)
          have hn1 := cellJ_below HO.out.2 hn0
          have hbC := (Below.refl _ (wr.alloc (.cells #[.int .i64 yk, .int .i64 yn, .string ys, .slice yna yns.length ync, .slice ya yl.length yc] 30))).alloc (Nat.le_refl _) (.cells #[.int .u8 44] 5)
          go_wp2_with (first
            | (at_builtin; refine wpList_owns_one rfl _ _ rfl w0 u0 _ rfl (owns_below HO.out hbC) (wr.heap.size + 1) 44 rfl (by simp) (by have := HLEN.out; simp only [List.length_append, List.length_cons, List.length_nil]; omega) ?_))
          intro v2 w2 ho2 hg2
          have hX2 := jat_app hXy hbC hg2 HbX.out
          have hY2 := jat_app hYy hbC hg2 HbY.out
          have hk2 := kz_app HKy.out HAp.out hbC hg2
          have ha2 : Apart W1 v v2 := apart_big ho2 (by simp only [List.length_append, List.length_cons, List.length_nil]; omega) hk2
          have neX2 := ha2 bX _ HX1.out (small_json _ _) HBV.out
          have neY2 := owns_big ho2 (by simp only [List.length_append, List.length_cons, List.length_nil]; omega) hY2 (small_json _ _)
          obtain ⟨⟨m0, m1, m2, m3, m4⟩, _⟩ := jbox5 hX2
          obtain ⟨⟨n0, n1, n2, n3, n4⟩, _⟩ := jbox5 hY2
          clear hg2
          have hn2 := cellJ_below ho2.2 hn0
          go_wp2_with (first
            | (go_at_call 56; (with_reducible refine (quote_any nm _ HNM.out).mono ?_); rintro e wQ ⟨rfl, hbQ⟩)
            | (at_builtin; refine wpList_owns_str rfl _ _ rfl w0 v2 _ rfl (owns_below ho2 hbQ) _ rfl (by have := HLEN.out; have := HQS.out; simp only [List.length_append, List.length_cons, List.length_nil]; omega) ?_))
          intro v4 w4 ho4 hg4
          rw [HQB.out] at ho4
          have hX4 := jat_app hX2 hbQ hg4 neX2
          have hY4 := jat_app hY2 hbQ hg4 neY2
          have hk4 := kz_app hk2 ha2 hbQ hg4
          obtain ⟨⟨q0, q1, q2, q3, q4⟩, _⟩ := jbox5 hX4
          obtain ⟨⟨r0, r1, r2, r3, r4⟩, _⟩ := jbox5 hY4
          clear hg4
          have hb4 := (Below.refl _ w4).alloc (Nat.le_refl _) (.cells #[.int .u8 58] 5)
          go_wp2_with (first
            | (at_builtin; refine wpList_owns_one rfl _ _ rfl w0 v4 _ rfl (owns_below ho4 hb4) w4.heap.size 58 rfl (by simp) (by have := HLEN.out; simp only [List.length_append, List.length_cons, List.length_nil]; omega) ?_))
          intro v5 w5 ho5 hg5
          have hqq : 2 ≤ (K.quote (strB nm)).length := (quote_two _).resolve_right HQN.out
          have ha4 : Apart W1 v v4 := apart_big ho4 (by simp only [List.length_append, List.length_cons, List.length_nil]; omega) hk4
          have hX5 := jat_app hX4 hb4 hg5 (ha4 bX _ HX1.out (small_json _ _) HBV.out)
          have hY5 := jat_app hY4 hb4 hg5 (owns_big ho4 (by simp only [List.length_append, List.length_cons, List.length_nil]; omega) hY4 (small_json _ _))
          have hk5 := kz_app hk4 ha4 hb4 hg5
          have ha5 : Apart W1 v v5 := apart_big ho5 (by simp only [List.length_append, List.length_cons, List.length_nil]; omega) hk5
          obtain ⟨⟨s0, s1, s2, s3, s4⟩, _⟩ := jbox5 hX5
          obtain ⟨⟨z0, z1, z2, z3, z4⟩, _⟩ := jbox5 hY5
          clear hg5
          go_wp2_with (first
            | (go_at_call 32; (refine (HC.out _ _ _ _ HI.out ho5 (by have := HLEN.out; simp only [List.length_append, List.length_cons, List.length_nil]; omega)).mono ?_); rintro e w9 ⟨v9, rfl, ho9, hk9⟩))
          have hk8 := kz_trans hk5 ha5 hk9
          have ha9 : Apart W1 v v9 := apart_big ho9 (by have := HP1.out; simp only [List.length_append, List.length_cons, List.length_nil]; omega) hk8
          all_goals go_roundw
          all_goals (first | (case' rel => exact ⟨q + 1, by omega, by go_num, owns_congr ho9 (by rw [HSr.out]; simp [piece]), hk8, ha9⟩) | (case' measure => simp [intOf]; omega))
    · obtain rfl : q = l.length := by omega
      have hd : decide (l.length < l.length) = false := by simp
      go_wp2
      go_ret
      exact ⟨_, rfl, owns_congr how (by rw [jt_all]), fun z o' hz hs hne => hkz z o' (HK1.out z o' hz hs hne) hs hne, fun z o' hz hs hne => hap z o' (HK1.out z o' hz hs hne) hs hne⟩
end Go.Proofs.YtcicjpdjbfgbhaaDoor
