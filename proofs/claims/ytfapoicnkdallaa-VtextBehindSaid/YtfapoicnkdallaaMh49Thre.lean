/- The walk of VtextBehind: what stands behind a list's or a text's value doesn't matter to Scan, and Parse tells where that begins. -/
import Derived.Test.YtfapoicnkdallaaMh42Thre
import Derived.Test.YtfapoicnkdallaaMh45Thre
set_option linter.unusedVariables false
set_option linter.unusedSimpArgs false
set_option maxRecDepth 100000
namespace Go.Proofs.Ytfapoicnkdallaa.vtextBehindWalk
open Go.RowKit Go.Shelf
theorem size_of (l : List Int) : (strOfNums l).size = l.length := by unfold strOfNums; simp [ByteArray.size]
set_option maxHeartbeats 4000000 in
theorem walk (t0 : PV) (v0 : Value) (s : ByteArray) (w : World) (w0 : Is w t0 v0) (_w1 : s.size ≤ maxLen) :
    Calls Try.prog 6 #[v0, .string s] w fun e w' => e = .returned (.bool true) ∧ Below w.heap.size w w' := by
  have hAl := fun w => vtAlive_any w
  have hn := nums_is _ _ w0
  obtain ⟨k0, n0, s0, l0, rfl⟩ : ∃ k m s l, t0 = .mk k m s l := by cases t0; exact ⟨_, _, _, _, rfl⟩
  have w0' := w0
  unfold Is at w0'
  obtain ⟨_, _, _, a0, c0, rfl, _⟩ := w0'
  obtain ⟨t0, ht⟩ : ∃ t, PV.mk k0 n0 s0 l0 = t := ⟨_, rfl⟩
  rw [ht] at w0 hn
  have hW0 := is_below ((Below.refl _ w).alloc (Nat.le_refl _) (vobj k0 n0 s0 a0 l0.length c0)) _ _ w0
  have hK0 := (Below.refl _ w).alloc (Nat.le_refl _) (vobj k0 n0 s0 a0 l0.length c0)
  have hbx := fun W (h : Below (w.alloc (vobj k0 n0 s0 a0 l0.length c0)).heap.size (w.alloc (vobj k0 n0 s0 a0 l0.length c0)) W) => (box4 (vat_below h (vat_alloc w #[.int .i64 k0, .int .i64 n0, .string s0, .slice a0 l0.length c0]))).1
  have hG := great_any t0
  have hsz := great_sz t0
  obtain ⟨g, hg⟩ : ∃ g, greatV t0 = g := ⟨_, rfl⟩
  rw [hg] at hG hsz
  clear hg
  have hrt := fun h => right_any t0 h
  have hsh := text_short14 t0
  have htb := text_bytes14 t0 hn
  rcases g with _ | _
  · have hsz2 := hsz rfl
    have hR := hrt (by omega)
    clear hsz hsz2 hrt
    by_cases hs : 300 < s.size
    · have d1 : decide ((300 : Int) < (s.size : Int)) = true := by simp; omega
      go_enter Try.func6, Try.ntmps6
      go_wp2_with (first
        | (go_at_call 8; (with_reducible refine (hAl _).mono ?_); rintro e w2 ⟨rfl, hB2⟩; obtain ⟨y0, y1, y2, y3⟩ := hbx _ hB2; have hI2 := is_below hB2 _ _ hW0)
        | (go_at_call 14; (with_reducible refine (hG _ _ hI2).mono ?_); rintro e w3 ⟨rfl, hB3⟩; have K3 := hB2.trans (hB3.mono hB2.size); obtain ⟨y0, y1, y2, y3⟩ := hbx _ K3; have hI3 := is_below K3 _ _ hW0))
      go_ret
      exact ⟨rfl, hK0.trans (K3.mono hK0.size)⟩
    · have d1 : decide ((300 : Int) < (s.size : Int)) = false := by simp; omega
      obtain ⟨r, hr⟩ : ∃ r, rightV t0 = r := ⟨_, rfl⟩
      rw [hr] at hR
      rcases r with _ | _
      · clear hr
        go_enter Try.func6, Try.ntmps6
        go_wp2_with (first
          | (go_at_call 8; (with_reducible refine (hAl _).mono ?_); rintro e w2 ⟨rfl, hB2⟩; obtain ⟨y0, y1, y2, y3⟩ := hbx _ hB2; have hI2 := is_below hB2 _ _ hW0)
          | (go_at_call 14; (with_reducible refine (hG _ _ hI2).mono ?_); rintro e w3 ⟨rfl, hB3⟩; have K3 := hB2.trans (hB3.mono hB2.size); obtain ⟨y0, y1, y2, y3⟩ := hbx _ K3; have hI3 := is_below K3 _ _ hW0)
          | (go_at_call 15; (with_reducible refine (hR _ _ hI3).mono ?_); rintro e w4 ⟨rfl, hB4⟩; have K4 := K3.trans (hB4.mono K3.size); obtain ⟨y0, y1, y2, y3⟩ := hbx _ K4; have hI4 := is_below K4 _ _ hW0))
        go_ret
        exact ⟨rfl, hK0.trans (K4.mono hK0.size)⟩
      · obtain ⟨_, h100, hok⟩ := Vt.right_ok hr
        by_cases hk : k0 < 4
        · have d2 : decide (k0 < 4) = true := by simpa using hk
          have H4 := Lib.hid hk; clear hk
          go_enter Try.func6, Try.ntmps6
          go_wp2_with (first
            | (go_at_call 8; (with_reducible refine (hAl _).mono ?_); rintro e w2 ⟨rfl, hB2⟩; obtain ⟨y0, y1, y2, y3⟩ := hbx _ hB2; have hI2 := is_below hB2 _ _ hW0)
            | (go_at_call 14; (with_reducible refine (hG _ _ hI2).mono ?_); rintro e w3 ⟨rfl, hB3⟩; have K3 := hB2.trans (hB3.mono hB2.size); obtain ⟨y0, y1, y2, y3⟩ := hbx _ K3; have hI3 := is_below K3 _ _ hW0)
            | (go_at_call 15; (with_reducible refine (hR _ _ hI3).mono ?_); rintro e w4 ⟨rfl, hB4⟩; have K4 := K3.trans (hB4.mono K3.size); obtain ⟨y0, y1, y2, y3⟩ := hbx _ K4; have hI4 := is_below K4 _ _ hW0))
          go_ret
          exact ⟨rfl, hK0.trans (K4.mono hK0.size)⟩
        · have d2 : decide (k0 < 4) = false := by simpa using hk
          by_cases he : s = ⟨#[]⟩
          · have H4 := Lib.hid hk; clear hk; subst he
            go_enter Try.func6, Try.ntmps6
            go_wp2_with (first
              | (go_at_call 8; (with_reducible refine (hAl _).mono ?_); rintro e w2 ⟨rfl, hB2⟩; obtain ⟨y0, y1, y2, y3⟩ := hbx _ hB2; have hI2 := is_below hB2 _ _ hW0)
              | (go_at_call 14; (with_reducible refine (hG _ _ hI2).mono ?_); rintro e w3 ⟨rfl, hB3⟩; have K3 := hB2.trans (hB3.mono hB2.size); obtain ⟨y0, y1, y2, y3⟩ := hbx _ K3; have hI3 := is_below K3 _ _ hW0)
              | (go_at_call 15; (with_reducible refine (hR _ _ hI3).mono ?_); rintro e w4 ⟨rfl, hB4⟩; have K4 := K3.trans (hB4.mono K3.size); obtain ⟨y0, y1, y2, y3⟩ := hbx _ K4; have hI4 := is_below K4 _ _ hW0))
            go_ret
            exact ⟨rfl, hK0.trans (K4.mono hK0.size)⟩
          · have hends : Vt.EndsK t0 (strB s) := by rw [← ht] at hok ⊢; exact Vt.ends_high hok hk
            have hne : 0 < (strB s).length := by
              rw [strB_len]
              rcases Nat.eq_zero_or_pos s.size with h | h
              · exact absurd (by rcases s with ⟨⟨l⟩⟩; simp [ByteArray.size] at h; simp [h]) he
              · exact h
            have hlen := hsh hok hn
            have hX := text_any t0 (by omega)
            have e1 := Vt.scan_text hr hn hends
            have e2 := Vt.parse_more hr hn hends hne
            have e0 := strB_strOfNums _ htb
            have hcat : ¬ 9223372036854775807 < (strOfNums (textV t0)).size + s.size := by rw [size_of]; omega
            have hbig : (strOfNums (textV t0) ++ s).size ≤ 1000000 := by rw [ByteArray.size_append, size_of]; omega
            have hP1 := fun W => vscan_any (strOfNums (textV t0) ++ s) 0 hbig W
            have hP2 := fun W => vparse_any (strOfNums (textV t0) ++ s) hbig W
            rw [strB_append, e0, e1, ← size_of] at hP1
            rw [strB_append, e0, e2, ← size_of] at hP2
            obtain ⟨T, hTT⟩ : ∃ T, strOfNums (textV t0) = T := ⟨_, rfl⟩
            simp only [hTT] at hX hP1 hP2 hcat
            have hSm := fun W x y hi hj => same_any t0 t0 W x y hi hj
            have hb : (cmpV t0 t0 == 0) = true := (same_bool t0 t0).2 rfl
            simp only [hb] at hSm
            have H4 := Lib.hid hk
            have H5 := Lib.hid he
            have q1 : s.toList.isEmpty = false := by
              rw [toList_data]
              rcases s with ⟨⟨_ | ⟨x, l⟩⟩⟩
              · exact absurd rfl he
              · rfl
            clear htb hsh hb e1 e2 e0 hbig hends hne hlen hk he
            go_enter Try.func6, Try.ntmps6
            go_wp2_with (first
              | (go_at_call 8; (with_reducible refine (hAl _).mono ?_); rintro e w2 ⟨rfl, hB2⟩; obtain ⟨y0, y1, y2, y3⟩ := hbx _ hB2; have hI2 := is_below hB2 _ _ hW0)
              | (go_at_call 14; (with_reducible refine (hG _ _ hI2).mono ?_); rintro e w3 ⟨rfl, hB3⟩; have K3 := hB2.trans (hB3.mono hB2.size); obtain ⟨y0, y1, y2, y3⟩ := hbx _ K3; have hI3 := is_below K3 _ _ hW0)
              | (go_at_call 15; (with_reducible refine (hR _ _ hI3).mono ?_); rintro e w4 ⟨rfl, hB4⟩; have K4 := K3.trans (hB4.mono K3.size); obtain ⟨y0, y1, y2, y3⟩ := hbx _ K4; have hI4 := is_below K4 _ _ hW0)
              | (go_at_call 16; (with_reducible refine (hX _ _ hI4).mono ?_); rintro e w5 ⟨rfl, hB5⟩; have K5 := K4.trans (hB5.mono K4.size))
              | (go_at_call 9; (with_reducible refine (hP1 _).mono ?_); rintro e w6 ⟨d0, d1, d2, a6, l6, c6, rfl, hF6, hB6⟩; have K6 := (K5.trans (hB6.mono K5.size)).alloc (K5.trans (hB6.mono K5.size)).size (.cells #[.int .i64 d0, .int .i64 d1, .string d2, .slice a6 l6 c6] 25); have hz6 := vat_alloc w6 #[.int .i64 d0, .int .i64 d1, .string d2, .slice a6 l6 c6]; have hJ6 := is_below ((Below.refl _ w6).alloc (Nat.le_refl _) (.cells #[.int .i64 d0, .int .i64 d1, .string d2, .slice a6 l6 c6] 25)) _ _ (fresh_is hF6))
              | (go_at_call 12; (with_reducible refine (hP2 _).mono ?_); rintro e w7 ⟨v0, v1, v2, a8, l8, c8, rfl, hF7, hB7⟩; have K7 := (K6.trans (hB7.mono K6.size)).alloc (K6.trans (hB7.mono K6.size)).size (.cells #[.int .i64 v0, .int .i64 v1, .string v2, .slice a8 l8 c8] 25); have J7 := hB7.alloc hB7.size (.cells #[.int .i64 v0, .int .i64 v1, .string v2, .slice a8 l8 c8] 25); obtain ⟨y0, y1, y2, y3⟩ := hbx _ K7; obtain ⟨⟨z0, z1, z2, z3⟩, _⟩ := box4 (vat_below J7 hz6); have hI7 := is_below K7 _ _ hW0; have hJ7 := is_below J7 _ _ hJ6)
              | (go_at_call 17; (with_reducible refine (hSm _ _ _ hI7 hJ7).mono ?_); rintro e w8 ⟨rfl, hB8⟩; have K8 := K7.trans (hB8.mono K7.size)))
            go_ret
            exact ⟨rfl, hK0.trans (K8.mono hK0.size)⟩
  · clear hsz hrt
    go_enter Try.func6, Try.ntmps6
    go_wp2_with (first
      | (go_at_call 8; (with_reducible refine (hAl _).mono ?_); rintro e w2 ⟨rfl, hB2⟩; obtain ⟨y0, y1, y2, y3⟩ := hbx _ hB2; have hI2 := is_below hB2 _ _ hW0)
      | (go_at_call 14; (with_reducible refine (hG _ _ hI2).mono ?_); rintro e w3 ⟨rfl, hB3⟩; have K3 := hB2.trans (hB3.mono hB2.size); obtain ⟨y0, y1, y2, y3⟩ := hbx _ K3; have hI3 := is_below K3 _ _ hW0))
    go_ret
    exact ⟨rfl, hK0.trans (K3.mono hK0.size)⟩
end Go.Proofs.Ytfapoicnkdallaa.vtextBehindWalk
