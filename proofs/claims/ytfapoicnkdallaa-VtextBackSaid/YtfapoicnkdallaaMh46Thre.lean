/- The walk of VtextBack: a right value's text is read as it, and what is read is right, and its text is what it was read of. -/
import Derived.Test.YtfapoicnkdallaaMh42Thre
import Derived.Test.YtfapoicnkdallaaMh45Thre
set_option linter.unusedVariables false
set_option linter.unusedSimpArgs false
set_option maxRecDepth 100000
namespace Go.Proofs.Ytfapoicnkdallaa.vtextBackWalk
open Go.RowKit Go.Shelf
theorem size_of (l : List Int) : (strOfNums l).size = l.length := by unfold strOfNums; simp [ByteArray.size]
set_option maxHeartbeats 4000000 in
theorem walk (t0 : PV) (v0 : Value) (s : ByteArray) (w : World) (w0 : Is w t0 v0) (_w1 : s.size ≤ maxLen) :
    Calls Try.prog 5 #[v0, .string s] w fun e w' => e = .returned (.bool true) ∧ Below w.heap.size w w' := by
  have hAl := fun w => vtAlive_any w
  have hn := nums_is _ _ w0
  obtain ⟨k0, n0, s0, l0, rfl⟩ : ∃ k m s l, t0 = .mk k m s l := by cases t0; exact ⟨_, _, _, _, rfl⟩
  have w0' := w0
  unfold Is at w0'
  obtain ⟨_, _, _, a0, c0, rfl, _⟩ := w0'
  obtain ⟨t0, ht⟩ : ∃ t, PV.mk k0 n0 s0 l0 = t := ⟨_, rfl⟩
  rw [ht] at w0 hn
  have hW0 := is_below ((Below.refl _ w).alloc (Nat.le_refl _) (vobj k0 n0 s0 a0 l0.length c0)) _ _ w0
  have hK0 := (Below.refl _ w).alloc (Nat.le_refl _) (vobj k0 n0 s0 a0 l0.length c0)
  have hbx := fun W (h : Below (w.alloc (vobj k0 n0 s0 a0 l0.length c0)).heap.size (w.alloc (vobj k0 n0 s0 a0 l0.length c0)) W) => (box4 (vat_below h (vat_alloc w #[.int .i64 k0, .int .i64 n0, .string s0, .slice a0 l0.length c0]))).1
  have hG := great_any t0
  have hsz := great_sz t0
  obtain ⟨g, hg⟩ : ∃ g, greatV t0 = g := ⟨_, rfl⟩
  rw [hg] at hG hsz
  clear hg
  have hrt := fun h => right_any t0 h
  have hsh := text_short14 t0
  have htb := text_bytes14 t0 hn
  have hpt := @Vt.parse_text t0
  by_cases hc : g = true ∨ 500 < s.size
  · go_enter Try.func5, Try.ntmps5
    obtain rfl | ⟨rfl, hs⟩ : g = true ∨ (g = false ∧ 500 < s.size) := by rcases g with _ | _ <;> simp_all
    · go_wp2_with (first
        | (go_at_call 8; (with_reducible refine (hAl _).mono ?_); rintro e w2 ⟨rfl, hB2⟩; obtain ⟨y0, y1, y2, y3⟩ := hbx _ hB2; have hI2 := is_below hB2 _ _ hW0)
        | (go_at_call 14; (with_reducible refine (hG _ _ hI2).mono ?_); rintro e w3 ⟨rfl, hB3⟩))
      go_ret
      exact ⟨rfl, hK0.trans ((hB2.trans (hB3.mono hB2.size)).mono hK0.size)⟩
    · have d1 : decide ((500 : Int) < (s.size : Int)) = true := by simp; omega
      go_wp2_with (first
        | (go_at_call 8; (with_reducible refine (hAl _).mono ?_); rintro e w2 ⟨rfl, hB2⟩; obtain ⟨y0, y1, y2, y3⟩ := hbx _ hB2; have hI2 := is_below hB2 _ _ hW0)
        | (go_at_call 14; (with_reducible refine (hG _ _ hI2).mono ?_); rintro e w3 ⟨rfl, hB3⟩))
      go_ret
      exact ⟨rfl, hK0.trans ((hB2.trans (hB3.mono hB2.size)).mono hK0.size)⟩
  · obtain ⟨rfl, hs⟩ : g = false ∧ s.size ≤ 500 := by rcases g with _ | _ <;> simp_all
    have d1 : decide ((500 : Int) < (s.size : Int)) = false := by simp; omega
    have hsz2 := hsz rfl
    have hR := hrt (by omega)
    have hP2 := fun W => vparse_any s (by omega) W
    obtain ⟨⟨xv, xx, xe⟩, hT2⟩ : ∃ T, Vt.parse (strB s) = T := ⟨_, rfl⟩
    simp only [hT2] at hP2
    clear hsz hsz2 hrt
    obtain ⟨r, hr⟩ : ∃ r, rightV t0 = r := ⟨_, rfl⟩
    simp only [hr] at hR hpt
    have hE : ∀ z, xe = z → z = 0 ∨ z ≠ 0 := fun z _ => Classical.em _
    have hxe : xe = 0 ∨ ((xe == 0) = false ∧ xe ≠ 0) := by
      rcases Classical.em (xe = 0) with h | h
      · exact .inl h
      · exact .inr ⟨by simpa using h, h⟩
    clear hE
    rcases r with _ | _
    · rcases hxe with rfl | ⟨hx, hx'⟩
      · obtain ⟨hrx, hsx⟩ := Vt.parse_back hT2
        have hlx : (textV xv).length ≤ 500 := by rw [← size_of, hsx]; exact hs
        obtain ⟨_, h100x, _⟩ := Vt.right_ok hrx
        have hR2 := right_any xv (by omega)
        have hX2 := text_any xv (by omega)
        simp only [hrx, hsx] at hR2 hX2
        clear hT2 hrx hsx
        go_enter Try.func5, Try.ntmps5
        go_wp2_with (first
          | (go_at_call 8; (with_reducible refine (hAl _).mono ?_); rintro e w2 ⟨rfl, hB2⟩; obtain ⟨y0, y1, y2, y3⟩ := hbx _ hB2; have hI2 := is_below hB2 _ _ hW0)
          | (go_at_call 14; (with_reducible refine (hG _ _ hI2).mono ?_); rintro e w3 ⟨rfl, hB3⟩; have K3 := hB2.trans (hB3.mono hB2.size); obtain ⟨y0, y1, y2, y3⟩ := hbx _ K3; have hI3 := is_below K3 _ _ hW0)
          | (go_at_call 15; (with_reducible refine (hR _ _ hI3).mono ?_); rintro e w4 ⟨rfl, hB4⟩; have K4 := K3.trans (hB4.mono K3.size); obtain ⟨y0, y1, y2, y3⟩ := hbx _ K4; have hI4 := is_below K4 _ _ hW0)
          | (go_at_call 12; (with_reducible refine (hP2 _).mono ?_); rintro e w8 ⟨v0, v1, v2, a8, l8, c8, rfl, hF8, hB8⟩; have K8 := (K4.trans (hB8.mono K4.size)).alloc (K4.trans (hB8.mono K4.size)).size (.cells #[.int .i64 v0, .int .i64 v1, .string v2, .slice a8 l8 c8] 25); have hz8 := vat_alloc w8 #[.int .i64 v0, .int .i64 v1, .string v2, .slice a8 l8 c8]; obtain ⟨⟨z0, z1, z2, z3⟩, _⟩ := box4 hz8; have hI8 := is_below ((Below.refl _ w8).alloc (Nat.le_refl _) (.cells #[.int .i64 v0, .int .i64 v1, .string v2, .slice a8 l8 c8] 25)) _ _ (fresh_is hF8))
          | (go_at_call 15; (with_reducible refine (hR2 _ _ hI8).mono ?_); rintro e w9 ⟨rfl, hB9⟩; have K9 := K8.trans (hB9.mono K8.size); obtain ⟨⟨x0, x1, x2, x3⟩, _⟩ := box4 (vat_below hB9 hz8); have hI9 := is_below hB9 _ _ hI8)
          | (go_at_call 16; (with_reducible refine (hX2 _ _ hI9).mono ?_); rintro e w10 ⟨rfl, hB10⟩; have K10 := K9.trans (hB10.mono K9.size)))
        go_ret
        exact ⟨rfl, hK0.trans (K10.mono hK0.size)⟩
      · have H' := Lib.hid hx'; clear hx' hT2
        go_enter Try.func5, Try.ntmps5
        go_wp2_with (first
          | (go_at_call 8; (with_reducible refine (hAl _).mono ?_); rintro e w2 ⟨rfl, hB2⟩; obtain ⟨y0, y1, y2, y3⟩ := hbx _ hB2; have hI2 := is_below hB2 _ _ hW0)
          | (go_at_call 14; (with_reducible refine (hG _ _ hI2).mono ?_); rintro e w3 ⟨rfl, hB3⟩; have K3 := hB2.trans (hB3.mono hB2.size); obtain ⟨y0, y1, y2, y3⟩ := hbx _ K3; have hI3 := is_below K3 _ _ hW0)
          | (go_at_call 15; (with_reducible refine (hR _ _ hI3).mono ?_); rintro e w4 ⟨rfl, hB4⟩; have K4 := K3.trans (hB4.mono K3.size); obtain ⟨y0, y1, y2, y3⟩ := hbx _ K4; have hI4 := is_below K4 _ _ hW0)
          | (go_at_call 12; (with_reducible refine (hP2 _).mono ?_); rintro e w8 ⟨v0, v1, v2, a8, l8, c8, rfl, hF8, hB8⟩; have K8 := (K4.trans (hB8.mono K4.size)).alloc (K4.trans (hB8.mono K4.size)).size (.cells #[.int .i64 v0, .int .i64 v1, .string v2, .slice a8 l8 c8] 25); have hz8 := vat_alloc w8 #[.int .i64 v0, .int .i64 v1, .string v2, .slice a8 l8 c8]; obtain ⟨⟨z0, z1, z2, z3⟩, _⟩ := box4 hz8; have hI8 := is_below ((Below.refl _ w8).alloc (Nat.le_refl _) (.cells #[.int .i64 v0, .int .i64 v1, .string v2, .slice a8 l8 c8] 25)) _ _ (fresh_is hF8)))
        go_ret
        exact ⟨rfl, hK0.trans (K8.mono hK0.size)⟩
    · obtain ⟨_, h100, hok⟩ := Vt.right_ok hr
      have hlen := hsh hok hn
      have hX := text_any t0 (by omega)
      have hP1 := fun W => vparse_any (strOfNums (textV t0)) (by rw [size_of]; omega) W
      rw [strB_strOfNums _ htb, hpt rfl hn, ← size_of] at hP1
      obtain ⟨T, hTT⟩ : ∃ T, strOfNums (textV t0) = T := ⟨_, rfl⟩
      simp only [hTT] at hX hP1
      have hSm := fun W x y hi hj => same_any t0 t0 W x y hi hj
      have hb : (cmpV t0 t0 == 0) = true := (same_bool t0 t0).2 rfl
      simp only [hb] at hSm
      clear hpt htb hsh hb
      rcases hxe with rfl | ⟨hx, hx'⟩
      · obtain ⟨hrx, hsx⟩ := Vt.parse_back hT2
        have hlx : (textV xv).length ≤ 500 := by rw [← size_of, hsx]; exact hs
        obtain ⟨_, h100x, _⟩ := Vt.right_ok hrx
        have hR2 := right_any xv (by omega)
        have hX2 := text_any xv (by omega)
        simp only [hrx, hsx] at hR2 hX2
        clear hT2 hrx hsx
        go_enter Try.func5, Try.ntmps5
        go_wp2_with (first
          | (go_at_call 8; (with_reducible refine (hAl _).mono ?_); rintro e w2 ⟨rfl, hB2⟩; obtain ⟨y0, y1, y2, y3⟩ := hbx _ hB2; have hI2 := is_below hB2 _ _ hW0)
          | (go_at_call 14; (with_reducible refine (hG _ _ hI2).mono ?_); rintro e w3 ⟨rfl, hB3⟩; have K3 := hB2.trans (hB3.mono hB2.size); obtain ⟨y0, y1, y2, y3⟩ := hbx _ K3; have hI3 := is_below K3 _ _ hW0)
          | (go_at_call 15; (with_reducible refine (hR _ _ hI3).mono ?_); rintro e w4 ⟨rfl, hB4⟩; have K4 := K3.trans (hB4.mono K3.size); obtain ⟨y0, y1, y2, y3⟩ := hbx _ K4; have hI4 := is_below K4 _ _ hW0)
          | (go_at_call 16; (with_reducible refine (hX _ _ hI4).mono ?_); rintro e w5 ⟨rfl, hB5⟩; have K5 := K4.trans (hB5.mono K4.size))
          | (go_at_call 12; (with_reducible refine (hP1 _).mono ?_); rintro e w6 ⟨d0, d1, d2, a6, l6, c6, rfl, hF6, hB6⟩; have K6 := (K5.trans (hB6.mono K5.size)).alloc (K5.trans (hB6.mono K5.size)).size (.cells #[.int .i64 d0, .int .i64 d1, .string d2, .slice a6 l6 c6] 25); obtain ⟨y0, y1, y2, y3⟩ := hbx _ K6; obtain ⟨⟨z0, z1, z2, z3⟩, _⟩ := box4 (vat_alloc w6 #[.int .i64 d0, .int .i64 d1, .string d2, .slice a6 l6 c6]); have hI6 := is_below K6 _ _ hW0; have hJ6 := is_below ((Below.refl _ w6).alloc (Nat.le_refl _) (.cells #[.int .i64 d0, .int .i64 d1, .string d2, .slice a6 l6 c6] 25)) _ _ (fresh_is hF6))
          | (go_at_call 17; (with_reducible refine (hSm _ _ _ hI6 hJ6).mono ?_); rintro e w7 ⟨rfl, hB7⟩; have K7 := K6.trans (hB7.mono K6.size))
          | (go_at_call 12; (with_reducible refine (hP2 _).mono ?_); rintro e w8 ⟨v0, v1, v2, a8, l8, c8, rfl, hF8, hB8⟩; have K8 := (K7.trans (hB8.mono K7.size)).alloc (K7.trans (hB8.mono K7.size)).size (.cells #[.int .i64 v0, .int .i64 v1, .string v2, .slice a8 l8 c8] 25); have hz8 := vat_alloc w8 #[.int .i64 v0, .int .i64 v1, .string v2, .slice a8 l8 c8]; obtain ⟨⟨z0, z1, z2, z3⟩, _⟩ := box4 hz8; have hI8 := is_below ((Below.refl _ w8).alloc (Nat.le_refl _) (.cells #[.int .i64 v0, .int .i64 v1, .string v2, .slice a8 l8 c8] 25)) _ _ (fresh_is hF8))
          | (go_at_call 15; (with_reducible refine (hR2 _ _ hI8).mono ?_); rintro e w9 ⟨rfl, hB9⟩; have K9 := K8.trans (hB9.mono K8.size); obtain ⟨⟨x0, x1, x2, x3⟩, _⟩ := box4 (vat_below hB9 hz8); have hI9 := is_below hB9 _ _ hI8)
          | (go_at_call 16; (with_reducible refine (hX2 _ _ hI9).mono ?_); rintro e w10 ⟨rfl, hB10⟩; have K10 := K9.trans (hB10.mono K9.size)))
        go_ret
        exact ⟨rfl, hK0.trans (K10.mono hK0.size)⟩
      · have H' := Lib.hid hx'; clear hx' hT2
        go_enter Try.func5, Try.ntmps5
        go_wp2_with (first
          | (go_at_call 8; (with_reducible refine (hAl _).mono ?_); rintro e w2 ⟨rfl, hB2⟩; obtain ⟨y0, y1, y2, y3⟩ := hbx _ hB2; have hI2 := is_below hB2 _ _ hW0)
          | (go_at_call 14; (with_reducible refine (hG _ _ hI2).mono ?_); rintro e w3 ⟨rfl, hB3⟩; have K3 := hB2.trans (hB3.mono hB2.size); obtain ⟨y0, y1, y2, y3⟩ := hbx _ K3; have hI3 := is_below K3 _ _ hW0)
          | (go_at_call 15; (with_reducible refine (hR _ _ hI3).mono ?_); rintro e w4 ⟨rfl, hB4⟩; have K4 := K3.trans (hB4.mono K3.size); obtain ⟨y0, y1, y2, y3⟩ := hbx _ K4; have hI4 := is_below K4 _ _ hW0)
          | (go_at_call 16; (with_reducible refine (hX _ _ hI4).mono ?_); rintro e w5 ⟨rfl, hB5⟩; have K5 := K4.trans (hB5.mono K4.size))
          | (go_at_call 12; (with_reducible refine (hP1 _).mono ?_); rintro e w6 ⟨d0, d1, d2, a6, l6, c6, rfl, hF6, hB6⟩; have K6 := (K5.trans (hB6.mono K5.size)).alloc (K5.trans (hB6.mono K5.size)).size (.cells #[.int .i64 d0, .int .i64 d1, .string d2, .slice a6 l6 c6] 25); obtain ⟨y0, y1, y2, y3⟩ := hbx _ K6; obtain ⟨⟨z0, z1, z2, z3⟩, _⟩ := box4 (vat_alloc w6 #[.int .i64 d0, .int .i64 d1, .string d2, .slice a6 l6 c6]); have hI6 := is_below K6 _ _ hW0; have hJ6 := is_below ((Below.refl _ w6).alloc (Nat.le_refl _) (.cells #[.int .i64 d0, .int .i64 d1, .string d2, .slice a6 l6 c6] 25)) _ _ (fresh_is hF6))
          | (go_at_call 17; (with_reducible refine (hSm _ _ _ hI6 hJ6).mono ?_); rintro e w7 ⟨rfl, hB7⟩; have K7 := K6.trans (hB7.mono K6.size))
          | (go_at_call 12; (with_reducible refine (hP2 _).mono ?_); rintro e w8 ⟨v0, v1, v2, a8, l8, c8, rfl, hF8, hB8⟩; have K8 := (K7.trans (hB8.mono K7.size)).alloc (K7.trans (hB8.mono K7.size)).size (.cells #[.int .i64 v0, .int .i64 v1, .string v2, .slice a8 l8 c8] 25); have hz8 := vat_alloc w8 #[.int .i64 v0, .int .i64 v1, .string v2, .slice a8 l8 c8]; obtain ⟨⟨z0, z1, z2, z3⟩, _⟩ := box4 hz8; have hI8 := is_below ((Below.refl _ w8).alloc (Nat.le_refl _) (.cells #[.int .i64 v0, .int .i64 v1, .string v2, .slice a8 l8 c8] 25)) _ _ (fresh_is hF8)))
        go_ret
        exact ⟨rfl, hK0.trans (K8.mono hK0.size)⟩
end Go.Proofs.Ytfapoicnkdallaa.vtextBackWalk
