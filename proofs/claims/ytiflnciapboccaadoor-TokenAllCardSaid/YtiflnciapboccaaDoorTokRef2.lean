/- The document's layer 7: Number. -/
import Derived.Test.YtiflnciapboccaaDoorTokRef1
import Derived.Test.YtiflnciapboccaaDoorTokNum2
import Derived.Deep.DeepCutAuto
namespace Go.Proofs.YtiflnciapboccaaDoor
open Go.RowKit Go.Shelf
theorem one_case (s : ByteArray) (C : List Int) (p : Nat) : (K.one C (strB s) p = p + 1 ∧ ∃ h : p < s.size, C.contains (s[p].toNat : Int) = true) ∨ (K.one C (strB s) p = p ∧ (s.size ≤ p ∨ ∃ h : p < s.size, C.contains (s[p].toNat : Int) = false)) := by
  unfold K.one
  rw [strB_len]
  rcases Nat.lt_or_ge p s.size with h | h
  · rw [strB_at s p h]
    cases hc : C.contains (s[p].toNat : Int) with
    | true => rw [if_pos ⟨h, rfl⟩]; exact .inl ⟨rfl, h, hc⟩
    | false => rw [if_neg (fun x => by cases x.2)]; exact .inr ⟨rfl, .inr ⟨h, hc⟩⟩
  · rw [if_neg (fun x => by omega)]; exact .inr ⟨rfl, .inl h⟩
theorem refDigits_at (s : ByteArray) (p : Nat) (P : Int) (n : Nat) (hP : P = p) (w : World) (hsm : s.size ≤ 100000) (hp : p ≤ s.size) (hn : K.runTo K.dg (strB s) p = p + n) :
    Calls Tryd.prog 34 #[.string s, .int .i64 P] w fun e w' => e = .returned (.int .i64 (n : Int)) ∧ w = w' := by
  subst hP
  have h := refDigits_any s p w hsm hp
  rw [hn, Nat.add_sub_cancel_left] at h
  exact h
def numTail (r : List Int) (m W : Nat) : Int × Int :=
  match K.expo r m with
  | none => (0, 2)
  | some e => if e = r.length then (if W < r.length then (0, 5) else if r = [45, 48] then (0, 0) else M.parse r) else (0, 2)
theorem number_eq (r : List Int) : K.number r =
    if K.whole r = K.one [45] r 0 ∨ (r[K.one [45] r 0]?.getD 0 = 48 ∧ K.one [45] r 0 + 1 < K.whole r) then (0, 2)
    else match K.frac r (K.whole r) with
      | none => (0, 2)
      | some b => numTail r b (K.whole r) := by
  unfold K.number K.isNum numTail
  split
  · simp
  · cases K.frac r (K.whole r) with
    | none => simp
    | some b =>
      dsimp only
      rcases Option.eq_none_or_eq_some (K.expo r b) with hx | ⟨e, hx⟩
      · simp [hx]
      · by_cases h : e = r.length <;> simp [hx, h]
set_option maxRecDepth 100000 in
set_option maxHeartbeats 4000000 in
theorem refNumber_any (s : ByteArray) (w : World) (hsm : s.size ≤ 100000) :
    Calls Tryd.prog 23 #[.string s] w fun e w' => e = .returned (.tuple #[.int .i64 (K.number (strB s)).1, .int .i64 (K.number (strB s)).2]) ∧ w = w' := by
  have hm : s.size ≤ maxLen := by unfold maxLen; omega
  obtain ⟨g, hg⟩ : ∃ g, K.number (strB s) = g := ⟨_, rfl⟩
  rw [hg]
  rw [number_eq] at hg
  unfold K.whole at hg
  have hf := one_case s [45] 0
  have lf := K.one_le [45] (strB s) 0 (Nat.zero_le _)
  rw [strB_len] at lf
  obtain ⟨f, hf'⟩ : ∃ f, K.one [45] (strB s) 0 = f := ⟨_, rfl⟩
  simp only [hf'] at hf lf hg
  clear hf'
  have l1 := K.runTo_le K.dg (strB s) f (by rw [strB_len]; exact lf.2.1)
  rw [strB_len] at l1
  obtain ⟨n, hn⟩ : ∃ n, K.runTo K.dg (strB s) f = f + n := ⟨K.runTo K.dg (strB s) f - f, by omega⟩
  have c1 := fun w => refDigits_at s f f n rfl w hsm lf.2.1 hn
  rw [hn] at l1
  simp only [hn] at hg
  have hn1000 : n ≤ 100000 := by omega
  have hf1 : f ≤ 1 := by omega
  have hfs : f + n ≤ s.size := l1.2
  clear hn l1 lf
  have HG := Lib.hid hg; clear hg
  go_enter Tryd.func23, Tryd.ntmps23
  go_upto_region 2 with fail
  go_cut [14] (fun s14 W => s14 = .bool (decide (f = 1)) ∧ W = w)
  case first =>
    clear c1
    rcases hf with ⟨hf, h, hc⟩ | ⟨hf, hc⟩
    · have d1 : decide (0 < s.size) = true := by simpa using h
      have d2 : ((s[0].toNat : Int) == 45) = true := by simpa using hc
      clear hc
      go_wp2
      go_meet
      exact ⟨by rw [hf]; rfl, rfl⟩
    · rcases hc with hc | ⟨h, hc⟩
      · have d1 : decide (0 < s.size) = false := decide_eq_false (by omega)
        go_wp2
        go_meet
        exact ⟨by rw [hf]; rfl, rfl⟩
      · have d1 : decide (0 < s.size) = true := by simpa using h
        have d2 : ((s[0].toNat : Int) == 45) = false := by simpa using hc
        clear hc
        go_wp2
        go_meet
        exact ⟨by rw [hf]; rfl, rfl⟩
  case rest =>
    obtain ⟨rfl, hwc⟩ := hcut
    rw [hwc]
    clear hwc hf
    go_upto_if 14 with fail
    go_cut [4] (fun s4 W => s4 = .int .i64 (f : Int) ∧ W = w)
    case first =>
      clear c1
      by_cases h1 : f = 1
      · have d1 : decide (f = 1) = true := decide_eq_true h1
        have H1 := Lib.hid h1; clear h1
        go_wp2
        go_meet
        exact ⟨by rw [H1.out]; rfl, rfl⟩
      · have d1 : decide (f = 1) = false := decide_eq_false h1
        have H1 := Lib.hid h1; clear h1
        go_wp2
        go_meet
        exact ⟨by rw [show f = 0 by have := H1.out; omega]; rfl, rfl⟩
    case rest =>
    obtain ⟨rfl, hwc⟩ := hcut
    rw [hwc]
    clear hwc
    have hx : ∀ h : f < s.size, (strB s)[f]?.getD 0 = (s[f].toNat : Int) := fun h => strB_at s f h
    obtain ⟨P, hP⟩ : ∃ P : Bool, P = decide (n = 0 ∨ ((strB s)[f]?.getD 0 = 48 ∧ 1 < n)) := ⟨_, rfl⟩
    have HP := Lib.hid hP; clear hP
    have HX := Lib.hid hx; clear hx
    go_upto_region 5 with (go_at_call 34; (with_reducible refine (c1 _).mono ?_); rintro e w' ⟨rfl, rfl⟩)
    go_cut [29] (fun s29 W => s29 = .bool P ∧ W = w)
    case first =>
      clear c1
      by_cases hn0 : n = 0
      · have d1 : ((n : Int) == 0) = true := by simpa using hn0
        have HN := Lib.hid hn0; clear hn0
        go_wp2
        go_meet
        exact ⟨by rw [HP.out, decide_eq_true (.inl HN.out)], rfl⟩
      have d1 : ((n : Int) == 0) = false := by simpa using hn0
      have hlt : f < s.size := by omega
      have HN := Lib.hid hn0; clear hn0
      by_cases h1 : 1 < n
      · have d2 : decide ((1 : Int) < (n : Int)) = true := decide_eq_true (by omega)
        have H1 := Lib.hid h1; clear h1
        by_cases h48 : (s[f].toNat : Int) = 48
        · have d3 : ((s[f].toNat : Int) == 48) = true := by simpa using h48
          have H48 := Lib.hid h48; clear h48
          go_wp2
          go_meet
          exact ⟨by rw [HP.out, decide_eq_true (.inr ⟨by rw [HX.out hlt]; exact H48.out, H1.out⟩)], rfl⟩
        · have d3 : ((s[f].toNat : Int) == 48) = false := by simpa using h48
          have H48 := Lib.hid h48; clear h48
          go_wp2
          go_meet
          exact ⟨by rw [HP.out, decide_eq_false (fun h => h.elim HN.out (fun h => H48.out (by rw [← HX.out hlt]; exact h.1)))], rfl⟩
      · have d2 : decide ((1 : Int) < (n : Int)) = false := decide_eq_false (by omega)
        have H1 := Lib.hid h1; clear h1
        go_wp2
        go_meet
        exact ⟨by rw [HP.out, decide_eq_false (fun h => h.elim HN.out (fun h => H1.out h.2))], rfl⟩
    case rest =>
    obtain ⟨rfl, hwc⟩ := hcut
    rw [hwc]
    clear hwc c1 HX
    cases P with
    | true =>
      have hP := of_decide_eq_true HP.out.symm
      have hg := HG.out
      rw [if_pos (by rcases hP with h | h; exact .inl (by omega); exact .inr ⟨h.1, by omega⟩)] at hg
      subst hg
      clear HP HG hP
      go_wp2
      go_ret2
      exact ⟨rfl, rfl⟩
    | false =>
    have hP := of_decide_eq_false HP.out.symm
    have hg := HG.out
    rw [if_neg (fun h => hP (by rcases h with h | h; exact .inl (by omega); exact .inr ⟨h.1, by omega⟩))] at hg
    clear HG HP hP
    unfold K.frac at hg
    have hd := one_case s [46] (f + n)
    obtain ⟨d, hd'⟩ : ∃ d, K.one [46] (strB s) (f + n) = d := ⟨_, rfl⟩
    simp only [hd'] at hd hg
    clear hd'
    have hdn : d = f + n ∨ d = f + n + 1 ∧ f + n + 1 ≤ s.size := by rcases hd with ⟨h, h', _⟩ | ⟨h, _⟩; exact .inr ⟨h, h'⟩; exact .inl h
    have HG := Lib.hid hg; clear hg
    have HDN := Lib.hid hdn; clear hdn
    obtain ⟨B, hBe⟩ : ∃ B : Bool, B = decide (d = f + n + 1) := ⟨_, rfl⟩
    have HBE := Lib.hid hBe; clear hBe
    go_upto_region 9 with fail
    go_cut [43] (fun s43 W => s43 = .bool B ∧ W = w)
    case first =>
      rcases hd with ⟨hd, h, hc⟩ | ⟨hd, hc⟩
      · have d1 : decide (f + n < s.size) = true := decide_eq_true h
        have d2 : ((s[f + n].toNat : Int) == 46) = true := by simpa using hc
        have HD := Lib.hid hd; clear hd hc
        go_wp2
        go_meet
        exact ⟨by rw [HBE.out, decide_eq_true HD.out], rfl⟩
      · have HD := Lib.hid hd; clear hd
        rcases hc with hc | ⟨h, hc⟩
        · have d1 : decide (f + n < s.size) = false := decide_eq_false (by omega)
          go_wp2
          go_meet
          exact ⟨by rw [HBE.out, decide_eq_false (by have := HD.out; omega)], rfl⟩
        · have d1 : decide (f + n < s.size) = true := decide_eq_true h
          have d2 : ((s[f + n].toNat : Int) == 46) = false := by simpa using hc
          clear hc
          go_wp2
          go_meet
          exact ⟨by rw [HBE.out, decide_eq_false (by have := HD.out; omega)], rfl⟩
    case rest =>
    obtain ⟨rfl, hwc⟩ := hcut
    rw [hwc]
    clear hwc hd
    have hdn := HDN.out
    have c2 : ∀ (k : Nat), f + n + 1 ≤ s.size → K.runTo K.dg (strB s) (f + n + 1) = f + n + 1 + k → ∀ w, Calls Tryd.prog 34 #[.string s, .int .i64 ((f : Int) + (n : Int) + 1)] w fun e w' => e = .returned (.int .i64 (k : Int)) ∧ w = w' :=
      fun k h1 h2 w => refDigits_at s (f + n + 1) _ k (by omega) w hsm h1 h2
    have hr2 : f + n + 1 ≤ s.size → ∃ k, K.runTo K.dg (strB s) (f + n + 1) = f + n + 1 + k ∧ f + n + 1 + k ≤ s.size := fun h => by
      have := K.runTo_le K.dg (strB s) (f + n + 1) (by rw [strB_len]; omega)
      rw [strB_len] at this
      exact ⟨K.runTo K.dg (strB s) (f + n + 1) - (f + n + 1), by omega, by omega⟩
    have HR2 := Lib.hid hr2; clear hr2
    have HC2 := Lib.hid c2; clear c2
    by_cases hbad : d = f + n + 1 ∧ K.runTo K.dg (strB s) (f + n + 1) = f + n + 1
    · have hg := HG.out
      rw [if_neg (by omega), if_pos hbad.2] at hg
      simp only at hg
      subst hg
      have c2 := HC2.out 0 (by omega) hbad.2
      obtain rfl : B = true := by rw [HBE.out]; exact decide_eq_true hbad.1
      have HB := Lib.hid hbad
      clear HC2 HR2 hdn hbad HG HDN
      go_wp2_with (go_at_call 34; (with_reducible refine (c2 _).mono ?_); rintro e w' ⟨rfl, rfl⟩)
      go_ret2
      exact ⟨rfl, rfl⟩
    obtain ⟨m, hm1, hmg, hms⟩ : ∃ m, (d = f + n + 1 → ∃ k, k ≠ 0 ∧ m = f + n + 1 + k ∧ K.runTo K.dg (strB s) (f + n + 1) = f + n + 1 + k) ∧ ((d ≠ f + n + 1 → m = f + n) ∧ numTail (strB s) m (f + n) = g) ∧ f + n ≤ m ∧ m ≤ s.size := by
      have hg := HG.out
      by_cases hd1 : d = f + n + 1
      · obtain ⟨k, hk1, hk2⟩ := HR2.out (by omega)
        have hk0 : k ≠ 0 := fun h => hbad ⟨hd1, by omega⟩
        rw [if_neg (by omega), if_neg (by omega)] at hg
        refine ⟨f + n + 1 + k, fun _ => ⟨k, hk0, rfl, hk1⟩, ⟨fun h => absurd hd1 h, ?_⟩, by omega, by omega⟩
        rw [hk1] at hg
        exact hg
      · rw [if_pos (by omega)] at hg
        exact ⟨f + n, fun h => absurd h hd1, ⟨fun _ => rfl, hg⟩, Nat.le_refl _, hfs⟩
    have HM1 := Lib.hid hm1; clear hm1
    have HMG := Lib.hid hmg; clear hmg
    clear HG HR2 hdn HDN
    have HBAD := Lib.hid hbad; clear hbad
    go_upto_if 43 with fail
    go_cut [4] (fun s4 W => s4 = .int .i64 (m : Int) ∧ W = w)
    case first =>
      by_cases hd1 : d = f + n + 1
      · obtain ⟨k, hk0, hmk, hk⟩ := HM1.out hd1
        have c2 := HC2.out k (by omega) hk
        obtain rfl : B = true := by rw [HBE.out]; exact decide_eq_true hd1
        have d2 : ((k : Int) == 0) = false := by simpa using hk0
        have HK := Lib.hid hmk
        clear HC2 hk0 hk
        have HD := Lib.hid hd1; clear hd1 hmk
        have hk1 : f + n + 1 + k ≤ 100000 := by have := HK.out; omega
        go_wp2_with (go_at_call 34; (with_reducible refine (c2 _).mono ?_); rintro e w' ⟨rfl, rfl⟩)
        go_meet
        exact ⟨by rw [HK.out]; simp, rfl⟩
      · obtain rfl : B = false := by rw [HBE.out]; exact decide_eq_false hd1
        have HK := Lib.hid (HMG.out.1 hd1)
        clear HC2 hd1
        go_wp2
        go_meet
        exact ⟨by rw [HK.out]; simp, rfl⟩
    case rest =>
    obtain ⟨rfl, hwc⟩ := hcut
    rw [hwc]
    have hg := HMG.out.2
    clear hwc HC2 HM1 HMG HBAD
    have hk1 : (strB s).length = s.size := strB_len s
    have hz : s.toList = [45, 48] ↔ strB s = [45, 48] := toList_lit s [45, 48] [45, 48] rfl (by decide)
    have hpa := fun w => refParse_any s w hm
    unfold numTail K.expo at hg
    rw [hk1] at hg
    clear hk1
    have HZ := Lib.hid hz; clear hz
    obtain ⟨V, hV⟩ : ∃ V, f + n = V := ⟨_, rfl⟩
    have hVc : (f : Int) + (n : Int) = (V : Int) := by omega
    simp only [hV] at hg
    rw [hVc]
    have hVs : V ≤ s.size := by omega
    have hVm : V ≤ m := by omega
    clear hV hVc hfs
    have he := one_case s [101, 69] m
    obtain ⟨x, hx'⟩ : ∃ x, K.one [101, 69] (strB s) m = x := ⟨_, rfl⟩
    simp only [hx'] at he hg
    clear hx'
    obtain ⟨B, hBe⟩ : ∃ B : Bool, B = decide (x = m + 1) := ⟨_, rfl⟩
    have HBE := Lib.hid hBe; clear hBe
    have hxm : x = m ∨ x = m + 1 ∧ m + 1 ≤ s.size := by rcases he with ⟨h, h', _⟩ | ⟨h, _⟩; exact .inr ⟨h, h'⟩; exact .inl h
    have HXM := Lib.hid hxm; clear hxm
    have HG := Lib.hid hg; clear hg
    have HPA := Lib.hid hpa; clear hpa
    go_upto_region 14 with fail
    go_cut [69] (fun s69 W => s69 = .bool B ∧ W = w)
    case first =>
      rcases he with ⟨hd, h, hc⟩ | ⟨hd, hc⟩
      · have d1 : decide (m < s.size) = true := decide_eq_true h
        have HD := Lib.hid hd; clear hd
        have hc' : (s[m].toNat : Int) = 101 ∨ (s[m].toNat : Int) = 69 := by simpa using hc
        clear hc
        by_cases h1 : (s[m].toNat : Int) = 101
        · have d2 : ((s[m].toNat : Int) == 101) = true := by simpa using h1
          clear hc'
          have H1 := Lib.hid h1; clear h1
          go_wp2
          go_meet
          exact ⟨by rw [HBE.out, decide_eq_true HD.out], rfl⟩
        · have d2 : ((s[m].toNat : Int) == 101) = false := by simpa using h1
          have d3 : ((s[m].toNat : Int) == 69) = true := by simpa using hc'.resolve_left h1
          clear hc' h1
          go_wp2
          go_meet
          exact ⟨by rw [HBE.out, decide_eq_true HD.out], rfl⟩
      · have HD := Lib.hid hd; clear hd
        rcases hc with hc | ⟨h, hc⟩
        · have d1 : decide (m < s.size) = false := decide_eq_false (by omega)
          go_wp2
          go_meet
          exact ⟨by rw [HBE.out, decide_eq_false (by have := HD.out; omega)], rfl⟩
        · have d1 : decide (m < s.size) = true := decide_eq_true h
          have hc' : ¬ (s[m].toNat : Int) = 101 ∧ ¬ (s[m].toNat : Int) = 69 := by simpa using hc
          have d2 : ((s[m].toNat : Int) == 101) = false := by simpa using hc'.1
          have d3 : ((s[m].toNat : Int) == 69) = false := by simpa using hc'.2
          clear hc hc'
          go_wp2
          go_meet
          exact ⟨by rw [HBE.out, decide_eq_false (by have := HD.out; omega)], rfl⟩
    case rest =>
    obtain ⟨rfl, hwc⟩ := hcut
    rw [hwc]
    clear hwc he
    -- where the number ends
    have hy := one_case s [43, 45] (m + 1)
    obtain ⟨y, hy'⟩ : ∃ y, K.one [43, 45] (strB s) (m + 1) = y := ⟨_, rfl⟩
    simp only [hy'] at hy
    have hym : y = m + 1 ∨ y = m + 2 ∧ m + 2 ≤ s.size := by rcases hy with ⟨h, h', _⟩ | ⟨h, _⟩; exact .inr ⟨h, h'⟩; exact .inl h
    have HYM := Lib.hid hym; clear hym
    obtain ⟨C, hCe⟩ : ∃ C : Bool, C = decide (y = m + 2) := ⟨_, rfl⟩
    have HCE := Lib.hid hCe; clear hCe
    have hg : (match (if x = m then some m else if K.runTo K.dg (strB s) y = y then none else some (K.runTo K.dg (strB s) y)) with
        | none => (0, 2)
        | some e => if e = s.size then (if V < s.size then (0, 5) else if strB s = [45, 48] then (0, 0) else M.parse (strB s)) else (0, 2)) = g := by
      rw [← HG.out, ← hy']
    clear HG hy'
    have HG := Lib.hid hg; clear hg
    have hk : x = m + 1 → ∃ k, K.runTo K.dg (strB s) y = y + k ∧ y + k ≤ s.size ∧ ∀ w, Calls Tryd.prog 34 #[.string s, .int .i64 (y : Int)] w fun e w' => e = .returned (.int .i64 (k : Int)) ∧ w = w' := fun h => by
      have hys : y ≤ s.size := by have := HXM.out; have := HYM.out; omega
      have := K.runTo_le K.dg (strB s) y (by rw [strB_len]; omega)
      rw [strB_len] at this
      have hh : K.runTo K.dg (strB s) y = y + (K.runTo K.dg (strB s) y - y) := by omega
      exact ⟨_, hh, by omega, fun w => refDigits_at s y y _ rfl w hsm hys hh⟩
    have HK := Lib.hid hk; clear hk
    by_cases hbad : x = m + 1 ∧ K.runTo K.dg (strB s) y = y
    · have hg := HG.out
      rw [if_neg (by omega), if_pos hbad.2] at hg
      simp only at hg
      subst hg
      obtain ⟨k, hk1, hk2, hk3⟩ := HK.out hbad.1
      obtain rfl : k = 0 := by omega
      have HC3 := Lib.hid hk3
      obtain rfl : B = true := by rw [HBE.out]; exact decide_eq_true hbad.1
      clear hk3 hk1 HK HG HPA hbad HZ
      go_upto_region 16 with fail
      go_cut [87] (fun s87 W => s87 = .bool C ∧ W = w)
      case first =>
        clear HC3
        rcases hy with ⟨hd, h, hc⟩ | ⟨hd, hc⟩
        · have d0 : decide (m + 1 < s.size) = true := decide_eq_true h
          have d1 : decide ((m : Int) + 1 < (s.size : Int)) = true := decide_eq_true (by omega)
          have HD := Lib.hid hd; clear hd
          have hc' : (s[m + 1].toNat : Int) = 43 ∨ (s[m + 1].toNat : Int) = 45 := by simpa using hc
          clear hc
          by_cases h1 : (s[m + 1].toNat : Int) = 43
          · have d2 : ((s[m + 1].toNat : Int) == 43) = true := by simpa using h1
            clear hc'
            have H1 := Lib.hid h1; clear h1
            go_wp2
            go_meet
            exact ⟨by rw [HCE.out, decide_eq_true HD.out], rfl⟩
          · have d2 : ((s[m + 1].toNat : Int) == 43) = false := by simpa using h1
            have d3 : ((s[m + 1].toNat : Int) == 45) = true := by simpa using hc'.resolve_left h1
            clear hc' h1
            go_wp2
            go_meet
            exact ⟨by rw [HCE.out, decide_eq_true HD.out], rfl⟩
        · have HD := Lib.hid hd; clear hd
          rcases hc with hc | ⟨h, hc⟩
          · have d0 : decide (m + 1 < s.size) = false := decide_eq_false (by omega)
            have d1 : decide ((m : Int) + 1 < (s.size : Int)) = false := decide_eq_false (by omega)
            go_wp2
            go_meet
            exact ⟨by rw [HCE.out, decide_eq_false (by have := HD.out; omega)], rfl⟩
          · have d0 : decide (m + 1 < s.size) = true := decide_eq_true h
            have d1 : decide ((m : Int) + 1 < (s.size : Int)) = true := decide_eq_true (by omega)
            have hc' : ¬ (s[m + 1].toNat : Int) = 43 ∧ ¬ (s[m + 1].toNat : Int) = 45 := by simpa using hc
            have d2 : ((s[m + 1].toNat : Int) == 43) = false := by simpa using hc'.1
            have d3 : ((s[m + 1].toNat : Int) == 45) = false := by simpa using hc'.2
            clear hc hc'
            go_wp2
            go_meet
            exact ⟨by rw [HCE.out, decide_eq_false (by have := HD.out; omega)], rfl⟩
      case rest =>
      obtain ⟨rfl, hwc⟩ := hcut
      rw [hwc]
      clear hwc hy
      go_upto_if 87 with fail
      go_cut [4] (fun s4 W => s4 = .int .i64 (y : Int) ∧ W = w)
      case first =>
        clear HC3
        cases C with
        | true =>
          have hh := of_decide_eq_true HCE.out.symm
          have HH := Lib.hid hh; clear hh
          go_wp2
          go_meet
          exact ⟨by rw [HH.out]; congr 1, rfl⟩
        | false =>
          have hh := of_decide_eq_false HCE.out.symm
          have HH := Lib.hid hh; clear hh
          go_wp2
          go_meet
          exact ⟨by rw [show y = m + 1 by have := HH.out; have := HYM.out; omega]; congr 1, rfl⟩
      case rest =>
      obtain ⟨rfl, hwc⟩ := hcut
      rw [hwc]
      clear hwc
      have c3 := HC3.out
      clear HC3
      go_wp2_with (go_at_call 34; (with_reducible refine (c3 _).mono ?_); rintro e w' ⟨rfl, rfl⟩)
      go_ret2
      exact ⟨rfl, rfl⟩
    obtain ⟨e, he1, heg, hes⟩ : ∃ e, (x = m + 1 → ∃ k, k ≠ 0 ∧ e = y + k ∧ ∀ w, Calls Tryd.prog 34 #[.string s, .int .i64 (y : Int)] w fun e w' => e = .returned (.int .i64 (k : Int)) ∧ w = w') ∧ ((x ≠ m + 1 → e = m) ∧
        (if e = s.size then (if V < s.size then (0, 5) else if strB s = [45, 48] then (0, 0) else M.parse (strB s)) else (0, 2)) = g) ∧ e ≤ s.size := by
      have hg := HG.out
      by_cases hd1 : x = m + 1
      · obtain ⟨k, hk1, hk2, hk3⟩ := HK.out hd1
        have hk0 : k ≠ 0 := fun h => hbad ⟨hd1, by omega⟩
        rw [if_neg (by omega), if_neg (by omega), hk1] at hg
        exact ⟨y + k, fun _ => ⟨k, hk0, rfl, hk3⟩, ⟨fun h => absurd hd1 h, hg⟩, hk2⟩
      · rw [if_pos (by have := HXM.out; omega)] at hg
        exact ⟨m, fun h => absurd h hd1, ⟨fun _ => rfl, hg⟩, hms.2⟩
    have HE1 := Lib.hid he1; clear he1
    have HEG := Lib.hid heg; clear heg
    clear HG HK hbad
    go_upto_if 69 with fail
    go_cut [4] (fun s4 W => s4 = .int .i64 (e : Int) ∧ W = w)
    case first =>
      by_cases hd1 : x = m + 1
      · obtain ⟨k, hk0, hek, hk3⟩ := HE1.out hd1
        have HC3 := Lib.hid hk3
        obtain rfl : B = true := by rw [HBE.out]; exact decide_eq_true hd1
        have d9 : ((k : Int) == 0) = false := by simpa using hk0
        have HEK := Lib.hid hek
        clear hk3 hek hk0 HPA hd1 HZ HE1 HEG
        go_upto_region 16 with fail
        go_cut [87] (fun s87 W => s87 = .bool C ∧ W = w)
        case first =>
          clear HC3
          rcases hy with ⟨hd, h, hc⟩ | ⟨hd, hc⟩
          · have d0 : decide (m + 1 < s.size) = true := decide_eq_true h
            have d1 : decide ((m : Int) + 1 < (s.size : Int)) = true := decide_eq_true (by omega)
            have HD := Lib.hid hd; clear hd
            have hc' : (s[m + 1].toNat : Int) = 43 ∨ (s[m + 1].toNat : Int) = 45 := by simpa using hc
            clear hc
            by_cases h1 : (s[m + 1].toNat : Int) = 43
            · have d2 : ((s[m + 1].toNat : Int) == 43) = true := by simpa using h1
              clear hc'
              have H1 := Lib.hid h1; clear h1
              go_wp2
              go_meet
              exact ⟨by rw [HCE.out, decide_eq_true HD.out], rfl⟩
            · have d2 : ((s[m + 1].toNat : Int) == 43) = false := by simpa using h1
              have d3 : ((s[m + 1].toNat : Int) == 45) = true := by simpa using hc'.resolve_left h1
              clear hc' h1
              go_wp2
              go_meet
              exact ⟨by rw [HCE.out, decide_eq_true HD.out], rfl⟩
          · have HD := Lib.hid hd; clear hd
            rcases hc with hc | ⟨h, hc⟩
            · have d0 : decide (m + 1 < s.size) = false := decide_eq_false (by omega)
              have d1 : decide ((m : Int) + 1 < (s.size : Int)) = false := decide_eq_false (by omega)
              go_wp2
              go_meet
              exact ⟨by rw [HCE.out, decide_eq_false (by have := HD.out; omega)], rfl⟩
            · have d0 : decide (m + 1 < s.size) = true := decide_eq_true h
              have d1 : decide ((m : Int) + 1 < (s.size : Int)) = true := decide_eq_true (by omega)
              have hc' : ¬ (s[m + 1].toNat : Int) = 43 ∧ ¬ (s[m + 1].toNat : Int) = 45 := by simpa using hc
              have d2 : ((s[m + 1].toNat : Int) == 43) = false := by simpa using hc'.1
              have d3 : ((s[m + 1].toNat : Int) == 45) = false := by simpa using hc'.2
              clear hc hc'
              go_wp2
              go_meet
              exact ⟨by rw [HCE.out, decide_eq_false (by have := HD.out; omega)], rfl⟩
        case rest =>
        obtain ⟨rfl, hwc⟩ := hcut
        rw [hwc]
        clear hwc hy
        go_upto_if 87 with fail
        go_cut [4] (fun s4 W => s4 = .int .i64 (y : Int) ∧ W = w)
        case first =>
          clear HC3
          cases C with
          | true =>
            have hh := of_decide_eq_true HCE.out.symm
            have HH := Lib.hid hh; clear hh
            go_wp2
            go_meet
            exact ⟨by rw [HH.out]; congr 1, rfl⟩
          | false =>
            have hh := of_decide_eq_false HCE.out.symm
            have HH := Lib.hid hh; clear hh
            go_wp2
            go_meet
            exact ⟨by rw [show y = m + 1 by have := HH.out; have := HYM.out; omega]; congr 1, rfl⟩
        case rest =>
        obtain ⟨rfl, hwc⟩ := hcut
        rw [hwc]
        clear hwc
        have c3 := HC3.out
        have hyk : y + k ≤ 100000 := by have := HEK.out; omega
        clear HC3
        go_wp2_with (go_at_call 34; (with_reducible refine (c3 _).mono ?_); rintro e w' ⟨rfl, rfl⟩)
        go_meet
        exact ⟨by rw [HEK.out]; simp, rfl⟩
      · obtain rfl : B = false := by rw [HBE.out]; exact decide_eq_false hd1
        have HEK := Lib.hid (HEG.out.1 hd1)
        clear hd1 HPA HZ HE1
        go_wp2
        go_meet
        exact ⟨by rw [HEK.out], rfl⟩
    case rest =>
    obtain ⟨rfl, hwc⟩ := hcut
    rw [hwc]
    have hg := HEG.out.2
    clear hwc HE1 HEG hy
    by_cases he : e = s.size
    · rw [if_pos he] at hg
      have e1 : decide (e < s.size) = false := decide_eq_false (by omega)
      by_cases hV : V < s.size
      · rw [if_pos hV] at hg
        subst hg
        have e2 : decide (V < s.size) = true := decide_eq_true hV
        have HE := Lib.hid he; clear he HPA
        go_wp2
        go_ret2
        exact ⟨rfl, rfl⟩
      · rw [if_neg hV] at hg
        have e2 : decide (V < s.size) = false := decide_eq_false hV
        have HE := Lib.hid he; clear he hV
        by_cases hm0 : strB s = [45, 48]
        · rw [if_pos hm0] at hg
          subst hg
          have hT : (s.toList = [45, 48]) = True := by simp [HZ.out, hm0]
          have HM := Lib.hid hm0; clear hm0 HPA
          go_wp2
          all_goals first | (go_ret2; exact ⟨rfl, rfl⟩) | (exfalso; simp_all; done)
        · rw [if_neg hm0] at hg
          have hT : (s.toList = [45, 48]) = False := by simp [HZ.out, hm0]
          have hpa := HPA.out
          rw [hg] at hpa
          have HM := Lib.hid hm0; clear hm0 hg HPA
          go_wp2_with (go_at_call 35; (with_reducible refine (hpa _).mono ?_); rintro e w' ⟨rfl, rfl⟩)
          all_goals first | (go_ret2; exact ⟨rfl, rfl⟩) | (exfalso; simp_all; done)
    · rw [if_neg he] at hg
      subst hg
      have e1 : decide (e < s.size) = true := decide_eq_true (by omega)
      have HE := Lib.hid he; clear he HPA
      go_wp2
      go_ret2
      exact ⟨rfl, rfl⟩
end Go.Proofs.YtiflnciapboccaaDoor
