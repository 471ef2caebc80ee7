/- The walk of JsonFinds: an Obj's thing of a name is the one that its text has there. -/
import Derived.Test.YtpiajoffddjjfaaGreatDoorMg46Jso
import Derived.Test.YtpiajoffddjjfaaGreatDoorJvFindq
import Derived.Test.YtpiajoffddjjfaaGreatDoorJvRightq
import Derived.Test.YtpiajoffddjjfaaGreatDoorMg23Jso
import Derived.Deep.RegionWith
set_option linter.unusedVariables false
namespace Go.Proofs.YtpiajoffddjjfaaGreatDoor
open Go.RowKit Go.Shelf
theorem isJ_form {w : World} {v : JV} {x : Value} (h : IsJ w v x) : ∃ k n s na nl nc a len cap, x = .agg #[.int .i64 k, .int .i64 n, .string s, .slice na nl nc, .slice a len cap] := by
  cases v
  unfold IsJ at h
  obtain ⟨_, _, _, na, nc, a, cap, rfl, _⟩ := h
  exact ⟨_, _, _, _, _, _, _, _, _, rfl⟩
theorem find_some (k : Int) (ns : List ByteArray) (l : List JV) (name : ByteArray) : ∃ ok y, FindR k ns l name ok y := by
  by_cases hk : k = 6
  · obtain ⟨z, hz⟩ := ix_some ns name
    rcases hz with ⟨i, rfl, h1, h2⟩ | ⟨rfl, h1⟩
    · rcases Nat.lt_or_ge i l.length with hlt | hge
      · exact ⟨true, l[i], .inl ⟨rfl, hk, i, h1, h2, List.getElem?_eq_getElem hlt⟩⟩
      · exact ⟨false, JV.nil, .inr ⟨rfl, rfl, .inr (.inr ⟨i, h1, h2, hge⟩)⟩⟩
    · exact ⟨false, JV.nil, .inr ⟨rfl, rfl, .inr (.inl h1)⟩⟩
  · exact ⟨false, JV.nil, .inr ⟨rfl, rfl, .inl hk⟩⟩
/-- what a right thing's names are -/
theorem right_names {k n : Int} {s : ByteArray} {ns : List ByteArray} {l : List JV} (h : rightJ (.mk k n s ns l) = true) : (k ≠ 6 → ns = []) ∧ (k = 6 → ns.length = l.length ∧ ns.Nodup) := by
  simp only [rightJ] at h
  refine ⟨fun hk => ?_, fun hk => ?_⟩
  · rw [if_neg hk] at h
    apply List.length_eq_zero_iff.1
    split at h
    · simp at h; simp [h.2.1]
    · split at h
      · simp at h; simp [h.2.1]
      · split at h
        · simp at h; simp [h.2.1]
        · split at h
          · simp at h; simp [h.2.1]
          · split at h
            · simp at h; simp [h.1.2]
            · cases h
  · subst hk
    rw [if_neg (by decide), if_neg (by decide), if_neg (by decide), if_neg (by decide), if_neg (by decide), if_pos rfl] at h
    simp only [Bool.and_eq_true, decide_eq_true_eq] at h
    exact ⟨h.1.1.2, (namesJ_nodup ns [] h.1.2).2⟩
theorem find_one {k : Int} {ns : List ByteArray} {l : List JV} {name : ByteArray} {ok ok' : Bool} {y y' : JV} (h : FindR k ns l name ok y) (h' : FindR k ns l name ok' y') : ok = ok' ∧ y = y' := by
  rcases h with ⟨rfl, hk, i, h1, h2, h3⟩ | ⟨rfl, rfl, h1⟩ <;> rcases h' with ⟨rfl, hk', i', h1', h2', h3'⟩ | ⟨rfl, rfl, h1'⟩
  · have : i = i' := by
      have := ix_one (.inl ⟨i, rfl, h1, h2⟩ : Ix ns name i) (.inl ⟨i', rfl, h1', h2'⟩ : Ix ns name i')
      omega
    subst this
    rw [h3] at h3'
    exact ⟨rfl, by injection h3'⟩
  · exfalso
    rcases h1' with h4 | h4 | ⟨i', h4, h6, h5⟩
    · exact h4 hk
    · exact h4 _ (List.mem_of_getElem? h1) rfl
    · have hi := (List.getElem?_eq_some_iff.1 h3).1
      have := ix_one (.inl ⟨i, rfl, h1, h2⟩ : Ix ns name i) (.inl ⟨i', rfl, h4, h6⟩ : Ix ns name i')
      omega
  · exfalso
    rcases h1 with h4 | h4 | ⟨i, h4, h6, h5⟩
    · exact h4 hk'
    · exact h4 _ (List.mem_of_getElem? h1') rfl
    · have hi := (List.getElem?_eq_some_iff.1 h3').1
      have := ix_one (.inl ⟨i, rfl, h4, h6⟩ : Ix ns name i) (.inl ⟨i', rfl, h1', h2'⟩ : Ix ns name i')
      omega
  · exact ⟨rfl, rfl⟩
namespace jsonFindsWalk
set_option maxRecDepth 100000 in
set_option maxHeartbeats 8000000 in
theorem walkA (t0 : JV) (v0 : Value) (a1 : ByteArray) (w : World) (hE : Err w) (hal : ∀ w, Err w → Calls Tryz.prog 4 #[] w fun e w' => e = .returned (.bool true) ∧ Below w.heap.size w w') (w0 : IsJ w t0 v0) (w1 : a1.size ≤ maxLen) :
    Calls Tryz.prog 3 #[v0, .string a1] w fun e w' => e = .returned (.bool true) ∧ Below w.heap.size w w' := by
  have hGr := fun u w hu => great8_any t0 w u hu
  have hR := fun hs => right8_any t0 hs
  cases t0 with
  | mk k m s ns l =>
  have hFi := fun w x hi => find_any k m s ns l a1 w x hi
  have H0 := Lib.hid w0
  unfold IsJ at w0
  obtain ⟨_, _, _, na, nc, a, cap, rfl, hn, h4, h5, h6⟩ := w0
  have hA1 := (Below.refl _ w).alloc (Nat.le_refl _) (jobj k m s na ns.length nc a l.length cap)
  have hx0 := jat_alloc w #[.int .i64 k, .int .i64 m, .string s, .slice na ns.length nc, .slice a l.length cap]
  have HX0 := Lib.hid hx0
  have HL : Hid (∀ W : World, Below w.heap.size w W → IsJ W (.mk k m s ns l) (.agg #[.int .i64 k, .int .i64 m, .string s, .slice na ns.length nc, .slice a l.length cap])) := Lib.hid fun W hb => isJ_below hb _ _ H0.out
  clear hx0
  obtain ⟨g, hg⟩ : ∃ g, greatJ (.mk k m s ns l) = g := ⟨_, rfl⟩
  have hsz := greatJ_sz (.mk k m s ns l)
  rw [hg] at hGr hsz
  clear hg
  have HN := Lib.hid hn; have H6 := Lib.hid h6
  clear hn h6
  cases g with
  | true =>
    clear hR hFi hsz
    go_enter Tryz.func3, Tryz.ntmps3
    go_wp2_with (first
      | (go_at_call 4; (with_reducible refine (hal _ (err_below hE hA1)).mono ?_); rintro e w1 ⟨rfl, hB1⟩; have hC1 := hA1.trans (hB1.mono hA1.size); have hx1 := jat_below hB1 HX0.out; obtain ⟨⟨x0, x1, x2, x3, x4⟩, _⟩ := jbox5 hx1)
      | (go_at_call 5; (with_reducible refine (hGr _ _ (HL.out _ hC1)).mono ?_); rintro e w2 ⟨rfl, hB2⟩; have hC2 := hC1.trans (hB2.mono hC1.size)))
    go_ret
    exact ⟨rfl, hC2⟩
  | false =>
  replace hsz := hsz rfl
  have hR := hR (by omega)
  rcases Nat.lt_or_ge 300 a1.size with hbig | hsm
  · have d1 : decide ((300 : Int) < (a1.size : Int)) = true := decide_eq_true (by omega)
    go_enter Tryz.func3, Tryz.ntmps3
    go_wp2_with (first
      | (go_at_call 4; (with_reducible refine (hal _ (err_below hE hA1)).mono ?_); rintro e w1 ⟨rfl, hB1⟩; have hC1 := hA1.trans (hB1.mono hA1.size); have hx1 := jat_below hB1 HX0.out; obtain ⟨⟨x0, x1, x2, x3, x4⟩, _⟩ := jbox5 hx1)
      | (go_at_call 5; (with_reducible refine (hGr _ _ (HL.out _ hC1)).mono ?_); rintro e w2 ⟨rfl, hB2⟩; have hC2 := hC1.trans (hB2.mono hC1.size)))
    go_ret
    exact ⟨rfl, hC2⟩
  have d1 : decide ((300 : Int) < (a1.size : Int)) = false := decide_eq_false (by omega)
  obtain ⟨ok, y, hfix⟩ := find_some k ns l a1
  have hrn := right_names (k := k) (n := m) (s := s) (ns := ns) (l := l)
  obtain ⟨r, hr⟩ : ∃ r, rightJ (.mk k m s ns l) = r := ⟨_, rfl⟩
  rw [hr] at hR hrn
  clear hr
  have HF := Lib.hid hfix; have HRN := Lib.hid hrn
  clear hfix hrn
  cases r with
  | false =>
    go_enter Tryz.func3, Tryz.ntmps3
    go_wp2_with (first
      | (go_at_call 4; (with_reducible refine (hal _ (err_below hE hA1)).mono ?_); rintro e w1 ⟨rfl, hB1⟩; have hC1 := hA1.trans (hB1.mono hA1.size); have hx1 := jat_below hB1 HX0.out; obtain ⟨⟨x0, x1, x2, x3, x4⟩, _⟩ := jbox5 hx1)
      | (go_at_call 5; (with_reducible refine (hGr _ _ (HL.out _ hC1)).mono ?_); rintro e w2 ⟨rfl, hB2⟩; have hC2 := hC1.trans (hB2.mono hC1.size); have hx2 := jat_below hB2 hx1; obtain ⟨⟨y0, y1, y2, y3, y4⟩, _⟩ := jbox5 hx2)
      | (go_at_call 6; (with_reducible refine (hFi _ _ (HL.out _ hC2)).mono ?_); rintro e w3 ⟨Y, ok', y', rfl, hY, hF, hB3⟩; obtain ⟨rfl, rfl⟩ := find_one HF.out hF; obtain ⟨yk, yn, ys, yna, ynl, ync, ya, yll, ycap, rfl⟩ := isJ_form hY; have hC3 := hC2.trans (hB3.mono hC2.size); have hA3 := (Below.refl _ w3).alloc (Nat.le_refl _) (jobj yk yn ys yna ynl ync ya yll ycap); have hD3 := hC3.trans (hA3.mono hC3.size); have hx3 := jat_old (jat_below hB3 hx2) (jobj yk yn ys yna ynl ync ya yll ycap); obtain ⟨⟨z0, z1, z2, z3, z4⟩, _⟩ := jbox5 hx3)
      | (go_at_call 7; (with_reducible refine (hR _ _ (HL.out _ hD3)).mono ?_); rintro e w4 ⟨rfl, hB4⟩; have hC4 := hD3.trans (hB4.mono hD3.size)))
    go_ret
    exact ⟨rfl, hC4⟩
  | true =>
  obtain ⟨hrn1, hrn2⟩ := HRN.out rfl
  have hll := len_szJL l
  simp only [szJ] at hsz
  cases ok with
  | false =>
    have hy : y = JV.nil ∧ ∀ t, t ∈ ns → t ≠ a1 := by
      rcases HF.out with ⟨h, _⟩ | ⟨_, h1, h2⟩
      · cases h
      · refine ⟨h1, ?_⟩
        rcases h2 with h2 | h2 | ⟨i, h3, h4, h5⟩
        · rw [hrn1 h2]; simp
        · exact h2
        · exfalso
          by_cases hk : k = 6
          · have := (hrn2 hk).1
            have := (List.getElem?_eq_some_iff.1 h3).1
            omega
          · rw [hrn1 hk] at h3; simp at h3
    obtain ⟨rfl, hno⟩ := hy
    have HNO := Lib.hid hno
    have hS := fun w x y hx hy => same8_refl JV.nil w x y hx hy
    clear hno hrn1 hrn2 HRN
    go_enter Tryz.func3, Tryz.ntmps3
    go_wp2_with (first
      | (go_at_call 4; (with_reducible refine (hal _ (err_below hE hA1)).mono ?_); rintro e w1 ⟨rfl, hB1⟩; have hC1 := hA1.trans (hB1.mono hA1.size); have hx1 := jat_below hB1 HX0.out; obtain ⟨⟨x0, x1, x2, x3, x4⟩, _⟩ := jbox5 hx1)
      | (go_at_call 5; (with_reducible refine (hGr _ _ (HL.out _ hC1)).mono ?_); rintro e w2 ⟨rfl, hB2⟩; have hC2 := hC1.trans (hB2.mono hC1.size); have hx2 := jat_below hB2 hx1; obtain ⟨⟨y0, y1, y2, y3, y4⟩, _⟩ := jbox5 hx2)
      | (go_at_call 6; (with_reducible refine (hFi _ _ (HL.out _ hC2)).mono ?_); rintro e w3 ⟨Y, ok', y', rfl, hY, hF, hB3⟩; obtain ⟨rfl, rfl⟩ := find_one HF.out hF; obtain ⟨yk, yn, ys, yna, ynl, ync, ya, yll, ycap, rfl⟩ := isJ_form hY; have HY := Lib.hid hY; have hC3 := hC2.trans (hB3.mono hC2.size); have hA3 := (Below.refl _ w3).alloc (Nat.le_refl _) (jobj yk yn ys yna ynl ync ya yll ycap); have hD3 := hC3.trans (hA3.mono hC3.size); have hx3 := jat_old (jat_below hB3 hx2) (jobj yk yn ys yna ynl ync ya yll ycap); obtain ⟨⟨z0, z1, z2, z3, z4⟩, _⟩ := jbox5 hx3)
      | (go_at_call 7; (with_reducible refine (hR _ _ (HL.out _ hD3)).mono ?_); rintro e w4 ⟨rfl, hB4⟩; have hC4 := hD3.trans (hB4.mono hD3.size); have HX4 := Lib.hid (jat_below hB4 hx3); have HY4 := Lib.hid (jat_below hB4 (jat_alloc w3 #[.int .i64 yk, .int .i64 yn, .string ys, .slice yna ynl ync, .slice ya yll ycap])); have HYJ := Lib.hid (isJ_below (hA3.trans (hB4.mono hA3.size)) _ _ HY.out)))
    go_loopw [7, 8] (fun c i wr => ∃ q : Nat, i = .int .i64 (q : Int) ∧ c = .int .i64 0 ∧ q ≤ ns.length ∧ Below w4.heap.size w4 wr) (fun _ i _ => ns.length - (intOf i).toNat)
    case atStart => exact ⟨0, rfl, rfl, Nat.zero_le _, Below.refl _ _⟩
    case round =>
    obtain ⟨q, rfl, rfl, hq, hB⟩ := hrel
    have hxr := jat_below hB HX4.out
    have hyr := jat_below hB HY4.out
    obtain ⟨⟨p0, p1, p2, p3, p4⟩, _⟩ := jbox5 hxr
    obtain ⟨⟨r0, r1, r2, r3, r4⟩, _⟩ := jbox5 hyr
    have hCr := hC4.trans (hB.mono hC4.size)
    rcases Nat.lt_or_ge q ns.length with hlt | hge
    · have hd : decide (q < ns.length) = true := by simpa using hlt
      obtain ⟨t, ht⟩ : ∃ t, ns[q]? = some t := ⟨_, List.getElem?_eq_getElem hlt⟩
      obtain ⟨_, _, _, hx⟩ := HN.out
      have hne : ns ≠ [] := fun h => by rw [h] at hlt; simp at hlt
      obtain ⟨b, off, rfl, hc⟩ := hx.resolve_left hne
      have z0 := cellJ_below hCr (hc q t ht)
      have htn := HNO.out t (List.mem_of_getElem? ht)
      have e1 := list_ne htn
      clear hx hc hne ht htn
      go_wp2_with fail
      go_roundw
      case rel => exact ⟨q + 1, by go_num, rfl, hlt, hB⟩
      case measure => simp [intOf]; omega
    · have hd : decide (q < ns.length) = false := by simpa using hge
      have hyJ := isJ_below hB _ _ HYJ.out
      have hb0 := jbuild_zero
      go_wp2_with (go_at_call 8; (with_reducible refine (hS _ _ _ hyJ (isJ_zero _)).mono ?_); rintro e w5 ⟨rfl, hB5⟩)
      go_ret
      exact ⟨rfl, hCr.trans (hB5.mono hCr.size)⟩
  | true =>
    obtain ⟨i0, hi1, hi2, hi3, hk6⟩ : ∃ i0 : Nat, ns[i0]? = some a1 ∧ (∀ j : Nat, ns[j]? = some a1 → j = i0) ∧ l[i0]? = some y ∧ k = 6 := by
      rcases HF.out with ⟨_, h1, i, h2, h3, h4⟩ | ⟨h, _⟩
      · refine ⟨i, h2, fun j hj => ?_, h4, h1⟩
        have hnd := (hrn2 h1).2
        obtain ⟨h5, h6⟩ := List.getElem?_eq_some_iff.1 h2
        obtain ⟨h7, h8⟩ := List.getElem?_eq_some_iff.1 hj
        have hpw := List.pairwise_iff_getElem.1 hnd
        rcases Nat.lt_trichotomy j i with h | h | h
        · exact absurd (h8.trans h6.symm) (hpw j i h7 h5 h)
        · exact h
        · exact absurd (h6.trans h8.symm) (hpw i j h5 h7 h)
      · cases h
    have hi0 : i0 < ns.length := (List.getElem?_eq_some_iff.1 hi1).1
    have hi0l : i0 < l.length := (List.getElem?_eq_some_iff.1 hi3).1
    have hS := fun w u v hu hv => same8_refl y w u v hu hv
    have HI1 := Lib.hid hi1; have HI2 := Lib.hid hi2; have HI3 := Lib.hid hi3
    clear hrn1 hrn2 HRN hi1 hi2 hi3 hk6
    go_enter Tryz.func3, Tryz.ntmps3
    go_wp2_with (first
      | (go_at_call 4; (with_reducible refine (hal _ (err_below hE hA1)).mono ?_); rintro e w1 ⟨rfl, hB1⟩; have hC1 := hA1.trans (hB1.mono hA1.size); have hx1 := jat_below hB1 HX0.out; obtain ⟨⟨x0, x1, x2, x3, x4⟩, _⟩ := jbox5 hx1)
      | (go_at_call 5; (with_reducible refine (hGr _ _ (HL.out _ hC1)).mono ?_); rintro e w2 ⟨rfl, hB2⟩; have hC2 := hC1.trans (hB2.mono hC1.size); have hx2 := jat_below hB2 hx1; obtain ⟨⟨y0, y1, y2, y3, y4⟩, _⟩ := jbox5 hx2)
      | (go_at_call 6; (with_reducible refine (hFi _ _ (HL.out _ hC2)).mono ?_); rintro e w3 ⟨Y, ok', y', rfl, hY, hF, hB3⟩; obtain ⟨rfl, rfl⟩ := find_one HF.out hF; obtain ⟨yk, yn, ys, yna, ynl, ync, ya, yll, ycap, rfl⟩ := isJ_form hY; have HY := Lib.hid hY; have hC3 := hC2.trans (hB3.mono hC2.size); have hA3 := (Below.refl _ w3).alloc (Nat.le_refl _) (jobj yk yn ys yna ynl ync ya yll ycap); have hD3 := hC3.trans (hA3.mono hC3.size); have hx3 := jat_old (jat_below hB3 hx2) (jobj yk yn ys yna ynl ync ya yll ycap); obtain ⟨⟨z0, z1, z2, z3, z4⟩, _⟩ := jbox5 hx3)
      | (go_at_call 7; (with_reducible refine (hR _ _ (HL.out _ hD3)).mono ?_); rintro e w4 ⟨rfl, hB4⟩; have hC4 := hD3.trans (hB4.mono hD3.size); have HX4 := Lib.hid (jat_below hB4 hx3); have HY4 := Lib.hid (jat_below hB4 (jat_alloc w3 #[.int .i64 yk, .int .i64 yn, .string ys, .slice yna ynl ync, .slice ya yll ycap])); have HYJ := Lib.hid (isJ_below (hA3.trans (hB4.mono hA3.size)) _ _ HY.out)))
    go_loopw [7, 8] (fun c i wr => ∃ q : Nat, i = .int .i64 (q : Int) ∧ c = .int .i64 (if i0 < q then 1 else 0) ∧ q ≤ ns.length ∧ Below w4.heap.size w4 wr) (fun _ i _ => ns.length - (intOf i).toNat)
    case atStart => exact ⟨0, rfl, by simp, Nat.zero_le _, Below.refl _ _⟩
    case round =>
    obtain ⟨q, rfl, rfl, hq, hB⟩ := hrel
    have hxr := jat_below hB HX4.out
    have hyr := jat_below hB HY4.out
    obtain ⟨⟨p0, p1, p2, p3, p4⟩, _⟩ := jbox5 hxr
    obtain ⟨⟨r0, r1, r2, r3, r4⟩, _⟩ := jbox5 hyr
    have hCr := hC4.trans (hB.mono hC4.size)
    rcases Nat.lt_or_ge q ns.length with hlt | hge
    · have hd : decide (q < ns.length) = true := by simpa using hlt
      obtain ⟨t, ht⟩ : ∃ t, ns[q]? = some t := ⟨_, List.getElem?_eq_getElem hlt⟩
      obtain ⟨_, _, _, hx⟩ := HN.out
      have hne : ns ≠ [] := fun h => by rw [h] at hlt; simp at hlt
      obtain ⟨b, off, rfl, hc⟩ := hx.resolve_left hne
      have z0 := cellJ_below hCr (hc q t ht)
      by_cases hqi : q = i0
      · subst hqi
        obtain rfl : t = a1 := by have := HI1.out; rw [ht] at this; injection this
        rw [if_neg (by omega)]
        have hnx : (if q < q + 1 then (1 : Int) else 0) = 1 := if_pos (by omega)
        have HNX := Lib.hid hnx
        have hnel : l ≠ [] := fun h => by rw [h] at hi0l; simp at hi0l
        obtain ⟨b', off', rfl, hc'⟩ := H6.out.resolve_left hnel
        cases y with
        | mk jk jn js jns jl =>
        obtain ⟨jna, jnc, ja, jc, ⟨g0, g1, g2, g3, g4⟩, hj⟩ := isJL_val (isJL_below hCr hc') q _ _ _ _ _ HI3.out
        have hyJ := isJ_below hB _ _ HYJ.out
        have HS : ∀ W, Below wr.heap.size wr W → Calls Tryz.prog 8 #[.agg #[.int .i64 yk, .int .i64 yn, .string ys, .slice yna ynl ync, .slice ya yll ycap], .agg #[.int .i64 jk, .int .i64 jn, .string js, .slice jna jns.length jnc, .slice ja jl.length jc]] W fun e w' => e = .returned (.bool true) ∧ Below W.heap.size W w' := fun W hW => hS W _ _ (isJ_below hW _ _ hyJ) (isJ_below hW _ _ hj)
        clear hx hc hne ht hc' hnel hj hyJ hnx hS
        go_wp2_with fail
        go_region_with (go_at_call 8; (with_reducible refine (HS _ (by first | exact (Below.refl _ _).drew | exact Below.refl _ _)).mono ?_); rintro e w5 ⟨rfl, hB5⟩)
        all_goals go_wp2_with fail
        all_goals
          go_roundw
          case rel => exact ⟨q + 1, by go_num, by rw [HNX.out], hlt, by first | exact hB.drew.trans (hB5.mono hB.size) | exact hB.trans (hB5.mono hB.size)⟩
          case measure => simp [intOf]; omega
      · have htn : t ≠ a1 := fun h => hqi (HI2.out q (by rw [ht, h]))
        have e1 := list_ne htn
        have hnx : (if i0 < q then (1 : Int) else 0) = if i0 < q + 1 then 1 else 0 := by
          rcases Nat.lt_or_ge i0 q with h | h
          · rw [if_pos h, if_pos (by omega)]
          · rw [if_neg (by omega), if_neg (by omega)]
        have HNX := Lib.hid hnx
        obtain ⟨cn, hcn⟩ : ∃ cn : Int, (if i0 < q then 1 else 0) = cn := ⟨_, rfl⟩
        rw [hcn] at HNX ⊢
        clear hx hc hne ht htn hnx hcn
        go_wp2_with fail
        go_roundw
        case rel => exact ⟨q + 1, by go_num, by rw [HNX.out], hlt, hB⟩
        case measure => simp [intOf]; omega
    · have hd : decide (q < ns.length) = false := by simpa using hge
      rw [if_pos (by omega)]
      go_wp2_with fail
      go_ret
      exact ⟨rfl, hCr⟩
end jsonFindsWalk
end Go.Proofs.YtpiajoffddjjfaaGreatDoor
