/- The program's Same: a thing is the same as itself, wherever the two lie. -/
import Derived.Test.YtpiajoffddjjfaaGreatDoorJvGreat
import Derived.Deep.DeepCutAuto
set_option linter.unusedVariables false
namespace Go.Proofs.YtpiajoffddjjfaaGreatDoor
open Go.RowKit Go.Shelf
set_option maxHeartbeats 4000000 in
theorem equalNames_any (a a' : Option Addr) (c c' : Nat) (ns : List ByteArray) (w : World) (hu : NRow w a c ns) (hv : NRow w a' c' ns) :
    Calls Tryz.prog 18 #[.slice a ns.length c, .slice a' ns.length c'] w fun e w' => e = .returned (.bool true) ∧ Below w.heap.size w w' := by
  obtain ⟨h1, h2, _, hx⟩ := hu
  obtain ⟨h1', h2', _, hx'⟩ := hv
  have hm : ns.length ≤ maxLen := Nat.le_trans h1 h2
  unfold maxLen at hm
  go_enter Tryz.func18, Tryz.ntmps18
  go_wp2_with fail
  go_loopw [5, 13] (fun _ i wr => ∃ q : Nat, i = .int .i64 (q : Int) ∧ q ≤ ns.length ∧ Below w.heap.size w wr) (fun _ i _ => ns.length - (intOf i).toNat)
  case atStart => exact ⟨0, rfl, Nat.zero_le _, Below.refl _ _⟩
  case round =>
  obtain ⟨q, rfl, hq, hB⟩ := hrel
  rcases Nat.lt_or_ge q ns.length with hlt | hge
  · have hd : decide (q < ns.length) = true := by simpa using hlt
    have hne : ns ≠ [] := fun h => by rw [h] at hlt; simp at hlt
    obtain ⟨b, off, rfl, hc⟩ := hx.resolve_left hne
    obtain ⟨b', off', rfl, hc'⟩ := hx'.resolve_left hne
    obtain ⟨t, ht⟩ : ∃ t, ns[q]? = some t := ⟨_, List.getElem?_eq_getElem hlt⟩
    have z0 := cellJ_below hB (hc q t ht)
    have z1 := cellJ_below hB (hc' q t ht)
    clear hx hx' hc hc' hne ht
    go_wp2
    go_region
    all_goals go_wp2
    all_goals
      go_roundw
      case rel => exact ⟨q + 1, by go_num, hlt, hB.drew⟩
      case measure => simp [intOf]; omega
  · have hd : decide (q < ns.length) = false := by simpa using hge
    go_wp2
    go_ret
    exact ⟨rfl, hB⟩
set_option maxHeartbeats 4000000 in
theorem equalThings_any (l : List JV) (ih : ∀ y ∈ l, ∀ w u v, IsJ w y u → IsJ w y v → Calls Tryz.prog 8 #[u, v] w fun e w' => e = .returned (.bool true) ∧ Below w.heap.size w w')
    (w : World) (a a' : Option Addr) (c c' : Nat) (h4 : l.length ≤ c) (h5 : c ≤ maxLen) (h6 : l = [] ∨ ∃ b off, a = some ⟨b, off, none⟩ ∧ IsJL w b l off) (h6' : l = [] ∨ ∃ b off, a' = some ⟨b, off, none⟩ ∧ IsJL w b l off) :
    Calls Tryz.prog 19 #[.slice a l.length c, .slice a' l.length c', .func (.func 8) #[] #[]] w fun e w' => e = .returned (.bool true) ∧ Below w.heap.size w w' := by
  have hm : l.length ≤ maxLen := Nat.le_trans h4 h5
  unfold maxLen at hm
  have HI := Lib.hid ih; clear ih
  go_enter Tryz.func19, Tryz.ntmps19
  go_wp2_with fail
  go_loopw [7, 8, 9, 17] (fun _ _ _ i wr => ∃ q : Nat, i = .int .i64 (q : Int) ∧ q ≤ l.length ∧ Below w.heap.size w wr) (fun _ _ _ i _ => l.length - (intOf i).toNat)
  case atStart => exact ⟨0, rfl, Nat.zero_le _, Below.refl _ _⟩
  case round =>
  obtain ⟨q, rfl, hq, hB⟩ := hrel
  rcases Nat.lt_or_ge q l.length with hlt | hge
  · have hd : decide (q < l.length) = true := by simpa using hlt
    have hne : l ≠ [] := fun h => by rw [h] at hlt; simp at hlt
    obtain ⟨b, off, rfl, hc⟩ := h6.resolve_left hne
    obtain ⟨b', off', rfl, hc'⟩ := h6'.resolve_left hne
    obtain ⟨y, hy⟩ : ∃ y, l[q]? = some y := ⟨_, List.getElem?_eq_getElem hlt⟩
    have hcall := fun w u v => HI.out y (List.mem_of_getElem? hy) w u v
    cases y with
    | mk yk yn ys yns yl =>
    obtain ⟨na, nc, ya, yc, ⟨g0, g1, g2, g3, g4⟩, hi⟩ := isJL_val (isJL_below hB hc) q _ _ _ _ _ hy
    obtain ⟨na', nc', ya', yc', ⟨p0, p1, p2, p3, p4⟩, hi'⟩ := isJL_val (isJL_below hB hc') q _ _ _ _ _ hy
    have HC := Lib.hid hcall; have HI1 := Lib.hid hi; have HI2 := Lib.hid hi'
    have hA1 := (Below.refl _ wr).alloc (Nat.le_refl _) (jobj yk yn ys na yns.length nc ya yl.length yc)
    have hA2 := hA1.alloc (by simp) (jobj yk yn ys na' yns.length nc' ya' yl.length yc')
    have r0 := cellJ_below hA1 p0; have r1 := cellJ_below hA1 p1; have r2 := cellJ_below hA1 p2; have r3 := cellJ_below hA1 p3; have r4 := cellJ_below hA1 p4
    clear h6 h6' hc hc' hne hy hcall hi hi'
    go_wp2_with (go_at_call 8; (with_reducible refine (HC.out _ _ _ (isJ_below hA2 _ _ HI1.out) (isJ_below hA2 _ _ HI2.out)).mono ?_); rintro e w' ⟨rfl, hb⟩)
    go_roundw
    case rel => exact ⟨q + 1, by go_num, hlt, hB.trans ((hA2.trans (hb.mono hA2.size)).mono hB.size)⟩
    case measure => simp [intOf]; omega
  · have hd : decide (q < l.length) = false := by simpa using hge
    go_wp2
    go_ret
    exact ⟨rfl, hB⟩
set_option maxHeartbeats 4000000 in
theorem same8_refl (v : JV) : ∀ w x y, IsJ w v x → IsJ w v y → Calls Tryz.prog 8 #[x, y] w fun e w' => e = .returned (.bool true) ∧ Below w.heap.size w w' := by
  induction v using jv_ind with
  | h k m s ns l ih =>
    intro w x y hx hy
    unfold IsJ at hx hy
    obtain ⟨_, _, _, na, nc, a, cap, rfl, hn, h4, h5, h6⟩ := hx
    obtain ⟨_, _, _, na', nc', a', cap', rfl, hn', h4', h5', h6'⟩ := hy
    have hA1 := (Below.refl _ w).alloc (Nat.le_refl _) (jobj k m s na ns.length nc a l.length cap)
    have hA2 := hA1.alloc (by simp) (jobj k m s na' ns.length nc' a' l.length cap')
    have hEN := fun W hu hv => equalNames_any na na' nc nc' ns W hu hv
    have hET := fun W h h' => equalThings_any l ih W a a' cap cap' h4 h5 h h'
    have HN := Lib.hid (nrow_below hA2 hn); have HN' := Lib.hid (nrow_below hA2 hn')
    have keep : ∀ {W : World} {a : Option Addr}, Below w.heap.size w W → (l = [] ∨ ∃ b off, a = some ⟨b, off, none⟩ ∧ IsJL w b l off) → (l = [] ∨ ∃ b off, a = some ⟨b, off, none⟩ ∧ IsJL W b l off) := fun hb h => h.imp id fun ⟨b, off, ha, hl⟩ => ⟨b, off, ha, isJL_below hb hl⟩
    have H6 := Lib.hid h6; have H6' := Lib.hid h6'
    have KEEP : ∀ {W : World}, Below w.heap.size w W → Hid (l = [] ∨ ∃ b off, a = some ⟨b, off, none⟩ ∧ IsJL W b l off) ∧ Hid (l = [] ∨ ∃ b off, a' = some ⟨b, off, none⟩ ∧ IsJL W b l off) := fun hb => ⟨Lib.hid (keep hb H6.out), Lib.hid (keep hb H6'.out)⟩
    clear ih h6 h6' hn hn' keep
    go_enter Tryz.func8, Tryz.ntmps8
    go_wp2_with (first
      | (go_at_call 18; (with_reducible refine (hEN _ HN.out HN'.out).mono ?_); rintro e w1 ⟨rfl, hb1⟩; have hB1 := hA2.trans (hb1.mono hA2.size); have e4 := cellJ_below hb1 (p := ⟨w.heap.size, 4, none⟩) (v := .slice a l.length cap) (by simp); have f4 := cellJ_below hb1 (p := ⟨w.heap.size + 1, 4, none⟩) (v := .slice a' l.length cap') (by simp))
      | (go_at_call 19; (with_reducible refine (hET _ (KEEP hB1).1.out (KEEP hB1).2.out).mono ?_); rintro e w2 ⟨rfl, hb2⟩; have hB2 := hB1.trans (hb2.mono hB1.size)))
    go_ret
    exact ⟨rfl, hB2⟩
end Go.Proofs.YtpiajoffddjjfaaGreatDoor

/- The program's Same: things of two kinds are not the same. -/
set_option linter.unusedVariables false
namespace Go.Proofs.YtpiajoffddjjfaaGreatDoor
open Go.RowKit Go.Shelf
set_option maxHeartbeats 4000000 in
theorem same8_kind (k k' m m' : Int) (s s' : ByteArray) (ns ns' : List ByteArray) (l l' : List JV) (hk : k ≠ k') (w : World) (x y : Value) (hx : IsJ w (.mk k m s ns l) x) (hy : IsJ w (.mk k' m' s' ns' l') y) :
    Calls Tryz.prog 8 #[x, y] w fun e w' => e = .returned (.bool false) ∧ Below w.heap.size w w' := by
  unfold IsJ at hx hy
  obtain ⟨_, _, _, na, nc, a, cap, rfl, hn, h4, h5, h6⟩ := hx
  obtain ⟨_, _, _, na', nc', a', cap', rfl, hn', h4', h5', h6'⟩ := hy
  have hA1 := (Below.refl _ w).alloc (Nat.le_refl _) (jobj k m s na ns.length nc a l.length cap)
  have hA2 := hA1.alloc (by simp) (jobj k' m' s' na' ns'.length nc' a' l'.length cap')
  have e0 : (k == k') = false := by simpa using hk
  clear hn hn' h6 h6' hk
  go_enter Tryz.func8, Tryz.ntmps8
  go_wp2_with fail
  go_ret
  exact ⟨rfl, hA2⟩
end Go.Proofs.YtpiajoffddjjfaaGreatDoor
