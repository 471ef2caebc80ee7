/- Layer 7: the token that begins at a place. -/
import Derived.Test.YtpiajoffddjjfaaGreatDoorMg33Jso
namespace Go.Proofs.YtpiajoffddjjfaaGreatDoor
open Go.RowKit Go.Shelf
set_option maxHeartbeats 4000000 in
set_option maxRecDepth 100000 in
theorem begun_any (s : ByteArray) (p : Nat) (w : World) (hsm : s.size ≤ 100000) (hp : p ≤ s.size) (hE : Err w) :
    Calls Tryz.prog 46 #[.string s, .int .i64 p] w (Begun (strB s) p w) := by
  by_cases hmark : ∃ hlt : p < s.size, (s[p].toNat : Int) ≠ 34 ∧ (s[p].toNat : Int) ≠ 45 ∧ K.dg.contains (s[p].toNat : Int) = false ∧ K.lt.contains (s[p].toNat : Int) = false
  · obtain ⟨hlt, m1, m2, m3, m4⟩ := hmark
    exact begun_mark s p w hsm hlt m1 m2 m3 m4
  have HMARK := Lib.hid hmark; clear hmark
  unfold Begun
  obtain ⟨g, hg⟩ : ∃ g, K.tok (strB s) p = g := ⟨_, rfl⟩
  rw [hg]
  unfold K.tok at hg
  rw [strB_len] at hg
  by_cases hend : s.size ≤ p
  · rw [if_pos hend] at hg
    subst hg
    have d1 : ((p : Int) == (s.size : Int)) = true := by simp; omega
    have hbuild := build_at
    have HEND := Lib.hid hend; clear hend
    go_enter Tryz.func46, Tryz.ntmps46
    go_wp2
    go_step3
    go_wp2
    rw [Exit.noGoto_ret]
    refine bodyPost_ret (results_begun _ _ w.heap.size _ rfl (gat_old (gat_alloc _ _) _) rfl) rfl ?_
    exact ⟨⟨0, p, p, [], 0⟩, rfl, fun _ => rfl, rfl, ((Below.refl _ w).alloc (Nat.le_refl _) _).alloc (by simp) _⟩
  rw [if_neg hend] at hg
  have hlt : p < s.size := by omega
  have hx := strB_at s p hlt
  rw [hx] at hg
  have hbuild := build_at
  have d1 : ((p : Int) == (s.size : Int)) = false := by simp; omega
  have hsz5 := token_info
  have hE2 : ∀ o1 o2, Err ((w.alloc o1).alloc o2) := fun o1 o2 => err_below hE (((Below.refl _ w).alloc (Nat.le_refl _) _).alloc (by simp) _)
  clear hx hend
  by_cases h34 : (s[p].toNat : Int) = 34
  · rw [if_pos h34] at hg
    have c1 := fun w hE => tokText_any s p w hsm hlt hE
    unfold K.textAt at c1
    obtain ⟨o, q, hT⟩ : ∃ o q, K.text (strB s) (p + 1) = (o, q) := ⟨_, _, rfl⟩
    rw [hT] at hg
    simp only [hT] at c1
    have d2 : ((s[p].toNat : Int) == 34) = true := by simpa using h34
    clear hT
    have H34 := Lib.hid h34; clear h34
    cases o with
    | none =>
      simp only at hg c1
      subst hg
      go_enter Tryz.func46, Tryz.ntmps46
      go_wp2
      go_step3
      go_wp2
      go_step3
      go_wp2_with (first
        | (go_at_call 50; (with_reducible first | refine (cw1 _).mono ?_ | refine (cw2 _).mono ?_); rintro e w' ⟨rfl, rfl⟩)
        | (go_at_call 49; (with_reducible refine (c1 _ (hE2 _ _)).mono ?_); rintro e w1 ⟨rfl, hB1⟩; have g0 := gat_below hB1 (gat_old (gat_alloc w _) _); have g1 := gat_below hB1 (gat_alloc (w.alloc _) _); rw [World.size_alloc] at g1; have hBw := (((Below.refl _ w).alloc (Nat.le_refl _) _).alloc (by simp) _).trans (hB1.mono (by simp; omega)); obtain ⟨⟨p0, p1, p2, p3, p4⟩, q0, q1, q2, q3, q4⟩ := box5 g0; obtain ⟨⟨r0, r1, r2, r3, r4⟩, t0, t1, t2, t3, t4⟩ := box5 g1))
      rw [Exit.noGoto_ret]
      refine bodyPost_ret (results_begun _ _ w.heap.size _ rfl (gat_set5 (gat_other (gat_other g0 (by omega) 3 _) (by omega) 2 _) _ _ _ _ _) rfl) rfl ?_
      exact ⟨⟨7, p, q, [], 0⟩, rfl, (fun h => (by cases h)), rfl, below_set5 ((hBw.setCell (p := ⟨w.heap.size + 1, 3, none⟩) (by simp) _).setCell (p := ⟨w.heap.size + 1, 2, none⟩) (by simp) _) (Nat.le_refl _) _ _ _ _ _ _ _ _ _ _⟩
    | some o =>
      simp only at hg c1
      subst hg
      go_enter Tryz.func46, Tryz.ntmps46
      go_wp2
      go_step3
      go_wp2
      go_step3
      go_wp2_with (first
        | (go_at_call 50; (with_reducible first | refine (cw1 _).mono ?_ | refine (cw2 _).mono ?_); rintro e w' ⟨rfl, rfl⟩)
        | (go_at_call 49; (with_reducible refine (c1 _ (hE2 _ _)).mono ?_); rintro e w1 ⟨rfl, hB1⟩; have g0 := gat_below hB1 (gat_old (gat_alloc w _) _); have g1 := gat_below hB1 (gat_alloc (w.alloc _) _); rw [World.size_alloc] at g1; have hBw := (((Below.refl _ w).alloc (Nat.le_refl _) _).alloc (by simp) _).trans (hB1.mono (by simp; omega)); obtain ⟨⟨p0, p1, p2, p3, p4⟩, q0, q1, q2, q3, q4⟩ := box5 g0; obtain ⟨⟨r0, r1, r2, r3, r4⟩, t0, t1, t2, t3, t4⟩ := box5 g1))
      rw [Exit.noGoto_ret]
      refine bodyPost_ret (results_begun _ _ w.heap.size _ rfl (gat_set5 (gat_other (gat_other g0 (by omega) 3 _) (by omega) 2 _) _ _ _ _ _) rfl) rfl ?_
      exact ⟨⟨7, p, q, o, 0⟩, rfl, fun _ => rfl, rfl, below_set5 ((hBw.setCell (p := ⟨w.heap.size + 1, 3, none⟩) (by simp) _).setCell (p := ⟨w.heap.size + 1, 2, none⟩) (by simp) _) (Nat.le_refl _) _ _ _ _ _ _ _ _ _ _⟩
  rw [if_neg h34] at hg
  have d2 : ((s[p].toNat : Int) == 34) = false := by simpa using h34
  have H34 := Lib.hid h34; clear h34
  have hu := u8_bd s[p]
  have cw1 := fun w => within_any ⟨#[48, 49, 50, 51, 52, 53, 54, 55, 56, 57]⟩ (s[p].toNat : Int) w hu.1 hu.2
  rw [show strB ⟨#[48, 49, 50, 51, 52, 53, 54, 55, 56, 57]⟩ = K.dg by decide] at cw1
  have cw2 := fun w => within_any ⟨#[65, 66, 67, 68, 69, 70, 71, 72, 73, 74, 75, 76, 77, 78, 79, 80, 81, 82, 83, 84, 85, 86, 87, 88, 89, 90, 97, 98, 99, 100, 101, 102, 103, 104, 105, 106, 107, 108, 109, 110, 111, 112, 113, 114, 115, 116, 117, 118, 119, 120, 121, 122]⟩ (s[p].toNat : Int) w hu.1 hu.2
  rw [show strB ⟨#[65, 66, 67, 68, 69, 70, 71, 72, 73, 74, 75, 76, 77, 78, 79, 80, 81, 82, 83, 84, 85, 86, 87, 88, 89, 90, 97, 98, 99, 100, 101, 102, 103, 104, 105, 106, 107, 108, 109, 110, 111, 112, 113, 114, 115, 116, 117, 118, 119, 120, 121, 122]⟩ = K.lt by decide] at cw2
  by_cases hnum : (s[p].toNat : Int) = 45 ∨ K.dg.contains (s[p].toNat : Int) = true
  · rw [if_pos hnum] at hg
    have c1 := fun w => tokNumber_any s p w hsm (Nat.le_of_lt hlt)
    unfold K.numAt at c1
    obtain ⟨q, hq⟩ : ∃ q, K.runTo K.nb (strB s) p = q := ⟨_, rfl⟩
    obtain ⟨n, er, hn⟩ : ∃ n er, K.number (K.row (strB s) p q) = (n, er) := ⟨_, _, rfl⟩
    simp only [hq, hn] at c1 hg
    clear hq hn cw2
    have d3 : ((s[p].toNat : Int) == 45) = true ∨ (((s[p].toNat : Int) == 45) = false ∧ K.dg.contains (s[p].toNat : Int) = true) := by
      by_cases h : (s[p].toNat : Int) = 45
      · left; simpa using h
      · right; exact ⟨by simpa using h, hnum.resolve_left h⟩
    have HN := Lib.hid hnum; clear hnum hu
    by_cases her : er = 0
    · subst her
      rw [if_pos rfl] at hg
      simp only [if_pos] at c1
      subst hg
      rcases d3 with d3 | ⟨d3, d4⟩
      · have cw2 := cw1
        go_enter Tryz.func46, Tryz.ntmps46
        go_wp2
        go_step3
        go_wp2
        go_step3
        go_wp2_with (first
          | (go_at_call 50; (with_reducible first | refine (cw1 _).mono ?_ | refine (cw2 _).mono ?_); rintro e w' ⟨rfl, rfl⟩)
          | (go_at_call 51; (with_reducible refine (c1 _).mono ?_); rintro e w1 ⟨rfl, hB1⟩; have g0 := gat_below hB1 (gat_old (gat_alloc w _) _); have g1 := gat_below hB1 (gat_alloc (w.alloc _) _); rw [World.size_alloc] at g1; have hBw := (((Below.refl _ w).alloc (Nat.le_refl _) _).alloc (by simp) _).trans (hB1.mono (by simp; omega)); obtain ⟨⟨p0, p1, p2, p3, p4⟩, q0, q1, q2, q3, q4⟩ := box5 g0; obtain ⟨⟨r0, r1, r2, r3, r4⟩, t0, t1, t2, t3, t4⟩ := box5 g1))
        rw [Exit.noGoto_ret]
        refine bodyPost_ret (results_begun _ _ w.heap.size _ rfl (gat_set5 (gat_other (gat_other g0 (by omega) 4 _) (by omega) 2 _) _ _ _ _ _) rfl) rfl ?_
        exact ⟨⟨8, p, q, [], n⟩, rfl, (fun _ => rfl), rfl, below_set5 ((hBw.setCell (p := ⟨w.heap.size + 1, 4, none⟩) (by simp) _).setCell (p := ⟨w.heap.size + 1, 2, none⟩) (by simp) _) (Nat.le_refl _) _ _ _ _ _ _ _ _ _ _⟩
      · simp only [d4] at cw1
        have cw2 := cw1
        go_enter Tryz.func46, Tryz.ntmps46
        go_wp2
        go_step3
        go_wp2
        go_step3
        go_wp2_with (first
          | (go_at_call 50; (with_reducible first | refine (cw1 _).mono ?_ | refine (cw2 _).mono ?_); rintro e w' ⟨rfl, rfl⟩)
          | (go_at_call 51; (with_reducible refine (c1 _).mono ?_); rintro e w1 ⟨rfl, hB1⟩; have g0 := gat_below hB1 (gat_old (gat_alloc w _) _); have g1 := gat_below hB1 (gat_alloc (w.alloc _) _); rw [World.size_alloc] at g1; have hBw := (((Below.refl _ w).alloc (Nat.le_refl _) _).alloc (by simp) _).trans (hB1.mono (by simp; omega)); obtain ⟨⟨p0, p1, p2, p3, p4⟩, q0, q1, q2, q3, q4⟩ := box5 g0; obtain ⟨⟨r0, r1, r2, r3, r4⟩, t0, t1, t2, t3, t4⟩ := box5 g1))
        rw [Exit.noGoto_ret]
        refine bodyPost_ret (results_begun _ _ w.heap.size _ rfl (gat_set5 (gat_other (gat_other g0 (by omega) 4 _) (by omega) 2 _) _ _ _ _ _) rfl) rfl ?_
        exact ⟨⟨8, p, q, [], n⟩, rfl, (fun _ => rfl), rfl, below_set5 ((hBw.setCell (p := ⟨w.heap.size + 1, 4, none⟩) (by simp) _).setCell (p := ⟨w.heap.size + 1, 2, none⟩) (by simp) _) (Nat.le_refl _) _ _ _ _ _ _ _ _ _ _⟩
    · rw [if_neg her] at hg
      simp only [if_neg her] at c1
      subst hg
      rcases d3 with d3 | ⟨d3, d4⟩
      · have cw2 := cw1
        go_enter Tryz.func46, Tryz.ntmps46
        go_wp2
        go_step3
        go_wp2
        go_step3
        go_wp2_with (first
          | (go_at_call 50; (with_reducible first | refine (cw1 _).mono ?_ | refine (cw2 _).mono ?_); rintro e w' ⟨rfl, rfl⟩)
          | (go_at_call 51; (with_reducible refine (c1 _).mono ?_); rintro e w1 ⟨rfl, hB1⟩; have g0 := gat_below hB1 (gat_old (gat_alloc w _) _); have g1 := gat_below hB1 (gat_alloc (w.alloc _) _); rw [World.size_alloc] at g1; have hBw := (((Below.refl _ w).alloc (Nat.le_refl _) _).alloc (by simp) _).trans (hB1.mono (by simp; omega)); obtain ⟨⟨p0, p1, p2, p3, p4⟩, q0, q1, q2, q3, q4⟩ := box5 g0; obtain ⟨⟨r0, r1, r2, r3, r4⟩, t0, t1, t2, t3, t4⟩ := box5 g1))
        rw [Exit.noGoto_ret]
        refine bodyPost_ret (results_begun _ _ w.heap.size _ rfl (gat_set5 (gat_other (gat_other g0 (by omega) 4 _) (by omega) 2 _) _ _ _ _ _) rfl) rfl ?_
        exact ⟨⟨8, p, p, [], 0⟩, rfl, (fun h => absurd h her), rfl, below_set5 ((hBw.setCell (p := ⟨w.heap.size + 1, 4, none⟩) (by simp) _).setCell (p := ⟨w.heap.size + 1, 2, none⟩) (by simp) _) (Nat.le_refl _) _ _ _ _ _ _ _ _ _ _⟩
      · simp only [d4] at cw1
        have cw2 := cw1
        go_enter Tryz.func46, Tryz.ntmps46
        go_wp2
        go_step3
        go_wp2
        go_step3
        go_wp2_with (first
          | (go_at_call 50; (with_reducible first | refine (cw1 _).mono ?_ | refine (cw2 _).mono ?_); rintro e w' ⟨rfl, rfl⟩)
          | (go_at_call 51; (with_reducible refine (c1 _).mono ?_); rintro e w1 ⟨rfl, hB1⟩; have g0 := gat_below hB1 (gat_old (gat_alloc w _) _); have g1 := gat_below hB1 (gat_alloc (w.alloc _) _); rw [World.size_alloc] at g1; have hBw := (((Below.refl _ w).alloc (Nat.le_refl _) _).alloc (by simp) _).trans (hB1.mono (by simp; omega)); obtain ⟨⟨p0, p1, p2, p3, p4⟩, q0, q1, q2, q3, q4⟩ := box5 g0; obtain ⟨⟨r0, r1, r2, r3, r4⟩, t0, t1, t2, t3, t4⟩ := box5 g1))
        rw [Exit.noGoto_ret]
        refine bodyPost_ret (results_begun _ _ w.heap.size _ rfl (gat_set5 (gat_other (gat_other g0 (by omega) 4 _) (by omega) 2 _) _ _ _ _ _) rfl) rfl ?_
        exact ⟨⟨8, p, p, [], 0⟩, rfl, (fun h => absurd h her), rfl, below_set5 ((hBw.setCell (p := ⟨w.heap.size + 1, 4, none⟩) (by simp) _).setCell (p := ⟨w.heap.size + 1, 2, none⟩) (by simp) _) (Nat.le_refl _) _ _ _ _ _ _ _ _ _ _⟩
  rw [if_neg hnum] at hg
  have d3 : ((s[p].toNat : Int) == 45) = false := by simp; omega
  have d4 : K.dg.contains (s[p].toNat : Int) = false := by
    cases h : K.dg.contains (s[p].toNat : Int) with
    | false => rfl
    | true => exact absurd (.inr h) hnum
  simp only [d4] at cw1
  clear hnum
  by_cases hlet : K.lt.contains (s[p].toNat : Int) = true
  · rw [if_pos hlet] at hg
    simp only [hlet] at cw2
    have c1 := fun w => tokWord_any s p w hsm (Nat.le_of_lt hlt)
    unfold K.wordAt at c1
    obtain ⟨q, hq⟩ : ∃ q, K.runTo K.lt (strB s) p = q := ⟨_, rfl⟩
    obtain ⟨o, ho⟩ : ∃ o, K.row (strB s) p q = o := ⟨_, rfl⟩
    simp only [hq, ho] at c1 hg
    clear hq ho hlet hu d4
    by_cases hw : K.isWord o = true
    · rw [if_pos hw] at hg
      simp only [if_pos hw] at c1
      subst hg
      go_enter Tryz.func46, Tryz.ntmps46
      go_wp2
      go_step3
      go_wp2
      go_step3
      go_wp2_with (first
        | (go_at_call 50; (with_reducible first | refine (cw1 _).mono ?_ | refine (cw2 _).mono ?_); rintro e w' ⟨rfl, rfl⟩)
        | (go_at_call 52; (with_reducible refine (c1 _).mono ?_); rintro e w1 ⟨rfl, hB1⟩; have g0 := gat_below hB1 (gat_old (gat_alloc w _) _); have g1 := gat_below hB1 (gat_alloc (w.alloc _) _); rw [World.size_alloc] at g1; have hBw := (((Below.refl _ w).alloc (Nat.le_refl _) _).alloc (by simp) _).trans (hB1.mono (by simp; omega)); obtain ⟨⟨p0, p1, p2, p3, p4⟩, q0, q1, q2, q3, q4⟩ := box5 g0; obtain ⟨⟨r0, r1, r2, r3, r4⟩, t0, t1, t2, t3, t4⟩ := box5 g1))
      rw [Exit.noGoto_ret]
      refine bodyPost_ret (results_begun _ _ w.heap.size _ rfl (gat_set5 (gat_other (gat_other g0 (by omega) 3 _) (by omega) 2 _) _ _ _ _ _) rfl) rfl ?_
      exact ⟨⟨9, p, q, o, 0⟩, rfl, (fun _ => rfl), rfl, below_set5 ((hBw.setCell (p := ⟨w.heap.size + 1, 3, none⟩) (by simp) _).setCell (p := ⟨w.heap.size + 1, 2, none⟩) (by simp) _) (Nat.le_refl _) _ _ _ _ _ _ _ _ _ _⟩
    · rw [if_neg hw] at hg
      simp only [if_neg hw] at c1
      subst hg
      go_enter Tryz.func46, Tryz.ntmps46
      go_wp2
      go_step3
      go_wp2
      go_step3
      go_wp2_with (first
        | (go_at_call 50; (with_reducible first | refine (cw1 _).mono ?_ | refine (cw2 _).mono ?_); rintro e w' ⟨rfl, rfl⟩)
        | (go_at_call 52; (with_reducible refine (c1 _).mono ?_); rintro e w1 ⟨rfl, hB1⟩; have g0 := gat_below hB1 (gat_old (gat_alloc w _) _); have g1 := gat_below hB1 (gat_alloc (w.alloc _) _); rw [World.size_alloc] at g1; have hBw := (((Below.refl _ w).alloc (Nat.le_refl _) _).alloc (by simp) _).trans (hB1.mono (by simp; omega)); obtain ⟨⟨p0, p1, p2, p3, p4⟩, q0, q1, q2, q3, q4⟩ := box5 g0; obtain ⟨⟨r0, r1, r2, r3, r4⟩, t0, t1, t2, t3, t4⟩ := box5 g1))
      rw [Exit.noGoto_ret]
      refine bodyPost_ret (results_begun _ _ w.heap.size _ rfl (gat_set5 (gat_other (gat_other g0 (by omega) 3 _) (by omega) 2 _) _ _ _ _ _) rfl) rfl ?_
      exact ⟨⟨9, p, p, [], 0⟩, rfl, (fun h => (by cases h)), rfl, below_set5 ((hBw.setCell (p := ⟨w.heap.size + 1, 3, none⟩) (by simp) _).setCell (p := ⟨w.heap.size + 1, 2, none⟩) (by simp) _) (Nat.le_refl _) _ _ _ _ _ _ _ _ _ _⟩
  rw [if_neg hlet] at hg
  have hlet' : K.lt.contains (s[p].toNat : Int) = false := by simpa using hlet
  exact absurd ⟨hlt, H34.out, by simpa using d3, d4, hlet'⟩ HMARK.out
end Go.Proofs.YtpiajoffddjjfaaGreatDoor
