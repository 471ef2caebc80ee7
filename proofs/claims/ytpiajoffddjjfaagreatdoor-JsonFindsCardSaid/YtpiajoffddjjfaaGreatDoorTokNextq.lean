/- Layer 7: Next. -/
import Derived.Test.YtpiajoffddjjfaaGreatDoorTokBegunq
namespace Go.Proofs.YtpiajoffddjjfaaGreatDoor
open Go.RowKit Go.Shelf
def K.nextAt (l : List Int) (p : Int) : K.Tok × Int × Int := if 0 ≤ p ∧ p ≤ l.length then ((K.next l p.toNat).1, ((K.next l p.toNat).2.1 : Nat), (K.next l p.toNat).2.2) else (K.zero, p, 1)
theorem results_next (tmps : Array Value) (w : World) (g : Nat) (cs : Array Value) (hp : tmps.getD 4 undef = .pointer (some ⟨g, 0, none⟩)) (hg : GAt w g cs) (hs : cs.size = 5) :
    (results Tryz.f37 tmps).run Tryz.prog w = .ok (.tuple #[.agg cs, tmps.getD 5 undef, tmps.getD 6 undef]) w :=
  results_row_tmp2 Tryz.results37 tmps w g _ cs _ _ hp hg Tryz.underlying60 rfl (by rw [token_info, hs])
theorem K.tok_err (l : List Int) (p : Nat) (h : (K.tok l p).2.2 ≠ 0) : (K.tok l p).1 = K.zero := by
  unfold K.tok at h ⊢
  by_cases h1 : l.length ≤ p
  · rw [if_pos h1] at h; exact absurd rfl h
  rw [if_neg h1] at h ⊢
  by_cases h2 : l[p]?.getD 0 = 34
  · rw [if_pos h2] at h ⊢
    cases hT : K.text l (p + 1) with
    | mk o q => cases o with
      | none => rfl
      | some o => rw [hT] at h; exact absurd rfl h
  rw [if_neg h2] at h ⊢
  by_cases h3 : l[p]?.getD 0 = 45 ∨ K.dg.contains (l[p]?.getD 0) = true
  · rw [if_pos h3] at h ⊢
    by_cases h4 : (K.number (K.row l p (K.runTo K.nb l p))).2 = 0
    · rw [if_pos h4] at h; exact absurd rfl h
    · rw [if_neg h4]
  rw [if_neg h3] at h ⊢
  by_cases h4 : K.lt.contains (l[p]?.getD 0) = true
  · rw [if_pos h4] at h ⊢
    by_cases h5 : K.isWord (K.row l p (K.runTo K.lt l p)) = true
    · rw [if_pos h5] at h; exact absurd rfl h
    · rw [if_neg h5]
  rw [if_neg h4] at h ⊢
  by_cases h5 : K.mk.contains (l[p]?.getD 0) = true
  · rw [if_pos h5] at h; exact absurd rfl h
  · rw [if_neg h5]
theorem ret_vii {k l : IntKind} {a b : Value} {c d e f : Int} (h : a = b) (h' : c = d) (h'' : e = f) : Ending.returned (.tuple #[a, .int k c, .int l e]) = .returned (.tuple #[b, .int k d, .int l f]) := by rw [h, h', h'']
theorem gat_drew {W : World} {b : Nat} {cs : Array Value} (h : GAt W b cs) : GAt W.drew b cs := h
theorem next_end {w w1 : World} (hBw : Below w.heap.size w w1) {c0 c1 c2 c3 c4 : Value} (g0 : GAt w1 w.heap.size #[c0, c1, c2, c3, c4]) (d0 d1 d2 d3 d4 : Value) (o : Obj) (W : World)
    (hW : W = ((((((w1.setCell ⟨w.heap.size, 0, none⟩ d0).setCell ⟨w.heap.size, 1, none⟩ d1).setCell ⟨w.heap.size, 2, none⟩ d2).setCell ⟨w.heap.size, 3, none⟩ d3).setCell ⟨w.heap.size, 4, none⟩ d4).alloc o).drew) :
    GAt W w.heap.size #[d0, d1, d2, d3, d4] ∧ Below w.heap.size w W := by
  subst hW
  have h := below_set5 hBw (Nat.le_refl w.heap.size) 0 1 2 3 4 d0 d1 d2 d3 d4
  exact ⟨gat_drew (gat_old (gat_set5 g0 _ _ _ _ _) _), (h.alloc h.size _).drew⟩
theorem tokC_zero : tokC K.zero = tzero := rfl
set_option maxHeartbeats 4000000 in
set_option maxRecDepth 100000 in
theorem next_any (s : ByteArray) (p : Int) (w : World) (hsm : s.size ≤ 100000) (hp0 : -9223372036854775808 ≤ p) (hp1 : p ≤ 9223372036854775807) (hE : Err w) :
    Calls Tryz.prog 37 #[.string s, .int .i64 p] w fun e w' => e = .returned (.tuple #[tokV (K.nextAt (strB s) p).1, .int .i64 (K.nextAt (strB s) p).2.1, .int .i64 (K.nextAt (strB s) p).2.2]) ∧ Below w.heap.size w w' := by
  obtain ⟨g, hg⟩ : ∃ g, K.nextAt (strB s) p = g := ⟨_, rfl⟩
  rw [hg]
  unfold K.nextAt at hg
  rw [strB_len] at hg
  have hbz := build_zero
  by_cases hin : 0 ≤ p ∧ p ≤ s.size
  · rw [if_pos hin] at hg
    obtain ⟨n, rfl⟩ := Int.eq_ofNat_of_zero_le hin.1
    have hn : n ≤ s.size := by omega
    rw [Int.toNat_natCast] at hg
    have c1 := fun w => tokRun_any s ⟨#[32, 9, 10, 13]⟩ K.bl (by decide) n w (by unfold maxLen; omega) hn
    have l1 := K.runTo_le K.bl (strB s) n (by rw [strB_len]; exact hn)
    rw [strB_len] at l1
    unfold K.next at hg
    obtain ⟨q, hq⟩ : ∃ q, K.runTo K.bl (strB s) n = q := ⟨_, rfl⟩
    simp only [hq] at c1 l1 hg
    have c2 := fun w hE => begun_any s q w hsm l1.2 hE
    unfold Begun at c2
    have herr := K.tok_err (strB s) q
    obtain ⟨T, x, er, hT⟩ : ∃ T x er, K.tok (strB s) q = (T, x, er) := ⟨_, _, _, rfl⟩
    simp only [hT] at c2 hg herr
    clear hT hq
    subst hg
    have d1 : decide ((n : Int) < 0) = false := by simp
    have d2 : decide ((s.size : Int) < (n : Int)) = false := by simp; omega
    have hE2 : ∀ o, Err (w.alloc o) := fun o => err_below hE ((Below.refl _ w).alloc (Nat.le_refl _) _)
    have H5 := token_info
    by_cases her : er = 0
    · have e1 : (er != 0) = false := by simpa using her
      have HER := Lib.hid her; clear her herr
      go_enter Tryz.func37, Tryz.ntmps37
      go_wp2_with (first
        | (go_at_call 47; (with_reducible refine (c1 _).mono ?_); rintro e w' ⟨rfl, rfl⟩)
        | (go_at_call 46; (with_reducible refine (c2 _ (hE2 _)).mono ?_); rintro e w1 ⟨t, rfl, ht, hte, hB1⟩; obtain rfl := ht HER.out; have HTE := Lib.hid hte; clear hte; have g0 := gat_below hB1 (gat_alloc w _); have hBw := ((Below.refl _ w).alloc (Nat.le_refl _) _).trans (hB1.mono (by simp)); have P := fun o => box5 (gat_old g0 o); have p0 := fun o => (P o).1.1; have p1 := fun o => (P o).1.2.1; have p2 := fun o => (P o).1.2.2.1; have p3 := fun o => (P o).1.2.2.2.1; have p4 := fun o => (P o).1.2.2.2.2; have q0 := fun o => (P o).2.1; have q1 := fun o => (P o).2.2.1; have q2 := fun o => (P o).2.2.2.1; have q3 := fun o => (P o).2.2.2.2.1; have q4 := fun o => (P o).2.2.2.2.2; clear P; obtain ⟨⟨a0, a1, a2, a3, a4⟩, b0, b1, b2, b3, b4⟩ := box5 g0; have hlt := gat_lt g0; unfold tokV tokC))
      go_region
      all_goals go_wp2
      all_goals
        refine bodyPost_ret (results_next _ _ w.heap.size _ rfl (next_end hBw g0 _ _ _ _ _ _ _ rfl).1 rfl) rfl ?_
        exact ⟨ret_vii rfl HTE.out HER.out.symm, (next_end hBw g0 _ _ _ _ _ _ _ rfl).2⟩
    · have e1 : (er != 0) = true := by simpa using her
      have hz := herr her
      subst hz
      go_enter Tryz.func37, Tryz.ntmps37
      go_wp2_with (first
        | (go_at_call 47; (with_reducible refine (c1 _).mono ?_); rintro e w' ⟨rfl, rfl⟩)
        | (go_at_call 46; (with_reducible refine (c2 _ (hE2 _)).mono ?_); rintro e w1 ⟨t, rfl, ht, hte, hB1⟩; have HTE := Lib.hid hte; clear hte; have g0 := gat_below hB1 (gat_alloc w _); have hBw := ((Below.refl _ w).alloc (Nat.le_refl _) _).trans (hB1.mono (by simp)); have P := fun o => box5 (gat_old g0 o); have p0 := fun o => (P o).1.1; have p1 := fun o => (P o).1.2.1; have p2 := fun o => (P o).1.2.2.1; have p3 := fun o => (P o).1.2.2.2.1; have p4 := fun o => (P o).1.2.2.2.2; have q0 := fun o => (P o).2.1; have q1 := fun o => (P o).2.2.1; have q2 := fun o => (P o).2.2.2.1; have q3 := fun o => (P o).2.2.2.2.1; have q4 := fun o => (P o).2.2.2.2.2; clear P; obtain ⟨⟨a0, a1, a2, a3, a4⟩, b0, b1, b2, b3, b4⟩ := box5 g0; have hlt := gat_lt g0; unfold tokV tokC))
      go_region
      all_goals go_wp2
      all_goals
        refine bodyPost_ret (results_next _ _ w.heap.size _ rfl (next_end hBw g0 _ _ _ _ _ _ _ rfl).1 rfl) rfl ?_
        exact ⟨ret_vii rfl HTE.out rfl, (next_end hBw g0 _ _ _ _ _ _ _ rfl).2⟩
  · rw [if_neg hin] at hg
    subst hg
    have H5 := token_info
    go_enter Tryz.func37, Tryz.ntmps37
    go_wp2
    all_goals first
      | (exfalso; omega)
      | (refine bodyPost_ret (results_next _ _ w.heap.size _ rfl (gat_alloc _ _) rfl) rfl ?_
         exact ⟨rfl, (Below.refl _ w).alloc (Nat.le_refl _) _⟩)
end Go.Proofs.YtpiajoffddjjfaaGreatDoor
