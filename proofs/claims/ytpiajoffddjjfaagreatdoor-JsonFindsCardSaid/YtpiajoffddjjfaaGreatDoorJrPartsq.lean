/- Reading JSON: parts, whatever a part does. -/
import Derived.Test.YtpiajoffddjjfaaGreatDoorJrL1q
import Derived.Test.YtpiajoffddjjfaaGreatDoorJrNextq
import Derived.Deep.LoopGhost
set_option linter.unusedVariables false
namespace Go.Proofs.YtpiajoffddjjfaaGreatDoor
open Go.RowKit Go.Shelf
theorem wrong_same : wrongV = wrongJ := rfl
theorem nx_place {l : List Int} {room q n : Nat} {t : K.Tok} {q' : Nat} (h : (K.next l q).2.1 ≤ n) (hx : Js.nx l room q = .inr (t, q')) : q' ≤ n := by
  unfold Js.nx at hx
  split at hx
  · cases hx
  · split at hx
    · cases hx
    · injection hx with hx
      injection hx with _ hx
      rw [← hx]; exact h
/-- what may turn beside the reader: a token's variable -/
def Tk (p : Nat) (W : World) (row : Option Nat) : Prop := ∀ (b : Nat), row = some b → b = p ∨ ∃ cs f, W.heap[b]? = some (Obj.cells cs 60 f)
theorem tk_p (p : Nat) (W : World) : Tk p W (some p) := fun b e => .inl (by cases e; rfl)
theorem gat_rj_ne {W : World} {b p : Nat} {cs : Array Value} {s : ByteArray} {a r : Nat} (h : GAt W b cs) (hr : RJ W p s a r) : p ≠ b := by
  rintro rfl
  have h1 : W.heap[p]? = some (.cells cs 60 (0, 0)) := h
  have h2 : W.heap[p]? = some (.cells #[.string s, .int .i64 (a : Int), .int .i64 (r : Int)] 47 (0, 0)) := hr
  rw [h1] at h2
  injection h2 with h2
  injection h2 with _ h2 _
  exact absurd h2 (by decide)
theorem parts_end {σ : Type} {St : σ → World → Prop} {s : ByteArray} {p room q : Nat} {w0 V : World} {a : σ} (hSt : ∀ a W W', St a W → W.grownBy W' (some p) → St a W') (ha : St a V) (hr : RJ V p s q room) (hG : w0.grownBy V (some p)) :
    PaR St p s (room + 1) w0 (.inr (a, q)) (.returned (.tuple #[])) (V.setCell ⟨p, 2, none⟩ (.int .i64 ((room : Int) + 1))) := by
  have hg := grownJ_set V p 2 (.int .i64 ((room : Int) + 1))
  have h := rj_room hr (room + 1)
  exact ⟨⟨_, rfl⟩, hSt _ _ _ ha hg, by simpa using h, grownJ_then hG hg (fun b e => .inr e)⟩
/-- a token's variable is stored to -/
theorem parts_set {σ : Type} {St : σ → World → Prop} {s : ByteArray} {p room q b : Nat} {w4 w5 : World} {a : σ} {c0 c1 c2 c3 c4 : Value} (hSt2 : ∀ a W W' row, St a W → W.grownBy W' row → Tk p W row → St a W') (ha : St a w4) (hg : w4.grownBy w5 (some p)) (hr : RJ w5 p s q room) (hz : GAt w5 b #[c0, c1, c2, c3, c4]) (hpb : p ≠ b) (d0 d1 d2 d3 d4 : Value) :
    St a (((((w5.setCell ⟨b, 0, none⟩ d0).setCell ⟨b, 1, none⟩ d1).setCell ⟨b, 2, none⟩ d2).setCell ⟨b, 3, none⟩ d3).setCell ⟨b, 4, none⟩ d4) ∧ RJ (((((w5.setCell ⟨b, 0, none⟩ d0).setCell ⟨b, 1, none⟩ d1).setCell ⟨b, 2, none⟩ d2).setCell ⟨b, 3, none⟩ d3).setCell ⟨b, 4, none⟩ d4) p s q room ∧
    w5.grownBy (((((w5.setCell ⟨b, 0, none⟩ d0).setCell ⟨b, 1, none⟩ d1).setCell ⟨b, 2, none⟩ d2).setCell ⟨b, 3, none⟩ d3).setCell ⟨b, 4, none⟩ d4) (some b) := by
  have hG : w5.grownBy (((((w5.setCell ⟨b, 0, none⟩ d0).setCell ⟨b, 1, none⟩ d1).setCell ⟨b, 2, none⟩ d2).setCell ⟨b, 3, none⟩ d3).setCell ⟨b, 4, none⟩ d4) (some b) :=
    grownJ_two (grownJ_two (grownJ_two (grownJ_two (grownJ_set w5 b _ _) (grownJ_set _ b _ _)) (grownJ_set _ b _ _)) (grownJ_set _ b _ _)) (grownJ_set _ b _ _)
  exact ⟨hSt2 _ _ _ _ (hSt2 _ _ _ _ ha hg (tk_p p w4)) hG (fun b' e => .inr ⟨_, _, by cases e; exact hz⟩), rj_set5o hr hpb _ _ _ _ _, hG⟩
set_option maxRecDepth 100000 in
set_option maxHeartbeats 8000000 in
theorem parts_any {σ : Type} (St : σ → World → Prop) (part : K.Tok → Nat → σ → Js.Out (σ × Nat)) (s : ByteArray) (p room : Nat) (last : Int) (gf : Nat) (lb : Array Value) (w0 : World)
    (hSt2 : ∀ a W W' row, St a W → W.grownBy W' row → Tk p W row → St a W') (hsm : s.size ≤ 100000) (hpl : ∀ q, q ≤ s.size → (K.next (strB s) q).2.1 ≤ s.size) (hpq : ∀ t q a a' q', q ≤ s.size → part t q a = .inr (a', q') → q' ≤ s.size)
    (eg : ∀ args w, (callFunc gf args).run Tryz.prog w = .ok (.enter gf args) w)
    (R : Js.Out (σ × Nat)) (hpart : ∀ t q a W, q ≤ s.size → (∀ e, part t q a = .inl e → R = .inl e) → St a W → RJ W p s q room → Err W → w0.grownBy W (some p) → Calls Tryz.prog gf (#[tokV t] ++ lb) W (fun e w' => PaR St p s room w0 (part t q a) e w' ∧ KeepT W w'))
    (q : Nat) (a : σ) (W : World) (hq : q ≤ s.size) (ha : St a W) (hr : RJ W p s q (room + 1)) (hE : Err W) (hE0 : Err w0) (hpe : p ≠ 1) (hG : w0.grownBy W (some p)) (hR : Js.partsP part (strB s) room last q a = R) (hR0 : R ≠ .inl (0, 0)) (hroom : room ≤ 1000000) :
    Calls Tryz.prog 43 #[.pointer (some ⟨p, 0, none⟩), .int .i64 last, .func (.func gf) #[] lb] W (PaR St p s (room + 1) w0 R) := by
  have hSt : ∀ a W W', St a W → W.grownBy W' (some p) → St a W' := fun a W W' h hg => hSt2 a W W' _ h hg (tk_p p W)
  obtain ⟨⟨c0, c1, c2⟩, f1, f2⟩ := rj_cells hr
  have hr1 := rj_room hr room
  have hg1 := grownJ_set W p 2 (.int .i64 (room : Int))
  have hE1 := err_rj hE hr hg1
  have ha1 := hSt _ _ _ ha hg1
  have hG1 : w0.grownBy _ (some p) := grownJ_then hG hg1 (fun b e => .inr e)
  have hrm : ((room + 1 : Nat) : Int) - 1 = (room : Int) := by omega
  have hrw : IntKind.i64.wrap (room : Int) = (room : Int) := IntWalk.i64_in _ (by omega)
  have hpl2 : ∀ q t q', q ≤ s.size → Js.nx (strB s) room q = .inr (t, q') → q' ≤ s.size := fun q t q' h1 h2 => nx_place (hpl q h1) h2
  have hN := fun q W hq hr hE => jnext_any s p q room W hsm hq hr hE
  unfold Js.partsP at hR
  have hN0 := hN q _ hq hr1 hE1
  obtain ⟨X, hX⟩ : ∃ X, Js.nx (strB s) room q = X := ⟨_, rfl⟩
  rw [hX] at hR hN0
  cases X with
  | inl ae =>
    obtain ⟨ea, er⟩ := ae
    have hRv : R = .inl (ea, er) := hR.symm
    subst hRv
    go_enter Tryz.func43, Tryz.ntmps43
    go_wp2_with (go_at_call 26; (with_reducible refine hN0.mono ?_); rintro e w1 ⟨rfl, hg⟩)
    exact ⟨rfl, rfl, grownJ_then hG1 hg (fun b e => .inr e)⟩
  | inr tq =>
    obtain ⟨⟨tk, ta, te, ts, tn⟩, q1⟩ := tq
    have hq1 := hpl2 _ _ _ hq hX
    clear hX
    unfold NxR at hN0
    simp only [tokV, tokC] at hN0
    have hR1 : (if tk = last then .inr (a, q1) else Js.andThen (part ⟨tk, ta, te, ts, tn⟩ q1 a) fun x => Js.andThen (Js.nx (strB s) room x.2) fun y => Js.loopP part (strB s) room last ((strB s).length + 1) y.1 y.2 x.1) = R := hR
    clear hR
    by_cases hk : tk = last
    · rw [if_pos hk] at hR1
      subst hR1
      have e1 : (tk != last) = false := by simpa using hk
      clear hk
      go_enter Tryz.func43, Tryz.ntmps43
      go_wp2_with (go_at_call 26; (with_reducible refine hN0.mono ?_); rintro e w1 ⟨rfl, hr2, hg⟩; have hr3 := rj_below hr2 ((Below.refl _ w1).alloc (Nat.le_refl _) (.cells #[.int .i64 tk, .int .i64 ta, .int .i64 te, .string (strOfNums ts), .int .i64 tn] 60)); obtain ⟨⟨d0, d1, d2⟩, g1, g2⟩ := rj_cells hr3)
      refine bodyPost_end (results_none rfl _ _ _) rfl ?_
      have hgA := (grownJ_of_below ((Below.refl _ w1).alloc (Nat.le_refl _) (.cells #[.int .i64 tk, .int .i64 ta, .int .i64 te, .string (strOfNums ts), .int .i64 tn] 60)) (some p))
      exact parts_end hSt (hSt _ _ _ (hSt _ _ _ ha1 hg) hgA) hr3 (grownJ_then (grownJ_then hG1 hg (fun b e => .inr e)) hgA (fun b e => .inr e))
    · rw [if_neg hk] at hR1
      have e1 : (tk != last) = true := by simpa using hk
      clear hk
      have hne : ∀ e, part ⟨tk, ta, te, ts, tn⟩ q1 a = .inl e → R = .inl e := fun e h => by rw [h] at hR1; exact hR1.symm
      have hP := fun W => hpart ⟨tk, ta, te, ts, tn⟩ q1 a W hq1 hne
      clear hne
      obtain ⟨X2, hX2⟩ : ∃ X2, part ⟨tk, ta, te, ts, tn⟩ q1 a = X2 := ⟨_, rfl⟩
      rw [hX2] at hR1 hP
      simp only [tokV, tokC] at hP
      cases X2 with
      | inl ae =>
        obtain ⟨ea, er⟩ := ae
        have hRv : R = .inl (ea, er) := hR1.symm
        subst hRv
        go_enter Tryz.func43, Tryz.ntmps43
        go_wp2_with (first
          | (go_at_call 26; (with_reducible refine hN0.mono ?_); rintro e w1 ⟨rfl, hr2, hg⟩; have hr3 := rj_below hr2 ((Below.refl _ w1).alloc (Nat.le_refl _) (.cells #[.int .i64 tk, .int .i64 ta, .int .i64 te, .string (strOfNums ts), .int .i64 tn] 60)); obtain ⟨⟨d0, d1, d2⟩, g1, g2⟩ := rj_cells hr3; have hgA := (grownJ_of_below ((Below.refl _ w1).alloc (Nat.le_refl _) (.cells #[.int .i64 tk, .int .i64 ta, .int .i64 te, .string (strOfNums ts), .int .i64 tn] 60)) (some p)))
          | (go_at_fn gf; refine (hP _ (hSt _ _ _ (hSt _ _ _ ha1 hg) hgA) hr3 (err_rj (err_rj hE1 hr1 hg) hr2 hgA) (grownJ_then (grownJ_then hG1 hg (fun b e => .inr e)) hgA (fun b e => .inr e))).mono ?_; rintro e w4 ⟨⟨rfl, hg4⟩, _⟩))
        exact ⟨rfl, rfl, hg4⟩
      | inr bq =>
        obtain ⟨b, q2⟩ := bq
        have hq2 := hpq _ _ _ _ _ hq1 hX2
        have hR2 : (Js.andThen (Js.nx (strB s) room q2) fun y => Js.loopP part (strB s) room last ((strB s).length + 1) y.1 y.2 b) = R := hR1
        clear hR1 hX2
        have hN2 := fun W => hN q2 W hq2
        obtain ⟨X3, hX3⟩ : ∃ X3, Js.nx (strB s) room q2 = X3 := ⟨_, rfl⟩
        rw [hX3] at hR2 hN2
        cases X3 with
        | inl ae =>
          obtain ⟨ea, er⟩ := ae
          have hRv : R = .inl (ea, er) := hR2.symm
          subst hRv
          go_enter Tryz.func43, Tryz.ntmps43
          go_wp2_with (first
            | (go_at_call 26; (with_reducible refine hN0.mono ?_); rintro e w1 ⟨rfl, hr2, hg⟩; have hr3 := rj_below hr2 ((Below.refl _ w1).alloc (Nat.le_refl _) (.cells #[.int .i64 tk, .int .i64 ta, .int .i64 te, .string (strOfNums ts), .int .i64 tn] 60)); obtain ⟨⟨d0, d1, d2⟩, g1, g2⟩ := rj_cells hr3; have hgA := (grownJ_of_below ((Below.refl _ w1).alloc (Nat.le_refl _) (.cells #[.int .i64 tk, .int .i64 ta, .int .i64 te, .string (strOfNums ts), .int .i64 tn] 60)) (some p)); have hz1 := gat_alloc w1 #[.int .i64 tk, .int .i64 ta, .int .i64 te, .string (strOfNums ts), .int .i64 tn]; have hE2 := err_rj (err_rj hE1 hr1 hg) hr2 hgA; have hG2 := grownJ_then (grownJ_then hG1 hg (fun b e => .inr e)) hgA (fun b e => .inr e))
            | (go_at_fn gf; refine (hP _ (hSt _ _ _ (hSt _ _ _ ha1 hg) hgA) hr3 hE2 hG2).mono ?_; rintro e w4 ⟨⟨⟨u, rfl⟩, hb4, hr4, hg4⟩, hk4⟩; have hE4 := err_grownJ hE0 hg4 (fun e => hpe (by cases e; rfl)))
            | (go_at_call 26; (with_reducible refine (hN2 _ hr4 hE4).mono ?_); rintro e w5 ⟨rfl, hg5⟩))
          exact ⟨rfl, rfl, grownJ_then hg4 hg5 (fun b e => .inr e)⟩
        | inr uq =>
          obtain ⟨⟨uk, ua, ue, us, un⟩, q3⟩ := uq
          have hq3 := hpl2 _ _ _ hq2 hX3
          have hR3 : Js.loopP part (strB s) room last ((strB s).length + 1) ⟨uk, ua, ue, us, un⟩ q3 b = R := hR2
          clear hR2 hX3
          unfold NxR at hN2
          simp only [tokV, tokC] at hN2
          go_enter Tryz.func43, Tryz.ntmps43
          go_wp2_with (first
            | (go_at_call 26; (with_reducible refine hN0.mono ?_); rintro e w1 ⟨rfl, hr2, hg⟩; have hr3 := rj_below hr2 ((Below.refl _ w1).alloc (Nat.le_refl _) (.cells #[.int .i64 tk, .int .i64 ta, .int .i64 te, .string (strOfNums ts), .int .i64 tn] 60)); obtain ⟨⟨d0, d1, d2⟩, g1, g2⟩ := rj_cells hr3; have hgA := (grownJ_of_below ((Below.refl _ w1).alloc (Nat.le_refl _) (.cells #[.int .i64 tk, .int .i64 ta, .int .i64 te, .string (strOfNums ts), .int .i64 tn] 60)) (some p)); have hz1 := gat_alloc w1 #[.int .i64 tk, .int .i64 ta, .int .i64 te, .string (strOfNums ts), .int .i64 tn]; have hE2 := err_rj (err_rj hE1 hr1 hg) hr2 hgA; have hG2 := grownJ_then (grownJ_then hG1 hg (fun b e => .inr e)) hgA (fun b e => .inr e))
            | (go_at_fn gf; refine (hP _ (hSt _ _ _ (hSt _ _ _ ha1 hg) hgA) hr3 hE2 hG2).mono ?_; rintro e w4 ⟨⟨⟨u, rfl⟩, hb4, hr4, hg4⟩, hk4⟩; have hE4 := err_grownJ hE0 hg4 (fun e => hpe (by cases e; rfl)); have hz4 : GAt w4 w1.heap.size _ := hk4 _ _ _ hz1)
            | (go_at_call 26; (with_reducible refine (hN2 _ hr4 hE4).mono ?_); rintro e w5 ⟨rfl, hr5, hg5⟩; have hpb := gat_rj_ne hz4 hr4; have hz5 : GAt w5 w1.heap.size _ := (hg5.block _ (gat_lt hz4) (fun e => hpb (by cases e; rfl))).trans hz4; obtain ⟨⟨z0, z1, z2, z3, z4⟩, y0, y1, y2, y3, y4⟩ := box5 hz5))
          have hS := parts_set hSt2 hb4 hg5 hr5 hz5 hpb (.int .i64 uk) (.int .i64 ua) (.int .i64 ue) (.string (strOfNums us)) (.int .i64 un)
          obtain ⟨hbS, hrS, hgS⟩ := hS
          have hzS := gat_set5 hz5 (.int .i64 uk) (.int .i64 ua) (.int .i64 ue) (.string (strOfNums us)) (.int .i64 un)
          have hw0b : w0.heap.size ≤ w1.heap.size := (grownJ_then hG1 hg (fun b e => .inr e)).size
          have hGS : w0.grownBy _ (some p) := grownJ_then (grownJ_then hg4 hg5 (fun b e => .inr e)) hgS (fun b e => .inl (by cases e; exact hw0b))
          have hES := err_grownJ hE0 hGS (fun e => hpe (by cases e; rfl))
          obtain ⟨b6, hb6⟩ : ∃ b6, w1.heap.size = b6 := ⟨_, rfl⟩
          rw [hb6] at hbS hrS hzS hGS hES hw0b ⊢
          obtain ⟨W9, hW9⟩ : ∃ W9, ((((w5.setCell ⟨b6, 0, none⟩ (.int .i64 uk)).setCell ⟨b6, 1, none⟩ (.int .i64 ua)).setCell ⟨b6, 2, none⟩ (.int .i64 ue)).setCell ⟨b6, 3, none⟩ (.string (strOfNums us))).setCell ⟨b6, 4, none⟩ (.int .i64 un) = W9 := ⟨_, rfl⟩
          rw [hW9] at hbS hrS hzS hGS hES ⊢
          clear hW9 hz5 hr5 hg5 hz4 hb4 hr4 hg4 hk4 hE4 z0 z1 z2 z3 z4 y0 y1 y2 y3 y4 hz1 hE2 hG2 hr3 d0 d1 d2 g1 g2 hgA hr2 hg hb6 hpb hgS hP hN2 hN0
          go_loopg [25] ((strB s).length + 1) (fun g _ wr => ∃ (t : K.Tok) (q : Nat) (a : σ), GAt wr b6 (tokC t) ∧ RJ wr p s q room ∧ St a wr ∧ Err wr ∧ w0.grownBy wr (some p) ∧ q ≤ s.size ∧ Hid (Js.loopP part (strB s) room last g t q a = R))
          case atStart => exact ⟨⟨uk, ua, ue, us, un⟩, _, _, hzS, hrS, hbS, hES, hGS, hq3, Lib.hid hR3⟩
          case round =>
            clear hzS hrS hbS hES hGS hR3 hq3
            obtain ⟨⟨tk, ta, te, ts, tn⟩, q, a, hz, hr, ha, hE9, hG9, hq9, HR⟩ := hrel
            unfold tokC at hz
            simp only at hz
            cases gk with
            | zero => exact absurd HR.out.symm hR0
            | succ g =>
            have hR := HR.out
            clear HR
            obtain ⟨⟨z0, z1, z2, z3, z4⟩, y0, y1, y2, y3, y4⟩ := box5 hz
            unfold Js.loopP at hR
            by_cases h6 : tk = 6
            · have hR9 : (Js.andThen (Js.nx (strB s) room q) fun u => Js.andThen (part u.1 u.2 a) fun b => Js.andThen (Js.nx (strB s) room b.2) fun t2 => Js.loopP part (strB s) room last g t2.1 t2.2 b.1) = R := by
                rw [← hR]
                rw [if_pos h6]
              have e6 : (tk == 6) = true := by simpa using h6
              clear hR h6
              have hN0 := hN q wr hq9 hr hE9
              obtain ⟨X, hX⟩ : ∃ X, Js.nx (strB s) room q = X := ⟨_, rfl⟩
              rw [hX] at hR9 hN0
              cases X with
              | inl ae =>
                obtain ⟨ea, er⟩ := ae
                have hRv : R = .inl (ea, er) := hR9.symm
                subst hRv
                go_wp2_with (go_at_call 26; (with_reducible refine hN0.mono ?_); rintro e w1 ⟨rfl, hg⟩)
                exact ⟨rfl, rfl, grownJ_then hG9 hg (fun b e => .inr e)⟩
              | inr uq =>
                obtain ⟨⟨uk, ua, ue, us, un⟩, q1⟩ := uq
                have hq1 := hpl2 _ _ _ hq9 hX
                have hR8 : (Js.andThen (part ⟨uk, ua, ue, us, un⟩ q1 a) fun b => Js.andThen (Js.nx (strB s) room b.2) fun t2 => Js.loopP part (strB s) room last g t2.1 t2.2 b.1) = R := hR9
                clear hR9 hX
                unfold NxR at hN0
                simp only [tokV, tokC] at hN0
                have hne : ∀ e, part ⟨uk, ua, ue, us, un⟩ q1 a = .inl e → R = .inl e := fun e h => by rw [h] at hR8; exact hR8.symm
                have hP := fun W => hpart ⟨uk, ua, ue, us, un⟩ q1 a W hq1 hne
                clear hne
                obtain ⟨X2, hX2⟩ : ∃ X2, part ⟨uk, ua, ue, us, un⟩ q1 a = X2 := ⟨_, rfl⟩
                rw [hX2] at hR8 hP
                simp only [tokV, tokC] at hP
                cases X2 with
                | inl ae =>
                  obtain ⟨ea, er⟩ := ae
                  have hRv : R = .inl (ea, er) := hR8.symm
                  subst hRv
                  go_wp2_with (first
                    | (go_at_call 26; (with_reducible refine hN0.mono ?_); rintro e w1 ⟨rfl, hr2, hg⟩; have hG2 := grownJ_then hG9 hg (fun b e => .inr e))
                    | (go_at_fn gf; refine (hP _ (hSt _ _ _ ha hg) hr2 (err_rj hE9 hr hg) hG2).mono ?_; rintro e w4 ⟨⟨rfl, hg4⟩, _⟩))
                  exact ⟨rfl, rfl, hg4⟩
                | inr bq =>
                  obtain ⟨b, q2⟩ := bq
                  have hq2 := hpq _ _ _ _ _ hq1 hX2
                  have hR7 : (Js.andThen (Js.nx (strB s) room q2) fun t2 => Js.loopP part (strB s) room last g t2.1 t2.2 b) = R := hR8
                  clear hR8 hX2
                  have hN2 := fun W => hN q2 W hq2
                  obtain ⟨X3, hX3⟩ : ∃ X3, Js.nx (strB s) room q2 = X3 := ⟨_, rfl⟩
                  rw [hX3] at hR7 hN2
                  cases X3 with
                  | inl ae =>
                    obtain ⟨ea, er⟩ := ae
                    have hRv : R = .inl (ea, er) := hR7.symm
                    subst hRv
                    go_wp2_with (first
                      | (go_at_call 26; (with_reducible refine hN0.mono ?_); rintro e w1 ⟨rfl, hr2, hg⟩; have hG2 := grownJ_then hG9 hg (fun b e => .inr e))
                      | (go_at_fn gf; refine (hP _ (hSt _ _ _ ha hg) hr2 (err_rj hE9 hr hg) hG2).mono ?_; rintro e w4 ⟨⟨⟨u, rfl⟩, hb4, hr4, hg4⟩, hk4⟩; have hE4 := err_grownJ hE0 hg4 (fun e => hpe (by cases e; rfl)))
                      | (go_at_call 26; (with_reducible refine (hN2 _ hr4 hE4).mono ?_); rintro e w5 ⟨rfl, hg5⟩))
                    exact ⟨rfl, rfl, grownJ_then hg4 hg5 (fun b e => .inr e)⟩
                  | inr vq =>
                    obtain ⟨⟨vk, va, ve, vs, vn⟩, q3⟩ := vq
                    have hq3 := hpl2 _ _ _ hq2 hX3
                    have hR6 : Js.loopP part (strB s) room last g ⟨vk, va, ve, vs, vn⟩ q3 b = R := hR7
                    clear hR7 hX3
                    unfold NxR at hN2
                    simp only [tokV, tokC] at hN2
                    go_wp2_with (first
                      | (go_at_call 26; (with_reducible refine hN0.mono ?_); rintro e w1 ⟨rfl, hr2, hg⟩; have hG2 := grownJ_then hG9 hg (fun b e => .inr e); have hz1 : GAt w1 b6 _ := (hg.block _ (gat_lt hz) (fun e => gat_rj_ne hz hr (by cases e; rfl))).trans hz)
                      | (go_at_fn gf; refine (hP _ (hSt _ _ _ ha hg) hr2 (err_rj hE9 hr hg) hG2).mono ?_; rintro e w4 ⟨⟨⟨u, rfl⟩, hb4, hr4, hg4⟩, hk4⟩; have hE4 := err_grownJ hE0 hg4 (fun e => hpe (by cases e; rfl)); have hz4 : GAt w4 b6 _ := hk4 _ _ _ hz1)
                      | (go_at_call 26; (with_reducible refine (hN2 _ hr4 hE4).mono ?_); rintro e w5 ⟨rfl, hr5, hg5⟩; have hpb := gat_rj_ne hz4 hr4; have hz5 : GAt w5 b6 _ := (hg5.block _ (gat_lt hz4) (fun e => hpb (by cases e; rfl))).trans hz4; obtain ⟨⟨i0, i1, i2, i3, i4⟩, j0, j1, j2, j3, j4⟩ := box5 hz5))
                    obtain ⟨hbS, hrS, hgS⟩ := parts_set hSt2 hb4 hg5 hr5 hz5 hpb (.int .i64 vk) (.int .i64 va) (.int .i64 ve) (.string (strOfNums vs)) (.int .i64 vn)
                    have hGS : w0.grownBy _ (some p) := grownJ_then (grownJ_then hg4 hg5 (fun b e => .inr e)) hgS (fun b e => .inl (by cases e; exact hw0b))
                    go_roundg g
                    case measure => omega
                    case rel => exact ⟨⟨vk, va, ve, vs, vn⟩, q3, b, gat_set5 hz5 (.int .i64 vk) (.int .i64 va) (.int .i64 ve) (.string (strOfNums vs)) (.int .i64 vn), hrS, hbS, err_grownJ hE0 hGS (fun e => hpe (by cases e; rfl)), hGS, hq3, Lib.hid hR6⟩
            · have hR9 : Js.need ⟨tk, ta, te, ts, tn⟩ last (.inr (a, q)) = R := by
                rw [← hR]
                rw [if_neg h6]
              have e6 : (tk == 6) = false := by simpa using h6
              unfold Js.need at hR9
              by_cases hl : tk = last
              · rw [if_pos hl] at hR9
                subst hR9
                have hM : ∀ W, Calls Tryz.prog 27 #[.agg #[.int .i64 tk, .int .i64 ta, .int .i64 te, .string (strOfNums ts), .int .i64 tn], .int .i64 last] W fun e w' => (∃ v, e = .returned v) ∧ Below W.heap.size W w' := fun W => (must_any ⟨tk, ta, te, ts, tn⟩ last W).mono fun e w' h => ⟨by have h1 := h.1; rwa [if_pos hl] at h1, h.2⟩
                have HL := Lib.hid hl; clear hl
                obtain ⟨⟨d0, d1, d2⟩, g1, g2⟩ := rj_cells hr
                go_wp2_with (go_at_call 27; (with_reducible refine (hM _).mono ?_); rintro e w9 ⟨⟨vv, rfl⟩, hB9⟩; have hr9 := rj_below hr hB9; obtain ⟨⟨i0, i1, i2⟩, j1, j2⟩ := rj_cells hr9)
                refine bodyPost_end (results_none rfl _ _ _) rfl ?_
                exact parts_end hSt (hSt _ _ _ ha (grownJ_of_below hB9 _)) hr9 (grownJ_then hG9 (grownJ_of_below hB9 none) (fun b e => by cases e))
              · rw [if_neg hl] at hR9
                subst hR9
                have hM : ∀ W, Calls Tryz.prog 27 #[.agg #[.int .i64 tk, .int .i64 ta, .int .i64 te, .string (strOfNums ts), .int .i64 tn], .int .i64 last] W fun e w' => e = .panicked (wrongV ta 2) ∧ Below W.heap.size W w' := fun W => (must_any ⟨tk, ta, te, ts, tn⟩ last W).mono fun e w' h => ⟨by have h1 := h.1; rwa [if_neg hl] at h1, h.2⟩
                have HL := Lib.hid hl; clear hl
                go_wp2_with (go_at_call 27; (with_reducible refine (hM _).mono ?_); rintro e w9 ⟨rfl, hB9⟩)
                exact ⟨rfl, rfl, grownJ_then hG9 (grownJ_of_below hB9 none) (fun b e => by cases e)⟩
end Go.Proofs.YtpiajoffddjjfaaGreatDoor
