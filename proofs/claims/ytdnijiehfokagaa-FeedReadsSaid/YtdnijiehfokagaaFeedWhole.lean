/- Package feed: the iterator over the frames that are whole. -/
import Derived.Test.YtdnijiehfokagaaFeedCut
import Derived.Test.YtdnijiehfokagaaTurns
namespace Go.Proofs.Ytdnijiehfokagaa
open Go.RowKit Go.Shelf
attribute [local go_sem] Oper.semAt_some
/-- where a slice's bytes lie, if it has an address -/
def InG (G : Nat → Prop) (a : Option Addr) : Prop := ∀ ad, a = some ad → G ad.block
/-- frames as they lie in memory: their kinds, and where their payloads are -/
def Pays (W : World) (G : Nat → Prop) : List (Int × Option Addr × Nat) → List (Int × List Int) → Prop
  | [], [] => True
  | x :: xs, f :: fs => x.1 = f.1 ∧ Row W .u8 x.2.1 x.2.2 x.2.2 f.2 ∧ InG G x.2.1 ∧ Pays W G xs fs
  | _, _ => False
theorem pays_snoc {W : World} {G : Nat → Prop} {x : Int × Option Addr × Nat} {f : Int × List Int} (h1 : x.1 = f.1) (h2 : Row W .u8 x.2.1 x.2.2 x.2.2 f.2) (h3 : InG G x.2.1) : ∀ {xs fs}, Pays W G xs fs → Pays W G (xs ++ [x]) (fs ++ [f]) := by
  intro xs
  induction xs with
  | nil => intro fs h; cases fs with
    | nil => exact ⟨h1, h2, h3, trivial⟩
    | cons => exact h.elim
  | cons y xs ih => intro fs h; cases fs with
    | nil => exact h.elim
    | cons f fs => exact ⟨h.1, h.2.1, h.2.2.1, ih h.2.2.2⟩
theorem pays_len {W : World} {G : Nat → Prop} : ∀ {xs fs}, Pays W G xs fs → xs.length = fs.length := by
  intro xs
  induction xs with
  | nil => intro fs h; cases fs with
    | nil => rfl
    | cons => exact h.elim
  | cons y xs ih => intro fs h; cases fs with
    | nil => exact h.elim
    | cons f fs => simp [ih h.2.2.2]
theorem row_same {W W' : World} {k : IntKind} {a : Option Addr} {n c : Nat} {l : List Int} (h : Row W k a n c l) (hs : ∀ ad, a = some ad → ad.block < W.heap.size → W'.heap[ad.block]? = W.heap[ad.block]?) : Row W' k a n c l := by
  obtain ⟨h1, h2, h3, h4⟩ := h
  refine ⟨h1, h2, h3, ?_⟩
  rcases h4 with h0 | ⟨b, off, rfl, hc⟩
  · exact .inl h0
  · refine .inr ⟨b, off, rfl, fun i hi => ?_⟩
    have h0 := hc i hi
    have hb : b < W.heap.size := by
      simp only [World.cell?] at h0
      rcases Nat.lt_or_ge b W.heap.size with h | h
      · exact h
      · rw [Array.getElem?_eq_none h] at h0; cases h0
    rw [← h0]
    exact World.cell?_of_block (a := ⟨b, off + i, none⟩) (hs ⟨b, off, none⟩ rfl hb)
theorem pays_same {W W' : World} {G G' : Nat → Prop} (hs : ∀ b, G b → b < W.heap.size → W'.heap[b]? = W.heap[b]?) (hG : ∀ b, G b → G' b) : ∀ {xs fs}, Pays W G xs fs → Pays W' G' xs fs := by
  intro xs
  induction xs with
  | nil => intro fs h; cases fs with
    | nil => trivial
    | cons => exact h.elim
  | cons y xs ih => intro fs h; cases fs with
    | nil => exact h.elim
    | cons f fs => exact ⟨h.1, row_same h.2.1 (fun ad e hb => hs _ (h.2.2.1 ad e) hb), fun ad e => hG _ (h.2.2.1 ad e), ih h.2.2.2⟩
/-- all blocks below B but p are as they were -/
def Save (B p : Nat) (A C : World) : Prop := ∀ k, k < B → k ≠ p → C.heap[k]? = A.heap[k]?
theorem save_grown {B p : Nat} {w A C : World} (h : Save B p w A) (hg : A.grownBy C (some p)) (hB : B ≤ A.heap.size) : Save B p w C := fun k hk hp => (hg.block k (by omega) (by simpa using hp)).trans (h k hk hp)
theorem save_below {B p : Nat} {w A C : World} (h : Save B p w A) (hg : Below B A C) : Save B p w C := fun k hk hp => (hg.block k hk).trans (h k hk hp)
def fenc (x : Int × Option Addr × Nat) : Array Value := #[.agg #[.int .i64 x.1, .slice x.2.1 x.2.2 x.2.2]]
/-- what the feed comes to -/
def Left (w : World) (p most : Nat) (G : Nat → Prop) (v0 : Value) (r : List Int) (xs : List (Int × Option Addr × Nat)) (W : World) : Prop :=
  ∃ a n c, FeedAt W p most (.slice a n c) (F.read most r).2.1 ∧ Row w .u8 a n c (F.read most r).2.2 ∧ InG G a ∧ Pays w G xs (F.read most r).1 ∧ ((F.read most r).2.1 ≠ 0 → Value.slice a n c = .slice none 0 0) ∧ (xs = [] → (F.read most r).2.1 = 0 → Value.slice a n c = v0)
def heldLen (p : Nat) (W : World) : Nat := match W.cell? ⟨p, 1, none⟩ with | some (.slice _ n _) => n | _ => 0
set_option maxRecDepth 100000 in
set_option maxHeartbeats 4000000 in
theorem whole1_in (n : Nat) (hn : 1 ≤ n) (l fb p most : Nat) (G : Nat → Prop) (a : Option Addr) (len cap : Nat) (r : List Int) (hr : Bytes r) (w W : World) (J Jx : List (Int × Option Addr × Nat) → World → Prop) (N : Nat) (hN : r.length < N) (B : Nat) (hpB : p < B) (hGB : ∀ b, G b → b < B ∧ b ≠ p)
    (hJ : ∀ s A C, J s A → A.grownBy C (some p) → J s C) (hJx : ∀ s A C, Jx s A → A.grownBy C (some p) → Jx s C)
    (hY : ∀ pre x W1, J pre W1 → pre.length < N → YieldAt Fence.wide (n - 1) Try.prog l (fenc x) W1 fun e W' =>
      (e = .returned (.bool true) ∧ J (pre ++ [x]) W' ∧ (Below B W1 W' ∧ KeepsBox fb 32 W1 W')) ∨ (e = .returned (.bool false) ∧ Jx (pre ++ [x]) W'))
    (hB : B ≤ W.heap.size) (hSv : Save B p w W) (hbx : Boxed W fb 32 (.pointer (some ⟨p, 0, none⟩))) (hfb : fb ≠ p) (hp : FeedAt W p most (.slice a len cap) 0) (hrow : Row w .u8 a len cap r) (hG : InG G a) (h0 : J [] W) :
    CallsIn Fence.wide n Try.prog 29 #[.func (.yield l) #[] #[], .pointer (some ⟨fb, 0, none⟩)] W fun e W' => (∃ v, e = .returned v) ∧
      ((∃ xs, Left w p most G (.slice a len cap) r xs W' ∧ J xs W') ∨ (∃ pre, True ∧ Jx pre W')) := by
  obtain ⟨v0, hv0⟩ : ∃ v0, v0 = Value.slice a len cap := ⟨_, rfl⟩
  rw [← hv0]
  refine callsIn_of_wp Try.func29 rfl trivial ?_ rfl
  simp only [Try.ntmps29, List.size_toArray, List.length_cons, List.length_nil, Nat.reduceAdd, Nat.reduceSub, Array.replicate_succ, Array.replicate_zero, List.push_toArray, List.append_toArray, List.nil_append, List.cons_append]
  gi_wp2
  gi_loopw [] (fun wr => ∃ pre fs a len cap r', J pre wr ∧ FeedAt wr p most (.slice a len cap) 0 ∧ Row w .u8 a len cap r' ∧ Bytes r' ∧ InG G a ∧ Boxed wr fb 32 (.pointer (some ⟨p, 0, none⟩)) ∧ B ≤ wr.heap.size ∧ Save B p w wr ∧ Pays w G pre fs ∧
      F.read most r = (fs ++ (F.read most r').1, (F.read most r').2) ∧ pre.length + r'.length ≤ r.length ∧ (pre = [] → Value.slice a len cap = v0)) (fun wr => heldLen p wr)
  case atStart => exact ⟨[], [], a, len, cap, r, h0, hp, hrow, hr, hG, hbx, hB, hSv, trivial, by simp, by simp, fun _ => hv0.symm⟩
  case round =>
    obtain ⟨pre, fs, a, len, cap, r', hJs, hF, hR, hb, hGa, hBx, hBs, hS, hP, hrd, hpl, hv⟩ := hrel
    have HV := Lib.hid hv; clear hv
    have HV0 := Lib.hid hv0; clear hv0
    have hRw : Row wr .u8 a len cap r' := row_same hR (fun ad e _ => hS ad.block (hGB _ (hGa ad e)).1 (hGB _ (hGa ad e)).2)
    have hcx := hBx.cell
    obtain ⟨⟨c0, c1, c2⟩, ⟨z0, z1, z2⟩⟩ := feedAt_cells hF
    have hsz : ∀ W2, Below wr.heap.size wr W2 → Calls Try.prog 30 #[.slice a len cap, .int .i64 (most : Int)] W2 fun e w' => e = .returned (.tuple #[.int .i64 ((F.size most r').1 : Nat), .int .i64 ((F.size most r').2 : Nat)]) ∧ Below wr.heap.size wr w' := fun W2 h2 =>
      (size_any most a len cap r' W2 (row_below hRw h2 rfl) hb).mono fun e w' ⟨e1, e2⟩ => ⟨e1, h2.trans (e2.mono h2.size)⟩
    have hB0' := Below.refl wr.heap.size wr
    have hB1' : Below wr.heap.size wr wr.drew := hB0'.drew
    have hmix : (Try.prog).follows .mixedOrders = true := by kernel_rfl
    rcases F.size_cases most r' with ⟨c, h1⟩ | h1 | ⟨m, h1, h2, h3, h4, h5, h6⟩
    · rw [h1] at hsz
      have hne : (((c + 1 : Nat) : Int) != 0) = true := by simp; omega
      have hrd2 := F.read_err h1
      rw [hrd2] at hrd
      have HSZ := Lib.hid hsz; have HRD := Lib.hid hrd; have HJ := Lib.hid hJs; have HP := Lib.hid hP; have HF := Lib.hid hF
      clear hsz hrd hrd2 hJs hP hF hR hb hGa hS hRw h1
      generalize hcc : c + 1 = cc at *
      gi_wp2
      gi_region_with_o (refine ⟨trivial, ?_⟩; gi_at_call 30; refine (callsIn_wide.2 (HSZ.out _ (by assumption))).mono ?_; rintro e w1 ⟨rfl, hb1⟩; have HF1 := Lib.hid (feedAt_below HF.out hb1); have hx1 := (hBx.kept (grown_below hb1 (Nat.le_refl _) none) (by simp)).cell; obtain ⟨⟨d0, d1, d2⟩, ⟨y0, y1, y2⟩⟩ := feedAt_cells HF1.out)
      all_goals
        gi_wp2
        gi_region
        gi_wp2
        refine bodyPost_ret (results_none rfl _ _ _) rfl ?_
        have hg1 : wr.grownBy ((w1.setCell ⟨p, 1, none⟩ (.slice none 0 0)).setCell ⟨p, 2, none⟩ (.int .i64 (cc : Int))).drew (some p) :=
          grown_trans (grown_trans (grown_below hb1 (Nat.le_refl _) _) (grown_set p 1 _)) (grown_trans (grown_set p 2 _) ⟨rfl, rfl, rfl, Nat.le_refl _, fun _ _ _ => rfl⟩)
        have hF2 : FeedAt ((w1.setCell ⟨p, 1, none⟩ (.slice none 0 0)).setCell ⟨p, 2, none⟩ (.int .i64 (cc : Int))) p most (.slice none 0 0) cc := feedAt_code (feedAt_held HF1.out _) _
        refine ⟨⟨_, rfl⟩, .inl ⟨pre, ⟨none, 0, 0, ?_, ?_, (fun ad e => by cases e), ?_, fun _ => rfl, ?_⟩, hJ _ _ _ HJ.out hg1⟩⟩
        · rw [HRD.out]; exact hF2
        · rw [HRD.out]; exact row_nil w .u8
        · rw [HRD.out]; simpa using HP.out
        · rw [HRD.out]; intro _ h; have : cc = 0 := h; omega
    · rw [h1] at hsz
      have hrd2 := F.read_wait h1
      rw [hrd2] at hrd
      have HSZ := Lib.hid hsz; have HRD := Lib.hid hrd; have HJ := Lib.hid hJs; have HP := Lib.hid hP; have HF := Lib.hid hF; have HR := Lib.hid hR
      clear hsz hrd hrd2 hJs hP hF hR hb hS hRw h1
      gi_wp2
      gi_region_with_o (refine ⟨trivial, ?_⟩; gi_at_call 30; refine (callsIn_wide.2 (HSZ.out _ (by assumption))).mono ?_; rintro e w1 ⟨rfl, hb1⟩; have HF1 := Lib.hid (feedAt_below HF.out hb1))
      all_goals
        gi_wp2
        refine ⟨trivial, ?_⟩
        gi_wp2
        refine ⟨(fun f hf => by cases hf), ?_⟩
        gi_wp2
        refine bodyPost_ret (results_none rfl _ _ _) rfl ?_
        refine ⟨⟨_, rfl⟩, .inl ⟨pre, ⟨a, len, cap, ?_, ?_, hGa, ?_, ?_, fun h _ => HV.out h⟩, hJ _ _ _ HJ.out (grown_below hb1 (Nat.le_refl _) _)⟩⟩
        · rw [HRD.out]; exact HF1.out
        · rw [HRD.out]; exact HR.out
        · rw [HRD.out]; simpa using HP.out
        · rw [HRD.out]; intro h; exact absurd rfl h
    · rw [h1] at hsz
      have hne : (((m + 1 : Nat) : Int) == 0) = false := by simp; omega
      have hrd2 := F.read_frame h1
      rw [hrd2] at hrd
      have hlen : r'.length = len := hR.1
      obtain ⟨b, off, rfl⟩ : ∃ b off, a = some ⟨b, off, none⟩ := by
        rcases hR.2.2.2 with h0 | ⟨b, off, e, _⟩
        · omega
        · exact ⟨b, off, e⟩
      have hgb : G b := hGa _ rfl
      have hbB := hGB _ hgb
      have hpay : (r'.drop 8).take (F.long r') = F.pay r' := rfl
      obtain ⟨g, hgg⟩ : ∃ g, F.long r' = g := ⟨_, rfl⟩
      rw [hgg] at h2 hpay
      have hcut : ∀ w1, Below wr.heap.size wr w1 → Calls Try.prog 31 #[.pointer (some ⟨p, 0, none⟩), .int .i64 ((m + 1 : Nat) : Int)] w1 fun e w' => ∃ a1 a2, e = .returned (.agg #[.int .i64 (F.kind r'), .slice a1 g g]) ∧ Row w .u8 a1 g g (F.pay r') ∧ Row w .u8 a2 (len - (m + 1)) (cap - (m + 1)) (r'.drop (m + 1)) ∧
          InG G a1 ∧ InG G a2 ∧ FeedAt w' p most (.slice a2 (len - (m + 1)) (cap - (m + 1))) 0 ∧ wr.grownBy w' (some p) := fun w1 hb1 =>
        (cut_any p most b off len cap (m + 1) g r' w1 (feedAt_below hF hb1) (row_below hRw hb1 rfl) hb h2 (hlen ▸ h3)).mono fun e w' h => by
          obtain ⟨a1, a2, rfl, q1, q2, q3, q4, q5, q6⟩ := h
          have back : ∀ {a : Option Addr} {n c : Nat} {l : List Int}, (a = some ⟨b, off, none⟩ ∨ ∃ o, a = some ⟨b, o, none⟩) → Row w1 .u8 a n c l → Row w .u8 a n c l := fun {a n c l} ha h => by
            have hbl : ∀ ad, a = some ad → ad.block = b := by
              rintro ad rfl
              rcases ha with e | ⟨o, e⟩ <;> cases e <;> rfl
            refine row_same h fun ad e _ => ?_
            rw [hbl ad e, hb1.block b (by have := hbB.1; omega)]
            exact (hS b hbB.1 hbB.2).symm
          have ing : ∀ {a : Option Addr}, (a = some ⟨b, off, none⟩ ∨ ∃ o, a = some ⟨b, o, none⟩) → InG G a := fun {a} ha ad e => by
            subst e
            rcases ha with e | ⟨o, e⟩ <;> cases e <;> exact hgb
          have e1 : a1 = some ⟨b, off, none⟩ ∨ ∃ o, a1 = some ⟨b, o, none⟩ := q4.imp id fun h => ⟨_, h⟩
          have e2 : a2 = some ⟨b, off, none⟩ ∨ ∃ o, a2 = some ⟨b, o, none⟩ := q3.imp id fun h => ⟨_, h⟩
          exact ⟨a1, a2, rfl, hpay ▸ back e1 q1, back e2 q2, ing e1, ing e2, q5, grown_trans (grown_below hb1 (Nat.le_refl _) _) q6⟩
      have hbd : Bytes (r'.drop (m + 1)) := bytes_drop hb _
      have hdl : (r'.drop (m + 1)).length = r'.length - (m + 1) := List.length_drop
      have HSZ := Lib.hid hsz; have HRD := Lib.hid hrd; have HJ := Lib.hid hJs; have HP := Lib.hid hP; have HF := Lib.hid hF; have HR := Lib.hid hR
      have HC := Lib.hid hcut; have HY := Lib.hid hY; have HS := Lib.hid hS; have HBD := Lib.hid hbd; have HDL := Lib.hid hdl; have HJT := Lib.hid hJ; have HJX := Lib.hid hJx; have HLEN := Lib.hid hlen
      have HM3 := Lib.hid h3
      clear hsz hrd hrd2 hJs hP hF hR hb hS hRw h1 hcut hY hpay hbd hdl hJ hJx hlen h3 hgg
      generalize hmm : m + 1 = mm at *
      have HMM := Lib.hid hmm; clear hmm
      have H2 := Lib.hid h2; clear h2
      gi_wp2
      gi_region_with_o (refine ⟨trivial, ?_⟩; gi_at_call 30; refine (callsIn_wide.2 (HSZ.out _ (by assumption))).mono ?_; rintro e w1 ⟨rfl, hb1⟩; have hx1 := (hBx.kept (grown_below hb1 (Nat.le_refl _) none) (by simp)).cell)
      all_goals
        gi_wp2_with (first
          | (refine ⟨trivial, ?_⟩; gi_at_call 31; refine (callsIn_wide.2 (HC.out _ hb1)).mono ?_; rintro e w2 ⟨a1, a2, rfl, q1, q2, q3, q4, q5, q6⟩; have hJ2 := HJT.out _ _ _ HJ.out q6; obtain ⟨fn, tmps, assign, body, hy, hR⟩ := HY.out _ (F.kind r', a1, g) w2 hJ2 (by omega); unfold fenc at hy))
        refine hR.mono ?_
        rintro e W3 (⟨rfl, hJ3, hk3, hkb3⟩ | ⟨rfl, hJx3⟩)
        · gi_wp2
          have hS3 : Save B p w W3 := save_below (save_grown HS.out q6 hBs) hk3
          have hF3 : FeedAt W3 p most (.slice a2 (len - mm) (cap - mm)) 0 := feedAt_same q5 (hk3.block p hpB)
          have hx3 : Boxed W3 fb 32 (.pointer (some ⟨p, 0, none⟩)) := hkb3 _ (hBx.kept q6 (by simpa using hfb))
          go_roundw
          case rel => exact ⟨_, _, a2, len - mm, cap - mm, r'.drop mm, hJ3, hF3, q2, HBD.out, q4, hx3, Nat.le_trans hBs (Nat.le_trans q6.size hk3.size), hS3, pays_snoc (x := (F.kind r', a1, g)) (f := (F.kind r', F.pay r')) rfl q1 q3 HP.out, by rw [HRD.out]; simp, by
            have := HDL.out; have := HM3.out; have := HMM.out; simp; omega, fun h => by simp at h⟩
          case measure => 
            have m1 : heldLen p W3 = len - mm := by simp [heldLen, (feedAt_cells hF3).1.2.1]
            have m2 : heldLen p wr = len := by simp [heldLen, (feedAt_cells HF.out).1.2.1]
            have := HMM.out; have := HM3.out; have := HLEN.out
            omega
        · gi_wp2
          refine bodyPost_ret (results_none rfl _ _ _) rfl ?_
          exact ⟨⟨_, rfl⟩, .inr ⟨_, trivial, hJx3⟩⟩
end Go.Proofs.Ytdnijiehfokagaa
