/- The document's answer for layer 5: Read. -/
import Derived.Test.YtdnijiehfokagaaFeedRefPut
import Derived.Test.YtdnijiehfokagaaFeedTake
import Derived.Test.YtdnijiehfokagaaEq
import Derived.Deep.DeepCutAuto
import Derived.Deep.RegionLaw
namespace Go.Proofs.Ytdnijiehfokagaa
open Go.RowKit Go.Shelf
/-- the document's frames, as they lie -/
def rcells (xs : List (Int × Option Addr × Nat × Nat)) : List Value := xs.flatMap fun x => [.int .i64 x.1, .slice x.2.1 x.2.2.1 x.2.2.2]
def RPays (W : World) (G : Nat → Prop) : List (Int × Option Addr × Nat × Nat) → List (Int × List Int) → Prop
  | [], [] => True
  | x :: xs, f :: fs => x.1 = f.1 ∧ Row W .u8 x.2.1 x.2.2.1 x.2.2.2 f.2 ∧ InG G x.2.1 ∧ RPays W G xs fs
  | _, _ => False
theorem rpays_same {W W' : World} {G G' : Nat → Prop} (hs : ∀ b, G b → b < W.heap.size → W'.heap[b]? = W.heap[b]?) (hG : ∀ b, G b → G' b) : ∀ {xs fs}, RPays W G xs fs → RPays W' G' xs fs := by
  intro xs
  induction xs with
  | nil => intro fs h; cases fs with
    | nil => trivial
    | cons => exact h.elim
  | cons y xs ih => intro fs h; cases fs with
    | nil => exact h.elim
    | cons f fs => exact ⟨h.1, row_same h.2.1 (fun ad e hb => hs _ (h.2.2.1 ad e) hb), fun ad e => hG _ (h.2.2.1 ad e), ih h.2.2.2⟩
theorem rpays_snoc {W : World} {G : Nat → Prop} {x : Int × Option Addr × Nat × Nat} {f : Int × List Int} (h1 : x.1 = f.1) (h2 : Row W .u8 x.2.1 x.2.2.1 x.2.2.2 f.2) (h3 : InG G x.2.1) : ∀ {xs fs}, RPays W G xs fs → RPays W G (xs ++ [x]) (fs ++ [f]) := by
  intro xs
  induction xs with
  | nil => intro fs h; cases fs with
    | nil => exact ⟨h1, h2, h3, trivial⟩
    | cons => exact h.elim
  | cons y xs ih => intro fs h; cases fs with
    | nil => exact h.elim
    | cons f fs => exact ⟨h.1, h.2.1, h.2.2.1, ih h.2.2.2⟩
theorem rpays_at {W : World} {G : Nat → Prop} : ∀ {xs : List (Int × Option Addr × Nat × Nat)} {fs : List (Int × List Int)}, RPays W G xs fs → ∀ i, i < fs.length → ∃ a c, xs[i]? = some ((fs[i]?.getD (0, [])).1, a, (fs[i]?.getD (0, [])).2.length, c) ∧ Row W .u8 a (fs[i]?.getD (0, [])).2.length c (fs[i]?.getD (0, [])).2 := by
  intro xs
  induction xs with
  | nil => intro fs h i hi; cases fs with
    | nil => simp at hi
    | cons => exact h.elim
  | cons y xs ih => intro fs h i hi; cases fs with
    | nil => exact h.elim
    | cons f fs =>
      cases i with
      | zero =>
        obtain ⟨y1, y2, y3, y4⟩ := y
        obtain ⟨h1, h2, _, _⟩ := h
        dsimp only at h1 h2
        have h3 := h2.1
        subst h1 h3
        exact ⟨y2, y4, rfl, h2⟩
      | succ i => simpa using ih h.2.2.2 i (by simpa using hi)
theorem rcells_at (xs : List (Int × Option Addr × Nat × Nat)) : ∀ (i : Nat) (k : Int) (a : Option Addr) (n c : Nat), xs[i]? = some (k, a, n, c) → (rcells xs)[i * 2]? = some (.int .i64 k) ∧ (rcells xs)[i * 2 + 1]? = some (.slice a n c) := by
  induction xs with
  | nil => intro i k a n c h; simp at h
  | cons x xs ih =>
    intro i k a n c h
    have e : rcells (x :: xs) = .int .i64 x.1 :: .slice x.2.1 x.2.2.1 x.2.2.2 :: rcells xs := rfl
    rw [e]
    cases i with
    | zero => simp at h; subst h; exact ⟨rfl, rfl⟩
    | succ i =>
      have := ih i k a n c (by simpa using h)
      rw [show (i + 1) * 2 = i * 2 + 1 + 1 by omega]
      simpa using this
theorem cells_rat {W : World} {b off n : Nat} {xs : List (Int × Option Addr × Nat × Nat)} (h : Cells W 2 (some ⟨b, off, none⟩) n (rcells xs)) {i : Nat} (hi : i < n) {k : Int} {a : Option Addr} {m c : Nat} (hx : xs[i]? = some (k, a, m, c)) :
    W.cell? ⟨b, off + i * 2, none⟩ = some (.int .i64 k) ∧ W.cell? ⟨b, off + i * 2 + 1, none⟩ = some (.slice a m c) := by
  obtain ⟨h1, h2⟩ := rcells_at xs i k a m c hx
  rcases h.2 with h0 | ⟨ad, e, hc⟩
  · omega
  · cases e
    have q1 := hc _ _ h1
    have q2 := hc _ _ h2
    rw [Addr.add_lit] at q1 q2
    exact ⟨q1, by rw [Nat.add_assoc]; exact q2⟩
/-- the blocks of the document's payloads: new ones, of bytes -/
def RG (w W : World) (b : Nat) : Prop := w.heap.size ≤ b ∧ ∃ cs fr, W.heap[b]? = some (.cells cs 5 fr)
theorem rg_later {w A C : World} (hs : ∀ b, RG w A b → b < A.heap.size → C.heap[b]? = A.heap[b]?) : ∀ b, RG w A b → RG w C b := fun b h => by
  obtain ⟨h1, cs, fr, h2⟩ := h
  exact ⟨h1, cs, fr, (hs b ⟨h1, cs, fr, h2⟩ (Array.getElem?_eq_some_iff.1 h2).1).trans h2⟩
theorem rpays_below {w A C : World} {xs : List (Int × Option Addr × Nat × Nat)} {fs : List (Int × List Int)} (h : RPays A (RG w A) xs fs) (hb : Below A.heap.size A C) : RPays C (RG w C) xs fs :=
  rpays_same (fun b _ hlt => hb.block b hlt) (rg_later fun b _ hlt => hb.block b hlt) h
theorem rpays_grown {w W W' : World} {u : Value} {base : Nat} {e : TypeId} {size n : Nat} {us : List Value} (hg : W.grownBy W' u.ownBlock) (hu : W.ownsRow base e size u n us) (he : e ≠ 5)
    {xs : List (Int × Option Addr × Nat × Nat)} {fs : List (Int × List Int)} (h : RPays W (RG w W) xs fs) : RPays W' (RG w W') xs fs := by
  have hs : ∀ b, RG w W b → W'.heap[b]? = W.heap[b]? := fun b hb => by
    obtain ⟨_, cs, fr, h'⟩ := hb
    refine hg.block b (Array.getElem?_eq_some_iff.1 h').1 (fun e' => ?_)
    obtain ⟨_, _, cs', hc⟩ := own_block hu b e'.symm
    rw [hc] at h'; cases h'; exact he rfl
  exact rpays_same (fun b hb _ => hs b hb) (rg_later fun b hb _ => hs b hb) h
/-- what the document's Read comes to -/
def RR (M : Nat) (b : List Int) (w : World) (e : Ending) (w' : World) : Prop :=
  ∃ A C xs, e = .returned (.tuple #[.slice A (F.read M b).1.length C, .int .i64 ((F.read M b).2.1 : Nat), .int .i64 ((F.read M b).2.2.length : Nat)]) ∧ w'.ownsRow w.heap.size 57 2 (.slice A (F.read M b).1.length C) (F.read M b).1.length (rcells xs) ∧ RPays w' (RG w w') xs (F.read M b).1 ∧ Below w.heap.size w w'
/-- the frames so far -/
structure Sofar (M : Nat) (b : List Int) (w : World) (off : Nat) (v : Value) (W : World) (fs : List (Int × List Int)) (xs : List (Int × Option Addr × Nat × Nat)) : Prop where
  own : W.ownsRow w.heap.size 57 2 v fs.length (rcells xs)
  pays : RPays W (RG w W) xs fs
  below : Below w.heap.size w W
  read : F.read M b = (fs ++ (F.read M (b.drop off)).1, (F.read M (b.drop off)).2)
  count : 12 * fs.length ≤ off
theorem Sofar.later {M : Nat} {b : List Int} {w : World} {off : Nat} {v : Value} {W W' : World} {fs : List (Int × List Int)} {xs : List (Int × Option Addr × Nat × Nat)} (h : Sofar M b w off v W fs xs) (hb : Below W.heap.size W W') : Sofar M b w off v W' fs xs :=
  ⟨ownsRow_below h.own hb, rpays_below h.pays hb, h.below.trans (hb.mono h.below.size), h.read, h.count⟩
theorem Sofar.ends {M : Nat} {b : List Int} {w : World} {off : Nat} {v : Value} {W : World} {fs : List (Int × List Int)} {xs : List (Int × Option Addr × Nat × Nat)} (h : Sofar M b w off v W fs xs) {e : Nat} {r : List Int} {l : Nat} (hr : F.read M (b.drop off) = ([], e, r)) (hl : r.length = l) :
    RR M b w (.returned (.tuple #[v, .int .i64 (e : Int), .int .i64 (l : Int)])) W := by
  have h1 := h.read
  rw [hr, List.append_nil] at h1
  obtain ⟨A, C, e', hc⟩ := cells_own h.own
  have ho := h.own
  subst e' hl
  unfold RR
  rw [h1]
  exact ⟨A, C, xs, rfl, ho, h.pays, h.below⟩
theorem cell_below' {w w' : World} (hb : Below w.heap.size w w') {p : Addr} {v : Value} (h : w.cell? p = some v) : w'.cell? p = some v := by
  have hbk : p.block < w.heap.size := by
    simp only [World.cell?] at h
    rcases Nat.lt_or_ge p.block w.heap.size with h' | h'
    · exact h'
    · rw [Array.getElem?_eq_none h'] at h; cases h
  exact (hb.cell hbk).trans h
theorem info_rframe : (Try.prog.info? 57).map (fun i => (i.zero, i.size, i.bytes)) = some (some (.agg #[.int .i64 0, .slice none 0 0]), 2, 32) := by kernel_rfl
set_option maxRecDepth 100000 in
set_option maxHeartbeats 16000000 in
theorem ref05Read_any (most : Int) (a : Option Addr) (n c : Nat) (b : List Int) (w : World) (hp : Row w .u8 a n c b) (hb : Bytes b) (hn : n ≤ 100000000) (M : Nat) (hM : (M : Int) = min (max most 0) 65535) :
    Calls Try.prog 17 #[.slice a n c, .int .i64 most] w (RR M b w) := by
  obtain ⟨m0, hm0⟩ : ∃ m0 : Nat, (m0 : Int) = max most 0 := ⟨(max most 0).toNat, by omega⟩
  have HM := Lib.hid hM; have HM0 := Lib.hid hm0
  clear hM hm0
  go_enter Try.func17, Try.ntmps17
  go_upto_if 15 with fail
  go_cut [1] (fun s1 W => s1 = .int .i64 (m0 : Int) ∧ W = w)
  case first =>
    by_cases h0 : most < 0
    · have d0 : decide (most < 0) = true := by simpa using h0
      have e0 : (m0 : Int) = 0 := by have := HM0.out; omega
      go_wp2
      go_meet
      exact ⟨by rw [e0], rfl⟩
    · have d0 : decide (most < 0) = false := by simpa using h0
      have e0 : (m0 : Int) = most := by have := HM0.out; omega
      have E0 := Lib.hid e0; clear e0
      go_wp2
      go_meet
      exact ⟨by rw [E0.out], rfl⟩
  case rest =>
    obtain ⟨rfl, hwc⟩ := hcut
    rw [hwc]
    clear hwc
    go_upto_if 17 with fail
    go_cut [1] (fun s1 W => s1 = .int .i64 (M : Int) ∧ W = w)
    case first =>
      by_cases h0 : 65535 < m0
      · have d0 : decide (65535 < m0) = true := by simpa using h0
        have e0 : (M : Int) = 65535 := by have := HM0.out; have := HM.out; omega
        go_wp2
        go_meet
        exact ⟨by rw [e0], rfl⟩
      · have d0 : decide (65535 < m0) = false := by simpa using h0
        have e0 : (M : Int) = m0 := by have := HM0.out; have := HM.out; omega
        have E0 := Lib.hid e0; clear e0
        go_wp2
        go_meet
        exact ⟨by rw [E0.out], rfl⟩
    case rest =>
      obtain ⟨rfl, hwc⟩ := hcut
      rw [hwc]
      clear hwc
      have hMM : M ≤ 65535 := by have := HM.out; omega
      have HP := Lib.hid hp; have HB := Lib.hid hb
      have hpl : b.length = n := hp.1
      have HPL := Lib.hid hpl
      obtain ⟨-, hnc, hcm, hcells⟩ := hp
      have HCE := Lib.hid hcells
      unfold maxLen at hcm
      clear hcells hpl hb
      go_wp2
      go_loopw [7, 8] (fun v7 v8 wr => ∃ off fs xs, off ≤ n ∧ v8 = .int .i64 (off : Nat) ∧ Sofar M b w off v7 wr fs xs) (fun _ v8 _ => n - (intOf v8).toNat)
      case atStart => exact ⟨0, [], [], Nat.zero_le _, rfl, ⟨World.ownsRow_nil _ _ _ _, trivial, Below.refl _ _, by simp, by simp⟩⟩
      case round =>
        obtain ⟨off, fs, xs, hoff, rfl, hso⟩ := hrel
        have HSO := Lib.hid hso; clear hso
        obtain ⟨d, hd⟩ : ∃ d, b.drop off = d := ⟨_, rfl⟩
        obtain ⟨m, hm⟩ : ∃ m : Nat, n - off = m := ⟨_, rfl⟩
        have hdl : d.length = m := by rw [← hd, List.length_drop, HPL.out, hm]
        have hsub : (n : Int) - (off : Int) = (m : Int) := by omega
        have hm9 : m ≤ 100000000 := by omega
        have hoff9 : off ≤ 100000000 := by omega
        have hcell : ∀ j, j < m → ∃ bb bo, a = some ⟨bb, bo, none⟩ ∧ wr.cell? ⟨bb, bo + (off + j), none⟩ = some (.int .u8 (d[j]?.getD 0)) := fun j hj => by
          rcases HCE.out with h0 | ⟨bb, bo, e, hc⟩
          · omega
          · refine ⟨bb, bo, e, ?_⟩
            have := hc (off + j) (by omega)
            rw [← hd, List.getElem?_drop]
            exact cell_below' HSO.out.below this
        have HBY : Hid (Bytes d) := Lib.hid (hd ▸ bytes_drop HB.out off)
        have HD := Lib.hid hd; have HDL := Lib.hid hdl; have HCL := Lib.hid hcell; have HMM := Lib.hid hm
        have hin1 : 1 < m → off + 1 < n := by omega
        have hin2 : 2 < m → off + 2 < n := by omega
        have hin3 : 3 < m → off + 3 < n := by omega
        have hin0 : 0 < m → off < n := by omega
        clear hd hdl hcell hm
        have hbad : ∀ (e : Nat) (r : List Int), F.read M d = ([], e, r) → RR M b w (.returned (.tuple #[u7, .int .i64 (e : Int), .int .i64 ((r.length : Nat) : Int)])) wr := fun e r h =>
          HSO.out.ends (by rw [HD.out]; exact h) rfl
        have HBAD := Lib.hid hbad; clear hbad
        have hok : F.ok d = false → RR M b w (.returned (.tuple #[u7, .int .i64 2, .int .i64 0])) wr := fun h => HBAD.out 2 [] (F.read_err (by unfold F.size; rw [if_pos h]))
        have HOK := Lib.hid hok; clear hok
        have HI0 := Lib.hid hin0; have HI1 := Lib.hid hin1; have HI2 := Lib.hid hin2; have HI3 := Lib.hid hin3
        clear hin0 hin1 hin2 hin3
        by_cases f0 : 0 < m ∧ d[0]?.getD 0 ≠ 208
        · obtain ⟨p0, q0⟩ := f0
          have HR := Lib.hid (HOK.out (ok_false (i := 0) (by omega) (by rw [HDL.out]; exact p0) (by simpa [F.fits] using q0)))
          obtain ⟨bb, bo, rfl, c0⟩ := HCL.out 0 (by omega)
          rw [Nat.add_zero] at c0
          have i0 := HI0.out (by omega)
          have e0 : (d[0]?.getD 0 != 208) = true := by simpa using q0
          generalize d[0]?.getD 0 = x0 at c0 e0
          clear q0 
          go_wp2
          go_ret3
          exact HR.out
        · skip
          by_cases f1 : 1 < m ∧ d[1]?.getD 0 ≠ 161
          · obtain ⟨p1, q1⟩ := f1
            have HR := Lib.hid (HOK.out (ok_false (i := 1) (by omega) (by rw [HDL.out]; exact p1) (by simpa [F.fits] using q1)))
            have p0 : 0 < m := by omega
            obtain ⟨bb, bo, rfl, c0⟩ := HCL.out 0 (by omega)
            rw [Nat.add_zero] at c0
            have i0 := HI0.out (by omega)
            obtain ⟨_, _, e, c1⟩ := HCL.out 1 (by omega)
            cases e
            have i1 := HI1.out (by omega)
            have e0 : (d[0]?.getD 0 != 208) = false := by
              have : d[0]?.getD 0 = 208 := Classical.not_not.1 fun h => f0 ⟨by omega, h⟩
              simp [this]
            have e1 : (d[1]?.getD 0 != 161) = true := by simpa using q1
            generalize d[0]?.getD 0 = x0 at c0 e0
            generalize d[1]?.getD 0 = x1 at c1 e1
            clear q1 f0
            go_wp2
            go_ret3
            exact HR.out
          · skip
            by_cases f2 : 2 < m ∧ d[2]?.getD 0 ≠ 1
            · obtain ⟨p2, q2⟩ := f2
              have HR := Lib.hid (HOK.out (ok_false (i := 2) (by omega) (by rw [HDL.out]; exact p2) (by simpa [F.fits] using q2)))
              have p0 : 0 < m := by omega
              have p1 : 1 < m := by omega
              obtain ⟨bb, bo, rfl, c0⟩ := HCL.out 0 (by omega)
              rw [Nat.add_zero] at c0
              have i0 := HI0.out (by omega)
              obtain ⟨_, _, e, c1⟩ := HCL.out 1 (by omega)
              cases e
              have i1 := HI1.out (by omega)
              obtain ⟨_, _, e, c2⟩ := HCL.out 2 (by omega)
              cases e
              have i2 := HI2.out (by omega)
              have e0 : (d[0]?.getD 0 != 208) = false := by
                have : d[0]?.getD 0 = 208 := Classical.not_not.1 fun h => f0 ⟨by omega, h⟩
                simp [this]
              have e1 : (d[1]?.getD 0 != 161) = false := by
                have : d[1]?.getD 0 = 161 := Classical.not_not.1 fun h => f1 ⟨by omega, h⟩
                simp [this]
              have e2 : (d[2]?.getD 0 != 1) = true := by simpa using q2
              generalize d[0]?.getD 0 = x0 at c0 e0
              generalize d[1]?.getD 0 = x1 at c1 e1
              generalize d[2]?.getD 0 = x2 at c2 e2
              clear q2 f0 f1
              go_wp2
              go_ret3
              exact HR.out
            · skip
              by_cases f3 : 3 < m ∧ ¬ (1 ≤ F.kind d ∧ F.kind d ≤ 9)
              · obtain ⟨p3, q3⟩ := f3
                have HR := Lib.hid (HOK.out (ok_false (i := 3) (by omega) (by rw [HDL.out]; exact p3) (by simpa [F.fits, F.kind] using q3)))
                have p0 : 0 < m := by omega
                have p1 : 1 < m := by omega
                have p2 : 2 < m := by omega
                obtain ⟨bb, bo, rfl, c0⟩ := HCL.out 0 (by omega)
                rw [Nat.add_zero] at c0
                have i0 := HI0.out (by omega)
                obtain ⟨_, _, e, c1⟩ := HCL.out 1 (by omega)
                cases e
                have i1 := HI1.out (by omega)
                obtain ⟨_, _, e, c2⟩ := HCL.out 2 (by omega)
                cases e
                have i2 := HI2.out (by omega)
                obtain ⟨_, _, e, c3⟩ := HCL.out 3 (by omega)
                change wr.cell? _ = some (Value.int .u8 (F.kind d)) at c3
                cases e
                have i3 := HI3.out (by omega)
                have e0 : (d[0]?.getD 0 != 208) = false := by
                  have : d[0]?.getD 0 = 208 := Classical.not_not.1 fun h => f0 ⟨by omega, h⟩
                  simp [this]
                have e1 : (d[1]?.getD 0 != 161) = false := by
                  have : d[1]?.getD 0 = 161 := Classical.not_not.1 fun h => f1 ⟨by omega, h⟩
                  simp [this]
                have e2 : (d[2]?.getD 0 != 1) = false := by
                  have : d[2]?.getD 0 = 1 := Classical.not_not.1 fun h => f2 ⟨by omega, h⟩
                  simp [this]
                have hx3 : 0 ≤ F.kind d ∧ F.kind d ≤ 255 := HBY.out 3
                by_cases z3 : F.kind d = 0
                · have e3 : (F.kind d == 0) = true := by simpa using z3
                  clear q3 hx3 z3
                  have e3' : True := trivial
                  generalize d[0]?.getD 0 = x0 at c0 e0
                  generalize d[1]?.getD 0 = x1 at c1 e1
                  generalize d[2]?.getD 0 = x2 at c2 e2
                  generalize F.kind d = x3 at c3 e3 e3'
                  clear f0 f1 f2
                  go_wp2
                  go_ret3
                  exact HR.out
                · have e3 : (F.kind d == 0) = false := by simpa using z3
                  have e3' : decide (9 < F.kind d) = true := by simp; omega
                  clear q3 hx3 z3
                  generalize d[0]?.getD 0 = x0 at c0 e0
                  generalize d[1]?.getD 0 = x1 at c1 e1
                  generalize d[2]?.getD 0 = x2 at c2 e2
                  generalize F.kind d = x3 at c3 e3 e3'
                  clear f0 f1 f2
                  go_wp2
                  go_ret3
                  exact HR.out
              · have hokd : F.ok d = true := by
                  rw [F.ok_iff]
                  intro i hi hil
                  rw [HDL.out] at hil
                  have : i = 0 ∨ i = 1 ∨ i = 2 ∨ i = 3 := by omega
                  rcases this with rfl | rfl | rfl | rfl
                  · have : d[0]?.getD 0 = 208 := Classical.not_not.1 fun h => f0 ⟨hil, h⟩
                    simp [F.fits, this]
                  · have : d[1]?.getD 0 = 161 := Classical.not_not.1 fun h => f1 ⟨hil, h⟩
                    simp [F.fits, this]
                  · have : d[2]?.getD 0 = 1 := Classical.not_not.1 fun h => f2 ⟨hil, h⟩
                    simp [F.fits, this]
                  · have : 1 ≤ F.kind d ∧ F.kind d ≤ 9 := Classical.not_not.1 fun h => f3 ⟨hil, h⟩
                    unfold F.kind at this
                    simp [F.fits, this]
                have hsz := size_ok (most := M) hokd
                rw [HDL.out] at hsz
                have HOKD := Lib.hid hokd; clear hokd
                by_cases m8 : m < 8
                · rw [if_pos m8] at hsz
                  have hR0 := HBAD.out 0 d (F.read_wait hsz)
                  rw [HDL.out] at hR0
                  have HR := Lib.hid hR0
                  clear hsz hR0
                  by_cases m0 : m = 0
                  · subst m0
                    clear f0 f1 f2 f3
                    go_wp2
                    go_ret3
                    exact HR.out
                  · obtain ⟨bb, bo, rfl, c0⟩ := HCL.out 0 (by omega)
                    rw [Nat.add_zero] at c0
                    have i0 := HI0.out (by omega)
                    have e0 : (d[0]?.getD 0 != 208) = false := by
                      have : d[0]?.getD 0 = 208 := Classical.not_not.1 fun h => f0 ⟨by omega, h⟩
                      simp [this]
                    have p0 : 0 < m := by omega
                    by_cases m1 : m = 1
                    · subst m1
                      clear f0 f1 f2 f3
                      go_wp2
                      go_ret3
                      exact HR.out
                    · obtain ⟨_, _, e, c1⟩ := HCL.out 1 (by omega)
                      cases e
                      have i1 := HI1.out (by omega)
                      have e1 : (d[1]?.getD 0 != 161) = false := by
                        have : d[1]?.getD 0 = 161 := Classical.not_not.1 fun h => f1 ⟨by omega, h⟩
                        simp [this]
                      have p1 : 1 < m := by omega
                      by_cases m2 : m = 2
                      · subst m2
                        clear f0 f1 f2 f3
                        go_wp2
                        go_ret3
                        exact HR.out
                      · obtain ⟨_, _, e, c2⟩ := HCL.out 2 (by omega)
                        cases e
                        have i2 := HI2.out (by omega)
                        have e2 : (d[2]?.getD 0 != 1) = false := by
                          have : d[2]?.getD 0 = 1 := Classical.not_not.1 fun h => f2 ⟨by omega, h⟩
                          simp [this]
                        have p2 : 2 < m := by omega
                        by_cases m3 : m = 3
                        · subst m3
                          clear f0 f1 f2 f3
                          go_wp2
                          go_ret3
                          exact HR.out
                        · obtain ⟨_, _, e, c3⟩ := HCL.out 3 (by omega)
                          change wr.cell? _ = some (Value.int .u8 (F.kind d)) at c3
                          cases e
                          have i3 := HI3.out (by omega)
                          have e3 : (F.kind d == 0) = false := by
                            have : 1 ≤ F.kind d ∧ F.kind d ≤ 9 := Classical.not_not.1 fun h => f3 ⟨by omega, h⟩
                            simp; omega
                          have e3' : decide (9 < F.kind d) = false := by
                            have : 1 ≤ F.kind d ∧ F.kind d ≤ 9 := Classical.not_not.1 fun h => f3 ⟨by omega, h⟩
                            simp; omega
                          have p3 : 3 < m := by omega
                          clear f0 f1 f2 f3 m0 m1 m2 m3
                          go_wp2
                          go_ret3
                          exact HR.out
                · rw [if_neg m8] at hsz
                  have hm8 : 8 ≤ m := by omega
                  obtain ⟨bb, bo, rfl, c0⟩ := HCL.out 0 (by omega)
                  obtain ⟨_, _, e, c3⟩ := HCL.out 3 (by omega)
                  cases e
                  change wr.cell? _ = some (Value.int .u8 (F.kind d)) at c3
                  obtain ⟨_, _, e, c1⟩ := HCL.out 1 (by omega)
                  cases e
                  obtain ⟨_, _, e, c2⟩ := HCL.out 2 (by omega)
                  cases e
                  rw [Nat.add_zero] at c0
                  have i0 := HI0.out (by omega)
                  have i1 := HI1.out (by omega)
                  have i2 := HI2.out (by omega)
                  have i3 := HI3.out (by omega)
                  have p0 : 0 < m := by omega
                  have p1 : 1 < m := by omega
                  have p2 : 2 < m := by omega
                  have p3 : 3 < m := by omega
                  have e0 : (d[0]?.getD 0 != 208) = false := by
                    have : d[0]?.getD 0 = 208 := Classical.not_not.1 fun h => f0 ⟨by omega, h⟩
                    simp [this]
                  have e1 : (d[1]?.getD 0 != 161) = false := by
                    have : d[1]?.getD 0 = 161 := Classical.not_not.1 fun h => f1 ⟨by omega, h⟩
                    simp [this]
                  have e2 : (d[2]?.getD 0 != 1) = false := by
                    have : d[2]?.getD 0 = 1 := Classical.not_not.1 fun h => f2 ⟨by omega, h⟩
                    simp [this]
                  have hx3 : 1 ≤ F.kind d ∧ F.kind d ≤ 9 := Classical.not_not.1 fun h => f3 ⟨by omega, h⟩
                  have e3 : (F.kind d == 0) = false := by simp; omega
                  have e3' : decide (9 < F.kind d) = false := by simp; omega
                  have hkd : F.kind d = F.kind d := rfl
                  have hle := F.long_eq (b := d) (by rw [HDL.out]; omega) (bytes_mem HBY.out)
                  obtain ⟨g, hg⟩ : ∃ g, F.long d = g := ⟨_, rfl⟩
                  rw [hg] at hle hsz
                  obtain ⟨a4, hs4, hq4⟩ := sub_both (some ⟨bb, bo, none⟩) n c (off + 4) (off + 8) (by omega) (by omega) hnc
                  rw [show ((off + 4 : Nat) : Int) = (off : Int) + 4 by omega, show ((off + 8 : Nat) : Int) = (off : Int) + 8 by omega, show off + 8 - (off + 4) = 4 by omega] at hs4
                  rw [show off + 8 - (off + 4) = 4 by omega] at hq4
                  have hd4 : (b.drop (off + 4)).take 4 = (d.drop 4).take 4 := by rw [← HD.out, List.drop_drop]
                  have hget : ∀ W, Below w.heap.size w W → Calls Try.prog 25 #[.slice a4 4 (c - (off + 4))] W fun e w' => e = .returned (.int .i64 (g : Nat)) ∧ ∃ n, w' = W.drewN n := fun W hW =>
                    (ref04Get_any _ _ _ _ W (hq4 W b (row_below HP.out hW rfl)) (bytes_take (bytes_drop HB.out _) 4)).mono fun e w' ⟨h1, h2⟩ => ⟨by rw [h1, hd4, hle.1], h2⟩
                  have hgle := hle.2
                  have HG := Lib.hid hg; have HKD := Lib.hid hkd; have HX3 := Lib.hid hx3
                  generalize d[0]?.getD 0 = x0 at c0 e0
                  generalize d[1]?.getD 0 = x1 at c1 e1
                  generalize d[2]?.getD 0 = x2 at c2 e2
                  clear f0 f1 f2 f3 hle hg hq4 hd4 hx3 hkd
                  by_cases hlong : M < g
                  · rw [if_pos hlong] at hsz
                    have HR := Lib.hid (HBAD.out 4 [] (F.read_err (c := 3) hsz))
                    have dl : decide ((M : Int) < (g : Int)) = true := by simpa using hlong
                    have HS2 := Lib.hid (F.read_err (c := 3) hsz)
                    generalize F.kind d = x3 at c3 e3 e3'
                    clear hsz
                    go_wp2_with (go_at_call 25; (with_reducible refine (hget _ HSO.out.below).mono ?_); rintro e w1 ⟨rfl, n1, rfl⟩)
                    all_goals first
                      | (exfalso; omega)
                      | (go_ret3; exact (HSO.out.later (below_drewN (Below.refl _ _) n1)).ends (l := 0) (by rw [HD.out]; exact HS2.out) rfl)
                  · rw [if_neg hlong] at hsz
                    have dl : decide ((M : Int) < (g : Int)) = false := by simpa using hlong
                    by_cases hshort : m < g + 12
                    · rw [if_pos hshort] at hsz
                      have HS2 := Lib.hid (F.read_wait hsz)
                      have ds : decide ((m : Int) < (g : Int) + 12) = true := by simp; omega
                      generalize F.kind d = x3 at c3 e3 e3'
                      clear hsz
                      go_wp2_with (go_at_call 25; (with_reducible refine (hget _ HSO.out.below).mono ?_); rintro e w1 ⟨rfl, n1, rfl⟩)
                      all_goals first
                        | (exfalso; omega)
                        | (go_ret3; exact (HSO.out.later (below_drewN (Below.refl _ _) n1)).ends (l := m) (by rw [HD.out]; exact HS2.out) HDL.out)
                    · rw [if_neg hshort] at hsz
                      have ds : decide ((m : Int) < (g : Int) + 12) = false := by simp; omega
                      have hm12 : g + 12 ≤ m := by omega
                      obtain ⟨a5, hs5, hq5⟩ := sub_both (some ⟨bb, bo, none⟩) n c (off + 8) (off + 8 + g) (by omega) (by omega) hnc
                      rw [show ((off + 8 + g : Nat) : Int) = (off : Int) + 8 + (g : Int) by omega, show ((off + 8 : Nat) : Int) = (off : Int) + 8 by omega, show off + 8 + g - (off + 8) = g by omega] at hs5
                      rw [show off + 8 + g - (off + 8) = g by omega] at hq5
                      obtain ⟨a6, hs6, hq6⟩ := sub_both (some ⟨bb, bo, none⟩) n c off (off + 12 + g) (by omega) (by omega) hnc
                      rw [show ((off + 12 + g : Nat) : Int) = (off : Int) + 12 + (g : Int) by omega, show off + 12 + g - off = g + 12 by omega] at hs6
                      rw [show off + 12 + g - off = g + 12 by omega] at hq6
                      have hpay : (b.drop (off + 8)).take g = F.pay d := by rw [F.pay, HG.out, ← HD.out, List.drop_drop]
                      have hall : (b.drop off).take (g + 12) = d.take (g + 12) := by rw [HD.out]
                      have hpl : (F.pay d).length = g := by
                        have := HDL.out
                        rw [F.pay, HG.out]; simp; omega
                      have hkd9 : 1 ≤ F.kind d ∧ F.kind d ≤ 9 := HX3.out
                      have hbp : Bytes (F.pay d) := bytes_take (bytes_drop HBY.out 8) _
                      have hPE : F.putE (F.kind d) (F.pay d) 65535 = (F.put (F.kind d) (F.pay d), 0) := by
                        have := hMM
                        unfold F.putE; rw [if_pos ⟨hkd9.1, hkd9.2, by omega, by omega⟩, if_neg (by rw [hpl]; omega)]
                      have hput : ∀ W, Below w.heap.size w W → Calls Try.prog 11 #[.int .i64 (F.kind d), .slice a5 g (c - (off + 8)), .int .i64 65535] W fun e w' => ∃ A C, e = .returned (.tuple #[.slice A (g + 12) C, .int .i64 0]) ∧ Row w' .u8 A (g + 12) C (F.put (F.kind d) (F.pay d)) ∧ Below W.heap.size W w' := fun W hW =>
                        (ref05Put_any (F.kind d) 65535 a5 g (c - (off + 8)) (F.pay d) W (hpay ▸ hq5 W b (row_below HP.out hW rfl)) hbp).mono fun e w' h => by
                          unfold PutR at h
                          rw [hPE] at h
                          dsimp only at h
                          rw [F.put_len, hpl] at h
                          exact h
                      have hpg : F.put (F.kind d) (F.pay d) = d.take (g + 12) ↔ F.good d := by
                        have := F.put_good HOKD.out (by rw [HG.out, HDL.out]; exact hm12) (bytes_mem HBY.out)
                        rwa [HG.out] at this
                      have hbytes : ∀ W A C, Below w.heap.size w W → Row W .u8 A (g + 12) C (F.put (F.kind d) (F.pay d)) → Calls Try.prog 12 #[.slice A (g + 12) C, .slice a6 (g + 12) (c - off)] W fun e w' => e = .returned (.bool (decide (F.good d))) ∧ ∃ n, w' = W.drewN n := fun W A C hW hR =>
                        (refBytes_any A a6 (g + 12) (g + 12) C (c - off) _ _ W hR (hq6 W b (row_below HP.out hW rfl))).mono fun e w' ⟨h1, h2⟩ => ⟨by rw [h1, hall, decide_eq_decide.2 hpg], h2⟩
                      have hpr : ∀ W, Below w.heap.size w W → Row W .u8 a5 g (c - (off + 8)) (F.pay d) := fun W hW => hpay ▸ hq5 W b (row_below HP.out hW rfl)
                      have hc3 : ∀ W, Below w.heap.size w W → W.cell? ⟨bb, bo + (off + 3), none⟩ = some (.int .u8 (F.kind d)) := fun W hW => by
                        rcases HCE.out with h0 | ⟨b', o', e, hc⟩
                        · omega
                        · cases e
                          have := cell_below' hW (hc (off + 3) (by omega))
                          rw [this, F.kind, ← HD.out, List.getElem?_drop]

                      have hw3 : IntKind.i64.wrap (F.kind d) = F.kind d := IntWalk.i64_in _ (by omega)
                      obtain ⟨kd1, kd9⟩ := hkd9
                      have HPUT := Lib.hid hput; have HBYT := Lib.hid hbytes; have HPR := Lib.hid hpr; have HC3 := Lib.hid hc3; have HPLN := Lib.hid hpl
                      clear hput hbytes hq5 hq6 hpay hall hpl hbp hPE hpg hpr hc3
                      by_cases hgood : F.good d
                      · rw [if_pos hgood] at hsz
                        rw [decide_eq_true hgood] at HBYT
                        have HRF := Lib.hid (F.read_frame (n := g + 11) hsz)
                        clear hsz hgood
                        generalize F.kind d = kd at *
                        generalize F.pay d = pd at *
                        go_wp2_with (first
                          | (go_at_call 25; (with_reducible refine (hget _ HSO.out.below).mono ?_); rintro e w1 ⟨rfl, n1, rfl⟩; have hS1 := HSO.out.later (below_drewN (Below.refl _ _) n1))
                          | (go_at_call 11; (with_reducible refine (HPUT.out _ hS1.below).mono ?_); rintro e w2 ⟨A2, C2, rfl, hr2, hb2⟩; have hS2 := hS1.later hb2)
                          | (go_at_call 12; (with_reducible refine (HBYT.out _ _ _ hS2.below hr2).mono ?_); rintro e w3 ⟨rfl, n3, rfl⟩; have hS3 := hS2.later (below_drewN (Below.refl _ _) n3)))
                        obtain ⟨W, hW⟩ : ∃ W, w2.drewN n3 = W := ⟨_, rfl⟩
                        rw [hW] at hS3 ⊢
                        have k3 := HC3.out W hS3.below
                        have hpw := HPR.out W hS3.below
                        have hpd := HPLN.out
                        clear hW hS1 hS2 hr2 hb2 c0 c1 c2 c3 e0 e1 e2 e3 e3'
                        have hOn := owns_built W [] 5 0 rfl (by unfold maxLen; omega)
                        have hBn := (Below.refl W.heap.size W).alloc (Nat.le_refl _) (.cells #[] 5)
                        have hcnt := hS3.count
                        have hwo : IntKind.i64.wrap ((off : Int) + 3) = (off : Int) + 3 := IntWalk.i64_in _ (by omega)
                        have hlo : (off : Int) + 3 < (n : Int) := by omega
                        have hl0 : 0 ≤ (off : Int) + 3 := by omega
                        have hto : ((off : Int) + 3).toNat = off + 3 := by omega
                        obtain ⟨iu, hiu, hu0, hu1, hu2⟩ := info_parts info_u8
                        obtain ⟨jf, hjf, hf0, hf1, hf2⟩ := info_parts info_rframe
                        have hBd : Below W.heap.size W ((W.alloc (.cells #[] 5)).drew) := hBn.drew
                        have HS3 := Lib.hid hS3
                        have k3a := HC3.out (W.alloc (.cells #[] 5)) (hS3.below.alloc hS3.below.size _)
                        go_region_law (first
                          | (refine step_append_at _ rfl _ _ 22 rfl W.heap.size 5 iu (.int .u8 0) 1 1 Try.underlying22 hiu hu0 hu1 hu2 rfl (by decide) _ 0 [] (by simp [Act.eval, Act.put]) hOn.drew a5 g (c - (off + 8)) _ (by simp [Act.eval, Act.put]) (cells_of_row (row_below hpw hBd rfl)) (by simp [Value.oneCell']) (by clear hwo hw3; unfold maxLen; omega) (by clear hwo hw3; omega) (by simp) ?_; intro v6 w6 hown6 hgr6 hat6; have hB6 : Below W.heap.size W w6 := hBd.trans (below_grown hgr6 hOn.drew (by simp)); have hown6' : w6.ownsRow W.heap.size 5 1 v6 g (u8s pd) := ownsRow_len hown6 (by clear hwo hw3; omega) (by simp [u8s]); obtain ⟨a7, c7, rfl, hr7, had7⟩ := row_own hown6'; have hS6 := HS3.out.later hB6; have k3b := HC3.out w6 hS6.below; have ho6 := hS6.own.alloc (.cells #[.int .i64 kd, .slice a7 g c7] 57))
                          | (refine step_append_at _ rfl _ _ 38 rfl w.heap.size 57 jf _ 2 32 Try.underlying38 hjf hf0 hf1 hf2 rfl (by decide) u7 fs.length (rcells xs) (by simp [Act.eval, Act.put]) ho6 (some ⟨w6.heap.size, 0, none⟩) 1 1 [.int .i64 kd, .slice a7 g c7] (by simp [Act.eval, Act.put]) ⟨rfl, .inr ⟨_, rfl, cells_new _ [_, _] _⟩⟩ (by simp [Value.oneCell']) (by clear hwo hw3; unfold maxLen; omega) (by clear hwo hw3; omega) (by clear hwo hw3; have := hS6.below.size; simp; omega) ?_; intro v8 w8 hown8 hgr8 hat8))
                        all_goals
                          have h8s : (w6.alloc (.cells #[.int .i64 kd, .slice a7 g c7] 57)).grownBy w8 u7.ownBlock := hgr8
                          have hp6 : RPays (w6.alloc (.cells #[.int .i64 kd, .slice a7 g c7] 57)) (RG w (w6.alloc (.cells #[.int .i64 kd, .slice a7 g c7] 57))) xs fs := rpays_below hS6.pays ((Below.refl _ w6).alloc (Nat.le_refl _) _)
                          have hB8 : Below w.heap.size w w8 := (hS6.below.alloc hS6.below.size _).trans (below_grown h8s ho6 (by have := hS6.below.size; simp; omega))
                          have hblk8 : ∀ ad, a7 = some ad → w8.heap[ad.block]? = w6.heap[ad.block]? ∧ RG w w8 ad.block := fun ad e => by
                            obtain ⟨q1, cs, q2⟩ := had7 ad e
                            have hlt := (Array.getElem?_eq_some_iff.1 q2).1
                            have hal : (w6.alloc (.cells #[.int .i64 kd, .slice a7 g c7] 57)).heap[ad.block]? = w6.heap[ad.block]? := Below.heap_alloc w6 _ _ hlt
                            have h1 : w8.heap[ad.block]? = w6.heap[ad.block]? := by
                              rw [h8s.block ad.block (by simp; omega) (fun e' => ?_), hal]
                              obtain ⟨_, _, cs', hc⟩ := own_block ho6 _ e'.symm
                              rw [hal, q2] at hc; cases hc
                            exact ⟨h1, Nat.le_trans hS3.below.size (own_block hown6' _ q1).2.1, cs, _, h1.trans q2⟩
                          have hr8 : Row w8 .u8 a7 g c7 pd := row_same hr7 (fun ad e _ => (hblk8 ad e).1)
                          have hdr : b.drop (off + 12 + g) = d.drop (g + 11 + 1) := by rw [← HD.out, List.drop_drop]; congr 1; omega
                          have hrdb := hS3.read
                          rw [HD.out, HRF.out] at hrdb
                          go_wp2
                          go_roundw
                          case rel => exact ⟨off + 12 + g, fs ++ [(kd, pd)], xs ++ [(kd, a7, g, c7)], by clear hwo hw3; omega, by go_num,
                            ⟨ownsRow_len hown8 (by simp) (by simp [rcells]), rpays_snoc (x := (kd, a7, g, c7)) (f := (kd, pd)) rfl hr8 (fun ad e => (hblk8 ad e).2) (rpays_grown h8s ho6 (by decide) hp6), hB8, by rw [hrdb, hdr]; simp, by clear hwo hw3; simp; omega⟩⟩
                          case measure => (clear hwo hw3; simp [intOf]; omega)
                      · rw [if_neg hgood] at hsz
                        rw [decide_eq_false hgood] at HBYT
                        have HS2 := Lib.hid (F.read_err (c := 10) hsz)
                        clear hsz hgood
                        generalize F.kind d = kd at *
                        generalize F.pay d = pd at *
                        go_wp2_with (first
                          | (go_at_call 25; (with_reducible refine (hget _ HSO.out.below).mono ?_); rintro e w1 ⟨rfl, n1, rfl⟩; have hS1 := HSO.out.later (below_drewN (Below.refl _ _) n1); have hk3 := HC3.out _ hS1.below)
                          | (go_at_call 11; (with_reducible refine (HPUT.out _ hS1.below).mono ?_); rintro e w2 ⟨A2, C2, rfl, hr2, hb2⟩; have hS2 := hS1.later hb2)
                          | (go_at_call 12; (with_reducible refine (HBYT.out _ _ _ hS2.below hr2).mono ?_); rintro e w3 ⟨rfl, n3, rfl⟩; have hS3 := hS2.later (below_drewN (Below.refl _ _) n3)))
                        go_ret3
                        exact hS3.ends (l := 0) (by rw [HD.out]; exact HS2.out) rfl
end Go.Proofs.Ytdnijiehfokagaa
