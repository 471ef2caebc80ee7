/- The program's records: Fill. (Made by gen_rcl.py.) -/
import Derived.Test.YtibjjclfonpibaaGreatMh36Reco
set_option linter.unusedVariables false
set_option linter.unusedSimpArgs false
set_option maxRecDepth 100000
namespace Go.Proofs.YtibjjclfonpibaaGreat
open Go.RowKit Go.Shelf
namespace Rc
def toldAt (x : Sc.Ver) (names : List ByteArray) (vals : List PV) (i : Nat) : Int := toldE x (names.take i) (names[i]?.getD ⟨#[]⟩) (vals[i]?.getD Sc.nilV)
def wrong (x : Sc.Ver) (names : List ByteArray) (vals : List PV) : Option Int := (List.range names.length).findSome? fun i => if toldAt x names vals i = 0 then none else some (toldAt x names vals i)
def fill (t : TemplM) (v : Int) (names : List ByteArray) (vals : List PV) : List PV × Int := if names.length ≠ vals.length then ([], 1) else match verOf t v with
  | none => ([], if (Sc.vers t).isSome then 7 else 1)
  | some x => match wrong x names vals with
    | some e => ([], e)
    | none => if lacksB x names = true then ([], 9) else (fillL x names vals, 0)
theorem wrong_none {x : Sc.Ver} {names : List ByteArray} {vals : List PV} (h : ∀ j, j < names.length → toldAt x names vals j = 0) : wrong x names vals = none := by
  unfold wrong
  rw [List.findSome?_eq_none_iff]
  intro j hj
  rw [if_pos (h j (List.mem_range.1 hj))]
theorem range_first {β : Type} {f : Nat → Option β} {b : β} : ∀ (n q : Nat), q < n → (∀ j, j < q → f j = none) → f q = some b → (List.range n).findSome? f = some b := by
  intro n
  induction n with
  | zero => intro q h; omega
  | succ n ih =>
    intro q hq h1 h2
    rw [List.range_succ, List.findSome?_append]
    rcases Nat.lt_or_ge q n with h | h
    · rw [ih q h h1 h2]; rfl
    · obtain rfl : q = n := by omega
      have : (List.range q).findSome? f = none := by
        rw [List.findSome?_eq_none_iff]
        intro j hj
        exact h1 j (List.mem_range.1 hj)
      rw [this]
      simp [h2]
theorem wrong_some {x : Sc.Ver} {names : List ByteArray} {vals : List PV} {q : Nat} (hq : q < names.length) (h : ∀ j, j < q → toldAt x names vals j = 0) (hE : toldAt x names vals q ≠ 0) : wrong x names vals = some (toldAt x names vals q) := by
  unfold wrong
  exact range_first _ q hq (fun j hj => if_pos (h j hj)) (if_neg hE)
end Rc
def FillR (w0 : World) (m : List PV × Int) (e : Ending) (w' : World) : Prop := (∃ S, e = .returned (.tuple #[S, .int .i64 m.2]) ∧ (m.2 = 0 → Made w0.heap.size w' m.1 S)) ∧ Below w0.heap.size w0 w'
set_option maxHeartbeats 8000000 in
theorem rFill_any (t : TemplM) (v : Int) (names : List ByteArray) (vals : List PV) (w : World) (X : Value) (na : Option Addr) (nc : Nat) (b : Option Addr) (d : Nat) (hg : greatT t = false) (hI : I64 v) (hi : IsTempl w t X) (hn : NRow w na nc names) (hnm : ∀ s ∈ names, s.size ≤ maxLen) (hr : PRow w b d vals) (hsz : ∀ v ∈ vals, szV v ≤ 1000000) (hsm : ∀ v ∈ vals, small v) (hsv : vals.length ≤ 1000) (hsn : names.length ≤ 100000) :
    Calls Tryz.prog 14 #[X, .int .i64 v, .slice na names.length nc, .slice b vals.length d] w (FillR w (Rc.fill t v names vals)) := by
  have h0 := hi
  obtain ⟨h1, sa, sc, ta, tc, rfl, hsl, hst⟩ := hi
  have hmf : ∀ (fn : Fn) (first cap : Array Value) (w : World), (Instr.makeFunc fn first cap).run Tryz.prog w = .ok (.func fn first cap) w := fun _ _ _ _ => rfl
  have hBT := below3 w (.cells #[.string t.nm, .slice sa t.slots.length sc, .slice ta t.steps.length tc] 25) (.cells #[.slice na names.length nc] 40) (.cells #[.slice b vals.length d] 26)
  by_cases hlen : names.length = vals.length
  · have hA := rAt_any t v _ _ hg hI (isTempl_below hBT h0)
    unfold AtR at hA
    obtain ⟨n, hnn⟩ : ∃ n, names.length = n := ⟨_, rfl⟩
    have hvn : vals.length = n := by rw [← hlen, hnn]
    rw [hnn, hvn] at hBT hA
    have hne : ((n : Int) != (n : Int)) = false := by simp
    cases hx : Rc.verOf t v with
    | none =>
      have hans : Rc.fill t v names vals = ([], if (Sc.vers t).isSome then 7 else 1) := by unfold Rc.fill; rw [if_neg (by simpa using hlen), hx]
      rw [hx] at hA
      rw [hnn, hvn]
      simp only at hA
      obtain ⟨S, hS⟩ : ∃ S, (Sc.vers t).isSome = S := ⟨_, rfl⟩
      rw [hS] at hA hans
      have H := Lib.hid hA; have HX := Lib.hid hans
      clear hA hx h0 hsl hst hI hr hsz hsv hsm hans hS hn hnm hsn hlen hnn hvn
      cases S with
      | true =>
        simp only [if_true] at H HX
        go_enter Tryz.func14, Tryz.ntmps14
        go_wp2_with (first
          | (go_at_call 37; (with_reducible refine H.out.mono ?_); rintro e w1 ⟨⟨sa1, n1, sc1, ca1, m1, cc1, rfl⟩, hB1⟩; have hBw := (hBT.trans (hB1.mono hBT.size)).alloc (Nat.le_trans hBT.size hB1.size) (.cells #[.slice sa1 n1 sc1, .slice ca1 m1 cc1] 67)))
        go_ret2
        rw [HX.out]
        exact ⟨⟨_, rfl, fun h => absurd h (by decide)⟩, hBw⟩
      | false =>
        simp only [Bool.false_eq_true, if_false] at H HX
        go_enter Tryz.func14, Tryz.ntmps14
        go_wp2_with (first
          | (go_at_call 37; (with_reducible refine H.out.mono ?_); rintro e w1 ⟨⟨sa1, n1, sc1, ca1, m1, cc1, rfl⟩, hB1⟩; have hBw := (hBT.trans (hB1.mono hBT.size)).alloc (Nat.le_trans hBT.size hB1.size) (.cells #[.slice sa1 n1 sc1, .slice ca1 m1 cc1] 67)))
        go_ret2
        rw [HX.out]
        exact ⟨⟨_, rfl, fun h => absurd h (by decide)⟩, hBw⟩
    | some x =>
      have hok := verOf_ok hx
      have hans : Rc.fill t v names vals = match Rc.wrong x names vals with
          | some e => ([], e)
          | none => if Rc.lacksB x names = true then ([], 9) else (Rc.fillL x names vals, 0) := by unfold Rc.fill; rw [if_neg (by simpa using hlen), hx]
      rw [hx] at hA
      simp only at hA
      have hT := fun (W2 W : World) sa1 sc1 ca1 cc1 (q : Nat) (nm : ByteArray) (y : PV) (a' : Option Addr) (Y : Value) (hw : Below w.heap.size w W2) (hva : VerAt W2 x sa1 sc1 ca1 cc1) (hb : Below W2.heap.size W2 W) (hq : names[q]? = some nm) (hN : NRow W a' nc (names.take q)) (hy : vals[q]? = some y) (hY : Is W y Y) =>
        told_any x (names.take q) nm y sa1 sc1 ca1 cc1 a' nc Y W hok (verAt_below hva hb) hN (hnm nm (List.mem_of_getElem? hq)) hY (hsz y (List.mem_of_getElem? hy))
      have hT2 : ∀ (W2 W : World) sa1 sc1 ca1 cc1 (q : Nat) (nm : ByteArray) (y : PV) (a' : Option Addr) (Y : Value), Below w.heap.size w W2 → VerAt W2 x sa1 sc1 ca1 cc1 → Below W2.heap.size W2 W → names[q]? = some nm → NRow W a' nc (names.take q) → vals[q]? = some y → Is W y Y →
          Calls Tryz.prog 43 #[.agg #[.slice sa1 x.slots.length sc1, .slice ca1 x.cols.length cc1], .slice a' q nc, .string nm, Y] W fun e w' => e = .returned (.int .i64 (Rc.toldAt x names vals q)) ∧ Below W.heap.size W w' := fun W2 W sa1 sc1 ca1 cc1 q nm y a' Y hw hva hb hq hN hy hY => by
        have h := hT W2 W sa1 sc1 ca1 cc1 q nm y a' Y hw hva hb hq hN hy hY
        rw [List.length_take, Nat.min_eq_left (Nat.le_of_lt (List.getElem?_eq_some_iff.1 hq).1)] at h
        unfold Rc.toldAt
        rw [hq, hy]
        exact h
      have hL := fun (W2 W : World) sa1 sc1 ca1 cc1 (hw : Below w.heap.size w W2) (hva : VerAt W2 x sa1 sc1 ca1 cc1) (hb : Below W2.heap.size W2 W) => lacks_any x names sa1 sc1 ca1 cc1 na nc W hok (verAt_below hva hb) (nRow_below (hw.trans (hb.mono hw.size)) hn)
      have hG := fun (xb : Nat) (sa1 : Option Addr) (sc1 : Nat) (ca1 : Option Addr) (cc1 : Nat) (W2 W3 : World) (hw : Below w.heap.size w W2) (hva : VerAt W2 x sa1 sc1 ca1 cc1) (hb3 : Below W2.heap.size W2 W3) (k0 : W2.cell? ⟨xb, 0, none⟩ = some (.slice sa1 x.slots.length sc1)) (k1 : W2.cell? ⟨w.heap.size + 1, 0, none⟩ = some (.slice na names.length nc)) (k2 : W2.cell? ⟨w.heap.size + 1 + 1, 0, none⟩ = some (.slice b vals.length d)) =>
        gatherI_any ca1 cc1 x.cols (Rc.fillL x names vals) 46 #[.pointer (some ⟨w.heap.size + 1, 0, none⟩), .pointer (some ⟨xb, 0, none⟩), .pointer (some ⟨w.heap.size + 1 + 1, 0, none⟩)] W3 (row_below hva.2 hb3 rfl) (by unfold Rc.fillL; simp) (Nat.le_trans hok.len (by omega)) (fun y hy => by
            unfold Rc.fillL at hy
            obtain ⟨c, hc, rfl⟩ := List.mem_map.1 hy
            have hcl := hok.lt c hc
            unfold Rc.fillV
            cases hix : Rc.ixN names (Sc.slotOf x c).nm with
            | none =>
              simp only
              exact right_small (hok.ok (Sc.slotOf x c) (by unfold Sc.slotOf; rw [List.getElem?_eq_getElem hcl]; exact List.getElem_mem _)).2.2
            | some i =>
              simp only
              have hi : i < vals.length := by
                unfold Rc.ixN at hix
                rw [List.findIdx?_eq_some_iff_getElem] at hix
                obtain ⟨h1, _⟩ := hix
                omega
              rw [List.getElem?_eq_getElem hi]
              exact hsm _ (List.getElem_mem _)) (enters_of Tryz.func46 (by kernel_rfl) rfl)
          (fun i c y W hs hy hb => by
            have h23 := hb3.trans (hb.mono hb3.size)
            exact fill1_any x names vals i c xb (w.heap.size + 1) (w.heap.size + 1 + 1) sa1 sc1 ca1 0 cc1 na nc b d W y (slotRow_below h23 hva.1) (nRow_below (hw.trans (h23.mono hw.size)) hn) (pRow_below (hw.trans (h23.mono hw.size)) hr) hlen (hok.lt c (List.mem_of_getElem? hs)) (Nat.le_trans hok.num (by omega)) (cell_below h23 k0) (cell_below h23 k1) (cell_below h23 k2) (by
              unfold Rc.fillL at hy
              rw [List.getElem?_map, hs] at hy
              simp only [Option.map_some, Option.some.injEq] at hy
              exact hy.symm))
      clear hT
      have hfl : (Rc.fillL x names vals).length = x.cols.length := by unfold Rc.fillL; simp
      have hc8 := hok.len
      obtain ⟨F, hF⟩ : ∃ F, Rc.fill t v names vals = F := ⟨_, rfl⟩
      rw [hF] at hans ⊢
      obtain ⟨sl, hsl9⟩ : ∃ sl, x.slots.length = sl := ⟨_, rfl⟩
      obtain ⟨cl, hcl9⟩ : ∃ cl, x.cols.length = cl := ⟨_, rfl⟩
      rw [hsl9, hcl9] at hA hT2 hL
      rw [hsl9, hcl9, hnn, hvn] at hG
      rw [hnn] at hL
      rw [hnn, hvn]
      have H := Lib.hid hA; have HX := Lib.hid hans; have HT := Lib.hid hT2; have HL := Lib.hid hL; have HG := Lib.hid hG; have HNN := Lib.hid hnn; have HVN := Lib.hid hvn; have HNR := Lib.hid hn; have HPR := Lib.hid hr
      have hn1000 : n ≤ 1000 := by omega
      clear hA hx h0 hsl hst hI hr hsz hsv hsm hans hn hnm hsn hlen hnn hvn hT2 hL hG hok hfl hF hsl9 hcl9 hc8
      go_enter Tryz.func14, Tryz.ntmps14
      go_wp2_with (first
        | (go_at_call 37; (with_reducible refine H.out.mono ?_); rintro e w1 ⟨⟨sa1, sc1, ca1, cc1, rfl, hva⟩, hB1⟩; have hVF := verFresh_later (w1 := w1.alloc (.cells #[.slice sa1 sl sc1, .slice ca1 cl cc1] 67)) hva (by simp) (fun c _ hl => ((Below.refl _ w1).alloc (Nat.le_refl _) _).block c hl); have hva2 := verFresh_at hVF; have h5 := heap3 hB1; have hNb := next_block (o' := .cells #[.slice sa1 sl sc1, .slice ca1 cl cc1] 67) h5.2.1; have hVb := next_block (o' := .cells #[.slice sa1 sl sc1, .slice ca1 cl cc1] 67) h5.2.2; have hBw := (hBT.trans (hB1.mono hBT.size)).alloc (Nat.le_trans hBT.size hB1.size) (.cells #[.slice sa1 sl sc1, .slice ca1 cl cc1] 67); have hXb := heap_self9 w1 (.cells #[.slice sa1 sl sc1, .slice ca1 cl cc1] 67); have n1 := at_heap (i := 0) (v := .slice na n nc) hNb rfl))
      obtain ⟨W2, hW2⟩ : ∃ W2, w1.alloc (.cells #[.slice sa1 sl sc1, .slice ca1 cl cc1] 67) = W2 := ⟨_, rfl⟩
      obtain ⟨xb, hxb⟩ : ∃ xb, w1.heap.size = xb := ⟨_, rfl⟩
      rw [hW2] at hva2 hNb hVb hBw hXb n1 ⊢
      rw [hxb] at hXb ⊢
      clear hW2 hVF hB1 h5 hva hxb
      have x0 := at_heap (i := 0) (v := .slice sa1 sl sc1) hXb rfl
      have x1 := at_heap (i := 1) (v := .slice ca1 cl cc1) hXb rfl
      have v1 := at_heap (i := 0) (v := .slice b n d) hVb rfl
      have HVA := Lib.hid hva2; have HX0 := Lib.hid x0; have HX1 := Lib.hid x1; have HN1 := Lib.hid n1; have HV1 := Lib.hid v1
      clear hNb hVb hXb hva2 x0 x1 v1
      go_loopw [31] (fun i wr => ∃ q : Nat, q ≤ n ∧ i = .int .i64 (q : Int) ∧ Below W2.heap.size W2 wr ∧ Hid (∀ j, j < q → Rc.toldAt x names vals j = 0)) (fun i _ => n - (intOf i).toNat)
      case atStart => exact ⟨0, Nat.zero_le _, rfl, Below.refl _ _, Lib.hid (fun j h => by omega)⟩
      case round =>
        obtain ⟨q, hq, rfl, hbw, HALL⟩ := hrel
        rcases Nat.lt_or_ge q n with hlt | hge
        · have hd : decide ((q : Int) < (n : Int)) = true := by simp; omega
          have hnl := HNN.out
          have hvl := HVN.out
          obtain ⟨nm, hnm⟩ : ∃ nm, names[q]? = some nm := ⟨names[q], List.getElem?_eq_getElem (by omega)⟩
          obtain ⟨y, hy⟩ : ∃ y, vals[q]? = some y := ⟨vals[q], List.getElem?_eq_getElem (by omega)⟩
          have hwr := hBw.trans (hbw.mono hBw.size)
          obtain ⟨a', hsub, hsN⟩ := subN na n nc q (by omega) (by have := HNR.out.1; omega)
          have hNr := HNR.out
          obtain ⟨nb, no, rfl, cn⟩ := nRow_nth (nRow_below hwr HNR.out) hnm
          obtain ⟨pb, po, k, nn, tx, la, ll, lc, rfl, ⟨t0, t1, t2, t3⟩, hIy⟩ := pRow_val (pRow_below hwr HPR.out) hy
          have hT := fun (W : World) (hb : Below wr.heap.size wr W) => HT.out W2 W sa1 sc1 ca1 cc1 q nm y a' _ hBw HVA.out (hbw.trans (hb.mono hbw.size)) hnm (hsN W names hnl (nRow_below (hwr.trans (hb.mono hwr.size)) hNr)) hy (is_below hb _ _ hIy)
          obtain ⟨E, hE⟩ : ∃ E, Rc.toldAt x names vals q = E := ⟨_, rfl⟩
          rw [hE] at hT
          have HFt := Lib.hid hT; have HE := Lib.hid hE
          have HALL2 : E = 0 → ∀ j, j < q + 1 → Rc.toldAt x names vals j = 0 := fun h0 j hj => by
            rcases Nat.lt_or_ge j q with h | h
            · exact HALL.out j h
            · obtain rfl : j = q := by omega
              rw [hE]; exact h0
          have hbad : E ≠ 0 → F = ([], E) := fun h0 => by
            rw [HX.out, Rc.wrong_some (by omega) HALL.out (by rw [hE]; exact h0), hE]
          have HG2 := Lib.hid HALL2; have HBAD := Lib.hid hbad
          have e0 := cell_below hbw HX0.out
          have e1 := cell_below hbw HX1.out
          have e2 := cell_below hbw HN1.out
          have e3 := cell_below hbw HV1.out
          clear hT HALL2 hbad hE hnm hy hNr hsN hIy hnl hvl
          go_wp2
          refine wp_region_quiet (C := fun W => Below wr.heap.size wr W) (by kernel_rfl) (by kernel_rfl) (below_drew wr) ?_
          iterate 11 (first
            | ((with_reducible refine BigFrame.wpQuiet_skip ?_ ?_); (focus rfl); simp only [Act.put, List.setIfInBounds_toArray, List.set_cons_zero, List.set_cons_succ])
            | ((with_reducible refine BigFrame.wpQuiet_want ?_ (fun K hK => ?_))
               focus rfl
               apply quiet_run9
               · intro W hC
                 unfold Oper.quietAt
                 have HC := Lib.hid hC
                 have u0 := cell_below hC e0
                 have u1 := cell_below hC e1
                 have u2 := cell_below hC e2
                 have u3 := cell_below hC e3
                 have p0 := cell_below hC t0
                 have p1 := cell_below hC t1
                 have p2 := cell_below hC t2
                 have p3 := cell_below hC t3
                 clear hC
                 go_simp
                 first
                   | done
                   | with_reducible rfl
                   | ((with_reducible refine (HFt.out _ HC.out).mono ?_); exact fun e w' ⟨he, hb⟩ => ⟨he, HC.out.trans (hb.mono HC.out.size)⟩)
               (with_reducible refine hK _ ?_); clear hK K; simp only [Act.put, List.setIfInBounds_toArray, List.set_cons_zero, List.set_cons_succ]))
          refine wpQuiet_nil ?_
          intro W9 hB9
          (try simp only at hB9)
          by_cases hE0 : E = 0
          · have hA9 := HG2.out hE0
            subst hE0
            have HA9 := Lib.hid hA9
            clear hA9 t0 t1 t2 t3 e0 e1 e2 e3
            go_wp2_with fail
            go_roundw
            case rel => exact ⟨q + 1, by omega, by go_num, hbw.trans (hB9.mono hbw.size), HA9⟩
            case measure => simp [intOf]; omega
          · have hd9 : (E != 0) = true := by simpa using hE0
            have HA9 := Lib.hid (HBAD.out hE0); have HE0 := Lib.hid hE0
            clear hE0 t0 t1 t2 t3 e0 e1 e2 e3
            go_wp2_with fail
            go_ret2
            rw [HA9.out]
            exact ⟨⟨_, rfl, fun h => absurd h HE0.out⟩, hwr.trans (hB9.mono hwr.size)⟩
        · obtain rfl : q = n := by omega
          have hd : decide ((q : Int) < (q : Int)) = false := by simp
          have hwr := hBw.trans (hbw.mono hBw.size)
          have hw0 : Rc.wrong x names vals = none := Rc.wrong_none fun j hj => HALL.out j (by have := HNN.out; omega)
          have hF := HX.out
          rw [hw0] at hF
          simp only at hF
          have hLk := HL.out W2 wr sa1 sc1 ca1 cc1 hBw HVA.out hbw
          obtain ⟨B, hB⟩ : ∃ B, Rc.lacksB x names = B := ⟨_, rfl⟩
          rw [hB] at hLk hF
          have e0 := cell_below hbw HX0.out
          have e1 := cell_below hbw HX1.out
          have e2 := cell_below hbw HN1.out
          have HLk := Lib.hid hLk; have HF := Lib.hid hF
          clear hLk hB hw0 hF
          cases B with
          | true =>
            simp only [if_true] at HF
            go_wp2_with (go_at_call 44; (with_reducible refine HLk.out.mono ?_); rintro e w4 ⟨rfl, hB4⟩)
            go_ret2
            rw [HF.out]
            exact ⟨⟨_, rfl, fun h => absurd h (by decide)⟩, hwr.trans (hB4.mono hwr.size)⟩
          | false =>
            simp only [Bool.false_eq_true, if_false] at HF
            go_wp2_with (first
              | (go_at_call 44; (with_reducible refine HLk.out.mono ?_); rintro e w4 ⟨rfl, hB4⟩; have hb4 := hbw.trans (hB4.mono hbw.size); have z1 := cell_below hb4 HX1.out)
              | (go_at_call 45; (with_reducible refine (HG.out _ _ _ _ _ _ _ hBw HVA.out hb4 HX0.out HN1.out HV1.out).mono ?_); rintro e w5 ⟨⟨S, rfl, hMd⟩, hB5⟩))
            go_ret2
            rw [HF.out]
            have hw4 := hBw.trans (hb4.mono hBw.size)
            exact ⟨⟨_, rfl, fun _ => made_mono hMd hw4.size⟩, hw4.trans (hB5.mono hw4.size)⟩
  · have hans : Rc.fill t v names vals = ([], 1) := by unfold Rc.fill; rw [if_pos hlen]
    have hne : ((names.length : Int) != (vals.length : Int)) = true := by simp only [bne_iff_ne, ne_eq]; omega
    obtain ⟨n, hnn⟩ : ∃ n, names.length = n := ⟨_, rfl⟩
    obtain ⟨m, hmm⟩ : ∃ m, vals.length = m := ⟨_, rfl⟩
    rw [hnn, hmm] at hBT hne ⊢
    have HX := Lib.hid hans
    clear h0 hsl hst hI hr hsz hsv hsm hans hn hnm hsn hlen hnn hmm
    go_enter Tryz.func14, Tryz.ntmps14
    go_wp2
    go_ret2
    rw [HX.out]
    exact ⟨⟨_, rfl, fun h => absurd h (by decide)⟩, hBT⟩
end Go.Proofs.YtibjjclfonpibaaGreat
