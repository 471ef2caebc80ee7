/- What the walks of layer 12's laws share: great, records in boxes, sizes of what cast comes to; more of cast's mathematics. -/
import Derived.Test.YtibjjclfonpibaaMh50Cast
import Derived.Test.YtibjjclfonpibaaMh12Cast
set_option linter.unusedVariables false
set_option linter.unusedSimpArgs false
set_option maxRecDepth 100000
namespace Go.Proofs.Ytibjjclfonpibaa
open Go.RowKit Go.Shelf
/-- a record in a box -/
def HasRec (W : World) (b : Nat) (r : RecM) : Prop := ∃ a c, W.heap[b]? = some (.cells #[.int .i64 r.v, .slice a r.s.length c] 28 (0, 0)) ∧ PRow W a c r.s
theorem hasRec_below {W W' : World} {b : Nat} {r : RecM} (h : HasRec W b r) (hb : Below W.heap.size W W') : HasRec W' b r := by
  obtain ⟨a, c, h1, h2⟩ := h
  exact ⟨a, c, (hb.block _ (Array.getElem?_eq_some_iff.1 h1).1).trans h1, pRow_below hb h2⟩
theorem hasRec_new {W : World} {r : RecM} {a : Option Addr} {c : Nat} (h : PRow W a c r.s) : HasRec (W.alloc (.cells #[.int .i64 r.v, .slice a r.s.length c] 28)) W.heap.size r :=
  ⟨a, c, heap_self9 W _, pRow_below (caNew W _) h⟩
/-- a template in a box -/
def HasT (W : World) (b : Nat) (t : TemplM) (sa : Option Addr) (sc : Nat) (ta : Option Addr) (tc : Nat) : Prop := W.heap[b]? = some (.cells #[.string t.nm, .slice sa t.slots.length sc, .slice ta t.steps.length tc] 25 (0, 0)) ∧ IsTempl W t (.agg #[.string t.nm, .slice sa t.slots.length sc, .slice ta t.steps.length tc])
theorem hasT_below {W W' : World} {b : Nat} {t : TemplM} {sa : Option Addr} {sc : Nat} {ta : Option Addr} {tc : Nat} (h : HasT W b t sa sc ta tc) (hb : Below W.heap.size W W') : HasT W' b t sa sc ta tc :=
  ⟨(hb.block _ (Array.getElem?_eq_some_iff.1 h.1).1).trans h.1, isTempl_below hb h.2⟩
/-- small enough for every call -/
def RecOk (r : RecM) : Prop := I64 r.v ∧ (∀ v ∈ r.s, szV v ≤ 1000000) ∧ r.s.length ≤ 100000
theorem castM_ok {t : TemplM} {r : RecM} {v : Int} {on : Bool} (hv : I64 v) : RecOk (Ca.castM t r v on).1 := by
  by_cases h : (Ca.castM t r v on).2 = 0
  · obtain ⟨x, y, _, _, _, hy, e⟩ := Ca.cast_ok h
    rw [e]
    have hf := Ca.turnL_fit (Ca.verOf_df hy) r.s
    refine ⟨hv, fun u hu => right_sz (Rc.fitL_right hf u hu), ?_⟩
    show (Ca.turnL y.slots r.s).length ≤ 100000
    rw [Ca.turnL_length]
    have := (verOf_ok hy).num
    omega
  · rw [Ca.cast_no h]
    exact ⟨by unfold I64; simp, by simp, by simp⟩
theorem i64_last (t : TemplM) : I64 (lastN t : Int) := by have := lastN_le t; unfold I64; omega
set_option maxHeartbeats 4000000 in
theorem caGreat_any (t : TemplM) (r : RecM) (w : World) (X : Value) (b : Option Addr) (d : Nat) (hi : IsTempl w t X) (hr : PRow w b d r.s) :
    Calls Try.prog 5 #[X, .agg #[.int .i64 r.v, .slice b r.s.length d]] w fun e w' => e = .returned (.bool (greatT t || greatL r.s)) ∧ Below w.heap.size w w' := by
  have h0 := hi
  obtain ⟨h1, sa, sc, ta, tc, rfl, hsl, hst⟩ := hi
  obtain ⟨rv, l⟩ := r
  simp only at hr ⊢
  obtain ⟨n, hn⟩ : ∃ n, l.length = n := ⟨_, rfl⟩
  have hb2 := below2 w (.cells #[.string t.nm, .slice sa t.slots.length sc, .slice ta t.steps.length tc] 25) (.cells #[.int .i64 rv, .slice b n d] 28)
  have h1' := two_heap w (.cells #[.string t.nm, .slice sa t.slots.length sc, .slice ta t.steps.length tc] 25) (.cells #[.int .i64 rv, .slice b n d] 28)
  have hG := fun (W : World) (hb : Below w.heap.size w W) => refGreat10_any t W _ (isTempl_below hb h0)
  have hL := fun (W : World) (hb : Below w.heap.size w W) => refGreat11_any b d l W (pRow_below hb hr)
  rw [hn] at hL ⊢
  obtain ⟨g1, hg1⟩ : ∃ g, greatT t = g := ⟨_, rfl⟩
  obtain ⟨g2, hg2⟩ : ∃ g, greatL l = g := ⟨_, rfl⟩
  rw [hg1] at hG ⊢
  rw [hg2] at hL ⊢
  have HG := Lib.hid hG; have HL := Lib.hid hL; have HB2 := Lib.hid hb2
  clear hG hL hb2 hg1 hg2 hn h0 hr hsl hst h1
  cases g1 with
  | true =>
    go_enter Try.func5, Try.ntmps5
    go_wp2_with (first
      | (go_at_call 14; (with_reducible refine (HG.out _ HB2.out).mono ?_); rintro e w1 ⟨rfl, hB1⟩))
    go_ret
    exact ⟨rfl, HB2.out.trans (hB1.mono HB2.out.size)⟩
  | false =>
    go_enter Try.func5, Try.ntmps5
    go_wp2_with (first
      | (go_at_call 14; (with_reducible refine (HG.out _ HB2.out).mono ?_); rintro e w1 ⟨rfl, hB1⟩; have hw1 := HB2.out.trans (hB1.mono HB2.out.size); have hR := (hB1.block _ (Array.getElem?_eq_some_iff.1 h1').1).trans h1'; obtain ⟨f0, f1, f2, f3⟩ := two_all hR)
      | (go_at_call 15; (with_reducible refine (HL.out _ hw1).mono ?_); rintro e w2 ⟨rfl, hB2⟩))
    go_ret
    exact ⟨rfl, hw1.trans (hB2.mono hw1.size)⟩
namespace Ca
/-- once more to the same version -/
theorem up_same {t : TemplM} {r : RecM} {v : Int} (h : (upM t r v).2 = 0) : upM t (upM t r v).1 v = upM t r v := by
  obtain ⟨x, y, hx, hf, ho, hy, e⟩ := cast_ok h
  rw [show upM t r v = _ from e]
  unfold upM castM
  have hfy := turnL_fit (verOf_df hy) r.s
  rw [verR_mk (r := ⟨v, turnL y.slots r.s⟩) hy hfy, hy, show decide (v ≤ v) = true by simp]
  simp only
  rw [turnL_same hfy]
/-- up by way of a version between -/
theorem up_way {t : TemplM} {r : RecM} {v u : Int} (h : (upM t r v).2 = 0) (k : (upM t r u).2 = 0) (hvu : v ≤ u) : upM t (upM t r v).1 u = upM t r u := by
  obtain ⟨x, y, hx, hf, ho, hy, e⟩ := cast_ok h
  obtain ⟨x2, z, hx2, hf2, ho2, hz, e2⟩ := cast_ok k
  have hle : r.v ≤ v := by simpa using ho
  rw [show upM t r v = _ from e, show upM t r u = _ from e2]
  unfold upM castM
  rw [verR_mk (r := ⟨v, turnL y.slots r.s⟩) hy (turnL_fit (verOf_df hy) _), hz, show decide (v ≤ u) = true by simpa using hvu]
  simp only
  rw [turnL_up hf (verOf_grows hle hx hy) (verOf_grows hvu hy hz) (verOf_df hz)]
theorem up_le_last {t : TemplM} {r : RecM} {v : Int} (h : (upM t r v).2 = 0) : v ≤ (lastN t : Int) := by
  obtain ⟨x, y, hx, hf, ho, hy, e⟩ := cast_ok h
  obtain ⟨L, n, h1, h2, h3⟩ := verOf_at hy
  have := (List.getElem?_eq_some_iff.1 h2).1
  unfold lastN
  rw [h1]
  simp only
  omega
theorem up_v {t : TemplM} {r : RecM} {v : Int} (h : (upM t r v).2 = 0) : (upM t r v).1.v = v := by
  obtain ⟨x, y, hx, hf, ho, hy, e⟩ := cast_ok h
  rw [show upM t r v = _ from e]
theorem last_steps {t : TemplM} {r : RecM} {v : Int} (h : (upM t r v).2 = 0) : lastN t = t.steps.length + 1 ∧ t.steps.length ≤ 8 := by
  obtain ⟨x, y, hx, hf, ho, hy, e⟩ := cast_ok h
  obtain ⟨L, n, h1, h2, h3⟩ := verOf_at hy
  have := Sc.vers_length h1
  unfold lastN
  rw [h1]
  exact this
theorem cast_nil {t : TemplM} {r : RecM} {v : Int} {on : Bool} (h : (castM t r v on).2 ≠ 0) : (castM t r v on).1.s.length = 0 ∧ (castM t r v on).1.v = 0 := by
  rw [cast_no h]; exact ⟨rfl, rfl⟩
end Ca
end Go.Proofs.Ytibjjclfonpibaa
