/- Reading JSON: an Obj's part whose name was there. -/
import Derived.Test.YtpiajoffddjjfaaGreatDoorJrO1q
import Derived.Maps.AppendAt
import Derived.OwnWalkIn
set_option linter.unusedVariables false
namespace Go.Proofs.YtpiajoffddjjfaaGreatDoor
open Go.RowKit Go.Shelf
theorem okT_str {t : K.Tok} (h : Js.okT t = true) : J64 t.n ∧ (∀ x ∈ t.s, 0 ≤ x ∧ x ≤ 255) ∧ (strOfNums t.s).size ≤ 100000 := by
  unfold Js.okT at h
  simp only [Bool.and_eq_true, decide_eq_true_eq, List.all_eq_true] at h
  obtain ⟨⟨⟨h1, h2⟩, h3⟩, h4⟩ := h
  refine ⟨⟨h1, h2⟩, fun x hx => h4 x hx, ?_⟩
  rw [show (strOfNums t.s).size = t.s.length by simp [strOfNums, ByteArray.size]]
  exact h3
theorem keepT_set {A C : World} {b n : Nat} {hs : List ByteArray} (h : NSet A b n hs) (hg : A.grownBy C (some b)) : KeepT A C := keepT_grown hg (fun b' cs f e hb => nset_ne h hb (by cases e; rfl))
set_option maxRecDepth 100000 in
set_option maxHeartbeats 4000000 in
theorem object1_twice (s : ByteArray) (room B p rb bx sb sv : Nat) (t : K.Tok) (q : Nat) (acc : Js.OSt) (w0 W : World) (hok : Js.okT t = true) (hk : t.kind = 7) (hl : acc.1.length ≤ 100000) (htw : hasN acc.1 (strOfNums t.s) = true)
    (h : OStt B p rb bx sb sv acc W) (hps : p ≠ sv) (hsv : w0.heap.size ≤ sv) (hG : w0.grownBy W (some p)) :
    Calls Tryz.prog 45 #[tokV t, .pointer (some ⟨sb, 0, none⟩), .pointer (some ⟨rb, 0, none⟩), .pointer (some ⟨bx, 0, none⟩)] W fun e w' => PaR (OStt B p rb bx sb sv) p s room w0 (.inl (t.a, 6)) e w' ∧ KeepT W w' := by
  obtain ⟨hJ, hB, hsz⟩ := okT_str hok
  have hM : ∀ W, Calls Tryz.prog 27 #[tokV t, .int .i64 7] W fun e w' => (∃ v, e = .returned v) ∧ Below W.heap.size W w' := fun W => (must_any t 7 W).mono fun e w' h => ⟨by have h1 := h.1; rwa [if_pos hk] at h1, h.2⟩
  clear hok hk
  obtain ⟨tk, ta, te, ts, tn⟩ := t
  simp only [tokV, tokC] at hM hB hsz htw ⊢
  obtain ⟨hbr, hbs, ⟨hs, hN, hhs⟩, h8, h9, na, nc, a, c, cs, hx, hn, hown, hel⟩ := h
  rw [← hhs] at htw
  have hA1 := (Below.refl _ W).alloc (Nat.le_refl _) (.cells #[.int .i64 tk, .int .i64 ta, .int .i64 te, .string (strOfNums ts), .int .i64 tn] 60)
  have hz1 := tok_cells (W := W) tk ta te tn ts
  obtain ⟨⟨t0, t1, t2, t3, t4⟩, _⟩ := box5 hz1
  go_enter Tryz.func45, Tryz.ntmps45
  go_wp2_with (first
    | (go_at_call 27; (with_reducible refine (hM _).mono ?_); rintro e w2 ⟨⟨u, rfl⟩, hB2⟩; have hC2 := hA1.trans (hB2.mono hA1.size); have hz2 := gat_below hB2 hz1; obtain ⟨⟨a0, a1, a2, a3, a4⟩, _⟩ := box5 hz2; have s2 := (show Boxed w2 sb _ _ from (hC2.block sb hbs.lt).trans hbs).cell)
    | (go_at_call 23; (with_reducible refine (nameAdd_any sv acc.1.length hs _ _ (nset_below hN hC2) (by omega) (by unfold maxLen; omega)).mono ?_); rintro e w3 ⟨rfl, hN3, hg3⟩; rw [htw]; have hz3 : GAt w3 W.heap.size _ := (hg3.block _ (gat_lt hz2) (fun e => by have := nset_lt hN; cases e; omega)).trans hz2; obtain ⟨⟨b0, b1, b2, b3, b4⟩, _⟩ := box5 hz3))
  exact ⟨rfl, ⟨rfl, grownJ_then (grownJ_then hG (grownJ_of_below hC2 none) (fun b e => by cases e)) hg3 (fun b e => .inl (by cases e; exact hsv))⟩, keepT_trans (keepT_below hC2) (keepT_set (nset_below hN hC2) hg3)⟩
end Go.Proofs.YtpiajoffddjjfaaGreatDoor

/- Reading JSON: an Obj's part, what stands ahead of its last region (no walk). -/
set_option linter.unusedVariables false
namespace Go.Proofs.YtpiajoffddjjfaaGreatDoor
open Go.RowKit Go.Shelf
theorem info_str : (Tryz.prog.info? 9).map (fun i => (i.zero, i.size, i.bytes)) = some (some (.string ⟨#[]⟩), 1, 16) := by kernel_rfl
theorem cellsJ1 (W : World) (v : Value) (t : TypeId) : Cells (W.alloc (.cells #[v] t)) 1 (some ⟨W.heap.size, 0, none⟩) 1 [v] := ⟨rfl, .inr ⟨_, rfl, cells_new W [v] t⟩⟩
theorem err_set {w w' : World} {sv n : Nat} {hs : List ByteArray} (hE : Err w) (hN : NSet w sv n hs) (hg : w.grownBy w' (some sv)) : Err w' := err_grownJ hE hg (fun e => by
  obtain ⟨ev, h1, h2⟩ := hE
  obtain ⟨D, ⟨es, clock, hk9, _⟩, _⟩ := hN
  injection e with e
  rw [e] at h1
  simp [World.cell?, hk9] at h1)
theorem keepT_ownS {A C : World} {B m : Nat} {u : Value} {xs : List Value} (h : A.ownsRow B 9 1 u m xs) (hg : A.grownBy C u.ownBlock) : KeepT A C := keepT_grown hg (fun b cs f e hb => by
  obtain ⟨_, _, cs', hc⟩ := own_blkJ h b e
  rw [hb] at hc
  injection hc with hc
  injection hc with _ hc _
  exact absurd hc (by decide))
theorem keepT_rj {A C : World} {p : Nat} {s : ByteArray} {q room : Nat} (h : RJ A p s q room) (hg : A.grownBy C (some p)) : KeepT A C := keepT_grown hg (fun b cs f e hb => by
  cases e
  have h' : A.heap[p]? = some (.cells #[.string s, .int .i64 (q : Int), .int .i64 (room : Int)] 47 (0, 0)) := h
  rw [h'] at hb
  injection hb with hb
  injection hb with _ hb _
  exact absurd hb (by decide))
theorem o1_k5 {W w2 w3 w4 w5 : World} {sv p : Nat} (hC2 : Below W.heap.size W w2) (hg3 : w2.grownBy w3 (some sv)) (hg4 : w3.grownBy w4 (some p)) (hB5 : Below w4.heap.size w4 w5) : ∀ b, b < W.heap.size → b ≠ sv → b ≠ p → w5.heap[b]? = W.heap[b]? := fun b b1 b2 b3 => by
  have hs1 := hC2.size
  have hs3 := hg3.size
  have hs4 := hg4.size
  rw [hB5.block b (by omega), hg4.block b (by omega) (fun e => b3 (by cases e; rfl)), hg3.block b (by omega) (fun e => b2 (by cases e; rfl)), hC2.block b b1]
/-- an Obj's state ahead of the last region, its names one ahead of its things -/
structure OMid (s : ByteArray) (room B p rb bx sb sv : Nat) (ns : List ByteArray) (hs : List ByteArray) (x3 : Value) (ys : List JV) (a : Option Addr) (c : Nat) (cs : List Value) (q1 : Nat) (w0 W F : World) : Prop where
  hr : RJ F p s q1 room
  hbr : Boxed F rb 45 (.pointer (some ⟨p, 0, none⟩))
  hbs : Boxed F sb 55 (.map (some sv))
  hN : NSet F sv ns.length hs
  hx : JAt F bx #[.int .i64 6, .int .i64 0, .string ⟨#[]⟩, x3, .slice a ys.length c]
  hn : F.ownsRow B 9 1 x3 ns.length (ns.map Value.string)
  hown : F.ownsRow B 25 5 (.slice a ys.length c) ys.length cs
  hel : JEl2 B F (fun g => (Value.slice a ys.length c).ownBlock = some g ∨ x3.ownBlock = some g) ys cs
  hG : w0.grownBy F (some p)
  hBF : B ≤ F.heap.size
  hT : KeepT W F
theorem o1_mid {s : ByteArray} {room B p rb bx sb sv q q1 g c6 nc c : Nat} {ns hs : List ByteArray} {nm : ByteArray} {ys : List JV} {na a : Option Addr} {cs : List Value} {w0 W w2 w3 w4 w5 w6 : World} {o : Obj}
    (hbr : Boxed W rb 45 (.pointer (some ⟨p, 0, none⟩))) (hbs : Boxed W sb 55 (.map (some sv))) (hN : NSet W sv ns.length hs)
    (hx : JAt W bx #[.int .i64 6, .int .i64 0, .string ⟨#[]⟩, .slice na ns.length nc, .slice a ys.length c]) (hn : W.ownsRow B 9 1 (.slice na ns.length nc) ns.length (ns.map Value.string)) (hown : W.ownsRow B 25 5 (.slice a ys.length c) ys.length cs)
    (hel : JEl2 B W (fun g => (Value.slice a ys.length c).ownBlock = some g ∨ (Value.slice na ns.length nc).ownBlock = some g) ys cs)
    (hr : RJ W p s q room) (hp : p < rb) (hrb : rb < B) (hbx : bx < B) (hpx : p ≠ bx) (hrx : rb ≠ bx) (hpsb : p ≠ sb) (hps : p ≠ sv) (hsb : sb < B) (hsbx : sb ≠ bx) (hsvB : sv < B) (hBW : B ≤ W.heap.size) (hsv : w0.heap.size ≤ sv) (hxb : w0.heap.size ≤ bx) (hG : w0.grownBy W (some p))
    (hC2 : Below W.heap.size W w2) (hg3 : w2.grownBy w3 (some sv)) (hN3 : NSet w3 sv (ns.length + 1) (nm :: hs)) (hr3 : RJ w3 p s q room) (hg4 : w3.grownBy w4 (some p)) (hr4 : RJ w4 p s q1 room) (hB5 : Below w4.heap.size w4 w5)
    (hgr6 : (w5.alloc o).grownBy w6 (Value.slice na ns.length nc).ownBlock) (hown6 : w6.ownsRow B 9 1 (.slice (some ⟨g, 0, none⟩) (ns.length + 1) c6) (ns.length + 1) (ns.map Value.string ++ [.string nm]))
    (hat6 : (Value.slice (some ⟨g, 0, none⟩) (ns.length + 1) c6).ownBlock = (Value.slice na ns.length nc).ownBlock ∨ (Value.slice (some ⟨g, 0, none⟩) (ns.length + 1) c6).ownBlock = some (w5.alloc o).heap.size) :
    OMid s room B p rb bx sb sv (ns ++ [nm]) (nm :: hs) (.slice (some ⟨g, 0, none⟩) (ns.length + 1) c6) ys a c cs q1 w0 W (w6.setCell ⟨bx, 3, none⟩ (.slice (some ⟨g, 0, none⟩) (ns.length + 1) c6)) := by
  have hub := fun b e => (own_blkJ hn b e)
  have hvb := fun b e => (own_blkJ hown b e)
  have hs1 := hC2.size
  have hs3 := hg3.size
  have hs4 := hg4.size
  have hs5 := hB5.size
  have hs6 := hgr6.size
  have hsa : (w5.alloc o).heap.size = w5.heap.size + 1 := World.size_alloc _ _
  have hA6 := (Below.refl _ w5).alloc (Nat.le_refl _) o
  have hgF := grownJ_set w6 bx 3 (.slice (some ⟨g, 0, none⟩) (ns.length + 1) c6)
  have hnO : ∀ b, b < B → some b ≠ (Value.slice na ns.length nc).ownBlock := fun b hb e => by have := (hub b e.symm).2.1; omega
  have k5 : ∀ b, b < W.heap.size → b ≠ sv → b ≠ p → (w5.alloc o).heap[b]? = W.heap[b]? := fun b b1 b2 b3 => by
    rw [hA6.block b (by omega), hB5.block b (by omega), hg4.block b (by omega) (fun e => b3 (by cases e; rfl)), hg3.block b (by omega) (fun e => b2 (by cases e; rfl)), hC2.block b b1]
  have k6 : ∀ b, b < W.heap.size → b ≠ sv → b ≠ p → some b ≠ (Value.slice na ns.length nc).ownBlock → w6.heap[b]? = W.heap[b]? := fun b b1 b2 b3 b4 => by
    rw [hgr6.block b (by omega) b4, k5 b b1 b2 b3]
  have kF : ∀ b, b < W.heap.size → b ≠ sv → b ≠ p → b ≠ bx → some b ≠ (Value.slice na ns.length nc).ownBlock → (w6.setCell ⟨bx, 3, none⟩ (.slice (some ⟨g, 0, none⟩) (ns.length + 1) c6)).heap[b]? = W.heap[b]? := fun b b1 b2 b3 b4 b5 => by
    rw [heap_set9 _ _ _ _ b b4, k6 b b1 b2 b3 b5]
  have hx6 : JAt w6 bx _ := (k6 bx (jat_lt hx) (fun e => nset_ne hN hx e.symm) (fun e => hpx e.symm) (hnO bx hbx)).trans hx
  have hR6 : RJ w6 p s q1 room := rj_kept (rj_below (rj_below hr4 hB5) hA6) hgr6 (hnO p (by omega))
  have hN6 : NSet w6 sv (ns.length + 1) (nm :: hs) := nset_kept (nset_below (nset_below (nset_kept hN3 hg4 (fun e => hps (by cases e; rfl))) hB5) hA6) hgr6 (hnO sv hsvB)
  have hk5n : (w5.alloc o).ownsRow B 9 1 (.slice na ns.length nc) ns.length (ns.map Value.string) := own_keptJ hn (fun b b1 b2 _ => k5 b b2 (by omega) (by omega))
  have hla : (ns ++ [nm]).length = ns.length + 1 := by simp
  have hvn : ∀ b, (Value.slice a ys.length c).ownBlock = some b → some b ≠ (Value.slice na ns.length nc).ownBlock := fun b e e2 => by
    obtain ⟨_, _, c1, h1⟩ := hub b e2.symm
    obtain ⟨_, _, c2, h2⟩ := hvb b e
    rw [h1] at h2
    injection h2 with h2
    injection h2 with _ h2 _
    exact absurd h2 (by decide)
  refine ⟨(heap_set9 _ _ _ _ p hpx).trans hR6, (kF rb hbr.lt (fun e => nset_ne hN hbr e.symm) (by omega) hrx (hnO rb hrb)).trans hbr, (kF sb hbs.lt (fun e => nset_ne hN hbs e.symm) (fun e => hpsb e.symm) hsbx (hnO sb hsb)).trans hbs, ?_, jat_set hx6 3 _, ?_, ?_, ?_, ?_, ?_, ?_⟩
  · rw [hla]
    exact nset_kept hN6 hgF (fun e => nset_ne hN hx (by cases e; rfl))
  · rw [hla, List.map_append]
    exact ownsRow_setCell_below (a := ⟨bx, 3, none⟩) hown6 hbx _
  · exact own_keptJ hown (fun b b1 b2 e => kF b b2 (by omega) (by omega) (by omega) (hvn b e))
  · refine jel2_keep hel (by simp; omega) (fun b b1 b2 _ hnG => kF b b2 (by omega) (by omega) (by omega) (fun e => hnG (.inr e.symm))) (fun g' h => ?_)
    rcases h with h | h
    · exact .inl (.inl h)
    · rcases hat6 with e | e
      · exact .inl (.inr (by rw [← e]; exact h))
      · rw [e] at h
        simp only [Option.some.injEq] at h
        exact .inr (by omega)
  · have g2 := grownJ_then hG (grownJ_of_below hC2 none) (fun b e => by cases e)
    have g3 := grownJ_then g2 hg3 (fun b e => .inl (by cases e; exact hsv))
    have g4 := grownJ_then g3 hg4 (fun b e => .inr e)
    have g5 := grownJ_then g4 (grownJ_of_below hB5 none) (fun b e => by cases e)
    have g6 := grownJ_then g5 (grownJ_of_below hA6 none) (fun b e => by cases e)
    have g7 := grownJ_then g6 hgr6 (fun b e => .inl (by have := (hub b e).2.1; omega))
    exact grownJ_then g7 hgF (fun b e => .inl (by cases e; exact hxb))
  · simp; omega
  · exact keepT_trans (keepT_below hC2) (keepT_trans (keepT_set (nset_below hN hC2) hg3) (keepT_trans (keepT_rj hr3 hg4) (keepT_trans (keepT_below hB5) (keepT_trans (keepT_below hA6) (keepT_trans (keepT_ownS hk5n hgr6) (keepT_cells (cs0 := _) (t := 25) (f0 := (0, 0)) hx6 (by decide) _))))))
end Go.Proofs.YtpiajoffddjjfaaGreatDoor

/- Reading JSON: an Obj's part, its end (no walk). -/
set_option linter.unusedVariables false
namespace Go.Proofs.YtpiajoffddjjfaaGreatDoor
open Go.RowKit Go.Shelf
theorem nset_eq {w w' : World} {b n : Nat} {hs : List ByteArray} (h : NSet w b n hs) (e : w'.heap[b]? = w.heap[b]?) : NSet w' b n hs := by
  obtain ⟨D, ⟨es, clock, hk, h3⟩, h2⟩ := h
  exact ⟨D, ⟨es, clock, e.trans hk, h3⟩, h2⟩
theorem hasN_push {ns hs : List ByteArray} {nm : ByteArray} (h : ∀ t, hasN hs t = hasN ns t) : ∀ t, hasN (nm :: hs) t = hasN (ns ++ [nm]) t := fun t => by
  have := h t
  unfold hasN at this ⊢
  simp only [List.any_cons, List.any_append, List.any_nil, Bool.or_false, this]
  exact Bool.or_comm _ _
theorem o1_fin {s : ByteArray} {room B p rb bx sb sv q' q1 : Nat} {ns hs : List ByteArray} {nm : ByteArray} {x3 : Value} {ys : List JV} {a : Option Addr} {c : Nat} {cs : List Value} {v : JV} {w0 W W1 w4 V w6 F : World} {d0 d1 d2 d3 d4 z0 z1 z2 z3 z4 : Value} {g6 c6 : Nat} {cs0 : Array Value} {u : Value}
    (hFF : F = F1 w6 g6 bx ys.length c6 d0 d1 d2 d3 d4 ∨ F = F2 w6 g6 bx ys.length c6 d0 d1 d2 d3 d4) (M : OMid s room B p rb bx sb sv (ns ++ [nm]) (nm :: hs) x3 ys a c cs q1 w0 W W1) (hx3 : Hid (∃ na nc, x3 = .slice na (ns ++ [nm]).length nc)) (hhs : ∀ t, hasN hs t = hasN ns t) (h8 : ∀ t ∈ ns, t.size ≤ maxLen) (hnm : nm.size ≤ 100000) (h9 : Hid (ns.length = ys.length))
    (hp : p < rb) (hrb : rb < B) (hbx : bx < B) (hpx : p ≠ bx) (hrx : rb ≠ bx) (hpsb : p ≠ sb) (hps : p ≠ sv) (hsb : sb < B) (hsbx : sb ≠ bx) (hsvB : sv < B) (hxb : w0.heap.size ≤ bx)
    (hF4 : FreshJ W1.heap.size w4 v (.agg #[d0, d1, d2, d3, d4])) (hx4 : JAt w4 bx #[.int .i64 6, .int .i64 0, .string ⟨#[]⟩, x3, .slice a ys.length c]) (hR4 : RJ w4 p s q' room) (hb4 : Boxed w4 rb 45 (.pointer (some ⟨p, 0, none⟩))) (hg4 : W1.grownBy w4 (some p))
    (hV : Below w4.heap.size w4 V) (hownV : V.ownsRow B 25 5 (.slice a ys.length c) ys.length cs) (hg6 : V.grownBy w6 (Value.slice a ys.length c).ownBlock) (hown6 : w6.ownsRow B 25 5 (.slice (some ⟨g6, 0, none⟩) (ys.length + 1) c6) (ys.length + 1) (cs ++ [z0, z1, z2, z3, z4]))
    (hv : (Value.slice (some ⟨g6, 0, none⟩) (ys.length + 1) c6).ownBlock = (Value.slice a ys.length c).ownBlock ∨ (Value.slice (some ⟨g6, 0, none⟩) (ys.length + 1) c6).ownBlock = some V.heap.size) (hx6 : JAt w6 bx cs0) :
    PaR (OStt B p rb bx sb sv) p s room w0 (.inr ((ns ++ [nm], ys ++ [v]), q')) (.returned u) F ∧ KeepT W F := by
  have hvb := fun b e => own_blkJ M.hown b e
  have hnbk := fun b e => own_blkJ M.hn b e
  obtain ⟨⟨z1, z2, z3, z4⟩, z5, z6, z7⟩ := l1_end2 (G := fun g => (Value.slice a ys.length c).ownBlock = some g ∨ x3.ownBlock = some g) (G' := fun g => (Value.slice (some ⟨g6, 0, none⟩) (ys ++ [v]).length c6).ownBlock = some g ∨ x3.ownBlock = some g) (v := v) hFF M.hown M.hel (fun g h => .inl h) (fun g h => by
      rcases h with h | h
      · exact (hvb g h).1
      · exact (hnbk g h).1) (fun g h => by
      rcases h with h | h
      · exact .inr (by cases h; rfl)
      · exact .inl (.inr h)) hp hrb hbx hpx hrx M.hBF hxb M.hG hF4 hx4 hR4 hb4 hg4 hV hg6 hown6 hv
  have hnO : ∀ b, b < B → some b ≠ (Value.slice a ys.length c).ownBlock := fun b hb e => by have := (hvb b e.symm).2.1; omega
  have hBF := M.hBF
  obtain ⟨na, nc, rfl⟩ := hx3.out
  refine ⟨⟨⟨_, rfl⟩, ⟨z1, (z7 sb (by omega) (fun e => hpsb e.symm) hsbx (hnO sb hsb)).trans M.hbs, ⟨nm :: hs, nset_eq M.hN (z7 sv (by omega) (fun e => hps e.symm) (fun e => nset_ne M.hN M.hx e) (hnO sv hsvB)), hasN_push hhs⟩, ?_, ?_, na, nc, _, c6, _, z2, own_keptJ M.hn (fun b b1 b2 e => z7 b b2 (by omega) (by omega) (fun e2 => ?_)), z3, z4⟩, z5, z6⟩, keepT_trans M.hT (l1_keep hFF M.hr hg4 hV hownV hg6 hown6 hx6 hbx)⟩
  · intro t ht
    rcases List.mem_append.1 ht with h | h
    · exact h8 t h
    · simp only [List.mem_singleton] at h
      subst h
      unfold maxLen; omega
  · simp [h9.out]
  · obtain ⟨_, _, c1, h1⟩ := hnbk b e
    obtain ⟨_, _, c2, h2⟩ := hvb b e2.symm
    rw [h1] at h2
    injection h2 with h2
    injection h2 with _ h2 _
    exact absurd h2 (by decide)
end Go.Proofs.YtpiajoffddjjfaaGreatDoor
