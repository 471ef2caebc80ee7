/- The document's layer 7: in, digits, sixteen. -/
import Derived.Test.YtpiajoffddjjfaaGreatDoorMg7Jso
import Derived.Test.YtpiajoffddjjfaaGreatDoorMg27Jso
import Derived.Test.YtpiajoffddjjfaaGreatDoorMg30Jso
namespace Go.Proofs.YtpiajoffddjjfaaGreatDoor
open Go.RowKit Go.Shelf
theorem dg_iff (x : Int) : K.dg.contains x = true ↔ 48 ≤ x ∧ x ≤ 57 := by
  rw [List.contains_iff_mem]
  simp [K.dg]; omega
end Go.Proofs.YtpiajoffddjjfaaGreatDoor

/- Layer 7: the token that begins at a place: its memory, and tokens of one byte. -/
namespace Go.Proofs.YtpiajoffddjjfaaGreatDoor
open Go.RowKit Go.Shelf
/-- what begun tells: the token, or one whose end is where it is wrong -/
def Begun (l : List Int) (p : Nat) (w : World) (e : Ending) (w' : World) : Prop :=
  ∃ t : K.Tok, e = .returned (.tuple #[tokV t, .int .i64 (K.tok l p).2.2]) ∧ ((K.tok l p).2.2 = 0 → t = (K.tok l p).1) ∧ t.e = ((K.tok l p).2.1 : Nat) ∧ Below w.heap.size w w'
theorem token_struct : (match Tryz.prog.underlying 60 with | some (.struct _) => true | some (.array _ _) => true | _ => false) = true := by kernel_rfl
theorem token_info : (Tryz.prog.info? 60).map (·.size) = some 5 := by kernel_rfl
theorem results_begun (tmps : Array Value) (w : World) (g : Nat) (cs : Array Value) (hp : tmps.getD 4 undef = .pointer (some ⟨g, 0, none⟩)) (hg : GAt w g cs) (hs : cs.size = 5) :
    (results Tryz.f46 tmps).run Tryz.prog w = .ok (.tuple #[.agg cs, tmps.getD 5 undef]) w :=
  results_row_tmp Tryz.results46 tmps w g _ cs _ _ hp hg Tryz.underlying60 rfl (by rw [token_info, hs])
theorem K.nb_first (x : Int) (h : x = 45 ∨ K.dg.contains x = true) : K.mk.contains x = false ∧ x ≠ 34 := by
  rw [dg_iff] at h
  constructor
  · cases hc : K.mk.contains x with
    | false => rfl
    | true => rw [List.contains_iff_mem] at hc; simp [K.mk] at hc; omega
  · omega
theorem build_at (a b : Int) (w : World) : (Instr.build 60 #[(1, .int .i64 a), (2, .int .i64 b)]).run Tryz.prog w = .ok (.agg #[.int .i64 0, .int .i64 a, .int .i64 b, .string ⟨#[]⟩, .int .i64 0]) w :=
  run_build w 60 _ _ (by kernel_rfl)
theorem build_zero (w : World) : (Instr.build 60 #[]).run Tryz.prog w = .ok (.agg tzero) w :=
  run_build w 60 _ _ (by kernel_rfl)
set_option maxHeartbeats 4000000 in
set_option maxRecDepth 100000 in
theorem begun_mark (s : ByteArray) (p : Nat) (w : World) (hsm : s.size ≤ 100000) (hlt : p < s.size) (h34 : (s[p].toNat : Int) ≠ 34) (h45 : (s[p].toNat : Int) ≠ 45) (hdg : K.dg.contains (s[p].toNat : Int) = false) (hlet : K.lt.contains (s[p].toNat : Int) = false) :
    Calls Tryz.prog 46 #[.string s, .int .i64 p] w (Begun (strB s) p w) := by
  unfold Begun
  obtain ⟨g, hg⟩ : ∃ g, K.tok (strB s) p = g := ⟨_, rfl⟩
  rw [hg]
  unfold K.tok at hg
  rw [strB_len, if_neg (by omega), strB_at s p hlt, if_neg h34, if_neg (by rintro (h | h); exact h45 h; rw [hdg] at h; cases h), if_neg (by rw [hlet]; exact Bool.false_ne_true)] at hg
  have hbuild := build_at
  have d1 : ((p : Int) == (s.size : Int)) = false := by simp; omega
  have hu := u8_bd s[p]
  have cw1 := fun w => within_any ⟨#[48, 49, 50, 51, 52, 53, 54, 55, 56, 57]⟩ (s[p].toNat : Int) w hu.1 hu.2
  rw [show strB ⟨#[48, 49, 50, 51, 52, 53, 54, 55, 56, 57]⟩ = K.dg by decide] at cw1
  have cw2 := fun w => within_any ⟨#[65, 66, 67, 68, 69, 70, 71, 72, 73, 74, 75, 76, 77, 78, 79, 80, 81, 82, 83, 84, 85, 86, 87, 88, 89, 90, 97, 98, 99, 100, 101, 102, 103, 104, 105, 106, 107, 108, 109, 110, 111, 112, 113, 114, 115, 116, 117, 118, 119, 120, 121, 122]⟩ (s[p].toNat : Int) w hu.1 hu.2
  rw [show strB ⟨#[65, 66, 67, 68, 69, 70, 71, 72, 73, 74, 75, 76, 77, 78, 79, 80, 81, 82, 83, 84, 85, 86, 87, 88, 89, 90, 97, 98, 99, 100, 101, 102, 103, 104, 105, 106, 107, 108, 109, 110, 111, 112, 113, 114, 115, 116, 117, 118, 119, 120, 121, 122]⟩ = K.lt by decide] at cw2
  simp only [hdg] at cw1
  simp only [hlet] at cw2
  have d2 : ((s[p].toNat : Int) == 34) = false := by simpa using h34
  have d3 : ((s[p].toNat : Int) == 45) = false := by simpa using h45
  clear h34 h45 hdg hlet hu
  have HG := Lib.hid hg; clear hg
  go_enter Tryz.func46, Tryz.ntmps46
  go_wp2
  go_step3
  go_wp2
  go_step3
  go_wp2_with (first
    | (go_at_call 50; (with_reducible first | refine (cw1 _).mono ?_ | refine (cw2 _).mono ?_); rintro e w' ⟨rfl, rfl⟩))
  go_loop [22] (fun i => ∃ q : Nat, q ≤ 6 ∧ i = .int .i64 q ∧ Hid (∀ j, j < q → K.mk[j]?.getD 0 ≠ (s[p].toNat : Int))) (fun i => 6 - (intOf i).toNat)
  case atStart => exact ⟨0, Nat.zero_le _, rfl, Lib.hid (fun j h => by omega)⟩
  case round =>
    obtain ⟨q, hq, rfl, HJ⟩ := hrel
    have hq7 : q = 0 ∨ q = 1 ∨ q = 2 ∨ q = 3 ∨ q = 4 ∨ q = 5 ∨ q = 6 := by omega
    rcases hq7 with rfl | rfl | rfl | rfl | rfl | rfl | rfl
    case inr.inr.inr.inr.inr.inr =>
      have hno : ¬ K.mk.contains (s[p].toNat : Int) = true := fun h => by
        rw [List.contains_iff_mem] at h
        obtain ⟨j, hj, he⟩ := List.getElem_of_mem h
        exact HJ.out j hj (by rw [List.getElem?_eq_getElem hj]; exact he)
      have hg := HG.out
      rw [if_neg hno] at hg
      subst hg
      go_wp2
      try rw [Exit.noGoto_ret]
      refine bodyPost_ret (results_begun _ _ w.heap.size _ rfl (gat_old (gat_alloc _ _) _) rfl) rfl ?_
      first
        | exact ⟨⟨0, p, p, [], 0⟩, rfl, (fun h => (by cases h)), rfl, ((Below.refl _ w).alloc (Nat.le_refl _) _).alloc (by simp) _⟩
        | exact ⟨⟨0, p, p, [], 0⟩, rfl, rfl, ((Below.refl _ w).alloc (Nat.le_refl _) _).alloc (by simp) _⟩
    case inl =>
      by_cases hv : (s[p].toNat : Int) = 91
      · have e1 : ((s[p].toNat : Int) == (((ByteArray.mk #[91, 93, 123, 125, 58, 44])[0]'(by decide)).toNat : Int)) = true := (show ((s[p].toNat : Int) == (91 : Int)) = true by simpa using hv)
        have hg := HG.out
        rw [hv, if_pos (by decide), show ((K.mk.idxOf (91 : Int) : Nat) : Int) = 0 by decide] at hg
        subst hg
        have HV := Lib.hid hv; clear hv
        go_wp2
        try rw [Exit.noGoto_ret]
        refine bodyPost_ret (results_begun _ _ w.heap.size _ rfl (gat_old (gat_alloc _ _) _) rfl) rfl ?_
        first
          | exact ⟨⟨1, p, (p + 1 : Nat), [], 0⟩, rfl, (fun _ => rfl), rfl, ((Below.refl _ w).alloc (Nat.le_refl _) _).alloc (by simp) _⟩
          | exact ⟨⟨1, p, (p + 1 : Nat), [], 0⟩, rfl, rfl, rfl, ((Below.refl _ w).alloc (Nat.le_refl _) _).alloc (by simp) _⟩
      · have e1 : ((s[p].toNat : Int) == (((ByteArray.mk #[91, 93, 123, 125, 58, 44])[0]'(by decide)).toNat : Int)) = false := (show ((s[p].toNat : Int) == (91 : Int)) = false by simpa using hv)
        have HJ2 : Hid (∀ j, j < 1 → K.mk[j]?.getD 0 ≠ (s[p].toNat : Int)) := Lib.hid (fun j hj => by
          rcases Nat.lt_or_ge j 0 with h | h
          · exact HJ.out j h
          · obtain rfl : j = 0 := by omega
            exact fun h => hv h.symm)
        have HV := Lib.hid hv; clear hv HJ
        go_wp2
        go_round
        case rel => exact ⟨1, by omega, rfl, HJ2⟩
        case measure => simp [intOf]
    case inr.inl =>
      by_cases hv : (s[p].toNat : Int) = 93
      · have e1 : ((s[p].toNat : Int) == (((ByteArray.mk #[91, 93, 123, 125, 58, 44])[1]'(by decide)).toNat : Int)) = true := (show ((s[p].toNat : Int) == (93 : Int)) = true by simpa using hv)
        have hg := HG.out
        rw [hv, if_pos (by decide), show ((K.mk.idxOf (93 : Int) : Nat) : Int) = 1 by decide] at hg
        subst hg
        have HV := Lib.hid hv; clear hv
        go_wp2
        try rw [Exit.noGoto_ret]
        refine bodyPost_ret (results_begun _ _ w.heap.size _ rfl (gat_old (gat_alloc _ _) _) rfl) rfl ?_
        first
          | exact ⟨⟨2, p, (p + 1 : Nat), [], 0⟩, rfl, (fun _ => rfl), rfl, ((Below.refl _ w).alloc (Nat.le_refl _) _).alloc (by simp) _⟩
          | exact ⟨⟨2, p, (p + 1 : Nat), [], 0⟩, rfl, rfl, rfl, ((Below.refl _ w).alloc (Nat.le_refl _) _).alloc (by simp) _⟩
      · have e1 : ((s[p].toNat : Int) == (((ByteArray.mk #[91, 93, 123, 125, 58, 44])[1]'(by decide)).toNat : Int)) = false := (show ((s[p].toNat : Int) == (93 : Int)) = false by simpa using hv)
        have HJ2 : Hid (∀ j, j < 2 → K.mk[j]?.getD 0 ≠ (s[p].toNat : Int)) := Lib.hid (fun j hj => by
          rcases Nat.lt_or_ge j 1 with h | h
          · exact HJ.out j h
          · obtain rfl : j = 1 := by omega
            exact fun h => hv h.symm)
        have HV := Lib.hid hv; clear hv HJ
        go_wp2
        go_round
        case rel => exact ⟨2, by omega, rfl, HJ2⟩
        case measure => simp [intOf]
    case inr.inr.inl =>
      by_cases hv : (s[p].toNat : Int) = 123
      · have e1 : ((s[p].toNat : Int) == (((ByteArray.mk #[91, 93, 123, 125, 58, 44])[2]'(by decide)).toNat : Int)) = true := (show ((s[p].toNat : Int) == (123 : Int)) = true by simpa using hv)
        have hg := HG.out
        rw [hv, if_pos (by decide), show ((K.mk.idxOf (123 : Int) : Nat) : Int) = 2 by decide] at hg
        subst hg
        have HV := Lib.hid hv; clear hv
        go_wp2
        try rw [Exit.noGoto_ret]
        refine bodyPost_ret (results_begun _ _ w.heap.size _ rfl (gat_old (gat_alloc _ _) _) rfl) rfl ?_
        first
          | exact ⟨⟨3, p, (p + 1 : Nat), [], 0⟩, rfl, (fun _ => rfl), rfl, ((Below.refl _ w).alloc (Nat.le_refl _) _).alloc (by simp) _⟩
          | exact ⟨⟨3, p, (p + 1 : Nat), [], 0⟩, rfl, rfl, rfl, ((Below.refl _ w).alloc (Nat.le_refl _) _).alloc (by simp) _⟩
      · have e1 : ((s[p].toNat : Int) == (((ByteArray.mk #[91, 93, 123, 125, 58, 44])[2]'(by decide)).toNat : Int)) = false := (show ((s[p].toNat : Int) == (123 : Int)) = false by simpa using hv)
        have HJ2 : Hid (∀ j, j < 3 → K.mk[j]?.getD 0 ≠ (s[p].toNat : Int)) := Lib.hid (fun j hj => by
          rcases Nat.lt_or_ge j 2 with h | h
          · exact HJ.out j h
          · obtain rfl : j = 2 := by omega
            exact fun h => hv h.symm)
        have HV := Lib.hid hv; clear hv HJ
        go_wp2
        go_round
        case rel => exact ⟨3, by omega, rfl, HJ2⟩
        case measure => simp [intOf]
    case inr.inr.inr.inl =>
      by_cases hv : (s[p].toNat : Int) = 125
      · have e1 : ((s[p].toNat : Int) == (((ByteArray.mk #[91, 93, 123, 125, 58, 44])[3]'(by decide)).toNat : Int)) = true := (show ((s[p].toNat : Int) == (125 : Int)) = true by simpa using hv)
        have hg := HG.out
        rw [hv, if_pos (by decide), show ((K.mk.idxOf (125 : Int) : Nat) : Int) = 3 by decide] at hg
        subst hg
        have HV := Lib.hid hv; clear hv
        go_wp2
        try rw [Exit.noGoto_ret]
        refine bodyPost_ret (results_begun _ _ w.heap.size _ rfl (gat_old (gat_alloc _ _) _) rfl) rfl ?_
        first
          | exact ⟨⟨4, p, (p + 1 : Nat), [], 0⟩, rfl, (fun _ => rfl), rfl, ((Below.refl _ w).alloc (Nat.le_refl _) _).alloc (by simp) _⟩
          | exact ⟨⟨4, p, (p + 1 : Nat), [], 0⟩, rfl, rfl, rfl, ((Below.refl _ w).alloc (Nat.le_refl _) _).alloc (by simp) _⟩
      · have e1 : ((s[p].toNat : Int) == (((ByteArray.mk #[91, 93, 123, 125, 58, 44])[3]'(by decide)).toNat : Int)) = false := (show ((s[p].toNat : Int) == (125 : Int)) = false by simpa using hv)
        have HJ2 : Hid (∀ j, j < 4 → K.mk[j]?.getD 0 ≠ (s[p].toNat : Int)) := Lib.hid (fun j hj => by
          rcases Nat.lt_or_ge j 3 with h | h
          · exact HJ.out j h
          · obtain rfl : j = 3 := by omega
            exact fun h => hv h.symm)
        have HV := Lib.hid hv; clear hv HJ
        go_wp2
        go_round
        case rel => exact ⟨4, by omega, rfl, HJ2⟩
        case measure => simp [intOf]
    case inr.inr.inr.inr.inl =>
      by_cases hv : (s[p].toNat : Int) = 58
      · have e1 : ((s[p].toNat : Int) == (((ByteArray.mk #[91, 93, 123, 125, 58, 44])[4]'(by decide)).toNat : Int)) = true := (show ((s[p].toNat : Int) == (58 : Int)) = true by simpa using hv)
        have hg := HG.out
        rw [hv, if_pos (by decide), show ((K.mk.idxOf (58 : Int) : Nat) : Int) = 4 by decide] at hg
        subst hg
        have HV := Lib.hid hv; clear hv
        go_wp2
        try rw [Exit.noGoto_ret]
        refine bodyPost_ret (results_begun _ _ w.heap.size _ rfl (gat_old (gat_alloc _ _) _) rfl) rfl ?_
        first
          | exact ⟨⟨5, p, (p + 1 : Nat), [], 0⟩, rfl, (fun _ => rfl), rfl, ((Below.refl _ w).alloc (Nat.le_refl _) _).alloc (by simp) _⟩
          | exact ⟨⟨5, p, (p + 1 : Nat), [], 0⟩, rfl, rfl, rfl, ((Below.refl _ w).alloc (Nat.le_refl _) _).alloc (by simp) _⟩
      · have e1 : ((s[p].toNat : Int) == (((ByteArray.mk #[91, 93, 123, 125, 58, 44])[4]'(by decide)).toNat : Int)) = false := (show ((s[p].toNat : Int) == (58 : Int)) = false by simpa using hv)
        have HJ2 : Hid (∀ j, j < 5 → K.mk[j]?.getD 0 ≠ (s[p].toNat : Int)) := Lib.hid (fun j hj => by
          rcases Nat.lt_or_ge j 4 with h | h
          · exact HJ.out j h
          · obtain rfl : j = 4 := by omega
            exact fun h => hv h.symm)
        have HV := Lib.hid hv; clear hv HJ
        go_wp2
        go_round
        case rel => exact ⟨5, by omega, rfl, HJ2⟩
        case measure => simp [intOf]
    case inr.inr.inr.inr.inr.inl =>
      by_cases hv : (s[p].toNat : Int) = 44
      · have e1 : ((s[p].toNat : Int) == (((ByteArray.mk #[91, 93, 123, 125, 58, 44])[5]'(by decide)).toNat : Int)) = true := (show ((s[p].toNat : Int) == (44 : Int)) = true by simpa using hv)
        have hg := HG.out
        rw [hv, if_pos (by decide), show ((K.mk.idxOf (44 : Int) : Nat) : Int) = 5 by decide] at hg
        subst hg
        have HV := Lib.hid hv; clear hv
        go_wp2
        try rw [Exit.noGoto_ret]
        refine bodyPost_ret (results_begun _ _ w.heap.size _ rfl (gat_old (gat_alloc _ _) _) rfl) rfl ?_
        first
          | exact ⟨⟨6, p, (p + 1 : Nat), [], 0⟩, rfl, (fun _ => rfl), rfl, ((Below.refl _ w).alloc (Nat.le_refl _) _).alloc (by simp) _⟩
          | exact ⟨⟨6, p, (p + 1 : Nat), [], 0⟩, rfl, rfl, rfl, ((Below.refl _ w).alloc (Nat.le_refl _) _).alloc (by simp) _⟩
      · have e1 : ((s[p].toNat : Int) == (((ByteArray.mk #[91, 93, 123, 125, 58, 44])[5]'(by decide)).toNat : Int)) = false := (show ((s[p].toNat : Int) == (44 : Int)) = false by simpa using hv)
        have HJ2 : Hid (∀ j, j < 6 → K.mk[j]?.getD 0 ≠ (s[p].toNat : Int)) := Lib.hid (fun j hj => by
          rcases Nat.lt_or_ge j 5 with h | h
          · exact HJ.out j h
          · obtain rfl : j = 5 := by omega
            exact fun h => hv h.symm)
        have HV := Lib.hid hv; clear hv HJ
        go_wp2
        go_round
        case rel => exact ⟨6, by omega, rfl, HJ2⟩
        case measure => simp [intOf]
end Go.Proofs.YtpiajoffddjjfaaGreatDoor
