/- The document's answer for layer 1 (douaneref01): its small functions, and what the two answers have in common. -/
import Derived.Test.YtcicjpdjbfgbhaaGreatDoorMh32Cell
import Derived.Deep.QuietTactic
import Derived.BigQuiet
namespace Go.Proofs.YtcicjpdjbfgbhaaGreatDoor
namespace U
/-- what stands at the beginning is this code's bytes -/
def At (r : List Int) (c : Int) (n : Nat) : Prop := 0 < n ∧ size c = n ∧ ∃ t, r = put c ++ t
theorem size_cases (c : Int) : (size c = 0 ∧ put c = []) ∨ (size c = 1 ∧ 0 ≤ c ∧ c < 128 ∧ put c = [c]) ∨ (size c = 2 ∧ 128 ≤ c ∧ c < 2048 ∧ put c = [192 + c / 64, 128 + c % 64]) ∨
    (size c = 3 ∧ 2048 ≤ c ∧ c < 65536 ∧ ¬ (55296 ≤ c ∧ c ≤ 57343) ∧ put c = [224 + c / 4096, 128 + c / 64 % 64, 128 + c % 64]) ∨
    (size c = 4 ∧ 65536 ≤ c ∧ c ≤ 1114111 ∧ put c = [240 + c / 262144, 128 + c / 4096 % 64, 128 + c / 64 % 64, 128 + c % 64]) := by
  have h : (size c = 0) ∨ (size c = 1 ∧ 0 ≤ c ∧ c < 128) ∨ (size c = 2 ∧ 128 ≤ c ∧ c < 2048) ∨ (size c = 3 ∧ 2048 ≤ c ∧ c < 65536 ∧ ¬ (55296 ≤ c ∧ c ≤ 57343)) ∨ (size c = 4 ∧ 65536 ≤ c ∧ c ≤ 1114111) := by
    unfold size; repeat' split
    all_goals omega
  rcases h with h | ⟨h, a⟩ | ⟨h, a⟩ | ⟨h, a⟩ | ⟨h, a⟩ <;> simp [put, h] <;> omega
theorem size_eq (c : Int) : (0 ≤ c → c < 128 → size c = 1) ∧ (128 ≤ c → c < 2048 → size c = 2) ∧ (2048 ≤ c → c < 65536 → ¬ (55296 ≤ c ∧ c ≤ 57343) → size c = 3) ∧ (65536 ≤ c → c ≤ 1114111 → size c = 4) := by
  refine ⟨fun a b => ?_, fun a b => ?_, fun a b d => ?_, fun a b => ?_⟩ <;> (unfold size; repeat' split) <;> omega
theorem fst_cases (x : Int) : (x < 128 ∧ fst x = (x, 1)) ∨ (192 ≤ x ∧ x < 224 ∧ fst x = (x - 192, 2)) ∨ (224 ≤ x ∧ x < 240 ∧ fst x = (x - 224, 3)) ∨ (240 ≤ x ∧ x < 248 ∧ fst x = (x - 240, 4)) ∨ fst x = (0, 0) := by
  unfold fst
  repeat' split
  all_goals simp <;> omega
theorem cont_iff (x : Int) : cont x = true ↔ 128 ≤ x ∧ x < 192 := by simp [cont]
theorem get_of (r : List Int) (c : Int) (n : Nat) (h : At r c n) : get r = (c, n) := by
  obtain ⟨hn, hs, t, rfl⟩ := h
  rcases size_cases c with ⟨h, hp⟩ | ⟨h, a, b, hp⟩ | ⟨h, a, b, hp⟩ | ⟨h, a, b, d, hp⟩ | ⟨h, a, b, hp⟩ <;> rw [h] at hs
  · omega
  · obtain rfl : n = 1 := by omega
    have hf : fst c = (c, 1) := by rcases fst_cases c with q | q | q | q | q <;> first | exact q.2 | omega | (unfold fst; rw [if_pos b])
    simp [hp, get, hf, conts, got, h]
  · obtain rfl : n = 2 := by omega
    have hf : fst (192 + c / 64) = (c / 64, 2) := by unfold fst; rw [if_neg (by omega), if_pos (by omega)]; simp; omega
    have k1 : cont (128 + c % 64) = true := (cont_iff _).2 (by omega)
    have e : c / 64 * 64 + (128 + c % 64 - 128) = c := by omega
    simp [hp, get, hf, conts, got, k1, e, h]
  · obtain rfl : n = 3 := by omega
    have hf : fst (224 + c / 4096) = (c / 4096, 3) := by unfold fst; rw [if_neg (by omega), if_neg (by omega), if_pos (by omega)]; simp; omega
    have k1 : cont (128 + c % 64) = true := (cont_iff _).2 (by omega)
    have k2 : cont (128 + c / 64 % 64) = true := (cont_iff _).2 (by omega)
    have e : (c / 4096 * 64 + (128 + c / 64 % 64 - 128)) * 64 + (128 + c % 64 - 128) = c := by omega
    simp [hp, get, hf, conts, got, k1, k2, e, h]
  · obtain rfl : n = 4 := by omega
    have hf : fst (240 + c / 262144) = (c / 262144, 4) := by unfold fst; rw [if_neg (by omega), if_neg (by omega), if_neg (by omega), if_pos (by omega)]; simp; omega
    have k1 : cont (128 + c % 64) = true := (cont_iff _).2 (by omega)
    have k2 : cont (128 + c / 64 % 64) = true := (cont_iff _).2 (by omega)
    have k3 : cont (128 + c / 4096 % 64) = true := (cont_iff _).2 (by omega)
    have e : ((c / 262144 * 64 + (128 + c / 4096 % 64 - 128)) * 64 + (128 + c / 64 % 64 - 128)) * 64 + (128 + c % 64 - 128) = c := by omega
    simp [hp, get, hf, conts, got, k1, k2, k3, e, h]
theorem conts_some (r : List Int) (n : Nat) (c d : Int) (h : conts r n c = some d) : n = 0 ∧ d = c ∨ ∃ x t m, n = m + 1 ∧ r = x :: t ∧ 128 ≤ x ∧ x < 192 ∧ conts t m (c * 64 + (x - 128)) = some d := by
  cases n with
  | zero => left; rw [conts_zero] at h; cases h; exact ⟨rfl, rfl⟩
  | succ m =>
    right
    cases r with
    | nil => simp [conts] at h
    | cons x t =>
      rw [conts_succ] at h
      by_cases hx : cont x = true
      · rw [if_pos hx] at h; exact ⟨x, t, m, rfl, rfl, ((cont_iff x).1 hx).1, ((cont_iff x).1 hx).2, h⟩
      · rw [if_neg hx] at h; cases h
theorem at_of_get (r : List Int) (hb : ∀ x ∈ r, 0 ≤ x) (h : 0 < (get r).2) : At r (get r).1 (get r).2 := by
  cases r with
  | nil => simp [get] at h
  | cons x r =>
    have hx0 : 0 ≤ x := hb x (by simp)
    rcases fst_cases x with ⟨a, hf⟩ | ⟨a, b, hf⟩ | ⟨a, b, hf⟩ | ⟨a, b, hf⟩ | hf
    · have e := (size_eq x).1 hx0 a
      simp [get, hf, conts_zero, got, e] at h ⊢
      refine ⟨by omega, by simpa using e, ?_⟩
      simp [put, e]
    · by_cases hl : r.length + 1 < 2
      · simp [get, hf, hl] at h
      cases hc : conts r 1 (x - 192) with
      | none => simp [get, hf, hl, hc, got] at h
      | some d =>
        by_cases hs : size d = 2
        · simp only [get, hf, hl, hc, got, hs] at h ⊢
          obtain ⟨h0, _⟩ | ⟨y1, t0, m0, hm0, rfl, l0, u0, hc0⟩ := conts_some _ _ _ _ hc
          · omega
          obtain rfl : m0 = 0 := by omega
          rw [conts_zero] at hc0
          cases hc0
          have hz := size_cases ((x - 192) * 64 + (y1 - 128))
          simp at h ⊢
          refine ⟨by omega, hs, t0, ?_⟩
          rcases hz with ⟨q, _⟩ | ⟨q, _⟩ | ⟨q, _, _, hp⟩ | ⟨q, _, _, _, hp⟩ | ⟨q, _, _, hp⟩ <;> rw [q] at hs <;> first | omega | (rw [hp]; simp; omega)
        · simp [get, hf, hl, hc, got, hs] at h
    · by_cases hl : r.length + 1 < 3
      · simp [get, hf, hl] at h
      cases hc : conts r 2 (x - 224) with
      | none => simp [get, hf, hl, hc, got] at h
      | some d =>
        by_cases hs : size d = 3
        · simp only [get, hf, hl, hc, got, hs] at h ⊢
          obtain ⟨h0, _⟩ | ⟨y1, t0, m0, hm0, rfl, l0, u0, hc0⟩ := conts_some _ _ _ _ hc
          · omega
          obtain rfl : m0 = 1 := by omega
          obtain ⟨h0, _⟩ | ⟨y2, t1, m1, hm1, rfl, l1, u1, hc1⟩ := conts_some _ _ _ _ hc0
          · omega
          obtain rfl : m1 = 0 := by omega
          rw [conts_zero] at hc1
          cases hc1
          have hz := size_cases (((x - 224) * 64 + (y1 - 128)) * 64 + (y2 - 128))
          simp at h ⊢
          refine ⟨by omega, hs, t1, ?_⟩
          rcases hz with ⟨q, _⟩ | ⟨q, _⟩ | ⟨q, _, _, hp⟩ | ⟨q, _, _, _, hp⟩ | ⟨q, _, _, hp⟩ <;> rw [q] at hs <;> first | omega | (rw [hp]; simp; omega)
        · simp [get, hf, hl, hc, got, hs] at h
    · by_cases hl : r.length + 1 < 4
      · simp [get, hf, hl] at h
      cases hc : conts r 3 (x - 240) with
      | none => simp [get, hf, hl, hc, got] at h
      | some d =>
        by_cases hs : size d = 4
        · simp only [get, hf, hl, hc, got, hs] at h ⊢
          obtain ⟨h0, _⟩ | ⟨y1, t0, m0, hm0, rfl, l0, u0, hc0⟩ := conts_some _ _ _ _ hc
          · omega
          obtain rfl : m0 = 2 := by omega
          obtain ⟨h0, _⟩ | ⟨y2, t1, m1, hm1, rfl, l1, u1, hc1⟩ := conts_some _ _ _ _ hc0
          · omega
          obtain rfl : m1 = 1 := by omega
          obtain ⟨h0, _⟩ | ⟨y3, t2, m2, hm2, rfl, l2, u2, hc2⟩ := conts_some _ _ _ _ hc1
          · omega
          obtain rfl : m2 = 0 := by omega
          rw [conts_zero] at hc2
          cases hc2
          have hz := size_cases ((((x - 240) * 64 + (y1 - 128)) * 64 + (y2 - 128)) * 64 + (y3 - 128))
          simp at h ⊢
          refine ⟨by omega, hs, t2, ?_⟩
          rcases hz with ⟨q, _⟩ | ⟨q, _⟩ | ⟨q, _, _, hp⟩ | ⟨q, _, _, _, hp⟩ | ⟨q, _, _, hp⟩ <;> rw [q] at hs <;> first | omega | (rw [hp]; simp; omega)
        · simp [get, hf, hl, hc, got, hs] at h
    · simp [get, hf] at h
def lead (x : Int) : Int := if 240 ≤ x then x - 240 else if 224 ≤ x then x - 224 else if 192 ≤ x then x - 192 else x
/-- the number that the document's answer makes of the first n bytes -/
def refC (r : List Int) : Nat → Int
  | 0 => 0
  | 1 => lead (r[0]?.getD 0)
  | n + 2 => refC r (n + 1) * 64 + r[n + 1]?.getD 0 % 64
theorem refC_of (r : List Int) (c : Int) (n : Nat) (h : At r c n) : refC r n = c ∧ r.take n = put c ∧ n ≤ 4 ∧ n ≤ r.length := by
  obtain ⟨hn, hs, t, rfl⟩ := h
  rcases size_cases c with ⟨h, hp⟩ | ⟨h, a, b, hp⟩ | ⟨h, a, b, hp⟩ | ⟨h, a, b, d, hp⟩ | ⟨h, a, b, hp⟩ <;> rw [h] at hs
  · omega
  · obtain rfl : n = 1 := by omega
    simp [hp, refC, lead]; omega
  · obtain rfl : n = 2 := by omega
    simp [hp, refC, lead]; omega
  · obtain rfl : n = 3 := by omega
    simp [hp, refC, lead]; omega
  · obtain rfl : n = 4 := by omega
    simp [hp, refC, lead]; omega
theorem at_of_take (r : List Int) (c : Int) (n : Nat) (hn : 0 < n) (hl : n ≤ r.length) (h : put c = r.take n) : At r c n := by
  have h1 : (put c).length = n := by rw [h, List.length_take]; omega
  have h2 := put_len c
  refine ⟨hn, ?_, r.drop n, by rw [h, List.take_append_drop]⟩
  rw [h1] at h2
  rcases size_cases c with ⟨h, _⟩ | ⟨h, _⟩ | ⟨h, _⟩ | ⟨h, _⟩ | ⟨h, _⟩ <;> omega
/-- the number is bounded, so that nothing wraps -/
theorem refC_bd (r : List Int) (hb : ∀ i : Nat, 0 ≤ r[i]?.getD 0 ∧ r[i]?.getD 0 ≤ 255) : (∀ n, 0 ≤ refC r n) ∧ refC r 1 ≤ 191 ∧ refC r 2 ≤ 12287 ∧ refC r 3 ≤ 786431 ∧ refC r 4 ≤ 50331647 := by
  have h1 : 0 ≤ refC r 1 ∧ refC r 1 ≤ 191 := by have := hb 0; simp only [refC, lead]; (repeat' split) <;> omega
  refine ⟨fun n => ?_, h1.2, ?_, ?_, ?_⟩
  · induction n with
    | zero => simp [refC]
    | succ n ih => cases n with
      | zero => exact h1.1
      | succ n => have := hb (n + 1); simp only [refC]; omega
  all_goals simp only [refC] at h1 ⊢
  all_goals have := hb 1
  all_goals omega
end U
open Go.RowKit Go.Shelf
theorem refCode_any (c : Int) (w : World) :
    Calls Tryz.prog 95 #[.int .i64 c] w fun e w' => e = .returned (.bool (U.size c != 0)) ∧ w = w' := by
  have hz := U.size_cases c
  have hsz : ((U.size c != 0) = true ↔ (0 ≤ c ∧ c < 55296) ∨ (57343 < c ∧ c ≤ 1114111)) := by
    rw [bne_iff_ne]
    unfold U.size
    repeat' split
    all_goals simp
    all_goals omega
  generalize (U.size c != 0) = z at hsz ⊢
  have HZ := Lib.hid hsz; clear hsz hz
  go_enter Tryz.func95, Tryz.ntmps95
  go_wp2
  all_goals go_ret
  all_goals (refine ⟨ret_bool ?_, rfl⟩; have h := HZ.out; rw [Bool.eq_iff_iff, h]; simp; omega)
def Put (w : World) (c : Int) (e : Ending) (w' : World) : Prop := ∃ v, e = .returned v ∧ w'.ownsRow w.heap.size 5 1 v (U.put c).length (u8s (U.put c)) ∧ Below w.heap.size w w'
set_option maxHeartbeats 1000000 in
theorem refPut_any (c : Int) (w : World) : Calls Tryz.prog 87 #[.int .i64 c] w (Put w c) := by
  have hcode := refCode_any c
  have hb : ∀ l : List Value, Below w.heap.size w (w.alloc (.cells l.toArray 5)) := fun l => (Below.refl _ w).alloc (Nat.le_refl _) _
  rcases U.size_cases c with ⟨h, hp⟩ | ⟨h, a, b, hp⟩ | ⟨h, a, b, hp⟩ | ⟨h, a, b, d, hp⟩ | ⟨h, a, b, hp⟩
  · have hz : (U.size c != 0) = false := by simp [h]
    rw [hz] at hcode
    have H := Lib.hid h; have HP := Lib.hid hp; clear h hp hz
    go_enter Tryz.func87, Tryz.ntmps87
    go_wp2_with (first | (go_at_call 95; refine (hcode _).mono ?_; rintro e w' ⟨rfl, rfl⟩))
    go_ret
    exact ⟨_, rfl, by rw [HP.out]; exact World.ownsRow_nil _ _ _ _, Below.refl _ _⟩
  · have hz : (U.size c != 0) = true := by simp [h]
    rw [hz] at hcode
    have H := Lib.hid h; have HP := Lib.hid hp; clear h hp hz
    go_enter Tryz.func87, Tryz.ntmps87
    go_wp2_with (first | (go_at_call 95; refine (hcode _).mono ?_; rintro e w' ⟨rfl, rfl⟩))
    go_ret
    exact ⟨_, rfl, by rw [HP.out]; exact owns_built w _ _ 1 rfl (by unfold maxLen; omega), hb [_]⟩
  · have hz : (U.size c != 0) = true := by simp [h]
    rw [hz] at hcode
    have H := Lib.hid h; have HP := Lib.hid hp; clear h hp hz
    have e1 : (192 + c / 64) % 256 = 192 + c / 64 := by omega
    have e2 : (128 + c % 64) % 256 = 128 + c % 64 := by omega
    go_enter Tryz.func87, Tryz.ntmps87
    go_wp2_with (first | (go_at_call 95; refine (hcode _).mono ?_; rintro e w' ⟨rfl, rfl⟩))
    go_ret
    exact ⟨_, rfl, by rw [HP.out]; exact owns_built w _ _ 2 rfl (by unfold maxLen; omega), hb [_, _]⟩
  · have hz : (U.size c != 0) = true := by simp [h]
    rw [hz] at hcode
    have H := Lib.hid h; have HP := Lib.hid hp; clear h hp hz
    have e1 : (224 + c / 4096) % 256 = 224 + c / 4096 := by omega
    have e2 : (128 + c % 64) % 256 = 128 + c % 64 := by omega
    have e3 : (128 + c / 64 % 64) % 256 = 128 + c / 64 % 64 := by omega
    go_enter Tryz.func87, Tryz.ntmps87
    go_wp2_with (first | (go_at_call 95; refine (hcode _).mono ?_; rintro e w' ⟨rfl, rfl⟩))
    go_ret
    exact ⟨_, rfl, by rw [HP.out]; exact owns_built w _ _ 3 rfl (by unfold maxLen; omega), hb [_, _, _]⟩
  · have hz : (U.size c != 0) = true := by simp [h]
    rw [hz] at hcode
    have H := Lib.hid h; have HP := Lib.hid hp; clear h hp hz
    have e1 : (240 + c / 262144) % 256 = 240 + c / 262144 := by omega
    have e2 : (128 + c % 64) % 256 = 128 + c % 64 := by omega
    have e3 : (128 + c / 64 % 64) % 256 = 128 + c / 64 % 64 := by omega
    have e4 : (128 + c / 4096 % 64) % 256 = 128 + c / 4096 % 64 := by omega
    go_enter Tryz.func87, Tryz.ntmps87
    go_wp2_with (first | (go_at_call 95; refine (hcode _).mono ?_; rintro e w' ⟨rfl, rfl⟩))
    go_ret
    exact ⟨_, rfl, by rw [HP.out]; exact owns_built w _ _ 4 rfl (by unfold maxLen; omega), hb [_, _, _, _]⟩
end Go.Proofs.YtcicjpdjbfgbhaaGreatDoor
