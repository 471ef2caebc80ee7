/- Layer 7: rows of bytes: within, one, run; the document's in and digits. -/
import Derived.Test.YtpiajoffddjjfaaGreatDoorMg7Jso
import Derived.Test.YtpiajoffddjjfaaGreatDoorShelf
namespace Go.Proofs.YtpiajoffddjjfaaGreatDoor
open Go.RowKit Go.Shelf
theorem idx_contains (l : List UInt8) (c : UInt8) : 0 ≤ Lib.indexByte l c ↔ c ∈ l := by
  induction l with
  | nil => simp [Lib.indexByte]
  | cons b l ih =>
    have hge := Lib.indexByte_ge l c
    by_cases h : b = c
    · subst h; simp [Lib.indexByte]
    · have h1 : (b == c) = false := by simpa using h
      unfold Lib.indexByte
      rw [h1]
      by_cases h2 : Lib.indexByte l c = -1
      · have h3 : (Lib.indexByte l c == -1) = true := by simpa using h2
        rw [h3]
        have : ¬ c ∈ l := fun hc => by have := ih.2 hc; omega
        simp [this]; exact fun e => h e.symm
      · have h3 : (Lib.indexByte l c == -1) = false := by simpa using h2
        rw [h3]
        have : c ∈ l := ih.1 (by omega)
        simp [this]; omega
theorem toU8 (x : Int) (h0 : 0 ≤ x) (h1 : x ≤ 255) : ((x.toNat.toUInt8).toNat : Int) = x := by
  simp [Nat.toUInt8]; omega
theorem mem_strB (s : ByteArray) (x : Int) (h0 : 0 ≤ x) (h1 : x ≤ 255) : x ∈ strB s ↔ x.toNat.toUInt8 ∈ s.data.toList := by
  unfold strB
  rw [List.mem_map]
  constructor
  · rintro ⟨b, hb, rfl⟩
    have : ((b.toNat : Int)).toNat.toUInt8 = b := by simp [Nat.toUInt8]
    rw [this]; exact hb
  · intro h
    exact ⟨_, h, toU8 x h0 h1⟩
theorem within_any (c : ByteArray) (x : Int) (w : World) (h0 : 0 ≤ x) (h1 : x ≤ 255) :
    Calls Tryz.prog 50 #[.string c, .int .u8 x] w fun e w' => e = .returned (.bool ((strB c).contains x)) ∧ w = w' := by
  have hI := Tryz.strings_IndexByte c x w
  have hge := Lib.indexByte_ge c.data.toList x.toNat.toUInt8
  have hc := idx_contains c.data.toList x.toNat.toUInt8
  rw [← mem_strB c x h0 h1] at hc
  obtain ⟨i, hi⟩ : ∃ i, Lib.indexByte c.data.toList x.toNat.toUInt8 = i := ⟨_, rfl⟩
  rw [hi] at hI hge hc
  clear hi
  obtain ⟨g, hg⟩ : ∃ g, (strB c).contains x = g := ⟨_, rfl⟩
  have hgc : g = true ↔ 0 ≤ i := by rw [← hg, hc, List.contains_iff_mem]
  rw [hg]
  clear hg hc
  have HG := Lib.hid hgc; clear hgc
  go_enter Tryz.func50, Tryz.ntmps50
  go_wp2_with (go_at_call 54; (with_reducible refine hI.mono ?_); rintro e w' ⟨rfl, rfl⟩)
  go_ret
  exact ⟨ret_bool (by rw [Bool.eq_iff_iff, HG.out]; simp), rfl⟩
theorem tokRun_any (s c : ByteArray) (C : List Int) (hC : strB c = C) (p : Nat) (w : World) (hsm : s.size ≤ maxLen) (hp : p ≤ s.size) :
    Calls Tryz.prog 47 #[.string s, .int .i64 p, .string c] w fun e w' => e = .returned (.int .i64 (K.runTo C (strB s) p : Nat)) ∧ w = w' := by
  have hW : ∀ x w, 0 ≤ x → x ≤ 255 → Calls Tryz.prog 50 #[.string c, .int .u8 x] w _ := fun x w h0 h1 => within_any c x w h0 h1
  rw [hC] at hW
  clear hC
  unfold maxLen at hsm
  obtain ⟨r, hr⟩ : ∃ r, K.runTo C (strB s) p = r := ⟨_, rfl⟩
  rw [hr]
  have HR := Lib.hid hr; clear hr
  go_enter Tryz.func47, Tryz.ntmps47
  go_wp2
  go_loop [1] (fun i => ∃ q : Nat, q ≤ s.size ∧ i = .int .i64 q ∧ K.runTo C (strB s) q = r) (fun i => s.size - (intOf i).toNat)
  case atStart => exact ⟨p, hp, rfl, HR.out⟩
  case round =>
    obtain ⟨q, hq, rfl, hrq⟩ := hrel
    rcases Nat.lt_or_ge q s.size with hlt | hge
    · have hx := strB_at s q hlt
      have hu := u8_bd s[q]
      have hd : decide (q < s.size) = true := by simpa using hlt
      have hWx := fun w => hW (s[q].toNat : Int) w hu.1 hu.2
      by_cases hdg : C.contains (s[q].toNat : Int) = true
      · have hstep := K.runTo_step C (strB s) q (by rw [strB_len]; exact hlt) (by rw [hx]; exact hdg)
        rw [hrq] at hstep
        simp only [hdg] at hWx
        have HS := Lib.hid hstep; clear hstep hrq hx hdg hu
        have HW := Lib.hid hW; clear hW
        go_wp2_with (go_at_call 50; (with_reducible refine (hWx _).mono ?_); rintro e w' ⟨rfl, rfl⟩)
        go_round
        case rel => exact ⟨q + 1, by omega, by go_num, HS.out.symm⟩
        case measure => simp [intOf]; omega
      · have hdg : C.contains (s[q].toNat : Int) = false := by simpa using hdg
        have hstop := K.runTo_stop C (strB s) q (fun _ => by rw [hx]; exact hdg)
        rw [hrq] at hstop
        simp only [hdg] at hWx
        have HS := Lib.hid hstop; clear hstop hrq hx hdg hu
        have HW := Lib.hid hW; clear hW
        go_wp2_with (go_at_call 50; (with_reducible refine (hWx _).mono ?_); rintro e w' ⟨rfl, rfl⟩)
        go_ret
        exact ⟨ret_int (by rw [HS.out]), rfl⟩
    · have hstop := K.runTo_stop C (strB s) q (fun h => by rw [strB_len] at h; omega)
      rw [hrq] at hstop
      have HS := Lib.hid hstop; clear hstop hrq
      have HW := Lib.hid hW; clear hW
      have hd : decide (q < s.size) = false := by simpa using hge
      go_wp2
      go_ret
      exact ⟨ret_int (by rw [HS.out]), rfl⟩
theorem tokOne_any (s c : ByteArray) (C : List Int) (hC : strB c = C) (p : Nat) (w : World) (hsm : s.size ≤ maxLen) (hp : p ≤ s.size) :
    Calls Tryz.prog 62 #[.string s, .int .i64 p, .string c] w fun e w' => e = .returned (.int .i64 (K.one C (strB s) p : Nat)) ∧ w = w' := by
  have hW : ∀ x w, 0 ≤ x → x ≤ 255 → Calls Tryz.prog 50 #[.string c, .int .u8 x] w _ := fun x w h0 h1 => within_any c x w h0 h1
  rw [hC] at hW
  clear hC
  unfold maxLen at hsm
  obtain ⟨r, hr⟩ : ∃ r, K.one C (strB s) p = r := ⟨_, rfl⟩
  rw [hr]
  unfold K.one at hr
  rw [strB_len] at hr
  rcases Nat.lt_or_ge p s.size with hlt | hge
  · have hx := strB_at s p hlt
    rw [hx] at hr
    have hu := u8_bd s[p]
    have hd : decide (p < s.size) = true := by simpa using hlt
    have hWx := fun w => hW (s[p].toNat : Int) w hu.1 hu.2
    by_cases hdg : C.contains (s[p].toNat : Int) = true
    · rw [if_pos ⟨hlt, hdg⟩] at hr
      subst hr
      simp only [hdg] at hWx
      clear hx hdg hu hW
      go_enter Tryz.func62, Tryz.ntmps62
      go_wp2_with (go_at_call 50; (with_reducible refine (hWx _).mono ?_); rintro e w' ⟨rfl, rfl⟩)
      go_ret
      exact ⟨ret_int (by omega), rfl⟩
    · rw [if_neg (fun h => hdg h.2)] at hr
      have hdg : C.contains (s[p].toNat : Int) = false := by simpa using hdg
      subst hr
      simp only [hdg] at hWx
      clear hx hdg hu hW
      go_enter Tryz.func62, Tryz.ntmps62
      go_wp2_with (go_at_call 50; (with_reducible refine (hWx _).mono ?_); rintro e w' ⟨rfl, rfl⟩)
      go_ret
      exact ⟨rfl, rfl⟩
  · rw [if_neg (fun h => by omega)] at hr
    subst hr
    clear hW
    have hd : decide (p < s.size) = false := by simpa using hge
    go_enter Tryz.func62, Tryz.ntmps62
    go_wp2
    go_ret
    exact ⟨rfl, rfl⟩
end Go.Proofs.YtpiajoffddjjfaaGreatDoor
