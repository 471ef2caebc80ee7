/- strings.IndexAny and ContainsAny at the bytes that a field has in quotes alone, over every text. -/
import Derived.Test.YtclnephomnkieaaShelf
import Derived.Test.YtclnephomnkieaaCsvMath
import Derived.Laws.RangeAny
import Derived.Laws.Runes
import Derived.Lib.OthersKept
import Derived.Deep.LoopGhost
set_option linter.unusedVariables false
namespace Go.Proofs.Ytclnephomnkieaa
open Go.RowKit Go.Shelf
/-- a rune beyond 127 as its bytes: two to four, the last of them beyond 127 -/
theorem enc_shape (r : Int) (hv : Utf8.valid r = true) (h : 128 ≤ r) : (∃ a b : UInt8, Utf8.encode r = ⟨#[a, b]⟩ ∧ 128 ≤ b.toNat) ∨ (∃ a b c : UInt8, Utf8.encode r = ⟨#[a, b, c]⟩ ∧ 128 ≤ c.toNat) ∨ (∃ a b c d : UInt8, Utf8.encode r = ⟨#[a, b, c, d]⟩ ∧ 128 ≤ d.toNat) := by
  have hc : ¬ r.toNat < 128 := by omega
  have hb : 128 ≤ (UInt8.ofNat (128 + r.toNat % 64)).toNat := by simp; omega
  unfold Utf8.encode
  simp only [hv, if_true, hc, if_false]
  split
  · exact .inl ⟨_, _, rfl, hb⟩
  · split
    · exact .inr (.inl ⟨_, _, _, rfl, hb⟩)
    · exact .inr (.inr ⟨_, _, _, _, rfl, hb⟩)
/-- what a decoding takes: bytes of the text, those behind the first beyond 127 -/
theorem dec_room (s : ByteArray) (i : Nat) (hi : i < s.size) (ha : 128 ≤ (s[i]'hi).toNat) :
    i + (Utf8.decode s i).2 ≤ s.size ∧ ∀ j (hj : j < s.size), i < j → j < i + (Utf8.decode s i).2 → 128 ≤ (s[j]'hj).toNat := by
  have hg : ∀ k (h : i + k < s.size), s.get! (i + k) = s[i + k]'h := fun k h => get_at s (i + k) h
  have hn : ¬ (s.get! (i + 0)).toNat < 128 := by rw [hg 0 hi]; simpa using ha
  have key : ∀ (n : Nat), (∀ k, 1 ≤ k → k < n → i + k < s.size ∧ (s.get! (i + k)).toNat / 64 = 2) → 1 ≤ n → i + n ≤ s.size ∧ ∀ j (hj : j < s.size), i < j → j < i + n → 128 ≤ (s[j]'hj).toNat := by
    intro n h hp
    refine ⟨?_, fun j hj h1 h2 => ?_⟩
    · rcases Nat.lt_or_ge 1 n with h1 | h1
      · have := (h (n - 1) (by omega) (by omega)).1; omega
      · omega
    · have h3 := h (j - i) (by omega) (by omega)
      rw [hg _ h3.1] at h3
      have he : i + (j - i) = j := by omega
      simp only [he] at h3
      omega
  have one : ∀ k, 1 ≤ k → k < 1 → i + k < s.size ∧ (s.get! (i + k)).toNat / 64 = 2 := fun k h1 h2 => by omega
  simp only [Utf8.decode, hn, if_false]
  split
  · rename_i h
    simp only [Bool.and_eq_true, decide_eq_true_eq, beq_iff_eq] at h
    split
    · exact key 2 (fun k h1 h2 => by
        obtain rfl : k = 1 := by omega
        exact h.2) (by omega)
    · exact key 1 one (by omega)
  · split
    · rename_i h
      simp only [Bool.and_eq_true, decide_eq_true_eq, beq_iff_eq] at h
      split
      · exact key 3 (fun k h1 h2 => by
          have : k = 1 ∨ k = 2 := by omega
          rcases this with rfl | rfl
          · exact h.1.2
          · exact h.2) (by omega)
      · exact key 1 one (by omega)
    · split
      · rename_i h
        simp only [Bool.and_eq_true, decide_eq_true_eq, beq_iff_eq] at h
        split
        · exact key 4 (fun k h1 h2 => by
            have : k = 1 ∨ k = 2 ∨ k = 3 := by omega
            rcases this with rfl | rfl | rfl
            · exact h.1.1.2
            · exact h.1.2
            · exact h.2) (by omega)
        · exact key 1 one (by omega)
      · exact key 1 one (by omega)
/-- the bytes -/
abbrev spc : ByteArray := ⟨#[44, 34, 13, 10]⟩
theorem byteIdx (l : List UInt8) (hl : ∀ x ∈ l, x.toNat < 128) (b : UInt8) (h : 128 ≤ b.toNat) : Lib.indexByte l b = -1 := by
  induction l with
  | nil => rfl
  | cons x l ih =>
    have hx := hl x (List.mem_cons_self ..)
    have hne : ¬ x = b := fun e => by subst e; omega
    have := ih (fun y hy => hl y (List.mem_cons_of_mem _ hy))
    unfold Lib.indexByte
    simp [hne, this]
set_option maxRecDepth 100000 in
set_option maxHeartbeats 4000000 in
theorem rune_bad (w : World) : Calls Try.prog 26 #[.string spc, .int .i32 65533] w fun e w' => e = .returned (.int .i64 (-1)) ∧ Below w.heap.size w w' := by
  go_enter Try.func26, Try.ntmps26
  go_wp2
  go_loopg [5, 6] 4 (fun g _ _ wx => ∃ i : Nat, i + g = 4 ∧ wx = w.iter spc i)
  case atStart => exact ⟨0, rfl, rfl⟩
  case round =>
    obtain ⟨i, hig, rfl⟩ := hrel
    have h4 : i = 0 ∨ i = 1 ∨ i = 2 ∨ i = 3 ∨ i = 4 := by omega
    rcases h4 with rfl | rfl | rfl | rfl | rfl
    · have hnx := fun ty => run_next_ascii (P := Try.prog) w spc 0 ty (by decide) (by decide)
      go_wp2
      go_roundg (gk - 1)
      case measure => omega
      case rel => exact ⟨1, by omega, rfl⟩
    · have hnx := fun ty => run_next_ascii (P := Try.prog) w spc 1 ty (by decide) (by decide)
      go_wp2
      go_roundg (gk - 1)
      case measure => omega
      case rel => exact ⟨2, by omega, rfl⟩
    · have hnx := fun ty => run_next_ascii (P := Try.prog) w spc 2 ty (by decide) (by decide)
      go_wp2
      go_roundg (gk - 1)
      case measure => omega
      case rel => exact ⟨3, by omega, rfl⟩
    · have hnx := fun ty => run_next_ascii (P := Try.prog) w spc 3 ty (by decide) (by decide)
      go_wp2
      go_roundg (gk - 1)
      case measure => omega
      case rel => exact ⟨4, by omega, rfl⟩
    · have hnx := fun ty => run_next_end (P := Try.prog) w spc 4 ty (by decide)
      go_wp2
      go_ret
      exact ⟨rfl, (Below.refl _ _).alloc (Nat.le_refl _) _⟩
set_option maxRecDepth 100000 in
set_option maxHeartbeats 8000000 in
/-- no rune beyond 127 is one of the bytes -/
theorem rune_high (r : Int) (h0 : 128 ≤ r) (h1 : r ≤ 2147483647) (w : World) : Calls Try.prog 26 #[.string spc, .int .i32 r] w fun e w' => e = .returned (.int .i64 (-1)) ∧ Below w.heap.size w w' := by
  by_cases hbad : r = 65533
  · subst hbad; exact rune_bad w
  have hV : ∀ w, Calls Try.prog 32 #[.int .i32 r] w fun e w' => e = .returned (.bool (Utf8.valid r)) ∧ w' = w := fun w => by
    have h := Any.utf8_ValidRune { Try.lays153 with } r w
    rw [show Lib.validRune r = Utf8.valid r by rw [validRune_eq]; rfl] at h
    exact h
  have n1 : (r == 65533) = false := by simpa using hbad
  have hbad' : ¬ (65533 : Int) = r := fun e => hbad e.symm
  cases hv : Utf8.valid r
  · rw [hv] at hV
    go_enter Try.func26, Try.ntmps26
    go_wp2_with (go_at_call 32; (with_reducible refine (hV _).mono ?_); rintro e w1 ⟨rfl, rfl⟩)
    go_ret
    exact ⟨rfl, Below.refl _ _⟩
  · rw [hv] at hV
    have hI : ∀ (l : List UInt8) (s : ByteArray), s.data.toList = l → (∀ x ∈ l, x.toNat < 128) → ∀ (b : UInt8), 128 ≤ b.toNat → ∀ w, Calls Try.prog 31 #[.string s, .int .u8 (b.toNat : Int)] w fun e w' => e = .returned (.int .i64 (-1)) ∧ w' = w := fun l s hs hl b hb w => by
      have h := Any.strings_IndexByte { Try.lays153 with } s (b.toNat : Int) w
      rw [hs, show ((b.toNat : Int)).toNat.toUInt8 = b by simp, byteIdx l hl b hb] at h
      exact h
    rcases enc_shape r hv h0 with ⟨a, b, he, hb⟩ | ⟨a, b, c, he, hb⟩ | ⟨a, b, c, d, he, hb⟩
    · have q2 : (((spc[1]'(by decide)).toNat : Int) != (((⟨#[a, b]⟩ : ByteArray)[1]'(by show 1 < 2; omega)).toNat : Int)) = true := by
        have h3 : ((⟨#[a, b]⟩ : ByteArray)[1]'(by show 1 < 2; omega)).toNat = b.toNat := rfl
        have h4 : (spc[1]'(by decide)).toNat < 128 := by decide
        simp only [bne_iff_ne, ne_eq]; omega
      have hw : IntKind.i64.wrap 2 = 2 := by decide
      have hc : ∀ w, Calls Try.prog 31 #[.string (spc.extract 2 4), .int .u8 (((⟨#[a, b]⟩ : ByteArray)[1]'(by show 1 < 2; omega)).toNat : Int)] w fun e w' => e = .returned (.int .i64 (-1)) ∧ w' = w := hI [13, 10] (spc.extract 2 4) (by decide) (by decide) b hb
      clear hI
      go_enter Try.func26, Try.ntmps26
      go_wp2_with (go_at_call 32; (with_reducible refine (hV _).mono ?_); rintro e w1 ⟨rfl, rfl⟩)
      go_step3
      go_wp2
      go_loopg [4, 9, 10, 11, 12] 0 (fun g s4 s9 s10 s11 s12 wx => s9 = .int .i64 1 ∧ wx = w1)
      case atStart => exact ⟨rfl, rfl⟩
      case round =>
        obtain ⟨rfl, rfl⟩ := hrel
        go_wp2
        go_step3
        go_wp2
        go_region
        all_goals go_wp2
        all_goals go_region_with (go_at_call 31; (with_reducible refine (hc _).mono ?_); rintro e w1 ⟨rfl, rfl⟩)
        all_goals go_wp2
        all_goals rw [Exit.noGoto_ret]
        all_goals try go_wp2
        all_goals try rw [Exit.noGoto_ret]
        all_goals go_ret
        all_goals exact ⟨rfl, (Below.refl _ _).drew.drew⟩
    · have q2 : (((spc[2]'(by decide)).toNat : Int) != (((⟨#[a, b, c]⟩ : ByteArray)[2]'(by show 2 < 3; omega)).toNat : Int)) = true := by
        have h3 : ((⟨#[a, b, c]⟩ : ByteArray)[2]'(by show 2 < 3; omega)).toNat = c.toNat := rfl
        have h4 : (spc[2]'(by decide)).toNat < 128 := by decide
        simp only [bne_iff_ne, ne_eq]; omega
      have hw : IntKind.i64.wrap 3 = 3 := by decide
      have hc : ∀ w, Calls Try.prog 31 #[.string (spc.extract 3 4), .int .u8 (((⟨#[a, b, c]⟩ : ByteArray)[2]'(by show 2 < 3; omega)).toNat : Int)] w fun e w' => e = .returned (.int .i64 (-1)) ∧ w' = w := hI [10] (spc.extract 3 4) (by decide) (by decide) c hb
      clear hI
      go_enter Try.func26, Try.ntmps26
      go_wp2_with (go_at_call 32; (with_reducible refine (hV _).mono ?_); rintro e w1 ⟨rfl, rfl⟩)
      go_step3
      go_wp2
      go_loopg [4, 9, 10, 11, 12] 0 (fun g s4 s9 s10 s11 s12 wx => s9 = .int .i64 2 ∧ wx = w1)
      case atStart => exact ⟨rfl, rfl⟩
      case round =>
        obtain ⟨rfl, rfl⟩ := hrel
        go_wp2
        go_step3
        go_wp2
        go_region
        all_goals go_wp2
        all_goals go_region_with (go_at_call 31; (with_reducible refine (hc _).mono ?_); rintro e w1 ⟨rfl, rfl⟩)
        all_goals go_wp2
        all_goals rw [Exit.noGoto_ret]
        all_goals try go_wp2
        all_goals try rw [Exit.noGoto_ret]
        all_goals go_ret
        all_goals exact ⟨rfl, (Below.refl _ _).drew.drew⟩
    · have q2 : (((spc[3]'(by decide)).toNat : Int) != (((⟨#[a, b, c, d]⟩ : ByteArray)[3]'(by show 3 < 4; omega)).toNat : Int)) = true := by
        have h3 : ((⟨#[a, b, c, d]⟩ : ByteArray)[3]'(by show 3 < 4; omega)).toNat = d.toNat := rfl
        have h4 : (spc[3]'(by decide)).toNat < 128 := by decide
        simp only [bne_iff_ne, ne_eq]; omega
      have hw : IntKind.i64.wrap 4 = 4 := by decide
      have hc : ∀ w, Calls Try.prog 31 #[.string ByteArray.empty, .int .u8 (((⟨#[a, b, c, d]⟩ : ByteArray)[3]'(by show 3 < 4; omega)).toNat : Int)] w fun e w' => e = .returned (.int .i64 (-1)) ∧ w' = w := hI [] ByteArray.empty (by decide) (by decide) d hb
      clear hI
      go_enter Try.func26, Try.ntmps26
      go_wp2_with (go_at_call 32; (with_reducible refine (hV _).mono ?_); rintro e w1 ⟨rfl, rfl⟩)
      go_step3
      go_wp2
      go_loopg [4, 9, 10, 11, 12] 0 (fun g s4 s9 s10 s11 s12 wx => s9 = .int .i64 3 ∧ wx = w1)
      case atStart => exact ⟨rfl, rfl⟩
      case round =>
        obtain ⟨rfl, rfl⟩ := hrel
        go_wp2
        go_step3
        go_wp2
        go_region
        all_goals go_wp2
        all_goals go_region_with (go_at_call 31; (with_reducible refine (hc _).mono ?_); rintro e w1 ⟨rfl, rfl⟩)
        all_goals go_wp2
        all_goals rw [Exit.noGoto_ret]
        all_goals try go_wp2
        all_goals try rw [Exit.noGoto_ret]
        all_goals go_ret
        all_goals exact ⟨rfl, (Below.refl _ _).drew.drew⟩
end Go.Proofs.Ytclnephomnkieaa
