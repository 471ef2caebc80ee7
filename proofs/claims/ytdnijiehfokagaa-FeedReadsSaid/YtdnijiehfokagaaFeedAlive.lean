/- Layer 5: what the statements ask first (alive). -/
import Derived.Test.YtdnijiehfokagaaFeedTake
import Derived.Test.YtdnijiehfokagaaFeedPut
import Derived.Lib.SmallJoins
namespace Go.Proofs.Ytdnijiehfokagaa
open Go.RowKit Go.Shelf
/-- the example's bytes -/
def exB : List Int := F.put 1 [97]
theorem ex_len : exB.length = 13 := by rw [exB, F.put_len]; rfl
theorem ex_8 : exB[8]?.getD 0 = 97 := rfl
theorem ex_put : F.putE 1 [97] 10 = (exB, 0) := rfl
theorem ex_take5 : F.read 10 (exB.take 5) = ([], 0, exB.take 5) := by
  refine F.read_wait ?_
  decide +kernel
theorem ex_rest : exB.take 5 ++ exB.drop 5 = exB := List.take_append_drop 5 exB
theorem ex_read : F.read 10 exB = ([(1, [97])], 0, []) := F.read_put 10 1 [97] (by decide) (by decide) (by decide) (by decide)
theorem ex_bad : F.read 10 [1] = ([], 2, []) := F.read_err (c := 1) (by decide +kernel)
theorem pays_one {W : World} {G : Nat → Prop} {xs : List (Int × Option Addr × Nat)} {k : Int} {l : List Int} (h : Pays W G xs [(k, l)]) : ∃ a, xs = [(k, a, l.length)] ∧ Row W .u8 a l.length l.length l ∧ InG G a := by
  match xs, h with
  | [x], h =>
    obtain ⟨h1, h2, h3, _⟩ := h
    obtain ⟨x1, x2, x3⟩ := x
    dsimp only at h1 h2 h3
    subst h1
    have h4 := h2.1
    subst h4
    exact ⟨x2, rfl, h2, h3⟩
/-- a block of bytes is no feed -/
theorem pg_ne {B : Nat} {w w' : World} {p most c : Nat} {u v v' : Value} {r : List Int} (hp : FS B w' p most u c r) {b : Nat} (h : PG w v v' w' b) : b ≠ p := by
  rintro rfl
  obtain ⟨_, _, cs, fr, h⟩ := h
  rw [show w'.heap[b]? = _ from hp.here] at h
  cases h
/-- where a row of bytes stays through a feed's Take -/
theorem rowr_past {B : Nat} {w w' : World} {p most c : Nat} {v : Value} {r : List Int} (hP : Past p v w w') (hp : FS B w p most v c r) {a : Option Addr} {n cc : Nat} {l : List Int} (h : Row w .u8 a n cc l) (hne : ∀ ad, a = some ad → 0 < n → ad.block ≠ p ∧ some ad.block ≠ v.ownBlock) : Row w' .u8 a n cc l := by
  have _ := hp
  obtain ⟨h1, h2, h3, h4⟩ := h
  refine ⟨h1, h2, h3, ?_⟩
  rcases h4 with h0 | ⟨b, off, rfl, hc⟩
  · exact .inl h0
  · rcases Nat.eq_zero_or_pos n with h0 | h0
    · exact .inl h0
    refine .inr ⟨b, off, rfl, fun i hi => ?_⟩
    have hq := hc i hi
    have hb : b < w.heap.size := by
      simp only [World.cell?] at hq
      rcases Nat.lt_or_ge b w.heap.size with h | h
      · exact h
      · rw [Array.getElem?_eq_none h] at hq; cases hq
    rw [← hq]
    exact World.cell?_of_block (a := ⟨b, off + i, none⟩) (hP.block b hb (hne _ rfl h0).1 (hne _ rfl h0).2)
theorem row_lt {w : World} {k : IntKind} {a : Option Addr} {n cc : Nat} {l : List Int} (h : Row w k a n cc l) : ∀ ad, a = some ad → 0 < n → ad.block < w.heap.size := by
  rintro ad rfl h0
  rcases h.2.2.2 with h1 | ⟨b, off, e, hc⟩
  · omega
  · cases e
    have hq := hc 0 h0
    simp only [World.cell?] at hq
    rcases Nat.lt_or_ge b w.heap.size with h | h
    · exact h
    · rw [Array.getElem?_eq_none h] at hq; cases hq
theorem ends5 {W : World} {bb bo C g : Nat} {L : List Int} {ya : Option Addr} {n : Nat} (h : Row W .u8 (some ⟨bb, bo, none⟩) 13 C L) (ho : Cells W 2 (some ⟨g, 0, none⟩) 1 (fcells [((1 : Int), ya, n)])) (h8 : L[8]?.getD 0 = 97) :
    W.cell? ⟨bb, bo + 8, none⟩ = some (.int .u8 97) ∧ W.cell? ⟨g, 0, none⟩ = some (.int .i64 1) ∧ W.cell? ⟨g, 1, none⟩ = some (.slice ya n n) := by
  refine ⟨?_, ?_, ?_⟩
  · rcases h.2.2.2 with h0 | ⟨b, off, e, hc⟩
    · omega
    · cases e
      rw [hc 8 (by omega), h8]
  · rcases ho.2 with h0 | ⟨ad, e, hc⟩
    · omega
    · cases e; have := hc 0 _ rfl; rwa [Addr.add_lit] at this
  · rcases ho.2 with h0 | ⟨ad, e, hc⟩
    · omega
    · cases e; have := hc 1 _ rfl; rwa [Addr.add_lit] at this
set_option maxRecDepth 100000 in
set_option maxHeartbeats 4000000 in
theorem feedAlive_any (w : World) : Calls Try.prog 9 #[] w fun e w' => e = .returned (.bool true) ∧ Below w.heap.size w w' := by
  have hB0 := (Below.refl w.heap.size w).alloc (Nat.le_refl _) (.cells #[.int .u8 97] 5 (1, 2))
  have hr0 : Row (w.alloc (.cells #[.int .u8 97] 5 (1, 2))) .u8 (some ⟨w.heap.size, 0, none⟩) 1 1 [97] := row_marked w .u8 _ _ [97] _ rfl 1 rfl (by unfold maxLen; omega)
  have hput := put5_any 1 10 _ 1 1 [97] _ hr0 (bytes_lit _ rfl)
  have hnew := fun W => new_any 10 W
  obtain ⟨L, hL⟩ : ∃ L, exB = L := ⟨_, rfl⟩
  have hlen := ex_len
  have h8 := ex_8
  have t5 := ex_take5
  have trd := ex_read
  have tjn := ex_rest
  have hPE := ex_put
  have hbL : Bytes exB := mem_bytes (F.put_bytes 1 [97] (by decide) (by decide) (by decide))
  rw [hL] at hlen h8 t5 trd tjn hPE hbL
  have HPUT : Hid (Calls Try.prog 10 #[.int .i64 1, .slice (some ⟨w.heap.size, 0, none⟩) 1 1, .int .i64 10] (w.alloc (.cells #[.int .u8 97] 5 (1, 2))) fun e w1 => ∃ bb bo C, e = .returned (.tuple #[.slice (some ⟨bb, bo, none⟩) 13 C, .int .i64 0]) ∧ Row w1 .u8 (some ⟨bb, bo, none⟩) 13 C L ∧ Below w.heap.size w w1) := Lib.hid (hput.mono fun e w1 h => by
    obtain ⟨A, C, e1, h1, h2⟩ := h
    rw [hPE] at e1 h1
    dsimp only at e1 h1
    rw [hlen] at e1 h1
    rcases h1.2.2.2 with h | ⟨bb, bo, rfl, _⟩
    · omega
    · exact ⟨bb, bo, C, e1, h1, hB0.trans (h2.mono hB0.size)⟩)
  obtain ⟨r5, hr5⟩ : ∃ r5, L.take 5 = r5 := ⟨_, rfl⟩
  have hl5 : r5.length = 5 := by rw [← hr5]; simp [hlen]
  rw [hr5] at t5 tjn
  have tk1 : F.take 10 0 [] r5 = ([], 0, r5) := by rw [F.take_first, t5]
  have tk2 : F.take 10 0 r5 (L.drop 5) = ([(1, [97])], 0, []) := by rw [F.take, if_pos rfl, tjn, trd]
  have tk3 : F.take 10 0 [] [1] = ([], 2, []) := by rw [F.take_first, ex_bad]
  have hb5 : Bytes r5 := hr5 ▸ bytes_take hbL 5
  have hbd : Bytes (L.drop 5) := bytes_drop hbL 5
  have hb1 : Bytes [1] := bytes_lit _ rfl
  have H8 := Lib.hid h8; have T1 := Lib.hid tk1; have T2 := Lib.hid tk2; have T3 := Lib.hid tk3; have HB5 := Lib.hid hb5; have HBD := Lib.hid hbd; have HB1 := Lib.hid hb1; have HR5 := Lib.hid hr5
  clear hput hlen h8 t5 trd tjn hPE hbL hr0 hL tk1 tk2 tk3 hb5 hbd hb1 hr5
  go_enter Try.func9, Try.ntmps9
  have kc := fun (w : World) (C : Array Value) (n c : Nat) => Lib.run_convert_bytes_const (P := Try.prog) w 22 5 C n c Try.underlying22 Try.underlying5
  go_wp2_with (first
    | (go_at_call 10; (with_reducible refine HPUT.out.mono ?_); rintro e w1 ⟨bb, bo, C, rfl, hr1, hB1⟩; obtain ⟨A5, hs5, hq5⟩ := sub_high (some ⟨bb, bo, none⟩) 13 C 5 (by omega) hr1.2.1; obtain ⟨A6, hs6, hq6⟩ := sub_low (some ⟨bb, bo, none⟩) 13 C 5 (by omega); rw [show ((5 : Nat) : Int) = 5 from rfl] at hs5 hs6; rw [show 13 - 5 = 8 from rfl] at hs6 hq6; have hbb : bb < w1.heap.size := row_lt hr1 _ rfl (by omega))
    | (go_at_call 16; (with_reducible refine (hnew _).mono ?_); intro e w2 h2; obtain ⟨rfl, hF2, hb2⟩ := h2; have hfs2 : FS w.heap.size w2 w1.heap.size 10 (.slice none 0 0) 0 [] := fs_new hF2 hB1.size; have hB2 := hB1.trans (hb2.mono hB1.size); have hr2 := Lib.hid (row_below hr1 hb2 rfl); clear hF2 hr1)
    | (go_at_call 13; (with_reducible refine (fs_take hfs2 hB2.size (HR5.out ▸ hq5 _ _ hr2.out) HB5.out (by omega) (by omega)).mono ?_); intro e w3 h3; rw [T1.out] at h3; obtain ⟨A3, C3, xs3, v3, rfl, own3, -, hfs3, past3, at3, hB3'⟩ := h3; have hB3 := hB2.trans hB3'; have hr3 := Lib.hid (rowr_past past3 hfs2 hr2.out (fun ad e h0 => by cases e; exact ⟨by simp; omega, by simp [Value.ownBlock]⟩)); have hn3 : Hid (∀ b, v3.ownBlock = some b → w1.heap.size ≤ b) := Lib.hid (own_above at3 (fun b hb => by cases hb) hb2.size); have h13 : w1.heap.size ≤ w3.heap.size := Nat.le_trans hb2.size past3.size; clear own3 at3 past3 hB3' hfs2 hr2)
    | (go_at_call 15; (with_reducible refine (fs_waits hfs3).mono ?_); rintro e w' ⟨rfl, rfl⟩)
    | (go_at_call 13; (with_reducible refine (fs_take hfs3 hB3.size (hq6 _ _ hr3.out) HBD.out (by omega) (by omega)).mono ?_); intro e w4 h4; rw [T2.out] at h4; obtain ⟨A4, C4, xs4, v4, rfl, own4, pays4, hfs4, past4, at4, hB4'⟩ := h4; have hB4 := hB3.trans hB4'; have hr4 := Lib.hid (rowr_past past4 hfs3 hr3.out (fun ad e h0 => by cases e; exact ⟨by simp; omega, fun h => by have := hn3.out _ h.symm; simp at this; omega⟩)); have hn4 : Hid (∀ b, v4.ownBlock = some b → w1.heap.size ≤ b) := Lib.hid (own_above at4 hn3.out h13); obtain ⟨ya, rfl, hya, hyg⟩ := pays_one pays4; obtain ⟨g4, cap4, hA4⟩ := ownsRow_succ own4; cases hA4; clear hB4' past4 hr3 at4 hfs3 pays4)
    | (go_at_call 14; (with_reducible refine (fs_closed hfs5).mono ?_); rintro e w' ⟨rfl, rfl⟩)
    | (go_at_call 13; (with_reducible refine (fs_take (fs_below hfs4 ((Below.refl _ w4).alloc (Nat.le_refl _) _)) (hB4.alloc hB4.size _).size (row_built w4 .u8 5 [1] #[.int .u8 1] rfl 1 rfl (by unfold maxLen; omega) _ rfl) HB1.out (by omega) (by omega)).mono ?_); intro e w5 h5; rw [T3.out] at h5; obtain ⟨A5', C5, xs5, v5, rfl, -, -, hfs5, past5, -, hB5'⟩ := h5; have hB5 := (hB4.alloc hB4.size _).trans hB5'; have hfa := fs_below hfs4 ((Below.refl _ w4).alloc (Nat.le_refl _) (.cells #[.int .u8 1] 5)); have hr5 := rowr_past past5 hfa (row_below hr4.out ((Below.refl _ w4).alloc (Nat.le_refl _) _) rfl) (fun ad e h0 => by cases e; exact ⟨by simp; omega, fun h => by have := hn4.out _ h.symm; simp at this; omega⟩); have ho5 := cells_own' (row_past hfa past5 (own4.alloc _) (by decide) (by decide)); have hy5 := conv_row (rowr_past past5 hfa (row_below hya ((Below.refl _ w4).alloc (Nat.le_refl _) _) rfl) (fun ad e _ => ⟨pg_ne hfs4 (hyg ad e), (hyg ad e).2.1⟩)); obtain ⟨hb8, hy0, hy1⟩ := ends5 hr5 ho5 H8.out; rw [show strOfNums [97] = ⟨#[97]⟩ from rfl, show ([97] : List Int).length = 1 from rfl] at hy5; rw [show ([97] : List Int).length = 1 from rfl] at hy1; clear hr5 ho5 hfa past5 hB5' hyg hya own4 hr4))
  go_ret
  exact ⟨rfl, hB5⟩
end Go.Proofs.Ytdnijiehfokagaa
