/- The document's layer 9: Parse. -/
import Derived.Test.YtclnephomnkieaaCsvMem
import Derived.Deep.DeepCutAuto
set_option linter.unusedVariables false
namespace Go.Proofs.Ytclnephomnkieaa
open Go.RowKit Go.Shelf
theorem row_cells1 (W : World) (v : Value) (t : TypeId) : Cells (W.alloc (.cells #[v] t)) 1 (some ⟨W.heap.size, 0, none⟩) 1 [v] := ⟨rfl, .inr ⟨_, rfl, cells_new _ [v] _⟩⟩
/-- the place and the error that Parse tells -/
def V.pos (n : Nat) (P : V.Res) : Nat := n - P.2.length
def V.err (P : V.Res) : Int := if P.1.isSome then 0 else 2
/-- what Parse tells -/
def Parsed (s : ByteArray) (w : World) (e : Ending) (w' : World) : Prop :=
  ∃ v, e = .returned (.tuple #[v, .int .i64 (V.pos s.size (V.parse (strB s)) : Nat), .int .i64 (V.err (V.parse (strB s)))]) ∧ (∃ C, FRows w.heap.size C w' v ((V.parse (strB s)).1.getD [])) ∧ Below w.heap.size w w'
/-- the state of the loop -/
structure PSt (s : ByteArray) (w : World) (L : Rws) (R : Fs) (F : List Int) (st : Nat) (bg : Bool) (q C : Nat) (W : World) (vo vr : Value) : Prop where
  rows : FRows w.heap.size C W vo L
  row : FRow C W vr R
  base : w.heap.size ≤ C
  room : C ≤ W.heap.size
  below : Below w.heap.size w W
  cont : V.cont st bg L R F ((strB s).drop q) = V.parse (strB s)
  zero : st = 0 → F = []
  fresh : bg = false → st = 0 ∧ R = []
  lens : L.length ≤ q ∧ R.length ≤ q ∧ F.length ≤ q
theorem strB_sub9 (s : ByteArray) (p q : Nat) : strB (s.extract p q) = ((strB s).take q).drop p := by
  unfold strB
  rw [ByteArray.data_extract, Array.toList_extract]
  simp only [List.extract, List.map_drop, List.map_take, List.drop_take]
theorem sub_str1 (s : ByteArray) (q : Nat) (h : q < s.size) : s.extract q (q + 1) = strOfNums [(s[q].toNat : Int)] := by
  have h1 := strOfNums_strB (s.extract q (q + 1))
  rw [← h1]
  congr 1
  have h2 := strB_sub9 s q (q + 1)
  rw [h2]
  have hl := strB_len s
  have hx := strB_at s q h
  rw [List.getElem?_eq_getElem (by omega)] at hx
  simp only [Option.getD_some] at hx
  rw [List.drop_take, show q + 1 - q = 1 by omega, List.drop_eq_getElem_cons (by omega)]
  simp [hx]
theorem drop_at (s : ByteArray) (q : Nat) (h : q < s.size) : (strB s).drop q = (s[q].toNat : Int) :: (strB s).drop (q + 1) := by
  have hl := strB_len s
  have hx := strB_at s q h
  rw [List.getElem?_eq_getElem (by omega)] at hx
  simp only [Option.getD_some] at hx
  rw [List.drop_eq_getElem_cons (by omega), hx]
set_option maxRecDepth 100000 in
set_option maxHeartbeats 16000000 in
theorem refParse9_any (s : ByteArray) (w : World) (hsm : s.size ≤ 1000000) :
    Calls Try.prog 11 #[.string s] w (Parsed s w) := by
  unfold Parsed
  obtain ⟨is, his, hs0, hs1, hs2⟩ := info_parts info_str
  obtain ⟨ir, hir, hr0, hr1, hr2⟩ := info_parts info_strs
  obtain ⟨P, hP⟩ : ∃ P, V.parse (strB s) = P := ⟨_, rfl⟩
  rw [hP]
  have HP := Lib.hid hP; clear hP
  have hlen := strB_len s
  have HLEN := Lib.hid hlen; clear hlen
  go_enter Try.func11, Try.ntmps11
  go_wp2
  go_loopw [5, 6, 7, 8, 9, 10, 11] (fun o r f st bg i _ wr => ∃ (L : Rws) (R : Fs) (F : List Int) (n : Nat) (g : Bool) (q C : Nat), q ≤ s.size ∧ n ≤ 3 ∧ i = .int .i64 (q : Int) ∧ f = .string (strOfNums F) ∧ st = .int .i64 (n : Int) ∧ bg = .bool g ∧ PSt s w L R F n g q C wr o r) (fun _ _ _ _ _ i _ _ => s.size - (intOf i).toNat)
  case atStart => exact ⟨[], [], [], 0, false, 0, w.heap.size, Nat.zero_le _, by omega, rfl, rfl, rfl, rfl, ⟨frows_nil _ _ _, frow_nil _ _, Nat.le_refl _, Nat.le_refl _, Below.refl _ _, by show V.glue [] (V.parse (strB s)) = _; rw [V.glue_nil], fun _ => rfl, fun _ => ⟨rfl, rfl⟩, ⟨Nat.zero_le _, Nat.zero_le _, Nat.zero_le _⟩⟩⟩
  case round =>
    obtain ⟨L, R, F, n, g, q, C, hq, hn3, rfl, rfl, rfl, rfl, HS⟩ := hrel
    obtain ⟨hl1, hl2, hl3⟩ := HS.lens
    have hF := sz_str F
    rcases Nat.lt_or_ge q s.size with hlt | hge
    · have hd : decide (q < s.size) = true := decide_eq_true hlt
      have hdrop := drop_at s q hlt
      have hsub := sub_str1 s q hlt
      have hu := u8_bd s[q]
      have hc1 : ¬ maxLen < (strOfNums F).size + 1 := by rw [hF]; unfold maxLen; omega
      have hap := strOfNums_append F [(s[q].toNat : Int)]
      rw [← hsub] at hap
      have HC := Lib.hid HS.cont
      have HDR := Lib.hid hdrop
      have HAP := Lib.hid hap
      clear hdrop hsub hap
      obtain ⟨x, hx⟩ : ∃ x : Int, (s[q].toNat : Int) = x := ⟨_, rfl⟩
      have HX := Lib.hid hx
      by_cases hst2 : n = 2
      · subst hst2
        by_cases h34 : (s[q].toNat : Int) = 34
        · have d2 : ((s[q].toNat : Int) == 34) = true := by simpa using h34
          have hcont : V.cont 3 g L R F ((strB s).drop (q + 1)) = P := by rw [← HP.out, ← HC.out, HDR.out, h34, V.cont_quote2]
          have HC2 := Lib.hid hcont
          clear hx hcont
          have H34 := Lib.hid h34; clear h34
          go_wp2
          go_roundw
          case rel => exact ⟨L, R, F, 3, g, q + 1, C, hlt, by omega, by go_num, rfl, rfl, rfl, ⟨HS.rows, HS.row, HS.base, HS.room, HS.below, HC2.out.trans HP.out.symm, (fun h => (by cases h)), (fun h => (by have := (HS.fresh h).1; cases this)), ⟨by omega, by omega, by omega⟩⟩⟩
          case measure => simp [intOf]; omega
        · have d2 : ((s[q].toNat : Int) == 34) = false := by simpa using h34
          have hcont : V.cont 2 g L R (F ++ [(s[q].toNat : Int)]) ((strB s).drop (q + 1)) = P := by rw [← HP.out, ← HC.out, HDR.out, V.cont_in2 _ _ _ _ _ _ h34]
          have HC2 := Lib.hid hcont
          clear hx hcont
          have H34 := Lib.hid h34; clear h34
          go_wp2
          go_roundw
          case rel => exact ⟨L, R, F ++ [(s[q].toNat : Int)], 2, g, q + 1, C, hlt, by omega, by go_num, by first | rfl | rw [HAP.out], rfl, rfl, ⟨HS.rows, HS.row, HS.base, HS.room, HS.below, HC2.out.trans HP.out.symm, (fun h => (by cases h)), (fun h => (by have := (HS.fresh h).1; cases this)), ⟨by omega, by omega, by simp; omega⟩⟩⟩
          case measure => simp [intOf]; omega
      · have hrow0 := HS.row
        obtain ⟨ar, nr, cr, rfl⟩ : ∃ a n c, u6 = Value.slice a n c := own_shape hrow0
        obtain ⟨ao, no, co, rfl⟩ : ∃ a n c, u5 = Value.slice a n c := by obtain ⟨us, h, _⟩ := HS.rows; exact own_shape h
        have hA0 := fun o : Obj => (Below.refl wr.heap.size wr).alloc (Nat.le_refl _) o
        have hrowA : (wr.alloc (.cells #[.string (strOfNums F)] 9)).ownsRow C 9 1 (.slice ar nr cr) R.length (strs R) := World.ownsRow.alloc hrow0 _
        have hends : ∀ r : List Int, r ≠ [] → V.Ends n g R F r := fun r hr => by
          have h1 := HS.zero
          have h2 := HS.fresh
          have : n = 0 ∨ n = 1 ∨ n = 3 := by omega
          rcases this with rfl | rfl | rfl
          · refine .inl ⟨rfl, h1 rfl, ?_⟩
            cases g with
            | true => exact .inl rfl
            | false => exact .inr ⟨(h2 rfl).2, hr⟩
          · exact .inr (.inl rfl)
          · exact .inr (.inr rfl)
        have HENDS := Lib.hid hends; clear hends
        have hn013 : n = 0 ∨ n = 1 ∨ n = 3 := by omega
        have hwr : wr.heap.size + 1 = (wr.alloc (.cells #[.string (strOfNums F)] 9)).heap.size := by simp
        clear hrow0
        by_cases h34 : (s[q].toNat : Int) = 34
        · have d2 : ((s[q].toNat : Int) == 34) = true := by simpa using h34
          rcases hn013 with rfl | rfl | rfl
          · have hF0 := HS.zero rfl
            have hcont : V.cont 2 true L R [] ((strB s).drop (q + 1)) = P := by
              have hE := HENDS.out (34 :: (strB s).drop (q + 1)) (by simp)
              rw [← HP.out, ← HC.out, HDR.out, h34, hF0, V.cont_quote0 g L R _ (by rcases hE with ⟨_, _, h⟩ | h | h; exact h; cases h; cases h)]
            have HC2 := Lib.hid hcont
            have HF0 := Lib.hid hF0
            clear hx hcont hF0
            have H34 := Lib.hid h34; clear h34
            go_wp2
            go_roundw
            case rel => exact ⟨L, R, F, 2, true, q + 1, C, hlt, by omega, by go_num, rfl, rfl, rfl, ⟨HS.rows, HS.row, HS.base, HS.room, HS.below, by rw [HF0.out]; exact HC2.out.trans HP.out.symm, (fun h => (by cases h)), (fun h => (by cases h)), ⟨by omega, by omega, by omega⟩⟩⟩
            case measure => simp [intOf]; omega
          · have hcont : (none, 34 :: (strB s).drop (q + 1)) = P := by rw [← HP.out, ← HC.out, HDR.out, h34, V.cont_quote1]
            have hPl : V.pos s.size P = q ∧ V.err P = 2 ∧ P.1 = none := by rw [← hcont]; refine ⟨?_, rfl, rfl⟩; simp [V.pos, HLEN.out]; omega
            have HPL := Lib.hid hPl
            have d44 : ((s[q].toNat : Int) == 44) = false := by simp; omega
            have d13 : ((s[q].toNat : Int) == 13) = false := by simp; omega
            have d10 : ((s[q].toNat : Int) == 10) = false := by simp; omega
            clear hx hcont hPl
            have H34 := Lib.hid h34; clear h34
            go_wp2
            go_ret3
            exact ⟨.slice none 0 0, by rw [HPL.out.1, HPL.out.2.1]; rfl, ⟨0, by rw [HPL.out.2.2]; exact frows_nil _ _ _⟩, HS.below⟩
          · have hcont : V.cont 2 g L R (F ++ [34]) ((strB s).drop (q + 1)) = P := by rw [← HP.out, ← HC.out, HDR.out, h34, V.cont_quote3]
            have hap2 : strOfNums F ++ ⟨#[34]⟩ = strOfNums (F ++ [34]) := by rw [← strOfNums_append]; rfl
            have HC2 := Lib.hid hcont
            have HAP2 := Lib.hid hap2
            clear hx hcont hap2
            have H34 := Lib.hid h34; clear h34
            go_wp2
            go_roundw
            case rel => exact ⟨L, R, F ++ [34], 2, g, q + 1, C, hlt, by omega, by go_num, by first | rfl | rw [HAP2.out], rfl, rfl, ⟨HS.rows, HS.row, HS.base, HS.room, HS.below, HC2.out.trans HP.out.symm, (fun h => (by cases h)), (fun h => (by have := (HS.fresh h).1; cases this)), ⟨by omega, by omega, by simp; omega⟩⟩⟩
            case measure => simp [intOf]; omega
        have d2 : ((s[q].toNat : Int) == 34) = false := by simpa using h34
        by_cases h44 : (s[q].toNat : Int) = 44
        · have d3 : ((s[q].toNat : Int) == 44) = true := by simpa using h44
          have hcont : V.cont 0 true L (R ++ [F]) [] ((strB s).drop (q + 1)) = P := by rw [← HP.out, ← HC.out, HDR.out, h44, V.cont_comma n g L R F _ (HENDS.out _ (by simp))]
          have HC2 := Lib.hid hcont
          clear hx hcont
          have H44 := Lib.hid h44; clear h44 h34
          rcases hn013 with rfl | rfl | rfl
          all_goals
            go_wp2_with (first | (at_builtin; refine wpList_append_at _ rfl _ _ 38 rfl C 9 is _ 1 16 Try.underlying38 his hs0 hs1 hs2 rfl (by decide) (.slice ar nr cr) _ _ rfl hrowA (some ⟨wr.heap.size, 0, none⟩) 1 1 [.string (strOfNums F)] rfl (row_cells1 _ _ _) (by simp [Value.oneCell']) (by unfold maxLen; omega) (by omega) (by simp; have := HS.room; omega) ?_; intro v' w2 hown2 hgrow2 _; have hrow2 := frow_push hown2; have hrows2 := frows_row (frows_below HS.rows (hA0 _)) hrowA (Nat.le_refl _) hgrow2; have hB2 : Below w.heap.size w w2 := (HS.below.alloc HS.below.size _).trans ((below_grown hgrow2 hrowA (by simp; have := HS.room; omega)).mono HS.base); have hC2 : C ≤ w2.heap.size := Nat.le_trans HS.room (Nat.le_trans (by simp) hgrow2.size)))
            go_roundw
            case rel => exact ⟨L, R ++ [F], [], 0, true, q + 1, C, hlt, by omega, by go_num, rfl, rfl, rfl, ⟨hrows2, hrow2, HS.base, hC2, hB2, HC2.out.trans HP.out.symm, (fun _ => rfl), (fun h => (by cases h)), ⟨by omega, by simp; omega, by simp⟩⟩⟩
            case measure => simp [intOf]; omega
        have d3 : ((s[q].toNat : Int) == 44) = false := by simpa using h44
        by_cases hcr : (s[q].toNat : Int) = 13 ∧ ∃ h : q + 1 < s.size, (s[q + 1].toNat : Int) = 10
        · obtain ⟨h13, hl, h10⟩ := hcr
          have d4 : ((s[q].toNat : Int) == 13) = true := by simpa using h13
          have d5 : decide ((q : Int) + 1 < (s.size : Int)) = true := decide_eq_true (by omega)
          have d5' : decide (q + 1 < s.size) = true := decide_eq_true hl
          have d6 : ((s[q + 1].toNat : Int) == 10) = true := by simpa using h10
          have hcont : V.cont 0 false (L ++ [R ++ [F]]) [] [] ((strB s).drop (q + 1 + 1)) = P := by
            rw [← HP.out, ← HC.out, HDR.out, h13, drop_at s (q + 1) hl, h10, V.cont_crlf n g L R F _ (HENDS.out _ (by simp))]
          have HC2 := Lib.hid hcont
          clear hx hcont
          have H13 := Lib.hid h13; have H10 := Lib.hid h10; clear h13 h10 h44 h34
          rcases hn013 with rfl | rfl | rfl
          all_goals
            go_wp2_with (first | (at_builtin; refine wpList_append_at _ rfl _ _ 38 rfl C 9 is _ 1 16 Try.underlying38 his hs0 hs1 hs2 rfl (by decide) (.slice ar nr cr) _ _ rfl hrowA (some ⟨wr.heap.size, 0, none⟩) 1 1 [.string (strOfNums F)] rfl (row_cells1 _ _ _) (by simp [Value.oneCell']) (by unfold maxLen; omega) (by omega) (by simp; have := HS.room; omega) ?_; intro v' w2 hown2 hgrow2 _; have hrow2 := frow_push hown2; have hrows2 := frows_row (frows_below HS.rows (hA0 _)) hrowA (Nat.le_refl _) hgrow2; have hB2 : Below w.heap.size w w2 := (HS.below.alloc HS.below.size _).trans ((below_grown hgrow2 hrowA (by simp; have := HS.room; omega)).mono HS.base); have hC2 : C ≤ w2.heap.size := Nat.le_trans HS.room (Nat.le_trans (by simp) hgrow2.size); obtain ⟨us, hus, husl, husr⟩ := hrows2; obtain ⟨a2, n2, c2, rfl⟩ := own_shape hrow2; have hA1 := fun o : Obj => (Below.refl w2.heap.size w2).alloc (Nat.le_refl _) o; have husA := hus.alloc (.cells #[.slice a2 n2 c2] 38)) | (at_builtin; refine wpList_append_at _ rfl _ _ 23 rfl w.heap.size 38 ir _ 1 24 Try.underlying23 hir hr0 hr1 hr2 rfl (by decide) (.slice ao no co) _ _ rfl husA (some ⟨w2.heap.size, 0, none⟩) 1 1 [.slice a2 n2 c2] rfl (row_cells1 _ _ _) (by simp [Value.oneCell']) (by unfold maxLen; omega) (by omega) (by simp; have := hB2.size; omega) ?_; intro v3 w3 hown3 hgrow3 _; have hrows3 := frows_push husA husl (fun i hi => by obtain ⟨u, h1, h2, h3⟩ := husr i hi; exact ⟨u, h1, frow_below h2 (hA1 _), h3⟩) (frow_below hrow2 (hA1 _)) HS.base hgrow3 hown3 (Nat.le_trans hC2 (by simp)); have hB3 : Below w.heap.size w w3 := (hB2.alloc hB2.size _).trans (below_grown hgrow3 husA (by simp; have := hB2.size; omega)); have hC3 := hgrow3.size))
            go_roundw
            case rel => exact ⟨L ++ [R ++ [F]], [], [], 0, false, q + 1 + 1, (w2.alloc (.cells #[.slice a2 n2 c2] 38)).heap.size, hl, by omega, by go_num, rfl, rfl, rfl, ⟨hrows3, frow_nil _ _, Nat.le_trans hB2.size (by simp), hC3, hB3, HC2.out.trans HP.out.symm, (fun _ => rfl), (fun _ => ⟨rfl, rfl⟩), ⟨by simp; omega, by simp, by simp⟩⟩⟩
            case measure => simp [intOf]; omega
        by_cases hbad : n = 3 ∨ (s[q].toNat : Int) = 13 ∨ (s[q].toNat : Int) = 10
        · have hend : V.endOK ((s[q].toNat : Int) :: (strB s).drop (q + 1)) = false := by
            unfold V.endOK
            split
            · rename_i heq; cases heq
            · rename_i heq; injection heq with heq _; exact absurd heq h44
            · rename_i heq
              injection heq with heq1 heq2
              exfalso
              rcases Nat.lt_or_ge (q + 1) s.size with h | h
              · rw [drop_at s (q + 1) h] at heq2
                injection heq2 with heq2 _
                exact hcr ⟨heq1, h, heq2⟩
              · rw [List.drop_eq_nil_of_le (by rw [HLEN.out]; exact h)] at heq2
                cases heq2
            · rfl
          have hcont : (none, (s[q].toNat : Int) :: (strB s).drop (q + 1)) = P := by
            rw [← HP.out, ← HC.out, HDR.out]
            refine (V.cont_bad n g L R F _ _ (HENDS.out _ (by simp)) h34 ?_ hend).symm
            rcases hbad with h | h | h
            · exact .inr h
            · exact .inl (by rw [h]; rfl)
            · exact .inl (by rw [h]; rfl)
          have hPl : V.pos s.size P = q ∧ V.err P = 2 ∧ P.1 = none := by rw [← hcont]; refine ⟨?_, rfl, rfl⟩; simp [V.pos, HLEN.out]; omega
          have HPL := Lib.hid hPl
          clear hx hcont hPl hend
          rcases Nat.lt_or_ge (q + 1) s.size with hl | hl
          · have d5 : decide ((q : Int) + 1 < (s.size : Int)) = true := decide_eq_true (by omega)
            have d5' : decide (q + 1 < s.size) = true := decide_eq_true hl
            by_cases h13 : (s[q].toNat : Int) = 13
            · have d4 : ((s[q].toNat : Int) == 13) = true := by simpa using h13
              have d6 : ((s[q + 1].toNat : Int) == 10) = false := by simp; intro h; exact hcr ⟨h13, hl, by omega⟩
              have H13 := Lib.hid h13
              clear h13 hbad hcr h44 h34
              rcases hn013 with rfl | rfl | rfl
              all_goals
                go_wp2
                go_ret3
                exact ⟨.slice none 0 0, by rw [HPL.out.1, HPL.out.2.1]; rfl, ⟨0, by rw [HPL.out.2.2]; exact frows_nil _ _ _⟩, HS.below⟩
            · have d4 : ((s[q].toNat : Int) == 13) = false := by simpa using h13
              rcases hbad with rfl | hb | hb
              · clear h13 hcr h44 h34 hn013
                go_wp2
                go_ret3
                exact ⟨.slice none 0 0, by rw [HPL.out.1, HPL.out.2.1]; rfl, ⟨0, by rw [HPL.out.2.2]; exact frows_nil _ _ _⟩, HS.below⟩
              · exact absurd hb h13
              · have d7 : ((s[q].toNat : Int) == 10) = true := by simpa using hb
                have H10 := Lib.hid hb
                clear h13 hcr h44 h34 hb
                rcases hn013 with rfl | rfl | rfl
                all_goals
                  go_wp2
                  go_ret3
                  exact ⟨.slice none 0 0, by rw [HPL.out.1, HPL.out.2.1]; rfl, ⟨0, by rw [HPL.out.2.2]; exact frows_nil _ _ _⟩, HS.below⟩
          · have d5 : decide ((q : Int) + 1 < (s.size : Int)) = false := decide_eq_false (by omega)
            have d5' : decide (q + 1 < s.size) = false := decide_eq_false (by omega)
            by_cases h13 : (s[q].toNat : Int) = 13
            · have d4 : ((s[q].toNat : Int) == 13) = true := by simpa using h13
              have H13 := Lib.hid h13
              clear h13 hbad hcr h44 h34
              rcases hn013 with rfl | rfl | rfl
              all_goals
                go_wp2
                go_ret3
                exact ⟨.slice none 0 0, by rw [HPL.out.1, HPL.out.2.1]; rfl, ⟨0, by rw [HPL.out.2.2]; exact frows_nil _ _ _⟩, HS.below⟩
            · have d4 : ((s[q].toNat : Int) == 13) = false := by simpa using h13
              rcases hbad with rfl | hb | hb
              · clear h13 hcr h44 h34 hn013
                go_wp2
                go_ret3
                exact ⟨.slice none 0 0, by rw [HPL.out.1, HPL.out.2.1]; rfl, ⟨0, by rw [HPL.out.2.2]; exact frows_nil _ _ _⟩, HS.below⟩
              · exact absurd hb h13
              · have d7 : ((s[q].toNat : Int) == 10) = true := by simpa using hb
                have H10 := Lib.hid hb
                clear h13 hcr h44 h34 hb
                rcases hn013 with rfl | rfl | rfl
                all_goals
                  go_wp2
                  go_ret3
                  exact ⟨.slice none 0 0, by rw [HPL.out.1, HPL.out.2.1]; rfl, ⟨0, by rw [HPL.out.2.2]; exact frows_nil _ _ _⟩, HS.below⟩
        · have hsp : V.sp (s[q].toNat : Int) = false := by unfold V.sp; simp; omega
          have hcont : V.cont 1 true L R (F ++ [(s[q].toNat : Int)]) ((strB s).drop (q + 1)) = P := by
            rw [← HP.out, ← HC.out, HDR.out, V.cont_plain n g L R F _ _ (HENDS.out _ (by simp)) (fun h => hbad (.inl h)) hsp]
          have HC2 := Lib.hid hcont
          have d4 : ((s[q].toNat : Int) == 13) = false := by simp; omega
          have d7 : ((s[q].toNat : Int) == 10) = false := by simp; omega
          have hn01 : n = 0 ∨ n = 1 := by omega
          clear hx hcont hsp hbad hcr h44 h34 hn013
          rcases hn01 with rfl | rfl
          all_goals
            go_wp2
            go_roundw
            case rel => exact ⟨L, R, F ++ [(s[q].toNat : Int)], 1, true, q + 1, C, hlt, by omega, by go_num, by first | rfl | rw [HAP.out], rfl, rfl, ⟨HS.rows, HS.row, HS.base, HS.room, HS.below, HC2.out.trans HP.out.symm, (fun h => (by cases h)), (fun h => (by cases h)), ⟨by omega, by omega, by simp; omega⟩⟩⟩
            case measure => simp [intOf]; omega
    · obtain rfl : q = s.size := by omega
      have hd : decide (s.size < s.size) = false := by simp
      have hdn : (strB s).drop s.size = [] := List.drop_eq_nil_of_le (by rw [HLEN.out]; exact Nat.le_refl _)
      have hc := HS.cont
      rw [hdn, HP.out] at hc
      by_cases hst2 : n = 2
      · subst hst2
        rw [V.cont_end2] at hc
        have hPl : V.pos s.size P = s.size ∧ V.err P = 2 ∧ P.1 = none := by rw [← hc]; exact ⟨by simp [V.pos], rfl, rfl⟩
        have HPL := Lib.hid hPl
        clear hc hPl hdn
        go_wp2
        go_ret3
        exact ⟨.slice none 0 0, by rw [HPL.out.1, HPL.out.2.1]; rfl, ⟨0, by rw [HPL.out.2.2]; exact frows_nil _ _ _⟩, HS.below⟩
      · have hn013 : n = 0 ∨ n = 1 ∨ n = 3 := by omega
        have e2 : ((n : Int) == 2) = false := by simp; omega
        cases g with
        | false =>
          obtain ⟨rfl, hR⟩ := HS.fresh rfl
          rw [hR, V.cont_end0] at hc
          have hPl : V.pos s.size P = s.size ∧ V.err P = 0 ∧ P.1 = some L := by rw [← hc]; exact ⟨by simp [V.pos], rfl, rfl⟩
          have HPL := Lib.hid hPl
          clear hc hPl hdn hR hn013 hst2
          go_wp2
          go_ret3
          exact ⟨_, by rw [HPL.out.1, HPL.out.2.1]; rfl, ⟨C, by rw [HPL.out.2.2]; exact HS.rows⟩, HS.below⟩
        | true =>
          rw [V.cont_end n L R F (by rcases hn013 with h | h | h; exact .inl ⟨h, HS.zero h⟩; exact .inr (.inl h); exact .inr (.inr h))] at hc
          have hPl : V.pos s.size P = s.size ∧ V.err P = 0 ∧ P.1 = some (L ++ [R ++ [F]]) := by rw [← hc]; exact ⟨by simp [V.pos], rfl, rfl⟩
          have HPL := Lib.hid hPl
          have hrow0 := HS.row
          obtain ⟨ar, nr, cr, rfl⟩ : ∃ a n c, u6 = Value.slice a n c := own_shape hrow0
          obtain ⟨ao, no, co, rfl⟩ : ∃ a n c, u5 = Value.slice a n c := by obtain ⟨us, h, _⟩ := HS.rows; exact own_shape h
          have hA0 := fun o : Obj => (Below.refl wr.heap.size wr).alloc (Nat.le_refl _) o
          have hrowA : (wr.alloc (.cells #[.string (strOfNums F)] 9)).ownsRow C 9 1 (.slice ar nr cr) R.length (strs R) := World.ownsRow.alloc hrow0 _
          clear hc hPl hdn hn013 hst2 hrow0
          go_wp2_with (first | (at_builtin; refine wpList_append_at _ rfl _ _ 38 rfl C 9 is _ 1 16 Try.underlying38 his hs0 hs1 hs2 rfl (by decide) (.slice ar nr cr) _ _ rfl hrowA (some ⟨wr.heap.size, 0, none⟩) 1 1 [.string (strOfNums F)] rfl (row_cells1 _ _ _) (by simp [Value.oneCell']) (by unfold maxLen; omega) (by omega) (by simp; have := HS.room; omega) ?_; intro v' w2 hown2 hgrow2 _; have hrow2 := frow_push hown2; have hrows2 := frows_row (frows_below HS.rows (hA0 _)) hrowA (Nat.le_refl _) hgrow2; have hB2 : Below w.heap.size w w2 := (HS.below.alloc HS.below.size _).trans ((below_grown hgrow2 hrowA (by simp; have := HS.room; omega)).mono HS.base); have hC2 : C ≤ w2.heap.size := Nat.le_trans HS.room (Nat.le_trans (by simp) hgrow2.size); obtain ⟨us, hus, husl, husr⟩ := hrows2; obtain ⟨a2, n2, c2, rfl⟩ := own_shape hrow2; have hA1 := fun o : Obj => (Below.refl w2.heap.size w2).alloc (Nat.le_refl _) o; have husA := hus.alloc (.cells #[.slice a2 n2 c2] 38)) | (at_builtin; refine wpList_append_at _ rfl _ _ 23 rfl w.heap.size 38 ir _ 1 24 Try.underlying23 hir hr0 hr1 hr2 rfl (by decide) (.slice ao no co) _ _ rfl husA (some ⟨w2.heap.size, 0, none⟩) 1 1 [.slice a2 n2 c2] rfl (row_cells1 _ _ _) (by simp [Value.oneCell']) (by unfold maxLen; omega) (by omega) (by simp; have := hB2.size; omega) ?_; intro v3 w3 hown3 hgrow3 _; have hrows3 := frows_push husA husl (fun i hi => by obtain ⟨u, h1, h2, h3⟩ := husr i hi; exact ⟨u, h1, frow_below h2 (hA1 _), h3⟩) (frow_below hrow2 (hA1 _)) HS.base hgrow3 hown3 (Nat.le_trans hC2 (by simp)); have hB3 : Below w.heap.size w w3 := (hB2.alloc hB2.size _).trans (below_grown hgrow3 husA (by simp; have := hB2.size; omega)); have hC3 := hgrow3.size))
          go_ret3
          exact ⟨_, by rw [HPL.out.1, HPL.out.2.1]; rfl, ⟨_, by rw [HPL.out.2.2]; exact hrows3⟩, hB3⟩
end Go.Proofs.Ytclnephomnkieaa
