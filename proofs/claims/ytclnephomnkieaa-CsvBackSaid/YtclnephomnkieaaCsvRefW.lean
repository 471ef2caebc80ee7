/- The document's layer 9: Print; what rows that are read come to. -/
import Derived.Test.YtclnephomnkieaaCsvRefF
import Derived.Test.YtclnephomnkieaaCsvRefS
set_option linter.unusedVariables false
namespace Go.Proofs.Ytclnephomnkieaa
open Go.RowKit Go.Shelf
namespace V
def okRows (L : List (List (List Int))) : Bool := L.all fun r => decide (r ≠ [])
/-- what Print tells -/
def prt (L : List (List (List Int))) : List Int × Int := if okRows L then (text L, 0) else ([], 1)
theorem okRows_iff (L : List (List (List Int))) : okRows L = true ↔ ∀ r ∈ L, r ≠ [] := by
  unfold okRows; rw [List.all_eq_true]; simp
theorem rtext_snoc (l : List (List Int)) (f : List Int) : rtext (l ++ [f]) = if l = [] then ftext f else rtext l ++ 44 :: ftext f := by
  induction l with
  | nil => rfl
  | cons a l ih =>
    cases l with
    | nil => rfl
    | cons b l =>
      rw [if_neg (by simp)] at ih ⊢
      have h1 : a :: b :: l ++ [f] = a :: b :: (l ++ [f]) := rfl
      have h2 : b :: l ++ [f] = b :: (l ++ [f]) := rfl
      rw [h2] at ih
      rw [h1]
      simp only [rtext]
      rw [ih]
      simp
theorem rtext_step (l : List (List Int)) (k : Nat) (h : k < l.length) : rtext (l.take (k + 1)) = rtext (l.take k) ++ ((if k = 0 then [] else [44]) ++ ftext (l[k]?.getD [])) := by
  rw [List.take_add_one, List.getElem?_eq_getElem h]
  show rtext (l.take k ++ [l[k]]) = _
  rw [rtext_snoc]
  by_cases hk : k = 0
  · subst hk; simp [rtext]
  · have : l.take k ≠ [] := fun e => by have h5 := congrArg List.length e; rw [List.length_take, List.length_nil] at h5; omega
    rw [if_neg this, if_neg hk]; rfl
theorem text_step (L : List (List (List Int))) (j : Nat) (h : j < L.length) : text (L.take (j + 1)) = text (L.take j) ++ (rtext (L[j]?.getD []) ++ [13, 10]) := by
  rw [List.take_add_one, List.getElem?_eq_getElem h, text_append]
  simp [text]
theorem ftext_len (f : List Int) : (ftext f).length ≤ 2 * f.length + 2 := by
  have := dbl_len f
  unfold ftext
  split
  · omega
  · simp; omega
theorem rtext_fsz (l : List (List Int)) : (rtext l).length ≤ 3 * fsz l := by
  induction l with
  | nil => simp [rtext]
  | cons f l ih =>
    have hf := ftext_len f
    have he : fsz (f :: l) = 1 + f.length + fsz l := by simp [fsz]
    cases l with
    | nil => simp only [rtext] at ih ⊢; rw [he]; simp [fsz]; omega
    | cons g l =>
      simp only [rtext, List.length_append, List.length_cons] at ih ⊢
      rw [he]; omega
theorem text_tot (L : List (List (List Int))) : (text L).length ≤ 3 * tot L := by
  induction L with
  | nil => simp [text]
  | cons r L ih =>
    have hr := rtext_fsz r
    have he : tot (r :: L) = 1 + fsz r + tot L := by simp [tot]
    have ht : text (r :: L) = rtext r ++ [13, 10] ++ text L := by simp [text]
    rw [he, ht]
    simp; omega
theorem len_fsz (l : List (List Int)) : l.length ≤ fsz l := by
  induction l with
  | nil => simp [fsz]
  | cons f l ih => have he : fsz (f :: l) = 1 + f.length + fsz l := by simp [fsz]
                   rw [he, List.length_cons]; omega
theorem mem_fsz (l : List (List Int)) (f : List Int) (h : f ∈ l) : f.length + 1 ≤ fsz l := by
  induction l with
  | nil => simp at h
  | cons g l ih =>
    have he : fsz (g :: l) = 1 + g.length + fsz l := by simp [fsz]
    rw [he]
    rcases List.mem_cons.1 h with rfl | h
    · omega
    · have := ih h; omega
theorem len_tot (L : List (List (List Int))) : L.length ≤ tot L := by
  induction L with
  | nil => simp [tot]
  | cons r L ih => have he : tot (r :: L) = 1 + fsz r + tot L := by simp [tot]
                   rw [he, List.length_cons]; omega
theorem mem_tot (L : List (List (List Int))) (r : List (List Int)) (h : r ∈ L) : fsz r + 1 ≤ tot L := by
  induction L with
  | nil => simp at h
  | cons g L ih =>
    have he : tot (g :: L) = 1 + fsz g + tot L := by simp [tot]
    rw [he]
    rcases List.mem_cons.1 h with rfl | h
    · omega
    · have := ih h; omega
/-- what is read is no greater than the text -/
theorem quoted_size : ∀ (n : Nat) (r : List Int), r.length ≤ n → ∀ f b, quoted r = some (f, b) → f.length + b.length < r.length ∧ ∀ x ∈ f, x ∈ r := by
  intro n
  induction n with
  | zero =>
    intro r h f b hq
    have : r = [] := List.length_eq_zero_iff.1 (by omega)
    subst this; unfold quoted at hq; cases hq
  | succ n ih =>
    intro r h f b hq
    cases r with
    | nil => unfold quoted at hq; cases hq
    | cons x r =>
      unfold quoted at hq
      by_cases hx : x = 34
      · rw [if_pos hx] at hq
        split at hq
        · rename_i t
          cases ht : quoted t with
          | none => rw [ht] at hq; cases hq
          | some p =>
            rw [ht] at hq
            simp only [Option.map_some, Option.some.injEq, Prod.mk.injEq] at hq
            have h1 := ih t (by simp at h; omega) p.1 p.2 ht
            rw [← hq.1, ← hq.2]
            refine ⟨by simp; omega, fun y hy => ?_⟩
            rcases List.mem_cons.1 hy with rfl | hy
            · simp
            · have := h1.2 y hy; simp [this]
        · simp only [Option.some.injEq, Prod.mk.injEq] at hq
          rw [← hq.1, ← hq.2]; simp
      · rw [if_neg hx] at hq
        cases ht : quoted r with
        | none => rw [ht] at hq; cases hq
        | some p =>
          rw [ht] at hq
          simp only [Option.map_some, Option.some.injEq, Prod.mk.injEq] at hq
          have h1 := ih r (by simp at h; omega) p.1 p.2 ht
          rw [← hq.1, ← hq.2]
          refine ⟨by simp; omega, fun y hy => ?_⟩
          rcases List.mem_cons.1 hy with rfl | hy
          · simp
          · have := h1.2 y hy; simp [this]
theorem quoted_rest : ∀ (n : Nat) (r : List Int), r.length ≤ n → ∀ f b, quoted r = some (f, b) → ∃ k, b = r.drop k := by
  intro n
  induction n with
  | zero =>
    intro r h f b hq
    have : r = [] := List.length_eq_zero_iff.1 (by omega)
    subst this; unfold quoted at hq; cases hq
  | succ n ih =>
    intro r h f b hq
    cases r with
    | nil => unfold quoted at hq; cases hq
    | cons x r =>
      unfold quoted at hq
      by_cases hx : x = 34
      · rw [if_pos hx] at hq
        split at hq
        · rename_i t
          cases ht : quoted t with
          | none => rw [ht] at hq; cases hq
          | some p =>
            rw [ht] at hq
            simp only [Option.map_some, Option.some.injEq, Prod.mk.injEq] at hq
            obtain ⟨k, hk⟩ := ih t (by simp at h; omega) p.1 p.2 ht
            exact ⟨k + 2, by rw [← hq.2, hk]; rfl⟩
        · simp only [Option.some.injEq, Prod.mk.injEq] at hq
          exact ⟨1, by rw [← hq.2]; rfl⟩
      · rw [if_neg hx] at hq
        cases ht : quoted r with
        | none => rw [ht] at hq; cases hq
        | some p =>
          rw [ht] at hq
          simp only [Option.map_some, Option.some.injEq, Prod.mk.injEq] at hq
          obtain ⟨k, hk⟩ := ih r (by simp at h; omega) p.1 p.2 ht
          exact ⟨k + 1, by rw [← hq.2, hk]; rfl⟩
theorem field_size (r f b : List Int) (h : field r = (some f, b)) : f.length + b.length ≤ r.length ∧ (∀ x ∈ f, x ∈ r) ∧ ∃ k, b = r.drop k := by
  unfold field at h
  split at h
  · rename_i t
    split at h
    · cases h
    · rename_i f' b' hq
      split at h
      · injection h with h1 h2
        injection h1 with h1
        have h3 := quoted_size _ t (Nat.le_refl _) f' b' hq
        obtain ⟨k, hk⟩ := quoted_rest _ t (Nat.le_refl _) f' b' hq
        rw [← h1, ← h2]
        exact ⟨by simp; omega, fun x hx => List.mem_cons_of_mem _ (h3.2 x hx), k + 1, by rw [hk]; rfl⟩
      · cases h
  · split at h
    · injection h with h1 h2
      injection h1 with h1
      have h3 : bare r ++ behind r = r := List.takeWhile_append_dropWhile
      have h4 := congrArg List.length h3
      rw [List.length_append] at h4
      rw [← h1, ← h2]
      refine ⟨by omega, fun x hx => by rw [← h3]; exact List.mem_append_left _ hx, (bare r).length, ?_⟩
      have h5 := List.drop_left (l₁ := bare r) (l₂ := behind r)
      rw [h3] at h5
      exact h5.symm
    · cases h
theorem row_size (n : Nat) : ∀ (r : List Int) (fs : List (List Int)) (b : List Int), row n r = (some fs, b) → fsz fs + 2 * b.length ≤ 2 * r.length + 1 ∧ (∀ f ∈ fs, ∀ x ∈ f, x ∈ r) ∧ ∃ k, b = r.drop k := by
  induction n with
  | zero => intro r fs b h; cases h
  | succ n ih =>
    intro r fs b h
    unfold row at h
    split at h
    · cases h
    · rename_i f c heq
      have hf := field_size r f _ heq
      simp only [List.length_cons] at hf
      split at h
      · cases h
      · rename_i gs d hd
        have h3 := ih c gs d hd
        injection h with h1 h2
        injection h1 with h1
        rw [← h1, ← h2]
        obtain ⟨k, hk⟩ := hf.2.2
        obtain ⟨m, hm⟩ := h3.2.2
        have hc : c = r.drop (k + 1) := by rw [← List.drop_drop, ← hk]; rfl
        refine ⟨by have : fsz (f :: gs) = 1 + f.length + fsz gs := by simp [fsz]
                   rw [this]; omega, fun g hg x hx => ?_, k + 1 + m, by rw [hm, hc, List.drop_drop]⟩
        rcases List.mem_cons.1 hg with rfl | hg
        · exact hf.2.1 x hx
        · have := h3.2.1 g hg x hx
          rw [hc] at this
          exact List.mem_of_mem_drop this
    · rename_i f c heq
      have hf := field_size r f _ heq
      simp only [List.length_cons] at hf
      injection h with h1 h2
      injection h1 with h1
      rw [← h1, ← h2]
      obtain ⟨k, hk⟩ := hf.2.2
      refine ⟨by simp [fsz]; omega, fun g hg x hx => ?_, k + 2, by rw [← List.drop_drop, ← hk]; rfl⟩
      have : g = f := by simpa using hg
      rw [this] at hx
      exact hf.2.1 x hx
    · rename_i f c _ _ heq
      have hf := field_size r f _ heq
      injection h with h1 h2
      injection h1 with h1
      rw [← h1, ← h2]
      refine ⟨by simp [fsz]; omega, fun g hg x hx => ?_, r.length, by simp⟩
      have : g = f := by simpa using hg
      rw [this] at hx
      exact hf.2.1 x hx
theorem rows_size (n : Nat) : ∀ (r : List Int) (x : List (List (List Int))) (c : List Int), rows n r = (some x, c) → tot x ≤ 4 * r.length ∧ ∀ y ∈ x, ∀ f ∈ y, ∀ z ∈ f, z ∈ r := by
  induction n with
  | zero => intro r x c h; cases h
  | succ n ih =>
    intro r x c h
    unfold rows at h
    split at h
    · injection h with h1 h2; injection h1 with h1; rw [← h1]; simp [tot]
    · rename_i hr
      split at h
      · cases h
      · rename_i y b heq
        have hlt := row_lt _ r y b heq hr
        have hs := row_size _ r y b heq
        split at h
        · cases h
        · rename_i xs d hd
          have h3 := ih b xs d hd
          injection h with h1 h2
          injection h1 with h1
          rw [← h1]
          have : tot (y :: xs) = 1 + fsz y + tot xs := by simp [tot]
          refine ⟨by rw [this]; omega, fun g hg f hf z hz => ?_⟩
          rcases List.mem_cons.1 hg with rfl | hg
          · exact hs.2.1 f hf z hz
          · obtain ⟨k, hk⟩ := hs.2.2
            have := h3.2 g hg f hf z hz
            rw [hk] at this
            exact List.mem_of_mem_drop this
theorem parse_size (r : List Int) (x : List (List (List Int))) (c : List Int) (h : parse r = (some x, c)) : tot x ≤ 4 * r.length ∧ ∀ y ∈ x, ∀ f ∈ y, ∀ z ∈ f, z ∈ r := rows_size _ r x c h
end V
/-- all fields are of bytes -/
def BytesR (L : Rws) : Prop := ∀ r ∈ L, ∀ f ∈ r, ∀ x ∈ f, 0 ≤ x ∧ x ≤ 255
set_option maxRecDepth 100000 in
set_option maxHeartbeats 8000000 in
theorem refPrint9_any (u : Value) (L : Rws) (w : World) (hu : SRows w u L) (hT : V.tot L ≤ 100000) (hBy : BytesR L) :
    Calls Try.prog 15 #[u] w fun e w' => e = .returned (.tuple #[.string (strOfNums (V.prt L).1), .int .i64 (V.prt L).2]) ∧ Below w.heap.size w w' := by
  obtain ⟨au, cu, rfl, hcu, hcum, hxu⟩ := hu
  have hl := V.len_tot L
  have hF : ∀ (f : List Int) w, f.length ≤ 100000 → (∀ x ∈ f, 0 ≤ x ∧ x ≤ 255) → Calls Try.prog 17 #[.string (strOfNums f)] w fun e w' => e = .returned (.string (strOfNums (V.ftext f))) ∧ Below w.heap.size w w' := fun f w h1 h2 => by
    have h := refField_any (strOfNums f) w (by rw [sz_str]; omega)
    rw [strB_strOfNums f h2] at h
    exact h
  have HF := Lib.hid hF; clear hF
  have HBY := Lib.hid hBy; clear hBy
  obtain ⟨P, hP⟩ : ∃ P, V.prt L = P := ⟨_, rfl⟩
  rw [hP]
  have HP := Lib.hid hP; clear hP
  go_enter Try.func15, Try.ntmps15
  go_wp2
  go_loopw [4, 5, 6] (fun o i _ wr => ∃ j : Nat, j ≤ L.length ∧ i = .int .i64 (j : Int) ∧ o = .string (strOfNums (V.text (L.take j))) ∧ Hid (∀ r ∈ L.take j, r ≠ []) ∧ Below w.heap.size w wr) (fun _ i _ _ => L.length - (intOf i).toNat)
  case atStart => exact ⟨0, Nat.zero_le _, rfl, rfl, Lib.hid (by simp), Below.refl _ _⟩
  case round =>
    obtain ⟨j, hj, rfl, rfl, HN, hBr⟩ := hrel
    rcases Nat.lt_or_ge j L.length with hlt | hge
    · have hd : decide (j < L.length) = true := by simpa using hlt
      have hne : L ≠ [] := fun h => by rw [h] at hlt; simp at hlt
      obtain ⟨b, off, rfl, hc⟩ := hxu.resolve_left hne
      obtain ⟨ru, x0, hru⟩ := hc j hlt
      have hmem : L[j]?.getD [] ∈ L := by rw [List.getElem?_eq_getElem hlt]; exact List.getElem_mem _
      have hts := V.text_step L j hlt
      have htl : (V.text (L.take j)).length ≤ 300000 := by have h1 := V.text_tot (L.take j); have h2 := V.tot_take L j; omega
      have htl2 : (V.text (L.take (j + 1))).length ≤ 300000 := by have h1 := V.text_tot (L.take (j + 1)); have h2 := V.tot_take L (j + 1); omega
      have hnj : (∀ r ∈ L.take j, r ≠ []) → L[j]?.getD [] ≠ [] → ∀ r ∈ L.take (j + 1), r ≠ [] := fun h1 h2 r hr => by
        rw [List.take_add_one, List.getElem?_eq_getElem hlt] at hr
        rw [List.getElem?_eq_getElem hlt] at h2
        rcases List.mem_append.1 hr with hr | hr
        · exact h1 r hr
        · have : r = L[j] := by simpa using hr
          rw [this]; exact h2
      have hms := V.mem_tot L _ hmem
      have hby := HBY.out _ hmem
      have hno : L[j]?.getD [] = [] → V.prt L = ([], 1) := fun h => by
        unfold V.prt
        rw [if_neg (fun h2 => (V.okRows_iff L).1 h2 _ hmem h)]
      obtain ⟨r, hr⟩ : ∃ r, L[j]?.getD [] = r := ⟨_, rfl⟩
      rw [hr] at hru hts hms hby hnj hno
      obtain ⟨a, c, rfl, h1, h2, hxr⟩ := hru
      have hrl := V.len_fsz r
      obtain ⟨X, hX⟩ : ∃ X, V.text (L.take j) = X := ⟨_, rfl⟩
      rw [hX] at hts htl ⊢
      have hsX := sz_str X
      have z0 := cell_kept hBr x0
      have HTS := Lib.hid hts; have HX := Lib.hid x0; have HBY2 := Lib.hid hby; have HNJ := Lib.hid hnj; have HNO := Lib.hid hno
      clear hc hr hxu hne x0 hts hby hnj hno hmem hX
      rcases Nat.eq_zero_or_pos r.length with hr0 | hrp
      · have hre : r = [] := List.length_eq_zero_iff.1 hr0
        have d1 : ((r.length : Int) == 0) = true := beq_iff_eq.2 (by omega)
        have hPv : P = ([], 1) := by rw [← HP.out]; exact HNO.out hre
        subst hPv
        clear hre hr0 hxr
        go_wp2
        go_ret2
        exact ⟨rfl, hBr⟩
      have d1 : ((r.length : Int) == 0) = false := beq_eq_false_iff_ne.2 (by omega)
      go_wp2
      clear z0
      go_loopw [4, 6] (fun o i wq => ∃ k : Nat, k ≤ r.length ∧ i = .int .i64 (k : Int) ∧ o = .string (strOfNums (X ++ V.rtext (r.take k))) ∧ Below w.heap.size w wq) (fun _ i _ => r.length - (intOf i).toNat)
      case atStart => exact ⟨0, Nat.zero_le _, rfl, by simp [V.rtext], hBr⟩
      case round =>
        obtain ⟨k, hk, rfl, rfl, hBq⟩ := hrel
        have z0 := cell_kept hBq HX.out
        have hfk : (V.rtext (r.take k)).length ≤ 300000 := by have h1 := V.rtext_fsz (r.take k); have h2 := V.fsz_take r k; omega
        have hsO := sz_str (X ++ V.rtext (r.take k))
        rw [List.length_append] at hsO
        rcases Nat.lt_or_ge k r.length with hlt2 | hge2
        · have hd2 : decide (k < r.length) = true := by simpa using hlt2
          have hne : r ≠ [] := fun h => by rw [h] at hlt2; simp at hlt2
          obtain ⟨p, o, rfl, he⟩ := hxr.resolve_left hne
          have t0 := cell_kept hBq (he k hlt2)
          have hmem2 : r[k]?.getD [] ∈ r := by rw [List.getElem?_eq_getElem hlt2]; exact List.getElem_mem _
          have hrs := V.rtext_step r k hlt2
          have hfl := V.mem_fsz r _ hmem2
          have hfb := HBY2.out _ hmem2
          obtain ⟨f, hf⟩ : ∃ f, r[k]?.getD [] = f := ⟨_, rfl⟩
          rw [hf] at t0 hrs hfl hfb
          have cF := fun w => HF.out f w (by omega) hfb
          have hft := V.ftext_len f
          have hfs := sz_str (V.ftext f)
          obtain ⟨O, hO⟩ : ∃ O, strOfNums (X ++ V.rtext (r.take k)) = O := ⟨_, rfl⟩
          obtain ⟨F, hFe⟩ : ∃ F, strOfNums (V.ftext f) = F := ⟨_, rfl⟩
          rw [hO] at hsO ⊢
          rw [hFe] at hfs cF
          have hnext : strOfNums (X ++ V.rtext (r.take (k + 1))) = O ++ ((if k = 0 then ⟨#[]⟩ else ⟨#[44]⟩) ++ F) := by
            rw [hrs, ← hO, ← hFe, ← List.append_assoc, ← strOfNums_append (X ++ V.rtext (r.take k)), ← strOfNums_append (if k = 0 then [] else [44])]
            congr 2
            split <;> rfl
          have HNX := Lib.hid hnext
          clear hxr he hne hf hrs hfb hnext hO hFe hmem2
          rcases Nat.eq_zero_or_pos k with hk0 | hkp
          · subst hk0
            simp only [Nat.add_zero] at t0
            have d3 : decide (0 < 0) = false := by simp
            have hnx : strOfNums (X ++ V.rtext (r.take (0 + 1))) = O ++ F := by rw [HNX.out, if_pos rfl]; congr 1
            have HN2 := Lib.hid hnx
            clear hnx
            go_wp2_with (go_at_call 17; (with_reducible refine (cF _).mono ?_); rintro e w1 ⟨rfl, hB1⟩)
            go_roundw
            case rel => exact ⟨0 + 1, hlt2, by go_num, by first | rfl | rw [HN2.out], hBq.trans (hB1.mono hBq.size)⟩
            case measure => simp [intOf]; omega
          · have d3 : decide (0 < k) = true := decide_eq_true hkp
            have hnx : strOfNums (X ++ V.rtext (r.take (k + 1))) = O ++ ⟨#[44]⟩ ++ F := by rw [HNX.out, if_neg (by omega), ByteArray.append_assoc]
            have HN2 := Lib.hid hnx
            clear hnx
            go_wp2_with (go_at_call 17; (with_reducible refine (cF _).mono ?_); rintro e w1 ⟨rfl, hB1⟩)
            go_roundw
            case rel => exact ⟨k + 1, hlt2, by go_num, by first | rfl | rw [HN2.out], hBq.trans (hB1.mono hBq.size)⟩
            case measure => simp [intOf]; omega
        · obtain rfl : k = r.length := by omega
          have hd2 : decide (r.length < r.length) = false := by simp
          rw [List.take_length] at hsO hfk ⊢
          have hnx : strOfNums (V.text (L.take (j + 1))) = strOfNums (X ++ V.rtext r) ++ ⟨#[13, 10]⟩ := by
            rw [HTS.out, ← List.append_assoc, ← strOfNums_append (X ++ V.rtext r)]; rfl
          have HN2 := Lib.hid hnx
          have hrne : r ≠ [] := fun h => by rw [h] at hrp; simp at hrp
          have HRN := Lib.hid hrne
          clear hnx hrne hxr
          go_wp2
          go_roundw
          case rel => exact ⟨j + 1, hlt, by go_num, by rw [HN2.out], Lib.hid (HNJ.out HN.out HRN.out), hBq⟩
          case measure => simp [intOf]; omega
    · obtain rfl : j = L.length := by omega
      have hd : decide (L.length < L.length) = false := by simp
      have hok : V.prt L = (V.text L, 0) := by
        have h1 := HN.out
        rw [List.take_length] at h1
        unfold V.prt
        rw [if_pos ((V.okRows_iff L).2 h1)]
      have hPv : P = (V.text L, 0) := by rw [← HP.out, hok]
      subst hPv
      rw [List.take_length]
      clear hok
      go_wp2
      go_ret2
      exact ⟨rfl, hBr⟩
end Go.Proofs.Ytclnephomnkieaa
