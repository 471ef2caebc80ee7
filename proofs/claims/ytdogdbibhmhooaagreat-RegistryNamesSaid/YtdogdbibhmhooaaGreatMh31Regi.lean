/- Layer 6: what is put is read again, and what is read was put. No walk. -/
import Derived.Test.YtdogdbibhmhooaaGreatMh9Regi
import Derived.Test.YtdogdbibhmhooaaGreatMh10Regi
import Derived.Test.YtdogdbibhmhooaaGreatMh6Regi
import Derived.Test.YtdogdbibhmhooaaGreatMh30Regi
namespace Go.Proofs.YtdogdbibhmhooaaGreat
open Go.RowKit Go.Shelf
theorem num_app (l r : List Int) : Bn.num l.length (some (l ++ r)) = (Bn.jn l, some r) := by
  simp [Bn.num]
theorem rByte_cons (x : Int) (r : List Int) : Bn.rByte (some (x :: r)) = (x.toNat, some r) := by
  have := num_app [x] r
  simpa [Bn.rByte, Bn.jn] using this
theorem rNum_put (m : Nat) (hm : m ≤ 2147483647) (r : List Int) : Bn.rNum (some (Bn.spl m 4 ++ r)) = (m, some r) := by
  have h := num_app (Bn.spl m 4) r
  rw [Bn.spl_len, Bn.jn_spl, Nat.mod_eq_of_lt (by omega)] at h
  unfold Bn.rNum
  rw [h, if_neg (by show ¬ 2147483647 < m; omega)]
theorem rLong_put (n : Int) (hn : I64 n) (r : List Int) : Bn.rLong (some (spl64 n ++ r)) = (n, some r) := by
  have h := num_app (spl64 n) r
  unfold I64 at hn
  have hl : (spl64 n).length = 8 := by simp [spl64, Bn.spl_len]
  rw [hl] at h
  unfold Bn.rLong
  rw [h]
  have hw : ((IntKind.u64.wrap n).toNat : Int) = IntKind.u64.wrap n := by rw [IntKind.wrap_u64]; omega
  have hlt : (IntKind.u64.wrap n).toNat < 256 ^ 8 := by
    have : IntKind.u64.wrap n < 18446744073709551616 := by rw [IntKind.wrap_u64]; omega
    have e : (256 : Nat) ^ 8 = 18446744073709551616 := by decide
    omega
  simp only [spl64, Bn.jn_spl, Nat.mod_eq_of_lt hlt]
  rw [hw]
  have : IntKind.i64.wrap (IntKind.u64.wrap n) = n := by rw [IntKind.wrap_u64, IntKind.wrap_i64]; omega
  rw [this]
theorem rText_put (s : ByteArray) (hs : s.size ≤ 2147483647) (r : List Int) : Bn.rText (some (Bn.spl s.size 4 ++ strB s ++ r)) = (s, some r) := by
  unfold Bn.rText
  rw [List.append_assoc, rNum_put _ hs]
  have hl := strB_len s
  simp only [Bn.txt]
  rw [if_pos (by simp; omega), List.take_append_of_le_length (by omega), List.drop_append_of_le_length (by omega), ← hl, List.take_length, List.drop_length, strOfNums_strB, List.nil_append]
theorem rep_put (g : Bn.St → PV × Bn.St) (l : List PV) (r : List Int) (hg : ∀ y ∈ l, ∀ r, g (some (putV y ++ r)) = (y, some r)) : ∀ i, i ≤ l.length → Bn.rep g i (some (putL l ++ r)) = (l.take i, some (putL (l.drop i) ++ r)) := by
  intro i
  induction i with
  | zero => intro _; simp [Bn.rep]
  | succ i ih =>
    intro hi
    have h := ih (by omega)
    have hy : l[i]? = some l[i] := List.getElem?_eq_getElem hi
    have hd : l.drop i = l[i] :: l.drop (i + 1) := List.drop_eq_getElem_cons hi
    simp only [Bn.rep]
    rw [h, hd]
    simp only [putL, List.append_assoc]
    rw [hg _ (List.getElem_mem hi)]
    simp only [List.take_add_one, hy, Option.toList_some]
theorem empty_str {s : ByteArray} (h : s.toList.isEmpty = true) : s = ⟨#[]⟩ := empty_eq h (by rw [toList_data]; rfl)
theorem node_put (lst : Nat → Bn.St → List PV × Bn.St) (k n : Int) (s : ByteArray) (l : List PV) (r : List Int) (ho : okV (.mk k n s l) = true) (hn : I64 n) (hl : k = 5 → lst l.length (some (putL l ++ r)) = (l, some r)) :
    Bn.node lst (some (putV (.mk k n s l) ++ r)) = (.mk k n s l, some r) := by
  obtain ⟨⟨hk0, hk5⟩, hn1, hs, hl5, hl20, _, hse, hn0⟩ := ok_parts ho
  have hpv : putV (.mk k n s l) ++ r = k :: ((if k = 1 then [n] else if k = 2 then spl64 n else if k = 3 ∨ k = 4 then Bn.spl s.size 4 ++ strB s else if k = 5 then Bn.spl l.length 4 ++ putL l else []) ++ r) := by simp [putV]
  rw [hpv]
  unfold Bn.node
  rw [rByte_cons]
  dsimp only
  have hkn : ((k.toNat : Nat) : Int) = k := by omega
  by_cases k1 : k = 1
  · subst k1
    have e1 := hl5 (by omega)
    have e2 := empty_str (hse (by omega) (by omega))
    subst e1 e2
    have e3 : (1 : Int).toNat = 1 := rfl
    rw [if_pos rfl, if_pos e3, List.cons_append, List.nil_append, rByte_cons]
    dsimp only
    have : ((n.toNat : Nat) : Int) = n := by have := hn1 rfl; omega
    rw [this]
  rw [if_neg (show k.toNat ≠ 1 by omega), if_neg k1]
  by_cases k2 : k = 2
  · subst k2
    have e1 := hl5 (by omega)
    have e2 := empty_str (hse (by omega) (by omega))
    subst e1 e2
    have e3 : (2 : Int).toNat = 2 := rfl
    rw [if_pos rfl, if_pos e3, rLong_put n hn]
  rw [if_neg (show k.toNat ≠ 2 by omega), if_neg k2]
  by_cases k34 : k = 3 ∨ k = 4
  · have e1 := hl5 (by omega)
    have e2 := hn0 (by omega) (by omega)
    subst e1 e2
    rw [if_pos k34, if_pos (show k.toNat = 3 ∨ k.toNat = 4 by omega), rText_put s (by omega)]
    dsimp only
    rw [hkn]
  rw [if_neg k34, if_neg (show ¬ (k.toNat = 3 ∨ k.toNat = 4) by omega)]
  by_cases k5 : k = 5
  · subst k5
    have e2 := empty_str (hse (by omega) (by omega))
    have e4 := hn0 (by omega) (by omega)
    subst e2 e4
    have e3 : (5 : Int).toNat = 5 := rfl
    rw [if_pos rfl, if_pos e3, List.append_assoc, rNum_put _ (by omega)]
    dsimp only
    rw [hl rfl]
  · have e1 := hl5 k5
    have e2 := empty_str (hse (by omega) (by omega))
    have e4 := hn0 k1 k2
    subst e1 e2 e4
    rw [if_neg k5, if_neg (show k.toNat ≠ 5 by omega), hkn]
    rfl
theorem numsL_mem {l : List PV} (h : numsV.numsL l) : ∀ y ∈ l, numsV y := by
  induction l with
  | nil => simp
  | cons x r ih =>
    intro y hy
    unfold numsV.numsL at h
    rcases List.mem_cons.1 hy with rfl | hy
    · exact h.1
    · exact ih h.2 y hy
theorem deepL_mem {l : List PV} {y : PV} (h : y ∈ l) : deepV y ≤ deepL l := by
  induction l with
  | nil => simp at h
  | cons x r ih =>
    simp only [deepL]
    rcases List.mem_cons.1 h with rfl | h
    · omega
    · have := ih h; omega
/-- what is put is read again -/
theorem get_put : ∀ (d : Nat) (v : PV), okV v = true → numsV v → deepV v ≤ d → ∀ r, Bn.get d (some (putV v ++ r)) = (v, some r) := by
  intro d
  induction d with
  | zero =>
    intro v ho hn hd r
    cases v with
    | mk k n s l =>
    unfold numsV at hn
    rw [Bn.get_node]
    refine node_put _ k n s l r ho hn.1 fun h5 => ?_
    simp only [deepV] at hd
    rw [if_pos h5] at hd
    omega
  | succ d ih =>
    intro v ho hn hd r
    cases v with
    | mk k n s l =>
    unfold numsV at hn
    rw [Bn.get_node]
    refine node_put _ k n s l r ho hn.1 fun h5 => ?_
    simp only [deepV] at hd
    rw [if_pos h5] at hd
    have hp := ok_parts ho
    show (if 20 < l.length then ([], none) else Bn.rep (Bn.get d) l.length (some (putL l ++ r))) = _
    rw [if_neg (by omega), rep_put (Bn.get d) l r (fun y hy r => ih y (okL_mem hp.2.2.2.2.2.1 y hy) (numsL_mem hn.2 y hy) (by have := deepL_mem hy; omega) r) l.length (Nat.le_refl _)]
    simp [putL]
/-! ### the other way -/
end Go.Proofs.YtdogdbibhmhooaaGreat

/- Registries: what is put is read again (no walk). -/
set_option linter.unusedVariables false
set_option linter.unusedSimpArgs false
set_option maxRecDepth 100000
namespace Go.Proofs.YtdogdbibhmhooaaGreat
open Go.RowKit Go.Shelf
theorem bput_bd8 : ∀ v : PV, okV v = true → ∀ x ∈ putV v, 0 ≤ x ∧ x ≤ 255 := by
  intro v
  induction v using pv_ind with
  | h k n s l ih =>
    intro h x hx
    obtain ⟨⟨hk0, hk5⟩, hn1, _, _, _, hol, _, _⟩ := ok_parts h
    have hL : ∀ l : List PV, (∀ y ∈ l, okV y = true → ∀ x ∈ putV y, 0 ≤ x ∧ x ≤ 255) → (∀ y ∈ l, okV y = true) → ∀ x ∈ putL l, 0 ≤ x ∧ x ≤ 255 := by
      intro l
      induction l with
      | nil => intro _ _ x hx; simp [putL] at hx
      | cons y r ih2 =>
        intro h1 h2 x hx
        simp only [putL, List.mem_append] at hx
        rcases hx with hx | hx
        · exact h1 y (by simp) (h2 y (by simp)) x hx
        · exact ih2 (fun y hy => h1 y (by simp [hy])) (fun y hy => h2 y (by simp [hy])) x hx
    simp only [putV, List.mem_cons] at hx
    rcases hx with rfl | hx
    · omega
    · split at hx
      · rename_i h1; have := hn1 h1; simp at hx; omega
      · split at hx
        · exact Bn.spl_bd _ _ x hx
        · split at hx
          · rcases List.mem_append.1 hx with hx | hx
            · exact Bn.spl_bd _ _ x hx
            · exact bytes_all (strB_bytes s) x hx
          · split at hx
            · rcases List.mem_append.1 hx with hx | hx
              · exact Bn.spl_bd _ _ x hx
              · exact hL l ih (okL_mem hol) x hx
            · simp at hx
namespace Rg
def BD (l : List Int) : Prop := ∀ x ∈ l, 0 ≤ x ∧ x ≤ 255
theorem bd_app {l r : List Int} (h1 : BD l) (h2 : BD r) : BD (l ++ r) := fun x hx => by
  rcases List.mem_append.1 hx with hx | hx
  · exact h1 x hx
  · exact h2 x hx
theorem bd_nil : BD [] := fun x hx => by simp at hx
theorem bd_flat {α : Type} {l : List α} {f : α → List Int} (h : ∀ x ∈ l, BD (f x)) : BD (l.flatMap f) := fun x hx => by
  obtain ⟨y, hy, hx⟩ := List.mem_flatMap.1 hx
  exact h y hy x hx
theorem bd_spn (n m : Int) (k : Nat) : BD (spn n m k) := by
  unfold spn
  split
  · exact bd_nil
  · exact Bn.spl_bd _ _
theorem bd_val (v : PV) : BD (valB v) := by
  unfold valB
  split
  · rename_i h; exact bput_bd8 v (right_ok h).1
  · exact bd_nil
theorem bd_txt (s : ByteArray) : BD (txtB s) := bd_app (Bn.spl_bd _ _) (bytes_all (strB_bytes s))
theorem bd_slot (s : SlotM) : BD (slotB s) := bd_app (bd_txt _) (bd_app (bd_spn _ _ _) (bd_app (bd_spn _ _ _) (bd_val _)))
theorem bd_step (s : StepM) : BD (stepB s) := by
  unfold stepB
  split
  · exact bd_app (bd_spn _ _ _) (bd_slot _)
  · split
    · exact bd_app (bd_spn _ _ _) (bd_app (bd_spn _ _ _) (bd_txt _))
    · split
      · exact bd_app (bd_spn _ _ _) (bd_app (bd_spn _ _ _) bd_nil)
      · split
        · exact bd_app (bd_spn _ _ _) (bd_app (bd_spn _ _ _) (bd_spn _ _ _))
        · exact bd_app (bd_spn _ _ _) (bd_app (bd_spn _ _ _) (bd_flat fun x _ => bd_spn _ _ _))
theorem bd_templ (t : TemplM) : BD (templB t) := bd_app (bd_txt _) (bd_app (bd_app (bd_spn _ _ _) (bd_flat fun x _ => bd_slot x)) (bd_app (bd_spn _ _ _) (bd_flat fun x _ => bd_step x)))
theorem bd_putR (l : List TemplM) : BD (putR l) := bd_app (bd_spn _ _ _) (bd_flat fun x _ => bd_templ x)
theorem bd_bytes {l : List Int} (h : BD l) : Bytes l := fun i => by
  rcases Nat.lt_or_ge i l.length with h1 | h1
  · rw [List.getElem?_eq_getElem h1]; exact h _ (List.getElem_mem h1)
  · rw [List.getElem?_eq_none h1]; simp
/-- the numbers in its values are ints of 64 bits -/
def NumsT (t : TemplM) : Prop := (∀ s ∈ t.slots, numsV s.df) ∧ ∀ s ∈ t.steps, numsV s.sl.df
theorem rep_back {α : Type} (f : Bn.St → Option α × Bn.St) (g : α → List Int) : ∀ (l : List α) (r : List Int), (∀ x ∈ l, ∀ r, f (some (g x ++ r)) = (some x, some r)) → rep f l.length (some (l.flatMap g ++ r)) = (some l, some r) := by
  intro l
  induction l with
  | nil => intro r _; rfl
  | cons a l ih =>
    intro r h
    have h1 := h a (List.mem_cons_self ..) (l.flatMap g ++ r)
    have h2 := ih r fun x hx => h x (List.mem_cons_of_mem _ hx)
    rw [List.flatMap_cons, List.append_assoc, List.length_cons]
    simp only [rep, h1, h2]
    rfl
theorem rList_back {α : Type} (most : Nat) (f : Bn.St → Option α × Bn.St) (g : α → List Int) (l : List α) (r : List Int) (hl : l.length ≤ most) (hm : most ≤ 1000) (h : ∀ x ∈ l, ∀ r, f (some (g x ++ r)) = (some x, some r)) :
    rList most f (some ((nuB l.length ++ l.flatMap g) ++ r)) = (some l, some r) := by
  have hn : nuB l.length = Bn.spl l.length 4 := by
    unfold nuB
    rw [spn_in _ _ _ (by omega) (by omega), Int.toNat_natCast]
  have h1 := rNum_put l.length (by omega) (l.flatMap g ++ r)
  unfold rList
  rw [hn, List.append_assoc, h1]
  simp only
  rw [if_neg (by omega)]
  exact rep_back f g l r h
theorem byB_in {n : Int} (h0 : 0 ≤ n) (h1 : n ≤ 255) : byB n = [n] := spn_byte n h0 h1
theorem rByte_by {n : Int} (h0 : 0 ≤ n) (h1 : n ≤ 255) (r : List Int) : Bn.rByte (some (byB n ++ r)) = (n.toNat, some r) := by
  rw [byB_in h0 h1]; exact rByte_cons n r
theorem rText_tx (s : ByteArray) (hs : s.size ≤ 1000000) (r : List Int) : Bn.rText (some (txtB s ++ r)) = (s, some r) := rText_put s (by omega) r
theorem valB_right {v : PV} (h : rightV v = true) : valB v = putV v := by unfold valB; rw [if_pos h]
theorem rValue_val {v : PV} (h : rightV v = true) (hn : numsV v) (r : List Int) : rValue (some (valB v ++ r)) = (v, some r) := by
  rw [valB_right h]
  obtain ⟨ho, _, hd⟩ := right_ok h
  unfold rValue
  rw [get_put 4 v ho hn hd r]
  simp only [rFin]
  rw [if_pos h]
theorem nat_cast9 {n : Int} (h : 0 ≤ n) : ((n.toNat : Nat) : Int) = n := by omega
def sound' (s : SlotM) : Prop := s.nm.size ≤ 1000000 ∧ 0 ≤ s.ty ∧ s.ty ≤ 255 ∧ rightV s.df = true
theorem sound_sound' {s : SlotM} (h : Sc.sound s = true) : sound' s := by
  have h1 := name_size (sound_name h)
  obtain ⟨h2, h3, h4⟩ := Sc.sound_ok h
  exact ⟨by omega, by omega, by omega, h4⟩
theorem rSlot_back (s : SlotM) (h : sound' s) (hn : numsV s.df) (r : List Int) : rSlot (some (slotB s ++ r)) = (some s, some r) := by
  obtain ⟨h1, h2, h3, h4⟩ := h
  unfold slotB
  rw [List.append_assoc, List.append_assoc, List.append_assoc]
  have e1 := rText_tx s.nm h1 (byB s.ty ++ (byB (if s.rq then 1 else 0) ++ (valB s.df ++ r)))
  have e2 := rByte_by h2 h3 (byB (if s.rq then 1 else 0) ++ (valB s.df ++ r))
  have e3 := rByte_by (n := if s.rq then 1 else 0) (by split <;> omega) (by split <;> omega) (valB s.df ++ r)
  have e4 := rValue_val h4 hn r
  unfold rSlot
  simp only [e1, e2, e3, e4]
  rw [if_pos (by split <;> decide), nat_cast9 h2]
  obtain ⟨nm, ty, rq, df⟩ := s
  cases rq <;> rfl
theorem rOne_back (x : Int) (h : 0 ≤ x ∧ x ≤ 7) (r : List Int) : rOne (some (byB x ++ r)) = (some x, some r) := by
  unfold rOne
  rw [rByte_by h.1 (by omega)]
  simp only
  rw [nat_cast9 h.1]
theorem step_form9 {s : StepM} {kd col : Int} {sl : SlotM} {od : List Int} (h1 : s.kd = kd) (h2 : s.col = col) (h3 : s.sl = sl) (h4 : s.od = od) : s = ⟨kd, col, sl, od⟩ := by
  cases s; simp only at h1 h2 h3 h4; subst h1 h2 h3 h4; rfl
theorem rStep_back (s : StepM) (h : StepOk s) (hn : numsV s.sl.df) (r : List Int) : rStep (some (stepB s ++ r)) = (some s, some r) := by
  have hk := h.kd
  have hc := h.col
  unfold stepB
  by_cases k1 : s.kd = 1
  · rw [if_pos k1, List.append_assoc]
    obtain ⟨g1, g2, g3, g4⟩ := h.k1 k1
    unfold rStep
    rw [rByte_by (by omega) (by omega), k1]
    simp only
    unfold rStep1
    rw [if_pos (by decide), rSlot_back s.sl (sound_sound' g1) hn r]
    simp only [Option.map_some]
    rw [← step_form9 k1 g3 rfl g4]
  · rw [if_neg k1]
    by_cases k3 : s.kd = 3
    · rw [if_pos k3, List.append_assoc, List.append_assoc]
      obtain ⟨g1, g2, g3⟩ := h.k3 k3
      have hsz := name_size g1
      unfold rStep
      rw [rByte_by (by omega) (by omega), k3]
      simp only
      unfold rStep1
      rw [if_neg (by decide), if_neg (by decide), if_pos (by decide), rByte_by (by omega) (by omega), rText_tx _ (by omega)]
      simp only
      rw [nat_cast9 hc.1, ← g2, ← step_form9 k3 rfl rfl g3]
    · rw [if_neg k3]
      by_cases k2 : s.kd = 2
      · rw [if_pos k2, List.append_nil, List.append_assoc]
        obtain ⟨g1, g2⟩ := h.k2 k2
        unfold rStep
        rw [rByte_by (by omega) (by omega), k2]
        simp only
        unfold rStep1
        rw [if_neg (by decide), if_pos (by decide), rByte_by (by omega) (by omega)]
        simp only
        rw [nat_cast9 hc.1, ← g1, ← step_form9 k2 rfl rfl g2]
      · rw [if_neg k2]
        by_cases k4 : s.kd = 4
        · rw [if_pos k4, List.append_assoc, List.append_assoc]
          obtain ⟨⟨g0, g0'⟩, g2, g3⟩ := h.k4 k4
          unfold rStep
          rw [rByte_by (by omega) (by omega), k4]
          simp only
          unfold rStep1
          rw [if_neg (by decide), if_neg (by decide), if_neg (by decide), if_pos (by decide), rByte_by (by omega) (by omega)]
          simp only
          rw [rByte_by (by omega) (by omega)]
          simp only
          rw [nat_cast9 hc.1, nat_cast9 (by omega : 0 ≤ s.sl.ty), ← g2, ← step_form9 k4 rfl rfl g3]
        · rw [if_neg k4, List.append_assoc]
          have k5 : s.kd = 5 := by omega
          obtain ⟨g1, g2, g3, g4⟩ := h.k5 k5
          have hl := rList_back 8 rOne byB s.od r g3 (by omega) fun x hx r => rOne_back x (g4 x hx) r
          unfold rStep
          rw [rByte_by (by omega) (by omega), k5]
          simp only
          unfold rStep1
          rw [if_neg (by decide), if_neg (by decide), if_neg (by decide), if_neg (by decide), if_pos (by decide), hl]
          simp only [Option.map_some]
          rw [← g1, ← step_form9 k5 g2 rfl rfl]
theorem rTempl_back (t : TemplM) (h : TemplOk t) (hn : NumsT t) (r : List Int) : rTempl (some (templB t ++ r)) = (some t, some r) := by
  have hsz := name_size h.nm
  unfold templB
  rw [List.append_assoc, List.append_assoc]
  have e2 := rList_back 8 rSlot slotB t.slots ((nuB t.steps.length ++ t.steps.flatMap stepB) ++ r) h.n8 (by omega) fun s hs r => rSlot_back s (sound_sound' (h.so s hs)) (hn.1 s hs) r
  have e3 := rList_back 8 rStep stepB t.steps r h.m8 (by omega) fun s hs r => rStep_back s (h.st s hs) (hn.2 s hs) r
  unfold rTempl
  rw [rText_tx _ (by omega)]
  simp only
  rw [e2]
  simp only [rTempl1]
  unfold rTempl2
  rw [e3]
  rfl
theorem rReg_back (l : List TemplM) (h : right l = true) (hn : ∀ t ∈ l, NumsT t) (r : List Int) : rReg (some (putR l ++ r)) = (some l, some r) := by
  have h1 := (right_iff l).1 h
  refine rList_back 6 rTempl templB l r h1.1 (by omega) fun t ht r => ?_
  obtain ⟨i, hi⟩ := List.mem_iff_getElem?.1 ht
  exact rTempl_back t (rightT_ok (h1.2 i t hi).1) (hn t ht) r
theorem rRead_back (l : List TemplM) (h : right l = true) (hn : ∀ t ∈ l, NumsT t) (r : List Int) : rRead (some (putR l ++ r)) = some l := by
  rw [rRead_some (rReg_back l h hn r), if_neg (by simp), if_pos h]
theorem get_back (l : List TemplM) (h : right l = true) (hn : ∀ t ∈ l, NumsT t) : getRg (putR l) = some l := by
  have h1 := rReg_back l h hn []
  have h2 := rRead_back l h hn []
  rw [List.append_nil] at h1 h2
  unfold getRg
  rw [h2, h1]
  rfl
/-- two right registries have the same bytes just if they are the same -/
theorem put_inj {l m : List TemplM} (hl : right l = true) (hm : right m = true) (nl : ∀ t ∈ l, NumsT t) (nm : ∀ t ∈ m, NumsT t) (h : putR l = putR m) : l = m := by
  have h1 := get_back l hl nl
  rw [h, get_back m hm nm] at h1
  injection h1.symm
end Rg
end Go.Proofs.YtdogdbibhmhooaaGreat
