/- The document's layer 9: Same, Great. -/
import Derived.Test.YtclnephomnkieaaCsvMem
import Derived.Deep.DeepCutAuto
set_option linter.unusedVariables false
namespace Go.Proofs.Ytclnephomnkieaa
open Go.RowKit Go.Shelf
set_option maxRecDepth 100000 in
set_option maxHeartbeats 8000000 in
theorem refSame9_any (u v : Value) (L : Rws) (w : World) (hu : SRows w u L) (hv : SRows w v L) (hl : L.length ≤ 1000000000 ∧ ∀ r ∈ L, r.length ≤ 1000000000) :
    Calls Try.prog 12 #[u, v] w fun e w' => e = .returned (.bool true) ∧ Below w.heap.size w w' := by
  obtain ⟨au, cu, rfl, hcu, hcum, hxu⟩ := hu
  obtain ⟨av, cv, rfl, hcv, hcvm, hxv⟩ := hv
  obtain ⟨hl, hlr⟩ := hl
  have HLR := Lib.hid hlr; clear hlr
  go_enter Try.func12, Try.ntmps12
  go_wp2
  go_loopw [5, 6] (fun i _ wr => ∃ j : Nat, j ≤ L.length ∧ i = .int .i64 (j : Int) ∧ Below w.heap.size w wr) (fun i _ _ => L.length - (intOf i).toNat)
  case atStart => exact ⟨0, Nat.zero_le _, rfl, Below.refl _ _⟩
  case round =>
    obtain ⟨j, hj, rfl, hBr⟩ := hrel
    rcases Nat.lt_or_ge j L.length with hlt | hge
    · have hd : decide (j < L.length) = true := by simpa using hlt
      have hne : L ≠ [] := fun h => by rw [h] at hlt; simp at hlt
      obtain ⟨b, off, rfl, hc⟩ := hxu.resolve_left hne
      obtain ⟨b', off', rfl, hc'⟩ := hxv.resolve_left hne
      obtain ⟨ru, x0, hru⟩ := hc j hlt
      obtain ⟨rv, y0, hrv⟩ := hc' j hlt
      have hrl := HLR.out (L[j]?.getD []) (by rw [List.getElem?_eq_getElem hlt]; exact List.getElem_mem _)
      obtain ⟨r, hr⟩ : ∃ r, L[j]?.getD [] = r := ⟨_, rfl⟩
      rw [hr] at hru hrv hrl
      obtain ⟨a, c, rfl, h1, h2, hxr⟩ := hru
      obtain ⟨a', c', rfl, h1', h2', hxr'⟩ := hrv
      have z0 := cell_kept hBr x0
      have z1 := cell_kept hBr y0
      have HX := Lib.hid x0; have HY := Lib.hid y0
      clear hc hc' hr hxu hxv hne x0 y0
      go_upto_region 6 with fail
      go_cut [28] (fun s28 W => s28 = .bool false ∧ Below w.heap.size w W)
      case first =>
        go_wp2
        go_region
        all_goals go_wp2
        all_goals (go_meet; exact ⟨rfl, hBr.drew⟩)
      case rest =>
      obtain ⟨rfl, hBc⟩ := hcut
      clear z0 z1
      go_wp2
      go_loopw [6] (fun i wq => ∃ k : Nat, k ≤ r.length ∧ i = .int .i64 (k : Int) ∧ Below w.heap.size w wq) (fun i _ => r.length - (intOf i).toNat)
      case atStart => exact ⟨0, Nat.zero_le _, rfl, hBc⟩
      case round =>
        obtain ⟨k, hk, rfl, hBq⟩ := hrel
        have z0 := cell_kept hBq HX.out
        have z1 := cell_kept hBq HY.out
        rcases Nat.lt_or_ge k r.length with hlt2 | hge2
        · have hd2 : decide (k < r.length) = true := by simpa using hlt2
          have hne : r ≠ [] := fun h => by rw [h] at hlt2; simp at hlt2
          obtain ⟨g, o, rfl, he⟩ := hxr.resolve_left hne
          obtain ⟨g', o', rfl, he'⟩ := hxr'.resolve_left hne
          have t0 := cell_kept hBq (he k hlt2)
          have t1 := cell_kept hBq (he' k hlt2)
          obtain ⟨T, hT⟩ : ∃ T, strOfNums (r[k]?.getD []) = T := ⟨_, rfl⟩
          rw [hT] at t0 t1
          clear hxr hxr' he he' hne hT
          go_wp2
          go_region
          all_goals go_wp2
          all_goals
            go_roundw
            case rel => exact ⟨k + 1, hlt2, by go_num, hBq.drew⟩
            case measure => simp [intOf]; omega
        · have hd2 : decide (k < r.length) = false := by simpa using hge2
          go_wp2
          go_roundw
          case rel => exact ⟨j + 1, hlt, by go_num, hBq⟩
          case measure => simp [intOf]; omega
    · have hd : decide (j < L.length) = false := by simpa using hge
      go_wp2
      go_ret
      exact ⟨rfl, hBr⟩
namespace V
def fsz (l : List (List Int)) : Nat := (l.map fun f => 1 + f.length).sum
/-- how much rows are -/
def tot (L : List (List (List Int))) : Nat := (L.map fun r => 1 + fsz r).sum
theorem fsz_step (l : List (List Int)) (k : Nat) (h : k < l.length) : fsz (l.take (k + 1)) = fsz (l.take k) + 1 + (l[k]?.getD []).length := by
  unfold fsz
  rw [List.take_add_one, List.getElem?_eq_getElem h, List.map_append, List.sum_append]
  simp; omega
theorem tot_step (L : List (List (List Int))) (j : Nat) (h : j < L.length) : tot (L.take (j + 1)) = tot (L.take j) + 1 + fsz (L[j]?.getD []) := by
  unfold tot
  rw [List.take_add_one, List.getElem?_eq_getElem h, List.map_append, List.sum_append]
  simp; omega
theorem fsz_take (l : List (List Int)) (k : Nat) : fsz (l.take k) ≤ fsz l := by
  unfold fsz
  conv => rhs; rw [← List.take_append_drop k l, List.map_append, List.sum_append]
  omega
theorem tot_take (L : List (List (List Int))) (j : Nat) : tot (L.take j) ≤ tot L := by
  unfold tot
  conv => rhs; rw [← List.take_append_drop j L, List.map_append, List.sum_append]
  omega
end V
/-- rows that the machine can hold -/
def Big (L : Rws) : Prop := L.length ≤ 140737488355328 ∧ ∀ r ∈ L, r.length ≤ 140737488355328 ∧ ∀ f ∈ r, f.length ≤ 140737488355328
set_option maxRecDepth 100000 in
set_option maxHeartbeats 8000000 in
theorem refGreat9_any (u : Value) (L : Rws) (w : World) (hu : SRows w u L) (hB : Big L) :
    Calls Try.prog 13 #[u] w fun e w' => e = .returned (.bool (decide (2000 < V.tot L))) ∧ Below w.heap.size w w' := by
  obtain ⟨au, cu, rfl, hcu, hcum, hxu⟩ := hu
  obtain ⟨hl, hlr⟩ := hB
  have HLR := Lib.hid hlr; clear hlr
  obtain ⟨g, hg⟩ : ∃ g, decide (2000 < V.tot L) = g := ⟨_, rfl⟩
  rw [hg]
  have HG := Lib.hid hg; clear hg
  go_enter Try.func13, Try.ntmps13
  go_wp2
  go_loopw [3, 4, 5] (fun n i _ wr => ∃ j : Nat, j ≤ L.length ∧ i = .int .i64 (j : Int) ∧ n = .int .i64 (V.tot (L.take j) : Nat) ∧ V.tot (L.take j) ≤ 2000 + j ∧ Below w.heap.size w wr) (fun _ i _ _ => L.length - (intOf i).toNat)
  case atStart => exact ⟨0, Nat.zero_le _, rfl, rfl, by simp [V.tot], Below.refl _ _⟩
  case round =>
    obtain ⟨j, hj, rfl, rfl, hnb, hBr⟩ := hrel
    rcases Nat.lt_or_ge j L.length with hlt | hge
    · have hd : decide (j < L.length) = true := by simpa using hlt
      have hne : L ≠ [] := fun h => by rw [h] at hlt; simp at hlt
      obtain ⟨b, off, rfl, hc⟩ := hxu.resolve_left hne
      obtain ⟨ru, x0, hru⟩ := hc j hlt
      have hrl := HLR.out (L[j]?.getD []) (by rw [List.getElem?_eq_getElem hlt]; exact List.getElem_mem _)
      have hts := V.tot_step L j hlt
      have htt := V.tot_take L (j + 1)
      obtain ⟨r, hr⟩ : ∃ r, L[j]?.getD [] = r := ⟨_, rfl⟩
      rw [hr] at hru hrl hts
      obtain ⟨a, c, rfl, h1, h2, hxr⟩ := hru
      obtain ⟨m, hm⟩ : ∃ m, V.tot (L.take j) = m := ⟨_, rfl⟩
      rw [hm] at hnb hts ⊢
      have HTS := Lib.hid hts; have HTT := Lib.hid htt
      have HX := Lib.hid x0
      obtain ⟨hrl1, hrl2⟩ := hrl
      have HRL := Lib.hid hrl2
      clear hc hr hxu hne x0 hm hts htt hrl2
      go_wp2
      go_loopw [3, 5] (fun n i wq => ∃ k : Nat, k ≤ r.length ∧ i = .int .i64 (k : Int) ∧ n = .int .i64 ((m + 1 + V.fsz (r.take k) : Nat) : Int) ∧ m + 1 + V.fsz (r.take k) ≤ 2001 + j ∧ Below w.heap.size w wq) (fun _ i _ => r.length - (intOf i).toNat)
      case atStart => exact ⟨0, Nat.zero_le _, rfl, by simp [V.fsz], by simp [V.fsz]; omega, hBr⟩
      case round =>
        obtain ⟨k, hk, rfl, rfl, hnk, hBq⟩ := hrel
        have z0 := cell_kept hBq HX.out
        rcases Nat.lt_or_ge k r.length with hlt2 | hge2
        · have hd2 : decide (k < r.length) = true := by simpa using hlt2
          have hne : r ≠ [] := fun h => by rw [h] at hlt2; simp at hlt2
          obtain ⟨p, o, rfl, he⟩ := hxr.resolve_left hne
          have t0 := cell_kept hBq (he k hlt2)
          have hfs := V.fsz_step r k hlt2
          have hft := V.fsz_take r (k + 1)
          have hfl := HRL.out (r[k]?.getD []) (by rw [List.getElem?_eq_getElem hlt2]; exact List.getElem_mem _)
          obtain ⟨f, hf⟩ : ∃ f, r[k]?.getD [] = f := ⟨_, rfl⟩
          rw [hf] at t0 hfs hfl
          have hsz := sz_str f
          obtain ⟨T, hT⟩ : ∃ T, strOfNums f = T := ⟨_, rfl⟩
          rw [hT] at t0 hsz
          obtain ⟨N, hN⟩ : ∃ N, m + 1 + V.fsz (r.take k) = N := ⟨_, rfl⟩
          obtain ⟨t, ht⟩ : ∃ t, f.length = t := ⟨_, rfl⟩
          rw [hN] at hnk ⊢
          rw [ht] at hsz hfs hfl
          have HFS : Hid (m + 1 + V.fsz (r.take (k + 1)) = N + 1 + t) := Lib.hid (by omega)
          have HFT := Lib.hid hft
          clear hxr he hne hT hN hf ht hfs hft
          by_cases hbig : 2000 < N + 1 + t
          · have d1 : decide ((2000 : Int) < (N : Int) + 1 + t) = true := decide_eq_true (by omega)
            obtain rfl : g = true := by
              rw [← HG.out]
              exact decide_eq_true (by have := HFS.out; have := HFT.out; have := HTS.out; have := HTT.out; omega)
            clear hbig
            go_wp2
            go_ret
            exact ⟨rfl, hBq⟩
          · have d1 : decide ((2000 : Int) < (N : Int) + 1 + t) = false := decide_eq_false (by omega)
            go_wp2
            go_roundw
            case rel => exact ⟨k + 1, hlt2, by go_num, by rw [HFS.out]; go_num, by rw [HFS.out]; omega, hBq⟩
            case measure => simp [intOf]; omega
        · obtain rfl : k = r.length := by omega
          have hd2 : decide (r.length < r.length) = false := by simp
          rw [List.take_length] at hnk ⊢
          have HTS2 := HTS
          go_wp2
          go_roundw
          case rel => exact ⟨j + 1, hlt, by go_num, by rw [HTS2.out], by rw [HTS2.out]; omega, hBq⟩
          case measure => simp [intOf]; omega
    · obtain rfl : j = L.length := by omega
      have hd : decide (L.length < L.length) = false := by simp
      have htl : L.take L.length = L := List.take_length
      rw [htl] at hnb ⊢
      have HTL := Lib.hid htl; clear htl
      obtain ⟨m, hm⟩ : ∃ m, V.tot L = m := ⟨_, rfl⟩
      have hg := HG.out
      rw [hm] at hnb hg ⊢
      have HG2 := Lib.hid hg
      clear hg hm
      go_wp2
      go_ret
      exact ⟨ret_bool (by rw [← HG2.out, Bool.eq_iff_iff]; simp; omega), hBr⟩
end Go.Proofs.Ytclnephomnkieaa
