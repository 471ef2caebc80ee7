/- A region that draws its order, whose last operation (number z: it waits for all others) may turn what the loads of the others read: nothing is asked of the world behind z. -/
import Derived.OrdersHeld
import Derived.RegionTactic
import Derived.Deep.RegionHeld
namespace Go.Proofs.YtibjjclfonpibaaGreat
open Go
section
variable {P : Program} {md : Region.Mode} {ops : Array Oper} {Q : Exit → Act → World → Prop} {S : World → Prop} {z : Nat}
/-- what is left of a region, z last -/
def LastZ (P : Program) (md : Region.Mode) (ops : Array Oper) (Q : Exit → Act → World → Prop) (S : World → Prop) (z : Nat) : Nat → Array Bool → Act → World → Prop
  | 0, L, a, w => Region.ready md ops L = [] ∧ Q .normal a w
  | n + 1, L, a, w => (Region.ready md ops L = [] → Q .normal a w) ∧ ∀ i, i ∈ Region.ready md ops L → wpOp P ops Q i (fun a' w' => LastZ P md ops Q S z n (L.setIfInBounds i true) a' w' ∧ (i = z ∨ S w')) a w
theorem lastZ_any (n : Nat) : ∀ (L : Array Bool) (a : Act) (w : World), LastZ P md ops Q S z n L a w → wpAny P md ops Q n L a w := by
  induction n with
  | zero => exact fun _ _ _ h => h
  | succ n ih => exact fun L a w h => ⟨h.1, fun i hi => wpOp_mono (fun a' w' k => ih _ a' w' k.1) (h.2 i hi)⟩
/-- does z wait for number i? -/
def waitsB (md : Region.Mode) (ops : Array Oper) (z i : Nat) : Bool := match ops[z]? with
  | some o => o.after.any fun e => Region.binds md e && e.on == i
  | none => true
theorem waits_not {i : Nat} {L : Array Bool} (hz : waitsB md ops z i = true) (hi : i ∈ Region.ready md ops L) : z ∉ Region.ready md ops L := by
  intro h
  obtain ⟨_, o, ho, hall⟩ := mem_ready.1 h
  rw [waitsB, ho] at hz
  obtain ⟨e, he, hb⟩ := Array.any_eq_true'.1 hz
  simp only [Bool.and_eq_true, beq_iff_eq] at hb
  have h1 := hall e he hb.1
  have h0 := (mem_ready.1 hi).1
  rw [hb.2] at h1
  rcases Nat.lt_or_ge i L.size with hl | hl
  · simp [hl] at h0 h1; rw [h0] at h1; cases h1
  · simp [Array.getElem?_eq_none hl] at h1
theorem lastZ_first {i : Nat} {oi : Oper} {v : Value} (hi : ops[i]? = some oi) (hsel : ∀ (j : Nat) (o : Oper) cs b, ops[j]? = some o → o.op ≠ .select cs b)
    (hQ : ∀ c a w, Q (.panic c) (a.put oi.dst v) w → Q (.panic c) a w) (hz : waitsB md ops z i = true) (n : Nat) : ∀ (L : Array Bool) (a : Act) (w : World),
      (∀ j oj, ops[j]? = some oj → j ≠ i → L.getD j true = false → (∀ e ∈ oj.after, Region.binds md e = true → e.on ≠ i) → oi.apart ops oj = true) →
      i ∈ Region.ready md ops L → YieldsIf P ops S oi v a → S w → LastZ P md ops Q S z n (L.setIfInBounds i true) (a.put oi.dst v) w → LastZ P md ops Q S z (n + 1) L a w := by
  have nil : ∀ {L : Array Bool} {p : Prop}, i ∈ Region.ready md ops L → Region.ready md ops L = [] → p := fun hr h => by rw [h] at hr; cases hr
  induction n with
  | zero =>
    intro L a w _ hr hy hS H
    refine ⟨nil hr, fun j hj => ?_⟩
    rcases Decidable.em (j = i) with rfl | hji
    · exact hy.wpOp hi hS ⟨H, .inr hS⟩
    · have h1 := ready_mono hj hji
      rw [H.1] at h1
      cases h1
  | succ n ih =>
    intro L a w hfree hr hy hS H
    refine ⟨nil hr, fun j hj => ?_⟩
    rcases Decidable.em (j = i) with rfl | hji
    · exact hy.wpOp hi hS ⟨H, .inr hS⟩
    · have hjz : j ≠ z := fun e => waits_not hz hr (e ▸ hj)
      obtain ⟨hun, oj, hoj, hall⟩ := mem_ready.1 hj
      have hno : ∀ e ∈ oj.after, Region.binds md e = true → e.on ≠ i := by
        intro e he hb heq
        have h1 := hall e he hb
        have h0 := (mem_ready.1 hr).1
        rw [heq] at h1
        rcases Nat.lt_or_ge i L.size with hl | hl
        · simp [hl] at h0 h1; rw [h0] at h1; cases h1
        · simp [Array.getElem?_eq_none hl] at h1
      have hstep := wpOp_putIf hoj (hfree j oj hoj hji hun hno) (fun cs b => hsel i oi cs b hi) (fun cs b => hsel j oj cs b hoj) hQ hy (H.2 j (ready_mono hj hji))
      refine wpOp_mono (fun a' w' k => ?_) hstep
      obtain ⟨ky, kl, ks⟩ := k
      have hS' := ks.resolve_left hjz
      refine ⟨ih _ a' w' (fun k ok hk hki hu hn => hfree k ok hk hki ?_ hn) (ready_mono hr (Ne.symm hji)) ky hS' ?_, .inr hS'⟩
      · rcases Decidable.em (j = k) with rfl | hjk
        · exact hun
        · rwa [getD_set_ne true hjk] at hu
      · rw [Array.setIfInBounds_comm _ _ hji]
        exact kl
/-- number i is taken first -/
theorem lastZ_take {i : Nat} {oi : Oper} {v : Value} {n : Nat} {L : Array Bool} {a : Act} {w : World} (hi : ops[i]? = some oi) (hs : Region.noSelect ops = true) (hf : Region.free md ops L i = true) (hr : (Region.ready md ops L).contains i = true) (hz : waitsB md ops z i = true)
    (hQ : ∀ c a w, Q (.panic c) (a.put oi.dst v) w → Q (.panic c) a w) (hy : YieldsIf P ops S oi v a) (hS : S w) (h : LastZ P md ops Q S z n (L.setIfInBounds i true) (a.put oi.dst v) w) : LastZ P md ops Q S z (n + 1) L a w :=
  lastZ_first hi (Region.noSelect_spec hs) hQ hz n L a w (Region.free_spec hi hf) (by simpa using hr) hy hS h
/-- one alone may come up -/
theorem lastZ_one {i : Nat} {o : Oper} {n : Nat} {L : Array Bool} {a : Act} {w : World} (hr : Region.ready md ops L = [i]) (ho : ops[i]? = some o)
    (h : ∀ K' : Act → World → Prop, Shut (∀ a w, (i = z ∨ S w) → LastZ P md ops Q S z n (L.setIfInBounds i true) a w → K' a w) → if Region.wanted o (yielded ops a.tmps) = true then Oper.wp P o a w K' Q else K' (a.put o.dst undef) w) : LastZ P md ops Q S z (n + 1) L a w := by
  refine ⟨fun h0 => (by rw [hr] at h0; cases h0), fun j hj => ?_⟩
  rw [hr] at hj
  obtain rfl := List.mem_singleton.1 hj
  exact wpOp_step ho fun K' hK => h K' (fun a w hS hL => hK a w ⟨hL, hS⟩)
/-- one of two may come up -/
theorem lastZ_two {i j : Nat} {o o' : Oper} {n : Nat} {L : Array Bool} {a : Act} {w : World} (hr : Region.ready md ops L = [i, j]) (ho : ops[i]? = some o) (ho' : ops[j]? = some o')
    (h : ∀ K' : Act → World → Prop, Shut (∀ a w, (i = z ∨ S w) → LastZ P md ops Q S z n (L.setIfInBounds i true) a w → K' a w) → if Region.wanted o (yielded ops a.tmps) = true then Oper.wp P o a w K' Q else K' (a.put o.dst undef) w)
    (h' : ∀ K' : Act → World → Prop, Shut (∀ a w, (j = z ∨ S w) → LastZ P md ops Q S z n (L.setIfInBounds j true) a w → K' a w) → if Region.wanted o' (yielded ops a.tmps) = true then Oper.wp P o' a w K' Q else K' (a.put o'.dst undef) w) : LastZ P md ops Q S z (n + 1) L a w := by
  refine ⟨fun h0 => (by rw [hr] at h0; cases h0), fun k hk => ?_⟩
  rw [hr] at hk
  rcases List.mem_cons.1 hk with rfl | hk
  · exact wpOp_step ho fun K' hK => h K' (fun a w hS hL => hK a w ⟨hL, hS⟩)
  · obtain rfl := List.mem_singleton.1 hk
    exact wpOp_step ho' fun K' hK => h' K' (fun a w hS hL => hK a w ⟨hL, hS⟩)
theorem lastZ_done {L : Array Bool} {a : Act} {w : World} (hr : Region.ready md ops L = []) (h : Q .normal a w) : ∀ n, LastZ P md ops Q S z n L a w
  | 0 => ⟨hr, h⟩
  | _ + 1 => ⟨fun _ => h, by rw [hr]; simp⟩
/-- the beginning, fuel and list written out -/
theorem wp_regionZ {id : Nat} {a : Act} {w : World} (z n : Nat) (L : Array Bool) (hn : ops.size = n) (hL : L = Array.replicate n false) (hm : P.follows .mixedOrders = true) (h : LastZ P .any ops Q S z n L a w.drew) : (Code.region id ops true).wp P Q a w := by
  subst hL; subst hn
  exact wp_region_any hm (lastZ_any _ _ _ _ h)
end
end Go.Proofs.YtibjjclfonpibaaGreat
