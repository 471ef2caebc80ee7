/- The program's schema: fresh (a version in new memory). -/
import Derived.Test.YtnefldogciemgaaGreatMh21Regi
import Derived.Test.YtnefldogciemgaaGreatMh6Regi
import Derived.Deep.RegionHeld3
import Derived.Deep.DeepCutAuto
set_option linter.unusedVariables false
set_option linter.unusedSimpArgs false
set_option maxRecDepth 100000
namespace Go.Proofs.YtnefldogciemgaaGreat
open Go.RowKit Go.Shelf
theorem k5 {p r:Nat} {c0 c1 c2 c3 c4:Value} {W W':World} (h:W.cell? ⟨p,0,none⟩=some c0∧(W.cell? ⟨r,3,none⟩=some c1∧W.cell? ⟨r,4,none⟩=some c2)∧W.cell? ⟨r,5,none⟩=some c3∧W.cell? ⟨r,6,none⟩=some c4) (hb:Below W.heap.size W W'):W'.cell? ⟨p,0,none⟩=some c0∧(W'.cell? ⟨r,3,none⟩=some c1∧W'.cell? ⟨r,4,none⟩=some c2)∧W'.cell? ⟨r,5,none⟩=some c3∧W'.cell? ⟨r,6,none⟩=some c4:=
 ⟨cell_below hb h.1,⟨cell_below hb h.2.1.1,cell_below hb h.2.1.2⟩,cell_below hb h.2.2.1,cell_below hb h.2.2.2⟩
theorem k2 {p:Nat} {c0 c1:Value} {W W':World} (h:W.cell? ⟨p,0,none⟩=some c0∧W.cell? ⟨p,1,none⟩=some c1) (hb:Below W.heap.size W W'):W'.cell? ⟨p,0,none⟩=some c0∧W'.cell? ⟨p,1,none⟩=some c1:=
 ⟨cell_below hb h.1,cell_below hb h.2⟩
theorem own_ne {W:World} {B:Nat} {e t:TypeId} {size n:Nat} {v:Value} {xs:List Value} {g:Nat} {cs:Array Value} {fr:Nat × Nat} (h:W.ownsRow B e size v n xs) (hg:W.heap[g]? = some (.cells cs t fr)) (ht:e≠t):∀ b,v.ownBlock=some b→b≠g:=by
 rintro b hb rfl
 rcases h.2 with ⟨rfl,_⟩ | ⟨g',cap,cur,rfl,_,hh,_⟩
 ·simp [Value.ownBlock] at hb
 ·simp only [Value.ownBlock,Option.map_some,Option.some.injEq] at hb
  subst hb
  rw [hh] at hg
  cases hg
  exact ht rfl
