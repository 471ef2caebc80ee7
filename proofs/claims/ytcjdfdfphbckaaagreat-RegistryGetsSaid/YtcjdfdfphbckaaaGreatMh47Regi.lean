/- Registries that are read: the document's Read: what a round of the steps' loop comes to (no walk). -/
import Derived.Test.YtcjdfdfphbckaaaGreatMh46Regi
import Derived.Test.YtcjdfdfphbckaaaGreatMh38Regi
set_option linter.unusedVariables false
set_option linter.unusedSimpArgs false
set_option maxRecDepth 100000
set_option maxHeartbeats 64000000
open Go.Proofs.Tryz
namespace Go.Proofs.YtcjdfdfphbckaaaGreat
open Go.RowKit Go.Shelf
def ZPV:Prop:=∀ (a:Option Addr) (cap:Nat) (l:List TemplM) (w:World),ZAw w a cap l→(∀ t∈l,wideT t=false)→Calls Tryz.prog 31 #[.slice a l.length cap] w fun e w'=>e=.returned (.bool (Rg.right l))∧Below w.heap.size w w'
def ZEI (S:Src) (p:Nat) (w:World) (s:Bn.St) (e:Ending) (w':World):Prop:=∃ (a:Option Addr) (l c:Nat),e=.returned (.tuple #[.slice a l c,.bool (Rg.gRead s).isSome])∧(Rg.gRead s=none→a=none∧l=0) ∧
 (∀ ys,Rg.gRead s=some ys→l=ys.length∧∀ W':World,(∀ b,w.heap.size≤b→b<w'.heap.size→W'.heap[b]? = w'.heap[b]?)→ZAw W' a c ys)∧RT S w' p (Rg.gReg s).2∧w.grownBy w' (some p)
theorem ZCz {S:Src} {p k g0 g1:Nat} {s6:Bn.St} {w1 wr V w6:World} {wch:Nat→Option Obj} {nmv slv v6:Value} {ta:Option Addr} {tm tc:Nat} {cs ds:List Value} {YS:List StepM} {y:StepM}
  (hp:p<g0) (hg01:g0<g1) (hw1:w1.heap.size=g0) (hgr:g1≤wr.heap.size) (hGk:w1.grownBy wr (some p)) (hGV:wr.grownBy V (some p)) (hRV:RT S V p s6) (hzT:CA V g0 40 #[nmv,slv,.slice ta tm tc])
  (hkp:∀ b,g0<b→b<g1→wr.heap[b]? = wch b) (hYS:YS.length=k) (hown:wr.ownsRow g1 54 10 (.slice ta tm tc) k cs) (hel:GEl ZA3 10 g1 wr (.slice ta tm tc) YS cs)
  (hF:ZEB ZA3 wr.heap.size V y (.agg ds.toArray)) (hd:ds.length=10) (hown6:w6.ownsRow g1 54 10 v6 (k+1) (cs++ds)) (hgr6:(V.alloc (.cells ds.toArray 54)).grownBy w6 (Value.slice ta tm tc).ownBlock)
  (hat6:v6.ownBlock=(Value.slice ta tm tc).ownBlock∨v6.ownBlock=some (V.alloc (.cells ds.toArray 54)).heap.size) :
  RT S (w6.setCell ⟨g0,2,none⟩ v6) p s6∧w1.grownBy (w6.setCell ⟨g0,2,none⟩ v6) (some p)∧(∀ b,g0<b→b<g1→(w6.setCell ⟨g0,2,none⟩ v6).heap[b]? = wch b)∧g1≤(w6.setCell ⟨g0,2,none⟩ v6).heap.size ∧
   CA (w6.setCell ⟨g0,2,none⟩ v6) g0 40 #[nmv,slv,v6]∧GRow ZA3 10 54 g1 (w6.setCell ⟨g0,2,none⟩ v6) v6 (YS ++ [y]):=by
 have hsV:=hGV.size
 have hs6:=hgr6.size
 rw [World.size_alloc] at hs6
 have hub:=fun g e=>(ZC3 hown g e).2
 have hA:=(Below.refl _ V).alloc (Nat.le_refl _) (.cells ds.toArray 54)
 have hR6:=ZDX (ZA6 hRV hA) hgr6 (fun g e=>by have:=hub g e;omega)
 have hG6:=ZDM (ZAX (ZAC hGk hGV) (.cells ds.toArray 54)) hgr6 (fun g e=>by have:=hub g e;omega)
 have hz6:CA w6 g0 40 #[nmv,slv,.slice ta tm tc]:=(hgr6.block g0 (by rw [World.size_alloc];omega) (fun e=>by have:=hub g0 e.symm;omega)).trans (ZA4 hzT hA)
 have hk6:∀ b,g0<b→b<g1→w6.heap[b]? = wch b:=fun b b1 b2=>by
  rw [hgr6.block b (by rw [World.size_alloc];omega) (fun e=>by have:=hub b e.symm;omega),hA.block b (by omega),hGV.block b (by omega) (by simp;omega)]
  exact hkp b b1 b2
 have hel6:=ZC4 (P:=ZA3) (n:=10) (p:=p) (cs:=cs) (ys:=YS) (ds:=ds) (w0:=wr) (w4:=V) (w6:=w6) (v':=v6) (y:=y) (by rw [hYS];exact hown) hel (by omega) hgr hGV hF hd hA hgr6 hat6
 have hrow6:GRow ZA3 10 54 g1 w6 v6 (YS ++ [y]):=⟨_,by rw [List.length_append,hYS];exact hown6,hel6⟩
 refine ⟨ZBE hR6 hp 2 v6,ZAc hG6 (by omega) 2 v6,fun b b1 b2=>?_,by simp;omega,ZAv hz6 2 v6,ZEK hrow6 (by simp) (fun b b1 b2=>Below.heap_setCell _ _ _ b (by show b≠g0;omega))⟩
 rw [Below.heap_setCell _ _ _ b (by show b≠g0;omega)]
 exact hk6 b b1 b2
