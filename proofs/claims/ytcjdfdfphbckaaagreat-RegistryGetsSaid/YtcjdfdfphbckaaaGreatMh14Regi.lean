/- Rows of own things, over a predicate; blocks of cells (no walk). -/
import Derived.Test.YtcjdfdfphbckaaaGreatMh4Regi
import Derived.Test.YtcjdfdfphbckaaaGreatMh11Regi
import Derived.Test.YtcjdfdfphbckaaaGreatMh12Regi
import Derived.Test.YtcjdfdfphbckaaaGreatMh13Regi
set_option linter.unusedVariables false
set_option linter.unusedSimpArgs false
set_option maxRecDepth 100000
set_option maxHeartbeats 64000000
open Go.Proofs.Tryz
namespace Go.Proofs.YtcjdfdfphbckaaaGreat
open Go.RowKit Go.Shelf
def ZEB {α : Type} (P:World→α→Value→Prop) (B:Nat) (W:World) (x : α) (v:Value):Prop:=∀ W':World,(∀ b,B≤b→b<W.heap.size→W'.heap[b]? = W.heap[b]?)→P W' x v
def GEl {α : Type} (P:World→α→Value→Prop) (n:Nat) (B:Nat) (W:World) (u:Value) (ys:List α) (cs:List Value):Prop:=
 ∀ (i:Nat) (y : α),ys[i]? = some y→∃ (ds:List Value) (E F:Nat),ds.length=n∧(∀ j,j<n→cs[i*n+j]? = ds[j]?)∧(B≤E∧F≤W.heap.size∧∀ g,u.ownBlock=some g→g<E∨F≤g)∧∀ W':World,(∀ b,E≤b→b<F→W'.heap[b]? = W.heap[b]?)→P W' y (.agg ds.toArray)
def GRow {α : Type} (P:World→α→Value→Prop) (n:Nat) (e:TypeId) (B:Nat) (W:World) (u:Value) (ys:List α):Prop:=∃ cs,W.ownsRow B e n u ys.length cs∧GEl P n B W u ys cs
theorem ZFM {α : Type} (P:World→α→Value→Prop) (n:Nat) (e:TypeId) (B:Nat) (W:World):GRow P n e B W (.slice none 0 0) ([]:List α):=⟨[],World.ownsRow_nil _ _ _ _,fun i y h=>by simp at h⟩
theorem ZBb {B:Nat} {W W':World} {e:TypeId} {size n:Nat} {v:Value} {xs:List Value} (h:W.ownsRow B e size v n xs) (hb:∀ b,B≤b→b<W.heap.size→W'.heap[b]? = W.heap[b]?):W'.ownsRow B e size v n xs:=by
 refine ⟨h.1, ?_⟩
 rcases h.2 with hn | ⟨g,cap,cur,rfl,hg,hh,r⟩
 ·exact .inl hn
 ·exact .inr ⟨g,cap,cur,rfl,hg,(hb g hg (ZZZ hh).1).trans hh,r⟩
theorem ZC3 {w:World} {base:Nat} {e:TypeId} {size:Nat} {v:Value} {n:Nat} {xs:List Value} (h:w.ownsRow base e size v n xs):∀ b,v.ownBlock=some b→b<w.heap.size∧base≤b:=by
 intro b hb
 rcases h.2 with ⟨rfl,_⟩ | ⟨g,cap,cur,rfl,h1,hg,_⟩
 ·simp [Value.ownBlock] at hb
 ·obtain rfl:g=b:=by simpa [Value.ownBlock] using hb
  exact ⟨(ZZZ hg).1,h1⟩
theorem ZEK {α : Type} {P:World→α→Value→Prop} {n:Nat} {e:TypeId} {B:Nat} {W W':World} {u:Value} {ys:List α} (h:GRow P n e B W u ys) (hs:W.heap.size≤W'.heap.size) (hb:∀ b,B≤b→b<W.heap.size→W'.heap[b]? = W.heap[b]?):GRow P n e B W' u ys:=by
 obtain ⟨cs,h1,h2⟩:=h
 refine ⟨cs,ZBb h1 hb,fun i y hy=>?_⟩
 obtain ⟨ds,E,F,hd,hc,⟨q1,q2,q3⟩,hi⟩:=h2 i y hy
 exact ⟨ds,E,F,hd,hc,⟨q1,Nat.le_trans q2 hs,q3⟩,fun W2 h=>hi W2 fun b b1 b2=>(h b b1 b2).trans (hb b (by omega) (by omega))⟩
theorem ZC4 {α : Type} {P:World→α→Value→Prop} {n:Nat} {e:TypeId} {B p:Nat} {w0 w4 w5 w6:World} {u v':Value} {ys:List α} {cs:List Value} {y : α} {ds:List Value} (hown:w0.ownsRow B e n u ys.length cs) (h:GEl P n B w0 u ys cs) (hp:p<B) (hB:B≤w0.heap.size)
  (hg:w0.grownBy w4 (some p)) (hF:ZEB P w0.heap.size w4 y (.agg ds.toArray)) (hd:ds.length=n) (h5:Below w4.heap.size w4 w5) (hg6:w5.grownBy w6 u.ownBlock) (hv:v'.ownBlock=u.ownBlock∨v'.ownBlock=some w5.heap.size) :
  GEl P n B w6 v' (ys ++ [y]) (cs++ds):=by
 have hlen:cs.length=ys.length*n:=hown.1
 have hub:=ZC3 hown
 have hs1:=hg.size
 have hs2:=h5.size
 have hs3:=hg6.size
 have h6:∀ b,b<w4.heap.size→some b≠u.ownBlock→w6.heap[b]? = w4.heap[b]?:=fun b hb hne=>(hg6.block b (by omega) hne).trans (h5.block b hb)
 intro i z hz
 rcases Nat.lt_or_ge i ys.length with hlt | hge
 ·rw [List.getElem?_append_left hlt] at hz
  obtain ⟨es,E,F,hd',hc,⟨q1,q2,q3⟩,hi⟩:=h i z hz
  refine ⟨es,E,F,hd',fun j hj=>?_,⟨q1,by omega,fun g hg=>?_⟩,fun W' h'=>hi W' fun b b1 b2=>?_⟩
  ·rw [List.getElem?_append_left,hc j hj]
   rw [hlen]
   have:=Nat.mul_le_mul_right n (show i+1≤ys.length by omega)
   rw [Nat.add_mul] at this
   omega
  ·rcases hv with hv | hv
   ·exact q3 g (hv ▸ hg)
   ·rw [hv] at hg;cases hg;exact .inr (by omega)
  ·rw [h' b b1 b2,h6 b (by omega) (fun e=>by rcases q3 b e.symm with h | h<;>omega),hg.block b (by omega) (by simp;omega)]
 ·have hil:i<(ys ++ [y]).length:=(List.getElem?_eq_some_iff.1 hz).1
  rw [List.length_append] at hil
  simp only [List.length_cons,List.length_nil] at hil
  obtain rfl:i=ys.length:=by omega
  rw [List.getElem?_append_right (by omega),Nat.sub_self] at hz
  simp at hz
  subst hz
  refine ⟨ds,w0.heap.size,w4.heap.size,hd,fun j hj=>?_,⟨hB,by omega,fun g hg=>?_⟩,fun W' h'=>hF W' fun b b1 b2=>?_⟩
  ·rw [List.getElem?_append_right (by omega),show ys.length*n+j-cs.length=j by omega]
  ·rcases hv with hv | hv
   ·exact .inl (hub g (hv ▸ hg)).1
   ·rw [hv] at hg;cases hg;exact .inr (by omega)
  ·rw [h' b b1 b2,h6 b b2 (fun e=>by have:=(hub b e.symm).1;omega)]
theorem ZDT {α : Type} {P:World→α→Value→Prop} {n:Nat} {e:TypeId} {B:Nat} {W:World} {u:Value} {ys:List α} (h:GRow P n e B W u ys) {W':World} (hb:∀ b,B≤b→b<W.heap.size→W'.heap[b]? = W.heap[b]?) :
  ∃ a cap,u=.slice a ys.length cap∧ys.length≤cap∧cap≤maxLen∧(ys = []∨∃ b,a=some ⟨b,0,none⟩∧∀ (i:Nat) (y : α),ys[i]? = some y→∃ ds:List Value,ds.length=n∧(∀ j c,ds[j]? = some c→W'.cell? ⟨b,i*n+j,none⟩=some c)∧P W' y (.agg ds.toArray)):=by
 obtain ⟨cs,h1,h2⟩:=h
 rcases h1.2 with ⟨rfl,hn⟩ | ⟨g,cap,cur,rfl,hg,hh,hc1,hc2,hc3,hc4⟩
 ·exact ⟨none,0,by rw [hn],by omega,by unfold maxLen;omega,.inl (List.length_eq_zero_iff.1 hn)⟩
 ·refine ⟨_,cap,rfl,hc1,hc2,.inr ⟨g,rfl,fun i y hy=>?_⟩⟩
  obtain ⟨ds,E,F,hd,hc,⟨q1,q2,q3⟩,hi⟩:=h2 i y hy
  have hv:=(hb g hg (ZZZ hh).1).trans hh
  have hil:i<ys.length:=(List.getElem?_eq_some_iff.1 hy).1
  refine ⟨ds,hd,fun j c hj=>?_,hi W' fun b b1 b2=>hb b (by omega) (by omega)⟩
  have hjn:j<n:=by rw [←hd];exact (List.getElem?_eq_some_iff.1 hj).1
  have hlt:i*n+j<ys.length*n:=by
   have:=Nat.mul_le_mul_right n (show i+1≤ys.length by omega)
   rw [Nat.add_mul] at this
   omega
  have hjc:=hc j hjn
  rw [hj,←hc4,List.getElem?_take,if_pos hlt,Array.getElem?_toList] at hjc
  simp [World.cell?,hv,hjc]
def CA (W:World) (b:Nat) (t:TypeId) (cs:Array Value):Prop:=W.heap[b]? = some (.cells cs t (0,0))
theorem ZC2 {W:World} {b:Nat} {t:TypeId} {cs:Array Value} (h:CA W b t cs):b<W.heap.size:=(ZZZ h).1
theorem ZBO (W:World) (t:TypeId) (cs:Array Value):CA (W.alloc (.cells cs t)) W.heap.size t cs:=World.alloc_heap_new W _
theorem ZA4 {W W':World} {b:Nat} {t:TypeId} {cs:Array Value} (h:CA W b t cs) (hb:Below W.heap.size W W'):CA W' b t cs:=(hb.block b (ZC2 h)).trans h
theorem ZAT {W W':World} {b p:Nat} {t:TypeId} {cs:Array Value} (h:CA W b t cs) (hg:W.grownBy W' (some p)) (hne:p<b):CA W' b t cs:=(hg.block b (ZC2 h) (by simp;omega)).trans h
theorem ZAK {W:World} {b:Nat} {t:TypeId} {cs:Array Value} (h:CA W b t cs) (i:Nat) (c:Value) (hc:cs[i]? = some c):W.cell? ⟨b,i,none⟩=some c:=by
 simp [World.cell?,show W.heap[b]? = _ from h,hc]
theorem ZAM {W:World} {b:Nat} {t:TypeId} {cs:Array Value} (h:CA W b t cs) (i:Nat):W.frozen? ⟨b,i,none⟩=false:=by simp [World.frozen?,show W.heap[b]? = _ from h]
theorem ZAv {W:World} {b:Nat} {t:TypeId} {cs:Array Value} (h:CA W b t cs) (i:Nat) (c:Value):CA (W.setCell ⟨b,i,none⟩ c) b t (cs.setIfInBounds i c):=by
 obtain ⟨hlt,hk⟩:=ZZZ h
 show (W.heap.modify b _)[b]? = _
 rw [Array.getElem?_eq_getElem (by rw [Array.size_modify];exact hlt),Array.getElem_modify_self,hk]
 rfl
open Go.RowKit Go.Shelf
namespace Rg
def rep {α : Type} (f:Bn.St→Option α × Bn.St):Nat→Bn.St→Option (List α) × Bn.St
 | 0,s=>(some [],s)
 |n+1,s=>match f s with
  |(none,s')=>(none,s')
  |(some x,s')=>((rep f n s').1.map (x :: ·),(rep f n s').2)
def rList {α : Type} (most:Nat) (f:Bn.St→Option α × Bn.St) (s:Bn.St):Option (List α) × Bn.St:=if most<(Bn.rNum s).1 then (none,(Bn.rNum s).2) else rep f (Bn.rNum s).1 (Bn.rNum s).2
def aft {α : Type} (l:List α) (r:Option (List α) × Bn.St):Option (List α) × Bn.St:=(r.1.map (l ++ ·),r.2)
theorem aft_nil {α : Type} (r:Option (List α) × Bn.St):aft [] r=r:=by
 obtain ⟨o,s⟩:=r
 cases o<;>rfl
theorem rep_none {α : Type} {f:Bn.St→Option α × Bn.St} {n:Nat} {s s':Bn.St} (h:f s=(none,s')):rep f (n+1) s=(none,s'):=by
 simp only [rep,h]
theorem rep_some {α : Type} {f:Bn.St→Option α × Bn.St} {n:Nat} {s s':Bn.St} {x : α} (l:List α) (h:f s=(some x,s')):aft l (rep f (n+1) s)=aft (l ++ [x]) (rep f n s'):=by
 simp only [rep,h,aft]
 cases (rep f n s').1 with
 |none=>rfl
 |some r=>simp
def rSlot (s:Bn.St):Option SlotM × Bn.St:=
 (if (Bn.rByte (Bn.rByte (Bn.rText s).2).2).1≤1 then some ⟨(Bn.rText s).1,((Bn.rByte (Bn.rText s).2).1:Nat),decide ((Bn.rByte (Bn.rByte (Bn.rText s).2).2).1=1),(rValue (Bn.rByte (Bn.rByte (Bn.rText s).2).2).2).1⟩ else none,
  (rValue (Bn.rByte (Bn.rByte (Bn.rText s).2).2).2).2)
def rOne (s:Bn.St):Option Int × Bn.St:=(some ((Bn.rByte s).1:Nat),(Bn.rByte s).2)
def rStep1 (k:Nat) (s:Bn.St):Option StepM × Bn.St:=
 if k=1 then ((rSlot s).1.map (fun sl=>⟨1,0,sl,[]⟩),(rSlot s).2)
 else if k=2 then (some ⟨2,((Bn.rByte s).1:Nat),z7,[]⟩,(Bn.rByte s).2)
 else if k=3 then (some ⟨3,((Bn.rByte s).1:Nat),⟨(Bn.rText (Bn.rByte s).2).1,0,false,Sc.nilV⟩,[]⟩,(Bn.rText (Bn.rByte s).2).2)
 else if k=4 then (some ⟨4,((Bn.rByte s).1:Nat),⟨e0,((Bn.rByte (Bn.rByte s).2).1:Nat),false,Sc.nilV⟩,[]⟩,(Bn.rByte (Bn.rByte s).2).2)
 else if k=5 then ((rList 8 rOne s).1.map (fun l=>⟨5,0,z7,l⟩),(rList 8 rOne s).2)
 else (some ⟨k,0,z7,[]⟩,s)
def rStep (s:Bn.St):Option StepM × Bn.St:=rStep1 (Bn.rByte s).1 (Bn.rByte s).2
def rTempl2 (nm:ByteArray) (sl:List SlotM) (s:Bn.St):Option TemplM × Bn.St:=((rList 8 rStep s).1.map (fun st=>⟨nm,sl,st⟩),(rList 8 rStep s).2)
def rTempl1 (nm:ByteArray) (r:Option (List SlotM) × Bn.St):Option TemplM × Bn.St:=match r.1 with
 |none=>(none,r.2)
 |some sl=>rTempl2 nm sl r.2
def rTempl (s:Bn.St):Option TemplM × Bn.St:=rTempl1 (Bn.rText s).1 (rList 8 rSlot (Bn.rText s).2)
def rReg (s:Bn.St):Option (List TemplM) × Bn.St:=rList 6 rTempl s
def rRead (s:Bn.St):Option (List TemplM):=match rReg s with
 |(none,_)=>none
 |(some l,s')=>if s'.isNone=true then none else if right l=true then some l else none
end Rg
theorem ZMa {W:World} {s:SlotM} {ds:List Value} (h:ZBe W s (.agg ds.toArray)):∃ c0 c1 c2 c3 c4 c5 c6,ds = [c0,c1,c2,c3,c4,c5,c6]∧ZDi W s c0 c1 c2 c3 c4 c5 c6:=by
 obtain ⟨c0,c1,c2,c3,c4,c5,c6,e,h7⟩:=h
 exact ⟨c0,c1,c2,c3,c4,c5,c6,by injection e with e;have:=congrArg Array.toList e;simpa using this,h7⟩
theorem ZOF {W:World} {s:StepM} {ds:List Value} (h:ZA3 W s (.agg ds.toArray)):∃ c2 c3 c4 c5 c6 c7 c8 oa oc,ds = [.int .i64 s.kd,.int .i64 s.col,c2,c3,c4,c5,c6,c7,c8,.slice oa s.od.length oc]∧I64 s.kd∧I64 s.col∧ZDi W s.sl c2 c3 c4 c5 c6 c7 c8∧Row W .i64 oa s.od.length oc s.od∧∀ y∈s.od,I64 y:=by
 obtain ⟨c2,c3,c4,c5,c6,c7,c8,oa,oc,e,h7⟩:=h
 exact ⟨c2,c3,c4,c5,c6,c7,c8,oa,oc,by injection e with e;have:=congrArg Array.toList e;simpa using this,h7⟩
theorem ZMb {W:World} {t:TemplM} {ds:List Value} (h:ZA8 W t (.agg ds.toArray)):∃ sa sc ta tc,ds = [.string t.nm,.slice sa t.slots.length sc,.slice ta t.steps.length tc]∧t.nm.size≤maxLen∧ZBV W sa sc t.slots∧ZCI W ta tc t.steps:=by
 obtain ⟨h1,sa,sc,ta,tc,e,h2,h3⟩:=h
 exact ⟨sa,sc,ta,tc,by injection e with e;have:=congrArg Array.toList e;simpa using this,h1,h2,h3⟩
theorem ZGK {B:Nat} {W:World} {u:Value} {ys:List SlotM} (h:GRow ZBe 7 51 B W u ys):∃ a cap,u=.slice a ys.length cap∧∀ W':World,(∀ b,B≤b→b<W.heap.size→W'.heap[b]? = W.heap[b]?)→ZBV W' a cap ys:=by
 obtain ⟨a,cap,e,_⟩:=ZDT h (W':=W) fun _ _ _=>rfl
 refine ⟨a,cap,e,fun W' hb=>?_⟩
 obtain ⟨a',cap',e',h1,h2,h3⟩:=ZDT h hb
 rw [e] at e';cases e'
 refine ⟨h1,h2,h3.imp id fun ⟨b,ha,hc⟩=>⟨b,0,ha,fun i s hs=>?_⟩⟩
 obtain ⟨ds,hd,hcell,hP⟩:=hc i s hs
 obtain ⟨c0,c1,c2,c3,c4,c5,c6,rfl,h7⟩:=ZMa hP
 rw [Nat.zero_add]
 exact ⟨c0,c1,c2,c3,c4,c5,c6,⟨hcell 0 _ rfl,hcell 1 _ rfl,hcell 2 _ rfl,hcell 3 _ rfl,hcell 4 _ rfl,hcell 5 _ rfl,hcell 6 _ rfl⟩,h7⟩
theorem ZGL {B:Nat} {W:World} {u:Value} {ys:List StepM} (h:GRow ZA3 10 54 B W u ys):∃ a cap,u=.slice a ys.length cap∧∀ W':World,(∀ b,B≤b→b<W.heap.size→W'.heap[b]? = W.heap[b]?)→ZCI W' a cap ys:=by
 obtain ⟨a,cap,e,_⟩:=ZDT h (W':=W) fun _ _ _=>rfl
 refine ⟨a,cap,e,fun W' hb=>?_⟩
 obtain ⟨a',cap',e',h1,h2,h3⟩:=ZDT h hb
 rw [e] at e';cases e'
 refine ⟨h1,h2,h3.imp id fun ⟨b,ha,hc⟩=>⟨b,0,ha,fun i s hs=>?_⟩⟩
 obtain ⟨ds,hd,hcell,hP⟩:=hc i s hs
 obtain ⟨c2,c3,c4,c5,c6,c7,c8,oa,oc,rfl,k1,k2,k3,k4,k5⟩:=ZOF hP
 rw [Nat.zero_add]
 exact ⟨oa,oc,⟨hcell 0 _ rfl,hcell 1 _ rfl,hcell 9 _ rfl⟩,k1,k2,⟨c2,c3,c4,c5,c6,c7,c8,⟨hcell 2 _ rfl,hcell 3 _ rfl,hcell 4 _ rfl,hcell 5 _ rfl,hcell 6 _ rfl,hcell 7 _ rfl,hcell 8 _ rfl⟩,k3⟩,k4,k5⟩
theorem ZFb {B:Nat} {W:World} {u:Value} {ys:List TemplM} (h:GRow ZA8 3 40 B W u ys):∃ a cap,u=.slice a ys.length cap∧∀ W':World,(∀ b,B≤b→b<W.heap.size→W'.heap[b]? = W.heap[b]?)→ZAw W' a cap ys:=by
 obtain ⟨a,cap,e,_⟩:=ZDT h (W':=W) fun _ _ _=>rfl
 refine ⟨a,cap,e,fun W' hb=>?_⟩
 obtain ⟨a',cap',e',h1,h2,h3⟩:=ZDT h hb
 rw [e] at e';cases e'
 refine ⟨h1,h2,h3.imp id fun ⟨b,ha,hc⟩=>⟨b,0,ha,fun i s hs=>?_⟩⟩
 obtain ⟨ds,hd,hcell,hP⟩:=hc i s hs
 obtain ⟨sa,sc,ta,tc,rfl,k1,k2,k3⟩:=ZMb hP
 rw [Nat.zero_add]
 exact ⟨sa,sc,ta,tc,⟨hcell 0 _ rfl,hcell 1 _ rfl,hcell 2 _ rfl⟩,k1,k2,k3⟩
def IsI1 (W:World) (n:Int) (v:Value):Prop:=v=.agg #[.int .i64 n]∧I64 n
theorem ZHx {B:Nat} {W:World} {u:Value} {ys:List Int} (h:GRow IsI1 1 3 B W u ys):∃ a cap,u=.slice a ys.length cap∧(∀ y∈ys,I64 y)∧∀ W':World,(∀ b,B≤b→b<W.heap.size→W'.heap[b]? = W.heap[b]?)→Row W' .i64 a ys.length cap ys:=by
 obtain ⟨a,cap,e,_,_,h0⟩:=ZDT h (W':=W) fun _ _ _=>rfl
 refine ⟨a,cap,e,fun y hy=>?_,fun W' hb=>?_⟩
 ·obtain ⟨i,hi⟩:=List.mem_iff_getElem?.1 hy
  rcases h0 with h0 | ⟨b,_,h0⟩
  ·subst h0;simp at hi
  ·obtain ⟨ds,_,_,_,hI⟩:=h0 i y hi
   exact hI
 ·obtain ⟨a',cap',e',h1,h2,h3⟩:=ZDT h hb
  rw [e] at e';cases e'
  refine ⟨rfl,h1,h2, ?_⟩
  rcases h3 with h3 | ⟨b,ha,hc⟩
  ·left;rw [h3];rfl
  ·refine .inr ⟨b,0,ha,fun i hi=>?_⟩
   obtain ⟨ds,hd,hcell,hP,_⟩:=hc i ys[i] (List.getElem?_eq_getElem hi)
   injection hP with hP
   have hds:ds = [.int .i64 ys[i]]:=by have:=congrArg Array.toList hP;simpa using this
   subst hds
   have:=hcell 0 _ rfl
   rw [Nat.zero_add,List.getElem?_eq_getElem hi]
   simpa using this
theorem ZKX {W W':World} {p:Nat} {s:Bn.St} {B:Nat} {e:TypeId} {size n:Nat} {u:Value} {xs:List Value} (h:RD W p s) (hown:W.ownsRow B e size u n xs) (hg:W.grownBy W' u.ownBlock) (h1:e≠5) (h2:e≠58):RD W' p s:=by
 have key:∀ (b:Nat) (cs:Array Value) (t:TypeId) (fr:Nat × Nat),W.heap[b]? = some (.cells cs t fr)→t≠e→W'.heap[b]? = W.heap[b]?:=fun b cs t fr hb hne=>hg.block b (ZZZ hb).1 fun e9=>by
  rcases hown.2 with ⟨rfl,_⟩ | ⟨g,cap,cur,rfl,_,hh,_⟩
  ·cases e9
  ·obtain rfl:b=g:=by simpa [Value.ownBlock] using e9
   rw [hb] at hh;cases hh;exact hne rfl
 obtain ⟨a,cap,hr,_⟩:=id h
 exact ZHi h (key _ _ _ _ hr (fun e=>h2 e.symm)) fun b cs fr hb=>key _ _ _ _ hb (fun e=>h1 e.symm)
open Go.RowKit Go.Shelf
theorem ZDk {W F:World} {p b:Nat} {s:Bn.St} {t:TypeId} {cs:Array Value} (h:RD W p s) (hc:CA W b t cs) (hg:W.grownBy F (some b)) (h1:t≠5) (h2:t≠58):RD F p s:=by
 have key:∀ (k:Nat) (ds:Array Value) (u:TypeId) (fr:Nat × Nat),W.heap[k]? = some (.cells ds u fr)→u≠t→F.heap[k]? = W.heap[k]?:=fun k ds u fr hb hne=>hg.block k (ZZZ hb).1 fun e9=>by
  cases e9
  rw [show W.heap[b]? = _ from hc] at hb
  cases hb;exact hne rfl
 obtain ⟨a,cap,hr,_⟩:=id h
 exact ZHi h (key _ _ _ _ hr (fun e=>h2 e.symm)) fun k ds fr hb=>key _ _ _ _ hb (fun e=>h1 e.symm)
theorem ZBa {w W F:World} {p b:Nat} (h:w.grownBy W (some p)) (hg:W.grownBy F (some b)) (hb:w.heap.size≤b):w.grownBy F (some p):=
 ⟨hg.os.trans h.os,hg.tape.trans h.tape,hg.output.trans h.output,Nat.le_trans h.size hg.size,fun k hk hne=>by rw [hg.block k (Nat.lt_of_lt_of_le hk h.size) (by simp;omega),h.block k hk hne]⟩
theorem set7 {W:World} {b:Nat} {t:TypeId} {c0 c1 c2 c3 c4 c5 c6:Value} (h:CA W b t #[c0,c1,c2,c3,c4,c5,c6]) (d0 d1 d2 d3 d4 d5 d6:Value) :
  CA (((((((W.setCell ⟨b,0,none⟩ d0).setCell ⟨b,1,none⟩ d1).setCell ⟨b,2,none⟩ d2).setCell ⟨b,3,none⟩ d3).setCell ⟨b,4,none⟩ d4).setCell ⟨b,5,none⟩ d5).setCell ⟨b,6,none⟩ d6) b t #[d0,d1,d2,d3,d4,d5,d6] ∧
  W.grownBy (((((((W.setCell ⟨b,0,none⟩ d0).setCell ⟨b,1,none⟩ d1).setCell ⟨b,2,none⟩ d2).setCell ⟨b,3,none⟩ d3).setCell ⟨b,4,none⟩ d4).setCell ⟨b,5,none⟩ d5).setCell ⟨b,6,none⟩ d6) (some b):=by
 have h0:CA (W.setCell ⟨b,0,none⟩ d0) b t #[d0,c1,c2,c3,c4,c5,c6]:=ZAv h 0 d0
 have g0:W.grownBy (W.setCell ⟨b,0,none⟩ d0) (some b):=ZAY b 0 d0
 have h1:CA ((W.setCell ⟨b,0,none⟩ d0).setCell ⟨b,1,none⟩ d1) b t #[d0,d1,c2,c3,c4,c5,c6]:=ZAv h0 1 d1
 have g1:W.grownBy ((W.setCell ⟨b,0,none⟩ d0).setCell ⟨b,1,none⟩ d1) (some b):=ZAC g0 (ZAY b 1 d1)
 have h2:CA (((W.setCell ⟨b,0,none⟩ d0).setCell ⟨b,1,none⟩ d1).setCell ⟨b,2,none⟩ d2) b t #[d0,d1,d2,c3,c4,c5,c6]:=ZAv h1 2 d2
 have g2:W.grownBy (((W.setCell ⟨b,0,none⟩ d0).setCell ⟨b,1,none⟩ d1).setCell ⟨b,2,none⟩ d2) (some b):=ZAC g1 (ZAY b 2 d2)
 have h3:CA ((((W.setCell ⟨b,0,none⟩ d0).setCell ⟨b,1,none⟩ d1).setCell ⟨b,2,none⟩ d2).setCell ⟨b,3,none⟩ d3) b t #[d0,d1,d2,d3,c4,c5,c6]:=ZAv h2 3 d3
 have g3:W.grownBy ((((W.setCell ⟨b,0,none⟩ d0).setCell ⟨b,1,none⟩ d1).setCell ⟨b,2,none⟩ d2).setCell ⟨b,3,none⟩ d3) (some b):=ZAC g2 (ZAY b 3 d3)
 have h4:CA (((((W.setCell ⟨b,0,none⟩ d0).setCell ⟨b,1,none⟩ d1).setCell ⟨b,2,none⟩ d2).setCell ⟨b,3,none⟩ d3).setCell ⟨b,4,none⟩ d4) b t #[d0,d1,d2,d3,d4,c5,c6]:=ZAv h3 4 d4
 have g4:W.grownBy (((((W.setCell ⟨b,0,none⟩ d0).setCell ⟨b,1,none⟩ d1).setCell ⟨b,2,none⟩ d2).setCell ⟨b,3,none⟩ d3).setCell ⟨b,4,none⟩ d4) (some b):=ZAC g3 (ZAY b 4 d4)
 have h5:CA ((((((W.setCell ⟨b,0,none⟩ d0).setCell ⟨b,1,none⟩ d1).setCell ⟨b,2,none⟩ d2).setCell ⟨b,3,none⟩ d3).setCell ⟨b,4,none⟩ d4).setCell ⟨b,5,none⟩ d5) b t #[d0,d1,d2,d3,d4,d5,c6]:=ZAv h4 5 d5
 have g5:W.grownBy ((((((W.setCell ⟨b,0,none⟩ d0).setCell ⟨b,1,none⟩ d1).setCell ⟨b,2,none⟩ d2).setCell ⟨b,3,none⟩ d3).setCell ⟨b,4,none⟩ d4).setCell ⟨b,5,none⟩ d5) (some b):=ZAC g4 (ZAY b 5 d5)
 have h6:CA (((((((W.setCell ⟨b,0,none⟩ d0).setCell ⟨b,1,none⟩ d1).setCell ⟨b,2,none⟩ d2).setCell ⟨b,3,none⟩ d3).setCell ⟨b,4,none⟩ d4).setCell ⟨b,5,none⟩ d5).setCell ⟨b,6,none⟩ d6) b t #[d0,d1,d2,d3,d4,d5,d6]:=ZAv h5 6 d6
 have g6:W.grownBy (((((((W.setCell ⟨b,0,none⟩ d0).setCell ⟨b,1,none⟩ d1).setCell ⟨b,2,none⟩ d2).setCell ⟨b,3,none⟩ d3).setCell ⟨b,4,none⟩ d4).setCell ⟨b,5,none⟩ d5).setCell ⟨b,6,none⟩ d6) (some b):=ZAC g5 (ZAY b 6 d6)
 exact ⟨h6,g6⟩
theorem set3 {W:World} {b:Nat} {t:TypeId} {c0 c1 c2:Value} (h:CA W b t #[c0,c1,c2]) (d0 d1 d2:Value) :
  CA (((W.setCell ⟨b,0,none⟩ d0).setCell ⟨b,1,none⟩ d1).setCell ⟨b,2,none⟩ d2) b t #[d0,d1,d2] ∧
  W.grownBy (((W.setCell ⟨b,0,none⟩ d0).setCell ⟨b,1,none⟩ d1).setCell ⟨b,2,none⟩ d2) (some b):=by
 have h0:CA (W.setCell ⟨b,0,none⟩ d0) b t #[d0,c1,c2]:=ZAv h 0 d0
 have g0:W.grownBy (W.setCell ⟨b,0,none⟩ d0) (some b):=ZAY b 0 d0
 have h1:CA ((W.setCell ⟨b,0,none⟩ d0).setCell ⟨b,1,none⟩ d1) b t #[d0,d1,c2]:=ZAv h0 1 d1
 have g1:W.grownBy ((W.setCell ⟨b,0,none⟩ d0).setCell ⟨b,1,none⟩ d1) (some b):=ZAC g0 (ZAY b 1 d1)
 have h2:CA (((W.setCell ⟨b,0,none⟩ d0).setCell ⟨b,1,none⟩ d1).setCell ⟨b,2,none⟩ d2) b t #[d0,d1,d2]:=ZAv h1 2 d2
 have g2:W.grownBy (((W.setCell ⟨b,0,none⟩ d0).setCell ⟨b,1,none⟩ d1).setCell ⟨b,2,none⟩ d2) (some b):=ZAC g1 (ZAY b 2 d2)
 exact ⟨h2,g2⟩
theorem set10 {W:World} {b:Nat} {t:TypeId} {c0 c1 c2 c3 c4 c5 c6 c7 c8 c9:Value} (h:CA W b t #[c0,c1,c2,c3,c4,c5,c6,c7,c8,c9]) (d0 d1 d2 d3 d4 d5 d6 d7 d8 d9:Value) :
  CA ((((((((((W.setCell ⟨b,0,none⟩ d0).setCell ⟨b,1,none⟩ d1).setCell ⟨b,2,none⟩ d2).setCell ⟨b,3,none⟩ d3).setCell ⟨b,4,none⟩ d4).setCell ⟨b,5,none⟩ d5).setCell ⟨b,6,none⟩ d6).setCell ⟨b,7,none⟩ d7).setCell ⟨b,8,none⟩ d8).setCell ⟨b,9,none⟩ d9) b t #[d0,d1,d2,d3,d4,d5,d6,d7,d8,d9] ∧
  W.grownBy ((((((((((W.setCell ⟨b,0,none⟩ d0).setCell ⟨b,1,none⟩ d1).setCell ⟨b,2,none⟩ d2).setCell ⟨b,3,none⟩ d3).setCell ⟨b,4,none⟩ d4).setCell ⟨b,5,none⟩ d5).setCell ⟨b,6,none⟩ d6).setCell ⟨b,7,none⟩ d7).setCell ⟨b,8,none⟩ d8).setCell ⟨b,9,none⟩ d9) (some b):=by
 have h0:CA (W.setCell ⟨b,0,none⟩ d0) b t #[d0,c1,c2,c3,c4,c5,c6,c7,c8,c9]:=ZAv h 0 d0
 have g0:W.grownBy (W.setCell ⟨b,0,none⟩ d0) (some b):=ZAY b 0 d0
 have h1:CA ((W.setCell ⟨b,0,none⟩ d0).setCell ⟨b,1,none⟩ d1) b t #[d0,d1,c2,c3,c4,c5,c6,c7,c8,c9]:=ZAv h0 1 d1
 have g1:W.grownBy ((W.setCell ⟨b,0,none⟩ d0).setCell ⟨b,1,none⟩ d1) (some b):=ZAC g0 (ZAY b 1 d1)
 have h2:CA (((W.setCell ⟨b,0,none⟩ d0).setCell ⟨b,1,none⟩ d1).setCell ⟨b,2,none⟩ d2) b t #[d0,d1,d2,c3,c4,c5,c6,c7,c8,c9]:=ZAv h1 2 d2
 have g2:W.grownBy (((W.setCell ⟨b,0,none⟩ d0).setCell ⟨b,1,none⟩ d1).setCell ⟨b,2,none⟩ d2) (some b):=ZAC g1 (ZAY b 2 d2)
 have h3:CA ((((W.setCell ⟨b,0,none⟩ d0).setCell ⟨b,1,none⟩ d1).setCell ⟨b,2,none⟩ d2).setCell ⟨b,3,none⟩ d3) b t #[d0,d1,d2,d3,c4,c5,c6,c7,c8,c9]:=ZAv h2 3 d3
 have g3:W.grownBy ((((W.setCell ⟨b,0,none⟩ d0).setCell ⟨b,1,none⟩ d1).setCell ⟨b,2,none⟩ d2).setCell ⟨b,3,none⟩ d3) (some b):=ZAC g2 (ZAY b 3 d3)
 have h4:CA (((((W.setCell ⟨b,0,none⟩ d0).setCell ⟨b,1,none⟩ d1).setCell ⟨b,2,none⟩ d2).setCell ⟨b,3,none⟩ d3).setCell ⟨b,4,none⟩ d4) b t #[d0,d1,d2,d3,d4,c5,c6,c7,c8,c9]:=ZAv h3 4 d4
 have g4:W.grownBy (((((W.setCell ⟨b,0,none⟩ d0).setCell ⟨b,1,none⟩ d1).setCell ⟨b,2,none⟩ d2).setCell ⟨b,3,none⟩ d3).setCell ⟨b,4,none⟩ d4) (some b):=ZAC g3 (ZAY b 4 d4)
 have h5:CA ((((((W.setCell ⟨b,0,none⟩ d0).setCell ⟨b,1,none⟩ d1).setCell ⟨b,2,none⟩ d2).setCell ⟨b,3,none⟩ d3).setCell ⟨b,4,none⟩ d4).setCell ⟨b,5,none⟩ d5) b t #[d0,d1,d2,d3,d4,d5,c6,c7,c8,c9]:=ZAv h4 5 d5
 have g5:W.grownBy ((((((W.setCell ⟨b,0,none⟩ d0).setCell ⟨b,1,none⟩ d1).setCell ⟨b,2,none⟩ d2).setCell ⟨b,3,none⟩ d3).setCell ⟨b,4,none⟩ d4).setCell ⟨b,5,none⟩ d5) (some b):=ZAC g4 (ZAY b 5 d5)
 have h6:CA (((((((W.setCell ⟨b,0,none⟩ d0).setCell ⟨b,1,none⟩ d1).setCell ⟨b,2,none⟩ d2).setCell ⟨b,3,none⟩ d3).setCell ⟨b,4,none⟩ d4).setCell ⟨b,5,none⟩ d5).setCell ⟨b,6,none⟩ d6) b t #[d0,d1,d2,d3,d4,d5,d6,c7,c8,c9]:=ZAv h5 6 d6
 have g6:W.grownBy (((((((W.setCell ⟨b,0,none⟩ d0).setCell ⟨b,1,none⟩ d1).setCell ⟨b,2,none⟩ d2).setCell ⟨b,3,none⟩ d3).setCell ⟨b,4,none⟩ d4).setCell ⟨b,5,none⟩ d5).setCell ⟨b,6,none⟩ d6) (some b):=ZAC g5 (ZAY b 6 d6)
 have h7:CA ((((((((W.setCell ⟨b,0,none⟩ d0).setCell ⟨b,1,none⟩ d1).setCell ⟨b,2,none⟩ d2).setCell ⟨b,3,none⟩ d3).setCell ⟨b,4,none⟩ d4).setCell ⟨b,5,none⟩ d5).setCell ⟨b,6,none⟩ d6).setCell ⟨b,7,none⟩ d7) b t #[d0,d1,d2,d3,d4,d5,d6,d7,c8,c9]:=ZAv h6 7 d7
 have g7:W.grownBy ((((((((W.setCell ⟨b,0,none⟩ d0).setCell ⟨b,1,none⟩ d1).setCell ⟨b,2,none⟩ d2).setCell ⟨b,3,none⟩ d3).setCell ⟨b,4,none⟩ d4).setCell ⟨b,5,none⟩ d5).setCell ⟨b,6,none⟩ d6).setCell ⟨b,7,none⟩ d7) (some b):=ZAC g6 (ZAY b 7 d7)
 have h8:CA (((((((((W.setCell ⟨b,0,none⟩ d0).setCell ⟨b,1,none⟩ d1).setCell ⟨b,2,none⟩ d2).setCell ⟨b,3,none⟩ d3).setCell ⟨b,4,none⟩ d4).setCell ⟨b,5,none⟩ d5).setCell ⟨b,6,none⟩ d6).setCell ⟨b,7,none⟩ d7).setCell ⟨b,8,none⟩ d8) b t #[d0,d1,d2,d3,d4,d5,d6,d7,d8,c9]:=ZAv h7 8 d8
 have g8:W.grownBy (((((((((W.setCell ⟨b,0,none⟩ d0).setCell ⟨b,1,none⟩ d1).setCell ⟨b,2,none⟩ d2).setCell ⟨b,3,none⟩ d3).setCell ⟨b,4,none⟩ d4).setCell ⟨b,5,none⟩ d5).setCell ⟨b,6,none⟩ d6).setCell ⟨b,7,none⟩ d7).setCell ⟨b,8,none⟩ d8) (some b):=ZAC g7 (ZAY b 8 d8)
 have h9:CA ((((((((((W.setCell ⟨b,0,none⟩ d0).setCell ⟨b,1,none⟩ d1).setCell ⟨b,2,none⟩ d2).setCell ⟨b,3,none⟩ d3).setCell ⟨b,4,none⟩ d4).setCell ⟨b,5,none⟩ d5).setCell ⟨b,6,none⟩ d6).setCell ⟨b,7,none⟩ d7).setCell ⟨b,8,none⟩ d8).setCell ⟨b,9,none⟩ d9) b t #[d0,d1,d2,d3,d4,d5,d6,d7,d8,d9]:=ZAv h8 9 d9
 have g9:W.grownBy ((((((((((W.setCell ⟨b,0,none⟩ d0).setCell ⟨b,1,none⟩ d1).setCell ⟨b,2,none⟩ d2).setCell ⟨b,3,none⟩ d3).setCell ⟨b,4,none⟩ d4).setCell ⟨b,5,none⟩ d5).setCell ⟨b,6,none⟩ d6).setCell ⟨b,7,none⟩ d7).setCell ⟨b,8,none⟩ d8).setCell ⟨b,9,none⟩ d9) (some b):=ZAC g8 (ZAY b 9 d9)
 exact ⟨h9,g9⟩
theorem box7 {W:World} {b:Nat} {t:TypeId} {c0 c1 c2 c3 c4 c5 c6:Value} (h:CA W b t #[c0,c1,c2,c3,c4,c5,c6]) :
  (W.cell? ⟨b,0,none⟩=some c0∧W.cell? ⟨b,1,none⟩=some c1∧W.cell? ⟨b,2,none⟩=some c2∧W.cell? ⟨b,3,none⟩=some c3∧W.cell? ⟨b,4,none⟩=some c4∧W.cell? ⟨b,5,none⟩=some c5∧W.cell? ⟨b,6,none⟩=some c6) ∧
  (W.frozen? ⟨b,0,none⟩=false∧W.frozen? ⟨b,1,none⟩=false∧W.frozen? ⟨b,2,none⟩=false∧W.frozen? ⟨b,3,none⟩=false∧W.frozen? ⟨b,4,none⟩=false∧W.frozen? ⟨b,5,none⟩=false∧W.frozen? ⟨b,6,none⟩=false):=
 ⟨⟨ZAK h 0 _ rfl,ZAK h 1 _ rfl,ZAK h 2 _ rfl,ZAK h 3 _ rfl,ZAK h 4 _ rfl,ZAK h 5 _ rfl,ZAK h 6 _ rfl⟩,ZAM h 0,ZAM h 1,ZAM h 2,ZAM h 3,ZAM h 4,ZAM h 5,ZAM h 6⟩
theorem slot7n:(Tryz.prog.info? 51).map (·.size)=some 7:=by kernel_rfl
def ZMc (p:Nat) (w:World) (r:Option SlotM × Bn.St) (e:Ending) (w':World):Prop:=∃ (nm:ByteArray) (ty:Int) (rq:Bool) (k n:Int) (t:ByteArray) (a:Option Addr) (l c:Nat),
 e=.returned (.tuple #[.agg #[.string nm,.int .i64 ty,.bool rq,.int .i64 k,.int .i64 n,.string t,.slice a l c],.bool r.1.isSome])∧(∀ x,r.1=some x→ZEB ZBe w.heap.size w' x (.agg #[.string nm,.int .i64 ty,.bool rq,.int .i64 k,.int .i64 n,.string t,.slice a l c]))∧RD w' p r.2∧w.grownBy w' (some p)
abbrev vz7:Array Value:=#[.string ⟨#[]⟩,.int .i64 0,.bool false,.int .i64 0,.int .i64 0,.string ⟨#[]⟩,.slice none 0 0]
theorem ZE5 (p:Nat) (s:Bn.St) (w:World) (h:RD w p s):Calls Tryz.prog 44 #[.pointer (some ⟨p,0,none⟩)] w (ZMc p w (Rg.rSlot s)):=by
 have hpw:=ZCf h
 have hA0:=(Below.refl _ w).alloc (Nat.le_refl _) (.cells vz7 51)
 have hz0:=ZBO w 51 vz7
 have hR0:=ZAp h hA0
 have hT:=ZDN p s _ hR0
 have hlen:=ZPX h
 have hnm:(Bn.rText s).1.size≤maxLen:=ZDP h
 unfold Rg.rSlot
 generalize Bn.rText s=r1 at *
 obtain ⟨nm,s1⟩:=r1
 simp only at hnm hT ⊢
 have hB1:=fun W (h:RD W p s1)=>ZBT p s1 W h
 have hl1:=fun W (h:RD W p s1)=>ZBv h
 generalize Bn.rByte s1=r2 at *
 obtain ⟨ty,s2⟩:=r2
 simp only at hB1 hl1 ⊢
 have hB2:=fun W (h:RD W p s2)=>ZBT p s2 W h
 have hl2:=fun W (h:RD W p s2)=>ZBv h
 generalize Bn.rByte s2=r3 at *
 obtain ⟨q,s3⟩:=r3
 simp only at hB2 hl2 ⊢
 have hV:=fun W (h:RD W p s3)=>ZJQ p s3 W h
 generalize rValue s3=r4 at *
 obtain ⟨v,s4⟩:=r4
 simp only at hV ⊢
 have HB1:=ZZY hB1;have HB2:=ZZY hB2;have HV:=ZZY hV;have HZ:=ZZY hz0;have HL1:=ZZY hl1;have HL2:=ZZY hl2;have HT:=ZZY hT
 clear hB1 hB2 hV hz0 hl1 hl2 h hlen hT hR0
 have hG0:=ZAX (ZCC w (some p)) (.cells vz7 51)
 obtain ⟨o,ho⟩:∃ o:Option SlotM,(if q≤1 then some ⟨nm,(ty:Int),decide (q=1),v⟩ else none)=o:=⟨_,rfl⟩
 have hos:o.isSome=decide (q≤1):=by
  rw [←ho]
  by_cases hq:q≤1
  ·rw [if_pos hq,decide_eq_true hq];rfl
  ·rw [if_neg hq,decide_eq_false hq];rfl
 have hox:∀ x,o=some x→x=⟨nm,(ty:Int),decide (q=1),v⟩:=by
  intro x hx
  rw [←ho] at hx
  split at hx
  ·cases hx;rfl
  ·cases hx
 rw [ho]
 have HOS:=ZZY hos;have HOX:=ZZY hox
 clear ho hos hox
 go_enter func44,ntmps44
 go_wp2_with (first
  |(go_at_call 42;(with_reducible refine (HT.out).mono ?_);rintro e w1 ⟨rfl,hR1,hg1⟩;have hz1:=ZAT HZ.out hg1 hpw;have hG1:=ZAC hG0 hg1)
  |(go_at_call 73;(with_reducible refine (HB1.out _ hR1).mono ?_);rintro e w2 ⟨rfl,hR2,hg2⟩;have hz2:=ZAT hz1 hg2 hpw;have hG2:=ZAC hG1 hg2;have hty:=HL1.out _ hR1)
  |(go_at_call 73;(with_reducible refine (HB2.out _ hR2).mono ?_);rintro e w3 ⟨rfl,hR3,hg3⟩;have hz3:=ZAT hz2 hg3 hpw;have hG3:=ZAC hG2 hg3;have hq:=HL2.out _ hR2)
  |(go_at_call 74;(with_reducible refine (HV.out _ hR3).mono ?_);rintro e w4 ⟨x4,rfl,hF4,hR4,hg4⟩;have hG4:=ZAC hG3 hg4;have hi4:=ZC8 hF4;obtain ⟨k,n,t,a,len,cap,rfl⟩:=ZDb hi4;have hA4:=(Below.refl _ w4).alloc (Nat.le_refl _) (.cells #[.int .i64 k,.int .i64 n,.string t,.slice a len cap] 49);have hz4:=ZA4 (ZAT hz3 hg4 hpw) hA4;obtain ⟨⟨r0,r1,r2,r3,r4,r5,r6⟩,f0,f1,f2,f3,f4,f5,f6⟩:=box7 hz4))
 obtain ⟨hzF,hgF⟩:=set7 hz4 (.string nm) (.int .i64 (ty:Int)) (.bool ((q:Int) == 1)) (.int .i64 k) (.int .i64 n) (.string t) (.slice a len cap)
 have hGA:=ZAX hG4 (.cells #[.int .i64 k,.int .i64 n,.string t,.slice a len cap] 49)
 have hRF:=ZDk (ZAp hR4 hA4) hz4 hgF (by decide) (by decide)
 have hGF:=ZBa hGA hgF (Nat.le_refl _)
 refine bodyPost_ret (ZAt Tryz.results44 _ _ w.heap.size _ _ _ _ rfl hzF Tryz.underlying51 rfl slot7n) rfl ?_
 refine ⟨nm,ty,(q:Int) == 1,k,n,t,a,len,cap, ?_,fun x hx=>?_,hRF,hGF⟩
 ·have hos:=HOS.out
  simp only at hos ⊢
  rw [hos]
  have:decide ((q:Int)≤1)=decide (q≤1):=by
   by_cases h9:q≤1
   ·rw [decide_eq_true h9,decide_eq_true (by omega)]
   ·rw [decide_eq_false h9,decide_eq_false (by omega)]
  rw [←this]
  rfl
 ·rw [HOX.out x hx]
  have hb9:((q:Int) == 1)=decide (q=1):=by
   by_cases h9:q=1
   ·subst h9;rfl
   ·rw [decide_eq_false h9,beq_eq_false_iff_ne];omega
  intro W' hW'
  rw [hb9]
  have hs1:=hg1.size
  have hs2:=hg2.size
  have hs3:=hg3.size
  have hs4:=hg4.size
  have hsA:=hA4.size
  have hsF:=hgF.size
  have hs0:w.heap.size+1≤w1.heap.size:=by have:=hA0.size;simp only [World.size_alloc] at *;omega
  refine ⟨_,_,_,_,_,_,_,rfl,hnm,⟨by simp only;omega,by simp only;omega⟩,rfl,rfl,rfl,hF4 W' fun b b1 b2=>?_⟩
  rw [hW' b (by omega) (by omega),hgF.block b (by omega) (by simp;omega),hA4.block b b2]
