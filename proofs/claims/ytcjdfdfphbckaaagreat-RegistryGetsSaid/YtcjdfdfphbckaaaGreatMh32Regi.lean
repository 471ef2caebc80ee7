/- The program's schema: the iterator over a template's versions. -/
import Derived.Test.YtcjdfdfphbckaaaGreatMh31Regi
import Derived.OwnWalkIn
import Derived.TacticsInMore
import Derived.LoopNIn
import Derived.LoopIn
set_option linter.unusedVariables false
set_option linter.unusedSimpArgs false
set_option maxRecDepth 100000
set_option maxHeartbeats 64000000
open Go.Proofs.Tryz
namespace Go.Proofs.YtcjdfdfphbckaaaGreat
open Go.RowKit Go.Shelf
attribute [local go_sem] Oper.semAt_some
abbrev ZDe:=Sc.Ver × (Option Addr × Nat × Nat) × (Option Addr × Nat × Nat)
abbrev vSl (y:ZDe):Value:=.slice y.2.1.1 y.2.1.2.1 y.2.1.2.2
abbrev vCo (y:ZDe):Value:=.slice y.2.2.1 y.2.2.2.1 y.2.2.2.2
def verV (y:ZDe):Array Value:=#[.agg #[vSl y,vCo y]]
def TV (w0:World) (bx:Nat) (A C:World):Prop:=(Below w0.heap.size w0 A→Below w0.heap.size w0 C)∧A.heap.size≤C.heap.size∧bx<C.heap.size ∧
 ∀ b o,A.heap[b]? = some o→(b≠bx∨∀ cs fr,o≠.cells cs 146 fr)→C.heap[b]? = some o
def KV (w0:World) (bx:Nat) (A C:World):Prop:=(Below w0.heap.size w0 A→Below w0.heap.size w0 C) ∧
 ∀ b cs t fr,A.heap[b]? = some (.cells cs t fr)→((t≠146∧t≠136)∨b=bx)→C.heap[b]? = some (.cells cs t fr)
theorem ZES {w0 A C:World} {bx:Nat} (hb:Below A.heap.size A C) (hx:bx<C.heap.size) (h0:w0.heap.size≤A.heap.size):TV w0 bx A C:=
 ⟨fun h=>h.trans (hb.mono h0),hb.size,hx,fun b o h _=>(hb.block b (ZZZ h).1).trans h⟩
theorem ZKk {w0 A B C:World} {bx:Nat} (h:TV w0 bx A B) (k:TV w0 bx B C):TV w0 bx A C:=
 ⟨fun e=>k.1 (h.1 e),Nat.le_trans h.2.1 k.2.1,k.2.2.1,fun b o e he=>k.2.2.2 b o (h.2.2.2 b o e he) he⟩
theorem ZPJ {w0 A:World} {bx i:Nat} {u:Value} {cs:Array Value} {fr:Nat × Nat} (h0:w0.heap.size≤bx) (hh:A.heap[bx]? = some (.cells cs 146 fr)):TV w0 bx A (A.setCell ⟨bx,i,none⟩ u):=by
 have hk:=ZAJ A bx i u
 refine ⟨fun h=>ZAE h hk (fun b e=>by cases e;exact h0) h.size,hk.size,Nat.lt_of_lt_of_le (ZZZ hh).1 hk.size,fun b o e he=>(hk.block b (ZZZ e).1 (fun e2=>?_)).trans e⟩
 cases e2
 rw [hh] at e
 cases e
 rcases he with he | he
 ·exact he rfl
 ·exact he _ _ rfl
theorem ZNB {w0 A C:World} {bx:Nat} (h:KV w0 bx A C) (hA:Below w0.heap.size w0 A):ZFG w0 A C:=
 ⟨h.1 hA,fun b cs t fr _ hb ht=>h.2 b cs t fr hb (.inl ⟨by rcases ht with rfl | rfl<;>decide,by rcases ht with rfl | rfl<;>decide⟩)⟩
theorem ZJu (n:Nat) (nm:ByteArray) (sa:Option Addr) (sn sc:Nat) (ta:Option Addr) (tn tc:Nat) (w:World) :
  CallsIn Fence.wide n Tryz.prog 121 #[.agg #[.string nm,.slice sa sn sc,.slice ta tn tc]] w fun e w'=>e=.returned (.func (.func 132) #[] #[.pointer (some ⟨w.heap.size,0,none⟩)])∧w'=w.alloc (.cells #[.string nm,.slice sa sn sc,.slice ta tn tc] 40):=by
 refine callsIn_of_wp func121 rfl trivial ?_ rfl
 simp only [ntmps121,List.size_toArray,List.length_cons,List.length_nil,Nat.reduceAdd,Nat.reduceSub,Array.replicate_succ,Array.replicate_zero,List.push_toArray,List.append_toArray,List.nil_append,List.cons_append]
 gi_wp2
 go_ret
 exact ⟨rfl,rfl⟩
def ZOd (w0:World) (Bt bx:Nat) (t:TemplM) (sa:Option Addr) (sc:Nat) (ta:Option Addr) (tc:Nat) (o:Option Sc.Ver) (a:Option Addr) (nn c:Nat) (a':Option Addr) (n' c' q:Nat) (pre:List ZDe) (W:World):Prop:=
 Below w0.heap.size w0 W∧W.heap[Bt]? = some (.cells #[.string t.nm,.slice sa t.slots.length sc,.slice ta t.steps.length tc] 40 (0,0))∧W.heap[bx]? = some (.cells #[.slice a nn c,.slice a' n' c'] 146 (0,0)) ∧
 (∀ x,o=some x→ZD9 w0 W x (.slice a nn c) (.slice a' n' c')∧Sc.VerOk (8+q) x)∧(∀ y∈pre,ZD9 w0 W y.1 (vSl y) (vCo y)) ∧
 (pre.map (·.1)++(match o with | none=>[] | some x=>Sc.runFrom x (t.steps.drop q))=handed t)∧pre.length≤q
theorem ZLs {w0 wr W3 W4:World} {Bt bx:Nat} {t:TemplM} {sa:Option Addr} {sc:Nat} {ta:Option Addr} {tc:Nat} {x:Sc.Ver} {s:StepM} {a:Option Addr} {nn c:Nat} {a':Option Addr} {n' c' q:Nat} {pre:List ZDe} {a5 a6:Option Addr} {n5 c5 n6 c6:Nat} {b5:Bool}
  (hV:ZOd w0 Bt bx t sa sc ta tc (some x) a nn c a' n' c' q pre wr) (hs:t.steps[q]? = some s) (hk:ZFG w0 wr W3) (hBt3:W3.heap[Bt]? = some (.cells #[.string t.nm,.slice sa t.slots.length sc,.slice ta t.steps.length tc] 40 (0,0)))
  (hbx3:W3.heap[bx]? = some (.cells #[.slice a nn c,.slice a' n' c'] 146 (0,0))) (hwx:w0.heap.size≤bx) (hB5:Below W3.heap.size W3 W4) (hok:ZC5 (Sc.step x s) w0 W4 b5 (.slice a5 n5 c5) (.slice a6 n6 c6)) :
  ZOd w0 Bt bx t sa sc ta tc (Sc.step x s) a5 n5 c5 a6 n6 c6 (q+1) (pre ++ [(x,(a,nn,c),(a',n',c'))]) ((W4.setCell ⟨bx,0,none⟩ (.slice a5 n5 c5)).setCell ⟨bx,1,none⟩ (.slice a6 n6 c6))∧b5=(Sc.step x s).isSome ∧
   TV w0 bx W3 ((W4.setCell ⟨bx,0,none⟩ (.slice a5 n5 c5)).setCell ⟨bx,1,none⟩ (.slice a6 n6 c6)):=by
 obtain ⟨v1,v2,v3,v4,v5,v6,v7⟩:=hV
 have hB3:=hk.1
 have hB4:=hB3.trans (hB5.mono hB3.size)
 have hbx4:=(hB5.block _ (ZZZ hbx3).1).trans hbx3
 have hBt4:=(hB5.block _ (ZZZ hBt3).1).trans hBt3
 have hne:Bt≠bx:=fun e=>by subst e;rw [hbx4] at hBt4;simp at hBt4
 have k45:=ZB9 (.slice a5 n5 c5) (.slice a6 n6 c6) hB4 hbx4 hwx
 have k35:=ZCX (ZCW hB3 hB5) k45
 have k05:=ZCX hk k35
 refine ⟨⟨k45.1, ?_,ZB2 hbx4 _ _,fun y hy=>?_,fun y hy=>?_, ?_,by simp;omega⟩, ?_, ?_⟩
 ·have e1:=((ZAJ W4 bx 0 (.slice a5 n5 c5)).block Bt (ZZZ hBt4).1 (fun e=>by cases e;exact hne rfl)).trans hBt4
  exact ((ZAJ (W4.setCell ⟨bx,0,none⟩ (.slice a5 n5 c5)) bx 1 (.slice a6 n6 c6)).block Bt (ZZZ e1).1 (fun e=>by cases e;exact hne rfl)).trans e1
 ·rw [hy] at hok
  exact ⟨ZBW hok.2 k45,by have:=Sc.step_ok (v4 x rfl).2 hy;rwa [show 8+(q+1)=8+q+1 by omega]⟩
 ·rcases List.mem_append.1 hy with hy | hy
  ·exact ZBW (v5 y hy) k05
  ·simp only [List.mem_singleton] at hy
   subst hy
   exact ZBW (v4 x rfl).1 k05
 ·have hd:t.steps.drop q=s :: t.steps.drop (q+1):=by
   obtain ⟨hlt,e⟩:=List.getElem?_eq_some_iff.1 hs
   rw [List.drop_eq_getElem_cons hlt,e]
  simp only at v6
  rw [hd] at v6
  simp only [Sc.runFrom] at v6
  rw [←v6,List.map_append,List.map_cons,List.map_nil,List.append_assoc]
  cases Sc.step x s with
  |none=>rfl
  |some y=>rfl
 ·cases hst:Sc.step x s with
  |none=>rw [hst] at hok;exact hok
  |some y=>rw [hst] at hok;exact hok.1
 ·exact ZKk (ZES hB5 (ZZZ hbx4).1 hB3.size) (ZKk (ZPJ hwx hbx4) (ZPJ hwx (ZG4 hbx4 _)))
theorem ZIT (n:Nat) (hn:1≤n) (l Bt Bmin:Nat) (hA:ZIM 147 1) (hR:ZIM 151 5) (w0:World) (t:TemplM) (sa:Option Addr) (sc:Nat) (ta:Option Addr) (tc:Nat) (hg:wideT t=false) (hi:ZA8 w0 t (.agg #[.string t.nm,.slice sa t.slots.length sc,.slice ta t.steps.length tc]))
  (J Jx:{b:Nat // Bmin≤b}→List ZDe→World→Prop) (hJ:∀ b s A C,J b s A→TV w0 b.1 A C→J b s C)
  (hY:∀ b pre x W0 W1,J b pre W0→TV w0 b.1 W0 W1→pre.length<9→YieldAt Fence.wide (n-1) Tryz.prog l (verV x) W1 fun e W'=>
   (e=.returned (.bool true)∧J b (pre ++ [x]) W'∧KV w0 b.1 W1 W')∨(e=.returned (.bool false)∧Jx b (pre ++ [x]) W'))
  (W:World) (hW:Below w0.heap.size w0 W) (hBt:W.heap[Bt]? = some (.cells #[.string t.nm,.slice sa t.slots.length sc,.slice ta t.steps.length tc] 40 (0,0))) (hmin:Bmin≤W.heap.size) (h0:∀ b,J b [] W) :
  CallsIn Fence.wide n Tryz.prog 132 #[.func (.yield l) #[] #[],.pointer (some ⟨Bt,0,none⟩)] W fun e W'=>(∃ v,e=.returned v) ∧
   ∃ b,((∃ ys,(ys.map (·.1)=handed t∧∀ y∈ys,ZD9 w0 W' y.1 (vSl y) (vCo y))∧J b ys W')∨(∃ pre,True∧Jx b pre W')):=by
 have hF:=fun W' (hb:Below w0.heap.size w0 W')=>ZLr t w0 W' _ hb hg hi
 refine callsIn_of_wp func132 rfl trivial ?_ rfl
 simp only [ntmps132,List.size_toArray,List.length_cons,List.length_nil,Nat.reduceAdd,Nat.reduceSub,Array.replicate_succ,Array.replicate_zero,List.push_toArray,List.append_toArray,List.nil_append,List.cons_append]
 have c0:=ZAB (i:=0) (v:=.string t.nm) hBt rfl
 have c1:=ZAB (i:=1) (v:=.slice sa t.slots.length sc) hBt rfl
 have c2:=ZAB (i:=2) (v:=.slice ta t.steps.length tc) hBt rfl
 gi_wp2_with (refine ⟨trivial, ?_⟩;gi_at_call 133;refine (callsIn_wide.2 (hF _ hW)).mono ?_;rintro e W1 hpost;obtain ⟨a,nn,c,a',n',c',bb,rfl,hok,hB1⟩:=ZBu hpost;have c2x:=ZAA ((Below.refl _ W1).alloc (Nat.le_refl _) (.cells #[.slice a nn c,.slice a' n' c'] 146)) (ZAA hB1 c2))
 have hsz0:=hW.size
 have hBW1:=hW.trans (hB1.mono hW.size)
 obtain ⟨bx,hbx⟩:∃ b,W1.heap.size=b:=⟨_,rfl⟩
 have hbmin:Bmin≤bx:=by have:=hB1.size;omega
 have hA1:=(Below.refl _ W1).alloc (Nat.le_refl _) (.cells #[.slice a nn c,.slice a' n' c'] 146)
 have hwx:w0.heap.size≤bx:=by have:=hB1.size;omega
 have hS0:ZOd w0 Bt bx t sa sc ta tc (firstV t) a nn c a' n' c' 0 [] (W1.alloc (.cells #[.slice a nn c,.slice a' n' c'] 146)):=by
  refine ⟨hBW1.trans (hA1.mono hBW1.size),((hB1.trans (hA1.mono hB1.size)).block _ (ZZZ hBt).1).trans hBt,hbx ▸ ZAQ W1 _, ?_,by simp, ?_,by simp⟩
  ·intro x hx
   rw [hx] at hok
   obtain ⟨_,hv⟩:=hok
   obtain ⟨h8,hvk⟩:=ZFo hx
   exact ⟨ZBW hv (ZCW hBW1 hA1),hvk⟩
  ·unfold handed
   cases hf:firstV t with
   |none=>rfl
   |some x=>simp
 have hJ0:J ⟨bx,hbmin⟩ [] (W1.alloc (.cells #[.slice a nn c,.slice a' n' c'] 146)):=hJ _ _ _ _ (h0 ⟨bx,hbmin⟩) (ZES (hB1.trans (hA1.mono hB1.size)) (by show bx<_;rw [←hbx];simp) hsz0)
 have hbb:bb=(firstV t).isSome:=by
  cases hf:firstV t with
  |none=>rw [hf] at hok;exact hok
  |some x=>rw [hf] at hok;exact hok.1
 subst hbb
 have h8:(firstV t).isSome=true→t.steps.length≤8:=fun h=>by
  obtain ⟨x,hx⟩:=Option.isSome_iff_exists.1 h
  exact (ZFo hx).1
 rw [hbx]
 obtain ⟨m,hm⟩:∃ m,t.steps.length=m:=⟨_,rfl⟩
 have HM:=ZZY hm;have HI:=ZZY hi;have HG:=ZZY hg;have HY:=ZZY hY;have HJ:=ZZY hJ
 clear c2x hA1 hbx hok c0 c1 c2
 rw [hm] at h8 ⊢
 clear hm
 gi_loopw [15,4] (fun i okv wr=>∃ (q:Nat) (o:Option Sc.Ver) (a:Option Addr) (nn c:Nat) (a':Option Addr) (n' c':Nat) (pre:List ZDe),q≤m∧i=.int .i64 (q:Int)∧okv=.bool o.isSome∧ZOd w0 Bt bx t sa sc ta tc o a nn c a' n' c' q pre wr∧J ⟨bx,hbmin⟩ pre wr∧(o.isSome=true→m≤8)) (fun i _ _=>m-(intOf i).toNat)
 case atStart=>exact ⟨0,firstV t,a,nn,c,a',n',c',[],Nat.zero_le _,rfl,rfl,hS0,hJ0,h8⟩
 case round=>
  clear hS0 hJ0 h8
  obtain ⟨q,o,a,nn,c,a',n',c',pre,hq,rfl,rfl,hV,hJs,h8⟩:=hrel
  obtain ⟨x0,x1,_,_⟩:=ZAD hV.2.2.1
  rcases Nat.lt_or_ge q m with hlt | hge
  ·have hd:decide ((q:Int)<(m:Int))=true:=by simp;omega
   have hml:=HM.out
   obtain ⟨s,hs⟩:∃ s,t.steps[q]? = some s:=⟨t.steps[q],List.getElem?_eq_getElem (by omega)⟩
   obtain ⟨_,_,_,_,_,ee,_,hst⟩:=HI.out
   simp only [Value.agg.injEq,Array.mk.injEq,List.cons.injEq,and_true,true_and] at ee
   obtain ⟨e1,e2⟩:=ee
   injection e1 with e1a e1b e1c
   injection e2 with e2a e2b e2c
   subst e1a e1c e2a e2c
   obtain ⟨tb,tof,rfl,hrow⟩:∃ b off,ta=some ⟨b,off,none⟩∧∀ i s,t.steps[i]? = some s→ZDc w0 b (off+i*10) s:=by
    rcases hst.2.2 with h | h
    ·rw [h] at hml;simp at hml;omega
    ·exact h
   obtain ⟨oa,oc,⟨q0,q1,q9⟩,hk1,hk2,hsl,hro,hio⟩:=hrow q s hs
   obtain ⟨k,n0,tx,a2,len,cap,⟨g0,g1,g2,g3,g4,g5,g6⟩,hI,hsn,hdf⟩:=ZBR hsl
   have hX:ZA3 w0 s (.agg #[.int .i64 s.kd,.int .i64 s.col,.string s.sl.nm,.int .i64 s.sl.ty,.bool s.sl.rq,.int .i64 k,.int .i64 n0,.string tx,.slice a2 len cap,.slice oa s.od.length oc]):=
    ⟨_,_,_,_,_,_,_,oa,oc,rfl,hk1,hk2,⟨hsn,hI,rfl,rfl,rfl,hdf⟩,hro,hio⟩
   have hsz:szV s.sl.df≤1000000:=by
    refine Nat.le_trans (ZFJ _ ?_) (by omega)
    have hgt:=HG.out
    unfold wideT at hgt
    simp only [Bool.or_eq_false_iff] at hgt
    have h3:=List.any_eq_false.1 hgt.2.2 s (List.mem_of_getElem? hs)
    unfold wideP at h3
    simp only [Bool.or_eq_true,not_or,Bool.not_eq_true] at h3
    exact h3.1.1
   have y0:=ZAA hV.1 q0
   have y1:=ZAA hV.1 q1
   have y2:=ZAA hV.1 g0
   have y3:=ZAA hV.1 g1
   have y4:=ZAA hV.1 g2
   have y5:=ZAA hV.1 g3
   have y6:=ZAA hV.1 g4
   have y7:=ZAA hV.1 g5
   have y8:=ZAA hV.1 g6
   have y9:=ZAA hV.1 q9
   clear hrow hst q0 q1 q9 g0 g1 g2 g3 g4 g5 g6 hml hdf hsl hI hsn hk1 hk2 hro hio
   cases o with
   |none=>
    have hmp:pre.map (·.1)=handed t:=by have h:=hV.2.2.2.2.2.1;simpa using h
    have hvy:=hV.2.2.2.2.1
    have HMP:=ZZY hmp;have HVY:=ZZY hvy
    clear hmp hvy
    gi_wp2
    refine ⟨(fun f h=>by cases h), ?_⟩
    gi_wp2
    all_goals (
     refine bodyPost_ret (results_none rfl _ _ _) rfl ?_
     exact ⟨⟨_,rfl⟩,⟨bx,hbmin⟩,.inl ⟨pre,⟨HMP.out,fun y hy=>ZBW (HVY.out y hy) (ZCW hV.1 ((Below.refl _ _).alloc (Nat.le_refl _) _))⟩,hJ _ _ _ _ hJs (ZES ((Below.refl _ _).alloc (Nat.le_refl _) _) (by show bx<_;have:=(ZZZ hV.2.2.1).1;simp;omega) hV.1.size)⟩⟩)
   |some x=>
    have h88:=h8 rfl
    have hbxl:=(ZZZ hV.2.2.1).1
    have hpl:=hV.2.2.2.2.2.2
    have hA6:=(Below.refl _ wr).alloc (Nat.le_refl _) (.cells #[.int .i64 s.kd,.int .i64 s.col,.string s.sl.nm,.int .i64 s.sl.ty,.bool s.sl.rq,.int .i64 k,.int .i64 n0,.string tx,.slice a2 len cap,.slice oa s.od.length oc] 54)
    have h6:=ZAQ wr (.cells #[.int .i64 s.kd,.int .i64 s.col,.string s.sl.nm,.int .i64 s.sl.ty,.bool s.sl.rq,.int .i64 k,.int .i64 n0,.string tx,.slice a2 len cap,.slice oa s.od.length oc] 54)
    have x0':=ZAA hA6 x0
    have x1':=ZAA hA6 x1
    obtain ⟨fn,tmps,assign,body,hy,hR9⟩:=HY.out ⟨bx,hbmin⟩ pre (x,(a,nn,c),(a',n',c')) wr (wr.alloc (.cells #[.int .i64 s.kd,.int .i64 s.col,.string s.sl.nm,.int .i64 s.sl.ty,.bool s.sl.rq,.int .i64 k,.int .i64 n0,.string tx,.slice a2 len cap,.slice oa s.od.length oc] 54)) hJs (ZES hA6 (Nat.lt_of_lt_of_le hbxl hA6.size) hV.1.size) (by omega)
    simp only [verV,vSl,vCo] at hy
    gi_wp2
    refine hR9.mono ?_
    rintro e W3 (⟨rfl,hJ3,hK3⟩ | ⟨rfl,hJx3⟩)
    ·have hB3:=hK3.1 (hV.1.trans (hA6.mono hV.1.size))
     have hBt3:=hK3.2 Bt _ _ _ ((hA6.block _ (ZZZ hV.2.1).1).trans hV.2.1) (.inl ⟨by decide,by decide⟩)
     have hbx3:=hK3.2 bx _ _ _ ((hA6.block _ hbxl).trans hV.2.2.1) (.inr rfl)
     have h63:=hK3.2 wr.heap.size _ _ _ h6 (.inl ⟨by decide,by decide⟩)
     have hkt:=ZCX (ZCW hV.1 hA6) (ZNB hK3 (hV.1.trans (hA6.mono hV.1.size)))
     have hVx3:=ZBW (hV.2.2.2.1 x rfl).1 hkt
     have hok8:=(hV.2.2.2.1 x rfl).2
     obtain ⟨sa1,sc1,ca1,cc1,cs1,e1,e2,hva,hsc1,hcl1⟩:=ZOI hVx3 hB3
     injection e1 with e1a e1b e1c
     injection e2 with e2a e2b e2c
     subst e1a e1b e1c e2a e2b e2c
     have hN:=ZOY hA hR x s a c a' c' cs1 w0 W3 _ ⟨hok8.lt,hok8.nodup,hok8.len,by have:=hok8.num;omega,hok8.ok⟩ ⟨hB3,hVx3,hva,hsc1,hcl1⟩ hX hsz
     obtain ⟨z0,z1,_,_⟩:=ZAD hbx3
     have t0:=ZAB (i:=0) (v:=.int .i64 s.kd) h63 rfl
     have t1:=ZAB (i:=1) (v:=.int .i64 s.col) h63 rfl
     have t2:=ZAB (i:=2) (v:=.string s.sl.nm) h63 rfl
     have t3:=ZAB (i:=3) (v:=.int .i64 s.sl.ty) h63 rfl
     have t4:=ZAB (i:=4) (v:=.bool s.sl.rq) h63 rfl
     have t5:=ZAB (i:=5) (v:=.int .i64 k) h63 rfl
     have t6:=ZAB (i:=6) (v:=.int .i64 n0) h63 rfl
     have t7:=ZAB (i:=7) (v:=.string tx) h63 rfl
     have t8:=ZAB (i:=8) (v:=.slice a2 len cap) h63 rfl
     have t9:=ZAB (i:=9) (v:=.slice oa s.od.length oc) h63 rfl
     have HNX:=ZZY hN;have HSQ:=ZZY hs
     clear hN hs x0 x1 x0' x1' y0 y1 y2 y3 y4 y5 y6 y7 y8 y9 hva hsc1 hcl1 hy hR9 h6 hok8
     gi_wp2_with (refine ⟨trivial, ?_⟩;gi_at_call 134;refine (callsIn_wide.2 HNX.out).mono ?_;rintro e W4 hpost;obtain ⟨a5,n5,c5,a6,n6,c6,b5,rfl,hok5,hB5⟩:=ZBu hpost;obtain ⟨f0,f1,f2,f3⟩:=ZAD ((hB5.block _ (ZZZ hbx3).1).trans hbx3))
     obtain ⟨hVN,hbN,hTN⟩:=ZLs hV HSQ.out hkt hBt3 hbx3 hwx hB5 hok5
     go_roundw
     case rel=>exact ⟨q+1,Sc.step x s,a5,n5,c5,a6,n6,c6,pre ++ [(x,(a,x.slots.length,c),(a',x.cols.length,c'))],by omega,by go_num,by rw [hbN],hVN,hJ _ _ _ _ hJ3 hTN,fun _=>h88⟩
     case measure=>simp [intOf];omega
    ·clear hy hR9
     gi_wp2
     all_goals (
      refine bodyPost_ret (results_none rfl _ _ _) rfl ?_
      exact ⟨⟨_,rfl⟩,⟨bx,hbmin⟩,.inr ⟨_,trivial,hJx3⟩⟩)
  ·obtain rfl:q=m:=by omega
   have hd:decide ((q:Int)<(q:Int))=false:=by simp
   cases o with
   |none=>
    have hmp:pre.map (·.1)=handed t:=by have h:=hV.2.2.2.2.2.1;simpa using h
    have hvy:=hV.2.2.2.2.1
    have HMP:=ZZY hmp;have HVY:=ZZY hvy
    clear hmp hvy
    gi_wp2
    all_goals (
     refine bodyPost_end (results_none rfl _ _ _) rfl ?_
     exact ⟨⟨_,rfl⟩,⟨bx,hbmin⟩,.inl ⟨pre,⟨HMP.out,HVY.out⟩,hJs⟩⟩)
   |some x=>
    have h88:=h8 rfl
    have hbxl:=(ZZZ hV.2.2.1).1
    have hpl:=hV.2.2.2.2.2.2
    have hml:=HM.out
    obtain ⟨fn,tmps,assign,body,hy,hR9⟩:=HY.out ⟨bx,hbmin⟩ pre (x,(a,nn,c),(a',n',c')) wr wr hJs (ZES (Below.refl _ _) hbxl hV.1.size) (by omega)
    simp only [verV,vSl,vCo] at hy
    gi_wp2
    refine hR9.mono ?_
    rintro e W3 (⟨rfl,hJ3,hK3⟩ | ⟨rfl,hJx3⟩)
    ·have hkt:=ZNB hK3 hV.1
     have hmp:(pre ++ [((x,(a,nn,c),(a',n',c')):ZDe)]).map (·.1)=handed t:=by
      have h:=hV.2.2.2.2.2.1
      simp only at h
      rw [List.drop_of_length_le (by omega)] at h
      simpa [Sc.runFrom] using h
     have hvy:∀ y∈pre ++ [((x,(a,nn,c),(a',n',c')):ZDe)],ZD9 w0 W3 y.1 (vSl y) (vCo y):=fun y hy=>by
      rcases List.mem_append.1 hy with hy | hy
      ·exact ZBW (hV.2.2.2.2.1 y hy) hkt
      ·simp only [List.mem_singleton] at hy
       subst hy
       exact ZBW (hV.2.2.2.1 x rfl).1 hkt
     have HMP:=ZZY hmp;have HVY:=ZZY hvy
     clear hmp hvy hy hR9
     gi_wp2
     all_goals (
      refine bodyPost_end (results_none rfl _ _ _) rfl ?_
      exact ⟨⟨_,rfl⟩,⟨bx,hbmin⟩,.inl ⟨_,⟨HMP.out,HVY.out⟩,hJ3⟩⟩)
    ·clear hy hR9
     gi_wp2
     all_goals (
      refine bodyPost_end (results_none rfl _ _ _) rfl ?_
      exact ⟨⟨_,rfl⟩,⟨bx,hbmin⟩,.inr ⟨_,trivial,hJx3⟩⟩)
