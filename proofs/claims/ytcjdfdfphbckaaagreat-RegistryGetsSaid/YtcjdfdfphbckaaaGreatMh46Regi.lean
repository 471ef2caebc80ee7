/- Registries that are read: a slot, as the document has it. -/
import Derived.Test.YtcjdfdfphbckaaaGreatMh38Regi
import Derived.Test.YtcjdfdfphbckaaaGreatMh14Regi
import Derived.Test.YtcjdfdfphbckaaaGreatMh45Regi
set_option linter.unusedVariables false
set_option linter.unusedSimpArgs false
set_option maxRecDepth 100000
set_option maxHeartbeats 64000000
open Go.Proofs.Tryz
namespace Go.Proofs.YtcjdfdfphbckaaaGreat
open Go.RowKit Go.Shelf
def ZQb (S:Src) (p:Nat) (w:World) (r:SlotM × Bn.St) (e:Ending) (w':World):Prop:=∃ (nm:ByteArray) (ty:Int) (rq:Bool) (k n:Int) (t:ByteArray) (a:Option Addr) (l c:Nat),
 e=.returned (.agg #[.string nm,.int .i64 ty,.bool rq,.int .i64 k,.int .i64 n,.string t,.slice a l c])∧ZEB ZBe w.heap.size w' r.1 (.agg #[.string nm,.int .i64 ty,.bool rq,.int .i64 k,.int .i64 n,.string t,.slice a l c])∧RT S w' p r.2∧w.grownBy w' (some p)
theorem ZEy {W:World} {b:Nat} {t:TypeId} {c0 c1 c2 c3 c4 c5 c6:Value} (h:CA W b t #[c0,c1,c2,c3,c4,c5,c6]) (v:Value) :
  CA (W.setCell ⟨b,0,none⟩ v) b t #[v,c1,c2,c3,c4,c5,c6]∧CA (W.setCell ⟨b,1,none⟩ v) b t #[c0,v,c2,c3,c4,c5,c6]∧CA (W.setCell ⟨b,2,none⟩ v) b t #[c0,c1,v,c3,c4,c5,c6]:=
 ⟨ZAv h 0 v,ZAv h 1 v,ZAv h 2 v⟩
theorem ZBm {W:World} {b b' i:Nat} {t:TypeId} {cs:Array Value} {v:Value} (h:CA W b t cs) (hne:b≠b'):CA (W.setCell ⟨b',i,none⟩ v) b t cs:=
 (Below.heap_setCell W ⟨b',i,none⟩ v b hne).trans h
theorem ZGl (W:World) {b b':Nat} (h:b≠b') (i0 i1 i2 i3:Nat) (d0 d1 d2 d3:Value):((((W.setCell ⟨b',i0,none⟩ d0).setCell ⟨b',i1,none⟩ d1).setCell ⟨b',i2,none⟩ d2).setCell ⟨b',i3,none⟩ d3).heap[b]? = W.heap[b]?:=by
 rw [Below.heap_setCell _ _ _ b h,Below.heap_setCell _ _ _ b h,Below.heap_setCell _ _ _ b h,Below.heap_setCell _ _ _ b h]
theorem ZF0 (S:Src) (p:Nat) (s:Bn.St) (w:World) (h:RT S w p s):Calls Tryz.prog 29 #[.pointer (some ⟨p,0,none⟩)] w (ZQb S p w (Rg.gSlot s)):=by
 have hpw:=ZDq h
 have hA0:=(Below.refl _ w).alloc (Nat.le_refl _) (.cells vz7 51)
 have hA1:=hA0.alloc hA0.size (.cells vz7 51)
 have hz0:CA ((w.alloc (.cells vz7 51)).alloc (.cells vz7 51)) w.heap.size 51 vz7:=ZA4 (ZBO w 51 vz7) ((Below.refl _ _).alloc (Nat.le_refl _) _)
 have hy0:CA ((w.alloc (.cells vz7 51)).alloc (.cells vz7 51)) (w.heap.size+1) 51 vz7:=by
  have:=ZBO (w.alloc (.cells vz7 51)) 51 vz7
  simpa using this
 have hR0:=ZA6 h hA1
 have hT:=ZDL S p s _ hR0
 have hnm:(Bn.rText s).1.size≤maxLen:=ZCy h
 unfold Rg.gSlot
 generalize Bn.rText s=r1 at *
 obtain ⟨nm,s1⟩:=r1
 simp only at hnm hT ⊢
 have hB1:=fun W (h:RT S W p s1)=>ZBN S p s1 W h
 have hl1:=fun W (h:RT S W p s1)=>ZEb h
 generalize Bn.rByte s1=r2 at *
 obtain ⟨ty,s2⟩:=r2
 simp only at hB1 hl1 ⊢
 have hB2:=fun W (h:RT S W p s2)=>ZBN S p s2 W h
 have hl2:=fun W (h:RT S W p s2)=>ZEb h
 generalize Bn.rByte s2=r3 at *
 obtain ⟨q,s3⟩:=r3
 simp only at hB2 hl2 ⊢
 obtain ⟨s3',hs3⟩:∃ t,(if 1<q then none else s3)=t:=⟨_,rfl⟩
 rw [hs3]
 have hV:=fun W (h:RT S W p s3')=>ZKI S p s3' W h
 generalize rValue s3'=r4 at *
 obtain ⟨v,s4⟩:=r4
 simp only at hV ⊢
 have HB1:=ZZY hB1;have HB2:=ZZY hB2;have HV:=ZZY hV;have HZ:=ZZY hz0;have HY:=ZZY hy0;have HL1:=ZZY hl1;have HL2:=ZZY hl2;have HT:=ZZY hT
 clear hB1 hB2 hV hz0 hy0 hl1 hl2 h hT hR0
 have hG0:=ZAX (ZAX (ZCC w (some p)) (.cells vz7 51)) (.cells vz7 51)
 have hp1:p<w.heap.size+1:=by omega
 have hb1:w.heap.size≤w.heap.size+1:=by omega
 have hbb:w.heap.size≠w.heap.size+1:=by omega
 have hn1:¬p=w.heap.size+1:=by omega
 have hn2:¬w.heap.size+1=p:=by omega
 obtain ⟨rq,hrq⟩:∃ b,((q:Int) == 1)=b:=⟨_,rfl⟩
 have hb9:rq=decide (q=1):=by
  rw [←hrq]
  by_cases h9:q=1
  ·subst h9;rfl
  ·rw [decide_eq_false h9,beq_eq_false_iff_ne];omega
 have HRQ:=ZZY hb9
 clear hb9
 by_cases hq1:1<q
 ·rw [if_pos hq1] at hs3
  subst hs3
  have dq:decide ((1:Int)<(q:Int))=true:=by simp;omega
  have HQ:=ZZY hq1;clear hq1
  go_enter func29,ntmps29
  go_wp2_with (first
   |(go_at_call 28;(with_reducible refine (HT.out).mono ?_);rintro e w1 ⟨rfl,hR1,hg1⟩;have hz1:=ZAT HZ.out hg1 hpw;have hy1:=ZAT HY.out hg1 hp1;have hG1:=ZAc (ZAC hG0 hg1) hb1 0 (.string nm);obtain ⟨⟨y0,y1,y2,y3,y4,y5,y6⟩,f0,f1,f2,f3,f4,f5,f6⟩:=box7 hy1;have hS1:=ZBE hR1 hp1 0 (.string nm);have hz1':=ZBm (i:=0) (v:=.string nm) hz1 hbb;have hy1':=(ZEy hy1 (.string nm)).1)
   |(go_at_call 30;(with_reducible refine (HB1.out _ hS1).mono ?_);rintro e w2 ⟨rfl,hR2,hg2⟩;have hty:=HL1.out _ hS1;have hz2:=ZAT hz1' hg2 hpw;have hy2:=ZAT hy1' hg2 hp1;have hG2:=ZAc (ZAC hG1 hg2) hb1 1 (.int .i64 (ty:Int));obtain ⟨⟨y0,y1,y2,y3,y4,y5,y6⟩,f0,f1,f2,f3,f4,f5,f6⟩:=box7 hy2;have hS2:=ZBE hR2 hp1 1 (.int .i64 (ty:Int));have hz2':=ZBm (i:=1) (v:=.int .i64 (ty:Int)) hz2 hbb;have hy2':=(ZEy hy2 (.int .i64 (ty:Int))).2.1)
   |(go_at_call 30;(with_reducible refine (HB2.out _ hS2).mono ?_);rintro e w3 ⟨rfl,hR3,hg3⟩;have hz3:=ZAT hz2' hg3 hpw;have hy3:=ZAT hy2' hg3 hp1;have hG3:=ZAc (ZAC hG2 hg3) hb1 2 (.bool rq);obtain ⟨⟨y0,y1,y2,y3,y4,y5,y6⟩,f0,f1,f2,f3,f4,f5,f6⟩:=box7 hy3;obtain ⟨_,_,k3,_,hA3,_⟩:=id hR3;obtain ⟨⟨u0,u1,u2⟩,x0,x1,x2⟩:=ZBD hA3;have hS3:=ZBE hR3 hp1 2 (.bool rq);have hz3':=ZBm (i:=2) (v:=.bool rq) hz3 hbb;have hy3':=(ZEy hy3 (.bool rq)).2.2;have hS3':=ZFy hS3;have hz3'':=ZBm (i:=2) (v:=.bool true) hz3' (show w.heap.size≠p by omega);have hy3'':=ZBm (i:=2) (v:=.bool true) hy3' (show w.heap.size+1≠p by omega);have hG3':=ZAC hG3 (ZAY p 2 (.bool true)))
   |(go_at_call 48;(with_reducible refine (HV.out _ hS3').mono ?_);rintro e w4 ⟨x4,rfl,hF4,hR4,hg4⟩;have hG4:=ZAC hG3' hg4;have hi4:=ZC8 hF4;obtain ⟨k,n,t,a,len,cap,rfl⟩:=ZDb hi4;have hz4:=ZAT hz3'' hg4 hpw;have hy4:=ZAT hy3'' hg4 hp1;obtain ⟨⟨y0,y1,y2,y3,y4,y5,y6⟩,f0,f1,f2,f3,f4,f5,f6⟩:=box7 hy4;obtain ⟨⟨r0,r1,r2,r3,r4,r5,r6⟩,e0,e1,e2,e3,e4,e5,e6⟩:=box7 hz4))
  have hz5:CA ((((w4.setCell ⟨w.heap.size+1,3,none⟩ (.int .i64 k)).setCell ⟨w.heap.size+1,4,none⟩ (.int .i64 n)).setCell ⟨w.heap.size+1,5,none⟩ (.string t)).setCell ⟨w.heap.size+1,6,none⟩ (.slice a len cap)) w.heap.size 51 vz7:=ZBm (ZBm (ZBm (ZBm hz4 hbb) hbb) hbb) hbb
  have hR5:RT S ((((w4.setCell ⟨w.heap.size+1,3,none⟩ (.int .i64 k)).setCell ⟨w.heap.size+1,4,none⟩ (.int .i64 n)).setCell ⟨w.heap.size+1,5,none⟩ (.string t)).setCell ⟨w.heap.size+1,6,none⟩ (.slice a len cap)) p s4:=ZHa hR4 hp1 _ _ _ _ _ _ _ _
  have hG5:w.grownBy ((((w4.setCell ⟨w.heap.size+1,3,none⟩ (.int .i64 k)).setCell ⟨w.heap.size+1,4,none⟩ (.int .i64 n)).setCell ⟨w.heap.size+1,5,none⟩ (.string t)).setCell ⟨w.heap.size+1,6,none⟩ (.slice a len cap)) (some p):=ZCE hG4 hb1 _ _ _ _ _ _ _ _
  obtain ⟨hzF,hgF⟩:=set7 hz5 (.string nm) (.int .i64 (ty:Int)) (.bool rq) (.int .i64 k) (.int .i64 n) (.string t) (.slice a len cap)
  refine bodyPost_ret (results_cell_row Tryz.results29 _ _ w.heap.size _ _ _ _ rfl hzF Tryz.underlying51 rfl slot7n) rfl ?_
  refine ⟨nm,ty,rq,k,n,t,a,len,cap,rfl,fun W' hW'=>?_,ZDX hR5 hgF (by intro g e;cases e;exact hpw),ZBa hG5 hgF (Nat.le_refl _)⟩
  have hs1:=hg1.size
  have hs2:=hg2.size
  have hs3:=hg3.size
  have hs4:=hg4.size
  have hsF:=hgF.size
  have hs0:=hA1.size
  simp only [World.size_alloc,World.size_setCell] at hs0 hs1 hs2 hs3 hs4 hsF
  refine ⟨_,_,_,_,_,_,_,rfl,hnm,⟨by simp only;omega,by simp only;omega⟩,rfl,rfl,by rw [HRQ.out],hF4 W' fun b b1 b2=>?_⟩
  simp only [World.size_setCell] at b1
  have hbF:b<(((((((((((w4.setCell ⟨w.heap.size+1,3,none⟩ (.int .i64 k)).setCell ⟨w.heap.size+1,4,none⟩ (.int .i64 n)).setCell ⟨w.heap.size+1,5,none⟩ (.string t)).setCell ⟨w.heap.size+1,6,none⟩ (.slice a len cap)).setCell ⟨w.heap.size,0,none⟩ (.string nm)).setCell ⟨w.heap.size,1,none⟩ (.int .i64 (ty:Int))).setCell ⟨w.heap.size,2,none⟩ (.bool rq)).setCell ⟨w.heap.size,3,none⟩ (.int .i64 k)).setCell ⟨w.heap.size,4,none⟩ (.int .i64 n)).setCell ⟨w.heap.size,5,none⟩ (.string t)).setCell ⟨w.heap.size,6,none⟩ (.slice a len cap)).heap.size:=by simp only [World.size_setCell];exact b2
  have hb4:b<((((w4.setCell ⟨w.heap.size+1,3,none⟩ (.int .i64 k)).setCell ⟨w.heap.size+1,4,none⟩ (.int .i64 n)).setCell ⟨w.heap.size+1,5,none⟩ (.string t)).setCell ⟨w.heap.size+1,6,none⟩ (.slice a len cap)).heap.size:=by simp only [World.size_setCell];exact b2
  exact (hW' b (by omega) hbF).trans ((hgF.block b hb4 (by simp;omega)).trans (ZGl _ (show b≠w.heap.size+1 by omega) _ _ _ _ _ _ _ _))
 ·rw [if_neg hq1] at hs3
  subst hs3
  have dq:decide ((1:Int)<(q:Int))=false:=by simp;omega
  have HQ:=ZZY hq1;clear hq1
  go_enter func29,ntmps29
  go_wp2_with (first
   |(go_at_call 28;(with_reducible refine (HT.out).mono ?_);rintro e w1 ⟨rfl,hR1,hg1⟩;have hz1:=ZAT HZ.out hg1 hpw;have hy1:=ZAT HY.out hg1 hp1;have hG1:=ZAc (ZAC hG0 hg1) hb1 0 (.string nm);obtain ⟨⟨y0,y1,y2,y3,y4,y5,y6⟩,f0,f1,f2,f3,f4,f5,f6⟩:=box7 hy1;have hS1:=ZBE hR1 hp1 0 (.string nm);have hz1':=ZBm (i:=0) (v:=.string nm) hz1 hbb;have hy1':=(ZEy hy1 (.string nm)).1)
   |(go_at_call 30;(with_reducible refine (HB1.out _ hS1).mono ?_);rintro e w2 ⟨rfl,hR2,hg2⟩;have hty:=HL1.out _ hS1;have hz2:=ZAT hz1' hg2 hpw;have hy2:=ZAT hy1' hg2 hp1;have hG2:=ZAc (ZAC hG1 hg2) hb1 1 (.int .i64 (ty:Int));obtain ⟨⟨y0,y1,y2,y3,y4,y5,y6⟩,f0,f1,f2,f3,f4,f5,f6⟩:=box7 hy2;have hS2:=ZBE hR2 hp1 1 (.int .i64 (ty:Int));have hz2':=ZBm (i:=1) (v:=.int .i64 (ty:Int)) hz2 hbb;have hy2':=(ZEy hy2 (.int .i64 (ty:Int))).2.1)
   |(go_at_call 30;(with_reducible refine (HB2.out _ hS2).mono ?_);rintro e w3 ⟨rfl,hR3,hg3⟩;have hz3:=ZAT hz2' hg3 hpw;have hy3:=ZAT hy2' hg3 hp1;have hG3:=ZAc (ZAC hG2 hg3) hb1 2 (.bool rq);obtain ⟨⟨y0,y1,y2,y3,y4,y5,y6⟩,f0,f1,f2,f3,f4,f5,f6⟩:=box7 hy3;obtain ⟨_,_,k3,_,hA3,_⟩:=id hR3;obtain ⟨⟨u0,u1,u2⟩,x0,x1,x2⟩:=ZBD hA3;have hS3:=ZBE hR3 hp1 2 (.bool rq);have hz3':=ZBm (i:=2) (v:=.bool rq) hz3 hbb;have hy3':=(ZEy hy3 (.bool rq)).2.2;have hS3':=hS3;have hz3'':=hz3';have hy3'':=hy3';have hG3':=hG3)
   |(go_at_call 48;(with_reducible refine (HV.out _ hS3').mono ?_);rintro e w4 ⟨x4,rfl,hF4,hR4,hg4⟩;have hG4:=ZAC hG3' hg4;have hi4:=ZC8 hF4;obtain ⟨k,n,t,a,len,cap,rfl⟩:=ZDb hi4;have hz4:=ZAT hz3'' hg4 hpw;have hy4:=ZAT hy3'' hg4 hp1;obtain ⟨⟨y0,y1,y2,y3,y4,y5,y6⟩,f0,f1,f2,f3,f4,f5,f6⟩:=box7 hy4;obtain ⟨⟨r0,r1,r2,r3,r4,r5,r6⟩,e0,e1,e2,e3,e4,e5,e6⟩:=box7 hz4))
  have hz5:CA ((((w4.setCell ⟨w.heap.size+1,3,none⟩ (.int .i64 k)).setCell ⟨w.heap.size+1,4,none⟩ (.int .i64 n)).setCell ⟨w.heap.size+1,5,none⟩ (.string t)).setCell ⟨w.heap.size+1,6,none⟩ (.slice a len cap)) w.heap.size 51 vz7:=ZBm (ZBm (ZBm (ZBm hz4 hbb) hbb) hbb) hbb
  have hR5:RT S ((((w4.setCell ⟨w.heap.size+1,3,none⟩ (.int .i64 k)).setCell ⟨w.heap.size+1,4,none⟩ (.int .i64 n)).setCell ⟨w.heap.size+1,5,none⟩ (.string t)).setCell ⟨w.heap.size+1,6,none⟩ (.slice a len cap)) p s4:=ZHa hR4 hp1 _ _ _ _ _ _ _ _
  have hG5:w.grownBy ((((w4.setCell ⟨w.heap.size+1,3,none⟩ (.int .i64 k)).setCell ⟨w.heap.size+1,4,none⟩ (.int .i64 n)).setCell ⟨w.heap.size+1,5,none⟩ (.string t)).setCell ⟨w.heap.size+1,6,none⟩ (.slice a len cap)) (some p):=ZCE hG4 hb1 _ _ _ _ _ _ _ _
  obtain ⟨hzF,hgF⟩:=set7 hz5 (.string nm) (.int .i64 (ty:Int)) (.bool rq) (.int .i64 k) (.int .i64 n) (.string t) (.slice a len cap)
  refine bodyPost_ret (results_cell_row Tryz.results29 _ _ w.heap.size _ _ _ _ rfl hzF Tryz.underlying51 rfl slot7n) rfl ?_
  refine ⟨nm,ty,rq,k,n,t,a,len,cap,rfl,fun W' hW'=>?_,ZDX hR5 hgF (by intro g e;cases e;exact hpw),ZBa hG5 hgF (Nat.le_refl _)⟩
  have hs1:=hg1.size
  have hs2:=hg2.size
  have hs3:=hg3.size
  have hs4:=hg4.size
  have hsF:=hgF.size
  have hs0:=hA1.size
  simp only [World.size_alloc,World.size_setCell] at hs0 hs1 hs2 hs3 hs4 hsF
  refine ⟨_,_,_,_,_,_,_,rfl,hnm,⟨by simp only;omega,by simp only;omega⟩,rfl,rfl,by rw [HRQ.out],hF4 W' fun b b1 b2=>?_⟩
  simp only [World.size_setCell] at b1
  have hbF:b<(((((((((((w4.setCell ⟨w.heap.size+1,3,none⟩ (.int .i64 k)).setCell ⟨w.heap.size+1,4,none⟩ (.int .i64 n)).setCell ⟨w.heap.size+1,5,none⟩ (.string t)).setCell ⟨w.heap.size+1,6,none⟩ (.slice a len cap)).setCell ⟨w.heap.size,0,none⟩ (.string nm)).setCell ⟨w.heap.size,1,none⟩ (.int .i64 (ty:Int))).setCell ⟨w.heap.size,2,none⟩ (.bool rq)).setCell ⟨w.heap.size,3,none⟩ (.int .i64 k)).setCell ⟨w.heap.size,4,none⟩ (.int .i64 n)).setCell ⟨w.heap.size,5,none⟩ (.string t)).setCell ⟨w.heap.size,6,none⟩ (.slice a len cap)).heap.size:=by simp only [World.size_setCell];exact b2
  have hb4:b<((((w4.setCell ⟨w.heap.size+1,3,none⟩ (.int .i64 k)).setCell ⟨w.heap.size+1,4,none⟩ (.int .i64 n)).setCell ⟨w.heap.size+1,5,none⟩ (.string t)).setCell ⟨w.heap.size+1,6,none⟩ (.slice a len cap)).heap.size:=by simp only [World.size_setCell];exact b2
  exact (hW' b (by omega) hbF).trans ((hgF.block b hb4 (by simp;omega)).trans (ZGl _ (show b≠w.heap.size+1 by omega) _ _ _ _ _ _ _ _))
