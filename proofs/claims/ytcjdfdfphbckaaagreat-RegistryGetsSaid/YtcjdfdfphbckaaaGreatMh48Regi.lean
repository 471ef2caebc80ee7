/- Registries that are read: the document's Read. -/
import Derived.Test.YtcjdfdfphbckaaaGreatMh46Regi
import Derived.Test.YtcjdfdfphbckaaaGreatMh47Regi
import Derived.Test.YtcjdfdfphbckaaaGreatMh38Regi
import Derived.Deep.CutBlock
set_option linter.unusedVariables false
set_option linter.unusedSimpArgs false
set_option maxRecDepth 100000
set_option maxHeartbeats 64000000
open Go.Proofs.Tryz
namespace Go.Proofs.YtcjdfdfphbckaaaGreat
open Go.RowKit Go.Shelf
theorem ZKJ:(Tryz.prog.info? 51).map (fun i=>(i.zero,i.size,i.bytes))=some (some (.agg vz7),7,88):=by kernel_rfl
theorem ZCN {W:World} {g:Nat} (h:W.heap.size=g) (l:List Value) (t:TypeId):∀ j u,l[j]? = some u→(W.alloc (.cells l.toArray t)).cell? ((⟨g,0,none⟩:Addr).add j)=some u:=by
 subst h;exact ZBC W l t
theorem isStepJ (W:World) (kd col:Int) (nm:ByteArray) (ty:Int) (h1:I64 kd) (h2:I64 col) (h3:I64 ty) (hn:nm.size≤maxLen):ZA3 W ⟨kd,col,⟨nm,ty,false,Sc.nilV⟩,[]⟩ (.agg #[.int .i64 kd,.int .i64 col,.string nm,.int .i64 ty,.bool false,.int .i64 0,.int .i64 0,.string ⟨#[]⟩,.slice none 0 0,.slice none 0 0]):=by
 refine ⟨_,_,_,_,_,_,_,_,_,rfl,h1,h2,⟨hn,h3,rfl,rfl,rfl, ?_⟩, ?_⟩
 ·unfold Sc.nilV Is
  exact ⟨by unfold I64;omega,by unfold I64;omega,by unfold maxLen;decide,none,0,rfl,Nat.le_refl _,by unfold maxLen;omega,.inl rfl⟩
 ·exact ⟨⟨rfl,by simp,by unfold maxLen;omega,.inl rfl⟩,fun y hy=>by simp at hy⟩
theorem isStepJ1 {W:World} {kd:Int} {sl:SlotM} {c2 c3 c4 c5 c6 c7 c8:Value} (h1:I64 kd) (h:ZBe W sl (.agg #[c2,c3,c4,c5,c6,c7,c8])):ZA3 W ⟨kd,0,sl,[]⟩ (.agg #[.int .i64 kd,.int .i64 0,c2,c3,c4,c5,c6,c7,c8,.slice none 0 0]):=by
 obtain ⟨d0,d1,d2,d3,d4,d5,d6,e,h7⟩:=h
 simp only [Value.agg.injEq,Array.mk.injEq,List.cons.injEq,and_true] at e
 obtain ⟨rfl,rfl,rfl,rfl,rfl,rfl,rfl⟩:=e
 exact ⟨_,_,_,_,_,_,_,_,_,rfl,h1,(show I64 0 from ⟨by omega,by omega⟩),h7,⟨rfl,by simp,by unfold maxLen;omega,.inl rfl⟩,fun y hy=>by simp at hy⟩
theorem isStepJ5 {W:World} {kd:Int} {L:List Int} {oa:Option Addr} {oc:Nat} (h1:I64 kd) (hr:Row W .i64 oa L.length oc L) (hi:∀ y∈L,I64 y):ZA3 W ⟨kd,0,Rg.z7,L⟩ (.agg #[.int .i64 kd,.int .i64 0,.string ⟨#[]⟩,.int .i64 0,.bool false,.int .i64 0,.int .i64 0,.string ⟨#[]⟩,.slice none 0 0,.slice oa L.length oc]):=by
 refine ⟨_,_,_,_,_,_,_,_,_,rfl,h1,(show I64 0 from ⟨by omega,by omega⟩),⟨Nat.zero_le _,(show I64 0 from ⟨by omega,by omega⟩),rfl,rfl,rfl, ?_⟩,hr,hi⟩
 show Is W Sc.nilV _
 unfold Sc.nilV Is
 exact ⟨by unfold I64;omega,by unfold I64;omega,by unfold maxLen;decide,none,0,rfl,Nat.le_refl _,by unfold maxLen;omega,.inl rfl⟩
theorem heapJ7 (W:World) (g:Nat) (v2 v3 v4 v5 v6 v7 v8:Value) (b:Nat) (h:b≠g):(((((((W.setCell ⟨g,2,none⟩ v2).setCell ⟨g,3,none⟩ v3).setCell ⟨g,4,none⟩ v4).setCell ⟨g,5,none⟩ v5).setCell ⟨g,6,none⟩ v6).setCell ⟨g,7,none⟩ v7).setCell ⟨g,8,none⟩ v8).heap[b]? = W.heap[b]?:=by
 rw [Below.heap_setCell _ _ _ b h,Below.heap_setCell _ _ _ b h,Below.heap_setCell _ _ _ b h,Below.heap_setCell _ _ _ b h,Below.heap_setCell _ _ _ b h,Below.heap_setCell _ _ _ b h,Below.heap_setCell _ _ _ b h]
theorem ZKK:(Tryz.prog.info? 40).map (fun i=>(i.zero,i.size,i.bytes))=some (some (.agg #[.string ⟨#[]⟩,.slice none 0 0,.slice none 0 0]),3,64):=by kernel_rfl
theorem ZNr:(Tryz.prog.info? 3).map (fun i=>(i.zero,i.size,i.bytes))=some (some (.int .i64 0),1,8):=by kernel_rfl
theorem ZMA:(Tryz.prog.info? 54).map (fun i=>(i.zero,i.size,i.bytes))=some (some (.agg #[.int .i64 0,.int .i64 0,.string ⟨#[]⟩,.int .i64 0,.bool false,.int .i64 0,.int .i64 0,.string ⟨#[]⟩,.slice none 0 0,.slice none 0 0]),10,128):=by kernel_rfl
theorem ZBr {W:World} {b b':Nat} {t:TypeId} {cs:Array Value} (h:CA W b t cs) (hne:b≠b') (i:Nat) (v:Value):CA (W.setCell ⟨b',i,none⟩ v) b t cs:=(Below.heap_setCell W ⟨b',i,none⟩ v b hne).trans h
theorem boxJ10 {W:World} {b:Nat} {t:TypeId} {c0 c1 c2 c3 c4 c5 c6 c7 c8 c9:Value} (h:CA W b t #[c0,c1,c2,c3,c4,c5,c6,c7,c8,c9]) :
  (W.cell? ⟨b,0,none⟩=some c0∧W.cell? ⟨b,1,none⟩=some c1∧W.cell? ⟨b,2,none⟩=some c2∧W.cell? ⟨b,3,none⟩=some c3∧W.cell? ⟨b,4,none⟩=some c4∧W.cell? ⟨b,5,none⟩=some c5∧W.cell? ⟨b,6,none⟩=some c6∧W.cell? ⟨b,7,none⟩=some c7∧W.cell? ⟨b,8,none⟩=some c8∧W.cell? ⟨b,9,none⟩=some c9) ∧
  (W.frozen? ⟨b,0,none⟩=false∧W.frozen? ⟨b,1,none⟩=false∧W.frozen? ⟨b,2,none⟩=false∧W.frozen? ⟨b,3,none⟩=false∧W.frozen? ⟨b,4,none⟩=false∧W.frozen? ⟨b,5,none⟩=false∧W.frozen? ⟨b,6,none⟩=false∧W.frozen? ⟨b,7,none⟩=false∧W.frozen? ⟨b,8,none⟩=false∧W.frozen? ⟨b,9,none⟩=false):=
 ⟨⟨ZAK h 0 _ rfl,ZAK h 1 _ rfl,ZAK h 2 _ rfl,ZAK h 3 _ rfl,ZAK h 4 _ rfl,ZAK h 5 _ rfl,ZAK h 6 _ rfl,ZAK h 7 _ rfl,ZAK h 8 _ rfl,ZAK h 9 _ rfl⟩,ZAM h 0,ZAM h 1,ZAM h 2,ZAM h 3,ZAM h 4,ZAM h 5,ZAM h 6,ZAM h 7,ZAM h 8,ZAM h 9⟩
theorem ZD7 {S:Src} {W:World} {p:Nat} {s:Bn.St} (h:RT S W p s):(Bn.rByte s).1<256:=by
 have hlt:=Bn.num_lt 1 s (ZFV h)
 unfold Bn.rByte
 simpa using hlt
theorem ZEc (hRD:ZPV) (S:Src) (p:Nat) (s:Bn.St) (w:World) (h:RT S w p s):Calls Tryz.prog 10 #[.pointer (some ⟨p,0,none⟩)] w (ZEI S p w s):=by
 have hreg:Rg.gReg s=Rg.gRep Rg.gTempl (min (Bn.rNum s).1 7) (Bn.rNum s).2:=rfl
 have hpw:=ZDq h
 have hN:=ZCx S p s w h
 generalize Bn.rNum s=r1 at *
 obtain ⟨N,s1⟩:=r1
 simp only at hN hreg
 have HN:=ZZY hN
 clear hN h
 go_enter func10,ntmps10
 go_upto_block 0 with (go_at_call 27;(with_reducible refine (HN.out).mono ?_);rintro e w1 ⟨rfl,hR1,hg1⟩)
 go_cut [4,6] from 16 to 149 (fun s4 _ W=>RT S W p (Rg.gRep Rg.gTempl (min N 7) s1).2∧w.grownBy W (some p)∧GRow ZA8 3 40 w.heap.size W s4 (Rg.gRep Rg.gTempl (min N 7) s1).1)
 case first=>
  go_wp2_with fail
  go_loopw [4,6] (fun o i wr=>∃ q:Nat,q≤7∧q≤N∧i=.int .i64 (q:Int)∧RT S wr p (Rg.gRep Rg.gTempl q s1).2∧w.grownBy wr (some p)∧GRow ZA8 3 40 w.heap.size wr o (Rg.gRep Rg.gTempl q s1).1) (fun _ i _=>7-(intOf i).toNat)
  case atStart=>exact ⟨0,by omega,by omega,rfl,hR1,hg1,ZFM _ _ _ _ _⟩
  case round=>
   obtain ⟨W1,hW1⟩:∃ V,V=wr:=⟨_,rfl⟩
   subst hW1
   obtain ⟨q,hq7,hqN,rfl,hR,hG,hrow⟩:=hrel
   clear hR1 hg1
   obtain ⟨_,_,k5,hk5,hA5,hx5⟩:=id hR
   obtain ⟨⟨m0,m1,m2⟩,n0,n1,n2⟩:=ZBD hA5
   cases hst:(Rg.gRep Rg.gTempl q s1).2 with
   |none=>
    rw [hst] at m2
    simp only [Option.isNone_none] at m2
    have hfin:=Rg.gRep_dead (n:=min N 7) (by omega) hst
    rcases Nat.lt_or_ge q N with h1 | h1
    ·have hd1:decide (q<N)=true:=by simp;omega
     rcases Nat.lt_or_ge q 7 with h2 | h2
     ·have hd2:decide ((q:Int)<(7:Int))=true:=by simp;omega
      go_wp2_with fail
      go_meet
      exact ⟨by rw [hfin];exact hR,hG,by rw [hfin];exact hrow⟩
     ·have hd2:decide ((q:Int)<(7:Int))=false:=by simp;omega
      go_wp2_with fail
      go_meet
      exact ⟨by rw [hfin];exact hR,hG,by rw [hfin];exact hrow⟩
    ·have hd1:decide (q<N)=false:=by simp;omega
     go_wp2_with fail
     go_meet
     exact ⟨by rw [hfin];exact hR,hG,by rw [hfin];exact hrow⟩
   |some l=>
    rw [hst] at m2 hR
    simp only [Option.isNone_some] at m2
    by_cases hql:q<N∧q<7
    ·have hd1:decide (q<N)=true:=by simp;omega
     have hd2:decide ((q:Int)<(7:Int))=true:=by simp;omega
     have hnm0:=ZCy hR
     have hst0:Rg.gTempl (some l)=(⟨(Bn.rText (some l)).1,(Rg.gRep Rg.gSlot (min (Bn.rNum (Bn.rText (some l)).2).1 9) (Bn.rNum (Bn.rText (some l)).2).2).1,(Rg.gRep Rg.gStep (min (Bn.rNum (Rg.gRep Rg.gSlot (min (Bn.rNum (Bn.rText (some l)).2).1 9) (Bn.rNum (Bn.rText (some l)).2).2).2).1 9) (Bn.rNum (Rg.gRep Rg.gSlot (min (Bn.rNum (Bn.rText (some l)).2).1 9) (Bn.rNum (Bn.rText (some l)).2).2).2).2).1⟩,(Rg.gRep Rg.gStep (min (Bn.rNum (Rg.gRep Rg.gSlot (min (Bn.rNum (Bn.rText (some l)).2).1 9) (Bn.rNum (Bn.rText (some l)).2).2).2).1 9) (Bn.rNum (Rg.gRep Rg.gSlot (min (Bn.rNum (Bn.rText (some l)).2).1 9) (Bn.rNum (Bn.rText (some l)).2).2).2).2).2):=rfl
     have hT:=fun W (h:RT S W p (some l))=>ZDL S p (some l) W h
     generalize Bn.rText (some l)=r2 at *
     obtain ⟨nm,s2⟩:=r2
     have hM:=fun W (h:RT S W p s2)=>ZCx S p s2 W h
     generalize Bn.rNum s2=r3 at *
     obtain ⟨M,s3⟩:=r3
     simp only at hT hM hnm0
     have HT:=ZZY hT;have HM:=ZZY hM
     clear hT hM hx5 hA5
     have hpr:=ZDq hR
     have hZ0:=ZBO W1 40 #[.string ⟨#[]⟩,.slice none 0 0,.slice none 0 0]
     have hA0:=(Below.refl _ W1).alloc (Nat.le_refl _) (.cells #[.string ⟨#[]⟩,.slice none 0 0,.slice none 0 0] 40)
     have hR0:=ZA6 hR hA0
     go_upto_block 2 with (first
      |(go_at_call 28;(with_reducible refine (HT.out _ hR0).mono ?_);rintro e w2 ⟨rfl,hR2,hg2⟩;have hz2:=ZAT hZ0 hg2 hpr;have f0:=ZAM hz2 0;have y0:=ZAK hz2 0 _ rfl;have hR2':=ZBE hR2 hpr 0 (.string nm))
      |(go_at_call 27;(with_reducible refine (HM.out _ hR2').mono ?_);rintro e w3 ⟨rfl,hR3,hg3⟩;have hz3:=ZAT (show CA (w2.setCell ⟨W1.heap.size,0,none⟩ (.string nm)) W1.heap.size 40 #[.string nm,.slice none 0 0,.slice none 0 0] from ZAv hz2 0 _) hg3 hpr;have hG3:=ZAC (ZAc (ZAC (ZAZ hA0 (some p)) hg2) (Nat.le_refl W1.heap.size) 0 (.string nm)) hg3))
     clear hR2 hR2' hz2 f0 y0 hg2 hZ0 hA0 hR0 n0 n1 n2 m0 m1 m2 hd1 hd2
     go_cut [9] from 37 to 59 (fun s9 W=>RT S W p (Rg.gRep Rg.gSlot (min M 9) s3).2∧W1.grownBy W (some p)∧∃ a m c,CA W W1.heap.size 40 #[.string nm,.slice a m c,.slice none 0 0]∧GRow ZBe 7 51 (W1.heap.size+1) W (.slice a m c) (Rg.gRep Rg.gSlot (min M 9) s3).1)
     case first=>
      go_wp2_with fail
      go_loopw [9] (fun i W=>∃ k:Nat,k≤9∧k≤M∧i=.int .i64 (k:Int)∧RT S W p (Rg.gRep Rg.gSlot k s3).2∧W1.grownBy W (some p)∧∃ a m c,CA W W1.heap.size 40 #[.string nm,.slice a m c,.slice none 0 0]∧GRow ZBe 7 51 (W1.heap.size+1) W (.slice a m c) (Rg.gRep Rg.gSlot k s3).1) (fun i _=>9-(intOf i).toNat)
      case atStart=>exact ⟨0,by omega,by omega,rfl,hR3,hG3,none,0,0,hz3,ZFM _ _ _ _ _⟩
      case round=>
       obtain ⟨k,hk9,hkM,rfl,hRk,hGk,a,m,c,hzk,hrk⟩:=hrel
       clear hR3 hG3 hz3
       obtain ⟨_,_,k7,hk7,hA7,hx7⟩:=id hRk
       obtain ⟨⟨m0,m1,m2⟩,n0,n1,n2⟩:=ZBD hA7
       cases hsk:(Rg.gRep Rg.gSlot k s3).2 with
       |none=>
        rw [hsk] at m2
        simp only [Option.isNone_none] at m2
        have hfin:=Rg.gRep_dead (n:=min M 9) (by omega) hsk
        rcases Nat.lt_or_ge k M with h1 | h1
        ·have hd1:decide (k<M)=true:=by simp;omega
         rcases Nat.lt_or_ge k 9 with h2 | h2
         ·have hd2:decide ((k:Int)<(9:Int))=true:=by simp;omega
          go_wp2_with fail
          go_meet
          exact ⟨by rw [hfin];exact hRk,hGk,a,m,c,hzk,by rw [hfin];exact hrk⟩
         ·have hd2:decide ((k:Int)<(9:Int))=false:=by simp;omega
          go_wp2_with fail
          go_meet
          exact ⟨by rw [hfin];exact hRk,hGk,a,m,c,hzk,by rw [hfin];exact hrk⟩
        ·have hd1:decide (k<M)=false:=by simp;omega
         go_wp2_with fail
         go_meet
         exact ⟨by rw [hfin];exact hRk,hGk,a,m,c,hzk,by rw [hfin];exact hrk⟩
       |some l2=>
        rw [hsk] at m2 hRk
        simp only [Option.isNone_some] at m2
        by_cases hkl:k<M∧k<9
        ·have hd1:decide (k<M)=true:=by simp;omega
         have hd2:decide ((k:Int)<(9:Int))=true:=by simp;omega
         have hC:=fun V (h:RT S V p (some l2))=>ZF0 S p (some l2) V h
         have hst1:Rg.gRep Rg.gSlot (k+1) s3=((Rg.gRep Rg.gSlot k s3).1 ++ [(Rg.gSlot (some l2)).1],(Rg.gSlot (some l2)).2):=by rw [Rg.gRep_succ,hsk]
         have hrl:(Rg.gRep Rg.gSlot k s3).1.length=k:=Rg.gRep_len (by rw [hsk];simp)
         obtain ⟨cs,hown,hel⟩:=hrk
         obtain ⟨i0,hi,hi0,hi1,hi2⟩:=info_parts ZKJ
         have H1:=ZZY hst1
         clear hst1 hsk
         generalize (Rg.gRep Rg.gSlot k s3).1=ys at *
         generalize Rg.gSlot (some l2)=r9 at *
         obtain ⟨y,s4⟩:=r9
         rw [hrl] at hown
         have hpb:p<W1.heap.size:=hpr
         have hbW:=ZC2 hzk
         have y0:=ZAK hzk 0 _ rfl
         have y1:=ZAK hzk 1 _ rfl
         have y2:=ZAK hzk 2 _ rfl
         have f0:=ZAM hzk 0
         have f1:=ZAM hzk 1
         have f2:=ZAM hzk 2
         have HOW:=ZZY hown;have HEL:=ZZY hel;have HR:=ZZY hRk;have HZ:=ZZY hzk;have HRL:=ZZY hrl;have HG:=ZZY hGk;have HC:=ZZY hC
         have HO2:=ZZY (ZC3 hown)
         have hown4:∀ V:World,True:=fun _=>trivial
         clear hown hel hRk hzk hrl hGk hC hx7 hA7 hown4
         go_wp2
         go_region_law (first
          |(refine ZA1 _ rfl _ _ 37 rfl (W1.heap.size+1) 51 i0 (.agg vz7) 7 88 Tryz.underlying37 hi hi0 hi1 hi2 rfl (by decide) (.slice a m c) k cs (by simp [Act.eval]) ho5 (some ⟨w4.heap.size,0,none⟩) 1 1 [.string d0,.int .i64 d1,.bool d2,.int .i64 d3,.int .i64 d4,.string d5,.slice d6 d7 d8] (by simp [Act.eval]) ⟨rfl,.inr ⟨_,rfl,ZBC _ [_,_,_,_,_,_,_] _⟩⟩ (by simp [Value.oneCell']) (by unfold maxLen;omega) (by omega) (by simp;omega) ?_;intro v6 w6 hown6 hgr6 hat6;obtain ⟨a6,m6,c6,rfl⟩:=ZCc hown6;have hz6:CA w6 W1.heap.size 40 _:=(hgr6.block _ (by have:=ZC2 hz5;omega) (fun e=>by have:=(HO2.out _ e.symm).2;omega)).trans hz5;have y60:=ZAK hz6 0 _ rfl;have y61:=ZAK hz6 1 _ rfl;have y62:=ZAK hz6 2 _ rfl;have f60:=ZAM hz6 0;have f61:=ZAM hz6 1;have f62:=ZAM hz6 2)
          |(go_simp;go_wp2_with (go_at_call 29;(with_reducible refine (HC.out _ (ZA6 HR.out (ZCb _))).mono ?_);rintro e w4 ⟨d0,d1,d2,d3,d4,d5,d6,d7,d8,rfl,hF4,hR4,hg4⟩;have hs4:wr.heap.size≤w4.heap.size:=hg4.size;have hs4d:=hg4.size;have hz4:=ZAT (show CA wr.drew W1.heap.size 40 _ from HZ.out) hg4 hpb;have y40:=ZAK hz4 0 _ rfl;have y41:=ZAK hz4 1 _ rfl;have y42:=ZAK hz4 2 _ rfl;have hz5:=ZA4 hz4 ((Below.refl _ w4).alloc (Nat.le_refl _) (.cells #[.string d0,.int .i64 d1,.bool d2,.int .i64 d3,.int .i64 d4,.string d5,.slice d6 d7 d8] 51));have y50:=ZAK hz5 0 _ rfl;have y51:=ZAK hz5 1 _ rfl;have y52:=ZAK hz5 2 _ rfl;have ho5:(w4.alloc (.cells #[.string d0,.int .i64 d1,.bool d2,.int .i64 d3,.int .i64 d4,.string d5,.slice d6 d7 d8] 51)).ownsRow (W1.heap.size+1) 51 7 (.slice a m c) k cs:=ZBb (show wr.drew.ownsRow _ _ _ _ _ _ from HOW.out) (fun b b1 b2=>(Below.heap_alloc w4 _ b (by omega)).trans (hg4.block b b2 (by simp;omega))))))
         all_goals (
          have hsz6:=hgr6.size
          rw [World.size_alloc] at hsz6
          have hA4:=(Below.refl _ w4).alloc (Nat.le_refl _) (.cells #[.string d0,.int .i64 d1,.bool d2,.int .i64 d3,.int .i64 d4,.string d5,.slice d6 d7 d8] 51)
          have hR6:=ZDX (ZA6 hR4 hA4) hgr6 (fun g e=>by have:=(HO2.out g e).2;omega)
          have hG4:=ZAC (ZAC HG.out (ZAZ (ZCb wr) _)) hg4
          have hG6:=ZDM (ZAX hG4 (.cells #[.string d0,.int .i64 d1,.bool d2,.int .i64 d3,.int .i64 d4,.string d5,.slice d6 d7 d8] 51)) hgr6 (fun g e=>by have:=(HO2.out g e).2;omega)
          have hlen:(ys ++ [y]).length=k+1:=by rw [List.length_append,HRL.out];rfl
          have hel6:=ZC4 (P:=ZBe) (n:=7) (cs:=cs) (ys:=ys) (ds:=[.string d0,.int .i64 d1,.bool d2,.int .i64 d3,.int .i64 d4,.string d5,.slice d6 d7 d8]) (w0:=wr.drew) (w4:=w4) (w6:=w6) (v':=.slice a6 m6 c6) (y:=y) (show wr.drew.ownsRow _ _ _ (.slice a m c) ys.length cs by rw [HRL.out];exact HOW.out) HEL.out (show p<W1.heap.size+1 by omega) hbW hg4 hF4 rfl hA4 hgr6 hat6
          have hrow6:GRow ZBe 7 51 (W1.heap.size+1) w6 (.slice a6 m6 c6) (ys ++ [y]):=⟨_,by rw [hlen];exact hown6,hel6⟩
          go_wp2
          go_roundw
          case rel=>exact ⟨k+1,by omega,by omega,by go_num,by rw [H1.out];exact ZBE hR6 hpb _ _,ZAc hG6 (Nat.le_refl _) _ _,a6,m6,c6,ZAv hz6 1 _,by rw [H1.out];exact ZEK hrow6 (by simp) (fun b b1 b2=>Below.heap_setCell _ _ _ b (by show b≠W1.heap.size;omega))⟩
          case measure=>
           have e:(intOf (.int .i64 ((k:Int)+1))).toNat=k+1:=by simp only [intOf];omega
           have e':(intOf (.int .i64 (k:Int))).toNat=k:=by simp only [intOf];omega
           first | (rw [e,e'];omega) | (simp [intOf];omega))
        ·obtain rfl:k=min M 9:=by omega
         have hfin:True:=trivial
         rcases Nat.lt_or_ge (min M 9) M with h1 | h1
         ·have hd1:decide (min M 9<M)=true:=by simp;omega
          have hd2:decide (((min M 9:Nat):Int)<(9:Int))=false:=by simp;omega
          go_wp2_with fail
          go_meet
          exact ⟨by rw [hsk];exact hRk,hGk,a,m,c,hzk,hrk⟩
         ·have hd1:decide (min M 9<M)=false:=by simp;omega
          go_wp2_with fail
          go_meet
          exact ⟨by rw [hsk];exact hRk,hGk,a,m,c,hzk,hrk⟩
     case rest=>
      obtain ⟨hR4,hG4,a,m,c,hz4,hr4⟩:=hcut
      clear hR3 hG3 hz3
      generalize Rg.gRep Rg.gSlot (min M 9) s3=rS at *
      obtain ⟨SL,s4⟩:=rS
      simp only at hR4 hr4
      have hM4:=ZCx S p s4 _ hR4
      generalize Bn.rNum s4=r4 at *
      obtain ⟨M4,s5⟩:=r4
      simp only at hM4
      have HM4:=ZZY hM4
      have HR4:=ZZY hr4
      have hz4':=hz4
      clear hM4 hr4
      go_upto_block 4 with (go_at_call 27;(with_reducible refine (HM4.out).mono ?_);rintro e w5 ⟨rfl,hR5,hg5⟩;have hz5:=ZAT hz4' hg5 hpr;have hG5:=ZAC hG4 hg5)
      have hwc:=ZC2 hz4
      clear hR4 hG4
      go_cut [10] from 62 to 145 (fun s10 W=>RT S W p (Rg.gRep Rg.gStep (min M4 9) s5).2∧W1.grownBy W (some p)∧(∀ b,W1.heap.size<b→b<wc.heap.size→W.heap[b]? = wc.heap[b]?)∧wc.heap.size≤W.heap.size∧∃ ta tm tc,CA W W1.heap.size 40 #[.string nm,.slice a m c,.slice ta tm tc]∧GRow ZA3 10 54 wc.heap.size W (.slice ta tm tc) (Rg.gRep Rg.gStep (min M4 9) s5).1)
      case first=>
       go_wp2_with fail
       go_loopw [10] (fun i W=>∃ k:Nat,k≤9∧k≤M4∧i=.int .i64 (k:Int)∧RT S W p (Rg.gRep Rg.gStep k s5).2∧W1.grownBy W (some p)∧(∀ b,W1.heap.size<b→b<wc.heap.size→W.heap[b]? = wc.heap[b]?)∧wc.heap.size≤W.heap.size∧∃ ta tm tc,CA W W1.heap.size 40 #[.string nm,.slice a m c,.slice ta tm tc]∧GRow ZA3 10 54 wc.heap.size W (.slice ta tm tc) (Rg.gRep Rg.gStep k s5).1) (fun i _=>9-(intOf i).toNat)
       case atStart=>exact ⟨0,by omega,by omega,rfl,hR5,hG5,fun b b1 b2=>hg5.block b b2 (by simp;omega),hg5.size,none,0,0,hz5,ZFM _ _ _ _ _⟩
       case round=>
        obtain ⟨k,hk9,hkM,rfl,hRk,hGk,hkp,hsk9,ta,tm,tc,hzk,hrk⟩:=hrel
        clear hR5 hG5 hz5
        obtain ⟨_,_,k7,hk7,hA7,hx7⟩:=id hRk
        obtain ⟨⟨m0,m1,m2⟩,n0,n1,n2⟩:=ZBD hA7
        cases hsk:(Rg.gRep Rg.gStep k s5).2 with
        |none=>
         rw [hsk] at m2
         simp only [Option.isNone_none] at m2
         have hfin:=Rg.gRep_dead (n:=min M4 9) (by omega) hsk
         rcases Nat.lt_or_ge k M4 with h1 | h1
         ·have hd1:decide (k<M4)=true:=by simp;omega
          rcases Nat.lt_or_ge k 9 with h2 | h2
          ·have hd2:decide ((k:Int)<(9:Int))=true:=by simp;omega
           go_wp2_with fail
           go_meet
           exact ⟨by rw [hfin];exact hRk,hGk,hkp,hsk9,ta,tm,tc,hzk,by rw [hfin];exact hrk⟩
          ·have hd2:decide ((k:Int)<(9:Int))=false:=by simp;omega
           go_wp2_with fail
           go_meet
           exact ⟨by rw [hfin];exact hRk,hGk,hkp,hsk9,ta,tm,tc,hzk,by rw [hfin];exact hrk⟩
         ·have hd1:decide (k<M4)=false:=by simp;omega
          go_wp2_with fail
          go_meet
          exact ⟨by rw [hfin];exact hRk,hGk,hkp,hsk9,ta,tm,tc,hzk,by rw [hfin];exact hrk⟩
        |some l5=>
         rw [hsk] at m2 hRk
         simp only [Option.isNone_some] at m2
         by_cases hkl:k<M4∧k<9
         ·have hd1:decide (k<M4)=true:=by simp;omega
          have hd2:decide ((k:Int)<(9:Int))=true:=by simp;omega
          have hst1:Rg.gRep Rg.gStep (k+1) s5=((Rg.gRep Rg.gStep k s5).1 ++ [(Rg.gStep (some l5)).1],(Rg.gStep (some l5)).2):=by rw [Rg.gRep_succ,hsk]
          have hrl:(Rg.gRep Rg.gStep k s5).1.length=k:=Rg.gRep_len (by rw [hsk];simp)
          obtain ⟨cs,hown,hel⟩:=hrk
          obtain ⟨i0,hi,hi0,hi1,hi2⟩:=info_parts ZMA
          have hBy:=fun V (h:RT S V p (some l5))=>ZBN S p (some l5) V h
          have hkl:=ZD7 hRk
          rw [show Rg.gStep (some l5)=Rg.gStep1 (Bn.rByte (some l5)).1 (Bn.rByte (some l5)).2 from rfl] at hst1
          clear hsk
          generalize (Rg.gRep Rg.gStep k s5).1=YS at *
          generalize Bn.rByte (some l5)=r9 at *
          obtain ⟨kd,s6⟩:=r9
          simp only at hBy hst1 hkl
          rw [hrl] at hown
          have hpb:p<W1.heap.size:=hpr
          have hwr:=ZC2 hzk
          have hA3:=(Below.refl _ wr).alloc (Nat.le_refl _) (.cells #[.int .i64 0,.int .i64 0,.string ⟨#[]⟩,.int .i64 0,.bool false,.int .i64 0,.int .i64 0,.string ⟨#[]⟩,.slice none 0 0,.slice none 0 0] 54)
          have hS3:=ZBO wr 54 #[.int .i64 0,.int .i64 0,.string ⟨#[]⟩,.int .i64 0,.bool false,.int .i64 0,.int .i64 0,.string ⟨#[]⟩,.slice none 0 0,.slice none 0 0]
          have hT3:=ZA4 hzk hA3
          have hR3':=ZA6 hRk hA3
          have hG3':=ZAZ hA3 (some p)
          have hpB:p<wr.heap.size:=by omega
          have HOW:=ZZY hown;have HEL:=ZZY hel;have HRL:=ZZY hrl;have HG:=ZZY hGk;have HKP:=ZZY hkp;have HBY:=ZZY hBy;have HST:=ZZY hst1
          have HO2:=ZZY (ZC3 hown)
          clear hown hel hrl hGk hkp hBy hst1 hx7 hA7 hRk hzk
          by_cases hk1:kd=1
          ·skip
           have b1:decide ((1:Int)<(kd:Int))=false:=by simp;omega
           have b2:decide ((kd:Int)<5)=true:=by simp;omega
           have e1:((kd:Int) == 1)=true:=by simp;omega
           have e3:((kd:Int) == 3)=false:=by rw [beq_eq_false_iff_ne];omega
           have e4:((kd:Int) == 4)=false:=by rw [beq_eq_false_iff_ne];omega
           have e5:((kd:Int) == 5)=false:=by rw [beq_eq_false_iff_ne];omega
           have hC:=fun V (h:RT S V p s6)=>ZF0 S p s6 V h
           have hgs:Rg.gStep1 kd s6=(⟨(kd:Int),0,(Rg.gSlot s6).1,[]⟩,(Rg.gSlot s6).2):=by subst hk1;rfl
           rw [hgs] at HST
           clear hgs hk1
           generalize Rg.gSlot s6=r7 at *
           obtain ⟨sl9,s7⟩:=r7
           simp only at hC HST
           have HC:=ZZY hC
           clear hC
           go_upto_region 33 with (first
            |(go_at_call 30;(with_reducible refine (HBY.out _ hR3').mono ?_);rintro e w4 ⟨rfl,hR4,hg4⟩;have hS4:=ZAT hS3 hg4 hpB;have hT4:=ZAT hT3 hg4 hpb;have hG4':=ZAC hG3' hg4;have y0:=ZAK hS4 0 _ rfl;have f0:=ZAM hS4 0;have hS5:=ZAv hS4 0 (.int .i64 (kd:Int));have hT5:=ZBr hT4 (show W1.heap.size≠wr.heap.size by omega) 0 (.int .i64 (kd:Int));have hR5:=ZBE hR4 hpB 0 (.int .i64 (kd:Int));have hG5':=ZAc hG4' (Nat.le_refl wr.heap.size) 0 (.int .i64 (kd:Int));obtain ⟨⟨x0,x1,x2,x3,x4,x5,x6,x7,x8,x9⟩,g0,g1,g2,g3,g4,g5,g6,g7,g8,g9⟩:=boxJ10 hS5;have z0:=ZAK hT5 0 _ rfl;have z1:=ZAK hT5 1 _ rfl;have z2:=ZAK hT5 2 _ rfl;have v2:=ZAM hT5 2)
            |(go_at_call 29;(with_reducible refine (HC.out _ hR5).mono ?_);rintro e wk1 ⟨q0,q1,q2,q3,q4,q5,q6,q7,q8,rfl,hFa1,hRa1,hga1⟩;have hSa1:=ZAT hS5 hga1 hpB;have hTa1:=ZAT hT5 hga1 hpb;have hGa1:=ZAC hG5' hga1;obtain ⟨⟨xa0,xa1,xa2,xa3,xa4,xa5,xa6,xa7,xa8,xa9⟩,ga0,ga1,ga2,ga3,ga4,ga5,ga6,ga7,ga8,ga9⟩:=boxJ10 hSa1;have hSb1:CA (((((((wk1.setCell ⟨wr.heap.size,2,none⟩ (.string q0)).setCell ⟨wr.heap.size,3,none⟩ (.int .i64 q1)).setCell ⟨wr.heap.size,4,none⟩ (.bool q2)).setCell ⟨wr.heap.size,5,none⟩ (.int .i64 q3)).setCell ⟨wr.heap.size,6,none⟩ (.int .i64 q4)).setCell ⟨wr.heap.size,7,none⟩ (.string q5)).setCell ⟨wr.heap.size,8,none⟩ (.slice q6 q7 q8)) wr.heap.size 54 #[.int .i64 (kd:Int),.int .i64 0,.string q0,.int .i64 q1,.bool q2,.int .i64 q3,.int .i64 q4,.string q5,.slice q6 q7 q8,.slice none 0 0]:=(ZAv (ZAv (ZAv (ZAv (ZAv (ZAv (ZAv hSa1 2 (.string q0)) 3 (.int .i64 q1)) 4 (.bool q2)) 5 (.int .i64 q3)) 6 (.int .i64 q4)) 7 (.string q5)) 8 (.slice q6 q7 q8));have hTb1:=(ZBr (ZBr (ZBr (ZBr (ZBr (ZBr (ZBr hTa1 (show W1.heap.size≠wr.heap.size by omega) 2 (.string q0)) (show W1.heap.size≠wr.heap.size by omega) 3 (.int .i64 q1)) (show W1.heap.size≠wr.heap.size by omega) 4 (.bool q2)) (show W1.heap.size≠wr.heap.size by omega) 5 (.int .i64 q3)) (show W1.heap.size≠wr.heap.size by omega) 6 (.int .i64 q4)) (show W1.heap.size≠wr.heap.size by omega) 7 (.string q5)) (show W1.heap.size≠wr.heap.size by omega) 8 (.slice q6 q7 q8));have hRb1:=(ZBE (ZBE (ZBE (ZBE (ZBE (ZBE (ZBE hRa1 hpB 2 (.string q0)) hpB 3 (.int .i64 q1)) hpB 4 (.bool q2)) hpB 5 (.int .i64 q3)) hpB 6 (.int .i64 q4)) hpB 7 (.string q5)) hpB 8 (.slice q6 q7 q8));have hGb1:=(ZAc (ZAc (ZAc (ZAc (ZAc (ZAc (ZAc hGa1 (Nat.le_refl wr.heap.size) 2 (.string q0)) (Nat.le_refl wr.heap.size) 3 (.int .i64 q1)) (Nat.le_refl wr.heap.size) 4 (.bool q2)) (Nat.le_refl wr.heap.size) 5 (.int .i64 q3)) (Nat.le_refl wr.heap.size) 6 (.int .i64 q4)) (Nat.le_refl wr.heap.size) 7 (.string q5)) (Nat.le_refl wr.heap.size) 8 (.slice q6 q7 q8));obtain ⟨⟨xb0,xb1,xb2,xb3,xb4,xb5,xb6,xb7,xb8,xb9⟩,-⟩:=boxJ10 hSb1;have za0:=ZAK hTb1 0 _ rfl;have za1:=ZAK hTb1 1 _ rfl;have za2:=ZAK hTb1 2 _ rfl;have va2:=ZAM hTb1 2))
           have hF9:ZEB ZA3 wr.heap.size (((((((wk1.setCell ⟨wr.heap.size,2,none⟩ (.string q0)).setCell ⟨wr.heap.size,3,none⟩ (.int .i64 q1)).setCell ⟨wr.heap.size,4,none⟩ (.bool q2)).setCell ⟨wr.heap.size,5,none⟩ (.int .i64 q3)).setCell ⟨wr.heap.size,6,none⟩ (.int .i64 q4)).setCell ⟨wr.heap.size,7,none⟩ (.string q5)).setCell ⟨wr.heap.size,8,none⟩ (.slice q6 q7 q8)) ⟨(kd:Int),0,sl9,[]⟩ (.agg #[.int .i64 (kd:Int),.int .i64 0,.string q0,.int .i64 q1,.bool q2,.int .i64 q3,.int .i64 q4,.string q5,.slice q6 q7 q8,.slice none 0 0]):=fun W' h9=>by
            have h10:(w4.setCell ⟨wr.heap.size,0,none⟩ (.int .i64 (kd:Int))).heap.size=w4.heap.size:=by simp
            have h11:=hg4.size
            rw [World.size_alloc] at h11
            exact isStepJ1 ⟨by omega,by omega⟩ (hFa1 W' (fun b b1 b2=>(h9 b (by omega) (by simpa using b2)).trans (heapJ7 _ _ _ _ _ _ _ _ _ _ (by omega))))
           have hVs:(((((((wk1.setCell ⟨wr.heap.size,2,none⟩ (.string q0)).setCell ⟨wr.heap.size,3,none⟩ (.int .i64 q1)).setCell ⟨wr.heap.size,4,none⟩ (.bool q2)).setCell ⟨wr.heap.size,5,none⟩ (.int .i64 q3)).setCell ⟨wr.heap.size,6,none⟩ (.int .i64 q4)).setCell ⟨wr.heap.size,7,none⟩ (.string q5)).setCell ⟨wr.heap.size,8,none⟩ (.slice q6 q7 q8)).heap.size=wk1.heap.size:=by simp
           have hVw:=hGb1.size
           have hown5:((((((((wk1.setCell ⟨wr.heap.size,2,none⟩ (.string q0)).setCell ⟨wr.heap.size,3,none⟩ (.int .i64 q1)).setCell ⟨wr.heap.size,4,none⟩ (.bool q2)).setCell ⟨wr.heap.size,5,none⟩ (.int .i64 q3)).setCell ⟨wr.heap.size,6,none⟩ (.int .i64 q4)).setCell ⟨wr.heap.size,7,none⟩ (.string q5)).setCell ⟨wr.heap.size,8,none⟩ (.slice q6 q7 q8)).alloc (.cells #[.int .i64 (kd:Int),.int .i64 0,.string q0,.int .i64 q1,.bool q2,.int .i64 q3,.int .i64 q4,.string q5,.slice q6 q7 q8,.slice none 0 0] 54)).ownsRow wc.heap.size 54 10 (.slice ta tm tc) k cs:=ZBb HOW.out (fun b b1 b2=>(Below.heap_alloc _ _ b (by omega)).trans (hGb1.block b b2 (by simp;omega)))
           go_wp2_with (first
            |(at_builtin;refine ZAj _ rfl _ _ 38 rfl wc.heap.size 54 i0 (.agg #[.int .i64 0,.int .i64 0,.string ⟨#[]⟩,.int .i64 0,.bool false,.int .i64 0,.int .i64 0,.string ⟨#[]⟩,.slice none 0 0,.slice none 0 0]) 10 128 Tryz.underlying38 hi hi0 hi1 hi2 rfl (by decide) (.slice ta tm tc) k cs rfl hown5 (some ⟨wk1.heap.size,0,none⟩) 1 1 [.int .i64 (kd:Int),.int .i64 0,.string q0,.int .i64 q1,.bool q2,.int .i64 q3,.int .i64 q4,.string q5,.slice q6 q7 q8,.slice none 0 0] rfl ⟨rfl,.inr ⟨_,rfl,ZCN hVs [.int .i64 (kd:Int),.int .i64 0,.string q0,.int .i64 q1,.bool q2,.int .i64 q3,.int .i64 q4,.string q5,.slice q6 q7 q8,.slice none 0 0] _⟩⟩ (by simp [Value.oneCell']) (by unfold maxLen;omega) (by omega) (by rw [World.size_alloc];omega) ?_;intro v6 w6 hown6 hgr6 hat6;obtain ⟨a6,m6,c6,rfl⟩:=ZCc hown6;have hz6:CA w6 W1.heap.size 40 _:=(hgr6.block _ (by rw [World.size_alloc];omega) (fun e=>by have:=(HO2.out _ e.symm).2;omega)).trans (ZA4 hTb1 ((Below.refl _ _).alloc (Nat.le_refl _) _));have u0:=ZAK hz6 0 _ rfl;have u1:=ZAK hz6 1 _ rfl;have u2:=ZAK hz6 2 _ rfl;have u3:=ZAM hz6 2))
           have hend:=ZCz (wch:=fun b=>wc.heap[b]?) (y:=⟨(kd:Int),0,sl9,[]⟩) hpb hwc rfl hsk9 HG.out hGb1 hRb1 hTb1 HKP.out HRL.out HOW.out HEL.out hF9 rfl hown6 hgr6 hat6
           go_roundw
           case rel=>exact ⟨k+1,by omega,by omega,by go_num,by rw [HST.out];exact hend.1,hend.2.1,hend.2.2.1,hend.2.2.2.1,a6,m6,c6,hend.2.2.2.2.1,by rw [HST.out];exact hend.2.2.2.2.2⟩
           case measure=>
            have e:(intOf (.int .i64 ((k:Int)+1))).toNat=k+1:=by simp only [intOf];omega
            have e':(intOf (.int .i64 (k:Int))).toNat=k:=by simp only [intOf];omega
            first | (rw [e,e'];omega) | (simp [intOf];omega)
          by_cases hk2:kd=2
          ·skip
           have b1:decide ((1:Int)<(kd:Int))=true:=by simp;omega
           have b2:decide ((kd:Int)<5)=true:=by simp;omega
           have e1:((kd:Int) == 1)=false:=by rw [beq_eq_false_iff_ne];omega
           have e3:((kd:Int) == 3)=false:=by rw [beq_eq_false_iff_ne];omega
           have e4:((kd:Int) == 4)=false:=by rw [beq_eq_false_iff_ne];omega
           have e5:((kd:Int) == 5)=false:=by rw [beq_eq_false_iff_ne];omega
           have hC:=fun V (h:RT S V p s6)=>ZBN S p s6 V h
           have hcl:=fun V (h:RT S V p s6)=>ZD7 h
           have hgs:Rg.gStep1 kd s6=(⟨(kd:Int),((Bn.rByte s6).1:Nat),Rg.z7,[]⟩,(Bn.rByte s6).2):=by subst hk2;rfl
           rw [hgs] at HST
           clear hgs hk2
           generalize Bn.rByte s6=r7 at *
           obtain ⟨co,s7⟩:=r7
           simp only at hC hcl HST
           have HC:=ZZY hC
           clear hC
           go_upto_region 33 with (first
            |(go_at_call 30;(with_reducible refine (HBY.out _ hR3').mono ?_);rintro e w4 ⟨rfl,hR4,hg4⟩;have hS4:=ZAT hS3 hg4 hpB;have hT4:=ZAT hT3 hg4 hpb;have hG4':=ZAC hG3' hg4;have y0:=ZAK hS4 0 _ rfl;have f0:=ZAM hS4 0;have hS5:=ZAv hS4 0 (.int .i64 (kd:Int));have hT5:=ZBr hT4 (show W1.heap.size≠wr.heap.size by omega) 0 (.int .i64 (kd:Int));have hR5:=ZBE hR4 hpB 0 (.int .i64 (kd:Int));have hG5':=ZAc hG4' (Nat.le_refl wr.heap.size) 0 (.int .i64 (kd:Int));obtain ⟨⟨x0,x1,x2,x3,x4,x5,x6,x7,x8,x9⟩,g0,g1,g2,g3,g4,g5,g6,g7,g8,g9⟩:=boxJ10 hS5;have z0:=ZAK hT5 0 _ rfl;have z1:=ZAK hT5 1 _ rfl;have z2:=ZAK hT5 2 _ rfl;have v2:=ZAM hT5 2)
            |(go_at_call 30;(with_reducible refine (HC.out _ hR5).mono ?_);rintro e wk1 ⟨rfl,hRa1,hga1⟩;have hSa1:=ZAT hS5 hga1 hpB;have hTa1:=ZAT hT5 hga1 hpb;have hGa1:=ZAC hG5' hga1;have ya1:=ZAK hSa1 1 _ rfl;have fa1:=ZAM hSa1 1;have hSb1:=ZAv hSa1 1 (.int .i64 (co:Int));have hTb1:=ZBr hTa1 (show W1.heap.size≠wr.heap.size by omega) 1 (.int .i64 (co:Int));have hRb1:=ZBE hRa1 hpB 1 (.int .i64 (co:Int));have hGb1:=ZAc hGa1 (Nat.le_refl wr.heap.size) 1 (.int .i64 (co:Int));obtain ⟨⟨xa0,xa1,xa2,xa3,xa4,xa5,xa6,xa7,xa8,xa9⟩,ga0,ga1,ga2,ga3,ga4,ga5,ga6,ga7,ga8,ga9⟩:=boxJ10 hSb1;have za0:=ZAK hTb1 0 _ rfl;have za1:=ZAK hTb1 1 _ rfl;have za2:=ZAK hTb1 2 _ rfl;have va2:=ZAM hTb1 2))
           have hVs:(wk1.setCell ⟨wr.heap.size,1,none⟩ (.int .i64 (co:Int))).heap.size=wk1.heap.size:=by simp
           have hVw:=hGb1.size
           have hown5:((wk1.setCell ⟨wr.heap.size,1,none⟩ (.int .i64 (co:Int))).alloc (.cells #[.int .i64 (kd:Int),.int .i64 (co:Int),.string ⟨#[]⟩,.int .i64 0,.bool false,.int .i64 0,.int .i64 0,.string ⟨#[]⟩,.slice none 0 0,.slice none 0 0] 54)).ownsRow wc.heap.size 54 10 (.slice ta tm tc) k cs:=ZBb HOW.out (fun b b1 b2=>(Below.heap_alloc _ _ b (by omega)).trans (hGb1.block b b2 (by simp;omega)))
           go_wp2_with (first
            |(at_builtin;refine ZAj _ rfl _ _ 38 rfl wc.heap.size 54 i0 (.agg #[.int .i64 0,.int .i64 0,.string ⟨#[]⟩,.int .i64 0,.bool false,.int .i64 0,.int .i64 0,.string ⟨#[]⟩,.slice none 0 0,.slice none 0 0]) 10 128 Tryz.underlying38 hi hi0 hi1 hi2 rfl (by decide) (.slice ta tm tc) k cs rfl hown5 (some ⟨wk1.heap.size,0,none⟩) 1 1 [.int .i64 (kd:Int),.int .i64 (co:Int),.string ⟨#[]⟩,.int .i64 0,.bool false,.int .i64 0,.int .i64 0,.string ⟨#[]⟩,.slice none 0 0,.slice none 0 0] rfl ⟨rfl,.inr ⟨_,rfl,ZCN hVs [.int .i64 (kd:Int),.int .i64 (co:Int),.string ⟨#[]⟩,.int .i64 0,.bool false,.int .i64 0,.int .i64 0,.string ⟨#[]⟩,.slice none 0 0,.slice none 0 0] _⟩⟩ (by simp [Value.oneCell']) (by unfold maxLen;omega) (by omega) (by rw [World.size_alloc];omega) ?_;intro v6 w6 hown6 hgr6 hat6;obtain ⟨a6,m6,c6,rfl⟩:=ZCc hown6;have hz6:CA w6 W1.heap.size 40 _:=(hgr6.block _ (by rw [World.size_alloc];omega) (fun e=>by have:=(HO2.out _ e.symm).2;omega)).trans (ZA4 hTb1 ((Below.refl _ _).alloc (Nat.le_refl _) _));have u0:=ZAK hz6 0 _ rfl;have u1:=ZAK hz6 1 _ rfl;have u2:=ZAK hz6 2 _ rfl;have u3:=ZAM hz6 2))
           have hend:=ZCz (wch:=fun b=>wc.heap[b]?) (y:=⟨(kd:Int),(co:Nat),Rg.z7,[]⟩) hpb hwc rfl hsk9 HG.out hGb1 hRb1 hTb1 HKP.out HRL.out HOW.out HEL.out (fun W' _=>isStepJ W' kd co ⟨#[]⟩ 0 ⟨by omega,by omega⟩ (by have:=hcl _ hR5;exact ⟨by omega,by omega⟩) ⟨by omega,by omega⟩ (by unfold maxLen;decide)) rfl hown6 hgr6 hat6
           go_roundw
           case rel=>exact ⟨k+1,by omega,by omega,by go_num,by rw [HST.out];exact hend.1,hend.2.1,hend.2.2.1,hend.2.2.2.1,a6,m6,c6,hend.2.2.2.2.1,by rw [HST.out];exact hend.2.2.2.2.2⟩
           case measure=>
            have e:(intOf (.int .i64 ((k:Int)+1))).toNat=k+1:=by simp only [intOf];omega
            have e':(intOf (.int .i64 (k:Int))).toNat=k:=by simp only [intOf];omega
            first | (rw [e,e'];omega) | (simp [intOf];omega)
          by_cases hk3:kd=3
          ·skip
           have b1:decide ((1:Int)<(kd:Int))=true:=by simp;omega
           have b2:decide ((kd:Int)<5)=true:=by simp;omega
           have e1:((kd:Int) == 1)=false:=by rw [beq_eq_false_iff_ne];omega
           have e3:((kd:Int) == 3)=true:=by simp;omega
           have e4:((kd:Int) == 4)=false:=by rw [beq_eq_false_iff_ne];omega
           have e5:((kd:Int) == 5)=false:=by rw [beq_eq_false_iff_ne];omega
           have hC:=fun V (h:RT S V p s6)=>ZBN S p s6 V h
           have hcl:=fun V (h:RT S V p s6)=>ZD7 h
           have hgs:Rg.gStep1 kd s6=(⟨(kd:Int),((Bn.rByte s6).1:Nat),⟨(Bn.rText (Bn.rByte s6).2).1,0,false,Sc.nilV⟩,[]⟩,(Bn.rText (Bn.rByte s6).2).2):=by subst hk3;rfl
           rw [hgs] at HST
           clear hgs hk3
           generalize Bn.rByte s6=r7 at *
           obtain ⟨co,s7⟩:=r7
           simp only at hC hcl HST
           have hD:=fun V (h:RT S V p s7)=>ZDL S p s7 V h
           have hdl:=fun V (h:RT S V p s7)=>ZCy h
           generalize Bn.rText s7=r8 at *
           obtain ⟨nm9,s8⟩:=r8
           simp only at hD hdl HST
           have HC:=ZZY hC;have HD:=ZZY hD
           clear hC hD
           go_upto_region 33 with (first
            |(go_at_call 30;(with_reducible refine (HBY.out _ hR3').mono ?_);rintro e w4 ⟨rfl,hR4,hg4⟩;have hS4:=ZAT hS3 hg4 hpB;have hT4:=ZAT hT3 hg4 hpb;have hG4':=ZAC hG3' hg4;have y0:=ZAK hS4 0 _ rfl;have f0:=ZAM hS4 0;have hS5:=ZAv hS4 0 (.int .i64 (kd:Int));have hT5:=ZBr hT4 (show W1.heap.size≠wr.heap.size by omega) 0 (.int .i64 (kd:Int));have hR5:=ZBE hR4 hpB 0 (.int .i64 (kd:Int));have hG5':=ZAc hG4' (Nat.le_refl wr.heap.size) 0 (.int .i64 (kd:Int));obtain ⟨⟨x0,x1,x2,x3,x4,x5,x6,x7,x8,x9⟩,g0,g1,g2,g3,g4,g5,g6,g7,g8,g9⟩:=boxJ10 hS5;have z0:=ZAK hT5 0 _ rfl;have z1:=ZAK hT5 1 _ rfl;have z2:=ZAK hT5 2 _ rfl;have v2:=ZAM hT5 2)
            |(go_at_call 30;(with_reducible refine (HC.out _ hR5).mono ?_);rintro e wk1 ⟨rfl,hRa1,hga1⟩;have hSa1:=ZAT hS5 hga1 hpB;have hTa1:=ZAT hT5 hga1 hpb;have hGa1:=ZAC hG5' hga1;have ya1:=ZAK hSa1 1 _ rfl;have fa1:=ZAM hSa1 1;have hSb1:=ZAv hSa1 1 (.int .i64 (co:Int));have hTb1:=ZBr hTa1 (show W1.heap.size≠wr.heap.size by omega) 1 (.int .i64 (co:Int));have hRb1:=ZBE hRa1 hpB 1 (.int .i64 (co:Int));have hGb1:=ZAc hGa1 (Nat.le_refl wr.heap.size) 1 (.int .i64 (co:Int));obtain ⟨⟨xa0,xa1,xa2,xa3,xa4,xa5,xa6,xa7,xa8,xa9⟩,ga0,ga1,ga2,ga3,ga4,ga5,ga6,ga7,ga8,ga9⟩:=boxJ10 hSb1;have za0:=ZAK hTb1 0 _ rfl;have za1:=ZAK hTb1 1 _ rfl;have za2:=ZAK hTb1 2 _ rfl;have va2:=ZAM hTb1 2)
            |(go_at_call 28;(with_reducible refine (HD.out _ hRb1).mono ?_);rintro e wk2 ⟨rfl,hRa2,hga2⟩;have hSa2:=ZAT hSb1 hga2 hpB;have hTa2:=ZAT hTb1 hga2 hpb;have hGa2:=ZAC hGb1 hga2;have ya2:=ZAK hSa2 2 _ rfl;have fa2:=ZAM hSa2 2;have hSb2:=ZAv hSa2 2 (.string nm9);have hTb2:=ZBr hTa2 (show W1.heap.size≠wr.heap.size by omega) 2 (.string nm9);have hRb2:=ZBE hRa2 hpB 2 (.string nm9);have hGb2:=ZAc hGa2 (Nat.le_refl wr.heap.size) 2 (.string nm9);obtain ⟨⟨xa0,xa1,xa2,xa3,xa4,xa5,xa6,xa7,xa8,xa9⟩,ga0,ga1,ga2,ga3,ga4,ga5,ga6,ga7,ga8,ga9⟩:=boxJ10 hSb2;have za0:=ZAK hTb2 0 _ rfl;have za1:=ZAK hTb2 1 _ rfl;have za2:=ZAK hTb2 2 _ rfl;have va2:=ZAM hTb2 2))
           have hVs:(wk2.setCell ⟨wr.heap.size,2,none⟩ (.string nm9)).heap.size=wk2.heap.size:=by simp
           have hVw:=hGb2.size
           have hown5:((wk2.setCell ⟨wr.heap.size,2,none⟩ (.string nm9)).alloc (.cells #[.int .i64 (kd:Int),.int .i64 (co:Int),.string nm9,.int .i64 0,.bool false,.int .i64 0,.int .i64 0,.string ⟨#[]⟩,.slice none 0 0,.slice none 0 0] 54)).ownsRow wc.heap.size 54 10 (.slice ta tm tc) k cs:=ZBb HOW.out (fun b b1 b2=>(Below.heap_alloc _ _ b (by omega)).trans (hGb2.block b b2 (by simp;omega)))
           go_wp2_with (first
            |(at_builtin;refine ZAj _ rfl _ _ 38 rfl wc.heap.size 54 i0 (.agg #[.int .i64 0,.int .i64 0,.string ⟨#[]⟩,.int .i64 0,.bool false,.int .i64 0,.int .i64 0,.string ⟨#[]⟩,.slice none 0 0,.slice none 0 0]) 10 128 Tryz.underlying38 hi hi0 hi1 hi2 rfl (by decide) (.slice ta tm tc) k cs rfl hown5 (some ⟨wk2.heap.size,0,none⟩) 1 1 [.int .i64 (kd:Int),.int .i64 (co:Int),.string nm9,.int .i64 0,.bool false,.int .i64 0,.int .i64 0,.string ⟨#[]⟩,.slice none 0 0,.slice none 0 0] rfl ⟨rfl,.inr ⟨_,rfl,ZCN hVs [.int .i64 (kd:Int),.int .i64 (co:Int),.string nm9,.int .i64 0,.bool false,.int .i64 0,.int .i64 0,.string ⟨#[]⟩,.slice none 0 0,.slice none 0 0] _⟩⟩ (by simp [Value.oneCell']) (by unfold maxLen;omega) (by omega) (by rw [World.size_alloc];omega) ?_;intro v6 w6 hown6 hgr6 hat6;obtain ⟨a6,m6,c6,rfl⟩:=ZCc hown6;have hz6:CA w6 W1.heap.size 40 _:=(hgr6.block _ (by rw [World.size_alloc];omega) (fun e=>by have:=(HO2.out _ e.symm).2;omega)).trans (ZA4 hTb2 ((Below.refl _ _).alloc (Nat.le_refl _) _));have u0:=ZAK hz6 0 _ rfl;have u1:=ZAK hz6 1 _ rfl;have u2:=ZAK hz6 2 _ rfl;have u3:=ZAM hz6 2))
           have hend:=ZCz (wch:=fun b=>wc.heap[b]?) (y:=⟨(kd:Int),(co:Nat),⟨nm9,0,false,Sc.nilV⟩,[]⟩) hpb hwc rfl hsk9 HG.out hGb2 hRb2 hTb2 HKP.out HRL.out HOW.out HEL.out (fun W' _=>isStepJ W' kd co nm9 0 ⟨by omega,by omega⟩ (by have:=hcl _ hR5;exact ⟨by omega,by omega⟩) ⟨by omega,by omega⟩ (hdl _ hRb1)) rfl hown6 hgr6 hat6
           go_roundw
           case rel=>exact ⟨k+1,by omega,by omega,by go_num,by rw [HST.out];exact hend.1,hend.2.1,hend.2.2.1,hend.2.2.2.1,a6,m6,c6,hend.2.2.2.2.1,by rw [HST.out];exact hend.2.2.2.2.2⟩
           case measure=>
            have e:(intOf (.int .i64 ((k:Int)+1))).toNat=k+1:=by simp only [intOf];omega
            have e':(intOf (.int .i64 (k:Int))).toNat=k:=by simp only [intOf];omega
            first | (rw [e,e'];omega) | (simp [intOf];omega)
          by_cases hk4:kd=4
          ·skip
           have b1:decide ((1:Int)<(kd:Int))=true:=by simp;omega
           have b2:decide ((kd:Int)<5)=true:=by simp;omega
           have e1:((kd:Int) == 1)=false:=by rw [beq_eq_false_iff_ne];omega
           have e3:((kd:Int) == 3)=false:=by rw [beq_eq_false_iff_ne];omega
           have e4:((kd:Int) == 4)=true:=by simp;omega
           have e5:((kd:Int) == 5)=false:=by rw [beq_eq_false_iff_ne];omega
           have hC:=fun V (h:RT S V p s6)=>ZBN S p s6 V h
           have hcl:=fun V (h:RT S V p s6)=>ZD7 h
           have hgs:Rg.gStep1 kd s6=(⟨(kd:Int),((Bn.rByte s6).1:Nat),⟨Rg.e0,((Bn.rByte (Bn.rByte s6).2).1:Nat),false,Sc.nilV⟩,[]⟩,(Bn.rByte (Bn.rByte s6).2).2):=by subst hk4;rfl
           rw [hgs] at HST
           clear hgs hk4
           generalize Bn.rByte s6=r7 at *
           obtain ⟨co,s7⟩:=r7
           simp only at hC hcl HST
           have hD:=fun V (h:RT S V p s7)=>ZBN S p s7 V h
           have hdl:=fun V (h:RT S V p s7)=>ZD7 h
           generalize Bn.rByte s7=r8 at *
           obtain ⟨ty9,s8⟩:=r8
           simp only at hD hdl HST
           have HC:=ZZY hC;have HD:=ZZY hD
           clear hC hD
           go_upto_region 33 with (first
            |(go_at_call 30;(with_reducible refine (HBY.out _ hR3').mono ?_);rintro e w4 ⟨rfl,hR4,hg4⟩;have hS4:=ZAT hS3 hg4 hpB;have hT4:=ZAT hT3 hg4 hpb;have hG4':=ZAC hG3' hg4;have y0:=ZAK hS4 0 _ rfl;have f0:=ZAM hS4 0;have hS5:=ZAv hS4 0 (.int .i64 (kd:Int));have hT5:=ZBr hT4 (show W1.heap.size≠wr.heap.size by omega) 0 (.int .i64 (kd:Int));have hR5:=ZBE hR4 hpB 0 (.int .i64 (kd:Int));have hG5':=ZAc hG4' (Nat.le_refl wr.heap.size) 0 (.int .i64 (kd:Int));obtain ⟨⟨x0,x1,x2,x3,x4,x5,x6,x7,x8,x9⟩,g0,g1,g2,g3,g4,g5,g6,g7,g8,g9⟩:=boxJ10 hS5;have z0:=ZAK hT5 0 _ rfl;have z1:=ZAK hT5 1 _ rfl;have z2:=ZAK hT5 2 _ rfl;have v2:=ZAM hT5 2)
            |(go_at_call 30;(with_reducible refine (HC.out _ hR5).mono ?_);rintro e wk1 ⟨rfl,hRa1,hga1⟩;have hSa1:=ZAT hS5 hga1 hpB;have hTa1:=ZAT hT5 hga1 hpb;have hGa1:=ZAC hG5' hga1;have ya1:=ZAK hSa1 1 _ rfl;have fa1:=ZAM hSa1 1;have hSb1:=ZAv hSa1 1 (.int .i64 (co:Int));have hTb1:=ZBr hTa1 (show W1.heap.size≠wr.heap.size by omega) 1 (.int .i64 (co:Int));have hRb1:=ZBE hRa1 hpB 1 (.int .i64 (co:Int));have hGb1:=ZAc hGa1 (Nat.le_refl wr.heap.size) 1 (.int .i64 (co:Int));obtain ⟨⟨xa0,xa1,xa2,xa3,xa4,xa5,xa6,xa7,xa8,xa9⟩,ga0,ga1,ga2,ga3,ga4,ga5,ga6,ga7,ga8,ga9⟩:=boxJ10 hSb1;have za0:=ZAK hTb1 0 _ rfl;have za1:=ZAK hTb1 1 _ rfl;have za2:=ZAK hTb1 2 _ rfl;have va2:=ZAM hTb1 2)
            |(go_at_call 30;(with_reducible refine (HD.out _ hRb1).mono ?_);rintro e wk2 ⟨rfl,hRa2,hga2⟩;have hSa2:=ZAT hSb1 hga2 hpB;have hTa2:=ZAT hTb1 hga2 hpb;have hGa2:=ZAC hGb1 hga2;have ya2:=ZAK hSa2 3 _ rfl;have fa2:=ZAM hSa2 3;have hSb2:=ZAv hSa2 3 (.int .i64 (ty9:Int));have hTb2:=ZBr hTa2 (show W1.heap.size≠wr.heap.size by omega) 3 (.int .i64 (ty9:Int));have hRb2:=ZBE hRa2 hpB 3 (.int .i64 (ty9:Int));have hGb2:=ZAc hGa2 (Nat.le_refl wr.heap.size) 3 (.int .i64 (ty9:Int));obtain ⟨⟨xa0,xa1,xa2,xa3,xa4,xa5,xa6,xa7,xa8,xa9⟩,ga0,ga1,ga2,ga3,ga4,ga5,ga6,ga7,ga8,ga9⟩:=boxJ10 hSb2;have za0:=ZAK hTb2 0 _ rfl;have za1:=ZAK hTb2 1 _ rfl;have za2:=ZAK hTb2 2 _ rfl;have va2:=ZAM hTb2 2))
           have hVs:(wk2.setCell ⟨wr.heap.size,3,none⟩ (.int .i64 (ty9:Int))).heap.size=wk2.heap.size:=by simp
           have hVw:=hGb2.size
           have hown5:((wk2.setCell ⟨wr.heap.size,3,none⟩ (.int .i64 (ty9:Int))).alloc (.cells #[.int .i64 (kd:Int),.int .i64 (co:Int),.string ⟨#[]⟩,.int .i64 (ty9:Int),.bool false,.int .i64 0,.int .i64 0,.string ⟨#[]⟩,.slice none 0 0,.slice none 0 0] 54)).ownsRow wc.heap.size 54 10 (.slice ta tm tc) k cs:=ZBb HOW.out (fun b b1 b2=>(Below.heap_alloc _ _ b (by omega)).trans (hGb2.block b b2 (by simp;omega)))
           go_wp2_with (first
            |(at_builtin;refine ZAj _ rfl _ _ 38 rfl wc.heap.size 54 i0 (.agg #[.int .i64 0,.int .i64 0,.string ⟨#[]⟩,.int .i64 0,.bool false,.int .i64 0,.int .i64 0,.string ⟨#[]⟩,.slice none 0 0,.slice none 0 0]) 10 128 Tryz.underlying38 hi hi0 hi1 hi2 rfl (by decide) (.slice ta tm tc) k cs rfl hown5 (some ⟨wk2.heap.size,0,none⟩) 1 1 [.int .i64 (kd:Int),.int .i64 (co:Int),.string ⟨#[]⟩,.int .i64 (ty9:Int),.bool false,.int .i64 0,.int .i64 0,.string ⟨#[]⟩,.slice none 0 0,.slice none 0 0] rfl ⟨rfl,.inr ⟨_,rfl,ZCN hVs [.int .i64 (kd:Int),.int .i64 (co:Int),.string ⟨#[]⟩,.int .i64 (ty9:Int),.bool false,.int .i64 0,.int .i64 0,.string ⟨#[]⟩,.slice none 0 0,.slice none 0 0] _⟩⟩ (by simp [Value.oneCell']) (by unfold maxLen;omega) (by omega) (by rw [World.size_alloc];omega) ?_;intro v6 w6 hown6 hgr6 hat6;obtain ⟨a6,m6,c6,rfl⟩:=ZCc hown6;have hz6:CA w6 W1.heap.size 40 _:=(hgr6.block _ (by rw [World.size_alloc];omega) (fun e=>by have:=(HO2.out _ e.symm).2;omega)).trans (ZA4 hTb2 ((Below.refl _ _).alloc (Nat.le_refl _) _));have u0:=ZAK hz6 0 _ rfl;have u1:=ZAK hz6 1 _ rfl;have u2:=ZAK hz6 2 _ rfl;have u3:=ZAM hz6 2))
           have hend:=ZCz (wch:=fun b=>wc.heap[b]?) (y:=⟨(kd:Int),(co:Nat),⟨Rg.e0,(ty9:Nat),false,Sc.nilV⟩,[]⟩) hpb hwc rfl hsk9 HG.out hGb2 hRb2 hTb2 HKP.out HRL.out HOW.out HEL.out (fun W' _=>isStepJ W' kd co ⟨#[]⟩ ty9 ⟨by omega,by omega⟩ (by have:=hcl _ hR5;exact ⟨by omega,by omega⟩) (by have:=hdl _ hRb1;exact ⟨by omega,by omega⟩) (by unfold maxLen;decide)) rfl hown6 hgr6 hat6
           go_roundw
           case rel=>exact ⟨k+1,by omega,by omega,by go_num,by rw [HST.out];exact hend.1,hend.2.1,hend.2.2.1,hend.2.2.2.1,a6,m6,c6,hend.2.2.2.2.1,by rw [HST.out];exact hend.2.2.2.2.2⟩
           case measure=>
            have e:(intOf (.int .i64 ((k:Int)+1))).toNat=k+1:=by simp only [intOf];omega
            have e':(intOf (.int .i64 (k:Int))).toNat=k:=by simp only [intOf];omega
            first | (rw [e,e'];omega) | (simp [intOf];omega)
          by_cases hk5:kd=5
          ·skip
           have b1:decide ((1:Int)<(kd:Int))=true:=by simp;omega
           have b2:decide ((kd:Int)<5)=false:=by simp;omega
           have e1:((kd:Int) == 1)=false:=by rw [beq_eq_false_iff_ne];omega
           have e3:((kd:Int) == 3)=false:=by rw [beq_eq_false_iff_ne];omega
           have e4:((kd:Int) == 4)=false:=by rw [beq_eq_false_iff_ne];omega
           have e5:((kd:Int) == 5)=true:=by simp;omega
           have hgs:Rg.gStep1 kd s6=(⟨(kd:Int),0,Rg.z7,(Rg.gRep Rg.gOne (min (Bn.rNum s6).1 9) (Bn.rNum s6).2).1⟩,(Rg.gRep Rg.gOne (min (Bn.rNum s6).1 9) (Bn.rNum s6).2).2):=by subst hk5;rfl
           rw [hgs] at HST
           clear hgs hk5
           have hC:=fun V (h:RT S V p s6)=>ZCx S p s6 V h
           generalize Bn.rNum s6=r7 at *
           obtain ⟨M5,s7⟩:=r7
           simp only at hC HST
           have HC:=ZZY hC
           clear hC
           obtain ⟨WS,hWS⟩:∃ V,V=wr:=⟨_,rfl⟩
           subst hWS
           obtain ⟨WC,hWC⟩:∃ V,V=wc:=⟨_,rfl⟩
           subst hWC
           go_upto_block 6 with (first
            |(go_at_call 30;(with_reducible refine (HBY.out _ hR3').mono ?_);rintro e w4 ⟨rfl,hR4,hg4⟩;have hS4:=ZAT hS3 hg4 hpB;have hT4:=ZAT hT3 hg4 hpb;have hG4':=ZAC hG3' hg4;have y0:=ZAK hS4 0 _ rfl;have f0:=ZAM hS4 0;have hS5:=ZAv hS4 0 (.int .i64 (kd:Int));have hT5:=ZBr hT4 (show W1.heap.size≠WS.heap.size by omega) 0 (.int .i64 (kd:Int));have hR5:=ZBE hR4 hpB 0 (.int .i64 (kd:Int));have hG5':=ZAc hG4' (Nat.le_refl WS.heap.size) 0 (.int .i64 (kd:Int));obtain ⟨⟨x0,x1,x2,x3,x4,x5,x6,x7,x8,x9⟩,g0,g1,g2,g3,g4,g5,g6,g7,g8,g9⟩:=boxJ10 hS5;have z0:=ZAK hT5 0 _ rfl;have z1:=ZAK hT5 1 _ rfl;have z2:=ZAK hT5 2 _ rfl;have v2:=ZAM hT5 2)
            |(go_at_call 27;(with_reducible refine (HC.out _ hR5).mono ?_);rintro e wk1 ⟨rfl,hRa1,hga1⟩;have hSa1:=ZAT hS5 hga1 hpB;have hTa1:=ZAT hT5 hga1 hpb;have hGa1:=ZAC hG5' hga1))
           clear m0 m1 m2 n0 n1 n2
           go_cut [13] from 117 to 139 (fun s13 W=>RT S W p (Rg.gRep Rg.gOne (min M5 9) s7).2∧WS.grownBy W (some p)∧∃ oa om oc,CA W WS.heap.size 54 #[.int .i64 (kd:Int),.int .i64 0,.string ⟨#[]⟩,.int .i64 0,.bool false,.int .i64 0,.int .i64 0,.string ⟨#[]⟩,.slice none 0 0,.slice oa om oc]∧CA W W1.heap.size 40 #[.string nm,.slice a m c,.slice ta tm tc]∧GRow IsI1 1 3 (WS.heap.size+1) W (.slice oa om oc) (Rg.gRep Rg.gOne (min M5 9) s7).1)
           case first=>
            go_wp2_with fail
            go_loopw [13] (fun i W=>∃ j:Nat,j≤9∧j≤M5∧i=.int .i64 (j:Int)∧RT S W p (Rg.gRep Rg.gOne j s7).2∧WS.grownBy W (some p)∧∃ oa om oc,CA W WS.heap.size 54 #[.int .i64 (kd:Int),.int .i64 0,.string ⟨#[]⟩,.int .i64 0,.bool false,.int .i64 0,.int .i64 0,.string ⟨#[]⟩,.slice none 0 0,.slice oa om oc]∧CA W W1.heap.size 40 #[.string nm,.slice a m c,.slice ta tm tc]∧GRow IsI1 1 3 (WS.heap.size+1) W (.slice oa om oc) (Rg.gRep Rg.gOne j s7).1) (fun i _=>9-(intOf i).toNat)
            case atStart=>exact ⟨0,by omega,by omega,rfl,hRa1,hGa1,none,0,0,hSa1,hTa1,ZFM _ _ _ _ _⟩
            case round=>
             obtain ⟨j,hj9,hjM,rfl,hRj,hGj,oa,om,oc,hSj,hTj,hrj⟩:=hrel
             obtain ⟨_,_,k8,hk8,hA8,hx8⟩:=id hRj
             obtain ⟨⟨m0,m1,m2⟩,n0,n1,n2⟩:=ZBD hA8
             cases hsj:(Rg.gRep Rg.gOne j s7).2 with
             |none=>
              rw [hsj] at m2
              simp only [Option.isNone_none] at m2
              have hfin:=Rg.gRep_dead (n:=min M5 9) (by omega) hsj
              rcases Nat.lt_or_ge j M5 with h1 | h1
              ·have c1:decide (j<M5)=true:=by simp;omega
               rcases Nat.lt_or_ge j 9 with h2 | h2
               ·have c2:decide ((j:Int)<(9:Int))=true:=by simp;omega
                go_wp2_with fail
                go_meet
                exact ⟨by rw [hfin];exact hRj,hGj,oa,om,oc,hSj,hTj,by rw [hfin];exact hrj⟩
               ·have c2:decide ((j:Int)<(9:Int))=false:=by simp;omega
                go_wp2_with fail
                go_meet
                exact ⟨by rw [hfin];exact hRj,hGj,oa,om,oc,hSj,hTj,by rw [hfin];exact hrj⟩
              ·have c1:decide (j<M5)=false:=by simp;omega
               go_wp2_with fail
               go_meet
               exact ⟨by rw [hfin];exact hRj,hGj,oa,om,oc,hSj,hTj,by rw [hfin];exact hrj⟩
             |some l6=>
              rw [hsj] at m2 hRj
              simp only [Option.isNone_some] at m2
              by_cases hjl:j<M5∧j<9
              ·have c1:decide (j<M5)=true:=by simp;omega
               have c2:decide ((j:Int)<(9:Int))=true:=by simp;omega
               have hD:=fun V (h:RT S V p (some l6))=>ZBN S p (some l6) V h
               have hbl:=ZD7 hRj
               have hst2:Rg.gRep Rg.gOne (j+1) s7=((Rg.gRep Rg.gOne j s7).1 ++ [(Rg.gOne (some l6)).1],(Rg.gOne (some l6)).2):=by rw [Rg.gRep_succ,hsj]
               rw [show Rg.gOne (some l6)=((((Bn.rByte (some l6)).1:Nat):Int),(Bn.rByte (some l6)).2) from rfl] at hst2
               have hrl2:(Rg.gRep Rg.gOne j s7).1.length=j:=Rg.gRep_len (by rw [hsj];simp)
               obtain ⟨cs2,hown2,hel2⟩:=hrj
               obtain ⟨i1,hj0,hj1,hj2,hj3⟩:=info_parts ZNr
               clear hsj
               generalize (Rg.gRep Rg.gOne j s7).1=ZS at *
               generalize Bn.rByte (some l6)=r8 at *
               obtain ⟨b8,s8⟩:=r8
               simp only at hD hbl hst2
               rw [hrl2] at hown2
               have hbw:=ZC2 hSj
               have y9:=ZAK hSj 9 _ rfl
               have f9:=ZAM hSj 9
               have HOW2:=ZZY hown2;have HEL2:=ZZY hel2;have HRL2:=ZZY hrl2;have HD:=ZZY hD;have HST2:=ZZY hst2;have HRJ:=ZZY hRj;have HSJ:=ZZY hSj;have HTJ:=ZZY hTj;have HGJ:=ZZY hGj
               have HO3:=ZZY (ZC3 hown2)
               clear hown2 hel2 hrl2 hD hst2 hRj hSj hTj hGj hx8 hA8
               go_wp2
               go_region_law (first
                |(refine ZA1 _ rfl _ _ 52 rfl (WS.heap.size+1) 3 i1 (.int .i64 0) 1 8 Tryz.underlying52 hj0 hj1 hj2 hj3 rfl (by decide) (.slice oa om oc) j cs2 (by simp [Act.eval]) ho8 (some ⟨w8.heap.size,0,none⟩) 1 1 [.int .i64 (b8:Int)] (by simp [Act.eval]) ⟨rfl,.inr ⟨_,rfl,ZBC _ [_] _⟩⟩ (by simp [Value.oneCell']) (by unfold maxLen;omega) (by omega) (by simp;omega) ?_;intro v9 w9 hown9 hgr9 hat9;obtain ⟨a9,m9,c9,rfl⟩:=ZCc hown9;have hz9:CA w9 WS.heap.size 54 _:=(hgr9.block _ (by have:=ZC2 hz85;omega) (fun e=>by have:=(HO3.out _ e.symm).2;omega)).trans hz85;have y99:=ZAK hz9 9 _ rfl;have f99:=ZAM hz9 9)
                |(go_simp;go_wp2_with (go_at_call 30;(with_reducible refine (HD.out _ (ZA6 HRJ.out (ZCb _))).mono ?_);rintro e w8 ⟨rfl,hR8,hg8⟩;have hs8:wr.heap.size≤w8.heap.size:=hg8.size;have hs8d:=hg8.size;have hz84:=ZAT (show CA wr.drew WS.heap.size 54 _ from HSJ.out) hg8 hpB;have y49:=ZAK hz84 9 _ rfl;have f49:=ZAM hz84 9;have hz85:=ZA4 hz84 ((Below.refl _ w8).alloc (Nat.le_refl _) (.cells #[.int .i64 (b8:Int)] 3));have y59:=ZAK hz85 9 _ rfl;have f59:=ZAM hz85 9;have ho8:(w8.alloc (.cells #[.int .i64 (b8:Int)] 3)).ownsRow (WS.heap.size+1) 3 1 (.slice oa om oc) j cs2:=ZBb (show wr.drew.ownsRow _ _ _ _ _ _ from HOW2.out) (fun b b1 b2=>(Below.heap_alloc w8 _ b (by omega)).trans (hg8.block b b2 (by simp;omega))))))
               all_goals (
                have hsz9:=hgr9.size
                rw [World.size_alloc] at hsz9
                have hA9:=(Below.refl _ w8).alloc (Nat.le_refl _) (.cells #[.int .i64 (b8:Int)] 3)
                have hR9:=ZDX (ZA6 hR8 hA9) hgr9 (fun g e=>by have:=(HO3.out g e).2;omega)
                have hG8:=ZAC (ZAC HGJ.out (ZAZ (ZCb wr) _)) hg8
                have hG9:=ZDM (ZAX hG8 (.cells #[.int .i64 (b8:Int)] 3)) hgr9 (fun g e=>by have:=(HO3.out g e).2;omega)
                have hT9:CA w9 W1.heap.size 40 #[.string nm,.slice a m c,.slice ta tm tc]:=(hgr9.block _ (by rw [World.size_alloc];omega) (fun e=>by have:=(HO3.out _ e.symm).2;omega)).trans (ZA4 (ZAT (show CA wr.drew W1.heap.size 40 _ from HTJ.out) hg8 hpb) hA9)
                have hlen9:(ZS ++ [((b8:Nat):Int)]).length=j+1:=by rw [List.length_append,HRL2.out];rfl
                have hel9:=ZC4 (P:=IsI1) (n:=1) (p:=p) (cs:=cs2) (ys:=ZS) (ds:=[.int .i64 (b8:Int)]) (w0:=wr.drew) (w4:=w8) (w6:=w9) (v':=.slice a9 m9 c9) (y:=((b8:Nat):Int)) (show wr.drew.ownsRow _ _ _ (.slice oa om oc) ZS.length cs2 by rw [HRL2.out];exact HOW2.out) HEL2.out (by omega) hbw hg8 (fun W' _=>⟨rfl,by omega,by omega⟩) rfl hA9 hgr9 hat9
                have hrow9:GRow IsI1 1 3 (WS.heap.size+1) w9 (.slice a9 m9 c9) (ZS ++ [((b8:Nat):Int)]):=⟨_,by rw [hlen9];exact hown9,hel9⟩
                go_wp2
                go_roundw
                case rel=>exact ⟨j+1,by omega,by omega,by go_num,by rw [HST2.out];exact ZBE hR9 hpB _ _,ZAc hG9 (Nat.le_refl _) _ _,a9,m9,c9,ZAv hz9 9 _,ZBr hT9 (show W1.heap.size≠WS.heap.size by omega) _ _,by rw [HST2.out];exact ZEK hrow9 (by simp) (fun b b1 b2=>Below.heap_setCell _ _ _ b (by show b≠WS.heap.size;omega))⟩
                case measure=>
                 have e:(intOf (.int .i64 ((j:Int)+1))).toNat=j+1:=by simp only [intOf];omega
                 have e':(intOf (.int .i64 (j:Int))).toNat=j:=by simp only [intOf];omega
                 first | (rw [e,e'];omega) | (simp [intOf];omega))
              ·obtain rfl:j=min M5 9:=by omega
               rcases Nat.lt_or_ge (min M5 9) M5 with h1 | h1
               ·have c1:decide (min M5 9<M5)=true:=by simp;omega
                have c2:decide (((min M5 9:Nat):Int)<(9:Int))=false:=by simp;omega
                go_wp2_with fail
                go_meet
                exact ⟨by rw [hsj];exact hRj,hGj,oa,om,oc,hSj,hTj,hrj⟩
               ·have c1:decide (min M5 9<M5)=false:=by simp;omega
                go_wp2_with fail
                go_meet
                exact ⟨by rw [hsj];exact hRj,hGj,oa,om,oc,hSj,hTj,hrj⟩
           case rest=>
            obtain ⟨hR9,hG9,oa,om,oc,hS9,hT9,hrow9⟩:=hcut
            obtain ⟨oa',oc',he9,hI9,hrw9⟩:=ZHx hrow9
            simp only [Value.slice.injEq] at he9
            obtain ⟨rfl,rfl,rfl⟩:=he9
            generalize hLL:(Rg.gRep Rg.gOne (min M5 9) s7).1=LL at *
            obtain ⟨⟨xb0,xb1,xb2,xb3,xb4,xb5,xb6,xb7,xb8,xb9⟩,-⟩:=boxJ10 hS9
            have za0:=ZAK hT9 0 _ rfl
            have za1:=ZAK hT9 1 _ rfl
            have za2:=ZAK hT9 2 _ rfl
            have va2:=ZAM hT9 2
            have hF9:ZEB ZA3 WS.heap.size wc ⟨(kd:Int),0,Rg.z7,LL⟩ (.agg #[.int .i64 (kd:Int),.int .i64 0,.string ⟨#[]⟩,.int .i64 0,.bool false,.int .i64 0,.int .i64 0,.string ⟨#[]⟩,.slice none 0 0,.slice oa LL.length oc]):=fun W' h9=>isStepJ5 ⟨by omega,by omega⟩ (hrw9 W' (fun b b1 b2=>h9 b (by omega) b2)) hI9
            have hVs:wc.heap.size=wc.heap.size:=by simp
            have hVw:=hG9.size
            have hown5:(wc.alloc (.cells #[.int .i64 (kd:Int),.int .i64 0,.string ⟨#[]⟩,.int .i64 0,.bool false,.int .i64 0,.int .i64 0,.string ⟨#[]⟩,.slice none 0 0,.slice oa LL.length oc] 54)).ownsRow WC.heap.size 54 10 (.slice ta tm tc) k cs:=ZBb HOW.out (fun b b1 b2=>(Below.heap_alloc _ _ b (by omega)).trans (hG9.block b b2 (by simp;omega)))
            go_wp2_with (first
             |(at_builtin;refine ZAj _ rfl _ _ 38 rfl WC.heap.size 54 i0 (.agg #[.int .i64 0,.int .i64 0,.string ⟨#[]⟩,.int .i64 0,.bool false,.int .i64 0,.int .i64 0,.string ⟨#[]⟩,.slice none 0 0,.slice none 0 0]) 10 128 Tryz.underlying38 hi hi0 hi1 hi2 rfl (by decide) (.slice ta tm tc) k cs rfl hown5 (some ⟨wc.heap.size,0,none⟩) 1 1 [.int .i64 (kd:Int),.int .i64 0,.string ⟨#[]⟩,.int .i64 0,.bool false,.int .i64 0,.int .i64 0,.string ⟨#[]⟩,.slice none 0 0,.slice oa LL.length oc] rfl ⟨rfl,.inr ⟨_,rfl,ZCN hVs [.int .i64 (kd:Int),.int .i64 0,.string ⟨#[]⟩,.int .i64 0,.bool false,.int .i64 0,.int .i64 0,.string ⟨#[]⟩,.slice none 0 0,.slice oa LL.length oc] _⟩⟩ (by simp [Value.oneCell']) (by unfold maxLen;omega) (by omega) (by rw [World.size_alloc];omega) ?_;intro v6 w6 hown6 hgr6 hat6;obtain ⟨a6,m6,c6,rfl⟩:=ZCc hown6;have hz6:CA w6 W1.heap.size 40 _:=(hgr6.block _ (by rw [World.size_alloc];omega) (fun e=>by have:=(HO2.out _ e.symm).2;omega)).trans (ZA4 hT9 ((Below.refl _ _).alloc (Nat.le_refl _) _));have u0:=ZAK hz6 0 _ rfl;have u1:=ZAK hz6 1 _ rfl;have u2:=ZAK hz6 2 _ rfl;have u3:=ZAM hz6 2))
            have hend:=ZCz (wch:=fun b=>WC.heap[b]?) (y:=⟨(kd:Int),0,Rg.z7,LL⟩) hpb hwc rfl hsk9 HG.out hG9 hR9 hT9 HKP.out HRL.out HOW.out HEL.out hF9 rfl hown6 hgr6 hat6
            go_roundw
            case rel=>exact ⟨k+1,by omega,by omega,by go_num,by rw [HST.out];exact hend.1,hend.2.1,hend.2.2.1,hend.2.2.2.1,a6,m6,c6,hend.2.2.2.2.1,by rw [HST.out];exact hend.2.2.2.2.2⟩
            case measure=>
             have e:(intOf (.int .i64 ((k:Int)+1))).toNat=k+1:=by simp only [intOf];omega
             have e':(intOf (.int .i64 (k:Int))).toNat=k:=by simp only [intOf];omega
             first | (rw [e,e'];omega) | (simp [intOf];omega)
          have e1:((kd:Int) == 1)=false:=by rw [beq_eq_false_iff_ne];omega
          have e3:((kd:Int) == 3)=false:=by rw [beq_eq_false_iff_ne];omega
          have e4:((kd:Int) == 4)=false:=by rw [beq_eq_false_iff_ne];omega
          have e5:((kd:Int) == 5)=false:=by rw [beq_eq_false_iff_ne];omega
          have hgs:Rg.gStep1 kd s6=(⟨kd,0,Rg.z7,[]⟩,s6):=by unfold Rg.gStep1;rw [if_neg hk1,if_neg hk2,if_neg hk3,if_neg hk4,if_neg hk5]
          rw [hgs] at HST
          rcases Nat.lt_or_ge 1 kd with h9 | h9
          ·have b1:decide ((1:Int)<(kd:Int))=true:=by simp;omega
           have b2:decide ((kd:Int)<5)=false:=by simp;omega
           go_upto_region 33 with (first
            |(go_at_call 30;(with_reducible refine (HBY.out _ hR3').mono ?_);rintro e w4 ⟨rfl,hR4,hg4⟩;have hS4:=ZAT hS3 hg4 hpB;have hT4:=ZAT hT3 hg4 hpb;have hG4':=ZAC hG3' hg4;have y0:=ZAK hS4 0 _ rfl;have f0:=ZAM hS4 0;have hS5:=ZAv hS4 0 (.int .i64 (kd:Int));have hT5:=ZBr hT4 (show W1.heap.size≠wr.heap.size by omega) 0 (.int .i64 (kd:Int));have hR5:=ZBE hR4 hpB 0 (.int .i64 (kd:Int));have hG5':=ZAc hG4' (Nat.le_refl wr.heap.size) 0 (.int .i64 (kd:Int));obtain ⟨⟨x0,x1,x2,x3,x4,x5,x6,x7,x8,x9⟩,g0,g1,g2,g3,g4,g5,g6,g7,g8,g9⟩:=boxJ10 hS5;have z0:=ZAK hT5 0 _ rfl;have z1:=ZAK hT5 1 _ rfl;have z2:=ZAK hT5 2 _ rfl;have v2:=ZAM hT5 2))
           have hVs:(w4.setCell ⟨wr.heap.size,0,none⟩ (.int .i64 (kd:Int))).heap.size=w4.heap.size:=by simp
           have hVw:=hG5'.size
           have hown5:((w4.setCell ⟨wr.heap.size,0,none⟩ (.int .i64 (kd:Int))).alloc (.cells #[.int .i64 (kd:Int),.int .i64 0,.string ⟨#[]⟩,.int .i64 0,.bool false,.int .i64 0,.int .i64 0,.string ⟨#[]⟩,.slice none 0 0,.slice none 0 0] 54)).ownsRow wc.heap.size 54 10 (.slice ta tm tc) k cs:=ZBb HOW.out (fun b b1 b2=>(Below.heap_alloc _ _ b (by omega)).trans (hG5'.block b b2 (by simp;omega)))
           go_wp2_with (first
            |(at_builtin;refine ZAj _ rfl _ _ 38 rfl wc.heap.size 54 i0 (.agg #[.int .i64 0,.int .i64 0,.string ⟨#[]⟩,.int .i64 0,.bool false,.int .i64 0,.int .i64 0,.string ⟨#[]⟩,.slice none 0 0,.slice none 0 0]) 10 128 Tryz.underlying38 hi hi0 hi1 hi2 rfl (by decide) (.slice ta tm tc) k cs rfl hown5 (some ⟨w4.heap.size,0,none⟩) 1 1 [.int .i64 (kd:Int),.int .i64 0,.string ⟨#[]⟩,.int .i64 0,.bool false,.int .i64 0,.int .i64 0,.string ⟨#[]⟩,.slice none 0 0,.slice none 0 0] rfl ⟨rfl,.inr ⟨_,rfl,ZCN hVs [.int .i64 (kd:Int),.int .i64 0,.string ⟨#[]⟩,.int .i64 0,.bool false,.int .i64 0,.int .i64 0,.string ⟨#[]⟩,.slice none 0 0,.slice none 0 0] _⟩⟩ (by simp [Value.oneCell']) (by unfold maxLen;omega) (by omega) (by rw [World.size_alloc];omega) ?_;intro v6 w6 hown6 hgr6 hat6;obtain ⟨a6,m6,c6,rfl⟩:=ZCc hown6;have hz6:CA w6 W1.heap.size 40 _:=(hgr6.block _ (by rw [World.size_alloc];omega) (fun e=>by have:=(HO2.out _ e.symm).2;omega)).trans (ZA4 hT5 ((Below.refl _ _).alloc (Nat.le_refl _) _));have u0:=ZAK hz6 0 _ rfl;have u1:=ZAK hz6 1 _ rfl;have u2:=ZAK hz6 2 _ rfl;have u3:=ZAM hz6 2))
           have hend:=ZCz (wch:=fun b=>wc.heap[b]?) (y:=⟨kd,0,Rg.z7,[]⟩) hpb hwc rfl hsk9 HG.out hG5' hR5 hT5 HKP.out HRL.out HOW.out HEL.out (fun W' _=>isStepJ W' kd 0 ⟨#[]⟩ 0 ⟨by omega,by omega⟩ ⟨by omega,by omega⟩ ⟨by omega,by omega⟩ (by unfold maxLen;decide)) rfl hown6 hgr6 hat6
           go_roundw
           case rel=>exact ⟨k+1,by omega,by omega,by go_num,by rw [HST.out];exact hend.1,hend.2.1,hend.2.2.1,hend.2.2.2.1,a6,m6,c6,hend.2.2.2.2.1,by rw [HST.out];exact hend.2.2.2.2.2⟩
           case measure=>
            have e:(intOf (.int .i64 ((k:Int)+1))).toNat=k+1:=by simp only [intOf];omega
            have e':(intOf (.int .i64 (k:Int))).toNat=k:=by simp only [intOf];omega
            first | (rw [e,e'];omega) | (simp [intOf];omega)
          ·have b1:decide ((1:Int)<(kd:Int))=false:=by simp;omega
           go_upto_region 33 with (first
            |(go_at_call 30;(with_reducible refine (HBY.out _ hR3').mono ?_);rintro e w4 ⟨rfl,hR4,hg4⟩;have hS4:=ZAT hS3 hg4 hpB;have hT4:=ZAT hT3 hg4 hpb;have hG4':=ZAC hG3' hg4;have y0:=ZAK hS4 0 _ rfl;have f0:=ZAM hS4 0;have hS5:=ZAv hS4 0 (.int .i64 (kd:Int));have hT5:=ZBr hT4 (show W1.heap.size≠wr.heap.size by omega) 0 (.int .i64 (kd:Int));have hR5:=ZBE hR4 hpB 0 (.int .i64 (kd:Int));have hG5':=ZAc hG4' (Nat.le_refl wr.heap.size) 0 (.int .i64 (kd:Int));obtain ⟨⟨x0,x1,x2,x3,x4,x5,x6,x7,x8,x9⟩,g0,g1,g2,g3,g4,g5,g6,g7,g8,g9⟩:=boxJ10 hS5;have z0:=ZAK hT5 0 _ rfl;have z1:=ZAK hT5 1 _ rfl;have z2:=ZAK hT5 2 _ rfl;have v2:=ZAM hT5 2))
           have hVs:(w4.setCell ⟨wr.heap.size,0,none⟩ (.int .i64 (kd:Int))).heap.size=w4.heap.size:=by simp
           have hVw:=hG5'.size
           have hown5:((w4.setCell ⟨wr.heap.size,0,none⟩ (.int .i64 (kd:Int))).alloc (.cells #[.int .i64 (kd:Int),.int .i64 0,.string ⟨#[]⟩,.int .i64 0,.bool false,.int .i64 0,.int .i64 0,.string ⟨#[]⟩,.slice none 0 0,.slice none 0 0] 54)).ownsRow wc.heap.size 54 10 (.slice ta tm tc) k cs:=ZBb HOW.out (fun b b1 b2=>(Below.heap_alloc _ _ b (by omega)).trans (hG5'.block b b2 (by simp;omega)))
           go_wp2_with (first
            |(at_builtin;refine ZAj _ rfl _ _ 38 rfl wc.heap.size 54 i0 (.agg #[.int .i64 0,.int .i64 0,.string ⟨#[]⟩,.int .i64 0,.bool false,.int .i64 0,.int .i64 0,.string ⟨#[]⟩,.slice none 0 0,.slice none 0 0]) 10 128 Tryz.underlying38 hi hi0 hi1 hi2 rfl (by decide) (.slice ta tm tc) k cs rfl hown5 (some ⟨w4.heap.size,0,none⟩) 1 1 [.int .i64 (kd:Int),.int .i64 0,.string ⟨#[]⟩,.int .i64 0,.bool false,.int .i64 0,.int .i64 0,.string ⟨#[]⟩,.slice none 0 0,.slice none 0 0] rfl ⟨rfl,.inr ⟨_,rfl,ZCN hVs [.int .i64 (kd:Int),.int .i64 0,.string ⟨#[]⟩,.int .i64 0,.bool false,.int .i64 0,.int .i64 0,.string ⟨#[]⟩,.slice none 0 0,.slice none 0 0] _⟩⟩ (by simp [Value.oneCell']) (by unfold maxLen;omega) (by omega) (by rw [World.size_alloc];omega) ?_;intro v6 w6 hown6 hgr6 hat6;obtain ⟨a6,m6,c6,rfl⟩:=ZCc hown6;have hz6:CA w6 W1.heap.size 40 _:=(hgr6.block _ (by rw [World.size_alloc];omega) (fun e=>by have:=(HO2.out _ e.symm).2;omega)).trans (ZA4 hT5 ((Below.refl _ _).alloc (Nat.le_refl _) _));have u0:=ZAK hz6 0 _ rfl;have u1:=ZAK hz6 1 _ rfl;have u2:=ZAK hz6 2 _ rfl;have u3:=ZAM hz6 2))
           have hend:=ZCz (wch:=fun b=>wc.heap[b]?) (y:=⟨kd,0,Rg.z7,[]⟩) hpb hwc rfl hsk9 HG.out hG5' hR5 hT5 HKP.out HRL.out HOW.out HEL.out (fun W' _=>isStepJ W' kd 0 ⟨#[]⟩ 0 ⟨by omega,by omega⟩ ⟨by omega,by omega⟩ ⟨by omega,by omega⟩ (by unfold maxLen;decide)) rfl hown6 hgr6 hat6
           go_roundw
           case rel=>exact ⟨k+1,by omega,by omega,by go_num,by rw [HST.out];exact hend.1,hend.2.1,hend.2.2.1,hend.2.2.2.1,a6,m6,c6,hend.2.2.2.2.1,by rw [HST.out];exact hend.2.2.2.2.2⟩
           case measure=>
            have e:(intOf (.int .i64 ((k:Int)+1))).toNat=k+1:=by simp only [intOf];omega
            have e':(intOf (.int .i64 (k:Int))).toNat=k:=by simp only [intOf];omega
            first | (rw [e,e'];omega) | (simp [intOf];omega)
         ·obtain rfl:k=min M4 9:=by omega
          rcases Nat.lt_or_ge (min M4 9) M4 with h1 | h1
          ·have hd1:decide (min M4 9<M4)=true:=by simp;omega
           have hd2:decide (((min M4 9:Nat):Int)<(9:Int))=false:=by simp;omega
           go_wp2_with fail
           go_meet
           exact ⟨by rw [hsk];exact hRk,hGk,hkp,hsk9,ta,tm,tc,hzk,hrk⟩
          ·have hd1:decide (min M4 9<M4)=false:=by simp;omega
           go_wp2_with fail
           go_meet
           exact ⟨by rw [hsk];exact hRk,hGk,hkp,hsk9,ta,tm,tc,hzk,hrk⟩
      case rest=>
       obtain ⟨hR9,hG9,hk9,hs9,ta,tm,tc,hz9,hr9⟩:=hcut
       have hw1c:=ZC2 hz4
       have hS9:=ZEK HR4.out hs9 (fun b b1 b2=>hk9 b (by omega) b2)
       obtain ⟨sa9,sc9,he1,hSl⟩:=ZGK hS9
       obtain ⟨ta9,tc9,he2,hSt⟩:=ZGL hr9
       simp only [Value.slice.injEq] at he1 he2
       obtain ⟨rfl,rfl,rfl⟩:=he1
       obtain ⟨rfl,rfl,rfl⟩:=he2
       have hst1:Rg.gRep Rg.gTempl (q+1) s1=((Rg.gRep Rg.gTempl q s1).1 ++ [(Rg.gTempl (some l)).1],(Rg.gTempl (some l)).2):=by rw [Rg.gRep_succ,hst]
       rw [hst0] at hst1
       have hrl0:(Rg.gRep Rg.gTempl q s1).1.length=q:=Rg.gRep_len (by rw [hst];simp)
       obtain ⟨cs0,hown0,hel0⟩:=hrow
       obtain ⟨i2,ht0,ht1,ht2,ht3⟩:=info_parts ZKK
       clear hst hst0
       generalize (Rg.gRep Rg.gStep (min M4 9) s5).1=TL at *
       generalize (Rg.gRep Rg.gStep (min M4 9) s5).2=s9 at *
       generalize (Rg.gRep Rg.gTempl q s1).1=TS at *
       rw [hrl0] at hown0
       have hF9:ZEB ZA8 W1.heap.size wc ⟨nm,SL,TL⟩ (.agg #[.string nm,.slice a SL.length c,.slice ta TL.length tc]):=fun W' h9=>⟨hnm0,_,_,_,_,rfl,hSl W' (fun b b1 b2=>h9 b (by omega) b2),hSt W' (fun b b1 b2=>h9 b (by omega) b2)⟩
       have hW1s:=hG.size
       have hwcs:=hG9.size
       have hown9:(wc.alloc (.cells #[.string nm,.slice a SL.length c,.slice ta TL.length tc] 40)).ownsRow w.heap.size 40 3 u4 q cs0:=ZBb hown0 (fun b b1 b2=>(Below.heap_alloc _ _ b (by omega)).trans (hG9.block b b2 (by simp;omega)))
       have HO4:=ZZY (ZC3 hown0)
       have z0:=ZAK hz9 0 _ rfl
       have z1:=ZAK hz9 1 _ rfl
       have z2:=ZAK hz9 2 _ rfl
       have HS1:=ZZY hst1
       clear hst1
       go_wp2_with (first
        |(at_builtin;refine ZAj _ rfl _ _ 24 rfl w.heap.size 40 i2 (.agg #[.string ⟨#[]⟩,.slice none 0 0,.slice none 0 0]) 3 64 Tryz.underlying24 ht0 ht1 ht2 ht3 rfl (by decide) u4 q cs0 rfl hown9 (some ⟨wc.heap.size,0,none⟩) 1 1 [.string nm,.slice a SL.length c,.slice ta TL.length tc] rfl ⟨rfl,.inr ⟨_,rfl,ZCN rfl [.string nm,.slice a SL.length c,.slice ta TL.length tc] _⟩⟩ (by simp [Value.oneCell']) (by unfold maxLen;omega) (by omega) (by rw [World.size_alloc];omega) ?_;intro v6 w6 hown6 hgr6 hat6))
       have hA9:=(Below.refl _ wc).alloc (Nat.le_refl _) (.cells #[.string nm,.slice a SL.length c,.slice ta TL.length tc] 40)
       have hR6:=ZDX (ZA6 hR9 hA9) hgr6 (fun g e=>by have:=(HO4.out g e).2;omega)
       have hG6:=ZDM (ZAX (ZAC hG hG9) (.cells #[.string nm,.slice a SL.length c,.slice ta TL.length tc] 40)) hgr6 (fun g e=>by have:=(HO4.out g e).2;omega)
       have hlen:(TS ++ [(⟨nm,SL,TL⟩:TemplM)]).length=q+1:=by rw [List.length_append,hrl0];rfl
       have hel6:=ZC4 (P:=ZA8) (n:=3) (p:=p) (cs:=cs0) (ys:=TS) (ds:=[.string nm,.slice a SL.length c,.slice ta TL.length tc]) (w0:=W1) (w4:=wc) (w6:=w6) (v':=v6) (y:=(⟨nm,SL,TL⟩:TemplM)) (by rw [hrl0];exact hown0) hel0 hpw (by omega) hG9 hF9 rfl hA9 hgr6 hat6
       have hrow6:GRow ZA8 3 40 w.heap.size w6 v6 (TS ++ [(⟨nm,SL,TL⟩:TemplM)]):=⟨_,by rw [hlen];exact hown6,hel6⟩
       go_roundw
       case rel=>exact ⟨q+1,by omega,by omega,by go_num,by rw [HS1.out];exact hR6,hG6,by rw [HS1.out];exact hrow6⟩
       case measure=>
        have e:(intOf (.int .i64 ((q:Int)+1))).toNat=q+1:=by simp only [intOf];omega
        have e':(intOf (.int .i64 (q:Int))).toNat=q:=by simp only [intOf];omega
        first | (rw [e,e'];omega) | (simp [intOf];omega)
    ·obtain rfl:q=min N 7:=by omega
     rcases Nat.lt_or_ge (min N 7) N with h1 | h1
     ·have hd1:decide (min N 7<N)=true:=by simp;omega
      have hd2:decide (((min N 7:Nat):Int)<(7:Int))=false:=by simp;omega
      go_wp2_with fail
      go_meet
      exact ⟨by rw [hst];exact hR,hG,hrow⟩
     ·have hd1:decide (min N 7<N)=false:=by simp;omega
      go_wp2_with fail
      go_meet
      exact ⟨by rw [hst];exact hR,hG,hrow⟩
 case rest=>
  obtain ⟨hR9,hG9,hrow9⟩:=hcut
  have hwd:∀ t∈(Rg.gRep Rg.gTempl (min N 7) s1).1,wideT t=false:=fun t ht=>by
   have hm:=(Rg.gReg_meek s).2 t (by rw [hreg];exact ht)
   obtain ⟨i,hi⟩:=List.getElem?_of_mem ht
   obtain ⟨a',cap',e',_,_,h3⟩:=ZDT hrow9 (W':=wc) (fun _ _ _=>rfl)
   rcases h3 with h3 | ⟨b,_,hc⟩
   ·rw [h3] at ht;simp at ht
   ·obtain ⟨ds,_,_,hP⟩:=hc i t hi
    first | exact wide_meek hm hP | exact Rg.wide_meek hm hP
  obtain ⟨ra,rc,he9,hTr⟩:=ZFb hrow9
  subst he9
  have hRt:=hRD ra rc _ wc (hTr wc (fun _ _ _=>rfl)) hwd
  have hread:Rg.gRead s=if (Rg.gRep Rg.gTempl (min N 7) s1).2.isNone=true∨Rg.right (Rg.gRep Rg.gTempl (min N 7) s1).1=false then none else some (Rg.gRep Rg.gTempl (min N 7) s1).1:=by unfold Rg.gRead;rw [hreg]
  obtain ⟨_,_,k5,hk5,hA5,hx5⟩:=id hR9
  obtain ⟨⟨m0,m1,m2⟩,n0,n1,n2⟩:=ZBD hA5
  have HRE:=ZZY hread
  have HRG:=ZZY hreg
  clear hread hreg hwd hrow9
  generalize Rg.gRep Rg.gTempl (min N 7) s1=rG at *
  obtain ⟨LT,sT⟩:=rG
  simp only at hR9 hTr hRt m2 ⊢
  cases sT with
  |none=>
   simp only [Option.isNone_none] at m2
   clear hRt
   go_wp2_with fail
   refine bodyPost_ret (results_tmp2 rfl _ _ _) rfl ?_
   unfold ZEI
   rw [HRE.out,HRG.out]
   exact ⟨none,0,0,by simp,fun _=>⟨rfl,rfl⟩,fun ys h=>by simp at h,hR9,hG9⟩
  |some lT=>
   simp only [Option.isNone_some] at m2
   have HRt:=ZZY hRt
   clear hRt
   cases hr9:Rg.right LT with
   |false=>
    rw [hr9] at HRt
    go_wp2_with (go_at_call 31;(with_reducible refine HRt.out.mono ?_);rintro e w9 ⟨rfl,hb9⟩)
    refine bodyPost_ret (results_tmp2 rfl _ _ _) rfl ?_
    unfold ZEI
    rw [HRE.out,HRG.out,hr9]
    exact ⟨none,0,0,by simp,fun _=>⟨rfl,rfl⟩,fun ys h=>by simp at h,ZA6 hR9 hb9,ZAC hG9 (ZAZ hb9 _)⟩
   |true=>
    rw [hr9] at HRt
    go_wp2_with (go_at_call 31;(with_reducible refine HRt.out.mono ?_);rintro e w9 ⟨rfl,hb9⟩)
    refine bodyPost_ret (results_tmp2 rfl _ _ _) rfl ?_
    unfold ZEI
    rw [HRE.out,HRG.out,hr9]
    exact ⟨ra,LT.length,rc,by simp,fun h=>by simp at h,fun ys h=>by
     simp at h
     subst h
     exact ⟨rfl,fun W' hW=>hTr W' (fun b b1 b2=>(hW b b1 (by have:=hb9.size;omega)).trans (hb9.block b b2))⟩,ZA6 hR9 hb9,ZAC hG9 (ZAZ hb9 _)⟩
