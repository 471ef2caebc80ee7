/- The document's step of layer 10: a slot's kinds widened. -/
import Derived.Test.YtcjdfdfphbckaaaGreatMh39Regi
import Derived.Test.YtcjdfdfphbckaaaGreatMh2Regi
import Derived.Test.YtcjdfdfphbckaaaGreatMh3Regi
import Derived.Test.YtcjdfdfphbckaaaGreatMh16Regi
set_option linter.unusedVariables false
set_option linter.unusedSimpArgs false
set_option maxRecDepth 100000
set_option maxHeartbeats 64000000
open Go.Proofs.Tryz
namespace Go.Proofs.YtcjdfdfphbckaaaGreat
open Go.RowKit Go.Shelf
def widF (a b:Nat):Nat→Nat × Bool
 | 0=>(a,false)
 |k+1=>if Sc.has b k && !Sc.has (widF a b k).1 k then ((widF a b k).1+2 ^ k,true) else widF a b k
theorem ZPN:∀ a<64,∀ b<64,widF a b 6=(a ||| b,decide ((a ||| b)≠a)):=by decide +kernel
theorem ZNY:∀ a<64,∀ b<64,∀ k<7,(widF a b k).1<128:=by decide +kernel
theorem ZEv {w0 w V:World} {x:Sc.Ver} {b6:Nat} {o0 o1:Value} {st:Array Value} {a a':Option Addr} {cp cp' k:Nat} (h:ZDf w0 w V x b6 o0 o1 st (.slice a x.slots.length cp) (.slice a' x.cols.length cp')) (hk:k<x.cols.length) (hinx:∀ c∈x.cols,c<x.slots.length) (ty:Int) (hty:I64 ty) :
  ∃ g g' c,∃ s:SlotM,x.cols[k]? = some c∧x.slots[c]? = some s∧c<x.slots.length∧a=some ⟨g,0,none⟩∧a'=some ⟨g',0,none⟩∧V.cell? ⟨g',k,none⟩=some (.int .i64 (c:Int))∧(V.cell? ⟨g,c*7+1,none⟩=some (.int .i64 s.ty)∧V.frozen? ⟨g,c*7+1,none⟩=false) ∧
   ZDf w0 w (V.setCell ⟨g,c*7+1,none⟩ (.int .i64 ty)) ⟨x.slots.modify c (fun t=>Sc.setTy t ty),x.cols⟩ b6 o0 o1 st (.slice a x.slots.length cp) (.slice a' x.cols.length cp'):=by
 obtain ⟨g0,g1,g2,g3,g4,⟨cs,p1,p2,p3,p4⟩,h1,h2,h3⟩:=h
 obtain ⟨c,hc⟩:∃ c,x.cols[k]? = some c:=⟨x.cols[k],List.getElem?_eq_getElem hk⟩
 have hcl:=hinx c (List.mem_of_getElem? hc)
 obtain ⟨g',e2,q2,_,_⟩:=ZCv (j:=k) (u:=.int .i64 (c:Int)) p3 (by rw [List.getElem?_map,List.getElem?_map,hc];rfl)
 obtain ⟨s,hs⟩:∃ s,x.slots[c]? = some s:=⟨x.slots[c],List.getElem?_eq_getElem hcl⟩
 obtain ⟨_,c1,_,_,_,_,_,⟨_,u1,_⟩,h7⟩:=p2.2.2 c s hs
 obtain ⟨_,_,_,rfl,_⟩:=h7
 obtain ⟨g,e1,q1,f1,hg⟩:=ZCv p1 u1
 subst e1 e2
 have kg:=ZAJ V g (c*7+1) (.int .i64 ty)
 have hg6:g<b6:=h2 g rfl
 have far:∀ b o,b≠g→V.heap[b]? = some o→(V.setCell ⟨g,c*7+1,none⟩ (.int .i64 ty)).heap[b]? = some o:=fun b o hne hb=>(kg.block b (ZZZ hb).1 (fun e=>by injection e with e;omega)).trans hb
 refine ⟨g,g',c,s,hc,hs,hcl,rfl,rfl,q2,⟨q1,f1⟩,far _ _ (by omega) g0,far _ _ (by omega) g1,far _ _ (by omega) g2,far _ _ (by omega) g3,ZAE g4 kg (fun b e=>by injection e with e;omega) g4.size,⟨cs.set (c*7+1) (.int .i64 ty), ?_,ZE7 p2 c ty hty, ?_,p4⟩,h1,h2,h3⟩
 ·have:=ZHP (c:=.int .i64 ty) p1 (g:=g) rfl (show c*7+1<x.slots.length*7 by omega)
  simpa using this
 ·exact ZAN p3 kg (fun b e1 e2=>by cases e1;exact p4 g rfl e2)
theorem ZCw {w0 w V:World} {x:Sc.Ver} {b6:Nat} {o0 o1 s6 c6:Value} {st:Array Value} (h:ZDf w0 w V x b6 o0 o1 st s6 c6) (n:Nat):ZDf w0 w (V.drewN n) x b6 o0 o1 st s6 c6:=ZAl h (ZAh (Below.refl _ _) n)
theorem ZHU (x:Sc.Ver) (s:StepM) (sa:Option Addr) (sc:Nat) (ca:Option Addr) (cc:Nat) (w0 w:World) (T:Value) (hsl:x.slots.length≤100000) (hcl:x.cols.length≤100000) (hv:ZBq w0 w x sa sc ca cc) (hs0:ZBS w0 s T) (h0:Below w0.heap.size w0 w) (hk:s.kd=4) (hin:0≤s.col∧s.col<x.cols.length) (hre:Sc.rest s=true) (hinx:∀ c∈x.cols,c<x.slots.length) (hok:∀ t∈x.slots,1≤t.ty∧t.ty≤63) (hty:1≤s.sl.ty∧s.sl.ty≤63)
  (hmore:(Sc.slotOf x (x.cols[s.col.toNat]?.getD 0)).ty.toNat ||| s.sl.ty.toNat≠(Sc.slotOf x (x.cols[s.col.toNat]?.getD 0)).ty.toNat) :
  Calls Tryz.prog 103 #[.agg #[.slice sa x.slots.length sc,.slice ca x.cols.length cc],T] w (ZAo w0 w x s):=by
 have hs:=ZAP h0 hs0
 have hC:=fun W (hb:Below w.heap.size w W)=>ZA2 x sa sc ca cc w0 w W hsl hcl hv hb
 have hR:=fun W (hb:Below w.heap.size w W)=>ZA0 s W T (ZAP hb hs)
 rw [hre] at hR
 obtain ⟨kd,col,sl,od⟩:=s
 obtain ⟨q2,q3,q4,q5,q6,q7,q8,oa,oc,rfl,hi1,hi2,h7,hod,_⟩:=hs
 simp only at hk hi1 hi2 hre hinx hin h7 hty hmore ⊢
 subst hk
 have HX:=ZZY hinx
 obtain ⟨hnm,hty2,rfl,rfl,rfl,hdf⟩:=h7
 obtain ⟨k,rfl⟩:∃ k:Nat,col=(k:Int):=⟨col.toNat,by omega⟩
 have hk1:k<x.cols.length:=by omega
 obtain ⟨b,hb⟩:∃ b:Nat,sl.ty=(b:Int):=⟨sl.ty.toNat,by omega⟩
 obtain ⟨c,hcx⟩:∃ c,x.cols[k]? = some c:=⟨x.cols[k],List.getElem?_eq_getElem hk1⟩
 have hcl9:=hinx c (List.mem_of_getElem? hcx)
 obtain ⟨so,hso⟩:∃ so,x.slots[c]? = some so:=⟨x.slots[c],List.getElem?_eq_getElem hcl9⟩
 have hot:=hok so (List.mem_of_getElem? hso)
 obtain ⟨a,ha⟩:∃ a:Nat,so.ty=(a:Int):=⟨so.ty.toNat,by omega⟩
 have hslo:Sc.slotOf x c=so:=by unfold Sc.slotOf;rw [hso];rfl
 rw [Int.toNat_natCast,hcx,Option.getD_some,hslo,ha,hb,Int.toNat_natCast,Int.toNat_natCast] at hmore
 have ha64:a<64:=by omega
 have hb64:b<64:=by omega
 have hor:a ||| b<64:=Nat.or_lt_two_pow (n:=6) ha64 hb64
 have hno:Sc.step x ⟨4,(k:Int),sl,od⟩=some ⟨x.slots.modify c (fun t=>Sc.setTy t ((a ||| b:Nat):Int)),x.cols⟩:=by
  unfold Sc.step
  simp only
  rw [if_neg (by rw [hre];simp),if_neg (by decide),if_neg (by decide),if_neg (by omega),if_neg (by decide),if_neg (by decide),Int.toNat_natCast,hcx,Option.getD_some,hslo,ha,hb,Int.toNat_natCast,Int.toNat_natCast,if_pos ⟨by omega,by omega,hmore⟩]
 obtain ⟨Q,hQ⟩:∃ Q,ZAo w0 w x ⟨4,(k:Int),sl,od⟩=Q:=⟨_,rfl⟩
 have hq:∀ sv cv w',ZBd w.heap.size w0 w' ⟨x.slots.modify c (fun t=>Sc.setTy t ((a ||| b:Nat):Int)),x.cols⟩ sv cv→Below w.heap.size w w'→Q (.returned (.tuple #[.agg #[sv,cv],.bool true])) w':=by
  intro sv cv w' h1 h2
  rw [←hQ];unfold ZAo;rw [hno];exact ⟨⟨sv,cv,rfl,h1⟩,h2⟩
 have HQ:=ZZY hq
 clear hq
 rw [hQ]
 clear hQ hno hod
 have d4:decide ((k:Int)<0)=false:=by simp
 have d5:decide ((x.cols.length:Int)≤(k:Int))=false:=by simp;omega
 have d5n:decide (x.cols.length≤k)=false:=by simp;omega
 have d6:decide ((b:Int)<1)=false:=by simp;omega
 have d7:decide ((63:Int)<(b:Int))=false:=by simp;omega
 simp only [hb] at hR ⊢
 have hw6:=ZPN a ha64 b hb64
 have hm:decide ((a ||| b)≠a)=true:=by simpa using hmore
 rw [hm] at hw6
 have hwl:=ZNY a ha64 b hb64
 have hHas:=fun (t k:Nat) (ht:t<128) (hk:k≤100) (W:World)=>ZE1 t k (by omega) hk W
 have HHas:=ZZY hHas;have HWL:=ZZY hwl;have HW6:=ZZY hw6;have HCX:=ZZY hcx;have HSO:=ZZY hso;have HA:=ZZY ha
 clear hre hinx hHas hwl hw6 hcx hso ha hok hot hslo hm hmore hb
 have HV:=ZZY hv
 clear hv
 go_enter func103,ntmps103
 go_upto_region 23 with (first
  |(go_at_call 115;(with_reducible refine (hC _ ?_).mono ?_);rotate_left;rintro e w1 ⟨⟨sv,cv,rfl,hvo⟩,hb1⟩;obtain ⟨a6,c6,a7,c7',rfl,rfl⟩:=ZBG hvo;obtain ⟨hP,hq2,hq3⟩:=ZBP w0 w w1 x sa sc ca cc _ _ _ _ _ hb1 hvo;have HP:=ZZY hP;clear hq2 hq3 hb1;obtain ⟨_,p2,_,p4,_⟩:=hP;obtain ⟨⟨y0,y1,y2,y3,y4⟩,y5,y6,y7,y8,y9⟩:=ZAS p2)
  |(go_at_call 116;(with_reducible refine (hR _ (ZAa HP.out)).mono ?_);rintro e w2 ⟨rfl,hb2⟩;have HP2:=ZZY (ZAl HP.out hb2);clear hb2;have hP2:=HP2.out;obtain ⟨_,p2',p3,p4',_⟩:=hP2;obtain ⟨⟨z0,z1,z2,z3,z4⟩,z5,z6,z7,z8,z9⟩:=ZAS p2';obtain ⟨r0,r1,r2,r3⟩:=ZAD p3;obtain ⟨x0,x1,x2,x3⟩:=ZAD p4'))
 ·have HPd:=HP2.out
  obtain ⟨g,g',c',s',hc,hs',hcl,rfl,rfl,e2,⟨e1,f1⟩,hPn⟩:=ZEv HPd hk1 HX.out ((a ||| b:Nat):Int) (by unfold I64;omega)
  obtain rfl:c'=c:=by have:=HCX.out;rw [hc] at this;exact Option.some.inj this
  obtain rfl:s'=so:=by have:=HSO.out;rw [hs'] at this;exact Option.some.inj this
  rw [HA.out] at e1
  have HPn:=ZZY hPn
  clear hc hs' hPn
  go_region
  go_wp2
  go_loopw [7,8,9,10] (fun ty bit more i wr=>∃ j nq:Nat,j≤6∧i=.int .i64 (j:Int)∧ty=.int .i64 (((widF a b j).1:Nat):Int)∧bit=.int .i64 ((2 ^ j:Nat):Int)∧more=.bool (widF a b j).2∧wr=w2.drewN nq) (fun _ _ _ i _=>6-(intOf i).toNat)
  case atStart=>exact ⟨0,1,by omega,rfl,rfl,rfl,rfl,rfl⟩
  case round=>
   obtain ⟨j,nq,hj,rfl,rfl,rfl,rfl,rfl⟩:=hrel
   rcases Nat.lt_or_ge j 6 with hlt | hge
   ·have hdj:decide ((j:Int)<6)=true:=by simp;omega
    have ht128:=HWL.out j (by omega)
    have hH1:=HHas.out b j (by omega) (by omega)
    have hH2:=HHas.out (widF a b j).1 j ht128 (by omega)
    have hst:widF a b (j+1)=if Sc.has b j && !Sc.has (widF a b j).1 j then ((widF a b j).1+2 ^ j,true) else widF a b j:=rfl
    have hp:2 ^ j≤64:=by
     have:2 ^ j≤2 ^ 6:=Nat.pow_le_pow_right (by omega) hj
     simpa using this
    have hpp:2 ^ (j+1)=2 ^ j*2:=Nat.pow_succ 2 j
    obtain ⟨tm,htm⟩:∃ tm,widF a b j=tm:=⟨_,rfl⟩
    rw [htm] at hH2 hst ht128 ⊢
    obtain ⟨t9,m9⟩:=tm
    obtain ⟨pw,hpw⟩:∃ pw,2 ^ j=pw:=⟨_,rfl⟩
    rw [hpw] at hst hp hpp ⊢
    simp only at hH2 hst ht128 ⊢
    obtain ⟨A,hA⟩:∃ A,Sc.has b j=A:=⟨_,rfl⟩
    obtain ⟨B,hB⟩:∃ B,Sc.has t9 j=B:=⟨_,rfl⟩
    rw [hA] at hH1 hst
    rw [hB] at hH2 hst
    have hw1:IntKind.i64.wrap ((t9:Int)+(pw:Int))=((t9+pw:Nat):Int):=by rw [IntKind.wrap_i64];omega
    have hw2:IntKind.i64.wrap ((pw:Int)*2)=((pw*2:Nat):Int):=by rw [IntKind.wrap_i64];omega
    have HST:=ZZY hst;have HPP:=ZZY hpp;have HH1:=ZZY hH1;have HH2:=ZZY hH2
    clear hst hpp hH1 hH2 hA hB htm hpw
    cases A with
    |false=>
     have hs2:widF a b (j+1)=(t9,m9):=by rw [HST.out];rfl
     have HS2:=ZZY hs2
     clear hs2
     go_wp2_with (go_at_call 117;(with_reducible refine (HH1.out _).mono ?_);rintro e w5 ⟨rfl,rfl⟩)
     go_roundw
     case rel=>exact ⟨j+1,nq,by omega,by go_num,by rw [HS2.out]<;>first | rfl | simp only [Int.natCast_add],by rw [HPP.out];first | rfl | (go_num),by rw [HS2.out],rfl⟩
     case measure=>simp [intOf];omega
    |true=>
     cases B with
     |true=>
      have hs2:widF a b (j+1)=(t9,m9):=by rw [HST.out];rfl
      have HS2:=ZZY hs2
      clear hs2
      go_wp2_with (go_at_call 117;first | ((with_reducible refine (HH1.out _).mono ?_);rintro e w5 ⟨rfl,rfl⟩) | ((with_reducible refine (HH2.out _).mono ?_);rintro e w5 ⟨rfl,rfl⟩))
      go_roundw
      case rel=>exact ⟨j+1,nq,by omega,by go_num,by rw [HS2.out]<;>first | rfl | simp only [Int.natCast_add],by rw [HPP.out];first | rfl | (go_num),by rw [HS2.out],rfl⟩
      case measure=>simp [intOf];omega
     |false=>
      have hs2:widF a b (j+1)=(t9+pw,true):=by rw [HST.out];rfl
      have HS2:=ZZY hs2
      clear hs2
      go_wp2_with (go_at_call 117;first | ((with_reducible refine (HH1.out _).mono ?_);rintro e w5 ⟨rfl,rfl⟩) | ((with_reducible refine (HH2.out _).mono ?_);rintro e w5 ⟨rfl,rfl⟩))
      go_roundw
      case rel=>exact ⟨j+1,nq,by omega,by go_num,by rw [HS2.out]<;>first | rfl | simp only [Int.natCast_add],by rw [HPP.out];first | rfl | (go_num),by rw [HS2.out],rfl⟩
      case measure=>simp [intOf];omega
   ·obtain rfl:j=6:=by omega
    have hdj:decide ((6:Int)<6)=false:=by decide
    rw [HW6.out]
    have hPV:=ZCw HP2.out (nq+1)
    obtain ⟨g1,g1',c1,s1,hc1,hs1,hcl1,e1a,e1b,e2',⟨e1',f1'⟩,hPn'⟩:=ZEv hPV hk1 HX.out ((a ||| b:Nat):Int) (by unfold I64;omega)
    cases e1a
    cases e1b
    obtain rfl:c1=c':=by have:=HCX.out;rw [hc1] at this;exact Option.some.inj this
    have HPn':=ZZY hPn'
    have hPn9:=HPn'.out
    have HE:=ZZY (ZAu w ((w2.drewN (nq+1)).setCell ⟨g,c1*7+1,none⟩ (.int .i64 ((a ||| b:Nat):Int))) (w.heap.size+1+1) _ _ (.slice (some ⟨g,0,none⟩) x.slots.length c6) (.slice (some ⟨g',0,none⟩) x.cols.length c7') (ZAx hPn9) (ZAa hPn9) (by omega))
    obtain ⟨_,d2,_,d4',_⟩:=hPV
    obtain ⟨⟨v0,v1,v2,v3,v4⟩,_⟩:=ZAS d2
    obtain ⟨v5,v6⟩:=ZAg d4'
    obtain ⟨_,n2,n3,n4,_⟩:=hPn9
    obtain ⟨s0,s1,s2,s3⟩:=ZAD n3
    obtain ⟨s4,s5⟩:=ZAg n4
    clear hc1 d2 d4' n2 n3 n4 hPn' hs1 HWL HW6 HHas
    go_wp2_with fail
    go_region
    go_wp2
    refine bodyPost_ret (ZAR Tryz.results103 _ _ (w.heap.size+1+1) _ _ _ _ rfl HE.out.1 Tryz.underlying128 rfl (by kernel_rfl)) rfl ?_
    exact HQ.out _ _ _ (ZEX (ZFT HPn'.out)) HE.out.2
 ·exact (((Below.refl _ w).alloc (Nat.le_refl _) _).alloc (by simp) _).alloc (by simp;omega) _
open Go.RowKit Go.Shelf
def cnt9 (od:List Int) (j m:Nat):Nat:=((od.take m).filter fun y=>decide (y=(j:Int))).length
theorem ZIr {od:List Int} {j m:Nat} {y:Int} (hy:od[m]? = some y):cnt9 od j (m+1)=cnt9 od j m+if y=(j:Int) then 1 else 0:=by
 unfold cnt9
 rw [List.take_add_one,hy]
 simp only [Option.toList_some,List.filter_append,List.length_append]
 by_cases h:y=(j:Int)
 ·simp [h]
 ·simp [h]
theorem ZNZ (od:List Int) (j m:Nat):cnt9 od j m≤m:=by
 unfold cnt9
 refine Nat.le_trans (List.length_filter_le _ _) ?_
 rw [List.length_take]
 omega
theorem ZNa {od:List Int} {n j:Nat} (h:Sc.once od n=true) (hl:od.length=n) (hj:j<n):cnt9 od j n=1:=by
 unfold Sc.once at h
 rw [List.all_eq_true] at h
 have:=h j (List.mem_range.2 hj)
 unfold cnt9
 rw [List.take_of_length_le (by omega)]
 simpa using this
def mix9 (cols:List Nat) (od:List Int) (m:Nat):List Nat:=(od.take m).map (fun i=>cols[i.toNat]?.getD 0)++cols.drop m
theorem ZKF {cols:List Nat} {od:List Int} {m:Nat} (h:od.length=cols.length):(mix9 cols od m).length=cols.length:=by
 unfold mix9
 simp only [List.length_append,List.length_map,List.length_take,List.length_drop]
 omega
theorem ZNb (cols:List Nat) (od:List Int):mix9 cols od 0=cols:=by simp [mix9]
theorem ZOl {cols:List Nat} {od:List Int} (h:od.length=cols.length):mix9 cols od cols.length=od.map fun i=>cols[i.toNat]?.getD 0:=by
 unfold mix9
 rw [List.take_of_length_le (by omega),List.drop_length,List.append_nil]
theorem ZNc {cols:List Nat} {od:List Int} {m:Nat} {y:Int} (h:od.length=cols.length) (hy:od[m]? = some y):mix9 cols od (m+1)=(mix9 cols od m).set m (cols[y.toNat]?.getD 0):=by
 have hm:m<od.length:=(List.getElem?_eq_some_iff.1 hy).1
 unfold mix9
 rw [List.take_add_one,hy]
 have hlen:((od.take m).map fun i=>cols[i.toNat]?.getD 0).length=m:=by simp;omega
 rw [List.set_append_right _ _ (by omega),hlen,Nat.sub_self]
 have hd:=List.drop_eq_getElem_cons (l:=cols) (i:=m) (by omega)
 rw [hd,ZZW,Option.toList_some,List.map_append,List.append_assoc]
 rfl
theorem ZIs {w0 w V:World} {sl:List SlotM} {cl:List Nat} {b6:Nat} {o0 o1:Value} {st:Array Value} {a a':Option Addr} {n cp cp' m c:Nat} (h:ZDf w0 w V ⟨sl,cl⟩ b6 o0 o1 st (.slice a sl.length cp) (.slice a' n cp')) (hn:cl.length=n) (hm:m<n) :
  ∃ g',a'=some ⟨g',0,none⟩∧(∃ u,V.cell? ⟨g',m,none⟩=some u)∧V.frozen? ⟨g',m,none⟩=false∧ZDf w0 w (V.setCell ⟨g',m,none⟩ (.int .i64 (c:Int))) ⟨sl,cl.set m c⟩ b6 o0 o1 st (.slice a sl.length cp) (.slice a' n cp'):=by
 obtain ⟨g0,g1,g2,g3,g4,⟨cs,p1,p2,p3,p4⟩,h1,h2,h3⟩:=h
 simp only at p1 p2 p3
 obtain ⟨u,hu⟩:∃ u,((cl.map Int.ofNat).map (Value.int .i64))[m]? = some u:=⟨_,List.getElem?_eq_getElem (by simp;omega)⟩
 obtain ⟨g',e2,q2,f2,hg⟩:=ZCv p3 hu
 subst e2
 have kg:=ZAJ V g' m (.int .i64 (c:Int))
 have hg6:g'<b6:=h3 g' rfl
 have far:∀ b o,b≠g'→V.heap[b]? = some o→(V.setCell ⟨g',m,none⟩ (.int .i64 (c:Int))).heap[b]? = some o:=fun b o hne hb=>(kg.block b (ZZZ hb).1 (fun e=>by injection e with e;omega)).trans hb
 refine ⟨g',rfl,⟨u,q2⟩,f2,far _ _ (by omega) g0,far _ _ (by omega) g1,far _ _ (by omega) g2,far _ _ (by omega) g3,ZAE g4 kg (fun b e=>by injection e with e;omega) g4.size,⟨cs, ?_,p2, ?_,p4⟩,h1,h2,h3⟩
 ·exact ZAN p1 kg (fun b e1 e2=>by cases e1;exact p4 g' e2 rfl)
 ·have:=ZHP (c:=.int .i64 (c:Int)) p3 (g:=g') rfl (show m<cl.length*1 by omega)
  simp only [List.length_set]
  rw [List.map_set,List.map_set]
  exact this
theorem range9 {od:List Int} {n:Nat} (h:Sc.once od n=true) (hl:od.length=n):∀ y∈od,0≤y∧y<(n:Int):=((Sc.once_iff od n hl).1 h).1
theorem ZHV (x:Sc.Ver) (s:StepM) (sa:Option Addr) (sc:Nat) (ca:Option Addr) (cc:Nat) (w0 w:World) (T:Value) (hsl:x.slots.length≤100000) (hcl:x.cols.length≤100000) (hv:ZBq w0 w x sa sc ca cc) (hs0:ZBS w0 s T) (h0:Below w0.heap.size w0 w) (hk:s.kd=5) (hre:Sc.rest s=true) (hlen:s.od.length=x.cols.length) (hon:Sc.once s.od x.cols.length=true) :
  Calls Tryz.prog 103 #[.agg #[.slice sa x.slots.length sc,.slice ca x.cols.length cc],T] w (ZAo w0 w x s):=by
 have hs:=ZAP h0 hs0
 have hC:=fun W (hb:Below w.heap.size w W)=>ZA2 x sa sc ca cc w0 w W hsl hcl hv hb
 have hR:=fun W (hb:Below w.heap.size w W)=>ZA0 s W T (ZAP hb hs)
 rw [hre] at hR
 obtain ⟨kd,col,sl,od⟩:=s
 obtain ⟨q2,q3,q4,q5,q6,q7,q8,oa,oc,rfl,hi1,hi2,h7,hod,_⟩:=hs
 simp only at hk hi1 hi2 hre h7 hlen hon hod ⊢
 subst hk
 obtain ⟨hnm,hty2,rfl,rfl,rfl,hdf⟩:=h7
 have hno:Sc.step x ⟨5,col,sl,od⟩=some ⟨x.slots,od.map fun i=>x.cols[i.toNat]?.getD 0⟩:=by
  unfold Sc.step
  simp only
  rw [if_neg (by rw [hre];simp),if_neg (by decide),if_pos trivial,if_pos ⟨hlen,hon⟩]
 obtain ⟨Q,hQ⟩:∃ Q,ZAo w0 w x ⟨5,col,sl,od⟩=Q:=⟨_,rfl⟩
 have hq:∀ sv cv w',ZBd w.heap.size w0 w' ⟨x.slots,od.map fun i=>x.cols[i.toNat]?.getD 0⟩ sv cv→Below w.heap.size w w'→Q (.returned (.tuple #[.agg #[sv,cv],.bool true])) w':=by
  intro sv cv w' h1 h2
  rw [←hQ];unfold ZAo;rw [hno];exact ⟨⟨sv,cv,rfl,h1⟩,h2⟩
 have HQ:=ZZY hq
 clear hq
 rw [hQ]
 clear hQ hno
 have hrg:=range9 hon hlen
 rw [hlen] at hR hod ⊢
 have hne:((x.cols.length:Int) != (x.cols.length:Int))=false:=by simp
 have HON:=ZZY hon;have HLEN:=ZZY hlen;have HOD:=ZZY hod;have HRG:=ZZY hrg
 have HCL:=ZZY (ZEu hv.2)
 have HV:=ZZY hv
 clear hre hon hlen hod hrg hv
 go_enter func103,ntmps103
 go_upto_region 37 with (first
  |(go_at_call 115;(with_reducible refine (hC _ ?_).mono ?_);rotate_left;rintro e w1 ⟨⟨sv,cv,rfl,hvo⟩,hb1⟩;obtain ⟨a6,c6,a7,c7',rfl,rfl⟩:=ZBG hvo;obtain ⟨hP,hq2,hq3⟩:=ZBP w0 w w1 x sa sc ca cc _ _ _ _ _ hb1 hvo;have HP:=ZZY hP;clear hq2 hq3 hb1;obtain ⟨_,p2,_,p4,_⟩:=hP;obtain ⟨⟨y0,y1,y2,y3,y4⟩,y5,y6,y7,y8,y9⟩:=ZAS p2)
  |(go_at_call 116;(with_reducible refine (hR _ (ZAa HP.out)).mono ?_);rintro e w2 ⟨rfl,hb2⟩;have HP2:=ZZY (ZAl HP.out hb2);clear hb2;have hP2:=HP2.out;obtain ⟨p1',p2',p3,p4',_⟩:=hP2;obtain ⟨⟨z0,z1,z2,z3,z4⟩,z5,z6,z7,z8,z9⟩:=ZAS p2';obtain ⟨r0,r1,r2,r3⟩:=ZAD p3;obtain ⟨x0,x1,x2,x3⟩:=ZAD p4';have oo:=ZAg p1';obtain ⟨o0,o1⟩:=oo))
 ·have hbw:=ZAa HP2.out
  go_wp2_with fail
  go_loopw [11] (fun i wr=>∃ j nq:Nat,j≤x.cols.length∧i=.int .i64 (j:Int)∧wr=w2.drewN nq) (fun i _=>x.cols.length-(intOf i).toNat)
  case atStart=>exact ⟨0,0,by omega,rfl,rfl⟩
  case round=>
   obtain ⟨j,nq,hj,rfl,rfl⟩:=hrel
   rcases Nat.lt_or_ge j x.cols.length with hlt | hge
   ·have hdj:decide ((j:Int)<(x.cols.length:Int))=true:=by simp;omega
    have hdjn:decide (j<x.cols.length)=true:=by simp;omega
    go_upto_region 42 with fail
    go_wp2_with fail
    go_loopw [12,13] (fun c i wr=>∃ m nq:Nat,m≤x.cols.length∧i=.int .i64 (m:Int)∧c=.int .i64 ((cnt9 od j m:Nat):Int)∧wr=w2.drewN nq) (fun _ i _=>x.cols.length-(intOf i).toNat)
    case atStart=>exact ⟨0,nq,by omega,rfl,rfl,rfl⟩
    case round=>
     obtain ⟨m,nq,hm,rfl,rfl,rfl⟩:=hrel
     have hcl9:=ZNZ od j m
     rcases Nat.lt_or_ge m x.cols.length with hml | hmg
     ·have hdm:decide ((m:Int)<(x.cols.length:Int))=true:=by simp;omega
      have hdmn:decide (m<x.cols.length)=true:=by simp;omega
      have hlen9:=HLEN.out
      obtain ⟨y,hy⟩:∃ y,od[m]? = some y:=⟨od[m],List.getElem?_eq_getElem (by omega)⟩
      obtain ⟨ob,oo,rfl,hcy⟩:=ZEu HOD.out m hml
      rw [hy,Option.getD_some] at hcy
      have hcy2:=ZAA hbw hcy
      have hst:=ZIr (j:=j) hy
      by_cases hyj:y=(j:Int)
      ·subst hyj
       rw [if_pos rfl] at hst
       have hdy:((j:Int) == (j:Int))=true:=by simp
       have hwp:IntKind.i64.wrap (((cnt9 od j m:Nat):Int)+1)=((cnt9 od j m+1:Nat):Int):=by rw [IntKind.wrap_i64];omega
       have HST:=ZZY hst
       clear hst hy hlen9 hcy
       go_wp2_with fail
       go_roundw
       case rel=>exact ⟨m+1,nq,by omega,by go_num,by rw [HST.out]<;>first | rfl | simp only [Int.natCast_add]<;>rfl,rfl⟩
       case measure=>simp [intOf];omega
      ·rw [if_neg hyj,Nat.add_zero] at hst
       have hdy:(y == (j:Int))=false:=by simpa using hyj
       have HST:=ZZY hst
       clear hst hy hyj hlen9 hcy
       go_wp2_with fail
       go_roundw
       case rel=>exact ⟨m+1,nq,by omega,by go_num,by rw [HST.out]<;>rfl,rfl⟩
       case measure=>simp [intOf];omega
     ·obtain rfl:m=x.cols.length:=by omega
      have hdm:decide ((x.cols.length:Int)<(x.cols.length:Int))=false:=by simp
      have hdmn:decide (x.cols.length<x.cols.length)=false:=by simp
      rw [ZNa HON.out HLEN.out hlt]
      go_wp2_with fail
      go_roundw
      case rel=>exact ⟨j+1,nq,by omega,by go_num,rfl⟩
      case measure=>simp [intOf];omega
   ·obtain rfl:j=x.cols.length:=by omega
    have hdj:decide ((x.cols.length:Int)<(x.cols.length:Int))=false:=by simp
    have hdjn:decide (x.cols.length<x.cols.length)=false:=by simp
    have hS0:ZDf w0 w (w2.drewN nq) ⟨x.slots,mix9 x.cols od 0⟩ w1.heap.size (.slice sa x.slots.length sc) (.slice ca x.cols.length cc) #[.int .i64 5,.int .i64 col,.string sl.nm,.int .i64 sl.ty,.bool sl.rq,q5,q6,q7,q8,.slice oa x.cols.length oc] (.slice a6 x.slots.length c6) (.slice a7 x.cols.length c7'):=by rw [ZNb];exact ZCw HP2.out nq
    have HS0:=ZZY hS0
    clear hS0
    go_wp2_with fail
    go_loopw [14] (fun i wr=>∃ m:Nat,m≤x.cols.length∧i=.int .i64 (m:Int)∧ZDf w0 w wr ⟨x.slots,mix9 x.cols od m⟩ w1.heap.size (.slice sa x.slots.length sc) (.slice ca x.cols.length cc) #[.int .i64 5,.int .i64 col,.string sl.nm,.int .i64 sl.ty,.bool sl.rq,q5,q6,q7,q8,.slice oa x.cols.length oc] (.slice a6 x.slots.length c6) (.slice a7 x.cols.length c7')) (fun i _=>x.cols.length-(intOf i).toNat)
    case atStart=>exact ⟨0,by omega,rfl,HS0.out⟩
    case round=>
     obtain ⟨m,hm,rfl,hS⟩:=hrel
     obtain ⟨wj,hwj⟩:∃ x,x=wr:=⟨_,rfl⟩
     subst hwj
     have hbj:=ZAa hS
     clear z0 z1 z2 z3 z4 z5 z6 z7 z8 z9 r0 r1 r2 r3 x0 x1 x2 x3 o0 o1 p1' p2' p3 p4'
     rcases Nat.lt_or_ge m x.cols.length with hml | hmg
     ·have hdm:decide ((m:Int)<(x.cols.length:Int))=true:=by simp;omega
      have hdmn:decide (m<x.cols.length)=true:=by simp;omega
      have hlen9:=HLEN.out
      obtain ⟨y,hy⟩:∃ y,od[m]? = some y:=⟨od[m],List.getElem?_eq_getElem (by omega)⟩
      obtain ⟨ob,oo,rfl,hcy⟩:=ZEu HOD.out m hml
      rw [hy,Option.getD_some] at hcy
      have hyr:=HRG.out y (List.mem_of_getElem? hy)
      obtain ⟨yn,rfl⟩:∃ yn:Nat,y=(yn:Int):=⟨y.toNat,by omega⟩
      have hyn:yn<x.cols.length:=by omega
      obtain ⟨c,hc⟩:∃ c,x.cols[yn]? = some c:=⟨x.cols[yn],List.getElem?_eq_getElem hyn⟩
      obtain ⟨cb,co,rfl,hcc⟩:=HCL.out yn hyn
      have e0:(x.cols.map Int.ofNat)[yn]?.getD 0=(c:Int):=by rw [List.getElem?_map,hc];rfl
      rw [e0] at hcc
      have hst:=ZNc hlen9 hy
      rw [Int.toNat_natCast,hc,Option.getD_some] at hst
      obtain ⟨g',rfl,⟨u,hu⟩,hf,hS2⟩:=ZIs (c:=c) hS (ZKF hlen9) hml
      rw [←hst] at hS2
      have k1:=ZAA hbj hcy
      have k2:=ZAA hbj hcc
      obtain ⟨p1',p2',p3,p4',_⟩:=hS
      obtain ⟨⟨z0,z1,z2,z3,z4⟩,z5,z6,z7,z8,z9⟩:=ZAS p2'
      obtain ⟨x0,x1⟩:=ZAg p4'
      obtain ⟨o0,o1⟩:=ZAg p1'
      have HS2:=ZZY hS2
      clear hS2 hst e0 hy hc hlen9 hcy hcc p1' p2' p3 p4' hyr
      go_upto_region 51 with fail
      go_region
      go_wp2
      go_roundw
      case rel=>exact ⟨m+1,by omega,by go_num,ZCw HS2.out 1⟩
      case measure=>simp [intOf];omega
     ·obtain rfl:m=x.cols.length:=by omega
      have hdm:decide ((x.cols.length:Int)<(x.cols.length:Int))=false:=by simp
      have hdmn:decide (x.cols.length<x.cols.length)=false:=by simp
      rw [ZOl HLEN.out] at hS
      have HSf:=ZZY hS
      have HE:=ZZY (ZAu w wj (w.heap.size+1+1) _ _ (.slice a6 x.slots.length c6) (.slice a7 x.cols.length c7') (ZAx hS) hbj (by omega))
      obtain ⟨p1',p2',p3,p4',_⟩:=hS
      obtain ⟨⟨z0,z1,z2,z3,z4⟩,z5,z6,z7,z8,z9⟩:=ZAS p2'
      obtain ⟨r0,r1,r2,r3⟩:=ZAD p3
      obtain ⟨x0,x1⟩:=ZAg p4'
      clear p1' p2' p3 p4'
      go_wp2_with fail
      refine bodyPost_ret (ZAR Tryz.results103 _ _ (w.heap.size+1+1) _ _ _ _ rfl HE.out.1 Tryz.underlying128 rfl (by kernel_rfl)) rfl ?_
      exact HQ.out _ _ _ (ZEX (ZFT HSf.out)) HE.out.2
 ·exact (((Below.refl _ w).alloc (Nat.le_refl _) _).alloc (by simp) _).alloc (by simp;omega) _
open Go.RowKit Go.Shelf
theorem ZIt {od:List Int} {n:Nat} (hl:od.length=n) (h:∀ k,k<n→cnt9 od k n=1):Sc.once od n=true:=by
 unfold Sc.once
 rw [List.all_eq_true]
 intro k hk
 rw [decide_eq_true_eq]
 have:=h k (List.mem_range.1 hk)
 rw [←hl] at this
 simpa [cnt9] using this
theorem ZIu (x:Sc.Ver) (s:StepM) (sa:Option Addr) (sc:Nat) (ca:Option Addr) (cc:Nat) (w0 w:World) (T:Value) (hsl:x.slots.length≤100000) (hcl:x.cols.length≤100000) (hv:ZBq w0 w x sa sc ca cc) (hs0:ZBS w0 s T) (h0:Below w0.heap.size w0 w) (hk:s.kd=4) (hin:0≤s.col∧s.col<x.cols.length) (hre:Sc.rest s=true) (hinx:∀ c∈x.cols,c<x.slots.length) (hok:∀ t∈x.slots,1≤t.ty∧t.ty≤63) (hty:1≤s.sl.ty∧s.sl.ty≤63)
  (hmore:(Sc.slotOf x (x.cols[s.col.toNat]?.getD 0)).ty.toNat ||| s.sl.ty.toNat=(Sc.slotOf x (x.cols[s.col.toNat]?.getD 0)).ty.toNat) :
  Calls Tryz.prog 103 #[.agg #[.slice sa x.slots.length sc,.slice ca x.cols.length cc],T] w (ZAo w0 w x s):=by
 have hs:=ZAP h0 hs0
 have hC:=fun W (hb:Below w.heap.size w W)=>ZA2 x sa sc ca cc w0 w W hsl hcl hv hb
 have hR:=fun W (hb:Below w.heap.size w W)=>ZA0 s W T (ZAP hb hs)
 rw [hre] at hR
 obtain ⟨kd,col,sl,od⟩:=s
 obtain ⟨q2,q3,q4,q5,q6,q7,q8,oa,oc,rfl,hi1,hi2,h7,hod,_⟩:=hs
 simp only at hk hi1 hi2 hre hinx hin h7 hty hmore ⊢
 subst hk
 have HX:=ZZY hinx
 obtain ⟨hnm,hty2,rfl,rfl,rfl,hdf⟩:=h7
 obtain ⟨k,rfl⟩:∃ k:Nat,col=(k:Int):=⟨col.toNat,by omega⟩
 have hk1:k<x.cols.length:=by omega
 obtain ⟨b,hb⟩:∃ b:Nat,sl.ty=(b:Int):=⟨sl.ty.toNat,by omega⟩
 obtain ⟨c,hcx⟩:∃ c,x.cols[k]? = some c:=⟨x.cols[k],List.getElem?_eq_getElem hk1⟩
 have hcl9:=hinx c (List.mem_of_getElem? hcx)
 obtain ⟨so,hso⟩:∃ so,x.slots[c]? = some so:=⟨x.slots[c],List.getElem?_eq_getElem hcl9⟩
 have hot:=hok so (List.mem_of_getElem? hso)
 obtain ⟨a,ha⟩:∃ a:Nat,so.ty=(a:Int):=⟨so.ty.toNat,by omega⟩
 have hslo:Sc.slotOf x c=so:=by unfold Sc.slotOf;rw [hso];rfl
 rw [Int.toNat_natCast,hcx,Option.getD_some,hslo,ha,hb,Int.toNat_natCast,Int.toNat_natCast] at hmore
 have ha64:a<64:=by omega
 have hb64:b<64:=by omega
 have hor:a ||| b<64:=Nat.or_lt_two_pow (n:=6) ha64 hb64
 have hno:Sc.step x ⟨4,(k:Int),sl,od⟩=none:=by
  unfold Sc.step
  simp only
  rw [if_neg (by rw [hre];simp),if_neg (by decide),if_neg (by decide),if_neg (by omega),if_neg (by decide),if_neg (by decide),Int.toNat_natCast,hcx,Option.getD_some,hslo,ha,hb,Int.toNat_natCast,Int.toNat_natCast,if_neg (fun h=>h.2.2 hmore)]
 obtain ⟨Q,hQ⟩:∃ Q,ZAo w0 w x ⟨4,(k:Int),sl,od⟩=Q:=⟨_,rfl⟩
 have hq:∀ (a:Option Addr) (n c:Nat) (a':Option Addr) (n' c':Nat) (w':World),Below w.heap.size w w'→Q (.returned (.tuple #[.agg #[.slice a n c,.slice a' n' c'],.bool false])) w':=by
  intro a n c a' n' c' w' hb
  rw [←hQ];unfold ZAo;rw [hno];exact ⟨⟨a,n,c,a',n',c',rfl⟩,hb⟩
 have HQ:=ZZY hq
 clear hq
 rw [hQ]
 clear hQ hno hod
 have d4:decide ((k:Int)<0)=false:=by simp
 have d5:decide ((x.cols.length:Int)≤(k:Int))=false:=by simp;omega
 have d5n:decide (x.cols.length≤k)=false:=by simp;omega
 have d6:decide ((b:Int)<1)=false:=by simp;omega
 have d7:decide ((63:Int)<(b:Int))=false:=by simp;omega
 simp only [hb] at hR ⊢
 have hw6:=ZPN a ha64 b hb64
 have hm:decide ((a ||| b)≠a)=false:=by simpa using hmore
 rw [hm] at hw6
 have hwl:=ZNY a ha64 b hb64
 have hHas:=fun (t k:Nat) (ht:t<128) (hk:k≤100) (W:World)=>ZE1 t k (by omega) hk W
 have HHas:=ZZY hHas;have HWL:=ZZY hwl;have HW6:=ZZY hw6;have HCX:=ZZY hcx;have HSO:=ZZY hso;have HA:=ZZY ha
 clear hre hinx hHas hwl hw6 hcx hso ha hok hot hslo hm hmore hb
 have HV:=ZZY hv
 clear hv
 go_enter func103,ntmps103
 go_upto_region 23 with (first
  |(go_at_call 115;(with_reducible refine (hC _ ?_).mono ?_);rotate_left;rintro e w1 ⟨⟨sv,cv,rfl,hvo⟩,hb1⟩;obtain ⟨a6,c6,a7,c7',rfl,rfl⟩:=ZBG hvo;obtain ⟨hP,hq2,hq3⟩:=ZBP w0 w w1 x sa sc ca cc _ _ _ _ _ hb1 hvo;have HP:=ZZY hP;clear hq2 hq3 hb1;obtain ⟨_,p2,_,p4,_⟩:=hP;obtain ⟨⟨y0,y1,y2,y3,y4⟩,y5,y6,y7,y8,y9⟩:=ZAS p2)
  |(go_at_call 116;(with_reducible refine (hR _ (ZAa HP.out)).mono ?_);rintro e w2 ⟨rfl,hb2⟩;have HP2:=ZZY (ZAl HP.out hb2);clear hb2;have hP2:=HP2.out;obtain ⟨_,p2',p3,p4',_⟩:=hP2;obtain ⟨⟨z0,z1,z2,z3,z4⟩,z5,z6,z7,z8,z9⟩:=ZAS p2';obtain ⟨r0,r1,r2,r3⟩:=ZAD p3;obtain ⟨x0,x1,x2,x3⟩:=ZAD p4'))
 ·have HPd:=HP2.out
  obtain ⟨g,g',c',s',hc,hs',hcl,rfl,rfl,e2,⟨e1,f1⟩,hPn⟩:=ZEv HPd hk1 HX.out ((a ||| b:Nat):Int) (by unfold I64;omega)
  obtain rfl:c'=c:=by have:=HCX.out;rw [hc] at this;exact Option.some.inj this
  obtain rfl:s'=so:=by have:=HSO.out;rw [hs'] at this;exact Option.some.inj this
  rw [HA.out] at e1
  have HPn:=ZZY hPn
  clear hc hs' hPn
  go_region
  go_wp2
  go_loopw [7,8,9,10] (fun ty bit more i wr=>∃ j nq:Nat,j≤6∧i=.int .i64 (j:Int)∧ty=.int .i64 (((widF a b j).1:Nat):Int)∧bit=.int .i64 ((2 ^ j:Nat):Int)∧more=.bool (widF a b j).2∧wr=w2.drewN nq) (fun _ _ _ i _=>6-(intOf i).toNat)
  case atStart=>exact ⟨0,1,by omega,rfl,rfl,rfl,rfl,rfl⟩
  case round=>
   obtain ⟨j,nq,hj,rfl,rfl,rfl,rfl,rfl⟩:=hrel
   rcases Nat.lt_or_ge j 6 with hlt | hge
   ·have hdj:decide ((j:Int)<6)=true:=by simp;omega
    have ht128:=HWL.out j (by omega)
    have hH1:=HHas.out b j (by omega) (by omega)
    have hH2:=HHas.out (widF a b j).1 j ht128 (by omega)
    have hst:widF a b (j+1)=if Sc.has b j && !Sc.has (widF a b j).1 j then ((widF a b j).1+2 ^ j,true) else widF a b j:=rfl
    have hp:2 ^ j≤64:=by
     have:2 ^ j≤2 ^ 6:=Nat.pow_le_pow_right (by omega) hj
     simpa using this
    have hpp:2 ^ (j+1)=2 ^ j*2:=Nat.pow_succ 2 j
    obtain ⟨tm,htm⟩:∃ tm,widF a b j=tm:=⟨_,rfl⟩
    rw [htm] at hH2 hst ht128 ⊢
    obtain ⟨t9,m9⟩:=tm
    obtain ⟨pw,hpw⟩:∃ pw,2 ^ j=pw:=⟨_,rfl⟩
    rw [hpw] at hst hp hpp ⊢
    simp only at hH2 hst ht128 ⊢
    obtain ⟨A,hA⟩:∃ A,Sc.has b j=A:=⟨_,rfl⟩
    obtain ⟨B,hB⟩:∃ B,Sc.has t9 j=B:=⟨_,rfl⟩
    rw [hA] at hH1 hst
    rw [hB] at hH2 hst
    have hw1:IntKind.i64.wrap ((t9:Int)+(pw:Int))=((t9+pw:Nat):Int):=by rw [IntKind.wrap_i64];omega
    have hw2:IntKind.i64.wrap ((pw:Int)*2)=((pw*2:Nat):Int):=by rw [IntKind.wrap_i64];omega
    have HST:=ZZY hst;have HPP:=ZZY hpp;have HH1:=ZZY hH1;have HH2:=ZZY hH2
    clear hst hpp hH1 hH2 hA hB htm hpw
    cases A with
    |false=>
     have hs2:widF a b (j+1)=(t9,m9):=by rw [HST.out];rfl
     have HS2:=ZZY hs2
     clear hs2
     go_wp2_with (go_at_call 117;(with_reducible refine (HH1.out _).mono ?_);rintro e w5 ⟨rfl,rfl⟩)
     go_roundw
     case rel=>exact ⟨j+1,nq,by omega,by go_num,by rw [HS2.out]<;>first | rfl | simp only [Int.natCast_add],by rw [HPP.out];first | rfl | (go_num),by rw [HS2.out],rfl⟩
     case measure=>simp [intOf];omega
    |true=>
     cases B with
     |true=>
      have hs2:widF a b (j+1)=(t9,m9):=by rw [HST.out];rfl
      have HS2:=ZZY hs2
      clear hs2
      go_wp2_with (go_at_call 117;first | ((with_reducible refine (HH1.out _).mono ?_);rintro e w5 ⟨rfl,rfl⟩) | ((with_reducible refine (HH2.out _).mono ?_);rintro e w5 ⟨rfl,rfl⟩))
      go_roundw
      case rel=>exact ⟨j+1,nq,by omega,by go_num,by rw [HS2.out]<;>first | rfl | simp only [Int.natCast_add],by rw [HPP.out];first | rfl | (go_num),by rw [HS2.out],rfl⟩
      case measure=>simp [intOf];omega
     |false=>
      have hs2:widF a b (j+1)=(t9+pw,true):=by rw [HST.out];rfl
      have HS2:=ZZY hs2
      clear hs2
      go_wp2_with (go_at_call 117;first | ((with_reducible refine (HH1.out _).mono ?_);rintro e w5 ⟨rfl,rfl⟩) | ((with_reducible refine (HH2.out _).mono ?_);rintro e w5 ⟨rfl,rfl⟩))
      go_roundw
      case rel=>exact ⟨j+1,nq,by omega,by go_num,by rw [HS2.out]<;>first | rfl | simp only [Int.natCast_add],by rw [HPP.out];first | rfl | (go_num),by rw [HS2.out],rfl⟩
      case measure=>simp [intOf];omega
   ·obtain rfl:j=6:=by omega
    have hdj:decide ((6:Int)<6)=false:=by decide
    rw [HW6.out]
    have hPV:=ZCw HP2.out nq
    have HE:=ZZY (ZAu w (w2.drewN nq) (w.heap.size+1+1) _ _ (.slice (some ⟨g,0,none⟩) x.slots.length c6) (.slice (some ⟨g',0,none⟩) x.cols.length c7') (ZAx hPV) (ZAa hPV) (by omega))
    obtain ⟨_,d2,d3,d4',_⟩:=hPV
    obtain ⟨⟨v0,v1,v2,v3,v4⟩,_⟩:=ZAS d2
    obtain ⟨s0,s1,s2,s3⟩:=ZAD d3
    obtain ⟨v5,v6⟩:=ZAg d4'
    clear d2 d3 d4' HWL HW6 HHas
    go_wp2_with fail
    refine bodyPost_ret (ZAR Tryz.results103 _ _ (w.heap.size+1+1) _ _ _ _ rfl HE.out.1 Tryz.underlying128 rfl (by kernel_rfl)) rfl ?_
    exact HQ.out _ _ _ _ _ _ _ HE.out.2
 ·exact (((Below.refl _ w).alloc (Nat.le_refl _) _).alloc (by simp) _).alloc (by simp;omega) _
theorem ZIv (x:Sc.Ver) (s:StepM) (sa:Option Addr) (sc:Nat) (ca:Option Addr) (cc:Nat) (w0 w:World) (T:Value) (hsl:x.slots.length≤100000) (hcl:x.cols.length≤100000) (hv:ZBq w0 w x sa sc ca cc) (hs0:ZBS w0 s T) (h0:Below w0.heap.size w0 w) (hk:s.kd=5) (hre:Sc.rest s=true) (hlen:s.od.length=x.cols.length) (hon:Sc.once s.od x.cols.length=false) :
  Calls Tryz.prog 103 #[.agg #[.slice sa x.slots.length sc,.slice ca x.cols.length cc],T] w (ZAo w0 w x s):=by
 have hs:=ZAP h0 hs0
 have hC:=fun W (hb:Below w.heap.size w W)=>ZA2 x sa sc ca cc w0 w W hsl hcl hv hb
 have hR:=fun W (hb:Below w.heap.size w W)=>ZA0 s W T (ZAP hb hs)
 rw [hre] at hR
 obtain ⟨kd,col,sl,od⟩:=s
 obtain ⟨q2,q3,q4,q5,q6,q7,q8,oa,oc,rfl,hi1,hi2,h7,hod,_⟩:=hs
 simp only at hk hi1 hi2 hre h7 hlen hon hod ⊢
 subst hk
 obtain ⟨hnm,hty2,rfl,rfl,rfl,hdf⟩:=h7
 have hno:Sc.step x ⟨5,col,sl,od⟩=none:=by
  unfold Sc.step
  simp only
  rw [if_neg (by rw [hre];simp),if_neg (by decide),if_pos trivial,if_neg (fun h=>by rw [hon] at h;exact Bool.noConfusion h.2)]
 obtain ⟨Q,hQ⟩:∃ Q,ZAo w0 w x ⟨5,col,sl,od⟩=Q:=⟨_,rfl⟩
 have hq:∀ (a:Option Addr) (n c:Nat) (a':Option Addr) (n' c':Nat) (w':World),Below w.heap.size w w'→Q (.returned (.tuple #[.agg #[.slice a n c,.slice a' n' c'],.bool false])) w':=by
  intro a n c a' n' c' w' hb
  rw [←hQ];unfold ZAo;rw [hno];exact ⟨⟨a,n,c,a',n',c',rfl⟩,hb⟩
 have HQ:=ZZY hq
 clear hq
 rw [hQ]
 clear hQ hno
 rw [hlen] at hR hod ⊢
 have hne:((x.cols.length:Int) != (x.cols.length:Int))=false:=by simp
 have HON:=ZZY hon;have HLEN:=ZZY hlen;have HOD:=ZZY hod
 have HCL:=ZZY (ZEu hv.2)
 have HV:=ZZY hv
 clear hre hon hlen hod hv
 go_enter func103,ntmps103
 go_upto_region 37 with (first
  |(go_at_call 115;(with_reducible refine (hC _ ?_).mono ?_);rotate_left;rintro e w1 ⟨⟨sv,cv,rfl,hvo⟩,hb1⟩;obtain ⟨a6,c6,a7,c7',rfl,rfl⟩:=ZBG hvo;obtain ⟨hP,hq2,hq3⟩:=ZBP w0 w w1 x sa sc ca cc _ _ _ _ _ hb1 hvo;have HP:=ZZY hP;clear hq2 hq3 hb1;obtain ⟨_,p2,_,p4,_⟩:=hP;obtain ⟨⟨y0,y1,y2,y3,y4⟩,y5,y6,y7,y8,y9⟩:=ZAS p2)
  |(go_at_call 116;(with_reducible refine (hR _ (ZAa HP.out)).mono ?_);rintro e w2 ⟨rfl,hb2⟩;have HP2:=ZZY (ZAl HP.out hb2);clear hb2;have hP2:=HP2.out;obtain ⟨p1',p2',p3,p4',_⟩:=hP2;obtain ⟨⟨z0,z1,z2,z3,z4⟩,z5,z6,z7,z8,z9⟩:=ZAS p2';obtain ⟨r0,r1,r2,r3⟩:=ZAD p3;obtain ⟨x0,x1,x2,x3⟩:=ZAD p4';have oo:=ZAg p1';obtain ⟨o0,o1⟩:=oo))
 ·have hbw:=ZAa HP2.out
  go_wp2_with fail
  go_loopw [11] (fun i wr=>∃ j nq:Nat,j≤x.cols.length∧i=.int .i64 (j:Int)∧wr=w2.drewN nq∧∀ k,k<j→cnt9 od k x.cols.length=1) (fun i _=>x.cols.length-(intOf i).toNat)
  case atStart=>exact ⟨0,0,by omega,rfl,rfl,fun k hk=>absurd hk (Nat.not_lt_zero k)⟩
  case round=>
   obtain ⟨j,nq,hj,rfl,rfl,hall⟩:=hrel
   have HALL:=ZZY hall
   clear hall
   rcases Nat.lt_or_ge j x.cols.length with hlt | hge
   ·have hdj:decide ((j:Int)<(x.cols.length:Int))=true:=by simp;omega
    have hdjn:decide (j<x.cols.length)=true:=by simp;omega
    go_upto_region 42 with fail
    go_wp2_with fail
    go_loopw [12,13] (fun c i wr=>∃ m nq:Nat,m≤x.cols.length∧i=.int .i64 (m:Int)∧c=.int .i64 ((cnt9 od j m:Nat):Int)∧wr=w2.drewN nq) (fun _ i _=>x.cols.length-(intOf i).toNat)
    case atStart=>exact ⟨0,nq,by omega,rfl,rfl,rfl⟩
    case round=>
     obtain ⟨m,nq,hm,rfl,rfl,rfl⟩:=hrel
     have hcl9:=ZNZ od j m
     rcases Nat.lt_or_ge m x.cols.length with hml | hmg
     ·have hdm:decide ((m:Int)<(x.cols.length:Int))=true:=by simp;omega
      have hdmn:decide (m<x.cols.length)=true:=by simp;omega
      have hlen9:=HLEN.out
      obtain ⟨y,hy⟩:∃ y,od[m]? = some y:=⟨od[m],List.getElem?_eq_getElem (by omega)⟩
      obtain ⟨ob,oo,rfl,hcy⟩:=ZEu HOD.out m hml
      rw [hy,Option.getD_some] at hcy
      have hcy2:=ZAA hbw hcy
      have hst:=ZIr (j:=j) hy
      by_cases hyj:y=(j:Int)
      ·subst hyj
       rw [if_pos rfl] at hst
       have hdy:((j:Int) == (j:Int))=true:=by simp
       have hwp:IntKind.i64.wrap (((cnt9 od j m:Nat):Int)+1)=((cnt9 od j m+1:Nat):Int):=by rw [IntKind.wrap_i64];omega
       have HST:=ZZY hst
       clear hst hy hlen9 hcy
       go_wp2_with fail
       go_roundw
       case rel=>exact ⟨m+1,nq,by omega,by go_num,by rw [HST.out]<;>first | rfl | simp only [Int.natCast_add]<;>rfl,rfl⟩
       case measure=>simp [intOf];omega
      ·rw [if_neg hyj,Nat.add_zero] at hst
       have hdy:(y == (j:Int))=false:=by simpa using hyj
       have HST:=ZZY hst
       clear hst hy hyj hlen9 hcy
       go_wp2_with fail
       go_roundw
       case rel=>exact ⟨m+1,nq,by omega,by go_num,by rw [HST.out]<;>rfl,rfl⟩
       case measure=>simp [intOf];omega
     ·obtain rfl:m=x.cols.length:=by omega
      have hdm:decide ((x.cols.length:Int)<(x.cols.length:Int))=false:=by simp
      have hdmn:decide (x.cols.length<x.cols.length)=false:=by simp
      obtain ⟨cc9,hcc9⟩:∃ c,cnt9 od j x.cols.length=c:=⟨_,rfl⟩
      rw [hcc9]
      by_cases h1:cc9=1
      ·have HALL2:Hid (∀ k,k<j+1→cnt9 od k x.cols.length=1):=ZZY fun k hk=>by
        rcases Nat.lt_or_ge k j with h | h
        ·exact HALL.out k h
        ·obtain rfl:k=j:=by omega
         rw [hcc9,h1]
       subst h1
       clear hcc9
       go_wp2_with fail
       go_roundw
       case rel=>exact ⟨j+1,nq,by omega,by go_num,rfl,HALL2.out⟩
       case measure=>simp [intOf];omega
      ·have hd1:((cc9:Int) != 1)=true:=by
        rw [bne_iff_ne];omega
       have hPV:=ZCw HP2.out nq
       have HE:=ZZY (ZAu w (w2.drewN nq) (w.heap.size+1+1) _ _ (.slice a6 x.slots.length c6) (.slice a7 x.cols.length c7') (ZAx hPV) (ZAa hPV) (by omega))
       obtain ⟨_,d2,d3,d4',_⟩:=hPV
       obtain ⟨s0,s1,s2,s3⟩:=ZAD d3
       obtain ⟨v5,v6⟩:=ZAg d4'
       clear d2 d3 d4' hcc9 h1 hcl9
       go_wp2_with fail
       refine bodyPost_ret (ZAR Tryz.results103 _ _ (w.heap.size+1+1) _ _ _ _ rfl HE.out.1 Tryz.underlying128 rfl (by kernel_rfl)) rfl ?_
       exact HQ.out _ _ _ _ _ _ _ HE.out.2
   ·obtain rfl:j=x.cols.length:=by omega
    exact absurd (ZIt HLEN.out HALL.out) (by rw [HON.out];decide)
 ·exact (((Below.refl _ w).alloc (Nat.le_refl _) _).alloc (by simp) _).alloc (by simp;omega) _
open Go.RowKit Go.Shelf
theorem ZKG (n:Nat) (hn:n≤100000) (x:Sc.Ver) (s:StepM) (sa:Option Addr) (sc:Nat) (ca:Option Addr) (cc:Nat) (w0 w:World) (T:Value) (hok:Sc.VerOk n x) (hv:ZBq w0 w x sa sc ca cc) (hs0:ZBS w0 s T) (h0:Below w0.heap.size w0 w) (hsz:szV s.sl.df≤1000000) :
  Calls Tryz.prog 103 #[.agg #[.slice sa x.slots.length sc,.slice ca x.cols.length cc],T] w (ZAo w0 w x s):=by
 have hsl:x.slots.length≤100000:=Nat.le_trans hok.num hn
 have hcl:x.cols.length≤100000:=by have:=hok.len;omega
 rcases (show s.kd<1∨1≤s.kd by omega) with h | h1
 ·exact ZIb x s sa sc ca cc w0 w T hsl hcl hv hs0 h0 h
 rcases (show 5<s.kd∨s.kd≤5 by omega) with h | h5
 ·exact ZHL x s sa sc ca cc w0 w T hsl hcl hv hs0 h0 h
 cases hre:Sc.rest s with
 |false=>exact ZIc x s sa sc ca cc w0 w T hsl hcl hv hs0 h0 ⟨h1,h5⟩ hre
 |true=>
 by_cases k1:s.kd=1
 ·rcases Nat.lt_or_ge 7 x.cols.length with h | hlen
  ·exact ZHN x s sa sc ca cc w0 w T hsl hcl hv hs0 h0 k1 hre h
  cases hso:Sc.sound s.sl with
  |false=>exact ZIh x s sa sc ca cc w0 w T hsl hcl hv hs0 h0 k1 hre hsz hlen hso
  |true=>
  cases hrq:s.sl.rq with
  |true=>exact ZIi x s sa sc ca cc w0 w T hsl hcl hv hs0 h0 k1 hre hsz hlen hso hrq
  |false=>
  by_cases hco:Sc.col x s.sl.nm=none
  ·exact ZHS x s sa sc ca cc w0 w T hsl hcl hv hs0 h0 k1 hre hsz hlen hso hrq hok.lt hco
  ·exact ZGC x s sa sc ca cc w0 w T hsl hcl hv hs0 h0 k1 hre hsz hlen hso hrq hok.lt hco
 by_cases k5:s.kd=5
 ·by_cases hlen:s.od.length=x.cols.length
  ·cases hon:Sc.once s.od x.cols.length with
   |false=>exact ZIv x s sa sc ca cc w0 w T hsl hcl hv hs0 h0 k5 hre hlen hon
   |true=>exact ZHV x s sa sc ca cc w0 w T hsl hcl hv hs0 h0 k5 hre hlen hon
  ·exact ZIg x s sa sc ca cc w0 w T hsl hcl hv hs0 h0 k5 hre hlen
 have h24:2≤s.kd∧s.kd≤4:=by omega
 rcases (show s.col<0∨0≤s.col by omega) with h | hc0
 ·exact ZJ8 x s sa sc ca cc w0 w T hsl hcl hv hs0 h0 h24 hre h
 rcases (show s.col<x.cols.length∨(x.cols.length:Int)≤s.col by omega) with hc1 | h
 case inr=>exact ZId x s sa sc ca cc w0 w T hsl hcl hv hs0 h0 h24 hre h
 have hin:0≤s.col∧s.col<x.cols.length:=⟨hc0,hc1⟩
 by_cases k2:s.kd=2
 ·rcases Nat.lt_or_ge x.cols.length 2 with h | htwo
  ·exact ZIe x s sa sc ca cc w0 w T hsl hcl hv hs0 h0 k2 hin hre h
  ·exact ZHT x s sa sc ca cc w0 w T hsl hcl hv hs0 h0 k2 hin hre htwo
 by_cases k3:s.kd=3
 ·cases hnb:nameB (strB s.sl.nm) with
  |false=>exact ZHO x s sa sc ca cc w0 w T hsl hcl hv hs0 h0 k3 hin hre hnb
  |true=>
  by_cases hco:Sc.col x s.sl.nm=none
  ·exact ZHQ x s sa sc ca cc w0 w T hsl hcl hv hs0 h0 k3 hin hre hnb hok.lt hco
  ·exact ZGD x s sa sc ca cc w0 w T hsl hcl hv hs0 h0 k3 hin hre hnb hok.lt hco
 have k4:s.kd=4:=by omega
 rcases (show s.sl.ty<1∨1≤s.sl.ty by omega) with h | ht1
 ·exact ZIf x s sa sc ca cc w0 w T hsl hcl hv hs0 h0 k4 hin hre h
 rcases (show 63<s.sl.ty∨s.sl.ty≤63 by omega) with h | ht2
 ·exact ZHM x s sa sc ca cc w0 w T hsl hcl hv hs0 h0 k4 hin hre h
 have hty:∀ t∈x.slots,1≤t.ty∧t.ty≤63:=fun t ht=>⟨(hok.ok t ht).1,(hok.ok t ht).2.1⟩
 by_cases hmo:(Sc.slotOf x (x.cols[s.col.toNat]?.getD 0)).ty.toNat ||| s.sl.ty.toNat=(Sc.slotOf x (x.cols[s.col.toNat]?.getD 0)).ty.toNat
 ·exact ZIu x s sa sc ca cc w0 w T hsl hcl hv hs0 h0 k4 hin hre hok.lt hty ⟨ht1,ht2⟩ hmo
 ·exact ZHU x s sa sc ca cc w0 w T hsl hcl hv hs0 h0 k4 hin hre hok.lt hty ⟨ht1,ht2⟩ hmo
open Go.RowKit Go.Shelf
namespace Sc
theorem ZGh {α : Type} {p q : α→Bool} : ∀ {l:List α},(∀ x∈l,p x=q x)→l.find? p=l.find? q
 | [],_=>rfl
 |x :: r,h=>by
  simp only [List.find?_cons]
  rw [h x (List.mem_cons_self ..),ZGh fun y hy=>h y (List.mem_cons_of_mem _ hy)]
theorem col_take (l:List SlotM) (q:Nat) (nm:ByteArray):col ⟨l.take q,List.range q⟩ nm=col ⟨l,List.range q⟩ nm:=by
 unfold col
 refine ZGh fun c hc=>?_
 unfold slotOf
 have hc':=List.mem_range.1 hc
 simp only [List.getElem?_take,if_pos hc']
theorem vers_run {t:TemplM} (h:nameB (strB t.nm)=true∧1≤t.slots.length∧t.slots.length≤8∧t.steps.length≤8∧firstOk t.slots=true):vers t=run (first t.slots) t.steps:=by
 unfold vers;rw [if_pos h]
theorem vers_no {t:TemplM} (h:¬(nameB (strB t.nm)=true∧1≤t.slots.length∧t.slots.length≤8∧t.steps.length≤8∧firstOk t.slots=true)):vers t=none:=by
 unfold vers;rw [if_neg h]
end Sc
theorem ZHW {B n:Nat} {W:World} {e:TypeId} {size:Nat} {v:Value} {xs:List Value} {g:Nat} (h:W.ownsRow B e size v n xs) (hg:v.ownBlock=some g):∃ cur,W.heap[g]? = some (.cells cur e (0,0)):=by
 rcases h.2 with ⟨rfl,_⟩ | ⟨g',cap,cur,rfl,_,hh,_⟩
 ·simp [Value.ownBlock] at hg
 ·obtain rfl:g'=g:=by simpa [Value.ownBlock] using hg
  exact ⟨cur,hh⟩
theorem ZGi {B B' n n':Nat} {W:World} {e e':TypeId} {size size':Nat} {v v':Value} {xs xs':List Value} (h:W.ownsRow B e size v n xs) (h':W.ownsRow B' e' size' v' n' xs') (hne:e≠e'):∀ b,v.ownBlock=some b→v'.ownBlock=some b→False:=fun b h1 h2=>by
 obtain ⟨c,hc⟩:=ZHW h h1
 obtain ⟨d,hd⟩:=ZHW h' h2
 rw [hc] at hd
 injection hd with hd
 injection hd with _ hd _
 exact hne hd
def FV (w0 w V:World) (tcs:Array Value) (x:Sc.Ver) (s6 c6:Value):Prop:=
 V.heap[w.heap.size]? = some (.cells tcs 40 (0,0))∧V.heap[w.heap.size+1]? = some (.cells #[s6,c6] 128 (0,0))∧Below w.heap.size w V∧ZBd (w.heap.size+1+1) w0 V x s6 c6
theorem ZEw {w0 w V:World} {tcs:Array Value} {x:Sc.Ver} {s6 c6:Value} (h:FV w0 w V tcs x s6 c6):w.heap.size+1+1≤V.heap.size:=(ZZZ h.2.1).1
theorem ZEY {w0 w V V':World} {tcs:Array Value} {x:Sc.Ver} {s6 c6:Value} (h:FV w0 w V tcs x s6 c6) (hb:Below V.heap.size V V'):FV w0 w V' tcs x s6 c6:=by
 obtain ⟨g0,g1,g4,⟨cs,p1,p2,p3,p4⟩⟩:=h
 have k:=fun b o (hb0:V.heap[b]? = some o)=>(hb.block b (ZZZ hb0).1).trans hb0
 have kg:V.grownBy V' none:=by
  obtain ⟨a1,a2,a3,a4,a5⟩:=hb
  exact ⟨a1,a2,a3,a4,fun j hj _=>a5 j hj⟩
 exact ⟨k _ _ g0,k _ _ g1,ZAE g4 kg (fun b e=>by cases e) g4.size,⟨cs,ZAN p1 kg (fun b e=>by cases e),p2,ZAN p3 kg (fun b e=>by cases e),p4⟩⟩
theorem ZP1 {w0 w A W:World} {tcs:Array Value} {x:Sc.Ver} {s6 c6 v:Value} (h:FV w0 w A tcs x s6 c6) (hg:A.grownBy W s6.ownBlock) (hat:v.ownBlock=s6.ownBlock∨v.ownBlock=some A.heap.size) (ns:List SlotM) (ds:List Value) (hds:ZBw w0 ns ds)
  (hown:W.ownsRow (w.heap.size+1+1) 51 7 v ns.length ds) :
  W.heap[w.heap.size+1]? = some (.cells #[s6,c6] 128 (0,0))∧FV w0 w (W.setCell ⟨w.heap.size+1,0,none⟩ v) tcs ⟨ns,x.cols⟩ v c6:=by
 have hsz:=ZEw h
 obtain ⟨g0,g1,g4,⟨cs,p1,p2,p3,p4⟩⟩:=h
 have q1:=ZAV p1
 have q3:=ZAV p3
 have qn:=ZAV hown
 have far:∀ b o,b<w.heap.size+1+1→A.heap[b]? = some o→W.heap[b]? = some o:=fun b o hne hb=>(hg.block b (ZZZ hb).1 (fun e=>by have:=(q1 b e.symm).2;omega)).trans hb
 have e6:=far _ _ (by omega) g1
 have kg:=ZAJ W (w.heap.size+1) 0 v
 have far2:∀ b o,b≠w.heap.size+1→W.heap[b]? = some o→(W.setCell ⟨w.heap.size+1,0,none⟩ v).heap[b]? = some o:=fun b o hne hb=>(kg.block b (ZZZ hb).1 (fun e=>by injection e with e;omega)).trans hb
 have hB:Below w.heap.size w W:=ZAE g4 hg (fun b e=>by have:=(q1 b e).2;omega) g4.size
 refine ⟨e6,far2 _ _ (by omega) (far _ _ (by omega) g0),ZKs e6 v,ZAE hB kg (fun b e=>by injection e with e;omega) hB.size,
  ⟨ds,ZAN hown kg (fun b e1 e2=>by injection e1 with e1;have:=(qn b e2).2;omega),hds,ZAN (ZAN p3 hg (fun b e1 e2=>p4 b e1 e2)) kg (fun b e1 e2=>by injection e1 with e1;have:=(q3 b e2).2;omega),fun b e1 e2=>?_⟩⟩
 rcases hat with r | r
 ·exact p4 b (r ▸ e1) e2
 ·rw [r] at e1;injection e1 with e1;have:=(q3 b e2).1;omega
theorem ZQS {w0 w A W:World} {tcs:Array Value} {x:Sc.Ver} {s6 c6 v:Value} (h:FV w0 w A tcs x s6 c6) (hg:A.grownBy W c6.ownBlock) (hat:v.ownBlock=c6.ownBlock∨v.ownBlock=some A.heap.size) (nc:List Nat)
  (hown:W.ownsRow (w.heap.size+1+1) 3 1 v nc.length ((nc.map Int.ofNat).map (Value.int .i64))) :
  W.heap[w.heap.size+1]? = some (.cells #[s6,c6] 128 (0,0))∧FV w0 w (W.setCell ⟨w.heap.size+1,1,none⟩ v) tcs ⟨x.slots,nc⟩ s6 v:=by
 have hsz:=ZEw h
 obtain ⟨g0,g1,g4,⟨cs,p1,p2,p3,p4⟩⟩:=h
 have q1:=ZAV p1
 have q3:=ZAV p3
 have qn:=ZAV hown
 have far:∀ b o,b<w.heap.size+1+1→A.heap[b]? = some o→W.heap[b]? = some o:=fun b o hne hb=>(hg.block b (ZZZ hb).1 (fun e=>by have:=(q3 b e.symm).2;omega)).trans hb
 have e6:=far _ _ (by omega) g1
 have kg:=ZAJ W (w.heap.size+1) 1 v
 have far2:∀ b o,b≠w.heap.size+1→W.heap[b]? = some o→(W.setCell ⟨w.heap.size+1,1,none⟩ v).heap[b]? = some o:=fun b o hne hb=>(kg.block b (ZZZ hb).1 (fun e=>by injection e with e;omega)).trans hb
 have hB:Below w.heap.size w W:=ZAE g4 hg (fun b e=>by have:=(q3 b e).2;omega) g4.size
 refine ⟨e6,far2 _ _ (by omega) (far _ _ (by omega) g0),ZHR e6 v,ZAE hB kg (fun b e=>by injection e with e;omega) hB.size,
  ⟨cs,ZAN (ZAN p1 hg (fun b e1 e2=>p4 b e2 e1)) kg (fun b e1 e2=>by injection e1 with e1;have:=(q1 b e2).2;omega),p2,ZAN hown kg (fun b e1 e2=>by injection e1 with e1;have:=(qn b e2).2;omega),fun b e1 e2=>?_⟩⟩
 rcases hat with r | r
 ·exact p4 b e1 (r ▸ e2)
 ·rw [r] at e2;injection e2 with e2;have:=(q1 b e1).1;omega
theorem ZOm {w0 w V:World} {tcs:Array Value} {x:Sc.Ver} {s6 c6:Value} (h:FV w0 w V tcs x s6 c6):∃ cs,V.ownsRow (w.heap.size+1+1) 51 7 s6 x.slots.length cs∧ZBw w0 x.slots cs:=by
 obtain ⟨_,_,_,⟨cs,p1,p2,p3,p4⟩⟩:=h
 exact ⟨cs,p1,p2⟩
theorem ZP2 {w0 w V:World} {tcs:Array Value} {x:Sc.Ver} {s6 c6:Value} (h:FV w0 w V tcs x s6 c6):V.ownsRow (w.heap.size+1+1) 3 1 c6 x.cols.length ((x.cols.map Int.ofNat).map (Value.int .i64)):=by
 obtain ⟨_,_,_,⟨cs,p1,p2,p3,p4⟩⟩:=h
 exact p3
def OV (w W:World) (lo:Nat) (L:List Sc.Ver) (ov:Value):Prop:=∃ cs,W.ownsRow lo 128 2 ov L.length cs ∧
 ∀ (i:Nat) (x:Sc.Ver),L[i]? = some x→∃ sv cv,cs[i*2]? = some sv∧cs[i*2+1]? = some cv∧ZBd lo w W x sv cv
theorem ZB5 {lo:Nat} {w W W':World} {x:Sc.Ver} {sv cv:Value} {row:Option Nat} (h:ZBd lo w W x sv cv) (k:W.grownBy W' row) (hr:∀ b,row=some b→(sv.ownBlock=some b→False)∧(cv.ownBlock=some b→False)):ZBd lo w W' x sv cv:=by
 obtain ⟨cs,p1,p2,p3,p4⟩:=h
 exact ⟨cs,ZAN p1 k (fun b e=>(hr b e).1),p2,ZAN p3 k (fun b e=>(hr b e).2),p4⟩
theorem ZEG {lo lo':Nat} {w W:World} {x:Sc.Ver} {sv cv:Value} (h:ZBd lo w W x sv cv) (hl:lo'≤lo):ZBd lo' w W x sv cv:=by
 obtain ⟨cs,p1,p2,p3,p4⟩:=h
 exact ⟨cs,ZAH p1 hl,p2,ZAH p3 hl,p4⟩
theorem ZCH {W W':World} (hb:Below W.heap.size W W'):W.grownBy W' none:=by
 obtain ⟨a1,a2,a3,a4,a5⟩:=hb
 exact ⟨a1,a2,a3,a4,fun j hj _=>a5 j hj⟩
theorem ZFU {w W W':World} {lo:Nat} {L:List Sc.Ver} {ov:Value} (h:OV w W lo L ov) (hb:Below W.heap.size W W'):OV w W' lo L ov:=by
 obtain ⟨cs,h1,h2⟩:=h
 have kg:=ZCH hb
 exact ⟨cs,ZAN h1 kg (fun b e=>by cases e),fun i x hx=>by
  obtain ⟨sv,cv,a,b,c⟩:=h2 i x hx
  exact ⟨sv,cv,a,b,ZB5 c kg (fun b e=>by cases e)⟩⟩
theorem ZQT {w W:World} {lo:Nat} {x:Sc.Ver} {sv cv:Value} (h:ZBd lo w W x sv cv) (hlo:lo≤W.heap.size):OV w (W.alloc (.cells #[sv,cv] 128)) lo [x] (.slice (some ⟨W.heap.size,0,none⟩) 1 1):=by
 have kg:=World.grownBy_alloc W (.cells #[sv,cv] 128) none
 refine ⟨[sv,cv],⟨by simp,.inr ⟨W.heap.size,1,#[sv,cv],rfl,hlo,ZAQ W _,Nat.le_refl _,by unfold maxLen;omega,by simp,by simp⟩⟩,fun i y hy=>?_⟩
 have hi:i<1:=(List.getElem?_eq_some_iff.1 hy).1
 obtain rfl:i=0:=by omega
 simp only [List.getElem?_cons_zero,Option.some.injEq] at hy
 subst hy
 exact ⟨sv,cv,rfl,rfl,ZB5 h kg (fun b e=>by cases e)⟩
theorem ZIw {w A W:World} {lo:Nat} {L:List Sc.Ver} {ov v:Value} {x:Sc.Ver} {sv cv:Value} {cs:List Value} (h1:A.ownsRow lo 128 2 ov L.length cs)
  (h2:∀ (i:Nat) (x:Sc.Ver),L[i]? = some x→∃ sv cv,cs[i*2]? = some sv∧cs[i*2+1]? = some cv∧ZBd lo w A x sv cv) (hx:ZBd lo w A x sv cv) (hg:A.grownBy W ov.ownBlock)
  (hown:W.ownsRow lo 128 2 v (L.length+1) (cs ++ [sv,cv])):OV w W lo (L ++ [x]) v:=by
 have hne:∀ (y:Sc.Ver) (s c:Value),ZBd lo w A y s c→ZBd lo w W y s c:=fun y s c hy=>by
  refine ZB5 hy hg fun b e=>?_
  obtain ⟨ds,p1,p2,p3,p4⟩:=hy
  exact ⟨fun e2=>ZGi h1 p1 (by decide) b e e2,fun e2=>ZGi h1 p3 (by decide) b e e2⟩
 have hl:=h1.1
 refine ⟨cs ++ [sv,cv],by simpa using hown,fun i y hy=>?_⟩
 rcases Nat.lt_or_ge i L.length with hi | hi
 ·rw [List.getElem?_append_left hi] at hy
  obtain ⟨s,c,a,b,d⟩:=h2 i y hy
  exact ⟨s,c,by rw [List.getElem?_append_left (by omega)];exact a,by rw [List.getElem?_append_left (by omega)];exact b,hne _ _ _ d⟩
 ·have hlt:=(List.getElem?_eq_some_iff.1 hy).1
  simp only [List.length_append,List.length_cons,List.length_nil] at hlt
  obtain rfl:i=L.length:=by omega
  rw [List.getElem?_append_right (Nat.le_refl _)] at hy
  simp only [Nat.sub_self,List.getElem?_cons_zero,Option.some.injEq] at hy
  subst hy
  exact ⟨sv,cv,by rw [List.getElem?_append_right (by omega),show L.length*2-cs.length=0 by omega];rfl,by rw [List.getElem?_append_right (by omega),show L.length*2+1-cs.length=1 by omega];rfl,hne _ _ _ hx⟩
theorem ZKu {B n:Nat} {W:World} {e e':TypeId} {size:Nat} {v:Value} {xs:List Value} {g:Nat} {cur:Array Value} {fr:Nat × Nat} (h:W.ownsRow B e size v n xs) (hg:W.heap[g]? = some (.cells cur e' fr)) (hne:e≠e'):v.ownBlock=some g→False:=fun e1=>by
 obtain ⟨c,hc⟩:=ZHW h e1
 rw [hc] at hg
 injection hg with hg
 injection hg with _ hg _
 exact hne hg
theorem ZEx {lo:Nat} {w V:World} {x:Sc.Ver} {sv cv:Value} {b7:Nat} {z0 z1:Value} (h:ZBd lo w V x sv cv) (h7:V.heap[b7]? = some (.cells #[z0,z1] 128 (0,0))) (u0 u1:Value):ZBd lo w ((V.setCell ⟨b7,0,none⟩ u0).setCell ⟨b7,1,none⟩ u1) x sv cv:=by
 have hh:=h
 obtain ⟨cs,p1,p2,p3,p4⟩:=hh
 have n1:=ZKu p1 h7 (by decide)
 have n3:=ZKu p3 h7 (by decide)
 exact ZB5 (ZB5 h (ZAJ V b7 0 u0) (fun b e=>by cases e;exact ⟨n1,n3⟩)) (ZAJ _ b7 1 u1) (fun b e=>by cases e;exact ⟨n1,n3⟩)
theorem ZPO {lo:Nat} {w V:World} {L:List Sc.Ver} {ov:Value} {b7:Nat} {z0 z1:Value} (h:OV w V lo L ov) (h7:V.heap[b7]? = some (.cells #[z0,z1] 128 (0,0))) (hne:∀ b,ov.ownBlock=some b→b<b7) (u0 u1:Value):OV w ((V.setCell ⟨b7,0,none⟩ u0).setCell ⟨b7,1,none⟩ u1) lo L ov:=by
 obtain ⟨cs,h1,h2⟩:=h
 have nn:∀ b,some b7=some b→ov.ownBlock=some b→False:=fun b e e2=>by cases e;exact Nat.lt_irrefl _ (hne _ e2)
 exact ⟨cs,ZAN (ZAN h1 (ZAJ V b7 0 u0) nn) (ZAJ _ b7 1 u1) nn,fun i x hx=>by
  obtain ⟨sv,cv,a,b,c⟩:=h2 i x hx
  exact ⟨sv,cv,a,b,ZEx c h7 u0 u1⟩⟩
theorem ZD6 {w V:World} {b7:Nat} (h:Below w.heap.size w V) (hb:w.heap.size≤b7) (u0 u1:Value):Below w.heap.size w ((V.setCell ⟨b7,0,none⟩ u0).setCell ⟨b7,1,none⟩ u1):=by
 have k1:=ZAE h (ZAJ V b7 0 u0) (fun b e=>by cases e;exact hb) h.size
 exact ZAE k1 (ZAJ _ b7 1 u1) (fun b e=>by cases e;exact hb) k1.size
theorem ZIx {V:World} {b b7:Nat} {o:Obj} (h:V.heap[b]? = some o) (hne:b≠b7) (u0 u1:Value):((V.setCell ⟨b7,0,none⟩ u0).setCell ⟨b7,1,none⟩ u1).heap[b]? = some o:=by
 have e1:=((ZAJ V b7 0 u0).block b (ZZZ h).1 (fun e=>hne (by injection e))).trans h
 exact ((ZAJ (V.setCell ⟨b7,0,none⟩ u0) b7 1 u1).block b (ZZZ e1).1 (fun e=>hne (by injection e))).trans e1
theorem ZNd {lo:Nat} {w W:World} {x:Sc.Ver} {a:Option Addr} {c:Nat} {a':Option Addr} {c':Nat} (h:ZBd lo w W x (.slice a x.slots.length c) (.slice a' x.cols.length c')):ZBq w W x a c a' c':=by
 obtain ⟨cs,p1,p2,p3,p4⟩:=h
 refine ⟨⟨cs,p2,ZFh p1⟩, ?_⟩
 obtain ⟨va,vc,e,hr⟩:=ZBg p3
 injection e with e1 _ e3
 subst e1 e3
 exact hr
theorem ZIy {w W W':World} {x:Sc.Ver} {a:Option Addr} {c:Nat} {a':Option Addr} {c':Nat} (h:ZBq w W x a c a' c') (hb:Below W.heap.size W W'):ZBq w W' x a c a' c':=by
 obtain ⟨⟨cs,h1,h2⟩,h3⟩:=h
 exact ⟨⟨cs,h1,ZAs h2 hb⟩,ZAk h3 hb rfl⟩
def ZNe (w0 w:World) (t:TemplM) (e:Ending) (w':World):Prop:=(match Sc.vers t with
 |none=>e=.returned (.slice none 0 0)
 |some L=>∃ ov,e=.returned ov∧OV w0 w' w.heap.size L ov)∧Below w.heap.size w w'
def ZP3 (t:TemplM) (L:List Sc.Ver) (k:Nat):Prop:=∃ Lp x,L=Lp ++ [x]∧Lp.length=k∧Sc.vers t=(Sc.run x (t.steps.drop k)).map (fun M=>Lp++M)∧Sc.VerOk (8+k) x
theorem ZGj {t:TemplM} {Lp:List Sc.Ver} {x y:Sc.Ver} {k:Nat} {s:StepM} (hl:Lp.length=k) (hv:Sc.vers t=(Sc.run x (t.steps.drop k)).map (fun M=>Lp++M)) (hok:Sc.VerOk (8+k) x) (hs:t.steps[k]? = some s) (hy:Sc.step x s=some y):ZP3 t ((Lp ++ [x]) ++ [y]) (k+1):=by
 refine ⟨Lp ++ [x],y,rfl,by simp [hl], ?_,by have:=Sc.step_ok hok hy;rwa [Nat.add_assoc] at this⟩
 obtain ⟨hlt,e⟩:=List.getElem?_eq_some_iff.1 hs
 rw [hv,List.drop_eq_getElem_cons hlt,e]
 simp only [Sc.run,hy]
 cases Sc.run y (t.steps.drop (k+1))<;>simp
theorem ZGk {t:TemplM} {Lp:List Sc.Ver} {x:Sc.Ver} {k:Nat} {s:StepM} (hv:Sc.vers t=(Sc.run x (t.steps.drop k)).map (fun M=>Lp++M)) (hs:t.steps[k]? = some s) (hy:Sc.step x s=none):Sc.vers t=none:=by
 obtain ⟨hlt,e⟩:=List.getElem?_eq_some_iff.1 hs
 rw [hv,List.drop_eq_getElem_cons hlt,e]
 simp only [Sc.run,hy,Option.map_none]
theorem ZNf {t:TemplM} {Lp:List Sc.Ver} {x:Sc.Ver} {k:Nat} (hv:Sc.vers t=(Sc.run x (t.steps.drop k)).map (fun M=>Lp++M)) (hk:t.steps.length=k):Sc.vers t=some (Lp ++ [x]):=by
 rw [hv,List.drop_of_length_le (by omega)]
 rfl
