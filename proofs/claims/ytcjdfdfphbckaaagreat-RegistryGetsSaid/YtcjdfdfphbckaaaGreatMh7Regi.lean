/- Package bin: list; node of every depth. -/
import Derived.Test.YtcjdfdfphbckaaaGreatMh6Regi
import Derived.Test.YtcjdfdfphbckaaaGreatMh4Regi
import Derived.Test.YtcjdfdfphbckaaaGreatMh2Regi
set_option linter.unusedVariables false
set_option linter.unusedSimpArgs false
set_option maxRecDepth 100000
set_option maxHeartbeats 64000000
open Go.Proofs.Tryz
namespace Go.Proofs.YtcjdfdfphbckaaaGreat
open Go.RowKit Go.Shelf
attribute [local go_sem] Oper.semAt_some
theorem ZKO (g:Bn.St→PV × Bn.St) (n:Nat) (s:Bn.St):(Bn.rep g n s).1.length=n:=by
 induction n with
 |zero=>rfl
 |succ n ih=>simp [Bn.rep,ih]
def ZI9 (g:Nat) (n:Nat) (xs:List PV) (wr:World):Prop:=
 ∃ C,VAt wr g C∧C.size=n*4∧∀ (i:Nat) (y:PV),xs[i]? = some y→∃ c0 c1 c2 c3,(C[i*4]? = some c0∧C[i*4+1]? = some c1∧C[i*4+2]? = some c2∧C[i*4+3]? = some c3)∧ZDg (g+1) wr y (.agg #[c0,c1,c2,c3])
theorem ZKP {g n q:Nat} {xs:List PV} {wr w':World} {y:PV} {d0 d1 d2 d3:Value} {p:Nat} (h:ZI9 g n xs wr) (hp:p<g) (hg:wr.grownBy w' (some p)) (hq:xs.length=q) (hn:q<n) (hf:ZDg (g+1) w' y (.agg #[d0,d1,d2,d3])) :
  ZI9 g n (xs ++ [y]) ((((w'.setCell ⟨g,q*4,none⟩ d0).setCell ⟨g,q*4+1,none⟩ d1).setCell ⟨g,q*4+2,none⟩ d2).setCell ⟨g,q*4+3,none⟩ d3):=by
 obtain ⟨C,c1,c2,c3⟩:=h
 have c1':=ZAb c1 hg (by omega)
 have hset:∀ b,g+1≤b→(((((w'.setCell ⟨g,q*4,none⟩ d0).setCell ⟨g,q*4+1,none⟩ d1).setCell ⟨g,q*4+2,none⟩ d2).setCell ⟨g,q*4+3,none⟩ d3).heap[b]? = w'.heap[b]?):=fun b hb'=>by
  rw [Below.heap_setCell _ _ _ b (by show b≠g;omega),Below.heap_setCell _ _ _ b (by show b≠g;omega),Below.heap_setCell _ _ _ b (by show b≠g;omega),Below.heap_setCell _ _ _ b (by show b≠g;omega)]
 have hss:((((w'.setCell ⟨g,q*4,none⟩ d0).setCell ⟨g,q*4+1,none⟩ d1).setCell ⟨g,q*4+2,none⟩ d2).setCell ⟨g,q*4+3,none⟩ d3).heap.size=w'.heap.size:=by simp
 refine ⟨_,ZBl (ZBl (ZBl (ZBl c1' _ d0) _ d1) _ d2) _ d3,by simp [c2],fun i z hz=>?_⟩
 rcases Nat.lt_or_ge i q with hlt | hge
 ·rw [List.getElem?_append_left (by omega)] at hz
  obtain ⟨e0,e1,e2,e3,⟨u0,u1,u2,u3⟩,hfr⟩:=c3 i z hz
  refine ⟨e0,e1,e2,e3,⟨?_, ?_, ?_, ?_⟩,ZBk (ZBk hfr hg.size (fun b h1 h2=>hg.block b h2 (by simp;omega))) (by rw [hss];exact Nat.le_refl _) fun b h1 _=>hset b h1⟩
  ·rw [Array.getElem?_setIfInBounds_ne (by omega),Array.getElem?_setIfInBounds_ne (by omega),Array.getElem?_setIfInBounds_ne (by omega),Array.getElem?_setIfInBounds_ne (by omega),u0]
  ·rw [Array.getElem?_setIfInBounds_ne (by omega),Array.getElem?_setIfInBounds_ne (by omega),Array.getElem?_setIfInBounds_ne (by omega),Array.getElem?_setIfInBounds_ne (by omega),u1]
  ·rw [Array.getElem?_setIfInBounds_ne (by omega),Array.getElem?_setIfInBounds_ne (by omega),Array.getElem?_setIfInBounds_ne (by omega),Array.getElem?_setIfInBounds_ne (by omega),u2]
  ·rw [Array.getElem?_setIfInBounds_ne (by omega),Array.getElem?_setIfInBounds_ne (by omega),Array.getElem?_setIfInBounds_ne (by omega),Array.getElem?_setIfInBounds_ne (by omega),u3]
 ·have hil:i<(xs ++ [y]).length:=(List.getElem?_eq_some_iff.1 hz).1
  rw [List.length_append,hq] at hil
  simp only [List.length_cons,List.length_nil] at hil
  obtain rfl:i=q:=by omega
  rw [List.getElem?_append_right (by omega),hq,Nat.sub_self] at hz
  simp at hz
  subst hz
  refine ⟨d0,d1,d2,d3,⟨?_, ?_, ?_, ?_⟩,ZBk hf (by rw [hss];exact Nat.le_refl _) fun b h1 _=>hset b h1⟩
  ·rw [Array.getElem?_setIfInBounds_ne (by omega),Array.getElem?_setIfInBounds_ne (by omega),Array.getElem?_setIfInBounds_ne (by omega),Array.getElem?_setIfInBounds_self_of_lt (by omega)]
  ·rw [Array.getElem?_setIfInBounds_ne (by omega),Array.getElem?_setIfInBounds_ne (by omega),Array.getElem?_setIfInBounds_self_of_lt (by simp;omega)]
  ·rw [Array.getElem?_setIfInBounds_ne (by omega),Array.getElem?_setIfInBounds_self_of_lt (by simp;omega)]
  ·rw [Array.getElem?_setIfInBounds_self_of_lt (by simp;omega)]
theorem ZMK {g n:Nat} {xs:List PV} {wr w2:World} (h:ZI9 g n xs wr) (ha:∀ b:Nat,g≤b→b<wr.heap.size→w2.heap[b]? = wr.heap[b]?):IsL w2 g xs 0:=by
 obtain ⟨C,c1,c2,c3⟩:=h
 have c1':VAt w2 g C:=(ha g (Nat.le_refl _) (ZDO c1)).trans c1
 refine ZKT fun i y hy=>?_
 obtain ⟨e0,e1,e2,e3,⟨u0,u1,u2,u3⟩,hf⟩:=c3 i y hy
 rw [Nat.zero_add]
 exact ⟨e0,e1,e2,e3,⟨ZBn c1' _ _ u0,ZBn c1' _ _ u1,ZBn c1' _ _ u2,ZBn c1' _ _ u3⟩,hf w2 fun b h1 h2=>ha b (by omega) h2⟩
theorem ZDb {w:World} {v:PV} {x:Value} (h:Is w v x):∃ (k n:Int) (s:ByteArray) (a:Option Addr) (len cap:Nat),x=.agg #[.int .i64 k,.int .i64 n,.string s,.slice a len cap]:=by
 cases v with
 |mk k n s l=>
 unfold Is at h
 obtain ⟨_,_,_,a,cap,e,_⟩:=h
 exact ⟨_,_,_,_,_,_,e⟩
theorem ZK6 (j:Nat) (hj:j≤5) (p:Nat) (s:Bn.St) (w:World) (h:RD w p s) (hb:20<(Bn.rNum s).1∨4<j) :
  Calls Tryz.prog 111 #[.pointer (some ⟨p,0,none⟩),.int .i64 (j:Int)] w (LRet p w ([],none)):=by
 have hN:=ZC1 p s w h
 generalize (Bn.rNum s).1=n at *
 generalize (Bn.rNum s).2=s1 at *
 have hF:=fun W (h:RD W p s1)=>ZCD p s1 W h
 have HF:=ZZY hF
 clear h hF
 have hret:∀ W W2,RD W2 p none→w.grownBy W2 (some p)→W=W2→LRet p w ([],none) (.returned (.slice none 0 0)) W:=fun W W2 h1 h2 h3=>by
  subst h3
  exact ⟨none,0,rfl,Nat.le_refl _,by unfold maxLen;omega,fun _ _=>.inl rfl,h1,h2⟩
 by_cases h20:20<n
 ·have hd:decide ((20:Int)<(n:Int))=true:=by simp;omega
  clear hb
  go_enter func111,ntmps111
  go_wp2_with (first
   |(go_at_call 41;(with_reducible refine hN.mono ?_);rintro e w2 ⟨rfl,hR2,hg2⟩)
   |(go_at_call 91;(with_reducible refine (HF.out _ hR2).mono ?_);rintro e w3 ⟨⟨v,rfl⟩,hR3,hg3⟩))
  go_ret
  exact hret _ _ hR3 (ZAC hg2 hg3) rfl
 ·have hd:decide ((20:Int)<(n:Int))=false:=by simp;omega
  have hj4:4<j:=by omega
  have hd2:decide ((4:Int)<(j:Int))=true:=by simp;omega
  clear hb
  go_enter func111,ntmps111
  go_wp2_with (first
   |(go_at_call 41;(with_reducible refine hN.mono ?_);rintro e w2 ⟨rfl,hR2,hg2⟩)
   |(go_at_call 91;(with_reducible refine (HF.out _ hR2).mono ?_);rintro e w3 ⟨⟨v,rfl⟩,hR3,hg3⟩))
  go_ret
  exact hret _ _ hR3 (ZAC hg2 hg3) rfl
theorem ZN4 (j:Nat) (hj:j≤4) (gg:Bn.St→PV × Bn.St) (hNode:∀ (p:Nat) (s:Bn.St) (w:World),RD w p s→Calls Tryz.prog 93 #[.pointer (some ⟨p,0,none⟩),.int .i64 (j:Int)] w (VRet p w (gg s).1 (gg s).2))
  (p:Nat) (s:Bn.St) (w:World) (h:RD w p s) (hb:(Bn.rNum s).1≤20) :
  Calls Tryz.prog 111 #[.pointer (some ⟨p,0,none⟩),.int .i64 (j:Int)] w (LRet p w (Bn.rep gg (Bn.rNum s).1 (Bn.rNum s).2)):=by
 have hN:=ZC1 p s w h
 have hpw:=ZCf h
 generalize (Bn.rNum s).1=n at *
 generalize (Bn.rNum s).2=s1 at *
 have HNode:=ZZY hNode
 clear h hNode
 have hd:decide ((20:Int)<(n:Int))=false:=by simp;omega
 have hd2:decide ((4:Int)<(j:Int))=false:=by simp;omega
 obtain ⟨i0,hi,hz0,hz1,hz2⟩:=info_parts ZHk
 obtain ⟨M,hM⟩:∃ M,madeCells (Value.agg vzero).cells (((n:Nat):Int).toNat*i0.size)=M:=⟨_,rfl⟩
 have hMs:M.size=n*4:=by rw [←hM,size_madeCells,hz1];simp
 have hmk:∀ W:World,(Instr.makeSlice 47 (.int .i64 (n:Int)) (.int .i64 (n:Int))).run Tryz.prog W=.ok (.slice (some ⟨W.heap.size,0,none⟩) n n) (W.alloc (.cells M 49)):=fun W=>by
  have h:=run_make (P:=Tryz.prog) W 47 49 i0 (.agg vzero) Tryz.underlying47 hi hz0 .i64 .i64 (n:Int) (n:Int) (by omega) (by omega) (by rw [hz2];omega) (by omega)
  rw [hM] at h
  simpa using h
 clear hM hi hz0 hz1 hz2
 go_enter func111,ntmps111
 go_wp2_with (first
  |(go_at_call 41;(with_reducible refine hN.mono ?_);rintro e w2 ⟨rfl,hR2,hg2⟩))
 have hs2:=hg2.size
 have hA2:=(Below.refl _ w2).alloc (Nat.le_refl _) (.cells M 49)
 obtain ⟨g,hg⟩:∃ g,w2.heap.size=g:=⟨_,rfl⟩
 have hinv:ZI9 g n [] (w2.alloc (.cells M 49)):=⟨M,by rw [←hg];exact ZBI w2 M,hMs,fun i y h=>by simp at h⟩
 have hRA:=ZAp hR2 hA2
 have hGA:=ZAX hg2 (.cells M 49)
 rw [hg] at hs2
 have hpg:p<g:=by omega
 rw [hg]
 go_loopw [7,22] (fun _ i wr=>∃ q:Nat,q≤n∧i=.int .i64 (q:Int)∧ZI9 g n (Bn.rep gg q s1).1 wr∧RD wr p (Bn.rep gg q s1).2∧w.grownBy wr (some p)) (fun _ i _=>n-(intOf i).toNat)
 case atStart=>exact ⟨0,Nat.zero_le _,rfl,hinv,hRA,hGA⟩
 case round=>
 obtain ⟨q,hq,rfl,hfil,hR,hG⟩:=hrel
 by_cases hql:q<n
 ·have hdq:decide (q<n)=true:=by simp;omega
  have hcall:=HNode.out p _ wr hR
  have hrl:=ZKO gg q s1
  have hst1:(Bn.rep gg (q+1) s1).1=(Bn.rep gg q s1).1 ++ [(gg (Bn.rep gg q s1).2).1]:=rfl
  have hst2:(Bn.rep gg (q+1) s1).2=(gg (Bn.rep gg q s1).2).2:=rfl
  have H1:=ZZY hst1;have H2:=ZZY hst2
  clear hst1 hst2
  generalize (Bn.rep gg q s1).1=xs at *
  generalize (Bn.rep gg q s1).2=s2 at *
  have HR:=ZZY hR
  have HF:=ZZY hfil
  have HRL:=ZZY hrl
  obtain ⟨C,c1,c2,_⟩:=id hfil
  have hgw:=ZDO c1
  clear hR hfil hrl hinv hRA hGA hN hR2
  obtain ⟨x0,hx0⟩:∃ x,C[q*4]? = some x:=⟨C[q*4]'(by omega),Array.getElem?_eq_getElem (by omega)⟩
  obtain ⟨x1,hx1⟩:∃ x,C[q*4+1]? = some x:=⟨C[q*4+1]'(by omega),Array.getElem?_eq_getElem (by omega)⟩
  obtain ⟨x2,hx2⟩:∃ x,C[q*4+2]? = some x:=⟨C[q*4+2]'(by omega),Array.getElem?_eq_getElem (by omega)⟩
  obtain ⟨x3,hx3⟩:∃ x,C[q*4+3]? = some x:=⟨C[q*4+3]'(by omega),Array.getElem?_eq_getElem (by omega)⟩
  have HC1:=ZZY c1
  clear c1
  go_wp2_with (first
   |(go_at_call 93;(with_reducible refine hcall.mono ?_);rintro e w4 ⟨x,rfl,hF4,hR4,hg4⟩;obtain ⟨d0,d1,d2,d3,d4,d5,rfl⟩:=ZDb (ZC8 hF4);have hCC:=ZAb HC1.out hg4 (by omega);have z0:=ZBn hCC _ _ hx0;have z1:=ZBn hCC _ _ hx1;have z2:=ZBn hCC _ _ hx2;have z3:=ZBn hCC _ _ hx3;have y0:=ZCO hCC (q*4);have y1:=ZCO hCC (q*4+1);have y2:=ZCO hCC (q*4+2);have y3:=ZCO hCC (q*4+3)))
  go_roundw
  all_goals (first
   |(case' rel=>exact ⟨q+1,by omega,by go_num,by rw [H1.out];exact ZKP HF.out hpg hg4 HRL.out hql (ZD8 hF4 (by omega)),by rw [H2.out];exact ZF9 hR4 hCC _ _ _ _ _ _ _ _,ZCE (ZAC hG hg4) hs2 _ _ _ _ _ _ _ _⟩)
   |(case' measure=>simp [intOf];omega))
 ·obtain rfl:q=n:=by omega
  have hdq:decide (q<q)=false:=by simp
  have hrl:=ZKO gg q s1
  go_wp2_with fail
  go_ret
  exact ⟨some ⟨g,0,none⟩,q,by rw [hrl];rfl,by omega,by unfold maxLen;omega,fun w2 hw2=>.inr ⟨g,0,rfl,ZMK hfil fun b h1 h2=>hw2 b (by omega) h2⟩,hR,hG⟩
theorem ZPB (d:Nat):∀ k:Nat,k+d=4→∀ (p:Nat) (s:Bn.St) (w:World),RD w p s→Calls Tryz.prog 93 #[.pointer (some ⟨p,0,none⟩),.int .i64 (k:Int)] w (VRet p w (Bn.get d s).1 (Bn.get d s).2):=by
 induction d with
 |zero=>
  intro k hk p s w h
  exact ZI8 k (by omega) (Bn.lst none) (fun p s w h=>by
   have:=ZK6 (k+1) (by omega) p s w h (.inr (by omega))
   exact this) p s w h
 |succ d ih=>
  intro k hk p s w h
  refine ZI8 k (by omega) (Bn.lst (some (Bn.get d))) (fun p s w h=>?_) p s w h
  have hnode:=ih (k+1) (by omega)
  show Calls _ _ _ w (LRet p w (if 20<(Bn.rNum s).1 then ([],none) else Bn.rep (Bn.get d) (Bn.rNum s).1 (Bn.rNum s).2))
  by_cases h20:20<(Bn.rNum s).1
  ·rw [if_pos h20]
   exact ZK6 (k+1) (by omega) p s w h (.inl h20)
  ·rw [if_neg h20]
   exact ZN4 (k+1) (by omega) (Bn.get d) hnode p s w h (by omega)
open Go.RowKit Go.Shelf
attribute [local go_sem] Oper.semAt_some
theorem ZHl (s:ByteArray):s.toList.isEmpty=true ↔ s=⟨#[]⟩:=by
 rw [ZAz]
 constructor
 ·intro h
  apply ByteArray.ext
  apply Array.toList_inj.1
  rw [List.isEmpty_iff.1 h]
 ·intro h;rw [h];rfl
theorem ZKQ (v:PV):∀ w x,Is w v x→Calls Tryz.prog 97 #[x] w fun e w'=>e=.returned (.bool (okV v))∧Below w.heap.size w w':=by
 induction v using ZB1 with
 |h k n s l ih=>
  intro w x hi
  unfold Is at hi
  obtain ⟨h1,h2,h3,a,cap,rfl,h4,h5,h6⟩:=hi
  have hm:l.length≤maxLen:=Nat.le_trans h4 h5
  have hB0:=(Below.refl _ w).alloc (Nat.le_refl _) (vobj k n s a l.length cap)
  have hname:=fun w=>ZCA s w h3
  have hval:=fun w (h:s.size≤200)=>ZI2 s w (by omega)
  obtain ⟨vl,hvl⟩:∃ b,U.validS s=b:=⟨_,rfl⟩
  obtain ⟨nm,hnm⟩:∃ b,nameB (strB s)=b:=⟨_,rfl⟩
  rw [hvl] at hval
  rw [hnm] at hname
  unfold maxLen at h3 hm
  by_cases kneg:k<0
  ·have hok:okV (.mk k n s l)=false:=okV6 _ _ _ _ (by omega) (by omega) (by omega) (by omega) (by omega) (by omega)
   rw [hok]
   have d0:decide (k<0)=true:=by simpa using kneg
   clear ih h6 hvl hnm hname hval hok
   go_enter func97,ntmps97
   go_wp2_with (first
     |(go_at_call 100;(with_reducible refine (hname _).mono ?_);rintro e w1 ⟨rfl,rfl⟩)
     |(go_at_call 112;(with_reducible refine (hval _ hs200).mono ?_);rintro e w1 ⟨rfl,hb1⟩;obtain ⟨e0,e1,e2,e3⟩:=ZAi hb1;have hB1:=hB0.trans (hb1.mono hB0.size)))
   go_ret
   exact ⟨rfl,by first | exact hB1 | exact hB0⟩
  have dneg:decide (k<0)=false:=by simpa using kneg
  by_cases kbig:5<k
  ·have hok:okV (.mk k n s l)=false:=okV6 _ _ _ _ (by omega) (by omega) (by omega) (by omega) (by omega) (by omega)
   rw [hok]
   have d0:decide (5<k)=true:=by simpa using kbig
   clear ih h6 hvl hnm hname hval hok
   go_enter func97,ntmps97
   go_wp2_with (first
     |(go_at_call 100;(with_reducible refine (hname _).mono ?_);rintro e w1 ⟨rfl,rfl⟩)
     |(go_at_call 112;(with_reducible refine (hval _ hs200).mono ?_);rintro e w1 ⟨rfl,hb1⟩;obtain ⟨e0,e1,e2,e3⟩:=ZAi hb1;have hB1:=hB0.trans (hb1.mono hB0.size)))
   go_ret
   exact ⟨rfl,by first | exact hB1 | exact hB0⟩
  have dbig:decide (5<k)=false:=by simpa using kbig
  by_cases k5:k=5
  ·subst k5
   rw [okV5]
   rcases (show (s.toList.isEmpty=true)∨(s.toList.isEmpty=false) by cases s.toList.isEmpty<;>simp) with hs | hs
   ·obtain rfl:=(ZHl s).1 hs
    by_cases hn:n=0
    ·subst hn
     by_cases h20:l.length≤20
     ·have d20:decide ((20:Int)<(l.length:Int))=false:=by simp;omega
      obtain ⟨r,hr⟩:∃ r,okL l=r:=⟨_,rfl⟩
      have hok:((0:Int) == 0 && (ByteArray.toList ⟨#[]⟩).isEmpty && decide (l.length≤20) && okL l)=r:=by rw [hs,hr];simp [h20]
      rw [hok]
      have HR:=ZZY hr
      have HI:=ZZY ih
      clear ih hvl hnm hname hval hok kneg kbig hr
      go_enter func97,ntmps97
      go_wp2_with fail
      go_loopw [3] (fun i wr=>∃ q:Nat,q≤l.length∧i=.int .i64 (q:Int)∧Below (w.alloc (vobj 5 0 ⟨#[]⟩ a l.length cap)).heap.size (w.alloc (vobj 5 0 ⟨#[]⟩ a l.length cap)) wr∧Hid (okL (l.drop q)=r)) (fun i _=>l.length-(intOf i).toNat)
      case atStart=>exact ⟨0,Nat.zero_le _,rfl,Below.refl _ _,HR.out⟩
      case round=>
       obtain ⟨q,hq,rfl,hB,HQ⟩:=hrel
       obtain ⟨f0,f1,f2,f3⟩:=ZAi hB
       by_cases hql:q<l.length
       ·have hdq:decide (q<l.length)=true:=by simpa using hql
        obtain ⟨y,hy⟩:∃ y,l[q]? = some y:=⟨l[q],List.getElem?_eq_getElem hql⟩
        obtain ⟨b,off,rfl,hIs⟩:∃ b off,a=some ⟨b,off,none⟩∧IsL w b l off:=by
         rcases h6 with h | h
         ·subst h;simp at hql
         ·exact h
        have hdrop:okL (l.drop q)=(okV y && okL (l.drop (q+1))):=by
         rw [show l.drop q=y :: l.drop (q+1) by
          rw [List.drop_eq_getElem_cons hql]
          rw [List.getElem?_eq_getElem hql] at hy
          cases hy;rfl]
         simp only [okL]
        rw [HQ.out] at hdrop
        have hcall:=fun w x hx=>HI.out y (List.mem_of_getElem? hy) w x hx
        obtain ⟨z,hz⟩:∃ z,okV y=z:=⟨_,rfl⟩
        rw [hz] at hdrop hcall
        cases y with
        |mk yk yn ys yl=>
        obtain ⟨ya,yc,⟨g0,g1,g2,g3⟩,hiy⟩:=ZCT (ZA7 hB (ZA7 hB0 hIs)) q _ _ _ _ hy
        have hi2:=ZZY hiy
        have HD:=ZZY hdrop
        have HC:=ZZY hcall
        clear h6 hIs hiy hy hz hdrop HQ hcall
        cases z with
        |true=>
         go_wp2_with (first | (go_at_call 97;(with_reducible refine (HC.out _ _ hi2.out).mono ?_);rintro e w' ⟨rfl,hb⟩))
         go_roundw
         all_goals (first
          |(case' rel=>exact ⟨q+1,by omega,by go_num,hB.trans (hb.mono hB.size),ZZY (by rw [HD.out,Bool.true_and])⟩)
          |(case' measure=>simp [intOf];omega))
        |false=>
         have hrf:r=false:=by rw [HD.out,Bool.false_and]
         subst hrf
         go_wp2_with (first | (go_at_call 97;(with_reducible refine (HC.out _ _ hi2.out).mono ?_);rintro e w' ⟨rfl,hb⟩))
         go_ret
         exact ⟨rfl,hB0.trans ((hB.trans (hb.mono hB.size)).mono hB0.size)⟩
       ·obtain rfl:q=l.length:=by omega
        have hdq:decide (l.length<l.length)=false:=by simp
        have hrt:r=true:=by
         have h:=HQ.out
         rw [List.drop_length] at h
         simp only [okL] at h
         exact h.symm
        subst hrt
        go_wp2_with fail
        go_ret
        exact ⟨rfl,hB0.trans (hB.mono hB0.size)⟩
     ·have d20:decide ((20:Int)<(l.length:Int))=true:=by simp;omega
      have hok:((0:Int) == 0 && (ByteArray.toList ⟨#[]⟩).isEmpty && decide (l.length≤20) && okL l)=false:=by simp [h20]
      rw [hok]
      clear ih h6 hvl hnm hname hval hok kneg kbig
      go_enter func97,ntmps97
      go_wp2_with (first
        |(go_at_call 100;(with_reducible refine (hname _).mono ?_);rintro e w1 ⟨rfl,rfl⟩)
        |(go_at_call 112;(with_reducible refine (hval _ hs200).mono ?_);rintro e w1 ⟨rfl,hb1⟩;obtain ⟨e0,e1,e2,e3⟩:=ZAi hb1;have hB1:=hB0.trans (hb1.mono hB0.size)))
      go_ret
      exact ⟨rfl,by first | exact hB1 | exact hB0⟩
    ·have dn:(n != 0)=true:=by simpa using hn
     have hok:(n == 0 && (ByteArray.toList ⟨#[]⟩).isEmpty && decide (l.length≤20) && okL l)=false:=by simp [hn]
     rw [hok]
     clear ih h6 hvl hnm hname hval hok kneg kbig
     go_enter func97,ntmps97
     go_wp2_with (first
       |(go_at_call 100;(with_reducible refine (hname _).mono ?_);rintro e w1 ⟨rfl,rfl⟩)
       |(go_at_call 112;(with_reducible refine (hval _ hs200).mono ?_);rintro e w1 ⟨rfl,hb1⟩;obtain ⟨e0,e1,e2,e3⟩:=ZAi hb1;have hB1:=hB0.trans (hb1.mono hB0.size)))
     go_ret
     exact ⟨rfl,by first | exact hB1 | exact hB0⟩
   ·have hok:(n == 0 && s.toList.isEmpty && decide (l.length≤20) && okL l)=false:=by rw [hs];simp
    rw [hok]
    clear ih h6 hvl hnm hname hval hok kneg kbig
    go_enter func97,ntmps97
    go_wp2_with (first
      |(go_at_call 100;(with_reducible refine (hname _).mono ?_);rintro e w1 ⟨rfl,rfl⟩)
      |(go_at_call 112;(with_reducible refine (hval _ hs200).mono ?_);rintro e w1 ⟨rfl,hb1⟩;obtain ⟨e0,e1,e2,e3⟩:=ZAi hb1;have hB1:=hB0.trans (hb1.mono hB0.size)))
    go_ret
    exact ⟨rfl,by first | exact hB1 | exact hB0⟩
  by_cases hl:l = []
  ·subst hl
   have hs:(s.toList.isEmpty=true)∨(s.toList.isEmpty=false):=by cases s.toList.isEmpty<;>simp
   by_cases k0:k=0
   ·subst k0
    rw [okV0]
    rcases hs with hs | hs
    ·obtain rfl:=(ZHl s).1 hs
     by_cases hn:n=0
     ·subst hn
      have hok:((0:Int) == 0 && (ByteArray.toList ⟨#[]⟩).isEmpty && ([]:List PV).isEmpty)=true:=by rw [hs];rfl
      rw [hok]
      clear ih h6 hvl hnm hname hval hok kneg kbig k5
      go_enter func97,ntmps97
      go_wp2_with (first
        |(go_at_call 100;(with_reducible refine (hname _).mono ?_);rintro e w1 ⟨rfl,rfl⟩)
        |(go_at_call 112;(with_reducible refine (hval _ hs200).mono ?_);rintro e w1 ⟨rfl,hb1⟩;obtain ⟨e0,e1,e2,e3⟩:=ZAi hb1;have hB1:=hB0.trans (hb1.mono hB0.size)))
      go_loopw [3] (fun i wr=>i=.int .i64 0∧Below (w.alloc (vobj 0 0 ⟨#[]⟩ a ([]:List PV).length cap)).heap.size (w.alloc (vobj 0 0 ⟨#[]⟩ a ([]:List PV).length cap)) wr) (fun _ _=>0)
      case atStart=>exact ⟨rfl,by first | exact hb1 | exact Below.refl _ _⟩
      case round=>
       obtain ⟨rfl,hB⟩:=hrel
       obtain ⟨f0,f1,f2,f3⟩:=ZAi hB
       go_wp2
       go_ret
       exact ⟨rfl,hB0.trans (hB.mono hB0.size)⟩
     ·have dn:(n != 0)=true:=by simpa using hn
      have hok:(n == 0 && (ByteArray.toList ⟨#[]⟩).isEmpty && ([]:List PV).isEmpty)=false:=by simp [hn]
      rw [hok]
      clear ih h6 hvl hnm hname hval hok kneg kbig k5
      go_enter func97,ntmps97
      go_wp2_with (first
        |(go_at_call 100;(with_reducible refine (hname _).mono ?_);rintro e w1 ⟨rfl,rfl⟩)
        |(go_at_call 112;(with_reducible refine (hval _ hs200).mono ?_);rintro e w1 ⟨rfl,hb1⟩;obtain ⟨e0,e1,e2,e3⟩:=ZAi hb1;have hB1:=hB0.trans (hb1.mono hB0.size)))
      go_ret
      exact ⟨rfl,by first | exact hB1 | exact hB0⟩
    ·have hok:(n == 0 && s.toList.isEmpty && ([]:List PV).isEmpty)=false:=by rw [hs];simp
     rw [hok]
     clear ih h6 hvl hnm hname hval hok kneg kbig k5
     go_enter func97,ntmps97
     go_wp2_with (first
       |(go_at_call 100;(with_reducible refine (hname _).mono ?_);rintro e w1 ⟨rfl,rfl⟩)
       |(go_at_call 112;(with_reducible refine (hval _ hs200).mono ?_);rintro e w1 ⟨rfl,hb1⟩;obtain ⟨e0,e1,e2,e3⟩:=ZAi hb1;have hB1:=hB0.trans (hb1.mono hB0.size)))
     go_ret
     exact ⟨rfl,by first | exact hB1 | exact hB0⟩
   by_cases k1:k=1
   ·subst k1
    rw [okV1]
    rcases hs with hs | hs
    ·obtain rfl:=(ZHl s).1 hs
     by_cases hn:n=0
     ·subst hn
      have hok:(((0:Int) == 0 || (0:Int) == 1) && (ByteArray.toList ⟨#[]⟩).isEmpty && ([]:List PV).isEmpty)=true:=by rw [hs];rfl
      rw [hok]
      clear ih h6 hvl hnm hname hval hok kneg kbig k5
      go_enter func97,ntmps97
      go_wp2_with (first
        |(go_at_call 100;(with_reducible refine (hname _).mono ?_);rintro e w1 ⟨rfl,rfl⟩)
        |(go_at_call 112;(with_reducible refine (hval _ hs200).mono ?_);rintro e w1 ⟨rfl,hb1⟩;obtain ⟨e0,e1,e2,e3⟩:=ZAi hb1;have hB1:=hB0.trans (hb1.mono hB0.size)))
      go_loopw [3] (fun i wr=>i=.int .i64 0∧Below (w.alloc (vobj 1 0 ⟨#[]⟩ a ([]:List PV).length cap)).heap.size (w.alloc (vobj 1 0 ⟨#[]⟩ a ([]:List PV).length cap)) wr) (fun _ _=>0)
      case atStart=>exact ⟨rfl,by first | exact hb1 | exact Below.refl _ _⟩
      case round=>
       obtain ⟨rfl,hB⟩:=hrel
       obtain ⟨f0,f1,f2,f3⟩:=ZAi hB
       go_wp2
       go_ret
       exact ⟨rfl,hB0.trans (hB.mono hB0.size)⟩
     by_cases hn1:n=1
     ·subst hn1
      have hok:(((1:Int) == 0 || (1:Int) == 1) && (ByteArray.toList ⟨#[]⟩).isEmpty && ([]:List PV).isEmpty)=true:=by rw [hs];rfl
      rw [hok]
      clear ih h6 hvl hnm hname hval hok kneg kbig k5 hn
      go_enter func97,ntmps97
      go_wp2_with (first
        |(go_at_call 100;(with_reducible refine (hname _).mono ?_);rintro e w1 ⟨rfl,rfl⟩)
        |(go_at_call 112;(with_reducible refine (hval _ hs200).mono ?_);rintro e w1 ⟨rfl,hb1⟩;obtain ⟨e0,e1,e2,e3⟩:=ZAi hb1;have hB1:=hB0.trans (hb1.mono hB0.size)))
      go_loopw [3] (fun i wr=>i=.int .i64 0∧Below (w.alloc (vobj 1 1 ⟨#[]⟩ a ([]:List PV).length cap)).heap.size (w.alloc (vobj 1 1 ⟨#[]⟩ a ([]:List PV).length cap)) wr) (fun _ _=>0)
      case atStart=>exact ⟨rfl,by first | exact hb1 | exact Below.refl _ _⟩
      case round=>
       obtain ⟨rfl,hB⟩:=hrel
       obtain ⟨f0,f1,f2,f3⟩:=ZAi hB
       go_wp2
       go_ret
       exact ⟨rfl,hB0.trans (hB.mono hB0.size)⟩
     ·have dn:(n != 0)=true:=by simpa using hn
      have dn1:(n == 1)=false:=by simpa using hn1
      have hok:((n == 0 || n == 1) && (ByteArray.toList ⟨#[]⟩).isEmpty && ([]:List PV).isEmpty)=false:=by simp [hn,hn1]
      rw [hok]
      clear ih h6 hvl hnm hname hval hok kneg kbig k5
      go_enter func97,ntmps97
      go_wp2_with (first
        |(go_at_call 100;(with_reducible refine (hname _).mono ?_);rintro e w1 ⟨rfl,rfl⟩)
        |(go_at_call 112;(with_reducible refine (hval _ hs200).mono ?_);rintro e w1 ⟨rfl,hb1⟩;obtain ⟨e0,e1,e2,e3⟩:=ZAi hb1;have hB1:=hB0.trans (hb1.mono hB0.size)))
      go_ret
      exact ⟨rfl,by first | exact hB1 | exact hB0⟩
    ·have hok:((n == 0 || n == 1) && s.toList.isEmpty && ([]:List PV).isEmpty)=false:=by rw [hs];simp
     rw [hok]
     clear ih h6 hvl hnm hname hval hok kneg kbig k5 k0
     go_enter func97,ntmps97
     go_wp2_with (first
       |(go_at_call 100;(with_reducible refine (hname _).mono ?_);rintro e w1 ⟨rfl,rfl⟩)
       |(go_at_call 112;(with_reducible refine (hval _ hs200).mono ?_);rintro e w1 ⟨rfl,hb1⟩;obtain ⟨e0,e1,e2,e3⟩:=ZAi hb1;have hB1:=hB0.trans (hb1.mono hB0.size)))
     go_ret
     exact ⟨rfl,by first | exact hB1 | exact hB0⟩
   by_cases k2:k=2
   ·subst k2
    rw [okV2]
    rcases hs with hs | hs
    ·obtain rfl:=(ZHl s).1 hs
     have hok:((ByteArray.toList ⟨#[]⟩).isEmpty && ([]:List PV).isEmpty)=true:=by rw [hs];rfl
     rw [hok]
     clear ih h6 hvl hnm hname hval hok kneg kbig k5 k0 k1
     go_enter func97,ntmps97
     go_wp2_with (first
       |(go_at_call 100;(with_reducible refine (hname _).mono ?_);rintro e w1 ⟨rfl,rfl⟩)
       |(go_at_call 112;(with_reducible refine (hval _ hs200).mono ?_);rintro e w1 ⟨rfl,hb1⟩;obtain ⟨e0,e1,e2,e3⟩:=ZAi hb1;have hB1:=hB0.trans (hb1.mono hB0.size)))
     go_loopw [3] (fun i wr=>i=.int .i64 0∧Below (w.alloc (vobj 2 n ⟨#[]⟩ a ([]:List PV).length cap)).heap.size (w.alloc (vobj 2 n ⟨#[]⟩ a ([]:List PV).length cap)) wr) (fun _ _=>0)
     case atStart=>exact ⟨rfl,by first | exact hb1 | exact Below.refl _ _⟩
     case round=>
      obtain ⟨rfl,hB⟩:=hrel
      obtain ⟨f0,f1,f2,f3⟩:=ZAi hB
      go_wp2
      go_ret
      exact ⟨rfl,hB0.trans (hB.mono hB0.size)⟩
    ·have hok:(s.toList.isEmpty && ([]:List PV).isEmpty)=false:=by rw [hs];simp
     rw [hok]
     clear ih h6 hvl hnm hname hval hok kneg kbig k5 k0 k1
     go_enter func97,ntmps97
     go_wp2_with (first
       |(go_at_call 100;(with_reducible refine (hname _).mono ?_);rintro e w1 ⟨rfl,rfl⟩)
       |(go_at_call 112;(with_reducible refine (hval _ hs200).mono ?_);rintro e w1 ⟨rfl,hb1⟩;obtain ⟨e0,e1,e2,e3⟩:=ZAi hb1;have hB1:=hB0.trans (hb1.mono hB0.size)))
     go_ret
     exact ⟨rfl,by first | exact hB1 | exact hB0⟩
   by_cases k3:k=3
   ·subst k3
    rw [okV3,hnm]
    by_cases hn:n=0
    ·subst hn
     cases nm with
     |true=>
      have hok:((0:Int) == 0 && true && ([]:List PV).isEmpty)=true:=rfl
      rw [hok]
      clear ih h6 hvl hnm hval hok kneg kbig k5 k0 k1 k2 hs
      go_enter func97,ntmps97
      go_wp2_with (first
        |(go_at_call 100;(with_reducible refine (hname _).mono ?_);rintro e w1 ⟨rfl,rfl⟩)
        |(go_at_call 112;(with_reducible refine (hval _ hs200).mono ?_);rintro e w1 ⟨rfl,hb1⟩;obtain ⟨e0,e1,e2,e3⟩:=ZAi hb1;have hB1:=hB0.trans (hb1.mono hB0.size)))
      go_loopw [3] (fun i wr=>i=.int .i64 0∧Below (w.alloc (vobj 3 0 s a ([]:List PV).length cap)).heap.size (w.alloc (vobj 3 0 s a ([]:List PV).length cap)) wr) (fun _ _=>0)
      case atStart=>exact ⟨rfl,by first | exact hb1 | exact Below.refl _ _⟩
      case round=>
       obtain ⟨rfl,hB⟩:=hrel
       obtain ⟨f0,f1,f2,f3⟩:=ZAi hB
       go_wp2
       go_ret
       exact ⟨rfl,hB0.trans (hB.mono hB0.size)⟩
     |false=>
      have hok:((0:Int) == 0 && false && ([]:List PV).isEmpty)=false:=rfl
      rw [hok]
      clear ih h6 hvl hnm hval hok kneg kbig k5 k0 k1 k2 hs
      go_enter func97,ntmps97
      go_wp2_with (first
        |(go_at_call 100;(with_reducible refine (hname _).mono ?_);rintro e w1 ⟨rfl,rfl⟩)
        |(go_at_call 112;(with_reducible refine (hval _ hs200).mono ?_);rintro e w1 ⟨rfl,hb1⟩;obtain ⟨e0,e1,e2,e3⟩:=ZAi hb1;have hB1:=hB0.trans (hb1.mono hB0.size)))
      go_ret
      exact ⟨rfl,by first | exact hB1 | exact hB0⟩
    ·have dn:(n != 0)=true:=by simpa using hn
     have hok:(n == 0 && nm && ([]:List PV).isEmpty)=false:=by simp [hn]
     rw [hok]
     clear ih h6 hvl hnm hname hval hok kneg kbig k5 k0 k1 k2 hs
     go_enter func97,ntmps97
     go_wp2_with (first
       |(go_at_call 100;(with_reducible refine (hname _).mono ?_);rintro e w1 ⟨rfl,rfl⟩)
       |(go_at_call 112;(with_reducible refine (hval _ hs200).mono ?_);rintro e w1 ⟨rfl,hb1⟩;obtain ⟨e0,e1,e2,e3⟩:=ZAi hb1;have hB1:=hB0.trans (hb1.mono hB0.size)))
     go_ret
     exact ⟨rfl,by first | exact hB1 | exact hB0⟩
   ·obtain rfl:k=4:=by omega
    rw [okV4,hvl]
    by_cases hn:n=0
    ·subst hn
     by_cases hs200:s.size≤200
     ·have d200:decide ((200:Int)<(s.size:Int))=false:=by simp;omega
      cases vl with
      |true=>
       have hok:((0:Int) == 0 && decide (s.size≤200) && true && ([]:List PV).isEmpty)=true:=by simp [hs200]
       rw [hok]
       clear ih h6 hvl hnm hname hok kneg kbig k5 k0 k1 k2 k3 hs
       go_enter func97,ntmps97
       go_wp2_with (first
         |(go_at_call 100;(with_reducible refine (hname _).mono ?_);rintro e w1 ⟨rfl,rfl⟩)
         |(go_at_call 112;(with_reducible refine (hval _ hs200).mono ?_);rintro e w1 ⟨rfl,hb1⟩;obtain ⟨e0,e1,e2,e3⟩:=ZAi hb1;have hB1:=hB0.trans (hb1.mono hB0.size)))
       go_loopw [3] (fun i wr=>i=.int .i64 0∧Below (w.alloc (vobj 4 0 s a ([]:List PV).length cap)).heap.size (w.alloc (vobj 4 0 s a ([]:List PV).length cap)) wr) (fun _ _=>0)
       case atStart=>exact ⟨rfl,by first | exact hb1 | exact Below.refl _ _⟩
       case round=>
        obtain ⟨rfl,hB⟩:=hrel
        obtain ⟨f0,f1,f2,f3⟩:=ZAi hB
        go_wp2
        go_ret
        exact ⟨rfl,hB0.trans (hB.mono hB0.size)⟩
      |false=>
       have hok:((0:Int) == 0 && decide (s.size≤200) && false && ([]:List PV).isEmpty)=false:=by simp
       rw [hok]
       clear ih h6 hvl hnm hname hok kneg kbig k5 k0 k1 k2 k3 hs
       go_enter func97,ntmps97
       go_wp2_with (first
         |(go_at_call 100;(with_reducible refine (hname _).mono ?_);rintro e w1 ⟨rfl,rfl⟩)
         |(go_at_call 112;(with_reducible refine (hval _ hs200).mono ?_);rintro e w1 ⟨rfl,hb1⟩;obtain ⟨e0,e1,e2,e3⟩:=ZAi hb1;have hB1:=hB0.trans (hb1.mono hB0.size)))
       go_ret
       exact ⟨rfl,by first | exact hB1 | exact hB0⟩
     ·have d200:decide ((200:Int)<(s.size:Int))=true:=by simp;omega
      have hok:((0:Int) == 0 && decide (s.size≤200) && vl && ([]:List PV).isEmpty)=false:=by simp [hs200]
      rw [hok]
      clear ih h6 hvl hnm hname hval hok kneg kbig k5 k0 k1 k2 k3 hs
      go_enter func97,ntmps97
      go_wp2_with (first
        |(go_at_call 100;(with_reducible refine (hname _).mono ?_);rintro e w1 ⟨rfl,rfl⟩)
        |(go_at_call 112;(with_reducible refine (hval _ hs200).mono ?_);rintro e w1 ⟨rfl,hb1⟩;obtain ⟨e0,e1,e2,e3⟩:=ZAi hb1;have hB1:=hB0.trans (hb1.mono hB0.size)))
      go_ret
      exact ⟨rfl,by first | exact hB1 | exact hB0⟩
    ·have dn:(n != 0)=true:=by simpa using hn
     have hok:(n == 0 && decide (s.size≤200) && vl && ([]:List PV).isEmpty)=false:=by simp [hn]
     rw [hok]
     clear ih h6 hvl hnm hname hval hok kneg kbig k5 k0 k1 k2 k3 hs
     go_enter func97,ntmps97
     go_wp2_with (first
       |(go_at_call 100;(with_reducible refine (hname _).mono ?_);rintro e w1 ⟨rfl,rfl⟩)
       |(go_at_call 112;(with_reducible refine (hval _ hs200).mono ?_);rintro e w1 ⟨rfl,hb1⟩;obtain ⟨e0,e1,e2,e3⟩:=ZAi hb1;have hB1:=hB0.trans (hb1.mono hB0.size)))
     go_ret
     exact ⟨rfl,by first | exact hB1 | exact hB0⟩
  ·have hok:okV (.mk k n s l)=false:=by
    cases hb:okV (.mk k n s l) with
    |false=>rfl
    |true=>exact absurd ((ZC7 hb).2.2.2.1 k5) hl
   rw [hok]
   have dk:(k != 5)=true:=by simpa using k5
   have hlp:0<l.length:=List.length_pos_iff.2 hl
   have dl:decide (0<l.length)=true:=by simpa using hlp
   have dl2:decide ((0:Int)<(l.length:Int))=true:=by simp;omega
   have dl3:l.isEmpty=false:=by simpa using hl
   clear ih h6 hvl hnm hname hval hok kneg kbig k5
   go_enter func97,ntmps97
   go_wp2_with (first
     |(go_at_call 100;(with_reducible refine (hname _).mono ?_);rintro e w1 ⟨rfl,rfl⟩)
     |(go_at_call 112;(with_reducible refine (hval _ hs200).mono ?_);rintro e w1 ⟨rfl,hb1⟩;obtain ⟨e0,e1,e2,e3⟩:=ZAi hb1;have hB1:=hB0.trans (hb1.mono hB0.size)))
   go_ret
   exact ⟨rfl,by first | exact hB1 | exact hB0⟩
open Go.RowKit Go.Shelf
theorem ZQr:∀ v:PV,okV v=true→rdV v=deepV v:=by
 intro v
 induction v using ZB1 with
 |h k m s l ih=>
  intro ho
  obtain ⟨_,_,_,hl5,_,hol,_,_⟩:=ZC7 ho
  simp only [rdV,deepV]
  by_cases hk:k=5
  ·rw [if_pos hk,if_pos hk]
   have key:∀ (l:List PV),(∀ y∈l,rdV y=deepV y)→∀ z:Nat,rdL (z:Int) l=((max z (deepL l):Nat):Int):=by
    intro l
    induction l with
    |nil=>intro _ z;simp [rdL,deepL]
    |cons x r ih2=>
     intro h z
     simp only [rdL,deepL]
     have hx:=h x (by simp)
     have h2:=ih2 (fun y hy=>h y (by simp [hy]))
     by_cases hz:(z:Int)<rdV x
     ·rw [if_pos hz,hx,h2];congr 1;omega
     ·rw [if_neg hz,h2];congr 1;omega
   have:=key l (fun y hy=>ih y hy (ZF7 hol y hy)) 0
   simp only [Int.natCast_zero] at this
   rw [this];omega
  ·have hl:=hl5 hk
   subst hl
   rw [if_neg hk,if_neg hk]
   simp [rdL,deepL]
theorem ZQf:∀ v:PV,okV v=true→∀ d n:Nat,deepV v≤d→szV v≤n→cntV v n d=(n:Int)-szV v:=by
 intro v
 induction v using ZB1 with
 |h k m s l ih=>
  intro ho d n hd hn
  obtain ⟨_,_,_,hl5,_,hol,_,_⟩:=ZC7 ho
  simp only [cntV,szV,deepV] at *
  rw [if_neg (by omega)]
  by_cases hk:k=5
  ·rw [if_pos hk] at hd
   have key:∀ (l:List PV),(∀ y∈l,okV y=true→∀ d n:Nat,deepV y≤d→szV y≤n→cntV y n d=(n:Int)-szV y)→(∀ y∈l,okV y=true)→∀ d n:Nat,deepL l≤d→szL l≤n→cntL l n d=(n:Int)-szL l:=by
    intro l
    induction l with
    |nil=>intro _ _ d n _ _;simp [cntL,szL]
    |cons x r ih2=>
     intro h ho d n hd hn
     simp only [cntL,szL,deepL] at *
     have h1:=h x (by simp) (ho x (by simp)) d n (by omega) (by omega)
     rw [if_neg (by rw [h1];omega),h1]
     have h2:=ih2 (fun y hy=>h y (by simp [hy])) (fun y hy=>ho y (by simp [hy])) d (n-szV x) (by omega) (by omega)
     rw [show ((n-szV x:Nat):Int)=(n:Int)-szV x by omega] at h2
     rw [h2];omega
   have h3:=key l (fun y hy=>ih y hy) (ZF7 hol) (d-1) (n-1) (by omega) (by omega)
   rw [show ((n-1:Nat):Int)=(n:Int)-1 by omega,show ((d-1:Nat):Int)=(d:Int)-1 by omega] at h3
   rw [h3];omega
  ·have hl:=hl5 hk
   subst hl
   simp [cntL,szL]
theorem ZJA (v:PV) (w:World) (x:Value) (hi:Is w v x):Calls Tryz.prog 99 #[x] w fun e w'=>e=.returned (.int .i64 (1001-cntV v 1001 1000))∧Below w.heap.size w w':=by
 have hC:=fun w x hi=>ZHq v 1001 1000 (by omega) (by omega) (by omega) (by omega) w x hi
 have hbd:=ZHp v 1001 1000 (by omega)
 generalize cntV v 1001 1000=c at *
 have hi2:=ZZY hi
 obtain ⟨k,m,s,a,len,cap,rfl⟩:=ZDb hi
 have hB0:=(Below.refl _ w).alloc (Nat.le_refl _) (vobj k m s a len cap)
 clear hi
 go_enter func99,ntmps99
 go_wp2_with (first | (go_at_call 113;(with_reducible refine (hC _ _ (ZAf hB0 _ _ hi2.out)).mono ?_);rintro e w' ⟨rfl,hb⟩))
 go_ret
 exact ⟨ZBK (by go_num),hB0.trans (hb.mono hB0.size)⟩
theorem ZPC (v:PV):rightV v=(okV v && decide (rdV v≤4) && decide (1001-cntV v 1001 1000≤100)):=by
 unfold rightV
 cases ho:okV v with
 |false=>simp
 |true=>
  rw [ZQr v ho]
  by_cases hd:deepV v≤4
  ·have hd2:decide ((deepV v:Int)≤4)=true:=by simp;omega
   rw [decide_eq_true hd,hd2]
   simp only [Bool.true_and,Bool.and_true]
   by_cases hs:szV v≤1001
   ·have h:=ZQf v ho 1000 1001 (by omega) hs
    rw [show ((1001:Nat):Int)=1001 from rfl,show ((1000:Nat):Int)=1000 from rfl] at h
    rw [h,Bool.eq_iff_iff]
    simp only [decide_eq_true_eq];omega
   ·have h:=ZHp v 1001 1000 (by omega)
    rw [Bool.eq_iff_iff]
    simp only [decide_eq_true_eq];omega
  ·have hd2:decide ((deepV v:Int)≤4)=false:=by simp;omega
   rw [decide_eq_false hd,hd2]
   simp
theorem ZFE (v:PV) (hsz:szV v≤1000000) (w:World) (x:Value) (hi:Is w v x):Calls Tryz.prog 78 #[x] w fun e w'=>e=.returned (.bool (rightV v))∧Below w.heap.size w w':=by
 have hE:=fun w x hi=>ZKQ v w x hi
 have hD:=fun w x hi=>ZJD v hsz w x hi
 have hN:=fun w x hi=>ZJA v w x hi
 rw [ZPC v]
 obtain ⟨b1,e1⟩:∃ b,okV v=b:=⟨_,rfl⟩
 obtain ⟨d,e2⟩:∃ d,rdV v=d:=⟨_,rfl⟩
 obtain ⟨c,e3⟩:∃ c,1001-cntV v 1001 1000=c:=⟨_,rfl⟩
 rw [e1] at hE ⊢
 rw [e2] at hD ⊢
 rw [e3] at hN ⊢
 have hi2:=ZZY hi
 obtain ⟨k,m,s,a,len,cap,rfl⟩:=ZDb hi
 have hB0:=(Below.refl _ w).alloc (Nat.le_refl _) (vobj k m s a len cap)
 clear hi e1 e2 e3
 obtain ⟨bd,ebd⟩:∃ b,decide (d≤4)=b:=⟨_,rfl⟩
 obtain ⟨bc,ebc⟩:∃ b,decide (c≤100)=b:=⟨_,rfl⟩
 rw [ebd,ebc]
 cases b1<;>cases bd<;>cases bc
 all_goals (
  go_enter func78,ntmps78
  go_wp2_with (first
   |(go_at_call 97;(with_reducible refine (hE _ _ (ZAf hB0 _ _ hi2.out)).mono ?_);rintro e w1 ⟨rfl,hb1⟩;have hB1:=hB0.trans (hb1.mono hB0.size);obtain ⟨x0,x1,x2,x3⟩:=ZAi hb1)
   |(go_at_call 98;(with_reducible refine (hD _ _ (ZAf hB1 _ _ hi2.out)).mono ?_);rintro e w2 ⟨rfl,hb2⟩;have hB2:=hB1.trans (hb2.mono hB1.size);have hb12:=hb1.trans (hb2.mono hb1.size);obtain ⟨y0,y1,y2,y3⟩:=ZAi hb12)
   |(go_at_call 99;(with_reducible refine (hN _ _ (ZAf hB2 _ _ hi2.out)).mono ?_);rintro e w3 ⟨rfl,hb3⟩;have hB3:=hB2.trans (hb3.mono hB2.size)))
  go_ret
  exact ⟨ZAG (by simp),by first | exact hB3 | exact hB2 | exact hB1⟩)
open Go.RowKit Go.Shelf
theorem ZE1 (t k:Nat) (ht:(t:Int)≤9223372036854775807) (hk:k≤100) (w:World):Calls Tryz.prog 117 #[.int .i64 (t:Int),.int .i64 (k:Int)] w fun e w'=>e=.returned (.bool (Sc.has t k))∧w'=w:=by
 go_enter func117,ntmps117
 go_wp2
 go_loopw [0,5] (fun a i wr=>∃ q:Nat,q≤k∧i=.int .i64 (q:Int)∧a=.int .i64 ((t / 2 ^ q:Nat):Int)∧wr=w) (fun _ i _=>k-(intOf i).toNat)
 case atStart=>exact ⟨0,Nat.zero_le _,rfl,by simp,rfl⟩
 case round=>
  obtain ⟨q,hq,rfl,rfl,rfl⟩:=hrel
  obtain ⟨T,hT⟩:∃ T,t / 2 ^ q=T:=⟨_,rfl⟩
  have hTt:T≤t:=by rw [←hT];exact Nat.div_le_self _ _
  have hnext:t / 2 ^ (q+1)=T / 2:=by rw [←hT,Nat.pow_succ,Nat.div_div_eq_div_mul]
  have HN:=ZZY hnext;have HT:=ZZY hT
  rw [hT]
  clear hnext hT
  have hd2:(T:Int).tdiv 2=((T / 2:Nat):Int):=by rw [Int.tdiv_eq_ediv_of_nonneg (by omega)];omega
  have hm2:(T:Int).tmod 2=((T % 2:Nat):Int):=by rw [Int.tmod_eq_emod_of_nonneg (by omega)];omega
  rcases Nat.lt_or_ge q k with hlt | hge
  ·have hd:decide ((q:Int)<(k:Int))=true:=by simp;omega
   go_wp2
   go_roundw
   case rel=>exact ⟨q+1,by omega,by go_num,by (rw [HN.out];congr 1),trivial⟩
   case measure=>simp [intOf];omega
  ·obtain rfl:q=k:=by omega
   have hd:decide ((q:Int)<(q:Int))=false:=by simp
   go_wp2
   go_ret
   refine ⟨ZAG ?_,rfl⟩
   unfold Sc.has
   rw [HT.out]
   rcases Nat.mod_two_eq_zero_or_one T with h | h<;>simp [h]<;>omega
theorem ZCF {w:World} {s:SlotM} {x:Value} (h:ZBe w s x):∃ k n t a len cap,x=.agg #[.string s.nm,.int .i64 s.ty,.bool s.rq,.int .i64 k,.int .i64 n,.string t,.slice a len cap]∧I64 s.ty∧s.nm.size≤maxLen∧Is w s.df (.agg #[.int .i64 k,.int .i64 n,.string t,.slice a len cap]):=by
 obtain ⟨c0,c1,c2,c3,c4,c5,c6,rfl,h1,h2,rfl,rfl,rfl,h3⟩:=h
 have h4:=h3
 cases hd:s.df with
 |mk k n t l=>
  rw [hd] at h4
  unfold Is at h4
  obtain ⟨_,_,_,a,cap,e,_⟩:=h4
  simp only [Value.agg.injEq,Array.mk.injEq,List.cons.injEq,and_true] at e
  obtain ⟨rfl,rfl,rfl,rfl⟩:=e
  rw [hd] at h3
  exact ⟨_,_,_,_,_,_,rfl,h2,h1,h3⟩
theorem ZGr {k n:Int} {s:ByteArray} {l:List PV} (h:rightV (.mk k n s l)=true):0≤k∧k≤5:=by
 unfold rightV at h
 simp only [Bool.and_eq_true] at h
 have h2:=h.2
 refine Decidable.byContradiction fun hn=>?_
 have e:okV (.mk k n s l)=false:=by
  unfold okV
  rw [if_neg (by omega),if_neg (by omega),if_neg (by omega),if_neg (by omega),if_neg (by omega),if_neg (by omega)]
 rw [e] at h2
 cases h2
theorem ZKR (s:SlotM) (v:PV) (hsz:szV v≤1000000) (h0:0≤s.ty) (w:World) (x y:Value) (hs:ZBe w s x) (hv:Is w v y):Calls Tryz.prog 114 #[x,y] w fun e w'=>e=.returned (.bool (Sc.fits s.ty v))∧Below w.heap.size w w':=by
 obtain ⟨k0,n0,t0,a0,len0,cap0,rfl,hI,hnm,hd⟩:=ZCF hs
 have hR:=fun W hi=>ZFE v hsz W y hi
 obtain ⟨ty,hty⟩:∃ ty:Nat,s.ty=(ty:Int):=⟨s.ty.toNat,by omega⟩
 have hV:=fun W (hb:Below w.heap.size w W)=>ZAf hb _ _ hv
 cases v with
 |mk k n t l=>
 unfold Is at hv
 obtain ⟨hk,hn,ht,a,cap,rfl,_⟩:=hv
 have hb1:=(Below.refl _ w).alloc (Nat.le_refl _) (.cells #[.string s.nm,.int .i64 s.ty,.bool s.rq,.int .i64 k0,.int .i64 n0,.string t0,.slice a0 len0 cap0] 51)
 have hb2:=hb1.alloc hb1.size (.cells #[.int .i64 k,.int .i64 n,.string t,.slice a l.length cap] 49)
 have HV:=ZZY (hV _ hb2)
 have HR:=ZZY hR
 have hfit:Sc.fits s.ty (.mk k n t l)=(rightV (.mk k n t l) && Sc.has ty k.toNat):=by unfold Sc.fits Sc.kindV;rw [hty];rfl
 rw [hfit,hty]
 have hI1:(ty:Int)≤9223372036854775807:=by unfold I64 at hI;omega
 rw [hty] at hb1 hb2 HV
 clear hfit hV hR hty hs hd hI
 obtain ⟨r,hr⟩:∃ r,rightV (.mk k n t l)=r:=⟨_,rfl⟩
 have hkk:=ZGr (k:=k) (n:=n) (s:=t) (l:=l)
 rw [hr] at HR hkk ⊢
 clear hr
 have hc2:=World.alloc_heap_new (w.alloc (.cells #[.string s.nm,.int .i64 (ty:Int),.bool s.rq,.int .i64 k0,.int .i64 n0,.string t0,.slice a0 len0 cap0] 51)) (.cells #[.int .i64 k,.int .i64 n,.string t,.slice a l.length cap] 49)
 cases r with
 |false=>
  clear hkk
  go_enter func114,ntmps114
  go_wp2_with (go_at_call 78;(with_reducible refine (HR.out _ HV.out).mono ?_);rintro e w1 ⟨rfl,hB1⟩)
  go_ret
  exact ⟨rfl,hb2.trans (hB1.mono hb2.size)⟩
 |true=>
  obtain ⟨hk0,hk5⟩:=hkk rfl
  obtain ⟨kn,hkn⟩:∃ kn:Nat,k=(kn:Int):=⟨k.toNat,by omega⟩
  subst hkn
  rw [Int.toNat_natCast]
  have hH:=fun W=>ZE1 ty kn hI1 (by omega) W
  go_enter func114,ntmps114
  go_wp2_with (first
   |(go_at_call 78;(with_reducible refine (HR.out _ HV.out).mono ?_);rintro e w1 ⟨rfl,hB1⟩;have hx1:=ZAA hB1 (show World.cell? _ ⟨w.heap.size,1,none⟩=some (.int .i64 (ty:Int)) by simp);have hx2:=ZAA hB1 (show World.cell? _ ⟨w.heap.size+1,0,none⟩=some (.int .i64 (kn:Int)) by simp))
   |(go_at_call 117;(with_reducible refine (hH _).mono ?_);rintro e w2 ⟨rfl,rfl⟩))
  go_ret
  exact ⟨ZAG (by simp),hb2.trans (hB1.mono hb2.size)⟩
