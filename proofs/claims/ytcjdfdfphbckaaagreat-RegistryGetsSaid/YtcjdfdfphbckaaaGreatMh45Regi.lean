/- The document's reader for layer 6: in memory; Left, Done, number. -/
import Derived.Test.YtcjdfdfphbckaaaGreatMh6Regi
import Derived.Test.YtcjdfdfphbckaaaGreatMh23Regi
import Derived.Deep.QuietTactic
import Derived.BigQuiet
import Derived.RegionTactic
import Derived.Test.YtcjdfdfphbckaaaGreatMh7Regi
import Derived.Test.YtcjdfdfphbckaaaGreatMh4Regi
import Derived.Deep.RegionLaw
import Derived.Test.YtcjdfdfphbckaaaGreatMh13Regi
set_option linter.unusedVariables false
set_option linter.unusedSimpArgs false
set_option maxRecDepth 100000
set_option maxHeartbeats 64000000
open Go.Proofs.Tryz
namespace Go.Proofs.YtcjdfdfphbckaaaGreat
open Go.RowKit Go.Shelf
attribute [local go_sem] Oper.semAt_some
def TAt (W:World) (p:Nat) (a:Option Addr) (n c k:Nat) (bad:Bool):Prop:=W.heap[p]? = some (.cells #[.slice a n c,.int .i64 (k:Int),.bool bad] 32 (0,0))
theorem ZBD {W:World} {p:Nat} {a:Option Addr} {n c k:Nat} {bad:Bool} (h:TAt W p a n c k bad):(W.cell? ⟨p,0,none⟩=some (.slice a n c)∧W.cell? ⟨p,1,none⟩=some (.int .i64 (k:Int))∧W.cell? ⟨p,2,none⟩=some (.bool bad)) ∧
  (W.frozen? ⟨p,0,none⟩=false∧W.frozen? ⟨p,1,none⟩=false∧W.frozen? ⟨p,2,none⟩=false):=by
 simp [World.cell?,World.frozen?,show W.heap[p]? = _ from h]
theorem ZQW {W:World} {p:Nat} {a:Option Addr} {n c k:Nat} {bad:Bool} (h:TAt W p a n c k bad):p<W.heap.size:=(ZZZ h).1
theorem ZPP {W:World} {p:Nat} {a:Option Addr} {n c k:Nat} {bad:Bool} (h:TAt W p a n c k bad) (k':Nat):TAt (W.setCell ⟨p,1,none⟩ (.int .i64 (k':Int))) p a n c k' bad:=by
 obtain ⟨hlt,hk⟩:=ZZZ h
 show (W.heap.modify p _)[p]? = _
 rw [Array.getElem?_eq_getElem (by rw [Array.size_modify];exact hlt),Array.getElem_modify_self,hk]
 rfl
theorem ZNm {W:World} {p:Nat} {a:Option Addr} {n c k:Nat} {bad:Bool} (h:TAt W p a n c k bad) (b:Bool):TAt (W.setCell ⟨p,2,none⟩ (.bool b)) p a n c k b:=by
 obtain ⟨hlt,hk⟩:=ZZZ h
 show (W.heap.modify p _)[p]? = _
 rw [Array.getElem?_eq_getElem (by rw [Array.size_modify];exact hlt),Array.getElem_modify_self,hk]
 rfl
structure Src where
 w0:World
 a:Option Addr
 n:Nat
 c:Nat
 l:List Int
 row:Row w0 .u8 a n c l
 bytes:ZCh l
 small:n≤1000000
def RT (S:Src) (W:World) (p:Nat) (s:Bn.St):Prop:=S.w0.heap.size≤p∧Below S.w0.heap.size S.w0 W∧∃ k,k≤S.n∧TAt W p S.a S.n S.c k s.isNone∧∀ x,s=some x→x=S.l.drop k
theorem ZDq {S:Src} {W:World} {p:Nat} {s:Bn.St} (h:RT S W p s):p<W.heap.size:=by
 obtain ⟨_,_,k,_,h,_⟩:=h
 exact ZQW h
theorem ZHY {S:Src} {W W':World} {p:Nat} {s:Bn.St} (h:RT S W p s) (hb:Below S.w0.heap.size W W') (hp:W'.heap[p]? = W.heap[p]?):RT S W' p s:=by
 obtain ⟨h1,h2,k,h3,h4,h5⟩:=h
 exact ⟨h1,h2.trans hb,k,h3,hp.trans h4,h5⟩
theorem ZA6 {S:Src} {W W':World} {p:Nat} {s:Bn.St} (h:RT S W p s) (hb:Below W.heap.size W W'):RT S W' p s:=
 ZHY h (hb.mono h.2.1.size) (hb.block p (ZDq h))
theorem ZPQ {S:Src} {W:World} {p:Nat} {s:Bn.St} (h:RT S W p s):Row W .u8 S.a S.n S.c S.l:=ZAk S.row h.2.1 rfl
theorem ZQX {S:Src} {W:World} {p:Nat} {s:Bn.St} (h:RT S W p s):(Bn.lf s).length≤S.n:=by
 obtain ⟨_,_,k,h3,h4,h5⟩:=h
 cases s with
 |none=>simp [Bn.lf]
 |some x=>
  have:=h5 x rfl
  have hl:=S.row.1
  simp only [Bn.lf]
  rw [this,List.length_drop];omega
theorem ZL7 (S:Src) (p:Nat) (s:Bn.St) (w:World) (h:RT S w p s):Calls Tryz.prog 12 #[.pointer (some ⟨p,0,none⟩)] w fun e w'=>e=.returned (.int .i64 ((Bn.lf s).length:Int))∧∃ n,w'=w.drewN n:=by
 obtain ⟨_,_,k,hk,h4,h5⟩:=h
 obtain ⟨⟨c0,c1,c2⟩,_⟩:=ZBD h4
 have hsm:=S.small
 have hl:=S.row.1
 clear h4
 cases s with
 |none=>
  simp only [Option.isNone_none,Bn.lf] at *
  go_enter func12,ntmps12
  go_wp2
  go_ret
  exact ⟨rfl,0,rfl⟩
 |some x=>
  obtain rfl:=h5 x rfl
  simp only [Option.isNone_some,Bn.lf] at *
  obtain ⟨r,hr⟩:∃ r:Nat,(S.n:Int)-(k:Int)=(r:Int):=⟨S.n-k,by omega⟩
  have hlen:((S.l.drop k).length:Int)=(r:Int):=by rw [List.length_drop];omega
  rw [hlen]
  have HL:=ZZY hlen
  clear hlen h5 hl
  go_enter func12,ntmps12
  go_wp2
  go_quiet (fail)
  go_wp2
  go_ret
  exact ⟨rfl,_,rfl⟩
theorem ZL8 (S:Src) (p:Nat) (s:Bn.St) (w:World) (h:RT S w p s):Calls Tryz.prog 20 #[.pointer (some ⟨p,0,none⟩)] w fun e w'=>e=.returned (.bool (Bn.done s))∧∃ n,w'=w.drewN n:=by
 obtain ⟨_,_,k,hk,h4,h5⟩:=h
 obtain ⟨⟨c0,c1,c2⟩,_⟩:=ZBD h4
 have hsm:=S.small
 have hl:=S.row.1
 clear h4
 cases s with
 |none=>
  simp only [Option.isNone_none] at *
  go_enter func20,ntmps20
  go_wp2
  go_quiet (fail)
  go_wp2
  go_ret
  exact ⟨rfl,_,rfl⟩
 |some x=>
  obtain rfl:=h5 x rfl
  simp only [Option.isNone_some] at *
  have hd:Bn.done (some (S.l.drop k))=((k:Int) == (S.n:Int)):=by
   rw [Bool.eq_iff_iff,beq_iff_eq]
   have e:(S.l.drop k).length=S.n-k:=by rw [List.length_drop];omega
   cases hx:S.l.drop k with
   |nil=>rw [hx] at e;simp [Bn.done] at e ⊢;omega
   |cons y r=>rw [hx] at e;simp [Bn.done] at e ⊢;omega
  rw [hd]
  have HD:=ZZY hd
  clear hd h5 hl
  go_enter func20,ntmps20
  go_wp2
  go_quiet (fail)
  go_wp2
  go_ret
  exact ⟨ZAG (by simp),_,rfl⟩
theorem ZP6 (l:List Int) (k i:Nat):(l.drop k)[i]?.getD 0=l[k+i]?.getD 0:=by rw [List.getElem?_drop]
def ZOp (S:Src) (p:Nat) (w:World) (x:Nat) (s:Bn.St) (e:Ending) (w':World):Prop:=e=.returned (.tuple #[.int .u64 (x:Int),.bool s.isSome])∧RT S w' p s∧w.grownBy w' (some p)
theorem ZDW {w w':World} {row:Option Nat} (h:w.grownBy w' row) (n:Nat):w.grownBy (w'.drewN n) row:=ZAC h (ZAZ (ZAh (Below.refl _ w') n) row)
theorem ZDr (S:Src) (m:Nat) (hm:m≤8) (p:Nat) (s:Bn.St) (w:World) (h:RT S w p s) :
  Calls Tryz.prog 47 #[.pointer (some ⟨p,0,none⟩),.int .i64 (m:Int)] w (ZOp S p w (Bn.num m s).1 (Bn.num m s).2):=by
 obtain ⟨hpw,hbw,k,hk,h4,h5⟩:=id h
 have H:=ZZY h
 obtain ⟨⟨c0,c1,c2⟩,f0,f1,f2⟩:=ZBD h4
 have hsm:=S.small
 have hl:=S.row.1
 have hbadW:∀ W n,W=(w.drewN n).setCell ⟨p,2,none⟩ (.bool true)→RT S W p none∧w.grownBy W (some p):=fun W n e=>by
  subst e
  have hA:TAt (w.drewN n) p S.a S.n S.c k s.isNone:=h4
  refine ⟨⟨hpw,(ZAh hbw n).setCell (p:=⟨p,2,none⟩) hpw _,k,hk,ZNm hA true,fun x e=>by cases e⟩, ?_⟩
  exact ZAC (ZAZ (ZAh (Below.refl _ w) n) _) (ZAY p 2 _)
 have HBAD:=ZZY hbadW
 cases s with
 |none=>
  simp only [Option.isNone_none] at *
  rw [Bn.num_none]
  clear h hbadW h4 h5 hl
  go_enter func47,ntmps47
  go_wp2
  go_quiet (fail)
  go_wp2
  go_ret2
  obtain ⟨q1,q2⟩:=HBAD.out _ _ rfl
  exact ⟨rfl,q1,q2⟩
 |some x=>
  obtain rfl:=h5 x rfl
  simp only [Option.isNone_some] at *
  obtain ⟨r,hr⟩:∃ r:Nat,(S.n:Int)-(k:Int)=(r:Int):=⟨S.n-k,by omega⟩
  have hrl:(S.l.drop k).length=r:=by rw [List.length_drop];omega
  by_cases hmr:m≤r
  ·have hnum:Bn.num m (some (S.l.drop k))=(Bn.jn ((S.l.drop k).take m),some ((S.l.drop k).drop m)):=by simp only [Bn.num];rw [if_pos (by omega)]
   rw [hnum]
   have hd1:decide (r<m)=false:=by simp;omega
   have hrow:=ZPQ h
   have hbd:∀ j,j≤7→Bn.jn ((S.l.drop k).take j)<72057594037927936:=fun j hj=>
    Nat.lt_of_lt_of_le (Bn.jn_lt _ fun x hx=>ZC0 S.bytes x (List.mem_of_mem_drop (List.mem_of_mem_take hx))) (Nat.le_trans (Nat.pow_le_pow_right (by omega) (by rw [List.length_take];omega)) (Bn.pow7 7 (Nat.le_refl _)))
   have HBD:=ZZY hbd
   have HROW:=ZZY hrow
   have HRL:=ZZY hrl
   have HB:=ZZY S.bytes
   have H4:=ZZY h4
   have hkr:k+r=S.n:=by omega
   clear h hbadW h5 hbd hrow hrl hl hnum h4
   go_enter func47,ntmps47
   go_wp2
   go_quiet (fail)
   go_wp2
   go_loopw [6,7] (fun u i wr=>∃ j nq:Nat,j≤m∧i=.int .i64 (j:Int)∧u=.int .u64 (Bn.jn ((S.l.drop k).take j):Nat)∧wr=w.drewN nq) (fun _ i _=>m-(intOf i).toNat)
   case atStart=>exact ⟨0,_,Nat.zero_le _,rfl,rfl,rfl⟩
   case round=>
    obtain ⟨j,nq,hj,rfl,rfl,rfl⟩:=hrel
    by_cases hlt:j<m
    ·have hdj:decide (j<m)=true:=by simpa using hlt
     have hR4:=HROW.out.2.2.2
     rcases hR4 with h0 | ⟨B',off',ha,hc⟩
     ·exfalso;omega
     have cj:=hc (k+j) (by omega)
     rw [ha] at c0
     have HR:=ZZY (ZNv (S.l.drop k) j (by rw [HRL.out];omega))
     rw [ZP6] at HR
     have hx:=HB.out (k+j)
     have hb:=HBD.out j (by omega)
     generalize S.l[k+j]?.getD 0=x at cj HR hx
     generalize Bn.jn ((S.l.drop k).take j)=u at hb HR
     obtain ⟨hx0,hx1⟩:=hx
     obtain ⟨y,rfl⟩:=Int.eq_ofNat_of_zero_le hx0
     rw [Int.toNat_natCast] at HR
     obtain ⟨t,ht⟩:∃ t:Nat,t=k+j:=⟨_,rfl⟩
     have hsum:(k:Int)+(j:Int)=(t:Int):=by omega
     have hwm:IntKind.u64.wrap ((u:Int)*256)=(u:Int)*256:=by rw [IntKind.wrap_u64];omega
     have hwa:IntKind.u64.wrap ((u:Int)*256+(y:Int))=(u:Int)*256+(y:Int):=by rw [IntKind.wrap_u64];omega
     have hkj:t<S.n:=by omega
     rw [←ht] at cj
     clear hc ht
     go_wp2
     go_quiet (fail)
     go_wp2
     go_roundw
     case rel=>exact ⟨j+1,_,by omega,by go_num,by rw [HR.out];simp,rfl⟩
     case measure=>
      have e:(intOf (.int .i64 ((j:Int)+1))).toNat=j+1:=by simp only [intOf];omega
      have e':(intOf (.int .i64 (j:Int))).toNat=j:=by simp only [intOf];omega
      rw [e,e'];omega
    ·obtain rfl:j=m:=by omega
     have hdj:decide (j<j)=false:=by simp
     obtain ⟨t,ht⟩:∃ t:Nat,t=k+j:=⟨_,rfl⟩
     have hsum:(k:Int)+(j:Int)=(t:Int):=by omega
     have htn:t≤S.n:=by omega
     have HT:=ZZY ht
     clear ht
     have hA:TAt (w.drewN nq) p S.a S.n S.c k false:=H4.out
     go_wp2
     go_ret2
     refine ⟨rfl,⟨hpw,(ZAh hbw nq).setCell (p:=⟨p,1,none⟩) hpw _,t,htn,ZPP hA t,fun x e=>?_⟩,ZAC (ZAZ (ZAh (Below.refl _ w) nq) _) (ZAY p 1 _)⟩
     cases e
     rw [List.drop_drop,HT.out]
  ·have hnum:Bn.num m (some (S.l.drop k))=(0,none):=by simp only [Bn.num];rw [if_neg (by omega)]
   rw [hnum]
   have hd1:decide (r<m)=true:=by simp;omega
   clear h hbadW h4 h5 hl hnum
   go_enter func47,ntmps47
   go_wp2
   go_quiet (fail)
   go_wp2
   go_ret2
   obtain ⟨q1,q2⟩:=HBAD.out _ _ rfl
   exact ⟨rfl,q1,q2⟩
open Go.RowKit Go.Shelf
attribute [local go_sem] Oper.semAt_some
theorem ZFV {S:Src} {W:World} {p:Nat} {s:Bn.St} (h:RT S W p s):∀ x∈Bn.lf s,0≤x∧x≤255:=by
 obtain ⟨_,_,k,h3,h4,h5⟩:=h
 cases s with
 |none=>simp [Bn.lf]
 |some x=>
  intro y hy
  rw [Bn.lf,h5 x rfl] at hy
  exact ZC0 S.bytes y (List.mem_of_mem_drop hy)
theorem ZFy {S:Src} {W:World} {p:Nat} {s:Bn.St} (h:RT S W p s):RT S (W.setCell ⟨p,2,none⟩ (.bool true)) p none:=by
 obtain ⟨h1,h2,k,h3,h4,h5⟩:=h
 exact ⟨h1,h2.setCell (p:=⟨p,2,none⟩) h1 _,k,h3,ZNm h4 true,fun x e=>by cases e⟩
theorem ZEa {S:Src} {W:World} {p:Nat} {s:Bn.St} (h:RT S W p s) (n:Nat):RT S (W.drewN n) p s:=ZA6 h (ZAh (Below.refl _ W) n)
def ZHZ (S:Src) (p:Nat) (w:World) (x:Int) (s:Bn.St) (e:Ending) (w':World):Prop:=e=.returned (.int .i64 x)∧RT S w' p s∧w.grownBy w' (some p)
theorem ZBN (S:Src) (p:Nat) (s:Bn.St) (w:World) (h:RT S w p s):Calls Tryz.prog 30 #[.pointer (some ⟨p,0,none⟩)] w (ZHZ S p w (Bn.rByte s).1 (Bn.rByte s).2):=by
 have hN:Calls Tryz.prog 47 #[.pointer (some ⟨p,0,none⟩),.int .i64 1] w (ZOp S p w (Bn.num 1 s).1 (Bn.num 1 s).2):=ZDr S 1 (by omega) p s w h
 have hlt:=Bn.num_lt 1 s (ZFV h)
 unfold Bn.rByte
 generalize Bn.num 1 s=r at *
 obtain ⟨x,s2⟩:=r
 dsimp only at *
 clear h
 go_enter func30,ntmps30
 go_wp2_with (first | (go_at_call 47;(with_reducible refine hN.mono ?_);rintro e w1 ⟨rfl,hR,hG⟩))
 go_ret
 exact ⟨rfl,hR,hG⟩
theorem ZL9 (S:Src) (p:Nat) (s:Bn.St) (w:World) (h:RT S w p s):Calls Tryz.prog 96 #[.pointer (some ⟨p,0,none⟩)] w (ZHZ S p w (Bn.rLong s).1 (Bn.rLong s).2):=by
 have hN:Calls Tryz.prog 47 #[.pointer (some ⟨p,0,none⟩),.int .i64 8] w (ZOp S p w (Bn.num 8 s).1 (Bn.num 8 s).2):=ZDr S 8 (by omega) p s w h
 unfold Bn.rLong
 generalize Bn.num 8 s=r at *
 obtain ⟨x,s2⟩:=r
 dsimp only at *
 clear h
 go_enter func96,ntmps96
 go_wp2_with (first | (go_at_call 47;(with_reducible refine hN.mono ?_);rintro e w1 ⟨rfl,hR,hG⟩))
 go_ret
 exact ⟨by rw [show IntKind.i64.wrap (x:Int)=wrap64 (x:Int) by rw [IntKind.wrap_i64];unfold wrap64;omega];rfl,hR,hG⟩
theorem ZCx (S:Src) (p:Nat) (s:Bn.St) (w:World) (h:RT S w p s):Calls Tryz.prog 27 #[.pointer (some ⟨p,0,none⟩)] w (ZHZ S p w (Bn.rNum s).1 (Bn.rNum s).2):=by
 have hN:Calls Tryz.prog 47 #[.pointer (some ⟨p,0,none⟩),.int .i64 4] w (ZOp S p w (Bn.num 4 s).1 (Bn.num 4 s).2):=ZDr S 4 (by omega) p s w h
 have hlt:=Bn.num_lt 4 s (ZFV h)
 have hno:(Bn.num 4 s).2=none→(Bn.num 4 s).1=0:=by
  cases s with
  |none=>intro _;rfl
  |some l=>
   simp only [Bn.num]
   split
   ·intro e;cases e
   ·intro _;rfl
 unfold Bn.rNum
 generalize Bn.num 4 s=r at *
 obtain ⟨x,s2⟩:=r
 dsimp only at *
 clear h
 cases s2 with
 |none=>
  obtain rfl:=hno rfl
  rw [if_neg (by omega)]
  go_enter func27,ntmps27
  go_wp2_with (first | (go_at_call 47;(with_reducible refine hN.mono ?_);rintro e w1 ⟨rfl,hR,hG⟩))
  go_ret
  exact ⟨rfl,hR,hG⟩
 |some l=>
  clear hno
  by_cases hx:2147483647<x
  ·rw [if_pos hx]
   have hd:decide (2147483647<(x:Int))=true:=by simp;omega
   go_enter func27,ntmps27
   go_wp2_with (first | (go_at_call 47;(with_reducible refine hN.mono ?_);rintro e w1 ⟨rfl,hR,hG⟩;obtain ⟨_,_,k,hk,hA,hxx⟩:=id hR;obtain ⟨⟨c0,c1,c2⟩,f0,f1,f2⟩:=ZBD hA;simp only [Option.isSome_some] at *))
   go_ret
   exact ⟨rfl,ZFy hR,ZAC hG (ZAY p 2 _)⟩
  ·rw [if_neg hx]
   have hd:decide (2147483647<(x:Int))=false:=by simp;omega
   go_enter func27,ntmps27
   go_wp2_with (first | (go_at_call 47;(with_reducible refine hN.mono ?_);rintro e w1 ⟨rfl,hR,hG⟩))
   go_ret
   exact ⟨rfl,hR,hG⟩
def ZQo (S:Src) (p:Nat) (w:World) (x:ByteArray) (s:Bn.St) (e:Ending) (w':World):Prop:=e=.returned (.string x)∧RT S w' p s∧w.grownBy w' (some p)
theorem ZP7 (s:Bn.St):(Bn.rNum s).1≤2147483647:=by
 unfold Bn.rNum
 split
 ·exact Nat.zero_le _
 ·omega
theorem ZDL (S:Src) (p:Nat) (s:Bn.St) (w:World) (h:RT S w p s):Calls Tryz.prog 28 #[.pointer (some ⟨p,0,none⟩)] w (ZQo S p w (Bn.rText s).1 (Bn.rText s).2):=by
 have hN:=ZCx S p s w h
 have hlt:=ZP7 s
 unfold Bn.rText
 generalize Bn.rNum s=r at *
 obtain ⟨n,s1⟩:=r
 dsimp only at *
 clear h
 have hsm:=S.small
 cases s1 with
 |none=>
  have e:Bn.txt n none=(⟨#[]⟩,none):=rfl
  rw [e];clear e
  go_enter func28,ntmps28
  go_wp2_with (first | (go_at_call 27;(with_reducible refine hN.mono ?_);rintro e w1 ⟨rfl,hR,hG⟩;obtain ⟨_,_,k,hk,hA,hxx⟩:=id hR;obtain ⟨⟨c0,c1,c2⟩,f0,f1,f2⟩:=ZBD hA;simp only [Option.isNone_none] at c2))
  go_quiet (fail)
  go_wp2
  go_ret
  exact ⟨rfl,ZFy (ZEa hR _),ZAC (ZDW hG _) (ZAY p 2 _)⟩
 |some l1=>
  obtain ⟨r,hr⟩:∃ r:Nat,l1.length=r:=⟨_,rfl⟩
  by_cases hrn:r<n
  ·have e:Bn.txt n (some l1)=(⟨#[]⟩,none):=by simp only [Bn.txt];rw [if_neg (by omega)]
   rw [e];clear e
   have hd:decide (r<n)=true:=by simpa using hrn
   go_enter func28,ntmps28
   go_wp2_with (first | (go_at_call 27;(with_reducible refine hN.mono ?_);rintro e w1 ⟨rfl,hR,hG⟩;obtain ⟨_,_,k,hk,hA,hxx⟩:=id hR;obtain ⟨⟨c0,c1,c2⟩,f0,f1,f2⟩:=ZBD hA;simp only [Option.isNone_some] at c2;have hkr:(S.n:Int)-(k:Int)=(r:Int):=(by have h1:=hxx _ rfl;have h2:=S.row.1;rw [h1,List.length_drop] at hr;omega)))
   go_quiet (fail)
   go_wp2
   go_ret
   exact ⟨rfl,ZFy (ZEa hR _),ZAC (ZDW hG _) (ZAY p 2 _)⟩
  ·have e:Bn.txt n (some l1)=(strOfNums (l1.take n),some (l1.drop n)):=by simp only [Bn.txt];rw [if_pos (by omega)]
   rw [e];clear e
   have hd:decide (r<n)=false:=by simpa using hrn
   go_enter func28,ntmps28
   go_wp2_with (first | (go_at_call 27;(with_reducible refine hN.mono ?_);rintro e w1 ⟨rfl,hR,hG⟩;obtain ⟨_,_,k,hk,hA,hxx⟩:=id hR;obtain ⟨⟨c0,c1,c2⟩,f0,f1,f2⟩:=ZBD hA;simp only [Option.isNone_some] at c2;have hkr:(S.n:Int)-(k:Int)=(r:Int):=(by have h1:=hxx _ rfl;have h2:=S.row.1;rw [h1,List.length_drop] at hr;omega)))
   obtain ⟨t,ht⟩:∃ t:Nat,t=k+n:=⟨_,rfl⟩
   have hsum:(k:Int)+(n:Int)=(t:Int):=by omega
   have hdif:(t:Int)-(n:Int)=(k:Int):=by omega
   have htn:t≤S.n:=by omega
   have hkt:k≤t:=by omega
   obtain ⟨a',hsl,hrow⟩:=ZO6 S.a S.n S.c k t hkt htn S.row.2.1
   have hl1:=hxx _ rfl
   have hW:∀ W m,W=(w1.drewN m).setCell ⟨p,1,none⟩ (.int .i64 (t:Int))→RT S W p (some (l1.drop n))∧w.grownBy W (some p):=fun W m e=>by
    subst e
    obtain ⟨q1,q2,_⟩:=ZEa hR m
    have hA':TAt (w1.drewN m) p S.a S.n S.c k false:=hA
    refine ⟨⟨q1,q2.setCell (p:=⟨p,1,none⟩) q1 _,t,htn,ZPP hA' t,fun x e=>?_⟩,ZAC (ZDW hG _) (ZAY p 1 _)⟩
    cases e
    rw [hl1,List.drop_drop,ht]
   have htk:(S.l.drop k).take (t-k)=l1.take n:=by rw [hl1,show t-k=n by omega]
   have hrow2:∀ W,Row W .u8 S.a S.n S.c S.l→Row W .u8 a' (t-k) (S.c-k) (l1.take n):=fun W h=>by have:=hrow W _ h;rwa [htk] at this
   have hconv:∀ m j,(convert 22 9 (.slice a' (t-k) (S.c-k))).run Tryz.prog (((w1.drewN m).setCell ⟨p,1,none⟩ (.int .i64 (t:Int))).drewN j)=.ok (.string (strOfNums (l1.take n))) (((w1.drewN m).setCell ⟨p,1,none⟩ (.int .i64 (t:Int))).drewN j):=fun m j=>ZK1 (hrow2 _ (ZPQ (ZEa (hW _ m rfl).1 j)))
   have HW:=ZZY hW
   clear ht hrow hrow2 hl1 hxx hA hr hW htk
   go_quiet (fail)
   go_wp2
   go_quiet (fail)
   go_wp2
   go_ret
   obtain ⟨q1,q2⟩:=HW.out _ _ rfl
   exact ⟨rfl,ZEa q1 _,ZDW q2 _⟩
open Go.RowKit Go.Shelf
def VEl (B:Nat) (W:World) (u:Value) (ys:List PV) (cs:List Value):Prop:=
 ∀ (i:Nat) (y:PV),ys[i]? = some y→∃ c0 c1 c2 c3 E F,(cs[i*4]? = some c0∧cs[i*4+1]? = some c1∧cs[i*4+2]? = some c2∧cs[i*4+3]? = some c3) ∧
  (B≤E∧F≤W.heap.size∧∀ g,u.ownBlock=some g→g<E∨F≤g)∧∀ W':World,(∀ b,E≤b→b<F→W'.heap[b]? = W.heap[b]?)→Is W' y (.agg #[c0,c1,c2,c3])
def VRow (B:Nat) (W:World) (u:Value) (ys:List PV):Prop:=∃ cs,W.ownsRow B 49 4 u ys.length cs∧VEl B W u ys cs
theorem ZOq (B:Nat) (W:World):VRow B W (.slice none 0 0) []:=⟨[],World.ownsRow_nil _ _ _ _,fun i y h=>by simp at h⟩
theorem ZKw {B:Nat} {W W':World} {e:TypeId} {size n:Nat} {v:Value} {xs:List Value} (h:W.ownsRow B e size v n xs) (hb:∀ b,B≤b→b<W.heap.size→W'.heap[b]? = W.heap[b]?):W'.ownsRow B e size v n xs:=by
 refine ⟨h.1, ?_⟩
 rcases h.2 with hn | ⟨g,cap,cur,rfl,hg,hh,r⟩
 ·exact .inl hn
 ·exact .inr ⟨g,cap,cur,rfl,hg,(hb g hg (ZZZ hh).1).trans hh,r⟩
theorem ZNn {B:Nat} {W W':World} {u:Value} {ys:List PV} (h:VRow B W u ys) (hs:W.heap.size≤W'.heap.size) (hb:∀ b,B≤b→b<W.heap.size→W'.heap[b]? = W.heap[b]?):VRow B W' u ys:=by
 obtain ⟨cs,h1,h2⟩:=h
 refine ⟨cs,ZKw h1 hb,fun i y hy=>?_⟩
 obtain ⟨c0,c1,c2,c3,E,F,hc,⟨q1,q2,q3⟩,hi⟩:=h2 i y hy
 exact ⟨c0,c1,c2,c3,E,F,hc,⟨q1,Nat.le_trans q2 hs,q3⟩,fun W2 h=>hi W2 fun b b1 b2=>(h b b1 b2).trans (hb b (by omega) (by omega))⟩
theorem ZNo {w:World} {base:Nat} {e:TypeId} {size:Nat} {v:Value} {n:Nat} {xs:List Value} (h:w.ownsRow base e size v n xs):∀ b,v.ownBlock=some b→b<w.heap.size∧base≤b:=by
 intro b hb
 rcases h.2 with ⟨rfl,_⟩ | ⟨g,cap,cur,rfl,h1,hg,_⟩
 ·simp [Value.ownBlock] at hb
 ·obtain rfl:g=b:=by simpa [Value.ownBlock] using hb
  exact ⟨(ZZZ hg).1,h1⟩
theorem ZOr {B p:Nat} {w0 w4 w6:World} {u v':Value} {ys:List PV} {cs:List Value} {y:PV} {o:Obj} {d0 d1 d2 d3:Value} (hown:w0.ownsRow B 49 4 u ys.length cs) (h:VEl B w0 u ys cs) (hp:p<B) (hB:B≤w0.heap.size)
  (hg:w0.grownBy w4 (some p)) (hF:ZDg w0.heap.size w4 y (.agg #[d0,d1,d2,d3])) (hg6:(w4.alloc o).grownBy w6 u.ownBlock) (hv:v'.ownBlock=u.ownBlock∨v'.ownBlock=some (w4.alloc o).heap.size) :
  VEl B w6 v' (ys ++ [y]) (cs ++ [d0,d1,d2,d3]):=by
 have hlen:cs.length=ys.length*4:=hown.1
 have hub:=ZNo hown
 have hs1:=hg.size
 have hs2:(w4.alloc o).heap.size=w4.heap.size+1:=World.size_alloc _ _
 have hs3:=hg6.size
 have hal:∀ b,b<w4.heap.size→(w4.alloc o).heap[b]? = w4.heap[b]?:=fun b hb=>Below.heap_alloc w4 _ _ hb
 have h6:∀ b,b<w4.heap.size→some b≠u.ownBlock→w6.heap[b]? = w4.heap[b]?:=fun b hb hne=>(hg6.block b (by omega) hne).trans (hal b hb)
 intro i z hz
 rcases Nat.lt_or_ge i ys.length with hlt | hge
 ·rw [List.getElem?_append_left hlt] at hz
  obtain ⟨c0,c1,c2,c3,E,F,⟨u0,u1,u2,u3⟩,⟨q1,q2,q3⟩,hi⟩:=h i z hz
  refine ⟨c0,c1,c2,c3,E,F,⟨?_, ?_, ?_, ?_⟩,⟨q1,by omega,fun g hg=>?_⟩,fun W' h'=>hi W' fun b b1 b2=>?_⟩
  ·rw [List.getElem?_append_left (by omega),u0]
  ·rw [List.getElem?_append_left (by omega),u1]
  ·rw [List.getElem?_append_left (by omega),u2]
  ·rw [List.getElem?_append_left (by omega),u3]
  ·rcases hv with hv | hv
   ·exact q3 g (hv ▸ hg)
   ·rw [hv] at hg;cases hg;exact .inr (by omega)
  ·rw [h' b b1 b2,h6 b (by omega) (fun e=>by rcases q3 b e.symm with h | h<;>omega),hg.block b (by omega) (by simp;omega)]
 ·have hil:i<(ys ++ [y]).length:=(List.getElem?_eq_some_iff.1 hz).1
  rw [List.length_append] at hil
  simp only [List.length_cons,List.length_nil] at hil
  obtain rfl:i=ys.length:=by omega
  rw [List.getElem?_append_right (by omega),Nat.sub_self] at hz
  simp at hz
  subst hz
  refine ⟨d0,d1,d2,d3,w0.heap.size,w4.heap.size,⟨?_, ?_, ?_, ?_⟩,⟨hB,by omega,fun g hg=>?_⟩,fun W' h'=>hF W' fun b b1 b2=>?_⟩
  ·rw [List.getElem?_append_right (by omega),show ys.length*4-cs.length=0 by omega];rfl
  ·rw [List.getElem?_append_right (by omega),show ys.length*4+1-cs.length=1 by omega];rfl
  ·rw [List.getElem?_append_right (by omega),show ys.length*4+2-cs.length=2 by omega];rfl
  ·rw [List.getElem?_append_right (by omega),show ys.length*4+3-cs.length=3 by omega];rfl
  ·rcases hv with hv | hv
   ·exact .inl (hub g (hv ▸ hg)).1
   ·rw [hv] at hg;cases hg;exact .inr (by omega)
  ·rw [h' b b1 b2,h6 b b2 (fun e=>by have:=(hub b e.symm).1;omega)]
theorem ZP8 {B:Nat} {W:World} {u:Value} {ys:List PV} (h:VRow B W u ys) {W':World} (hb:∀ b,B≤b→b<W.heap.size→W'.heap[b]? = W.heap[b]?) :
  ∃ a cap,u=.slice a ys.length cap∧ys.length≤cap∧cap≤maxLen∧(ys = []∨∃ b off,a=some ⟨b,off,none⟩∧IsL W' b ys off):=by
 obtain ⟨cs,h1,h2⟩:=h
 rcases h1.2 with ⟨rfl,hn⟩ | ⟨g,cap,cur,rfl,hg,hh,hc1,hc2,hc3,hc4⟩
 ·exact ⟨none,0,by rw [hn],by omega,by unfold maxLen;omega,.inl (List.length_eq_zero_iff.1 hn)⟩
 ·refine ⟨_,cap,rfl,hc1,hc2,.inr ⟨g,0,rfl,ZKT fun i y hy=>?_⟩⟩
  obtain ⟨c0,c1,c2,c3,E,F,⟨u0,u1,u2,u3⟩,⟨q1,q2,q3⟩,hi⟩:=h2 i y hy
  have hv:VAt W' g cur:=(hb g hg (ZZZ hh).1).trans hh
  have hil:i<ys.length:=(List.getElem?_eq_some_iff.1 hy).1
  have at_:∀ j c,j<ys.length*4→cs[j]? = some c→cur[j]? = some c:=fun j c hj hjc=>by
   rw [←hc4,List.getElem?_take,if_pos hj] at hjc
   simpa using hjc
  rw [Nat.zero_add]
  exact ⟨c0,c1,c2,c3,⟨ZBn hv _ _ (at_ _ _ (by omega) u0),ZBn hv _ _ (at_ _ _ (by omega) u1),ZBn hv _ _ (at_ _ _ (by omega) u2),ZBn hv _ _ (at_ _ _ (by omega) u3)⟩,hi W' fun b b1 b2=>hb b (by omega) (by omega)⟩
theorem ZBE {S:Src} {W:World} {p b:Nat} {s:Bn.St} (h:RT S W p s) (hb:p<b) (i:Nat) (v:Value):RT S (W.setCell ⟨b,i,none⟩ v) p s:=
 ZHY h ((Below.refl _ W).setCell (p:=⟨b,i,none⟩) (by show _≤b;have:=h.1;omega) v) (Below.heap_setCell _ _ _ p (by show p≠b;omega))
theorem ZHa {S:Src} {W:World} {p b:Nat} {s:Bn.St} (h:RT S W p s) (hb:p<b) (i0 i1 i2 i3:Nat) (d0 d1 d2 d3:Value) :
  RT S ((((W.setCell ⟨b,i0,none⟩ d0).setCell ⟨b,i1,none⟩ d1).setCell ⟨b,i2,none⟩ d2).setCell ⟨b,i3,none⟩ d3) p s:=
 ZBE (ZBE (ZBE (ZBE h hb i0 d0) hb i1 d1) hb i2 d2) hb i3 d3
def GRet (S:Src) (p:Nat) (w:World) (v:PV) (s:Bn.St) (e:Ending) (w':World):Prop:=
 ∃ d0 d1 d2 d3,e=.returned (.agg #[.int .i64 d0,.int .i64 d1,.string d2,d3])∧(∃ a n c,d3=.slice a n c)∧(s≠none→ZDg w.heap.size w' v (.agg #[.int .i64 d0,.int .i64 d1,.string d2,d3]))∧RT S w' p s∧w.grownBy w' (some p)
theorem ZDB {S:Src} {w W:World} {p:Nat} {s:Bn.St} {v:PV} {d0 d1:Int} {d2:ByteArray} {a:Option Addr} {n c:Nat} (hpw:p<w.heap.size) (hR:RT S W p s) (hG:w.grownBy W (some p)) (hF:s≠none→ZDg (w.heap.size+1) W v (.agg #[.int .i64 d0,.int .i64 d1,.string d2,.slice a n c])) :
  GRet S p w v s (.returned (.agg #[.int .i64 d0,.int .i64 d1,.string d2,.slice a n c])) ((((W.setCell ⟨w.heap.size,0,none⟩ (.int .i64 d0)).setCell ⟨w.heap.size,1,none⟩ (.int .i64 d1)).setCell ⟨w.heap.size,2,none⟩ (.string d2)).setCell ⟨w.heap.size,3,none⟩ (.slice a n c)):=by
 refine ⟨_,_,_,_,rfl,⟨_,_,_,rfl⟩,fun hs=>ZD8 (ZBk (hF hs) (by simp) fun b h1 _=>?_) (Nat.le_succ _),ZHa hR hpw _ _ _ _ _ _ _ _,ZCE hG (Nat.le_refl _) _ _ _ _ _ _ _ _⟩
 rw [Below.heap_setCell _ _ _ b (by show b≠w.heap.size;omega),Below.heap_setCell _ _ _ b (by show b≠w.heap.size;omega),Below.heap_setCell _ _ _ b (by show b≠w.heap.size;omega),Below.heap_setCell _ _ _ b (by show b≠w.heap.size;omega)]
open Go.RowKit Go.Shelf
attribute [local go_sem] Oper.semAt_some
theorem ZEb {S:Src} {W:World} {p:Nat} {s:Bn.St} (h:RT S W p s):(Bn.rByte s).1<256:=Bn.num_lt 1 s (ZFV h)
theorem ZP9 {S:Src} {W:World} {p:Nat} {s:Bn.St} (h:RT S W p s):(Bn.lf s).length≤maxLen:=Nat.le_trans (ZQX h) (by have:=S.small;unfold maxLen;omega)
theorem ZCy {S:Src} {W:World} {p:Nat} {s:Bn.St} (h:RT S W p s):(Bn.rText s).1.size≤maxLen:=ZK3 (Nat.le_trans (ZK4 s) (ZP9 h))
theorem ZEH (w:World):VAt ((w.alloc (.cells vzero 49)).alloc (.cells vzero 49)) w.heap.size vzero∧VAt ((w.alloc (.cells vzero 49)).alloc (.cells vzero 49)) (w.heap.size+1) vzero:=by
 refine ⟨ZA9 ((Below.refl _ _).alloc (Nat.le_refl _) _) (ZBI w vzero), ?_⟩
 have:=ZBI (w.alloc (.cells vzero 49)) vzero
 rwa [World.size_alloc] at this
theorem ZCa (w:World):Below w.heap.size w ((w.alloc (.cells vzero 49)).alloc (.cells vzero 49)):=((Below.refl _ w).alloc (Nat.le_refl _) _).alloc (by simp) _
theorem ZPR (S:Src) (d p:Nat) (s:Bn.St) (w:World) (h:RT S w p s) (hk:(Bn.rByte s).1=1) :
  Calls Tryz.prog 77 #[.pointer (some ⟨p,0,none⟩),.int .i64 (d:Int)] w (GRet S p w (.mk 1 (Bn.rByte (Bn.rByte s).2).1 ⟨#[]⟩ []) (Bn.rByte (Bn.rByte s).2).2):=by
 have hpw:=ZDq h
 obtain ⟨hz0,hv0⟩:=ZEH w
 have hA0:=ZCa w
 have hG0:=ZAZ hA0 (some p)
 have hBy:=ZBN S p s _ (ZA6 h hA0)
 rw [hk] at hBy
 have hBy1:Calls Tryz.prog 30 #[.pointer (some ⟨p,0,none⟩)] _ (ZHZ S p _ 1 (Bn.rByte s).2):=hBy
 generalize (Bn.rByte s).2=s1 at *
 clear h hk hA0 hBy
 go_enter func77,ntmps77
 go_wp2_with (first
  |(go_at_call 30;((with_reducible refine hBy1.mono ?_);rintro e w2 ⟨rfl,hR2,hg2⟩;have hgw2:=ZAC hG0 hg2;have hz2:=ZAb hz0 hg2 (by omega);have hv2:=ZAb hv0 hg2 (by omega);obtain ⟨⟨e0,e1,e2,e3⟩,f0,f1,f2,f3⟩:=box4 hv2;have hv3:VAt (w2.setCell ⟨w.heap.size+1,0,none⟩ (.int .i64 1)) (w.heap.size+1) #[.int .i64 1,.int .i64 0,.string ⟨#[]⟩,.slice none 0 0]:=ZBl hv2 0 _;have hz3:=ZBA hz2 (show w.heap.size≠w.heap.size+1 by omega) 0 (.int .i64 1);have hR3:=ZBE hR2 (show p<w.heap.size+1 by omega) 0 (.int .i64 1);have hgw3:=ZAc hgw2 (show w.heap.size≤w.heap.size+1 by omega) 0 (.int .i64 1);have hkn:=ZEb hR3;have hC:=ZBN S p s1 _ hR3;clear hBy1))
  |(go_at_call 30;((with_reducible refine hC.mono ?_);rintro e w4 ⟨rfl,hR4,hg4⟩;have hgw4:=ZAC hgw3 hg4;have hz4:=ZAb hz3 hg4 (by omega);have hv4:=ZAb hv3 hg4 (by omega);obtain ⟨⟨p0,p1,p2,p3⟩,q0,q1,q2,q3⟩:=box4 hv4;obtain ⟨⟨r0,r1,r2,r3⟩,t0,t1,t2,t3⟩:=box4 hz4)))
 have hz5:=ZBA hz4 (show w.heap.size≠w.heap.size+1 by omega) 1 (.int .i64 ((Bn.rByte s1).1:Int))
 refine bodyPost_ret (results_cell_row Tryz.results77 _ _ w.heap.size _ _ _ _ rfl (ZBJ hz5 _ _ _ _) Tryz.underlying49 rfl val4) rfl ?_
 exact ZDB hpw (ZBE hR4 (by omega) _ _) (ZAc hgw4 (by omega) _ _) fun _=>ZBs _ _ 1 _ _ ⟨by omega,by omega⟩ ⟨by omega,by omega⟩ (by unfold maxLen;decide)
theorem ZPS (S:Src) (d p:Nat) (s:Bn.St) (w:World) (h:RT S w p s) (hk:(Bn.rByte s).1=2) :
  Calls Tryz.prog 77 #[.pointer (some ⟨p,0,none⟩),.int .i64 (d:Int)] w (GRet S p w (.mk 2 (Bn.rLong (Bn.rByte s).2).1 ⟨#[]⟩ []) (Bn.rLong (Bn.rByte s).2).2):=by
 have hpw:=ZDq h
 obtain ⟨hz0,hv0⟩:=ZEH w
 have hA0:=ZCa w
 have hG0:=ZAZ hA0 (some p)
 have hBy:=ZBN S p s _ (ZA6 h hA0)
 rw [hk] at hBy
 have hBy1:Calls Tryz.prog 30 #[.pointer (some ⟨p,0,none⟩)] _ (ZHZ S p _ 2 (Bn.rByte s).2):=hBy
 generalize (Bn.rByte s).2=s1 at *
 clear h hk hA0 hBy
 go_enter func77,ntmps77
 go_wp2_with (first
  |(go_at_call 30;((with_reducible refine hBy1.mono ?_);rintro e w2 ⟨rfl,hR2,hg2⟩;have hgw2:=ZAC hG0 hg2;have hz2:=ZAb hz0 hg2 (by omega);have hv2:=ZAb hv0 hg2 (by omega);obtain ⟨⟨e0,e1,e2,e3⟩,f0,f1,f2,f3⟩:=box4 hv2;have hv3:VAt (w2.setCell ⟨w.heap.size+1,0,none⟩ (.int .i64 2)) (w.heap.size+1) #[.int .i64 2,.int .i64 0,.string ⟨#[]⟩,.slice none 0 0]:=ZBl hv2 0 _;have hz3:=ZBA hz2 (show w.heap.size≠w.heap.size+1 by omega) 0 (.int .i64 2);have hR3:=ZBE hR2 (show p<w.heap.size+1 by omega) 0 (.int .i64 2);have hgw3:=ZAc hgw2 (show w.heap.size≤w.heap.size+1 by omega) 0 (.int .i64 2);have hkn:=ZK5 s1;have hC:=ZL9 S p s1 _ hR3;clear hBy1))
  |(go_at_call 96;((with_reducible refine hC.mono ?_);rintro e w4 ⟨rfl,hR4,hg4⟩;have hgw4:=ZAC hgw3 hg4;have hz4:=ZAb hz3 hg4 (by omega);have hv4:=ZAb hv3 hg4 (by omega);obtain ⟨⟨p0,p1,p2,p3⟩,q0,q1,q2,q3⟩:=box4 hv4;obtain ⟨⟨r0,r1,r2,r3⟩,t0,t1,t2,t3⟩:=box4 hz4)))
 have hz5:=ZBA hz4 (show w.heap.size≠w.heap.size+1 by omega) 1 (.int .i64 (Bn.rLong s1).1)
 refine bodyPost_ret (results_cell_row Tryz.results77 _ _ w.heap.size _ _ _ _ rfl (ZBJ hz5 _ _ _ _) Tryz.underlying49 rfl val4) rfl ?_
 exact ZDB hpw (ZBE hR4 (by omega) _ _) (ZAc hgw4 (by omega) _ _) fun _=>ZBs _ _ 2 _ _ ⟨by omega,by omega⟩ hkn (by unfold maxLen;decide)
theorem ZPT (S:Src) (d p:Nat) (s:Bn.St) (w:World) (h:RT S w p s) (hk:(Bn.rByte s).1=3) :
  Calls Tryz.prog 77 #[.pointer (some ⟨p,0,none⟩),.int .i64 (d:Int)] w (GRet S p w (.mk 3 0 (Bn.rText (Bn.rByte s).2).1 []) (Bn.rText (Bn.rByte s).2).2):=by
 have hpw:=ZDq h
 obtain ⟨hz0,hv0⟩:=ZEH w
 have hA0:=ZCa w
 have hG0:=ZAZ hA0 (some p)
 have hBy:=ZBN S p s _ (ZA6 h hA0)
 rw [hk] at hBy
 have hBy1:Calls Tryz.prog 30 #[.pointer (some ⟨p,0,none⟩)] _ (ZHZ S p _ 3 (Bn.rByte s).2):=hBy
 generalize (Bn.rByte s).2=s1 at *
 clear h hk hA0 hBy
 go_enter func77,ntmps77
 go_wp2_with (first
  |(go_at_call 30;((with_reducible refine hBy1.mono ?_);rintro e w2 ⟨rfl,hR2,hg2⟩;have hgw2:=ZAC hG0 hg2;have hz2:=ZAb hz0 hg2 (by omega);have hv2:=ZAb hv0 hg2 (by omega);obtain ⟨⟨e0,e1,e2,e3⟩,f0,f1,f2,f3⟩:=box4 hv2;have hv3:VAt (w2.setCell ⟨w.heap.size+1,0,none⟩ (.int .i64 3)) (w.heap.size+1) #[.int .i64 3,.int .i64 0,.string ⟨#[]⟩,.slice none 0 0]:=ZBl hv2 0 _;have hz3:=ZBA hz2 (show w.heap.size≠w.heap.size+1 by omega) 0 (.int .i64 3);have hR3:=ZBE hR2 (show p<w.heap.size+1 by omega) 0 (.int .i64 3);have hgw3:=ZAc hgw2 (show w.heap.size≤w.heap.size+1 by omega) 0 (.int .i64 3);have hkn:=ZCy hR3;have hC:=ZDL S p s1 _ hR3;clear hBy1))
  |(go_at_call 28;((with_reducible refine hC.mono ?_);rintro e w4 ⟨rfl,hR4,hg4⟩;have hgw4:=ZAC hgw3 hg4;have hz4:=ZAb hz3 hg4 (by omega);have hv4:=ZAb hv3 hg4 (by omega);obtain ⟨⟨p0,p1,p2,p3⟩,q0,q1,q2,q3⟩:=box4 hv4;obtain ⟨⟨r0,r1,r2,r3⟩,t0,t1,t2,t3⟩:=box4 hz4)))
 have hz5:=ZBA hz4 (show w.heap.size≠w.heap.size+1 by omega) 2 (.string (Bn.rText s1).1)
 refine bodyPost_ret (results_cell_row Tryz.results77 _ _ w.heap.size _ _ _ _ rfl (ZBJ hz5 _ _ _ _) Tryz.underlying49 rfl val4) rfl ?_
 exact ZDB hpw (ZBE hR4 (by omega) _ _) (ZAc hgw4 (by omega) _ _) fun _=>ZBs _ _ 3 _ _ ⟨by omega,by omega⟩ ⟨by omega,by omega⟩ hkn
theorem ZPU (S:Src) (d p:Nat) (s:Bn.St) (w:World) (h:RT S w p s) (hk:(Bn.rByte s).1=4) :
  Calls Tryz.prog 77 #[.pointer (some ⟨p,0,none⟩),.int .i64 (d:Int)] w (GRet S p w (.mk 4 0 (Bn.rText (Bn.rByte s).2).1 []) (Bn.rText (Bn.rByte s).2).2):=by
 have hpw:=ZDq h
 obtain ⟨hz0,hv0⟩:=ZEH w
 have hA0:=ZCa w
 have hG0:=ZAZ hA0 (some p)
 have hBy:=ZBN S p s _ (ZA6 h hA0)
 rw [hk] at hBy
 have hBy1:Calls Tryz.prog 30 #[.pointer (some ⟨p,0,none⟩)] _ (ZHZ S p _ 4 (Bn.rByte s).2):=hBy
 generalize (Bn.rByte s).2=s1 at *
 clear h hk hA0 hBy
 go_enter func77,ntmps77
 go_wp2_with (first
  |(go_at_call 30;((with_reducible refine hBy1.mono ?_);rintro e w2 ⟨rfl,hR2,hg2⟩;have hgw2:=ZAC hG0 hg2;have hz2:=ZAb hz0 hg2 (by omega);have hv2:=ZAb hv0 hg2 (by omega);obtain ⟨⟨e0,e1,e2,e3⟩,f0,f1,f2,f3⟩:=box4 hv2;have hv3:VAt (w2.setCell ⟨w.heap.size+1,0,none⟩ (.int .i64 4)) (w.heap.size+1) #[.int .i64 4,.int .i64 0,.string ⟨#[]⟩,.slice none 0 0]:=ZBl hv2 0 _;have hz3:=ZBA hz2 (show w.heap.size≠w.heap.size+1 by omega) 0 (.int .i64 4);have hR3:=ZBE hR2 (show p<w.heap.size+1 by omega) 0 (.int .i64 4);have hgw3:=ZAc hgw2 (show w.heap.size≤w.heap.size+1 by omega) 0 (.int .i64 4);have hkn:=ZCy hR3;have hC:=ZDL S p s1 _ hR3;clear hBy1))
  |(go_at_call 28;((with_reducible refine hC.mono ?_);rintro e w4 ⟨rfl,hR4,hg4⟩;have hgw4:=ZAC hgw3 hg4;have hz4:=ZAb hz3 hg4 (by omega);have hv4:=ZAb hv3 hg4 (by omega);obtain ⟨⟨p0,p1,p2,p3⟩,q0,q1,q2,q3⟩:=box4 hv4;obtain ⟨⟨r0,r1,r2,r3⟩,t0,t1,t2,t3⟩:=box4 hz4)))
 have hz5:=ZBA hz4 (show w.heap.size≠w.heap.size+1 by omega) 2 (.string (Bn.rText s1).1)
 refine bodyPost_ret (results_cell_row Tryz.results77 _ _ w.heap.size _ _ _ _ rfl (ZBJ hz5 _ _ _ _) Tryz.underlying49 rfl val4) rfl ?_
 exact ZDB hpw (ZBE hR4 (by omega) _ _) (ZAc hgw4 (by omega) _ _) fun _=>ZBs _ _ 4 _ _ ⟨by omega,by omega⟩ ⟨by omega,by omega⟩ hkn
theorem ZI0 (S:Src) (d p:Nat) (s:Bn.St) (w:World) (h:RT S w p s) (k1:(Bn.rByte s).1≠1) (k2:(Bn.rByte s).1≠2) (k34:¬((Bn.rByte s).1=3∨(Bn.rByte s).1=4)) (k5:(Bn.rByte s).1≠5) :
  Calls Tryz.prog 77 #[.pointer (some ⟨p,0,none⟩),.int .i64 (d:Int)] w (GRet S p w (.mk (Bn.rByte s).1 0 ⟨#[]⟩ []) (Bn.rByte s).2):=by
 have hpw:=ZDq h
 obtain ⟨hz0,hv0⟩:=ZEH w
 have hA0:=ZCa w
 have hG0:=ZAZ hA0 (some p)
 have hBy1:=ZBN S p s _ (ZA6 h hA0)
 have hkk:=ZEb h
 generalize (Bn.rByte s).1=kk at *
 generalize (Bn.rByte s).2=s1 at *
 have hI:I64 (kk:Int):=⟨by omega,by omega⟩
 have d1:((kk:Int) == 1)=false:=by simp;omega
 have d2:((kk:Int) == 2)=false:=by simp;omega
 have d3:((kk:Int) == 3)=false:=by simp;omega
 have d4:((kk:Int) == 4)=false:=by simp;omega
 have d5:((kk:Int) == 5)=false:=by simp;omega
 clear h hA0 k1 k2 k34 k5
 go_enter func77,ntmps77
 go_wp2_with (first
  |(go_at_call 30;((with_reducible refine hBy1.mono ?_);rintro e w2 ⟨rfl,hR2,hg2⟩;have hgw2:=ZAC hG0 hg2;have hz2:=ZAb hz0 hg2 (by omega);have hv2:=ZAb hv0 hg2 (by omega);obtain ⟨⟨e0,e1,e2,e3⟩,f0,f1,f2,f3⟩:=box4 hv2;obtain ⟨⟨r0,r1,r2,r3⟩,t0,t1,t2,t3⟩:=box4 hz2)))
 have hz5:=ZBA hz2 (show w.heap.size≠w.heap.size+1 by omega) 0 (.int .i64 (kk:Int))
 refine bodyPost_ret (results_cell_row Tryz.results77 _ _ w.heap.size _ _ _ _ rfl (ZBJ hz5 _ _ _ _) Tryz.underlying49 rfl val4) rfl ?_
 exact ZDB hpw (ZBE hR2 (by omega) _ _) (ZAc hgw2 (by omega) _ _) fun _=>ZBs _ _ _ 0 _ hI ⟨by omega,by omega⟩ (by unfold maxLen;decide)
open Go.RowKit Go.Shelf
attribute [local go_sem] Oper.semAt_some
theorem ZCb (w:World):Below w.heap.size w w.drew:=⟨rfl,rfl,rfl,Nat.le_refl _,fun _ _=>rfl⟩
theorem ZDX {S:Src} {W W':World} {p:Nat} {s:Bn.St} {row:Option Nat} (h:RT S W p s) (hg:W.grownBy W' row) (hr:∀ g,row=some g→p<g):RT S W' p s:=
 ZHY h ⟨hg.os,hg.tape,hg.output,hg.size,fun k hk=>hg.block k (by have:=ZDq h;have:=h.1;omega) (fun e=>by have:=hr k e.symm;have:=h.1;omega)⟩ (hg.block p (ZDq h) (fun e=>by have:=hr p e.symm;omega))
theorem ZDM {w W W':World} {p:Option Nat} {row:Option Nat} (h:w.grownBy W p) (hg:W.grownBy W' row) (hr:∀ g,row=some g→w.heap.size≤g):w.grownBy W' p:=
 ⟨hg.os.trans h.os,hg.tape.trans h.tape,hg.output.trans h.output,Nat.le_trans h.size hg.size,fun k hk hne=>(hg.block k (Nat.lt_of_lt_of_le hk h.size) (fun e=>by have:=hr k e.symm;omega)).trans (h.block k hk hne)⟩
theorem ZCc {w:World} {base:Nat} {e:TypeId} {size:Nat} {v:Value} {n:Nat} {xs:List Value} (h:w.ownsRow base e size v n xs):∃ a n c,v=.slice a n c:=by
 rcases h.2 with ⟨rfl,_⟩ | ⟨g,cap,cur,rfl,_⟩<;>exact ⟨_,_,_,rfl⟩
theorem ZFR (g:Bn.St→PV × Bn.St) (hg:(g none).2=none) (s:Bn.St) {q:Nat} (h:(Bn.rep g q s).2=none):∀ n,q≤n→(Bn.rep g n s).2=none:=by
 intro n
 induction n with
 |zero=>
  intro hn
  obtain rfl:q=0:=by omega
  exact h
 |succ n ih=>
  intro hn
  rcases Nat.lt_or_ge q (n+1) with h1 | h1
  ·simp only [Bn.rep];rw [ih (by omega),hg]
  ·obtain rfl:q=n+1:=by omega
   exact h
theorem ZKx (S:Src) (d p:Nat) (s:Bn.St) (w:World) (h:RT S w p s) (hk:(Bn.rByte s).1=5) (hb:20<(Bn.rNum (Bn.rByte s).2).1∨d=0) (v:PV) :
  Calls Tryz.prog 77 #[.pointer (some ⟨p,0,none⟩),.int .i64 (d:Int)] w (GRet S p w v none):=by
 have hpw:=ZDq h
 obtain ⟨hz0,hv0⟩:=ZEH w
 have hA0:=ZCa w
 have hG0:=ZAZ hA0 (some p)
 have hBy:=ZBN S p s _ (ZA6 h hA0)
 rw [hk] at hBy
 have hBy1:Calls Tryz.prog 30 #[.pointer (some ⟨p,0,none⟩)] _ (ZHZ S p _ 5 (Bn.rByte s).2):=hBy
 generalize (Bn.rByte s).2=s1 at *
 clear h hk hA0 hBy
 have hN:=fun W (h:RT S W p s1)=>ZCx S p s1 W h
 generalize (Bn.rNum s1).1=n at *
 generalize (Bn.rNum s1).2=s2 at *
 have HN:=ZZY hN;clear hN
 have hor:(decide ((20:Int)<(n:Int))=true)∨(decide ((20:Int)<(n:Int))=false∧((d:Int) == 0)=true):=by
  rcases Nat.lt_or_ge 20 n with h1 | h1
  ·exact .inl (by simp;omega)
  ·exact .inr ⟨by simp;omega,by simp;omega⟩
 clear hb
 rcases hor with hd20 | ⟨hd20,hd0⟩
 all_goals (
  go_enter func77,ntmps77
  go_wp2_with (first
   |(go_at_call 30;((with_reducible refine hBy1.mono ?_);rintro e w2 ⟨rfl,hR2,hg2⟩;have hgw2:=ZAC hG0 hg2;have hz2:=ZAb hz0 hg2 (by omega);have hv2:=ZAb hv0 hg2 (by omega);obtain ⟨⟨e0,e1,e2,e3⟩,f0,f1,f2,f3⟩:=box4 hv2;have hv3:VAt (w2.setCell ⟨w.heap.size+1,0,none⟩ (.int .i64 5)) (w.heap.size+1) #[.int .i64 5,.int .i64 0,.string ⟨#[]⟩,.slice none 0 0]:=ZBl hv2 0 _;have hz3:=ZBA hz2 (show w.heap.size≠w.heap.size+1 by omega) 0 (.int .i64 5);have hR3:=ZBE hR2 (show p<w.heap.size+1 by omega) 0 (.int .i64 5);have hgw3:=ZAc hgw2 (show w.heap.size≤w.heap.size+1 by omega) 0 (.int .i64 5);clear hBy1))
   |(go_at_call 27;((with_reducible refine (HN.out _ hR3).mono ?_);rintro e w4 ⟨rfl,hR4,hg4⟩;have hgw4:=ZAC hgw3 hg4;have hz4:=ZAb hz3 hg4 (by omega);have hv4:=ZAb hv3 hg4 (by omega);obtain ⟨_,_,k4,hk4,hA4,hx4⟩:=id hR4;obtain ⟨⟨a0,a1,a2⟩,b0,b1,b2⟩:=ZBD hA4)))
  have hR5:=ZFy hR4
  have hz5:=ZBA hz4 (show w.heap.size≠p by omega) 2 (.bool true)
  have hv5:=ZBA hv4 (show w.heap.size+1≠p by omega) 2 (.bool true)
  have hG5:=ZAC hgw4 (ZAY p 2 (.bool true))
  generalize w4.setCell ⟨p,2,none⟩ (.bool true)=W5 at *
  obtain ⟨_,_,k5,hk5,hA5,hx5⟩:=id hR5
  obtain ⟨⟨m0,m1,m2⟩,n0,n1,n2⟩:=ZBD hA5
  simp only [Option.isNone_none] at m2
  obtain ⟨⟨p0,p1,p2,p3⟩,q0,q1,q2,q3⟩:=box4 hv5
  obtain ⟨⟨r0,r1,r2,r3⟩,t0,t1,t2,t3⟩:=box4 hz5
  clear e0 e1 e2 e3 f0 f1 f2 f3 a0 a1 a2 b0 b1 b2 hv0 hz0 hv2 hz2 hv3 hz3 hv4 hz4
  go_loopw [7] (fun i wr=>i=.int .i64 0∧wr=W5) (fun i _=>0)
  case atStart=>exact ⟨rfl,rfl⟩
  case round=>
   obtain ⟨rfl,rfl⟩:=hrel
   rcases Nat.eq_zero_or_pos n with hn | hn
   ·have hdn:decide ((0:Int)<(n:Int))=false:=by simp;omega
    go_wp2
    refine bodyPost_ret (results_cell_row Tryz.results77 _ _ w.heap.size _ _ _ _ rfl (ZBJ hz5 _ _ _ _) Tryz.underlying49 rfl val4) rfl ?_
    exact ZDB hpw hR5 hG5 fun hs=>absurd rfl hs
   ·have hdn:decide ((0:Int)<(n:Int))=true:=by simp;omega
    go_wp2
    refine bodyPost_ret (results_cell_row Tryz.results77 _ _ w.heap.size _ _ _ _ rfl (ZBJ hz5 _ _ _ _) Tryz.underlying49 rfl val4) rfl ?_
    exact ZDB hpw hR5 hG5 fun hs=>absurd rfl hs)
theorem ZNp (S:Src) (d:Nat) (hd:d≤4) (hrec:∀ p s w,RT S w p s→Calls Tryz.prog 77 #[.pointer (some ⟨p,0,none⟩),.int .i64 (d:Int)] w (GRet S p w (Bn.get d s).1 (Bn.get d s).2))
  (p:Nat) (s:Bn.St) (w:World) (h:RT S w p s) (hk:(Bn.rByte s).1=5) (hb:(Bn.rNum (Bn.rByte s).2).1≤20) :
  Calls Tryz.prog 77 #[.pointer (some ⟨p,0,none⟩),.int .i64 ((d:Int)+1)] w (GRet S p w (.mk 5 0 ⟨#[]⟩ (Bn.rep (Bn.get d) (Bn.rNum (Bn.rByte s).2).1 (Bn.rNum (Bn.rByte s).2).2).1) (Bn.rep (Bn.get d) (Bn.rNum (Bn.rByte s).2).1 (Bn.rNum (Bn.rByte s).2).2).2):=by
 have hpw:=ZDq h
 obtain ⟨hz0,hv0⟩:=ZEH w
 have hA0:=ZCa w
 have hG0:=ZAZ hA0 (some p)
 have hBy:=ZBN S p s _ (ZA6 h hA0)
 rw [hk] at hBy
 have hBy1:Calls Tryz.prog 30 #[.pointer (some ⟨p,0,none⟩)] _ (ZHZ S p _ 5 (Bn.rByte s).2):=hBy
 generalize (Bn.rByte s).2=s1 at *
 clear h hk hA0 hBy
 have hN:=fun W (h:RT S W p s1)=>ZCx S p s1 W h
 generalize (Bn.rNum s1).1=n at *
 generalize (Bn.rNum s1).2=s2 at *
 have HN:=ZZY hN;clear hN
 have HREC:=ZZY hrec;clear hrec
 have hgn:=ZMs d
 obtain ⟨gg,hgg⟩:∃ gg,Bn.get d=gg:=⟨_,rfl⟩
 rw [hgg] at HREC hgn ⊢
 have HGN:=ZZY hgn;clear hgn hgg
 have hd20:decide ((20:Int)<(n:Int))=false:=by simp;omega
 have hd0:(((d:Int)+1) == 0)=false:=by simp;omega
 have hdm:(d:Int)+1-1=(d:Int):=by omega
 have hdw:IntKind.i64.wrap (d:Int)=(d:Int):=IntWalk.i64_in _ (by omega)
 obtain ⟨i0,hi,hi0,hi1,hi2⟩:=info_parts ZHk
 go_enter func77,ntmps77
 go_wp2_with (first
  |(go_at_call 30;((with_reducible refine hBy1.mono ?_);rintro e w2 ⟨rfl,hR2,hg2⟩;have hgw2:=ZAC hG0 hg2;have hz2:=ZAb hz0 hg2 (by omega);have hv2:=ZAb hv0 hg2 (by omega);obtain ⟨⟨e0,e1,e2,e3⟩,f0,f1,f2,f3⟩:=box4 hv2;have hv3:VAt (w2.setCell ⟨w.heap.size+1,0,none⟩ (.int .i64 5)) (w.heap.size+1) #[.int .i64 5,.int .i64 0,.string ⟨#[]⟩,.slice none 0 0]:=ZBl hv2 0 _;have hz3:=ZBA hz2 (show w.heap.size≠w.heap.size+1 by omega) 0 (.int .i64 5);have hR3:=ZBE hR2 (show p<w.heap.size+1 by omega) 0 (.int .i64 5);have hgw3:=ZAc hgw2 (show w.heap.size≤w.heap.size+1 by omega) 0 (.int .i64 5);clear hBy1))
  |(go_at_call 27;((with_reducible refine (HN.out _ hR3).mono ?_);rintro e w4 ⟨rfl,hR4,hg4⟩;have hgw4:=ZAC hgw3 hg4;have hz4:=ZAb hz3 hg4 (by omega);have hv4:=ZAb hv3 hg4 (by omega))))
 clear e0 e1 e2 e3 f0 f1 f2 f3 hv0 hz0 hv2 hz2 hv3 hz3 hR2 hR3 hgw2 hgw3 hG0 hg4 hg2
 go_loopw [7] (fun i wr=>∃ q:Nat,q≤n∧i=.int .i64 (q:Int)∧RT S wr p (Bn.rep gg q s2).2∧w.grownBy wr (some p)∧VAt wr w.heap.size vzero∧w.heap.size+2≤wr.heap.size ∧
  ∃ a m c,VAt wr (w.heap.size+1) #[.int .i64 5,.int .i64 0,.string ⟨#[]⟩,.slice a m c]∧((Bn.rep gg q s2).2≠none→VRow (w.heap.size+2) wr (.slice a m c) (Bn.rep gg q s2).1)) (fun i _=>n-(intOf i).toNat)
 case atStart=>exact ⟨0,Nat.zero_le _,rfl,hR4,hgw4,hz4,by have:=ZDO hv4;omega,none,0,0,hv4,fun _=>ZOq _ _⟩
 case round=>
 obtain ⟨q,hq,rfl,hR,hG,hz,hsz,a,m,c,hv,hrow⟩:=hrel
 clear hR4 hgw4 hz4 hv4
 obtain ⟨_,_,k5,hk5,hA5,hx5⟩:=id hR
 obtain ⟨⟨m0,m1,m2⟩,n0,n1,n2⟩:=ZBD hA5
 obtain ⟨⟨p0,p1,p2,p3⟩,q0,q1,q2,q3⟩:=box4 hv
 obtain ⟨⟨r0,r1,r2,r3⟩,t0,t1,t2,t3⟩:=box4 hz
 have hrl:=ZKO gg q s2
 cases hst:(Bn.rep gg q s2).2 with
 |none=>
  have hdead:=ZFR gg HGN.out s2 hst n hq
  rw [hst] at m2 hR
  simp only [Option.isNone_none] at m2
  rcases Nat.lt_or_ge q n with hn | hn
  ·have hdn:decide (q<n)=true:=by simp;omega
   clear hx5 hA5 hrow hst
   go_wp2
   refine bodyPost_ret (results_cell_row Tryz.results77 _ _ w.heap.size _ _ _ _ rfl (ZBJ hz _ _ _ _) Tryz.underlying49 rfl val4) rfl ?_
   rw [hdead]
   exact ZDB hpw hR hG fun hs=>absurd rfl hs
  ·have hdn:decide (q<n)=false:=by simp;omega
   clear hx5 hA5 hrow hst
   go_wp2
   refine bodyPost_ret (results_cell_row Tryz.results77 _ _ w.heap.size _ _ _ _ rfl (ZBJ hz _ _ _ _) Tryz.underlying49 rfl val4) rfl ?_
   rw [hdead]
   exact ZDB hpw hR hG fun hs=>absurd rfl hs
 |some l=>
  have hrow':=hrow (by rw [hst];simp)
  rw [hst] at m2 hR
  simp only [Option.isNone_some] at m2
  by_cases hql:q<n
  ·have hdn:decide (q<n)=true:=by simp;omega
   have hcall:=fun W h=>HREC.out p (some l) W h
   have hst1:(Bn.rep gg (q+1) s2).1=(Bn.rep gg q s2).1 ++ [(gg (some l)).1]:=by simp only [Bn.rep];rw [hst]
   have hst2:(Bn.rep gg (q+1) s2).2=(gg (some l)).2:=by simp only [Bn.rep];rw [hst]
   have H1:=ZZY hst1;have H2:=ZZY hst2
   generalize (Bn.rep gg q s2).1=ys at *
   generalize (gg (some l)).1=y at *
   generalize (gg (some l)).2=s3 at *
   have HC:=ZZY hcall
   obtain ⟨cs,hown,hel⟩:=hrow'
   rw [hrl] at hown
   have HOW:=ZZY hown;have HEL:=ZZY hel;have HR:=ZZY hR;have HV:=ZZY hv;have HZ:=ZZY hz;have HRL:=ZZY hrl;have HG:=ZZY hG
   have hown2:=ZNo hown
   have HO2:=ZZY hown2
   clear hrow hst hst1 hst2 hcall hown hel hR hv hz hrl hG hx5 hA5 hown2
   go_wp2
   go_region_law (first
    |(refine ZA1 _ rfl _ _ 47 rfl (w.heap.size+2) 49 i0 (.agg vzero) 4 56 Tryz.underlying47 hi hi0 hi1 hi2 rfl (by decide) (.slice a m c) q cs (by simp [Act.eval]) ho5 (some ⟨w4.heap.size,0,none⟩) 1 1 [.int .i64 d0,.int .i64 d1,.string d2,.slice a3 n3 c3] (by simp [Act.eval]) ⟨rfl,.inr ⟨_,rfl,ZBC _ [_,_,_,_] _⟩⟩ (by simp [Value.oneCell']) (by unfold maxLen;omega) (by omega) (by simp;omega) ?_;intro v6 w6 hown6 hgr6 hat6;obtain ⟨a6,m6,c6,rfl⟩:=ZCc hown6;have hv6:VAt w6 (w.heap.size+1) _:=(hgr6.block _ (by have:=ZDO hv5;omega) (fun e=>by have:=(HO2.out _ e.symm).2;omega)).trans hv5;obtain ⟨⟨g0,g1,g2,g3⟩,h0,h1,h2,h3⟩:=box4 hv6)
    |(go_simp;go_wp2_with (go_at_call 77;(with_reducible refine (HC.out _ (ZA6 HR.out (ZCb _))).mono ?_);rintro e w4 ⟨d0,d1,d2,_,rfl,⟨a3,n3,c3,rfl⟩,hF4,hR4,hg4⟩;have hs4:wr.heap.size≤w4.heap.size:=hg4.size;have hs4d:=hg4.size;have hv4:=ZAb (show VAt wr.drew (w.heap.size+1) _ from HV.out) hg4 (by omega);obtain ⟨⟨p0',p1',p2',p3'⟩,q0',q1',q2',q3'⟩:=box4 hv4;have hv5:=ZA9 ((Below.refl _ w4).alloc (Nat.le_refl _) (.cells #[.int .i64 d0,.int .i64 d1,.string d2,.slice a3 n3 c3] 49)) hv4;obtain ⟨⟨p0b,p1b,p2b,p3b⟩,q0b,q1b,q2b,q3b⟩:=box4 hv5;have ho5:(w4.alloc (.cells #[.int .i64 d0,.int .i64 d1,.string d2,.slice a3 n3 c3] 49)).ownsRow (w.heap.size+2) 49 4 (.slice a m c) q cs:=ZKw (show wr.drew.ownsRow _ _ _ _ _ _ from HOW.out) (fun b b1 b2=>(Below.heap_alloc w4 _ b (by omega)).trans (hg4.block b b2 (by simp;omega))))))
   all_goals (
    have hsz6:=hgr6.size
    rw [World.size_alloc] at hsz6
    have hA4:=(Below.refl _ w4).alloc (Nat.le_refl _) (.cells #[.int .i64 d0,.int .i64 d1,.string d2,.slice a3 n3 c3] 49)
    have hR6:=ZDX (ZA6 hR4 hA4) hgr6 (fun g e=>by have:=(HO2.out g e).2;omega)
    have hG4:=ZAC (ZAC HG.out (ZAZ (ZCb wr) _)) hg4
    have hG6:=ZDM (ZAX hG4 (.cells #[.int .i64 d0,.int .i64 d1,.string d2,.slice a3 n3 c3] 49)) hgr6 (fun g e=>by have:=(HO2.out g e).2;omega)
    have hz4:=ZA9 hA4 (ZAb (show VAt wr.drew w.heap.size vzero from HZ.out) hg4 (by omega))
    have hz6:VAt w6 w.heap.size vzero:=(hgr6.block _ (by have:=ZDO hz4;omega) (fun e=>by have:=(HO2.out _ e.symm).2;omega)).trans hz4
    have hlen:(ys ++ [y]).length=q+1:=by rw [List.length_append,HRL.out];rfl
    have hvr:s3≠none→VRow (w.heap.size+2) w6 (.slice a6 m6 c6) (ys ++ [y]):=fun hs=>⟨_,by rw [hlen];exact hown6,ZOr (w0:=wr.drew) (show wr.drew.ownsRow _ _ _ (.slice a m c) ys.length cs by rw [HRL.out];exact HOW.out) HEL.out (by omega) hsz hg4 (hF4 hs) hgr6 hat6⟩
    go_wp2
    go_roundw
    case rel=>exact ⟨q+1,by omega,by go_num,by rw [H2.out];exact ZBE hR6 (by omega) _ _,ZAc hG6 (by omega) _ _,ZBA hz6 (by omega) _ _,by simp;omega,a6,m6,c6,ZBl hv6 3 _,fun hs=>by rw [H1.out];rw [H2.out] at hs;exact ZNn (hvr hs) (by simp) (fun b b1 b2=>Below.heap_setCell _ _ _ b (by show b≠w.heap.size+1;omega))⟩
    case measure=>
     have e:(intOf (.int .i64 ((q:Int)+1))).toNat=q+1:=by simp only [intOf];omega
     have e':(intOf (.int .i64 (q:Int))).toNat=q:=by simp only [intOf];omega
     rw [e,e'];omega)
  ·obtain rfl:q=n:=by omega
   have hdn:decide (q<q)=false:=by simp
   clear hx5 hA5 hrow
   go_wp2
   refine bodyPost_ret (results_cell_row Tryz.results77 _ _ w.heap.size _ _ _ _ rfl (ZBJ hz _ _ _ _) Tryz.underlying49 rfl val4) rfl ?_
   rw [hst]
   refine ZDB hpw hR hG fun _ w9 hw9=>?_
   unfold Is
   obtain ⟨a',cap',e,j1,j2,j3⟩:=ZP8 hrow' (W':=w9) fun b b1 b2=>hw9 b (by omega) b2
   simp only [Value.slice.injEq] at e
   obtain ⟨rfl,rfl,rfl⟩:=e
   exact ⟨⟨by omega,by omega⟩,⟨by omega,by omega⟩,by unfold maxLen;decide,_,_,rfl,j1,j2,j3⟩
theorem ZOs (S:Src):∀ d:Nat,d≤4→∀ (p:Nat) (s:Bn.St) (w:World),RT S w p s→Calls Tryz.prog 77 #[.pointer (some ⟨p,0,none⟩),.int .i64 (d:Int)] w (GRet S p w (Bn.get d s).1 (Bn.get d s).2):=by
 intro d
 induction d with
 |zero=>
  intro hd p s w h
  rw [Bn.get_node]
  unfold Bn.node
  by_cases k1:(Bn.rByte s).1=1
  ·rw [if_pos k1];exact ZPR S 0 p s w h k1
  rw [if_neg k1]
  by_cases k2:(Bn.rByte s).1=2
  ·rw [if_pos k2];exact ZPS S 0 p s w h k2
  rw [if_neg k2]
  by_cases k34:(Bn.rByte s).1=3∨(Bn.rByte s).1=4
  ·rw [if_pos k34]
   rcases k34 with e | e
   ·have:=ZPT S 0 p s w h e
    rw [e];exact this
   ·have:=ZPU S 0 p s w h e
    rw [e];exact this
  rw [if_neg k34]
  by_cases k5:(Bn.rByte s).1=5
  ·rw [if_pos k5];exact ZKx S 0 p s w h k5 (.inr rfl) _
  rw [if_neg k5]
  exact ZI0 S 0 p s w h k1 k2 k34 k5
 |succ d ih=>
  intro hd p s w h
  rw [Bn.get_node]
  unfold Bn.node
  by_cases k1:(Bn.rByte s).1=1
  ·rw [if_pos k1];exact ZPR S (d+1) p s w h k1
  rw [if_neg k1]
  by_cases k2:(Bn.rByte s).1=2
  ·rw [if_pos k2];exact ZPS S (d+1) p s w h k2
  rw [if_neg k2]
  by_cases k34:(Bn.rByte s).1=3∨(Bn.rByte s).1=4
  ·rw [if_pos k34]
   rcases k34 with e | e
   ·have:=ZPT S (d+1) p s w h e
    rw [e];exact this
   ·have:=ZPU S (d+1) p s w h e
    rw [e];exact this
  rw [if_neg k34]
  by_cases k5:(Bn.rByte s).1=5
  ·rw [if_pos k5]
   show Calls _ _ _ w (GRet S p w (.mk 5 0 ⟨#[]⟩ (if 20<(Bn.rNum (Bn.rByte s).2).1 then ([],none) else Bn.rep (Bn.get d) (Bn.rNum (Bn.rByte s).2).1 (Bn.rNum (Bn.rByte s).2).2).1) (if 20<(Bn.rNum (Bn.rByte s).2).1 then ([],none) else Bn.rep (Bn.get d) (Bn.rNum (Bn.rByte s).2).1 (Bn.rNum (Bn.rByte s).2).2).2)
   by_cases h20:20<(Bn.rNum (Bn.rByte s).2).1
   ·rw [if_pos h20]
    exact ZKx S (d+1) p s w h k5 (.inl h20) _
   ·rw [if_neg h20,show (((d+1:Nat)):Int)=(d:Int)+1 by omega]
    exact ZNp S d (by omega) (ih (by omega)) p s w h k5 (by omega)
  rw [if_neg k5]
  exact ZI0 S (d+1) p s w h k1 k2 k34 k5
open Go.RowKit Go.Shelf
attribute [local go_sem] Oper.semAt_some
theorem ZQY (g:Bn.St→PV × Bn.St) (B:Nat) (hg:∀ s,szV (g s).1≤B) (s:Bn.St):∀ n,szL (Bn.rep g n s).1≤n*B:=by
 intro n
 induction n with
 |zero=>simp [Bn.rep,szL]
 |succ n ih=>
  simp only [Bn.rep,ZEj,szL]
  have:=hg (Bn.rep g n s).2
  rw [Nat.succ_mul];omega
theorem ZNq (lst:Nat→Bn.St→List PV × Bn.St) (B:Nat) (hl:∀ n s,szL (lst n s).1≤B) (s:Bn.St):szV (Bn.node lst s).1≤B+1:=by
 unfold Bn.node
 split
 ·simp [szV,szL]
 ·split
  ·simp [szV,szL]
  ·split
   ·simp [szV,szL]
   ·split
    ·simp only [szV];have:=hl (Bn.rNum (Bn.rByte s).2).1 (Bn.rNum (Bn.rByte s).2).2;omega
    ·simp [szV,szL]
theorem ZDY (d B:Nat) (h:∀ s,szV (Bn.get d s).1≤B):∀ s,szV (Bn.get (d+1) s).1≤20*B+1:=by
 intro s
 refine ZNq (Bn.lst (some (Bn.get d))) (20*B) (fun n s=>?_) s
 simp only [Bn.lst]
 split
 ·simp [szL]
 ·exact Nat.le_trans (ZQY _ B h s n) (Nat.mul_le_mul_right B (by omega))
theorem ZQZ (s:Bn.St):szV (Bn.get 4 s).1≤168421:=by
 have h0:∀ s,szV (Bn.get 0 s).1≤1:=fun s=>ZNq (Bn.lst none) 0 (fun n s=>by simp [Bn.lst,szL]) s
 have h1:=ZDY 0 1 h0
 have h2:=ZDY 1 _ h1
 have h3:=ZDY 2 _ h2
 have h4:=ZDY 3 _ h3 s
 exact Nat.le_trans h4 (by decide)
def ZQa (S:Src) (p:Nat) (w:World) (v:PV) (s:Bn.St) (e:Ending) (w':World):Prop:=∃ x,e=.returned x∧ZDg w.heap.size w' v x∧RT S w' p s∧w.grownBy w' (some p)
theorem ZFz {S:Src} {w W:World} {p:Nat} {s:Bn.St} {v:PV} {d0 d1 d2 d3:Value} (hpw:p<w.heap.size) (hR:RT S W p s) (hG:w.grownBy W (some p)) (hF:ZDg (w.heap.size+1) W v (.agg #[d0,d1,d2,d3])) :
  ZQa S p w v s (.returned (.agg #[d0,d1,d2,d3])) ((((W.setCell ⟨w.heap.size,0,none⟩ d0).setCell ⟨w.heap.size,1,none⟩ d1).setCell ⟨w.heap.size,2,none⟩ d2).setCell ⟨w.heap.size,3,none⟩ d3):=by
 refine ⟨_,rfl,ZD8 (ZBk hF (by simp) fun b h1 _=>?_) (Nat.le_succ _),ZHa hR hpw _ _ _ _ _ _ _ _,ZCE hG (Nat.le_refl _) _ _ _ _ _ _ _ _⟩
 rw [Below.heap_setCell _ _ _ b (by show b≠w.heap.size;omega),Below.heap_setCell _ _ _ b (by show b≠w.heap.size;omega),Below.heap_setCell _ _ _ b (by show b≠w.heap.size;omega),Below.heap_setCell _ _ _ b (by show b≠w.heap.size;omega)]
theorem ZKI (S:Src) (p:Nat) (s:Bn.St) (w:World) (h:RT S w p s):Calls Tryz.prog 48 #[.pointer (some ⟨p,0,none⟩)] w (ZQa S p w (rValue s).1 (rValue s).2):=by
 have hA0:=(Below.refl _ w).alloc (Nat.le_refl _) (.cells vzero 49)
 have hz0:=ZBI w vzero
 have hpw:=ZDq h
 have hRA:=ZA6 h hA0
 have hN:Calls Tryz.prog 77 #[.pointer (some ⟨p,0,none⟩),.int .i64 4] (w.alloc (.cells vzero 49)) (GRet S p (w.alloc (.cells vzero 49)) (Bn.get 4 s).1 (Bn.get 4 s).2):=ZOs S 4 (by omega) p s _ hRA
 have hG0:=ZAZ hA0 (some p)
 obtain ⟨_,_,k0,hk0,hA,hx0⟩:=id hRA
 obtain ⟨⟨c0,c1,c2⟩,f0,f1,f2⟩:=ZBD hA
 obtain ⟨⟨r0,r1,r2,r3⟩,t0,t1,t2,t3⟩:=box4 hz0
 cases s with
 |none=>
  have e:rValue none=(zv,none):=by
   have:=ZMs 4
   unfold rValue rFin
   rw [this]
  rw [e]
  simp only [Option.isNone_none] at c2
  clear h hA hN hx0 e
  go_enter func48,ntmps48
  go_wp2_with fail
  refine bodyPost_ret (results_cell_row Tryz.results48 _ _ w.heap.size _ _ _ _ rfl hz0 Tryz.underlying49 rfl val4) rfl ?_
  exact ⟨_,rfl,ZDC _ _,hRA,hG0⟩
 |some l=>
  have hsz:=ZQZ (some l)
  simp only [Option.isNone_some] at c2
  unfold rValue
  generalize Bn.get 4 (some l)=r at *
  obtain ⟨v,s2⟩:=r
  dsimp only at hN hsz
  have hRt:=fun W x hi=>ZFE v (by omega) W x hi
  obtain ⟨b,hb⟩:∃ b,rightV v=b:=⟨_,rfl⟩
  rw [hb] at hRt
  have HRT:=ZZY hRt
  clear h hA hx0 hRA hRt hA0
  cases s2 with
  |none=>
   have e:rFin (v,none)=(zv,none):=rfl
   rw [e];clear e
   go_enter func48,ntmps48
   go_wp2_with (first
    |(go_at_call 77;(with_reducible refine hN.mono ?_);rintro e w4 ⟨d0,d1,d2,_,rfl,⟨a3,n3,c3,rfl⟩,hF4,hR4,hg4⟩;have hz4:=ZAb hz0 hg4 (by omega);have hA4:=(Below.refl _ w4).alloc (Nat.le_refl _) (.cells #[.int .i64 d0,.int .i64 d1,.string d2,.slice a3 n3 c3] 49);have hz5:=ZA9 hA4 hz4;have hR5:=ZA6 hR4 hA4;have hG5:=ZAX (ZAC hG0 hg4) (.cells #[.int .i64 d0,.int .i64 d1,.string d2,.slice a3 n3 c3] 49);obtain ⟨_,_,k5,hk5,hA5,hx5⟩:=id hR5;obtain ⟨⟨m0,m1,m2⟩,n0,n1,n2⟩:=ZBD hA5;simp only [Option.isNone_none] at m2;have hz6:=ZBA hz5 (show w.heap.size≠p by omega) 2 (.bool true);obtain ⟨⟨p0,p1,p2,p3⟩,q0,q1,q2,q3⟩:=box4 hz6))
   refine bodyPost_ret (results_cell_row Tryz.results48 _ _ w.heap.size _ _ _ _ rfl (ZBJ hz6 _ _ _ _) Tryz.underlying49 rfl val4) rfl ?_
   exact ZFz hpw (ZFy hR5) (ZAC hG5 (ZAY p 2 _)) (ZDC _ _)
  |some l2=>
   cases b with
   |false=>
    have e:rFin (v,some l2)=(zv,none):=by show (if rightV v=true then _ else _)=_;rw [hb];rfl
    rw [e];clear e hb
    go_enter func48,ntmps48
    go_wp2_with (first
     |(go_at_call 77;(with_reducible refine hN.mono ?_);rintro e w4 ⟨d0,d1,d2,_,rfl,⟨a3,n3,c3,rfl⟩,hF4,hR4,hg4⟩;have hz4:=ZAb hz0 hg4 (by omega);have hA4:=(Below.refl _ w4).alloc (Nat.le_refl _) (.cells #[.int .i64 d0,.int .i64 d1,.string d2,.slice a3 n3 c3] 49);have hz5:=ZA9 hA4 hz4;have hR5:=ZA6 hR4 hA4;have hG5:=ZAX (ZAC hG0 hg4) (.cells #[.int .i64 d0,.int .i64 d1,.string d2,.slice a3 n3 c3] 49);have hi5:=ZAf hA4 _ _ (ZC8 (hF4 (by simp)));have hv5:=ZBI w4 #[.int .i64 d0,.int .i64 d1,.string d2,.slice a3 n3 c3];obtain ⟨⟨x0,x1,x2,x3⟩,_⟩:=box4 hv5;obtain ⟨_,_,k5,hk5,hA5,hx5⟩:=id hR5;obtain ⟨⟨m0,m1,m2⟩,n0,n1,n2⟩:=ZBD hA5;simp only [Option.isNone_some] at m2)
     |(go_at_call 78;(with_reducible refine (HRT.out _ _ hi5).mono ?_);rintro e w6 ⟨rfl,hb6⟩;have hz6:=ZA9 hb6 hz5;have hR6:=ZA6 hR5 hb6;have hG6:=ZAC hG5 (ZAZ hb6 _);obtain ⟨_,_,k6,hk6,hA6,hx6⟩:=id hR6;obtain ⟨⟨u0,u1,u2⟩,z0,z1,z2⟩:=ZBD hA6;have hz7:=ZBA hz6 (show w.heap.size≠p by omega) 2 (.bool true);obtain ⟨⟨p0,p1,p2,p3⟩,q0,q1,q2,q3⟩:=box4 hz7))
    refine bodyPost_ret (results_cell_row Tryz.results48 _ _ w.heap.size _ _ _ _ rfl (ZBJ hz7 _ _ _ _) Tryz.underlying49 rfl val4) rfl ?_
    exact ZFz hpw (ZFy hR6) (ZAC hG6 (ZAY p 2 _)) (ZDC _ _)
   |true=>
    have e:rFin (v,some l2)=(v,some l2):=by show (if rightV v=true then _ else _)=_;rw [hb];rfl
    rw [e];clear e hb
    go_enter func48,ntmps48
    go_wp2_with (first
     |(go_at_call 77;(with_reducible refine hN.mono ?_);rintro e w4 ⟨d0,d1,d2,_,rfl,⟨a3,n3,c3,rfl⟩,hF4,hR4,hg4⟩;have hz4:=ZAb hz0 hg4 (by omega);have hA4:=(Below.refl _ w4).alloc (Nat.le_refl _) (.cells #[.int .i64 d0,.int .i64 d1,.string d2,.slice a3 n3 c3] 49);have hz5:=ZA9 hA4 hz4;have hR5:=ZA6 hR4 hA4;have hG5:=ZAX (ZAC hG0 hg4) (.cells #[.int .i64 d0,.int .i64 d1,.string d2,.slice a3 n3 c3] 49);have hF:=hF4 (by simp);have hi5:=ZAf hA4 _ _ (ZC8 hF);have hv5:=ZBI w4 #[.int .i64 d0,.int .i64 d1,.string d2,.slice a3 n3 c3];obtain ⟨⟨x0,x1,x2,x3⟩,_⟩:=box4 hv5;obtain ⟨_,_,k5,hk5,hA5,hx5⟩:=id hR5;obtain ⟨⟨m0,m1,m2⟩,n0,n1,n2⟩:=ZBD hA5;simp only [Option.isNone_some] at m2)
     |(go_at_call 78;(with_reducible refine (HRT.out _ _ hi5).mono ?_);rintro e w6 ⟨rfl,hb6⟩;have hz6:=ZA9 hb6 hz5;have hR6:=ZA6 hR5 hb6;have hG6:=ZAC hG5 (ZAZ hb6 _);have hv6:=ZA9 hb6 hv5;obtain ⟨⟨y0,y1,y2,y3⟩,_⟩:=box4 hv6;obtain ⟨⟨p0,p1,p2,p3⟩,q0,q1,q2,q3⟩:=box4 hz6))
    refine bodyPost_ret (results_cell_row Tryz.results48 _ _ w.heap.size _ _ _ _ rfl (ZBJ hz6 _ _ _ _) Tryz.underlying49 rfl val4) rfl ?_
    have hF6:=ZBk (ZBk hF hA4.size fun b _ hb=>hA4.block b hb) hb6.size fun b _ hb=>hb6.block b hb
    exact ZFz hpw hR6 hG6 (by rw [World.size_alloc] at hF6;exact hF6)
