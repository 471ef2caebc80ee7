/- Slots in a growing row of one's own (no walk): what each is stays where it was read. -/
import Derived.Test.YtcjdfdfphbckaaaGreatMh7Regi
import Derived.Test.YtcjdfdfphbckaaaGreatMh3Regi
import Derived.Test.YtcjdfdfphbckaaaGreatMh4Regi
import Derived.Deep.QuietTactic
import Derived.Deep.RegionHeldLaw
import Derived.Lib.AppendZeros
import Derived.Lib.SliceRun
import Derived.Test.YtcjdfdfphbckaaaGreatMh2Regi
set_option linter.unusedVariables false
set_option linter.unusedSimpArgs false
set_option maxRecDepth 100000
set_option maxHeartbeats 64000000
open Go.Proofs.Tryz
namespace Go.Proofs.YtcjdfdfphbckaaaGreat
open Go.RowKit Go.Shelf
def ZBw (w:World) (l:List SlotM) (cs:List Value):Prop:=cs.length=l.length*7∧(∀ u∈cs,u.oneCell'=true) ∧
 ∀ (i:Nat) (s:SlotM),l[i]? = some s→∃ c0 c1 c2 c3 c4 c5 c6,(cs[i*7]? = some c0∧cs[i*7+1]? = some c1∧cs[i*7+2]? = some c2∧cs[i*7+3]? = some c3∧cs[i*7+4]? = some c4∧cs[i*7+5]? = some c5∧cs[i*7+6]? = some c6)∧ZDi w s c0 c1 c2 c3 c4 c5 c6
theorem ZEm (w:World):ZBw w [] []:=⟨rfl,by simp,fun i s h=>by simp at h⟩
theorem ZCj {w:World} {l r:List SlotM} {cs ds:List Value} (h:ZBw w l cs) (k:ZBw w r ds):ZBw w (l++r) (cs++ds):=by
 have hlen:=h.1
 refine ⟨by rw [List.length_append,List.length_append,h.1,k.1];omega,fun u hu=>(List.mem_append.1 hu).elim (h.2.1 u) (k.2.1 u),fun i s hs=>?_⟩
 rcases Nat.lt_or_ge i l.length with hlt | hge
 ·rw [List.getElem?_append_left hlt] at hs
  obtain ⟨c0,c1,c2,c3,c4,c5,c6,hc,h7⟩:=h.2.2 i s hs
  refine ⟨c0,c1,c2,c3,c4,c5,c6, ?_,h7⟩
  rw [List.getElem?_append_left (by omega),List.getElem?_append_left (by omega),List.getElem?_append_left (by omega),List.getElem?_append_left (by omega),List.getElem?_append_left (by omega),List.getElem?_append_left (by omega),List.getElem?_append_left (by omega)]
  exact hc
 ·rw [List.getElem?_append_right hge] at hs
  obtain ⟨c0,c1,c2,c3,c4,c5,c6,hc,h7⟩:=k.2.2 _ s hs
  refine ⟨c0,c1,c2,c3,c4,c5,c6, ?_,h7⟩
  rw [List.getElem?_append_right (by omega),List.getElem?_append_right (by omega),List.getElem?_append_right (by omega),List.getElem?_append_right (by omega),List.getElem?_append_right (by omega),List.getElem?_append_right (by omega),List.getElem?_append_right (by omega)]
  have e:∀ j,i*7+j-cs.length=(i-l.length)*7+j:=fun j=>by rw [hlen];omega
  rw [show i*7-cs.length=(i-l.length)*7 by rw [hlen];omega,e 1,e 2,e 3,e 4,e 5,e 6]
  exact hc
theorem ZFc {w:World} {s:SlotM} {c0 c1 c2 c3 c4 c5 c6:Value} (h:ZDi w s c0 c1 c2 c3 c4 c5 c6):∀ u∈[c0,c1,c2,c3,c4,c5,c6],u.oneCell'=true:=by
 obtain ⟨h1,h2,rfl,rfl,rfl,h3⟩:=h
 cases hd:s.df with
 |mk k n t l=>
  rw [hd] at h3
  unfold Is at h3
  obtain ⟨_,_,_,a,cap,e,_⟩:=h3
  injection e with e
  injection e with e
  injection e with e3 e
  injection e with e4 e
  injection e with e5 e
  injection e with e6 e
  subst e3 e4 e5 e6
  simp [Value.oneCell']
theorem ZDx {w:World} {s:SlotM} {c0 c1 c2 c3 c4 c5 c6:Value} (h:ZDi w s c0 c1 c2 c3 c4 c5 c6):ZBw w [s] [c0,c1,c2,c3,c4,c5,c6]:=
 ⟨rfl,ZFc h,fun i t ht=>by
  have hi:i<1:=(List.getElem?_eq_some_iff.1 ht).1
  obtain rfl:i=0:=by omega
  simp only [List.getElem?_cons_zero,Option.some.injEq] at ht
  subst ht
  exact ⟨_,_,_,_,_,_,_,⟨rfl,rfl,rfl,rfl,rfl,rfl,rfl⟩,h⟩⟩
theorem ZLQ {w:World} {a:Option Addr} {cap:Nat} {l:List SlotM} (h:ZBV w a cap l):∃ cs,ZBw w l cs∧ZB7 w 7 a l.length cs:=by
 obtain ⟨h1,h2,h3⟩:=h
 rcases h3 with h3 | ⟨b,off,rfl,hc⟩
 ·subst h3
  exact ⟨[],ZEm w,rfl,.inl rfl⟩
 ·clear h1 h2
  suffices H:∀ (k:Nat),k≤l.length→∃ cs,ZBw w (l.take k) cs∧∀ j u,cs[j]? = some u→w.cell? ⟨b,off+j,none⟩=some u by
   obtain ⟨cs,g1,g2⟩:=H l.length (Nat.le_refl _)
   rw [List.take_length] at g1
   exact ⟨cs,g1,g1.1,.inr ⟨_,rfl,fun j u hu=>by rw [Addr.add_lit];exact g2 j u hu⟩⟩
  intro k
  induction k with
  |zero=>intro _;exact ⟨[],by simpa using ZEm w,fun j u h=>by simp at h⟩
  |succ k ih=>
   intro hk
   obtain ⟨cs,g1,g2⟩:=ih (by omega)
   have hs:l[k]? = some l[k]:=List.getElem?_eq_getElem (by omega)
   obtain ⟨c0,c1,c2,c3,c4,c5,c6,⟨q0,q1,q2,q3,q4,q5,q6⟩,h7⟩:=hc k _ hs
   refine ⟨cs ++ [c0,c1,c2,c3,c4,c5,c6], ?_,fun j u hu=>?_⟩
   ·rw [List.take_add_one,hs]
    exact ZCj g1 (ZDx h7)
   ·have hlen:cs.length=k*7:=by rw [g1.1,List.length_take,Nat.min_eq_left (by omega)]
    rcases Nat.lt_or_ge j cs.length with hlt | hge
    ·rw [List.getElem?_append_left hlt] at hu
     exact g2 j u hu
    ·rw [List.getElem?_append_right hge] at hu
     obtain ⟨m,rfl⟩:∃ m,j=k*7+m:=⟨j-k*7,by omega⟩
     rw [hlen,show k*7+m-k*7=m by omega] at hu
     have hm:m<7:=(List.getElem?_eq_some_iff.1 hu).1
     rw [show off+(k*7+m)=off+k*7+m by omega]
     match m,hm with
     | 0,_=>cases hu;exact q0
     | 1,_=>cases hu;exact q1
     | 2,_=>cases hu;exact q2
     | 3,_=>cases hu;exact q3
     | 4,_=>cases hu;exact q4
     | 5,_=>cases hu;exact q5
     | 6,_=>cases hu;exact q6
theorem ZFd {w W:World} {B:Nat} {v:Value} {l:List SlotM} {cs:List Value} (h:W.ownsRow B 51 7 v l.length cs) (hs:ZBw w l cs) (hb:Below w.heap.size w W):∃ a cap,v=.slice a l.length cap∧ZBV W a cap l:=by
 obtain ⟨h1,h2⟩:=h
 rcases h2 with ⟨rfl,hn⟩ | ⟨g,cap,cur,rfl,hg,hh,hn,hm,hsz,ht⟩
 ·exact ⟨none,0,by rw [hn],by omega,by unfold maxLen;omega,.inl (List.length_eq_zero_iff.1 hn)⟩
 ·refine ⟨_,cap,rfl,hn,hm,.inr ⟨g,0,rfl,fun i s hi=>?_⟩⟩
  obtain ⟨c0,c1,c2,c3,c4,c5,c6,⟨q0,q1,q2,q3,q4,q5,q6⟩,h7⟩:=hs.2.2 i s hi
  have hil:i<l.length:=(List.getElem?_eq_some_iff.1 hi).1
  have cell:∀ j u,cs[j]? = some u→W.cell? ⟨g,0+j,none⟩=some u:=fun j u hu=>by
   rw [←ht,List.getElem?_take] at hu
   split at hu
   ·rw [Array.getElem?_toList] at hu
    simp [World.cell?,hh,hu]
   ·cases hu
  refine ⟨c0,c1,c2,c3,c4,c5,c6,⟨?_, ?_, ?_, ?_, ?_, ?_, ?_⟩,ZB3 hb h7⟩
  ·exact cell _ _ q0
  ·exact cell _ _ q1
  ·exact cell _ _ q2
  ·exact cell _ _ q3
  ·exact cell _ _ q4
  ·exact cell _ _ q5
  ·exact cell _ _ q6
theorem ZCP {α : Type} (cs:List α) (i j:Nat) (c : α) (hi:i<cs.length):(cs.set i c)[j]? = if j=i then some c else cs[j]?:=by
 rw [List.getElem?_set]
 by_cases h:i=j
 ·subst h;simp [hi]
 ·rw [if_neg h,if_neg (fun e=>h e.symm)]
theorem ZE6 {w:World} {l:List SlotM} {cs:List Value} (h:ZBw w l cs) (c:Nat) (nm:ByteArray) (hn:nm.size≤maxLen):ZBw w (l.modify c (fun t=>Sc.setNm t nm)) (cs.set (c*7) (.string nm)):=by
 refine ⟨by rw [List.length_set,List.length_modify,h.1],fun u hu=>?_,fun i s hs=>?_⟩
 ·rcases List.mem_or_eq_of_mem_set hu with hu | rfl
  ·exact h.2.1 u hu
  ·rfl
 ·rw [List.getElem?_modify] at hs
  obtain ⟨t,ht,rfl⟩:=Option.map_eq_some_iff.1 hs
  obtain ⟨c0,c1,c2,c3,c4,c5,c6,⟨q0,q1,q2,q3,q4,q5,q6⟩,h7⟩:=h.2.2 i t ht
  by_cases hic:c=i
  ·subst hic
   have hlt:c*7<cs.length:=(List.getElem?_eq_some_iff.1 q0).1
   refine ⟨.string nm,c1,c2,c3,c4,c5,c6,⟨?_, ?_, ?_, ?_, ?_, ?_, ?_⟩, ?_⟩
   ·rw [ZCP _ _ _ _ hlt,if_pos rfl]
   ·rw [ZCP _ _ _ _ hlt,if_neg (by omega),q1]
   ·rw [ZCP _ _ _ _ hlt,if_neg (by omega),q2]
   ·rw [ZCP _ _ _ _ hlt,if_neg (by omega),q3]
   ·rw [ZCP _ _ _ _ hlt,if_neg (by omega),q4]
   ·rw [ZCP _ _ _ _ hlt,if_neg (by omega),q5]
   ·rw [ZCP _ _ _ _ hlt,if_neg (by omega),q6]
   ·obtain ⟨k1,k2,k3,k4,k5,k6⟩:=h7
    rw [if_pos rfl]
    exact ⟨hn,k2,rfl,k4,k5,k6⟩
  ·rw [if_neg hic]
   refine ⟨c0,c1,c2,c3,c4,c5,c6,⟨?_, ?_, ?_, ?_, ?_, ?_, ?_⟩,h7⟩
   ·rw [List.getElem?_set_ne (by omega),q0]
   ·rw [List.getElem?_set_ne (by omega),q1]
   ·rw [List.getElem?_set_ne (by omega),q2]
   ·rw [List.getElem?_set_ne (by omega),q3]
   ·rw [List.getElem?_set_ne (by omega),q4]
   ·rw [List.getElem?_set_ne (by omega),q5]
   ·rw [List.getElem?_set_ne (by omega),q6]
theorem ZE7 {w:World} {l:List SlotM} {cs:List Value} (h:ZBw w l cs) (c:Nat) (ty:Int) (hn:I64 ty):ZBw w (l.modify c (fun t=>Sc.setTy t ty)) (cs.set (c*7+1) (.int .i64 ty)):=by
 refine ⟨by rw [List.length_set,List.length_modify,h.1],fun u hu=>?_,fun i s hs=>?_⟩
 ·rcases List.mem_or_eq_of_mem_set hu with hu | rfl
  ·exact h.2.1 u hu
  ·rfl
 ·rw [List.getElem?_modify] at hs
  obtain ⟨t,ht,rfl⟩:=Option.map_eq_some_iff.1 hs
  obtain ⟨c0,c1,c2,c3,c4,c5,c6,⟨q0,q1,q2,q3,q4,q5,q6⟩,h7⟩:=h.2.2 i t ht
  by_cases hic:c=i
  ·subst hic
   have hlt:c*7+1<cs.length:=(List.getElem?_eq_some_iff.1 q1).1
   refine ⟨c0,.int .i64 ty,c2,c3,c4,c5,c6,⟨?_, ?_, ?_, ?_, ?_, ?_, ?_⟩, ?_⟩
   ·rw [ZCP _ _ _ _ hlt,if_neg (by omega),q0]
   ·rw [ZCP _ _ _ _ hlt,if_pos rfl]
   ·rw [ZCP _ _ _ _ hlt,if_neg (by omega),q2]
   ·rw [ZCP _ _ _ _ hlt,if_neg (by omega),q3]
   ·rw [ZCP _ _ _ _ hlt,if_neg (by omega),q4]
   ·rw [ZCP _ _ _ _ hlt,if_neg (by omega),q5]
   ·rw [ZCP _ _ _ _ hlt,if_neg (by omega),q6]
   ·obtain ⟨k1,k2,k3,k4,k5,k6⟩:=h7
    rw [if_pos rfl]
    exact ⟨k1,hn,k3,rfl,k5,k6⟩
  ·rw [if_neg hic]
   refine ⟨c0,c1,c2,c3,c4,c5,c6,⟨?_, ?_, ?_, ?_, ?_, ?_, ?_⟩,h7⟩
   ·rw [List.getElem?_set_ne (by omega),q0]
   ·rw [List.getElem?_set_ne (by omega),q1]
   ·rw [List.getElem?_set_ne (by omega),q2]
   ·rw [List.getElem?_set_ne (by omega),q3]
   ·rw [List.getElem?_set_ne (by omega),q4]
   ·rw [List.getElem?_set_ne (by omega),q5]
   ·rw [List.getElem?_set_ne (by omega),q6]
open Go.RowKit Go.Shelf
theorem ZCd (s:SlotM) (hsz:szV s.df≤1000000) (w:World) (x:Value) (hs:ZBe w s x):Calls Tryz.prog 101 #[x] w fun e w'=>e=.returned (.bool (Sc.sound s))∧Below w.heap.size w w':=by
 have hIS:=fun W (hb:Below w.heap.size w W)=>ZAn hb hs
 obtain ⟨k0,n0,t0,a0,len0,cap0,rfl,hI,hnm,hd⟩:=ZCF hs
 have hIV:=fun W (hb:Below w.heap.size w W)=>ZAf hb _ _ hd
 have hb1:=(Below.refl _ w).alloc (Nat.le_refl _) (.cells #[.string s.nm,.int .i64 s.ty,.bool s.rq,.int .i64 k0,.int .i64 n0,.string t0,.slice a0 len0 cap0] 51)
 have hN:=fun W=>ZCA s.nm W hnm
 have hF:=fun (h0:0≤s.ty) W hi hv=>ZKR s s.df hsz h0 W (.agg #[.string s.nm,.int .i64 s.ty,.bool s.rq,.int .i64 k0,.int .i64 n0,.string t0,.slice a0 len0 cap0]) (.agg #[.int .i64 k0,.int .i64 n0,.string t0,.slice a0 len0 cap0]) hi hv
 have hso:Sc.sound s=(nameB (strB s.nm) && decide (0<s.ty) && decide (s.ty<64) && Sc.fits s.ty s.df):=rfl
 rw [hso]
 have HIS:=ZZY (hIS _ hb1);have HIV:=ZZY (hIV _ hb1)
 obtain ⟨ty,hty⟩:∃ ty,s.ty=ty:=⟨_,rfl⟩
 obtain ⟨N,hNN⟩:∃ N,nameB (strB s.nm)=N:=⟨_,rfl⟩
 obtain ⟨F,hFF⟩:∃ F,Sc.fits s.ty s.df=F:=⟨_,rfl⟩
 rw [hFF] at hF ⊢
 rw [hNN] at hN ⊢
 rw [hty] at hF HIS HIV hb1 ⊢
 clear hFF hNN hso hIS hIV hs hd hty hI
 cases N with
 |false=>
  go_enter func101,ntmps101
  go_wp2_with (go_at_call 100;(with_reducible refine (hN _).mono ?_);rintro e w1 ⟨rfl,rfl⟩)
  go_ret
  exact ⟨ZAG (by simp),hb1⟩
 |true=>
  by_cases h0:0<ty
  ·have d0:decide (0<ty)=true:=by simpa using h0
   by_cases h64:ty<64
   ·have d1:decide (ty<64)=true:=by simpa using h64
    have hF:=hF (by omega)
    go_enter func101,ntmps101
    go_wp2_with (first
     |(go_at_call 100;(with_reducible refine (hN _).mono ?_);rintro e w1 ⟨rfl,rfl⟩)
     |(go_at_call 114;(with_reducible refine (hF _ HIS.out HIV.out).mono ?_);rintro e w2 ⟨rfl,hB2⟩))
    go_ret
    exact ⟨ZAG (by rw [d0,d1];simp),hb1.trans (hB2.mono hb1.size)⟩
   ·have d1:decide (ty<64)=false:=by simpa using h64
    clear hF
    go_enter func101,ntmps101
    go_wp2_with (go_at_call 100;(with_reducible refine (hN _).mono ?_);rintro e w1 ⟨rfl,rfl⟩)
    go_ret
    exact ⟨ZAG (by rw [d0,d1];rfl),hb1⟩
  ·have d0:decide (0<ty)=false:=by simpa using h0
   clear hF
   go_enter func101,ntmps101
   go_wp2_with (go_at_call 100;(with_reducible refine (hN _).mono ?_);rintro e w1 ⟨rfl,rfl⟩)
   go_ret
   exact ⟨ZAG (by rw [d0];rfl),hb1⟩
theorem find_at {α : Type} (p : α→Bool):∀ (l:List α) (q:Nat) (x : α),l[q]? = some x→p x=true→(∀ j y,j<q→l[j]? = some y→p y=false)→l.find? p=some x:=by
 intro l
 induction l with
 |nil=>intro q x h;simp at h
 |cons y r ih=>
  intro q x h hp hn
  cases q with
  |zero=>
   simp only [List.getElem?_cons_zero,Option.some.injEq] at h
   subst h
   simp [List.find?_cons,hp]
  |succ q=>
   have h0:=hn 0 y (by omega) rfl
   rw [List.find?_cons,h0]
   exact ih q x (by simpa using h) hp (fun j z hj hz=>hn (j+1) z (by omega) (by simpa using hz))
theorem ZMf {α : Type} (p : α→Bool) (l:List α) (hn:∀ (j:Nat) (y : α),l[j]? = some y→p y=false):l.find? p=none:=by
 rw [List.find?_eq_none]
 intro x hx
 obtain ⟨j,hj⟩:=List.mem_iff_getElem?.1 hx
 simp [hn j x hj]
theorem ZDD (x:Sc.Ver) (sa:Option Addr) (sc:Nat) (ca:Option Addr) (cc:Nat) (nm:ByteArray) (w:World) (hin:∀ c∈x.cols,c<x.slots.length) (hsl:x.slots.length≤100000) (hv:ZL4 w x sa sc ca cc) :
  Calls Tryz.prog 102 #[.agg #[.slice sa x.slots.length sc,.slice ca x.cols.length cc],.string nm] w fun e w'=>e=.returned (.int .i64 (Sc.colI x nm))∧Below w.heap.size w w':=by
 obtain ⟨slots,cols⟩:=x
 obtain ⟨⟨hs1,hs2,hs3⟩,hr1,hr2,hr3,hr4⟩:=hv
 simp only at hin hsl hs1 hs3 hr2 hr4 ⊢
 unfold maxLen at hs2 hr3
 obtain ⟨G,hG⟩:∃ G,Sc.colI ⟨slots,cols⟩ nm=G:=⟨_,rfl⟩
 rw [hG]
 have HGG:=ZZY hG
 clear hG
 have HS:=ZZY hs3;have HR:=ZZY hr4;have HIN:=ZZY hin
 clear hs3 hr4 hin
 have hB0:=(Below.refl _ w).alloc (Nat.le_refl _) (.cells #[.slice sa slots.length sc,.slice ca cols.length cc] 128)
 have x0:World.cell? (w.alloc (.cells #[.slice sa slots.length sc,.slice ca cols.length cc] 128)) ⟨w.heap.size,0,none⟩=some (.slice sa slots.length sc):=by simp
 have x1:World.cell? (w.alloc (.cells #[.slice sa slots.length sc,.slice ca cols.length cc] 128)) ⟨w.heap.size,1,none⟩=some (.slice ca cols.length cc):=by simp
 go_enter func102,ntmps102
 go_wp2
 obtain ⟨W1,hW1⟩:∃ W1,w.alloc (.cells #[.slice sa slots.length sc,.slice ca cols.length cc] 128)=W1:=⟨_,rfl⟩
 obtain ⟨b,hb⟩:∃ b,w.heap.size=b:=⟨_,rfl⟩
 have HB0:=ZZY hB0
 rw [hW1] at x0 x1 HB0 ⊢
 rw [hb] at x0 x1 ⊢
 clear hB0 hW1 hb
 go_loopw [5] (fun i wr=>∃ q nq:Nat,q≤cols.length∧i=.int .i64 (q:Int)∧wr=W1.drewN nq∧∀ j c,j<q→cols[j]? = some c→Sc.eqN (Sc.slotOf ⟨slots,cols⟩ c).nm nm=false) (fun i _=>cols.length-(intOf i).toNat)
 case atStart=>exact ⟨0,0,Nat.zero_le _,rfl,rfl,fun j c h=>by omega⟩
 case round=>
  obtain ⟨q,nq,hq,rfl,rfl,hno⟩:=hrel
  have HNO:=ZZY hno
  clear hno
  rcases Nat.lt_or_ge q cols.length with hlt | hge
  ·have hd:decide ((q:Int)<(cols.length:Int))=true:=by simp;omega
   obtain ⟨c,hc⟩:∃ c,cols[q]? = some c:=⟨cols[q],List.getElem?_eq_getElem hlt⟩
   have hcl:=HIN.out c (List.mem_of_getElem? hc)
   obtain ⟨cb,co,rfl,hcol⟩:∃ b off,ca=some ⟨b,off,none⟩∧∀ i,i<cols.length→w.cell? ⟨b,off+i,none⟩=some (.int .i64 ((cols.map Int.ofNat)[i]?.getD 0)):=by
    rcases HR.out with h | h
    ·exact absurd h (by omega)
    ·exact h
   obtain ⟨sb,so,rfl,hrow⟩:∃ b off,sa=some ⟨b,off,none⟩∧∀ i s,slots[i]? = some s→ZCS w b (off+i*7) s:=by
    rcases HS.out with h | h
    ·subst h;simp at hcl
    ·exact h
   obtain ⟨s,hs⟩:∃ s,slots[c]? = some s:=⟨slots[c],List.getElem?_eq_getElem hcl⟩
   obtain ⟨k,n,t,a,len,cap,⟨g0,_⟩,_⟩:=ZBR (hrow c s hs)
   have e1:=ZAA HB0.out (hcol q hlt)
   have e2:=ZAA HB0.out g0
   rw [List.getElem?_map,hc] at e1
   simp only [Option.map_some,Option.getD_some,Int.ofNat_eq_natCast] at e1
   have hso:Sc.slotOf ⟨slots,cols⟩ c=s:=by unfold Sc.slotOf;simp [hs]
   have HC:=ZZY hc;have HSO:=ZZY hso
   clear hc hcol hrow hs g0 hso
   obtain ⟨B,hB⟩:∃ B,Sc.eqN s.nm nm=B:=⟨_,rfl⟩
   have heq:(s.nm.toList == nm.toList)=B:=by
    rw [←hB]
    unfold Sc.eqN
    rw [Bool.eq_iff_iff,beq_iff_eq,decide_eq_true_eq,ZAz,ZAz]
   have HB:=ZZY hB
   clear hB
   cases B with
   |true=>
    have hans:Sc.colI ⟨slots,cols⟩ nm=(c:Int):=by
     unfold Sc.colI Sc.col
     rw [find_at _ cols q c HC.out (by rw [HSO.out,HB.out]) (fun j y hj hy=>HNO.out j y hj hy)]
    have HANS:=ZZY hans
    clear hans
    go_wp2
    go_quiet (fail)
    go_wp2
    go_ret
    exact ⟨ZBK (HANS.out.symm.trans HGG.out),ZAh HB0.out _⟩
   |false=>
    go_wp2
    go_quiet (fail)
    go_wp2
    go_roundw
    case rel=>exact ⟨q+1,_,by omega,by go_num,rfl,fun j y hj hy=>by
     rcases Nat.lt_or_ge j q with h | h
     ·exact HNO.out j y h hy
     ·obtain rfl:j=q:=by omega
      rw [HC.out] at hy
      cases hy
      rw [HSO.out,HB.out]⟩
    case measure=>simp [intOf];omega
  ·obtain rfl:q=cols.length:=by omega
   have hd:decide ((cols.length:Int)<(cols.length:Int))=false:=by simp
   have hans:Sc.colI ⟨slots,cols⟩ nm = -1:=by
    unfold Sc.colI Sc.col
    rw [ZMf _ cols (fun j y hy=>HNO.out j y ((List.getElem?_eq_some_iff.1 hy).1) hy)]
   have HANS:=ZZY hans
   clear hans
   go_wp2
   go_ret
   exact ⟨ZBK (HANS.out.symm.trans HGG.out),ZAh HB0.out _⟩
open Go.RowKit Go.Shelf
theorem ZAV {w:World} {base:Nat} {e:TypeId} {size:Nat} {v:Value} {n:Nat} {xs:List Value} (h:w.ownsRow base e size v n xs):∀ b,v.ownBlock=some b→b<w.heap.size∧base≤b:=by
 intro b hb
 rcases h.2 with ⟨rfl,_⟩ | ⟨g,cap,cur,rfl,h1,hg,_⟩
 ·simp [Value.ownBlock] at hb
 ·simp [Value.ownBlock] at hb
  subst hb
  exact ⟨(ZZZ hg).1,h1⟩
theorem ZAe {w:World} {base:Nat} {e:TypeId} {size:Nat} {v:Value} {n:Nat} {xs:List Value} (h:w.ownsRow base e size v n xs):∃ a c,v=.slice a n c:=by
 rcases h.2 with ⟨rfl,rfl⟩ | ⟨g,cap,cur,rfl,_⟩
 ·exact ⟨_,_,rfl⟩
 ·exact ⟨_,_,rfl⟩
theorem ZAN {B:Nat} {W W':World} {e:TypeId} {size n:Nat} {v:Value} {xs:List Value} {row:Option Nat} (h:W.ownsRow B e size v n xs) (k:W.grownBy W' row) (hne:∀ b,row=some b→v.ownBlock=some b→False):W'.ownsRow B e size v n xs:=by
 refine ⟨h.1, ?_⟩
 rcases h.2 with hn | ⟨g,cap,cur,rfl,hg,hh,r⟩
 ·exact .inl hn
 ·exact .inr ⟨g,cap,cur,rfl,hg,(k.block g (ZZZ hh).1 (fun e=>hne g e.symm rfl)).trans hh,r⟩
theorem ZAE {B:Nat} {w W W':World} {row:Option Nat} (h:Below B w W) (k:W.grownBy W' row) (hr:∀ b,row=some b→B≤b) (hs:B≤W.heap.size):Below B w W':=by
 obtain ⟨a1,a2,a3,a4,a5⟩:=h
 obtain ⟨b1,b2,b3,b4,b5⟩:=k
 exact ⟨b1.trans a1,b2.trans a2,b3.trans a3,Nat.le_trans a4 b4,fun j hj=>(b5 j (by omega) (fun e=>by have:=hr j e.symm;omega)).trans (a5 j hj)⟩
theorem ZAQ (W:World) (o:Obj):(W.alloc o).heap[W.heap.size]? = some o:=by
 show (W.heap.push o)[W.heap.size]? = _
 simp
theorem ZCr (W:World) (B:Nat) (T:TypeId) (size:Nat) (hB:B≤W.heap.size):(W.alloc (.cells #[] T)).ownsRow B T size (.slice (some ⟨W.heap.size,0,none⟩) 0 0) 0 []:=
 ⟨by simp,.inr ⟨W.heap.size,0,#[],rfl,hB,ZAQ W _,Nat.le_refl _,by unfold maxLen;omega,by simp,by simp⟩⟩
theorem ZAJ (W:World) (b i:Nat) (v:Value):W.grownBy (W.setCell ⟨b,i,none⟩ v) (some b):=
 ⟨rfl,rfl,rfl,(KeepsWalks.setCell W _ v).size,fun k _ hk=>Below.heap_setCell _ _ _ k (fun e=>hk (by rw [e]))⟩
theorem ZB2 {W:World} {b:Nat} {u0 u1:Value} {t:TypeId} (h:W.heap[b]? = some (.cells #[u0,u1] t (0,0))) (v0 v1:Value):((W.setCell ⟨b,0,none⟩ v0).setCell ⟨b,1,none⟩ v1).heap[b]? = some (.cells #[v0,v1] t (0,0)):=by
 have h1:(W.setCell ⟨b,0,none⟩ v0).heap[b]? = some (.cells #[v0,u1] t (0,0)):=by
  obtain ⟨hlt,hk⟩:=ZZZ h
  show (W.heap.modify b _)[b]? = _
  rw [Array.getElem?_eq_getElem (by rw [Array.size_modify];exact hlt),Array.getElem_modify_self,hk]
  rfl
 obtain ⟨hlt,hk⟩:=ZZZ h1
 show (Array.modify (W.setCell ⟨b,0,none⟩ v0).heap b _)[b]? = _
 rw [Array.getElem?_eq_getElem (by rw [Array.size_modify];exact hlt),Array.getElem_modify_self,hk]
 rfl
theorem ZDE:(Tryz.prog.info? 51).map (fun i=>(i.zero,i.size,i.bytes))=some (some (.agg #[.string ⟨#[]⟩,.int .i64 0,.bool false,.int .i64 0,.int .i64 0,.string ⟨#[]⟩,.slice none 0 0]),7,88):=by kernel_rfl
theorem ZAg {W:World} {b:Nat} {u0 u1:Value} {t:TypeId} (h:W.heap[b]? = some (.cells #[u0,u1] t (0,0))):W.cell? ⟨b,0,none⟩=some u0∧W.cell? ⟨b,1,none⟩=some u1:=by
 constructor<;>simp [World.cell?,h]
theorem ZAD {W:World} {b:Nat} {u0 u1:Value} {t:TypeId} (h:W.heap[b]? = some (.cells #[u0,u1] t (0,0))):W.cell? ⟨b,0,none⟩=some u0∧W.cell? ⟨b,1,none⟩=some u1∧W.frozen? ⟨b,0,none⟩=false∧W.frozen? ⟨b,1,none⟩=false:=by
 refine ⟨?_, ?_, ?_, ?_⟩<;>simp [World.cell?,World.frozen?,h]
theorem ZAs {w W:World} {size:Nat} {a:Option Addr} {n:Nat} {xs:List Value} (h:ZB7 w size a n xs) (hb:Below w.heap.size w W):ZB7 W size a n xs:=
 ⟨h.1,h.2.imp id fun ⟨ad,e,hc⟩=>⟨ad,e,fun j u hu=>by
  have h0:=hc j u hu
  have hlt:=World.block_lt_of_cell? w _ h0
  rw [←h0]
  simp only [World.cell?,hb.block _ hlt]⟩⟩
def ZBd (B:Nat) (w0 W:World) (x:Sc.Ver) (sv cv:Value):Prop:=∃ cs,W.ownsRow B 51 7 sv x.slots.length cs∧ZBw w0 x.slots cs∧W.ownsRow B 3 1 cv x.cols.length ((x.cols.map Int.ofNat).map (Value.int .i64))∧(∀ b,sv.ownBlock=some b→cv.ownBlock=some b→False)
def ZOG (w:World) (sa:Option Addr) (n sc:Nat) (ca:Option Addr) (m cc b1 b2:Nat) (W:World):Prop:=Below w.heap.size w W∧W.heap[b1]? = some (.cells #[.slice sa n sc,.slice ca m cc] 128 (0,0))∧∃ u0 u1,W.heap[b2]? = some (.cells #[u0,u1] 128 (0,0))
theorem ZBp {w W W':World} {sa ca:Option Addr} {n sc m cc b1 b2:Nat} {row:Option Nat} (h:ZOG w sa n sc ca m cc b1 b2 W) (k:W.grownBy W' row) (hr:∀ b,row=some b→b≠b1∧b≠b2∧w.heap.size≤b) (hs:w.heap.size≤W.heap.size):ZOG w sa n sc ca m cc b1 b2 W':=by
 obtain ⟨h1,h2,u0,u1,h3⟩:=h
 refine ⟨ZAE h1 k (fun b e=>(hr b e).2.2) hs,(k.block b1 (ZZZ h2).1 (fun e=>(hr b1 e.symm).1 rfl)).trans h2,u0,u1,(k.block b2 (ZZZ h3).1 (fun e=>(hr b2 e.symm).2.1 rfl)).trans h3⟩
open Go.RowKit Go.Shelf
def GotC (T:TypeId) (size:Nat) (w:World) (n:Nat) (cs:List Value) (e:Ending) (w':World):Prop:=∃ v,e=.returned v∧w'.ownsRow w.heap.size T size v n cs∧Below w.heap.size w w'
abbrev RC:=Option Addr × Nat × Nat × List Value
def ZLR (size:Nat) (W:World) (b:Nat) (rows:List RC):Prop:=∀ i x,rows[i]? = some x→W.cell? ⟨b,i,none⟩=some (.slice x.1 x.2.1 x.2.2.1)∧ZB7 W size x.1 x.2.1 x.2.2.2∧(∀ u∈x.2.2.2,u.oneCell'=true)
def catC (rows:List RC):List Value:=rows.flatMap (·.2.2.2)
def numC:List RC→Nat
 | []=>0
 |x :: r=>x.2.1+numC r
theorem ZHy (rows:List RC) (k:Nat) (x:RC) (h:rows[k]? = some x):catC (rows.take (k+1))=catC (rows.take k)++x.2.2.2:=by
 rw [List.take_add_one,h];simp [catC]
theorem ZFe (a b:List RC):numC (a++b)=numC a+numC b:=by
 induction a with
 |nil=>simp [numC]
 |cons x r ih=>simp only [List.cons_append,numC,ih];omega
theorem ZEL (rows:List RC) (k:Nat) (x:RC) (h:rows[k]? = some x):numC (rows.take (k+1))=numC (rows.take k)+x.2.1:=by
 rw [List.take_add_one,h,ZFe];simp [numC]
theorem ZMg (rows:List RC) (k:Nat):numC (rows.take k)≤numC rows:=by
 have e:numC rows=numC (rows.take k)+numC (rows.drop k):=by rw [←ZFe,List.take_append_drop]
 omega
theorem ZFf {size:Nat} {W W':World} {b:Nat} {rows:List RC} (h:ZLR size W b rows) (hb:Below W.heap.size W W'):ZLR size W' b rows:=fun i x hx=>by
 obtain ⟨h1,h2,h3⟩:=h i x hx
 exact ⟨ZAA hb h1,ZAs h2 hb,h3⟩
theorem ZLS (a:Option Addr) (n c:Nat) (cs:List Value) (w:World) (h:ZB7 w 7 a n cs) (h1:∀ u∈cs,u.oneCell'=true) (hn:n≤1000000):Calls Tryz.prog 166 #[.slice a n c] w (GotC 51 7 w n cs):=by
 obtain ⟨i0,hi,hz0,hz1,hz2⟩:=info_parts ZDE
 have hnil:=fun w a n c=>Lib.run_eql_slice_nil (P:=Tryz.prog) w 37 51 a n c 0 0 Tryz.underlying37
 have hlen:=h.1
 cases a with
 |none=>
  obtain rfl:n=0:=by rcases h.2 with h | ⟨_,h,_⟩<;>first | exact h | cases h
  obtain rfl:cs = []:=List.length_eq_zero_iff.1 (by simpa using hlen)
  clear hi
  go_enter func166,ntmps166
  go_wp2
  go_ret
  exact ⟨_,rfl,World.ownsRow_nil _ _ _ _,Below.refl _ _⟩
 |some ad=>
  have hA:=(Below.refl _ w).alloc (Nat.le_refl _) (.cells #[] 51)
  have hr:=ZAs h hA
  have ho:=ZCr w w.heap.size 51 7 (Nat.le_refl _)
  have HR:=ZZY hr;have HL:=ZZY hlen;have H1:=ZZY h1
  clear h hr hlen h1
  go_enter func166,ntmps166
  go_wp2_with (first
   |(at_builtin;refine ZAr _ rfl _ _ 37 rfl w.heap.size 51 i0 _ 7 88 Tryz.underlying37 hi hz0 hz1 hz2 rfl (by decide) (.slice (some ⟨w.heap.size,0,none⟩) 0 0) 0 [] rfl ho (some ad) n c cs rfl HR.out H1.out (by unfold maxLen;omega) (by omega) (by simp) ?_;intro v1 w1 hown1 hg1))
  go_ret
  exact ⟨_,rfl,by rw [Nat.zero_add,List.nil_append] at hown1;exact hown1,hA.trans ((ZBX hg1 ho (by simp)))⟩
theorem ZMh (n:Nat) (w:World) (hn:n≤1000000):Calls Tryz.prog 164 #[.slice none 0 0,.int .i64 (n:Int)] w (GotC 51 7 w 0 []):=by
 obtain ⟨i0,hi,hz0,hz1,hz2⟩:=info_parts ZDE
 rcases Nat.eq_zero_or_pos n with rfl | h0
 ·go_enter func164,ntmps164
  go_wp2
  go_ret
  exact ⟨_,rfl,World.ownsRow_nil _ _ _ _,Below.refl _ _⟩
 ·have hrun:=Lib.run_append_nil_zeros (P:=Tryz.prog) w 37 3 37 51 i0 (.agg #[.string ⟨#[]⟩,.int .i64 0,.bool false,.int .i64 0,.int .i64 0,.string ⟨#[]⟩,.slice none 0 0]) .i64 .i64 Tryz.underlying37 Tryz.underlying3 hi hz0 n h0 (by omega) (by omega) (by rw [hz2];omega)
  have hge:=grownCap_ge w n 0 51
  have hle:=grownCap_le_maxLen w n 0 51 (by unfold maxLen;omega)
  have hcs:(Builtin.zeroCells (Value.cells (.agg #[.string ⟨#[]⟩,.int .i64 0,.bool false,.int .i64 0,.int .i64 0,.string ⟨#[]⟩,.slice none 0 0])) n++Builtin.zeroCells (Value.cells (.agg #[.string ⟨#[]⟩,.int .i64 0,.bool false,.int .i64 0,.int .i64 0,.string ⟨#[]⟩,.slice none 0 0])) (grownCap w n 0 51-n)).size=grownCap w n 0 51*7:=by
   rw [Array.size_append,size_zeroCells,size_zeroCells];simp [Value.cells];omega
  generalize (Builtin.zeroCells (Value.cells (.agg #[.string ⟨#[]⟩,.int .i64 0,.bool false,.int .i64 0,.int .i64 0,.string ⟨#[]⟩,.slice none 0 0])) n++Builtin.zeroCells (Value.cells (.agg #[.string ⟨#[]⟩,.int .i64 0,.bool false,.int .i64 0,.int .i64 0,.string ⟨#[]⟩,.slice none 0 0])) (grownCap w n 0 51-n))=M at hrun hcs
  generalize grownCap w n 0 51=g at hrun hge hle hcs
  unfold maxLen at hle
  have hB:Below w.heap.size w (w.drew.alloc (.cells M 51)):=((Below.refl w.heap.size w).drew).alloc (Nat.le_refl _) _
  have hA:(w.drew.alloc (.cells M 51)).heap[w.heap.size]? = some (.cells M 51 (0,0)):=World.alloc_heap_new w.drew _
  clear hi hz0 hz1 hz2
  go_enter func164,ntmps164
  go_wp2_with (first | (at_builtin;refine Lib.wpList_append_run _ rfl _ _ _ _ rfl _ _ rfl rfl _ _ hrun ?_))
  go_ret
  exact ⟨_,rfl,⟨rfl,.inr ⟨w.heap.size,g,M,rfl,Nat.le_refl _,hA,Nat.zero_le _,by unfold maxLen;omega,by omega,by simp⟩⟩,hB⟩
theorem ZJS (rows:List RC) (b n cap:Nat) (w:World) (h:ZLR 7 w b rows) (hn:rows.length=n) (hc:n≤cap) (hcap:cap≤maxLen) (hl:numC rows≤1000000) :
  Calls Tryz.prog 156 #[.slice (some ⟨b,0,none⟩) n cap] w (GotC 51 7 w (numC rows) (catC rows)):=by
 obtain ⟨i0,hi,hz0,hz1,hz2⟩:=info_parts ZDE
 unfold maxLen at hcap
 have H:=ZZY h;clear h
 have HN:=ZZY hn;clear hn
 have HL:∀ k,numC (rows.take k)≤1000000:=fun k=>Nat.le_trans (ZMg rows k) hl
 have HL:=ZZY HL
 have hgr:=fun w=>ZMh (numC rows) w hl
 go_enter func156,ntmps156
 go_wp2
 go_loop [3,11] (fun c i=>∃ k:Nat,k≤n∧i=.int .i64 k∧c=.int .i64 (numC (rows.take k):Int)) (fun _ i=>n-(intOf i).toNat)
 case atStart=>exact ⟨0,by omega,rfl,rfl⟩
 case round=>
  obtain ⟨k,hk,rfl,rfl⟩:=hrel
  by_cases hlt:k<n
  ·obtain ⟨⟨xa,xl,xc,xt⟩,hx⟩:∃ x,rows[k]? = some x:=⟨rows[k]'(by rw [HN.out];exact hlt),List.getElem?_eq_getElem _⟩
   obtain ⟨c1,hr,ho1⟩:=H.out k _ hx
   dsimp only at c1 hr ho1
   have hst:=ZEL rows k _ hx
   dsimp only at hst
   have hl1:=HL.out (k+1)
   have hsum:numC (rows.take (k+1))=numC (rows.take k)+xl:=hst
   generalize hm':numC (rows.take (k+1))=m' at hl1 hsum
   generalize numC (rows.take k)=m at hsum
   have HM':=ZZY hm';clear hm'
   have HR:=ZZY hr;have HX:=ZZY hx
   clear hst hr hx hgr ho1
   have HS:=ZZY hsum
   have hm:m+xl≤1000000:=by omega
   clear hsum
   have d0:decide ((m:Int)+(xl:Int)<0)=false:=by simp;omega
   go_wp2
   go_round
   case rel=>exact ⟨k+1,by omega,by go_num,by rw [HM'.out,HS.out];simp⟩
   case measure=>simp [intOf];omega
  ·obtain rfl:k=n:=by omega
   have he:rows.take k=rows:=List.take_of_length_le (by rw [HN.out];omega)
   rw [he]
   have hln:=hl
   have HLL:=ZZY hl
   clear hl he
   obtain ⟨m,hm⟩:∃ m,numC rows=m:=⟨_,rfl⟩
   rw [hm] at hgr hln ⊢
   have HM:=ZZY hm;clear hm
   go_wp2_with (first | (go_at_call 164;(with_reducible refine (hgr _).mono ?_);rintro e w1 ⟨v1,rfl,hown1,hb1⟩))
   go_loopw [6,27] (fun c i wr=>∃ j:Nat,j≤k∧i=.int .i64 j∧wr.ownsRow w.heap.size 51 7 c (numC (rows.take j)) (catC (rows.take j))∧Below w.heap.size w wr) (fun _ i _=>k-(intOf i).toNat)
   case atStart=>exact ⟨0,by omega,rfl,hown1,hb1⟩
   case round=>
    obtain ⟨j,hj,rfl,hown,hB⟩:=hrel
    by_cases hlt:j<k
    ·obtain ⟨⟨xa,xl,xc,xt⟩,hx⟩:∃ x,rows[j]? = some x:=⟨rows[j]'(by rw [HN.out];exact hlt),List.getElem?_eq_getElem _⟩
     obtain ⟨c1,hr,ho1⟩:=ZFf H.out hB j _ hx
     dsimp only at c1 hr ho1
     have hst:=ZHy rows j _ hx
     dsimp only at hst
     have hsn:=ZEL rows j _ hx
     dsimp only at hsn
     have hl1:=HL.out (j+1)
     rw [hsn] at hl1
     have HST:=ZZY hst;have HSN:=ZZY hsn;have HR:=ZZY hr;have HX:=ZZY hx;have HO:=ZZY ho1
     clear hst hr hx hsn ho1
     generalize hX:catC (rows.take j)=X at *
     generalize hY:numC (rows.take j)=Y at *
     have HB:=ZZY hB
     go_wp2_with (first
      |(at_builtin;refine ZAr _ rfl _ _ 37 rfl w.heap.size 51 i0 _ 7 88 Tryz.underlying37 hi hz0 hz1 hz2 rfl (by decide) _ Y X rfl hown xa xl xc xt rfl HR.out HO.out (by unfold maxLen;omega) (by omega) HB.out.size ?_;intro v2 w2 hown2 hg2))
     go_roundw
     all_goals (first
      |(case' rel=>exact ⟨j+1,by omega,by go_num,ZBQ hown2 HSN.out.symm HST.out.symm,HB.out.trans ((ZBX hg2 hown HB.out.size))⟩)
      |(case' measure=>simp [intOf];omega))
    ·obtain rfl:j=k:=by omega
     have he:rows.take j=rows:=List.take_of_length_le (by rw [HN.out];omega)
     rw [he] at hown
     go_wp2
     go_ret
     exact ⟨_,rfl,hown,hB⟩
theorem ZMi (n:Nat) (w:World) (hn:n≤1000000):Calls Tryz.prog 165 #[.slice none 0 0,.int .i64 (n:Int)] w (GotC 3 1 w 0 []):=by
 obtain ⟨i0,hi,hz0,hz1,hz2⟩:=info_parts ZCi
 rcases Nat.eq_zero_or_pos n with rfl | h0
 ·go_enter func165,ntmps165
  go_wp2
  go_ret
  exact ⟨_,rfl,World.ownsRow_nil _ _ _ _,Below.refl _ _⟩
 ·have hrun:=Lib.run_append_nil_zeros (P:=Tryz.prog) w 52 3 52 3 i0 (.int .i64 0) .i64 .i64 Tryz.underlying52 Tryz.underlying3 hi hz0 n h0 (by omega) (by omega) (by rw [hz2];omega)
  have hge:=grownCap_ge w n 0 3
  have hle:=grownCap_le_maxLen w n 0 3 (by unfold maxLen;omega)
  have hcs:(Builtin.zeroCells (Value.cells (.int .i64 0)) n++Builtin.zeroCells (Value.cells (.int .i64 0)) (grownCap w n 0 3-n)).size=grownCap w n 0 3*1:=by
   rw [Array.size_append,size_zeroCells,size_zeroCells];simp [Value.cells];omega
  generalize (Builtin.zeroCells (Value.cells (.int .i64 0)) n++Builtin.zeroCells (Value.cells (.int .i64 0)) (grownCap w n 0 3-n))=M at hrun hcs
  generalize grownCap w n 0 3=g at hrun hge hle hcs
  unfold maxLen at hle
  have hB:Below w.heap.size w (w.drew.alloc (.cells M 3)):=((Below.refl w.heap.size w).drew).alloc (Nat.le_refl _) _
  have hA:(w.drew.alloc (.cells M 3)).heap[w.heap.size]? = some (.cells M 3 (0,0)):=World.alloc_heap_new w.drew _
  clear hi hz0 hz1 hz2
  go_enter func165,ntmps165
  go_wp2_with (first | (at_builtin;refine Lib.wpList_append_run _ rfl _ _ _ _ rfl _ _ rfl rfl _ _ hrun ?_))
  go_ret
  exact ⟨_,rfl,⟨rfl,.inr ⟨w.heap.size,g,M,rfl,Nat.le_refl _,hA,Nat.zero_le _,by unfold maxLen;omega,by omega,by simp⟩⟩,hB⟩
theorem ZFg (rows:List RC) (b n cap:Nat) (w:World) (h:ZLR 1 w b rows) (hn:rows.length=n) (hc:n≤cap) (hcap:cap≤maxLen) (hl:numC rows≤1000000) :
  Calls Tryz.prog 157 #[.slice (some ⟨b,0,none⟩) n cap] w (GotC 3 1 w (numC rows) (catC rows)):=by
 obtain ⟨i0,hi,hz0,hz1,hz2⟩:=info_parts ZCi
 unfold maxLen at hcap
 have H:=ZZY h;clear h
 have HN:=ZZY hn;clear hn
 have HL:∀ k,numC (rows.take k)≤1000000:=fun k=>Nat.le_trans (ZMg rows k) hl
 have HL:=ZZY HL
 have hgr:=fun w=>ZMi (numC rows) w hl
 go_enter func157,ntmps157
 go_wp2
 go_loop [3,11] (fun c i=>∃ k:Nat,k≤n∧i=.int .i64 k∧c=.int .i64 (numC (rows.take k):Int)) (fun _ i=>n-(intOf i).toNat)
 case atStart=>exact ⟨0,by omega,rfl,rfl⟩
 case round=>
  obtain ⟨k,hk,rfl,rfl⟩:=hrel
  by_cases hlt:k<n
  ·obtain ⟨⟨xa,xl,xc,xt⟩,hx⟩:∃ x,rows[k]? = some x:=⟨rows[k]'(by rw [HN.out];exact hlt),List.getElem?_eq_getElem _⟩
   obtain ⟨c1,hr,ho1⟩:=H.out k _ hx
   dsimp only at c1 hr ho1
   have hst:=ZEL rows k _ hx
   dsimp only at hst
   have hl1:=HL.out (k+1)
   have hsum:numC (rows.take (k+1))=numC (rows.take k)+xl:=hst
   generalize hm':numC (rows.take (k+1))=m' at hl1 hsum
   generalize numC (rows.take k)=m at hsum
   have HM':=ZZY hm';clear hm'
   have HR:=ZZY hr;have HX:=ZZY hx
   clear hst hr hx hgr ho1
   have HS:=ZZY hsum
   have hm:m+xl≤1000000:=by omega
   clear hsum
   have d0:decide ((m:Int)+(xl:Int)<0)=false:=by simp;omega
   go_wp2
   go_round
   case rel=>exact ⟨k+1,by omega,by go_num,by rw [HM'.out,HS.out];simp⟩
   case measure=>simp [intOf];omega
  ·obtain rfl:k=n:=by omega
   have he:rows.take k=rows:=List.take_of_length_le (by rw [HN.out];omega)
   rw [he]
   have hln:=hl
   have HLL:=ZZY hl
   clear hl he
   obtain ⟨m,hm⟩:∃ m,numC rows=m:=⟨_,rfl⟩
   rw [hm] at hgr hln ⊢
   have HM:=ZZY hm;clear hm
   go_wp2_with (first | (go_at_call 165;(with_reducible refine (hgr _).mono ?_);rintro e w1 ⟨v1,rfl,hown1,hb1⟩))
   go_loopw [6,27] (fun c i wr=>∃ j:Nat,j≤k∧i=.int .i64 j∧wr.ownsRow w.heap.size 3 1 c (numC (rows.take j)) (catC (rows.take j))∧Below w.heap.size w wr) (fun _ i _=>k-(intOf i).toNat)
   case atStart=>exact ⟨0,by omega,rfl,hown1,hb1⟩
   case round=>
    obtain ⟨j,hj,rfl,hown,hB⟩:=hrel
    by_cases hlt:j<k
    ·obtain ⟨⟨xa,xl,xc,xt⟩,hx⟩:∃ x,rows[j]? = some x:=⟨rows[j]'(by rw [HN.out];exact hlt),List.getElem?_eq_getElem _⟩
     obtain ⟨c1,hr,ho1⟩:=ZFf H.out hB j _ hx
     dsimp only at c1 hr ho1
     have hst:=ZHy rows j _ hx
     dsimp only at hst
     have hsn:=ZEL rows j _ hx
     dsimp only at hsn
     have hl1:=HL.out (j+1)
     rw [hsn] at hl1
     have HST:=ZZY hst;have HSN:=ZZY hsn;have HR:=ZZY hr;have HX:=ZZY hx;have HO:=ZZY ho1
     clear hst hr hx hsn ho1
     generalize hX:catC (rows.take j)=X at *
     generalize hY:numC (rows.take j)=Y at *
     have HB:=ZZY hB
     go_wp2_with (first
      |(at_builtin;refine ZAr _ rfl _ _ 52 rfl w.heap.size 3 i0 _ 1 8 Tryz.underlying52 hi hz0 hz1 hz2 rfl (by decide) _ Y X rfl hown xa xl xc xt rfl HR.out HO.out (by unfold maxLen;omega) (by omega) HB.out.size ?_;intro v2 w2 hown2 hg2))
     go_roundw
     all_goals (first
      |(case' rel=>exact ⟨j+1,by omega,by go_num,ZBQ hown2 HSN.out.symm HST.out.symm,HB.out.trans ((ZBX hg2 hown HB.out.size))⟩)
      |(case' measure=>simp [intOf];omega))
    ·obtain rfl:j=k:=by omega
     have he:rows.take j=rows:=List.take_of_length_le (by rw [HN.out];omega)
     rw [he] at hown
     go_wp2
     go_ret
     exact ⟨_,rfl,hown,hB⟩
open Go.RowKit Go.Shelf
def colC (l:List Nat):List Value:=(l.map Int.ofNat).map (Value.int .i64)
theorem ZOH (l:List Nat):∀ u∈colC l,u.oneCell'=true:=by
 intro u hu
 obtain ⟨i,_,rfl⟩:=List.mem_map.1 hu
 rfl
def ZJT (w0 W:World) (sv:Value) (l:List SlotM):Prop:=(∃ a c,sv=.slice a l.length c∧ZBV w0 a c l)∨∃ cs,W.ownsRow w0.heap.size 51 7 sv l.length cs∧ZBw w0 l cs
def ZMj (w0 W:World) (cv:Value) (l:List Nat):Prop:=(∃ a c,cv=.slice a l.length c∧Row w0 .i64 a l.length c (l.map Int.ofNat))∨W.ownsRow w0.heap.size 3 1 cv l.length (colC l)
def ZD9 (w0 W:World) (x:Sc.Ver) (sv cv:Value):Prop:=ZJT w0 W sv x.slots∧ZMj w0 W cv x.cols
def ZFG (w0 W W':World):Prop:=Below w0.heap.size w0 W'∧∀ b cs t fr,w0.heap.size≤b→W.heap[b]? = some (.cells cs t fr)→(t=51∨t=3)→W'.heap[b]? = some (.cells cs t fr)
theorem ZCW {w0 W W':World} (h0:Below w0.heap.size w0 W) (h:Below W.heap.size W W'):ZFG w0 W W':=
 ⟨h0.trans (h.mono h0.size),fun b cs t fr _ hb _=>(h.block b (ZZZ hb).1).trans hb⟩
theorem ZCX {w0 A B C:World} (h:ZFG w0 A B) (k:ZFG w0 B C):ZFG w0 A C:=⟨k.1,fun b cs t fr hb hc ht=>k.2 b cs t fr hb (h.2 b cs t fr hb hc ht) ht⟩
theorem ZEM {w0 W:World} {g i:Nat} {u:Value} {cs:Array Value} {t:TypeId} {fr:Nat × Nat} (h0:Below w0.heap.size w0 W) (hg:w0.heap.size≤g) (hh:W.heap[g]? = some (.cells cs t fr)) (h1:t≠51) (h2:t≠3):ZFG w0 W (W.setCell ⟨g,i,none⟩ u):=by
 have hk:=ZAJ W g i u
 refine ⟨ZAE h0 hk (fun b e=>by cases e;exact hg) h0.size,fun b cs' t' fr' _ hb ht=>(hk.block b (ZZZ hb).1 (fun e=>?_)).trans hb⟩
 cases e
 rw [hh] at hb
 cases hb
 rcases ht with ht | ht
 ·exact h1 ht
 ·exact h2 ht
theorem ZDF {w0 W W':World} {e:TypeId} {size n:Nat} {v:Value} {xs:List Value} (h:W.ownsRow w0.heap.size e size v n xs) (he:e=51∨e=3) (k:ZFG w0 W W'):W'.ownsRow w0.heap.size e size v n xs:=by
 refine ⟨h.1, ?_⟩
 rcases h.2 with hn | ⟨g,cap,cur,rfl,hg,hh,r⟩
 ·exact .inl hn
 ·exact .inr ⟨g,cap,cur,rfl,hg,k.2 g _ _ _ hg hh he,r⟩
theorem ZBW {w0 W W':World} {x:Sc.Ver} {sv cv:Value} (h:ZD9 w0 W x sv cv) (k:ZFG w0 W W'):ZD9 w0 W' x sv cv:=by
 obtain ⟨h1,h2⟩:=h
 refine ⟨?_, ?_⟩
 ·rcases h1 with h1 | ⟨cs,h1,h3⟩
  ·exact .inl h1
  ·exact .inr ⟨cs,ZDF h1 (.inl rfl) k,h3⟩
 ·rcases h2 with h2 | h2
  ·exact .inl h2
  ·exact .inr (ZDF h2 (.inr rfl) k)
theorem ZFh {W:World} {B:Nat} {e:TypeId} {size:Nat} {a:Option Addr} {n m c:Nat} {xs:List Value} (h:W.ownsRow B e size (.slice a m c) n xs):ZB7 W size a n xs:=by
 obtain ⟨h1,h2⟩:=h
 refine ⟨h1, ?_⟩
 rcases h2 with ⟨e1,rfl⟩ | ⟨g,cap,cur,e1,_,hh,hn,hm,hs,ht⟩
 ·left;simp at h1;omega
 ·cases e1
  refine .inr ⟨_,rfl,fun j u hj=>?_⟩
  rw [Addr.add_lit,Nat.zero_add]
  rw [←ht,List.getElem?_take] at hj
  split at hj
  ·rw [Array.getElem?_toList] at hj
   simp [World.cell?,hh,hj]
  ·cases hj
theorem ZHz {w0 W:World} {sv:Value} {l:List SlotM} (h:ZJT w0 W sv l) (h0:Below w0.heap.size w0 W):∃ a c cs,sv=.slice a l.length c∧ZBw w0 l cs∧ZB7 W 7 a l.length cs∧ZBV W a c l:=by
 rcases h with ⟨a,c,rfl,h⟩ | ⟨cs,h1,h2⟩
 ·obtain ⟨cs,k1,k2⟩:=ZLQ h
  exact ⟨a,c,cs,rfl,k1,ZAs k2 h0,ZAy h0 h⟩
 ·obtain ⟨a,c,rfl,h3⟩:=ZFd h1 h2 h0
  exact ⟨a,c,cs,rfl,h2,ZFh h1,h3⟩
theorem ZJU {w0 W:World} {cv:Value} {l:List Nat} (h:ZMj w0 W cv l) (h0:Below w0.heap.size w0 W):∃ a c,cv=.slice a l.length c∧Row W .i64 a l.length c (l.map Int.ofNat):=by
 rcases h with ⟨a,c,rfl,h⟩ | h
 ·exact ⟨a,c,rfl,ZAk h h0 rfl⟩
 ·exact ZBg h
theorem ZOI {w0 W:World} {x:Sc.Ver} {sv cv:Value} (h:ZD9 w0 W x sv cv) (h0:Below w0.heap.size w0 W):∃ sa sc ca cc cs,sv=.slice sa x.slots.length sc∧cv=.slice ca x.cols.length cc∧ZL4 W x sa sc ca cc∧ZBw w0 x.slots cs∧ZB7 W 7 sa x.slots.length cs:=by
 obtain ⟨a,c,cs,e1,h1,h2,h3⟩:=ZHz h.1 h0
 obtain ⟨a',c',e2,h4⟩:=ZJU h.2 h0
 exact ⟨a,c,a',c',cs,e1,e2,⟨h3,h4⟩,h1,h2⟩
