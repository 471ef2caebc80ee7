/- The walk of RegistryGets: the registry of all bytes, or that they are none's, is the document's, whatever stands behind. -/
import Derived.Test.YtcjdfdfphbckaaaGreatMh38Regi
import Derived.Test.YtcjdfdfphbckaaaGreatMh44Regi
import Derived.Test.YtcjdfdfphbckaaaGreatMh48Regi
import Derived.Test.YtcjdfdfphbckaaaGreatMh49Regi
import Derived.Test.YtcjdfdfphbckaaaGreatMh42Regi
set_option linter.unusedVariables false
set_option linter.unusedSimpArgs false
set_option maxRecDepth 100000
set_option maxHeartbeats 64000000
open Go.Proofs.Tryz
namespace Go.Proofs.YtcjdfdfphbckaaaGreat.registryGetsWalk
open Go.RowKit Go.Shelf
theorem rightD:ZPV:=fun a cap l w hr hg=>ZFw a cap l w hr hg
theorem ZO2 (l:List Int):getRg l=Rg.gGet l:=by
 obtain ⟨h1,h2⟩:=Rg.read_agree (some l)
 unfold getRg Rg.gGet
 rw [h1]
 cases h:Rg.gRead (some l) with
 |none=>simp
 |some ys=>rw [h2 ys h]
theorem ZO3 {S:Src} {W W':World} {p pt:Nat} {s:Bn.St} (h:RT S W pt s) (hg:W.grownBy W' (some p)) (h1:S.w0.heap.size≤p) (hne:pt≠p):RT S W' pt s:=
 ZHY h ⟨hg.os,hg.tape,hg.output,hg.size,fun k hk=>hg.block k (by have:=ZDq h;have:=h.1;omega) (by simp;omega)⟩ (hg.block pt (ZDq h) (by simpa using hne))
theorem ZO4 {S:Src} {W W':World} {p pt:Nat} {s s':Bn.St} (h:RD W p s) (hT:RT S W pt s') (hg:W.grownBy W' (some pt)) (hne:pt≠p):RD W' p s:=
 ZHi h (hg.block p (ZCf h) (by simp;omega)) fun b cs fr hb=>hg.block b (ZZZ hb).1 (by
  simp only [ne_eq,Option.some.injEq]
  rintro rfl
  obtain ⟨_,_,k,_,hA,_⟩:=hT
  rw [show W.heap[b]? = _ from hA] at hb
  cases hb)
theorem ZME {w W:World} {a:Option Addr} {n c:Nat} {l:List Int} (hr:Row w .u8 a n c l) (hb:ZCh l) (hn:n≤1000000) (hB:Below w.heap.size w W) :
  RT ⟨w,a,n,c,l,hr,hb,hn⟩ (W.alloc (.cells #[.slice a n c,.int .i64 0,.bool false] 32)) W.heap.size (some l):=
 ⟨hB.size,hB.alloc hB.size _,0,Nat.zero_le _,World.alloc_heap_new W _,fun x e=>by cases e;rfl⟩
theorem ZO5 (c1 c2:Nat) (w:World):Calls Tryz.prog 7 #[.slice none 0 c1,.slice none 0 c2] w fun e w'=>e=.returned (.bool true)∧Below w.heap.size w w':=by
 have hb:((0:Int) != (0:Int))=false:=rfl
 go_enter func7,ntmps7
 go_wp2
 go_loopw [5] (fun i wr=>i=.int .i64 0∧wr=w) (fun i _=>0)
 case atStart=>exact ⟨rfl,rfl⟩
 case round=>
  obtain ⟨rfl,rfl⟩:=hrel
  go_wp2
  go_ret
  exact ⟨rfl,Below.refl _ _⟩
theorem ZK0 (o:Option (List TemplM)) (a a':Option Addr) (n c n' c':Nat) (W:World) (h1:o=none→a=none∧n=0) (h2:∀ ys,o=some ys→n=ys.length∧ZAw W a c ys)
  (k1:o=none→a'=none∧n'=0) (k2:∀ ys,o=some ys→n'=ys.length∧ZAw W a' c' ys):Calls Tryz.prog 7 #[.slice a n c,.slice a' n' c'] W fun e w'=>e=.returned (.bool true)∧Below W.heap.size W w':=by
 cases o with
 |none=>
  obtain ⟨rfl,rfl⟩:=h1 rfl
  obtain ⟨rfl,rfl⟩:=k1 rfl
  exact ZO5 c c' W
 |some ys=>
  obtain ⟨rfl,r1⟩:=h2 ys rfl
  obtain ⟨rfl,r2⟩:=k2 ys rfl
  have:=ZHX a a' c c' ys ys W r1 r2
  rwa [ZDu] at this
theorem walk (a0:Option Addr) (len0 cap0:Nat) (z0:List Int) (w:World) (w0:ZPY .u8 w a0 len0 cap0 z0) :
  Calls Tryz.prog 3 #[.slice a0 len0 cap0] w fun e w'=>e=.returned (.bool true)∧Below w.heap.size w w':=by
 obtain ⟨hx,hbw⟩:=ZHm w0
 have hbx:=ZN6 hbw
 clear w0 hbw
 generalize z0.take len0=x at *
 have hal:=fun W=>ZJ1 W
 by_cases hn0:3000<len0
 ·have d0:decide ((3000:Int)<(len0:Int))=true:=by simp;omega
  clear hx hbx
  go_enter func3,ntmps3
  go_wp2_with (first | (go_at_call 4;(with_reducible refine (hal _).mono ?_);rintro e wA ⟨rfl,hA⟩))
  go_ret
  exact ⟨rfl,hA⟩
 have d0:decide ((3000:Int)<(len0:Int))=false:=by simp;omega
 have hm0:len0≤1000000:=by omega
 obtain ⟨S,hS⟩:∃ S:Src,S=⟨w,a0,len0,cap0,x,hx,hbx,hm0⟩:=⟨_,rfl⟩
 have hSw:S.w0.heap.size=w.heap.size:=by rw [hS]
 have hNew:∀ W,Below w.heap.size w W→RT S (W.alloc (.cells #[.slice a0 len0 cap0,.int .i64 0,.bool false] 32)) W.heap.size (some x):=fun W hB=>by rw [hS];exact ZME hx hbx hm0 hB
 have hOpen:=fun W (hB:Below w.heap.size w W)=>ZGq a0 len0 cap0 x W (ZAk hx hB rfl) hbx (by omega)
 have hGet:=fun W (hB:Below w.heap.size w W)=>ZL1 a0 len0 cap0 x W (ZAk hx hB rfl) hbx (by omega)
 have hGet2:=fun W (hB:Below w.heap.size w W)=>ZI1 (fun S p s w h=>ZEc rightD S p s w h) a0 len0 cap0 x W (ZAk hx hB rfl) hbx hm0
 rw [ZO2] at hGet
 obtain ⟨o,ho⟩:∃ o,Rg.gGet x=o:=⟨_,rfl⟩
 unfold ZKd at hGet
 unfold ZF1 at hGet2
 simp only [ho] at hGet hGet2
 obtain ⟨g,hg⟩:∃ g,Rg.gRead (some x)=g:=⟨_,rfl⟩
 obtain ⟨ag1,ag2⟩:=Rg.read_agree (some x)
 have hRd:=fun p W (h:RD W p (some x))=>ZJ7 p (some x) W h
 have hRd2:=fun pt W (h:RT S W pt (some x))=>ZEc rightD S pt (some x) W h
 unfold ZIB at hRd
 unfold ZEI at hRd2
 simp only [ag1,hg] at hRd
 simp only [hg] at hRd2
 rw [hg] at ag2
 obtain ⟨st,hst⟩:∃ st,(Rg.gReg (some x)).2=st:=⟨_,rfl⟩
 obtain ⟨st',hst'⟩:∃ st,(Rg.rReg (some x)).2=st:=⟨_,rfl⟩
 rw [hst] at hRd2 ag2
 rw [hst'] at hRd ag2
 have HNEW:=ZZY hNew;have HOPEN:=ZZY hOpen;have HGET:=ZZY hGet;have HGET2:=ZZY hGet2;have HRD:=ZZY hRd;have HRD2:=ZZY hRd2
 clear hx hbx hS hNew hOpen hGet hGet2 hRd hRd2 hn0 ho hg ag1 hst hst'
 go_enter func3,ntmps3
 go_wp2_with (first
  |(go_at_call 4;(with_reducible refine (hal _).mono ?_);rintro e wA ⟨rfl,hA⟩)
  |(go_at_call 5;(with_reducible refine (HGET.out _ hA).mono ?_);rintro e wG ⟨ga,gl,gc,rfl,gn,gs,hbG⟩;have hG:=hA.trans (hbG.mono hA.size))
  |(go_at_call 6;(with_reducible refine (HGET2.out _ hG).mono ?_);rintro e wH ⟨ha,hl,hc,rfl,hn,hs,hbH⟩;have hH:=hG.trans (hbH.mono hG.size)))
 have hbGH:=hbG.trans (hbH.mono hbG.size)
 have hS1:=ZK0 o ga ha gl gc hl hc wH gn (fun ys h=>⟨(gs ys h).1,(gs ys h).2 wH fun b b1 b2=>hbH.block b b2⟩) hn (fun ys h=>⟨(hs ys h).1,(hs ys h).2 wH fun _ _ _=>rfl⟩)
 clear gn gs hn hs hbG hbH hG
 (with_reducible refine hS1.mono ?_)
 rintro e wS ⟨rfl,hbS⟩
 have hS:=hH.trans (hbS.mono hH.size)
 have hb0:(o.isSome != o.isSome)=false:=by simp
 clear hbS hH hA hS1
 go_wp2_with (go_at_call 8;(with_reducible refine (HOPEN.out _ hS).mono ?_);rintro e w2 ⟨p,rfl,hp,hR2,hb2⟩;have hA2:=hS.trans (hb2.mono hS.size);have hT2:=HNEW.out _ hA2)
 have hsp:w.heap.size≤p:=Nat.le_trans hS.size hp
 have hpl:=ZCf hR2
 have hal2:=(Below.refl _ w2).alloc (Nat.le_refl _) (.cells #[.slice a0 len0 cap0,.int .i64 0,.bool false] 32)
 have hR3:=ZAp hR2 hal2
 have hA3:=hA2.trans (hal2.mono hA2.size)
 obtain ⟨pt,hpt⟩:∃ pt,w2.heap.size=pt:=⟨_,rfl⟩
 rw [hpt] at hT2 hpl ⊢
 have hne:pt≠p:=by omega
 have hsw:w.heap.size≤pt:=by have:=hA2.size;omega
 obtain ⟨w3,hw3⟩:∃ x,w2.alloc (.cells #[.slice a0 len0 cap0,.int .i64 0,.bool false] 32)=x:=⟨_,rfl⟩
 rw [hw3] at hT2 hR3 hA3 ⊢
 clear hR2 hb2 hA2 hal2 hw3 hpt hS hp
 go_wp2_with (first
  |(go_at_call 9;(with_reducible refine (HRD.out _ _ hR3).mono ?_);rintro e w4 ⟨ra,rl,rc,s4,rfl,rn,rs,hR4,hg4⟩;have hT4:=ZO3 hT2 hg4 (by omega) hne)
  |(go_at_call 10;(with_reducible refine (HRD2.out _ _ hT4).mono ?_);rintro e w5 ⟨da,dl,dc,rfl,dn,ds,hT5,hg5⟩;have hR5:=ZO4 hR4 hT4 hg5 hne))
 have hG4:Below w.heap.size w w4:=ZAE hA3 hg4 (fun b e=>by cases e;exact hsp) hA3.size
 have hG5:Below w.heap.size w w5:=ZAE hG4 hg5 (fun b e=>by cases e;exact hsw) hG4.size
 have hp3:=ZDq hT2
 have hS2:∀ V,Below w5.heap.size w5 V→Calls Tryz.prog 7 #[.slice ra rl rc,.slice da dl dc] V fun e w'=>e=.returned (.bool true)∧Below V.heap.size V w':=fun V hV=>ZK0 g ra da rl rc dl dc V rn (fun ys h=>⟨(rs ys h).2.1,(rs ys h).2.2 V fun b b1 b2=>(hV.block b (by have:=hg5.size;omega)).trans (hg5.block b b2 (fun e=>by cases e;omega))⟩) dn
  (fun ys h=>⟨(ds ys h).1,(ds ys h).2 V fun b b1 b2=>hV.block b b2⟩)
 have hL1:∀ V,Below w5.heap.size w5 V→Calls Tryz.prog 11 #[.pointer (some ⟨p,0,none⟩)] V fun e w'=>e=.returned (.int .i64 ((Bn.lf s4).length:Int))∧Below V.heap.size V w':=fun V hV=>(ZB0 p s4 V (ZAp hR5 hV)).mono fun e w' h=>⟨h.1,h.2 ▸ Below.refl _ _⟩
 have hL2:∀ V,Below w5.heap.size w5 V→Calls Tryz.prog 12 #[.pointer (some ⟨pt,0,none⟩)] V fun e w'=>e=.returned (.int .i64 ((Bn.lf st).length:Int))∧Below V.heap.size V w':=fun V hV=>(ZL7 S pt st V (ZA6 hT5 hV)).mono fun e w' h=>⟨h.1,by obtain ⟨n,h2⟩:=h.2;rw [h2];exact ZAh (Below.refl _ _) n⟩
 have hss:∀ ys,g=some ys→s4=st:=fun ys h=>by rw [(rs ys h).1];exact ag2 ys h
 have HS2:=ZZY hS2;have HL1:=ZZY hL1;have HL2:=ZZY hL2;have HG5:=ZZY hG5
 clear hS2 hL1 hL2 rn rs dn ds hR4 hg4 hT4 hT5 hg5 hR5 hG4 hG5 hT2 hR3 hA3 ag2
 cases g with
 |none=>
  simp only [Option.isSome_none]
  go_wp2_with (go_at_call 7;(with_reducible refine (HS2.out _ (Below.refl _ _)).mono ?_);rintro e w6 ⟨rfl,hB6⟩)
  go_ret
  exact ⟨rfl,HG5.out.trans (hB6.mono HG5.out.size)⟩
 |some ys=>
  obtain rfl:=hss ys rfl
  simp only [Option.isSome_some]
  go_wp2_with (first
   |(go_at_call 7;(with_reducible refine (HS2.out _ (Below.refl _ _)).mono ?_);rintro e w6 ⟨rfl,hB6⟩)
   |(go_at_call 11;(with_reducible refine (HL1.out _ hB6).mono ?_);rintro e w7 ⟨rfl,hB7⟩;have hB67:=hB6.trans (hB7.mono hB6.size))
   |(go_at_call 12;(with_reducible refine (HL2.out _ hB67).mono ?_);rintro e w8 ⟨rfl,hB8⟩;have hB78:=hB67.trans (hB8.mono hB67.size)))
  go_ret
  exact ⟨rfl,HG5.out.trans (hB78.mono HG5.out.size)⟩
end Go.Proofs.YtcjdfdfphbckaaaGreat.registryGetsWalk
