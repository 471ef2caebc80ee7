/- The program's schema: add. (Made by gen_spp.py.) -/
import Derived.Test.YtcjdfdfphbckaaaGreatMh29Regi
import Derived.Deep.RegionHeldLaw
set_option linter.unusedVariables false
set_option linter.unusedSimpArgs false
set_option maxRecDepth 100000
set_option maxHeartbeats 64000000
open Go.Proofs.Tryz
namespace Go.Proofs.YtcjdfdfphbckaaaGreat
open Go.RowKit Go.Shelf
theorem ZA5 {W:World} {h size n:Nat} {cs:Array Value} {t:TypeId} {fr:Nat × Nat} (e:W.heap[h]? = some (.cells cs t fr)) (hn:cs.size=n*size):ZB7 W size (some ⟨h,0,none⟩) n cs.toList:=
 ⟨by simpa using hn,.inr ⟨_,rfl,fun j u hu=>by
  rw [Addr.add_lit,Nat.zero_add]
  exact ZAB e (by simpa using hu)⟩⟩
theorem ZDA {w0 w U:World} {x:Sc.Ver} {sl:SlotM} {sa:Option Addr} {sc:Nat} {ca:Option Addr} {cc:Nat} {cs s7:List Value} {b B:Nat} {z0 z1:Value} {aA aB:Option Addr} {cA cB n m:Nat}
  (hin:StepIn w0 w x sa sc ca cc cs) (hs7:ZBw w0 [sl] s7) (hn:x.slots.length=n) (hm:x.cols.length=m) (hH:U.heap[b]? = some (.cells #[z0,z1] 146 (0,0))) (hB:Below w.heap.size w U) (hb:w.heap.size≤b) (hBB:w.heap.size≤B)
  (oA:U.ownsRow B 51 7 (.slice aA (n+1) cA) (n+1) (cs++s7)) (oB:U.ownsRow B 3 1 (.slice aB (m+1) cB) (m+1) (colC (x.cols ++ [x.slots.length]))) :
  ZCQ (some ⟨x.slots ++ [sl],x.cols ++ [x.slots.length]⟩) w0 w (.returned (.tuple #[.agg #[.slice aA (n+1) cA,.slice aB (m+1) cB],.bool true])) ((U.setCell ⟨b,0,none⟩ (.slice aA (n+1) cA)).setCell ⟨b,1,none⟩ (.slice aB (m+1) cB)):=by
 have hout:=ZAd (.slice aA (n+1) cA) (.slice aB (m+1) cB) hH hB hb
 have hwz:=hin.below.size
 have hkp:=ZB9 (.slice aA (n+1) cA) (.slice aB (m+1) cB) (hin.below.trans (hB.mono hin.below.size)) hH (by omega)
 refine ⟨⟨.slice aA (n+1) cA,.slice aB (m+1) cB,rfl,.inr ⟨cs++s7, ?_,ZCj hin.sc hs7⟩,.inr ?_⟩,hout.2⟩
 ·simp only [List.length_append,List.length_cons,List.length_nil]
  rw [hn]
  exact ZDF (ZAH oA (by omega)) (.inl rfl) hkp
 ·simp only [List.length_append,List.length_cons,List.length_nil]
  rw [hm]
  exact ZDF (ZAH oB (by omega)) (.inr rfl) hkp
theorem rows2P {size:Nat} {W:World} {b:Nat} {r1 r2:RC} (h1:W.cell? ⟨b,0,none⟩=some (.slice r1.1 r1.2.1 r1.2.2.1)) (k1:ZB7 W size r1.1 r1.2.1 r1.2.2.2) (o1:∀ u∈r1.2.2.2,u.oneCell'=true)
  (h2:W.cell? ⟨b,1,none⟩=some (.slice r2.1 r2.2.1 r2.2.2.1)) (k2:ZB7 W size r2.1 r2.2.1 r2.2.2.2) (o2:∀ u∈r2.2.2.2,u.oneCell'=true):ZLR size W b [r1,r2]:=rows2C h1 k1 o1 h2 k2 o2
theorem k9 {p q:Nat} {c0 c1 c2 c3 c4 c5 c6 c7 c8:Value} {W W':World} (g:W.cell? ⟨p,0,none⟩=some c0∧W.cell? ⟨p,1,none⟩=some c1∧W.cell? ⟨q,2,none⟩=some c2∧W.cell? ⟨q,3,none⟩=some c3∧W.cell? ⟨q,4,none⟩=some c4∧W.cell? ⟨q,5,none⟩=some c5∧W.cell? ⟨q,6,none⟩=some c6∧W.cell? ⟨q,7,none⟩=some c7∧W.cell? ⟨q,8,none⟩=some c8) (hb:Below W.heap.size W W'):W'.cell? ⟨p,0,none⟩=some c0∧W'.cell? ⟨p,1,none⟩=some c1∧W'.cell? ⟨q,2,none⟩=some c2∧W'.cell? ⟨q,3,none⟩=some c3∧W'.cell? ⟨q,4,none⟩=some c4∧W'.cell? ⟨q,5,none⟩=some c5∧W'.cell? ⟨q,6,none⟩=some c6∧W'.cell? ⟨q,7,none⟩=some c7∧W'.cell? ⟨q,8,none⟩=some c8:=
 ⟨ZAA hb g.1,ZAA hb g.2.1,ZAA hb g.2.2.1,ZAA hb g.2.2.2.1,ZAA hb g.2.2.2.2.1,ZAA hb g.2.2.2.2.2.1,ZAA hb g.2.2.2.2.2.2.1,ZAA hb g.2.2.2.2.2.2.2.1,ZAA hb g.2.2.2.2.2.2.2.2⟩
theorem k9s {p q r:Nat} {c0 c1 c2 c3 c4 c5 c6 c7 c8 u v:Value} {W:World} (g:W.cell? ⟨p,0,none⟩=some c0∧W.cell? ⟨p,1,none⟩=some c1∧W.cell? ⟨q,2,none⟩=some c2∧W.cell? ⟨q,3,none⟩=some c3∧W.cell? ⟨q,4,none⟩=some c4∧W.cell? ⟨q,5,none⟩=some c5∧W.cell? ⟨q,6,none⟩=some c6∧W.cell? ⟨q,7,none⟩=some c7∧W.cell? ⟨q,8,none⟩=some c8) (hp:p≠r) (hq:q≠r):((W.setCell ⟨r,0,none⟩ u).setCell ⟨r,1,none⟩ v).cell? ⟨p,0,none⟩=some c0∧((W.setCell ⟨r,0,none⟩ u).setCell ⟨r,1,none⟩ v).cell? ⟨p,1,none⟩=some c1∧((W.setCell ⟨r,0,none⟩ u).setCell ⟨r,1,none⟩ v).cell? ⟨q,2,none⟩=some c2∧((W.setCell ⟨r,0,none⟩ u).setCell ⟨r,1,none⟩ v).cell? ⟨q,3,none⟩=some c3∧((W.setCell ⟨r,0,none⟩ u).setCell ⟨r,1,none⟩ v).cell? ⟨q,4,none⟩=some c4∧((W.setCell ⟨r,0,none⟩ u).setCell ⟨r,1,none⟩ v).cell? ⟨q,5,none⟩=some c5∧((W.setCell ⟨r,0,none⟩ u).setCell ⟨r,1,none⟩ v).cell? ⟨q,6,none⟩=some c6∧((W.setCell ⟨r,0,none⟩ u).setCell ⟨r,1,none⟩ v).cell? ⟨q,7,none⟩=some c7∧((W.setCell ⟨r,0,none⟩ u).setCell ⟨r,1,none⟩ v).cell? ⟨q,8,none⟩=some c8:=
 ⟨ZAU (k:=0) (ZAU (k:=0) g.1 hp) hp,ZAU (k:=0) (ZAU (k:=0) g.2.1 hp) hp,ZAU (k:=0) (ZAU (k:=0) g.2.2.1 hq) hq,ZAU (k:=0) (ZAU (k:=0) g.2.2.2.1 hq) hq,ZAU (k:=0) (ZAU (k:=0) g.2.2.2.2.1 hq) hq,ZAU (k:=0) (ZAU (k:=0) g.2.2.2.2.2.1 hq) hq,ZAU (k:=0) (ZAU (k:=0) g.2.2.2.2.2.2.1 hq) hq,ZAU (k:=0) (ZAU (k:=0) g.2.2.2.2.2.2.2.1 hq) hq,ZAU (k:=0) (ZAU (k:=0) g.2.2.2.2.2.2.2.2 hq) hq⟩
theorem ZNI:ZIM 147 1:=fun x s sa sc ca cc cs w0 w X hk hok hin hs0 hsz=>by
 have hs:=ZBB hin.below hs0
 have hst:=Sc.step1 (x:=x) hk
 have HIN:=ZZY hin
 have hv:=hin.ver
 obtain ⟨k,n0,tx,a,len,cap,oa,oc,rfl,hI1,hI2,hI3,hnm,hi,hr,ho⟩:=ZBF hs
 have hsl:=ZBx hs
 have hsl0:=ZBx hs0
 have hs7:ZBw w0 [s.sl] [.string s.sl.nm,.int .i64 s.sl.ty,.bool s.sl.rq,.int .i64 k,.int .i64 n0,.string tx,.slice a len cap]:=by
  obtain ⟨_,_,_,_,_,_,_,e,h7⟩:=hsl0
  simp only [Value.agg.injEq,Array.mk.injEq,List.cons.injEq,and_true] at e
  obtain ⟨rfl,rfl,rfl,rfl,rfl,rfl,rfl⟩:=e
  exact ZDx h7
 have htold:∀ W,Below w.heap.size w W→ZA3 W ⟨0,0,s.sl,[]⟩ (.agg #[.int .i64 0,.int .i64 0,.string s.sl.nm,.int .i64 s.sl.ty,.bool s.sl.rq,.int .i64 k,.int .i64 n0,.string tx,.slice a len cap,.slice none 0 0]):=fun W hb=>by
  obtain ⟨_,_,_,_,_,_,_,e,h7⟩:=ZAn hb hsl
  simp only [Value.agg.injEq,Array.mk.injEq,List.cons.injEq,and_true] at e
  obtain ⟨rfl,rfl,rfl,rfl,rfl,rfl,rfl⟩:=e
  exact ⟨_,_,_,_,_,_,_,none,0,rfl,ZB8,ZB8,h7,ZJZ W,by simp⟩
 have h1:=fun W (hb:Below w.heap.size w W)=>ZEg s _ W _ _ (ZBB hb hs) (htold W hb)
 have h2:=fun W (hb:Below w.heap.size w W)=>ZGO s.sl hsz W _ (ZAn hb hsl)
 have h3:=fun W (hb:Below w.heap.size w W)=>ZKD x sa sc ca cc s.sl.nm W hok.lt hnm ⟨ZAy hb hv.1,ZAk hv.2 hb rfl⟩
 obtain ⟨O,hO⟩:∃ O,Sc.step x s=O:=⟨_,rfl⟩
 rw [hO] at hst ⊢
 obtain ⟨b0,e0⟩:∃ b,onlyB s ⟨0,0,s.sl,[]⟩=b:=⟨_,rfl⟩
 obtain ⟨b2,e2⟩:∃ b,Sc.sound s.sl=b:=⟨_,rfl⟩
 obtain ⟨b4,e4⟩:∃ b,decide (Sc.colI x s.sl.nm<0)=b:=⟨_,rfl⟩
 have e4':decide (Sc.colI x s.sl.nm≥0) = !b4:=by rw [←e4,←decide_not];congr 1;rw [eq_iff_iff];omega
 obtain ⟨R,hR⟩:∃ R,Sc.colI x s.sl.nm=R:=⟨_,rfl⟩
 rw [e0] at h1 hst
 rw [e2] at h2 hst
 rw [e4] at hst
 rw [hR] at h3 e4'
 have hb0:=fun W=>ZDz W
 have hbA:=fun W=>ZLZ s.sl.nm s.sl.ty k n0 s.sl.rq tx a len cap W
 obtain ⟨kd,col,⟨nm,ty,rq,df⟩,od⟩:=s
 simp only at h1 h2 h3 hst hs7 hbA ⊢
 have HO1:=ZZY h1;have HO2:=ZZY h2;have HO3:=ZZY h3
 have HST:=ZZY hst;have HV:=ZZY hv;have HOK:=ZZY hok;have HS7:=ZZY hs7
 obtain ⟨n,hn⟩:∃ n,x.slots.length=n:=⟨_,rfl⟩
 obtain ⟨m,hm⟩:∃ m,x.cols.length=m:=⟨_,rfl⟩
 obtain ⟨ol,hol⟩:∃ ol,od.length=ol:=⟨_,rfl⟩
 have hn16:=hok.num
 have hm8:=hok.len
 rw [hn] at hn16
 rw [hm] at hm8
 rw [hol] at HO1
 rw [hn,hm] at HO3
 rw [hn,hm,hol]
 have HN:=ZZY hn;have HM:=ZZY hm
 clear h1 h2 h3 hst e0 e2 e4 hv hok hin hs hs0 hs7 hsl hsl0 htold hi hr ho hI1 hI2 hI3 hk hO hR hn hm hol hnm hsz
 cases b0 with
 |false=>
  have hnone:O=none:=by rw [HST.out];simp
  go_enter func147,ntmps147
  go_wp2_with (first
   |(go_at_call 155;(with_reducible refine (HO1.out _ (below3 w _ _ _)).mono ?_);rintro e w1 ⟨rfl,hB1⟩;obtain ⟨g0,g1,hH⟩:=heap3 hB1;have x0:=ZAB (i:=0) (v:=.slice sa n sc) g0 rfl;have x1:=ZAB (i:=1) (v:=.slice ca m cc) g0 rfl;have t0:=ZAB (i:=0) (v:=.int .i64 kd) g1 rfl;have t1:=ZAB (i:=1) (v:=.int .i64 col) g1 rfl;have t2:=ZAB (i:=2) (v:=.string nm) g1 rfl;have t3:=ZAB (i:=3) (v:=.int .i64 ty) g1 rfl;have t4:=ZAB (i:=4) (v:=.bool rq) g1 rfl;have t5:=ZAB (i:=5) (v:=.int .i64 k) g1 rfl;have t6:=ZAB (i:=6) (v:=.int .i64 n0) g1 rfl;have t7:=ZAB (i:=7) (v:=.string tx) g1 rfl;have t8:=ZAB (i:=8) (v:=.slice a len cap) g1 rfl;have t9:=ZAB (i:=9) (v:=.slice oa ol oc) g1 rfl;clear g0 g1;obtain ⟨f0,f1,f2,f3⟩:=ZAD hH;have hBw:=(below3 w _ _ _).trans (hB1.mono (below3 w _ _ _).size)))
  refine bodyPost_ret (ZAF Tryz.results147 _ _ (w.heap.size+1+1) _ _ _ _ rfl (ZAd _ _ hH hBw (by omega)).1 Tryz.underlying146 rfl (by kernel_rfl)) rfl ?_
  exact ZBY hnone hH hBw (by omega) rfl
 |true=>
 by_cases h7:m≤7
 rotate_left
 ·have hnone:O=none:=by rw [HST.out,HM.out,decide_eq_false h7];simp
  have hd:decide ((m:Int)≥8)=true:=by simp;omega
  have H7:=ZZY h7;clear h7
  go_enter func147,ntmps147
  go_wp2_with (first
   |(go_at_call 155;(with_reducible refine (HO1.out _ (below3 w _ _ _)).mono ?_);rintro e w1 ⟨rfl,hB1⟩;obtain ⟨g0,g1,hH⟩:=heap3 hB1;have x0:=ZAB (i:=0) (v:=.slice sa n sc) g0 rfl;have x1:=ZAB (i:=1) (v:=.slice ca m cc) g0 rfl;have t0:=ZAB (i:=0) (v:=.int .i64 kd) g1 rfl;have t1:=ZAB (i:=1) (v:=.int .i64 col) g1 rfl;have t2:=ZAB (i:=2) (v:=.string nm) g1 rfl;have t3:=ZAB (i:=3) (v:=.int .i64 ty) g1 rfl;have t4:=ZAB (i:=4) (v:=.bool rq) g1 rfl;have t5:=ZAB (i:=5) (v:=.int .i64 k) g1 rfl;have t6:=ZAB (i:=6) (v:=.int .i64 n0) g1 rfl;have t7:=ZAB (i:=7) (v:=.string tx) g1 rfl;have t8:=ZAB (i:=8) (v:=.slice a len cap) g1 rfl;have t9:=ZAB (i:=9) (v:=.slice oa ol oc) g1 rfl;clear g0 g1;obtain ⟨f0,f1,f2,f3⟩:=ZAD hH;have hBw:=(below3 w _ _ _).trans (hB1.mono (below3 w _ _ _).size)))
  refine bodyPost_ret (ZAF Tryz.results147 _ _ (w.heap.size+1+1) _ _ _ _ rfl (ZAd _ _ hH hBw (by omega)).1 Tryz.underlying146 rfl (by kernel_rfl)) rfl ?_
  exact ZBY hnone hH hBw (by omega) rfl
 have hd8:decide ((m:Int)≥8)=false:=by simp;omega
 cases b2 with
 |false=>
  have hnone:O=none:=by rw [HST.out];simp
  go_enter func147,ntmps147
  go_wp2_with (first
   |(go_at_call 155;(with_reducible refine (HO1.out _ (below3 w _ _ _)).mono ?_);rintro e w1 ⟨rfl,hB1⟩;obtain ⟨g0,g1,hH⟩:=heap3 hB1;have x0:=ZAB (i:=0) (v:=.slice sa n sc) g0 rfl;have x1:=ZAB (i:=1) (v:=.slice ca m cc) g0 rfl;have t0:=ZAB (i:=0) (v:=.int .i64 kd) g1 rfl;have t1:=ZAB (i:=1) (v:=.int .i64 col) g1 rfl;have t2:=ZAB (i:=2) (v:=.string nm) g1 rfl;have t3:=ZAB (i:=3) (v:=.int .i64 ty) g1 rfl;have t4:=ZAB (i:=4) (v:=.bool rq) g1 rfl;have t5:=ZAB (i:=5) (v:=.int .i64 k) g1 rfl;have t6:=ZAB (i:=6) (v:=.int .i64 n0) g1 rfl;have t7:=ZAB (i:=7) (v:=.string tx) g1 rfl;have t8:=ZAB (i:=8) (v:=.slice a len cap) g1 rfl;have t9:=ZAB (i:=9) (v:=.slice oa ol oc) g1 rfl;clear g0 g1;obtain ⟨f0,f1,f2,f3⟩:=ZAD hH;have hBw:=(below3 w _ _ _).trans (hB1.mono (below3 w _ _ _).size))
   |(go_at_call 139;(with_reducible refine (HO2.out _ hBw).mono ?_);rintro e w2 ⟨rfl,hB2⟩;have x0:=ZAA hB2 x0;have x1:=ZAA hB2 x1;have t2:=ZAA hB2 t2;have t3:=ZAA hB2 t3;have t4:=ZAA hB2 t4;have t5:=ZAA hB2 t5;have t6:=ZAA hB2 t6;have t7:=ZAA hB2 t7;have t8:=ZAA hB2 t8;have hH:=(hB2.block _ (ZZZ hH).1).trans hH;obtain ⟨f0,f1,f2,f3⟩:=ZAD hH;have hBw:=hBw.trans (hB2.mono hBw.size)))
  refine bodyPost_ret (ZAF Tryz.results147 _ _ (w.heap.size+1+1) _ _ _ _ rfl (ZAd _ _ hH hBw (by omega)).1 Tryz.underlying146 rfl (by kernel_rfl)) rfl ?_
  exact ZBY hnone hH hBw (by omega) rfl
 |true=>
 cases rq with
 |true=>
  have hnone:O=none:=by rw [HST.out];simp
  go_enter func147,ntmps147
  go_wp2_with (first
   |(go_at_call 155;(with_reducible refine (HO1.out _ (below3 w _ _ _)).mono ?_);rintro e w1 ⟨rfl,hB1⟩;obtain ⟨g0,g1,hH⟩:=heap3 hB1;have x0:=ZAB (i:=0) (v:=.slice sa n sc) g0 rfl;have x1:=ZAB (i:=1) (v:=.slice ca m cc) g0 rfl;have t0:=ZAB (i:=0) (v:=.int .i64 kd) g1 rfl;have t1:=ZAB (i:=1) (v:=.int .i64 col) g1 rfl;have t2:=ZAB (i:=2) (v:=.string nm) g1 rfl;have t3:=ZAB (i:=3) (v:=.int .i64 ty) g1 rfl;have t4:=ZAB (i:=4) (v:=.bool true) g1 rfl;have t5:=ZAB (i:=5) (v:=.int .i64 k) g1 rfl;have t6:=ZAB (i:=6) (v:=.int .i64 n0) g1 rfl;have t7:=ZAB (i:=7) (v:=.string tx) g1 rfl;have t8:=ZAB (i:=8) (v:=.slice a len cap) g1 rfl;have t9:=ZAB (i:=9) (v:=.slice oa ol oc) g1 rfl;clear g0 g1;obtain ⟨f0,f1,f2,f3⟩:=ZAD hH;have hBw:=(below3 w _ _ _).trans (hB1.mono (below3 w _ _ _).size))
   |(go_at_call 139;(with_reducible refine (HO2.out _ hBw).mono ?_);rintro e w2 ⟨rfl,hB2⟩;have x0:=ZAA hB2 x0;have x1:=ZAA hB2 x1;have t2:=ZAA hB2 t2;have t3:=ZAA hB2 t3;have t4:=ZAA hB2 t4;have t5:=ZAA hB2 t5;have t6:=ZAA hB2 t6;have t7:=ZAA hB2 t7;have t8:=ZAA hB2 t8;have hH:=(hB2.block _ (ZZZ hH).1).trans hH;obtain ⟨f0,f1,f2,f3⟩:=ZAD hH;have hBw:=hBw.trans (hB2.mono hBw.size)))
  refine bodyPost_ret (ZAF Tryz.results147 _ _ (w.heap.size+1+1) _ _ _ _ rfl (ZAd _ _ hH hBw (by omega)).1 Tryz.underlying146 rfl (by kernel_rfl)) rfl ?_
  exact ZBY hnone hH hBw (by omega) rfl
 |false=>
 cases b4 with
 |false=>
  have hnone:O=none:=by rw [HST.out];simp
  go_enter func147,ntmps147
  go_wp2_with (first
   |(go_at_call 155;(with_reducible refine (HO1.out _ (below3 w _ _ _)).mono ?_);rintro e w1 ⟨rfl,hB1⟩;obtain ⟨g0,g1,hH⟩:=heap3 hB1;have x0:=ZAB (i:=0) (v:=.slice sa n sc) g0 rfl;have x1:=ZAB (i:=1) (v:=.slice ca m cc) g0 rfl;have t0:=ZAB (i:=0) (v:=.int .i64 kd) g1 rfl;have t1:=ZAB (i:=1) (v:=.int .i64 col) g1 rfl;have t2:=ZAB (i:=2) (v:=.string nm) g1 rfl;have t3:=ZAB (i:=3) (v:=.int .i64 ty) g1 rfl;have t4:=ZAB (i:=4) (v:=.bool false) g1 rfl;have t5:=ZAB (i:=5) (v:=.int .i64 k) g1 rfl;have t6:=ZAB (i:=6) (v:=.int .i64 n0) g1 rfl;have t7:=ZAB (i:=7) (v:=.string tx) g1 rfl;have t8:=ZAB (i:=8) (v:=.slice a len cap) g1 rfl;have t9:=ZAB (i:=9) (v:=.slice oa ol oc) g1 rfl;clear g0 g1;obtain ⟨f0,f1,f2,f3⟩:=ZAD hH;have hBw:=(below3 w _ _ _).trans (hB1.mono (below3 w _ _ _).size))
   |(go_at_call 139;(with_reducible refine (HO2.out _ hBw).mono ?_);rintro e w2 ⟨rfl,hB2⟩;have x0:=ZAA hB2 x0;have x1:=ZAA hB2 x1;have t2:=ZAA hB2 t2;have t3:=ZAA hB2 t3;have t4:=ZAA hB2 t4;have t5:=ZAA hB2 t5;have t6:=ZAA hB2 t6;have t7:=ZAA hB2 t7;have t8:=ZAA hB2 t8;have hH:=(hB2.block _ (ZZZ hH).1).trans hH;obtain ⟨f0,f1,f2,f3⟩:=ZAD hH;have hBw:=hBw.trans (hB2.mono hBw.size))
   |(go_at_call 140;(with_reducible refine (HO3.out _ hBw).mono ?_);rintro e w3 ⟨rfl,hB3⟩;have x0:=ZAA hB3 x0;have x1:=ZAA hB3 x1;have t2:=ZAA hB3 t2;have t3:=ZAA hB3 t3;have t4:=ZAA hB3 t4;have t5:=ZAA hB3 t5;have t6:=ZAA hB3 t6;have t7:=ZAA hB3 t7;have t8:=ZAA hB3 t8;have hH:=(hB3.block _ (ZZZ hH).1).trans hH;obtain ⟨f0,f1,f2,f3⟩:=ZAD hH;have hBw:=hBw.trans (hB3.mono hBw.size)))
  refine bodyPost_ret (ZAF Tryz.results147 _ _ (w.heap.size+1+1) _ _ _ _ rfl (ZAd _ _ hH hBw (by omega)).1 Tryz.underlying146 rfl (by kernel_rfl)) rfl ?_
  exact ZBY hnone hH hBw (by omega) rfl
 |true=>
  have hsome:O=some ⟨x.slots ++ [⟨nm,ty,false,df⟩],x.cols ++ [x.slots.length]⟩:=by
   rw [HST.out,HM.out,decide_eq_true h7];simp
  have HSO:=ZZY hsome
  clear hsome
  have hcl:=HIN.out.cells
  rw [HN.out] at hcl
  have hcr:=ZCK HV.out.2
  rw [HM.out] at hcr
  have hCA:∀ (U:World) (h g:Nat),Below w.heap.size w U→U.cell? ⟨g,0,none⟩=some (.slice sa n sc)→U.cell? ⟨g,1,none⟩=some (.slice (some ⟨h,0,none⟩) 1 1)→ZB7 U 7 (some ⟨h,0,none⟩) 1 [.string nm,.int .i64 ty,.bool false,.int .i64 k,.int .i64 n0,.string tx,.slice a len cap]→Calls Tryz.prog 156 #[.slice (some ⟨g,0,none⟩) 2 2] U (GotC 51 7 U (n+1) (cs ++ [.string nm,.int .i64 ty,.bool false,.int .i64 k,.int .i64 n0,.string tx,.slice a len cap])):=fun U h g hb e0 e1 e2=>by
   have hc:=ZJS [(sa,n,sc,cs),(some ⟨h,0,none⟩,1,1,[.string nm,.int .i64 ty,.bool false,.int .i64 k,.int .i64 n0,.string tx,.slice a len cap])] g 2 2 U (rows2P e0 (ZAs hcl hb) HIN.out.sc.2.1 e1 e2 HS7.out.2.1) rfl (Nat.le_refl _) (by unfold maxLen;omega) (by simp only [numC];omega)
   rw [show numC [(sa,n,sc,cs),(some ⟨h,0,none⟩,1,1,[.string nm,.int .i64 ty,.bool false,.int .i64 k,.int .i64 n0,.string tx,.slice a len cap])]=n+1 by simp [numC],show catC [(sa,n,sc,cs),(some ⟨h,0,none⟩,1,1,[.string nm,.int .i64 ty,.bool false,.int .i64 k,.int .i64 n0,.string tx,.slice a len cap])]=cs ++ [.string nm,.int .i64 ty,.bool false,.int .i64 k,.int .i64 n0,.string tx,.slice a len cap] by simp [catC]] at hc
   exact hc
  have hCB:∀ (U:World) (h g:Nat),Below w.heap.size w U→U.cell? ⟨g,0,none⟩=some (.slice ca m cc)→U.cell? ⟨g,1,none⟩=some (.slice (some ⟨h,0,none⟩) 1 1)→ZB7 U 1 (some ⟨h,0,none⟩) 1 [.int .i64 (n:Int)]→Calls Tryz.prog 157 #[.slice (some ⟨g,0,none⟩) 2 2] U (GotC 3 1 U (m+1) (colC (x.cols ++ [x.slots.length]))):=fun U h g hb e0 e1 e2=>by
   have hc:=ZFg [(ca,m,cc,colC x.cols),(some ⟨h,0,none⟩,1,1,[.int .i64 (n:Int)])] g 2 2 U (rows2P e0 (ZAs hcr hb) (ZOH _) e1 e2 (by simp [Value.oneCell'])) rfl (Nat.le_refl _) (by unfold maxLen;omega) (by simp only [numC];omega)
   rw [show numC [(ca,m,cc,colC x.cols),(some ⟨h,0,none⟩,1,1,[.int .i64 (n:Int)])]=m+1 by simp [numC],show catC [(ca,m,cc,colC x.cols),(some ⟨h,0,none⟩,1,1,[.int .i64 (n:Int)])]=colC (x.cols ++ [x.slots.length]) by simp [catC,colC,HN.out]] at hc
   exact hc
  have HCA:=ZZY hCA;have HCB:=ZZY hCB
  clear hCA hCB hcl hcr
  go_enter func147,ntmps147
  go_wp2_with (first
   |(go_at_call 155;(with_reducible refine (HO1.out _ (below3 w _ _ _)).mono ?_);rintro e w1 ⟨rfl,hB1⟩;obtain ⟨g0,g1,hH⟩:=heap3 hB1;have x0:=ZAB (i:=0) (v:=.slice sa n sc) g0 rfl;have x1:=ZAB (i:=1) (v:=.slice ca m cc) g0 rfl;have t0:=ZAB (i:=0) (v:=.int .i64 kd) g1 rfl;have t1:=ZAB (i:=1) (v:=.int .i64 col) g1 rfl;have t2:=ZAB (i:=2) (v:=.string nm) g1 rfl;have t3:=ZAB (i:=3) (v:=.int .i64 ty) g1 rfl;have t4:=ZAB (i:=4) (v:=.bool false) g1 rfl;have t5:=ZAB (i:=5) (v:=.int .i64 k) g1 rfl;have t6:=ZAB (i:=6) (v:=.int .i64 n0) g1 rfl;have t7:=ZAB (i:=7) (v:=.string tx) g1 rfl;have t8:=ZAB (i:=8) (v:=.slice a len cap) g1 rfl;have t9:=ZAB (i:=9) (v:=.slice oa ol oc) g1 rfl;clear g0 g1;obtain ⟨f0,f1,f2,f3⟩:=ZAD hH;have hBw:=(below3 w _ _ _).trans (hB1.mono (below3 w _ _ _).size))
   |(go_at_call 139;(with_reducible refine (HO2.out _ hBw).mono ?_);rintro e w2 ⟨rfl,hB2⟩;have x0:=ZAA hB2 x0;have x1:=ZAA hB2 x1;have t2:=ZAA hB2 t2;have t3:=ZAA hB2 t3;have t4:=ZAA hB2 t4;have t5:=ZAA hB2 t5;have t6:=ZAA hB2 t6;have t7:=ZAA hB2 t7;have t8:=ZAA hB2 t8;have hH:=(hB2.block _ (ZZZ hH).1).trans hH;obtain ⟨f0,f1,f2,f3⟩:=ZAD hH;have hBw:=hBw.trans (hB2.mono hBw.size))
   |(go_at_call 140;(with_reducible refine (HO3.out _ hBw).mono ?_);rintro e w3 ⟨rfl,hB3⟩;have x0:=ZAA hB3 x0;have x1:=ZAA hB3 x1;have t2:=ZAA hB3 t2;have t3:=ZAA hB3 t3;have t4:=ZAA hB3 t4;have t5:=ZAA hB3 t5;have t6:=ZAA hB3 t6;have t7:=ZAA hB3 t7;have t8:=ZAA hB3 t8;have hH:=(hB3.block _ (ZZZ hH).1).trans hH;obtain ⟨f0,f1,f2,f3⟩:=ZAD hH;have hBw:=hBw.trans (hB3.mono hBw.size)))
  have hSd:w3.drew.cell? ⟨w.heap.size,0,none⟩=some (.slice sa n sc)∧w3.drew.cell? ⟨w.heap.size,1,none⟩=some (.slice ca m cc)∧w3.drew.cell? ⟨w.heap.size+1,2,none⟩=some (.string nm)∧w3.drew.cell? ⟨w.heap.size+1,3,none⟩=some (.int .i64 ty)∧w3.drew.cell? ⟨w.heap.size+1,4,none⟩=some (.bool false)∧w3.drew.cell? ⟨w.heap.size+1,5,none⟩=some (.int .i64 k)∧w3.drew.cell? ⟨w.heap.size+1,6,none⟩=some (.int .i64 n0)∧w3.drew.cell? ⟨w.heap.size+1,7,none⟩=some (.string tx)∧w3.drew.cell? ⟨w.heap.size+1,8,none⟩=some (.slice a len cap):=⟨x0,x1,t2,t3,t4,t5,t6,t7,t8⟩
  refine wp_region_held_drew (S:=fun W=>W.cell? ⟨w.heap.size,0,none⟩=some (.slice sa n sc)∧W.cell? ⟨w.heap.size,1,none⟩=some (.slice ca m cc)∧W.cell? ⟨w.heap.size+1,2,none⟩=some (.string nm)∧W.cell? ⟨w.heap.size+1,3,none⟩=some (.int .i64 ty)∧W.cell? ⟨w.heap.size+1,4,none⟩=some (.bool false)∧W.cell? ⟨w.heap.size+1,5,none⟩=some (.int .i64 k)∧W.cell? ⟨w.heap.size+1,6,none⟩=some (.int .i64 n0)∧W.cell? ⟨w.heap.size+1,7,none⟩=some (.string tx)∧W.cell? ⟨w.heap.size+1,8,none⟩=some (.slice a len cap)) (by kernel_rfl) hSd (fun hHeld=>?_)
  have hBc:=hBw.drew
  have hHc:w3.drew.heap[w.heap.size+1+1]? = some (.cells #[.slice none 0 0,.slice none 0 0] 146 (0,0)):=hH
  obtain ⟨V0,hV⟩:∃ V,w3.drew=V:=⟨_,rfl⟩
  rw [hV] at hHeld hBc hHc ⊢
  clear hV hSd x0 x1 t0 t1 t9 t2 t3 t4 t5 t6 t7 t8 f0 f1 f2 f3 hH hBw
  obtain ⟨B0,hB0e⟩:∃ B,V0.heap.size=B:=⟨_,rfl⟩
  have hzc:B0≤V0.heap.size:=by omega
  have hB0s:w.heap.size≤B0:=by have:=hBc.size;omega
  clear hB0e
  refine wpAnyH_take (i:=0) (v:=?_) rfl (by kernel_rfl) (by kernel_rfl) (by kernel_rfl) (fun _ _ _ h=>h) (Or.inl ⟨by rfl, ?_⟩) (by assumption) ?_
  rotate_left
  ·intro w8 hSw;obtain ⟨q0,q1,q2,q3,q4,q5,q6,q7,q8⟩:=hSw;go_simp;(try with_reducible rfl)
  (try simp only [Act.put,ZZX,ZZW,ZZV])
  refine wpAnyH_take (i:=1) (v:=?_) rfl (by kernel_rfl) (by kernel_rfl) (by kernel_rfl) (fun _ _ _ h=>h) (Or.inl ⟨by rfl, ?_⟩) (by assumption) ?_
  rotate_left
  ·intro w8 hSw;obtain ⟨q0,q1,q2,q3,q4,q5,q6,q7,q8⟩:=hSw;go_simp;(try with_reducible rfl)
  (try simp only [Act.put,ZZX,ZZW,ZZV])
  refine wpAnyH_take (i:=2) (v:=?_) rfl (by kernel_rfl) (by kernel_rfl) (by kernel_rfl) (fun _ _ _ h=>h) (Or.inl ⟨by rfl, ?_⟩) (by assumption) ?_
  rotate_left
  ·intro w8 hSw;obtain ⟨q0,q1,q2,q3,q4,q5,q6,q7,q8⟩:=hSw;go_simp;(try with_reducible rfl)
  (try simp only [Act.put,ZZX,ZZW,ZZV])
  refine wpAnyH_take (i:=3) (v:=?_) rfl (by kernel_rfl) (by kernel_rfl) (by kernel_rfl) (fun _ _ _ h=>h) (Or.inl ⟨by rfl, ?_⟩) (by assumption) ?_
  rotate_left
  ·intro w8 hSw;obtain ⟨q0,q1,q2,q3,q4,q5,q6,q7,q8⟩:=hSw;go_simp;(try with_reducible rfl)
  (try simp only [Act.put,ZZX,ZZW,ZZV])
  refine wpAnyH_take (i:=7) (v:=?_) rfl (by kernel_rfl) (by kernel_rfl) (by kernel_rfl) (fun _ _ _ h=>h) (Or.inl ⟨by rfl, ?_⟩) (by assumption) ?_
  rotate_left
  ·intro w8 hSw;obtain ⟨q0,q1,q2,q3,q4,q5,q6,q7,q8⟩:=hSw;go_simp;(try with_reducible rfl)
  (try simp only [Act.put,ZZX,ZZW,ZZV])
  refine wpAnyH_take (i:=8) (v:=?_) rfl (by kernel_rfl) (by kernel_rfl) (by kernel_rfl) (fun _ _ _ h=>h) (Or.inl ⟨by rfl, ?_⟩) (by assumption) ?_
  rotate_left
  ·intro w8 hSw;obtain ⟨q0,q1,q2,q3,q4,q5,q6,q7,q8⟩:=hSw;go_simp;(try with_reducible rfl)
  (try simp only [Act.put,ZZX,ZZW,ZZV])
  refine wpAnyH_take (i:=9) (v:=?_) rfl (by kernel_rfl) (by kernel_rfl) (by kernel_rfl) (fun _ _ _ h=>h) (Or.inl ⟨by rfl, ?_⟩) (by assumption) ?_
  rotate_left
  ·intro w8 hSw;obtain ⟨q0,q1,q2,q3,q4,q5,q6,q7,q8⟩:=hSw;go_simp;(try with_reducible rfl)
  (try simp only [Act.put,ZZX,ZZW,ZZV])
  refine wpAnyH_take (i:=10) (v:=?_) rfl (by kernel_rfl) (by kernel_rfl) (by kernel_rfl) (fun _ _ _ h=>h) (Or.inl ⟨by rfl, ?_⟩) (by assumption) ?_
  rotate_left
  ·intro w8 hSw;obtain ⟨q0,q1,q2,q3,q4,q5,q6,q7,q8⟩:=hSw;go_simp;(try with_reducible rfl)
  (try simp only [Act.put,ZZX,ZZW,ZZV])
  refine wpAnyH_take (i:=11) (v:=?_) rfl (by kernel_rfl) (by kernel_rfl) (by kernel_rfl) (fun _ _ _ h=>h) (Or.inl ⟨by rfl, ?_⟩) (by assumption) ?_
  rotate_left
  ·intro w8 hSw;obtain ⟨q0,q1,q2,q3,q4,q5,q6,q7,q8⟩:=hSw;go_simp;(try with_reducible rfl)
  (try simp only [Act.put,ZZX,ZZW,ZZV])
  refine wpAnyH_ready (rs:=[4,12]) (by kernel_rfl) (by simp) (AllReadyH.cons rfl (fun K hK=>?_) (AllReadyH.cons rfl (fun K hK=>?_) AllReadyH.nil))
  ·go_simp
   have hst:=(Below.refl _ V0).alloc (Nat.le_refl _) (.cells #[.string nm,.int .i64 ty,.bool false,.int .i64 k,.int .i64 n0,.string tx,.slice a len cap] 51)
   have en:=ZAQ V0 (.cells #[.string nm,.int .i64 ty,.bool false,.int .i64 k,.int .i64 n0,.string tx,.slice a len cap] 51)
   obtain ⟨V1,hU⟩:∃ U,V0.alloc (.cells #[.string nm,.int .i64 ty,.bool false,.int .i64 k,.int .i64 n0,.string tx,.slice a len cap] 51)=U:=⟨_,rfl⟩
   obtain ⟨hA1,hg⟩:∃ g,V0.heap.size=g:=⟨_,rfl⟩
   rw [hU] at hst en ⊢
   rw [hg] at en ⊢
   clear hU hg
   have hHc:=(hst.block _ (ZZZ hHc).1).trans hHc
   have hzc:=Nat.le_trans hzc hst.size
   have hBc:=hBc.trans (hst.mono hBc.size)
   have eA1:=en
   refine hK.out _ _ (k9 hHeld hst) (fun hHeld=>?_)
   clear hK K hst en
   refine wpAnyH_ready (rs:=[5,12]) (by kernel_rfl) (by simp) (AllReadyH.cons rfl (fun K hK=>?_) (AllReadyH.cons rfl (fun K hK=>?_) AllReadyH.nil))
   ·go_simp
    have hst:=(Below.refl _ V1).alloc (Nat.le_refl _) (.cells #[.slice sa n sc,.slice (some ⟨hA1,0,none⟩) 1 1] 37)
    have en:=ZAQ V1 (.cells #[.slice sa n sc,.slice (some ⟨hA1,0,none⟩) 1 1] 37)
    obtain ⟨V2,hU⟩:∃ U,V1.alloc (.cells #[.slice sa n sc,.slice (some ⟨hA1,0,none⟩) 1 1] 37)=U:=⟨_,rfl⟩
    obtain ⟨gA2,hg⟩:∃ g,V1.heap.size=g:=⟨_,rfl⟩
    rw [hU] at hst en ⊢
    rw [hg] at en ⊢
    clear hU hg
    have eA1:=(hst.block _ (ZZZ eA1).1).trans eA1
    have hHc:=(hst.block _ (ZZZ hHc).1).trans hHc
    have hzc:=Nat.le_trans hzc hst.size
    have hBc:=hBc.trans (hst.mono hBc.size)
    have eA2:=en
    refine hK.out _ _ (k9 hHeld hst) (fun hHeld=>?_)
    clear hK K hst en
    refine wpAnyH_ready (rs:=[6,12]) (by kernel_rfl) (by simp) (AllReadyH.cons rfl (fun K hK=>?_) (AllReadyH.cons rfl (fun K hK=>?_) AllReadyH.nil))
    ·have hC:=HCA.out V2 hA1 gA2 hBc (ZAB (i:=0) eA2 rfl) (ZAB (i:=1) eA2 rfl) (ZA5 eA1 rfl)
     go_simp
     (with_reducible refine hC.mono ?_)
     rintro e V3 ⟨v9,rfl,on,hst⟩
     obtain ⟨aA,cA,rfl⟩:=ZAe on
     replace on:=ZAH on hzc
     have eA1:=(hst.block _ (ZZZ eA1).1).trans eA1
     have eA2:=(hst.block _ (ZZZ eA2).1).trans eA2
     have hHc:=(hst.block _ (ZZZ hHc).1).trans hHc
     have hzc:=Nat.le_trans hzc hst.size
     have hBc:=hBc.trans (hst.mono hBc.size)
     have oA:=on
     refine hK.out _ _ (k9 hHeld hst) (fun hHeld=>?_)
     clear hK K hst hC on
     refine wpAnyH_ready (rs:=[12]) (by kernel_rfl) (by simp) (AllReadyH.cons rfl (fun K hK=>?_) AllReadyH.nil)
     ·go_simp
      have hst:=(Below.refl _ V3).alloc (Nat.le_refl _) (.cells #[.int .i64 (n:Int)] 3)
      have en:=ZAQ V3 (.cells #[.int .i64 (n:Int)] 3)
      obtain ⟨V4,hU⟩:∃ U,V3.alloc (.cells #[.int .i64 (n:Int)] 3)=U:=⟨_,rfl⟩
      obtain ⟨hB1,hg⟩:∃ g,V3.heap.size=g:=⟨_,rfl⟩
      rw [hU] at hst en ⊢
      rw [hg] at en ⊢
      clear hU hg
      have eA1:=(hst.block _ (ZZZ eA1).1).trans eA1
      have eA2:=(hst.block _ (ZZZ eA2).1).trans eA2
      have oA:=ZAL oA hst
      have hHc:=(hst.block _ (ZZZ hHc).1).trans hHc
      have hzc:=Nat.le_trans hzc hst.size
      have hBc:=hBc.trans (hst.mono hBc.size)
      have eB1:=en
      refine hK.out _ _ (k9 hHeld hst) (fun hHeld=>?_)
      clear hK K hst en
      refine wpAnyH_ready (rs:=[13]) (by kernel_rfl) (by simp) (AllReadyH.cons rfl (fun K hK=>?_) AllReadyH.nil)
      ·go_simp
       have hst:=(Below.refl _ V4).alloc (Nat.le_refl _) (.cells #[.slice ca m cc,.slice (some ⟨hB1,0,none⟩) 1 1] 52)
       have en:=ZAQ V4 (.cells #[.slice ca m cc,.slice (some ⟨hB1,0,none⟩) 1 1] 52)
       obtain ⟨V5,hU⟩:∃ U,V4.alloc (.cells #[.slice ca m cc,.slice (some ⟨hB1,0,none⟩) 1 1] 52)=U:=⟨_,rfl⟩
       obtain ⟨gB2,hg⟩:∃ g,V4.heap.size=g:=⟨_,rfl⟩
       rw [hU] at hst en ⊢
       rw [hg] at en ⊢
       clear hU hg
       have eA1:=(hst.block _ (ZZZ eA1).1).trans eA1
       have eA2:=(hst.block _ (ZZZ eA2).1).trans eA2
       have eB1:=(hst.block _ (ZZZ eB1).1).trans eB1
       have oA:=ZAL oA hst
       have hHc:=(hst.block _ (ZZZ hHc).1).trans hHc
       have hzc:=Nat.le_trans hzc hst.size
       have hBc:=hBc.trans (hst.mono hBc.size)
       have eB2:=en
       refine hK.out _ _ (k9 hHeld hst) (fun hHeld=>?_)
       clear hK K hst en
       refine wpAnyH_ready (rs:=[14]) (by kernel_rfl) (by simp) (AllReadyH.cons rfl (fun K hK=>?_) AllReadyH.nil)
       ·have hC:=HCB.out V5 hB1 gB2 hBc (ZAB (i:=0) eB2 rfl) (ZAB (i:=1) eB2 rfl) (ZA5 eB1 rfl)
        go_simp
        (with_reducible refine hC.mono ?_)
        rintro e V6 ⟨v9,rfl,on,hst⟩
        obtain ⟨aB,cB,rfl⟩:=ZAe on
        replace on:=ZAH on hzc
        have eA1:=(hst.block _ (ZZZ eA1).1).trans eA1
        have eA2:=(hst.block _ (ZZZ eA2).1).trans eA2
        have eB1:=(hst.block _ (ZZZ eB1).1).trans eB1
        have eB2:=(hst.block _ (ZZZ eB2).1).trans eB2
        have oA:=ZAL oA hst
        have hHc:=(hst.block _ (ZZZ hHc).1).trans hHc
        have hzc:=Nat.le_trans hzc hst.size
        have hBc:=hBc.trans (hst.mono hBc.size)
        have oB:=on
        refine hK.out _ _ (k9 hHeld hst) (fun hHeld=>?_)
        clear hK K hst hC on
        refine wpAnyH_take (i:=15) (v:=?_) rfl (by kernel_rfl) (by kernel_rfl) (by kernel_rfl) (fun _ _ _ h=>h) (Or.inl ⟨by rfl, ?_⟩) (by assumption) ?_
        rotate_left
        ·intro w8 hSw;obtain ⟨q0,q1,q2,q3,q4,q5,q6,q7,q8⟩:=hSw;go_simp;(try with_reducible rfl)
        (try simp only [Act.put,ZZX,ZZW,ZZV])
        refine wpAnyH_ready (rs:=[16]) (by kernel_rfl) (by simp) (AllReadyH.cons rfl (fun K hK=>?_) AllReadyH.nil)
        ·obtain ⟨m0,m1,m2,m3⟩:=ZAD hHc
         go_simp
         refine hK.out _ _ (k9s hHeld (by omega) (by omega)) (fun hHeld=>?_)
         clear hK K m0 m1 m2 m3
         refine wpAnyH_ready (rs:=[17]) (by kernel_rfl) (by simp) (AllReadyH.cons rfl (fun K hK=>?_) AllReadyH.nil)
         ·go_simp
          refine hK.out _ _ hHeld (fun hHeld=>?_)
          clear hK K
          refine wpAnyH_done (by kernel_rfl) ?_ _
          go_wp2
          refine bodyPost_ret (ZAF Tryz.results147 _ _ (w.heap.size+1+1) _ _ _ _ rfl (ZAd _ _ hHc hBc (by omega)).1 Tryz.underlying146 rfl (by kernel_rfl)) rfl ?_
          rw [HSO.out]
          exact ZDA HIN.out HS7.out HN.out HM.out hHc hBc (by omega) hB0s oA oB
    ·go_simp
     have hst:=(Below.refl _ V2).alloc (Nat.le_refl _) (.cells #[.int .i64 (n:Int)] 3)
     have en:=ZAQ V2 (.cells #[.int .i64 (n:Int)] 3)
     obtain ⟨V9,hU⟩:∃ U,V2.alloc (.cells #[.int .i64 (n:Int)] 3)=U:=⟨_,rfl⟩
     obtain ⟨hB1,hg⟩:∃ g,V2.heap.size=g:=⟨_,rfl⟩
     rw [hU] at hst en ⊢
     rw [hg] at en ⊢
     clear hU hg
     have eA1:=(hst.block _ (ZZZ eA1).1).trans eA1
     have eA2:=(hst.block _ (ZZZ eA2).1).trans eA2
     have hHc:=(hst.block _ (ZZZ hHc).1).trans hHc
     have hzc:=Nat.le_trans hzc hst.size
     have hBc:=hBc.trans (hst.mono hBc.size)
     have eB1:=en
     refine hK.out _ _ (k9 hHeld hst) (fun hHeld=>?_)
     clear hK K hst en
     refine wpAnyH_ready (rs:=[6,13]) (by kernel_rfl) (by simp) (AllReadyH.cons rfl (fun K hK=>?_) (AllReadyH.cons rfl (fun K hK=>?_) AllReadyH.nil))
     ·have hC:=HCA.out V9 hA1 gA2 hBc (ZAB (i:=0) eA2 rfl) (ZAB (i:=1) eA2 rfl) (ZA5 eA1 rfl)
      go_simp
      (with_reducible refine hC.mono ?_)
      rintro e V10 ⟨v9,rfl,on,hst⟩
      obtain ⟨aA,cA,rfl⟩:=ZAe on
      replace on:=ZAH on hzc
      have eA1:=(hst.block _ (ZZZ eA1).1).trans eA1
      have eA2:=(hst.block _ (ZZZ eA2).1).trans eA2
      have eB1:=(hst.block _ (ZZZ eB1).1).trans eB1
      have hHc:=(hst.block _ (ZZZ hHc).1).trans hHc
      have hzc:=Nat.le_trans hzc hst.size
      have hBc:=hBc.trans (hst.mono hBc.size)
      have oA:=on
      refine hK.out _ _ (k9 hHeld hst) (fun hHeld=>?_)
      clear hK K hst hC on
      refine wpAnyH_ready (rs:=[13]) (by kernel_rfl) (by simp) (AllReadyH.cons rfl (fun K hK=>?_) AllReadyH.nil)
      ·go_simp
       have hst:=(Below.refl _ V10).alloc (Nat.le_refl _) (.cells #[.slice ca m cc,.slice (some ⟨hB1,0,none⟩) 1 1] 52)
       have en:=ZAQ V10 (.cells #[.slice ca m cc,.slice (some ⟨hB1,0,none⟩) 1 1] 52)
       obtain ⟨V11,hU⟩:∃ U,V10.alloc (.cells #[.slice ca m cc,.slice (some ⟨hB1,0,none⟩) 1 1] 52)=U:=⟨_,rfl⟩
       obtain ⟨gB2,hg⟩:∃ g,V10.heap.size=g:=⟨_,rfl⟩
       rw [hU] at hst en ⊢
       rw [hg] at en ⊢
       clear hU hg
       have eA1:=(hst.block _ (ZZZ eA1).1).trans eA1
       have eA2:=(hst.block _ (ZZZ eA2).1).trans eA2
       have eB1:=(hst.block _ (ZZZ eB1).1).trans eB1
       have oA:=ZAL oA hst
       have hHc:=(hst.block _ (ZZZ hHc).1).trans hHc
       have hzc:=Nat.le_trans hzc hst.size
       have hBc:=hBc.trans (hst.mono hBc.size)
       have eB2:=en
       refine hK.out _ _ (k9 hHeld hst) (fun hHeld=>?_)
       clear hK K hst en
       refine wpAnyH_ready (rs:=[14]) (by kernel_rfl) (by simp) (AllReadyH.cons rfl (fun K hK=>?_) AllReadyH.nil)
       ·have hC:=HCB.out V11 hB1 gB2 hBc (ZAB (i:=0) eB2 rfl) (ZAB (i:=1) eB2 rfl) (ZA5 eB1 rfl)
        go_simp
        (with_reducible refine hC.mono ?_)
        rintro e V12 ⟨v9,rfl,on,hst⟩
        obtain ⟨aB,cB,rfl⟩:=ZAe on
        replace on:=ZAH on hzc
        have eA1:=(hst.block _ (ZZZ eA1).1).trans eA1
        have eA2:=(hst.block _ (ZZZ eA2).1).trans eA2
        have eB1:=(hst.block _ (ZZZ eB1).1).trans eB1
        have eB2:=(hst.block _ (ZZZ eB2).1).trans eB2
        have oA:=ZAL oA hst
        have hHc:=(hst.block _ (ZZZ hHc).1).trans hHc
        have hzc:=Nat.le_trans hzc hst.size
        have hBc:=hBc.trans (hst.mono hBc.size)
        have oB:=on
        refine hK.out _ _ (k9 hHeld hst) (fun hHeld=>?_)
        clear hK K hst hC on
        refine wpAnyH_take (i:=15) (v:=?_) rfl (by kernel_rfl) (by kernel_rfl) (by kernel_rfl) (fun _ _ _ h=>h) (Or.inl ⟨by rfl, ?_⟩) (by assumption) ?_
        rotate_left
        ·intro w8 hSw;obtain ⟨q0,q1,q2,q3,q4,q5,q6,q7,q8⟩:=hSw;go_simp;(try with_reducible rfl)
        (try simp only [Act.put,ZZX,ZZW,ZZV])
        refine wpAnyH_ready (rs:=[16]) (by kernel_rfl) (by simp) (AllReadyH.cons rfl (fun K hK=>?_) AllReadyH.nil)
        ·obtain ⟨m0,m1,m2,m3⟩:=ZAD hHc
         go_simp
         refine hK.out _ _ (k9s hHeld (by omega) (by omega)) (fun hHeld=>?_)
         clear hK K m0 m1 m2 m3
         refine wpAnyH_ready (rs:=[17]) (by kernel_rfl) (by simp) (AllReadyH.cons rfl (fun K hK=>?_) AllReadyH.nil)
         ·go_simp
          refine hK.out _ _ hHeld (fun hHeld=>?_)
          clear hK K
          refine wpAnyH_done (by kernel_rfl) ?_ _
          go_wp2
          refine bodyPost_ret (ZAF Tryz.results147 _ _ (w.heap.size+1+1) _ _ _ _ rfl (ZAd _ _ hHc hBc (by omega)).1 Tryz.underlying146 rfl (by kernel_rfl)) rfl ?_
          rw [HSO.out]
          exact ZDA HIN.out HS7.out HN.out HM.out hHc hBc (by omega) hB0s oA oB
     ·go_simp
      have hst:=(Below.refl _ V9).alloc (Nat.le_refl _) (.cells #[.slice ca m cc,.slice (some ⟨hB1,0,none⟩) 1 1] 52)
      have en:=ZAQ V9 (.cells #[.slice ca m cc,.slice (some ⟨hB1,0,none⟩) 1 1] 52)
      obtain ⟨V15,hU⟩:∃ U,V9.alloc (.cells #[.slice ca m cc,.slice (some ⟨hB1,0,none⟩) 1 1] 52)=U:=⟨_,rfl⟩
      obtain ⟨gB2,hg⟩:∃ g,V9.heap.size=g:=⟨_,rfl⟩
      rw [hU] at hst en ⊢
      rw [hg] at en ⊢
      clear hU hg
      have eA1:=(hst.block _ (ZZZ eA1).1).trans eA1
      have eA2:=(hst.block _ (ZZZ eA2).1).trans eA2
      have eB1:=(hst.block _ (ZZZ eB1).1).trans eB1
      have hHc:=(hst.block _ (ZZZ hHc).1).trans hHc
      have hzc:=Nat.le_trans hzc hst.size
      have hBc:=hBc.trans (hst.mono hBc.size)
      have eB2:=en
      refine hK.out _ _ (k9 hHeld hst) (fun hHeld=>?_)
      clear hK K hst en
      refine wpAnyH_ready (rs:=[6]) (by kernel_rfl) (by simp) (AllReadyH.cons rfl (fun K hK=>?_) AllReadyH.nil)
      ·have hC:=HCA.out V15 hA1 gA2 hBc (ZAB (i:=0) eA2 rfl) (ZAB (i:=1) eA2 rfl) (ZA5 eA1 rfl)
       go_simp
       (with_reducible refine hC.mono ?_)
       rintro e V16 ⟨v9,rfl,on,hst⟩
       obtain ⟨aA,cA,rfl⟩:=ZAe on
       replace on:=ZAH on hzc
       have eA1:=(hst.block _ (ZZZ eA1).1).trans eA1
       have eA2:=(hst.block _ (ZZZ eA2).1).trans eA2
       have eB1:=(hst.block _ (ZZZ eB1).1).trans eB1
       have eB2:=(hst.block _ (ZZZ eB2).1).trans eB2
       have hHc:=(hst.block _ (ZZZ hHc).1).trans hHc
       have hzc:=Nat.le_trans hzc hst.size
       have hBc:=hBc.trans (hst.mono hBc.size)
       have oA:=on
       refine hK.out _ _ (k9 hHeld hst) (fun hHeld=>?_)
       clear hK K hst hC on
       refine wpAnyH_ready (rs:=[14]) (by kernel_rfl) (by simp) (AllReadyH.cons rfl (fun K hK=>?_) AllReadyH.nil)
       ·have hC:=HCB.out V16 hB1 gB2 hBc (ZAB (i:=0) eB2 rfl) (ZAB (i:=1) eB2 rfl) (ZA5 eB1 rfl)
        go_simp
        (with_reducible refine hC.mono ?_)
        rintro e V17 ⟨v9,rfl,on,hst⟩
        obtain ⟨aB,cB,rfl⟩:=ZAe on
        replace on:=ZAH on hzc
        have eA1:=(hst.block _ (ZZZ eA1).1).trans eA1
        have eA2:=(hst.block _ (ZZZ eA2).1).trans eA2
        have eB1:=(hst.block _ (ZZZ eB1).1).trans eB1
        have eB2:=(hst.block _ (ZZZ eB2).1).trans eB2
        have oA:=ZAL oA hst
        have hHc:=(hst.block _ (ZZZ hHc).1).trans hHc
        have hzc:=Nat.le_trans hzc hst.size
        have hBc:=hBc.trans (hst.mono hBc.size)
        have oB:=on
        refine hK.out _ _ (k9 hHeld hst) (fun hHeld=>?_)
        clear hK K hst hC on
        refine wpAnyH_take (i:=15) (v:=?_) rfl (by kernel_rfl) (by kernel_rfl) (by kernel_rfl) (fun _ _ _ h=>h) (Or.inl ⟨by rfl, ?_⟩) (by assumption) ?_
        rotate_left
        ·intro w8 hSw;obtain ⟨q0,q1,q2,q3,q4,q5,q6,q7,q8⟩:=hSw;go_simp;(try with_reducible rfl)
        (try simp only [Act.put,ZZX,ZZW,ZZV])
        refine wpAnyH_ready (rs:=[16]) (by kernel_rfl) (by simp) (AllReadyH.cons rfl (fun K hK=>?_) AllReadyH.nil)
        ·obtain ⟨m0,m1,m2,m3⟩:=ZAD hHc
         go_simp
         refine hK.out _ _ (k9s hHeld (by omega) (by omega)) (fun hHeld=>?_)
         clear hK K m0 m1 m2 m3
         refine wpAnyH_ready (rs:=[17]) (by kernel_rfl) (by simp) (AllReadyH.cons rfl (fun K hK=>?_) AllReadyH.nil)
         ·go_simp
          refine hK.out _ _ hHeld (fun hHeld=>?_)
          clear hK K
          refine wpAnyH_done (by kernel_rfl) ?_ _
          go_wp2
          refine bodyPost_ret (ZAF Tryz.results147 _ _ (w.heap.size+1+1) _ _ _ _ rfl (ZAd _ _ hHc hBc (by omega)).1 Tryz.underlying146 rfl (by kernel_rfl)) rfl ?_
          rw [HSO.out]
          exact ZDA HIN.out HS7.out HN.out HM.out hHc hBc (by omega) hB0s oA oB
   ·go_simp
    have hst:=(Below.refl _ V1).alloc (Nat.le_refl _) (.cells #[.int .i64 (n:Int)] 3)
    have en:=ZAQ V1 (.cells #[.int .i64 (n:Int)] 3)
    obtain ⟨V20,hU⟩:∃ U,V1.alloc (.cells #[.int .i64 (n:Int)] 3)=U:=⟨_,rfl⟩
    obtain ⟨hB1,hg⟩:∃ g,V1.heap.size=g:=⟨_,rfl⟩
    rw [hU] at hst en ⊢
    rw [hg] at en ⊢
    clear hU hg
    have eA1:=(hst.block _ (ZZZ eA1).1).trans eA1
    have hHc:=(hst.block _ (ZZZ hHc).1).trans hHc
    have hzc:=Nat.le_trans hzc hst.size
    have hBc:=hBc.trans (hst.mono hBc.size)
    have eB1:=en
    refine hK.out _ _ (k9 hHeld hst) (fun hHeld=>?_)
    clear hK K hst en
    refine wpAnyH_ready (rs:=[5,13]) (by kernel_rfl) (by simp) (AllReadyH.cons rfl (fun K hK=>?_) (AllReadyH.cons rfl (fun K hK=>?_) AllReadyH.nil))
    ·go_simp
     have hst:=(Below.refl _ V20).alloc (Nat.le_refl _) (.cells #[.slice sa n sc,.slice (some ⟨hA1,0,none⟩) 1 1] 37)
     have en:=ZAQ V20 (.cells #[.slice sa n sc,.slice (some ⟨hA1,0,none⟩) 1 1] 37)
     obtain ⟨V21,hU⟩:∃ U,V20.alloc (.cells #[.slice sa n sc,.slice (some ⟨hA1,0,none⟩) 1 1] 37)=U:=⟨_,rfl⟩
     obtain ⟨gA2,hg⟩:∃ g,V20.heap.size=g:=⟨_,rfl⟩
     rw [hU] at hst en ⊢
     rw [hg] at en ⊢
     clear hU hg
     have eA1:=(hst.block _ (ZZZ eA1).1).trans eA1
     have eB1:=(hst.block _ (ZZZ eB1).1).trans eB1
     have hHc:=(hst.block _ (ZZZ hHc).1).trans hHc
     have hzc:=Nat.le_trans hzc hst.size
     have hBc:=hBc.trans (hst.mono hBc.size)
     have eA2:=en
     refine hK.out _ _ (k9 hHeld hst) (fun hHeld=>?_)
     clear hK K hst en
     refine wpAnyH_ready (rs:=[6,13]) (by kernel_rfl) (by simp) (AllReadyH.cons rfl (fun K hK=>?_) (AllReadyH.cons rfl (fun K hK=>?_) AllReadyH.nil))
     ·have hC:=HCA.out V21 hA1 gA2 hBc (ZAB (i:=0) eA2 rfl) (ZAB (i:=1) eA2 rfl) (ZA5 eA1 rfl)
      go_simp
      (with_reducible refine hC.mono ?_)
      rintro e V22 ⟨v9,rfl,on,hst⟩
      obtain ⟨aA,cA,rfl⟩:=ZAe on
      replace on:=ZAH on hzc
      have eA1:=(hst.block _ (ZZZ eA1).1).trans eA1
      have eA2:=(hst.block _ (ZZZ eA2).1).trans eA2
      have eB1:=(hst.block _ (ZZZ eB1).1).trans eB1
      have hHc:=(hst.block _ (ZZZ hHc).1).trans hHc
      have hzc:=Nat.le_trans hzc hst.size
      have hBc:=hBc.trans (hst.mono hBc.size)
      have oA:=on
      refine hK.out _ _ (k9 hHeld hst) (fun hHeld=>?_)
      clear hK K hst hC on
      refine wpAnyH_ready (rs:=[13]) (by kernel_rfl) (by simp) (AllReadyH.cons rfl (fun K hK=>?_) AllReadyH.nil)
      ·go_simp
       have hst:=(Below.refl _ V22).alloc (Nat.le_refl _) (.cells #[.slice ca m cc,.slice (some ⟨hB1,0,none⟩) 1 1] 52)
       have en:=ZAQ V22 (.cells #[.slice ca m cc,.slice (some ⟨hB1,0,none⟩) 1 1] 52)
       obtain ⟨V23,hU⟩:∃ U,V22.alloc (.cells #[.slice ca m cc,.slice (some ⟨hB1,0,none⟩) 1 1] 52)=U:=⟨_,rfl⟩
       obtain ⟨gB2,hg⟩:∃ g,V22.heap.size=g:=⟨_,rfl⟩
       rw [hU] at hst en ⊢
       rw [hg] at en ⊢
       clear hU hg
       have eA1:=(hst.block _ (ZZZ eA1).1).trans eA1
       have eA2:=(hst.block _ (ZZZ eA2).1).trans eA2
       have eB1:=(hst.block _ (ZZZ eB1).1).trans eB1
       have oA:=ZAL oA hst
       have hHc:=(hst.block _ (ZZZ hHc).1).trans hHc
       have hzc:=Nat.le_trans hzc hst.size
       have hBc:=hBc.trans (hst.mono hBc.size)
       have eB2:=en
       refine hK.out _ _ (k9 hHeld hst) (fun hHeld=>?_)
       clear hK K hst en
       refine wpAnyH_ready (rs:=[14]) (by kernel_rfl) (by simp) (AllReadyH.cons rfl (fun K hK=>?_) AllReadyH.nil)
       ·have hC:=HCB.out V23 hB1 gB2 hBc (ZAB (i:=0) eB2 rfl) (ZAB (i:=1) eB2 rfl) (ZA5 eB1 rfl)
        go_simp
        (with_reducible refine hC.mono ?_)
        rintro e V24 ⟨v9,rfl,on,hst⟩
        obtain ⟨aB,cB,rfl⟩:=ZAe on
        replace on:=ZAH on hzc
        have eA1:=(hst.block _ (ZZZ eA1).1).trans eA1
        have eA2:=(hst.block _ (ZZZ eA2).1).trans eA2
        have eB1:=(hst.block _ (ZZZ eB1).1).trans eB1
        have eB2:=(hst.block _ (ZZZ eB2).1).trans eB2
        have oA:=ZAL oA hst
        have hHc:=(hst.block _ (ZZZ hHc).1).trans hHc
        have hzc:=Nat.le_trans hzc hst.size
        have hBc:=hBc.trans (hst.mono hBc.size)
        have oB:=on
        refine hK.out _ _ (k9 hHeld hst) (fun hHeld=>?_)
        clear hK K hst hC on
        refine wpAnyH_take (i:=15) (v:=?_) rfl (by kernel_rfl) (by kernel_rfl) (by kernel_rfl) (fun _ _ _ h=>h) (Or.inl ⟨by rfl, ?_⟩) (by assumption) ?_
        rotate_left
        ·intro w8 hSw;obtain ⟨q0,q1,q2,q3,q4,q5,q6,q7,q8⟩:=hSw;go_simp;(try with_reducible rfl)
        (try simp only [Act.put,ZZX,ZZW,ZZV])
        refine wpAnyH_ready (rs:=[16]) (by kernel_rfl) (by simp) (AllReadyH.cons rfl (fun K hK=>?_) AllReadyH.nil)
        ·obtain ⟨m0,m1,m2,m3⟩:=ZAD hHc
         go_simp
         refine hK.out _ _ (k9s hHeld (by omega) (by omega)) (fun hHeld=>?_)
         clear hK K m0 m1 m2 m3
         refine wpAnyH_ready (rs:=[17]) (by kernel_rfl) (by simp) (AllReadyH.cons rfl (fun K hK=>?_) AllReadyH.nil)
         ·go_simp
          refine hK.out _ _ hHeld (fun hHeld=>?_)
          clear hK K
          refine wpAnyH_done (by kernel_rfl) ?_ _
          go_wp2
          refine bodyPost_ret (ZAF Tryz.results147 _ _ (w.heap.size+1+1) _ _ _ _ rfl (ZAd _ _ hHc hBc (by omega)).1 Tryz.underlying146 rfl (by kernel_rfl)) rfl ?_
          rw [HSO.out]
          exact ZDA HIN.out HS7.out HN.out HM.out hHc hBc (by omega) hB0s oA oB
     ·go_simp
      have hst:=(Below.refl _ V21).alloc (Nat.le_refl _) (.cells #[.slice ca m cc,.slice (some ⟨hB1,0,none⟩) 1 1] 52)
      have en:=ZAQ V21 (.cells #[.slice ca m cc,.slice (some ⟨hB1,0,none⟩) 1 1] 52)
      obtain ⟨V27,hU⟩:∃ U,V21.alloc (.cells #[.slice ca m cc,.slice (some ⟨hB1,0,none⟩) 1 1] 52)=U:=⟨_,rfl⟩
      obtain ⟨gB2,hg⟩:∃ g,V21.heap.size=g:=⟨_,rfl⟩
      rw [hU] at hst en ⊢
      rw [hg] at en ⊢
      clear hU hg
      have eA1:=(hst.block _ (ZZZ eA1).1).trans eA1
      have eA2:=(hst.block _ (ZZZ eA2).1).trans eA2
      have eB1:=(hst.block _ (ZZZ eB1).1).trans eB1
      have hHc:=(hst.block _ (ZZZ hHc).1).trans hHc
      have hzc:=Nat.le_trans hzc hst.size
      have hBc:=hBc.trans (hst.mono hBc.size)
      have eB2:=en
      refine hK.out _ _ (k9 hHeld hst) (fun hHeld=>?_)
      clear hK K hst en
      refine wpAnyH_ready (rs:=[6]) (by kernel_rfl) (by simp) (AllReadyH.cons rfl (fun K hK=>?_) AllReadyH.nil)
      ·have hC:=HCA.out V27 hA1 gA2 hBc (ZAB (i:=0) eA2 rfl) (ZAB (i:=1) eA2 rfl) (ZA5 eA1 rfl)
       go_simp
       (with_reducible refine hC.mono ?_)
       rintro e V28 ⟨v9,rfl,on,hst⟩
       obtain ⟨aA,cA,rfl⟩:=ZAe on
       replace on:=ZAH on hzc
       have eA1:=(hst.block _ (ZZZ eA1).1).trans eA1
       have eA2:=(hst.block _ (ZZZ eA2).1).trans eA2
       have eB1:=(hst.block _ (ZZZ eB1).1).trans eB1
       have eB2:=(hst.block _ (ZZZ eB2).1).trans eB2
       have hHc:=(hst.block _ (ZZZ hHc).1).trans hHc
       have hzc:=Nat.le_trans hzc hst.size
       have hBc:=hBc.trans (hst.mono hBc.size)
       have oA:=on
       refine hK.out _ _ (k9 hHeld hst) (fun hHeld=>?_)
       clear hK K hst hC on
       refine wpAnyH_ready (rs:=[14]) (by kernel_rfl) (by simp) (AllReadyH.cons rfl (fun K hK=>?_) AllReadyH.nil)
       ·have hC:=HCB.out V28 hB1 gB2 hBc (ZAB (i:=0) eB2 rfl) (ZAB (i:=1) eB2 rfl) (ZA5 eB1 rfl)
        go_simp
        (with_reducible refine hC.mono ?_)
        rintro e V29 ⟨v9,rfl,on,hst⟩
        obtain ⟨aB,cB,rfl⟩:=ZAe on
        replace on:=ZAH on hzc
        have eA1:=(hst.block _ (ZZZ eA1).1).trans eA1
        have eA2:=(hst.block _ (ZZZ eA2).1).trans eA2
        have eB1:=(hst.block _ (ZZZ eB1).1).trans eB1
        have eB2:=(hst.block _ (ZZZ eB2).1).trans eB2
        have oA:=ZAL oA hst
        have hHc:=(hst.block _ (ZZZ hHc).1).trans hHc
        have hzc:=Nat.le_trans hzc hst.size
        have hBc:=hBc.trans (hst.mono hBc.size)
        have oB:=on
        refine hK.out _ _ (k9 hHeld hst) (fun hHeld=>?_)
        clear hK K hst hC on
        refine wpAnyH_take (i:=15) (v:=?_) rfl (by kernel_rfl) (by kernel_rfl) (by kernel_rfl) (fun _ _ _ h=>h) (Or.inl ⟨by rfl, ?_⟩) (by assumption) ?_
        rotate_left
        ·intro w8 hSw;obtain ⟨q0,q1,q2,q3,q4,q5,q6,q7,q8⟩:=hSw;go_simp;(try with_reducible rfl)
        (try simp only [Act.put,ZZX,ZZW,ZZV])
        refine wpAnyH_ready (rs:=[16]) (by kernel_rfl) (by simp) (AllReadyH.cons rfl (fun K hK=>?_) AllReadyH.nil)
        ·obtain ⟨m0,m1,m2,m3⟩:=ZAD hHc
         go_simp
         refine hK.out _ _ (k9s hHeld (by omega) (by omega)) (fun hHeld=>?_)
         clear hK K m0 m1 m2 m3
         refine wpAnyH_ready (rs:=[17]) (by kernel_rfl) (by simp) (AllReadyH.cons rfl (fun K hK=>?_) AllReadyH.nil)
         ·go_simp
          refine hK.out _ _ hHeld (fun hHeld=>?_)
          clear hK K
          refine wpAnyH_done (by kernel_rfl) ?_ _
          go_wp2
          refine bodyPost_ret (ZAF Tryz.results147 _ _ (w.heap.size+1+1) _ _ _ _ rfl (ZAd _ _ hHc hBc (by omega)).1 Tryz.underlying146 rfl (by kernel_rfl)) rfl ?_
          rw [HSO.out]
          exact ZDA HIN.out HS7.out HN.out HM.out hHc hBc (by omega) hB0s oA oB
    ·go_simp
     have hst:=(Below.refl _ V20).alloc (Nat.le_refl _) (.cells #[.slice ca m cc,.slice (some ⟨hB1,0,none⟩) 1 1] 52)
     have en:=ZAQ V20 (.cells #[.slice ca m cc,.slice (some ⟨hB1,0,none⟩) 1 1] 52)
     obtain ⟨V32,hU⟩:∃ U,V20.alloc (.cells #[.slice ca m cc,.slice (some ⟨hB1,0,none⟩) 1 1] 52)=U:=⟨_,rfl⟩
     obtain ⟨gB2,hg⟩:∃ g,V20.heap.size=g:=⟨_,rfl⟩
     rw [hU] at hst en ⊢
     rw [hg] at en ⊢
     clear hU hg
     have eA1:=(hst.block _ (ZZZ eA1).1).trans eA1
     have eB1:=(hst.block _ (ZZZ eB1).1).trans eB1
     have hHc:=(hst.block _ (ZZZ hHc).1).trans hHc
     have hzc:=Nat.le_trans hzc hst.size
     have hBc:=hBc.trans (hst.mono hBc.size)
     have eB2:=en
     refine hK.out _ _ (k9 hHeld hst) (fun hHeld=>?_)
     clear hK K hst en
     refine wpAnyH_ready (rs:=[5]) (by kernel_rfl) (by simp) (AllReadyH.cons rfl (fun K hK=>?_) AllReadyH.nil)
     ·go_simp
      have hst:=(Below.refl _ V32).alloc (Nat.le_refl _) (.cells #[.slice sa n sc,.slice (some ⟨hA1,0,none⟩) 1 1] 37)
      have en:=ZAQ V32 (.cells #[.slice sa n sc,.slice (some ⟨hA1,0,none⟩) 1 1] 37)
      obtain ⟨V33,hU⟩:∃ U,V32.alloc (.cells #[.slice sa n sc,.slice (some ⟨hA1,0,none⟩) 1 1] 37)=U:=⟨_,rfl⟩
      obtain ⟨gA2,hg⟩:∃ g,V32.heap.size=g:=⟨_,rfl⟩
      rw [hU] at hst en ⊢
      rw [hg] at en ⊢
      clear hU hg
      have eA1:=(hst.block _ (ZZZ eA1).1).trans eA1
      have eB1:=(hst.block _ (ZZZ eB1).1).trans eB1
      have eB2:=(hst.block _ (ZZZ eB2).1).trans eB2
      have hHc:=(hst.block _ (ZZZ hHc).1).trans hHc
      have hzc:=Nat.le_trans hzc hst.size
      have hBc:=hBc.trans (hst.mono hBc.size)
      have eA2:=en
      refine hK.out _ _ (k9 hHeld hst) (fun hHeld=>?_)
      clear hK K hst en
      refine wpAnyH_ready (rs:=[6]) (by kernel_rfl) (by simp) (AllReadyH.cons rfl (fun K hK=>?_) AllReadyH.nil)
      ·have hC:=HCA.out V33 hA1 gA2 hBc (ZAB (i:=0) eA2 rfl) (ZAB (i:=1) eA2 rfl) (ZA5 eA1 rfl)
       go_simp
       (with_reducible refine hC.mono ?_)
       rintro e V34 ⟨v9,rfl,on,hst⟩
       obtain ⟨aA,cA,rfl⟩:=ZAe on
       replace on:=ZAH on hzc
       have eA1:=(hst.block _ (ZZZ eA1).1).trans eA1
       have eA2:=(hst.block _ (ZZZ eA2).1).trans eA2
       have eB1:=(hst.block _ (ZZZ eB1).1).trans eB1
       have eB2:=(hst.block _ (ZZZ eB2).1).trans eB2
       have hHc:=(hst.block _ (ZZZ hHc).1).trans hHc
       have hzc:=Nat.le_trans hzc hst.size
       have hBc:=hBc.trans (hst.mono hBc.size)
       have oA:=on
       refine hK.out _ _ (k9 hHeld hst) (fun hHeld=>?_)
       clear hK K hst hC on
       refine wpAnyH_ready (rs:=[14]) (by kernel_rfl) (by simp) (AllReadyH.cons rfl (fun K hK=>?_) AllReadyH.nil)
       ·have hC:=HCB.out V34 hB1 gB2 hBc (ZAB (i:=0) eB2 rfl) (ZAB (i:=1) eB2 rfl) (ZA5 eB1 rfl)
        go_simp
        (with_reducible refine hC.mono ?_)
        rintro e V35 ⟨v9,rfl,on,hst⟩
        obtain ⟨aB,cB,rfl⟩:=ZAe on
        replace on:=ZAH on hzc
        have eA1:=(hst.block _ (ZZZ eA1).1).trans eA1
        have eA2:=(hst.block _ (ZZZ eA2).1).trans eA2
        have eB1:=(hst.block _ (ZZZ eB1).1).trans eB1
        have eB2:=(hst.block _ (ZZZ eB2).1).trans eB2
        have oA:=ZAL oA hst
        have hHc:=(hst.block _ (ZZZ hHc).1).trans hHc
        have hzc:=Nat.le_trans hzc hst.size
        have hBc:=hBc.trans (hst.mono hBc.size)
        have oB:=on
        refine hK.out _ _ (k9 hHeld hst) (fun hHeld=>?_)
        clear hK K hst hC on
        refine wpAnyH_take (i:=15) (v:=?_) rfl (by kernel_rfl) (by kernel_rfl) (by kernel_rfl) (fun _ _ _ h=>h) (Or.inl ⟨by rfl, ?_⟩) (by assumption) ?_
        rotate_left
        ·intro w8 hSw;obtain ⟨q0,q1,q2,q3,q4,q5,q6,q7,q8⟩:=hSw;go_simp;(try with_reducible rfl)
        (try simp only [Act.put,ZZX,ZZW,ZZV])
        refine wpAnyH_ready (rs:=[16]) (by kernel_rfl) (by simp) (AllReadyH.cons rfl (fun K hK=>?_) AllReadyH.nil)
        ·obtain ⟨m0,m1,m2,m3⟩:=ZAD hHc
         go_simp
         refine hK.out _ _ (k9s hHeld (by omega) (by omega)) (fun hHeld=>?_)
         clear hK K m0 m1 m2 m3
         refine wpAnyH_ready (rs:=[17]) (by kernel_rfl) (by simp) (AllReadyH.cons rfl (fun K hK=>?_) AllReadyH.nil)
         ·go_simp
          refine hK.out _ _ hHeld (fun hHeld=>?_)
          clear hK K
          refine wpAnyH_done (by kernel_rfl) ?_ _
          go_wp2
          refine bodyPost_ret (ZAF Tryz.results147 _ _ (w.heap.size+1+1) _ _ _ _ rfl (ZAd _ _ hHc hBc (by omega)).1 Tryz.underlying146 rfl (by kernel_rfl)) rfl ?_
          rw [HSO.out]
          exact ZDA HIN.out HS7.out HN.out HM.out hHc hBc (by omega) hB0s oA oB
  ·go_simp
   have hst:=(Below.refl _ V0).alloc (Nat.le_refl _) (.cells #[.int .i64 (n:Int)] 3)
   have en:=ZAQ V0 (.cells #[.int .i64 (n:Int)] 3)
   obtain ⟨V38,hU⟩:∃ U,V0.alloc (.cells #[.int .i64 (n:Int)] 3)=U:=⟨_,rfl⟩
   obtain ⟨hB1,hg⟩:∃ g,V0.heap.size=g:=⟨_,rfl⟩
   rw [hU] at hst en ⊢
   rw [hg] at en ⊢
   clear hU hg
   have hHc:=(hst.block _ (ZZZ hHc).1).trans hHc
   have hzc:=Nat.le_trans hzc hst.size
   have hBc:=hBc.trans (hst.mono hBc.size)
   have eB1:=en
   refine hK.out _ _ (k9 hHeld hst) (fun hHeld=>?_)
   clear hK K hst en
   refine wpAnyH_ready (rs:=[4,13]) (by kernel_rfl) (by simp) (AllReadyH.cons rfl (fun K hK=>?_) (AllReadyH.cons rfl (fun K hK=>?_) AllReadyH.nil))
   ·go_simp
    have hst:=(Below.refl _ V38).alloc (Nat.le_refl _) (.cells #[.string nm,.int .i64 ty,.bool false,.int .i64 k,.int .i64 n0,.string tx,.slice a len cap] 51)
    have en:=ZAQ V38 (.cells #[.string nm,.int .i64 ty,.bool false,.int .i64 k,.int .i64 n0,.string tx,.slice a len cap] 51)
    obtain ⟨V39,hU⟩:∃ U,V38.alloc (.cells #[.string nm,.int .i64 ty,.bool false,.int .i64 k,.int .i64 n0,.string tx,.slice a len cap] 51)=U:=⟨_,rfl⟩
    obtain ⟨hA1,hg⟩:∃ g,V38.heap.size=g:=⟨_,rfl⟩
    rw [hU] at hst en ⊢
    rw [hg] at en ⊢
    clear hU hg
    have eB1:=(hst.block _ (ZZZ eB1).1).trans eB1
    have hHc:=(hst.block _ (ZZZ hHc).1).trans hHc
    have hzc:=Nat.le_trans hzc hst.size
    have hBc:=hBc.trans (hst.mono hBc.size)
    have eA1:=en
    refine hK.out _ _ (k9 hHeld hst) (fun hHeld=>?_)
    clear hK K hst en
    refine wpAnyH_ready (rs:=[5,13]) (by kernel_rfl) (by simp) (AllReadyH.cons rfl (fun K hK=>?_) (AllReadyH.cons rfl (fun K hK=>?_) AllReadyH.nil))
    ·go_simp
     have hst:=(Below.refl _ V39).alloc (Nat.le_refl _) (.cells #[.slice sa n sc,.slice (some ⟨hA1,0,none⟩) 1 1] 37)
     have en:=ZAQ V39 (.cells #[.slice sa n sc,.slice (some ⟨hA1,0,none⟩) 1 1] 37)
     obtain ⟨V40,hU⟩:∃ U,V39.alloc (.cells #[.slice sa n sc,.slice (some ⟨hA1,0,none⟩) 1 1] 37)=U:=⟨_,rfl⟩
     obtain ⟨gA2,hg⟩:∃ g,V39.heap.size=g:=⟨_,rfl⟩
     rw [hU] at hst en ⊢
     rw [hg] at en ⊢
     clear hU hg
     have eA1:=(hst.block _ (ZZZ eA1).1).trans eA1
     have eB1:=(hst.block _ (ZZZ eB1).1).trans eB1
     have hHc:=(hst.block _ (ZZZ hHc).1).trans hHc
     have hzc:=Nat.le_trans hzc hst.size
     have hBc:=hBc.trans (hst.mono hBc.size)
     have eA2:=en
     refine hK.out _ _ (k9 hHeld hst) (fun hHeld=>?_)
     clear hK K hst en
     refine wpAnyH_ready (rs:=[6,13]) (by kernel_rfl) (by simp) (AllReadyH.cons rfl (fun K hK=>?_) (AllReadyH.cons rfl (fun K hK=>?_) AllReadyH.nil))
     ·have hC:=HCA.out V40 hA1 gA2 hBc (ZAB (i:=0) eA2 rfl) (ZAB (i:=1) eA2 rfl) (ZA5 eA1 rfl)
      go_simp
      (with_reducible refine hC.mono ?_)
      rintro e V41 ⟨v9,rfl,on,hst⟩
      obtain ⟨aA,cA,rfl⟩:=ZAe on
      replace on:=ZAH on hzc
      have eA1:=(hst.block _ (ZZZ eA1).1).trans eA1
      have eA2:=(hst.block _ (ZZZ eA2).1).trans eA2
      have eB1:=(hst.block _ (ZZZ eB1).1).trans eB1
      have hHc:=(hst.block _ (ZZZ hHc).1).trans hHc
      have hzc:=Nat.le_trans hzc hst.size
      have hBc:=hBc.trans (hst.mono hBc.size)
      have oA:=on
      refine hK.out _ _ (k9 hHeld hst) (fun hHeld=>?_)
      clear hK K hst hC on
      refine wpAnyH_ready (rs:=[13]) (by kernel_rfl) (by simp) (AllReadyH.cons rfl (fun K hK=>?_) AllReadyH.nil)
      ·go_simp
       have hst:=(Below.refl _ V41).alloc (Nat.le_refl _) (.cells #[.slice ca m cc,.slice (some ⟨hB1,0,none⟩) 1 1] 52)
       have en:=ZAQ V41 (.cells #[.slice ca m cc,.slice (some ⟨hB1,0,none⟩) 1 1] 52)
       obtain ⟨V42,hU⟩:∃ U,V41.alloc (.cells #[.slice ca m cc,.slice (some ⟨hB1,0,none⟩) 1 1] 52)=U:=⟨_,rfl⟩
       obtain ⟨gB2,hg⟩:∃ g,V41.heap.size=g:=⟨_,rfl⟩
       rw [hU] at hst en ⊢
       rw [hg] at en ⊢
       clear hU hg
       have eA1:=(hst.block _ (ZZZ eA1).1).trans eA1
       have eA2:=(hst.block _ (ZZZ eA2).1).trans eA2
       have eB1:=(hst.block _ (ZZZ eB1).1).trans eB1
       have oA:=ZAL oA hst
       have hHc:=(hst.block _ (ZZZ hHc).1).trans hHc
       have hzc:=Nat.le_trans hzc hst.size
       have hBc:=hBc.trans (hst.mono hBc.size)
       have eB2:=en
       refine hK.out _ _ (k9 hHeld hst) (fun hHeld=>?_)
       clear hK K hst en
       refine wpAnyH_ready (rs:=[14]) (by kernel_rfl) (by simp) (AllReadyH.cons rfl (fun K hK=>?_) AllReadyH.nil)
       ·have hC:=HCB.out V42 hB1 gB2 hBc (ZAB (i:=0) eB2 rfl) (ZAB (i:=1) eB2 rfl) (ZA5 eB1 rfl)
        go_simp
        (with_reducible refine hC.mono ?_)
        rintro e V43 ⟨v9,rfl,on,hst⟩
        obtain ⟨aB,cB,rfl⟩:=ZAe on
        replace on:=ZAH on hzc
        have eA1:=(hst.block _ (ZZZ eA1).1).trans eA1
        have eA2:=(hst.block _ (ZZZ eA2).1).trans eA2
        have eB1:=(hst.block _ (ZZZ eB1).1).trans eB1
        have eB2:=(hst.block _ (ZZZ eB2).1).trans eB2
        have oA:=ZAL oA hst
        have hHc:=(hst.block _ (ZZZ hHc).1).trans hHc
        have hzc:=Nat.le_trans hzc hst.size
        have hBc:=hBc.trans (hst.mono hBc.size)
        have oB:=on
        refine hK.out _ _ (k9 hHeld hst) (fun hHeld=>?_)
        clear hK K hst hC on
        refine wpAnyH_take (i:=15) (v:=?_) rfl (by kernel_rfl) (by kernel_rfl) (by kernel_rfl) (fun _ _ _ h=>h) (Or.inl ⟨by rfl, ?_⟩) (by assumption) ?_
        rotate_left
        ·intro w8 hSw;obtain ⟨q0,q1,q2,q3,q4,q5,q6,q7,q8⟩:=hSw;go_simp;(try with_reducible rfl)
        (try simp only [Act.put,ZZX,ZZW,ZZV])
        refine wpAnyH_ready (rs:=[16]) (by kernel_rfl) (by simp) (AllReadyH.cons rfl (fun K hK=>?_) AllReadyH.nil)
        ·obtain ⟨m0,m1,m2,m3⟩:=ZAD hHc
         go_simp
         refine hK.out _ _ (k9s hHeld (by omega) (by omega)) (fun hHeld=>?_)
         clear hK K m0 m1 m2 m3
         refine wpAnyH_ready (rs:=[17]) (by kernel_rfl) (by simp) (AllReadyH.cons rfl (fun K hK=>?_) AllReadyH.nil)
         ·go_simp
          refine hK.out _ _ hHeld (fun hHeld=>?_)
          clear hK K
          refine wpAnyH_done (by kernel_rfl) ?_ _
          go_wp2
          refine bodyPost_ret (ZAF Tryz.results147 _ _ (w.heap.size+1+1) _ _ _ _ rfl (ZAd _ _ hHc hBc (by omega)).1 Tryz.underlying146 rfl (by kernel_rfl)) rfl ?_
          rw [HSO.out]
          exact ZDA HIN.out HS7.out HN.out HM.out hHc hBc (by omega) hB0s oA oB
     ·go_simp
      have hst:=(Below.refl _ V40).alloc (Nat.le_refl _) (.cells #[.slice ca m cc,.slice (some ⟨hB1,0,none⟩) 1 1] 52)
      have en:=ZAQ V40 (.cells #[.slice ca m cc,.slice (some ⟨hB1,0,none⟩) 1 1] 52)
      obtain ⟨V46,hU⟩:∃ U,V40.alloc (.cells #[.slice ca m cc,.slice (some ⟨hB1,0,none⟩) 1 1] 52)=U:=⟨_,rfl⟩
      obtain ⟨gB2,hg⟩:∃ g,V40.heap.size=g:=⟨_,rfl⟩
      rw [hU] at hst en ⊢
      rw [hg] at en ⊢
      clear hU hg
      have eA1:=(hst.block _ (ZZZ eA1).1).trans eA1
      have eA2:=(hst.block _ (ZZZ eA2).1).trans eA2
      have eB1:=(hst.block _ (ZZZ eB1).1).trans eB1
      have hHc:=(hst.block _ (ZZZ hHc).1).trans hHc
      have hzc:=Nat.le_trans hzc hst.size
      have hBc:=hBc.trans (hst.mono hBc.size)
      have eB2:=en
      refine hK.out _ _ (k9 hHeld hst) (fun hHeld=>?_)
      clear hK K hst en
      refine wpAnyH_ready (rs:=[6]) (by kernel_rfl) (by simp) (AllReadyH.cons rfl (fun K hK=>?_) AllReadyH.nil)
      ·have hC:=HCA.out V46 hA1 gA2 hBc (ZAB (i:=0) eA2 rfl) (ZAB (i:=1) eA2 rfl) (ZA5 eA1 rfl)
       go_simp
       (with_reducible refine hC.mono ?_)
       rintro e V47 ⟨v9,rfl,on,hst⟩
       obtain ⟨aA,cA,rfl⟩:=ZAe on
       replace on:=ZAH on hzc
       have eA1:=(hst.block _ (ZZZ eA1).1).trans eA1
       have eA2:=(hst.block _ (ZZZ eA2).1).trans eA2
       have eB1:=(hst.block _ (ZZZ eB1).1).trans eB1
       have eB2:=(hst.block _ (ZZZ eB2).1).trans eB2
       have hHc:=(hst.block _ (ZZZ hHc).1).trans hHc
       have hzc:=Nat.le_trans hzc hst.size
       have hBc:=hBc.trans (hst.mono hBc.size)
       have oA:=on
       refine hK.out _ _ (k9 hHeld hst) (fun hHeld=>?_)
       clear hK K hst hC on
       refine wpAnyH_ready (rs:=[14]) (by kernel_rfl) (by simp) (AllReadyH.cons rfl (fun K hK=>?_) AllReadyH.nil)
       ·have hC:=HCB.out V47 hB1 gB2 hBc (ZAB (i:=0) eB2 rfl) (ZAB (i:=1) eB2 rfl) (ZA5 eB1 rfl)
        go_simp
        (with_reducible refine hC.mono ?_)
        rintro e V48 ⟨v9,rfl,on,hst⟩
        obtain ⟨aB,cB,rfl⟩:=ZAe on
        replace on:=ZAH on hzc
        have eA1:=(hst.block _ (ZZZ eA1).1).trans eA1
        have eA2:=(hst.block _ (ZZZ eA2).1).trans eA2
        have eB1:=(hst.block _ (ZZZ eB1).1).trans eB1
        have eB2:=(hst.block _ (ZZZ eB2).1).trans eB2
        have oA:=ZAL oA hst
        have hHc:=(hst.block _ (ZZZ hHc).1).trans hHc
        have hzc:=Nat.le_trans hzc hst.size
        have hBc:=hBc.trans (hst.mono hBc.size)
        have oB:=on
        refine hK.out _ _ (k9 hHeld hst) (fun hHeld=>?_)
        clear hK K hst hC on
        refine wpAnyH_take (i:=15) (v:=?_) rfl (by kernel_rfl) (by kernel_rfl) (by kernel_rfl) (fun _ _ _ h=>h) (Or.inl ⟨by rfl, ?_⟩) (by assumption) ?_
        rotate_left
        ·intro w8 hSw;obtain ⟨q0,q1,q2,q3,q4,q5,q6,q7,q8⟩:=hSw;go_simp;(try with_reducible rfl)
        (try simp only [Act.put,ZZX,ZZW,ZZV])
        refine wpAnyH_ready (rs:=[16]) (by kernel_rfl) (by simp) (AllReadyH.cons rfl (fun K hK=>?_) AllReadyH.nil)
        ·obtain ⟨m0,m1,m2,m3⟩:=ZAD hHc
         go_simp
         refine hK.out _ _ (k9s hHeld (by omega) (by omega)) (fun hHeld=>?_)
         clear hK K m0 m1 m2 m3
         refine wpAnyH_ready (rs:=[17]) (by kernel_rfl) (by simp) (AllReadyH.cons rfl (fun K hK=>?_) AllReadyH.nil)
         ·go_simp
          refine hK.out _ _ hHeld (fun hHeld=>?_)
          clear hK K
          refine wpAnyH_done (by kernel_rfl) ?_ _
          go_wp2
          refine bodyPost_ret (ZAF Tryz.results147 _ _ (w.heap.size+1+1) _ _ _ _ rfl (ZAd _ _ hHc hBc (by omega)).1 Tryz.underlying146 rfl (by kernel_rfl)) rfl ?_
          rw [HSO.out]
          exact ZDA HIN.out HS7.out HN.out HM.out hHc hBc (by omega) hB0s oA oB
    ·go_simp
     have hst:=(Below.refl _ V39).alloc (Nat.le_refl _) (.cells #[.slice ca m cc,.slice (some ⟨hB1,0,none⟩) 1 1] 52)
     have en:=ZAQ V39 (.cells #[.slice ca m cc,.slice (some ⟨hB1,0,none⟩) 1 1] 52)
     obtain ⟨V51,hU⟩:∃ U,V39.alloc (.cells #[.slice ca m cc,.slice (some ⟨hB1,0,none⟩) 1 1] 52)=U:=⟨_,rfl⟩
     obtain ⟨gB2,hg⟩:∃ g,V39.heap.size=g:=⟨_,rfl⟩
     rw [hU] at hst en ⊢
     rw [hg] at en ⊢
     clear hU hg
     have eA1:=(hst.block _ (ZZZ eA1).1).trans eA1
     have eB1:=(hst.block _ (ZZZ eB1).1).trans eB1
     have hHc:=(hst.block _ (ZZZ hHc).1).trans hHc
     have hzc:=Nat.le_trans hzc hst.size
     have hBc:=hBc.trans (hst.mono hBc.size)
     have eB2:=en
     refine hK.out _ _ (k9 hHeld hst) (fun hHeld=>?_)
     clear hK K hst en
     refine wpAnyH_ready (rs:=[5]) (by kernel_rfl) (by simp) (AllReadyH.cons rfl (fun K hK=>?_) AllReadyH.nil)
     ·go_simp
      have hst:=(Below.refl _ V51).alloc (Nat.le_refl _) (.cells #[.slice sa n sc,.slice (some ⟨hA1,0,none⟩) 1 1] 37)
      have en:=ZAQ V51 (.cells #[.slice sa n sc,.slice (some ⟨hA1,0,none⟩) 1 1] 37)
      obtain ⟨V52,hU⟩:∃ U,V51.alloc (.cells #[.slice sa n sc,.slice (some ⟨hA1,0,none⟩) 1 1] 37)=U:=⟨_,rfl⟩
      obtain ⟨gA2,hg⟩:∃ g,V51.heap.size=g:=⟨_,rfl⟩
      rw [hU] at hst en ⊢
      rw [hg] at en ⊢
      clear hU hg
      have eA1:=(hst.block _ (ZZZ eA1).1).trans eA1
      have eB1:=(hst.block _ (ZZZ eB1).1).trans eB1
      have eB2:=(hst.block _ (ZZZ eB2).1).trans eB2
      have hHc:=(hst.block _ (ZZZ hHc).1).trans hHc
      have hzc:=Nat.le_trans hzc hst.size
      have hBc:=hBc.trans (hst.mono hBc.size)
      have eA2:=en
      refine hK.out _ _ (k9 hHeld hst) (fun hHeld=>?_)
      clear hK K hst en
      refine wpAnyH_ready (rs:=[6]) (by kernel_rfl) (by simp) (AllReadyH.cons rfl (fun K hK=>?_) AllReadyH.nil)
      ·have hC:=HCA.out V52 hA1 gA2 hBc (ZAB (i:=0) eA2 rfl) (ZAB (i:=1) eA2 rfl) (ZA5 eA1 rfl)
       go_simp
       (with_reducible refine hC.mono ?_)
       rintro e V53 ⟨v9,rfl,on,hst⟩
       obtain ⟨aA,cA,rfl⟩:=ZAe on
       replace on:=ZAH on hzc
       have eA1:=(hst.block _ (ZZZ eA1).1).trans eA1
       have eA2:=(hst.block _ (ZZZ eA2).1).trans eA2
       have eB1:=(hst.block _ (ZZZ eB1).1).trans eB1
       have eB2:=(hst.block _ (ZZZ eB2).1).trans eB2
       have hHc:=(hst.block _ (ZZZ hHc).1).trans hHc
       have hzc:=Nat.le_trans hzc hst.size
       have hBc:=hBc.trans (hst.mono hBc.size)
       have oA:=on
       refine hK.out _ _ (k9 hHeld hst) (fun hHeld=>?_)
       clear hK K hst hC on
       refine wpAnyH_ready (rs:=[14]) (by kernel_rfl) (by simp) (AllReadyH.cons rfl (fun K hK=>?_) AllReadyH.nil)
       ·have hC:=HCB.out V53 hB1 gB2 hBc (ZAB (i:=0) eB2 rfl) (ZAB (i:=1) eB2 rfl) (ZA5 eB1 rfl)
        go_simp
        (with_reducible refine hC.mono ?_)
        rintro e V54 ⟨v9,rfl,on,hst⟩
        obtain ⟨aB,cB,rfl⟩:=ZAe on
        replace on:=ZAH on hzc
        have eA1:=(hst.block _ (ZZZ eA1).1).trans eA1
        have eA2:=(hst.block _ (ZZZ eA2).1).trans eA2
        have eB1:=(hst.block _ (ZZZ eB1).1).trans eB1
        have eB2:=(hst.block _ (ZZZ eB2).1).trans eB2
        have oA:=ZAL oA hst
        have hHc:=(hst.block _ (ZZZ hHc).1).trans hHc
        have hzc:=Nat.le_trans hzc hst.size
        have hBc:=hBc.trans (hst.mono hBc.size)
        have oB:=on
        refine hK.out _ _ (k9 hHeld hst) (fun hHeld=>?_)
        clear hK K hst hC on
        refine wpAnyH_take (i:=15) (v:=?_) rfl (by kernel_rfl) (by kernel_rfl) (by kernel_rfl) (fun _ _ _ h=>h) (Or.inl ⟨by rfl, ?_⟩) (by assumption) ?_
        rotate_left
        ·intro w8 hSw;obtain ⟨q0,q1,q2,q3,q4,q5,q6,q7,q8⟩:=hSw;go_simp;(try with_reducible rfl)
        (try simp only [Act.put,ZZX,ZZW,ZZV])
        refine wpAnyH_ready (rs:=[16]) (by kernel_rfl) (by simp) (AllReadyH.cons rfl (fun K hK=>?_) AllReadyH.nil)
        ·obtain ⟨m0,m1,m2,m3⟩:=ZAD hHc
         go_simp
         refine hK.out _ _ (k9s hHeld (by omega) (by omega)) (fun hHeld=>?_)
         clear hK K m0 m1 m2 m3
         refine wpAnyH_ready (rs:=[17]) (by kernel_rfl) (by simp) (AllReadyH.cons rfl (fun K hK=>?_) AllReadyH.nil)
         ·go_simp
          refine hK.out _ _ hHeld (fun hHeld=>?_)
          clear hK K
          refine wpAnyH_done (by kernel_rfl) ?_ _
          go_wp2
          refine bodyPost_ret (ZAF Tryz.results147 _ _ (w.heap.size+1+1) _ _ _ _ rfl (ZAd _ _ hHc hBc (by omega)).1 Tryz.underlying146 rfl (by kernel_rfl)) rfl ?_
          rw [HSO.out]
          exact ZDA HIN.out HS7.out HN.out HM.out hHc hBc (by omega) hB0s oA oB
   ·go_simp
    have hst:=(Below.refl _ V38).alloc (Nat.le_refl _) (.cells #[.slice ca m cc,.slice (some ⟨hB1,0,none⟩) 1 1] 52)
    have en:=ZAQ V38 (.cells #[.slice ca m cc,.slice (some ⟨hB1,0,none⟩) 1 1] 52)
    obtain ⟨V57,hU⟩:∃ U,V38.alloc (.cells #[.slice ca m cc,.slice (some ⟨hB1,0,none⟩) 1 1] 52)=U:=⟨_,rfl⟩
    obtain ⟨gB2,hg⟩:∃ g,V38.heap.size=g:=⟨_,rfl⟩
    rw [hU] at hst en ⊢
    rw [hg] at en ⊢
    clear hU hg
    have eB1:=(hst.block _ (ZZZ eB1).1).trans eB1
    have hHc:=(hst.block _ (ZZZ hHc).1).trans hHc
    have hzc:=Nat.le_trans hzc hst.size
    have hBc:=hBc.trans (hst.mono hBc.size)
    have eB2:=en
    refine hK.out _ _ (k9 hHeld hst) (fun hHeld=>?_)
    clear hK K hst en
    refine wpAnyH_ready (rs:=[4]) (by kernel_rfl) (by simp) (AllReadyH.cons rfl (fun K hK=>?_) AllReadyH.nil)
    ·go_simp
     have hst:=(Below.refl _ V57).alloc (Nat.le_refl _) (.cells #[.string nm,.int .i64 ty,.bool false,.int .i64 k,.int .i64 n0,.string tx,.slice a len cap] 51)
     have en:=ZAQ V57 (.cells #[.string nm,.int .i64 ty,.bool false,.int .i64 k,.int .i64 n0,.string tx,.slice a len cap] 51)
     obtain ⟨V58,hU⟩:∃ U,V57.alloc (.cells #[.string nm,.int .i64 ty,.bool false,.int .i64 k,.int .i64 n0,.string tx,.slice a len cap] 51)=U:=⟨_,rfl⟩
     obtain ⟨hA1,hg⟩:∃ g,V57.heap.size=g:=⟨_,rfl⟩
     rw [hU] at hst en ⊢
     rw [hg] at en ⊢
     clear hU hg
     have eB1:=(hst.block _ (ZZZ eB1).1).trans eB1
     have eB2:=(hst.block _ (ZZZ eB2).1).trans eB2
     have hHc:=(hst.block _ (ZZZ hHc).1).trans hHc
     have hzc:=Nat.le_trans hzc hst.size
     have hBc:=hBc.trans (hst.mono hBc.size)
     have eA1:=en
     refine hK.out _ _ (k9 hHeld hst) (fun hHeld=>?_)
     clear hK K hst en
     refine wpAnyH_ready (rs:=[5]) (by kernel_rfl) (by simp) (AllReadyH.cons rfl (fun K hK=>?_) AllReadyH.nil)
     ·go_simp
      have hst:=(Below.refl _ V58).alloc (Nat.le_refl _) (.cells #[.slice sa n sc,.slice (some ⟨hA1,0,none⟩) 1 1] 37)
      have en:=ZAQ V58 (.cells #[.slice sa n sc,.slice (some ⟨hA1,0,none⟩) 1 1] 37)
      obtain ⟨V59,hU⟩:∃ U,V58.alloc (.cells #[.slice sa n sc,.slice (some ⟨hA1,0,none⟩) 1 1] 37)=U:=⟨_,rfl⟩
      obtain ⟨gA2,hg⟩:∃ g,V58.heap.size=g:=⟨_,rfl⟩
      rw [hU] at hst en ⊢
      rw [hg] at en ⊢
      clear hU hg
      have eA1:=(hst.block _ (ZZZ eA1).1).trans eA1
      have eB1:=(hst.block _ (ZZZ eB1).1).trans eB1
      have eB2:=(hst.block _ (ZZZ eB2).1).trans eB2
      have hHc:=(hst.block _ (ZZZ hHc).1).trans hHc
      have hzc:=Nat.le_trans hzc hst.size
      have hBc:=hBc.trans (hst.mono hBc.size)
      have eA2:=en
      refine hK.out _ _ (k9 hHeld hst) (fun hHeld=>?_)
      clear hK K hst en
      refine wpAnyH_ready (rs:=[6]) (by kernel_rfl) (by simp) (AllReadyH.cons rfl (fun K hK=>?_) AllReadyH.nil)
      ·have hC:=HCA.out V59 hA1 gA2 hBc (ZAB (i:=0) eA2 rfl) (ZAB (i:=1) eA2 rfl) (ZA5 eA1 rfl)
       go_simp
       (with_reducible refine hC.mono ?_)
       rintro e V60 ⟨v9,rfl,on,hst⟩
       obtain ⟨aA,cA,rfl⟩:=ZAe on
       replace on:=ZAH on hzc
       have eA1:=(hst.block _ (ZZZ eA1).1).trans eA1
       have eA2:=(hst.block _ (ZZZ eA2).1).trans eA2
       have eB1:=(hst.block _ (ZZZ eB1).1).trans eB1
       have eB2:=(hst.block _ (ZZZ eB2).1).trans eB2
       have hHc:=(hst.block _ (ZZZ hHc).1).trans hHc
       have hzc:=Nat.le_trans hzc hst.size
       have hBc:=hBc.trans (hst.mono hBc.size)
       have oA:=on
       refine hK.out _ _ (k9 hHeld hst) (fun hHeld=>?_)
       clear hK K hst hC on
       refine wpAnyH_ready (rs:=[14]) (by kernel_rfl) (by simp) (AllReadyH.cons rfl (fun K hK=>?_) AllReadyH.nil)
       ·have hC:=HCB.out V60 hB1 gB2 hBc (ZAB (i:=0) eB2 rfl) (ZAB (i:=1) eB2 rfl) (ZA5 eB1 rfl)
        go_simp
        (with_reducible refine hC.mono ?_)
        rintro e V61 ⟨v9,rfl,on,hst⟩
        obtain ⟨aB,cB,rfl⟩:=ZAe on
        replace on:=ZAH on hzc
        have eA1:=(hst.block _ (ZZZ eA1).1).trans eA1
        have eA2:=(hst.block _ (ZZZ eA2).1).trans eA2
        have eB1:=(hst.block _ (ZZZ eB1).1).trans eB1
        have eB2:=(hst.block _ (ZZZ eB2).1).trans eB2
        have oA:=ZAL oA hst
        have hHc:=(hst.block _ (ZZZ hHc).1).trans hHc
        have hzc:=Nat.le_trans hzc hst.size
        have hBc:=hBc.trans (hst.mono hBc.size)
        have oB:=on
        refine hK.out _ _ (k9 hHeld hst) (fun hHeld=>?_)
        clear hK K hst hC on
        refine wpAnyH_take (i:=15) (v:=?_) rfl (by kernel_rfl) (by kernel_rfl) (by kernel_rfl) (fun _ _ _ h=>h) (Or.inl ⟨by rfl, ?_⟩) (by assumption) ?_
        rotate_left
        ·intro w8 hSw;obtain ⟨q0,q1,q2,q3,q4,q5,q6,q7,q8⟩:=hSw;go_simp;(try with_reducible rfl)
        (try simp only [Act.put,ZZX,ZZW,ZZV])
        refine wpAnyH_ready (rs:=[16]) (by kernel_rfl) (by simp) (AllReadyH.cons rfl (fun K hK=>?_) AllReadyH.nil)
        ·obtain ⟨m0,m1,m2,m3⟩:=ZAD hHc
         go_simp
         refine hK.out _ _ (k9s hHeld (by omega) (by omega)) (fun hHeld=>?_)
         clear hK K m0 m1 m2 m3
         refine wpAnyH_ready (rs:=[17]) (by kernel_rfl) (by simp) (AllReadyH.cons rfl (fun K hK=>?_) AllReadyH.nil)
         ·go_simp
          refine hK.out _ _ hHeld (fun hHeld=>?_)
          clear hK K
          refine wpAnyH_done (by kernel_rfl) ?_ _
          go_wp2
          refine bodyPost_ret (ZAF Tryz.results147 _ _ (w.heap.size+1+1) _ _ _ _ rfl (ZAd _ _ hHc hBc (by omega)).1 Tryz.underlying146 rfl (by kernel_rfl)) rfl ?_
          rw [HSO.out]
          exact ZDA HIN.out HS7.out HN.out HM.out hHc hBc (by omega) hB0s oA oB
