/- The program's schema: rename. (Made by gen_spr.py.) -/
import Derived.Test.YtcjdfdfphbckaaaGreatMh20Regi
set_option linter.unusedVariables false
set_option linter.unusedSimpArgs false
set_option maxRecDepth 100000
set_option maxHeartbeats 64000000
open Go.Proofs.Tryz
namespace Go.Proofs.YtcjdfdfphbckaaaGreat
open Go.RowKit Go.Shelf
theorem ZLm (x:Sc.Ver) (s:StepM) (sa:Option Addr) (sc:Nat) (ca:Option Addr) (cc:Nat) (cs:List Value) (w0 w:World) (X:Value) (hk:s.kd=3) (hok:Sc.VerOk 16 x) (hin:StepIn w0 w x sa sc ca cc cs) (hs:ZA3 w s X) :
  Calls Tryz.prog 149 #[.agg #[.slice sa x.slots.length sc,.slice ca x.cols.length cc],X] w (ZCQ (Sc.step x s) w0 w):=by
 have hst:=Sc.step3 (x:=x) hk
 have HIN:=ZZY hin
 have hv:=hin.ver
 clear hin
 obtain ⟨k,n,tx,a,len,cap,oa,oc,rfl,hI1,hI2,hI3,hnm,hi,hr,ho⟩:=ZBF hs
 have h1:=fun W (hb:Below w.heap.size w W)=>ZEg s _ W _ _ (ZBB hb hs) (ZCJ W 0 s.col 0 s.sl.nm false ZB8 hI2 ZB8 hnm)
 have h2:=fun W=>ZG3 (.slice sa x.slots.length sc) ca x.cols.length cc s.col W
 have h3:=fun W=>ZDt s.sl.nm W hnm
 have h4:=fun W (hb:Below w.heap.size w W)=>ZKD x sa sc ca cc s.sl.nm W hok.lt hnm ⟨ZAy hb hv.1,ZAk hv.2 hb rfl⟩
 obtain ⟨O,hO⟩:∃ O,Sc.step x s=O:=⟨_,rfl⟩
 rw [hO] at hst ⊢
 obtain ⟨b0,e0⟩:∃ b,onlyB s ⟨0,s.col,⟨s.sl.nm,0,false,Sc.nilV⟩,[]⟩=b:=⟨_,rfl⟩
 obtain ⟨b1,e1⟩:∃ b,Sc.hasB x s.col=b:=⟨_,rfl⟩
 obtain ⟨b2,e2⟩:∃ b,nameB (strB s.sl.nm)=b:=⟨_,rfl⟩
 obtain ⟨b3,e3⟩:∃ b,decide (Sc.colI x s.sl.nm<0)=b:=⟨_,rfl⟩
 have e3':decide (Sc.colI x s.sl.nm≥0) = !b3:=by rw [←e3,←decide_not];congr 1;rw [eq_iff_iff];omega
 have e1':(decide (0≤s.col) && decide (s.col<(x.cols.length:Int)))=b1:=e1
 rw [e0] at h1 hst
 rw [e1'] at h2
 rw [e1] at hst
 rw [e2] at h3 hst
 rw [e3] at hst
 obtain ⟨R,hR⟩:∃ R,Sc.colI x s.sl.nm=R:=⟨_,rfl⟩
 rw [hR] at h4 e3'
 obtain ⟨kd,col,⟨nm,ty,rq,df⟩,od⟩:=s
 simp only at h1 h2 h3 h4 hst e1 hI2 hnm ⊢
 have HO1:=ZZY h1;have HO2:=ZZY h2;have HO3:=ZZY h3;have HO4:=ZZY h4
 have HST:=ZZY hst;have HE1:=ZZY e1;have HV:=ZZY hv;have HOK:=ZZY hok;have HNM:=ZZY hnm
 have hx1:x.slots.length=x.slots.length:=rfl
 obtain ⟨sn,hsn⟩:∃ sn,x.slots.length=sn:=⟨_,rfl⟩
 obtain ⟨cn,hcn⟩:∃ cn,x.cols.length=cn:=⟨_,rfl⟩
 rw [hsn,hcn] at HO2 HO4
 rw [hsn,hcn]
 have HSN:=ZZY hsn;have HCN:=ZZY hcn
 clear h1 h2 h3 h4 hst e0 e1 e1' e2 e3 hv hok hs hi hr ho hI1 hI2 hI3 hk hO hR hsn hcn hx1 hnm
 cases b0 with
 |false=>
  have hnone:O=none:=by rw [HST.out];simp
  go_enter func149,ntmps149
  go_wp2_with (first
   |(go_at_call 155;(with_reducible refine (HO1.out _ (below4 w _ _ _ _)).mono ?_);rintro e w1 ⟨rfl,hB1⟩;obtain ⟨g0,g1,hH,g3⟩:=heap4 hB1;have x0:=ZAB (i:=0) (v:=.slice sa sn sc) g0 rfl;have x1:=ZAB (i:=1) (v:=.slice ca cn cc) g0 rfl;have xc:=ZAB (i:=1) (v:=.int .i64 col) g1 rfl;have xn:=ZAB (i:=0) (v:=.string nm) g3 rfl;clear g0 g1 g3;obtain ⟨f0,f1,f2,f3⟩:=ZAD hH;have hBw:=(below4 w _ _ _ _).trans (hB1.mono (below4 w _ _ _ _).size)))
  refine bodyPost_ret (ZAF Tryz.results149 _ _ (w.heap.size+1+1) _ _ _ _ rfl (ZAd _ _ hH hBw (by omega)).1 Tryz.underlying146 rfl (by kernel_rfl)) rfl ?_
  exact ZBY hnone hH hBw (by omega) rfl
 |true=>
 cases b1 with
 |false=>
  have hnone:O=none:=by rw [HST.out];simp
  go_enter func149,ntmps149
  go_wp2_with (first
   |(go_at_call 155;(with_reducible refine (HO1.out _ (below4 w _ _ _ _)).mono ?_);rintro e w1 ⟨rfl,hB1⟩;obtain ⟨g0,g1,hH,g3⟩:=heap4 hB1;have x0:=ZAB (i:=0) (v:=.slice sa sn sc) g0 rfl;have x1:=ZAB (i:=1) (v:=.slice ca cn cc) g0 rfl;have xc:=ZAB (i:=1) (v:=.int .i64 col) g1 rfl;have xn:=ZAB (i:=0) (v:=.string nm) g3 rfl;clear g0 g1 g3;obtain ⟨f0,f1,f2,f3⟩:=ZAD hH;have hBw:=(below4 w _ _ _ _).trans (hB1.mono (below4 w _ _ _ _).size))
   |(go_at_call 158;(with_reducible refine (HO2.out _).mono ?_);rintro e w2 ⟨rfl,hB2⟩;have x0:=ZAA hB2 x0;have x1:=ZAA hB2 x1;have xc:=ZAA hB2 xc;have xn:=ZAA hB2 xn;have hH:=(hB2.block _ (by have:=(ZZZ hH).1;omega)).trans hH;obtain ⟨f0,f1,f2,f3⟩:=ZAD hH;have hBw:=hBw.trans (hB2.mono hBw.size)))
  refine bodyPost_ret (ZAF Tryz.results149 _ _ (w.heap.size+1+1) _ _ _ _ rfl (ZAd _ _ hH hBw (by omega)).1 Tryz.underlying146 rfl (by kernel_rfl)) rfl ?_
  exact ZBY hnone hH hBw (by omega) rfl
 |true=>
 cases b2 with
 |false=>
  have hnone:O=none:=by rw [HST.out];simp
  go_enter func149,ntmps149
  go_wp2_with (first
   |(go_at_call 155;(with_reducible refine (HO1.out _ (below4 w _ _ _ _)).mono ?_);rintro e w1 ⟨rfl,hB1⟩;obtain ⟨g0,g1,hH,g3⟩:=heap4 hB1;have x0:=ZAB (i:=0) (v:=.slice sa sn sc) g0 rfl;have x1:=ZAB (i:=1) (v:=.slice ca cn cc) g0 rfl;have xc:=ZAB (i:=1) (v:=.int .i64 col) g1 rfl;have xn:=ZAB (i:=0) (v:=.string nm) g3 rfl;clear g0 g1 g3;obtain ⟨f0,f1,f2,f3⟩:=ZAD hH;have hBw:=(below4 w _ _ _ _).trans (hB1.mono (below4 w _ _ _ _).size))
   |(go_at_call 158;(with_reducible refine (HO2.out _).mono ?_);rintro e w2 ⟨rfl,hB2⟩;have x0:=ZAA hB2 x0;have x1:=ZAA hB2 x1;have xc:=ZAA hB2 xc;have xn:=ZAA hB2 xn;have hH:=(hB2.block _ (by have:=(ZZZ hH).1;omega)).trans hH;obtain ⟨f0,f1,f2,f3⟩:=ZAD hH;have hBw:=hBw.trans (hB2.mono hBw.size))
   |(go_at_call 128;(with_reducible refine (HO3.out _).mono ?_);rintro e w3 ⟨rfl,rfl⟩))
  refine bodyPost_ret (ZAF Tryz.results149 _ _ (w.heap.size+1+1) _ _ _ _ rfl (ZAd _ _ hH hBw (by omega)).1 Tryz.underlying146 rfl (by kernel_rfl)) rfl ?_
  exact ZBY hnone hH hBw (by omega) rfl
 |true=>
 cases b3 with
 |false=>
  have hnone:O=none:=by rw [HST.out];simp
  go_enter func149,ntmps149
  go_wp2_with (first
   |(go_at_call 155;(with_reducible refine (HO1.out _ (below4 w _ _ _ _)).mono ?_);rintro e w1 ⟨rfl,hB1⟩;obtain ⟨g0,g1,hH,g3⟩:=heap4 hB1;have x0:=ZAB (i:=0) (v:=.slice sa sn sc) g0 rfl;have x1:=ZAB (i:=1) (v:=.slice ca cn cc) g0 rfl;have xc:=ZAB (i:=1) (v:=.int .i64 col) g1 rfl;have xn:=ZAB (i:=0) (v:=.string nm) g3 rfl;clear g0 g1 g3;obtain ⟨f0,f1,f2,f3⟩:=ZAD hH;have hBw:=(below4 w _ _ _ _).trans (hB1.mono (below4 w _ _ _ _).size))
   |(go_at_call 158;(with_reducible refine (HO2.out _).mono ?_);rintro e w2 ⟨rfl,hB2⟩;have x0:=ZAA hB2 x0;have x1:=ZAA hB2 x1;have xc:=ZAA hB2 xc;have xn:=ZAA hB2 xn;have hH:=(hB2.block _ (by have:=(ZZZ hH).1;omega)).trans hH;obtain ⟨f0,f1,f2,f3⟩:=ZAD hH;have hBw:=hBw.trans (hB2.mono hBw.size))
   |(go_at_call 128;(with_reducible refine (HO3.out _).mono ?_);rintro e w3 ⟨rfl,rfl⟩)
   |(go_at_call 140;(with_reducible refine (HO4.out _ hBw).mono ?_);rintro e w4 ⟨rfl,hB4⟩;have x0:=ZAA hB4 x0;have x1:=ZAA hB4 x1;have xc:=ZAA hB4 xc;have xn:=ZAA hB4 xn;have hH:=(hB4.block _ (by have:=(ZZZ hH).1;omega)).trans hH;obtain ⟨f0,f1,f2,f3⟩:=ZAD hH;have hBw:=hBw.trans (hB4.mono hBw.size)))
  refine bodyPost_ret (ZAF Tryz.results149 _ _ (w.heap.size+1+1) _ _ _ _ rfl (ZAd _ _ hH hBw (by omega)).1 Tryz.underlying146 rfl (by kernel_rfl)) rfl ?_
  exact ZBY hnone hH hBw (by omega) rfl
 |true=>
  have h01:=HE1.out
  unfold Sc.hasB at h01
  simp only [Bool.and_eq_true,decide_eq_true_eq] at h01
  obtain ⟨cI,rfl⟩:∃ cI:Nat,col=(cI:Int):=⟨col.toNat,by omega⟩
  have hcI:cI<x.cols.length:=by omega
  obtain ⟨c,hc⟩:∃ c,x.cols[cI]? = some c:=⟨x.cols[cI],List.getElem?_eq_getElem hcI⟩
  have hcl:=HOK.out.lt c (List.mem_of_getElem? hc)
  obtain ⟨s0,hs0⟩:∃ s0,x.slots[c]? = some s0:=⟨x.slots[c],List.getElem?_eq_getElem hcl⟩
  have hsome:O=some ⟨x.slots.modify c (fun t=>Sc.setNm t nm),x.cols⟩:=by
   rw [HST.out]
   simp [hc]
  have hT:=fun W (hb:Below w.heap.size w W) bn (hbn:W.cell? ⟨bn,0,none⟩=some (.string nm))=>ZGN x sa sc ca cc cI c 0 (.string s0.nm) (.string nm) 160 bn cs w0 W HOK.out HIN.out.sc (ZAs HIN.out.cells hb) (ZAk HV.out.2 hb rfl) hc (by omega) (by
    obtain ⟨c0,_,_,_,_,_,_,⟨q0,_⟩,_,_,rfl,_⟩:=HIN.out.sc.2.2 c s0 hs0
    exact q0) (fun args w=>rfl) (fun W' g hb' h1 h2=>ZJV W' g (c*7) bn nm _ (ZAA hb' hbn) h1 h2)
  rw [HSN.out,HCN.out] at hT
  have HT:=ZZY hT
  have HSO:=ZZY hsome
  clear hT hsome hs0 hcl hc hcI h01
  go_enter func149,ntmps149
  go_wp2_with (first
   |(go_at_call 155;(with_reducible refine (HO1.out _ (below4 w _ _ _ _)).mono ?_);rintro e w1 ⟨rfl,hB1⟩;obtain ⟨g0,g1,hH,g3⟩:=heap4 hB1;have x0:=ZAB (i:=0) (v:=.slice sa sn sc) g0 rfl;have x1:=ZAB (i:=1) (v:=.slice ca cn cc) g0 rfl;have xc:=ZAB (i:=1) (v:=.int .i64 (cI:Int)) g1 rfl;have xn:=ZAB (i:=0) (v:=.string nm) g3 rfl;clear g0 g1 g3;obtain ⟨f0,f1,f2,f3⟩:=ZAD hH;have hBw:=(below4 w _ _ _ _).trans (hB1.mono (below4 w _ _ _ _).size))
   |(go_at_call 158;(with_reducible refine (HO2.out _).mono ?_);rintro e w2 ⟨rfl,hB2⟩;have x0:=ZAA hB2 x0;have x1:=ZAA hB2 x1;have xc:=ZAA hB2 xc;have xn:=ZAA hB2 xn;have hH:=(hB2.block _ (by have:=(ZZZ hH).1;omega)).trans hH;obtain ⟨f0,f1,f2,f3⟩:=ZAD hH;have hBw:=hBw.trans (hB2.mono hBw.size))
   |(go_at_call 128;(with_reducible refine (HO3.out _).mono ?_);rintro e w3 ⟨rfl,rfl⟩)
   |(go_at_call 140;(with_reducible refine (HO4.out _ hBw).mono ?_);rintro e w4 ⟨rfl,hB4⟩;have x0:=ZAA hB4 x0;have x1:=ZAA hB4 x1;have xc:=ZAA hB4 xc;have xn:=ZAA hB4 xn;have hH:=(hB4.block _ (by have:=(ZZZ hH).1;omega)).trans hH;obtain ⟨f0,f1,f2,f3⟩:=ZAD hH;have hBw:=hBw.trans (hB4.mono hBw.size))
   |(go_at_call 159;(with_reducible refine (HT.out _ hBw _ xn).mono ?_);rintro e w5 ⟨⟨a5,cp5,rfl,ho5⟩,hB5⟩;have hrlt:=(ZZZ hH).1;have hH:=(hB5.block _ hrlt).trans hH;obtain ⟨f0,f1,f2,f3⟩:=ZAD hH;have hBw:=hBw.trans (hB5.mono hBw.size)))
  refine bodyPost_ret (ZAF Tryz.results149 _ _ (w.heap.size+1+1) _ _ _ _ rfl (ZAd _ _ hH hBw (by omega)).1 Tryz.underlying146 rfl (by kernel_rfl)) rfl ?_
  have hout:=ZAd (.slice a5 sn cp5) (.slice ca cn cc) hH hBw (by omega)
  have hk1:=ZAJ w5 (w.heap.size+1+1) 0 (.slice a5 sn cp5)
  have hk2:=ZAJ (w5.setCell ⟨w.heap.size+1+1,0,none⟩ (.slice a5 sn cp5)) (w.heap.size+1+1) 1 (.slice ca cn cc)
  have q:=fun b e=>(ZAV ho5 b e).2
  have ho6:=ZAN (ZAN ho5 hk1 (fun b e1 e2=>by have:=q b e2;cases e1;omega)) hk2 (fun b e1 e2=>by have:=q b e2;cases e1;omega)
  have hlm:(x.slots.modify c (fun t=>Sc.setNm t nm)).length=sn:=by rw [List.length_modify,HSN.out]
  rw [HSO.out]
  have hkp:=ZEN (.slice a5 sn cp5) (.slice ca cn cc) HIN.out.below hH hBw (by omega)
  have hwz:=HIN.out.below.size
  have hwz2:=hBw.size
  refine ⟨⟨.slice a5 sn cp5,.slice ca cn cc,rfl,.inr ⟨_, ?_,ZE6 HIN.out.sc c nm HNM.out⟩, ?_⟩,hout.2⟩
  ·rw [hlm]
   exact ZAH ho6 (by omega)
  ·have hvi:=(ZBW HIN.out.vin hkp).2
   rw [HCN.out] at hvi
   exact hvi
