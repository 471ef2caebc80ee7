/- The program's schema: rename. (Made by gen_spr.py.) -/
import Derived.Test.YtnefldogciemgaaGreatMh21Regi
set_option linter.unusedVariables false
set_option linter.unusedSimpArgs false
set_option maxRecDepth 100000
namespace Go.Proofs.YtnefldogciemgaaGreat
open Go.RowKit Go.Shelf
set_option maxHeartbeats 4000000 in
theorem rename_any (x:Sc.Ver) (s:StepM) (sa:Option Addr) (sc:Nat) (ca:Option Addr) (cc:Nat) (cs:List Value) (w0 w:World) (X:Value) (hk:s.kd=3) (hok:Sc.VerOk 16 x) (hin:StepIn w0 w x sa sc ca cc cs) (hs:IsStep w s X) :
  Calls Tryz.prog 160 #[.agg #[.slice sa x.slots.length sc,.slice ca x.cols.length cc],X] w (StepPost (Sc.step x s) w0 w):=by
 have hst:=Sc.step3 (x:=x) hk
 have HIN:=Lib.hid hin
 have hv:=hin.ver
 clear hin
 obtain ⟨k,n,tx,a,len,cap,oa,oc,rfl,hI1,hI2,hI3,hnm,hi,hr,ho⟩:=isStep_form hs
 have h1:=fun W (hb:Below w.heap.size w W)=>only_any s _ W _ _ (isStep_below hb hs) (isStep_made W 0 s.col 0 s.sl.nm false i64_zero hI2 i64_zero hnm)
 have h2:=fun W=>has_any (.slice sa x.slots.length sc) ca x.cols.length cc s.col W
 have h3:=fun W=>isName_any s.sl.nm W hnm
 have h4:=fun W (hb:Below w.heap.size w W)=>col_any x sa sc ca cc s.sl.nm W hok.lt hnm ⟨slotRow_below hb hv.1,row_below hv.2 hb rfl⟩
 obtain ⟨O,hO⟩:∃ O,Sc.step x s=O:=⟨_,rfl⟩
 rw [hO] at hst ⊢
 obtain ⟨b0,e0⟩:∃ b,onlyB s ⟨0,s.col,⟨s.sl.nm,0,false,Sc.nilV⟩,[]⟩=b:=⟨_,rfl⟩
 obtain ⟨b1,e1⟩:∃ b,Sc.hasB x s.col=b:=⟨_,rfl⟩
 obtain ⟨b2,e2⟩:∃ b,nameB (strB s.sl.nm)=b:=⟨_,rfl⟩
 obtain ⟨b3,e3⟩:∃ b,decide (Sc.colI x s.sl.nm<0)=b:=⟨_,rfl⟩
 have e3':decide (Sc.colI x s.sl.nm≥0) = !b3:=by rw [←e3,←decide_not];congr 1;rw [eq_iff_iff];omega
 have e1':(decide (0≤s.col) && decide (s.col<(x.cols.length:Int)))=b1:=e1
 rw [e0] at h1 hst
 rw [e1'] at h2
 rw [e1] at hst
 rw [e2] at h3 hst
 rw [e3] at hst
 obtain ⟨R,hR⟩:∃ R,Sc.colI x s.sl.nm=R:=⟨_,rfl⟩
 rw [hR] at h4 e3'
 obtain ⟨kd,col,⟨nm,ty,rq,df⟩,od⟩:=s
 simp only at h1 h2 h3 h4 hst e1 hI2 hnm ⊢
 have HO1:=Lib.hid h1;have HO2:=Lib.hid h2;have HO3:=Lib.hid h3;have HO4:=Lib.hid h4
 have HST:=Lib.hid hst;have HE1:=Lib.hid e1;have HV:=Lib.hid hv;have HOK:=Lib.hid hok;have HNM:=Lib.hid hnm
 have hx1:x.slots.length=x.slots.length:=rfl
 obtain ⟨sn,hsn⟩:∃ sn,x.slots.length=sn:=⟨_,rfl⟩
 obtain ⟨cn,hcn⟩:∃ cn,x.cols.length=cn:=⟨_,rfl⟩
 rw [hsn,hcn] at HO2 HO4
 rw [hsn,hcn]
 have HSN:=Lib.hid hsn;have HCN:=Lib.hid hcn
 clear h1 h2 h3 h4 hst e0 e1 e1' e2 e3 hv hok hs hi hr ho hI1 hI2 hI3 hk hO hR hsn hcn hx1 hnm
 cases b0 with
 |false=>
  have hnone:O=none:=by rw [HST.out];simp
  go_enter Tryz.func160,Tryz.ntmps160
  go_wp2_with (first
   |(go_at_call 166;(with_reducible refine (HO1.out _ (below4 w _ _ _ _)).mono ?_);rintro e w1 ⟨rfl,hB1⟩;obtain ⟨g0,g1,hH,g3⟩:=heap4 hB1;have x0:=at_heap (i:=0) (v:=.slice sa sn sc) g0 rfl;have x1:=at_heap (i:=1) (v:=.slice ca cn cc) g0 rfl;have xc:=at_heap (i:=1) (v:=.int .i64 col) g1 rfl;have xn:=at_heap (i:=0) (v:=.string nm) g3 rfl;clear g0 g1 g3;obtain ⟨f0,f1,f2,f3⟩:=two_all hH;have hBw:=(below4 w _ _ _ _).trans (hB1.mono (below4 w _ _ _ _).size)))
  refine bodyPost_ret (results_cell_tmpS Tryz.results160 _ _ (w.heap.size+1+1) _ _ _ _ rfl (step_out _ _ hH hBw (by omega)).1 Tryz.underlying145 rfl (by kernel_rfl)) rfl ?_
  exact step_no hnone hH hBw (by omega) rfl
 |true=>
 cases b1 with
 |false=>
  have hnone:O=none:=by rw [HST.out];simp
  go_enter Tryz.func160,Tryz.ntmps160
  go_wp2_with (first
   |(go_at_call 166;(with_reducible refine (HO1.out _ (below4 w _ _ _ _)).mono ?_);rintro e w1 ⟨rfl,hB1⟩;obtain ⟨g0,g1,hH,g3⟩:=heap4 hB1;have x0:=at_heap (i:=0) (v:=.slice sa sn sc) g0 rfl;have x1:=at_heap (i:=1) (v:=.slice ca cn cc) g0 rfl;have xc:=at_heap (i:=1) (v:=.int .i64 col) g1 rfl;have xn:=at_heap (i:=0) (v:=.string nm) g3 rfl;clear g0 g1 g3;obtain ⟨f0,f1,f2,f3⟩:=two_all hH;have hBw:=(below4 w _ _ _ _).trans (hB1.mono (below4 w _ _ _ _).size))
   |(go_at_call 169;(with_reducible refine (HO2.out _).mono ?_);rintro e w2 ⟨rfl,hB2⟩;have x0:=cell_below hB2 x0;have x1:=cell_below hB2 x1;have xc:=cell_below hB2 xc;have xn:=cell_below hB2 xn;have hH:=(hB2.block _ (by have:=(Array.getElem?_eq_some_iff.1 hH).1;omega)).trans hH;obtain ⟨f0,f1,f2,f3⟩:=two_all hH;have hBw:=hBw.trans (hB2.mono hBw.size)))
  refine bodyPost_ret (results_cell_tmpS Tryz.results160 _ _ (w.heap.size+1+1) _ _ _ _ rfl (step_out _ _ hH hBw (by omega)).1 Tryz.underlying145 rfl (by kernel_rfl)) rfl ?_
  exact step_no hnone hH hBw (by omega) rfl
 |true=>
 cases b2 with
 |false=>
  have hnone:O=none:=by rw [HST.out];simp
  go_enter Tryz.func160,Tryz.ntmps160
  go_wp2_with (first
   |(go_at_call 166;(with_reducible refine (HO1.out _ (below4 w _ _ _ _)).mono ?_);rintro e w1 ⟨rfl,hB1⟩;obtain ⟨g0,g1,hH,g3⟩:=heap4 hB1;have x0:=at_heap (i:=0) (v:=.slice sa sn sc) g0 rfl;have x1:=at_heap (i:=1) (v:=.slice ca cn cc) g0 rfl;have xc:=at_heap (i:=1) (v:=.int .i64 col) g1 rfl;have xn:=at_heap (i:=0) (v:=.string nm) g3 rfl;clear g0 g1 g3;obtain ⟨f0,f1,f2,f3⟩:=two_all hH;have hBw:=(below4 w _ _ _ _).trans (hB1.mono (below4 w _ _ _ _).size))
   |(go_at_call 169;(with_reducible refine (HO2.out _).mono ?_);rintro e w2 ⟨rfl,hB2⟩;have x0:=cell_below hB2 x0;have x1:=cell_below hB2 x1;have xc:=cell_below hB2 xc;have xn:=cell_below hB2 xn;have hH:=(hB2.block _ (by have:=(Array.getElem?_eq_some_iff.1 hH).1;omega)).trans hH;obtain ⟨f0,f1,f2,f3⟩:=two_all hH;have hBw:=hBw.trans (hB2.mono hBw.size))
   |(go_at_call 137;(with_reducible refine (HO3.out _).mono ?_);rintro e w3 ⟨rfl,rfl⟩))
  refine bodyPost_ret (results_cell_tmpS Tryz.results160 _ _ (w.heap.size+1+1) _ _ _ _ rfl (step_out _ _ hH hBw (by omega)).1 Tryz.underlying145 rfl (by kernel_rfl)) rfl ?_
  exact step_no hnone hH hBw (by omega) rfl
 |true=>
 cases b3 with
 |false=>
  have hnone:O=none:=by rw [HST.out];simp
  go_enter Tryz.func160,Tryz.ntmps160
  go_wp2_with (first
   |(go_at_call 166;(with_reducible refine (HO1.out _ (below4 w _ _ _ _)).mono ?_);rintro e w1 ⟨rfl,hB1⟩;obtain ⟨g0,g1,hH,g3⟩:=heap4 hB1;have x0:=at_heap (i:=0) (v:=.slice sa sn sc) g0 rfl;have x1:=at_heap (i:=1) (v:=.slice ca cn cc) g0 rfl;have xc:=at_heap (i:=1) (v:=.int .i64 col) g1 rfl;have xn:=at_heap (i:=0) (v:=.string nm) g3 rfl;clear g0 g1 g3;obtain ⟨f0,f1,f2,f3⟩:=two_all hH;have hBw:=(below4 w _ _ _ _).trans (hB1.mono (below4 w _ _ _ _).size))
   |(go_at_call 169;(with_reducible refine (HO2.out _).mono ?_);rintro e w2 ⟨rfl,hB2⟩;have x0:=cell_below hB2 x0;have x1:=cell_below hB2 x1;have xc:=cell_below hB2 xc;have xn:=cell_below hB2 xn;have hH:=(hB2.block _ (by have:=(Array.getElem?_eq_some_iff.1 hH).1;omega)).trans hH;obtain ⟨f0,f1,f2,f3⟩:=two_all hH;have hBw:=hBw.trans (hB2.mono hBw.size))
   |(go_at_call 137;(with_reducible refine (HO3.out _).mono ?_);rintro e w3 ⟨rfl,rfl⟩)
   |(go_at_call 151;(with_reducible refine (HO4.out _ hBw).mono ?_);rintro e w4 ⟨rfl,hB4⟩;have x0:=cell_below hB4 x0;have x1:=cell_below hB4 x1;have xc:=cell_below hB4 xc;have xn:=cell_below hB4 xn;have hH:=(hB4.block _ (by have:=(Array.getElem?_eq_some_iff.1 hH).1;omega)).trans hH;obtain ⟨f0,f1,f2,f3⟩:=two_all hH;have hBw:=hBw.trans (hB4.mono hBw.size)))
  refine bodyPost_ret (results_cell_tmpS Tryz.results160 _ _ (w.heap.size+1+1) _ _ _ _ rfl (step_out _ _ hH hBw (by omega)).1 Tryz.underlying145 rfl (by kernel_rfl)) rfl ?_
  exact step_no hnone hH hBw (by omega) rfl
 |true=>
  have h01:=HE1.out
  unfold Sc.hasB at h01
  simp only [Bool.and_eq_true,decide_eq_true_eq] at h01
  obtain ⟨cI,rfl⟩:∃ cI:Nat,col=(cI:Int):=⟨col.toNat,by omega⟩
  have hcI:cI<x.cols.length:=by omega
  obtain ⟨c,hc⟩:∃ c,x.cols[cI]? = some c:=⟨x.cols[cI],List.getElem?_eq_getElem hcI⟩
  have hcl:=HOK.out.lt c (List.mem_of_getElem? hc)
  obtain ⟨s0,hs0⟩:∃ s0,x.slots[c]? = some s0:=⟨x.slots[c],List.getElem?_eq_getElem hcl⟩
  have hsome:O=some ⟨x.slots.modify c (fun t=>Sc.setNm t nm),x.cols⟩:=by
   rw [HST.out]
   simp [hc]
  have hT:=fun W (hb:Below w.heap.size w W) bn (hbn:W.cell? ⟨bn,0,none⟩=some (.string nm))=>turned_any x sa sc ca cc cI c 0 (.string s0.nm) (.string nm) 171 bn cs w0 W HOK.out HIN.out.sc (cells_below9 HIN.out.cells hb) (row_below HV.out.2 hb rfl) hc (by omega) (by
    obtain ⟨c0,_,_,_,_,_,_,⟨q0,_⟩,_,_,rfl,_⟩:=HIN.out.sc.2.2 c s0 hs0
    exact q0) (fun args w=>rfl) (fun W' g hb' h1 h2=>rename1_any W' g (c*7) bn nm _ (cell_below hb' hbn) h1 h2)
  rw [HSN.out,HCN.out] at hT
  have HT:=Lib.hid hT
  have HSO:=Lib.hid hsome
  clear hT hsome hs0 hcl hc hcI h01
  go_enter Tryz.func160,Tryz.ntmps160
  go_wp2_with (first
   |(go_at_call 166;(with_reducible refine (HO1.out _ (below4 w _ _ _ _)).mono ?_);rintro e w1 ⟨rfl,hB1⟩;obtain ⟨g0,g1,hH,g3⟩:=heap4 hB1;have x0:=at_heap (i:=0) (v:=.slice sa sn sc) g0 rfl;have x1:=at_heap (i:=1) (v:=.slice ca cn cc) g0 rfl;have xc:=at_heap (i:=1) (v:=.int .i64 (cI:Int)) g1 rfl;have xn:=at_heap (i:=0) (v:=.string nm) g3 rfl;clear g0 g1 g3;obtain ⟨f0,f1,f2,f3⟩:=two_all hH;have hBw:=(below4 w _ _ _ _).trans (hB1.mono (below4 w _ _ _ _).size))
   |(go_at_call 169;(with_reducible refine (HO2.out _).mono ?_);rintro e w2 ⟨rfl,hB2⟩;have x0:=cell_below hB2 x0;have x1:=cell_below hB2 x1;have xc:=cell_below hB2 xc;have xn:=cell_below hB2 xn;have hH:=(hB2.block _ (by have:=(Array.getElem?_eq_some_iff.1 hH).1;omega)).trans hH;obtain ⟨f0,f1,f2,f3⟩:=two_all hH;have hBw:=hBw.trans (hB2.mono hBw.size))
   |(go_at_call 137;(with_reducible refine (HO3.out _).mono ?_);rintro e w3 ⟨rfl,rfl⟩)
   |(go_at_call 151;(with_reducible refine (HO4.out _ hBw).mono ?_);rintro e w4 ⟨rfl,hB4⟩;have x0:=cell_below hB4 x0;have x1:=cell_below hB4 x1;have xc:=cell_below hB4 xc;have xn:=cell_below hB4 xn;have hH:=(hB4.block _ (by have:=(Array.getElem?_eq_some_iff.1 hH).1;omega)).trans hH;obtain ⟨f0,f1,f2,f3⟩:=two_all hH;have hBw:=hBw.trans (hB4.mono hBw.size))
   |(go_at_call 170;(with_reducible refine (HT.out _ hBw _ xn).mono ?_);rintro e w5 ⟨⟨a5,cp5,rfl,ho5⟩,hB5⟩;have hrlt:=(Array.getElem?_eq_some_iff.1 hH).1;have hH:=(hB5.block _ hrlt).trans hH;obtain ⟨f0,f1,f2,f3⟩:=two_all hH;have hBw:=hBw.trans (hB5.mono hBw.size)))
  refine bodyPost_ret (results_cell_tmpS Tryz.results160 _ _ (w.heap.size+1+1) _ _ _ _ rfl (step_out _ _ hH hBw (by omega)).1 Tryz.underlying145 rfl (by kernel_rfl)) rfl ?_
  have hout:=step_out (.slice a5 sn cp5) (.slice ca cn cc) hH hBw (by omega)
  have hk1:=grown_set9 w5 (w.heap.size+1+1) 0 (.slice a5 sn cp5)
  have hk2:=grown_set9 (w5.setCell ⟨w.heap.size+1+1,0,none⟩ (.slice a5 sn cp5)) (w.heap.size+1+1) 1 (.slice ca cn cc)
  have q:=fun b e=>(own_blk9 ho5 b e).2
  have ho6:=own_kept9 (own_kept9 ho5 hk1 (fun b e1 e2=>by have:=q b e2;cases e1;omega)) hk2 (fun b e1 e2=>by have:=q b e2;cases e1;omega)
  have hlm:(x.slots.modify c (fun t=>Sc.setNm t nm)).length=sn:=by rw [List.length_modify,HSN.out]
  rw [HSO.out]
  have hkp:=step_kept (.slice a5 sn cp5) (.slice ca cn cc) HIN.out.below hH hBw (by omega)
  have hwz:=HIN.out.below.size
  have hwz2:=hBw.size
  refine ⟨⟨.slice a5 sn cp5,.slice ca cn cc,rfl,.inr ⟨_, ?_,sCells_setNm HIN.out.sc c nm HNM.out⟩, ?_⟩,hout.2⟩
  ·rw [hlm]
   exact ownsRow_mono ho6 (by omega)
  ·have hvi:=(verIn_kept HIN.out.vin hkp).2
   rw [HCN.out] at hvi
   exact hvi
