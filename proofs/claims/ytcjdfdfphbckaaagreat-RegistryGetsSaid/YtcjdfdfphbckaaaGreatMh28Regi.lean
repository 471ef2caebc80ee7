/- The program's schema: lose. (Made by gen_spl.py.) -/
import Derived.Test.YtcjdfdfphbckaaaGreatMh20Regi
import Derived.Deep.RegionHeld3
set_option linter.unusedVariables false
set_option linter.unusedSimpArgs false
set_option maxRecDepth 100000
set_option maxHeartbeats 64000000
open Go.Proofs.Tryz
namespace Go.Proofs.YtcjdfdfphbckaaaGreat
open Go.RowKit Go.Shelf
theorem ZIL (w:World):(sizeOf (Tryz.prog.elem 52)).run Tryz.prog w=.ok 1 w:=by kernel_rfl
theorem ZM0 {W:World} {a:Option Addr} {n c:Nat} {l:List Int} (h:Row W .i64 a n c l) (q k m:Nat) (hk:q+k≤n) (hm:q+k≤m) (hc:m≤c):Row W .i64 (if m=q then a else a.map (·.add (q*1))) k (m-q) ((l.drop q).take k):=by
 obtain ⟨h1,h2,h3,h4⟩:=h
 refine ⟨by simp;omega,by omega,by omega, ?_⟩
 rcases h4 with h0 | ⟨b,off,rfl,hcl⟩
 ·exact .inl (by omega)
 ·by_cases hmq:m=q
  ·exact .inl (by omega)
  ·rw [if_neg hmq]
   refine .inr ⟨b,off+q,by simp [Addr.add],fun i hi=>?_⟩
   have:=hcl (q+i) (by omega)
   rw [←Nat.add_assoc] at this
   rw [this,List.getElem?_take,if_pos hi,List.getElem?_drop]
theorem ZOV (a:Option Addr) (n c q:Nat) (hq:q≤n):∃ a',(∀ W,(Instr.slice 52 (.slice a n c) (some (.int .i64 (q:Int))) none none).run Tryz.prog W=.ok (.slice a' (n-q) (c-q)) W) ∧
  ∀ W l,Row W .i64 a n c l→Row W .i64 a' (n-q) (c-q) (l.drop q):=by
 refine ⟨if c=q then a else a.map (·.add (q*1)),fun W=>?_,fun W l h=>?_⟩
 ·have h1:=run_slice_l (P:=Tryz.prog) W 52 a n c Tryz.underlying52 .i64 (q:Int) (by omega) (by omega)
  rw [ZIL W] at h1
  simpa [Result.andThen,sliced] using h1
 ·have:=ZM0 h q (n-q) c (by omega) (by have:=h.2.1;omega) (Nat.le_refl _)
  rwa [List.take_of_length_le (by have:=h.1;simp;omega)] at this
theorem ZM1 (a:Option Addr) (n c q:Nat) (hq:q≤n) (hnc:n≤c):∃ a',(∀ W,(Instr.slice 52 (.slice a n c) none (some (.int .i64 (q:Int))) none).run Tryz.prog W=.ok (.slice a' q c) W) ∧
  ∀ W l,Row W .i64 a n c l→Row W .i64 a' q c (l.take q):=by
 refine ⟨if c=0 then a else a.map (·.add (0*1)),fun W=>?_,fun W l h=>?_⟩
 ·have h1:=run_slice_h (P:=Tryz.prog) W 52 a n c Tryz.underlying52 .i64 (q:Int) (by omega) (by omega)
  rw [ZIL W] at h1
  simpa [Result.andThen,sliced] using h1
 ·have:=ZM0 h 0 q c (by omega) (by omega) (Nat.le_refl _)
  simpa using this
theorem rows2C {size:Nat} {W:World} {b:Nat} {r1 r2:RC} (h1:W.cell? ⟨b,0,none⟩=some (.slice r1.1 r1.2.1 r1.2.2.1)) (k1:ZB7 W size r1.1 r1.2.1 r1.2.2.2) (o1:∀ u∈r1.2.2.2,u.oneCell'=true)
  (h2:W.cell? ⟨b,1,none⟩=some (.slice r2.1 r2.2.1 r2.2.2.1)) (k2:ZB7 W size r2.1 r2.2.1 r2.2.2.2) (o2:∀ u∈r2.2.2.2,u.oneCell'=true):ZLR size W b [r1,r2]:=fun i x hx=>by
 match i,hx with
 | 0,hx=>simp at hx;subst hx;exact ⟨h1,k1,o1⟩
 | 1,hx=>simp at hx;subst hx;exact ⟨h2,k2,o2⟩
theorem ZM2 (l:List Int):∀ u∈l.map (Value.int .i64),u.oneCell'=true:=by
 intro u hu
 obtain ⟨i,_,rfl⟩:=List.mem_map.1 hu
 rfl
theorem ZOW (cols:List Nat) (cI:Nat) (a1 a2:Option Addr) (n1 c1 n2 c2:Nat):catC [(a1,n1,c1,((cols.map Int.ofNat).take cI).map (Value.int .i64)),(a2,n2,c2,((cols.map Int.ofNat).drop (cI+1)).map (Value.int .i64))]=((cols.eraseIdx cI).map Int.ofNat).map (Value.int .i64):=by
 simp [catC,List.eraseIdx_eq_take_drop_succ,List.map_take,List.map_drop]
theorem ZHG {w2 w9:World} {o:Obj} (h:Below (w2.alloc o).drew.heap.size (w2.alloc o).drew w9):Below w2.heap.size w2 w9:=
 ((Below.refl w2.heap.size w2).alloc (Nat.le_refl _) o).drew.trans (h.mono (by simp<;>omega))
theorem k3 {p q:Nat} {c0 c1 c2:Value} {W W':World} (h:(W.cell? ⟨p,0,none⟩=some c0∧W.cell? ⟨p,1,none⟩=some c1)∧W.cell? ⟨q,1,none⟩=some c2) (hb:Below W.heap.size W W'):(W'.cell? ⟨p,0,none⟩=some c0∧W'.cell? ⟨p,1,none⟩=some c1)∧W'.cell? ⟨q,1,none⟩=some c2:=
 ⟨⟨ZAA hb h.1.1,ZAA hb h.1.2⟩,ZAA hb h.2⟩
theorem k3s {p q r:Nat} {c0 c1 c2 u v:Value} {W:World} (h:(W.cell? ⟨p,0,none⟩=some c0∧W.cell? ⟨p,1,none⟩=some c1)∧W.cell? ⟨q,1,none⟩=some c2) (hp:p≠r) (hq:q≠r) :
  (((W.setCell ⟨r,0,none⟩ u).setCell ⟨r,1,none⟩ v).cell? ⟨p,0,none⟩=some c0∧((W.setCell ⟨r,0,none⟩ u).setCell ⟨r,1,none⟩ v).cell? ⟨p,1,none⟩=some c1)∧((W.setCell ⟨r,0,none⟩ u).setCell ⟨r,1,none⟩ v).cell? ⟨q,1,none⟩=some c2:=
 ⟨⟨ZAU (k:=0) (ZAU (k:=0) h.1.1 hp) hp,ZAU (k:=0) (ZAU (k:=0) h.1.2 hp) hp⟩,ZAU (k:=0) (ZAU (k:=0) h.2 hq) hq⟩
theorem ZOX (x:Sc.Ver) (s:StepM) (sa:Option Addr) (sc:Nat) (ca:Option Addr) (cc:Nat) (cs:List Value) (w0 w:World) (X:Value) (hk:s.kd=2) (hok:Sc.VerOk 16 x) (hin:StepIn w0 w x sa sc ca cc cs) (hs:ZA3 w s X) :
  Calls Tryz.prog 148 #[.agg #[.slice sa x.slots.length sc,.slice ca x.cols.length cc],X] w (ZCQ (Sc.step x s) w0 w):=by
 have hst:=Sc.step2 (x:=x) hk
 have HIN:=ZZY hin
 have hv:=hin.ver
 clear hin
 obtain ⟨k,n,tx,a,len,cap,oa,oc,rfl,hI1,hI2,hI3,hnm,hi,hr,ho⟩:=ZBF hs
 have h1:=fun W (hb:Below w.heap.size w W)=>ZEg s _ W _ _ (ZBB hb hs) (ZCJ W 0 s.col 0 ⟨#[]⟩ false ZB8 hI2 ZB8 (Nat.zero_le _))
 have h2:=fun W=>ZG3 (.slice sa x.slots.length sc) ca x.cols.length cc s.col W
 have hb1:=fun W=>ZLY s.col W
 obtain ⟨O,hO⟩:∃ O,Sc.step x s=O:=⟨_,rfl⟩
 rw [hO] at hst ⊢
 obtain ⟨b0,e0⟩:∃ b,onlyB s ⟨0,s.col,⟨⟨#[]⟩,0,false,Sc.nilV⟩,[]⟩=b:=⟨_,rfl⟩
 obtain ⟨b1,e1⟩:∃ b,Sc.hasB x s.col=b:=⟨_,rfl⟩
 obtain ⟨b2,e2⟩:∃ b,decide (x.cols.length=1)=b:=⟨_,rfl⟩
 have e2':((x.cols.length:Int) == 1)=b2:=by rw [←e2,ZKS];congr 1;rw [eq_iff_iff];omega
 have e1':(decide (0≤s.col) && decide (s.col<(x.cols.length:Int)))=b1:=e1
 rw [e0] at h1 hst
 rw [e1'] at h2
 rw [e1,e2] at hst
 obtain ⟨kd,col,⟨nm,ty,rq,df⟩,od⟩:=s
 simp only at h1 h2 hst e1 hI2 hnm hb1 ⊢
 have HO1:=ZZY h1;have HO2:=ZZY h2
 have HST:=ZZY hst;have HE1:=ZZY e1;have HV:=ZZY hv;have HOK:=ZZY hok
 obtain ⟨sn,hsn⟩:∃ sn,x.slots.length=sn:=⟨_,rfl⟩
 obtain ⟨cn,hcn⟩:∃ cn,x.cols.length=cn:=⟨_,rfl⟩
 obtain ⟨ol,hol⟩:∃ ol,od.length=ol:=⟨_,rfl⟩
 rw [hsn,hcn] at HO2
 rw [hcn] at e2'
 rw [hol] at HO1
 rw [hsn,hcn,hol]
 have HSN:=ZZY hsn;have HCN:=ZZY hcn
 clear h1 h2 hst e0 e1 e1' e2 hv hok hs hi hr ho hI1 hI2 hI3 hk hO hsn hcn hnm hol
 cases b0 with
 |false=>
  have hnone:O=none:=by rw [HST.out];simp
  go_enter func148,ntmps148
  go_wp2_with (first
   |(go_at_call 155;(with_reducible refine (HO1.out _ (below3 w _ _ _)).mono ?_);rintro e w1 ⟨rfl,hB1⟩;obtain ⟨g0,g1,hH⟩:=heap3 hB1;have x0:=ZAB (i:=0) (v:=.slice sa sn sc) g0 rfl;have x1:=ZAB (i:=1) (v:=.slice ca cn cc) g0 rfl;have xc:=ZAB (i:=1) (v:=.int .i64 col) g1 rfl;clear g0 g1;obtain ⟨f0,f1,f2,f3⟩:=ZAD hH;have hBw:=(below3 w _ _ _).trans (hB1.mono (below3 w _ _ _).size)))
  refine bodyPost_ret (ZAF Tryz.results148 _ _ (w.heap.size+1+1) _ _ _ _ rfl (ZAd _ _ hH hBw (by omega)).1 Tryz.underlying146 rfl (by kernel_rfl)) rfl ?_
  exact ZBY hnone hH hBw (by omega) rfl
 |true=>
 cases b1 with
 |false=>
  have hnone:O=none:=by rw [HST.out];simp
  go_enter func148,ntmps148
  go_wp2_with (first
   |(go_at_call 155;(with_reducible refine (HO1.out _ (below3 w _ _ _)).mono ?_);rintro e w1 ⟨rfl,hB1⟩;obtain ⟨g0,g1,hH⟩:=heap3 hB1;have x0:=ZAB (i:=0) (v:=.slice sa sn sc) g0 rfl;have x1:=ZAB (i:=1) (v:=.slice ca cn cc) g0 rfl;have xc:=ZAB (i:=1) (v:=.int .i64 col) g1 rfl;clear g0 g1;obtain ⟨f0,f1,f2,f3⟩:=ZAD hH;have hBw:=(below3 w _ _ _).trans (hB1.mono (below3 w _ _ _).size))
   |(go_at_call 158;(with_reducible refine (HO2.out _).mono ?_);rintro e w2 ⟨rfl,hB2⟩;have x0:=ZAA hB2 x0;have x1:=ZAA hB2 x1;have xc:=ZAA hB2 xc;have hH:=(hB2.block _ (by have:=(ZZZ hH).1;omega)).trans hH;obtain ⟨f0,f1,f2,f3⟩:=ZAD hH;have hBw:=hBw.trans (hB2.mono hBw.size)))
  refine bodyPost_ret (ZAF Tryz.results148 _ _ (w.heap.size+1+1) _ _ _ _ rfl (ZAd _ _ hH hBw (by omega)).1 Tryz.underlying146 rfl (by kernel_rfl)) rfl ?_
  exact ZBY hnone hH hBw (by omega) rfl
 |true=>
 cases b2 with
 |true=>
  have hnone:O=none:=by rw [HST.out];simp
  go_enter func148,ntmps148
  go_wp2_with (first
   |(go_at_call 155;(with_reducible refine (HO1.out _ (below3 w _ _ _)).mono ?_);rintro e w1 ⟨rfl,hB1⟩;obtain ⟨g0,g1,hH⟩:=heap3 hB1;have x0:=ZAB (i:=0) (v:=.slice sa sn sc) g0 rfl;have x1:=ZAB (i:=1) (v:=.slice ca cn cc) g0 rfl;have xc:=ZAB (i:=1) (v:=.int .i64 col) g1 rfl;clear g0 g1;obtain ⟨f0,f1,f2,f3⟩:=ZAD hH;have hBw:=(below3 w _ _ _).trans (hB1.mono (below3 w _ _ _).size))
   |(go_at_call 158;(with_reducible refine (HO2.out _).mono ?_);rintro e w2 ⟨rfl,hB2⟩;have x0:=ZAA hB2 x0;have x1:=ZAA hB2 x1;have xc:=ZAA hB2 xc;have hH:=(hB2.block _ (by have:=(ZZZ hH).1;omega)).trans hH;obtain ⟨f0,f1,f2,f3⟩:=ZAD hH;have hBw:=hBw.trans (hB2.mono hBw.size)))
  refine bodyPost_ret (ZAF Tryz.results148 _ _ (w.heap.size+1+1) _ _ _ _ rfl (ZAd _ _ hH hBw (by omega)).1 Tryz.underlying146 rfl (by kernel_rfl)) rfl ?_
  exact ZBY hnone hH hBw (by omega) rfl
 |false=>
  have h01:=HE1.out
  unfold Sc.hasB at h01
  simp only [Bool.and_eq_true,decide_eq_true_eq] at h01
  obtain ⟨cI,rfl⟩:∃ cI:Nat,col=(cI:Int):=⟨col.toNat,by omega⟩
  have hcI:cI<x.cols.length:=by omega
  have hsome:O=some ⟨x.slots,x.cols.eraseIdx cI⟩:=by
   rw [HST.out]
   simp
  have h8:=HOK.out.len
  have hcc:=HV.out.2.2.1
  have hcc2:=HV.out.2.2.2.1
  unfold maxLen at hcc2
  rw [HCN.out] at hcI h8 hcc
  obtain ⟨a1,hs1,hr1⟩:=ZM1 ca cn cc cI (by omega) hcc
  obtain ⟨a2,hs2,hr2⟩:=ZOV ca cn cc (cI+1) (by omega)
  rw [show ((cI+1:Nat):Int)=(cI:Int)+1 by omega] at hs2
  have HR1:=ZZY hr1;have HR2:=ZZY hr2
  have HSO:=ZZY hsome
  have hwr:IntKind.i64.wrap ((cI:Int)+1)=(cI:Int)+1:=by
   have:=Sc.wrapI (cI+1) (by omega)
   rwa [show ((cI+1:Nat):Int)=(cI:Int)+1 by omega] at this
  have hC:=fun W (hb:Below w.heap.size w W) (g:Nat) (y0:W.cell? ⟨g,0,none⟩=some (.slice a1 cI cc)) (y1:W.cell? ⟨g,1,none⟩=some (.slice a2 (cn-(cI+1)) (cc-(cI+1))))=>
   show Calls Tryz.prog 157 #[.slice (some ⟨g,0,none⟩) 2 2] W (GotC 3 1 W (cn-1) (((x.cols.eraseIdx cI).map Int.ofNat).map (Value.int .i64))) from by
    have h:=ZFg [(a1,cI,cc,((x.cols.map Int.ofNat).take cI).map (Value.int .i64)),(a2,cn-(cI+1),cc-(cI+1),((x.cols.map Int.ofNat).drop (cI+1)).map (Value.int .i64))] g 2 2 W
     (rows2C y0 (ZCK (HR1.out W _ (by rw [←HCN.out];exact ZAk HV.out.2 hb rfl))) (ZM2 _) y1 (ZCK (HR2.out W _ (by rw [←HCN.out];exact ZAk HV.out.2 hb rfl))) (ZM2 _)) rfl (Nat.le_refl _) (by unfold maxLen;omega) (by simp only [numC];omega)
    rw [show numC [(a1,cI,cc,((x.cols.map Int.ofNat).take cI).map (Value.int .i64)),(a2,cn-(cI+1),cc-(cI+1),((x.cols.map Int.ofNat).drop (cI+1)).map (Value.int .i64))]=cn-1 by simp only [numC];omega,
     show catC [(a1,cI,cc,((x.cols.map Int.ofNat).take cI).map (Value.int .i64)),(a2,cn-(cI+1),cc-(cI+1),((x.cols.map Int.ofNat).drop (cI+1)).map (Value.int .i64))]=((x.cols.eraseIdx cI).map Int.ofNat).map (Value.int .i64) from ZOW _ _ _ _ _ _ _ _] at h
    exact h
  have HC:=ZZY hC
  clear hC hr1 hr2 hsome h01
  go_enter func148,ntmps148
  go_wp2_with (first
   |(go_at_call 155;(with_reducible refine (HO1.out _ (below3 w _ _ _)).mono ?_);rintro e w1 ⟨rfl,hB1⟩;obtain ⟨g0,g1,hH⟩:=heap3 hB1;have x0:=ZAB (i:=0) (v:=.slice sa sn sc) g0 rfl;have x1:=ZAB (i:=1) (v:=.slice ca cn cc) g0 rfl;have xc:=ZAB (i:=1) (v:=.int .i64 (cI:Int)) g1 rfl;clear g0 g1;obtain ⟨f0,f1,f2,f3⟩:=ZAD hH;have hBw:=(below3 w _ _ _).trans (hB1.mono (below3 w _ _ _).size))
   |(go_at_call 158;(with_reducible refine (HO2.out _).mono ?_);rintro e w2 ⟨rfl,hB2⟩;have x0:=ZAA hB2 x0;have x1:=ZAA hB2 x1;have xc:=ZAA hB2 xc;have hH:=(hB2.block _ (by have:=(ZZZ hH).1;omega)).trans hH;obtain ⟨f0,f1,f2,f3⟩:=ZAD hH;have hBw:=hBw.trans (hB2.mono hBw.size)))
  have h2:(w2.cell? ⟨w.heap.size,0,none⟩=some (.slice sa sn sc)∧w2.cell? ⟨w.heap.size,1,none⟩=some (.slice ca cn cc))∧w2.cell? ⟨w.heap.size+1,1,none⟩=some (.int .i64 (cI:Int)):=⟨⟨x0,x1⟩,xc⟩
  have hn2:=new2 w2 (.slice a1 cI cc) (.slice a2 (cn-(cI+1)) (cc-(cI+1))) 52 w2.heap.size rfl
  have hCC:=HC.out (w2.alloc (.cells #[.slice a1 cI cc,.slice a2 (cn-(cI+1)) (cc-(cI+1))] 52)).drew (hBw.alloc hBw.size _).drew w2.heap.size hn2.1 hn2.2
  clear hn2
  have hpr:w.heap.size≠w.heap.size+1+1:=by omega
  have hqr:w.heap.size+1≠w.heap.size+1+1:=by omega
  go_region_held3 (fun W=>(W.cell? ⟨w.heap.size,0,none⟩=some (.slice sa sn sc)∧W.cell? ⟨w.heap.size,1,none⟩=some (.slice ca cn cc))∧W.cell? ⟨w.heap.size+1,1,none⟩=some (.int .i64 (cI:Int))) (first | assumption | exact k3 h2 (ZAI _) | exact k3 (by assumption) hb9 | exact k3 (by assumption) ((Below.refl _ _).alloc (Nat.le_refl _) _) | exact k3 h2 ((Below.refl _ _).alloc (Nat.le_refl _) _).drew | exact k3s (k3 h2 (ZHG hb9)) hpr hqr) (first
   |(go_at_call 157;(with_reducible refine hCC.mono ?_);rintro e w9 ⟨v9,rfl,ho9,hb9⟩;obtain ⟨a9,c9,rfl⟩:=ZAe ho9;have hH9:=((ZHG hb9).block _ (ZZZ hH).1).trans hH;obtain ⟨f0,f1,f2,f3⟩:=ZAD hH9))
  have hA9:=ZHG hb9
  have hlt:=(ZZZ hH).1
  have hB9:=hBw.trans (hA9.mono hBw.size)
  go_wp2
  refine bodyPost_ret (ZAF Tryz.results148 _ _ (w.heap.size+1+1) _ _ _ _ rfl (ZAd _ _ hH9 hB9 (by omega)).1 Tryz.underlying146 rfl (by kernel_rfl)) rfl ?_
  have hout:=ZAd (.slice sa sn sc) (.slice a9 (cn-1) c9) hH9 hB9 (by omega)
  have hk1:=ZAJ w9 (w.heap.size+1+1) 0 (.slice sa sn sc)
  have hk2:=ZAJ (w9.setCell ⟨w.heap.size+1+1,0,none⟩ (.slice sa sn sc)) (w.heap.size+1+1) 1 (.slice a9 (cn-1) c9)
  have hz9:w2.heap.size≤(w2.alloc (.cells #[.slice a1 cI cc,.slice a2 (cn-(cI+1)) (cc-(cI+1))] 52)).drew.heap.size:=by simp<;>omega
  have q:=fun b e=>(ZAV ho9 b e).2
  have ho10:=ZAN (ZAN ho9 hk1 (fun b e1 e2=>by have:=q b e2;cases e1;omega)) hk2 (fun b e1 e2=>by have:=q b e2;cases e1;omega)
  rw [HSO.out]
  have hlen:(x.cols.eraseIdx cI).length=cn-1:=by rw [List.length_eraseIdx_of_lt (by rw [HCN.out];exact hcI),HCN.out]
  have hkp:=ZEN (.slice sa sn sc) (.slice a9 (cn-1) c9) HIN.out.below hH9 hB9 (by omega)
  have hwz:=HIN.out.below.size
  have hwz2:=hBw.size
  refine ⟨⟨.slice sa sn sc,.slice a9 (cn-1) c9,rfl, ?_,.inr ?_⟩,hout.2⟩
  ·have hvi:=(ZBW HIN.out.vin hkp).1
   rw [HSN.out] at hvi
   exact hvi
  ·rw [hlen]
   exact ZAH ho10 (by omega)
