/- The program's schema: widen. (Made by gen_spw.py.) -/
import Derived.Test.YtcjdfdfphbckaaaGreatMh20Regi
import Derived.BigQuiet
set_option linter.unusedVariables false
set_option linter.unusedSimpArgs false
set_option maxRecDepth 100000
set_option maxHeartbeats 64000000
open Go.Proofs.Tryz
namespace Go.Proofs.YtcjdfdfphbckaaaGreat
open Go.RowKit Go.Shelf
theorem ZMz (x:Sc.Ver) (s:StepM) (sa:Option Addr) (sc:Nat) (ca:Option Addr) (cc:Nat) (cs:List Value) (w0 w:World) (X:Value) (hk:s.kd=4) (hok:Sc.VerOk 16 x) (hin:StepIn w0 w x sa sc ca cc cs) (hs:ZA3 w s X) :
  Calls Tryz.prog 150 #[.agg #[.slice sa x.slots.length sc,.slice ca x.cols.length cc],X] w (ZCQ (Sc.step x s) w0 w):=by
 have hst:=Sc.step4 (x:=x) hk
 have HIN:=ZZY hin
 have hv:=hin.ver
 clear hin
 obtain ⟨k,n,tx,a,len,cap,oa,oc,rfl,hI1,hI2,hI3,hnm,hi,hr,ho⟩:=ZBF hs
 have h1:=fun W (hb:Below w.heap.size w W)=>ZEg s _ W _ _ (ZBB hb hs) (ZCJ W 0 s.col s.sl.ty ⟨#[]⟩ false ZB8 hI2 hI3 (Nat.zero_le _))
 have h2:=fun W=>ZG3 (.slice sa x.slots.length sc) ca x.cols.length cc s.col W
 have h3:=fun W=>ZE8 s.sl.ty W
 have hb1:=fun W=>ZLW s.sl.ty W
 have hb2:=fun W=>ZLX s.col s.sl.ty W
 obtain ⟨O,hO⟩:∃ O,Sc.step x s=O:=⟨_,rfl⟩
 rw [hO] at hst ⊢
 obtain ⟨b0,e0⟩:∃ b,onlyB s ⟨0,s.col,⟨⟨#[]⟩,s.sl.ty,false,Sc.nilV⟩,[]⟩=b:=⟨_,rfl⟩
 obtain ⟨b1,e1⟩:∃ b,Sc.hasB x s.col=b:=⟨_,rfl⟩
 obtain ⟨b2,e2⟩:∃ b,(decide (0<s.sl.ty) && decide (s.sl.ty<64))=b:=⟨_,rfl⟩
 obtain ⟨b3,e3⟩:∃ b,decide (Sc.oldTy x s.col ||| s.sl.ty.toNat=Sc.oldTy x s.col)=b:=⟨_,rfl⟩
 have e1':(decide (0≤s.col) && decide (s.col<(x.cols.length:Int)))=b1:=e1
 rw [e0] at h1 hst
 rw [e1'] at h2
 rw [e1] at hst
 rw [e2] at h3 hst
 rw [e3] at hst
 obtain ⟨kd,col,⟨nm,ty,rq,df⟩,od⟩:=s
 simp only at h1 h2 h3 hst e1 e2 e3 hI2 hnm hb1 hb2 ⊢
 have HO1:=ZZY h1;have HO2:=ZZY h2;have HO3:=ZZY h3
 have HST:=ZZY hst;have HE1:=ZZY e1;have HE2:=ZZY e2;have HE3:=ZZY e3;have HV:=ZZY hv;have HOK:=ZZY hok;have HNM:=ZZY hnm
 obtain ⟨sn,hsn⟩:∃ sn,x.slots.length=sn:=⟨_,rfl⟩
 obtain ⟨cn,hcn⟩:∃ cn,x.cols.length=cn:=⟨_,rfl⟩
 obtain ⟨ol,hol⟩:∃ ol,od.length=ol:=⟨_,rfl⟩
 rw [hsn,hcn] at HO2
 rw [hol] at HO1
 rw [hsn,hcn,hol]
 have HSN:=ZZY hsn;have HCN:=ZZY hcn
 clear h1 h2 h3 hst e0 e1 e1' e2 e3 hv hok hs hi hr ho hI1 hI2 hI3 hk hO hsn hcn hnm hol
 cases b0 with
 |false=>
  have hnone:O=none:=by rw [HST.out];simp
  go_enter func150,ntmps150
  go_wp2
  obtain ⟨W0,hW0⟩:∃ W0,(((w.alloc (.cells #[.slice sa sn sc,.slice ca cn cc] 146)).alloc (.cells #[.int .i64 kd,.int .i64 col,.string nm,.int .i64 ty,.bool rq,.int .i64 k,.int .i64 n,.string tx,.slice a len cap,.slice oa ol oc] 54)).alloc (.cells #[.slice none 0 0,.slice none 0 0] 146)).alloc (.cells #[.int .i64 ty] 3)=W0:=⟨_,rfl⟩
  have hq:=heap4 (Below.refl _ ((((w.alloc (.cells #[.slice sa sn sc,.slice ca cn cc] 146)).alloc (.cells #[.int .i64 kd,.int .i64 col,.string nm,.int .i64 ty,.bool rq,.int .i64 k,.int .i64 n,.string tx,.slice a len cap,.slice oa ol oc] 54)).alloc (.cells #[.slice none 0 0,.slice none 0 0] 146)).alloc (.cells #[.int .i64 ty] 3)))
  have hB0:=below4 w (.cells #[.slice sa sn sc,.slice ca cn cc] 146) (.cells #[.int .i64 kd,.int .i64 col,.string nm,.int .i64 ty,.bool rq,.int .i64 k,.int .i64 n,.string tx,.slice a len cap,.slice oa ol oc] 54) (.cells #[.slice none 0 0,.slice none 0 0] 146) (.cells #[.int .i64 ty] 3)
  rw [hW0] at hq hB0
  rw [hW0]
  clear hW0
  obtain ⟨g0,g1,hH,g3⟩:=hq
  have y0:=ZAB (i:=0) (v:=.slice sa sn sc) g0 rfl
  have y1:=ZAB (i:=1) (v:=.slice ca cn cc) g0 rfl
  have t0:=ZAB (i:=0) (v:=.int .i64 kd) g1 rfl
  have t1:=ZAB (i:=1) (v:=.int .i64 col) g1 rfl
  have t2:=ZAB (i:=2) (v:=.string nm) g1 rfl
  have t3:=ZAB (i:=3) (v:=.int .i64 ty) g1 rfl
  have t4:=ZAB (i:=4) (v:=.bool rq) g1 rfl
  have t5:=ZAB (i:=5) (v:=.int .i64 k) g1 rfl
  have t6:=ZAB (i:=6) (v:=.int .i64 n) g1 rfl
  have t7:=ZAB (i:=7) (v:=.string tx) g1 rfl
  have t8:=ZAB (i:=8) (v:=.slice a len cap) g1 rfl
  have t9:=ZAB (i:=9) (v:=.slice oa ol oc) g1 rfl
  have yn:=ZAB (i:=0) (v:=.int .i64 ty) g3 rfl
  refine wp_region_quiet (C:=fun W=>Below W0.heap.size W0 W) (by kernel_rfl) (by kernel_rfl) (ZAI W0) ?_
  iterate 36 (first
   |((with_reducible refine BigFrame.wpQuiet_skip ?_ ?_);(focus rfl);simp only [Act.put,ZZX,ZZW,ZZV])
   |((with_reducible refine BigFrame.wpQuiet_want ?_ (fun K hK=>?_))
     focus rfl
     apply ZAq
     ·intro W hC
      unfold Oper.quietAt
      have HC:=ZZY hC
      have x0:=ZAA hC y0
      have x1:=ZAA hC y1
      have s0:=ZAA hC t0
      have s1:=ZAA hC t1
      have s2:=ZAA hC t2
      have s3:=ZAA hC t3
      have s4:=ZAA hC t4
      have s5:=ZAA hC t5
      have s6:=ZAA hC t6
      have s7:=ZAA hC t7
      have s8:=ZAA hC t8
      have s9:=ZAA hC t9
      have xn:=ZAA hC yn
      clear hC
      go_simp
      first
       |done
       |with_reducible rfl
       |((with_reducible refine (HO1.out _ (hB0.trans (HC.out.mono hB0.size))).mono ?_);exact fun e w' ⟨he,hb⟩=>⟨he,HC.out.trans (hb.mono HC.out.size)⟩)
       |((with_reducible refine (HO2.out _).mono ?_);exact fun e w' ⟨he,hb⟩=>⟨he,HC.out.trans (hb.mono HC.out.size)⟩)
       |((with_reducible refine (HO3.out _).mono ?_);exact fun e w' ⟨he,hb⟩=>⟨he,hb ▸ HC.out⟩)
     (with_reducible refine hK _ ?_);clear hK K;simp only [Act.put,ZZX,ZZW,ZZV]))
  refine wpQuiet_nil ?_
  intro W9 hB9
  (try simp only at hB9)
  have hH9:=(hB9.block _ (ZZZ hH).1).trans hH
  have hBw:=hB0.trans (hB9.mono hB0.size)
  obtain ⟨f0,f1,f2,f3⟩:=ZAD hH9
  go_wp2
  refine bodyPost_ret (ZAF Tryz.results150 _ _ (w.heap.size+1+1) _ _ _ _ rfl (ZAd _ _ hH9 hBw (by omega)).1 Tryz.underlying146 rfl (by kernel_rfl)) rfl ?_
  exact ZBY hnone hH9 hBw (by omega) rfl
 |true=>
 cases b1 with
 |false=>
  have hnone:O=none:=by rw [HST.out];simp
  go_enter func150,ntmps150
  go_wp2
  obtain ⟨W0,hW0⟩:∃ W0,(((w.alloc (.cells #[.slice sa sn sc,.slice ca cn cc] 146)).alloc (.cells #[.int .i64 kd,.int .i64 col,.string nm,.int .i64 ty,.bool rq,.int .i64 k,.int .i64 n,.string tx,.slice a len cap,.slice oa ol oc] 54)).alloc (.cells #[.slice none 0 0,.slice none 0 0] 146)).alloc (.cells #[.int .i64 ty] 3)=W0:=⟨_,rfl⟩
  have hq:=heap4 (Below.refl _ ((((w.alloc (.cells #[.slice sa sn sc,.slice ca cn cc] 146)).alloc (.cells #[.int .i64 kd,.int .i64 col,.string nm,.int .i64 ty,.bool rq,.int .i64 k,.int .i64 n,.string tx,.slice a len cap,.slice oa ol oc] 54)).alloc (.cells #[.slice none 0 0,.slice none 0 0] 146)).alloc (.cells #[.int .i64 ty] 3)))
  have hB0:=below4 w (.cells #[.slice sa sn sc,.slice ca cn cc] 146) (.cells #[.int .i64 kd,.int .i64 col,.string nm,.int .i64 ty,.bool rq,.int .i64 k,.int .i64 n,.string tx,.slice a len cap,.slice oa ol oc] 54) (.cells #[.slice none 0 0,.slice none 0 0] 146) (.cells #[.int .i64 ty] 3)
  rw [hW0] at hq hB0
  rw [hW0]
  clear hW0
  obtain ⟨g0,g1,hH,g3⟩:=hq
  have y0:=ZAB (i:=0) (v:=.slice sa sn sc) g0 rfl
  have y1:=ZAB (i:=1) (v:=.slice ca cn cc) g0 rfl
  have t0:=ZAB (i:=0) (v:=.int .i64 kd) g1 rfl
  have t1:=ZAB (i:=1) (v:=.int .i64 col) g1 rfl
  have t2:=ZAB (i:=2) (v:=.string nm) g1 rfl
  have t3:=ZAB (i:=3) (v:=.int .i64 ty) g1 rfl
  have t4:=ZAB (i:=4) (v:=.bool rq) g1 rfl
  have t5:=ZAB (i:=5) (v:=.int .i64 k) g1 rfl
  have t6:=ZAB (i:=6) (v:=.int .i64 n) g1 rfl
  have t7:=ZAB (i:=7) (v:=.string tx) g1 rfl
  have t8:=ZAB (i:=8) (v:=.slice a len cap) g1 rfl
  have t9:=ZAB (i:=9) (v:=.slice oa ol oc) g1 rfl
  have yn:=ZAB (i:=0) (v:=.int .i64 ty) g3 rfl
  refine wp_region_quiet (C:=fun W=>Below W0.heap.size W0 W) (by kernel_rfl) (by kernel_rfl) (ZAI W0) ?_
  iterate 36 (first
   |((with_reducible refine BigFrame.wpQuiet_skip ?_ ?_);(focus rfl);simp only [Act.put,ZZX,ZZW,ZZV])
   |((with_reducible refine BigFrame.wpQuiet_want ?_ (fun K hK=>?_))
     focus rfl
     apply ZAq
     ·intro W hC
      unfold Oper.quietAt
      have HC:=ZZY hC
      have x0:=ZAA hC y0
      have x1:=ZAA hC y1
      have s0:=ZAA hC t0
      have s1:=ZAA hC t1
      have s2:=ZAA hC t2
      have s3:=ZAA hC t3
      have s4:=ZAA hC t4
      have s5:=ZAA hC t5
      have s6:=ZAA hC t6
      have s7:=ZAA hC t7
      have s8:=ZAA hC t8
      have s9:=ZAA hC t9
      have xn:=ZAA hC yn
      clear hC
      go_simp
      first
       |done
       |with_reducible rfl
       |((with_reducible refine (HO1.out _ (hB0.trans (HC.out.mono hB0.size))).mono ?_);exact fun e w' ⟨he,hb⟩=>⟨he,HC.out.trans (hb.mono HC.out.size)⟩)
       |((with_reducible refine (HO2.out _).mono ?_);exact fun e w' ⟨he,hb⟩=>⟨he,HC.out.trans (hb.mono HC.out.size)⟩)
       |((with_reducible refine (HO3.out _).mono ?_);exact fun e w' ⟨he,hb⟩=>⟨he,hb ▸ HC.out⟩)
     (with_reducible refine hK _ ?_);clear hK K;simp only [Act.put,ZZX,ZZW,ZZV]))
  refine wpQuiet_nil ?_
  intro W9 hB9
  (try simp only at hB9)
  have hH9:=(hB9.block _ (ZZZ hH).1).trans hH
  have hBw:=hB0.trans (hB9.mono hB0.size)
  obtain ⟨f0,f1,f2,f3⟩:=ZAD hH9
  go_wp2
  refine bodyPost_ret (ZAF Tryz.results150 _ _ (w.heap.size+1+1) _ _ _ _ rfl (ZAd _ _ hH9 hBw (by omega)).1 Tryz.underlying146 rfl (by kernel_rfl)) rfl ?_
  exact ZBY hnone hH9 hBw (by omega) rfl
 |true=>
 cases b2 with
 |false=>
  have hnone:O=none:=by rw [HST.out];simp
  go_enter func150,ntmps150
  go_wp2
  obtain ⟨W0,hW0⟩:∃ W0,(((w.alloc (.cells #[.slice sa sn sc,.slice ca cn cc] 146)).alloc (.cells #[.int .i64 kd,.int .i64 col,.string nm,.int .i64 ty,.bool rq,.int .i64 k,.int .i64 n,.string tx,.slice a len cap,.slice oa ol oc] 54)).alloc (.cells #[.slice none 0 0,.slice none 0 0] 146)).alloc (.cells #[.int .i64 ty] 3)=W0:=⟨_,rfl⟩
  have hq:=heap4 (Below.refl _ ((((w.alloc (.cells #[.slice sa sn sc,.slice ca cn cc] 146)).alloc (.cells #[.int .i64 kd,.int .i64 col,.string nm,.int .i64 ty,.bool rq,.int .i64 k,.int .i64 n,.string tx,.slice a len cap,.slice oa ol oc] 54)).alloc (.cells #[.slice none 0 0,.slice none 0 0] 146)).alloc (.cells #[.int .i64 ty] 3)))
  have hB0:=below4 w (.cells #[.slice sa sn sc,.slice ca cn cc] 146) (.cells #[.int .i64 kd,.int .i64 col,.string nm,.int .i64 ty,.bool rq,.int .i64 k,.int .i64 n,.string tx,.slice a len cap,.slice oa ol oc] 54) (.cells #[.slice none 0 0,.slice none 0 0] 146) (.cells #[.int .i64 ty] 3)
  rw [hW0] at hq hB0
  rw [hW0]
  clear hW0
  obtain ⟨g0,g1,hH,g3⟩:=hq
  have y0:=ZAB (i:=0) (v:=.slice sa sn sc) g0 rfl
  have y1:=ZAB (i:=1) (v:=.slice ca cn cc) g0 rfl
  have t0:=ZAB (i:=0) (v:=.int .i64 kd) g1 rfl
  have t1:=ZAB (i:=1) (v:=.int .i64 col) g1 rfl
  have t2:=ZAB (i:=2) (v:=.string nm) g1 rfl
  have t3:=ZAB (i:=3) (v:=.int .i64 ty) g1 rfl
  have t4:=ZAB (i:=4) (v:=.bool rq) g1 rfl
  have t5:=ZAB (i:=5) (v:=.int .i64 k) g1 rfl
  have t6:=ZAB (i:=6) (v:=.int .i64 n) g1 rfl
  have t7:=ZAB (i:=7) (v:=.string tx) g1 rfl
  have t8:=ZAB (i:=8) (v:=.slice a len cap) g1 rfl
  have t9:=ZAB (i:=9) (v:=.slice oa ol oc) g1 rfl
  have yn:=ZAB (i:=0) (v:=.int .i64 ty) g3 rfl
  refine wp_region_quiet (C:=fun W=>Below W0.heap.size W0 W) (by kernel_rfl) (by kernel_rfl) (ZAI W0) ?_
  iterate 36 (first
   |((with_reducible refine BigFrame.wpQuiet_skip ?_ ?_);(focus rfl);simp only [Act.put,ZZX,ZZW,ZZV])
   |((with_reducible refine BigFrame.wpQuiet_want ?_ (fun K hK=>?_))
     focus rfl
     apply ZAq
     ·intro W hC
      unfold Oper.quietAt
      have HC:=ZZY hC
      have x0:=ZAA hC y0
      have x1:=ZAA hC y1
      have s0:=ZAA hC t0
      have s1:=ZAA hC t1
      have s2:=ZAA hC t2
      have s3:=ZAA hC t3
      have s4:=ZAA hC t4
      have s5:=ZAA hC t5
      have s6:=ZAA hC t6
      have s7:=ZAA hC t7
      have s8:=ZAA hC t8
      have s9:=ZAA hC t9
      have xn:=ZAA hC yn
      clear hC
      go_simp
      first
       |done
       |with_reducible rfl
       |((with_reducible refine (HO1.out _ (hB0.trans (HC.out.mono hB0.size))).mono ?_);exact fun e w' ⟨he,hb⟩=>⟨he,HC.out.trans (hb.mono HC.out.size)⟩)
       |((with_reducible refine (HO2.out _).mono ?_);exact fun e w' ⟨he,hb⟩=>⟨he,HC.out.trans (hb.mono HC.out.size)⟩)
       |((with_reducible refine (HO3.out _).mono ?_);exact fun e w' ⟨he,hb⟩=>⟨he,hb ▸ HC.out⟩)
     (with_reducible refine hK _ ?_);clear hK K;simp only [Act.put,ZZX,ZZW,ZZV]))
  refine wpQuiet_nil ?_
  intro W9 hB9
  (try simp only at hB9)
  have hH9:=(hB9.block _ (ZZZ hH).1).trans hH
  have hBw:=hB0.trans (hB9.mono hB0.size)
  obtain ⟨f0,f1,f2,f3⟩:=ZAD hH9
  go_wp2
  refine bodyPost_ret (ZAF Tryz.results150 _ _ (w.heap.size+1+1) _ _ _ _ rfl (ZAd _ _ hH9 hBw (by omega)).1 Tryz.underlying146 rfl (by kernel_rfl)) rfl ?_
  exact ZBY hnone hH9 hBw (by omega) rfl
 |true=>
 cases b3 with
 |true=>
  have hnone:O=none:=by rw [HST.out];simp
  have h01:=HE1.out
  unfold Sc.hasB at h01
  simp only [Bool.and_eq_true,decide_eq_true_eq] at h01
  obtain ⟨cI,rfl⟩:∃ cI:Nat,col=(cI:Int):=⟨col.toNat,by omega⟩
  have hcI:cI<x.cols.length:=by omega
  obtain ⟨c,hc⟩:∃ c,x.cols[cI]? = some c:=⟨x.cols[cI],List.getElem?_eq_getElem hcI⟩
  have hcl:=HOK.out.lt c (List.mem_of_getElem? hc)
  obtain ⟨s0,hs0⟩:∃ s0,x.slots[c]? = some s0:=⟨x.slots[c],List.getElem?_eq_getElem hcl⟩
  have hsok:=HOK.out.ok s0 (List.mem_of_getElem? hs0)
  have hold:Sc.oldTy x (cI:Int)=s0.ty.toNat:=by
   unfold Sc.oldTy Sc.slotOf
   rw [Int.toNat_natCast,hc]
   simp only [Option.getD_some]
   rw [hs0]
   rfl
  have h02:=HE2.out
  simp only [Bool.and_eq_true,decide_eq_true_eq] at h02
  have h03:=HE3.out
  rw [hold] at h03
  obtain ⟨oN,hoN⟩:∃ oN:Nat,s0.ty=(oN:Int):=⟨s0.ty.toNat,by have:=hsok.1;omega⟩
  obtain ⟨tN,rfl⟩:∃ tN:Nat,ty=(tN:Int):=⟨ty.toNat,by omega⟩
  have ho64:oN<64:=by have:=hsok.2.1;omega
  have hbn:=Sc.bitsNot tN oN (by omega) ho64
  have hno:=Sc.not_or tN oN (by omega) ho64
  have hor:=Sc.orI' oN tN (by omega) (by omega)
  rw [hoN,Int.toNat_natCast,Int.toNat_natCast] at h03
  obtain ⟨Z,hZ⟩:∃ Z,bits .andNot .i64 (tN:Int) (oN:Int)=Z:=⟨_,rfl⟩
  have hZ0:(Z == 0)=true:=by
   rw [←hZ,hbn]
   rw [hno.2 (by simpa using h03)];rfl
  obtain ⟨cb,co,rfl,hcol⟩:∃ b off,ca=some ⟨b,off,none⟩∧∀ i,i<x.cols.length→w.cell? ⟨b,off+i,none⟩=some (.int .i64 ((x.cols.map Int.ofNat)[i]?.getD 0)):=by
   rcases HV.out.2.2.2.2 with h | h
   ·omega
   ·exact h
  obtain ⟨sb,so,rfl,hrow⟩:∃ b off,sa=some ⟨b,off,none⟩∧∀ i s,x.slots[i]? = some s→ZCS w b (off+i*7) s:=by
   rcases HV.out.1.2.2 with h | h
   ·rw [h] at hcl;simp at hcl
   ·exact h
  have z1:=hcol cI hcI
  rw [List.getElem?_map,hc] at z1
  simp only [Option.map_some,Option.getD_some,Int.ofNat_eq_natCast] at z1
  obtain ⟨_,_,_,_,_,_,_,⟨_,z2,_⟩,_,_,_,rfl,_⟩:=hrow c s0 hs0
  rw [hoN] at z2
  have hcc:=HV.out.2.2.1
  have hcc2:=HV.out.2.2.2.1
  have hss:=HV.out.1.1
  have hss2:=HV.out.1.2.1
  unfold maxLen at hcc2 hss2
  rw [HCN.out] at hcc hcI
  rw [HSN.out] at hcl hss
  have hd1:decide ((cI:Int)<(cn:Int))=true:=by simp;omega
  have hd2:decide ((c:Int)<(sn:Int))=true:=by simp;omega
  have HZZ:=ZZY hno;clear hno h02 h03 hold hs0 hsok hrow hcol hbn hor h01 hoN HE1 HE2 HE3
  clear hc
  go_enter func150,ntmps150
  go_wp2
  obtain ⟨W0,hW0⟩:∃ W0,(((w.alloc (.cells #[.slice (some ⟨sb,so,none⟩) sn sc,.slice (some ⟨cb,co,none⟩) cn cc] 146)).alloc (.cells #[.int .i64 kd,.int .i64 (cI:Int),.string nm,.int .i64 (tN:Int),.bool rq,.int .i64 k,.int .i64 n,.string tx,.slice a len cap,.slice oa ol oc] 54)).alloc (.cells #[.slice none 0 0,.slice none 0 0] 146)).alloc (.cells #[.int .i64 (tN:Int)] 3)=W0:=⟨_,rfl⟩
  have hq:=heap4 (Below.refl _ ((((w.alloc (.cells #[.slice (some ⟨sb,so,none⟩) sn sc,.slice (some ⟨cb,co,none⟩) cn cc] 146)).alloc (.cells #[.int .i64 kd,.int .i64 (cI:Int),.string nm,.int .i64 (tN:Int),.bool rq,.int .i64 k,.int .i64 n,.string tx,.slice a len cap,.slice oa ol oc] 54)).alloc (.cells #[.slice none 0 0,.slice none 0 0] 146)).alloc (.cells #[.int .i64 (tN:Int)] 3)))
  have hB0:=below4 w (.cells #[.slice (some ⟨sb,so,none⟩) sn sc,.slice (some ⟨cb,co,none⟩) cn cc] 146) (.cells #[.int .i64 kd,.int .i64 (cI:Int),.string nm,.int .i64 (tN:Int),.bool rq,.int .i64 k,.int .i64 n,.string tx,.slice a len cap,.slice oa ol oc] 54) (.cells #[.slice none 0 0,.slice none 0 0] 146) (.cells #[.int .i64 (tN:Int)] 3)
  rw [hW0] at hq hB0
  rw [hW0]
  clear hW0
  obtain ⟨g0,g1,hH,g3⟩:=hq
  have y0:=ZAB (i:=0) (v:=.slice (some ⟨sb,so,none⟩) sn sc) g0 rfl
  have y1:=ZAB (i:=1) (v:=.slice (some ⟨cb,co,none⟩) cn cc) g0 rfl
  have t0:=ZAB (i:=0) (v:=.int .i64 kd) g1 rfl
  have t1:=ZAB (i:=1) (v:=.int .i64 (cI:Int)) g1 rfl
  have t2:=ZAB (i:=2) (v:=.string nm) g1 rfl
  have t3:=ZAB (i:=3) (v:=.int .i64 (tN:Int)) g1 rfl
  have t4:=ZAB (i:=4) (v:=.bool rq) g1 rfl
  have t5:=ZAB (i:=5) (v:=.int .i64 k) g1 rfl
  have t6:=ZAB (i:=6) (v:=.int .i64 n) g1 rfl
  have t7:=ZAB (i:=7) (v:=.string tx) g1 rfl
  have t8:=ZAB (i:=8) (v:=.slice a len cap) g1 rfl
  have t9:=ZAB (i:=9) (v:=.slice oa ol oc) g1 rfl
  have yn:=ZAB (i:=0) (v:=.int .i64 (tN:Int)) g3 rfl
  have v1:=ZAA hB0 z1
  have v2:=ZAA hB0 z2
  refine wp_region_quiet (C:=fun W=>Below W0.heap.size W0 W) (by kernel_rfl) (by kernel_rfl) (ZAI W0) ?_
  iterate 36 (first
   |((with_reducible refine BigFrame.wpQuiet_skip ?_ ?_);(focus rfl);simp only [Act.put,ZZX,ZZW,ZZV])
   |((with_reducible refine BigFrame.wpQuiet_want ?_ (fun K hK=>?_))
     focus rfl
     apply ZAq
     ·intro W hC
      unfold Oper.quietAt
      have HC:=ZZY hC
      have x0:=ZAA hC y0
      have x1:=ZAA hC y1
      have s0:=ZAA hC t0
      have s1:=ZAA hC t1
      have s2:=ZAA hC t2
      have s3:=ZAA hC t3
      have s4:=ZAA hC t4
      have s5:=ZAA hC t5
      have s6:=ZAA hC t6
      have s7:=ZAA hC t7
      have s8:=ZAA hC t8
      have s9:=ZAA hC t9
      have xn:=ZAA hC yn
      have u1:=ZAA hC v1
      have u2:=ZAA hC v2
      clear hC
      go_simp
      first
       |done
       |with_reducible rfl
       |((with_reducible refine (HO1.out _ (hB0.trans (HC.out.mono hB0.size))).mono ?_);exact fun e w' ⟨he,hb⟩=>⟨he,HC.out.trans (hb.mono HC.out.size)⟩)
       |((with_reducible refine (HO2.out _).mono ?_);exact fun e w' ⟨he,hb⟩=>⟨he,HC.out.trans (hb.mono HC.out.size)⟩)
       |((with_reducible refine (HO3.out _).mono ?_);exact fun e w' ⟨he,hb⟩=>⟨he,hb ▸ HC.out⟩)
     (with_reducible refine hK _ ?_);clear hK K;simp only [Act.put,ZZX,ZZW,ZZV]))
  refine wpQuiet_nil ?_
  intro W9 hB9
  (try simp only at hB9)
  have hH9:=(hB9.block _ (ZZZ hH).1).trans hH
  have hBw:=hB0.trans (hB9.mono hB0.size)
  obtain ⟨f0,f1,f2,f3⟩:=ZAD hH9
  go_wp2
  refine bodyPost_ret (ZAF Tryz.results150 _ _ (w.heap.size+1+1) _ _ _ _ rfl (ZAd _ _ hH9 hBw (by omega)).1 Tryz.underlying146 rfl (by kernel_rfl)) rfl ?_
  exact ZBY hnone hH9 hBw (by omega) rfl
 |false=>
  have h01:=HE1.out
  unfold Sc.hasB at h01
  simp only [Bool.and_eq_true,decide_eq_true_eq] at h01
  obtain ⟨cI,rfl⟩:∃ cI:Nat,col=(cI:Int):=⟨col.toNat,by omega⟩
  have hcI:cI<x.cols.length:=by omega
  obtain ⟨c,hc⟩:∃ c,x.cols[cI]? = some c:=⟨x.cols[cI],List.getElem?_eq_getElem hcI⟩
  have hcl:=HOK.out.lt c (List.mem_of_getElem? hc)
  obtain ⟨s0,hs0⟩:∃ s0,x.slots[c]? = some s0:=⟨x.slots[c],List.getElem?_eq_getElem hcl⟩
  have hsok:=HOK.out.ok s0 (List.mem_of_getElem? hs0)
  have hold:Sc.oldTy x (cI:Int)=s0.ty.toNat:=by
   unfold Sc.oldTy Sc.slotOf
   rw [Int.toNat_natCast,hc]
   simp only [Option.getD_some]
   rw [hs0]
   rfl
  have h02:=HE2.out
  simp only [Bool.and_eq_true,decide_eq_true_eq] at h02
  have h03:=HE3.out
  rw [hold] at h03
  obtain ⟨oN,hoN⟩:∃ oN:Nat,s0.ty=(oN:Int):=⟨s0.ty.toNat,by have:=hsok.1;omega⟩
  obtain ⟨tN,rfl⟩:∃ tN:Nat,ty=(tN:Int):=⟨ty.toNat,by omega⟩
  have ho64:oN<64:=by have:=hsok.2.1;omega
  have hbn:=Sc.bitsNot tN oN (by omega) ho64
  have hno:=Sc.not_or tN oN (by omega) ho64
  have hor:=Sc.orI' oN tN (by omega) (by omega)
  rw [hoN,Int.toNat_natCast,Int.toNat_natCast] at h03
  obtain ⟨Z,hZ⟩:∃ Z,bits .andNot .i64 (tN:Int) (oN:Int)=Z:=⟨_,rfl⟩
  have hZ0:(Z == 0)=false:=by
   rw [←hZ,hbn]
   simp only [beq_eq_false_iff_ne,ne_eq];intro h;exact (by simpa using h03:¬_) (hno.1 (by omega))
  obtain ⟨cb,co,rfl,hcol⟩:∃ b off,ca=some ⟨b,off,none⟩∧∀ i,i<x.cols.length→w.cell? ⟨b,off+i,none⟩=some (.int .i64 ((x.cols.map Int.ofNat)[i]?.getD 0)):=by
   rcases HV.out.2.2.2.2 with h | h
   ·omega
   ·exact h
  obtain ⟨sb,so,rfl,hrow⟩:∃ b off,sa=some ⟨b,off,none⟩∧∀ i s,x.slots[i]? = some s→ZCS w b (off+i*7) s:=by
   rcases HV.out.1.2.2 with h | h
   ·rw [h] at hcl;simp at hcl
   ·exact h
  have z1:=hcol cI hcI
  rw [List.getElem?_map,hc] at z1
  simp only [Option.map_some,Option.getD_some,Int.ofNat_eq_natCast] at z1
  obtain ⟨_,_,_,_,_,_,_,⟨_,z2,_⟩,_,_,_,rfl,_⟩:=hrow c s0 hs0
  rw [hoN] at z2
  have hcc:=HV.out.2.2.1
  have hcc2:=HV.out.2.2.2.1
  have hss:=HV.out.1.1
  have hss2:=HV.out.1.2.1
  unfold maxLen at hcc2 hss2
  rw [HCN.out] at hcc hcI
  rw [HSN.out] at hcl hss
  have hd1:decide ((cI:Int)<(cn:Int))=true:=by simp;omega
  have hd2:decide ((c:Int)<(sn:Int))=true:=by simp;omega
  have hsome:O=some ⟨x.slots.modify c (fun t=>Sc.setTy t ((oN ||| tN:Nat):Int)),x.cols⟩:=by
   rw [HST.out,hold,hoN,Int.toNat_natCast,Int.toNat_natCast]
   simp [hc]
  have hT:=fun W (hb:Below w.heap.size w W) bn (hbn:W.cell? ⟨bn,0,none⟩=some (.int .i64 (tN:Int)))=>ZGN x (some ⟨sb,so,none⟩) sc (some ⟨cb,co,none⟩) cc cI c 1 (.int .i64 (oN:Int)) (.int .i64 ((oN ||| tN:Nat):Int)) 161 bn cs w0 W HOK.out HIN.out.sc (ZAs HIN.out.cells hb) (ZAk HV.out.2 hb rfl) hc (by omega) (by
    obtain ⟨c0,c1,_,_,_,_,_,⟨_,q1,_⟩,_,_,_,rfl,_⟩:=HIN.out.sc.2.2 c s0 hs0
    rw [←hoN]
    exact q1) (fun args w=>rfl) (fun W' g hb' h1 h2=>ZLT W' g (c*7) bn (oN:Int) (tN:Int) _ hor (ZAA hb' hbn) h1 h2)
  have h64:=Sc.small_or oN tN ho64 (by omega)
  have hI4:I64 ((oN ||| tN:Nat):Int):=⟨by omega,by omega⟩
  rw [HSN.out,HCN.out] at hT
  have HT:=ZZY hT
  have HSO:=ZZY hsome
  have HI4:=ZZY hI4
  clear hT hsome h64 hI4
  have HZZ:=ZZY hno;clear hno h02 h03 hold hs0 hsok hrow hcol hbn hor h01 hoN HE1 HE2 HE3
  clear hc
  go_enter func150,ntmps150
  go_wp2
  obtain ⟨W0,hW0⟩:∃ W0,(((w.alloc (.cells #[.slice (some ⟨sb,so,none⟩) sn sc,.slice (some ⟨cb,co,none⟩) cn cc] 146)).alloc (.cells #[.int .i64 kd,.int .i64 (cI:Int),.string nm,.int .i64 (tN:Int),.bool rq,.int .i64 k,.int .i64 n,.string tx,.slice a len cap,.slice oa ol oc] 54)).alloc (.cells #[.slice none 0 0,.slice none 0 0] 146)).alloc (.cells #[.int .i64 (tN:Int)] 3)=W0:=⟨_,rfl⟩
  have hq:=heap4 (Below.refl _ ((((w.alloc (.cells #[.slice (some ⟨sb,so,none⟩) sn sc,.slice (some ⟨cb,co,none⟩) cn cc] 146)).alloc (.cells #[.int .i64 kd,.int .i64 (cI:Int),.string nm,.int .i64 (tN:Int),.bool rq,.int .i64 k,.int .i64 n,.string tx,.slice a len cap,.slice oa ol oc] 54)).alloc (.cells #[.slice none 0 0,.slice none 0 0] 146)).alloc (.cells #[.int .i64 (tN:Int)] 3)))
  have hB0:=below4 w (.cells #[.slice (some ⟨sb,so,none⟩) sn sc,.slice (some ⟨cb,co,none⟩) cn cc] 146) (.cells #[.int .i64 kd,.int .i64 (cI:Int),.string nm,.int .i64 (tN:Int),.bool rq,.int .i64 k,.int .i64 n,.string tx,.slice a len cap,.slice oa ol oc] 54) (.cells #[.slice none 0 0,.slice none 0 0] 146) (.cells #[.int .i64 (tN:Int)] 3)
  rw [hW0] at hq hB0
  rw [hW0]
  clear hW0
  obtain ⟨g0,g1,hH,g3⟩:=hq
  have y0:=ZAB (i:=0) (v:=.slice (some ⟨sb,so,none⟩) sn sc) g0 rfl
  have y1:=ZAB (i:=1) (v:=.slice (some ⟨cb,co,none⟩) cn cc) g0 rfl
  have t0:=ZAB (i:=0) (v:=.int .i64 kd) g1 rfl
  have t1:=ZAB (i:=1) (v:=.int .i64 (cI:Int)) g1 rfl
  have t2:=ZAB (i:=2) (v:=.string nm) g1 rfl
  have t3:=ZAB (i:=3) (v:=.int .i64 (tN:Int)) g1 rfl
  have t4:=ZAB (i:=4) (v:=.bool rq) g1 rfl
  have t5:=ZAB (i:=5) (v:=.int .i64 k) g1 rfl
  have t6:=ZAB (i:=6) (v:=.int .i64 n) g1 rfl
  have t7:=ZAB (i:=7) (v:=.string tx) g1 rfl
  have t8:=ZAB (i:=8) (v:=.slice a len cap) g1 rfl
  have t9:=ZAB (i:=9) (v:=.slice oa ol oc) g1 rfl
  have yn:=ZAB (i:=0) (v:=.int .i64 (tN:Int)) g3 rfl
  have v1:=ZAA hB0 z1
  have v2:=ZAA hB0 z2
  refine wp_region_quiet (C:=fun W=>Below W0.heap.size W0 W) (by kernel_rfl) (by kernel_rfl) (ZAI W0) ?_
  iterate 36 (first
   |((with_reducible refine BigFrame.wpQuiet_skip ?_ ?_);(focus rfl);simp only [Act.put,ZZX,ZZW,ZZV])
   |((with_reducible refine BigFrame.wpQuiet_want ?_ (fun K hK=>?_))
     focus rfl
     apply ZAq
     ·intro W hC
      unfold Oper.quietAt
      have HC:=ZZY hC
      have x0:=ZAA hC y0
      have x1:=ZAA hC y1
      have s0:=ZAA hC t0
      have s1:=ZAA hC t1
      have s2:=ZAA hC t2
      have s3:=ZAA hC t3
      have s4:=ZAA hC t4
      have s5:=ZAA hC t5
      have s6:=ZAA hC t6
      have s7:=ZAA hC t7
      have s8:=ZAA hC t8
      have s9:=ZAA hC t9
      have xn:=ZAA hC yn
      have u1:=ZAA hC v1
      have u2:=ZAA hC v2
      clear hC
      go_simp
      first
       |done
       |with_reducible rfl
       |((with_reducible refine (HO1.out _ (hB0.trans (HC.out.mono hB0.size))).mono ?_);exact fun e w' ⟨he,hb⟩=>⟨he,HC.out.trans (hb.mono HC.out.size)⟩)
       |((with_reducible refine (HO2.out _).mono ?_);exact fun e w' ⟨he,hb⟩=>⟨he,HC.out.trans (hb.mono HC.out.size)⟩)
       |((with_reducible refine (HO3.out _).mono ?_);exact fun e w' ⟨he,hb⟩=>⟨he,hb ▸ HC.out⟩)
     (with_reducible refine hK _ ?_);clear hK K;simp only [Act.put,ZZX,ZZW,ZZV]))
  refine wpQuiet_nil ?_
  intro W9 hB9
  (try simp only at hB9)
  have hH9:=(hB9.block _ (ZZZ hH).1).trans hH
  have hBw:=hB0.trans (hB9.mono hB0.size)
  obtain ⟨f0,f1,f2,f3⟩:=ZAD hH9
  have x0:=ZAA hB9 y0
  have x1:=ZAA hB9 y1
  have xc:=ZAA hB9 t1
  have xn:=ZAA hB9 yn
  go_wp2_with (first
   |(go_at_call 159;(with_reducible refine (HT.out _ hBw _ xn).mono ?_);rintro e w5 ⟨⟨a5,cp5,rfl,ho5⟩,hB5⟩;have hrlt:=(ZZZ hH9).1;have hH9:=(hB5.block _ hrlt).trans hH9;obtain ⟨f0,f1,f2,f3⟩:=ZAD hH9;have hBw:=hBw.trans (hB5.mono hBw.size)))
  refine bodyPost_ret (ZAF Tryz.results150 _ _ (w.heap.size+1+1) _ _ _ _ rfl (ZAd _ _ hH9 hBw (by omega)).1 Tryz.underlying146 rfl (by kernel_rfl)) rfl ?_
  have hout:=ZAd (.slice a5 sn cp5) (.slice (some ⟨cb,co,none⟩) cn cc) hH9 hBw (by omega)
  have hk1:=ZAJ w5 (w.heap.size+1+1) 0 (.slice a5 sn cp5)
  have hk2:=ZAJ (w5.setCell ⟨w.heap.size+1+1,0,none⟩ (.slice a5 sn cp5)) (w.heap.size+1+1) 1 (.slice (some ⟨cb,co,none⟩) cn cc)
  have q:=fun b e=>(ZAV ho5 b e).2
  have ho6:=ZAN (ZAN ho5 hk1 (fun b e1 e2=>by have:=q b e2;cases e1;omega)) hk2 (fun b e1 e2=>by have:=q b e2;cases e1;omega)
  have hlm:(x.slots.modify c (fun t=>Sc.setTy t ((oN ||| tN:Nat):Int))).length=sn:=by rw [List.length_modify,HSN.out]
  rw [HSO.out]
  have hkp:=ZEN (.slice a5 sn cp5) (.slice (some ⟨cb,co,none⟩) cn cc) HIN.out.below hH9 hBw (by omega)
  have hwz:=HIN.out.below.size
  have hwz2:=hBw.size
  refine ⟨⟨.slice a5 sn cp5,.slice (some ⟨cb,co,none⟩) cn cc,rfl,.inr ⟨_, ?_,ZE7 HIN.out.sc c _ HI4.out⟩, ?_⟩,hout.2⟩
  ·rw [hlm]
   exact ZAH ho6 (by omega)
  ·have hvi:=(ZBW HIN.out.vin hkp).2
   rw [HCN.out] at hvi
   exact hvi
