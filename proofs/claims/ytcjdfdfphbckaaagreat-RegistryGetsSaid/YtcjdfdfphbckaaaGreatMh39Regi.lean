/- The document's step of layer 10: what a kind asks. (Made by gen_ref10g.py.) -/
import Derived.Test.YtcjdfdfphbckaaaGreatMh38Regi
import Derived.OrdersHeld
import Derived.RegionTactic
import Derived.Deep.RegionHeld
import Derived.Test.YtcjdfdfphbckaaaGreatMh16Regi
import Derived.Deep.RegionHeldLaw
set_option linter.unusedVariables false
set_option linter.unusedSimpArgs false
set_option maxRecDepth 100000
set_option maxHeartbeats 64000000
open Go.Proofs.Tryz
namespace Go.Proofs.YtcjdfdfphbckaaaGreat
open Go.RowKit Go.Shelf
theorem ZIe (x:Sc.Ver) (s:StepM) (sa:Option Addr) (sc:Nat) (ca:Option Addr) (cc:Nat) (w0 w:World) (T:Value) (hsl:x.slots.length≤100000) (hcl:x.cols.length≤100000) (hv:ZBq w0 w x sa sc ca cc) (hs0:ZBS w0 s T) (h0:Below w0.heap.size w0 w) (hk:s.kd=2) (hin:0≤s.col∧s.col<x.cols.length) (hre:Sc.rest s=true) (hco:x.cols.length<2) :
  Calls Tryz.prog 103 #[.agg #[.slice sa x.slots.length sc,.slice ca x.cols.length cc],T] w (ZAo w0 w x s):=by
 have hs:=ZAP h0 hs0
 have hC:=fun W (hb:Below w.heap.size w W)=>ZA2 x sa sc ca cc w0 w W hsl hcl hv hb
 have hR:=fun W (hb:Below w.heap.size w W)=>ZA0 s W T (ZAP hb hs)
 rw [hre] at hR
 obtain ⟨kd,col,sl,od⟩:=s
 obtain ⟨q2,q3,q4,q5,q6,q7,q8,oa,oc,rfl,hi1,hi2,h7,hod,_⟩:=hs
 simp only at hk hi1 hi2 hre hco hin h7 ⊢
 subst hk
 obtain ⟨hnm,hty,rfl,rfl,rfl,hdf⟩:=h7
 have hno:Sc.step x ⟨2,col,sl,od⟩=none:=by
  unfold Sc.step
  simp only
  rw [if_neg (by rw [hre];simp),if_neg (by decide),if_neg (by decide),if_neg (by omega),if_pos trivial,if_neg (by omega)]
 obtain ⟨Q,hQ⟩:∃ Q,ZAo w0 w x ⟨2,col,sl,od⟩=Q:=⟨_,rfl⟩
 have hq:∀ (a:Option Addr) (n c:Nat) (a':Option Addr) (n' c':Nat) (w':World),Below w.heap.size w w'→Q (.returned (.tuple #[.agg #[.slice a n c,.slice a' n' c'],.bool false])) w':=by
  intro a n c a' n' c' w' hb
  rw [←hQ];unfold ZAo;rw [hno];exact ⟨⟨a,n,c,a',n',c',rfl⟩,hb⟩
 have HQ:=ZZY hq
 clear hq
 rw [hQ]
 clear hQ hno hod
 have d4:decide (col<0)=false:=by simp;omega
 have d5:decide ((x.cols.length:Int)≤col)=false:=by simp;omega
 have d6:decide ((x.cols.length:Int)<2)=true:=by simp;omega
 clear hre hco
 have HV:=ZZY hv
 clear hv
 go_enter func103,ntmps103
 go_wp2_with (first
  |(go_at_call 115;(with_reducible refine (hC _ ?_).mono ?_);rotate_left;rintro e w1 ⟨⟨sv,cv,rfl,hvo⟩,hb1⟩;obtain ⟨a6,c6,a7,c7',rfl,rfl⟩:=ZBG hvo;obtain ⟨hP,hq2,hq3⟩:=ZBP w0 w w1 x sa sc ca cc _ _ _ _ _ hb1 hvo;have HP:=ZZY hP;clear hq2 hq3 hb1;obtain ⟨_,p2,_,p4,_⟩:=hP;obtain ⟨⟨y0,y1,y2,y3,y4⟩,y5,y6,y7,y8,y9⟩:=ZAS p2)
  |(go_at_call 116;(with_reducible refine (hR _ (ZAa HP.out)).mono ?_);rintro e w2 ⟨rfl,hb2⟩;have hP2:=ZAl HP.out hb2;have hE:=ZAu w w2 (w.heap.size+1+1) _ _ (.slice a6 x.slots.length c6) (.slice a7 x.cols.length c7') (ZAx hP2) (ZAa hP2) (by omega);have HE:=ZZY hE;clear hE hb2;obtain ⟨_,p2',p3,p4',_⟩:=hP2;obtain ⟨⟨z0,z1,z2,z3,z4⟩,z5,z6,z7,z8,z9⟩:=ZAS p2';obtain ⟨r0,r1,r2,r3⟩:=ZAD p3;obtain ⟨x0,x1,x2,x3⟩:=ZAD p4'))
 ·refine bodyPost_ret (ZAR Tryz.results103 _ _ (w.heap.size+1+1) _ _ _ _ rfl HE.out.1 Tryz.underlying128 rfl (by kernel_rfl)) rfl ?_
  exact HQ.out _ _ _ _ _ _ _ HE.out.2
 ·exact (((Below.refl _ w).alloc (Nat.le_refl _) _).alloc (by simp) _).alloc (by simp;omega) _
theorem ZIf (x:Sc.Ver) (s:StepM) (sa:Option Addr) (sc:Nat) (ca:Option Addr) (cc:Nat) (w0 w:World) (T:Value) (hsl:x.slots.length≤100000) (hcl:x.cols.length≤100000) (hv:ZBq w0 w x sa sc ca cc) (hs0:ZBS w0 s T) (h0:Below w0.heap.size w0 w) (hk:s.kd=4) (hin:0≤s.col∧s.col<x.cols.length) (hre:Sc.rest s=true) (hco:s.sl.ty<1) :
  Calls Tryz.prog 103 #[.agg #[.slice sa x.slots.length sc,.slice ca x.cols.length cc],T] w (ZAo w0 w x s):=by
 have hs:=ZAP h0 hs0
 have hC:=fun W (hb:Below w.heap.size w W)=>ZA2 x sa sc ca cc w0 w W hsl hcl hv hb
 have hR:=fun W (hb:Below w.heap.size w W)=>ZA0 s W T (ZAP hb hs)
 rw [hre] at hR
 obtain ⟨kd,col,sl,od⟩:=s
 obtain ⟨q2,q3,q4,q5,q6,q7,q8,oa,oc,rfl,hi1,hi2,h7,hod,_⟩:=hs
 simp only at hk hi1 hi2 hre hco hin h7 ⊢
 subst hk
 obtain ⟨hnm,hty,rfl,rfl,rfl,hdf⟩:=h7
 have hno:Sc.step x ⟨4,col,sl,od⟩=none:=by
  unfold Sc.step
  simp only
  rw [if_neg (by rw [hre];simp),if_neg (by decide),if_neg (by decide),if_neg (by omega),if_neg (by decide),if_neg (by decide),if_neg (by omega)]
 obtain ⟨Q,hQ⟩:∃ Q,ZAo w0 w x ⟨4,col,sl,od⟩=Q:=⟨_,rfl⟩
 have hq:∀ (a:Option Addr) (n c:Nat) (a':Option Addr) (n' c':Nat) (w':World),Below w.heap.size w w'→Q (.returned (.tuple #[.agg #[.slice a n c,.slice a' n' c'],.bool false])) w':=by
  intro a n c a' n' c' w' hb
  rw [←hQ];unfold ZAo;rw [hno];exact ⟨⟨a,n,c,a',n',c',rfl⟩,hb⟩
 have HQ:=ZZY hq
 clear hq
 rw [hQ]
 clear hQ hno hod
 have d4:decide (col<0)=false:=by simp;omega
 have d5:decide ((x.cols.length:Int)≤col)=false:=by simp;omega
 have d6:decide (sl.ty<1)=true:=by simp;omega
 clear hre hco
 have HV:=ZZY hv
 clear hv
 go_enter func103,ntmps103
 go_wp2_with (first
  |(go_at_call 115;(with_reducible refine (hC _ ?_).mono ?_);rotate_left;rintro e w1 ⟨⟨sv,cv,rfl,hvo⟩,hb1⟩;obtain ⟨a6,c6,a7,c7',rfl,rfl⟩:=ZBG hvo;obtain ⟨hP,hq2,hq3⟩:=ZBP w0 w w1 x sa sc ca cc _ _ _ _ _ hb1 hvo;have HP:=ZZY hP;clear hq2 hq3 hb1;obtain ⟨_,p2,_,p4,_⟩:=hP;obtain ⟨⟨y0,y1,y2,y3,y4⟩,y5,y6,y7,y8,y9⟩:=ZAS p2)
  |(go_at_call 116;(with_reducible refine (hR _ (ZAa HP.out)).mono ?_);rintro e w2 ⟨rfl,hb2⟩;have hP2:=ZAl HP.out hb2;have hE:=ZAu w w2 (w.heap.size+1+1) _ _ (.slice a6 x.slots.length c6) (.slice a7 x.cols.length c7') (ZAx hP2) (ZAa hP2) (by omega);have HE:=ZZY hE;clear hE hb2;obtain ⟨_,p2',p3,p4',_⟩:=hP2;obtain ⟨⟨z0,z1,z2,z3,z4⟩,z5,z6,z7,z8,z9⟩:=ZAS p2';obtain ⟨r0,r1,r2,r3⟩:=ZAD p3;obtain ⟨x0,x1,x2,x3⟩:=ZAD p4'))
 ·refine bodyPost_ret (ZAR Tryz.results103 _ _ (w.heap.size+1+1) _ _ _ _ rfl HE.out.1 Tryz.underlying128 rfl (by kernel_rfl)) rfl ?_
  exact HQ.out _ _ _ _ _ _ _ HE.out.2
 ·exact (((Below.refl _ w).alloc (Nat.le_refl _) _).alloc (by simp) _).alloc (by simp;omega) _
theorem ZHM (x:Sc.Ver) (s:StepM) (sa:Option Addr) (sc:Nat) (ca:Option Addr) (cc:Nat) (w0 w:World) (T:Value) (hsl:x.slots.length≤100000) (hcl:x.cols.length≤100000) (hv:ZBq w0 w x sa sc ca cc) (hs0:ZBS w0 s T) (h0:Below w0.heap.size w0 w) (hk:s.kd=4) (hin:0≤s.col∧s.col<x.cols.length) (hre:Sc.rest s=true) (hco:63<s.sl.ty) :
  Calls Tryz.prog 103 #[.agg #[.slice sa x.slots.length sc,.slice ca x.cols.length cc],T] w (ZAo w0 w x s):=by
 have hs:=ZAP h0 hs0
 have hC:=fun W (hb:Below w.heap.size w W)=>ZA2 x sa sc ca cc w0 w W hsl hcl hv hb
 have hR:=fun W (hb:Below w.heap.size w W)=>ZA0 s W T (ZAP hb hs)
 rw [hre] at hR
 obtain ⟨kd,col,sl,od⟩:=s
 obtain ⟨q2,q3,q4,q5,q6,q7,q8,oa,oc,rfl,hi1,hi2,h7,hod,_⟩:=hs
 simp only at hk hi1 hi2 hre hco hin h7 ⊢
 subst hk
 obtain ⟨hnm,hty,rfl,rfl,rfl,hdf⟩:=h7
 have hno:Sc.step x ⟨4,col,sl,od⟩=none:=by
  unfold Sc.step
  simp only
  rw [if_neg (by rw [hre];simp),if_neg (by decide),if_neg (by decide),if_neg (by omega),if_neg (by decide),if_neg (by decide),if_neg (by omega)]
 obtain ⟨Q,hQ⟩:∃ Q,ZAo w0 w x ⟨4,col,sl,od⟩=Q:=⟨_,rfl⟩
 have hq:∀ (a:Option Addr) (n c:Nat) (a':Option Addr) (n' c':Nat) (w':World),Below w.heap.size w w'→Q (.returned (.tuple #[.agg #[.slice a n c,.slice a' n' c'],.bool false])) w':=by
  intro a n c a' n' c' w' hb
  rw [←hQ];unfold ZAo;rw [hno];exact ⟨⟨a,n,c,a',n',c',rfl⟩,hb⟩
 have HQ:=ZZY hq
 clear hq
 rw [hQ]
 clear hQ hno hod
 have d4:decide (col<0)=false:=by simp;omega
 have d5:decide ((x.cols.length:Int)≤col)=false:=by simp;omega
 have d6:decide (sl.ty<1)=false:=by simp;omega
 have d7:decide (63<sl.ty)=true:=by simp;omega
 clear hre hco
 have HV:=ZZY hv
 clear hv
 go_enter func103,ntmps103
 go_wp2_with (first
  |(go_at_call 115;(with_reducible refine (hC _ ?_).mono ?_);rotate_left;rintro e w1 ⟨⟨sv,cv,rfl,hvo⟩,hb1⟩;obtain ⟨a6,c6,a7,c7',rfl,rfl⟩:=ZBG hvo;obtain ⟨hP,hq2,hq3⟩:=ZBP w0 w w1 x sa sc ca cc _ _ _ _ _ hb1 hvo;have HP:=ZZY hP;clear hq2 hq3 hb1;obtain ⟨_,p2,_,p4,_⟩:=hP;obtain ⟨⟨y0,y1,y2,y3,y4⟩,y5,y6,y7,y8,y9⟩:=ZAS p2)
  |(go_at_call 116;(with_reducible refine (hR _ (ZAa HP.out)).mono ?_);rintro e w2 ⟨rfl,hb2⟩;have hP2:=ZAl HP.out hb2;have hE:=ZAu w w2 (w.heap.size+1+1) _ _ (.slice a6 x.slots.length c6) (.slice a7 x.cols.length c7') (ZAx hP2) (ZAa hP2) (by omega);have HE:=ZZY hE;clear hE hb2;obtain ⟨_,p2',p3,p4',_⟩:=hP2;obtain ⟨⟨z0,z1,z2,z3,z4⟩,z5,z6,z7,z8,z9⟩:=ZAS p2';obtain ⟨r0,r1,r2,r3⟩:=ZAD p3;obtain ⟨x0,x1,x2,x3⟩:=ZAD p4'))
 ·refine bodyPost_ret (ZAR Tryz.results103 _ _ (w.heap.size+1+1) _ _ _ _ rfl HE.out.1 Tryz.underlying128 rfl (by kernel_rfl)) rfl ?_
  exact HQ.out _ _ _ _ _ _ _ HE.out.2
 ·exact (((Below.refl _ w).alloc (Nat.le_refl _) _).alloc (by simp) _).alloc (by simp;omega) _
theorem ZIg (x:Sc.Ver) (s:StepM) (sa:Option Addr) (sc:Nat) (ca:Option Addr) (cc:Nat) (w0 w:World) (T:Value) (hsl:x.slots.length≤100000) (hcl:x.cols.length≤100000) (hv:ZBq w0 w x sa sc ca cc) (hs0:ZBS w0 s T) (h0:Below w0.heap.size w0 w) (hk:s.kd=5) (hre:Sc.rest s=true) (hco:s.od.length≠x.cols.length) :
  Calls Tryz.prog 103 #[.agg #[.slice sa x.slots.length sc,.slice ca x.cols.length cc],T] w (ZAo w0 w x s):=by
 have hs:=ZAP h0 hs0
 have hC:=fun W (hb:Below w.heap.size w W)=>ZA2 x sa sc ca cc w0 w W hsl hcl hv hb
 have hR:=fun W (hb:Below w.heap.size w W)=>ZA0 s W T (ZAP hb hs)
 rw [hre] at hR
 obtain ⟨kd,col,sl,od⟩:=s
 obtain ⟨q2,q3,q4,q5,q6,q7,q8,oa,oc,rfl,hi1,hi2,h7,hod,_⟩:=hs
 simp only at hk hi1 hi2 hre hco h7 ⊢
 subst hk
 obtain ⟨hnm,hty,rfl,rfl,rfl,hdf⟩:=h7
 have hno:Sc.step x ⟨5,col,sl,od⟩=none:=by
  unfold Sc.step
  simp only
  rw [if_neg (by rw [hre];simp),if_neg (by decide),if_pos trivial,if_neg (fun h=>hco h.1)]
 obtain ⟨Q,hQ⟩:∃ Q,ZAo w0 w x ⟨5,col,sl,od⟩=Q:=⟨_,rfl⟩
 have hq:∀ (a:Option Addr) (n c:Nat) (a':Option Addr) (n' c':Nat) (w':World),Below w.heap.size w w'→Q (.returned (.tuple #[.agg #[.slice a n c,.slice a' n' c'],.bool false])) w':=by
  intro a n c a' n' c' w' hb
  rw [←hQ];unfold ZAo;rw [hno];exact ⟨⟨a,n,c,a',n',c',rfl⟩,hb⟩
 have HQ:=ZZY hq
 clear hq
 rw [hQ]
 clear hQ hno hod
 have d6:((od.length:Int) != (x.cols.length:Int))=true:=by simp;omega
 clear hre hco
 have HV:=ZZY hv
 clear hv
 go_enter func103,ntmps103
 go_wp2_with (first
  |(go_at_call 115;(with_reducible refine (hC _ ?_).mono ?_);rotate_left;rintro e w1 ⟨⟨sv,cv,rfl,hvo⟩,hb1⟩;obtain ⟨a6,c6,a7,c7',rfl,rfl⟩:=ZBG hvo;obtain ⟨hP,hq2,hq3⟩:=ZBP w0 w w1 x sa sc ca cc _ _ _ _ _ hb1 hvo;have HP:=ZZY hP;clear hq2 hq3 hb1;obtain ⟨_,p2,_,p4,_⟩:=hP;obtain ⟨⟨y0,y1,y2,y3,y4⟩,y5,y6,y7,y8,y9⟩:=ZAS p2)
  |(go_at_call 116;(with_reducible refine (hR _ (ZAa HP.out)).mono ?_);rintro e w2 ⟨rfl,hb2⟩;have hP2:=ZAl HP.out hb2;have hE:=ZAu w w2 (w.heap.size+1+1) _ _ (.slice a6 x.slots.length c6) (.slice a7 x.cols.length c7') (ZAx hP2) (ZAa hP2) (by omega);have HE:=ZZY hE;clear hE hb2;obtain ⟨_,p2',p3,p4',_⟩:=hP2;obtain ⟨⟨z0,z1,z2,z3,z4⟩,z5,z6,z7,z8,z9⟩:=ZAS p2';obtain ⟨r0,r1,r2,r3⟩:=ZAD p3;obtain ⟨x0,x1,x2,x3⟩:=ZAD p4'))
 ·refine bodyPost_ret (ZAR Tryz.results103 _ _ (w.heap.size+1+1) _ _ _ _ rfl HE.out.1 Tryz.underlying128 rfl (by kernel_rfl)) rfl ?_
  exact HQ.out _ _ _ _ _ _ _ HE.out.2
 ·exact (((Below.refl _ w).alloc (Nat.le_refl _) _).alloc (by simp) _).alloc (by simp;omega) _
theorem ZHN (x:Sc.Ver) (s:StepM) (sa:Option Addr) (sc:Nat) (ca:Option Addr) (cc:Nat) (w0 w:World) (T:Value) (hsl:x.slots.length≤100000) (hcl:x.cols.length≤100000) (hv:ZBq w0 w x sa sc ca cc) (hs0:ZBS w0 s T) (h0:Below w0.heap.size w0 w) (hk:s.kd=1) (hre:Sc.rest s=true) (hco:7<x.cols.length) :
  Calls Tryz.prog 103 #[.agg #[.slice sa x.slots.length sc,.slice ca x.cols.length cc],T] w (ZAo w0 w x s):=by
 have hs:=ZAP h0 hs0
 have hC:=fun W (hb:Below w.heap.size w W)=>ZA2 x sa sc ca cc w0 w W hsl hcl hv hb
 have hR:=fun W (hb:Below w.heap.size w W)=>ZA0 s W T (ZAP hb hs)
 rw [hre] at hR
 obtain ⟨kd,col,sl,od⟩:=s
 obtain ⟨q2,q3,q4,q5,q6,q7,q8,oa,oc,rfl,hi1,hi2,h7,hod,_⟩:=hs
 simp only at hk hi1 hi2 hre hco h7 ⊢
 subst hk
 obtain ⟨hnm,hty,rfl,rfl,rfl,hdf⟩:=h7
 have hno:Sc.step x ⟨1,col,sl,od⟩=none:=by
  unfold Sc.step
  simp only
  rw [if_neg (by rw [hre];simp),if_pos trivial,if_neg (fun h=>by have:=h.1;omega)]
 obtain ⟨Q,hQ⟩:∃ Q,ZAo w0 w x ⟨1,col,sl,od⟩=Q:=⟨_,rfl⟩
 have hq:∀ (a:Option Addr) (n c:Nat) (a':Option Addr) (n' c':Nat) (w':World),Below w.heap.size w w'→Q (.returned (.tuple #[.agg #[.slice a n c,.slice a' n' c'],.bool false])) w':=by
  intro a n c a' n' c' w' hb
  rw [←hQ];unfold ZAo;rw [hno];exact ⟨⟨a,n,c,a',n',c',rfl⟩,hb⟩
 have HQ:=ZZY hq
 clear hq
 rw [hQ]
 clear hQ hno hod
 have d6:decide (7<(x.cols.length:Int))=true:=by simp;omega
 clear hre hco
 have HV:=ZZY hv
 clear hv
 go_enter func103,ntmps103
 go_wp2_with (first
  |(go_at_call 115;(with_reducible refine (hC _ ?_).mono ?_);rotate_left;rintro e w1 ⟨⟨sv,cv,rfl,hvo⟩,hb1⟩;obtain ⟨a6,c6,a7,c7',rfl,rfl⟩:=ZBG hvo;obtain ⟨hP,hq2,hq3⟩:=ZBP w0 w w1 x sa sc ca cc _ _ _ _ _ hb1 hvo;have HP:=ZZY hP;clear hq2 hq3 hb1;obtain ⟨_,p2,_,p4,_⟩:=hP;obtain ⟨⟨y0,y1,y2,y3,y4⟩,y5,y6,y7,y8,y9⟩:=ZAS p2)
  |(go_at_call 116;(with_reducible refine (hR _ (ZAa HP.out)).mono ?_);rintro e w2 ⟨rfl,hb2⟩;have hP2:=ZAl HP.out hb2;have hE:=ZAu w w2 (w.heap.size+1+1) _ _ (.slice a6 x.slots.length c6) (.slice a7 x.cols.length c7') (ZAx hP2) (ZAa hP2) (by omega);have HE:=ZZY hE;clear hE hb2;obtain ⟨_,p2',p3,p4',_⟩:=hP2;obtain ⟨⟨z0,z1,z2,z3,z4⟩,z5,z6,z7,z8,z9⟩:=ZAS p2';obtain ⟨r0,r1,r2,r3⟩:=ZAD p3;obtain ⟨x0,x1,x2,x3⟩:=ZAD p4'))
 ·refine bodyPost_ret (ZAR Tryz.results103 _ _ (w.heap.size+1+1) _ _ _ _ rfl HE.out.1 Tryz.underlying128 rfl (by kernel_rfl)) rfl ?_
  exact HQ.out _ _ _ _ _ _ _ HE.out.2
 ·exact (((Below.refl _ w).alloc (Nat.le_refl _) _).alloc (by simp) _).alloc (by simp;omega) _
open Go.RowKit Go.Shelf
theorem ZIh (x:Sc.Ver) (s:StepM) (sa:Option Addr) (sc:Nat) (ca:Option Addr) (cc:Nat) (w0 w:World) (T:Value) (hsl:x.slots.length≤100000) (hcl:x.cols.length≤100000) (hv:ZBq w0 w x sa sc ca cc) (hs0:ZBS w0 s T) (h0:Below w0.heap.size w0 w) (hk:s.kd=1) (hre:Sc.rest s=true) (hsz:szV s.sl.df≤1000000) (hlen:x.cols.length≤7) (hso:Sc.sound s.sl=false) :
  Calls Tryz.prog 103 #[.agg #[.slice sa x.slots.length sc,.slice ca x.cols.length cc],T] w (ZAo w0 w x s):=by
 have hs:=ZAP h0 hs0
 have hC:=fun W (hb:Below w.heap.size w W)=>ZA2 x sa sc ca cc w0 w W hsl hcl hv hb
 have hR:=fun W (hb:Below w.heap.size w W)=>ZA0 s W T (ZAP hb hs)
 rw [hre] at hR
 obtain ⟨kd,col,sl,od⟩:=s
 obtain ⟨q2,q3,q4,q5,q6,q7,q8,oa,oc,rfl,hi1,hi2,h7,hod,_⟩:=hs
 simp only at hk hi1 hi2 hre hsz hlen hso h7 ⊢
 subst hk
 have hSo:=fun W (hb:Below w.heap.size w W)=>ZCd sl hsz W _ (ZAn hb ⟨_,_,_,_,_,_,_,rfl,h7⟩)
 rw [hso] at hSo
 obtain ⟨hnm,hty,rfl,rfl,rfl,hdf⟩:=h7
 have hno:Sc.step x ⟨1,col,sl,od⟩=none:=by
  unfold Sc.step
  simp only
  rw [if_neg (by rw [hre];simp),if_pos trivial,if_neg (fun h=>by have:=h.2.1;rw [hso] at this;cases this)]
 obtain ⟨Q,hQ⟩:∃ Q,ZAo w0 w x ⟨1,col,sl,od⟩=Q:=⟨_,rfl⟩
 have hq:∀ (a:Option Addr) (n c:Nat) (a':Option Addr) (n' c':Nat) (w':World),Below w.heap.size w w'→Q (.returned (.tuple #[.agg #[.slice a n c,.slice a' n' c'],.bool false])) w':=by
  intro a n c a' n' c' w' hb
  rw [←hQ];unfold ZAo;rw [hno];exact ⟨⟨a,n,c,a',n',c',rfl⟩,hb⟩
 have HQ:=ZZY hq
 clear hq
 rw [hQ]
 clear hQ hno hod
 have d6:decide (7<(x.cols.length:Int))=false:=by simp;omega
 clear hre hsz hlen hso
 have HV:=ZZY hv
 clear hv
 go_enter func103,ntmps103
 go_wp2_with (first
  |(go_at_call 115;(with_reducible refine (hC _ ?_).mono ?_);rotate_left;rintro e w1 ⟨⟨sv,cv,rfl,hvo⟩,hb1⟩;obtain ⟨a6,c6,a7,c7',rfl,rfl⟩:=ZBG hvo;obtain ⟨hP,hq2,hq3⟩:=ZBP w0 w w1 x sa sc ca cc _ _ _ _ _ hb1 hvo;have HP:=ZZY hP;clear hq2 hq3 hb1;obtain ⟨_,p2,_,p4,_⟩:=hP;obtain ⟨⟨y0,y1,y2,y3,y4⟩,y5,y6,y7,y8,y9⟩:=ZAS p2)
  |(go_at_call 116;(with_reducible refine (hR _ (ZAa HP.out)).mono ?_);rintro e w2 ⟨rfl,hb2⟩;have HP2:=ZZY (ZAl HP.out hb2);have HE:=ZZY (ZAu w w2 (w.heap.size+1+1) _ _ (.slice a6 x.slots.length c6) (.slice a7 x.cols.length c7') (ZAx HP2.out) (ZAa HP2.out) (by omega));clear hb2;have hP2:=HP2.out;obtain ⟨_,p2',p3,p4',_⟩:=hP2;obtain ⟨⟨z0,z1,z2,z3,z4⟩,z5,z6,z7,z8,z9⟩:=ZAS p2';obtain ⟨r0,r1,r2,r3⟩:=ZAD p3;obtain ⟨x0,x1,x2,x3⟩:=ZAD p4')
  |(go_at_call 101;(with_reducible refine (hSo _ (ZAa HP2.out)).mono ?_);rintro e w3 ⟨rfl,hb3⟩;have HP3:=ZZY (ZAl HP2.out hb3);have HE:=ZZY (ZAu w w3 (w.heap.size+1+1) _ _ (.slice a6 x.slots.length c6) (.slice a7 x.cols.length c7') (ZAx HP3.out) (ZAa HP3.out) (by omega));clear hb3;have hP3:=HP3.out;obtain ⟨_,p2',p3,p4',_⟩:=hP3;obtain ⟨⟨z0,z1,z2,z3,z4⟩,z5,z6,z7,z8,z9⟩:=ZAS p2';obtain ⟨r0,r1,r2,r3⟩:=ZAD p3;obtain ⟨x0,x1,x2,x3⟩:=ZAD p4'))
 ·refine bodyPost_ret (ZAR Tryz.results103 _ _ (w.heap.size+1+1) _ _ _ _ rfl HE.out.1 Tryz.underlying128 rfl (by kernel_rfl)) rfl ?_
  exact HQ.out _ _ _ _ _ _ _ HE.out.2
 ·exact (((Below.refl _ w).alloc (Nat.le_refl _) _).alloc (by simp) _).alloc (by simp;omega) _
theorem ZIi (x:Sc.Ver) (s:StepM) (sa:Option Addr) (sc:Nat) (ca:Option Addr) (cc:Nat) (w0 w:World) (T:Value) (hsl:x.slots.length≤100000) (hcl:x.cols.length≤100000) (hv:ZBq w0 w x sa sc ca cc) (hs0:ZBS w0 s T) (h0:Below w0.heap.size w0 w) (hk:s.kd=1) (hre:Sc.rest s=true) (hsz:szV s.sl.df≤1000000) (hlen:x.cols.length≤7) (hso:Sc.sound s.sl=true) (hrq:s.sl.rq=true) :
  Calls Tryz.prog 103 #[.agg #[.slice sa x.slots.length sc,.slice ca x.cols.length cc],T] w (ZAo w0 w x s):=by
 have hs:=ZAP h0 hs0
 have hC:=fun W (hb:Below w.heap.size w W)=>ZA2 x sa sc ca cc w0 w W hsl hcl hv hb
 have hR:=fun W (hb:Below w.heap.size w W)=>ZA0 s W T (ZAP hb hs)
 rw [hre] at hR
 obtain ⟨kd,col,sl,od⟩:=s
 obtain ⟨q2,q3,q4,q5,q6,q7,q8,oa,oc,rfl,hi1,hi2,h7,hod,_⟩:=hs
 simp only at hk hi1 hi2 hre hsz hlen hso hrq h7 ⊢
 subst hk
 have hSo:=fun W (hb:Below w.heap.size w W)=>ZCd sl hsz W _ (ZAn hb ⟨_,_,_,_,_,_,_,rfl,h7⟩)
 rw [hso] at hSo
 obtain ⟨hnm,hty,rfl,rfl,rfl,hdf⟩:=h7
 have hno:Sc.step x ⟨1,col,sl,od⟩=none:=by
  unfold Sc.step
  simp only
  rw [if_neg (by rw [hre];simp),if_pos trivial,if_neg (fun h=>by have:=h.2.2.1;rw [hrq] at this;cases this)]
 obtain ⟨Q,hQ⟩:∃ Q,ZAo w0 w x ⟨1,col,sl,od⟩=Q:=⟨_,rfl⟩
 have hq:∀ (a:Option Addr) (n c:Nat) (a':Option Addr) (n' c':Nat) (w':World),Below w.heap.size w w'→Q (.returned (.tuple #[.agg #[.slice a n c,.slice a' n' c'],.bool false])) w':=by
  intro a n c a' n' c' w' hb
  rw [←hQ];unfold ZAo;rw [hno];exact ⟨⟨a,n,c,a',n',c',rfl⟩,hb⟩
 have HQ:=ZZY hq
 clear hq
 rw [hQ]
 clear hQ hno hod
 have d6:decide (7<(x.cols.length:Int))=false:=by simp;omega
 simp only [hrq] at hR hSo ⊢
 clear hre hsz hlen hso hrq
 have HV:=ZZY hv
 clear hv
 go_enter func103,ntmps103
 go_wp2_with (first
  |(go_at_call 115;(with_reducible refine (hC _ ?_).mono ?_);rotate_left;rintro e w1 ⟨⟨sv,cv,rfl,hvo⟩,hb1⟩;obtain ⟨a6,c6,a7,c7',rfl,rfl⟩:=ZBG hvo;obtain ⟨hP,hq2,hq3⟩:=ZBP w0 w w1 x sa sc ca cc _ _ _ _ _ hb1 hvo;have HP:=ZZY hP;clear hq2 hq3 hb1;obtain ⟨_,p2,_,p4,_⟩:=hP;obtain ⟨⟨y0,y1,y2,y3,y4⟩,y5,y6,y7,y8,y9⟩:=ZAS p2)
  |(go_at_call 116;(with_reducible refine (hR _ (ZAa HP.out)).mono ?_);rintro e w2 ⟨rfl,hb2⟩;have HP2:=ZZY (ZAl HP.out hb2);have HE:=ZZY (ZAu w w2 (w.heap.size+1+1) _ _ (.slice a6 x.slots.length c6) (.slice a7 x.cols.length c7') (ZAx HP2.out) (ZAa HP2.out) (by omega));clear hb2;have hP2:=HP2.out;obtain ⟨_,p2',p3,p4',_⟩:=hP2;obtain ⟨⟨z0,z1,z2,z3,z4⟩,z5,z6,z7,z8,z9⟩:=ZAS p2';obtain ⟨r0,r1,r2,r3⟩:=ZAD p3;obtain ⟨x0,x1,x2,x3⟩:=ZAD p4')
  |(go_at_call 101;(with_reducible refine (hSo _ (ZAa HP2.out)).mono ?_);rintro e w3 ⟨rfl,hb3⟩;have HP3:=ZZY (ZAl HP2.out hb3);have HE:=ZZY (ZAu w w3 (w.heap.size+1+1) _ _ (.slice a6 x.slots.length c6) (.slice a7 x.cols.length c7') (ZAx HP3.out) (ZAa HP3.out) (by omega));clear hb3;have hP3:=HP3.out;obtain ⟨_,p2',p3,p4',_⟩:=hP3;obtain ⟨⟨z0,z1,z2,z3,z4⟩,z5,z6,z7,z8,z9⟩:=ZAS p2';obtain ⟨r0,r1,r2,r3⟩:=ZAD p3;obtain ⟨x0,x1,x2,x3⟩:=ZAD p4'))
 ·refine bodyPost_ret (ZAR Tryz.results103 _ _ (w.heap.size+1+1) _ _ _ _ rfl HE.out.1 Tryz.underlying128 rfl (by kernel_rfl)) rfl ?_
  exact HQ.out _ _ _ _ _ _ _ HE.out.2
 ·exact (((Below.refl _ w).alloc (Nat.le_refl _) _).alloc (by simp) _).alloc (by simp;omega) _
theorem ZHO (x:Sc.Ver) (s:StepM) (sa:Option Addr) (sc:Nat) (ca:Option Addr) (cc:Nat) (w0 w:World) (T:Value) (hsl:x.slots.length≤100000) (hcl:x.cols.length≤100000) (hv:ZBq w0 w x sa sc ca cc) (hs0:ZBS w0 s T) (h0:Below w0.heap.size w0 w) (hk:s.kd=3) (hin:0≤s.col∧s.col<x.cols.length) (hre:Sc.rest s=true) (hnb:nameB (strB s.sl.nm)=false) :
  Calls Tryz.prog 103 #[.agg #[.slice sa x.slots.length sc,.slice ca x.cols.length cc],T] w (ZAo w0 w x s):=by
 have hs:=ZAP h0 hs0
 have hC:=fun W (hb:Below w.heap.size w W)=>ZA2 x sa sc ca cc w0 w W hsl hcl hv hb
 have hR:=fun W (hb:Below w.heap.size w W)=>ZA0 s W T (ZAP hb hs)
 rw [hre] at hR
 obtain ⟨kd,col,sl,od⟩:=s
 obtain ⟨q2,q3,q4,q5,q6,q7,q8,oa,oc,rfl,hi1,hi2,h7,hod,_⟩:=hs
 simp only at hk hi1 hi2 hre hnb hin h7 ⊢
 subst hk
 have hN:=fun W=>ZCA sl.nm W h7.1
 rw [hnb] at hN
 obtain ⟨hnm,hty,rfl,rfl,rfl,hdf⟩:=h7
 have hno:Sc.step x ⟨3,col,sl,od⟩=none:=by
  unfold Sc.step
  simp only
  rw [if_neg (by rw [hre];simp),if_neg (by decide),if_neg (by decide),if_neg (by omega),if_neg (by decide),if_pos trivial,if_neg (fun h=>by have:=h.1;rw [hnb] at this;cases this)]
 obtain ⟨Q,hQ⟩:∃ Q,ZAo w0 w x ⟨3,col,sl,od⟩=Q:=⟨_,rfl⟩
 have hq:∀ (a:Option Addr) (n c:Nat) (a':Option Addr) (n' c':Nat) (w':World),Below w.heap.size w w'→Q (.returned (.tuple #[.agg #[.slice a n c,.slice a' n' c'],.bool false])) w':=by
  intro a n c a' n' c' w' hb
  rw [←hQ];unfold ZAo;rw [hno];exact ⟨⟨a,n,c,a',n',c',rfl⟩,hb⟩
 have HQ:=ZZY hq
 clear hq
 rw [hQ]
 clear hQ hno hod
 have d4:decide (col<0)=false:=by simp;omega
 have d5:decide ((x.cols.length:Int)≤col)=false:=by simp;omega
 clear hre hnb
 have HV:=ZZY hv
 clear hv
 go_enter func103,ntmps103
 go_wp2_with (first
  |(go_at_call 115;(with_reducible refine (hC _ ?_).mono ?_);rotate_left;rintro e w1 ⟨⟨sv,cv,rfl,hvo⟩,hb1⟩;obtain ⟨a6,c6,a7,c7',rfl,rfl⟩:=ZBG hvo;obtain ⟨hP,hq2,hq3⟩:=ZBP w0 w w1 x sa sc ca cc _ _ _ _ _ hb1 hvo;have HP:=ZZY hP;clear hq2 hq3 hb1;obtain ⟨_,p2,_,p4,_⟩:=hP;obtain ⟨⟨y0,y1,y2,y3,y4⟩,y5,y6,y7,y8,y9⟩:=ZAS p2)
  |(go_at_call 116;(with_reducible refine (hR _ (ZAa HP.out)).mono ?_);rintro e w2 ⟨rfl,hb2⟩;have HP2:=ZZY (ZAl HP.out hb2);have HE:=ZZY (ZAu w w2 (w.heap.size+1+1) _ _ (.slice a6 x.slots.length c6) (.slice a7 x.cols.length c7') (ZAx HP2.out) (ZAa HP2.out) (by omega));clear hb2;have hP2:=HP2.out;obtain ⟨_,p2',p3,p4',_⟩:=hP2;obtain ⟨⟨z0,z1,z2,z3,z4⟩,z5,z6,z7,z8,z9⟩:=ZAS p2';obtain ⟨r0,r1,r2,r3⟩:=ZAD p3;obtain ⟨x0,x1,x2,x3⟩:=ZAD p4')
  |(go_at_call 100;(with_reducible refine (hN _).mono ?_);rintro e w3 ⟨rfl,rfl⟩))
 ·refine bodyPost_ret (ZAR Tryz.results103 _ _ (w.heap.size+1+1) _ _ _ _ rfl HE.out.1 Tryz.underlying128 rfl (by kernel_rfl)) rfl ?_
  exact HQ.out _ _ _ _ _ _ _ HE.out.2
 ·exact (((Below.refl _ w).alloc (Nat.le_refl _) _).alloc (by simp) _).alloc (by simp;omega) _
open Go.RowKit Go.Shelf
theorem ZPL {B:Nat} {w W:World} {x:Sc.Ver} {a a':Option Addr} {n n' c c':Nat} (h:ZBd B w W x (.slice a n c) (.slice a' n' c')) (hb:Below w.heap.size w W):ZL4 W x a c a' c':=by
 obtain ⟨cs,p1,p2,p3,_⟩:=h
 obtain ⟨a1,c1,e1,h1⟩:=ZFd p1 p2 hb
 obtain ⟨a2,c2,e2,h2⟩:=ZBg p3
 cases e1
 cases e2
 exact ⟨h1,h2⟩
theorem ZEW {w0 w V:World} {x:Sc.Ver} {b6:Nat} {o0 o1:Value} {a a':Option Addr} {n n' c c':Nat} {st:Array Value} (h0:Below w0.heap.size w0 w) (h:ZDf w0 w V x b6 o0 o1 st (.slice a n c) (.slice a' n' c')):ZL4 V x a c a' c':=ZPL h.2.2.2.2.2.1 (h0.trans (h.2.2.2.2.1.mono h0.size))
theorem ZGC (x:Sc.Ver) (s:StepM) (sa:Option Addr) (sc:Nat) (ca:Option Addr) (cc:Nat) (w0 w:World) (T:Value) (hsl:x.slots.length≤100000) (hcl:x.cols.length≤100000) (hv:ZBq w0 w x sa sc ca cc) (hs0:ZBS w0 s T) (h0:Below w0.heap.size w0 w) (hk:s.kd=1) (hre:Sc.rest s=true) (hsz:szV s.sl.df≤1000000) (hlen:x.cols.length≤7) (hso:Sc.sound s.sl=true) (hrq:s.sl.rq=false) (hinx:∀ c∈x.cols,c<x.slots.length) (hco:Sc.col x s.sl.nm≠none) :
  Calls Tryz.prog 103 #[.agg #[.slice sa x.slots.length sc,.slice ca x.cols.length cc],T] w (ZAo w0 w x s):=by
 have hs:=ZAP h0 hs0
 have hC:=fun W (hb:Below w.heap.size w W)=>ZA2 x sa sc ca cc w0 w W hsl hcl hv hb
 have hR:=fun W (hb:Below w.heap.size w W)=>ZA0 s W T (ZAP hb hs)
 rw [hre] at hR
 obtain ⟨kd,col,sl,od⟩:=s
 obtain ⟨q2,q3,q4,q5,q6,q7,q8,oa,oc,rfl,hi1,hi2,h7,hod,_⟩:=hs
 simp only at hk hi1 hi2 hre hsz hlen hso hrq hinx hco h7 ⊢
 subst hk
 obtain ⟨CI,hCI⟩:∃ CI,Sc.colI x sl.nm=CI:=⟨_,rfl⟩
 have hCo:=fun a c a' c' W h=>ZDD x a c a' c' sl.nm W hinx hsl h
 rw [hCI] at hCo
 have d8:decide (0≤CI)=true:=by
  rw [←hCI]
  unfold Sc.colI
  split
  ·rename_i h;exact absurd h hco
  ·simp
 clear hCI
 have hSo:=fun W (hb:Below w.heap.size w W)=>ZCd sl hsz W _ (ZAn hb ⟨_,_,_,_,_,_,_,rfl,h7⟩)
 rw [hso] at hSo
 obtain ⟨hnm,hty,rfl,rfl,rfl,hdf⟩:=h7
 have hno:Sc.step x ⟨1,col,sl,od⟩=none:=by
  unfold Sc.step
  simp only
  rw [if_neg (by rw [hre];simp),if_pos trivial,if_neg (fun h=>hco h.2.2.2)]
 obtain ⟨Q,hQ⟩:∃ Q,ZAo w0 w x ⟨1,col,sl,od⟩=Q:=⟨_,rfl⟩
 have hq:∀ (a:Option Addr) (n c:Nat) (a':Option Addr) (n' c':Nat) (w':World),Below w.heap.size w w'→Q (.returned (.tuple #[.agg #[.slice a n c,.slice a' n' c'],.bool false])) w':=by
  intro a n c a' n' c' w' hb
  rw [←hQ];unfold ZAo;rw [hno];exact ⟨⟨a,n,c,a',n',c',rfl⟩,hb⟩
 have HQ:=ZZY hq
 clear hq
 rw [hQ]
 clear hQ hno hod
 have d6:decide (7<(x.cols.length:Int))=false:=by simp;omega
 simp only [hrq] at hR hSo ⊢
 clear hre hsz hlen hso hrq hinx hco
 have HV:=ZZY hv
 clear hv
 go_enter func103,ntmps103
 go_wp2_with (first
  |(go_at_call 115;(with_reducible refine (hC _ ?_).mono ?_);rotate_left;rintro e w1 ⟨⟨sv,cv,rfl,hvo⟩,hb1⟩;obtain ⟨a6,c6,a7,c7',rfl,rfl⟩:=ZBG hvo;obtain ⟨hP,hq2,hq3⟩:=ZBP w0 w w1 x sa sc ca cc _ _ _ _ _ hb1 hvo;have HP:=ZZY hP;clear hq2 hq3 hb1;obtain ⟨_,p2,_,p4,_⟩:=hP;obtain ⟨⟨y0,y1,y2,y3,y4⟩,y5,y6,y7,y8,y9⟩:=ZAS p2)
  |(go_at_call 116;(with_reducible refine (hR _ (ZAa HP.out)).mono ?_);rintro e w2 ⟨rfl,hb2⟩;have HP2:=ZZY (ZAl HP.out hb2);have HE:=ZZY (ZAu w w2 (w.heap.size+1+1) _ _ (.slice a6 x.slots.length c6) (.slice a7 x.cols.length c7') (ZAx HP2.out) (ZAa HP2.out) (by omega));clear hb2;have hP2:=HP2.out;obtain ⟨_,p2',p3,p4',_⟩:=hP2;obtain ⟨⟨z0,z1,z2,z3,z4⟩,z5,z6,z7,z8,z9⟩:=ZAS p2';obtain ⟨r0,r1,r2,r3⟩:=ZAD p3;obtain ⟨x0,x1,x2,x3⟩:=ZAD p4')
  |(go_at_call 101;(with_reducible refine (hSo _ (ZAa HP2.out)).mono ?_);rintro e w3 ⟨rfl,hb3⟩;have HP3:=ZZY (ZAl HP2.out hb3);have HE:=ZZY (ZAu w w3 (w.heap.size+1+1) _ _ (.slice a6 x.slots.length c6) (.slice a7 x.cols.length c7') (ZAx HP3.out) (ZAa HP3.out) (by omega));clear hb3;have hP3:=HP3.out;obtain ⟨_,p2',p3,p4',_⟩:=hP3;obtain ⟨⟨z0,z1,z2,z3,z4⟩,z5,z6,z7,z8,z9⟩:=ZAS p2';obtain ⟨r0,r1,r2,r3⟩:=ZAD p3;obtain ⟨x0,x1,x2,x3⟩:=ZAD p4')
  |(go_at_call 102;(with_reducible refine (hCo _ _ _ _ _ (ZEW h0 HP3.out)).mono ?_);rintro e w4 ⟨rfl,hb4⟩;have HP4:=ZZY (ZAl HP3.out hb4);have HE:=ZZY (ZAu w w4 (w.heap.size+1+1) _ _ (.slice a6 x.slots.length c6) (.slice a7 x.cols.length c7') (ZAx HP4.out) (ZAa HP4.out) (by omega));clear hb4;have hP4:=HP4.out;obtain ⟨_,p2',p3,p4',_⟩:=hP4;obtain ⟨⟨z0,z1,z2,z3,z4⟩,z5,z6,z7,z8,z9⟩:=ZAS p2';obtain ⟨r0,r1,r2,r3⟩:=ZAD p3;obtain ⟨x0,x1,x2,x3⟩:=ZAD p4'))
 ·refine bodyPost_ret (ZAR Tryz.results103 _ _ (w.heap.size+1+1) _ _ _ _ rfl HE.out.1 Tryz.underlying128 rfl (by kernel_rfl)) rfl ?_
  exact HQ.out _ _ _ _ _ _ _ HE.out.2
 ·exact (((Below.refl _ w).alloc (Nat.le_refl _) _).alloc (by simp) _).alloc (by simp;omega) _
theorem ZGD (x:Sc.Ver) (s:StepM) (sa:Option Addr) (sc:Nat) (ca:Option Addr) (cc:Nat) (w0 w:World) (T:Value) (hsl:x.slots.length≤100000) (hcl:x.cols.length≤100000) (hv:ZBq w0 w x sa sc ca cc) (hs0:ZBS w0 s T) (h0:Below w0.heap.size w0 w) (hk:s.kd=3) (hin:0≤s.col∧s.col<x.cols.length) (hre:Sc.rest s=true) (hnb:nameB (strB s.sl.nm)=true) (hinx:∀ c∈x.cols,c<x.slots.length) (hco:Sc.col x s.sl.nm≠none) :
  Calls Tryz.prog 103 #[.agg #[.slice sa x.slots.length sc,.slice ca x.cols.length cc],T] w (ZAo w0 w x s):=by
 have hs:=ZAP h0 hs0
 have hC:=fun W (hb:Below w.heap.size w W)=>ZA2 x sa sc ca cc w0 w W hsl hcl hv hb
 have hR:=fun W (hb:Below w.heap.size w W)=>ZA0 s W T (ZAP hb hs)
 rw [hre] at hR
 obtain ⟨kd,col,sl,od⟩:=s
 obtain ⟨q2,q3,q4,q5,q6,q7,q8,oa,oc,rfl,hi1,hi2,h7,hod,_⟩:=hs
 simp only at hk hi1 hi2 hre hnb hinx hco hin h7 ⊢
 subst hk
 obtain ⟨CI,hCI⟩:∃ CI,Sc.colI x sl.nm=CI:=⟨_,rfl⟩
 have hCo:=fun a c a' c' W h=>ZDD x a c a' c' sl.nm W hinx hsl h
 rw [hCI] at hCo
 have d8:decide (0≤CI)=true:=by
  rw [←hCI]
  unfold Sc.colI
  split
  ·rename_i h;exact absurd h hco
  ·simp
 clear hCI
 have hN:=fun W=>ZCA sl.nm W h7.1
 rw [hnb] at hN
 obtain ⟨hnm,hty,rfl,rfl,rfl,hdf⟩:=h7
 have hno:Sc.step x ⟨3,col,sl,od⟩=none:=by
  unfold Sc.step
  simp only
  rw [if_neg (by rw [hre];simp),if_neg (by decide),if_neg (by decide),if_neg (by omega),if_neg (by decide),if_pos trivial,if_neg (fun h=>hco h.2)]
 obtain ⟨Q,hQ⟩:∃ Q,ZAo w0 w x ⟨3,col,sl,od⟩=Q:=⟨_,rfl⟩
 have hq:∀ (a:Option Addr) (n c:Nat) (a':Option Addr) (n' c':Nat) (w':World),Below w.heap.size w w'→Q (.returned (.tuple #[.agg #[.slice a n c,.slice a' n' c'],.bool false])) w':=by
  intro a n c a' n' c' w' hb
  rw [←hQ];unfold ZAo;rw [hno];exact ⟨⟨a,n,c,a',n',c',rfl⟩,hb⟩
 have HQ:=ZZY hq
 clear hq
 rw [hQ]
 clear hQ hno hod
 have d4:decide (col<0)=false:=by simp;omega
 have d5:decide ((x.cols.length:Int)≤col)=false:=by simp;omega
 clear hre hnb hinx hco
 have HV:=ZZY hv
 clear hv
 go_enter func103,ntmps103
 go_wp2_with (first
  |(go_at_call 115;(with_reducible refine (hC _ ?_).mono ?_);rotate_left;rintro e w1 ⟨⟨sv,cv,rfl,hvo⟩,hb1⟩;obtain ⟨a6,c6,a7,c7',rfl,rfl⟩:=ZBG hvo;obtain ⟨hP,hq2,hq3⟩:=ZBP w0 w w1 x sa sc ca cc _ _ _ _ _ hb1 hvo;have HP:=ZZY hP;clear hq2 hq3 hb1;obtain ⟨_,p2,_,p4,_⟩:=hP;obtain ⟨⟨y0,y1,y2,y3,y4⟩,y5,y6,y7,y8,y9⟩:=ZAS p2)
  |(go_at_call 116;(with_reducible refine (hR _ (ZAa HP.out)).mono ?_);rintro e w2 ⟨rfl,hb2⟩;have HP2:=ZZY (ZAl HP.out hb2);have HE:=ZZY (ZAu w w2 (w.heap.size+1+1) _ _ (.slice a6 x.slots.length c6) (.slice a7 x.cols.length c7') (ZAx HP2.out) (ZAa HP2.out) (by omega));clear hb2;have hP2:=HP2.out;obtain ⟨_,p2',p3,p4',_⟩:=hP2;obtain ⟨⟨z0,z1,z2,z3,z4⟩,z5,z6,z7,z8,z9⟩:=ZAS p2';obtain ⟨r0,r1,r2,r3⟩:=ZAD p3;obtain ⟨x0,x1,x2,x3⟩:=ZAD p4')
  |(go_at_call 100;(with_reducible refine (hN _).mono ?_);rintro e w3 ⟨rfl,rfl⟩)
  |(go_at_call 102;(with_reducible refine (hCo _ _ _ _ _ (ZEW h0 HP2.out)).mono ?_);rintro e w4 ⟨rfl,hb4⟩;have HP4:=ZZY (ZAl HP2.out hb4);have HE:=ZZY (ZAu w w4 (w.heap.size+1+1) _ _ (.slice a6 x.slots.length c6) (.slice a7 x.cols.length c7') (ZAx HP4.out) (ZAa HP4.out) (by omega));clear hb4;have hP4:=HP4.out;obtain ⟨_,p2',p3,p4',_⟩:=hP4;obtain ⟨⟨z0,z1,z2,z3,z4⟩,z5,z6,z7,z8,z9⟩:=ZAS p2';obtain ⟨r0,r1,r2,r3⟩:=ZAD p3;obtain ⟨x0,x1,x2,x3⟩:=ZAD p4'))
 ·refine bodyPost_ret (ZAR Tryz.results103 _ _ (w.heap.size+1+1) _ _ _ _ rfl HE.out.1 Tryz.underlying128 rfl (by kernel_rfl)) rfl ?_
  exact HQ.out _ _ _ _ _ _ _ HE.out.2
 ·exact (((Below.refl _ w).alloc (Nat.le_refl _) _).alloc (by simp) _).alloc (by simp;omega) _
open Go.RowKit Go.Shelf
theorem ZJ9 (w:World):Below w.heap.size w w.drew:=⟨rfl,rfl,rfl,Nat.le_refl _,fun _ _=>rfl⟩
theorem ZHP {B n j:Nat} {W:World} {e:TypeId} {size:Nat} {v c:Value} {xs:List Value} {g:Nat} (h:W.ownsRow B e size v n xs) (hg:v.ownBlock=some g) (hj:j<n*size):(W.setCell ⟨g,j,none⟩ c).ownsRow B e size v n (xs.set j c):=by
 obtain ⟨hl,h2⟩:=h
 rcases h2 with ⟨rfl,_⟩ | ⟨g',cap,cur,rfl,hb,hh,hn,hm,hs,ht⟩
 ·simp [Value.ownBlock] at hg
 ·obtain rfl:g'=g:=by simpa [Value.ownBlock] using hg
  refine ⟨by simpa using hl,.inr ⟨g',cap,cur.setIfInBounds j c,rfl,hb, ?_,hn,hm,by simpa using hs, ?_⟩⟩
  ·obtain ⟨hlt,hk⟩:=ZZZ hh
   show (W.heap.modify g' _)[g']? = _
   rw [Array.getElem?_eq_getElem (by rw [Array.size_modify];exact hlt),Array.getElem_modify_self,hk]
   rfl
  ·rw [←ht]
   simp [Array.toList_setIfInBounds,List.take_set]
theorem ZCv {B n j:Nat} {W:World} {e:TypeId} {size:Nat} {a:Option Addr} {cap n':Nat} {xs:List Value} {u:Value} (h:W.ownsRow B e size (.slice a n' cap) n xs) (hj:xs[j]? = some u):∃ g,a=some ⟨g,0,none⟩∧W.cell? ⟨g,j,none⟩=some u∧W.frozen? ⟨g,j,none⟩=false∧B≤g:=by
 obtain ⟨hl,h2⟩:=h
 rcases h2 with ⟨_,rfl⟩ | ⟨g,cap',cur,e1,hb,hh,hn,hm,hs,ht⟩
 ·have:=(List.getElem?_eq_some_iff.1 hj).1
  omega
 ·cases e1
  have hu:cur[j]? = some u:=by
   rw [←ht,List.getElem?_take] at hj
   split at hj
   ·rwa [Array.getElem?_toList] at hj
   ·cases hj
  refine ⟨g,rfl, ?_, ?_,hb⟩
  ·simp [World.cell?,hh,hu]
  ·simp [World.frozen?,hh]
theorem ZNQ {w0 w V:World} {x:Sc.Ver} {b6:Nat} {o0 o1 s6 c6 u0 u1:Value} {st:Array Value} (h:ZDf w0 w V x b6 o0 o1 st s6 c6):ZBd w.heap.size w0 (((V.setCell ⟨w.heap.size+1+1,0,none⟩ u0).setCell ⟨w.heap.size+1+1,1,none⟩ u1).drew) x s6 c6:=by
 obtain ⟨_,_,_,_,_,⟨cs,p1,p2,p3,p4⟩,_,_,_⟩:=h
 have k1:=ZAJ V (w.heap.size+1+1) 0 u0
 have k2:(V.setCell ⟨w.heap.size+1+1,0,none⟩ u0).grownBy (((V.setCell ⟨w.heap.size+1+1,0,none⟩ u0).setCell ⟨w.heap.size+1+1,1,none⟩ u1).drew) (some (w.heap.size+1+1)):=by
  obtain ⟨a1,a2,a3,a4,a5⟩:=ZAJ (V.setCell ⟨w.heap.size+1+1,0,none⟩ u0) (w.heap.size+1+1) 1 u1
  exact ⟨a1,a2,a3,a4,a5⟩
 have q1:=fun b e=>(ZAV p1 b e).2
 have q3:=fun b e=>(ZAV p3 b e).2
 exact ⟨cs,ZAH (ZAN (ZAN p1 k1 (fun b e1 e2=>by have:=q1 b e2;injection e1 with e1;omega)) k2 (fun b e1 e2=>by have:=q1 b e2;injection e1 with e1;omega)) (by omega),p2,
  ZAH (ZAN (ZAN p3 k1 (fun b e1 e2=>by have:=q3 b e2;injection e1 with e1;omega)) k2 (fun b e1 e2=>by have:=q3 b e2;injection e1 with e1;omega)) (by omega),p4⟩
theorem ZL2 {w0 w V:World} {x:Sc.Ver} {b6:Nat} {o0 o1:Value} {st:Array Value} {a a':Option Addr} {cp cp' k:Nat} (h:ZDf w0 w V x b6 o0 o1 st (.slice a x.slots.length cp) (.slice a' x.cols.length cp')) (hk:k<x.cols.length) (hinx:∀ c∈x.cols,c<x.slots.length) (nm:ByteArray) (hnm:nm.size≤maxLen) :
  ∃ g g' c old,x.cols[k]? = some c∧c<x.slots.length∧a=some ⟨g,0,none⟩∧a'=some ⟨g',0,none⟩∧V.cell? ⟨g',k,none⟩=some (.int .i64 (c:Int))∧(V.cell? ⟨g,c*7,none⟩=some (.string old)∧V.frozen? ⟨g,c*7,none⟩=false) ∧
   ZDf w0 w (V.setCell ⟨g,c*7,none⟩ (.string nm)) ⟨x.slots.modify c (fun t=>Sc.setNm t nm),x.cols⟩ b6 o0 o1 st (.slice a x.slots.length cp) (.slice a' x.cols.length cp'):=by
 obtain ⟨g0,g1,g2,g3,g4,⟨cs,p1,p2,p3,p4⟩,h1,h2,h3⟩:=h
 obtain ⟨c,hc⟩:∃ c,x.cols[k]? = some c:=⟨x.cols[k],List.getElem?_eq_getElem hk⟩
 have hcl:=hinx c (List.mem_of_getElem? hc)
 obtain ⟨g',e2,q2,_,_⟩:=ZCv (j:=k) (u:=.int .i64 (c:Int)) p3 (by rw [List.getElem?_map,List.getElem?_map,hc];rfl)
 obtain ⟨s,hs⟩:∃ s,x.slots[c]? = some s:=⟨x.slots[c],List.getElem?_eq_getElem hcl⟩
 obtain ⟨c0,_,_,_,_,_,_,⟨u0,_⟩,h7⟩:=p2.2.2 c s hs
 obtain ⟨_,_,rfl,_⟩:=h7
 obtain ⟨g,e1,q1,f1,hg⟩:=ZCv p1 u0
 subst e1 e2
 have kg:=ZAJ V g (c*7) (.string nm)
 have hg6:g<b6:=h2 g rfl
 have far:∀ b o,b≠g→V.heap[b]? = some o→(V.setCell ⟨g,c*7,none⟩ (.string nm)).heap[b]? = some o:=fun b o hne hb=>(kg.block b (ZZZ hb).1 (fun e=>by injection e with e;omega)).trans hb
 refine ⟨g,g',c,s.nm,hc,hcl,rfl,rfl,q2,⟨q1,f1⟩,far _ _ (by omega) g0,far _ _ (by omega) g1,far _ _ (by omega) g2,far _ _ (by omega) g3,ZAE g4 kg (fun b e=>by injection e with e;omega) g4.size,⟨cs.set (c*7) (.string nm), ?_,ZE6 p2 c nm hnm, ?_,p4⟩,h1,h2,h3⟩
 ·have:=ZHP (c:=.string nm) p1 (g:=g) rfl (show c*7<x.slots.length*7 by omega)
  simpa using this
 ·exact ZAN p3 kg (fun b e1 e2=>by cases e1;exact p4 g rfl e2)
theorem ZHQ (x:Sc.Ver) (s:StepM) (sa:Option Addr) (sc:Nat) (ca:Option Addr) (cc:Nat) (w0 w:World) (T:Value) (hsl:x.slots.length≤100000) (hcl:x.cols.length≤100000) (hv:ZBq w0 w x sa sc ca cc) (hs0:ZBS w0 s T) (h0:Below w0.heap.size w0 w) (hk:s.kd=3) (hin:0≤s.col∧s.col<x.cols.length) (hre:Sc.rest s=true) (hnb:nameB (strB s.sl.nm)=true) (hinx:∀ c∈x.cols,c<x.slots.length) (hco:Sc.col x s.sl.nm=none) :
  Calls Tryz.prog 103 #[.agg #[.slice sa x.slots.length sc,.slice ca x.cols.length cc],T] w (ZAo w0 w x s):=by
 have hs:=ZAP h0 hs0
 have hC:=fun W (hb:Below w.heap.size w W)=>ZA2 x sa sc ca cc w0 w W hsl hcl hv hb
 have hR:=fun W (hb:Below w.heap.size w W)=>ZA0 s W T (ZAP hb hs)
 rw [hre] at hR
 obtain ⟨kd,col,sl,od⟩:=s
 obtain ⟨q2,q3,q4,q5,q6,q7,q8,oa,oc,rfl,hi1,hi2,h7,hod,_⟩:=hs
 simp only at hk hi1 hi2 hre hnb hinx hco hin h7 ⊢
 subst hk
 have HX:=ZZY hinx
 obtain ⟨CI,hCI⟩:∃ CI,Sc.colI x sl.nm=CI:=⟨_,rfl⟩
 have hCo:=fun a c a' c' W h=>ZDD x a c a' c' sl.nm W hinx hsl h
 rw [hCI] at hCo
 have d8:decide (0≤CI)=false:=by
  rw [←hCI]
  unfold Sc.colI
  split
  ·simp
  ·rename_i h;rw [hco] at h;cases h
 clear hCI
 have hN:=fun W=>ZCA sl.nm W h7.1
 rw [hnb] at hN
 obtain ⟨hnm,hty,rfl,rfl,rfl,hdf⟩:=h7
 obtain ⟨k,rfl⟩:∃ k:Nat,col=(k:Int):=⟨col.toNat,by omega⟩
 have hk1:k<x.cols.length:=by omega
 have hno:Sc.step x ⟨3,(k:Int),sl,od⟩=some ⟨x.slots.modify (x.cols[k]?.getD 0) (fun t=>Sc.setNm t sl.nm),x.cols⟩:=by
  unfold Sc.step
  simp only
  rw [if_neg (by rw [hre];simp),if_neg (by decide),if_neg (by decide),if_neg (by omega),if_neg (by decide),if_pos trivial,if_pos ⟨hnb,hco⟩]
  rfl
 obtain ⟨Q,hQ⟩:∃ Q,ZAo w0 w x ⟨3,(k:Int),sl,od⟩=Q:=⟨_,rfl⟩
 have hq:∀ sv cv w',ZBd w.heap.size w0 w' ⟨x.slots.modify (x.cols[k]?.getD 0) (fun t=>Sc.setNm t sl.nm),x.cols⟩ sv cv→Below w.heap.size w w'→Q (.returned (.tuple #[.agg #[sv,cv],.bool true])) w':=by
  intro sv cv w' h1 h2
  rw [←hQ];unfold ZAo;rw [hno];exact ⟨⟨sv,cv,rfl,h1⟩,h2⟩
 have HQ:=ZZY hq
 clear hq
 rw [hQ]
 clear hQ hno hod
 have d4:decide ((k:Int)<0)=false:=by simp
 have d5:decide ((x.cols.length:Int)≤(k:Int))=false:=by simp;omega
 clear hre hnb hinx hco
 have HV:=ZZY hv
 clear hv
 go_enter func103,ntmps103
 go_wp2_with (first
  |(go_at_call 115;(with_reducible refine (hC _ ?_).mono ?_);rotate_left;rintro e w1 ⟨⟨sv,cv,rfl,hvo⟩,hb1⟩;obtain ⟨a6,c6,a7,c7',rfl,rfl⟩:=ZBG hvo;obtain ⟨hP,hq2,hq3⟩:=ZBP w0 w w1 x sa sc ca cc _ _ _ _ _ hb1 hvo;have HP:=ZZY hP;clear hq2 hq3 hb1;obtain ⟨_,p2,_,p4,_⟩:=hP;obtain ⟨⟨y0,y1,y2,y3,y4⟩,y5,y6,y7,y8,y9⟩:=ZAS p2)
  |(go_at_call 116;(with_reducible refine (hR _ (ZAa HP.out)).mono ?_);rintro e w2 ⟨rfl,hb2⟩;have HP2:=ZZY (ZAl HP.out hb2);have HE:=ZZY (ZAu w w2 (w.heap.size+1+1) _ _ (.slice a6 x.slots.length c6) (.slice a7 x.cols.length c7') (ZAx HP2.out) (ZAa HP2.out) (by omega));clear hb2;have hP2:=HP2.out;obtain ⟨_,p2',p3,p4',_⟩:=hP2;obtain ⟨⟨z0,z1,z2,z3,z4⟩,z5,z6,z7,z8,z9⟩:=ZAS p2';obtain ⟨r0,r1,r2,r3⟩:=ZAD p3;obtain ⟨x0,x1,x2,x3⟩:=ZAD p4')
  |(go_at_call 100;(with_reducible refine (hN _).mono ?_);rintro e w3 ⟨rfl,rfl⟩)
  |(go_at_call 102;(with_reducible refine (hCo _ _ _ _ _ (ZEW h0 HP2.out)).mono ?_);rintro e w4 ⟨rfl,hb4⟩;have HP4:=ZZY (ZAl HP2.out hb4);have HE:=ZZY (ZAu w w4 (w.heap.size+1+1) _ _ (.slice a6 x.slots.length c6) (.slice a7 x.cols.length c7') (ZAx HP4.out) (ZAa HP4.out) (by omega));clear hb4;have hP4:=HP4.out;obtain ⟨_,p2',p3,p4',_⟩:=hP4;obtain ⟨⟨z0,z1,z2,z3,z4⟩,z5,z6,z7,z8,z9⟩:=ZAS p2';obtain ⟨r0,r1,r2,r3⟩:=ZAD p3;obtain ⟨x0,x1,x2,x3⟩:=ZAD p4'))
 ·have HPd:=HP4.out
  obtain ⟨g,g',c,old,hc,hcl,rfl,rfl,e2,⟨e1,f1⟩,hPn⟩:=ZL2 HPd hk1 HX.out sl.nm hnm
  have HC:=ZZY hc
  have HPn:=ZZY hPn
  have HE:=ZZY (ZAu w (w4.setCell ⟨g,c*7,none⟩ (.string sl.nm)) (w.heap.size+1+1) _ _ (.slice (some ⟨g,0,none⟩) x.slots.length c6) (.slice (some ⟨g',0,none⟩) x.cols.length c7') (ZAx hPn) (ZAa hPn) (by omega))
  obtain ⟨_,d2,_,d4',_⟩:=HPd
  obtain ⟨⟨v0,v1,v2,v3,v4⟩,_⟩:=ZAS d2
  obtain ⟨v5,v6⟩:=ZAg d4'
  obtain ⟨_,n2,n3,n4,_⟩:=hPn
  obtain ⟨s0,s1,s2,s3⟩:=ZAD n3
  obtain ⟨s4,s5⟩:=ZAg n4
  clear hc d2 d4' n2 n3 n4
  go_region
  go_wp2
  refine bodyPost_ret (ZAR Tryz.results103 _ _ (w.heap.size+1+1) _ _ _ _ rfl HE.out.1 Tryz.underlying128 rfl (by kernel_rfl)) rfl ?_
  have hq:=HQ.out
  rw [HC.out] at hq
  exact hq _ _ _ (ZNQ HPn.out) (HE.out.2.trans ⟨rfl,rfl,rfl,Nat.le_refl _,fun _ _=>rfl⟩)
 ·exact (((Below.refl _ w).alloc (Nat.le_refl _) _).alloc (by simp) _).alloc (by simp;omega) _
open Go.RowKit Go.Shelf
def ZEr (w0 w V:World) (x:Sc.Ver) (b6:Nat) (o0 o1:Value) (st:Array Value) (s6 c6:Value):Prop:=
 V.heap[w.heap.size]? = some (.cells #[o0,o1] 128 (0,0))∧V.heap[w.heap.size+1]? = some (.cells st 54 (0,0))∧V.heap[w.heap.size+1+1]? = some (.cells #[.slice none 0 0,.slice none 0 0] 128 (0,0)) ∧
 V.heap[b6]? = some (.cells #[s6,c6] 128 (0,0))∧Below w.heap.size w V∧ZBd (w.heap.size+1+1+1) w0 V x s6 c6∧w.heap.size+1+1<b6∧(∀ b,s6.ownBlock=some b→b≠b6)∧(∀ b,c6.ownBlock=some b→b≠b6)
theorem ZFT {w0 w V:World} {x:Sc.Ver} {b6:Nat} {o0 o1 s6 c6:Value} {st:Array Value} (h:ZDf w0 w V x b6 o0 o1 st s6 c6):ZEr w0 w V x b6 o0 o1 st s6 c6:=
 ⟨h.1,h.2.1,h.2.2.1,h.2.2.2.1,h.2.2.2.2.1,h.2.2.2.2.2.1,h.2.2.2.2.2.2.1,fun b e=>Nat.ne_of_lt (h.2.2.2.2.2.2.2.1 b e),fun b e=>Nat.ne_of_lt (h.2.2.2.2.2.2.2.2 b e)⟩
theorem ZEF {w0 w V V':World} {x:Sc.Ver} {b6:Nat} {o0 o1 s6 c6:Value} {st:Array Value} (h:ZEr w0 w V x b6 o0 o1 st s6 c6) (hb:Below V.heap.size V V'):ZEr w0 w V' x b6 o0 o1 st s6 c6:=by
 obtain ⟨g0,g1,g2,g3,g4,⟨cs,p1,p2,p3,p4⟩,h1,h2,h3⟩:=h
 have k:=fun b o (hb0:V.heap[b]? = some o)=>(hb.block b (ZZZ hb0).1).trans hb0
 have kg:V.grownBy V' none:=by
  obtain ⟨a1,a2,a3,a4,a5⟩:=hb
  exact ⟨a1,a2,a3,a4,fun j hj _=>a5 j hj⟩
 exact ⟨k _ _ g0,k _ _ g1,k _ _ g2,k _ _ g3,ZAE g4 kg (fun b e=>by cases e) g4.size,⟨cs,ZAN p1 kg (fun b e=>by cases e),p2,ZAN p3 kg (fun b e=>by cases e),p4⟩,h1,h2,h3⟩
theorem ZKs {W:World} {b:Nat} {u0 u1:Value} {t:TypeId} (h:W.heap[b]? = some (.cells #[u0,u1] t (0,0))) (v:Value):(W.setCell ⟨b,0,none⟩ v).heap[b]? = some (.cells #[v,u1] t (0,0)):=by
 obtain ⟨hlt,hk⟩:=ZZZ h
 show (W.heap.modify b _)[b]? = _
 rw [Array.getElem?_eq_getElem (by rw [Array.size_modify];exact hlt),Array.getElem_modify_self,hk]
 rfl
theorem ZHR {W:World} {b:Nat} {u0 u1:Value} {t:TypeId} (h:W.heap[b]? = some (.cells #[u0,u1] t (0,0))) (v:Value):(W.setCell ⟨b,1,none⟩ v).heap[b]? = some (.cells #[u0,v] t (0,0)):=by
 obtain ⟨hlt,hk⟩:=ZZZ h
 show (W.heap.modify b _)[b]? = _
 rw [Array.getElem?_eq_getElem (by rw [Array.size_modify];exact hlt),Array.getElem_modify_self,hk]
 rfl
theorem ZNR {w0 w A W:World} {x:Sc.Ver} {b6:Nat} {o0 o1 s6 c6 v:Value} {st:Array Value} (h:ZEr w0 w A x b6 o0 o1 st s6 c6) (hg:A.grownBy W c6.ownBlock) (hat:v.ownBlock=c6.ownBlock∨v.ownBlock=some A.heap.size) (nc:List Nat)
  (hown:W.ownsRow (w.heap.size+1+1+1) 3 1 v nc.length ((nc.map Int.ofNat).map (Value.int .i64))) :
  W.heap[b6]? = some (.cells #[s6,c6] 128 (0,0))∧ZEr w0 w (W.setCell ⟨b6,1,none⟩ v) ⟨x.slots,nc⟩ b6 o0 o1 st s6 v:=by
 obtain ⟨g0,g1,g2,g3,g4,⟨cs,p1,p2,p3,p4⟩,h1,h2,h3⟩:=h
 have q1:=ZAV p1
 have q3:=ZAV p3
 have qn:=ZAV hown
 have hlt6:b6<A.heap.size:=(ZZZ g3).1
 have hAs:=hg.size
 have far:∀ b o,(∀ g,c6.ownBlock=some g→b≠g)→A.heap[b]? = some o→W.heap[b]? = some o:=fun b o hne hb=>(hg.block b (ZZZ hb).1 (fun e=>hne b e.symm rfl)).trans hb
 have e6:=far b6 _ (fun g e=>(h3 g e).symm) g3
 have kg:=ZAJ W b6 1 v
 have far2:∀ b o,b≠b6→W.heap[b]? = some o→(W.setCell ⟨b6,1,none⟩ v).heap[b]? = some o:=fun b o hne hb=>(kg.block b (ZZZ hb).1 (fun e=>by injection e with e;omega)).trans hb
 have hB:Below w.heap.size w W:=ZAE g4 hg (fun b e=>by have:=(q3 b e).2;omega) g4.size
 have hv6:∀ b,v.ownBlock=some b→b≠b6:=by
  intro b e
  rcases hat with r | r
  ·exact h3 b (r ▸ e)
  ·rw [r] at e;injection e with e;omega
 refine ⟨e6,far2 _ _ (by omega) (far _ _ (fun g e=>by have:=(q3 g e).2;omega) g0),far2 _ _ (by omega) (far _ _ (fun g e=>by have:=(q3 g e).2;omega) g1),far2 _ _ (by omega) (far _ _ (fun g e=>by have:=(q3 g e).2;omega) g2),ZHR e6 v,
  ZAE hB kg (fun b e=>by injection e with e;omega) hB.size,⟨cs,ZAN (ZAN p1 hg (fun b e1 e2=>p4 b e2 e1)) kg (fun b e1 e2=>by injection e1 with e1;exact h2 b e2 e1.symm),p2,ZAN hown kg (fun b e1 e2=>by injection e1 with e1;exact hv6 b e2 e1.symm),fun b e1 e2=>?_⟩,h1,h2,hv6⟩
 rcases hat with r | r
 ·exact p4 b e1 (r ▸ e2)
 ·rw [r] at e2;injection e2 with e2;have:=(q1 b e1).1;omega
theorem ZL3 {w0 w A W:World} {x:Sc.Ver} {b6:Nat} {o0 o1 s6 c6 v:Value} {st:Array Value} (h:ZEr w0 w A x b6 o0 o1 st s6 c6) (hg:A.grownBy W s6.ownBlock) (hat:v.ownBlock=s6.ownBlock∨v.ownBlock=some A.heap.size) (ns:List SlotM) (ds:List Value) (hds:ZBw w0 ns ds)
  (hown:W.ownsRow (w.heap.size+1+1+1) 51 7 v ns.length ds) :
  W.heap[b6]? = some (.cells #[s6,c6] 128 (0,0))∧ZEr w0 w (W.setCell ⟨b6,0,none⟩ v) ⟨ns,x.cols⟩ b6 o0 o1 st v c6:=by
 obtain ⟨g0,g1,g2,g3,g4,⟨cs,p1,p2,p3,p4⟩,h1,h2,h3⟩:=h
 have q1:=ZAV p1
 have q3:=ZAV p3
 have hlt6:b6<A.heap.size:=(ZZZ g3).1
 have hAs:=hg.size
 have far:∀ b o,(∀ g,s6.ownBlock=some g→b≠g)→A.heap[b]? = some o→W.heap[b]? = some o:=fun b o hne hb=>(hg.block b (ZZZ hb).1 (fun e=>hne b e.symm rfl)).trans hb
 have e6:=far b6 _ (fun g e=>(h2 g e).symm) g3
 have kg:=ZAJ W b6 0 v
 have far2:∀ b o,b≠b6→W.heap[b]? = some o→(W.setCell ⟨b6,0,none⟩ v).heap[b]? = some o:=fun b o hne hb=>(kg.block b (ZZZ hb).1 (fun e=>by injection e with e;omega)).trans hb
 have hB:Below w.heap.size w W:=ZAE g4 hg (fun b e=>by have:=(q1 b e).2;omega) g4.size
 have hv6:∀ b,v.ownBlock=some b→b≠b6:=by
  intro b e
  rcases hat with r | r
  ·exact h2 b (r ▸ e)
  ·rw [r] at e;injection e with e;omega
 refine ⟨e6,far2 _ _ (by omega) (far _ _ (fun g e=>by have:=(q1 g e).2;omega) g0),far2 _ _ (by omega) (far _ _ (fun g e=>by have:=(q1 g e).2;omega) g1),far2 _ _ (by omega) (far _ _ (fun g e=>by have:=(q1 g e).2;omega) g2),ZKs e6 v,
  ZAE hB kg (fun b e=>by injection e with e;omega) hB.size,⟨ds,ZAN hown kg (fun b e1 e2=>by injection e1 with e1;exact hv6 b e2 e1.symm),hds,ZAN (ZAN p3 hg (fun b e1 e2=>p4 b e1 e2)) kg (fun b e1 e2=>by injection e1 with e1;exact h3 b e2 e1.symm),fun b e1 e2=>?_⟩,h1,hv6,h3⟩
 rcases hat with r | r
 ·exact p4 b (r ▸ e1) e2
 ·rw [r] at e1;injection e1 with e1;have:=(q3 b e2).1;omega
theorem ZEX {w0 w V:World} {x:Sc.Ver} {b6:Nat} {o0 o1 s6 c6 u0 u1:Value} {st:Array Value} (h:ZEr w0 w V x b6 o0 o1 st s6 c6):ZBd w.heap.size w0 ((V.setCell ⟨w.heap.size+1+1,0,none⟩ u0).setCell ⟨w.heap.size+1+1,1,none⟩ u1) x s6 c6:=by
 obtain ⟨_,_,_,_,_,⟨cs,p1,p2,p3,p4⟩,_,_,_⟩:=h
 have k1:=ZAJ V (w.heap.size+1+1) 0 u0
 have k2:=ZAJ (V.setCell ⟨w.heap.size+1+1,0,none⟩ u0) (w.heap.size+1+1) 1 u1
 have q1:=fun b e=>(ZAV p1 b e).2
 have q3:=fun b e=>(ZAV p3 b e).2
 exact ⟨cs,ZAH (ZAN (ZAN p1 k1 (fun b e1 e2=>by have:=q1 b e2;injection e1 with e1;omega)) k2 (fun b e1 e2=>by have:=q1 b e2;injection e1 with e1;omega)) (by omega),p2,
  ZAH (ZAN (ZAN p3 k1 (fun b e1 e2=>by have:=q3 b e2;injection e1 with e1;omega)) k2 (fun b e1 e2=>by have:=q3 b e2;injection e1 with e1;omega)) (by omega),p4⟩
theorem ZEs {w0 w V:World} {x:Sc.Ver} {b6:Nat} {o0 o1 s6 c6:Value} {st:Array Value} (h:ZEr w0 w V x b6 o0 o1 st s6 c6):V.ownsRow (w.heap.size+1+1+1) 3 1 c6 x.cols.length ((x.cols.map Int.ofNat).map (Value.int .i64)):=by
 obtain ⟨_,_,_,_,_,⟨cs,p1,p2,p3,p4⟩,_,_,_⟩:=h
 exact p3
theorem ZKA {w0 w V:World} {x:Sc.Ver} {b6:Nat} {o0 o1 s6 c6:Value} {st:Array Value} (h:ZEr w0 w V x b6 o0 o1 st s6 c6):∃ cs,V.ownsRow (w.heap.size+1+1+1) 51 7 s6 x.slots.length cs∧ZBw w0 x.slots cs:=by
 obtain ⟨_,_,_,_,_,⟨cs,p1,p2,p3,p4⟩,_,_,_⟩:=h
 exact ⟨cs,p1,p2⟩
theorem ZGe {w0 w V:World} {x:Sc.Ver} {b6:Nat} {o0 o1 s6 c6:Value} {st:Array Value} (h:ZEr w0 w V x b6 o0 o1 st s6 c6):w.heap.size+1+1+1≤V.heap.size:=by
 have h1:=(ZZZ h.2.2.2.1).1
 have h2:=h.2.2.2.2.2.2.1
 omega
theorem ZFC {W:World} {g:Nat} (h:W.heap.size=g) (l:List Value) (t:TypeId):∀ j u,l[j]? = some u→(W.alloc (.cells l.toArray t)).cell? ((⟨g,0,none⟩:Addr).add j)=some u:=by
 subst h
 exact ZBC W l t
theorem Below.heapsize9 (w:World) (o:Obj):Below w.heap.size w (w.alloc o):=(Below.refl _ w).alloc (Nat.le_refl _) o
theorem ZHS (x:Sc.Ver) (s:StepM) (sa:Option Addr) (sc:Nat) (ca:Option Addr) (cc:Nat) (w0 w:World) (T:Value) (hsl:x.slots.length≤100000) (hcl:x.cols.length≤100000) (hv:ZBq w0 w x sa sc ca cc) (hs0:ZBS w0 s T) (h0:Below w0.heap.size w0 w) (hk:s.kd=1) (hre:Sc.rest s=true) (hsz:szV s.sl.df≤1000000) (hlen:x.cols.length≤7) (hso:Sc.sound s.sl=true) (hrq:s.sl.rq=false) (hinx:∀ c∈x.cols,c<x.slots.length) (hco:Sc.col x s.sl.nm=none) :
  Calls Tryz.prog 103 #[.agg #[.slice sa x.slots.length sc,.slice ca x.cols.length cc],T] w (ZAo w0 w x s):=by
 have hs:=ZAP h0 hs0
 have hC:=fun W (hb:Below w.heap.size w W)=>ZA2 x sa sc ca cc w0 w W hsl hcl hv hb
 have hR:=fun W (hb:Below w.heap.size w W)=>ZA0 s W T (ZAP hb hs)
 rw [hre] at hR
 obtain ⟨kd,col,sl,od⟩:=s
 obtain ⟨q2,q3,q4,q5,q6,q7,q8,oa,oc,rfl,hi1,hi2,h7,hod,_⟩:=hs
 simp only at hk hi1 hi2 hre hsz hlen hso hrq hinx hco h7 ⊢
 subst hk
 obtain ⟨CI,hCI⟩:∃ CI,Sc.colI x sl.nm=CI:=⟨_,rfl⟩
 have hCo:=fun a c a' c' W h=>ZDD x a c a' c' sl.nm W hinx hsl h
 rw [hCI] at hCo
 have d8:decide (0≤CI)=false:=by
  rw [←hCI]
  unfold Sc.colI
  split
  ·simp
  ·rename_i h;rw [hco] at h;cases h
 clear hCI
 have hSo:=fun W (hb:Below w.heap.size w W)=>ZCd sl hsz W _ (ZAn hb ⟨_,_,_,_,_,_,_,rfl,h7⟩)
 rw [hso] at hSo
 obtain ⟨hnm,hty,rfl,rfl,rfl,hdf⟩:=h7
 have hno:Sc.step x ⟨1,col,sl,od⟩=some ⟨x.slots ++ [sl],x.cols ++ [x.slots.length]⟩:=by
  unfold Sc.step
  simp only
  rw [if_neg (by rw [hre];simp),if_pos trivial,if_pos ⟨hlen,hso,hrq,hco⟩]
 obtain ⟨Q,hQ⟩:∃ Q,ZAo w0 w x ⟨1,col,sl,od⟩=Q:=⟨_,rfl⟩
 have hq:∀ sv cv w',ZBd w.heap.size w0 w' ⟨x.slots ++ [sl],x.cols ++ [x.slots.length]⟩ sv cv→Below w.heap.size w w'→Q (.returned (.tuple #[.agg #[sv,cv],.bool true])) w':=by
  intro sv cv w' h1 h2
  rw [←hQ];unfold ZAo;rw [hno];exact ⟨⟨sv,cv,rfl,h1⟩,h2⟩
 have HQ:=ZZY hq
 clear hq
 rw [hQ]
 clear hQ hno hod
 have d6:decide (7<(x.cols.length:Int))=false:=by simp;omega
 have h70:ZDi w0 sl (.string sl.nm) (.int .i64 sl.ty) (.bool sl.rq) q5 q6 q7 q8:=by
  obtain ⟨r2,r3,r4,r5,r6,r7,r8,ra,rc,e0,_,_,h70,_⟩:=hs0
  simp only [Value.agg.injEq,Array.mk.injEq,List.cons.injEq,and_true,true_and] at e0
  obtain ⟨rfl,rfl,rfl,rfl,rfl,rfl,rfl,_⟩:=e0
  exact h70
 have H7:=ZZY (show ZDi w0 sl (.string sl.nm) (.int .i64 sl.ty) (.bool false) q5 q6 q7 q8 by rw [←hrq];exact h70)
 simp only [hrq] at hR hSo ⊢
 obtain ⟨i0,hi,hi0,hi1',hi2'⟩:=info_parts ZDE
 obtain ⟨j0,hj,hj0,hj1,hj2⟩:=info_parts ZCi
 clear hre hsz hlen hso hrq hinx hco
 have HV:=ZZY hv
 clear hv
 go_enter func103,ntmps103
 go_wp2_with (first
  |(go_at_call 115;(with_reducible refine (hC _ ?_).mono ?_);rotate_left;rintro e w1 ⟨⟨sv,cv,rfl,hvo⟩,hb1⟩;obtain ⟨a6,c6,a7,c7',rfl,rfl⟩:=ZBG hvo;obtain ⟨hP,hq2,hq3⟩:=ZBP w0 w w1 x sa sc ca cc _ _ _ _ _ hb1 hvo;have HP:=ZZY hP;clear hq2 hq3 hb1;obtain ⟨_,p2,_,p4,_⟩:=hP;obtain ⟨⟨y0,y1,y2,y3,y4⟩,y5,y6,y7,y8,y9⟩:=ZAS p2)
  |(go_at_call 116;(with_reducible refine (hR _ (ZAa HP.out)).mono ?_);rintro e w2 ⟨rfl,hb2⟩;have HP2:=ZZY (ZAl HP.out hb2);have HE:=ZZY (ZAu w w2 (w.heap.size+1+1) _ _ (.slice a6 x.slots.length c6) (.slice a7 x.cols.length c7') (ZAx HP2.out) (ZAa HP2.out) (by omega));clear hb2;have hP2:=HP2.out;obtain ⟨_,p2',p3,p4',_⟩:=hP2;obtain ⟨⟨z0,z1,z2,z3,z4⟩,z5,z6,z7,z8,z9⟩:=ZAS p2';obtain ⟨r0,r1,r2,r3⟩:=ZAD p3;obtain ⟨x0,x1,x2,x3⟩:=ZAD p4')
  |(go_at_call 101;(with_reducible refine (hSo _ (ZAa HP2.out)).mono ?_);rintro e w3 ⟨rfl,hb3⟩;have HP3:=ZZY (ZAl HP2.out hb3);have HE:=ZZY (ZAu w w3 (w.heap.size+1+1) _ _ (.slice a6 x.slots.length c6) (.slice a7 x.cols.length c7') (ZAx HP3.out) (ZAa HP3.out) (by omega));clear hb3;have hP3:=HP3.out;obtain ⟨_,p2',p3,p4',_⟩:=hP3;obtain ⟨⟨z0,z1,z2,z3,z4⟩,z5,z6,z7,z8,z9⟩:=ZAS p2';obtain ⟨r0,r1,r2,r3⟩:=ZAD p3;obtain ⟨x0,x1,x2,x3⟩:=ZAD p4')
  |(go_at_call 102;(with_reducible refine (hCo _ _ _ _ _ (ZEW h0 HP3.out)).mono ?_);rintro e w4 ⟨rfl,hb4⟩;have HP4:=ZZY (ZAl HP3.out hb4);have HE:=ZZY (ZAu w w4 (w.heap.size+1+1) _ _ (.slice a6 x.slots.length c6) (.slice a7 x.cols.length c7') (ZAx HP4.out) (ZAa HP4.out) (by omega));clear hb4;have hP4:=HP4.out;obtain ⟨_,p2',p3,p4',_⟩:=hP4;obtain ⟨⟨z0,z1,z2,z3,z4⟩,z5,z6,z7,z8,z9⟩:=ZAS p2';obtain ⟨r0,r1,r2,r3⟩:=ZAD p3;obtain ⟨x0,x1,x2,x3⟩:=ZAD p4')
  |(at_builtin;have hA:=ZEF (ZFT HP4.out) (Below.heapsize9 w4 (.cells #[.int .i64 (x.slots.length:Int)] 3));have HA:=ZZY hA;clear hA;(refine ZAj _ rfl _ _ 52 rfl (w.heap.size+1+1+1) 3 j0 (.int .i64 0) 1 8 Tryz.underlying52 hj hj0 hj1 hj2 rfl (by decide) (.slice a7 x.cols.length c7') x.cols.length _ rfl (ZEs HA.out) (some ⟨w4.heap.size,0,none⟩) 1 1 [.int .i64 (x.slots.length:Int)] rfl ⟨rfl,.inr ⟨_,rfl,ZBC w4 [_] _⟩⟩ (by simp [Value.oneCell']) (by unfold maxLen;omega) (by omega) (ZGe HA.out) ?_);intro v5 w5 ho5 hg5 ha5;obtain ⟨a5,c5,rfl⟩:=ZAe ho5;obtain ⟨e5,hR5⟩:=ZNR HA.out hg5 ha5 (x.cols ++ [x.slots.length]) (by simpa using ho5);have HR5:=ZZY hR5;clear ho5 hg5 ha5;obtain ⟨l0,l1,l2,l3⟩:=ZAD e5;obtain ⟨_,d2,_,d4,_⟩:=hR5;obtain ⟨⟨v0,v1,v2,v3,v4⟩,v5,v6,v7,v8,v9⟩:=ZAS d2;obtain ⟨v10,v11⟩:=ZAg d4;clear d2 d4 e5)
  |(at_builtin;have hU:=ZEF HR5.out (Below.heapsize9 _ (.cells #[.string sl.nm,.int .i64 sl.ty,.bool false,q5,q6,q7,q8] 51));have HU:=ZZY hU;clear hU;obtain ⟨cs,hcs,hsc⟩:=ZKA HU.out;(refine ZAj _ rfl _ _ 37 rfl (w.heap.size+1+1+1) 51 i0 _ 7 88 Tryz.underlying37 hi hi0 hi1' hi2' rfl (by decide) (.slice a6 x.slots.length c6) x.slots.length cs rfl hcs (some ⟨w5.heap.size,0,none⟩) 1 1 [.string sl.nm,.int .i64 sl.ty,.bool false,q5,q6,q7,q8] rfl ⟨rfl,.inr ⟨_,rfl,ZFC (by simp) [_,_,_,_,_,_,_] _⟩⟩ (ZFc H7.out) (by unfold maxLen;omega) (by omega) (ZGe HU.out) ?_);intro v6 w6 ho6 hg6 ha6;obtain ⟨a8,c8',rfl⟩:=ZAe ho6;obtain ⟨e6,hR6⟩:=ZL3 HU.out hg6 ha6 (x.slots ++ [sl]) _ (ZCj hsc (ZDx H7.out)) (by simpa using ho6);have HR6:=ZZY hR6;have HE:=ZZY (ZAu w _ (w.heap.size+1+1) _ _ (.slice a8 (x.slots.length+1) c8') (.slice a5 (x.cols.length+1) c5) hR6.2.2.1 hR6.2.2.2.2.1 (by omega));clear ho6 hg6 ha6 hcs hsc;obtain ⟨k0,k1,k2,k3⟩:=ZAD e6;obtain ⟨_,_,d3,d4,_⟩:=hR6;obtain ⟨k4,k5,k6,k7⟩:=ZAD d3;obtain ⟨k8,k9⟩:=ZAg d4;clear d3 d4 e6))
 ·refine bodyPost_ret (ZAR Tryz.results103 _ _ (w.heap.size+1+1) _ _ _ _ rfl HE.out.1 Tryz.underlying128 rfl (by kernel_rfl)) rfl ?_
  exact HQ.out _ _ _ (ZEX HR6.out) HE.out.2
 ·exact (((Below.refl _ w).alloc (Nat.le_refl _) _).alloc (by simp) _).alloc (by simp;omega) _
open Go
section
variable {P:Program} {md:Region.Mode} {ops:Array Oper} {Q:Exit→Act→World→Prop} {S:World→Prop} {z:Nat}
def ZEt (P:Program) (md:Region.Mode) (ops:Array Oper) (Q:Exit→Act→World→Prop) (S:World→Prop) (z:Nat):Nat→Array Bool→Act→World→Prop
 | 0,L,a,w=>Region.ready md ops L = []∧Q .normal a w
 |n+1,L,a,w=>(Region.ready md ops L = []→Q .normal a w)∧∀ i,i∈Region.ready md ops L→wpOp P ops Q i (fun a' w'=>ZEt P md ops Q S z n (L.setIfInBounds i true) a' w'∧(i=z∨S w')) a w
theorem ZNS (n:Nat):∀ (L:Array Bool) (a:Act) (w:World),ZEt P md ops Q S z n L a w→wpAny P md ops Q n L a w:=by
 induction n with
 |zero=>exact fun _ _ _ h=>h
 |succ n ih=>exact fun L a w h=>⟨h.1,fun i hi=>wpOp_mono (fun a' w' k=>ih _ a' w' k.1) (h.2 i hi)⟩
def waitsB (md:Region.Mode) (ops:Array Oper) (z i:Nat):Bool:=match ops[z]? with
 |some o=>o.after.any fun e=>Region.binds md e && e.on == i
 |none=>true
theorem ZNT {i:Nat} {L:Array Bool} (hz:waitsB md ops z i=true) (hi:i∈Region.ready md ops L):z ∉ Region.ready md ops L:=by
 intro h
 obtain ⟨_,o,ho,hall⟩:=mem_ready.1 h
 rw [waitsB,ho] at hz
 obtain ⟨e,he,hb⟩:=Array.any_eq_true'.1 hz
 simp only [Bool.and_eq_true,beq_iff_eq] at hb
 have h1:=hall e he hb.1
 have h0:=(mem_ready.1 hi).1
 rw [hb.2] at h1
 rcases Nat.lt_or_ge i L.size with hl | hl
 ·simp [hl] at h0 h1;rw [h0] at h1;cases h1
 ·simp [Array.getElem?_eq_none hl] at h1
theorem ZKB {i:Nat} {oi:Oper} {v:Value} (hi:ops[i]? = some oi) (hsel:∀ (j:Nat) (o:Oper) cs b,ops[j]? = some o→o.op≠.select cs b)
  (hQ:∀ c a w,Q (.panic c) (a.put oi.dst v) w→Q (.panic c) a w) (hz:waitsB md ops z i=true) (n:Nat):∀ (L:Array Bool) (a:Act) (w:World),
   (∀ j oj,ops[j]? = some oj→j≠i→L.getD j true=false→(∀ e∈oj.after,Region.binds md e=true→e.on≠i)→oi.apart ops oj=true) →
   i∈Region.ready md ops L→YieldsIf P ops S oi v a→S w→ZEt P md ops Q S z n (L.setIfInBounds i true) (a.put oi.dst v) w→ZEt P md ops Q S z (n+1) L a w:=by
 have nil:∀ {L:Array Bool} {p:Prop},i∈Region.ready md ops L→Region.ready md ops L = []→p:=fun hr h=>by rw [h] at hr;cases hr
 induction n with
 |zero=>
  intro L a w _ hr hy hS H
  refine ⟨nil hr,fun j hj=>?_⟩
  rcases Decidable.em (j=i) with rfl | hji
  ·exact hy.wpOp hi hS ⟨H,.inr hS⟩
  ·have h1:=ready_mono hj hji
   rw [H.1] at h1
   cases h1
 |succ n ih=>
  intro L a w hfree hr hy hS H
  refine ⟨nil hr,fun j hj=>?_⟩
  rcases Decidable.em (j=i) with rfl | hji
  ·exact hy.wpOp hi hS ⟨H,.inr hS⟩
  ·have hjz:j≠z:=fun e=>ZNT hz hr (e ▸ hj)
   obtain ⟨hun,oj,hoj,hall⟩:=mem_ready.1 hj
   have hno:∀ e∈oj.after,Region.binds md e=true→e.on≠i:=by
    intro e he hb heq
    have h1:=hall e he hb
    have h0:=(mem_ready.1 hr).1
    rw [heq] at h1
    rcases Nat.lt_or_ge i L.size with hl | hl
    ·simp [hl] at h0 h1;rw [h0] at h1;cases h1
    ·simp [Array.getElem?_eq_none hl] at h1
   have hstep:=wpOp_putIf hoj (hfree j oj hoj hji hun hno) (fun cs b=>hsel i oi cs b hi) (fun cs b=>hsel j oj cs b hoj) hQ hy (H.2 j (ready_mono hj hji))
   refine wpOp_mono (fun a' w' k=>?_) hstep
   obtain ⟨ky,kl,ks⟩:=k
   have hS':=ks.resolve_left hjz
   refine ⟨ih _ a' w' (fun k ok hk hki hu hn=>hfree k ok hk hki ?_ hn) (ready_mono hr (Ne.symm hji)) ky hS' ?_,.inr hS'⟩
   ·rcases Decidable.em (j=k) with rfl | hjk
    ·exact hun
    ·rwa [getD_set_ne true hjk] at hu
   ·rw [Array.setIfInBounds_comm _ _ hji]
    exact kl
theorem ZAO {i:Nat} {oi:Oper} {v:Value} {n:Nat} {L:Array Bool} {a:Act} {w:World} (hi:ops[i]? = some oi) (hs:Region.noSelect ops=true) (hf:Region.free md ops L i=true) (hr:(Region.ready md ops L).contains i=true) (hz:waitsB md ops z i=true)
  (hQ:∀ c a w,Q (.panic c) (a.put oi.dst v) w→Q (.panic c) a w) (hy:YieldsIf P ops S oi v a) (hS:S w) (h:ZEt P md ops Q S z n (L.setIfInBounds i true) (a.put oi.dst v) w):ZEt P md ops Q S z (n+1) L a w:=
 ZKB hi (Region.noSelect_spec hs) hQ hz n L a w (Region.free_spec hi hf) (by simpa using hr) hy hS h
theorem ZBH {i:Nat} {o:Oper} {n:Nat} {L:Array Bool} {a:Act} {w:World} (hr:Region.ready md ops L = [i]) (ho:ops[i]? = some o)
  (h:∀ K':Act→World→Prop,Shut (∀ a w,(i=z∨S w)→ZEt P md ops Q S z n (L.setIfInBounds i true) a w→K' a w)→if Region.wanted o (yielded ops a.tmps)=true then Oper.wp P o a w K' Q else K' (a.put o.dst undef) w):ZEt P md ops Q S z (n+1) L a w:=by
 refine ⟨fun h0=>(by rw [hr] at h0;cases h0),fun j hj=>?_⟩
 rw [hr] at hj
 obtain rfl:=List.mem_singleton.1 hj
 exact wpOp_step ho fun K' hK=>h K' (fun a w hS hL=>hK a w ⟨hL,hS⟩)
theorem ZFt {i j:Nat} {o o':Oper} {n:Nat} {L:Array Bool} {a:Act} {w:World} (hr:Region.ready md ops L = [i,j]) (ho:ops[i]? = some o) (ho':ops[j]? = some o')
  (h:∀ K':Act→World→Prop,Shut (∀ a w,(i=z∨S w)→ZEt P md ops Q S z n (L.setIfInBounds i true) a w→K' a w)→if Region.wanted o (yielded ops a.tmps)=true then Oper.wp P o a w K' Q else K' (a.put o.dst undef) w)
  (h':∀ K':Act→World→Prop,Shut (∀ a w,(j=z∨S w)→ZEt P md ops Q S z n (L.setIfInBounds j true) a w→K' a w)→if Region.wanted o' (yielded ops a.tmps)=true then Oper.wp P o' a w K' Q else K' (a.put o'.dst undef) w):ZEt P md ops Q S z (n+1) L a w:=by
 refine ⟨fun h0=>(by rw [hr] at h0;cases h0),fun k hk=>?_⟩
 rw [hr] at hk
 rcases List.mem_cons.1 hk with rfl | hk
 ·exact wpOp_step ho fun K' hK=>h K' (fun a w hS hL=>hK a w ⟨hL,hS⟩)
 ·obtain rfl:=List.mem_singleton.1 hk
  exact wpOp_step ho' fun K' hK=>h' K' (fun a w hS hL=>hK a w ⟨hL,hS⟩)
theorem ZCM {L:Array Bool} {a:Act} {w:World} (hr:Region.ready md ops L = []) (h:Q .normal a w):∀ n,ZEt P md ops Q S z n L a w
 | 0=>⟨hr,h⟩
 | _+1=>⟨fun _=>h,by rw [hr];simp⟩
theorem ZD5 {id:Nat} {a:Act} {w:World} (z n:Nat) (L:Array Bool) (hn:ops.size=n) (hL:L=Array.replicate n false) (hm:P.follows .mixedOrders=true) (h:ZEt P .any ops Q S z n L a w.drew):(Code.region id ops true).wp P Q a w:=by
 subst hL;subst hn
 exact wp_region_any hm (ZNS _ _ _ _ h)
end
open Go.RowKit Go.Shelf
theorem ZIj (w:World):(sizeOf (Tryz.prog.elem 52)).run Tryz.prog w=.ok 1 w:=by kernel_rfl
theorem ZIk (ad:Addr) (q j:Nat):(ad.add q).add j=ad.add (q+j):=by
 obtain ⟨b,o,sp⟩:=ad
 by_cases hq:q=0<;>by_cases hj:j=0<;>cases sp<;>simp [Addr.add,hq,hj,Nat.add_assoc]
theorem ZGf {W:World} {a:Option Addr} {n:Nat} {xs:List Value} (h:ZB7 W 1 a n xs) (q k m:Nat) (hk:q+k≤n) (hm:q+k≤m):ZB7 W 1 (if m=q then a else a.map (·.add (q*1))) k ((xs.drop q).take k):=by
 obtain ⟨h1,h2⟩:=h
 rw [Nat.mul_one] at h1
 refine ⟨by rw [Nat.mul_one,List.length_take,List.length_drop];omega, ?_⟩
 rcases Nat.eq_zero_or_pos k with hk0 | hk0
 ·exact .inl hk0
 ·rcases h2 with h2 | ⟨ad,rfl,hc⟩
  ·omega
  ·rw [if_neg (by omega)]
   refine .inr ⟨ad.add (q*1),rfl,fun j u hj=>?_⟩
   rw [List.getElem?_take] at hj
   split at hj
   ·rw [List.getElem?_drop] at hj
    have:=hc (q+j) u hj
    rw [Nat.mul_one,ZIk]
    exact this
   ·cases hj
theorem ZNU (a:Option Addr) (n c q:Nat) (hq:q≤n) (hnc:n≤c):∃ a',(∀ W,(Instr.slice 52 (.slice a n c) none (some (.int .i64 (q:Int))) none).run Tryz.prog W=.ok (.slice a' q c) W) ∧
  ∀ (W:World) (xs:List Value),ZB7 W 1 a n xs→ZB7 W 1 a' q (xs.take q):=by
 refine ⟨if c=0 then a else a.map (·.add (0*1)),fun W=>?_,fun W xs h=>?_⟩
 ·have h1:=run_slice_h (P:=Tryz.prog) W 52 a n c Tryz.underlying52 .i64 (q:Int) (by omega) (by omega)
  rw [ZIj W] at h1
  simpa [Result.andThen,sliced] using h1
 ·have:=ZGf h 0 q c (by omega) (by omega)
  simpa using this
theorem ZOk (a:Option Addr) (n c q:Nat) (hq:q≤n) (hnc:n≤c):∃ a',(∀ W,(Instr.slice 52 (.slice a n c) (some (.int .i64 (q:Int))) none none).run Tryz.prog W=.ok (.slice a' (n-q) (c-q)) W) ∧
  ∀ (W:World) (xs:List Value),ZB7 W 1 a n xs→ZB7 W 1 a' (n-q) (xs.drop q):=by
 refine ⟨if c=q then a else a.map (·.add (q*1)),fun W=>?_,fun W xs h=>?_⟩
 ·have h1:=run_slice_l (P:=Tryz.prog) W 52 a n c Tryz.underlying52 .i64 (q:Int) (by omega) (by omega)
  rw [ZIj W] at h1
  simpa [Result.andThen,sliced] using h1
 ·have:=ZGf h q (n-q) c (by omega) (by omega)
  rwa [List.take_of_length_le (by have:=h.1;rw [List.length_drop];omega)] at this
def S2S (w:World) (st:Array Value) (b6:Nat) (s6 c6:Value) (W:World):Prop:=Below w.heap.size w W∧W.heap[w.heap.size+1]? = some (.cells st 54 (0,0))∧W.heap[b6]? = some (.cells #[s6,c6] 128 (0,0))
theorem ZIl (l:List Nat):∀ u∈(l.map Int.ofNat).map (Value.int .i64),u.oneCell'=true:=by
 intro u hu
 obtain ⟨i,_,rfl⟩:=List.mem_map.1 hu
 rfl
theorem ZIm {w0 w V:World} {x:Sc.Ver} {b6:Nat} {o0 o1 s6 c6 v:Value} {st:Array Value} (h:ZEr w0 w V x b6 o0 o1 st s6 c6) (nc:List Nat) (C:Nat) (hC:w.heap.size+1+1+1≤C) (hown:V.ownsRow C 3 1 v nc.length ((nc.map Int.ofNat).map (Value.int .i64))) (hs:∀ b,s6.ownBlock=some b→b<C) (h6:b6<C) :
  ZEr w0 w (V.setCell ⟨b6,1,none⟩ v) ⟨x.slots,nc⟩ b6 o0 o1 st s6 v:=by
 obtain ⟨g0,g1,g2,g3,g4,⟨cs,p1,p2,p3,p4⟩,h1,h2,h3⟩:=h
 have kg:=ZAJ V b6 1 v
 have far:∀ b o,b≠b6→V.heap[b]? = some o→(V.setCell ⟨b6,1,none⟩ v).heap[b]? = some o:=fun b o hne hb=>(kg.block b (ZZZ hb).1 (fun e=>by injection e with e;omega)).trans hb
 have q:=ZAV hown
 refine ⟨far _ _ (by omega) g0,far _ _ (by omega) g1,far _ _ (by omega) g2,ZHR g3 v,ZAE g4 kg (fun b e=>by injection e with e;omega) g4.size,⟨cs,ZAN p1 kg (fun b e1 e2=>by cases e1;exact h2 _ e2 rfl),p2,ZAH (ZAN hown kg (fun b e1 e2=>by cases e1;have:=(q _ e2).2;omega)) hC,fun b e1 e2=>?_⟩,h1,h2,fun b e=>?_⟩
 ·have:=hs b e1
  have:=(q b e2).2
  omega
 ·have:=(q b e).2
  omega
theorem ZHT (x:Sc.Ver) (s:StepM) (sa:Option Addr) (sc:Nat) (ca:Option Addr) (cc:Nat) (w0 w:World) (T:Value) (hsl:x.slots.length≤100000) (hcl:x.cols.length≤100000) (hv:ZBq w0 w x sa sc ca cc) (hs0:ZBS w0 s T) (h0:Below w0.heap.size w0 w) (hk:s.kd=2) (hin:0≤s.col∧s.col<x.cols.length) (hre:Sc.rest s=true) (htwo:2≤x.cols.length) :
  Calls Tryz.prog 103 #[.agg #[.slice sa x.slots.length sc,.slice ca x.cols.length cc],T] w (ZAo w0 w x s):=by
 have hs:=ZAP h0 hs0
 have hC:=fun W (hb:Below w.heap.size w W)=>ZA2 x sa sc ca cc w0 w W hsl hcl hv hb
 have hR:=fun W (hb:Below w.heap.size w W)=>ZA0 s W T (ZAP hb hs)
 rw [hre] at hR
 obtain ⟨kd,col,sl,od⟩:=s
 obtain ⟨q2,q3,q4,q5,q6,q7,q8,oa,oc,rfl,hi1,hi2,h7,hod,_⟩:=hs
 simp only at hk hi1 hi2 hre h7 hin ⊢
 subst hk
 obtain ⟨hnm,hty2,rfl,rfl,rfl,hdf⟩:=h7
 obtain ⟨k,rfl⟩:∃ k:Nat,col=(k:Int):=⟨col.toNat,by omega⟩
 have hk1:k<x.cols.length:=by omega
 have hno:Sc.step x ⟨2,(k:Int),sl,od⟩=some ⟨x.slots,x.cols.eraseIdx k⟩:=by
  unfold Sc.step
  simp only
  rw [if_neg (by rw [hre];simp),if_neg (by decide),if_neg (by decide),if_neg (by omega),if_pos trivial,if_pos htwo,Int.toNat_natCast]
 obtain ⟨Q,hQ⟩:∃ Q,ZAo w0 w x ⟨2,(k:Int),sl,od⟩=Q:=⟨_,rfl⟩
 have hq:∀ sv cv w',ZBd w.heap.size w0 w' ⟨x.slots,x.cols.eraseIdx k⟩ sv cv→Below w.heap.size w w'→Q (.returned (.tuple #[.agg #[sv,cv],.bool true])) w':=by
  intro sv cv w' h1 h2
  rw [←hQ];unfold ZAo;rw [hno];exact ⟨⟨sv,cv,rfl,h1⟩,h2⟩
 have HQ:=ZZY hq
 clear hq
 rw [hQ]
 clear hQ hno hod
 have d4:decide ((k:Int)<0)=false:=by simp
 have d5:decide ((x.cols.length:Int)≤(k:Int))=false:=by simp;omega
 have d6:decide ((x.cols.length:Int)<2)=false:=by simp;omega
 have d6n:decide (x.cols.length<2)=false:=by simp;omega
 have hwr:IntKind.i64.wrap ((k:Int)+1)=((k+1:Nat):Int):=by rw [IntKind.wrap_i64];omega
 obtain ⟨j0,hj,hj0,hj1,hj2⟩:=info_parts ZCi
 clear hre
 have HV:=ZZY hv
 clear hv
 go_enter func103,ntmps103
 go_upto_region 15 with (first
  |(go_at_call 115;(with_reducible refine (hC _ ?_).mono ?_);rotate_left;rintro e w1 ⟨⟨sv,cv,rfl,hvo⟩,hb1⟩;obtain ⟨a6,c6,a7,c7',rfl,rfl⟩:=ZBG hvo;obtain ⟨hP,hq2,hq3⟩:=ZBP w0 w w1 x sa sc ca cc _ _ _ _ _ hb1 hvo;have HP:=ZZY hP;clear hq2 hq3 hb1;obtain ⟨_,p2,_,p4,_⟩:=hP;obtain ⟨⟨y0,y1,y2,y3,y4⟩,y5,y6,y7,y8,y9⟩:=ZAS p2)
  |(go_at_call 116;(with_reducible refine (hR _ (ZAa HP.out)).mono ?_);rintro e w2 ⟨rfl,hb2⟩;have HP2:=ZZY (ZAl HP.out hb2);clear hb2;have hP2:=HP2.out;obtain ⟨_,p2',p3,p4',_⟩:=hP2;obtain ⟨⟨z0,z1,z2,z3,z4⟩,z5,z6,z7,z8,z9⟩:=ZAS p2';obtain ⟨r0,r1,r2,r3⟩:=ZAD p3;obtain ⟨x0,x1,x2,x3⟩:=ZAD p4'))
 ·obtain ⟨b6,hb6⟩:∃ b,w1.heap.size=b:=⟨_,rfl⟩
  have hR2:=ZFT HP2.out
  have hs6lt:=HP2.out.2.2.2.2.2.2.2.1
  rw [hb6] at hR2 hs6lt ⊢
  obtain ⟨oc6,hoc⟩:∃ cs,ZB7 w2 1 a7 x.cols.length cs∧cs=(x.cols.map Int.ofNat).map (Value.int .i64):=⟨_,ZFh (ZEs hR2),rfl⟩
  obtain ⟨hoc,rfl⟩:=hoc
  have hcap:x.cols.length≤c7':=by
   rcases (ZEs hR2).2 with ⟨_,e⟩ | ⟨g,cap,cur,e,_,_,hn,_⟩
   ·omega
   ·injection e with _ _ e;omega
  obtain ⟨ah,hah,hahc⟩:=ZNU a7 x.cols.length c7' k (by omega) hcap
  obtain ⟨al,hal,halc⟩:=ZOk a7 x.cols.length c7' (k+1) (by omega) hcap
  rw [show ((k+1:Nat):Int)=(k:Int)+1 by omega] at hal hwr
  have HO:=ZZY hoc;have HAHC:=ZZY hahc;have HALC:=ZZY halc
  have hb6lt:b6<w2.heap.size:=(ZZZ hR2.2.2.2.1).1
  have hwb6:=hR2.2.2.2.2.2.2.1
  have HR2:=ZZY hR2
  have hS0:S2S w #[.int .i64 2,.int .i64 (k:Int),.string sl.nm,.int .i64 sl.ty,.bool sl.rq,q5,q6,q7,q8,.slice oa od.length oc] b6 (.slice a6 x.slots.length c6) (.slice a7 x.cols.length c7') w2.drew:=⟨(ZAa HP2.out).drew,HP2.out.2.1,HR2.out.2.2.2.1⟩
  clear z0 z1 z2 z3 z4 z5 z6 z7 z8 z9 r0 r1 r2 r3 x0 x1 x2 x3 y0 y1 y2 y3 y4 y5 y6 y7 y8 y9 p2 p4 p2' p3 p4' hoc hahc halc hR2 hb6
  refine ZD5 (S:=S2S w #[.int .i64 2,.int .i64 (k:Int),.string sl.nm,.int .i64 sl.ty,.bool sl.rq,q5,q6,q7,q8,.slice oa od.length oc] b6 (.slice a6 x.slots.length c6) (.slice a7 x.cols.length c7')) 15 16 #[false,false,false,false,false,false,false,false,false,false,false,false,false,false,false,false] (by kernel_rfl) (by kernel_rfl) (by kernel_rfl) ?_
  have hBV:=(Below.refl w2.heap.size w2).drew
  obtain ⟨V0,hV0⟩:∃ V0,w2.drew=V0:=⟨_,rfl⟩
  rw [hV0] at hS0 hBV ⊢
  clear hV0
  refine ZAO (i:=1) (v:=?_) rfl (by kernel_rfl) (by kernel_rfl) (by kernel_rfl) (by kernel_rfl) (fun _ _ _ h=>h) (Or.inl ⟨by rfl, ?_⟩) (by assumption) ?_
  rotate_left
  ·intro w hSw;obtain ⟨_,hx1,hx2⟩:=hSw;obtain ⟨⟨t0,t1,t2,t3,t4⟩,t5,t6,t7,t8,t9⟩:=ZAS hx1;obtain ⟨u0,u1⟩:=ZAg hx2;go_simp;(try with_reducible rfl)
  (try simp only [Act.put,ZZX,ZZW,ZZV])
  refine ZAO (i:=2) (v:=?_) rfl (by kernel_rfl) (by kernel_rfl) (by kernel_rfl) (by kernel_rfl) (fun _ _ _ h=>h) (Or.inl ⟨by rfl, ?_⟩) (by assumption) ?_
  rotate_left
  ·intro w hSw;obtain ⟨_,hx1,hx2⟩:=hSw;obtain ⟨⟨t0,t1,t2,t3,t4⟩,t5,t6,t7,t8,t9⟩:=ZAS hx1;obtain ⟨u0,u1⟩:=ZAg hx2;go_simp;(try with_reducible rfl)
  (try simp only [Act.put,ZZX,ZZW,ZZV])
  refine ZAO (i:=3) (v:=?_) rfl (by kernel_rfl) (by kernel_rfl) (by kernel_rfl) (by kernel_rfl) (fun _ _ _ h=>h) (Or.inl ⟨by rfl, ?_⟩) (by assumption) ?_
  rotate_left
  ·intro w hSw;obtain ⟨_,hx1,hx2⟩:=hSw;obtain ⟨⟨t0,t1,t2,t3,t4⟩,t5,t6,t7,t8,t9⟩:=ZAS hx1;obtain ⟨u0,u1⟩:=ZAg hx2;go_simp;(try with_reducible rfl)
  (try simp only [Act.put,ZZX,ZZW,ZZV])
  refine ZAO (i:=4) (v:=?_) rfl (by kernel_rfl) (by kernel_rfl) (by kernel_rfl) (by kernel_rfl) (fun _ _ _ h=>h) (Or.inl ⟨by rfl, ?_⟩) (by assumption) ?_
  rotate_left
  ·intro w hSw;obtain ⟨_,hx1,hx2⟩:=hSw;obtain ⟨⟨t0,t1,t2,t3,t4⟩,t5,t6,t7,t8,t9⟩:=ZAS hx1;obtain ⟨u0,u1⟩:=ZAg hx2;go_simp;(try with_reducible rfl)
  (try simp only [Act.put,ZZX,ZZW,ZZV])
  refine ZAO (i:=5) (v:=?_) rfl (by kernel_rfl) (by kernel_rfl) (by kernel_rfl) (by kernel_rfl) (fun _ _ _ h=>h) (Or.inl ⟨by rfl, ?_⟩) (by assumption) ?_
  rotate_left
  ·intro w hSw;obtain ⟨_,hx1,hx2⟩:=hSw;obtain ⟨⟨t0,t1,t2,t3,t4⟩,t5,t6,t7,t8,t9⟩:=ZAS hx1;obtain ⟨u0,u1⟩:=ZAg hx2;go_simp;(try with_reducible rfl)
  (try simp only [Act.put,ZZX,ZZW,ZZV])
  refine ZAO (i:=7) (v:=?_) rfl (by kernel_rfl) (by kernel_rfl) (by kernel_rfl) (by kernel_rfl) (fun _ _ _ h=>h) (Or.inl ⟨by rfl, ?_⟩) (by assumption) ?_
  rotate_left
  ·intro w hSw;obtain ⟨_,hx1,hx2⟩:=hSw;obtain ⟨⟨t0,t1,t2,t3,t4⟩,t5,t6,t7,t8,t9⟩:=ZAS hx1;obtain ⟨u0,u1⟩:=ZAg hx2;go_simp;(try with_reducible rfl)
  (try simp only [Act.put,ZZX,ZZW,ZZV])
  refine ZAO (i:=8) (v:=?_) rfl (by kernel_rfl) (by kernel_rfl) (by kernel_rfl) (by kernel_rfl) (fun _ _ _ h=>h) (Or.inl ⟨by rfl, ?_⟩) (by assumption) ?_
  rotate_left
  ·intro w hSw;obtain ⟨_,hx1,hx2⟩:=hSw;obtain ⟨⟨t0,t1,t2,t3,t4⟩,t5,t6,t7,t8,t9⟩:=ZAS hx1;obtain ⟨u0,u1⟩:=ZAg hx2;go_simp;(try with_reducible rfl)
  (try simp only [Act.put,ZZX,ZZW,ZZV])
  refine ZAO (i:=9) (v:=?_) rfl (by kernel_rfl) (by kernel_rfl) (by kernel_rfl) (by kernel_rfl) (fun _ _ _ h=>h) (Or.inl ⟨by rfl, ?_⟩) (by assumption) ?_
  rotate_left
  ·intro w hSw;obtain ⟨_,hx1,hx2⟩:=hSw;obtain ⟨⟨t0,t1,t2,t3,t4⟩,t5,t6,t7,t8,t9⟩:=ZAS hx1;obtain ⟨u0,u1⟩:=ZAg hx2;go_simp;(try with_reducible rfl)
  (try simp only [Act.put,ZZX,ZZW,ZZV])
  refine ZAO (i:=10) (v:=?_) rfl (by kernel_rfl) (by kernel_rfl) (by kernel_rfl) (by kernel_rfl) (fun _ _ _ h=>h) (Or.inl ⟨by rfl, ?_⟩) (by assumption) ?_
  rotate_left
  ·intro w hSw;obtain ⟨_,hx1,hx2⟩:=hSw;obtain ⟨⟨t0,t1,t2,t3,t4⟩,t5,t6,t7,t8,t9⟩:=ZAS hx1;obtain ⟨u0,u1⟩:=ZAg hx2;go_simp;(try with_reducible rfl)
  (try simp only [Act.put,ZZX,ZZW,ZZV])
  refine ZAO (i:=11) (v:=?_) rfl (by kernel_rfl) (by kernel_rfl) (by kernel_rfl) (by kernel_rfl) (fun _ _ _ h=>h) (Or.inl ⟨by rfl, ?_⟩) (by assumption) ?_
  rotate_left
  ·intro w hSw;obtain ⟨_,hx1,hx2⟩:=hSw;obtain ⟨⟨t0,t1,t2,t3,t4⟩,t5,t6,t7,t8,t9⟩:=ZAS hx1;obtain ⟨u0,u1⟩:=ZAg hx2;go_simp;(try with_reducible rfl)
  (try simp only [Act.put,ZZX,ZZW,ZZV])
  refine ZAO (i:=12) (v:=?_) rfl (by kernel_rfl) (by kernel_rfl) (by kernel_rfl) (by kernel_rfl) (fun _ _ _ h=>h) (Or.inl ⟨by rfl, ?_⟩) (by assumption) ?_
  rotate_left
  ·intro w hSw;obtain ⟨_,hx1,hx2⟩:=hSw;obtain ⟨⟨t0,t1,t2,t3,t4⟩,t5,t6,t7,t8,t9⟩:=ZAS hx1;obtain ⟨u0,u1⟩:=ZAg hx2;go_simp;(try with_reducible rfl)
  (try simp only [Act.put,ZZX,ZZW,ZZV])
  (with_reducible refine ZBH (i:=0) (o:=?ob0) (by kernel_rfl) ?ho0 (fun K hK=>?st0))
  case ho0=>exact rfl
  go_simp
  have hA:=Below.heapsize9 V0 (.cells #[] 3)
  have o0:=ZCr V0 w2.heap.size 3 1 hBV.size
  have hHeld2:S2S w #[.int .i64 2,.int .i64 (k:Int),.string sl.nm,.int .i64 sl.ty,.bool sl.rq,q5,q6,q7,q8,.slice oa od.length oc] b6 (.slice a6 x.slots.length c6) (.slice a7 x.cols.length c7') (V0.alloc (.cells #[] 3)):=⟨hS0.1.trans (hA.mono hS0.1.size),(hA.block _ (ZZZ hS0.2.1).1).trans hS0.2.1,(hA.block _ (ZZZ hS0.2.2).1).trans hS0.2.2⟩
  replace hBV:=hBV.trans (hA.mono hBV.size)
  obtain ⟨V1,hU⟩:∃ U,V0.alloc (.cells #[] 3)=U:=⟨_,rfl⟩
  obtain ⟨g0,hg0⟩:∃ g,V0.heap.size=g:=⟨_,rfl⟩
  rw [hU] at o0 hHeld2 hBV ⊢
  rw [hg0] at o0 ⊢
  clear hU hA hS0 hg0
  refine hK.out _ _ (.inr hHeld2) ?_
  have hS0:=hHeld2
  clear hK K hHeld2
  (with_reducible refine ZBH (i:=6) (o:=?ob6) (by kernel_rfl) ?ho6 (fun K hK=>?st6))
  case ho6=>exact rfl
  refine ZA1 _ rfl _ _ 52 rfl w2.heap.size 3 j0 _ 1 8 Tryz.underlying52 hj hj0 hj1 hj2 rfl (by decide) (.slice (some ⟨g0,0,none⟩) 0 0) 0 [] (by first | rfl | simp [Act.eval]) o0 ah k c7' _ (by first | rfl | simp [Act.eval]) (HAHC.out _ _ (ZAs HO.out hBV)) (fun u hu=>ZIl _ u (List.mem_of_mem_take hu)) (by unfold maxLen;omega) (by omega) hBV.size ?_
  intro v16 V2 o6 hg at6
  have hB9:=ZAE hBV hg (fun b e=>(ZAV o0 b e).2) hBV.size
  rw [Nat.zero_add,List.nil_append] at o6
  have hHeld2:S2S w #[.int .i64 2,.int .i64 (k:Int),.string sl.nm,.int .i64 sl.ty,.bool sl.rq,q5,q6,q7,q8,.slice oa od.length oc] b6 (.slice a6 x.slots.length c6) (.slice a7 x.cols.length c7') V2:=⟨ZAE hS0.1 hg (fun b e=>by have:=(ZAV o0 b e).2;omega) hS0.1.size,(hg.block _ (ZZZ hS0.2.1).1 (fun e=>by have:=(ZAV o0 _ e.symm).2;omega)).trans hS0.2.1,(hg.block _ (ZZZ hS0.2.2).1 (fun e=>by have:=(ZAV o0 _ e.symm).2;omega)).trans hS0.2.2⟩
  obtain ⟨a16,c16,rfl⟩:=ZAe o6
  clear hBV hS0 hg at6 o0
  have hBV:=hB9
  clear hB9
  refine hK.out _ _ (.inr hHeld2) ?_
  have hS0:=hHeld2
  clear hK K hHeld2
  (with_reducible refine ZBH (i:=13) (o:=?ob13) (by kernel_rfl) ?ho13 (fun K hK=>?st13))
  case ho13=>exact rfl
  refine ZA1 _ rfl _ _ 52 rfl w2.heap.size 3 j0 _ 1 8 Tryz.underlying52 hj hj0 hj1 hj2 rfl (by decide) (.slice a16 k c16) k _ (by first | rfl | simp [Act.eval]) o6 al (x.cols.length-(k+1)) (c7'-(k+1)) _ (by first | rfl | simp [Act.eval]) (HALC.out _ _ (ZAs HO.out hBV)) (fun u hu=>ZIl _ u (List.mem_of_mem_drop hu)) (by unfold maxLen;omega) (by omega) hBV.size ?_
  intro v23 V3 o13 hg at13
  have hB9:=ZAE hBV hg (fun b e=>(ZAV o6 b e).2) hBV.size
  have hHeld2:S2S w #[.int .i64 2,.int .i64 (k:Int),.string sl.nm,.int .i64 sl.ty,.bool sl.rq,q5,q6,q7,q8,.slice oa od.length oc] b6 (.slice a6 x.slots.length c6) (.slice a7 x.cols.length c7') V3:=⟨ZAE hS0.1 hg (fun b e=>by have:=(ZAV o6 b e).2;omega) hS0.1.size,(hg.block _ (ZZZ hS0.2.1).1 (fun e=>by have:=(ZAV o6 _ e.symm).2;omega)).trans hS0.2.1,(hg.block _ (ZZZ hS0.2.2).1 (fun e=>by have:=(ZAV o6 _ e.symm).2;omega)).trans hS0.2.2⟩
  obtain ⟨a23,c23,rfl⟩:=ZAe o13
  clear hBV hS0 hg at13 o6
  have hBV:=hB9
  clear hB9
  refine hK.out _ _ (.inr hHeld2) ?_
  have hS0:=hHeld2
  clear hK K hHeld2
  refine ZAO (i:=14) (v:=?_) rfl (by kernel_rfl) (by kernel_rfl) (by kernel_rfl) (by kernel_rfl) (fun _ _ _ h=>h) (Or.inl ⟨by rfl, ?_⟩) (by assumption) ?_
  rotate_left
  ·intro w hSw;obtain ⟨_,hx1,hx2⟩:=hSw;obtain ⟨⟨t0,t1,t2,t3,t4⟩,t5,t6,t7,t8,t9⟩:=ZAS hx1;obtain ⟨u0,u1⟩:=ZAg hx2;go_simp;(try with_reducible rfl)
  (try simp only [Act.put,ZZX,ZZW,ZZV])
  (with_reducible refine ZBH (i:=15) (o:=?ob15) (by kernel_rfl) ?ho15 (fun K hK=>?st15))
  case ho15=>exact rfl
  have hR9:=ZEF HR2.out hBV
  obtain ⟨y0,y1,f0,f1⟩:=ZAD hR9.2.2.2.1
  go_simp
  have hne:(x.cols.eraseIdx k).length=k+(x.cols.length-(k+1)):=by rw [List.length_eraseIdx_of_lt hk1];omega
  have o13':V3.ownsRow w2.heap.size 3 1 (.slice a23 (k+(x.cols.length-(k+1))) c23) (x.cols.eraseIdx k).length (((x.cols.eraseIdx k).map Int.ofNat).map (Value.int .i64)):=by
   rw [hne,List.eraseIdx_eq_take_drop_succ,List.map_append,List.map_append,List.map_take,List.map_take,List.map_drop,List.map_drop]
   exact o13
  have hR99:=ZIm hR9 (x.cols.eraseIdx k) w2.heap.size (by omega) o13' (fun b e=>by have:=hs6lt b e;omega) hb6lt
  have HR9:=ZZY hR99
  have HE:=ZZY (ZAu w (V3.setCell ⟨b6,1,none⟩ (.slice a23 (k+(x.cols.length-(k+1))) c23)) (w.heap.size+1+1) _ _ (.slice a6 x.slots.length c6) (.slice a23 (k+(x.cols.length-(k+1))) c23) hR99.2.2.1 hR99.2.2.2.2.1 (by omega))
  obtain ⟨_,e1',e2',e3',_⟩:=hR99
  obtain ⟨⟨z0,z1,z2,z3,z4⟩,z5,z6,z7,z8,z9⟩:=ZAS e1'
  obtain ⟨r0,r1,r2,r3⟩:=ZAD e2'
  obtain ⟨x0,x1⟩:=ZAg e3'
  refine hK.out _ _ (.inl rfl) ?_
  clear hK K e1' e2' e3' hR9 y0 y1 f0 f1
  refine ZCM (by kernel_rfl) ?_ _
  go_wp2
  refine bodyPost_ret (ZAR Tryz.results103 _ _ (w.heap.size+1+1) _ _ _ _ rfl HE.out.1 Tryz.underlying128 rfl (by kernel_rfl)) rfl ?_
  exact HQ.out _ _ _ (ZEX HR9.out) HE.out.2
 ·exact (((Below.refl _ w).alloc (Nat.le_refl _) _).alloc (by simp) _).alloc (by simp;omega) _
