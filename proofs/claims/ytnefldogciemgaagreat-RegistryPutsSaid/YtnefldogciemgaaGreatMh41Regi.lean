/- The document's step of layer 10: what a kind asks. (Made by gen_ref10g.py.) -/
import Derived.Test.YtnefldogciemgaaGreatMh40Regi
set_option linter.unusedVariables false
set_option linter.unusedSimpArgs false
namespace Go.Proofs.YtnefldogciemgaaGreat
open Go.RowKit Go.Shelf
set_option maxRecDepth 100000 in
set_option maxHeartbeats 4000000 in
theorem refStep_2few (x:Sc.Ver) (s:StepM) (sa:Option Addr) (sc:Nat) (ca:Option Addr) (cc:Nat) (w0 w:World) (T:Value) (hsl:x.slots.length≤100000) (hcl:x.cols.length≤100000) (hv:VerInA w0 w x sa sc ca cc) (hs0:RIsStep w0 s T) (h0:Below w0.heap.size w0 w) (hk:s.kd=2) (hin:0≤s.col∧s.col<x.cols.length) (hre:Sc.rest s=true) (hco:x.cols.length<2) :
  Calls Tryz.prog 88 #[.agg #[.slice sa x.slots.length sc,.slice ca x.cols.length cc],T] w (RStepC w0 w x s):=by
 have hs:=rIsStep_below h0 hs0
 have hC:=fun W (hb:Below w.heap.size w W)=>refCopy_in x sa sc ca cc w0 w W hsl hcl hv hb
 have hR:=fun W (hb:Below w.heap.size w W)=>refRest_any s W T (rIsStep_below hb hs)
 rw [hre] at hR
 obtain ⟨kd,col,sl,od⟩:=s
 obtain ⟨q2,q3,q4,q5,q6,q7,q8,oa,oc,rfl,hi1,hi2,h7,hod,_⟩:=hs
 simp only at hk hi1 hi2 hre hco hin h7 ⊢
 subst hk
 obtain ⟨hnm,hty,rfl,rfl,rfl,hdf⟩:=h7
 have hno:Sc.step x ⟨2,col,sl,od⟩=none:=by
  unfold Sc.step
  simp only
  rw [if_neg (by rw [hre];simp),if_neg (by decide),if_neg (by decide),if_neg (by omega),if_pos trivial,if_neg (by omega)]
 obtain ⟨Q,hQ⟩:∃ Q,RStepC w0 w x ⟨2,col,sl,od⟩=Q:=⟨_,rfl⟩
 have hq:∀ (a:Option Addr) (n c:Nat) (a':Option Addr) (n' c':Nat) (w':World),Below w.heap.size w w'→Q (.returned (.tuple #[.agg #[.slice a n c,.slice a' n' c'],.bool false])) w':=by
  intro a n c a' n' c' w' hb
  rw [←hQ];unfold RStepC;rw [hno];exact ⟨⟨a,n,c,a',n',c',rfl⟩,hb⟩
 have HQ:=Lib.hid hq
 clear hq
 rw [hQ]
 clear hQ hno hod
 have d4:decide (col<0)=false:=by simp;omega
 have d5:decide ((x.cols.length:Int)≤col)=false:=by simp;omega
 have d6:decide ((x.cols.length:Int)<2)=true:=by simp;omega
 clear hre hco
 have HV:=Lib.hid hv
 clear hv
 go_enter Tryz.func88,Tryz.ntmps88
 go_wp2_with (first
  |(go_at_call 113;(with_reducible refine (hC _ ?_).mono ?_);rotate_left;rintro e w1 ⟨⟨sv,cv,rfl,hvo⟩,hb1⟩;obtain ⟨a6,c6,a7,c7',rfl,rfl⟩:=ver_form hvo;obtain ⟨hP,hq2,hq3⟩:=step_pre w0 w w1 x sa sc ca cc _ _ _ _ _ hb1 hvo;have HP:=Lib.hid hP;clear hq2 hq3 hb1;obtain ⟨_,p2,_,p4,_⟩:=hP;obtain ⟨⟨y0,y1,y2,y3,y4⟩,y5,y6,y7,y8,y9⟩:=ten_cells p2)
  |(go_at_call 114;(with_reducible refine (hR _ (stepS_bel HP.out)).mono ?_);rintro e w2 ⟨rfl,hb2⟩;have hP2:=stepS_below HP.out hb2;have hE:=step_end2 w w2 (w.heap.size+1+1) _ _ (.slice a6 x.slots.length c6) (.slice a7 x.cols.length c7') (stepS_res hP2) (stepS_bel hP2) (by omega);have HE:=Lib.hid hE;clear hE hb2;obtain ⟨_,p2',p3,p4',_⟩:=hP2;obtain ⟨⟨z0,z1,z2,z3,z4⟩,z5,z6,z7,z8,z9⟩:=ten_cells p2';obtain ⟨r0,r1,r2,r3⟩:=two_all p3;obtain ⟨x0,x1,x2,x3⟩:=two_all p4'))
 ·refine bodyPost_ret (results_cell_tmp_row9 Tryz.results88 _ _ (w.heap.size+1+1) _ _ _ _ rfl HE.out.1 Tryz.underlying110 rfl (by kernel_rfl)) rfl ?_
  exact HQ.out _ _ _ _ _ _ _ HE.out.2
 ·exact (((Below.refl _ w).alloc (Nat.le_refl _) _).alloc (by simp) _).alloc (by simp;omega) _
set_option maxRecDepth 100000 in
set_option maxHeartbeats 4000000 in
theorem refStep_4low (x:Sc.Ver) (s:StepM) (sa:Option Addr) (sc:Nat) (ca:Option Addr) (cc:Nat) (w0 w:World) (T:Value) (hsl:x.slots.length≤100000) (hcl:x.cols.length≤100000) (hv:VerInA w0 w x sa sc ca cc) (hs0:RIsStep w0 s T) (h0:Below w0.heap.size w0 w) (hk:s.kd=4) (hin:0≤s.col∧s.col<x.cols.length) (hre:Sc.rest s=true) (hco:s.sl.ty<1) :
  Calls Tryz.prog 88 #[.agg #[.slice sa x.slots.length sc,.slice ca x.cols.length cc],T] w (RStepC w0 w x s):=by
 have hs:=rIsStep_below h0 hs0
 have hC:=fun W (hb:Below w.heap.size w W)=>refCopy_in x sa sc ca cc w0 w W hsl hcl hv hb
 have hR:=fun W (hb:Below w.heap.size w W)=>refRest_any s W T (rIsStep_below hb hs)
 rw [hre] at hR
 obtain ⟨kd,col,sl,od⟩:=s
 obtain ⟨q2,q3,q4,q5,q6,q7,q8,oa,oc,rfl,hi1,hi2,h7,hod,_⟩:=hs
 simp only at hk hi1 hi2 hre hco hin h7 ⊢
 subst hk
 obtain ⟨hnm,hty,rfl,rfl,rfl,hdf⟩:=h7
 have hno:Sc.step x ⟨4,col,sl,od⟩=none:=by
  unfold Sc.step
  simp only
  rw [if_neg (by rw [hre];simp),if_neg (by decide),if_neg (by decide),if_neg (by omega),if_neg (by decide),if_neg (by decide),if_neg (by omega)]
 obtain ⟨Q,hQ⟩:∃ Q,RStepC w0 w x ⟨4,col,sl,od⟩=Q:=⟨_,rfl⟩
 have hq:∀ (a:Option Addr) (n c:Nat) (a':Option Addr) (n' c':Nat) (w':World),Below w.heap.size w w'→Q (.returned (.tuple #[.agg #[.slice a n c,.slice a' n' c'],.bool false])) w':=by
  intro a n c a' n' c' w' hb
  rw [←hQ];unfold RStepC;rw [hno];exact ⟨⟨a,n,c,a',n',c',rfl⟩,hb⟩
 have HQ:=Lib.hid hq
 clear hq
 rw [hQ]
 clear hQ hno hod
 have d4:decide (col<0)=false:=by simp;omega
 have d5:decide ((x.cols.length:Int)≤col)=false:=by simp;omega
 have d6:decide (sl.ty<1)=true:=by simp;omega
 clear hre hco
 have HV:=Lib.hid hv
 clear hv
 go_enter Tryz.func88,Tryz.ntmps88
 go_wp2_with (first
  |(go_at_call 113;(with_reducible refine (hC _ ?_).mono ?_);rotate_left;rintro e w1 ⟨⟨sv,cv,rfl,hvo⟩,hb1⟩;obtain ⟨a6,c6,a7,c7',rfl,rfl⟩:=ver_form hvo;obtain ⟨hP,hq2,hq3⟩:=step_pre w0 w w1 x sa sc ca cc _ _ _ _ _ hb1 hvo;have HP:=Lib.hid hP;clear hq2 hq3 hb1;obtain ⟨_,p2,_,p4,_⟩:=hP;obtain ⟨⟨y0,y1,y2,y3,y4⟩,y5,y6,y7,y8,y9⟩:=ten_cells p2)
  |(go_at_call 114;(with_reducible refine (hR _ (stepS_bel HP.out)).mono ?_);rintro e w2 ⟨rfl,hb2⟩;have hP2:=stepS_below HP.out hb2;have hE:=step_end2 w w2 (w.heap.size+1+1) _ _ (.slice a6 x.slots.length c6) (.slice a7 x.cols.length c7') (stepS_res hP2) (stepS_bel hP2) (by omega);have HE:=Lib.hid hE;clear hE hb2;obtain ⟨_,p2',p3,p4',_⟩:=hP2;obtain ⟨⟨z0,z1,z2,z3,z4⟩,z5,z6,z7,z8,z9⟩:=ten_cells p2';obtain ⟨r0,r1,r2,r3⟩:=two_all p3;obtain ⟨x0,x1,x2,x3⟩:=two_all p4'))
 ·refine bodyPost_ret (results_cell_tmp_row9 Tryz.results88 _ _ (w.heap.size+1+1) _ _ _ _ rfl HE.out.1 Tryz.underlying110 rfl (by kernel_rfl)) rfl ?_
  exact HQ.out _ _ _ _ _ _ _ HE.out.2
 ·exact (((Below.refl _ w).alloc (Nat.le_refl _) _).alloc (by simp) _).alloc (by simp;omega) _
set_option maxRecDepth 100000 in
set_option maxHeartbeats 4000000 in
theorem refStep_4high (x:Sc.Ver) (s:StepM) (sa:Option Addr) (sc:Nat) (ca:Option Addr) (cc:Nat) (w0 w:World) (T:Value) (hsl:x.slots.length≤100000) (hcl:x.cols.length≤100000) (hv:VerInA w0 w x sa sc ca cc) (hs0:RIsStep w0 s T) (h0:Below w0.heap.size w0 w) (hk:s.kd=4) (hin:0≤s.col∧s.col<x.cols.length) (hre:Sc.rest s=true) (hco:63<s.sl.ty) :
  Calls Tryz.prog 88 #[.agg #[.slice sa x.slots.length sc,.slice ca x.cols.length cc],T] w (RStepC w0 w x s):=by
 have hs:=rIsStep_below h0 hs0
 have hC:=fun W (hb:Below w.heap.size w W)=>refCopy_in x sa sc ca cc w0 w W hsl hcl hv hb
 have hR:=fun W (hb:Below w.heap.size w W)=>refRest_any s W T (rIsStep_below hb hs)
 rw [hre] at hR
 obtain ⟨kd,col,sl,od⟩:=s
 obtain ⟨q2,q3,q4,q5,q6,q7,q8,oa,oc,rfl,hi1,hi2,h7,hod,_⟩:=hs
 simp only at hk hi1 hi2 hre hco hin h7 ⊢
 subst hk
 obtain ⟨hnm,hty,rfl,rfl,rfl,hdf⟩:=h7
 have hno:Sc.step x ⟨4,col,sl,od⟩=none:=by
  unfold Sc.step
  simp only
  rw [if_neg (by rw [hre];simp),if_neg (by decide),if_neg (by decide),if_neg (by omega),if_neg (by decide),if_neg (by decide),if_neg (by omega)]
 obtain ⟨Q,hQ⟩:∃ Q,RStepC w0 w x ⟨4,col,sl,od⟩=Q:=⟨_,rfl⟩
 have hq:∀ (a:Option Addr) (n c:Nat) (a':Option Addr) (n' c':Nat) (w':World),Below w.heap.size w w'→Q (.returned (.tuple #[.agg #[.slice a n c,.slice a' n' c'],.bool false])) w':=by
  intro a n c a' n' c' w' hb
  rw [←hQ];unfold RStepC;rw [hno];exact ⟨⟨a,n,c,a',n',c',rfl⟩,hb⟩
 have HQ:=Lib.hid hq
 clear hq
 rw [hQ]
 clear hQ hno hod
 have d4:decide (col<0)=false:=by simp;omega
 have d5:decide ((x.cols.length:Int)≤col)=false:=by simp;omega
 have d6:decide (sl.ty<1)=false:=by simp;omega
 have d7:decide (63<sl.ty)=true:=by simp;omega
 clear hre hco
 have HV:=Lib.hid hv
 clear hv
 go_enter Tryz.func88,Tryz.ntmps88
 go_wp2_with (first
  |(go_at_call 113;(with_reducible refine (hC _ ?_).mono ?_);rotate_left;rintro e w1 ⟨⟨sv,cv,rfl,hvo⟩,hb1⟩;obtain ⟨a6,c6,a7,c7',rfl,rfl⟩:=ver_form hvo;obtain ⟨hP,hq2,hq3⟩:=step_pre w0 w w1 x sa sc ca cc _ _ _ _ _ hb1 hvo;have HP:=Lib.hid hP;clear hq2 hq3 hb1;obtain ⟨_,p2,_,p4,_⟩:=hP;obtain ⟨⟨y0,y1,y2,y3,y4⟩,y5,y6,y7,y8,y9⟩:=ten_cells p2)
  |(go_at_call 114;(with_reducible refine (hR _ (stepS_bel HP.out)).mono ?_);rintro e w2 ⟨rfl,hb2⟩;have hP2:=stepS_below HP.out hb2;have hE:=step_end2 w w2 (w.heap.size+1+1) _ _ (.slice a6 x.slots.length c6) (.slice a7 x.cols.length c7') (stepS_res hP2) (stepS_bel hP2) (by omega);have HE:=Lib.hid hE;clear hE hb2;obtain ⟨_,p2',p3,p4',_⟩:=hP2;obtain ⟨⟨z0,z1,z2,z3,z4⟩,z5,z6,z7,z8,z9⟩:=ten_cells p2';obtain ⟨r0,r1,r2,r3⟩:=two_all p3;obtain ⟨x0,x1,x2,x3⟩:=two_all p4'))
 ·refine bodyPost_ret (results_cell_tmp_row9 Tryz.results88 _ _ (w.heap.size+1+1) _ _ _ _ rfl HE.out.1 Tryz.underlying110 rfl (by kernel_rfl)) rfl ?_
  exact HQ.out _ _ _ _ _ _ _ HE.out.2
 ·exact (((Below.refl _ w).alloc (Nat.le_refl _) _).alloc (by simp) _).alloc (by simp;omega) _
set_option maxRecDepth 100000 in
set_option maxHeartbeats 4000000 in
theorem refStep_5len (x:Sc.Ver) (s:StepM) (sa:Option Addr) (sc:Nat) (ca:Option Addr) (cc:Nat) (w0 w:World) (T:Value) (hsl:x.slots.length≤100000) (hcl:x.cols.length≤100000) (hv:VerInA w0 w x sa sc ca cc) (hs0:RIsStep w0 s T) (h0:Below w0.heap.size w0 w) (hk:s.kd=5) (hre:Sc.rest s=true) (hco:s.od.length≠x.cols.length) :
  Calls Tryz.prog 88 #[.agg #[.slice sa x.slots.length sc,.slice ca x.cols.length cc],T] w (RStepC w0 w x s):=by
 have hs:=rIsStep_below h0 hs0
 have hC:=fun W (hb:Below w.heap.size w W)=>refCopy_in x sa sc ca cc w0 w W hsl hcl hv hb
 have hR:=fun W (hb:Below w.heap.size w W)=>refRest_any s W T (rIsStep_below hb hs)
 rw [hre] at hR
 obtain ⟨kd,col,sl,od⟩:=s
 obtain ⟨q2,q3,q4,q5,q6,q7,q8,oa,oc,rfl,hi1,hi2,h7,hod,_⟩:=hs
 simp only at hk hi1 hi2 hre hco h7 ⊢
 subst hk
 obtain ⟨hnm,hty,rfl,rfl,rfl,hdf⟩:=h7
 have hno:Sc.step x ⟨5,col,sl,od⟩=none:=by
  unfold Sc.step
  simp only
  rw [if_neg (by rw [hre];simp),if_neg (by decide),if_pos trivial,if_neg (fun h=>hco h.1)]
 obtain ⟨Q,hQ⟩:∃ Q,RStepC w0 w x ⟨5,col,sl,od⟩=Q:=⟨_,rfl⟩
 have hq:∀ (a:Option Addr) (n c:Nat) (a':Option Addr) (n' c':Nat) (w':World),Below w.heap.size w w'→Q (.returned (.tuple #[.agg #[.slice a n c,.slice a' n' c'],.bool false])) w':=by
  intro a n c a' n' c' w' hb
  rw [←hQ];unfold RStepC;rw [hno];exact ⟨⟨a,n,c,a',n',c',rfl⟩,hb⟩
 have HQ:=Lib.hid hq
 clear hq
 rw [hQ]
 clear hQ hno hod
 have d6:((od.length:Int) != (x.cols.length:Int))=true:=by simp;omega
 clear hre hco
 have HV:=Lib.hid hv
 clear hv
 go_enter Tryz.func88,Tryz.ntmps88
 go_wp2_with (first
  |(go_at_call 113;(with_reducible refine (hC _ ?_).mono ?_);rotate_left;rintro e w1 ⟨⟨sv,cv,rfl,hvo⟩,hb1⟩;obtain ⟨a6,c6,a7,c7',rfl,rfl⟩:=ver_form hvo;obtain ⟨hP,hq2,hq3⟩:=step_pre w0 w w1 x sa sc ca cc _ _ _ _ _ hb1 hvo;have HP:=Lib.hid hP;clear hq2 hq3 hb1;obtain ⟨_,p2,_,p4,_⟩:=hP;obtain ⟨⟨y0,y1,y2,y3,y4⟩,y5,y6,y7,y8,y9⟩:=ten_cells p2)
  |(go_at_call 114;(with_reducible refine (hR _ (stepS_bel HP.out)).mono ?_);rintro e w2 ⟨rfl,hb2⟩;have hP2:=stepS_below HP.out hb2;have hE:=step_end2 w w2 (w.heap.size+1+1) _ _ (.slice a6 x.slots.length c6) (.slice a7 x.cols.length c7') (stepS_res hP2) (stepS_bel hP2) (by omega);have HE:=Lib.hid hE;clear hE hb2;obtain ⟨_,p2',p3,p4',_⟩:=hP2;obtain ⟨⟨z0,z1,z2,z3,z4⟩,z5,z6,z7,z8,z9⟩:=ten_cells p2';obtain ⟨r0,r1,r2,r3⟩:=two_all p3;obtain ⟨x0,x1,x2,x3⟩:=two_all p4'))
 ·refine bodyPost_ret (results_cell_tmp_row9 Tryz.results88 _ _ (w.heap.size+1+1) _ _ _ _ rfl HE.out.1 Tryz.underlying110 rfl (by kernel_rfl)) rfl ?_
  exact HQ.out _ _ _ _ _ _ _ HE.out.2
 ·exact (((Below.refl _ w).alloc (Nat.le_refl _) _).alloc (by simp) _).alloc (by simp;omega) _
set_option maxRecDepth 100000 in
set_option maxHeartbeats 4000000 in
theorem refStep_1many (x:Sc.Ver) (s:StepM) (sa:Option Addr) (sc:Nat) (ca:Option Addr) (cc:Nat) (w0 w:World) (T:Value) (hsl:x.slots.length≤100000) (hcl:x.cols.length≤100000) (hv:VerInA w0 w x sa sc ca cc) (hs0:RIsStep w0 s T) (h0:Below w0.heap.size w0 w) (hk:s.kd=1) (hre:Sc.rest s=true) (hco:7<x.cols.length) :
  Calls Tryz.prog 88 #[.agg #[.slice sa x.slots.length sc,.slice ca x.cols.length cc],T] w (RStepC w0 w x s):=by
 have hs:=rIsStep_below h0 hs0
 have hC:=fun W (hb:Below w.heap.size w W)=>refCopy_in x sa sc ca cc w0 w W hsl hcl hv hb
 have hR:=fun W (hb:Below w.heap.size w W)=>refRest_any s W T (rIsStep_below hb hs)
 rw [hre] at hR
 obtain ⟨kd,col,sl,od⟩:=s
 obtain ⟨q2,q3,q4,q5,q6,q7,q8,oa,oc,rfl,hi1,hi2,h7,hod,_⟩:=hs
 simp only at hk hi1 hi2 hre hco h7 ⊢
 subst hk
 obtain ⟨hnm,hty,rfl,rfl,rfl,hdf⟩:=h7
 have hno:Sc.step x ⟨1,col,sl,od⟩=none:=by
  unfold Sc.step
  simp only
  rw [if_neg (by rw [hre];simp),if_pos trivial,if_neg (fun h=>by have:=h.1;omega)]
 obtain ⟨Q,hQ⟩:∃ Q,RStepC w0 w x ⟨1,col,sl,od⟩=Q:=⟨_,rfl⟩
 have hq:∀ (a:Option Addr) (n c:Nat) (a':Option Addr) (n' c':Nat) (w':World),Below w.heap.size w w'→Q (.returned (.tuple #[.agg #[.slice a n c,.slice a' n' c'],.bool false])) w':=by
  intro a n c a' n' c' w' hb
  rw [←hQ];unfold RStepC;rw [hno];exact ⟨⟨a,n,c,a',n',c',rfl⟩,hb⟩
 have HQ:=Lib.hid hq
 clear hq
 rw [hQ]
 clear hQ hno hod
 have d6:decide (7<(x.cols.length:Int))=true:=by simp;omega
 clear hre hco
 have HV:=Lib.hid hv
 clear hv
 go_enter Tryz.func88,Tryz.ntmps88
 go_wp2_with (first
  |(go_at_call 113;(with_reducible refine (hC _ ?_).mono ?_);rotate_left;rintro e w1 ⟨⟨sv,cv,rfl,hvo⟩,hb1⟩;obtain ⟨a6,c6,a7,c7',rfl,rfl⟩:=ver_form hvo;obtain ⟨hP,hq2,hq3⟩:=step_pre w0 w w1 x sa sc ca cc _ _ _ _ _ hb1 hvo;have HP:=Lib.hid hP;clear hq2 hq3 hb1;obtain ⟨_,p2,_,p4,_⟩:=hP;obtain ⟨⟨y0,y1,y2,y3,y4⟩,y5,y6,y7,y8,y9⟩:=ten_cells p2)
  |(go_at_call 114;(with_reducible refine (hR _ (stepS_bel HP.out)).mono ?_);rintro e w2 ⟨rfl,hb2⟩;have hP2:=stepS_below HP.out hb2;have hE:=step_end2 w w2 (w.heap.size+1+1) _ _ (.slice a6 x.slots.length c6) (.slice a7 x.cols.length c7') (stepS_res hP2) (stepS_bel hP2) (by omega);have HE:=Lib.hid hE;clear hE hb2;obtain ⟨_,p2',p3,p4',_⟩:=hP2;obtain ⟨⟨z0,z1,z2,z3,z4⟩,z5,z6,z7,z8,z9⟩:=ten_cells p2';obtain ⟨r0,r1,r2,r3⟩:=two_all p3;obtain ⟨x0,x1,x2,x3⟩:=two_all p4'))
 ·refine bodyPost_ret (results_cell_tmp_row9 Tryz.results88 _ _ (w.heap.size+1+1) _ _ _ _ rfl HE.out.1 Tryz.underlying110 rfl (by kernel_rfl)) rfl ?_
  exact HQ.out _ _ _ _ _ _ _ HE.out.2
 ·exact (((Below.refl _ w).alloc (Nat.le_refl _) _).alloc (by simp) _).alloc (by simp;omega) _
open Go.RowKit Go.Shelf
set_option maxRecDepth 100000 in
set_option maxHeartbeats 4000000 in
theorem refStep_1bad (x:Sc.Ver) (s:StepM) (sa:Option Addr) (sc:Nat) (ca:Option Addr) (cc:Nat) (w0 w:World) (T:Value) (hsl:x.slots.length≤100000) (hcl:x.cols.length≤100000) (hv:VerInA w0 w x sa sc ca cc) (hs0:RIsStep w0 s T) (h0:Below w0.heap.size w0 w) (hk:s.kd=1) (hre:Sc.rest s=true) (hsz:szV s.sl.df≤1000000) (hlen:x.cols.length≤7) (hso:Sc.sound s.sl=false) :
  Calls Tryz.prog 88 #[.agg #[.slice sa x.slots.length sc,.slice ca x.cols.length cc],T] w (RStepC w0 w x s):=by
 have hs:=rIsStep_below h0 hs0
 have hC:=fun W (hb:Below w.heap.size w W)=>refCopy_in x sa sc ca cc w0 w W hsl hcl hv hb
 have hR:=fun W (hb:Below w.heap.size w W)=>refRest_any s W T (rIsStep_below hb hs)
 rw [hre] at hR
 obtain ⟨kd,col,sl,od⟩:=s
 obtain ⟨q2,q3,q4,q5,q6,q7,q8,oa,oc,rfl,hi1,hi2,h7,hod,_⟩:=hs
 simp only at hk hi1 hi2 hre hsz hlen hso h7 ⊢
 subst hk
 have hSo:=fun W (hb:Below w.heap.size w W)=>refSound_any sl hsz W _ (isSlot_below hb ⟨_,_,_,_,_,_,_,rfl,h7⟩)
 rw [hso] at hSo
 obtain ⟨hnm,hty,rfl,rfl,rfl,hdf⟩:=h7
 have hno:Sc.step x ⟨1,col,sl,od⟩=none:=by
  unfold Sc.step
  simp only
  rw [if_neg (by rw [hre];simp),if_pos trivial,if_neg (fun h=>by have:=h.2.1;rw [hso] at this;cases this)]
 obtain ⟨Q,hQ⟩:∃ Q,RStepC w0 w x ⟨1,col,sl,od⟩=Q:=⟨_,rfl⟩
 have hq:∀ (a:Option Addr) (n c:Nat) (a':Option Addr) (n' c':Nat) (w':World),Below w.heap.size w w'→Q (.returned (.tuple #[.agg #[.slice a n c,.slice a' n' c'],.bool false])) w':=by
  intro a n c a' n' c' w' hb
  rw [←hQ];unfold RStepC;rw [hno];exact ⟨⟨a,n,c,a',n',c',rfl⟩,hb⟩
 have HQ:=Lib.hid hq
 clear hq
 rw [hQ]
 clear hQ hno hod
 have d6:decide (7<(x.cols.length:Int))=false:=by simp;omega
 clear hre hsz hlen hso
 have HV:=Lib.hid hv
 clear hv
 go_enter Tryz.func88,Tryz.ntmps88
 go_wp2_with (first
  |(go_at_call 113;(with_reducible refine (hC _ ?_).mono ?_);rotate_left;rintro e w1 ⟨⟨sv,cv,rfl,hvo⟩,hb1⟩;obtain ⟨a6,c6,a7,c7',rfl,rfl⟩:=ver_form hvo;obtain ⟨hP,hq2,hq3⟩:=step_pre w0 w w1 x sa sc ca cc _ _ _ _ _ hb1 hvo;have HP:=Lib.hid hP;clear hq2 hq3 hb1;obtain ⟨_,p2,_,p4,_⟩:=hP;obtain ⟨⟨y0,y1,y2,y3,y4⟩,y5,y6,y7,y8,y9⟩:=ten_cells p2)
  |(go_at_call 114;(with_reducible refine (hR _ (stepS_bel HP.out)).mono ?_);rintro e w2 ⟨rfl,hb2⟩;have HP2:=Lib.hid (stepS_below HP.out hb2);have HE:=Lib.hid (step_end2 w w2 (w.heap.size+1+1) _ _ (.slice a6 x.slots.length c6) (.slice a7 x.cols.length c7') (stepS_res HP2.out) (stepS_bel HP2.out) (by omega));clear hb2;have hP2:=HP2.out;obtain ⟨_,p2',p3,p4',_⟩:=hP2;obtain ⟨⟨z0,z1,z2,z3,z4⟩,z5,z6,z7,z8,z9⟩:=ten_cells p2';obtain ⟨r0,r1,r2,r3⟩:=two_all p3;obtain ⟨x0,x1,x2,x3⟩:=two_all p4')
  |(go_at_call 86;(with_reducible refine (hSo _ (stepS_bel HP2.out)).mono ?_);rintro e w3 ⟨rfl,hb3⟩;have HP3:=Lib.hid (stepS_below HP2.out hb3);have HE:=Lib.hid (step_end2 w w3 (w.heap.size+1+1) _ _ (.slice a6 x.slots.length c6) (.slice a7 x.cols.length c7') (stepS_res HP3.out) (stepS_bel HP3.out) (by omega));clear hb3;have hP3:=HP3.out;obtain ⟨_,p2',p3,p4',_⟩:=hP3;obtain ⟨⟨z0,z1,z2,z3,z4⟩,z5,z6,z7,z8,z9⟩:=ten_cells p2';obtain ⟨r0,r1,r2,r3⟩:=two_all p3;obtain ⟨x0,x1,x2,x3⟩:=two_all p4'))
 ·refine bodyPost_ret (results_cell_tmp_row9 Tryz.results88 _ _ (w.heap.size+1+1) _ _ _ _ rfl HE.out.1 Tryz.underlying110 rfl (by kernel_rfl)) rfl ?_
  exact HQ.out _ _ _ _ _ _ _ HE.out.2
 ·exact (((Below.refl _ w).alloc (Nat.le_refl _) _).alloc (by simp) _).alloc (by simp;omega) _
set_option maxRecDepth 100000 in
set_option maxHeartbeats 4000000 in
theorem refStep_1req (x:Sc.Ver) (s:StepM) (sa:Option Addr) (sc:Nat) (ca:Option Addr) (cc:Nat) (w0 w:World) (T:Value) (hsl:x.slots.length≤100000) (hcl:x.cols.length≤100000) (hv:VerInA w0 w x sa sc ca cc) (hs0:RIsStep w0 s T) (h0:Below w0.heap.size w0 w) (hk:s.kd=1) (hre:Sc.rest s=true) (hsz:szV s.sl.df≤1000000) (hlen:x.cols.length≤7) (hso:Sc.sound s.sl=true) (hrq:s.sl.rq=true) :
  Calls Tryz.prog 88 #[.agg #[.slice sa x.slots.length sc,.slice ca x.cols.length cc],T] w (RStepC w0 w x s):=by
 have hs:=rIsStep_below h0 hs0
 have hC:=fun W (hb:Below w.heap.size w W)=>refCopy_in x sa sc ca cc w0 w W hsl hcl hv hb
 have hR:=fun W (hb:Below w.heap.size w W)=>refRest_any s W T (rIsStep_below hb hs)
 rw [hre] at hR
 obtain ⟨kd,col,sl,od⟩:=s
 obtain ⟨q2,q3,q4,q5,q6,q7,q8,oa,oc,rfl,hi1,hi2,h7,hod,_⟩:=hs
 simp only at hk hi1 hi2 hre hsz hlen hso hrq h7 ⊢
 subst hk
 have hSo:=fun W (hb:Below w.heap.size w W)=>refSound_any sl hsz W _ (isSlot_below hb ⟨_,_,_,_,_,_,_,rfl,h7⟩)
 rw [hso] at hSo
 obtain ⟨hnm,hty,rfl,rfl,rfl,hdf⟩:=h7
 have hno:Sc.step x ⟨1,col,sl,od⟩=none:=by
  unfold Sc.step
  simp only
  rw [if_neg (by rw [hre];simp),if_pos trivial,if_neg (fun h=>by have:=h.2.2.1;rw [hrq] at this;cases this)]
 obtain ⟨Q,hQ⟩:∃ Q,RStepC w0 w x ⟨1,col,sl,od⟩=Q:=⟨_,rfl⟩
 have hq:∀ (a:Option Addr) (n c:Nat) (a':Option Addr) (n' c':Nat) (w':World),Below w.heap.size w w'→Q (.returned (.tuple #[.agg #[.slice a n c,.slice a' n' c'],.bool false])) w':=by
  intro a n c a' n' c' w' hb
  rw [←hQ];unfold RStepC;rw [hno];exact ⟨⟨a,n,c,a',n',c',rfl⟩,hb⟩
 have HQ:=Lib.hid hq
 clear hq
 rw [hQ]
 clear hQ hno hod
 have d6:decide (7<(x.cols.length:Int))=false:=by simp;omega
 simp only [hrq] at hR hSo ⊢
 clear hre hsz hlen hso hrq
 have HV:=Lib.hid hv
 clear hv
 go_enter Tryz.func88,Tryz.ntmps88
 go_wp2_with (first
  |(go_at_call 113;(with_reducible refine (hC _ ?_).mono ?_);rotate_left;rintro e w1 ⟨⟨sv,cv,rfl,hvo⟩,hb1⟩;obtain ⟨a6,c6,a7,c7',rfl,rfl⟩:=ver_form hvo;obtain ⟨hP,hq2,hq3⟩:=step_pre w0 w w1 x sa sc ca cc _ _ _ _ _ hb1 hvo;have HP:=Lib.hid hP;clear hq2 hq3 hb1;obtain ⟨_,p2,_,p4,_⟩:=hP;obtain ⟨⟨y0,y1,y2,y3,y4⟩,y5,y6,y7,y8,y9⟩:=ten_cells p2)
  |(go_at_call 114;(with_reducible refine (hR _ (stepS_bel HP.out)).mono ?_);rintro e w2 ⟨rfl,hb2⟩;have HP2:=Lib.hid (stepS_below HP.out hb2);have HE:=Lib.hid (step_end2 w w2 (w.heap.size+1+1) _ _ (.slice a6 x.slots.length c6) (.slice a7 x.cols.length c7') (stepS_res HP2.out) (stepS_bel HP2.out) (by omega));clear hb2;have hP2:=HP2.out;obtain ⟨_,p2',p3,p4',_⟩:=hP2;obtain ⟨⟨z0,z1,z2,z3,z4⟩,z5,z6,z7,z8,z9⟩:=ten_cells p2';obtain ⟨r0,r1,r2,r3⟩:=two_all p3;obtain ⟨x0,x1,x2,x3⟩:=two_all p4')
  |(go_at_call 86;(with_reducible refine (hSo _ (stepS_bel HP2.out)).mono ?_);rintro e w3 ⟨rfl,hb3⟩;have HP3:=Lib.hid (stepS_below HP2.out hb3);have HE:=Lib.hid (step_end2 w w3 (w.heap.size+1+1) _ _ (.slice a6 x.slots.length c6) (.slice a7 x.cols.length c7') (stepS_res HP3.out) (stepS_bel HP3.out) (by omega));clear hb3;have hP3:=HP3.out;obtain ⟨_,p2',p3,p4',_⟩:=hP3;obtain ⟨⟨z0,z1,z2,z3,z4⟩,z5,z6,z7,z8,z9⟩:=ten_cells p2';obtain ⟨r0,r1,r2,r3⟩:=two_all p3;obtain ⟨x0,x1,x2,x3⟩:=two_all p4'))
 ·refine bodyPost_ret (results_cell_tmp_row9 Tryz.results88 _ _ (w.heap.size+1+1) _ _ _ _ rfl HE.out.1 Tryz.underlying110 rfl (by kernel_rfl)) rfl ?_
  exact HQ.out _ _ _ _ _ _ _ HE.out.2
 ·exact (((Below.refl _ w).alloc (Nat.le_refl _) _).alloc (by simp) _).alloc (by simp;omega) _
set_option maxRecDepth 100000 in
set_option maxHeartbeats 4000000 in
theorem refStep_3name (x:Sc.Ver) (s:StepM) (sa:Option Addr) (sc:Nat) (ca:Option Addr) (cc:Nat) (w0 w:World) (T:Value) (hsl:x.slots.length≤100000) (hcl:x.cols.length≤100000) (hv:VerInA w0 w x sa sc ca cc) (hs0:RIsStep w0 s T) (h0:Below w0.heap.size w0 w) (hk:s.kd=3) (hin:0≤s.col∧s.col<x.cols.length) (hre:Sc.rest s=true) (hnb:nameB (strB s.sl.nm)=false) :
  Calls Tryz.prog 88 #[.agg #[.slice sa x.slots.length sc,.slice ca x.cols.length cc],T] w (RStepC w0 w x s):=by
 have hs:=rIsStep_below h0 hs0
 have hC:=fun W (hb:Below w.heap.size w W)=>refCopy_in x sa sc ca cc w0 w W hsl hcl hv hb
 have hR:=fun W (hb:Below w.heap.size w W)=>refRest_any s W T (rIsStep_below hb hs)
 rw [hre] at hR
 obtain ⟨kd,col,sl,od⟩:=s
 obtain ⟨q2,q3,q4,q5,q6,q7,q8,oa,oc,rfl,hi1,hi2,h7,hod,_⟩:=hs
 simp only at hk hi1 hi2 hre hnb hin h7 ⊢
 subst hk
 have hN:=fun W=>refIsName_any sl.nm W h7.1
 rw [hnb] at hN
 obtain ⟨hnm,hty,rfl,rfl,rfl,hdf⟩:=h7
 have hno:Sc.step x ⟨3,col,sl,od⟩=none:=by
  unfold Sc.step
  simp only
  rw [if_neg (by rw [hre];simp),if_neg (by decide),if_neg (by decide),if_neg (by omega),if_neg (by decide),if_pos trivial,if_neg (fun h=>by have:=h.1;rw [hnb] at this;cases this)]
 obtain ⟨Q,hQ⟩:∃ Q,RStepC w0 w x ⟨3,col,sl,od⟩=Q:=⟨_,rfl⟩
 have hq:∀ (a:Option Addr) (n c:Nat) (a':Option Addr) (n' c':Nat) (w':World),Below w.heap.size w w'→Q (.returned (.tuple #[.agg #[.slice a n c,.slice a' n' c'],.bool false])) w':=by
  intro a n c a' n' c' w' hb
  rw [←hQ];unfold RStepC;rw [hno];exact ⟨⟨a,n,c,a',n',c',rfl⟩,hb⟩
 have HQ:=Lib.hid hq
 clear hq
 rw [hQ]
 clear hQ hno hod
 have d4:decide (col<0)=false:=by simp;omega
 have d5:decide ((x.cols.length:Int)≤col)=false:=by simp;omega
 clear hre hnb
 have HV:=Lib.hid hv
 clear hv
 go_enter Tryz.func88,Tryz.ntmps88
 go_wp2_with (first
  |(go_at_call 113;(with_reducible refine (hC _ ?_).mono ?_);rotate_left;rintro e w1 ⟨⟨sv,cv,rfl,hvo⟩,hb1⟩;obtain ⟨a6,c6,a7,c7',rfl,rfl⟩:=ver_form hvo;obtain ⟨hP,hq2,hq3⟩:=step_pre w0 w w1 x sa sc ca cc _ _ _ _ _ hb1 hvo;have HP:=Lib.hid hP;clear hq2 hq3 hb1;obtain ⟨_,p2,_,p4,_⟩:=hP;obtain ⟨⟨y0,y1,y2,y3,y4⟩,y5,y6,y7,y8,y9⟩:=ten_cells p2)
  |(go_at_call 114;(with_reducible refine (hR _ (stepS_bel HP.out)).mono ?_);rintro e w2 ⟨rfl,hb2⟩;have HP2:=Lib.hid (stepS_below HP.out hb2);have HE:=Lib.hid (step_end2 w w2 (w.heap.size+1+1) _ _ (.slice a6 x.slots.length c6) (.slice a7 x.cols.length c7') (stepS_res HP2.out) (stepS_bel HP2.out) (by omega));clear hb2;have hP2:=HP2.out;obtain ⟨_,p2',p3,p4',_⟩:=hP2;obtain ⟨⟨z0,z1,z2,z3,z4⟩,z5,z6,z7,z8,z9⟩:=ten_cells p2';obtain ⟨r0,r1,r2,r3⟩:=two_all p3;obtain ⟨x0,x1,x2,x3⟩:=two_all p4')
  |(go_at_call 85;(with_reducible refine (hN _).mono ?_);rintro e w3 ⟨rfl,rfl⟩))
 ·refine bodyPost_ret (results_cell_tmp_row9 Tryz.results88 _ _ (w.heap.size+1+1) _ _ _ _ rfl HE.out.1 Tryz.underlying110 rfl (by kernel_rfl)) rfl ?_
  exact HQ.out _ _ _ _ _ _ _ HE.out.2
 ·exact (((Below.refl _ w).alloc (Nat.le_refl _) _).alloc (by simp) _).alloc (by simp;omega) _
open Go.RowKit Go.Shelf
theorem ver_at {B:Nat} {w W:World} {x:Sc.Ver} {a a':Option Addr} {n n' c c':Nat} (h:VerOwn B w W x (.slice a n c) (.slice a' n' c')) (hb:Below w.heap.size w W):VerAt W x a c a' c':=by
 obtain ⟨cs,p1,p2,p3,_⟩:=h
 obtain ⟨a1,c1,e1,h1⟩:=slotRow_own p1 p2 hb
 obtain ⟨a2,c2,e2,h2⟩:=row_of_owns p3
 cases e1
 cases e2
 exact ⟨h1,h2⟩
theorem stepS_ver {w0 w V:World} {x:Sc.Ver} {b6:Nat} {o0 o1:Value} {a a':Option Addr} {n n' c c':Nat} {st:Array Value} (h0:Below w0.heap.size w0 w) (h:StepS w0 w V x b6 o0 o1 st (.slice a n c) (.slice a' n' c')):VerAt V x a c a' c':=ver_at h.2.2.2.2.2.1 (h0.trans (h.2.2.2.2.1.mono h0.size))
set_option maxRecDepth 100000 in
set_option maxHeartbeats 4000000 in
theorem refStep_1there (x:Sc.Ver) (s:StepM) (sa:Option Addr) (sc:Nat) (ca:Option Addr) (cc:Nat) (w0 w:World) (T:Value) (hsl:x.slots.length≤100000) (hcl:x.cols.length≤100000) (hv:VerInA w0 w x sa sc ca cc) (hs0:RIsStep w0 s T) (h0:Below w0.heap.size w0 w) (hk:s.kd=1) (hre:Sc.rest s=true) (hsz:szV s.sl.df≤1000000) (hlen:x.cols.length≤7) (hso:Sc.sound s.sl=true) (hrq:s.sl.rq=false) (hinx:∀ c∈x.cols,c<x.slots.length) (hco:Sc.col x s.sl.nm≠none) :
  Calls Tryz.prog 88 #[.agg #[.slice sa x.slots.length sc,.slice ca x.cols.length cc],T] w (RStepC w0 w x s):=by
 have hs:=rIsStep_below h0 hs0
 have hC:=fun W (hb:Below w.heap.size w W)=>refCopy_in x sa sc ca cc w0 w W hsl hcl hv hb
 have hR:=fun W (hb:Below w.heap.size w W)=>refRest_any s W T (rIsStep_below hb hs)
 rw [hre] at hR
 obtain ⟨kd,col,sl,od⟩:=s
 obtain ⟨q2,q3,q4,q5,q6,q7,q8,oa,oc,rfl,hi1,hi2,h7,hod,_⟩:=hs
 simp only at hk hi1 hi2 hre hsz hlen hso hrq hinx hco h7 ⊢
 subst hk
 obtain ⟨CI,hCI⟩:∃ CI,Sc.colI x sl.nm=CI:=⟨_,rfl⟩
 have hCo:=fun a c a' c' W h=>refCol_any x a c a' c' sl.nm W hinx hsl h
 rw [hCI] at hCo
 have d8:decide (0≤CI)=true:=by
  rw [←hCI]
  unfold Sc.colI
  split
  ·rename_i h;exact absurd h hco
  ·simp
 clear hCI
 have hSo:=fun W (hb:Below w.heap.size w W)=>refSound_any sl hsz W _ (isSlot_below hb ⟨_,_,_,_,_,_,_,rfl,h7⟩)
 rw [hso] at hSo
 obtain ⟨hnm,hty,rfl,rfl,rfl,hdf⟩:=h7
 have hno:Sc.step x ⟨1,col,sl,od⟩=none:=by
  unfold Sc.step
  simp only
  rw [if_neg (by rw [hre];simp),if_pos trivial,if_neg (fun h=>hco h.2.2.2)]
 obtain ⟨Q,hQ⟩:∃ Q,RStepC w0 w x ⟨1,col,sl,od⟩=Q:=⟨_,rfl⟩
 have hq:∀ (a:Option Addr) (n c:Nat) (a':Option Addr) (n' c':Nat) (w':World),Below w.heap.size w w'→Q (.returned (.tuple #[.agg #[.slice a n c,.slice a' n' c'],.bool false])) w':=by
  intro a n c a' n' c' w' hb
  rw [←hQ];unfold RStepC;rw [hno];exact ⟨⟨a,n,c,a',n',c',rfl⟩,hb⟩
 have HQ:=Lib.hid hq
 clear hq
 rw [hQ]
 clear hQ hno hod
 have d6:decide (7<(x.cols.length:Int))=false:=by simp;omega
 simp only [hrq] at hR hSo ⊢
 clear hre hsz hlen hso hrq hinx hco
 have HV:=Lib.hid hv
 clear hv
 go_enter Tryz.func88,Tryz.ntmps88
 go_wp2_with (first
  |(go_at_call 113;(with_reducible refine (hC _ ?_).mono ?_);rotate_left;rintro e w1 ⟨⟨sv,cv,rfl,hvo⟩,hb1⟩;obtain ⟨a6,c6,a7,c7',rfl,rfl⟩:=ver_form hvo;obtain ⟨hP,hq2,hq3⟩:=step_pre w0 w w1 x sa sc ca cc _ _ _ _ _ hb1 hvo;have HP:=Lib.hid hP;clear hq2 hq3 hb1;obtain ⟨_,p2,_,p4,_⟩:=hP;obtain ⟨⟨y0,y1,y2,y3,y4⟩,y5,y6,y7,y8,y9⟩:=ten_cells p2)
  |(go_at_call 114;(with_reducible refine (hR _ (stepS_bel HP.out)).mono ?_);rintro e w2 ⟨rfl,hb2⟩;have HP2:=Lib.hid (stepS_below HP.out hb2);have HE:=Lib.hid (step_end2 w w2 (w.heap.size+1+1) _ _ (.slice a6 x.slots.length c6) (.slice a7 x.cols.length c7') (stepS_res HP2.out) (stepS_bel HP2.out) (by omega));clear hb2;have hP2:=HP2.out;obtain ⟨_,p2',p3,p4',_⟩:=hP2;obtain ⟨⟨z0,z1,z2,z3,z4⟩,z5,z6,z7,z8,z9⟩:=ten_cells p2';obtain ⟨r0,r1,r2,r3⟩:=two_all p3;obtain ⟨x0,x1,x2,x3⟩:=two_all p4')
  |(go_at_call 86;(with_reducible refine (hSo _ (stepS_bel HP2.out)).mono ?_);rintro e w3 ⟨rfl,hb3⟩;have HP3:=Lib.hid (stepS_below HP2.out hb3);have HE:=Lib.hid (step_end2 w w3 (w.heap.size+1+1) _ _ (.slice a6 x.slots.length c6) (.slice a7 x.cols.length c7') (stepS_res HP3.out) (stepS_bel HP3.out) (by omega));clear hb3;have hP3:=HP3.out;obtain ⟨_,p2',p3,p4',_⟩:=hP3;obtain ⟨⟨z0,z1,z2,z3,z4⟩,z5,z6,z7,z8,z9⟩:=ten_cells p2';obtain ⟨r0,r1,r2,r3⟩:=two_all p3;obtain ⟨x0,x1,x2,x3⟩:=two_all p4')
  |(go_at_call 87;(with_reducible refine (hCo _ _ _ _ _ (stepS_ver h0 HP3.out)).mono ?_);rintro e w4 ⟨rfl,hb4⟩;have HP4:=Lib.hid (stepS_below HP3.out hb4);have HE:=Lib.hid (step_end2 w w4 (w.heap.size+1+1) _ _ (.slice a6 x.slots.length c6) (.slice a7 x.cols.length c7') (stepS_res HP4.out) (stepS_bel HP4.out) (by omega));clear hb4;have hP4:=HP4.out;obtain ⟨_,p2',p3,p4',_⟩:=hP4;obtain ⟨⟨z0,z1,z2,z3,z4⟩,z5,z6,z7,z8,z9⟩:=ten_cells p2';obtain ⟨r0,r1,r2,r3⟩:=two_all p3;obtain ⟨x0,x1,x2,x3⟩:=two_all p4'))
 ·refine bodyPost_ret (results_cell_tmp_row9 Tryz.results88 _ _ (w.heap.size+1+1) _ _ _ _ rfl HE.out.1 Tryz.underlying110 rfl (by kernel_rfl)) rfl ?_
  exact HQ.out _ _ _ _ _ _ _ HE.out.2
 ·exact (((Below.refl _ w).alloc (Nat.le_refl _) _).alloc (by simp) _).alloc (by simp;omega) _
set_option maxRecDepth 100000 in
set_option maxHeartbeats 4000000 in
theorem refStep_3there (x:Sc.Ver) (s:StepM) (sa:Option Addr) (sc:Nat) (ca:Option Addr) (cc:Nat) (w0 w:World) (T:Value) (hsl:x.slots.length≤100000) (hcl:x.cols.length≤100000) (hv:VerInA w0 w x sa sc ca cc) (hs0:RIsStep w0 s T) (h0:Below w0.heap.size w0 w) (hk:s.kd=3) (hin:0≤s.col∧s.col<x.cols.length) (hre:Sc.rest s=true) (hnb:nameB (strB s.sl.nm)=true) (hinx:∀ c∈x.cols,c<x.slots.length) (hco:Sc.col x s.sl.nm≠none) :
  Calls Tryz.prog 88 #[.agg #[.slice sa x.slots.length sc,.slice ca x.cols.length cc],T] w (RStepC w0 w x s):=by
 have hs:=rIsStep_below h0 hs0
 have hC:=fun W (hb:Below w.heap.size w W)=>refCopy_in x sa sc ca cc w0 w W hsl hcl hv hb
 have hR:=fun W (hb:Below w.heap.size w W)=>refRest_any s W T (rIsStep_below hb hs)
 rw [hre] at hR
 obtain ⟨kd,col,sl,od⟩:=s
 obtain ⟨q2,q3,q4,q5,q6,q7,q8,oa,oc,rfl,hi1,hi2,h7,hod,_⟩:=hs
 simp only at hk hi1 hi2 hre hnb hinx hco hin h7 ⊢
 subst hk
 obtain ⟨CI,hCI⟩:∃ CI,Sc.colI x sl.nm=CI:=⟨_,rfl⟩
 have hCo:=fun a c a' c' W h=>refCol_any x a c a' c' sl.nm W hinx hsl h
 rw [hCI] at hCo
 have d8:decide (0≤CI)=true:=by
  rw [←hCI]
  unfold Sc.colI
  split
  ·rename_i h;exact absurd h hco
  ·simp
 clear hCI
 have hN:=fun W=>refIsName_any sl.nm W h7.1
 rw [hnb] at hN
 obtain ⟨hnm,hty,rfl,rfl,rfl,hdf⟩:=h7
 have hno:Sc.step x ⟨3,col,sl,od⟩=none:=by
  unfold Sc.step
  simp only
  rw [if_neg (by rw [hre];simp),if_neg (by decide),if_neg (by decide),if_neg (by omega),if_neg (by decide),if_pos trivial,if_neg (fun h=>hco h.2)]
 obtain ⟨Q,hQ⟩:∃ Q,RStepC w0 w x ⟨3,col,sl,od⟩=Q:=⟨_,rfl⟩
 have hq:∀ (a:Option Addr) (n c:Nat) (a':Option Addr) (n' c':Nat) (w':World),Below w.heap.size w w'→Q (.returned (.tuple #[.agg #[.slice a n c,.slice a' n' c'],.bool false])) w':=by
  intro a n c a' n' c' w' hb
  rw [←hQ];unfold RStepC;rw [hno];exact ⟨⟨a,n,c,a',n',c',rfl⟩,hb⟩
 have HQ:=Lib.hid hq
 clear hq
 rw [hQ]
 clear hQ hno hod
 have d4:decide (col<0)=false:=by simp;omega
 have d5:decide ((x.cols.length:Int)≤col)=false:=by simp;omega
 clear hre hnb hinx hco
 have HV:=Lib.hid hv
 clear hv
 go_enter Tryz.func88,Tryz.ntmps88
 go_wp2_with (first
  |(go_at_call 113;(with_reducible refine (hC _ ?_).mono ?_);rotate_left;rintro e w1 ⟨⟨sv,cv,rfl,hvo⟩,hb1⟩;obtain ⟨a6,c6,a7,c7',rfl,rfl⟩:=ver_form hvo;obtain ⟨hP,hq2,hq3⟩:=step_pre w0 w w1 x sa sc ca cc _ _ _ _ _ hb1 hvo;have HP:=Lib.hid hP;clear hq2 hq3 hb1;obtain ⟨_,p2,_,p4,_⟩:=hP;obtain ⟨⟨y0,y1,y2,y3,y4⟩,y5,y6,y7,y8,y9⟩:=ten_cells p2)
  |(go_at_call 114;(with_reducible refine (hR _ (stepS_bel HP.out)).mono ?_);rintro e w2 ⟨rfl,hb2⟩;have HP2:=Lib.hid (stepS_below HP.out hb2);have HE:=Lib.hid (step_end2 w w2 (w.heap.size+1+1) _ _ (.slice a6 x.slots.length c6) (.slice a7 x.cols.length c7') (stepS_res HP2.out) (stepS_bel HP2.out) (by omega));clear hb2;have hP2:=HP2.out;obtain ⟨_,p2',p3,p4',_⟩:=hP2;obtain ⟨⟨z0,z1,z2,z3,z4⟩,z5,z6,z7,z8,z9⟩:=ten_cells p2';obtain ⟨r0,r1,r2,r3⟩:=two_all p3;obtain ⟨x0,x1,x2,x3⟩:=two_all p4')
  |(go_at_call 85;(with_reducible refine (hN _).mono ?_);rintro e w3 ⟨rfl,rfl⟩)
  |(go_at_call 87;(with_reducible refine (hCo _ _ _ _ _ (stepS_ver h0 HP2.out)).mono ?_);rintro e w4 ⟨rfl,hb4⟩;have HP4:=Lib.hid (stepS_below HP2.out hb4);have HE:=Lib.hid (step_end2 w w4 (w.heap.size+1+1) _ _ (.slice a6 x.slots.length c6) (.slice a7 x.cols.length c7') (stepS_res HP4.out) (stepS_bel HP4.out) (by omega));clear hb4;have hP4:=HP4.out;obtain ⟨_,p2',p3,p4',_⟩:=hP4;obtain ⟨⟨z0,z1,z2,z3,z4⟩,z5,z6,z7,z8,z9⟩:=ten_cells p2';obtain ⟨r0,r1,r2,r3⟩:=two_all p3;obtain ⟨x0,x1,x2,x3⟩:=two_all p4'))
 ·refine bodyPost_ret (results_cell_tmp_row9 Tryz.results88 _ _ (w.heap.size+1+1) _ _ _ _ rfl HE.out.1 Tryz.underlying110 rfl (by kernel_rfl)) rfl ?_
  exact HQ.out _ _ _ _ _ _ _ HE.out.2
 ·exact (((Below.refl _ w).alloc (Nat.le_refl _) _).alloc (by simp) _).alloc (by simp;omega) _
open Go.RowKit Go.Shelf
theorem below_drew9 (w:World):Below w.heap.size w w.drew:=⟨rfl,rfl,rfl,Nat.le_refl _,fun _ _=>rfl⟩
theorem own_set9 {B n j:Nat} {W:World} {e:TypeId} {size:Nat} {v c:Value} {xs:List Value} {g:Nat} (h:W.ownsRow B e size v n xs) (hg:v.ownBlock=some g) (hj:j<n*size):(W.setCell ⟨g,j,none⟩ c).ownsRow B e size v n (xs.set j c):=by
 obtain ⟨hl,h2⟩:=h
 rcases h2 with ⟨rfl,_⟩ | ⟨g',cap,cur,rfl,hb,hh,hn,hm,hs,ht⟩
 ·simp [Value.ownBlock] at hg
 ·obtain rfl:g'=g:=by simpa [Value.ownBlock] using hg
  refine ⟨by simpa using hl,.inr ⟨g',cap,cur.setIfInBounds j c,rfl,hb, ?_,hn,hm,by simpa using hs, ?_⟩⟩
  ·obtain ⟨hlt,hk⟩:=Array.getElem?_eq_some_iff.1 hh
   show (W.heap.modify g' _)[g']? = _
   rw [Array.getElem?_eq_getElem (by rw [Array.size_modify];exact hlt),Array.getElem_modify_self,hk]
   rfl
  ·rw [←ht]
   simp [Array.toList_setIfInBounds,List.take_set]
theorem own_cell9 {B n j:Nat} {W:World} {e:TypeId} {size:Nat} {a:Option Addr} {cap n':Nat} {xs:List Value} {u:Value} (h:W.ownsRow B e size (.slice a n' cap) n xs) (hj:xs[j]? = some u):∃ g,a=some ⟨g,0,none⟩∧W.cell? ⟨g,j,none⟩=some u∧W.frozen? ⟨g,j,none⟩=false∧B≤g:=by
 obtain ⟨hl,h2⟩:=h
 rcases h2 with ⟨_,rfl⟩ | ⟨g,cap',cur,e1,hb,hh,hn,hm,hs,ht⟩
 ·have:=(List.getElem?_eq_some_iff.1 hj).1
  omega
 ·cases e1
  have hu:cur[j]? = some u:=by
   rw [←ht,List.getElem?_take] at hj
   split at hj
   ·rwa [Array.getElem?_toList] at hj
   ·cases hj
  refine ⟨g,rfl, ?_, ?_,hb⟩
  ·simp [World.cell?,hh,hu]
  ·simp [World.frozen?,hh]
theorem stepS_own {w0 w V:World} {x:Sc.Ver} {b6:Nat} {o0 o1 s6 c6 u0 u1:Value} {st:Array Value} (h:StepS w0 w V x b6 o0 o1 st s6 c6):VerOwn w.heap.size w0 (((V.setCell ⟨w.heap.size+1+1,0,none⟩ u0).setCell ⟨w.heap.size+1+1,1,none⟩ u1).drew) x s6 c6:=by
 obtain ⟨_,_,_,_,_,⟨cs,p1,p2,p3,p4⟩,_,_,_⟩:=h
 have k1:=grown_set9 V (w.heap.size+1+1) 0 u0
 have k2:(V.setCell ⟨w.heap.size+1+1,0,none⟩ u0).grownBy (((V.setCell ⟨w.heap.size+1+1,0,none⟩ u0).setCell ⟨w.heap.size+1+1,1,none⟩ u1).drew) (some (w.heap.size+1+1)):=by
  obtain ⟨a1,a2,a3,a4,a5⟩:=grown_set9 (V.setCell ⟨w.heap.size+1+1,0,none⟩ u0) (w.heap.size+1+1) 1 u1
  exact ⟨a1,a2,a3,a4,a5⟩
 have q1:=fun b e=>(own_blk9 p1 b e).2
 have q3:=fun b e=>(own_blk9 p3 b e).2
 exact ⟨cs,ownsRow_mono (own_kept9 (own_kept9 p1 k1 (fun b e1 e2=>by have:=q1 b e2;injection e1 with e1;omega)) k2 (fun b e1 e2=>by have:=q1 b e2;injection e1 with e1;omega)) (by omega),p2,
  ownsRow_mono (own_kept9 (own_kept9 p3 k1 (fun b e1 e2=>by have:=q3 b e2;injection e1 with e1;omega)) k2 (fun b e1 e2=>by have:=q3 b e2;injection e1 with e1;omega)) (by omega),p4⟩
theorem stepS_name {w0 w V:World} {x:Sc.Ver} {b6:Nat} {o0 o1:Value} {st:Array Value} {a a':Option Addr} {cp cp' k:Nat} (h:StepS w0 w V x b6 o0 o1 st (.slice a x.slots.length cp) (.slice a' x.cols.length cp')) (hk:k<x.cols.length) (hinx:∀ c∈x.cols,c<x.slots.length) (nm:ByteArray) (hnm:nm.size≤maxLen) :
  ∃ g g' c old,x.cols[k]? = some c∧c<x.slots.length∧a=some ⟨g,0,none⟩∧a'=some ⟨g',0,none⟩∧V.cell? ⟨g',k,none⟩=some (.int .i64 (c:Int))∧(V.cell? ⟨g,c*7,none⟩=some (.string old)∧V.frozen? ⟨g,c*7,none⟩=false) ∧
   StepS w0 w (V.setCell ⟨g,c*7,none⟩ (.string nm)) ⟨x.slots.modify c (fun t=>Sc.setNm t nm),x.cols⟩ b6 o0 o1 st (.slice a x.slots.length cp) (.slice a' x.cols.length cp'):=by
 obtain ⟨g0,g1,g2,g3,g4,⟨cs,p1,p2,p3,p4⟩,h1,h2,h3⟩:=h
 obtain ⟨c,hc⟩:∃ c,x.cols[k]? = some c:=⟨x.cols[k],List.getElem?_eq_getElem hk⟩
 have hcl:=hinx c (List.mem_of_getElem? hc)
 obtain ⟨g',e2,q2,_,_⟩:=own_cell9 (j:=k) (u:=.int .i64 (c:Int)) p3 (by rw [List.getElem?_map,List.getElem?_map,hc];rfl)
 obtain ⟨s,hs⟩:∃ s,x.slots[c]? = some s:=⟨x.slots[c],List.getElem?_eq_getElem hcl⟩
 obtain ⟨c0,_,_,_,_,_,_,⟨u0,_⟩,h7⟩:=p2.2.2 c s hs
 obtain ⟨_,_,rfl,_⟩:=h7
 obtain ⟨g,e1,q1,f1,hg⟩:=own_cell9 p1 u0
 subst e1 e2
 have kg:=grown_set9 V g (c*7) (.string nm)
 have hg6:g<b6:=h2 g rfl
 have far:∀ b o,b≠g→V.heap[b]? = some o→(V.setCell ⟨g,c*7,none⟩ (.string nm)).heap[b]? = some o:=fun b o hne hb=>(kg.block b (Array.getElem?_eq_some_iff.1 hb).1 (fun e=>by injection e with e;omega)).trans hb
 refine ⟨g,g',c,s.nm,hc,hcl,rfl,rfl,q2,⟨q1,f1⟩,far _ _ (by omega) g0,far _ _ (by omega) g1,far _ _ (by omega) g2,far _ _ (by omega) g3,below_grown9 g4 kg (fun b e=>by injection e with e;omega) g4.size,⟨cs.set (c*7) (.string nm), ?_,sCells_setNm p2 c nm hnm, ?_,p4⟩,h1,h2,h3⟩
 ·have:=own_set9 (c:=.string nm) p1 (g:=g) rfl (show c*7<x.slots.length*7 by omega)
  simpa using this
 ·exact own_kept9 p3 kg (fun b e1 e2=>by cases e1;exact p4 g rfl e2)
set_option maxRecDepth 100000 in
set_option maxHeartbeats 4000000 in
theorem refStep_3good (x:Sc.Ver) (s:StepM) (sa:Option Addr) (sc:Nat) (ca:Option Addr) (cc:Nat) (w0 w:World) (T:Value) (hsl:x.slots.length≤100000) (hcl:x.cols.length≤100000) (hv:VerInA w0 w x sa sc ca cc) (hs0:RIsStep w0 s T) (h0:Below w0.heap.size w0 w) (hk:s.kd=3) (hin:0≤s.col∧s.col<x.cols.length) (hre:Sc.rest s=true) (hnb:nameB (strB s.sl.nm)=true) (hinx:∀ c∈x.cols,c<x.slots.length) (hco:Sc.col x s.sl.nm=none) :
  Calls Tryz.prog 88 #[.agg #[.slice sa x.slots.length sc,.slice ca x.cols.length cc],T] w (RStepC w0 w x s):=by
 have hs:=rIsStep_below h0 hs0
 have hC:=fun W (hb:Below w.heap.size w W)=>refCopy_in x sa sc ca cc w0 w W hsl hcl hv hb
 have hR:=fun W (hb:Below w.heap.size w W)=>refRest_any s W T (rIsStep_below hb hs)
 rw [hre] at hR
 obtain ⟨kd,col,sl,od⟩:=s
 obtain ⟨q2,q3,q4,q5,q6,q7,q8,oa,oc,rfl,hi1,hi2,h7,hod,_⟩:=hs
 simp only at hk hi1 hi2 hre hnb hinx hco hin h7 ⊢
 subst hk
 have HX:=Lib.hid hinx
 obtain ⟨CI,hCI⟩:∃ CI,Sc.colI x sl.nm=CI:=⟨_,rfl⟩
 have hCo:=fun a c a' c' W h=>refCol_any x a c a' c' sl.nm W hinx hsl h
 rw [hCI] at hCo
 have d8:decide (0≤CI)=false:=by
  rw [←hCI]
  unfold Sc.colI
  split
  ·simp
  ·rename_i h;rw [hco] at h;cases h
 clear hCI
 have hN:=fun W=>refIsName_any sl.nm W h7.1
 rw [hnb] at hN
 obtain ⟨hnm,hty,rfl,rfl,rfl,hdf⟩:=h7
 obtain ⟨k,rfl⟩:∃ k:Nat,col=(k:Int):=⟨col.toNat,by omega⟩
 have hk1:k<x.cols.length:=by omega
 have hno:Sc.step x ⟨3,(k:Int),sl,od⟩=some ⟨x.slots.modify (x.cols[k]?.getD 0) (fun t=>Sc.setNm t sl.nm),x.cols⟩:=by
  unfold Sc.step
  simp only
  rw [if_neg (by rw [hre];simp),if_neg (by decide),if_neg (by decide),if_neg (by omega),if_neg (by decide),if_pos trivial,if_pos ⟨hnb,hco⟩]
  rfl
 obtain ⟨Q,hQ⟩:∃ Q,RStepC w0 w x ⟨3,(k:Int),sl,od⟩=Q:=⟨_,rfl⟩
 have hq:∀ sv cv w',VerOwn w.heap.size w0 w' ⟨x.slots.modify (x.cols[k]?.getD 0) (fun t=>Sc.setNm t sl.nm),x.cols⟩ sv cv→Below w.heap.size w w'→Q (.returned (.tuple #[.agg #[sv,cv],.bool true])) w':=by
  intro sv cv w' h1 h2
  rw [←hQ];unfold RStepC;rw [hno];exact ⟨⟨sv,cv,rfl,h1⟩,h2⟩
 have HQ:=Lib.hid hq
 clear hq
 rw [hQ]
 clear hQ hno hod
 have d4:decide ((k:Int)<0)=false:=by simp
 have d5:decide ((x.cols.length:Int)≤(k:Int))=false:=by simp;omega
 clear hre hnb hinx hco
 have HV:=Lib.hid hv
 clear hv
 go_enter Tryz.func88,Tryz.ntmps88
 go_wp2_with (first
  |(go_at_call 113;(with_reducible refine (hC _ ?_).mono ?_);rotate_left;rintro e w1 ⟨⟨sv,cv,rfl,hvo⟩,hb1⟩;obtain ⟨a6,c6,a7,c7',rfl,rfl⟩:=ver_form hvo;obtain ⟨hP,hq2,hq3⟩:=step_pre w0 w w1 x sa sc ca cc _ _ _ _ _ hb1 hvo;have HP:=Lib.hid hP;clear hq2 hq3 hb1;obtain ⟨_,p2,_,p4,_⟩:=hP;obtain ⟨⟨y0,y1,y2,y3,y4⟩,y5,y6,y7,y8,y9⟩:=ten_cells p2)
  |(go_at_call 114;(with_reducible refine (hR _ (stepS_bel HP.out)).mono ?_);rintro e w2 ⟨rfl,hb2⟩;have HP2:=Lib.hid (stepS_below HP.out hb2);have HE:=Lib.hid (step_end2 w w2 (w.heap.size+1+1) _ _ (.slice a6 x.slots.length c6) (.slice a7 x.cols.length c7') (stepS_res HP2.out) (stepS_bel HP2.out) (by omega));clear hb2;have hP2:=HP2.out;obtain ⟨_,p2',p3,p4',_⟩:=hP2;obtain ⟨⟨z0,z1,z2,z3,z4⟩,z5,z6,z7,z8,z9⟩:=ten_cells p2';obtain ⟨r0,r1,r2,r3⟩:=two_all p3;obtain ⟨x0,x1,x2,x3⟩:=two_all p4')
  |(go_at_call 85;(with_reducible refine (hN _).mono ?_);rintro e w3 ⟨rfl,rfl⟩)
  |(go_at_call 87;(with_reducible refine (hCo _ _ _ _ _ (stepS_ver h0 HP2.out)).mono ?_);rintro e w4 ⟨rfl,hb4⟩;have HP4:=Lib.hid (stepS_below HP2.out hb4);have HE:=Lib.hid (step_end2 w w4 (w.heap.size+1+1) _ _ (.slice a6 x.slots.length c6) (.slice a7 x.cols.length c7') (stepS_res HP4.out) (stepS_bel HP4.out) (by omega));clear hb4;have hP4:=HP4.out;obtain ⟨_,p2',p3,p4',_⟩:=hP4;obtain ⟨⟨z0,z1,z2,z3,z4⟩,z5,z6,z7,z8,z9⟩:=ten_cells p2';obtain ⟨r0,r1,r2,r3⟩:=two_all p3;obtain ⟨x0,x1,x2,x3⟩:=two_all p4'))
 ·have HPd:=HP4.out
  obtain ⟨g,g',c,old,hc,hcl,rfl,rfl,e2,⟨e1,f1⟩,hPn⟩:=stepS_name HPd hk1 HX.out sl.nm hnm
  have HC:=Lib.hid hc
  have HPn:=Lib.hid hPn
  have HE:=Lib.hid (step_end2 w (w4.setCell ⟨g,c*7,none⟩ (.string sl.nm)) (w.heap.size+1+1) _ _ (.slice (some ⟨g,0,none⟩) x.slots.length c6) (.slice (some ⟨g',0,none⟩) x.cols.length c7') (stepS_res hPn) (stepS_bel hPn) (by omega))
  obtain ⟨_,d2,_,d4',_⟩:=HPd
  obtain ⟨⟨v0,v1,v2,v3,v4⟩,_⟩:=ten_cells d2
  obtain ⟨v5,v6⟩:=two_cells d4'
  obtain ⟨_,n2,n3,n4,_⟩:=hPn
  obtain ⟨s0,s1,s2,s3⟩:=two_all n3
  obtain ⟨s4,s5⟩:=two_cells n4
  clear hc d2 d4' n2 n3 n4
  go_region
  go_wp2
  refine bodyPost_ret (results_cell_tmp_row9 Tryz.results88 _ _ (w.heap.size+1+1) _ _ _ _ rfl HE.out.1 Tryz.underlying110 rfl (by kernel_rfl)) rfl ?_
  have hq:=HQ.out
  rw [HC.out] at hq
  exact hq _ _ _ (stepS_own HPn.out) (HE.out.2.trans ⟨rfl,rfl,rfl,Nat.le_refl _,fun _ _=>rfl⟩)
 ·exact (((Below.refl _ w).alloc (Nat.le_refl _) _).alloc (by simp) _).alloc (by simp;omega) _
