/- Registries that are read: a step. (Made by gen_rgt.py.) -/
import Derived.Test.YtcjdfdfphbckaaaGreatMh15Regi
import Derived.Test.YtcjdfdfphbckaaaGreatMh20Regi
set_option linter.unusedVariables false
set_option linter.unusedSimpArgs false
set_option maxRecDepth 100000
set_option maxHeartbeats 64000000
open Go.Proofs.Tryz
namespace Go.Proofs.YtcjdfdfphbckaaaGreat
open Go.RowKit Go.Shelf
theorem box10 {W:World} {b:Nat} {t:TypeId} {c0 c1 c2 c3 c4 c5 c6 c7 c8 c9:Value} (h:CA W b t #[c0,c1,c2,c3,c4,c5,c6,c7,c8,c9]) :
  (W.cell? ⟨b,0,none⟩=some c0∧W.cell? ⟨b,1,none⟩=some c1∧W.cell? ⟨b,2,none⟩=some c2∧W.cell? ⟨b,3,none⟩=some c3∧W.cell? ⟨b,4,none⟩=some c4∧W.cell? ⟨b,5,none⟩=some c5∧W.cell? ⟨b,6,none⟩=some c6∧W.cell? ⟨b,7,none⟩=some c7∧W.cell? ⟨b,8,none⟩=some c8∧W.cell? ⟨b,9,none⟩=some c9) ∧
  (W.frozen? ⟨b,0,none⟩=false∧W.frozen? ⟨b,1,none⟩=false∧W.frozen? ⟨b,2,none⟩=false∧W.frozen? ⟨b,3,none⟩=false∧W.frozen? ⟨b,4,none⟩=false∧W.frozen? ⟨b,5,none⟩=false∧W.frozen? ⟨b,6,none⟩=false∧W.frozen? ⟨b,7,none⟩=false∧W.frozen? ⟨b,8,none⟩=false∧W.frozen? ⟨b,9,none⟩=false):=
 ⟨⟨ZAK h 0 _ rfl,ZAK h 1 _ rfl,ZAK h 2 _ rfl,ZAK h 3 _ rfl,ZAK h 4 _ rfl,ZAK h 5 _ rfl,ZAK h 6 _ rfl,ZAK h 7 _ rfl,ZAK h 8 _ rfl,ZAK h 9 _ rfl⟩,ZAM h 0,ZAM h 1,ZAM h 2,ZAM h 3,ZAM h 4,ZAM h 5,ZAM h 6,ZAM h 7,ZAM h 8,ZAM h 9⟩
theorem step10n:(Tryz.prog.info? 54).map (·.size)=some 10:=by kernel_rfl
theorem ZD0 (k:Int) (w:World):(Instr.build 54 #[(0,.int .i64 k)]).run Tryz.prog w=.ok (.agg #[.int .i64 k,.int .i64 0,.string ⟨#[]⟩,.int .i64 0,.bool false,.int .i64 0,.int .i64 0,.string ⟨#[]⟩,.slice none 0 0,.slice none 0 0]) w:=
 run_build w 54 _ _ (by kernel_rfl)
theorem ZJa (p:Nat) (s:Bn.St) (w:World) (h:RD w p s):Calls Tryz.prog 76 #[.pointer (some ⟨p,0,none⟩)] w (ZPE p w (Rg.rOne s)):=by
 have hB:=ZBT p s w h
 have hl:=ZBv h
 unfold Rg.rOne
 generalize Bn.rByte s=r at *
 obtain ⟨x,s1⟩:=r
 simp only at hB hl ⊢
 clear h
 go_enter func76,ntmps76
 go_wp2_with (go_at_call 73;(with_reducible refine hB.mono ?_);rintro e w1 ⟨rfl,hR1,hg1⟩)
 go_ret2
 exact ⟨x,rfl,fun y hy W' _=>(by cases hy;exact ⟨rfl,by omega,by omega⟩),hR1,hg1⟩
theorem ZMm (args:Array Value) (w:World):(callFunc 76 args).run Tryz.prog w=.ok (.enter 76 args) w:=enters_of func76 (by kernel_rfl) rfl args w
theorem ZJb (args:Array Value) (w:World):(callFunc 44 args).run Tryz.prog w=.ok (.enter 44 args) w:=enters_of func44 (by kernel_rfl) rfl args w
theorem ZCl {p w0:Nat} {w W F:World} {s:Bn.St} {c0 c1 c2 c3 c4 c5 c6 c7 c8 c9:Value} (hz:CA W w.heap.size 54 #[c0,c1,c2,c3,c4,c5,c6,c7,c8,c9]) (hR:RD W p s) (hG:w.grownBy W (some p)) (hg:W.grownBy F (some w.heap.size)):RD F p s∧w.grownBy F (some p):=
 ⟨ZDk hR hz hg (by decide) (by decide),ZBa hG hg (Nat.le_refl _)⟩
theorem ZOM {W:World} {b:Nat} {t:TypeId} {c0 c1 c2 c3 c4 c5 c6 c7 c8 c9:Value} (h:CA W b t #[c0,c1,c2,c3,c4,c5,c6,c7,c8,c9]) (d0 d1 d2 d3 d4 d5 d6:Value) :
  CA (((((((W.setCell ⟨b,2,none⟩ d0).setCell ⟨b,3,none⟩ d1).setCell ⟨b,4,none⟩ d2).setCell ⟨b,5,none⟩ d3).setCell ⟨b,6,none⟩ d4).setCell ⟨b,7,none⟩ d5).setCell ⟨b,8,none⟩ d6) b t #[c0,c1,d0,d1,d2,d3,d4,d5,d6,c9]∧W.grownBy (((((((W.setCell ⟨b,2,none⟩ d0).setCell ⟨b,3,none⟩ d1).setCell ⟨b,4,none⟩ d2).setCell ⟨b,5,none⟩ d3).setCell ⟨b,6,none⟩ d4).setCell ⟨b,7,none⟩ d5).setCell ⟨b,8,none⟩ d6) (some b):=by
 have h0:CA (W.setCell ⟨b,2,none⟩ d0) b t #[c0,c1,d0,c3,c4,c5,c6,c7,c8,c9]:=ZAv h 2 d0
 have g0:W.grownBy (W.setCell ⟨b,2,none⟩ d0) (some b):=ZAY b 2 d0
 have h1:CA ((W.setCell ⟨b,2,none⟩ d0).setCell ⟨b,3,none⟩ d1) b t #[c0,c1,d0,d1,c4,c5,c6,c7,c8,c9]:=ZAv h0 3 d1
 have g1:W.grownBy ((W.setCell ⟨b,2,none⟩ d0).setCell ⟨b,3,none⟩ d1) (some b):=ZAC g0 (ZAY b 3 d1)
 have h2:CA (((W.setCell ⟨b,2,none⟩ d0).setCell ⟨b,3,none⟩ d1).setCell ⟨b,4,none⟩ d2) b t #[c0,c1,d0,d1,d2,c5,c6,c7,c8,c9]:=ZAv h1 4 d2
 have g2:W.grownBy (((W.setCell ⟨b,2,none⟩ d0).setCell ⟨b,3,none⟩ d1).setCell ⟨b,4,none⟩ d2) (some b):=ZAC g1 (ZAY b 4 d2)
 have h3:CA ((((W.setCell ⟨b,2,none⟩ d0).setCell ⟨b,3,none⟩ d1).setCell ⟨b,4,none⟩ d2).setCell ⟨b,5,none⟩ d3) b t #[c0,c1,d0,d1,d2,d3,c6,c7,c8,c9]:=ZAv h2 5 d3
 have g3:W.grownBy ((((W.setCell ⟨b,2,none⟩ d0).setCell ⟨b,3,none⟩ d1).setCell ⟨b,4,none⟩ d2).setCell ⟨b,5,none⟩ d3) (some b):=ZAC g2 (ZAY b 5 d3)
 have h4:CA (((((W.setCell ⟨b,2,none⟩ d0).setCell ⟨b,3,none⟩ d1).setCell ⟨b,4,none⟩ d2).setCell ⟨b,5,none⟩ d3).setCell ⟨b,6,none⟩ d4) b t #[c0,c1,d0,d1,d2,d3,d4,c7,c8,c9]:=ZAv h3 6 d4
 have g4:W.grownBy (((((W.setCell ⟨b,2,none⟩ d0).setCell ⟨b,3,none⟩ d1).setCell ⟨b,4,none⟩ d2).setCell ⟨b,5,none⟩ d3).setCell ⟨b,6,none⟩ d4) (some b):=ZAC g3 (ZAY b 6 d4)
 have h5:CA ((((((W.setCell ⟨b,2,none⟩ d0).setCell ⟨b,3,none⟩ d1).setCell ⟨b,4,none⟩ d2).setCell ⟨b,5,none⟩ d3).setCell ⟨b,6,none⟩ d4).setCell ⟨b,7,none⟩ d5) b t #[c0,c1,d0,d1,d2,d3,d4,d5,c8,c9]:=ZAv h4 7 d5
 have g5:W.grownBy ((((((W.setCell ⟨b,2,none⟩ d0).setCell ⟨b,3,none⟩ d1).setCell ⟨b,4,none⟩ d2).setCell ⟨b,5,none⟩ d3).setCell ⟨b,6,none⟩ d4).setCell ⟨b,7,none⟩ d5) (some b):=ZAC g4 (ZAY b 7 d5)
 have h6:CA (((((((W.setCell ⟨b,2,none⟩ d0).setCell ⟨b,3,none⟩ d1).setCell ⟨b,4,none⟩ d2).setCell ⟨b,5,none⟩ d3).setCell ⟨b,6,none⟩ d4).setCell ⟨b,7,none⟩ d5).setCell ⟨b,8,none⟩ d6) b t #[c0,c1,d0,d1,d2,d3,d4,d5,d6,c9]:=ZAv h5 8 d6
 have g6:W.grownBy (((((((W.setCell ⟨b,2,none⟩ d0).setCell ⟨b,3,none⟩ d1).setCell ⟨b,4,none⟩ d2).setCell ⟨b,5,none⟩ d3).setCell ⟨b,6,none⟩ d4).setCell ⟨b,7,none⟩ d5).setCell ⟨b,8,none⟩ d6) (some b):=ZAC g5 (ZAY b 8 d6)
 exact ⟨h6,g6⟩
theorem ZON {W:World} {b:Nat} {t:TypeId} {c0 c1 c2 c3 c4 c5 c6 c7 c8 c9:Value} (h:CA W b t #[c0,c1,c2,c3,c4,c5,c6,c7,c8,c9]) (d0:Value) :
  CA (W.setCell ⟨b,9,none⟩ d0) b t #[c0,c1,c2,c3,c4,c5,c6,c7,c8,d0]∧W.grownBy (W.setCell ⟨b,9,none⟩ d0) (some b):=by
 have h0:CA (W.setCell ⟨b,9,none⟩ d0) b t #[c0,c1,c2,c3,c4,c5,c6,c7,c8,d0]:=ZAv h 9 d0
 have g0:W.grownBy (W.setCell ⟨b,9,none⟩ d0) (some b):=ZAY b 9 d0
 exact ⟨h0,g0⟩
theorem ZJc (w:World) (od:List Int) (oa:Option Addr) (oc:Nat) (hr:Row w .i64 oa od.length oc od) (hi:∀ x∈od,I64 x):ZA3 w ⟨5,0,Rg.z7,od⟩ (.agg #[.int .i64 5,.int .i64 0,.string ⟨#[]⟩,.int .i64 0,.bool false,.int .i64 0,.int .i64 0,.string ⟨#[]⟩,.slice none 0 0,.slice oa od.length oc]):=
 ⟨_,_,_,_,_,_,_,oa,oc,rfl,⟨by simp only;omega,by simp only;omega⟩,ZB8,⟨(by decide:(0:Nat)≤maxLen),ZB8,rfl,rfl,rfl,ZH5 w⟩,hr,hi⟩
theorem ZJd (w:World) (sl:SlotM) (c0 c1 c2 c3 c4 c5 c6:Value) (h:ZDi w sl c0 c1 c2 c3 c4 c5 c6):ZA3 w ⟨1,0,sl,[]⟩ (.agg #[.int .i64 1,.int .i64 0,c0,c1,c2,c3,c4,c5,c6,.slice none 0 0]):=
 ⟨_,_,_,_,_,_,_,none,0,rfl,⟨by simp only;omega,by simp only;omega⟩,ZB8,h,ZJZ w,by simp⟩
theorem ZG5 (p:Nat) (s s1:Bn.St) (k:Nat) (w:World) (h:RD w p s) (hk:Bn.rByte s=(k,s1)) (hkd:k=2):Calls Tryz.prog 46 #[.pointer (some ⟨p,0,none⟩)] w (ZDl p w (Rg.rStep1 k s1)):=by
 have hpw:=ZCf h
 have hA0:=(Below.refl _ w).alloc (Nat.le_refl _) (.cells vz10 54)
 have hz0:=ZBO w 54 vz10
 have hR0:=ZAp h hA0
 have hBy:=ZBT p s _ hR0
 have hkl:=ZBv h
 rw [hk] at hBy hkl
 simp only at hBy hkl
 clear hk
 subst hkd
 replace hBy:Calls Tryz.prog 73 #[.pointer (some ⟨p,0,none⟩)] (w.alloc (.cells vz10 54)) (ZF8 p (w.alloc (.cells vz10 54)) 2 s1):=hBy
 unfold Rg.rStep1
 rw [if_neg (by decide),if_pos rfl]
 have hC:=fun W (h:RD W p s1)=>ZBT p s1 W h
 have hcl:=fun W (h:RD W p s1)=>ZBv h
 generalize Bn.rByte s1=rc at *
 obtain ⟨c,s2⟩:=rc
 simp only at hC hcl ⊢
 have HC:=ZZY hC;have HCL:=ZZY hcl
 clear hC hcl
 have HBy:=ZZY hBy;have HZ:=ZZY hz0
 have hbu:=fun W=>ZD0 2 W
 have hG0:=ZAX (ZCC w (some p)) (.cells vz10 54)
 have hs0:w.heap.size<(w.alloc (.cells vz10 54)).heap.size:=by simp
 clear hBy hz0 hR0 h
 go_enter func46,ntmps46
 go_wp2_with (first
  |(go_at_call 73;(with_reducible refine (HBy.out).mono ?_);rintro e w1 ⟨rfl,hR1,hg1⟩;have hz1:=ZAT HZ.out hg1 hpw;have hG1:=ZAC hG0 hg1;have hA2:=(Below.refl _ w1).alloc (Nat.le_refl _) (.cells #[.int .i64 2,.int .i64 0,.string ⟨#[]⟩,.int .i64 0,.bool false,.int .i64 0,.int .i64 0,.string ⟨#[]⟩,.slice none 0 0,.slice none 0 0] 54);have hne:¬w.heap.size=w1.heap.size:=(by have:=hg1.size;omega);have hne2:¬w1.heap.size=w.heap.size:=(by omega);have hR2:=ZAp hR1 hA2;have hG2:=ZAX hG1 (.cells #[.int .i64 2,.int .i64 0,.string ⟨#[]⟩,.int .i64 0,.bool false,.int .i64 0,.int .i64 0,.string ⟨#[]⟩,.slice none 0 0,.slice none 0 0] 54);have hz2:=ZA4 hz1 hA2;have hb2:=ZBO w1 54 (#[.int .i64 2,.int .i64 0,.string ⟨#[]⟩,.int .i64 0,.bool false,.int .i64 0,.int .i64 0,.string ⟨#[]⟩,.slice none 0 0,.slice none 0 0]);have hlt2:w1.heap.size<(w1.alloc (.cells #[.int .i64 2,.int .i64 0,.string ⟨#[]⟩,.int .i64 0,.bool false,.int .i64 0,.int .i64 0,.string ⟨#[]⟩,.slice none 0 0,.slice none 0 0] 54)).heap.size:=(by simp);have hpw1:p<w1.heap.size:=(by have:=hg1.size;omega);obtain ⟨⟨r0,r1,r2,r3,r4,r5,r6,r7,r8,r9⟩,f0,f1,f2,f3,f4,f5,f6,f7,f8,f9⟩:=box10 hz2)
  |(go_at_call 73;(with_reducible refine (HC.out _ hR2).mono ?_);rintro e w3 ⟨rfl,hR3,hg3⟩;have hz3:=ZAT hz2 hg3 hpw;have hb3:=ZAT hb2 hg3 hpw1;have hG3:=ZAC hG2 hg3;obtain ⟨⟨r0,r1,r2,r3,r4,r5,r6,r7,r8,r9⟩,f0,f1,f2,f3,f4,f5,f6,f7,f8,f9⟩:=box10 hz3;obtain ⟨⟨t0,t1,t2,t3,t4,t5,t6,t7,t8,t9⟩,u0,u1,u2,u3,u4,u5,u6,u7,u8,u9⟩:=box10 hb3))
 have hgs0:=ZAY (W:=w3) w1.heap.size 1 (.int .i64 (c:Int))
 have hRs0:=ZDk hR3 hb3 hgs0 (by decide) (by decide)
 have hzs0:=(hgs0.block _ (ZC2 hz3) (by simp;omega)).trans hz3
 have hbs0:=ZAv hb3 1 (.int .i64 (c:Int))
 have hGs0:=ZBa hG3 hgs0 (by have:=hg1.size;omega)
 obtain ⟨hzF,hgF⟩:=set10 (t:=54) (W:=(w3.setCell ⟨w1.heap.size,1,none⟩ (.int .i64 (c:Int)))) hzs0 (.int .i64 2) (.int .i64 (c:Int)) (.string ⟨#[]⟩) (.int .i64 0) (.bool false) (.int .i64 0) (.int .i64 0) (.string ⟨#[]⟩) (.slice none 0 0) (.slice none 0 0)
 obtain ⟨hRF,hGF⟩:=ZCl (w0:=0) hzs0 hRs0 hGs0 hgF
 refine bodyPost_ret (ZAt Tryz.results46 _ _ w.heap.size _ _ _ _ rfl hzF Tryz.underlying54 rfl step10n) rfl ?_
 have hc9:=HCL.out _ hR2
 exact ⟨(2),((c:Int)),(⟨#[]⟩),(0),(false),(0),(0),(⟨#[]⟩),none,0,0,none,0,0,rfl,fun x hx W' _=>(by cases hx;exact ZCJ W' 2 c 0 ⟨#[]⟩ false ⟨by omega,by omega⟩ ⟨by omega,by omega⟩ ⟨by omega,by omega⟩ (by decide)),hRF,hGF⟩
theorem ZG6 (p:Nat) (s s1:Bn.St) (k:Nat) (w:World) (h:RD w p s) (hk:Bn.rByte s=(k,s1)) (hkd:k=4):Calls Tryz.prog 46 #[.pointer (some ⟨p,0,none⟩)] w (ZDl p w (Rg.rStep1 k s1)):=by
 have hpw:=ZCf h
 have hA0:=(Below.refl _ w).alloc (Nat.le_refl _) (.cells vz10 54)
 have hz0:=ZBO w 54 vz10
 have hR0:=ZAp h hA0
 have hBy:=ZBT p s _ hR0
 have hkl:=ZBv h
 rw [hk] at hBy hkl
 simp only at hBy hkl
 clear hk
 subst hkd
 replace hBy:Calls Tryz.prog 73 #[.pointer (some ⟨p,0,none⟩)] (w.alloc (.cells vz10 54)) (ZF8 p (w.alloc (.cells vz10 54)) 4 s1):=hBy
 unfold Rg.rStep1
 rw [if_neg (by decide),if_neg (by decide),if_neg (by decide),if_pos rfl]
 have hC:=fun W (h:RD W p s1)=>ZBT p s1 W h
 have hcl:=fun W (h:RD W p s1)=>ZBv h
 generalize Bn.rByte s1=rc at *
 obtain ⟨c,s2⟩:=rc
 simp only at hC hcl ⊢
 have HC:=ZZY hC;have HCL:=ZZY hcl
 clear hC hcl
 have hD:=fun W (h:RD W p s2)=>ZBT p s2 W h
 have hdl:=fun W (h:RD W p s2)=>ZBv h
 generalize Bn.rByte s2=rd at *
 obtain ⟨d,s3⟩:=rd
 simp only at hD hdl ⊢
 have HD:=ZZY hD;have HDL:=ZZY hdl
 clear hD hdl
 have HBy:=ZZY hBy;have HZ:=ZZY hz0
 have hbu:=fun W=>ZD0 4 W
 have hG0:=ZAX (ZCC w (some p)) (.cells vz10 54)
 have hs0:w.heap.size<(w.alloc (.cells vz10 54)).heap.size:=by simp
 clear hBy hz0 hR0 h
 go_enter func46,ntmps46
 go_wp2_with (first
  |(go_at_call 73;(with_reducible refine (HBy.out).mono ?_);rintro e w1 ⟨rfl,hR1,hg1⟩;have hz1:=ZAT HZ.out hg1 hpw;have hG1:=ZAC hG0 hg1;have hA2:=(Below.refl _ w1).alloc (Nat.le_refl _) (.cells #[.int .i64 4,.int .i64 0,.string ⟨#[]⟩,.int .i64 0,.bool false,.int .i64 0,.int .i64 0,.string ⟨#[]⟩,.slice none 0 0,.slice none 0 0] 54);have hne:¬w.heap.size=w1.heap.size:=(by have:=hg1.size;omega);have hne2:¬w1.heap.size=w.heap.size:=(by omega);have hR2:=ZAp hR1 hA2;have hG2:=ZAX hG1 (.cells #[.int .i64 4,.int .i64 0,.string ⟨#[]⟩,.int .i64 0,.bool false,.int .i64 0,.int .i64 0,.string ⟨#[]⟩,.slice none 0 0,.slice none 0 0] 54);have hz2:=ZA4 hz1 hA2;have hb2:=ZBO w1 54 (#[.int .i64 4,.int .i64 0,.string ⟨#[]⟩,.int .i64 0,.bool false,.int .i64 0,.int .i64 0,.string ⟨#[]⟩,.slice none 0 0,.slice none 0 0]);have hlt2:w1.heap.size<(w1.alloc (.cells #[.int .i64 4,.int .i64 0,.string ⟨#[]⟩,.int .i64 0,.bool false,.int .i64 0,.int .i64 0,.string ⟨#[]⟩,.slice none 0 0,.slice none 0 0] 54)).heap.size:=(by simp);have hpw1:p<w1.heap.size:=(by have:=hg1.size;omega);obtain ⟨⟨r0,r1,r2,r3,r4,r5,r6,r7,r8,r9⟩,f0,f1,f2,f3,f4,f5,f6,f7,f8,f9⟩:=box10 hz2)
  |(go_at_call 73;(with_reducible refine (HC.out _ hR2).mono ?_);rintro e w3 ⟨rfl,hR3,hg3⟩;have hz3:=ZAT hz2 hg3 hpw;have hb3:=ZAT hb2 hg3 hpw1;have hG3:=ZAC hG2 hg3;obtain ⟨⟨r0,r1,r2,r3,r4,r5,r6,r7,r8,r9⟩,f0,f1,f2,f3,f4,f5,f6,f7,f8,f9⟩:=box10 hz3;obtain ⟨⟨t0,t1,t2,t3,t4,t5,t6,t7,t8,t9⟩,u0,u1,u2,u3,u4,u5,u6,u7,u8,u9⟩:=box10 hb3)
  |(go_at_call 73;(with_reducible refine (HD.out _ hR3).mono ?_);rintro e w4 ⟨rfl,hR4,hg4⟩;have hz4:=ZAT hz3 hg4 hpw;have hb4:=ZAT hb3 hg4 hpw1;have hG4:=ZAC hG3 hg4;obtain ⟨⟨r0,r1,r2,r3,r4,r5,r6,r7,r8,r9⟩,f0,f1,f2,f3,f4,f5,f6,f7,f8,f9⟩:=box10 hz4;obtain ⟨⟨t0,t1,t2,t3,t4,t5,t6,t7,t8,t9⟩,u0,u1,u2,u3,u4,u5,u6,u7,u8,u9⟩:=box10 hb4))
 have hgs0:=ZAY (W:=w4) w1.heap.size 1 (.int .i64 (c:Int))
 have hRs0:=ZDk hR4 hb4 hgs0 (by decide) (by decide)
 have hzs0:=(hgs0.block _ (ZC2 hz4) (by simp;omega)).trans hz4
 have hbs0:=ZAv hb4 1 (.int .i64 (c:Int))
 have hGs0:=ZBa hG4 hgs0 (by have:=hg1.size;omega)
 have hgs1:=ZAY (W:=(w4.setCell ⟨w1.heap.size,1,none⟩ (.int .i64 (c:Int)))) w1.heap.size 3 (.int .i64 (d:Int))
 have hRs1:=ZDk hRs0 hbs0 hgs1 (by decide) (by decide)
 have hzs1:=(hgs1.block _ (ZC2 hzs0) (by simp;omega)).trans hzs0
 have hbs1:=ZAv hbs0 3 (.int .i64 (d:Int))
 have hGs1:=ZBa hGs0 hgs1 (by have:=hg1.size;omega)
 obtain ⟨hzF,hgF⟩:=set10 (t:=54) (W:=((w4.setCell ⟨w1.heap.size,1,none⟩ (.int .i64 (c:Int))).setCell ⟨w1.heap.size,3,none⟩ (.int .i64 (d:Int)))) hzs1 (.int .i64 4) (.int .i64 (c:Int)) (.string ⟨#[]⟩) (.int .i64 (d:Int)) (.bool false) (.int .i64 0) (.int .i64 0) (.string ⟨#[]⟩) (.slice none 0 0) (.slice none 0 0)
 obtain ⟨hRF,hGF⟩:=ZCl (w0:=0) hzs1 hRs1 hGs1 hgF
 refine bodyPost_ret (ZAt Tryz.results46 _ _ w.heap.size _ _ _ _ rfl hzF Tryz.underlying54 rfl step10n) rfl ?_
 have hc9:=HCL.out _ hR2
 have hd9:=HDL.out _ hR3
 exact ⟨(4),((c:Int)),(⟨#[]⟩),((d:Int)),(false),(0),(0),(⟨#[]⟩),none,0,0,none,0,0,rfl,fun x hx W' _=>(by cases hx;exact ZCJ W' 4 c d ⟨#[]⟩ false ⟨by omega,by omega⟩ ⟨by omega,by omega⟩ ⟨by omega,by omega⟩ (by decide)),hRF,hGF⟩
theorem ZG7 (p:Nat) (s s1:Bn.St) (k:Nat) (w:World) (h:RD w p s) (hk:Bn.rByte s=(k,s1)) (hkd:k=3):Calls Tryz.prog 46 #[.pointer (some ⟨p,0,none⟩)] w (ZDl p w (Rg.rStep1 k s1)):=by
 have hpw:=ZCf h
 have hA0:=(Below.refl _ w).alloc (Nat.le_refl _) (.cells vz10 54)
 have hz0:=ZBO w 54 vz10
 have hR0:=ZAp h hA0
 have hBy:=ZBT p s _ hR0
 have hkl:=ZBv h
 rw [hk] at hBy hkl
 simp only at hBy hkl
 clear hk
 subst hkd
 replace hBy:Calls Tryz.prog 73 #[.pointer (some ⟨p,0,none⟩)] (w.alloc (.cells vz10 54)) (ZF8 p (w.alloc (.cells vz10 54)) 3 s1):=hBy
 unfold Rg.rStep1
 rw [if_neg (by decide),if_neg (by decide),if_pos rfl]
 have hC:=fun W (h:RD W p s1)=>ZBT p s1 W h
 have hcl:=fun W (h:RD W p s1)=>ZBv h
 generalize Bn.rByte s1=rc at *
 obtain ⟨c,s2⟩:=rc
 simp only at hC hcl ⊢
 have HC:=ZZY hC;have HCL:=ZZY hcl
 clear hC hcl
 have hD:=fun W (h:RD W p s2)=>ZDN p s2 W h
 have hdl:=fun W (h:RD W p s2)=>ZDP h
 generalize Bn.rText s2=rd at *
 obtain ⟨d,s3⟩:=rd
 simp only at hD hdl ⊢
 have HD:=ZZY hD;have HDL:=ZZY hdl
 clear hD hdl
 have HBy:=ZZY hBy;have HZ:=ZZY hz0
 have hbu:=fun W=>ZD0 3 W
 have hG0:=ZAX (ZCC w (some p)) (.cells vz10 54)
 have hs0:w.heap.size<(w.alloc (.cells vz10 54)).heap.size:=by simp
 clear hBy hz0 hR0 h
 go_enter func46,ntmps46
 go_wp2_with (first
  |(go_at_call 73;(with_reducible refine (HBy.out).mono ?_);rintro e w1 ⟨rfl,hR1,hg1⟩;have hz1:=ZAT HZ.out hg1 hpw;have hG1:=ZAC hG0 hg1;have hA2:=(Below.refl _ w1).alloc (Nat.le_refl _) (.cells #[.int .i64 3,.int .i64 0,.string ⟨#[]⟩,.int .i64 0,.bool false,.int .i64 0,.int .i64 0,.string ⟨#[]⟩,.slice none 0 0,.slice none 0 0] 54);have hne:¬w.heap.size=w1.heap.size:=(by have:=hg1.size;omega);have hne2:¬w1.heap.size=w.heap.size:=(by omega);have hR2:=ZAp hR1 hA2;have hG2:=ZAX hG1 (.cells #[.int .i64 3,.int .i64 0,.string ⟨#[]⟩,.int .i64 0,.bool false,.int .i64 0,.int .i64 0,.string ⟨#[]⟩,.slice none 0 0,.slice none 0 0] 54);have hz2:=ZA4 hz1 hA2;have hb2:=ZBO w1 54 (#[.int .i64 3,.int .i64 0,.string ⟨#[]⟩,.int .i64 0,.bool false,.int .i64 0,.int .i64 0,.string ⟨#[]⟩,.slice none 0 0,.slice none 0 0]);have hlt2:w1.heap.size<(w1.alloc (.cells #[.int .i64 3,.int .i64 0,.string ⟨#[]⟩,.int .i64 0,.bool false,.int .i64 0,.int .i64 0,.string ⟨#[]⟩,.slice none 0 0,.slice none 0 0] 54)).heap.size:=(by simp);have hpw1:p<w1.heap.size:=(by have:=hg1.size;omega);obtain ⟨⟨r0,r1,r2,r3,r4,r5,r6,r7,r8,r9⟩,f0,f1,f2,f3,f4,f5,f6,f7,f8,f9⟩:=box10 hz2)
  |(go_at_call 73;(with_reducible refine (HC.out _ hR2).mono ?_);rintro e w3 ⟨rfl,hR3,hg3⟩;have hz3:=ZAT hz2 hg3 hpw;have hb3:=ZAT hb2 hg3 hpw1;have hG3:=ZAC hG2 hg3;obtain ⟨⟨r0,r1,r2,r3,r4,r5,r6,r7,r8,r9⟩,f0,f1,f2,f3,f4,f5,f6,f7,f8,f9⟩:=box10 hz3;obtain ⟨⟨t0,t1,t2,t3,t4,t5,t6,t7,t8,t9⟩,u0,u1,u2,u3,u4,u5,u6,u7,u8,u9⟩:=box10 hb3)
  |(go_at_call 42;(with_reducible refine (HD.out _ hR3).mono ?_);rintro e w4 ⟨rfl,hR4,hg4⟩;have hz4:=ZAT hz3 hg4 hpw;have hb4:=ZAT hb3 hg4 hpw1;have hG4:=ZAC hG3 hg4;obtain ⟨⟨r0,r1,r2,r3,r4,r5,r6,r7,r8,r9⟩,f0,f1,f2,f3,f4,f5,f6,f7,f8,f9⟩:=box10 hz4;obtain ⟨⟨t0,t1,t2,t3,t4,t5,t6,t7,t8,t9⟩,u0,u1,u2,u3,u4,u5,u6,u7,u8,u9⟩:=box10 hb4))
 have hgs0:=ZAY (W:=w4) w1.heap.size 1 (.int .i64 (c:Int))
 have hRs0:=ZDk hR4 hb4 hgs0 (by decide) (by decide)
 have hzs0:=(hgs0.block _ (ZC2 hz4) (by simp;omega)).trans hz4
 have hbs0:=ZAv hb4 1 (.int .i64 (c:Int))
 have hGs0:=ZBa hG4 hgs0 (by have:=hg1.size;omega)
 have hgs1:=ZAY (W:=(w4.setCell ⟨w1.heap.size,1,none⟩ (.int .i64 (c:Int)))) w1.heap.size 2 (.string d)
 have hRs1:=ZDk hRs0 hbs0 hgs1 (by decide) (by decide)
 have hzs1:=(hgs1.block _ (ZC2 hzs0) (by simp;omega)).trans hzs0
 have hbs1:=ZAv hbs0 2 (.string d)
 have hGs1:=ZBa hGs0 hgs1 (by have:=hg1.size;omega)
 obtain ⟨hzF,hgF⟩:=set10 (t:=54) (W:=((w4.setCell ⟨w1.heap.size,1,none⟩ (.int .i64 (c:Int))).setCell ⟨w1.heap.size,2,none⟩ (.string d))) hzs1 (.int .i64 3) (.int .i64 (c:Int)) (.string d) (.int .i64 0) (.bool false) (.int .i64 0) (.int .i64 0) (.string ⟨#[]⟩) (.slice none 0 0) (.slice none 0 0)
 obtain ⟨hRF,hGF⟩:=ZCl (w0:=0) hzs1 hRs1 hGs1 hgF
 refine bodyPost_ret (ZAt Tryz.results46 _ _ w.heap.size _ _ _ _ rfl hzF Tryz.underlying54 rfl step10n) rfl ?_
 have hc9:=HCL.out _ hR2
 have hd9:=HDL.out _ hR3
 exact ⟨(3),((c:Int)),(d),(0),(false),(0),(0),(⟨#[]⟩),none,0,0,none,0,0,rfl,fun x hx W' _=>(by cases hx;exact ZCJ W' 3 c 0 d false ⟨by omega,by omega⟩ ⟨by omega,by omega⟩ ⟨by omega,by omega⟩ hd9),hRF,hGF⟩
theorem ZG8 (p:Nat) (s s1:Bn.St) (k:Nat) (w:World) (h:RD w p s) (hk:Bn.rByte s=(k,s1)) (k1:k≠1) (k2:k≠2) (k3:k≠3) (k4:k≠4) (k5:k≠5):Calls Tryz.prog 46 #[.pointer (some ⟨p,0,none⟩)] w (ZDl p w (Rg.rStep1 k s1)):=by
 have hpw:=ZCf h
 have hA0:=(Below.refl _ w).alloc (Nat.le_refl _) (.cells vz10 54)
 have hz0:=ZBO w 54 vz10
 have hR0:=ZAp h hA0
 have hBy:=ZBT p s _ hR0
 have hkl:=ZBv h
 rw [hk] at hBy hkl
 simp only at hBy hkl
 clear hk
 have e1:((k:Int) == 1)=false:=(by rw [beq_eq_false_iff_ne];omega)
 have e2:((k:Int) == 2)=false:=(by rw [beq_eq_false_iff_ne];omega)
 have e3:((k:Int) == 3)=false:=(by rw [beq_eq_false_iff_ne];omega)
 have e4:((k:Int) == 4)=false:=(by rw [beq_eq_false_iff_ne];omega)
 have e5:((k:Int) == 5)=false:=(by rw [beq_eq_false_iff_ne];omega)
 have n1:(k == 1)=false:=(by rw [beq_eq_false_iff_ne];exact k1)
 have n2:(k == 2)=false:=(by rw [beq_eq_false_iff_ne];exact k2)
 have n3:(k == 3)=false:=(by rw [beq_eq_false_iff_ne];exact k3)
 have n4:(k == 4)=false:=(by rw [beq_eq_false_iff_ne];exact k4)
 have n5:(k == 5)=false:=(by rw [beq_eq_false_iff_ne];exact k5)
 unfold Rg.rStep1
 rw [if_neg k1,if_neg k2,if_neg k3,if_neg k4,if_neg k5]
 have HBy:=ZZY hBy;have HZ:=ZZY hz0
 have hbu:=fun W=>ZD0 (k:Int) W
 have hG0:=ZAX (ZCC w (some p)) (.cells vz10 54)
 have hs0:w.heap.size<(w.alloc (.cells vz10 54)).heap.size:=by simp
 clear hBy hz0 hR0 h
 go_enter func46,ntmps46
 go_wp2_with (first
  |(go_at_call 73;(with_reducible refine (HBy.out).mono ?_);rintro e w1 ⟨rfl,hR1,hg1⟩;have hz1:=ZAT HZ.out hg1 hpw;have hG1:=ZAC hG0 hg1;have hA2:=(Below.refl _ w1).alloc (Nat.le_refl _) (.cells #[.int .i64 (k:Int),.int .i64 0,.string ⟨#[]⟩,.int .i64 0,.bool false,.int .i64 0,.int .i64 0,.string ⟨#[]⟩,.slice none 0 0,.slice none 0 0] 54);have hne:¬w.heap.size=w1.heap.size:=(by have:=hg1.size;omega);have hne2:¬w1.heap.size=w.heap.size:=(by omega);have hR2:=ZAp hR1 hA2;have hG2:=ZAX hG1 (.cells #[.int .i64 (k:Int),.int .i64 0,.string ⟨#[]⟩,.int .i64 0,.bool false,.int .i64 0,.int .i64 0,.string ⟨#[]⟩,.slice none 0 0,.slice none 0 0] 54);have hz2:=ZA4 hz1 hA2;have hb2:=ZBO w1 54 (#[.int .i64 (k:Int),.int .i64 0,.string ⟨#[]⟩,.int .i64 0,.bool false,.int .i64 0,.int .i64 0,.string ⟨#[]⟩,.slice none 0 0,.slice none 0 0]);have hlt2:w1.heap.size<(w1.alloc (.cells #[.int .i64 (k:Int),.int .i64 0,.string ⟨#[]⟩,.int .i64 0,.bool false,.int .i64 0,.int .i64 0,.string ⟨#[]⟩,.slice none 0 0,.slice none 0 0] 54)).heap.size:=(by simp);have hpw1:p<w1.heap.size:=(by have:=hg1.size;omega);obtain ⟨⟨r0,r1,r2,r3,r4,r5,r6,r7,r8,r9⟩,f0,f1,f2,f3,f4,f5,f6,f7,f8,f9⟩:=box10 hz2)
  |fail)
 obtain ⟨hzF,hgF⟩:=set10 (t:=54) (W:=w1.alloc (.cells #[.int .i64 (k:Int),.int .i64 0,.string ⟨#[]⟩,.int .i64 0,.bool false,.int .i64 0,.int .i64 0,.string ⟨#[]⟩,.slice none 0 0,.slice none 0 0] 54)) hz2 (.int .i64 (k:Int)) (.int .i64 0) (.string ⟨#[]⟩) (.int .i64 0) (.bool false) (.int .i64 0) (.int .i64 0) (.string ⟨#[]⟩) (.slice none 0 0) (.slice none 0 0)
 obtain ⟨hRF,hGF⟩:=ZCl (w0:=0) hz2 hR2 hG2 hgF
 refine bodyPost_ret (ZAt Tryz.results46 _ _ w.heap.size _ _ _ _ rfl hzF Tryz.underlying54 rfl step10n) rfl ?_
 exact ⟨((k:Int)),(0),(⟨#[]⟩),(0),(false),(0),(0),(⟨#[]⟩),none,0,0,none,0,0,rfl,fun x hx W' _=>(by cases hx;exact ZCJ W' k 0 0 ⟨#[]⟩ false ⟨by omega,by omega⟩ ⟨by omega,by omega⟩ ⟨by omega,by omega⟩ (by decide)),hRF,hGF⟩
theorem ZG9 (p:Nat) (s s1:Bn.St) (k:Nat) (w:World) (h:RD w p s) (hk:Bn.rByte s=(k,s1)) (hkd:k=5):Calls Tryz.prog 46 #[.pointer (some ⟨p,0,none⟩)] w (ZDl p w (Rg.rStep1 k s1)):=by
 have hpw:=ZCf h
 have hA0:=(Below.refl _ w).alloc (Nat.le_refl _) (.cells vz10 54)
 have hz0:=ZBO w 54 vz10
 have hR0:=ZAp h hA0
 have hBy:=ZBT p s _ hR0
 have hkl:=ZBv h
 rw [hk] at hBy hkl
 simp only at hBy hkl
 clear hk
 subst hkd
 replace hBy:Calls Tryz.prog 73 #[.pointer (some ⟨p,0,none⟩)] (w.alloc (.cells vz10 54)) (ZF8 p (w.alloc (.cells vz10 54)) 5 s1):=hBy
 unfold Rg.rStep1
 rw [if_neg (by decide),if_neg (by decide),if_neg (by decide),if_neg (by decide),if_pos rfl]
 have hL:∀ W,RD W p s1→Calls Tryz.prog 75 #[.pointer (some ⟨p,0,none⟩),.int .i64 8,.func (.func 76) #[] #[]] W (ZDm ZMe p W (Rg.rList 8 Rg.rOne s1)):=fun W h=>ZLP 8 (by omega) Rg.rOne 76 p s1 W h ZMm (fun W s h=>ZJa p s W h)
 generalize Rg.rList 8 Rg.rOne s1=rl at *
 obtain ⟨o,s2⟩:=rl
 simp only at hL ⊢
 obtain ⟨R,hRR⟩:∃ R:Option StepM,Option.map (fun l=>(⟨5,0,Rg.z7,l⟩:StepM)) o=R:=⟨_,rfl⟩
 have hos:o.isSome=R.isSome:=by rw [←hRR];cases o<;>rfl
 have hox:∀ x,R=some x→∃ ys,o=some ys∧x=⟨5,0,Rg.z7,ys⟩:=by
  intro x hx
  rw [←hRR] at hx
  cases o with
  |none=>cases hx
  |some ys=>cases hx;exact ⟨ys,rfl,rfl⟩
 rw [hRR]
 have HOS:=ZZY hos;have HOX:=ZZY hox;have HL:=ZZY hL
 clear hRR hos hox hL
 have HBy:=ZZY hBy;have HZ:=ZZY hz0
 have hbu:=fun W=>ZD0 5 W
 have hG0:=ZAX (ZCC w (some p)) (.cells vz10 54)
 have hs0:w.heap.size<(w.alloc (.cells vz10 54)).heap.size:=by simp
 clear hBy hz0 hR0 h
 go_enter func46,ntmps46
 go_wp2_with (first
  |(go_at_call 73;(with_reducible refine (HBy.out).mono ?_);rintro e w1 ⟨rfl,hR1,hg1⟩;have hz1:=ZAT HZ.out hg1 hpw;have hG1:=ZAC hG0 hg1;have hA2:=(Below.refl _ w1).alloc (Nat.le_refl _) (.cells #[.int .i64 5,.int .i64 0,.string ⟨#[]⟩,.int .i64 0,.bool false,.int .i64 0,.int .i64 0,.string ⟨#[]⟩,.slice none 0 0,.slice none 0 0] 54);have hne:¬w.heap.size=w1.heap.size:=(by have:=hg1.size;omega);have hne2:¬w1.heap.size=w.heap.size:=(by omega);have hR2:=ZAp hR1 hA2;have hG2:=ZAX hG1 (.cells #[.int .i64 5,.int .i64 0,.string ⟨#[]⟩,.int .i64 0,.bool false,.int .i64 0,.int .i64 0,.string ⟨#[]⟩,.slice none 0 0,.slice none 0 0] 54);have hz2:=ZA4 hz1 hA2;have hb2:=ZBO w1 54 (#[.int .i64 5,.int .i64 0,.string ⟨#[]⟩,.int .i64 0,.bool false,.int .i64 0,.int .i64 0,.string ⟨#[]⟩,.slice none 0 0,.slice none 0 0]);have hlt2:w1.heap.size<(w1.alloc (.cells #[.int .i64 5,.int .i64 0,.string ⟨#[]⟩,.int .i64 0,.bool false,.int .i64 0,.int .i64 0,.string ⟨#[]⟩,.slice none 0 0,.slice none 0 0] 54)).heap.size:=(by simp);have hpw1:p<w1.heap.size:=(by have:=hg1.size;omega);obtain ⟨⟨r0,r1,r2,r3,r4,r5,r6,r7,r8,r9⟩,f0,f1,f2,f3,f4,f5,f6,f7,f8,f9⟩:=box10 hz2)
  |(go_at_call 75;(with_reducible refine (HL.out _ hR2).mono ?_);rintro e w3 ⟨a,l,c,rfl,hF3,hR3,hg3⟩;have hz3:=ZAT hz2 hg3 hpw;have hb3:=ZAT hb2 hg3 hpw1;have hG3:=ZAC hG2 hg3;obtain ⟨⟨r0,r1,r2,r3,r4,r5,r6,r7,r8,r9⟩,f0,f1,f2,f3,f4,f5,f6,f7,f8,f9⟩:=box10 hz3;obtain ⟨⟨t0,t1,t2,t3,t4,t5,t6,t7,t8,t9⟩,u0,u1,u2,u3,u4,u5,u6,u7,u8,u9⟩:=box10 hb3))
 obtain ⟨hbS,hgS⟩:=ZON (t:=54) hb3 (.slice a l c)
 have hRS:=ZDk hR3 hb3 hgS (by decide) (by decide)
 have hzS:=(hgS.block _ (ZC2 hz3) (by simp;omega)).trans hz3
 have hGS:=ZBa hG3 hgS (by have:=hg1.size;omega)
 obtain ⟨V,hV⟩:∃ V,(w3.setCell ⟨w1.heap.size,9,none⟩ (.slice a l c))=V:=⟨_,rfl⟩
 rw [hV] at hbS hgS hRS hzS hGS ⊢
 obtain ⟨hzF,hgF⟩:=set10 (t:=54) (W:=V) hzS (.int .i64 5) (.int .i64 0) (.string ⟨#[]⟩) (.int .i64 0) (.bool false) (.int .i64 0) (.int .i64 0) (.string ⟨#[]⟩) (.slice none 0 0) (.slice a l c)
 obtain ⟨hRF,hGF⟩:=ZCl (w0:=0) hzS hRS hGS hgF
 refine bodyPost_ret (ZAt Tryz.results46 _ _ w.heap.size _ _ _ _ rfl hzF Tryz.underlying54 rfl step10n) rfl ?_
 have hos:=HOS.out
 refine ⟨(5),(0),(⟨#[]⟩),(0),(false),(0),(0),(⟨#[]⟩),none,0,0,a,l,c,(by simp only;rw [←hos];rfl),fun x hx W' hW'=>?_,hRF,hGF⟩
 obtain ⟨ys,rfl,rfl⟩:=HOX.out x hx
 obtain ⟨rfl,hrow⟩:=hF3 ys rfl
 obtain ⟨hr9,hi9⟩:=hrow W' fun b9 k1 k2=>by
  have hsz0:=hgF.size
  have hsz1:=hgS.size
  have hs9:=hg1.size
  have hs8:(w1.alloc (.cells #[.int .i64 5,.int .i64 0,.string ⟨#[]⟩,.int .i64 0,.bool false,.int .i64 0,.int .i64 0,.string ⟨#[]⟩,.slice none 0 0,.slice none 0 0] 54)).heap.size=w1.heap.size+1:=World.size_alloc _ _
  rw [hW' b9 (by omega) (by omega),hgF.block b9 (by omega) (by simp;omega),hgS.block b9 (by omega) (by simp;omega)]
 exact ZJc W' ys a c hr9 hi9
theorem ZHA (p:Nat) (s s1:Bn.St) (k:Nat) (w:World) (h:RD w p s) (hk:Bn.rByte s=(k,s1)) (hkd:k=1):Calls Tryz.prog 46 #[.pointer (some ⟨p,0,none⟩)] w (ZDl p w (Rg.rStep1 k s1)):=by
 have hpw:=ZCf h
 have hA0:=(Below.refl _ w).alloc (Nat.le_refl _) (.cells vz10 54)
 have hz0:=ZBO w 54 vz10
 have hR0:=ZAp h hA0
 have hBy:=ZBT p s _ hR0
 have hkl:=ZBv h
 rw [hk] at hBy hkl
 simp only at hBy hkl
 clear hk
 subst hkd
 replace hBy:Calls Tryz.prog 73 #[.pointer (some ⟨p,0,none⟩)] (w.alloc (.cells vz10 54)) (ZF8 p (w.alloc (.cells vz10 54)) 1 s1):=hBy
 unfold Rg.rStep1
 rw [if_pos rfl]
 have hL:=fun W (h:RD W p s1)=>ZE5 p s1 W h
 generalize Rg.rSlot s1=rl at *
 obtain ⟨o,s2⟩:=rl
 simp only at hL ⊢
 obtain ⟨R,hRR⟩:∃ R:Option StepM,Option.map (fun sl=>(⟨1,0,sl,[]⟩:StepM)) o=R:=⟨_,rfl⟩
 have hos:o.isSome=R.isSome:=by rw [←hRR];cases o<;>rfl
 have hox:∀ x,R=some x→∃ sl,o=some sl∧x=⟨1,0,sl,[]⟩:=by
  intro x hx
  rw [←hRR] at hx
  cases o with
  |none=>cases hx
  |some ys=>cases hx;exact ⟨ys,rfl,rfl⟩
 rw [hRR]
 have HOS:=ZZY hos;have HOX:=ZZY hox;have HL:=ZZY hL
 clear hRR hos hox hL
 have HBy:=ZZY hBy;have HZ:=ZZY hz0
 have hbu:=fun W=>ZD0 1 W
 have hG0:=ZAX (ZCC w (some p)) (.cells vz10 54)
 have hs0:w.heap.size<(w.alloc (.cells vz10 54)).heap.size:=by simp
 clear hBy hz0 hR0 h
 go_enter func46,ntmps46
 go_wp2_with (first
  |(go_at_call 73;(with_reducible refine (HBy.out).mono ?_);rintro e w1 ⟨rfl,hR1,hg1⟩;have hz1:=ZAT HZ.out hg1 hpw;have hG1:=ZAC hG0 hg1;have hA2:=(Below.refl _ w1).alloc (Nat.le_refl _) (.cells #[.int .i64 1,.int .i64 0,.string ⟨#[]⟩,.int .i64 0,.bool false,.int .i64 0,.int .i64 0,.string ⟨#[]⟩,.slice none 0 0,.slice none 0 0] 54);have hne:¬w.heap.size=w1.heap.size:=(by have:=hg1.size;omega);have hne2:¬w1.heap.size=w.heap.size:=(by omega);have hR2:=ZAp hR1 hA2;have hG2:=ZAX hG1 (.cells #[.int .i64 1,.int .i64 0,.string ⟨#[]⟩,.int .i64 0,.bool false,.int .i64 0,.int .i64 0,.string ⟨#[]⟩,.slice none 0 0,.slice none 0 0] 54);have hz2:=ZA4 hz1 hA2;have hb2:=ZBO w1 54 (#[.int .i64 1,.int .i64 0,.string ⟨#[]⟩,.int .i64 0,.bool false,.int .i64 0,.int .i64 0,.string ⟨#[]⟩,.slice none 0 0,.slice none 0 0]);have hlt2:w1.heap.size<(w1.alloc (.cells #[.int .i64 1,.int .i64 0,.string ⟨#[]⟩,.int .i64 0,.bool false,.int .i64 0,.int .i64 0,.string ⟨#[]⟩,.slice none 0 0,.slice none 0 0] 54)).heap.size:=(by simp);have hpw1:p<w1.heap.size:=(by have:=hg1.size;omega);obtain ⟨⟨r0,r1,r2,r3,r4,r5,r6,r7,r8,r9⟩,f0,f1,f2,f3,f4,f5,f6,f7,f8,f9⟩:=box10 hz2)
  |(go_at_call 44;(with_reducible refine (HL.out _ hR2).mono ?_);rintro e w3 ⟨nm,ty,rq,k9,n9,x9,a,l,c,rfl,hF3,hR3,hg3⟩;have hz3:=ZAT hz2 hg3 hpw;have hb3:=ZAT hb2 hg3 hpw1;have hG3:=ZAC hG2 hg3;obtain ⟨⟨r0,r1,r2,r3,r4,r5,r6,r7,r8,r9⟩,f0,f1,f2,f3,f4,f5,f6,f7,f8,f9⟩:=box10 hz3;obtain ⟨⟨t0,t1,t2,t3,t4,t5,t6,t7,t8,t9⟩,u0,u1,u2,u3,u4,u5,u6,u7,u8,u9⟩:=box10 hb3))
 obtain ⟨hbS,hgS⟩:=ZOM (t:=54) hb3 (.string nm) (.int .i64 ty) (.bool rq) (.int .i64 k9) (.int .i64 n9) (.string x9) (.slice a l c)
 have hRS:=ZDk hR3 hb3 hgS (by decide) (by decide)
 have hzS:=(hgS.block _ (ZC2 hz3) (by simp;omega)).trans hz3
 have hGS:=ZBa hG3 hgS (by have:=hg1.size;omega)
 obtain ⟨V,hV⟩:∃ V,(((((((w3.setCell ⟨w1.heap.size,2,none⟩ (.string nm)).setCell ⟨w1.heap.size,3,none⟩ (.int .i64 ty)).setCell ⟨w1.heap.size,4,none⟩ (.bool rq)).setCell ⟨w1.heap.size,5,none⟩ (.int .i64 k9)).setCell ⟨w1.heap.size,6,none⟩ (.int .i64 n9)).setCell ⟨w1.heap.size,7,none⟩ (.string x9)).setCell ⟨w1.heap.size,8,none⟩ (.slice a l c))=V:=⟨_,rfl⟩
 rw [hV] at hbS hgS hRS hzS hGS ⊢
 obtain ⟨hzF,hgF⟩:=set10 (t:=54) (W:=V) hzS (.int .i64 1) (.int .i64 0) (.string nm) (.int .i64 ty) (.bool rq) (.int .i64 k9) (.int .i64 n9) (.string x9) (.slice a l c) (.slice none 0 0)
 obtain ⟨hRF,hGF⟩:=ZCl (w0:=0) hzS hRS hGS hgF
 refine bodyPost_ret (ZAt Tryz.results46 _ _ w.heap.size _ _ _ _ rfl hzF Tryz.underlying54 rfl step10n) rfl ?_
 have hos:=HOS.out
 refine ⟨(1),(0),nm,ty,rq,k9,n9,x9,a,l,c,none,0,0,(by simp only;rw [←hos];rfl),fun x hx W' hW'=>?_,hRF,hGF⟩
 obtain ⟨sl,rfl,rfl⟩:=HOX.out x hx
 obtain ⟨c0,c1,c2,c3,c4,c5,c6,e9,h7⟩:=hF3 sl rfl W' fun b9 k1 k2=>by
  have hsz0:=hgF.size
  have hsz1:=hgS.size
  have hs9:=hg1.size
  have hs8:(w1.alloc (.cells #[.int .i64 1,.int .i64 0,.string ⟨#[]⟩,.int .i64 0,.bool false,.int .i64 0,.int .i64 0,.string ⟨#[]⟩,.slice none 0 0,.slice none 0 0] 54)).heap.size=w1.heap.size+1:=World.size_alloc _ _
  rw [hW' b9 (by omega) (by omega),hgF.block b9 (by omega) (by simp;omega),hgS.block b9 (by omega) (by simp;omega)]
 simp only [Value.agg.injEq,Array.mk.injEq,List.cons.injEq,and_true] at e9
 obtain ⟨rfl,rfl,rfl,rfl,rfl,rfl,rfl⟩:=e9
 exact ZJd W' sl _ _ _ _ _ _ _ h7
theorem ZH6 (p:Nat) (s:Bn.St) (w:World) (h:RD w p s):Calls Tryz.prog 46 #[.pointer (some ⟨p,0,none⟩)] w (ZDl p w (Rg.rStep s)):=by
 obtain ⟨r,hr⟩:∃ r,Bn.rByte s=r:=⟨_,rfl⟩
 obtain ⟨k,s1⟩:=r
 unfold Rg.rStep
 rw [hr]
 by_cases k1:k=1
 ·exact ZHA p s s1 k w h hr k1
 ·by_cases k2:k=2
  ·exact ZG5 p s s1 k w h hr k2
  ·by_cases k3:k=3
   ·exact ZG7 p s s1 k w h hr k3
   ·by_cases k4:k=4
    ·exact ZG6 p s s1 k w h hr k4
    ·by_cases k5:k=5
     ·exact ZG9 p s s1 k w h hr k5
     ·exact ZG8 p s s1 k w h hr k1 k2 k3 k4 k5
theorem ZJe (args:Array Value) (w:World):(callFunc 46 args).run Tryz.prog w=.ok (.enter 46 args) w:=enters_of func46 (by kernel_rfl) rfl args w
