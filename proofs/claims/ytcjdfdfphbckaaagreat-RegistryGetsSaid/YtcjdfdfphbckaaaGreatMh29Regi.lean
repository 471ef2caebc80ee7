/- The program's schema: next (how a step is done, by its kind). (Made by gen_spx.py.) -/
import Derived.Test.YtcjdfdfphbckaaaGreatMh26Regi
import Derived.Test.YtcjdfdfphbckaaaGreatMh27Regi
import Derived.Test.YtcjdfdfphbckaaaGreatMh28Regi
import Derived.Deep.RegionHeld3
import Derived.Laws.EntriesVeiled
set_option linter.unusedVariables false
set_option linter.unusedSimpArgs false
set_option maxRecDepth 100000
set_option maxHeartbeats 64000000
open Go.Proofs.Tryz
namespace Go.Proofs.YtcjdfdfphbckaaaGreat
open Go.RowKit Go.Shelf
def how6:Array Value:=#[.nilFunc,.func (.func 147) #[] #[],.func (.func 148) #[] #[],.func (.func 149) #[] #[],.func (.func 150) #[] #[],.func (.func 151) #[] #[]]
theorem ZM3 (w:World):(Instr.build 169 #[(1,.func (.func 147) #[] #[]),(2,.func (.func 148) #[] #[]),(3,.func (.func 149) #[] #[]),(4,.func (.func 150) #[] #[]),(5,.func (.func 151) #[] #[])]).run Tryz.prog w=.ok (.agg how6) w:=run_build w 169 _ _ (by kernel_rfl)
theorem ZJn (w:World):Calls Tryz.prog 141 #[] w fun e w'=>e=.returned (.agg how6)∧Below w.heap.size w w':=by
 have hb:=fun W=>ZM3 W
 unfold how6 at hb ⊢
 go_enter func141,ntmps141
 go_wp2
 refine bodyPost_ret (results_cell_row Tryz.results141 _ _ w.heap.size _ _ _ _ rfl (ZAQ w _) Tryz.underlying169 rfl (by kernel_rfl)) rfl ?_
 exact ⟨rfl,(Below.refl _ w).alloc (Nat.le_refl _) _⟩
def ZIM (fn:Nat) (kd:Int):Prop:=∀ (x:Sc.Ver) (s:StepM) (sa:Option Addr) (sc:Nat) (ca:Option Addr) (cc:Nat) (cs:List Value) (w0 w:World) (X:Value),s.kd=kd→Sc.VerOk 16 x→StepIn w0 w x sa sc ca cc cs→ZA3 w0 s X→szV s.sl.df≤1000000 →
 Calls Tryz.prog fn #[.agg #[.slice sa x.slots.length sc,.slice ca x.cols.length cc],X] w (ZCQ (Sc.step x s) w0 w)
def ZC5 (o:Option Sc.Ver) (w0 w':World) (bb:Bool) (sv cv:Value):Prop:=match o with
 |none=>bb=false
 |some y=>bb=true∧ZD9 w0 w' y sv cv
theorem ZJo {w0 W:World} {sv:Value} {l:List SlotM} (h:ZJT w0 W sv l):∃ a n c,sv=.slice a n c:=by
 rcases h with ⟨a,c,rfl,_⟩ | ⟨cs,h,_⟩
 ·exact ⟨_,_,_,rfl⟩
 ·obtain ⟨a,c,rfl⟩:=ZAe h
  exact ⟨_,_,_,rfl⟩
theorem ZLn {w0 W:World} {sv:Value} {l:List Nat} (h:ZMj w0 W sv l):∃ a n c,sv=.slice a n c:=by
 rcases h with ⟨a,c,rfl,_⟩ | h
 ·exact ⟨_,_,_,rfl⟩
 ·obtain ⟨a,c,rfl⟩:=ZAe h
  exact ⟨_,_,_,rfl⟩
theorem ZBu {o:Option Sc.Ver} {w0 w w':World} {e:Ending} (h:ZCQ o w0 w e w'):∃ a n c a' n' c' bb,e=.returned (.tuple #[.agg #[.slice a n c,.slice a' n' c'],.bool bb])∧ZC5 o w0 w' bb (.slice a n c) (.slice a' n' c')∧Below w.heap.size w w':=by
 obtain ⟨h1,h2⟩:=h
 cases o with
 |none=>
  obtain ⟨a,n,c,a',n',c',rfl⟩:=h1
  exact ⟨_,_,_,_,_,_,_,rfl,rfl,h2⟩
 |some y=>
  obtain ⟨sv,cv,rfl,hv⟩:=h1
  obtain ⟨a,n,c,rfl⟩:=ZJo hv.1
  obtain ⟨a',n',c',rfl⟩:=ZLn hv.2
  exact ⟨_,_,_,_,_,_,_,rfl,⟨rfl,hv⟩,h2⟩
theorem ZCs {o:Option Sc.Ver} {w0 w w':World} {a a':Option Addr} {n c n' c':Nat} {bb:Bool} (h:ZC5 o w0 w' bb (.slice a n c) (.slice a' n' c')) (hb:Below w.heap.size w w'):ZCQ o w0 w (.returned (.tuple #[.agg #[.slice a n c,.slice a' n' c'],.bool bb])) w':=by
 refine ⟨?_,hb⟩
 cases o with
 |none=>obtain rfl:bb=false:=h;exact ⟨_,_,_,_,_,_,rfl⟩
 |some y=>obtain ⟨rfl,h⟩:bb=true∧_:=h;exact ⟨_,_,rfl,h⟩
theorem ZCt {o:Option Sc.Ver} {w0 W W':World} {bb:Bool} {sv cv:Value} (h:ZC5 o w0 W bb sv cv) (k:ZFG w0 W W'):ZC5 o w0 W' bb sv cv:=by
 cases o with
 |none=>exact h
 |some y=>exact ⟨h.1,ZBW h.2 k⟩
theorem ZB9 {w0 V:World} {b:Nat} {z0 z1:Value} (u0 u1:Value) (hw0:Below w0.heap.size w0 V) (h:V.heap[b]? = some (.cells #[z0,z1] 146 (0,0))) (hle:w0.heap.size≤b):ZFG w0 V ((V.setCell ⟨b,0,none⟩ u0).setCell ⟨b,1,none⟩ u1):=by
 have k1:=ZEM (i:=0) (u:=u0) hw0 hle h (by decide) (by decide)
 exact ZCX k1 (ZEM (i:=1) (u:=u1) k1.1 hle (ZG4 h u0) (by decide) (by decide))
theorem ZBt {w0 w W:World} {x:Sc.Ver} {sa:Option Addr} {sc:Nat} {ca:Option Addr} {cc:Nat} {cs:List Value} (h:StepIn w0 w x sa sc ca cc cs) (hb:Below w.heap.size w W):StepIn w0 W x sa sc ca cc cs:=
 ⟨h.below.trans (hb.mono h.below.size),ZBW h.vin (ZCW h.below hb),⟨ZAy hb h.ver.1,ZAk h.ver.2 hb rfl⟩,h.sc,ZAs h.cells hb⟩
theorem k13 {p q h kd:Nat} {c0 c1 c2 c3 c4 c5 c6 c7 c8 c9 c10 c11 c12:Value} {W W':World} (g:W.cell? ⟨p,0,none⟩=some c0∧W.cell? ⟨p,1,none⟩=some c1∧W.cell? ⟨q,0,none⟩=some c2∧W.cell? ⟨q,1,none⟩=some c3∧W.cell? ⟨q,2,none⟩=some c4∧W.cell? ⟨q,3,none⟩=some c5∧W.cell? ⟨q,4,none⟩=some c6∧W.cell? ⟨q,5,none⟩=some c7∧W.cell? ⟨q,6,none⟩=some c8∧W.cell? ⟨q,7,none⟩=some c9∧W.cell? ⟨q,8,none⟩=some c10∧W.cell? ⟨q,9,none⟩=some c11∧W.cell? ⟨h,kd,none⟩=some c12) (hb:Below W.heap.size W W'):W'.cell? ⟨p,0,none⟩=some c0∧W'.cell? ⟨p,1,none⟩=some c1∧W'.cell? ⟨q,0,none⟩=some c2∧W'.cell? ⟨q,1,none⟩=some c3∧W'.cell? ⟨q,2,none⟩=some c4∧W'.cell? ⟨q,3,none⟩=some c5∧W'.cell? ⟨q,4,none⟩=some c6∧W'.cell? ⟨q,5,none⟩=some c7∧W'.cell? ⟨q,6,none⟩=some c8∧W'.cell? ⟨q,7,none⟩=some c9∧W'.cell? ⟨q,8,none⟩=some c10∧W'.cell? ⟨q,9,none⟩=some c11∧W'.cell? ⟨h,kd,none⟩=some c12:=
 ⟨ZAA hb g.1,ZAA hb g.2.1,ZAA hb g.2.2.1,ZAA hb g.2.2.2.1,ZAA hb g.2.2.2.2.1,ZAA hb g.2.2.2.2.2.1,ZAA hb g.2.2.2.2.2.2.1,ZAA hb g.2.2.2.2.2.2.2.1,ZAA hb g.2.2.2.2.2.2.2.2.1,ZAA hb g.2.2.2.2.2.2.2.2.2.1,ZAA hb g.2.2.2.2.2.2.2.2.2.2.1,ZAA hb g.2.2.2.2.2.2.2.2.2.2.2.1,ZAA hb g.2.2.2.2.2.2.2.2.2.2.2.2⟩
theorem k13s {p q h kd r:Nat} {c0 c1 c2 c3 c4 c5 c6 c7 c8 c9 c10 c11 c12 u v:Value} {W:World} (g:W.cell? ⟨p,0,none⟩=some c0∧W.cell? ⟨p,1,none⟩=some c1∧W.cell? ⟨q,0,none⟩=some c2∧W.cell? ⟨q,1,none⟩=some c3∧W.cell? ⟨q,2,none⟩=some c4∧W.cell? ⟨q,3,none⟩=some c5∧W.cell? ⟨q,4,none⟩=some c6∧W.cell? ⟨q,5,none⟩=some c7∧W.cell? ⟨q,6,none⟩=some c8∧W.cell? ⟨q,7,none⟩=some c9∧W.cell? ⟨q,8,none⟩=some c10∧W.cell? ⟨q,9,none⟩=some c11∧W.cell? ⟨h,kd,none⟩=some c12) (hp:p≠r) (hq:q≠r) (hh:h≠r):((W.setCell ⟨r,0,none⟩ u).setCell ⟨r,1,none⟩ v).cell? ⟨p,0,none⟩=some c0∧((W.setCell ⟨r,0,none⟩ u).setCell ⟨r,1,none⟩ v).cell? ⟨p,1,none⟩=some c1∧((W.setCell ⟨r,0,none⟩ u).setCell ⟨r,1,none⟩ v).cell? ⟨q,0,none⟩=some c2∧((W.setCell ⟨r,0,none⟩ u).setCell ⟨r,1,none⟩ v).cell? ⟨q,1,none⟩=some c3∧((W.setCell ⟨r,0,none⟩ u).setCell ⟨r,1,none⟩ v).cell? ⟨q,2,none⟩=some c4∧((W.setCell ⟨r,0,none⟩ u).setCell ⟨r,1,none⟩ v).cell? ⟨q,3,none⟩=some c5∧((W.setCell ⟨r,0,none⟩ u).setCell ⟨r,1,none⟩ v).cell? ⟨q,4,none⟩=some c6∧((W.setCell ⟨r,0,none⟩ u).setCell ⟨r,1,none⟩ v).cell? ⟨q,5,none⟩=some c7∧((W.setCell ⟨r,0,none⟩ u).setCell ⟨r,1,none⟩ v).cell? ⟨q,6,none⟩=some c8∧((W.setCell ⟨r,0,none⟩ u).setCell ⟨r,1,none⟩ v).cell? ⟨q,7,none⟩=some c9∧((W.setCell ⟨r,0,none⟩ u).setCell ⟨r,1,none⟩ v).cell? ⟨q,8,none⟩=some c10∧((W.setCell ⟨r,0,none⟩ u).setCell ⟨r,1,none⟩ v).cell? ⟨q,9,none⟩=some c11∧((W.setCell ⟨r,0,none⟩ u).setCell ⟨r,1,none⟩ v).cell? ⟨h,kd,none⟩=some c12:=
 ⟨ZAU (k:=0) (ZAU (k:=0) g.1 hp) hp,ZAU (k:=0) (ZAU (k:=0) g.2.1 hp) hp,ZAU (k:=0) (ZAU (k:=0) g.2.2.1 hq) hq,ZAU (k:=0) (ZAU (k:=0) g.2.2.2.1 hq) hq,ZAU (k:=0) (ZAU (k:=0) g.2.2.2.2.1 hq) hq,ZAU (k:=0) (ZAU (k:=0) g.2.2.2.2.2.1 hq) hq,ZAU (k:=0) (ZAU (k:=0) g.2.2.2.2.2.2.1 hq) hq,ZAU (k:=0) (ZAU (k:=0) g.2.2.2.2.2.2.2.1 hq) hq,ZAU (k:=0) (ZAU (k:=0) g.2.2.2.2.2.2.2.2.1 hq) hq,ZAU (k:=0) (ZAU (k:=0) g.2.2.2.2.2.2.2.2.2.1 hq) hq,ZAU (k:=0) (ZAU (k:=0) g.2.2.2.2.2.2.2.2.2.2.1 hq) hq,ZAU (k:=0) (ZAU (k:=0) g.2.2.2.2.2.2.2.2.2.2.2.1 hq) hq,ZAU (k:=0) (ZAU (k:=0) g.2.2.2.2.2.2.2.2.2.2.2.2 hh) hh⟩
theorem ZOY (hA:ZIM 147 1) (hR:ZIM 151 5) (x:Sc.Ver) (s:StepM) (sa:Option Addr) (sc:Nat) (ca:Option Addr) (cc:Nat) (cs:List Value) (w0 w:World) (X:Value) (hok:Sc.VerOk 16 x) (hin:StepIn w0 w x sa sc ca cc cs) (hs:ZA3 w0 s X) (hsz:szV s.sl.df≤1000000) :
  Calls Tryz.prog 134 #[.agg #[.slice sa x.slots.length sc,.slice ca x.cols.length cc],X] w (ZCQ (Sc.step x s) w0 w):=by
 have hCh:=ZZY ZJn
 have h1:=fun W hb e=>hA x s sa sc ca cc cs w0 W X e hok (ZBt hin hb) hs hsz
 have h2:=fun W hb e=>ZOX x s sa sc ca cc cs w0 W X e hok (ZBt hin hb) (ZBB (ZBt hin hb).below hs)
 have h3:=fun W hb e=>ZLm x s sa sc ca cc cs w0 W X e hok (ZBt hin hb) (ZBB (ZBt hin hb).below hs)
 have h4:=fun W hb e=>ZMz x s sa sc ca cc cs w0 W X e hok (ZBt hin hb) (ZBB (ZBt hin hb).below hs)
 have h5:=fun W hb e=>hR x s sa sc ca cc cs w0 W X e hok (ZBt hin hb) hs hsz
 obtain ⟨k,n,tx,a,len,cap,oa,oc,rfl,hI1,hI2,hI3,hnm,hi,hr,ho⟩:=ZBF hs
 have hso:=Sc.step_other (x:=x) (s:=s)
 obtain ⟨O,hO⟩:∃ O,Sc.step x s=O:=⟨_,rfl⟩
 rw [hO] at h1 h2 h3 h4 h5 hso ⊢
 have HIN:=ZZY hin.below
 have hb0:=fun W=>ZDz W
 obtain ⟨kd,col,⟨nm,ty,rq,df⟩,od⟩:=s
 simp only at h1 h2 h3 h4 h5 hso ⊢
 obtain ⟨sn,hsn⟩:∃ sn,x.slots.length=sn:=⟨_,rfl⟩
 obtain ⟨cn,hcn⟩:∃ cn,x.cols.length=cn:=⟨_,rfl⟩
 obtain ⟨ol,hol⟩:∃ ol,od.length=ol:=⟨_,rfl⟩
 rw [hsn,hcn,hol] at h1 h2 h3 h4 h5
 rw [hsn,hcn,hol]
 have HO1:=ZZY h1;have HO2:=ZZY h2;have HO3:=ZZY h3;have HO4:=ZZY h4;have HO5:=ZZY h5
 have HSO:=ZZY hso
 clear hsz
 clear h1 h2 h3 h4 h5 hso hO hs hin hi hr ho hI1 hI2 hI3 hnm hok hA hR hsn hcn hol
 by_cases hlo:kd<1
 ·have hnone:=HSO.out (.inl hlo)
  have hd:decide (kd<1)=true:=by simpa using hlo
  have HL:=ZZY hlo
  clear hlo
  go_enter func134,ntmps134
  go_wp2_with (first
   |(go_at_call 141;(with_reducible refine (hCh.out _).mono ?_);rintro e w1 ⟨rfl,hB1⟩;obtain ⟨g0,g1,hH⟩:=heap3 hB1;have x0:=ZAB (i:=0) (v:=.slice sa sn sc) g0 rfl;have x1:=ZAB (i:=1) (v:=.slice ca cn cc) g0 rfl;have t0:=ZAB (i:=0) (v:=.int .i64 kd) g1 rfl;have t1:=ZAB (i:=1) (v:=.int .i64 col) g1 rfl;have t2:=ZAB (i:=2) (v:=.string nm) g1 rfl;have t3:=ZAB (i:=3) (v:=.int .i64 ty) g1 rfl;have t4:=ZAB (i:=4) (v:=.bool rq) g1 rfl;have t5:=ZAB (i:=5) (v:=.int .i64 k) g1 rfl;have t6:=ZAB (i:=6) (v:=.int .i64 n) g1 rfl;have t7:=ZAB (i:=7) (v:=.string tx) g1 rfl;have t8:=ZAB (i:=8) (v:=.slice a len cap) g1 rfl;have t9:=ZAB (i:=9) (v:=.slice oa ol oc) g1 rfl;clear g0 g1;obtain ⟨f0,f1,f2,f3⟩:=ZAD hH;have hBw:=(below3 w _ _ _).trans (hB1.mono (below3 w _ _ _).size);unfold how6;have hA1:=(Below.refl _ w1).alloc (Nat.le_refl _) (.cells how6 169);have hH9:=(hA1.block _ (ZZZ hH).1).trans hH;have hB9:=hBw.trans (hA1.mono hBw.size);unfold how6 at hA1 hH9 hB9;have x0:=ZAA hA1 x0;have x1:=ZAA hA1 x1;have t0:=ZAA hA1 t0;have t1:=ZAA hA1 t1;have t2:=ZAA hA1 t2;have t3:=ZAA hA1 t3;have t4:=ZAA hA1 t4;have t5:=ZAA hA1 t5;have t6:=ZAA hA1 t6;have t7:=ZAA hA1 t7;have t8:=ZAA hA1 t8;have t9:=ZAA hA1 t9;obtain ⟨f0,f1,f2,f3⟩:=ZAD hH9))
  refine bodyPost_ret (ZAF Tryz.results134 _ _ (w.heap.size+1+1) _ _ _ _ rfl (ZAd _ _ hH9 hB9 (by omega)).1 Tryz.underlying146 rfl (by kernel_rfl)) rfl ?_
  exact ZBY hnone hH9 hB9 (by omega) rfl
 by_cases hhi:6≤kd
 ·have hnone:=HSO.out (.inr (by omega))
  have hd:decide (kd<1)=false:=by simp;omega
  have hd2:decide (kd≥6)=true:=by simpa using hhi
  have HL:=ZZY hhi
  clear hhi hlo
  go_enter func134,ntmps134
  go_wp2_with (first
   |(go_at_call 141;(with_reducible refine (hCh.out _).mono ?_);rintro e w1 ⟨rfl,hB1⟩;obtain ⟨g0,g1,hH⟩:=heap3 hB1;have x0:=ZAB (i:=0) (v:=.slice sa sn sc) g0 rfl;have x1:=ZAB (i:=1) (v:=.slice ca cn cc) g0 rfl;have t0:=ZAB (i:=0) (v:=.int .i64 kd) g1 rfl;have t1:=ZAB (i:=1) (v:=.int .i64 col) g1 rfl;have t2:=ZAB (i:=2) (v:=.string nm) g1 rfl;have t3:=ZAB (i:=3) (v:=.int .i64 ty) g1 rfl;have t4:=ZAB (i:=4) (v:=.bool rq) g1 rfl;have t5:=ZAB (i:=5) (v:=.int .i64 k) g1 rfl;have t6:=ZAB (i:=6) (v:=.int .i64 n) g1 rfl;have t7:=ZAB (i:=7) (v:=.string tx) g1 rfl;have t8:=ZAB (i:=8) (v:=.slice a len cap) g1 rfl;have t9:=ZAB (i:=9) (v:=.slice oa ol oc) g1 rfl;clear g0 g1;obtain ⟨f0,f1,f2,f3⟩:=ZAD hH;have hBw:=(below3 w _ _ _).trans (hB1.mono (below3 w _ _ _).size);unfold how6;have hA1:=(Below.refl _ w1).alloc (Nat.le_refl _) (.cells how6 169);have hH9:=(hA1.block _ (ZZZ hH).1).trans hH;have hB9:=hBw.trans (hA1.mono hBw.size);unfold how6 at hA1 hH9 hB9;have x0:=ZAA hA1 x0;have x1:=ZAA hA1 x1;have t0:=ZAA hA1 t0;have t1:=ZAA hA1 t1;have t2:=ZAA hA1 t2;have t3:=ZAA hA1 t3;have t4:=ZAA hA1 t4;have t5:=ZAA hA1 t5;have t6:=ZAA hA1 t6;have t7:=ZAA hA1 t7;have t8:=ZAA hA1 t8;have t9:=ZAA hA1 t9;obtain ⟨f0,f1,f2,f3⟩:=ZAD hH9))
  refine bodyPost_ret (ZAF Tryz.results134 _ _ (w.heap.size+1+1) _ _ _ _ rfl (ZAd _ _ hH9 hB9 (by omega)).1 Tryz.underlying146 rfl (by kernel_rfl)) rfl ?_
  exact ZBY hnone hH9 hB9 (by omega) rfl
 have hk:kd=1∨kd=2∨kd=3∨kd=4∨kd=5:=by omega
 clear hlo hhi HSO
 rcases hk with rfl | rfl | rfl | rfl | rfl
 ·go_enter func134,ntmps134
  go_wp2_with (first
   |(go_at_call 141;(with_reducible refine (hCh.out _).mono ?_);rintro e w1 ⟨rfl,hB1⟩;obtain ⟨g0,g1,hH⟩:=heap3 hB1;have x0:=ZAB (i:=0) (v:=.slice sa sn sc) g0 rfl;have x1:=ZAB (i:=1) (v:=.slice ca cn cc) g0 rfl;have t0:=ZAB (i:=0) (v:=.int .i64 1) g1 rfl;have t1:=ZAB (i:=1) (v:=.int .i64 col) g1 rfl;have t2:=ZAB (i:=2) (v:=.string nm) g1 rfl;have t3:=ZAB (i:=3) (v:=.int .i64 ty) g1 rfl;have t4:=ZAB (i:=4) (v:=.bool rq) g1 rfl;have t5:=ZAB (i:=5) (v:=.int .i64 k) g1 rfl;have t6:=ZAB (i:=6) (v:=.int .i64 n) g1 rfl;have t7:=ZAB (i:=7) (v:=.string tx) g1 rfl;have t8:=ZAB (i:=8) (v:=.slice a len cap) g1 rfl;have t9:=ZAB (i:=9) (v:=.slice oa ol oc) g1 rfl;clear g0 g1;obtain ⟨f0,f1,f2,f3⟩:=ZAD hH;have hBw:=(below3 w _ _ _).trans (hB1.mono (below3 w _ _ _).size);unfold how6;have hA1:=(Below.refl _ w1).alloc (Nat.le_refl _) (.cells how6 169);have hH9:=(hA1.block _ (ZZZ hH).1).trans hH;have hB9:=hBw.trans (hA1.mono hBw.size);unfold how6 at hA1 hH9 hB9;have x0:=ZAA hA1 x0;have x1:=ZAA hA1 x1;have t0:=ZAA hA1 t0;have t1:=ZAA hA1 t1;have t2:=ZAA hA1 t2;have t3:=ZAA hA1 t3;have t4:=ZAA hA1 t4;have t5:=ZAA hA1 t5;have t6:=ZAA hA1 t6;have t7:=ZAA hA1 t7;have t8:=ZAA hA1 t8;have t9:=ZAA hA1 t9;obtain ⟨f0,f1,f2,f3⟩:=ZAD hH9))
  have hhow:=ZAB (i:=1) (v:=.func (.func 147) #[] #[]) (ZAQ w1 (.cells how6 169)) rfl
  unfold how6 at hhow
  obtain ⟨W2,hW2⟩:∃ W2,w1.alloc (.cells #[.nilFunc,.func (.func 147) #[] #[],.func (.func 148) #[] #[],.func (.func 149) #[] #[],.func (.func 150) #[] #[],.func (.func 151) #[] #[]] 169)=W2:=⟨_,rfl⟩
  obtain ⟨bh,hbh⟩:∃ b,w1.heap.size=b:=⟨_,rfl⟩
  have hw1s:=hBw.size
  have hlt1:=(ZZZ hH).1
  rw [hW2] at hhow x0 x1 hH9 hB9 t0 t1 t2 t3 t4 t5 t6 t7 t8 t9 ⊢
  rw [hbh] at hhow hw1s hlt1 ⊢
  have hb13:=And.intro x0 (And.intro x1 (And.intro t0 (And.intro t1 (And.intro t2 (And.intro t3 (And.intro t4 (And.intro t5 (And.intro t6 (And.intro t7 (And.intro t8 (And.intro t9 hhow)))))))))))
  clear hA1 hH hBw hW2 hbh hB1
  have hpr:w.heap.size≠w.heap.size+1+1:=by omega
  have hqr:w.heap.size+1≠w.heap.size+1+1:=by omega
  have hhr:bh≠w.heap.size+1+1:=by omega
  have eg:∀ args w,(callFunc 147 args).run Tryz.prog w=.ok (.enter 147 args) w:=fun args w=>rfl
  go_region_held3 (fun W=>W.cell? ⟨w.heap.size,0,none⟩=some (.slice sa sn sc)∧W.cell? ⟨w.heap.size,1,none⟩=some (.slice ca cn cc)∧W.cell? ⟨w.heap.size+1,0,none⟩=some (.int .i64 1)∧W.cell? ⟨w.heap.size+1,1,none⟩=some (.int .i64 col)∧W.cell? ⟨w.heap.size+1,2,none⟩=some (.string nm)∧W.cell? ⟨w.heap.size+1,3,none⟩=some (.int .i64 ty)∧W.cell? ⟨w.heap.size+1,4,none⟩=some (.bool rq)∧W.cell? ⟨w.heap.size+1,5,none⟩=some (.int .i64 k)∧W.cell? ⟨w.heap.size+1,6,none⟩=some (.int .i64 n)∧W.cell? ⟨w.heap.size+1,7,none⟩=some (.string tx)∧W.cell? ⟨w.heap.size+1,8,none⟩=some (.slice a len cap)∧W.cell? ⟨w.heap.size+1,9,none⟩=some (.slice oa ol oc)∧W.cell? ⟨bh,1,none⟩=some (.func (.func 147) #[] #[])) (first | assumption | exact k13 hb13 (ZAI _) | exact k13 (by assumption) hb9 | exact k13s (k13 (k13 hb13 (ZAI _)) hb9) hpr hqr hhr) (first
   |(go_at_fn 147;(with_reducible refine (HO1.out _ hB9.drew (by trivial)).mono ?_);rintro e w9 hpost;obtain ⟨a9,n9,c9,a8,n8,c8,bb,rfl,hok9,hb9⟩:=ZBu hpost;have hH10:=(hb9.block _ (ZZZ hH9).1).trans hH9;obtain ⟨f0,f1,f2,f3⟩:=ZAD hH10))
  have hB10:=hB9.drew.trans (hb9.mono hB9.size)
  go_wp2
  refine bodyPost_ret (ZAF Tryz.results134 _ _ (w.heap.size+1+1) _ _ _ _ rfl (ZAd _ _ hH10 hB10 (by omega)).1 Tryz.underlying146 rfl (by kernel_rfl)) rfl ?_
  have hwz:=HIN.out.size
  exact ZCs (ZCt hok9 (ZB9 _ _ (HIN.out.trans (hB10.mono HIN.out.size)) hH10 (by omega))) (ZAd _ _ hH10 hB10 (by omega)).2
 ·go_enter func134,ntmps134
  go_wp2_with (first
   |(go_at_call 141;(with_reducible refine (hCh.out _).mono ?_);rintro e w1 ⟨rfl,hB1⟩;obtain ⟨g0,g1,hH⟩:=heap3 hB1;have x0:=ZAB (i:=0) (v:=.slice sa sn sc) g0 rfl;have x1:=ZAB (i:=1) (v:=.slice ca cn cc) g0 rfl;have t0:=ZAB (i:=0) (v:=.int .i64 2) g1 rfl;have t1:=ZAB (i:=1) (v:=.int .i64 col) g1 rfl;have t2:=ZAB (i:=2) (v:=.string nm) g1 rfl;have t3:=ZAB (i:=3) (v:=.int .i64 ty) g1 rfl;have t4:=ZAB (i:=4) (v:=.bool rq) g1 rfl;have t5:=ZAB (i:=5) (v:=.int .i64 k) g1 rfl;have t6:=ZAB (i:=6) (v:=.int .i64 n) g1 rfl;have t7:=ZAB (i:=7) (v:=.string tx) g1 rfl;have t8:=ZAB (i:=8) (v:=.slice a len cap) g1 rfl;have t9:=ZAB (i:=9) (v:=.slice oa ol oc) g1 rfl;clear g0 g1;obtain ⟨f0,f1,f2,f3⟩:=ZAD hH;have hBw:=(below3 w _ _ _).trans (hB1.mono (below3 w _ _ _).size);unfold how6;have hA1:=(Below.refl _ w1).alloc (Nat.le_refl _) (.cells how6 169);have hH9:=(hA1.block _ (ZZZ hH).1).trans hH;have hB9:=hBw.trans (hA1.mono hBw.size);unfold how6 at hA1 hH9 hB9;have x0:=ZAA hA1 x0;have x1:=ZAA hA1 x1;have t0:=ZAA hA1 t0;have t1:=ZAA hA1 t1;have t2:=ZAA hA1 t2;have t3:=ZAA hA1 t3;have t4:=ZAA hA1 t4;have t5:=ZAA hA1 t5;have t6:=ZAA hA1 t6;have t7:=ZAA hA1 t7;have t8:=ZAA hA1 t8;have t9:=ZAA hA1 t9;obtain ⟨f0,f1,f2,f3⟩:=ZAD hH9))
  have hhow:=ZAB (i:=2) (v:=.func (.func 148) #[] #[]) (ZAQ w1 (.cells how6 169)) rfl
  unfold how6 at hhow
  obtain ⟨W2,hW2⟩:∃ W2,w1.alloc (.cells #[.nilFunc,.func (.func 147) #[] #[],.func (.func 148) #[] #[],.func (.func 149) #[] #[],.func (.func 150) #[] #[],.func (.func 151) #[] #[]] 169)=W2:=⟨_,rfl⟩
  obtain ⟨bh,hbh⟩:∃ b,w1.heap.size=b:=⟨_,rfl⟩
  have hw1s:=hBw.size
  have hlt1:=(ZZZ hH).1
  rw [hW2] at hhow x0 x1 hH9 hB9 t0 t1 t2 t3 t4 t5 t6 t7 t8 t9 ⊢
  rw [hbh] at hhow hw1s hlt1 ⊢
  have hb13:=And.intro x0 (And.intro x1 (And.intro t0 (And.intro t1 (And.intro t2 (And.intro t3 (And.intro t4 (And.intro t5 (And.intro t6 (And.intro t7 (And.intro t8 (And.intro t9 hhow)))))))))))
  clear hA1 hH hBw hW2 hbh hB1
  have hpr:w.heap.size≠w.heap.size+1+1:=by omega
  have hqr:w.heap.size+1≠w.heap.size+1+1:=by omega
  have hhr:bh≠w.heap.size+1+1:=by omega
  have eg:∀ args w,(callFunc 148 args).run Tryz.prog w=.ok (.enter 148 args) w:=fun args w=>rfl
  go_region_held3 (fun W=>W.cell? ⟨w.heap.size,0,none⟩=some (.slice sa sn sc)∧W.cell? ⟨w.heap.size,1,none⟩=some (.slice ca cn cc)∧W.cell? ⟨w.heap.size+1,0,none⟩=some (.int .i64 2)∧W.cell? ⟨w.heap.size+1,1,none⟩=some (.int .i64 col)∧W.cell? ⟨w.heap.size+1,2,none⟩=some (.string nm)∧W.cell? ⟨w.heap.size+1,3,none⟩=some (.int .i64 ty)∧W.cell? ⟨w.heap.size+1,4,none⟩=some (.bool rq)∧W.cell? ⟨w.heap.size+1,5,none⟩=some (.int .i64 k)∧W.cell? ⟨w.heap.size+1,6,none⟩=some (.int .i64 n)∧W.cell? ⟨w.heap.size+1,7,none⟩=some (.string tx)∧W.cell? ⟨w.heap.size+1,8,none⟩=some (.slice a len cap)∧W.cell? ⟨w.heap.size+1,9,none⟩=some (.slice oa ol oc)∧W.cell? ⟨bh,2,none⟩=some (.func (.func 148) #[] #[])) (first | assumption | exact k13 hb13 (ZAI _) | exact k13 (by assumption) hb9 | exact k13s (k13 (k13 hb13 (ZAI _)) hb9) hpr hqr hhr) (first
   |(go_at_fn 148;(with_reducible refine (HO2.out _ hB9.drew (by trivial)).mono ?_);rintro e w9 hpost;obtain ⟨a9,n9,c9,a8,n8,c8,bb,rfl,hok9,hb9⟩:=ZBu hpost;have hH10:=(hb9.block _ (ZZZ hH9).1).trans hH9;obtain ⟨f0,f1,f2,f3⟩:=ZAD hH10))
  have hB10:=hB9.drew.trans (hb9.mono hB9.size)
  go_wp2
  refine bodyPost_ret (ZAF Tryz.results134 _ _ (w.heap.size+1+1) _ _ _ _ rfl (ZAd _ _ hH10 hB10 (by omega)).1 Tryz.underlying146 rfl (by kernel_rfl)) rfl ?_
  have hwz:=HIN.out.size
  exact ZCs (ZCt hok9 (ZB9 _ _ (HIN.out.trans (hB10.mono HIN.out.size)) hH10 (by omega))) (ZAd _ _ hH10 hB10 (by omega)).2
 ·go_enter func134,ntmps134
  go_wp2_with (first
   |(go_at_call 141;(with_reducible refine (hCh.out _).mono ?_);rintro e w1 ⟨rfl,hB1⟩;obtain ⟨g0,g1,hH⟩:=heap3 hB1;have x0:=ZAB (i:=0) (v:=.slice sa sn sc) g0 rfl;have x1:=ZAB (i:=1) (v:=.slice ca cn cc) g0 rfl;have t0:=ZAB (i:=0) (v:=.int .i64 3) g1 rfl;have t1:=ZAB (i:=1) (v:=.int .i64 col) g1 rfl;have t2:=ZAB (i:=2) (v:=.string nm) g1 rfl;have t3:=ZAB (i:=3) (v:=.int .i64 ty) g1 rfl;have t4:=ZAB (i:=4) (v:=.bool rq) g1 rfl;have t5:=ZAB (i:=5) (v:=.int .i64 k) g1 rfl;have t6:=ZAB (i:=6) (v:=.int .i64 n) g1 rfl;have t7:=ZAB (i:=7) (v:=.string tx) g1 rfl;have t8:=ZAB (i:=8) (v:=.slice a len cap) g1 rfl;have t9:=ZAB (i:=9) (v:=.slice oa ol oc) g1 rfl;clear g0 g1;obtain ⟨f0,f1,f2,f3⟩:=ZAD hH;have hBw:=(below3 w _ _ _).trans (hB1.mono (below3 w _ _ _).size);unfold how6;have hA1:=(Below.refl _ w1).alloc (Nat.le_refl _) (.cells how6 169);have hH9:=(hA1.block _ (ZZZ hH).1).trans hH;have hB9:=hBw.trans (hA1.mono hBw.size);unfold how6 at hA1 hH9 hB9;have x0:=ZAA hA1 x0;have x1:=ZAA hA1 x1;have t0:=ZAA hA1 t0;have t1:=ZAA hA1 t1;have t2:=ZAA hA1 t2;have t3:=ZAA hA1 t3;have t4:=ZAA hA1 t4;have t5:=ZAA hA1 t5;have t6:=ZAA hA1 t6;have t7:=ZAA hA1 t7;have t8:=ZAA hA1 t8;have t9:=ZAA hA1 t9;obtain ⟨f0,f1,f2,f3⟩:=ZAD hH9))
  have hhow:=ZAB (i:=3) (v:=.func (.func 149) #[] #[]) (ZAQ w1 (.cells how6 169)) rfl
  unfold how6 at hhow
  obtain ⟨W2,hW2⟩:∃ W2,w1.alloc (.cells #[.nilFunc,.func (.func 147) #[] #[],.func (.func 148) #[] #[],.func (.func 149) #[] #[],.func (.func 150) #[] #[],.func (.func 151) #[] #[]] 169)=W2:=⟨_,rfl⟩
  obtain ⟨bh,hbh⟩:∃ b,w1.heap.size=b:=⟨_,rfl⟩
  have hw1s:=hBw.size
  have hlt1:=(ZZZ hH).1
  rw [hW2] at hhow x0 x1 hH9 hB9 t0 t1 t2 t3 t4 t5 t6 t7 t8 t9 ⊢
  rw [hbh] at hhow hw1s hlt1 ⊢
  have hb13:=And.intro x0 (And.intro x1 (And.intro t0 (And.intro t1 (And.intro t2 (And.intro t3 (And.intro t4 (And.intro t5 (And.intro t6 (And.intro t7 (And.intro t8 (And.intro t9 hhow)))))))))))
  clear hA1 hH hBw hW2 hbh hB1
  have hpr:w.heap.size≠w.heap.size+1+1:=by omega
  have hqr:w.heap.size+1≠w.heap.size+1+1:=by omega
  have hhr:bh≠w.heap.size+1+1:=by omega
  have eg:∀ args w,(callFunc 149 args).run Tryz.prog w=.ok (.enter 149 args) w:=fun args w=>rfl
  go_region_held3 (fun W=>W.cell? ⟨w.heap.size,0,none⟩=some (.slice sa sn sc)∧W.cell? ⟨w.heap.size,1,none⟩=some (.slice ca cn cc)∧W.cell? ⟨w.heap.size+1,0,none⟩=some (.int .i64 3)∧W.cell? ⟨w.heap.size+1,1,none⟩=some (.int .i64 col)∧W.cell? ⟨w.heap.size+1,2,none⟩=some (.string nm)∧W.cell? ⟨w.heap.size+1,3,none⟩=some (.int .i64 ty)∧W.cell? ⟨w.heap.size+1,4,none⟩=some (.bool rq)∧W.cell? ⟨w.heap.size+1,5,none⟩=some (.int .i64 k)∧W.cell? ⟨w.heap.size+1,6,none⟩=some (.int .i64 n)∧W.cell? ⟨w.heap.size+1,7,none⟩=some (.string tx)∧W.cell? ⟨w.heap.size+1,8,none⟩=some (.slice a len cap)∧W.cell? ⟨w.heap.size+1,9,none⟩=some (.slice oa ol oc)∧W.cell? ⟨bh,3,none⟩=some (.func (.func 149) #[] #[])) (first | assumption | exact k13 hb13 (ZAI _) | exact k13 (by assumption) hb9 | exact k13s (k13 (k13 hb13 (ZAI _)) hb9) hpr hqr hhr) (first
   |(go_at_fn 149;(with_reducible refine (HO3.out _ hB9.drew (by trivial)).mono ?_);rintro e w9 hpost;obtain ⟨a9,n9,c9,a8,n8,c8,bb,rfl,hok9,hb9⟩:=ZBu hpost;have hH10:=(hb9.block _ (ZZZ hH9).1).trans hH9;obtain ⟨f0,f1,f2,f3⟩:=ZAD hH10))
  have hB10:=hB9.drew.trans (hb9.mono hB9.size)
  go_wp2
  refine bodyPost_ret (ZAF Tryz.results134 _ _ (w.heap.size+1+1) _ _ _ _ rfl (ZAd _ _ hH10 hB10 (by omega)).1 Tryz.underlying146 rfl (by kernel_rfl)) rfl ?_
  have hwz:=HIN.out.size
  exact ZCs (ZCt hok9 (ZB9 _ _ (HIN.out.trans (hB10.mono HIN.out.size)) hH10 (by omega))) (ZAd _ _ hH10 hB10 (by omega)).2
 ·go_enter func134,ntmps134
  go_wp2_with (first
   |(go_at_call 141;(with_reducible refine (hCh.out _).mono ?_);rintro e w1 ⟨rfl,hB1⟩;obtain ⟨g0,g1,hH⟩:=heap3 hB1;have x0:=ZAB (i:=0) (v:=.slice sa sn sc) g0 rfl;have x1:=ZAB (i:=1) (v:=.slice ca cn cc) g0 rfl;have t0:=ZAB (i:=0) (v:=.int .i64 4) g1 rfl;have t1:=ZAB (i:=1) (v:=.int .i64 col) g1 rfl;have t2:=ZAB (i:=2) (v:=.string nm) g1 rfl;have t3:=ZAB (i:=3) (v:=.int .i64 ty) g1 rfl;have t4:=ZAB (i:=4) (v:=.bool rq) g1 rfl;have t5:=ZAB (i:=5) (v:=.int .i64 k) g1 rfl;have t6:=ZAB (i:=6) (v:=.int .i64 n) g1 rfl;have t7:=ZAB (i:=7) (v:=.string tx) g1 rfl;have t8:=ZAB (i:=8) (v:=.slice a len cap) g1 rfl;have t9:=ZAB (i:=9) (v:=.slice oa ol oc) g1 rfl;clear g0 g1;obtain ⟨f0,f1,f2,f3⟩:=ZAD hH;have hBw:=(below3 w _ _ _).trans (hB1.mono (below3 w _ _ _).size);unfold how6;have hA1:=(Below.refl _ w1).alloc (Nat.le_refl _) (.cells how6 169);have hH9:=(hA1.block _ (ZZZ hH).1).trans hH;have hB9:=hBw.trans (hA1.mono hBw.size);unfold how6 at hA1 hH9 hB9;have x0:=ZAA hA1 x0;have x1:=ZAA hA1 x1;have t0:=ZAA hA1 t0;have t1:=ZAA hA1 t1;have t2:=ZAA hA1 t2;have t3:=ZAA hA1 t3;have t4:=ZAA hA1 t4;have t5:=ZAA hA1 t5;have t6:=ZAA hA1 t6;have t7:=ZAA hA1 t7;have t8:=ZAA hA1 t8;have t9:=ZAA hA1 t9;obtain ⟨f0,f1,f2,f3⟩:=ZAD hH9))
  have hhow:=ZAB (i:=4) (v:=.func (.func 150) #[] #[]) (ZAQ w1 (.cells how6 169)) rfl
  unfold how6 at hhow
  obtain ⟨W2,hW2⟩:∃ W2,w1.alloc (.cells #[.nilFunc,.func (.func 147) #[] #[],.func (.func 148) #[] #[],.func (.func 149) #[] #[],.func (.func 150) #[] #[],.func (.func 151) #[] #[]] 169)=W2:=⟨_,rfl⟩
  obtain ⟨bh,hbh⟩:∃ b,w1.heap.size=b:=⟨_,rfl⟩
  have hw1s:=hBw.size
  have hlt1:=(ZZZ hH).1
  rw [hW2] at hhow x0 x1 hH9 hB9 t0 t1 t2 t3 t4 t5 t6 t7 t8 t9 ⊢
  rw [hbh] at hhow hw1s hlt1 ⊢
  have hb13:=And.intro x0 (And.intro x1 (And.intro t0 (And.intro t1 (And.intro t2 (And.intro t3 (And.intro t4 (And.intro t5 (And.intro t6 (And.intro t7 (And.intro t8 (And.intro t9 hhow)))))))))))
  clear hA1 hH hBw hW2 hbh hB1
  have hpr:w.heap.size≠w.heap.size+1+1:=by omega
  have hqr:w.heap.size+1≠w.heap.size+1+1:=by omega
  have hhr:bh≠w.heap.size+1+1:=by omega
  have eg:∀ args w,(callFunc 150 args).run Tryz.prog w=.ok (.enter 150 args) w:=fun args w=>rfl
  go_region_held3 (fun W=>W.cell? ⟨w.heap.size,0,none⟩=some (.slice sa sn sc)∧W.cell? ⟨w.heap.size,1,none⟩=some (.slice ca cn cc)∧W.cell? ⟨w.heap.size+1,0,none⟩=some (.int .i64 4)∧W.cell? ⟨w.heap.size+1,1,none⟩=some (.int .i64 col)∧W.cell? ⟨w.heap.size+1,2,none⟩=some (.string nm)∧W.cell? ⟨w.heap.size+1,3,none⟩=some (.int .i64 ty)∧W.cell? ⟨w.heap.size+1,4,none⟩=some (.bool rq)∧W.cell? ⟨w.heap.size+1,5,none⟩=some (.int .i64 k)∧W.cell? ⟨w.heap.size+1,6,none⟩=some (.int .i64 n)∧W.cell? ⟨w.heap.size+1,7,none⟩=some (.string tx)∧W.cell? ⟨w.heap.size+1,8,none⟩=some (.slice a len cap)∧W.cell? ⟨w.heap.size+1,9,none⟩=some (.slice oa ol oc)∧W.cell? ⟨bh,4,none⟩=some (.func (.func 150) #[] #[])) (first | assumption | exact k13 hb13 (ZAI _) | exact k13 (by assumption) hb9 | exact k13s (k13 (k13 hb13 (ZAI _)) hb9) hpr hqr hhr) (first
   |(go_at_fn 150;(with_reducible refine (HO4.out _ hB9.drew (by trivial)).mono ?_);rintro e w9 hpost;obtain ⟨a9,n9,c9,a8,n8,c8,bb,rfl,hok9,hb9⟩:=ZBu hpost;have hH10:=(hb9.block _ (ZZZ hH9).1).trans hH9;obtain ⟨f0,f1,f2,f3⟩:=ZAD hH10))
  have hB10:=hB9.drew.trans (hb9.mono hB9.size)
  go_wp2
  refine bodyPost_ret (ZAF Tryz.results134 _ _ (w.heap.size+1+1) _ _ _ _ rfl (ZAd _ _ hH10 hB10 (by omega)).1 Tryz.underlying146 rfl (by kernel_rfl)) rfl ?_
  have hwz:=HIN.out.size
  exact ZCs (ZCt hok9 (ZB9 _ _ (HIN.out.trans (hB10.mono HIN.out.size)) hH10 (by omega))) (ZAd _ _ hH10 hB10 (by omega)).2
 ·go_enter func134,ntmps134
  go_wp2_with (first
   |(go_at_call 141;(with_reducible refine (hCh.out _).mono ?_);rintro e w1 ⟨rfl,hB1⟩;obtain ⟨g0,g1,hH⟩:=heap3 hB1;have x0:=ZAB (i:=0) (v:=.slice sa sn sc) g0 rfl;have x1:=ZAB (i:=1) (v:=.slice ca cn cc) g0 rfl;have t0:=ZAB (i:=0) (v:=.int .i64 5) g1 rfl;have t1:=ZAB (i:=1) (v:=.int .i64 col) g1 rfl;have t2:=ZAB (i:=2) (v:=.string nm) g1 rfl;have t3:=ZAB (i:=3) (v:=.int .i64 ty) g1 rfl;have t4:=ZAB (i:=4) (v:=.bool rq) g1 rfl;have t5:=ZAB (i:=5) (v:=.int .i64 k) g1 rfl;have t6:=ZAB (i:=6) (v:=.int .i64 n) g1 rfl;have t7:=ZAB (i:=7) (v:=.string tx) g1 rfl;have t8:=ZAB (i:=8) (v:=.slice a len cap) g1 rfl;have t9:=ZAB (i:=9) (v:=.slice oa ol oc) g1 rfl;clear g0 g1;obtain ⟨f0,f1,f2,f3⟩:=ZAD hH;have hBw:=(below3 w _ _ _).trans (hB1.mono (below3 w _ _ _).size);unfold how6;have hA1:=(Below.refl _ w1).alloc (Nat.le_refl _) (.cells how6 169);have hH9:=(hA1.block _ (ZZZ hH).1).trans hH;have hB9:=hBw.trans (hA1.mono hBw.size);unfold how6 at hA1 hH9 hB9;have x0:=ZAA hA1 x0;have x1:=ZAA hA1 x1;have t0:=ZAA hA1 t0;have t1:=ZAA hA1 t1;have t2:=ZAA hA1 t2;have t3:=ZAA hA1 t3;have t4:=ZAA hA1 t4;have t5:=ZAA hA1 t5;have t6:=ZAA hA1 t6;have t7:=ZAA hA1 t7;have t8:=ZAA hA1 t8;have t9:=ZAA hA1 t9;obtain ⟨f0,f1,f2,f3⟩:=ZAD hH9))
  have hhow:=ZAB (i:=5) (v:=.func (.func 151) #[] #[]) (ZAQ w1 (.cells how6 169)) rfl
  unfold how6 at hhow
  obtain ⟨W2,hW2⟩:∃ W2,w1.alloc (.cells #[.nilFunc,.func (.func 147) #[] #[],.func (.func 148) #[] #[],.func (.func 149) #[] #[],.func (.func 150) #[] #[],.func (.func 151) #[] #[]] 169)=W2:=⟨_,rfl⟩
  obtain ⟨bh,hbh⟩:∃ b,w1.heap.size=b:=⟨_,rfl⟩
  have hw1s:=hBw.size
  have hlt1:=(ZZZ hH).1
  rw [hW2] at hhow x0 x1 hH9 hB9 t0 t1 t2 t3 t4 t5 t6 t7 t8 t9 ⊢
  rw [hbh] at hhow hw1s hlt1 ⊢
  have hb13:=And.intro x0 (And.intro x1 (And.intro t0 (And.intro t1 (And.intro t2 (And.intro t3 (And.intro t4 (And.intro t5 (And.intro t6 (And.intro t7 (And.intro t8 (And.intro t9 hhow)))))))))))
  clear hA1 hH hBw hW2 hbh hB1
  have hpr:w.heap.size≠w.heap.size+1+1:=by omega
  have hqr:w.heap.size+1≠w.heap.size+1+1:=by omega
  have hhr:bh≠w.heap.size+1+1:=by omega
  have eg:∀ args w,(callFunc 151 args).run Tryz.prog w=.ok (.enter 151 args) w:=fun args w=>rfl
  go_region_held3 (fun W=>W.cell? ⟨w.heap.size,0,none⟩=some (.slice sa sn sc)∧W.cell? ⟨w.heap.size,1,none⟩=some (.slice ca cn cc)∧W.cell? ⟨w.heap.size+1,0,none⟩=some (.int .i64 5)∧W.cell? ⟨w.heap.size+1,1,none⟩=some (.int .i64 col)∧W.cell? ⟨w.heap.size+1,2,none⟩=some (.string nm)∧W.cell? ⟨w.heap.size+1,3,none⟩=some (.int .i64 ty)∧W.cell? ⟨w.heap.size+1,4,none⟩=some (.bool rq)∧W.cell? ⟨w.heap.size+1,5,none⟩=some (.int .i64 k)∧W.cell? ⟨w.heap.size+1,6,none⟩=some (.int .i64 n)∧W.cell? ⟨w.heap.size+1,7,none⟩=some (.string tx)∧W.cell? ⟨w.heap.size+1,8,none⟩=some (.slice a len cap)∧W.cell? ⟨w.heap.size+1,9,none⟩=some (.slice oa ol oc)∧W.cell? ⟨bh,5,none⟩=some (.func (.func 151) #[] #[])) (first | assumption | exact k13 hb13 (ZAI _) | exact k13 (by assumption) hb9 | exact k13s (k13 (k13 hb13 (ZAI _)) hb9) hpr hqr hhr) (first
   |(go_at_fn 151;(with_reducible refine (HO5.out _ hB9.drew (by trivial)).mono ?_);rintro e w9 hpost;obtain ⟨a9,n9,c9,a8,n8,c8,bb,rfl,hok9,hb9⟩:=ZBu hpost;have hH10:=(hb9.block _ (ZZZ hH9).1).trans hH9;obtain ⟨f0,f1,f2,f3⟩:=ZAD hH10))
  have hB10:=hB9.drew.trans (hb9.mono hB9.size)
  go_wp2
  refine bodyPost_ret (ZAF Tryz.results134 _ _ (w.heap.size+1+1) _ _ _ _ rfl (ZAd _ _ hH10 hB10 (by omega)).1 Tryz.underlying146 rfl (by kernel_rfl)) rfl ?_
  have hwz:=HIN.out.size
  exact ZCs (ZCt hok9 (ZB9 _ _ (HIN.out.trans (hB10.mono HIN.out.size)) hH10 (by omega))) (ZAd _ _ hH10 hB10 (by omega)).2
