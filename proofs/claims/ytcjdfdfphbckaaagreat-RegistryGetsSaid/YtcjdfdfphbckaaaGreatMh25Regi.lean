/- Registries: the bytes of slots, steps, templates; Put. -/
import Derived.Test.YtcjdfdfphbckaaaGreatMh24Regi
import Derived.Test.YtcjdfdfphbckaaaGreatMh23Regi
set_option linter.unusedVariables false
set_option linter.unusedSimpArgs false
set_option maxRecDepth 100000
set_option maxHeartbeats 64000000
open Go.Proofs.Tryz
namespace Go.Proofs.YtcjdfdfphbckaaaGreat
open Go.RowKit Go.Shelf
theorem keepS6 {b:Nat} {c0 c1 c3 c4 c5 c6:Value} {W W':World} (h:(W.cell? ⟨b,0,none⟩=some c0∧W.cell? ⟨b,1,none⟩=some c1)∧(W.cell? ⟨b,3,none⟩=some c3∧W.cell? ⟨b,4,none⟩=some c4)∧(W.cell? ⟨b,5,none⟩=some c5∧W.cell? ⟨b,6,none⟩=some c6)) (hb:Below W.heap.size W W') :
  (W'.cell? ⟨b,0,none⟩=some c0∧W'.cell? ⟨b,1,none⟩=some c1)∧(W'.cell? ⟨b,3,none⟩=some c3∧W'.cell? ⟨b,4,none⟩=some c4)∧(W'.cell? ⟨b,5,none⟩=some c5∧W'.cell? ⟨b,6,none⟩=some c6):=
 ⟨⟨ZAA hb h.1.1,ZAA hb h.1.2⟩,⟨ZAA hb h.2.1.1,ZAA hb h.2.1.2⟩,ZAA hb h.2.2.1,ZAA hb h.2.2.2⟩
theorem keepS3 {b:Nat} {c0 c1 c2:Value} {W W':World} (h:W.cell? ⟨b,0,none⟩=some c0∧W.cell? ⟨b,1,none⟩=some c1∧W.cell? ⟨b,2,none⟩=some c2) (hb:Below W.heap.size W W') :
  W'.cell? ⟨b,0,none⟩=some c0∧W'.cell? ⟨b,1,none⟩=some c1∧W'.cell? ⟨b,2,none⟩=some c2:=⟨ZAA hb h.1,ZAA hb h.2.1,ZAA hb h.2.2⟩
theorem keepS2 {b:Nat} {c0 c1:Value} {W W':World} (h:W.cell? ⟨b,0,none⟩=some c0∧W.cell? ⟨b,1,none⟩=some c1) (hb:Below W.heap.size W W') :
  W'.cell? ⟨b,0,none⟩=some c0∧W'.cell? ⟨b,1,none⟩=some c1:=⟨ZAA hb h.1,ZAA hb h.2⟩
theorem ZED (s:ByteArray) (w:World) (hs:s.size≤1000000):Calls Tryz.prog 52 #[.string s] w (Got w (Rg.txtB s)):=ZI5 s w (by omega)
theorem ZCR (n:Int) (w:World):Calls Tryz.prog 82 #[.int .i64 n] w (Got w (Rg.byB n)):=ZHc n w
theorem ZDU (W:World) (v1 v2 v3:Value) (l1 l2 l3:List Int) (h1:IsSl W v1 l1) (h2:IsSl W v2 l2) (h3:IsSl W v3 l3) (hl:l1.length+(l2.length+l3.length)≤1000000000) :
  Calls Tryz.prog 51 #[.slice (some ⟨W.heap.size,0,none⟩) 3 3] (W.alloc (.cells #[v1,v2,v3] 22)) (Got W (l1++(l2++l3))):=by
 have:=ZHe W 3 [(v1,l1),(v2,l2),(v3,l3)] (by intro p hp;simp at hp;rcases hp with rfl | rfl | rfl<;>assumption) rfl (by omega) (by simp;omega) #[v1,v2,v3] rfl
 simpa using this
theorem ZGS (W:World) (v1 v2 v3 v4:Value) (l1 l2 l3 l4:List Int) (h1:IsSl W v1 l1) (h2:IsSl W v2 l2) (h3:IsSl W v3 l3) (h4:IsSl W v4 l4) (hl:l1.length+(l2.length+(l3.length+l4.length))≤1000000000) :
  Calls Tryz.prog 51 #[.slice (some ⟨W.heap.size,0,none⟩) 4 4] (W.alloc (.cells #[v1,v2,v3,v4] 22)) (Got W (l1++(l2++(l3++l4)))):=by
 have:=ZHe W 4 [(v1,l1),(v2,l2),(v3,l3),(v4,l4)] (by intro p hp;simp at hp;rcases hp with rfl | rfl | rfl | rfl<;>assumption) rfl (by omega) (by simp;omega) #[v1,v2,v3,v4] rfl
 simpa using this
theorem ZCY (s:SlotM) (w:World) (x:Value) (hs:ZBe w s x) (hn:s.nm.size≤1000):Calls Tryz.prog 54 #[x] w (Got w (Rg.slotB s)):=by
 obtain ⟨k,n,t,a,len,cap,rfl,hI,hnm,hd⟩:=ZCF hs
 have hB0:=(Below.refl _ w).alloc (Nat.le_refl _) (.cells #[.string s.nm,.int .i64 s.ty,.bool s.rq,.int .i64 k,.int .i64 n,.string t,.slice a len cap] 51)
 have hT:=fun W=>ZED s.nm W (by omega)
 have hY:=fun W=>ZCR s.ty W
 have hQ:=fun q W=>ZCR (if q=true then 1 else 0) W
 have hV:=fun W (hb:Below w.heap.size w W)=>ZGs s.df W _ (ZAf hb _ _ hd)
 have hl1:=Rg.txtB_len s.nm
 have hl2:=Rg.spn_len s.ty 255 1
 have hl3:=Rg.spn_len (if s.rq=true then 1 else 0) 255 1
 have hl4:=Rg.valB_len9 s.df
 have hll:(Rg.txtB s.nm).length+((Rg.byB s.ty).length+((Rg.byB (if s.rq=true then 1 else 0)).length+(valB s.df).length))≤1000000000:=by unfold Rg.byB;omega
 have hrq:∀ W,Calls Tryz.prog 82 #[.int .i64 (if s.rq=true then 1 else 0)] W (Got W (Rg.byB (if s.rq=true then 1 else 0))):=fun W=>ZCR _ W
 unfold Rg.slotB
 generalize Rg.txtB s.nm=L1 at *
 generalize Rg.byB s.ty=L2 at *
 generalize valB s.df=L4 at *
 obtain ⟨L3,hL3⟩:∃ L3,Rg.byB (if s.rq=true then 1 else 0)=L3:=⟨_,rfl⟩
 rw [hL3] at hrq hll ⊢
 have HV:=ZZY hV;have HT:=ZZY hT;have HY:=ZZY hY;have HLL:=ZZY hll
 have hc0:∀ W,Below (w.alloc (.cells #[.string s.nm,.int .i64 s.ty,.bool s.rq,.int .i64 k,.int .i64 n,.string t,.slice a len cap] 51)).heap.size (w.alloc (.cells #[.string s.nm,.int .i64 s.ty,.bool s.rq,.int .i64 k,.int .i64 n,.string t,.slice a len cap] 51)) W →
   (W.cell? ⟨w.heap.size,0,none⟩=some (.string s.nm)∧W.cell? ⟨w.heap.size,1,none⟩=some (.int .i64 s.ty))∧(W.cell? ⟨w.heap.size,3,none⟩=some (.int .i64 k)∧W.cell? ⟨w.heap.size,4,none⟩=some (.int .i64 n))∧(W.cell? ⟨w.heap.size,5,none⟩=some (.string t)∧W.cell? ⟨w.heap.size,6,none⟩=some (.slice a len cap)):=fun W hb=>
  ⟨⟨ZAA hb (by simp),ZAA hb (by simp)⟩,⟨ZAA hb (by simp),ZAA hb (by simp)⟩,ZAA hb (by simp),ZAA hb (by simp)⟩
 have hS:=hc0 _ (Below.refl _ _)
 clear hc0 hs hd hV hT hY hQ hl1 hl2 hl3 hl4 hll hL3 hI
 obtain ⟨nm,ty,rq,df⟩:=s
 simp only at *
 cases rq with
 |true=>
  have HQ:Hid (∀ W,Calls Tryz.prog 82 #[.int .i64 1] W (Got W L3)):=ZZY hrq
  clear hrq
  go_enter func54,ntmps54
  go_wp2
  obtain ⟨V,hV⟩:∃ V,w.alloc (.cells #[.string nm,.int .i64 ty,.bool true,.int .i64 k,.int .i64 n,.string t,.slice a len cap] 51)=V:=⟨_,rfl⟩
  obtain ⟨b,hb⟩:∃ b,w.heap.size=b:=⟨_,rfl⟩
  rw [hV] at hS hB0 ⊢
  rw [hb] at hS ⊢
  clear hV
  go_region_held3 (fun W=>(W.cell? ⟨b,0,none⟩=some (.string nm)∧W.cell? ⟨b,1,none⟩=some (.int .i64 ty))∧(W.cell? ⟨b,3,none⟩=some (.int .i64 k)∧W.cell? ⟨b,4,none⟩=some (.int .i64 n))∧(W.cell? ⟨b,5,none⟩=some (.string t)∧W.cell? ⟨b,6,none⟩=some (.slice a len cap)))
   (first | assumption | exact keepS6 hS (ZAI _) | exact keepS6 hS4 ((Below.refl _ _).alloc (Nat.le_refl _) _) | exact keepS6 hS4 hb5) (first
   |(go_at_call 52;(with_reducible refine (HT.out _).mono ?_);rintro e w1 ⟨v1,rfl,ho1,hb1⟩;have hS1:=keepS6 (keepS6 hS (ZAI _)) hb1;have hs1:=ZAW ho1;obtain ⟨a1,m1,c1,rfl,_⟩:=ZAW ho1;have hB1:=(hB0.drew).trans (hb1.mono (hB0.drew).size))
   |(go_at_call 82;(with_reducible refine (HY.out _).mono ?_);rintro e w2 ⟨v2,rfl,ho2,hb2⟩;have hS2:=keepS6 hS1 hb2;have hs2:=ZAW ho2;obtain ⟨a2,m2,c2,rfl,_⟩:=ZAW ho2;have hB2:=hB1.trans (hb2.mono hB1.size);have hs1:=ZAm hs1 hb2)
   |(go_at_call 82;(with_reducible refine (HQ.out _).mono ?_);rintro e w3 ⟨v3,rfl,ho3,hb3⟩;have hS3:=keepS6 hS2 hb3;have hs3:=ZAW ho3;obtain ⟨a3,m3,c3,rfl,_⟩:=ZAW ho3;have hB3:=hB2.trans (hb3.mono hB2.size);have hs1:=ZAm hs1 hb3;have hs2:=ZAm hs2 hb3)
   |(go_at_call 62;(with_reducible refine (HV.out _ hB3).mono ?_);rintro e w4 ⟨v4,rfl,ho4,hb4⟩;have hS4:=keepS6 hS3 hb4;have hs4:=ZAW ho4;obtain ⟨a4,m4,c4,rfl,_⟩:=ZAW ho4;have hB4:=hB3.trans (hb4.mono hB3.size);have hs1:=ZAm hs1 hb4;have hs2:=ZAm hs2 hb4;have hs3:=ZAm hs3 hb4)
   |(go_at_call 51;(with_reducible refine (ZGS _ _ _ _ _ _ _ _ _ hs1 hs2 hs3 hs4 HLL.out).mono ?_);rintro e w5 ⟨v5,rfl,ho5,hb5⟩))
  go_wp2
  go_ret
  exact ZBM hB4 ⟨_,rfl,ho5,hb5⟩
 |false=>
  have HQ:Hid (∀ W,Calls Tryz.prog 82 #[.int .i64 0] W (Got W L3)):=ZZY hrq
  clear hrq
  go_enter func54,ntmps54
  go_wp2
  obtain ⟨V,hV⟩:∃ V,w.alloc (.cells #[.string nm,.int .i64 ty,.bool false,.int .i64 k,.int .i64 n,.string t,.slice a len cap] 51)=V:=⟨_,rfl⟩
  obtain ⟨b,hb⟩:∃ b,w.heap.size=b:=⟨_,rfl⟩
  rw [hV] at hS hB0 ⊢
  rw [hb] at hS ⊢
  clear hV
  go_region_held3 (fun W=>(W.cell? ⟨b,0,none⟩=some (.string nm)∧W.cell? ⟨b,1,none⟩=some (.int .i64 ty))∧(W.cell? ⟨b,3,none⟩=some (.int .i64 k)∧W.cell? ⟨b,4,none⟩=some (.int .i64 n))∧(W.cell? ⟨b,5,none⟩=some (.string t)∧W.cell? ⟨b,6,none⟩=some (.slice a len cap)))
   (first | assumption | exact keepS6 hS (ZAI _) | exact keepS6 hS4 ((Below.refl _ _).alloc (Nat.le_refl _) _) | exact keepS6 hS4 hb5) (first
   |(go_at_call 52;(with_reducible refine (HT.out _).mono ?_);rintro e w1 ⟨v1,rfl,ho1,hb1⟩;have hS1:=keepS6 (keepS6 hS (ZAI _)) hb1;have hs1:=ZAW ho1;obtain ⟨a1,m1,c1,rfl,_⟩:=ZAW ho1;have hB1:=(hB0.drew).trans (hb1.mono (hB0.drew).size))
   |(go_at_call 82;(with_reducible refine (HY.out _).mono ?_);rintro e w2 ⟨v2,rfl,ho2,hb2⟩;have hS2:=keepS6 hS1 hb2;have hs2:=ZAW ho2;obtain ⟨a2,m2,c2,rfl,_⟩:=ZAW ho2;have hB2:=hB1.trans (hb2.mono hB1.size);have hs1:=ZAm hs1 hb2)
   |(go_at_call 82;(with_reducible refine (HQ.out _).mono ?_);rintro e w3 ⟨v3,rfl,ho3,hb3⟩;have hS3:=keepS6 hS2 hb3;have hs3:=ZAW ho3;obtain ⟨a3,m3,c3,rfl,_⟩:=ZAW ho3;have hB3:=hB2.trans (hb3.mono hB2.size);have hs1:=ZAm hs1 hb3;have hs2:=ZAm hs2 hb3)
   |(go_at_call 62;(with_reducible refine (HV.out _ hB3).mono ?_);rintro e w4 ⟨v4,rfl,ho4,hb4⟩;have hS4:=keepS6 hS3 hb4;have hs4:=ZAW ho4;obtain ⟨a4,m4,c4,rfl,_⟩:=ZAW ho4;have hB4:=hB3.trans (hb4.mono hB3.size);have hs1:=ZAm hs1 hb4;have hs2:=ZAm hs2 hb4;have hs3:=ZAm hs3 hb4)
   |(go_at_call 51;(with_reducible refine (ZGS _ _ _ _ _ _ _ _ _ hs1 hs2 hs3 hs4 HLL.out).mono ?_);rintro e w5 ⟨v5,rfl,ho5,hb5⟩))
  go_wp2
  go_ret
  exact ZBM hB4 ⟨_,rfl,ho5,hb5⟩
theorem ZLj (args:Array Value) (w:World):(callFunc 54 args).run Tryz.prog w=.ok (.enter 54 args) w:=enters_of func54 (by kernel_rfl) rfl args w
theorem ZOU (args:Array Value) (w:World):(callFunc 82 args).run Tryz.prog w=.ok (.enter 82 args) w:=enters_of func82 (by kernel_rfl) rfl args w
theorem ZMx (a:Option Addr) (cap:Nat) (l:List SlotM) (w:World) (hr:ZBV w a cap l) (hsm:l.length≤40) (hn:∀ s∈l,s.nm.size≤1000) :
  Calls Tryz.prog 53 #[.slice a l.length cap,.func (.func 54) #[] #[]] w (Got w (Rg.nuB l.length++l.flatMap Rg.slotB)):=
 ZID a cap l Rg.slotB 54 w hr (by omega) (by have:=Rg.flat_len l Rg.slotB 23000 (fun s hs=>by have:=Rg.slotB_len s;have:=hn s hs;omega);omega) ZLj (fun i y W X hy _ hX=>ZCY y W X hX (hn y (List.mem_of_getElem? hy)))
theorem ZEP (a:Option Addr) (cap:Nat) (l:List Int) (w:World) (hr:Row w .i64 a l.length cap l) (hI:∀ x∈l,I64 x) (hsm:l.length≤1000) :
  Calls Tryz.prog 83 #[.slice a l.length cap,.func (.func 82) #[] #[]] w (Got w (Rg.nuB l.length++l.flatMap Rg.byB)):=
 ZMw a cap l Rg.byB 82 w ⟨hr,hI⟩ hsm (by have:=Rg.flat_len l Rg.byB 1 (fun x _=>Rg.spn_len x 255 1);omega) ZOU (fun i y W _ _=>ZCR y W)
theorem ZEQ {w:World} {c0 c1 c2 c3 c4 c5 c6 c7 c8 c9:Value} {t:TypeId} : ∀ W,Below (w.alloc (.cells #[c0,c1,c2,c3,c4,c5,c6,c7,c8,c9] t)).heap.size (w.alloc (.cells #[c0,c1,c2,c3,c4,c5,c6,c7,c8,c9] t)) W →
  (W.cell? ⟨w.heap.size,0,none⟩=some c0∧W.cell? ⟨w.heap.size,1,none⟩=some c1)∧(W.cell? ⟨w.heap.size,2,none⟩=some c2∧W.cell? ⟨w.heap.size,3,none⟩=some c3∧W.cell? ⟨w.heap.size,4,none⟩=some c4∧W.cell? ⟨w.heap.size,5,none⟩=some c5∧W.cell? ⟨w.heap.size,6,none⟩=some c6∧W.cell? ⟨w.heap.size,7,none⟩=some c7∧W.cell? ⟨w.heap.size,8,none⟩=some c8∧W.cell? ⟨w.heap.size,9,none⟩=some c9):=fun W hb=>
 ⟨⟨ZAA hb (by simp),ZAA hb (by simp)⟩,ZAA hb (by simp),ZAA hb (by simp),ZAA hb (by simp),ZAA hb (by simp),ZAA hb (by simp),ZAA hb (by simp),ZAA hb (by simp),ZAA hb (by simp)⟩
theorem ZIF (s:StepM) (w:World) (x:Value) (hs:ZA3 w s x) (hn:s.sl.nm.size≤1000) (ho:s.od.length≤1000) (hk:s.kd=1):Calls Tryz.prog 56 #[x] w (Got w (Rg.byB s.kd++Rg.slotB s.sl)):=by
 have hsl0:=hs
 obtain ⟨k,n,t,a,len,cap,oa,oc,rfl,hI1,hI2,hI3,hnm,hd,hrow,hod⟩:=ZBF hs
 have hB0:=(Below.refl _ w).alloc (Nat.le_refl _) (.cells #[.int .i64 s.kd,.int .i64 s.col,.string s.sl.nm,.int .i64 s.sl.ty,.bool s.sl.rq,.int .i64 k,.int .i64 n,.string t,.slice a len cap,.slice oa s.od.length oc] 54)
 have hK:=fun W=>ZCR s.kd W
 have hC:=fun W=>ZCR s.col W
 have HP:=ZZY (fun W (hb:Below w.heap.size w W)=>ZCY s.sl W _ (ZAn hb (ZBx hsl0)) hn)
 have HT:=ZZY (fun W=>ZED s.sl.nm W (by omega))
 have HY:=ZZY (fun W=>ZCR s.sl.ty W)
 have HO:=ZZY (fun W (hb:Below w.heap.size w W)=>ZEP oa oc s.od W (ZAk hrow hb rfl) hod ho)
 have hl1:=Rg.spn_len s.kd 255 1
 have hl2:=Rg.spn_len s.col 255 1
 have hl3:=Rg.spn_len s.sl.ty 255 1
 have hl4:=Rg.slotB_len s.sl
 have hl5:=Rg.txtB_len s.sl.nm
 have hl6:(Rg.nuB s.od.length++s.od.flatMap Rg.byB).length≤2000:=by
  have h1:=Rg.spn_len (s.od.length:Int) 2147483647 4
  have h2:=Rg.flat_len s.od Rg.byB 1 (fun x _=>Rg.spn_len x 255 1)
  rw [List.length_append];unfold Rg.nuB;omega
 have hlk:(Rg.byB s.kd).length≤1:=hl1
 have hlc:(Rg.byB s.col).length≤1:=hl2
 have hly:(Rg.byB s.sl.ty).length≤1:=hl3
 generalize Rg.byB s.kd=LK at *
 generalize Rg.byB s.col=LC at *
 generalize Rg.byB s.sl.ty=LY at *
 generalize Rg.slotB s.sl=LS at *
 generalize Rg.txtB s.sl.nm=LT at *
 generalize (Rg.nuB s.od.length++s.od.flatMap Rg.byB)=LO at *
 have HL:=ZZY (And.intro hlk (And.intro hlc (And.intro hly (And.intro hl4 (And.intro hl5 (And.intro hl6 hn))))))
 have HK:=ZZY hK;have HC:=ZZY hC
 obtain ⟨V,hV⟩:∃ V,w.alloc (.cells #[.int .i64 s.kd,.int .i64 s.col,.string s.sl.nm,.int .i64 s.sl.ty,.bool s.sl.rq,.int .i64 k,.int .i64 n,.string t,.slice a len cap,.slice oa s.od.length oc] 54)=V:=⟨_,rfl⟩
 have hbx:=ZEQ (w:=w) (c0:=.int .i64 s.kd) (c1:=.int .i64 s.col) (c2:=.string s.sl.nm) (c3:=.int .i64 s.sl.ty) (c4:=.bool s.sl.rq) (c5:=.int .i64 k) (c6:=.int .i64 n) (c7:=.string t) (c8:=.slice a len cap) (c9:=.slice oa s.od.length oc) (t:=54)
 rw [hV] at hbx hB0
 obtain ⟨hS,_⟩:=hbx _ (Below.refl _ _)
 have HBX:=ZZY hbx
 clear hK hC hl1 hl2 hl3 hl4 hl5 hl6 hlk hlc hly hs hsl0 hd hrow hod hI1 hI2 hI3 hbx hn ho
 obtain ⟨kd,col,⟨nm,ty,rq,df⟩,od⟩:=s
 simp only at *
 subst hk
 go_enter func56,ntmps56
 go_wp2
 try rw [hV]
 obtain ⟨b,hb⟩:∃ b,w.heap.size=b:=⟨_,rfl⟩
 rw [hb] at hS HBX ⊢
 clear hV
 go_region_held3 (fun W=>W.cell? ⟨b,0,none⟩=some (.int .i64 1)∧W.cell? ⟨b,1,none⟩=some (.int .i64 col))
  (first | assumption | exact keepS2 hS (ZAI _) | exact keepS2 (by assumption) hb1) (first
  |(go_at_call 82;(with_reducible refine (HK.out _).mono ?_);rintro e w1 ⟨v1,rfl,ho1,hb1⟩;have hS1:=keepS2 (keepS2 hS (ZAI _)) hb1;have hs1:=ZAW ho1;obtain ⟨a1,m1,c1,rfl,_⟩:=ZAW ho1;have hB1:=(hB0.drew).trans (hb1.mono (hB0.drew).size);have hV1:=(ZAI V).trans (hb1.mono (ZAI V).size))
  |(go_at_call 82;(with_reducible refine (HC.out _).mono ?_);rintro e w2 ⟨v2,rfl,ho2,hb2⟩;have hS2:=keepS2 hS1 hb2;have hs2:=ZAW ho2;obtain ⟨a2,m2,c2,rfl,_⟩:=ZAW ho2;have hB2:=hB1.trans (hb2.mono hB1.size);have hs1:=ZAm hs1 hb2;have hV2:=hV1.trans (hb2.mono hV1.size);obtain ⟨_,q2,q3,q4,q5,q6,q7,q8,q9⟩:=HBX.out _ hV2))
 obtain ⟨q0,q1⟩:=hS2
 go_wp2_with (first
  |(go_at_call 54;(with_reducible refine (HP.out _ hB2).mono ?_);rintro e w3 ⟨v3,rfl,ho3,hb3⟩;have hs3:=ZAW ho3;obtain ⟨a3,m3,c3,rfl,_⟩:=ZAW ho3;have hB3:=hB2.trans (hb3.mono hB2.size);have hs1:=ZAm hs1 hb3;have hs2:=ZAm hs2 hb3;have hV3:=hV2.trans (hb3.mono hV2.size);obtain ⟨⟨p0,p1⟩,p2,p3,p4,p5,p6,p7,p8,p9⟩:=HBX.out _ hV3)
  |(go_at_call 51;(with_reducible refine (ZF4 _ _ _ _ _ hs1 hs3 (by have:=HL.out;omega)).mono ?_);rintro e w5 ⟨v5,rfl,ho5,hb5⟩))
 go_ret
 exact ZBM hB3 ⟨_,rfl,ho5,hb5⟩
theorem ZIG (s:StepM) (w:World) (x:Value) (hs:ZA3 w s x) (hn:s.sl.nm.size≤1000) (ho:s.od.length≤1000) (hk:s.kd=3):Calls Tryz.prog 56 #[x] w (Got w (Rg.byB s.kd++(Rg.byB s.col++Rg.txtB s.sl.nm))):=by
 have hsl0:=hs
 obtain ⟨k,n,t,a,len,cap,oa,oc,rfl,hI1,hI2,hI3,hnm,hd,hrow,hod⟩:=ZBF hs
 have hB0:=(Below.refl _ w).alloc (Nat.le_refl _) (.cells #[.int .i64 s.kd,.int .i64 s.col,.string s.sl.nm,.int .i64 s.sl.ty,.bool s.sl.rq,.int .i64 k,.int .i64 n,.string t,.slice a len cap,.slice oa s.od.length oc] 54)
 have hK:=fun W=>ZCR s.kd W
 have hC:=fun W=>ZCR s.col W
 have HP:=ZZY (fun W (hb:Below w.heap.size w W)=>ZCY s.sl W _ (ZAn hb (ZBx hsl0)) hn)
 have HT:=ZZY (fun W=>ZED s.sl.nm W (by omega))
 have HY:=ZZY (fun W=>ZCR s.sl.ty W)
 have HO:=ZZY (fun W (hb:Below w.heap.size w W)=>ZEP oa oc s.od W (ZAk hrow hb rfl) hod ho)
 have hl1:=Rg.spn_len s.kd 255 1
 have hl2:=Rg.spn_len s.col 255 1
 have hl3:=Rg.spn_len s.sl.ty 255 1
 have hl4:=Rg.slotB_len s.sl
 have hl5:=Rg.txtB_len s.sl.nm
 have hl6:(Rg.nuB s.od.length++s.od.flatMap Rg.byB).length≤2000:=by
  have h1:=Rg.spn_len (s.od.length:Int) 2147483647 4
  have h2:=Rg.flat_len s.od Rg.byB 1 (fun x _=>Rg.spn_len x 255 1)
  rw [List.length_append];unfold Rg.nuB;omega
 have hlk:(Rg.byB s.kd).length≤1:=hl1
 have hlc:(Rg.byB s.col).length≤1:=hl2
 have hly:(Rg.byB s.sl.ty).length≤1:=hl3
 generalize Rg.byB s.kd=LK at *
 generalize Rg.byB s.col=LC at *
 generalize Rg.byB s.sl.ty=LY at *
 generalize Rg.slotB s.sl=LS at *
 generalize Rg.txtB s.sl.nm=LT at *
 generalize (Rg.nuB s.od.length++s.od.flatMap Rg.byB)=LO at *
 have HL:=ZZY (And.intro hlk (And.intro hlc (And.intro hly (And.intro hl4 (And.intro hl5 (And.intro hl6 hn))))))
 have HK:=ZZY hK;have HC:=ZZY hC
 obtain ⟨V,hV⟩:∃ V,w.alloc (.cells #[.int .i64 s.kd,.int .i64 s.col,.string s.sl.nm,.int .i64 s.sl.ty,.bool s.sl.rq,.int .i64 k,.int .i64 n,.string t,.slice a len cap,.slice oa s.od.length oc] 54)=V:=⟨_,rfl⟩
 have hbx:=ZEQ (w:=w) (c0:=.int .i64 s.kd) (c1:=.int .i64 s.col) (c2:=.string s.sl.nm) (c3:=.int .i64 s.sl.ty) (c4:=.bool s.sl.rq) (c5:=.int .i64 k) (c6:=.int .i64 n) (c7:=.string t) (c8:=.slice a len cap) (c9:=.slice oa s.od.length oc) (t:=54)
 rw [hV] at hbx hB0
 obtain ⟨hS,_⟩:=hbx _ (Below.refl _ _)
 have HBX:=ZZY hbx
 clear hK hC hl1 hl2 hl3 hl4 hl5 hl6 hlk hlc hly hs hsl0 hd hrow hod hI1 hI2 hI3 hbx hn ho
 obtain ⟨kd,col,⟨nm,ty,rq,df⟩,od⟩:=s
 simp only at *
 subst hk
 go_enter func56,ntmps56
 go_wp2
 try rw [hV]
 obtain ⟨b,hb⟩:∃ b,w.heap.size=b:=⟨_,rfl⟩
 rw [hb] at hS HBX ⊢
 clear hV
 go_region_held3 (fun W=>W.cell? ⟨b,0,none⟩=some (.int .i64 3)∧W.cell? ⟨b,1,none⟩=some (.int .i64 col))
  (first | assumption | exact keepS2 hS (ZAI _) | exact keepS2 (by assumption) hb1) (first
  |(go_at_call 82;(with_reducible refine (HK.out _).mono ?_);rintro e w1 ⟨v1,rfl,ho1,hb1⟩;have hS1:=keepS2 (keepS2 hS (ZAI _)) hb1;have hs1:=ZAW ho1;obtain ⟨a1,m1,c1,rfl,_⟩:=ZAW ho1;have hB1:=(hB0.drew).trans (hb1.mono (hB0.drew).size);have hV1:=(ZAI V).trans (hb1.mono (ZAI V).size))
  |(go_at_call 82;(with_reducible refine (HC.out _).mono ?_);rintro e w2 ⟨v2,rfl,ho2,hb2⟩;have hS2:=keepS2 hS1 hb2;have hs2:=ZAW ho2;obtain ⟨a2,m2,c2,rfl,_⟩:=ZAW ho2;have hB2:=hB1.trans (hb2.mono hB1.size);have hs1:=ZAm hs1 hb2;have hV2:=hV1.trans (hb2.mono hV1.size);obtain ⟨_,q2,q3,q4,q5,q6,q7,q8,q9⟩:=HBX.out _ hV2))
 obtain ⟨q0,q1⟩:=hS2
 go_wp2_with (first
  |(go_at_call 52;(with_reducible refine (HT.out _).mono ?_);rintro e w3 ⟨v3,rfl,ho3,hb3⟩;have hs3:=ZAW ho3;obtain ⟨a3,m3,c3,rfl,_⟩:=ZAW ho3;have hB3:=hB2.trans (hb3.mono hB2.size);have hs1:=ZAm hs1 hb3;have hs2:=ZAm hs2 hb3;have hV3:=hV2.trans (hb3.mono hV2.size);obtain ⟨⟨p0,p1⟩,p2,p3,p4,p5,p6,p7,p8,p9⟩:=HBX.out _ hV3)
  |(go_at_call 51;(with_reducible refine (ZDU _ _ _ _ _ _ _ hs1 hs2 hs3 (by have:=HL.out;first | omega | (simp only [List.length_nil];omega))).mono ?_);rintro e w5 ⟨v5,rfl,ho5,hb5⟩))
 go_ret
 exact ZBM hB3 ⟨_,rfl,ho5,hb5⟩
theorem ZIH (s:StepM) (w:World) (x:Value) (hs:ZA3 w s x) (hn:s.sl.nm.size≤1000) (ho:s.od.length≤1000) (hk:s.kd=2):Calls Tryz.prog 56 #[x] w (Got w (Rg.byB s.kd++(Rg.byB s.col ++ []))):=by
 have hsl0:=hs
 obtain ⟨k,n,t,a,len,cap,oa,oc,rfl,hI1,hI2,hI3,hnm,hd,hrow,hod⟩:=ZBF hs
 have hB0:=(Below.refl _ w).alloc (Nat.le_refl _) (.cells #[.int .i64 s.kd,.int .i64 s.col,.string s.sl.nm,.int .i64 s.sl.ty,.bool s.sl.rq,.int .i64 k,.int .i64 n,.string t,.slice a len cap,.slice oa s.od.length oc] 54)
 have hK:=fun W=>ZCR s.kd W
 have hC:=fun W=>ZCR s.col W
 have HP:=ZZY (fun W (hb:Below w.heap.size w W)=>ZCY s.sl W _ (ZAn hb (ZBx hsl0)) hn)
 have HT:=ZZY (fun W=>ZED s.sl.nm W (by omega))
 have HY:=ZZY (fun W=>ZCR s.sl.ty W)
 have HO:=ZZY (fun W (hb:Below w.heap.size w W)=>ZEP oa oc s.od W (ZAk hrow hb rfl) hod ho)
 have hl1:=Rg.spn_len s.kd 255 1
 have hl2:=Rg.spn_len s.col 255 1
 have hl3:=Rg.spn_len s.sl.ty 255 1
 have hl4:=Rg.slotB_len s.sl
 have hl5:=Rg.txtB_len s.sl.nm
 have hl6:(Rg.nuB s.od.length++s.od.flatMap Rg.byB).length≤2000:=by
  have h1:=Rg.spn_len (s.od.length:Int) 2147483647 4
  have h2:=Rg.flat_len s.od Rg.byB 1 (fun x _=>Rg.spn_len x 255 1)
  rw [List.length_append];unfold Rg.nuB;omega
 have hlk:(Rg.byB s.kd).length≤1:=hl1
 have hlc:(Rg.byB s.col).length≤1:=hl2
 have hly:(Rg.byB s.sl.ty).length≤1:=hl3
 generalize Rg.byB s.kd=LK at *
 generalize Rg.byB s.col=LC at *
 generalize Rg.byB s.sl.ty=LY at *
 generalize Rg.slotB s.sl=LS at *
 generalize Rg.txtB s.sl.nm=LT at *
 generalize (Rg.nuB s.od.length++s.od.flatMap Rg.byB)=LO at *
 have HL:=ZZY (And.intro hlk (And.intro hlc (And.intro hly (And.intro hl4 (And.intro hl5 (And.intro hl6 hn))))))
 have HK:=ZZY hK;have HC:=ZZY hC
 obtain ⟨V,hV⟩:∃ V,w.alloc (.cells #[.int .i64 s.kd,.int .i64 s.col,.string s.sl.nm,.int .i64 s.sl.ty,.bool s.sl.rq,.int .i64 k,.int .i64 n,.string t,.slice a len cap,.slice oa s.od.length oc] 54)=V:=⟨_,rfl⟩
 have hbx:=ZEQ (w:=w) (c0:=.int .i64 s.kd) (c1:=.int .i64 s.col) (c2:=.string s.sl.nm) (c3:=.int .i64 s.sl.ty) (c4:=.bool s.sl.rq) (c5:=.int .i64 k) (c6:=.int .i64 n) (c7:=.string t) (c8:=.slice a len cap) (c9:=.slice oa s.od.length oc) (t:=54)
 rw [hV] at hbx hB0
 obtain ⟨hS,_⟩:=hbx _ (Below.refl _ _)
 have HBX:=ZZY hbx
 clear hK hC hl1 hl2 hl3 hl4 hl5 hl6 hlk hlc hly hs hsl0 hd hrow hod hI1 hI2 hI3 hbx hn ho
 obtain ⟨kd,col,⟨nm,ty,rq,df⟩,od⟩:=s
 simp only at *
 subst hk
 have hs3n:∀ W,IsSl W (.slice none 0 0) []:=fun W=>⟨none,0,0,rfl,rfl,Nat.le_refl _,by unfold maxLen;omega,.inl rfl⟩
 go_enter func56,ntmps56
 go_wp2
 try rw [hV]
 obtain ⟨b,hb⟩:∃ b,w.heap.size=b:=⟨_,rfl⟩
 rw [hb] at hS HBX ⊢
 clear hV
 go_region_held3 (fun W=>W.cell? ⟨b,0,none⟩=some (.int .i64 2)∧W.cell? ⟨b,1,none⟩=some (.int .i64 col))
  (first | assumption | exact keepS2 hS (ZAI _) | exact keepS2 (by assumption) hb1) (first
  |(go_at_call 82;(with_reducible refine (HK.out _).mono ?_);rintro e w1 ⟨v1,rfl,ho1,hb1⟩;have hS1:=keepS2 (keepS2 hS (ZAI _)) hb1;have hs1:=ZAW ho1;obtain ⟨a1,m1,c1,rfl,_⟩:=ZAW ho1;have hB1:=(hB0.drew).trans (hb1.mono (hB0.drew).size);have hV1:=(ZAI V).trans (hb1.mono (ZAI V).size))
  |(go_at_call 82;(with_reducible refine (HC.out _).mono ?_);rintro e w2 ⟨v2,rfl,ho2,hb2⟩;have hS2:=keepS2 hS1 hb2;have hs2:=ZAW ho2;obtain ⟨a2,m2,c2,rfl,_⟩:=ZAW ho2;have hB2:=hB1.trans (hb2.mono hB1.size);have hs1:=ZAm hs1 hb2;have hV2:=hV1.trans (hb2.mono hV1.size);obtain ⟨_,q2,q3,q4,q5,q6,q7,q8,q9⟩:=HBX.out _ hV2))
 obtain ⟨q0,q1⟩:=hS2
 go_wp2_with (first
  |(go_at_call 51;(with_reducible refine (ZDU _ _ _ _ _ _ _ hs1 hs2 (hs3n _) (by have:=HL.out;first | omega | (simp only [List.length_nil];omega))).mono ?_);rintro e w5 ⟨v5,rfl,ho5,hb5⟩))
 go_ret
 exact ZBM hB2 ⟨_,rfl,ho5,hb5⟩
theorem ZII (s:StepM) (w:World) (x:Value) (hs:ZA3 w s x) (hn:s.sl.nm.size≤1000) (ho:s.od.length≤1000) (hk:s.kd=4):Calls Tryz.prog 56 #[x] w (Got w (Rg.byB s.kd++(Rg.byB s.col++Rg.byB s.sl.ty))):=by
 have hsl0:=hs
 obtain ⟨k,n,t,a,len,cap,oa,oc,rfl,hI1,hI2,hI3,hnm,hd,hrow,hod⟩:=ZBF hs
 have hB0:=(Below.refl _ w).alloc (Nat.le_refl _) (.cells #[.int .i64 s.kd,.int .i64 s.col,.string s.sl.nm,.int .i64 s.sl.ty,.bool s.sl.rq,.int .i64 k,.int .i64 n,.string t,.slice a len cap,.slice oa s.od.length oc] 54)
 have hK:=fun W=>ZCR s.kd W
 have hC:=fun W=>ZCR s.col W
 have HP:=ZZY (fun W (hb:Below w.heap.size w W)=>ZCY s.sl W _ (ZAn hb (ZBx hsl0)) hn)
 have HT:=ZZY (fun W=>ZED s.sl.nm W (by omega))
 have HY:=ZZY (fun W=>ZCR s.sl.ty W)
 have HO:=ZZY (fun W (hb:Below w.heap.size w W)=>ZEP oa oc s.od W (ZAk hrow hb rfl) hod ho)
 have hl1:=Rg.spn_len s.kd 255 1
 have hl2:=Rg.spn_len s.col 255 1
 have hl3:=Rg.spn_len s.sl.ty 255 1
 have hl4:=Rg.slotB_len s.sl
 have hl5:=Rg.txtB_len s.sl.nm
 have hl6:(Rg.nuB s.od.length++s.od.flatMap Rg.byB).length≤2000:=by
  have h1:=Rg.spn_len (s.od.length:Int) 2147483647 4
  have h2:=Rg.flat_len s.od Rg.byB 1 (fun x _=>Rg.spn_len x 255 1)
  rw [List.length_append];unfold Rg.nuB;omega
 have hlk:(Rg.byB s.kd).length≤1:=hl1
 have hlc:(Rg.byB s.col).length≤1:=hl2
 have hly:(Rg.byB s.sl.ty).length≤1:=hl3
 generalize Rg.byB s.kd=LK at *
 generalize Rg.byB s.col=LC at *
 generalize Rg.byB s.sl.ty=LY at *
 generalize Rg.slotB s.sl=LS at *
 generalize Rg.txtB s.sl.nm=LT at *
 generalize (Rg.nuB s.od.length++s.od.flatMap Rg.byB)=LO at *
 have HL:=ZZY (And.intro hlk (And.intro hlc (And.intro hly (And.intro hl4 (And.intro hl5 (And.intro hl6 hn))))))
 have HK:=ZZY hK;have HC:=ZZY hC
 obtain ⟨V,hV⟩:∃ V,w.alloc (.cells #[.int .i64 s.kd,.int .i64 s.col,.string s.sl.nm,.int .i64 s.sl.ty,.bool s.sl.rq,.int .i64 k,.int .i64 n,.string t,.slice a len cap,.slice oa s.od.length oc] 54)=V:=⟨_,rfl⟩
 have hbx:=ZEQ (w:=w) (c0:=.int .i64 s.kd) (c1:=.int .i64 s.col) (c2:=.string s.sl.nm) (c3:=.int .i64 s.sl.ty) (c4:=.bool s.sl.rq) (c5:=.int .i64 k) (c6:=.int .i64 n) (c7:=.string t) (c8:=.slice a len cap) (c9:=.slice oa s.od.length oc) (t:=54)
 rw [hV] at hbx hB0
 obtain ⟨hS,_⟩:=hbx _ (Below.refl _ _)
 have HBX:=ZZY hbx
 clear hK hC hl1 hl2 hl3 hl4 hl5 hl6 hlk hlc hly hs hsl0 hd hrow hod hI1 hI2 hI3 hbx hn ho
 obtain ⟨kd,col,⟨nm,ty,rq,df⟩,od⟩:=s
 simp only at *
 subst hk
 go_enter func56,ntmps56
 go_wp2
 try rw [hV]
 obtain ⟨b,hb⟩:∃ b,w.heap.size=b:=⟨_,rfl⟩
 rw [hb] at hS HBX ⊢
 clear hV
 go_region_held3 (fun W=>W.cell? ⟨b,0,none⟩=some (.int .i64 4)∧W.cell? ⟨b,1,none⟩=some (.int .i64 col))
  (first | assumption | exact keepS2 hS (ZAI _) | exact keepS2 (by assumption) hb1) (first
  |(go_at_call 82;(with_reducible refine (HK.out _).mono ?_);rintro e w1 ⟨v1,rfl,ho1,hb1⟩;have hS1:=keepS2 (keepS2 hS (ZAI _)) hb1;have hs1:=ZAW ho1;obtain ⟨a1,m1,c1,rfl,_⟩:=ZAW ho1;have hB1:=(hB0.drew).trans (hb1.mono (hB0.drew).size);have hV1:=(ZAI V).trans (hb1.mono (ZAI V).size))
  |(go_at_call 82;(with_reducible refine (HC.out _).mono ?_);rintro e w2 ⟨v2,rfl,ho2,hb2⟩;have hS2:=keepS2 hS1 hb2;have hs2:=ZAW ho2;obtain ⟨a2,m2,c2,rfl,_⟩:=ZAW ho2;have hB2:=hB1.trans (hb2.mono hB1.size);have hs1:=ZAm hs1 hb2;have hV2:=hV1.trans (hb2.mono hV1.size);obtain ⟨_,q2,q3,q4,q5,q6,q7,q8,q9⟩:=HBX.out _ hV2))
 obtain ⟨q0,q1⟩:=hS2
 go_wp2_with (first
  |(go_at_call 82;(with_reducible refine (HY.out _).mono ?_);rintro e w3 ⟨v3,rfl,ho3,hb3⟩;have hs3:=ZAW ho3;obtain ⟨a3,m3,c3,rfl,_⟩:=ZAW ho3;have hB3:=hB2.trans (hb3.mono hB2.size);have hs1:=ZAm hs1 hb3;have hs2:=ZAm hs2 hb3;have hV3:=hV2.trans (hb3.mono hV2.size);obtain ⟨⟨p0,p1⟩,p2,p3,p4,p5,p6,p7,p8,p9⟩:=HBX.out _ hV3)
  |(go_at_call 51;(with_reducible refine (ZDU _ _ _ _ _ _ _ hs1 hs2 hs3 (by have:=HL.out;first | omega | (simp only [List.length_nil];omega))).mono ?_);rintro e w5 ⟨v5,rfl,ho5,hb5⟩))
 go_ret
 exact ZBM hB3 ⟨_,rfl,ho5,hb5⟩
theorem ZIJ (s:StepM) (w:World) (x:Value) (hs:ZA3 w s x) (hn:s.sl.nm.size≤1000) (ho:s.od.length≤1000) (hk1:s.kd≠1) (hk2:s.kd≠2) (hk3:s.kd≠3) (hk4:s.kd≠4):Calls Tryz.prog 56 #[x] w (Got w (Rg.byB s.kd++(Rg.nuB s.od.length++s.od.flatMap Rg.byB))):=by
 have hsl0:=hs
 obtain ⟨k,n,t,a,len,cap,oa,oc,rfl,hI1,hI2,hI3,hnm,hd,hrow,hod⟩:=ZBF hs
 have hB0:=(Below.refl _ w).alloc (Nat.le_refl _) (.cells #[.int .i64 s.kd,.int .i64 s.col,.string s.sl.nm,.int .i64 s.sl.ty,.bool s.sl.rq,.int .i64 k,.int .i64 n,.string t,.slice a len cap,.slice oa s.od.length oc] 54)
 have hK:=fun W=>ZCR s.kd W
 have hC:=fun W=>ZCR s.col W
 have HP:=ZZY (fun W (hb:Below w.heap.size w W)=>ZCY s.sl W _ (ZAn hb (ZBx hsl0)) hn)
 have HT:=ZZY (fun W=>ZED s.sl.nm W (by omega))
 have HY:=ZZY (fun W=>ZCR s.sl.ty W)
 have HO:=ZZY (fun W (hb:Below w.heap.size w W)=>ZEP oa oc s.od W (ZAk hrow hb rfl) hod ho)
 have hl1:=Rg.spn_len s.kd 255 1
 have hl2:=Rg.spn_len s.col 255 1
 have hl3:=Rg.spn_len s.sl.ty 255 1
 have hl4:=Rg.slotB_len s.sl
 have hl5:=Rg.txtB_len s.sl.nm
 have hl6:(Rg.nuB s.od.length++s.od.flatMap Rg.byB).length≤2000:=by
  have h1:=Rg.spn_len (s.od.length:Int) 2147483647 4
  have h2:=Rg.flat_len s.od Rg.byB 1 (fun x _=>Rg.spn_len x 255 1)
  rw [List.length_append];unfold Rg.nuB;omega
 have hlk:(Rg.byB s.kd).length≤1:=hl1
 have hlc:(Rg.byB s.col).length≤1:=hl2
 have hly:(Rg.byB s.sl.ty).length≤1:=hl3
 generalize Rg.byB s.kd=LK at *
 generalize Rg.byB s.col=LC at *
 generalize Rg.byB s.sl.ty=LY at *
 generalize Rg.slotB s.sl=LS at *
 generalize Rg.txtB s.sl.nm=LT at *
 generalize (Rg.nuB s.od.length++s.od.flatMap Rg.byB)=LO at *
 have HL:=ZZY (And.intro hlk (And.intro hlc (And.intro hly (And.intro hl4 (And.intro hl5 (And.intro hl6 hn))))))
 have HK:=ZZY hK;have HC:=ZZY hC
 obtain ⟨V,hV⟩:∃ V,w.alloc (.cells #[.int .i64 s.kd,.int .i64 s.col,.string s.sl.nm,.int .i64 s.sl.ty,.bool s.sl.rq,.int .i64 k,.int .i64 n,.string t,.slice a len cap,.slice oa s.od.length oc] 54)=V:=⟨_,rfl⟩
 have hbx:=ZEQ (w:=w) (c0:=.int .i64 s.kd) (c1:=.int .i64 s.col) (c2:=.string s.sl.nm) (c3:=.int .i64 s.sl.ty) (c4:=.bool s.sl.rq) (c5:=.int .i64 k) (c6:=.int .i64 n) (c7:=.string t) (c8:=.slice a len cap) (c9:=.slice oa s.od.length oc) (t:=54)
 rw [hV] at hbx hB0
 obtain ⟨hS,_⟩:=hbx _ (Below.refl _ _)
 have HBX:=ZZY hbx
 clear hK hC hl1 hl2 hl3 hl4 hl5 hl6 hlk hlc hly hs hsl0 hd hrow hod hI1 hI2 hI3 hbx hn ho
 obtain ⟨kd,col,⟨nm,ty,rq,df⟩,od⟩:=s
 simp only at *
 have d1:(kd == 1)=false:=by simp;exact hk1
 have d2:(kd == 2)=false:=by simp;exact hk2
 have d3:(kd == 3)=false:=by simp;exact hk3
 have d4:(kd == 4)=false:=by simp;exact hk4
 clear hk1 hk2 hk3 hk4
 go_enter func56,ntmps56
 go_wp2
 try rw [hV]
 obtain ⟨b,hb⟩:∃ b,w.heap.size=b:=⟨_,rfl⟩
 rw [hb] at hS HBX ⊢
 clear hV
 go_region_held3 (fun W=>W.cell? ⟨b,0,none⟩=some (.int .i64 kd)∧W.cell? ⟨b,1,none⟩=some (.int .i64 col))
  (first | assumption | exact keepS2 hS (ZAI _) | exact keepS2 (by assumption) hb1) (first
  |(go_at_call 82;(with_reducible refine (HK.out _).mono ?_);rintro e w1 ⟨v1,rfl,ho1,hb1⟩;have hS1:=keepS2 (keepS2 hS (ZAI _)) hb1;have hs1:=ZAW ho1;obtain ⟨a1,m1,c1,rfl,_⟩:=ZAW ho1;have hB1:=(hB0.drew).trans (hb1.mono (hB0.drew).size);have hV1:=(ZAI V).trans (hb1.mono (ZAI V).size))
  |(go_at_call 82;(with_reducible refine (HC.out _).mono ?_);rintro e w2 ⟨v2,rfl,ho2,hb2⟩;have hS2:=keepS2 hS1 hb2;have hs2:=ZAW ho2;obtain ⟨a2,m2,c2,rfl,_⟩:=ZAW ho2;have hB2:=hB1.trans (hb2.mono hB1.size);have hs1:=ZAm hs1 hb2;have hV2:=hV1.trans (hb2.mono hV1.size);obtain ⟨_,q2,q3,q4,q5,q6,q7,q8,q9⟩:=HBX.out _ hV2))
 obtain ⟨q0,q1⟩:=hS2
 go_wp2_with (first
  |(go_at_call 83;(with_reducible refine (HO.out _ hB2).mono ?_);rintro e w3 ⟨v3,rfl,ho3,hb3⟩;have hs3:=ZAW ho3;obtain ⟨a3,m3,c3,rfl,_⟩:=ZAW ho3;have hB3:=hB2.trans (hb3.mono hB2.size);have hs1:=ZAm hs1 hb3;have hs2:=ZAm hs2 hb3;have hV3:=hV2.trans (hb3.mono hV2.size);obtain ⟨⟨p0,p1⟩,p2,p3,p4,p5,p6,p7,p8,p9⟩:=HBX.out _ hV3)
  |(go_at_call 51;(with_reducible refine (ZF4 _ _ _ _ _ hs1 hs3 (by have:=HL.out;omega)).mono ?_);rintro e w5 ⟨v5,rfl,ho5,hb5⟩))
 go_ret
 exact ZBM hB3 ⟨_,rfl,ho5,hb5⟩
theorem ZJl (s:StepM) (w:World) (x:Value) (hs:ZA3 w s x) (hn:s.sl.nm.size≤1000) (ho:s.od.length≤1000):Calls Tryz.prog 56 #[x] w (Got w (Rg.stepB s)):=by
 unfold Rg.stepB
 by_cases k1:s.kd=1
 ·rw [if_pos k1];exact ZIF s w x hs hn ho k1
 ·rw [if_neg k1]
  by_cases k3:s.kd=3
  ·rw [if_pos k3];exact ZIG s w x hs hn ho k3
  ·rw [if_neg k3]
   by_cases k2:s.kd=2
   ·rw [if_pos k2];exact ZIH s w x hs hn ho k2
   ·rw [if_neg k2]
    by_cases k4:s.kd=4
    ·rw [if_pos k4];exact ZII s w x hs hn ho k4
    ·rw [if_neg k4];exact ZIJ s w x hs hn ho k1 k2 k3 k4
theorem ZLk (args:Array Value) (w:World):(callFunc 56 args).run Tryz.prog w=.ok (.enter 56 args) w:=enters_of func56 (by kernel_rfl) rfl args w
theorem ZMy (a:Option Addr) (cap:Nat) (l:List StepM) (w:World) (hr:ZCI w a cap l) (hsm:l.length≤40) (hn:∀ s∈l,s.sl.nm.size≤1000∧s.od.length≤1000) :
  Calls Tryz.prog 55 #[.slice a l.length cap,.func (.func 56) #[] #[]] w (Got w (Rg.nuB l.length++l.flatMap Rg.stepB)):=
 ZIE a cap l Rg.stepB 56 w hr (by omega) (by have:=Rg.flat_len l Rg.stepB 24000 (fun s hs=>by have:=Rg.stepB_len s;have:=hn s hs;omega);omega) ZLk (fun i y W X hy _ hX=>ZJl y W X hX (hn y (List.mem_of_getElem? hy)).1 (hn y (List.mem_of_getElem? hy)).2)
theorem ZFl (t:TemplM) (w:World) (x:Value) (hi:ZA8 w t x) (hsm:Rg.Small t):Calls Tryz.prog 34 #[x] w (Got w (Rg.templB t)):=by
 obtain ⟨hnm,sa,sc,ta,tc,rfl,hs,ht⟩:=hi
 have hB0:=(Below.refl _ w).alloc (Nat.le_refl _) (.cells #[.string t.nm,.slice sa t.slots.length sc,.slice ta t.steps.length tc] 40)
 have hlen:=Rg.templB_len hsm
 have hT:=fun W=>ZED t.nm W (by have:=hsm.nm;omega)
 have hA:=fun W (hb:Below w.heap.size w W)=>ZMx sa sc t.slots W (ZAy hb hs) hsm.n hsm.sn
 have hC:=fun W (hb:Below w.heap.size w W)=>ZMy ta tc t.steps W (ZBf hb ht) hsm.m hsm.pn
 unfold Rg.templB at hlen ⊢
 generalize Rg.txtB t.nm=L1 at *
 generalize (Rg.nuB t.slots.length++t.slots.flatMap Rg.slotB)=L2 at *
 generalize (Rg.nuB t.steps.length++t.steps.flatMap Rg.stepB)=L3 at *
 simp only [List.length_append] at hlen
 have HL:=ZZY hlen;have HT:=ZZY hT;have HA:=ZZY hA;have HC:=ZZY hC
 have hS:(w.alloc (.cells #[.string t.nm,.slice sa t.slots.length sc,.slice ta t.steps.length tc] 40)).cell? ⟨w.heap.size,0,none⟩=some (.string t.nm)∧(w.alloc (.cells #[.string t.nm,.slice sa t.slots.length sc,.slice ta t.steps.length tc] 40)).cell? ⟨w.heap.size,1,none⟩=some (.slice sa t.slots.length sc)∧(w.alloc (.cells #[.string t.nm,.slice sa t.slots.length sc,.slice ta t.steps.length tc] 40)).cell? ⟨w.heap.size,2,none⟩=some (.slice ta t.steps.length tc):=by
  refine ⟨?_, ?_, ?_⟩<;>simp
 obtain ⟨V,hV⟩:∃ V,w.alloc (.cells #[.string t.nm,.slice sa t.slots.length sc,.slice ta t.steps.length tc] 40)=V:=⟨_,rfl⟩
 rw [hV] at hS hB0
 clear hsm hs ht hlen hT hA hC hnm
 go_enter func34,ntmps34
 go_wp2
 try rw [hV]
 obtain ⟨b,hb⟩:∃ b,w.heap.size=b:=⟨_,rfl⟩
 rw [hb] at hS ⊢
 clear hV
 go_region_held3 (fun W=>W.cell? ⟨b,0,none⟩=some (.string t.nm)∧W.cell? ⟨b,1,none⟩=some (.slice sa t.slots.length sc)∧W.cell? ⟨b,2,none⟩=some (.slice ta t.steps.length tc))
  (first | assumption | exact keepS3 hS (ZAI _) | exact keepS3 hS3 ((Below.refl _ _).alloc (Nat.le_refl _) _) | exact keepS3 hS3 hb5) (first
  |(go_at_call 52;(with_reducible refine (HT.out _).mono ?_);rintro e w1 ⟨v1,rfl,ho1,hb1⟩;have hS1:=keepS3 (keepS3 hS (ZAI _)) hb1;have hs1:=ZAW ho1;obtain ⟨a1,m1,c1,rfl,_⟩:=ZAW ho1;have hB1:=(hB0.drew).trans (hb1.mono (hB0.drew).size);skip)
  |(go_at_call 53;(with_reducible refine (HA.out _ hB1).mono ?_);rintro e w2 ⟨v2,rfl,ho2,hb2⟩;have hS2:=keepS3 hS1 hb2;have hs2:=ZAW ho2;obtain ⟨a2,m2,c2,rfl,_⟩:=ZAW ho2;have hB2:=hB1.trans (hb2.mono hB1.size);have hs1:=ZAm hs1 hb2;skip)
  |(go_at_call 55;(with_reducible refine (HC.out _ hB2).mono ?_);rintro e w3 ⟨v3,rfl,ho3,hb3⟩;have hS3:=keepS3 hS2 hb3;have hs3:=ZAW ho3;obtain ⟨a3,m3,c3,rfl,_⟩:=ZAW ho3;have hB3:=hB2.trans (hb3.mono hB2.size);have hs1:=ZAm hs1 hb3;have hs2:=ZAm hs2 hb3;skip)
  |(go_at_call 51;(with_reducible refine (ZDU _ _ _ _ _ _ _ hs1 hs2 hs3 (by have:=HL.out;omega)).mono ?_);rintro e w5 ⟨v5,rfl,ho5,hb5⟩))
 go_wp2
 go_ret
 exact ZBM hB3 ⟨_,rfl,ho5,hb5⟩
theorem ZJm (args:Array Value) (w:World):(callFunc 34 args).run Tryz.prog w=.ok (.enter 34 args) w:=enters_of func34 (by kernel_rfl) rfl args w
theorem ZLl (a:Option Addr) (cap:Nat) (l:List TemplM) (w:World) (hr:ZAw w a cap l) (hsm:l.length≤6) (hn:∀ t∈l,Rg.Small t) :
  Calls Tryz.prog 33 #[.slice a l.length cap,.func (.func 34) #[] #[]] w (Got w (Rg.putR l)):=
 ZHF a cap l Rg.templB 34 w hr (by omega) (by have:=Rg.flat_len l Rg.templB 2000000 (fun t ht=>Rg.templB_len (hn t ht));omega) ZJm (fun i y W X hy _ hX=>ZFl y W X hX (hn y (List.mem_of_getElem? hy)))
theorem ZER {l:List TemplM} (h:Rg.right l=true):l.length≤6∧∀ t∈l,Rg.Small t:=by
 have h1:=(Rg.right_iff l).1 h
 refine ⟨h1.1,fun t ht=>?_⟩
 obtain ⟨i,hi⟩:=List.mem_iff_getElem?.1 ht
 exact Rg.templOk_small (Rg.rightT_ok (h1.2 i t hi).1)
theorem ZIK (a:Option Addr) (cap:Nat) (l:List TemplM) (w:World) (hr:ZAw w a cap l) (hsm:l.length≤100000) (hA:ZHB l) :
  Calls Tryz.prog 14 #[.slice a l.length cap] w (Got w (Rg.putIf l)):=by
 have hR:=ZEC a cap l w hr hsm hA
 have hP:=fun (h:Rg.right l=true) W hb=>ZLl a cap l W (ZBh (w:=w) hb hr) (ZER h).1 (ZER h).2
 unfold Rg.putIf
 obtain ⟨R,hRR⟩:∃ R,Rg.right l=R:=⟨_,rfl⟩
 rw [hRR] at hR hP ⊢
 generalize Rg.putR l=L at *
 obtain ⟨n,hn⟩:∃ n,l.length=n:=⟨_,rfl⟩
 rw [hn] at hR hP ⊢
 have HR:=ZZY hR
 clear hR hr hsm hA hRR hn
 cases R with
 |true=>
  rw [if_pos rfl]
  have HP:=ZZY (hP rfl)
  clear hP
  go_enter func14,ntmps14
  go_wp2_with (first
   |(go_at_call 16;(with_reducible refine (HR.out).mono ?_);rintro e w1 ⟨rfl,hB1⟩)
   |(go_at_call 33;(with_reducible refine (HP.out _ hB1).mono ?_);rintro e w2 ⟨v2,rfl,ho2,hb2⟩))
  go_ret
  exact ZBM hB1 ⟨_,rfl,ho2,hb2⟩
 |false=>
  rw [if_neg (by simp)]
  clear hP
  go_enter func14,ntmps14
  go_wp2_with (go_at_call 16;(with_reducible refine (HR.out).mono ?_);rintro e w1 ⟨rfl,hB1⟩)
  go_ret
  exact ⟨_,rfl,World.ownsRow_nil _ _ _ _,hB1⟩
