/- Registries: the bytes of slots, steps, templates; Put. -/
import Derived.Test.YtnefldogciemgaaGreatMh25Regi
import Derived.Test.YtnefldogciemgaaGreatMh24Regi
set_option linter.unusedVariables false
set_option linter.unusedSimpArgs false
set_option maxRecDepth 100000
namespace Go.Proofs.YtnefldogciemgaaGreat
open Go.RowKit Go.Shelf
theorem keepS6 {b:Nat} {c0 c1 c3 c4 c5 c6:Value} {W W':World} (h:(W.cell? ⟨b,0,none⟩=some c0∧W.cell? ⟨b,1,none⟩=some c1)∧(W.cell? ⟨b,3,none⟩=some c3∧W.cell? ⟨b,4,none⟩=some c4)∧(W.cell? ⟨b,5,none⟩=some c5∧W.cell? ⟨b,6,none⟩=some c6)) (hb:Below W.heap.size W W') :
  (W'.cell? ⟨b,0,none⟩=some c0∧W'.cell? ⟨b,1,none⟩=some c1)∧(W'.cell? ⟨b,3,none⟩=some c3∧W'.cell? ⟨b,4,none⟩=some c4)∧(W'.cell? ⟨b,5,none⟩=some c5∧W'.cell? ⟨b,6,none⟩=some c6):=
 ⟨⟨cell_below hb h.1.1,cell_below hb h.1.2⟩,⟨cell_below hb h.2.1.1,cell_below hb h.2.1.2⟩,cell_below hb h.2.2.1,cell_below hb h.2.2.2⟩
theorem keepS3 {b:Nat} {c0 c1 c2:Value} {W W':World} (h:W.cell? ⟨b,0,none⟩=some c0∧W.cell? ⟨b,1,none⟩=some c1∧W.cell? ⟨b,2,none⟩=some c2) (hb:Below W.heap.size W W') :
  W'.cell? ⟨b,0,none⟩=some c0∧W'.cell? ⟨b,1,none⟩=some c1∧W'.cell? ⟨b,2,none⟩=some c2:=⟨cell_below hb h.1,cell_below hb h.2.1,cell_below hb h.2.2⟩
theorem keepS2 {b:Nat} {c0 c1:Value} {W W':World} (h:W.cell? ⟨b,0,none⟩=some c0∧W.cell? ⟨b,1,none⟩=some c1) (hb:Below W.heap.size W W') :
  W'.cell? ⟨b,0,none⟩=some c0∧W'.cell? ⟨b,1,none⟩=some c1:=⟨cell_below hb h.1,cell_below hb h.2⟩
theorem txt_any (s:ByteArray) (w:World) (hs:s.size≤1000000):Calls Tryz.prog 59 #[.string s] w (Got w (Rg.txtB s)):=btext_any s w (by omega)
theorem by_any (n:Int) (w:World):Calls Tryz.prog 91 #[.int .i64 n] w (Got w (Rg.byB n)):=byte_any n w
theorem bytes_three (W:World) (v1 v2 v3:Value) (l1 l2 l3:List Int) (h1:IsSl W v1 l1) (h2:IsSl W v2 l2) (h3:IsSl W v3 l3) (hl:l1.length+(l2.length+l3.length)≤1000000000) :
  Calls Tryz.prog 58 #[.slice (some ⟨W.heap.size,0,none⟩) 3 3] (W.alloc (.cells #[v1,v2,v3] 26)) (Got W (l1++(l2++l3))):=by
 have:=all_many W 3 [(v1,l1),(v2,l2),(v3,l3)] (by intro p hp;simp at hp;rcases hp with rfl | rfl | rfl<;>assumption) rfl (by omega) (by simp;omega) #[v1,v2,v3] rfl
 simpa using this
theorem bytes_four (W:World) (v1 v2 v3 v4:Value) (l1 l2 l3 l4:List Int) (h1:IsSl W v1 l1) (h2:IsSl W v2 l2) (h3:IsSl W v3 l3) (h4:IsSl W v4 l4) (hl:l1.length+(l2.length+(l3.length+l4.length))≤1000000000) :
  Calls Tryz.prog 58 #[.slice (some ⟨W.heap.size,0,none⟩) 4 4] (W.alloc (.cells #[v1,v2,v3,v4] 26)) (Got W (l1++(l2++(l3++l4)))):=by
 have:=all_many W 4 [(v1,l1),(v2,l2),(v3,l3),(v4,l4)] (by intro p hp;simp at hp;rcases hp with rfl | rfl | rfl | rfl<;>assumption) rfl (by omega) (by simp;omega) #[v1,v2,v3,v4] rfl
 simpa using this
set_option maxHeartbeats 4000000 in
theorem putSlot_any (s:SlotM) (w:World) (x:Value) (hs:IsSlot w s x) (hn:s.nm.size≤1000):Calls Tryz.prog 61 #[x] w (Got w (Rg.slotB s)):=by
 obtain ⟨k,n,t,a,len,cap,rfl,hI,hnm,hd⟩:=slot7_form hs
 have hB0:=(Below.refl _ w).alloc (Nat.le_refl _) (.cells #[.string s.nm,.int .i64 s.ty,.bool s.rq,.int .i64 k,.int .i64 n,.string t,.slice a len cap] 57)
 have hT:=fun W=>txt_any s.nm W (by omega)
 have hY:=fun W=>by_any s.ty W
 have hQ:=fun q W=>by_any (if q=true then 1 else 0) W
 have hV:=fun W (hb:Below w.heap.size w W)=>bvalue_any s.df W _ (is_below hb _ _ hd)
 have hl1:=Rg.txtB_len s.nm
 have hl2:=Rg.spn_len s.ty 255 1
 have hl3:=Rg.spn_len (if s.rq=true then 1 else 0) 255 1
 have hl4:=Rg.valB_len9 s.df
 have hll:(Rg.txtB s.nm).length+((Rg.byB s.ty).length+((Rg.byB (if s.rq=true then 1 else 0)).length+(valB s.df).length))≤1000000000:=by unfold Rg.byB;omega
 have hrq:∀ W,Calls Tryz.prog 91 #[.int .i64 (if s.rq=true then 1 else 0)] W (Got W (Rg.byB (if s.rq=true then 1 else 0))):=fun W=>by_any _ W
 unfold Rg.slotB
 generalize Rg.txtB s.nm=L1 at *
 generalize Rg.byB s.ty=L2 at *
 generalize valB s.df=L4 at *
 obtain ⟨L3,hL3⟩:∃ L3,Rg.byB (if s.rq=true then 1 else 0)=L3:=⟨_,rfl⟩
 rw [hL3] at hrq hll ⊢
 have HV:=Lib.hid hV;have HT:=Lib.hid hT;have HY:=Lib.hid hY;have HLL:=Lib.hid hll
 have hc0:∀ W,Below (w.alloc (.cells #[.string s.nm,.int .i64 s.ty,.bool s.rq,.int .i64 k,.int .i64 n,.string t,.slice a len cap] 57)).heap.size (w.alloc (.cells #[.string s.nm,.int .i64 s.ty,.bool s.rq,.int .i64 k,.int .i64 n,.string t,.slice a len cap] 57)) W →
   (W.cell? ⟨w.heap.size,0,none⟩=some (.string s.nm)∧W.cell? ⟨w.heap.size,1,none⟩=some (.int .i64 s.ty))∧(W.cell? ⟨w.heap.size,3,none⟩=some (.int .i64 k)∧W.cell? ⟨w.heap.size,4,none⟩=some (.int .i64 n))∧(W.cell? ⟨w.heap.size,5,none⟩=some (.string t)∧W.cell? ⟨w.heap.size,6,none⟩=some (.slice a len cap)):=fun W hb=>
  ⟨⟨cell_below hb (by simp),cell_below hb (by simp)⟩,⟨cell_below hb (by simp),cell_below hb (by simp)⟩,cell_below hb (by simp),cell_below hb (by simp)⟩
 have hS:=hc0 _ (Below.refl _ _)
 clear hc0 hs hd hV hT hY hQ hl1 hl2 hl3 hl4 hll hL3 hI
 obtain ⟨nm,ty,rq,df⟩:=s
 simp only at *
 cases rq with
 |true=>
  have HQ:Hid (∀ W,Calls Tryz.prog 91 #[.int .i64 1] W (Got W L3)):=Lib.hid hrq
  clear hrq
  go_enter Tryz.func61,Tryz.ntmps61
  go_wp2
  obtain ⟨V,hV⟩:∃ V,w.alloc (.cells #[.string nm,.int .i64 ty,.bool true,.int .i64 k,.int .i64 n,.string t,.slice a len cap] 57)=V:=⟨_,rfl⟩
  obtain ⟨b,hb⟩:∃ b,w.heap.size=b:=⟨_,rfl⟩
  rw [hV] at hS hB0 ⊢
  rw [hb] at hS ⊢
  clear hV
  go_region_held3 (fun W=>(W.cell? ⟨b,0,none⟩=some (.string nm)∧W.cell? ⟨b,1,none⟩=some (.int .i64 ty))∧(W.cell? ⟨b,3,none⟩=some (.int .i64 k)∧W.cell? ⟨b,4,none⟩=some (.int .i64 n))∧(W.cell? ⟨b,5,none⟩=some (.string t)∧W.cell? ⟨b,6,none⟩=some (.slice a len cap)))
   (first | assumption | exact keepS6 hS (below_drew _) | exact keepS6 hS4 ((Below.refl _ _).alloc (Nat.le_refl _) _) | exact keepS6 hS4 hb5) (first
   |(go_at_call 59;(with_reducible refine (HT.out _).mono ?_);rintro e w1 ⟨v1,rfl,ho1,hb1⟩;have hS1:=keepS6 (keepS6 hS (below_drew _)) hb1;have hs1:=isSl_own ho1;obtain ⟨a1,m1,c1,rfl,_⟩:=isSl_own ho1;have hB1:=(hB0.drew).trans (hb1.mono (hB0.drew).size))
   |(go_at_call 91;(with_reducible refine (HY.out _).mono ?_);rintro e w2 ⟨v2,rfl,ho2,hb2⟩;have hS2:=keepS6 hS1 hb2;have hs2:=isSl_own ho2;obtain ⟨a2,m2,c2,rfl,_⟩:=isSl_own ho2;have hB2:=hB1.trans (hb2.mono hB1.size);have hs1:=isSl_below hs1 hb2)
   |(go_at_call 91;(with_reducible refine (HQ.out _).mono ?_);rintro e w3 ⟨v3,rfl,ho3,hb3⟩;have hS3:=keepS6 hS2 hb3;have hs3:=isSl_own ho3;obtain ⟨a3,m3,c3,rfl,_⟩:=isSl_own ho3;have hB3:=hB2.trans (hb3.mono hB2.size);have hs1:=isSl_below hs1 hb3;have hs2:=isSl_below hs2 hb3)
   |(go_at_call 51;(with_reducible refine (HV.out _ hB3).mono ?_);rintro e w4 ⟨v4,rfl,ho4,hb4⟩;have hS4:=keepS6 hS3 hb4;have hs4:=isSl_own ho4;obtain ⟨a4,m4,c4,rfl,_⟩:=isSl_own ho4;have hB4:=hB3.trans (hb4.mono hB3.size);have hs1:=isSl_below hs1 hb4;have hs2:=isSl_below hs2 hb4;have hs3:=isSl_below hs3 hb4)
   |(go_at_call 58;(with_reducible refine (bytes_four _ _ _ _ _ _ _ _ _ hs1 hs2 hs3 hs4 HLL.out).mono ?_);rintro e w5 ⟨v5,rfl,ho5,hb5⟩))
  go_wp2
  go_ret
  exact got_under hB4 ⟨_,rfl,ho5,hb5⟩
 |false=>
  have HQ:Hid (∀ W,Calls Tryz.prog 91 #[.int .i64 0] W (Got W L3)):=Lib.hid hrq
  clear hrq
  go_enter Tryz.func61,Tryz.ntmps61
  go_wp2
  obtain ⟨V,hV⟩:∃ V,w.alloc (.cells #[.string nm,.int .i64 ty,.bool false,.int .i64 k,.int .i64 n,.string t,.slice a len cap] 57)=V:=⟨_,rfl⟩
  obtain ⟨b,hb⟩:∃ b,w.heap.size=b:=⟨_,rfl⟩
  rw [hV] at hS hB0 ⊢
  rw [hb] at hS ⊢
  clear hV
  go_region_held3 (fun W=>(W.cell? ⟨b,0,none⟩=some (.string nm)∧W.cell? ⟨b,1,none⟩=some (.int .i64 ty))∧(W.cell? ⟨b,3,none⟩=some (.int .i64 k)∧W.cell? ⟨b,4,none⟩=some (.int .i64 n))∧(W.cell? ⟨b,5,none⟩=some (.string t)∧W.cell? ⟨b,6,none⟩=some (.slice a len cap)))
   (first | assumption | exact keepS6 hS (below_drew _) | exact keepS6 hS4 ((Below.refl _ _).alloc (Nat.le_refl _) _) | exact keepS6 hS4 hb5) (first
   |(go_at_call 59;(with_reducible refine (HT.out _).mono ?_);rintro e w1 ⟨v1,rfl,ho1,hb1⟩;have hS1:=keepS6 (keepS6 hS (below_drew _)) hb1;have hs1:=isSl_own ho1;obtain ⟨a1,m1,c1,rfl,_⟩:=isSl_own ho1;have hB1:=(hB0.drew).trans (hb1.mono (hB0.drew).size))
   |(go_at_call 91;(with_reducible refine (HY.out _).mono ?_);rintro e w2 ⟨v2,rfl,ho2,hb2⟩;have hS2:=keepS6 hS1 hb2;have hs2:=isSl_own ho2;obtain ⟨a2,m2,c2,rfl,_⟩:=isSl_own ho2;have hB2:=hB1.trans (hb2.mono hB1.size);have hs1:=isSl_below hs1 hb2)
   |(go_at_call 91;(with_reducible refine (HQ.out _).mono ?_);rintro e w3 ⟨v3,rfl,ho3,hb3⟩;have hS3:=keepS6 hS2 hb3;have hs3:=isSl_own ho3;obtain ⟨a3,m3,c3,rfl,_⟩:=isSl_own ho3;have hB3:=hB2.trans (hb3.mono hB2.size);have hs1:=isSl_below hs1 hb3;have hs2:=isSl_below hs2 hb3)
   |(go_at_call 51;(with_reducible refine (HV.out _ hB3).mono ?_);rintro e w4 ⟨v4,rfl,ho4,hb4⟩;have hS4:=keepS6 hS3 hb4;have hs4:=isSl_own ho4;obtain ⟨a4,m4,c4,rfl,_⟩:=isSl_own ho4;have hB4:=hB3.trans (hb4.mono hB3.size);have hs1:=isSl_below hs1 hb4;have hs2:=isSl_below hs2 hb4;have hs3:=isSl_below hs3 hb4)
   |(go_at_call 58;(with_reducible refine (bytes_four _ _ _ _ _ _ _ _ _ hs1 hs2 hs3 hs4 HLL.out).mono ?_);rintro e w5 ⟨v5,rfl,ho5,hb5⟩))
  go_wp2
  go_ret
  exact got_under hB4 ⟨_,rfl,ho5,hb5⟩
set_option maxHeartbeats 4000000 in
theorem slot_enter (args:Array Value) (w:World):(callFunc 61 args).run Tryz.prog w=.ok (.enter 61 args) w:=enters_of Tryz.func61 (by kernel_rfl) rfl args w
theorem by_enter (args:Array Value) (w:World):(callFunc 91 args).run Tryz.prog w=.ok (.enter 91 args) w:=enters_of Tryz.func91 (by kernel_rfl) rfl args w
theorem slots_any (a:Option Addr) (cap:Nat) (l:List SlotM) (w:World) (hr:SlotRow w a cap l) (hsm:l.length≤40) (hn:∀ s∈l,s.nm.size≤1000) :
  Calls Tryz.prog 60 #[.slice a l.length cap,.func (.func 61) #[] #[]] w (Got w (Rg.nuB l.length++l.flatMap Rg.slotB)):=
 putLSlot_any a cap l Rg.slotB 61 w hr (by omega) (by have:=Rg.flat_len l Rg.slotB 23000 (fun s hs=>by have:=Rg.slotB_len s;have:=hn s hs;omega);omega) slot_enter (fun i y W X hy _ hX=>putSlot_any y W X hX (hn y (List.mem_of_getElem? hy)))
theorem ints_any (a:Option Addr) (cap:Nat) (l:List Int) (w:World) (hr:Row w .i64 a l.length cap l) (hI:∀ x∈l,I64 x) (hsm:l.length≤1000) :
  Calls Tryz.prog 92 #[.slice a l.length cap,.func (.func 91) #[] #[]] w (Got w (Rg.nuB l.length++l.flatMap Rg.byB)):=
 putLI_any a cap l Rg.byB 91 w ⟨hr,hI⟩ hsm (by have:=Rg.flat_len l Rg.byB 1 (fun x _=>Rg.spn_len x 255 1);omega) by_enter (fun i y W _ _=>by_any y W)
theorem step_box {w:World} {c0 c1 c2 c3 c4 c5 c6 c7 c8 c9:Value} {t:TypeId} : ∀ W,Below (w.alloc (.cells #[c0,c1,c2,c3,c4,c5,c6,c7,c8,c9] t)).heap.size (w.alloc (.cells #[c0,c1,c2,c3,c4,c5,c6,c7,c8,c9] t)) W →
  (W.cell? ⟨w.heap.size,0,none⟩=some c0∧W.cell? ⟨w.heap.size,1,none⟩=some c1)∧(W.cell? ⟨w.heap.size,2,none⟩=some c2∧W.cell? ⟨w.heap.size,3,none⟩=some c3∧W.cell? ⟨w.heap.size,4,none⟩=some c4∧W.cell? ⟨w.heap.size,5,none⟩=some c5∧W.cell? ⟨w.heap.size,6,none⟩=some c6∧W.cell? ⟨w.heap.size,7,none⟩=some c7∧W.cell? ⟨w.heap.size,8,none⟩=some c8∧W.cell? ⟨w.heap.size,9,none⟩=some c9):=fun W hb=>
 ⟨⟨cell_below hb (by simp),cell_below hb (by simp)⟩,cell_below hb (by simp),cell_below hb (by simp),cell_below hb (by simp),cell_below hb (by simp),cell_below hb (by simp),cell_below hb (by simp),cell_below hb (by simp),cell_below hb (by simp)⟩
set_option maxHeartbeats 4000000 in
theorem putStep1_any (s:StepM) (w:World) (x:Value) (hs:IsStep w s x) (hn:s.sl.nm.size≤1000) (ho:s.od.length≤1000) (hk:s.kd=1):Calls Tryz.prog 63 #[x] w (Got w (Rg.byB s.kd++Rg.slotB s.sl)):=by
 have hsl0:=hs
 obtain ⟨k,n,t,a,len,cap,oa,oc,rfl,hI1,hI2,hI3,hnm,hd,hrow,hod⟩:=isStep_form hs
 have hB0:=(Below.refl _ w).alloc (Nat.le_refl _) (.cells #[.int .i64 s.kd,.int .i64 s.col,.string s.sl.nm,.int .i64 s.sl.ty,.bool s.sl.rq,.int .i64 k,.int .i64 n,.string t,.slice a len cap,.slice oa s.od.length oc] 60)
 have hK:=fun W=>by_any s.kd W
 have hC:=fun W=>by_any s.col W
 have HP:=Lib.hid (fun W (hb:Below w.heap.size w W)=>putSlot_any s.sl W _ (isSlot_below hb (step_slot hsl0)) hn)
 have HT:=Lib.hid (fun W=>txt_any s.sl.nm W (by omega))
 have HY:=Lib.hid (fun W=>by_any s.sl.ty W)
 have HO:=Lib.hid (fun W (hb:Below w.heap.size w W)=>ints_any oa oc s.od W (row_below hrow hb rfl) hod ho)
 have hl1:=Rg.spn_len s.kd 255 1
 have hl2:=Rg.spn_len s.col 255 1
 have hl3:=Rg.spn_len s.sl.ty 255 1
 have hl4:=Rg.slotB_len s.sl
 have hl5:=Rg.txtB_len s.sl.nm
 have hl6:(Rg.nuB s.od.length++s.od.flatMap Rg.byB).length≤2000:=by
  have h1:=Rg.spn_len (s.od.length:Int) 2147483647 4
  have h2:=Rg.flat_len s.od Rg.byB 1 (fun x _=>Rg.spn_len x 255 1)
  rw [List.length_append];unfold Rg.nuB;omega
 have hlk:(Rg.byB s.kd).length≤1:=hl1
 have hlc:(Rg.byB s.col).length≤1:=hl2
 have hly:(Rg.byB s.sl.ty).length≤1:=hl3
 generalize Rg.byB s.kd=LK at *
 generalize Rg.byB s.col=LC at *
 generalize Rg.byB s.sl.ty=LY at *
 generalize Rg.slotB s.sl=LS at *
 generalize Rg.txtB s.sl.nm=LT at *
 generalize (Rg.nuB s.od.length++s.od.flatMap Rg.byB)=LO at *
 have HL:=Lib.hid (And.intro hlk (And.intro hlc (And.intro hly (And.intro hl4 (And.intro hl5 (And.intro hl6 hn))))))
 have HK:=Lib.hid hK;have HC:=Lib.hid hC
 obtain ⟨V,hV⟩:∃ V,w.alloc (.cells #[.int .i64 s.kd,.int .i64 s.col,.string s.sl.nm,.int .i64 s.sl.ty,.bool s.sl.rq,.int .i64 k,.int .i64 n,.string t,.slice a len cap,.slice oa s.od.length oc] 60)=V:=⟨_,rfl⟩
 have hbx:=step_box (w:=w) (c0:=.int .i64 s.kd) (c1:=.int .i64 s.col) (c2:=.string s.sl.nm) (c3:=.int .i64 s.sl.ty) (c4:=.bool s.sl.rq) (c5:=.int .i64 k) (c6:=.int .i64 n) (c7:=.string t) (c8:=.slice a len cap) (c9:=.slice oa s.od.length oc) (t:=60)
 rw [hV] at hbx hB0
 obtain ⟨hS,_⟩:=hbx _ (Below.refl _ _)
 have HBX:=Lib.hid hbx
 clear hK hC hl1 hl2 hl3 hl4 hl5 hl6 hlk hlc hly hs hsl0 hd hrow hod hI1 hI2 hI3 hbx hn ho
 obtain ⟨kd,col,⟨nm,ty,rq,df⟩,od⟩:=s
 simp only at *
 subst hk
 go_enter Tryz.func63,Tryz.ntmps63
 go_wp2
 try rw [hV]
 obtain ⟨b,hb⟩:∃ b,w.heap.size=b:=⟨_,rfl⟩
 rw [hb] at hS HBX ⊢
 clear hV
 go_region_held3 (fun W=>W.cell? ⟨b,0,none⟩=some (.int .i64 1)∧W.cell? ⟨b,1,none⟩=some (.int .i64 col))
  (first | assumption | exact keepS2 hS (below_drew _) | exact keepS2 (by assumption) hb1) (first
  |(go_at_call 91;(with_reducible refine (HK.out _).mono ?_);rintro e w1 ⟨v1,rfl,ho1,hb1⟩;have hS1:=keepS2 (keepS2 hS (below_drew _)) hb1;have hs1:=isSl_own ho1;obtain ⟨a1,m1,c1,rfl,_⟩:=isSl_own ho1;have hB1:=(hB0.drew).trans (hb1.mono (hB0.drew).size);have hV1:=(below_drew V).trans (hb1.mono (below_drew V).size))
  |(go_at_call 91;(with_reducible refine (HC.out _).mono ?_);rintro e w2 ⟨v2,rfl,ho2,hb2⟩;have hS2:=keepS2 hS1 hb2;have hs2:=isSl_own ho2;obtain ⟨a2,m2,c2,rfl,_⟩:=isSl_own ho2;have hB2:=hB1.trans (hb2.mono hB1.size);have hs1:=isSl_below hs1 hb2;have hV2:=hV1.trans (hb2.mono hV1.size);obtain ⟨_,q2,q3,q4,q5,q6,q7,q8,q9⟩:=HBX.out _ hV2))
 obtain ⟨q0,q1⟩:=hS2
 go_wp2_with (first
  |(go_at_call 61;(with_reducible refine (HP.out _ hB2).mono ?_);rintro e w3 ⟨v3,rfl,ho3,hb3⟩;have hs3:=isSl_own ho3;obtain ⟨a3,m3,c3,rfl,_⟩:=isSl_own ho3;have hB3:=hB2.trans (hb3.mono hB2.size);have hs1:=isSl_below hs1 hb3;have hs2:=isSl_below hs2 hb3;have hV3:=hV2.trans (hb3.mono hV2.size);obtain ⟨⟨p0,p1⟩,p2,p3,p4,p5,p6,p7,p8,p9⟩:=HBX.out _ hV3)
  |(go_at_call 58;(with_reducible refine (all_two _ _ _ _ _ hs1 hs3 (by have:=HL.out;omega)).mono ?_);rintro e w5 ⟨v5,rfl,ho5,hb5⟩))
 go_ret
 exact got_under hB3 ⟨_,rfl,ho5,hb5⟩
set_option maxHeartbeats 4000000 in
theorem putStep3_any (s:StepM) (w:World) (x:Value) (hs:IsStep w s x) (hn:s.sl.nm.size≤1000) (ho:s.od.length≤1000) (hk:s.kd=3):Calls Tryz.prog 63 #[x] w (Got w (Rg.byB s.kd++(Rg.byB s.col++Rg.txtB s.sl.nm))):=by
 have hsl0:=hs
 obtain ⟨k,n,t,a,len,cap,oa,oc,rfl,hI1,hI2,hI3,hnm,hd,hrow,hod⟩:=isStep_form hs
 have hB0:=(Below.refl _ w).alloc (Nat.le_refl _) (.cells #[.int .i64 s.kd,.int .i64 s.col,.string s.sl.nm,.int .i64 s.sl.ty,.bool s.sl.rq,.int .i64 k,.int .i64 n,.string t,.slice a len cap,.slice oa s.od.length oc] 60)
 have hK:=fun W=>by_any s.kd W
 have hC:=fun W=>by_any s.col W
 have HP:=Lib.hid (fun W (hb:Below w.heap.size w W)=>putSlot_any s.sl W _ (isSlot_below hb (step_slot hsl0)) hn)
 have HT:=Lib.hid (fun W=>txt_any s.sl.nm W (by omega))
 have HY:=Lib.hid (fun W=>by_any s.sl.ty W)
 have HO:=Lib.hid (fun W (hb:Below w.heap.size w W)=>ints_any oa oc s.od W (row_below hrow hb rfl) hod ho)
 have hl1:=Rg.spn_len s.kd 255 1
 have hl2:=Rg.spn_len s.col 255 1
 have hl3:=Rg.spn_len s.sl.ty 255 1
 have hl4:=Rg.slotB_len s.sl
 have hl5:=Rg.txtB_len s.sl.nm
 have hl6:(Rg.nuB s.od.length++s.od.flatMap Rg.byB).length≤2000:=by
  have h1:=Rg.spn_len (s.od.length:Int) 2147483647 4
  have h2:=Rg.flat_len s.od Rg.byB 1 (fun x _=>Rg.spn_len x 255 1)
  rw [List.length_append];unfold Rg.nuB;omega
 have hlk:(Rg.byB s.kd).length≤1:=hl1
 have hlc:(Rg.byB s.col).length≤1:=hl2
 have hly:(Rg.byB s.sl.ty).length≤1:=hl3
 generalize Rg.byB s.kd=LK at *
 generalize Rg.byB s.col=LC at *
 generalize Rg.byB s.sl.ty=LY at *
 generalize Rg.slotB s.sl=LS at *
 generalize Rg.txtB s.sl.nm=LT at *
 generalize (Rg.nuB s.od.length++s.od.flatMap Rg.byB)=LO at *
 have HL:=Lib.hid (And.intro hlk (And.intro hlc (And.intro hly (And.intro hl4 (And.intro hl5 (And.intro hl6 hn))))))
 have HK:=Lib.hid hK;have HC:=Lib.hid hC
 obtain ⟨V,hV⟩:∃ V,w.alloc (.cells #[.int .i64 s.kd,.int .i64 s.col,.string s.sl.nm,.int .i64 s.sl.ty,.bool s.sl.rq,.int .i64 k,.int .i64 n,.string t,.slice a len cap,.slice oa s.od.length oc] 60)=V:=⟨_,rfl⟩
 have hbx:=step_box (w:=w) (c0:=.int .i64 s.kd) (c1:=.int .i64 s.col) (c2:=.string s.sl.nm) (c3:=.int .i64 s.sl.ty) (c4:=.bool s.sl.rq) (c5:=.int .i64 k) (c6:=.int .i64 n) (c7:=.string t) (c8:=.slice a len cap) (c9:=.slice oa s.od.length oc) (t:=60)
 rw [hV] at hbx hB0
 obtain ⟨hS,_⟩:=hbx _ (Below.refl _ _)
 have HBX:=Lib.hid hbx
 clear hK hC hl1 hl2 hl3 hl4 hl5 hl6 hlk hlc hly hs hsl0 hd hrow hod hI1 hI2 hI3 hbx hn ho
 obtain ⟨kd,col,⟨nm,ty,rq,df⟩,od⟩:=s
 simp only at *
 subst hk
 go_enter Tryz.func63,Tryz.ntmps63
 go_wp2
 try rw [hV]
 obtain ⟨b,hb⟩:∃ b,w.heap.size=b:=⟨_,rfl⟩
 rw [hb] at hS HBX ⊢
 clear hV
 go_region_held3 (fun W=>W.cell? ⟨b,0,none⟩=some (.int .i64 3)∧W.cell? ⟨b,1,none⟩=some (.int .i64 col))
  (first | assumption | exact keepS2 hS (below_drew _) | exact keepS2 (by assumption) hb1) (first
  |(go_at_call 91;(with_reducible refine (HK.out _).mono ?_);rintro e w1 ⟨v1,rfl,ho1,hb1⟩;have hS1:=keepS2 (keepS2 hS (below_drew _)) hb1;have hs1:=isSl_own ho1;obtain ⟨a1,m1,c1,rfl,_⟩:=isSl_own ho1;have hB1:=(hB0.drew).trans (hb1.mono (hB0.drew).size);have hV1:=(below_drew V).trans (hb1.mono (below_drew V).size))
  |(go_at_call 91;(with_reducible refine (HC.out _).mono ?_);rintro e w2 ⟨v2,rfl,ho2,hb2⟩;have hS2:=keepS2 hS1 hb2;have hs2:=isSl_own ho2;obtain ⟨a2,m2,c2,rfl,_⟩:=isSl_own ho2;have hB2:=hB1.trans (hb2.mono hB1.size);have hs1:=isSl_below hs1 hb2;have hV2:=hV1.trans (hb2.mono hV1.size);obtain ⟨_,q2,q3,q4,q5,q6,q7,q8,q9⟩:=HBX.out _ hV2))
 obtain ⟨q0,q1⟩:=hS2
 go_wp2_with (first
  |(go_at_call 59;(with_reducible refine (HT.out _).mono ?_);rintro e w3 ⟨v3,rfl,ho3,hb3⟩;have hs3:=isSl_own ho3;obtain ⟨a3,m3,c3,rfl,_⟩:=isSl_own ho3;have hB3:=hB2.trans (hb3.mono hB2.size);have hs1:=isSl_below hs1 hb3;have hs2:=isSl_below hs2 hb3;have hV3:=hV2.trans (hb3.mono hV2.size);obtain ⟨⟨p0,p1⟩,p2,p3,p4,p5,p6,p7,p8,p9⟩:=HBX.out _ hV3)
  |(go_at_call 58;(with_reducible refine (bytes_three _ _ _ _ _ _ _ hs1 hs2 hs3 (by have:=HL.out;first | omega | (simp only [List.length_nil];omega))).mono ?_);rintro e w5 ⟨v5,rfl,ho5,hb5⟩))
 go_ret
 exact got_under hB3 ⟨_,rfl,ho5,hb5⟩
set_option maxHeartbeats 4000000 in
theorem putStep2_any (s:StepM) (w:World) (x:Value) (hs:IsStep w s x) (hn:s.sl.nm.size≤1000) (ho:s.od.length≤1000) (hk:s.kd=2):Calls Tryz.prog 63 #[x] w (Got w (Rg.byB s.kd++(Rg.byB s.col ++ []))):=by
 have hsl0:=hs
 obtain ⟨k,n,t,a,len,cap,oa,oc,rfl,hI1,hI2,hI3,hnm,hd,hrow,hod⟩:=isStep_form hs
 have hB0:=(Below.refl _ w).alloc (Nat.le_refl _) (.cells #[.int .i64 s.kd,.int .i64 s.col,.string s.sl.nm,.int .i64 s.sl.ty,.bool s.sl.rq,.int .i64 k,.int .i64 n,.string t,.slice a len cap,.slice oa s.od.length oc] 60)
 have hK:=fun W=>by_any s.kd W
 have hC:=fun W=>by_any s.col W
 have HP:=Lib.hid (fun W (hb:Below w.heap.size w W)=>putSlot_any s.sl W _ (isSlot_below hb (step_slot hsl0)) hn)
 have HT:=Lib.hid (fun W=>txt_any s.sl.nm W (by omega))
 have HY:=Lib.hid (fun W=>by_any s.sl.ty W)
 have HO:=Lib.hid (fun W (hb:Below w.heap.size w W)=>ints_any oa oc s.od W (row_below hrow hb rfl) hod ho)
 have hl1:=Rg.spn_len s.kd 255 1
 have hl2:=Rg.spn_len s.col 255 1
 have hl3:=Rg.spn_len s.sl.ty 255 1
 have hl4:=Rg.slotB_len s.sl
 have hl5:=Rg.txtB_len s.sl.nm
 have hl6:(Rg.nuB s.od.length++s.od.flatMap Rg.byB).length≤2000:=by
  have h1:=Rg.spn_len (s.od.length:Int) 2147483647 4
  have h2:=Rg.flat_len s.od Rg.byB 1 (fun x _=>Rg.spn_len x 255 1)
  rw [List.length_append];unfold Rg.nuB;omega
 have hlk:(Rg.byB s.kd).length≤1:=hl1
 have hlc:(Rg.byB s.col).length≤1:=hl2
 have hly:(Rg.byB s.sl.ty).length≤1:=hl3
 generalize Rg.byB s.kd=LK at *
 generalize Rg.byB s.col=LC at *
 generalize Rg.byB s.sl.ty=LY at *
 generalize Rg.slotB s.sl=LS at *
 generalize Rg.txtB s.sl.nm=LT at *
 generalize (Rg.nuB s.od.length++s.od.flatMap Rg.byB)=LO at *
 have HL:=Lib.hid (And.intro hlk (And.intro hlc (And.intro hly (And.intro hl4 (And.intro hl5 (And.intro hl6 hn))))))
 have HK:=Lib.hid hK;have HC:=Lib.hid hC
 obtain ⟨V,hV⟩:∃ V,w.alloc (.cells #[.int .i64 s.kd,.int .i64 s.col,.string s.sl.nm,.int .i64 s.sl.ty,.bool s.sl.rq,.int .i64 k,.int .i64 n,.string t,.slice a len cap,.slice oa s.od.length oc] 60)=V:=⟨_,rfl⟩
 have hbx:=step_box (w:=w) (c0:=.int .i64 s.kd) (c1:=.int .i64 s.col) (c2:=.string s.sl.nm) (c3:=.int .i64 s.sl.ty) (c4:=.bool s.sl.rq) (c5:=.int .i64 k) (c6:=.int .i64 n) (c7:=.string t) (c8:=.slice a len cap) (c9:=.slice oa s.od.length oc) (t:=60)
 rw [hV] at hbx hB0
 obtain ⟨hS,_⟩:=hbx _ (Below.refl _ _)
 have HBX:=Lib.hid hbx
 clear hK hC hl1 hl2 hl3 hl4 hl5 hl6 hlk hlc hly hs hsl0 hd hrow hod hI1 hI2 hI3 hbx hn ho
 obtain ⟨kd,col,⟨nm,ty,rq,df⟩,od⟩:=s
 simp only at *
 subst hk
 have hs3n:∀ W,IsSl W (.slice none 0 0) []:=fun W=>⟨none,0,0,rfl,rfl,Nat.le_refl _,by unfold maxLen;omega,.inl rfl⟩
 go_enter Tryz.func63,Tryz.ntmps63
 go_wp2
 try rw [hV]
 obtain ⟨b,hb⟩:∃ b,w.heap.size=b:=⟨_,rfl⟩
 rw [hb] at hS HBX ⊢
 clear hV
 go_region_held3 (fun W=>W.cell? ⟨b,0,none⟩=some (.int .i64 2)∧W.cell? ⟨b,1,none⟩=some (.int .i64 col))
  (first | assumption | exact keepS2 hS (below_drew _) | exact keepS2 (by assumption) hb1) (first
  |(go_at_call 91;(with_reducible refine (HK.out _).mono ?_);rintro e w1 ⟨v1,rfl,ho1,hb1⟩;have hS1:=keepS2 (keepS2 hS (below_drew _)) hb1;have hs1:=isSl_own ho1;obtain ⟨a1,m1,c1,rfl,_⟩:=isSl_own ho1;have hB1:=(hB0.drew).trans (hb1.mono (hB0.drew).size);have hV1:=(below_drew V).trans (hb1.mono (below_drew V).size))
  |(go_at_call 91;(with_reducible refine (HC.out _).mono ?_);rintro e w2 ⟨v2,rfl,ho2,hb2⟩;have hS2:=keepS2 hS1 hb2;have hs2:=isSl_own ho2;obtain ⟨a2,m2,c2,rfl,_⟩:=isSl_own ho2;have hB2:=hB1.trans (hb2.mono hB1.size);have hs1:=isSl_below hs1 hb2;have hV2:=hV1.trans (hb2.mono hV1.size);obtain ⟨_,q2,q3,q4,q5,q6,q7,q8,q9⟩:=HBX.out _ hV2))
 obtain ⟨q0,q1⟩:=hS2
 go_wp2_with (first
  |(go_at_call 58;(with_reducible refine (bytes_three _ _ _ _ _ _ _ hs1 hs2 (hs3n _) (by have:=HL.out;first | omega | (simp only [List.length_nil];omega))).mono ?_);rintro e w5 ⟨v5,rfl,ho5,hb5⟩))
 go_ret
 exact got_under hB2 ⟨_,rfl,ho5,hb5⟩
set_option maxHeartbeats 4000000 in
theorem putStep4_any (s:StepM) (w:World) (x:Value) (hs:IsStep w s x) (hn:s.sl.nm.size≤1000) (ho:s.od.length≤1000) (hk:s.kd=4):Calls Tryz.prog 63 #[x] w (Got w (Rg.byB s.kd++(Rg.byB s.col++Rg.byB s.sl.ty))):=by
 have hsl0:=hs
 obtain ⟨k,n,t,a,len,cap,oa,oc,rfl,hI1,hI2,hI3,hnm,hd,hrow,hod⟩:=isStep_form hs
 have hB0:=(Below.refl _ w).alloc (Nat.le_refl _) (.cells #[.int .i64 s.kd,.int .i64 s.col,.string s.sl.nm,.int .i64 s.sl.ty,.bool s.sl.rq,.int .i64 k,.int .i64 n,.string t,.slice a len cap,.slice oa s.od.length oc] 60)
 have hK:=fun W=>by_any s.kd W
 have hC:=fun W=>by_any s.col W
 have HP:=Lib.hid (fun W (hb:Below w.heap.size w W)=>putSlot_any s.sl W _ (isSlot_below hb (step_slot hsl0)) hn)
 have HT:=Lib.hid (fun W=>txt_any s.sl.nm W (by omega))
 have HY:=Lib.hid (fun W=>by_any s.sl.ty W)
 have HO:=Lib.hid (fun W (hb:Below w.heap.size w W)=>ints_any oa oc s.od W (row_below hrow hb rfl) hod ho)
 have hl1:=Rg.spn_len s.kd 255 1
 have hl2:=Rg.spn_len s.col 255 1
 have hl3:=Rg.spn_len s.sl.ty 255 1
 have hl4:=Rg.slotB_len s.sl
 have hl5:=Rg.txtB_len s.sl.nm
 have hl6:(Rg.nuB s.od.length++s.od.flatMap Rg.byB).length≤2000:=by
  have h1:=Rg.spn_len (s.od.length:Int) 2147483647 4
  have h2:=Rg.flat_len s.od Rg.byB 1 (fun x _=>Rg.spn_len x 255 1)
  rw [List.length_append];unfold Rg.nuB;omega
 have hlk:(Rg.byB s.kd).length≤1:=hl1
 have hlc:(Rg.byB s.col).length≤1:=hl2
 have hly:(Rg.byB s.sl.ty).length≤1:=hl3
 generalize Rg.byB s.kd=LK at *
 generalize Rg.byB s.col=LC at *
 generalize Rg.byB s.sl.ty=LY at *
 generalize Rg.slotB s.sl=LS at *
 generalize Rg.txtB s.sl.nm=LT at *
 generalize (Rg.nuB s.od.length++s.od.flatMap Rg.byB)=LO at *
 have HL:=Lib.hid (And.intro hlk (And.intro hlc (And.intro hly (And.intro hl4 (And.intro hl5 (And.intro hl6 hn))))))
 have HK:=Lib.hid hK;have HC:=Lib.hid hC
 obtain ⟨V,hV⟩:∃ V,w.alloc (.cells #[.int .i64 s.kd,.int .i64 s.col,.string s.sl.nm,.int .i64 s.sl.ty,.bool s.sl.rq,.int .i64 k,.int .i64 n,.string t,.slice a len cap,.slice oa s.od.length oc] 60)=V:=⟨_,rfl⟩
 have hbx:=step_box (w:=w) (c0:=.int .i64 s.kd) (c1:=.int .i64 s.col) (c2:=.string s.sl.nm) (c3:=.int .i64 s.sl.ty) (c4:=.bool s.sl.rq) (c5:=.int .i64 k) (c6:=.int .i64 n) (c7:=.string t) (c8:=.slice a len cap) (c9:=.slice oa s.od.length oc) (t:=60)
 rw [hV] at hbx hB0
 obtain ⟨hS,_⟩:=hbx _ (Below.refl _ _)
 have HBX:=Lib.hid hbx
 clear hK hC hl1 hl2 hl3 hl4 hl5 hl6 hlk hlc hly hs hsl0 hd hrow hod hI1 hI2 hI3 hbx hn ho
 obtain ⟨kd,col,⟨nm,ty,rq,df⟩,od⟩:=s
 simp only at *
 subst hk
 go_enter Tryz.func63,Tryz.ntmps63
 go_wp2
 try rw [hV]
 obtain ⟨b,hb⟩:∃ b,w.heap.size=b:=⟨_,rfl⟩
 rw [hb] at hS HBX ⊢
 clear hV
 go_region_held3 (fun W=>W.cell? ⟨b,0,none⟩=some (.int .i64 4)∧W.cell? ⟨b,1,none⟩=some (.int .i64 col))
  (first | assumption | exact keepS2 hS (below_drew _) | exact keepS2 (by assumption) hb1) (first
  |(go_at_call 91;(with_reducible refine (HK.out _).mono ?_);rintro e w1 ⟨v1,rfl,ho1,hb1⟩;have hS1:=keepS2 (keepS2 hS (below_drew _)) hb1;have hs1:=isSl_own ho1;obtain ⟨a1,m1,c1,rfl,_⟩:=isSl_own ho1;have hB1:=(hB0.drew).trans (hb1.mono (hB0.drew).size);have hV1:=(below_drew V).trans (hb1.mono (below_drew V).size))
  |(go_at_call 91;(with_reducible refine (HC.out _).mono ?_);rintro e w2 ⟨v2,rfl,ho2,hb2⟩;have hS2:=keepS2 hS1 hb2;have hs2:=isSl_own ho2;obtain ⟨a2,m2,c2,rfl,_⟩:=isSl_own ho2;have hB2:=hB1.trans (hb2.mono hB1.size);have hs1:=isSl_below hs1 hb2;have hV2:=hV1.trans (hb2.mono hV1.size);obtain ⟨_,q2,q3,q4,q5,q6,q7,q8,q9⟩:=HBX.out _ hV2))
 obtain ⟨q0,q1⟩:=hS2
 go_wp2_with (first
  |(go_at_call 91;(with_reducible refine (HY.out _).mono ?_);rintro e w3 ⟨v3,rfl,ho3,hb3⟩;have hs3:=isSl_own ho3;obtain ⟨a3,m3,c3,rfl,_⟩:=isSl_own ho3;have hB3:=hB2.trans (hb3.mono hB2.size);have hs1:=isSl_below hs1 hb3;have hs2:=isSl_below hs2 hb3;have hV3:=hV2.trans (hb3.mono hV2.size);obtain ⟨⟨p0,p1⟩,p2,p3,p4,p5,p6,p7,p8,p9⟩:=HBX.out _ hV3)
  |(go_at_call 58;(with_reducible refine (bytes_three _ _ _ _ _ _ _ hs1 hs2 hs3 (by have:=HL.out;first | omega | (simp only [List.length_nil];omega))).mono ?_);rintro e w5 ⟨v5,rfl,ho5,hb5⟩))
 go_ret
 exact got_under hB3 ⟨_,rfl,ho5,hb5⟩
set_option maxHeartbeats 4000000 in
theorem putStep5_any (s:StepM) (w:World) (x:Value) (hs:IsStep w s x) (hn:s.sl.nm.size≤1000) (ho:s.od.length≤1000) (hk1:s.kd≠1) (hk2:s.kd≠2) (hk3:s.kd≠3) (hk4:s.kd≠4):Calls Tryz.prog 63 #[x] w (Got w (Rg.byB s.kd++(Rg.nuB s.od.length++s.od.flatMap Rg.byB))):=by
 have hsl0:=hs
 obtain ⟨k,n,t,a,len,cap,oa,oc,rfl,hI1,hI2,hI3,hnm,hd,hrow,hod⟩:=isStep_form hs
 have hB0:=(Below.refl _ w).alloc (Nat.le_refl _) (.cells #[.int .i64 s.kd,.int .i64 s.col,.string s.sl.nm,.int .i64 s.sl.ty,.bool s.sl.rq,.int .i64 k,.int .i64 n,.string t,.slice a len cap,.slice oa s.od.length oc] 60)
 have hK:=fun W=>by_any s.kd W
 have hC:=fun W=>by_any s.col W
 have HP:=Lib.hid (fun W (hb:Below w.heap.size w W)=>putSlot_any s.sl W _ (isSlot_below hb (step_slot hsl0)) hn)
 have HT:=Lib.hid (fun W=>txt_any s.sl.nm W (by omega))
 have HY:=Lib.hid (fun W=>by_any s.sl.ty W)
 have HO:=Lib.hid (fun W (hb:Below w.heap.size w W)=>ints_any oa oc s.od W (row_below hrow hb rfl) hod ho)
 have hl1:=Rg.spn_len s.kd 255 1
 have hl2:=Rg.spn_len s.col 255 1
 have hl3:=Rg.spn_len s.sl.ty 255 1
 have hl4:=Rg.slotB_len s.sl
 have hl5:=Rg.txtB_len s.sl.nm
 have hl6:(Rg.nuB s.od.length++s.od.flatMap Rg.byB).length≤2000:=by
  have h1:=Rg.spn_len (s.od.length:Int) 2147483647 4
  have h2:=Rg.flat_len s.od Rg.byB 1 (fun x _=>Rg.spn_len x 255 1)
  rw [List.length_append];unfold Rg.nuB;omega
 have hlk:(Rg.byB s.kd).length≤1:=hl1
 have hlc:(Rg.byB s.col).length≤1:=hl2
 have hly:(Rg.byB s.sl.ty).length≤1:=hl3
 generalize Rg.byB s.kd=LK at *
 generalize Rg.byB s.col=LC at *
 generalize Rg.byB s.sl.ty=LY at *
 generalize Rg.slotB s.sl=LS at *
 generalize Rg.txtB s.sl.nm=LT at *
 generalize (Rg.nuB s.od.length++s.od.flatMap Rg.byB)=LO at *
 have HL:=Lib.hid (And.intro hlk (And.intro hlc (And.intro hly (And.intro hl4 (And.intro hl5 (And.intro hl6 hn))))))
 have HK:=Lib.hid hK;have HC:=Lib.hid hC
 obtain ⟨V,hV⟩:∃ V,w.alloc (.cells #[.int .i64 s.kd,.int .i64 s.col,.string s.sl.nm,.int .i64 s.sl.ty,.bool s.sl.rq,.int .i64 k,.int .i64 n,.string t,.slice a len cap,.slice oa s.od.length oc] 60)=V:=⟨_,rfl⟩
 have hbx:=step_box (w:=w) (c0:=.int .i64 s.kd) (c1:=.int .i64 s.col) (c2:=.string s.sl.nm) (c3:=.int .i64 s.sl.ty) (c4:=.bool s.sl.rq) (c5:=.int .i64 k) (c6:=.int .i64 n) (c7:=.string t) (c8:=.slice a len cap) (c9:=.slice oa s.od.length oc) (t:=60)
 rw [hV] at hbx hB0
 obtain ⟨hS,_⟩:=hbx _ (Below.refl _ _)
 have HBX:=Lib.hid hbx
 clear hK hC hl1 hl2 hl3 hl4 hl5 hl6 hlk hlc hly hs hsl0 hd hrow hod hI1 hI2 hI3 hbx hn ho
 obtain ⟨kd,col,⟨nm,ty,rq,df⟩,od⟩:=s
 simp only at *
 have d1:(kd == 1)=false:=by simp;exact hk1
 have d2:(kd == 2)=false:=by simp;exact hk2
 have d3:(kd == 3)=false:=by simp;exact hk3
 have d4:(kd == 4)=false:=by simp;exact hk4
 clear hk1 hk2 hk3 hk4
 go_enter Tryz.func63,Tryz.ntmps63
 go_wp2
 try rw [hV]
 obtain ⟨b,hb⟩:∃ b,w.heap.size=b:=⟨_,rfl⟩
 rw [hb] at hS HBX ⊢
 clear hV
 go_region_held3 (fun W=>W.cell? ⟨b,0,none⟩=some (.int .i64 kd)∧W.cell? ⟨b,1,none⟩=some (.int .i64 col))
  (first | assumption | exact keepS2 hS (below_drew _) | exact keepS2 (by assumption) hb1) (first
  |(go_at_call 91;(with_reducible refine (HK.out _).mono ?_);rintro e w1 ⟨v1,rfl,ho1,hb1⟩;have hS1:=keepS2 (keepS2 hS (below_drew _)) hb1;have hs1:=isSl_own ho1;obtain ⟨a1,m1,c1,rfl,_⟩:=isSl_own ho1;have hB1:=(hB0.drew).trans (hb1.mono (hB0.drew).size);have hV1:=(below_drew V).trans (hb1.mono (below_drew V).size))
  |(go_at_call 91;(with_reducible refine (HC.out _).mono ?_);rintro e w2 ⟨v2,rfl,ho2,hb2⟩;have hS2:=keepS2 hS1 hb2;have hs2:=isSl_own ho2;obtain ⟨a2,m2,c2,rfl,_⟩:=isSl_own ho2;have hB2:=hB1.trans (hb2.mono hB1.size);have hs1:=isSl_below hs1 hb2;have hV2:=hV1.trans (hb2.mono hV1.size);obtain ⟨_,q2,q3,q4,q5,q6,q7,q8,q9⟩:=HBX.out _ hV2))
 obtain ⟨q0,q1⟩:=hS2
 go_wp2_with (first
  |(go_at_call 92;(with_reducible refine (HO.out _ hB2).mono ?_);rintro e w3 ⟨v3,rfl,ho3,hb3⟩;have hs3:=isSl_own ho3;obtain ⟨a3,m3,c3,rfl,_⟩:=isSl_own ho3;have hB3:=hB2.trans (hb3.mono hB2.size);have hs1:=isSl_below hs1 hb3;have hs2:=isSl_below hs2 hb3;have hV3:=hV2.trans (hb3.mono hV2.size);obtain ⟨⟨p0,p1⟩,p2,p3,p4,p5,p6,p7,p8,p9⟩:=HBX.out _ hV3)
  |(go_at_call 58;(with_reducible refine (all_two _ _ _ _ _ hs1 hs3 (by have:=HL.out;omega)).mono ?_);rintro e w5 ⟨v5,rfl,ho5,hb5⟩))
 go_ret
 exact got_under hB3 ⟨_,rfl,ho5,hb5⟩
theorem putStep_any (s:StepM) (w:World) (x:Value) (hs:IsStep w s x) (hn:s.sl.nm.size≤1000) (ho:s.od.length≤1000):Calls Tryz.prog 63 #[x] w (Got w (Rg.stepB s)):=by
 unfold Rg.stepB
 by_cases k1:s.kd=1
 ·rw [if_pos k1];exact putStep1_any s w x hs hn ho k1
 ·rw [if_neg k1]
  by_cases k3:s.kd=3
  ·rw [if_pos k3];exact putStep3_any s w x hs hn ho k3
  ·rw [if_neg k3]
   by_cases k2:s.kd=2
   ·rw [if_pos k2];exact putStep2_any s w x hs hn ho k2
   ·rw [if_neg k2]
    by_cases k4:s.kd=4
    ·rw [if_pos k4];exact putStep4_any s w x hs hn ho k4
    ·rw [if_neg k4];exact putStep5_any s w x hs hn ho k1 k2 k3 k4
theorem step_enter (args:Array Value) (w:World):(callFunc 63 args).run Tryz.prog w=.ok (.enter 63 args) w:=enters_of Tryz.func63 (by kernel_rfl) rfl args w
theorem steps_any (a:Option Addr) (cap:Nat) (l:List StepM) (w:World) (hr:StepRow w a cap l) (hsm:l.length≤40) (hn:∀ s∈l,s.sl.nm.size≤1000∧s.od.length≤1000) :
  Calls Tryz.prog 62 #[.slice a l.length cap,.func (.func 63) #[] #[]] w (Got w (Rg.nuB l.length++l.flatMap Rg.stepB)):=
 putLStep_any a cap l Rg.stepB 63 w hr (by omega) (by have:=Rg.flat_len l Rg.stepB 24000 (fun s hs=>by have:=Rg.stepB_len s;have:=hn s hs;omega);omega) step_enter (fun i y W X hy _ hX=>putStep_any y W X hX (hn y (List.mem_of_getElem? hy)).1 (hn y (List.mem_of_getElem? hy)).2)
set_option maxHeartbeats 4000000 in
theorem putTemplate_any (t:TemplM) (w:World) (x:Value) (hi:IsTempl w t x) (hsm:Rg.Small t):Calls Tryz.prog 28 #[x] w (Got w (Rg.templB t)):=by
 obtain ⟨hnm,sa,sc,ta,tc,rfl,hs,ht⟩:=hi
 have hB0:=(Below.refl _ w).alloc (Nat.le_refl _) (.cells #[.string t.nm,.slice sa t.slots.length sc,.slice ta t.steps.length tc] 45)
 have hlen:=Rg.templB_len hsm
 have hT:=fun W=>txt_any t.nm W (by have:=hsm.nm;omega)
 have hA:=fun W (hb:Below w.heap.size w W)=>slots_any sa sc t.slots W (slotRow_below hb hs) hsm.n hsm.sn
 have hC:=fun W (hb:Below w.heap.size w W)=>steps_any ta tc t.steps W (stepRow_below hb ht) hsm.m hsm.pn
 unfold Rg.templB at hlen ⊢
 generalize Rg.txtB t.nm=L1 at *
 generalize (Rg.nuB t.slots.length++t.slots.flatMap Rg.slotB)=L2 at *
 generalize (Rg.nuB t.steps.length++t.steps.flatMap Rg.stepB)=L3 at *
 simp only [List.length_append] at hlen
 have HL:=Lib.hid hlen;have HT:=Lib.hid hT;have HA:=Lib.hid hA;have HC:=Lib.hid hC
 have hS:(w.alloc (.cells #[.string t.nm,.slice sa t.slots.length sc,.slice ta t.steps.length tc] 45)).cell? ⟨w.heap.size,0,none⟩=some (.string t.nm)∧(w.alloc (.cells #[.string t.nm,.slice sa t.slots.length sc,.slice ta t.steps.length tc] 45)).cell? ⟨w.heap.size,1,none⟩=some (.slice sa t.slots.length sc)∧(w.alloc (.cells #[.string t.nm,.slice sa t.slots.length sc,.slice ta t.steps.length tc] 45)).cell? ⟨w.heap.size,2,none⟩=some (.slice ta t.steps.length tc):=by
  refine ⟨?_, ?_, ?_⟩<;>simp
 obtain ⟨V,hV⟩:∃ V,w.alloc (.cells #[.string t.nm,.slice sa t.slots.length sc,.slice ta t.steps.length tc] 45)=V:=⟨_,rfl⟩
 rw [hV] at hS hB0
 clear hsm hs ht hlen hT hA hC hnm
 go_enter Tryz.func28,Tryz.ntmps28
 go_wp2
 try rw [hV]
 obtain ⟨b,hb⟩:∃ b,w.heap.size=b:=⟨_,rfl⟩
 rw [hb] at hS ⊢
 clear hV
 go_region_held3 (fun W=>W.cell? ⟨b,0,none⟩=some (.string t.nm)∧W.cell? ⟨b,1,none⟩=some (.slice sa t.slots.length sc)∧W.cell? ⟨b,2,none⟩=some (.slice ta t.steps.length tc))
  (first | assumption | exact keepS3 hS (below_drew _) | exact keepS3 hS3 ((Below.refl _ _).alloc (Nat.le_refl _) _) | exact keepS3 hS3 hb5) (first
  |(go_at_call 59;(with_reducible refine (HT.out _).mono ?_);rintro e w1 ⟨v1,rfl,ho1,hb1⟩;have hS1:=keepS3 (keepS3 hS (below_drew _)) hb1;have hs1:=isSl_own ho1;obtain ⟨a1,m1,c1,rfl,_⟩:=isSl_own ho1;have hB1:=(hB0.drew).trans (hb1.mono (hB0.drew).size);skip)
  |(go_at_call 60;(with_reducible refine (HA.out _ hB1).mono ?_);rintro e w2 ⟨v2,rfl,ho2,hb2⟩;have hS2:=keepS3 hS1 hb2;have hs2:=isSl_own ho2;obtain ⟨a2,m2,c2,rfl,_⟩:=isSl_own ho2;have hB2:=hB1.trans (hb2.mono hB1.size);have hs1:=isSl_below hs1 hb2;skip)
  |(go_at_call 62;(with_reducible refine (HC.out _ hB2).mono ?_);rintro e w3 ⟨v3,rfl,ho3,hb3⟩;have hS3:=keepS3 hS2 hb3;have hs3:=isSl_own ho3;obtain ⟨a3,m3,c3,rfl,_⟩:=isSl_own ho3;have hB3:=hB2.trans (hb3.mono hB2.size);have hs1:=isSl_below hs1 hb3;have hs2:=isSl_below hs2 hb3;skip)
  |(go_at_call 58;(with_reducible refine (bytes_three _ _ _ _ _ _ _ hs1 hs2 hs3 (by have:=HL.out;omega)).mono ?_);rintro e w5 ⟨v5,rfl,ho5,hb5⟩))
 go_wp2
 go_ret
 exact got_under hB3 ⟨_,rfl,ho5,hb5⟩
theorem templ_enter (args:Array Value) (w:World):(callFunc 28 args).run Tryz.prog w=.ok (.enter 28 args) w:=enters_of Tryz.func28 (by kernel_rfl) rfl args w
theorem templs_any (a:Option Addr) (cap:Nat) (l:List TemplM) (w:World) (hr:TemplRow w a cap l) (hsm:l.length≤6) (hn:∀ t∈l,Rg.Small t) :
  Calls Tryz.prog 27 #[.slice a l.length cap,.func (.func 28) #[] #[]] w (Got w (Rg.putR l)):=
 putLTempl_any a cap l Rg.templB 28 w hr (by omega) (by have:=Rg.flat_len l Rg.templB 2000000 (fun t ht=>Rg.templB_len (hn t ht));omega) templ_enter (fun i y W X hy _ hX=>putTemplate_any y W X hX (hn y (List.mem_of_getElem? hy)))
theorem rgRight_small {l:List TemplM} (h:Rg.right l=true):l.length≤6∧∀ t∈l,Rg.Small t:=by
 have h1:=(Rg.right_iff l).1 h
 refine ⟨h1.1,fun t ht=>?_⟩
 obtain ⟨i,hi⟩:=List.mem_iff_getElem?.1 ht
 exact Rg.templOk_small (Rg.rightT_ok (h1.2 i t hi).1)
set_option maxHeartbeats 1000000 in
theorem rgPut_any (a:Option Addr) (cap:Nat) (l:List TemplM) (w:World) (hr:TemplRow w a cap l) (hsm:l.length≤100000) (hA:Asked l) :
  Calls Tryz.prog 10 #[.slice a l.length cap] w (Got w (Rg.putIf l)):=by
 have hR:=rgRight_any a cap l w hr hsm hA
 have hP:=fun (h:Rg.right l=true) W hb=>templs_any a cap l W (templRow_below (w:=w) hb hr) (rgRight_small h).1 (rgRight_small h).2
 unfold Rg.putIf
 obtain ⟨R,hRR⟩:∃ R,Rg.right l=R:=⟨_,rfl⟩
 rw [hRR] at hR hP ⊢
 generalize Rg.putR l=L at *
 obtain ⟨n,hn⟩:∃ n,l.length=n:=⟨_,rfl⟩
 rw [hn] at hR hP ⊢
 have HR:=Lib.hid hR
 clear hR hr hsm hA hRR hn
 cases R with
 |true=>
  rw [if_pos rfl]
  have HP:=Lib.hid (hP rfl)
  clear hP
  go_enter Tryz.func10,Tryz.ntmps10
  go_wp2_with (first
   |(go_at_call 7;(with_reducible refine (HR.out).mono ?_);rintro e w1 ⟨rfl,hB1⟩)
   |(go_at_call 27;(with_reducible refine (HP.out _ hB1).mono ?_);rintro e w2 ⟨v2,rfl,ho2,hb2⟩))
  go_ret
  exact got_under hB1 ⟨_,rfl,ho2,hb2⟩
 |false=>
  rw [if_neg (by simp)]
  clear hP
  go_enter Tryz.func10,Tryz.ntmps10
  go_wp2_with (go_at_call 7;(with_reducible refine (HR.out).mono ?_);rintro e w1 ⟨rfl,hB1⟩)
  go_ret
  exact ⟨_,rfl,World.ownsRow_nil _ _ _ _,hB1⟩
