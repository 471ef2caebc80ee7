/- Registries: what a right template's steps tell, and its bytes (no walk). -/
import Derived.Test.YtcjdfdfphbckaaaGreatMh10Regi
import Derived.Test.YtcjdfdfphbckaaaGreatMh2Regi
import Derived.Test.YtcjdfdfphbckaaaGreatMh7Regi
import Derived.Test.YtcjdfdfphbckaaaGreatMh4Regi
import Derived.Laws.ResultCell
import Derived.Deep.RegionHeld3
set_option linter.unusedVariables false
set_option linter.unusedSimpArgs false
set_option maxRecDepth 100000
set_option maxHeartbeats 64000000
open Go.Proofs.Tryz
namespace Go.Proofs.YtcjdfdfphbckaaaGreat
open Go.RowKit Go.Shelf
namespace Rg
def e0:ByteArray:=⟨#[]⟩
def z7:SlotM:=⟨e0,0,false,Sc.nilV⟩
theorem ZOD {s:ByteArray} (h:s.size=0):s=e0:=by
 apply ByteArray.ext
 exact Array.eq_empty_of_size_eq_zero h
structure ZC5 (s:StepM):Prop where
 kd:1≤s.kd∧s.kd≤5
 col:0≤s.col∧s.col≤7
 k1:s.kd=1→Sc.sound s.sl=true∧s.sl.rq=false∧s.col=0∧s.od = []
 k2:s.kd=2→s.sl=z7∧s.od = []
 k3:s.kd=3→nameB (strB s.sl.nm)=true∧s.sl=⟨s.sl.nm,0,false,Sc.nilV⟩∧s.od = []
 k4:s.kd=4→(1≤s.sl.ty∧s.sl.ty≤63)∧s.sl=⟨e0,s.sl.ty,false,Sc.nilV⟩∧s.od = []
 k5:s.kd=5→s.sl=z7∧s.col=0∧s.od.length≤8∧∀ x∈s.od,0≤x∧x≤7
theorem ZLJ {s:StepM} (h:Sc.rest s=true):(s.kd≠1→s.sl.rq=false∧s.sl.df=Sc.nilV)∧(s.kd≠5→s.od = [])∧(s.kd≠1→s.kd≠3→s.sl.nm=e0)∧(s.kd≠1→s.kd≠4→s.sl.ty=0)∧((s.kd=1∨s.kd=5)→s.col=0):=by
 unfold Sc.rest at h
 simp only [Bool.and_eq_true,Bool.or_eq_true,decide_eq_true_eq,Bool.not_eq_true',decide_eq_false_iff_not,List.isEmpty_iff] at h
 obtain ⟨⟨⟨⟨h1,h2⟩,h3⟩,h4⟩,h5⟩:=h
 refine ⟨fun k=>?_,fun k=>?_,fun k k'=>?_,fun k k'=>?_,fun k=>?_⟩
 ·rcases h1 with h | ⟨h,h'⟩
  ·exact absurd h k
  ·exact ⟨h,(ZIR _ _).1 h'⟩
 ·rcases h2 with h | h
  ·exact absurd h k
  ·exact h
 ·rcases h3 with (h | h) | h
  ·exact absurd h k
  ·exact absurd h k'
  ·exact ZOD h
 ·rcases h4 with (h | h) | h
  ·exact absurd h k
  ·exact absurd h k'
  ·exact h
 ·rcases h5 with ⟨h,h'⟩ | h
  ·rcases k with k | k
   ·exact absurd k h
   ·exact absurd k h'
  ·exact h
theorem ZFL {s:SlotM} {nm:ByteArray} {ty:Int} {rq:Bool} {df:PV} (h1:s.nm=nm) (h2:s.ty=ty) (h3:s.rq=rq) (h4:s.df=df):s=⟨nm,ty,rq,df⟩:=by
 cases s;simp only at h1 h2 h3 h4;subst h1 h2 h3 h4;rfl
theorem ZMY {n:Nat} {x y:Sc.Ver} {s:StepM} (hx:Sc.VerOk n x) (h:Sc.step x s=some y):ZC5 s:=by
 unfold Sc.step at h
 split at h
 ·cases h
 ·rename_i hre
  simp only [Bool.not_eq_false] at hre
  obtain ⟨r1,r2,r3,r4,r5⟩:=ZLJ hre
  have hl:=hx.len
  split at h
  ·rename_i k
   split at h
   ·rename_i hc
    exact ⟨by omega,by have:=r5 (.inl k);omega,fun _=>⟨hc.2.1,hc.2.2.1,r5 (.inl k),r2 (by omega)⟩,fun k'=>by omega,fun k'=>by omega,fun k'=>by omega,fun k'=>by omega⟩
   ·cases h
  ·rename_i k1
   split at h
   ·rename_i k
    split at h
    ·rename_i hc
     have ho:=(Sc.once_iff s.od _ hc.1).1 hc.2
     have hc5:=r5 (.inr k)
     exact ⟨by omega,by omega,fun k'=>by omega,fun k'=>by omega,fun k'=>by omega,fun k'=>by omega,fun _=>⟨ZFL (r3 (by omega) (by omega)) (r4 (by omega) (by omega)) (r1 (by omega)).1 (r1 (by omega)).2,hc5,by omega,fun z hz=>by have:=ho.1 z hz;omega⟩⟩
    ·cases h
   ·rename_i k5
    split at h
    ·cases h
    ·rename_i hk
     have hk':1≤s.kd∧s.kd≤5∧0≤s.col∧s.col<x.cols.length:=by omega
     split at h
     ·rename_i k
      exact ⟨by omega,by omega,fun k'=>by omega,fun _=>⟨ZFL (r3 (by omega) (by omega)) (r4 (by omega) (by omega)) (r1 (by omega)).1 (r1 (by omega)).2,r2 (by omega)⟩,fun k'=>by omega,fun k'=>by omega,fun k'=>by omega⟩
     ·rename_i k2
      split at h
      ·rename_i k
       split at h
       ·rename_i hc
        exact ⟨by omega,by omega,fun k'=>by omega,fun k'=>by omega,fun _=>⟨hc.1,ZFL rfl (r4 (by omega) (by omega)) (r1 (by omega)).1 (r1 (by omega)).2,r2 (by omega)⟩,fun k'=>by omega,fun k'=>by omega⟩
       ·cases h
      ·rename_i k3
       simp only at h
       split at h
       ·rename_i hc
        exact ⟨by omega,by omega,fun k'=>by omega,fun k'=>by omega,fun k'=>by omega,fun _=>⟨⟨hc.1,hc.2.1⟩,ZFL (r3 (by omega) (by omega)) rfl (r1 (by omega)).1 (r1 (by omega)).2,r2 (by omega)⟩,fun k'=>by omega⟩
       ·cases h
theorem ZOE:∀ (l:List StepM) (n:Nat) (x:Sc.Ver) (L:List Sc.Ver),Sc.VerOk n x→Sc.run x l=some L→∀ s∈l,ZC5 s:=by
 intro l
 induction l with
 |nil=>intro n x L _ _ s hs;simp at hs
 |cons a r ih=>
  intro n x L hx h s hs
  unfold Sc.run at h
  cases hst:Sc.step x a with
  |none=>rw [hst] at h;cases h
  |some y=>
   rw [hst] at h
   simp only at h
   obtain ⟨L',h',_⟩:=Option.map_eq_some_iff.1 h
   rcases List.mem_cons.1 hs with rfl | hs
   ·exact ZMY hx hst
   ·exact ih _ y L' (Sc.step_ok hx hst) h' s hs
structure TemplOk (t:TemplM):Prop where
 nm:nameB (strB t.nm)=true
 n1:1≤t.slots.length
 n8:t.slots.length≤8
 m8:t.steps.length≤8
 so:∀ s∈t.slots,Sc.sound s=true
 st:∀ s∈t.steps,ZC5 s
theorem ZGz {l:List SlotM} (h:Sc.firstOk l=true):∀ s∈l,Sc.sound s=true:=by
 unfold Sc.firstOk at h
 rw [Bool.and_eq_true,List.all_eq_true] at h
 exact h.1
theorem rightT_ok {t:TemplM} (h:rightT t=true):TemplOk t:=by
 unfold rightT at h
 obtain ⟨L,hL⟩:=Option.isSome_iff_exists.1 h
 unfold Sc.vers at hL
 split at hL
 ·rename_i hc
  exact ⟨hc.1,hc.2.1,hc.2.2.1,hc.2.2.2.1,ZGz hc.2.2.2.2,ZOE _ 8 _ _ (Sc.first_ok hc.2.2.2.2 hc.2.2.1) hL⟩
 ·cases hL
theorem sound_right {s:SlotM} (h:Sc.sound s=true):rightV s.df=true:=(Sc.sound_ok h).2.2
theorem ZDv:rightV Sc.nilV=true:=by decide +kernel
theorem stepOk_right {s:StepM} (h:ZC5 s):rightV s.sl.df=true:=by
 have hk:=h.kd
 by_cases k1:s.kd=1
 ·exact sound_right (h.k1 k1).1
 ·by_cases k2:s.kd=2
  ·rw [(h.k2 k2).1];exact ZDv
  ·by_cases k3:s.kd=3
   ·rw [(h.k3 k3).2.1];exact ZDv
   ·by_cases k4:s.kd=4
    ·rw [(h.k4 k4).2.1];exact ZDv
    ·rw [(h.k5 (by omega)).1];exact ZDv
theorem ZCq {s:ByteArray} (h:nameB (strB s)=true):s.size≤40:=by
 unfold nameB at h
 simp only [Bool.and_eq_true,decide_eq_true_eq] at h
 have:=h.1.1.2
 rwa [ZBc] at this
theorem ZEl {s:SlotM} (h:Sc.sound s=true):nameB (strB s.nm)=true:=by
 unfold Sc.sound at h
 simp only [Bool.and_eq_true] at h
 exact h.1.1.1
theorem ZJN {s:StepM} (h:ZC5 s):s.sl.nm.size≤40:=by
 have hk:=h.kd
 have he:e0.size≤40:=by decide
 by_cases k1:s.kd=1
 ·exact ZCq (ZEl (h.k1 k1).1)
 ·by_cases k2:s.kd=2
  ·rw [(h.k2 k2).1];exact he
  ·by_cases k3:s.kd=3
   ·exact ZCq (h.k3 k3).1
   ·by_cases k4:s.kd=4
    ·rw [(h.k4 k4).2.1];exact he
    ·rw [(h.k5 (by omega)).1];exact he
theorem ZMZ {s:StepM} (h:ZC5 s):s.od.length≤8:=by
 have hk:=h.kd
 by_cases k1:s.kd=1
 ·rw [(h.k1 k1).2.2.2];exact Nat.zero_le _
 ·by_cases k2:s.kd=2
  ·rw [(h.k2 k2).2];exact Nat.zero_le _
  ·by_cases k3:s.kd=3
   ·rw [(h.k3 k3).2.2];exact Nat.zero_le _
   ·by_cases k4:s.kd=4
    ·rw [(h.k4 k4).2.2];exact Nat.zero_le _
    ·exact (h.k5 (by omega)).2.2.1
def txtB (s:ByteArray):List Int:=Bn.spl s.size 4++strB s
def byB (n:Int):List Int:=spn n 255 1
def nuB (n:Nat):List Int:=spn (n:Int) 2147483647 4
def slotB (s:SlotM):List Int:=txtB s.nm++(byB s.ty++(byB (if s.rq then 1 else 0)++valB s.df))
def stepB (s:StepM):List Int:=
 if s.kd=1 then byB s.kd++slotB s.sl
 else if s.kd=3 then byB s.kd++(byB s.col++txtB s.sl.nm)
 else if s.kd=2 then byB s.kd++(byB s.col ++ [])
 else if s.kd=4 then byB s.kd++(byB s.col++byB s.sl.ty)
 else byB s.kd++(nuB s.od.length++s.od.flatMap byB)
def templB (t:TemplM):List Int:=txtB t.nm++((nuB t.slots.length++t.slots.flatMap slotB)++(nuB t.steps.length++t.steps.flatMap stepB))
def putR (l:List TemplM):List Int:=nuB l.length++l.flatMap templB
def putIf (l:List TemplM):List Int:=if right l=true then putR l else []
theorem spn_len (n m:Int) (k:Nat):(spn n m k).length≤k:=by
 unfold spn
 split
 ·simp
 ·rw [Bn.spl_len];exact Nat.le_refl _
theorem valB_len9 (v:PV):(valB v).length≤21000:=by
 unfold valB
 split
 ·rename_i h
  obtain ⟨ho,hs,_⟩:=ZEh h
  have:=ZKz v ho
  omega
 ·simp
theorem txtB_len (s:ByteArray):(txtB s).length=4+s.size:=by
 unfold txtB;rw [List.length_append,Bn.spl_len,ZBc]
theorem slotB_len (s:SlotM):(slotB s).length≤21006+s.nm.size:=by
 unfold slotB
 have h1:=spn_len s.ty 255 1
 have h2:=spn_len (if s.rq then 1 else 0) 255 1
 have h3:=valB_len9 s.df
 simp only [List.length_append,txtB_len,byB]
 omega
theorem flat_len {α : Type} (l:List α) (f : α→List Int) (k:Nat) (h:∀ x∈l,(f x).length≤k):(l.flatMap f).length≤k*l.length:=by
 induction l with
 |nil=>simp
 |cons a r ih=>
  have h1:=h a (List.mem_cons_self ..)
  have h2:=ih fun x hx=>h x (List.mem_cons_of_mem _ hx)
  rw [List.flatMap_cons,List.length_append,List.length_cons,Nat.mul_add]
  omega
theorem stepB_len (s:StepM):(stepB s).length≤21010+s.sl.nm.size+s.od.length:=by
 have h1:=spn_len s.kd 255 1
 have h2:=spn_len s.col 255 1
 have h3:=spn_len s.sl.ty 255 1
 have h4:=spn_len (s.od.length:Int) 2147483647 4
 have h5:=slotB_len s.sl
 have h6:=flat_len s.od byB 1 fun x _=>spn_len x 255 1
 have h7:=txtB_len s.sl.nm
 unfold stepB
 split
 ·rw [List.length_append];unfold byB;omega
 ·split
  ·rw [List.length_append,List.length_append];unfold byB;omega
  ·split
   ·rw [List.length_append,List.length_append];unfold byB;simp only [List.length_nil];omega
   ·split
    ·rw [List.length_append,List.length_append];unfold byB;omega
    ·rw [List.length_append,List.length_append];unfold nuB;unfold byB at *;omega
structure Small (t:TemplM):Prop where
 nm:t.nm.size≤1000
 n:t.slots.length≤40
 m:t.steps.length≤40
 sn:∀ s∈t.slots,s.nm.size≤1000
 pn:∀ s∈t.steps,s.sl.nm.size≤1000∧s.od.length≤1000
theorem templOk_small {t:TemplM} (h:TemplOk t):Small t:=
 ⟨by have:=ZCq h.nm;omega,by have:=h.n8;omega,by have:=h.m8;omega,fun s hs=>by have:=ZCq (ZEl (h.so s hs));omega,
  fun s hs=>⟨by have:=ZJN (h.st s hs);omega,by have:=ZMZ (h.st s hs);omega⟩⟩
theorem templB_len {t:TemplM} (h:Small t):(templB t).length≤2000000:=by
 have h1:=flat_len t.slots slotB 22100 fun s hs=>by have:=slotB_len s;have:=h.sn s hs;omega
 have h2:=flat_len t.steps stepB 23100 fun s hs=>by have:=stepB_len s;have:=h.pn s hs;omega
 have h3:=spn_len (t.slots.length:Int) 2147483647 4
 have h4:=spn_len (t.steps.length:Int) 2147483647 4
 have h5:=h.nm
 have h6:=h.n
 have h7:=h.m
 unfold templB
 simp only [List.length_append,txtB_len,nuB]
 omega
end Rg
open Go.RowKit Go.Shelf
attribute [local go_sem] Oper.semAt_some
theorem ZJO (w:World):Below w.heap.size w w.drew:=⟨rfl,rfl,rfl,Nat.le_refl _,fun _ _=>rfl⟩
theorem ZAt {P:Program} {fn:Func} {p u:Tmp} {ty:TypeId} (h:fn.results=#[.cell p ty,.tmp u]) (tmps:Array Value) (w:World) (g:Nat) (t:TypeId) (cs:Array Value) (fr:Nat × Nat) (d:TypeDesc)
  (hp:tmps.getD p undef=.pointer (some ⟨g,0,none⟩)) (hg:w.heap[g]? = some (.cells cs t fr))
  (hu:P.underlying ty=some d) (hd:(match d with | .struct _ | .array _ _=>true | _=>false)=true) (hi:(P.info? ty).map (·.size)=some cs.size) :
  (results fn tmps).run P w=.ok (.tuple #[.agg cs,tmps.getD u undef]) w:=by
 rw [results_cell_tmp h,hp]
 simp [asAddr,run_loadVar_row w g t ty cs fr d hg hu hd hi,Result.andThen]
theorem ZLK (v:PV) (b:Nat) (a9:Value) (w:World) (c0 c1 c2 c3:Value) (hv:VAt w b #[c0,c1,c2,c3]) (hi:Is w v (.agg #[c0,c1,c2,c3])) :
  Calls Tryz.prog 95 #[a9,.pointer (some ⟨b,0,none⟩)] w fun e w'=>e=.returned (.tuple #[.agg #[c0,c1,c2,c3],.bool (rightV v)])∧Below w.heap.size w w':=by
 obtain ⟨k,n,s,a,len,cap,e⟩:=ZDb hi
 simp only [Value.agg.injEq,Array.mk.injEq,List.cons.injEq,and_true] at e
 obtain ⟨rfl,rfl,rfl,rfl⟩:=e
 have hA0:=(Below.refl _ w).alloc (Nat.le_refl _) (.cells vzero 49)
 have hv0:=ZA9 hA0 hv
 have hR:∀ W,Below (w.alloc (.cells vzero 49)).heap.size (w.alloc (.cells vzero 49)) W→Calls Tryz.prog 86 #[.agg #[.int .i64 k,.int .i64 n,.string s,.slice a len cap]] W fun e w'=>e=.returned (.bool (rightV v))∧Below W.heap.size W w':=fun W hW=>ZGn v W _ (ZAf hW _ _ (ZAf hA0 _ _ hi))
 obtain ⟨r,hr⟩:∃ r,rightV v=r:=⟨_,rfl⟩
 rw [hr] at hR ⊢
 have HR:=ZZY hR
 obtain ⟨⟨p0,p1,p2,p3⟩,_⟩:=box4 hv0
 have hz0:=ZBI w vzero
 have HZ:=ZZY hz0
 have hbw:=ZDO hv
 clear hi hR hr hv hv0 hz0
 go_enter func95,ntmps95
 go_wp2_with fail
 go_region_held3 (fun W=>(W.cell? ⟨b,0,none⟩=some (.int .i64 k)∧W.cell? ⟨b,1,none⟩=some (.int .i64 n))∧(W.cell? ⟨b,2,none⟩=some (.string s)∧W.cell? ⟨b,3,none⟩=some (.slice a len cap))) (first | ((try dsimp only);refine ⟨⟨?_, ?_⟩, ?_, ?_⟩<;>first | (go_keep;done) | (with_reducible refine ZAA hb ?_;go_keep) | (with_reducible refine ZI7 ?_ (by first | (simp;done) | (simp;omega));go_keep) | (with_reducible refine ZI7 (ZAA hb ?_) (by first | (simp;done) | (simp;omega));go_keep))) (first
  |(go_at_call 86;(with_reducible refine (HR.out _ (ZJO _)).mono ?_);rintro e w' ⟨rfl,hb⟩;have hz1:=ZA9 hb (show VAt (World.drew (w.alloc (.cells vzero 49))) w.heap.size vzero from HZ.out);obtain ⟨⟨r0,r1,r2,r3⟩,t0,t1,t2,t3⟩:=box4 hz1))
 go_wp2_with fail
 have hA1:=hA0.drew
 have hB:=hA1.trans (hb.mono hA1.size)
 exact bodyPost_ret (ZAt Tryz.results95 _ _ w.heap.size _ _ _ _ rfl (ZBJ hz1 _ _ _ _) Tryz.underlying49 rfl val4) rfl ⟨rfl,ZMJ hB (Nat.le_refl _) _ _ _ _ _ _ _ _⟩
theorem ZJP (f:Value) (p:Nat) (w:World) (h:RD w p none) :
  Calls Tryz.prog 94 #[.pointer (some ⟨p,0,none⟩),.int .i64 0,f] w fun e w'=>e=.returned (.agg vzero)∧RD w' p none∧w.grownBy w' (some p):=by
 have hA0:=(Below.refl _ w).alloc (Nat.le_refl _) (.cells vzero 49)
 have hz0:=ZBI w vzero
 have hpw:=ZCf h
 have hRA:=ZAp h hA0
 have hB:=ZB6 p _ _ hRA
 have hL:=ZB0 p _ _ hRA
 have hF:=ZCD p _ _ hRA
 simp only [Option.isNone_none,Bn.lf,List.length_nil] at hB hL
 clear h
 go_enter func94,ntmps94
 go_wp2_with (first
  |(go_at_call 11;(with_reducible refine hL.mono ?_);rintro e w' ⟨rfl,rfl⟩)
  |(go_at_call 26;(with_reducible refine hB.mono ?_);rintro e w' ⟨rfl,rfl⟩)
  |(go_at_call 91;(with_reducible refine hF.mono ?_);rintro e w2 ⟨⟨v,rfl⟩,hR2,hg2⟩;have hz2:=ZA9 ((Below.refl _ w2).alloc (Nat.le_refl _) (.cells vzero 49)) (ZAb hz0 hg2 (by omega));have hR3:=ZAp hR2 ((Below.refl _ w2).alloc (Nat.le_refl _) (.cells vzero 49));have hv2:=ZBI w2 vzero;obtain ⟨⟨e0,e1,e2,e3⟩,f0,f1,f2,f3⟩:=box4 hv2;obtain ⟨⟨r0,r1,r2,r3⟩,t0,t1,t2,t3⟩:=box4 hz2))
 exact bodyPost_ret (results_cell_row Tryz.results94 _ _ w.heap.size _ _ _ _ rfl (ZBJ hz2 _ _ _ _) Tryz.underlying49 rfl val4) rfl
  ⟨rfl,ZF9 hR3 hz2 _ _ _ _ _ _ _ _,ZCE (ZAX (ZAC (ZAZ hA0 _) hg2) _) (Nat.le_refl _) _ _ _ _ _ _ _ _⟩
theorem ZLL (v:PV) (b p:Nat) (l:List Int) (w:World) (c0 c1 c2 c3:Value) (h:RD w p (some l)) (hv:VAt w b #[c0,c1,c2,c3]) (hi:Is w v (.agg #[c0,c1,c2,c3])) :
  Calls Tryz.prog 94 #[.pointer (some ⟨p,0,none⟩),.int .i64 0,.func (.func 95) #[] #[.pointer (some ⟨b,0,none⟩)]] w fun e w'=>
   e=.returned (if rightV v=true then .agg #[c0,c1,c2,c3] else .agg vzero)∧RD w' p (if rightV v=true then some l else none)∧w.grownBy w' (some p):=by
 obtain ⟨vk,vn,vs,va,vlen,vcap,e⟩:=ZDb hi
 simp only [Value.agg.injEq,Array.mk.injEq,List.cons.injEq,and_true] at e
 obtain ⟨rfl,rfl,rfl,rfl⟩:=e
 have hA0:=(Below.refl _ w).alloc (Nat.le_refl _) (.cells vzero 49)
 have hz0:=ZBI w vzero
 have hpw:=ZCf h
 have hRA:=ZAp h hA0
 have hB:=ZB6 p _ _ hRA
 have hL:=ZB0 p _ _ hRA
 simp only [Option.isNone_some,Bn.lf] at hB hL
 have hV:=fun a9=>ZLK v b a9 _ _ _ _ _ (ZA9 hA0 hv) (ZAf hA0 _ _ hi)
 obtain ⟨a,cap,h1,h2,h3,h4⟩:=id hRA
 simp only [Option.isNone_some,Bn.lf] at h1 h2 h3
 obtain ⟨⟨q0,q1⟩,z0,z1⟩:=ZCB h1
 obtain ⟨a1,hs1,hr1⟩:=ZFX a l.length cap 0 (Nat.zero_le _) h2.2.1
 obtain ⟨a2,hs2,hr2,ha2⟩:=ZFW a l.length cap 0 (Nat.zero_le _)
 simp only [Int.natCast_zero,Nat.sub_zero,List.drop_zero] at hs1 hs2 hr2
 have hm:=h2.2.2.1
 have hcp:=h2.2.1
 unfold maxLen at hm
 obtain ⟨r,hr⟩:∃ r,rightV v=r:=⟨_,rfl⟩
 rw [hr] at hV ⊢
 have H1:=ZZY h1;have H2:=ZZY h2;have H3:=ZZY h3;have H4:=ZZY h4;have HA2:=ZZY ha2;have HR2:=ZZY hr2;have HRA:=ZZY hRA
 clear h hv hi hr h1 h2 h3 h4 ha2 hr1 hr2 hRA
 cases r with
 |true=>
  rw [if_pos rfl,if_pos rfl]
  go_enter func94,ntmps94
  go_wp2_with (first
   |(go_at_call 11;(with_reducible refine hL.mono ?_);rintro e w' ⟨rfl,rfl⟩)
   |(go_at_call 26;(with_reducible refine hB.mono ?_);rintro e w' ⟨rfl,rfl⟩)
   |(go_at_call 95;(with_reducible refine (hV _).mono ?_);rintro e w2 ⟨rfl,hb2⟩;have hA2:=(Below.refl _ w2).alloc (Nat.le_refl _) (.cells #[.int .i64 vk,.int .i64 vn,.string vs,.slice va vlen vcap] 49);have hb3:=hb2.trans (hA2.mono hb2.size);have hp3:=(hb3.block p (ZKM H1.out)).trans H1.out;obtain ⟨⟨m0,m1⟩,n0,n1⟩:=ZCB (show RdAt _ p _ _ from hp3);have hz3:=ZA9 hb3 hz0;have hne:w.heap.size≠p:=(by omega);have hz4:=ZBA hz3 hne 0 (.slice a2 l.length cap);have hbx:=ZBI w2 #[.int .i64 vk,.int .i64 vn,.string vs,.slice va vlen vcap];have hne2:w2.heap.size≠p:=(by have:=hb2.size;simp at this;omega);have hbx2:=ZBA hbx hne2 0 (.slice a2 l.length cap);obtain ⟨⟨e0,e1,e2,e3⟩,f0,f1,f2,f3⟩:=box4 hbx2;obtain ⟨⟨r0,r1,r2,r3⟩,t0,t1,t2,t3⟩:=box4 hz4;have hrow:=ZAk H2.out hb3 rfl;have hu3:=ZHh H4.out hb3))
  have hR5:RD _ p (some l):=ZFY (n:=0) (c':=cap) hp3 (HR2.out _ _ hrow) H3.out hu3 HA2.out
  exact bodyPost_ret (results_cell_row Tryz.results94 _ _ w.heap.size _ _ _ _ rfl (ZBJ hz4 _ _ _ _) Tryz.underlying49 rfl val4) rfl
   ⟨rfl,ZF9 hR5 hz4 _ _ _ _ _ _ _ _,ZCE (ZAC (ZAC (ZAZ hA0 _) (ZAZ hb3 _)) (ZAY p 0 _)) (Nat.le_refl _) _ _ _ _ _ _ _ _⟩
 |false=>
  rw [if_neg (by simp),if_neg (by simp)]
  go_enter func94,ntmps94
  go_wp2_with (first
   |(go_at_call 11;(with_reducible refine hL.mono ?_);rintro e w' ⟨rfl,rfl⟩)
   |(go_at_call 26;(with_reducible refine hB.mono ?_);rintro e w' ⟨rfl,rfl⟩)
   |(go_at_call 95;(with_reducible refine (hV _).mono ?_);rintro e w2 ⟨rfl,hb2⟩;have hA2:=(Below.refl _ w2).alloc (Nat.le_refl _) (.cells #[.int .i64 vk,.int .i64 vn,.string vs,.slice va vlen vcap] 49);have hb3:=hb2.trans (hA2.mono hb2.size);have hR3:=ZAp HRA.out hb3;have hF:=ZCD p _ _ hR3;have hz3:=ZA9 hb3 hz0)
   |(go_at_call 91;(with_reducible refine hF.mono ?_);rintro e w4 ⟨⟨v4,rfl⟩,hR4,hg4⟩;have hA4:=(Below.refl _ w4).alloc (Nat.le_refl _) (.cells vzero 49);have hz4:=ZA9 hA4 (ZAb hz3 hg4 (by omega));have hR5:=ZAp hR4 hA4;have hv4:=ZBI w4 vzero;obtain ⟨⟨e0,e1,e2,e3⟩,f0,f1,f2,f3⟩:=box4 hv4;obtain ⟨⟨r0,r1,r2,r3⟩,t0,t1,t2,t3⟩:=box4 hz4))
  exact bodyPost_ret (results_cell_row Tryz.results94 _ _ w.heap.size _ _ _ _ rfl (ZBJ hz4 _ _ _ _) Tryz.underlying49 rfl val4) rfl
   ⟨rfl,ZF9 hR5 hz4 _ _ _ _ _ _ _ _,ZCE (ZAX (ZAC (ZAC (ZAZ hA0 _) (ZAZ hb3 _)) hg4) _) (Nat.le_refl _) _ _ _ _ _ _ _ _⟩
