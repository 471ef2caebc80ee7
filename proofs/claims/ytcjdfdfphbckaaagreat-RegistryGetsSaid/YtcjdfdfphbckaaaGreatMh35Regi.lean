/- The program's schema: Last, Right, At, over what all comes to. -/
import Derived.Test.YtcjdfdfphbckaaaGreatMh33Regi
import Derived.Test.YtcjdfdfphbckaaaGreatMh29Regi
import Derived.Test.YtcjdfdfphbckaaaGreatMh19Regi
import Derived.Test.YtcjdfdfphbckaaaGreatMh3Regi
import Derived.Test.YtcjdfdfphbckaaaGreatMh34Regi
import Derived.Test.YtcjdfdfphbckaaaGreatMh32Regi
import Derived.Test.YtcjdfdfphbckaaaGreatMh4Regi
set_option linter.unusedVariables false
set_option linter.unusedSimpArgs false
set_option maxRecDepth 100000
set_option maxHeartbeats 64000000
open Go.Proofs.Tryz
namespace Go.Proofs.YtcjdfdfphbckaaaGreat
open Go.RowKit Go.Shelf
def ZPK (w W:World) (a:Option Addr) (c:Nat) (L:List Sc.Ver):Prop:=∀ (i:Nat) (x:Sc.Ver),L[i]? = some x→∃ b off sv cv,a=some ⟨b,off,none⟩∧W.cell? ⟨b,off+i*2,none⟩=some sv∧W.cell? ⟨b,off+i*2+1,none⟩=some cv∧ZD9 w W x sv cv
def AllC:Prop:=∀ (t:TemplM) (w:World) (X:Value),wideT t=false→ZA8 w t X→Calls Tryz.prog 109 #[X] w fun e w'=>
 (match Sc.vers t with
  |none=>∃ a c,e=.returned (.slice a 0 c)
  |some L=>∃ a c,e=.returned (.slice a L.length c)∧L.length≤c∧c≤maxLen∧ZPK w w' a c L)∧Below w.heap.size w w'
def lastN (t:TemplM):Nat:=match Sc.vers t with
 |none=>0
 |some L=>L.length
theorem ZND (hAll:AllC) (t:TemplM) (w:World) (X:Value) (hg:wideT t=false) (hi:ZA8 w t X):Calls Tryz.prog 90 #[X] w fun e w'=>e=.returned (.int .i64 (lastN t:Int))∧Below w.heap.size w w':=by
 have h0:=hi
 obtain ⟨h1,sa,sc,ta,tc,rfl,hsl,hst⟩:=hi
 have hA1:=(Below.refl _ w).alloc (Nat.le_refl _) (.cells #[.string t.nm,.slice sa t.slots.length sc,.slice ta t.steps.length tc] 40)
 have hA:=hAll t _ _ hg (ZBU hA1 h0)
 have hA2:Calls Tryz.prog 109 #[.agg #[.string t.nm,.slice sa t.slots.length sc,.slice ta t.steps.length tc]] (w.alloc (.cells #[.string t.nm,.slice sa t.slots.length sc,.slice ta t.steps.length tc] 40)) fun e w'=>(∃ a c,e=.returned (.slice a (lastN t) c))∧Below (w.alloc (.cells #[.string t.nm,.slice sa t.slots.length sc,.slice ta t.steps.length tc] 40)).heap.size (w.alloc (.cells #[.string t.nm,.slice sa t.slots.length sc,.slice ta t.steps.length tc] 40)) w':=hA.mono fun e w' h=>by
  refine ⟨?_,h.2⟩
  have h2:=h.1
  unfold lastN
  cases hv:Sc.vers t with
  |none=>rw [hv] at h2;exact h2
  |some L=>rw [hv] at h2;obtain ⟨a,c,e,_⟩:=h2;exact ⟨a,c,e⟩
 obtain ⟨N,hN⟩:∃ N,lastN t=N:=⟨_,rfl⟩
 rw [hN] at hA2 ⊢
 have H:=ZZY hA2
 clear hA hA2 hN h0 hsl hst
 go_enter func90,ntmps90
 go_wp2_with (go_at_call 109;(with_reducible refine H.out.mono ?_);rintro e w1 ⟨⟨a,c,rfl⟩,hB1⟩)
 go_ret
 exact ⟨rfl,hA1.trans (hB1.mono hA1.size)⟩
theorem ZGW (hAll:AllC) (t:TemplM) (w:World) (X:Value) (hg:wideT t=false) (hi:ZA8 w t X):Calls Tryz.prog 66 #[X] w fun e w'=>e=.returned (.bool (Sc.vers t).isSome)∧Below w.heap.size w w':=by
 have h0:=hi
 obtain ⟨h1,sa,sc,ta,tc,rfl,hsl,hst⟩:=hi
 have hA1:=(Below.refl _ w).alloc (Nat.le_refl _) (.cells #[.string t.nm,.slice sa t.slots.length sc,.slice ta t.steps.length tc] 40)
 have hA:=ZND hAll t _ _ hg (ZBU hA1 h0)
 have hb:decide ((lastN t:Int) > 0)=(Sc.vers t).isSome:=by
  unfold lastN
  cases hv:Sc.vers t with
  |none=>rfl
  |some L=>
   have:=(Sc.vers_length hv).1
   simp
   omega
 obtain ⟨N,hN⟩:∃ N,lastN t=N:=⟨_,rfl⟩
 rw [hN] at hA hb
 rw [←hb]
 have H:=ZZY hA
 clear hA hb hN h0 hsl hst
 go_enter func66,ntmps66
 go_wp2_with (go_at_call 90;(with_reducible refine H.out.mono ?_);rintro e w1 ⟨rfl,hB1⟩)
 go_ret
 exact ⟨ZAG (by simp),hA1.trans (hB1.mono hA1.size)⟩
theorem rightA (hAll:AllC):ZPM:=fun t w X hg hi=>ZGW hAll t w X (ZHH hg) hi
open Go.RowKit Go.Shelf
attribute [local go_sem] Oper.semAt_some
theorem ZOe:(Tryz.prog.info? 146).map (fun i=>(i.zero,i.size,i.bytes))=some (some (.agg #[.slice none 0 0,.slice none 0 0]),2,48):=by kernel_rfl
def vcells (L:List ZDe):List Value:=L.flatMap fun y=>[vSl y,vCo y]
theorem ZJv (L:List ZDe) (y:ZDe):vcells (L ++ [y])=vcells L ++ [vSl y,vCo y]:=by simp [vcells]
theorem ZNE:∀ (L:List ZDe) (i:Nat) (y:ZDe),L[i]? = some y→(vcells L)[i*2]? = some (vSl y)∧(vcells L)[i*2+1]? = some (vCo y):=by
 intro L
 induction L with
 |nil=>intro i y h;simp at h
 |cons z r ih=>
  intro i y h
  cases i with
  |zero=>simp only [List.getElem?_cons_zero,Option.some.injEq] at h;subst h;simp [vcells]
  |succ i=>
   have:=ih i y (by simpa using h)
   rw [show (i+1)*2=i*2+1+1 by omega,show i*2+1+1+1=i*2+1+2 by omega]
   unfold vcells at this ⊢
   simp only [List.flatMap_cons,List.cons_append,List.nil_append]
   exact ⟨by simpa using this.1,by simpa using this.2⟩
def AllV (w:World) (TB:Obj) (bx:Nat) (pre:List ZDe) (W:World):Prop:=Below w.heap.size w W∧W.heap[w.heap.size]? = some TB∧w.heap.size+3≤W.heap.size ∧
 ∃ v,Boxed W (w.heap.size+1) 136 v∧W.ownsRow (w.heap.size+3) 146 2 v pre.length (vcells pre)∧(∀ b,v.ownBlock=some b→b≠bx)
theorem ZNF {A C:World} {B:Nat} {e:TypeId} {size n:Nat} {v:Value} {xs:List Value} (h:A.ownsRow B e size v n xs) (hk:∀ b cs t fr,A.heap[b]? = some (.cells cs t fr)→v.ownBlock=some b→C.heap[b]? = some (.cells cs t fr)):C.ownsRow B e size v n xs:=by
 refine ⟨h.1, ?_⟩
 rcases h.2 with hn | ⟨g,cap,cur,rfl,hg,hh,r⟩
 ·exact .inl hn
 ·exact .inr ⟨g,cap,cur,rfl,hg,hk g _ _ _ hh rfl,r⟩
theorem ZJw {w A C:World} {tc:Array Value} {tt:TypeId} {bx:Nat} {pre:List ZDe} (h:AllV w (.cells tc tt (0,0)) bx pre A) (hx:w.heap.size+3≤bx) (hb:Below w.heap.size w A→Below w.heap.size w C) (hs:A.heap.size≤C.heap.size) (hk:∀ b cs t fr,A.heap[b]? = some (.cells cs t fr)→b≠bx→C.heap[b]? = some (.cells cs t fr)):AllV w (.cells tc tt (0,0)) bx pre C:=by
 obtain ⟨h1,h2,h3,v,h4,h5,h6⟩:=h
 exact ⟨hb h1,hk _ _ _ _ h2 (by omega),Nat.le_trans h3 hs,v,hk _ _ _ _ h4 (by omega),ZNF h5 (fun b cs t fr hh hv=>hk b cs t fr hh (h6 b hv)),h6⟩
theorem ZKl (w:World) (tc:Array Value) (tt:TypeId) (bx B:Nat) (hx:w.heap.size+3≤bx) (hB:w.heap.size≤B):OwnFrom B (AllV w (.cells tc tt (0,0)) bx):=fun s W W' row h hg hr=>
 ZJw h hx (fun h1=>ZAE h1 hg (fun b e=>by have:=(hr b e).1;omega) h1.size) hg.size fun b cs t fr hh _=>(hg.block b (ZZZ hh).1 (fun e=>by
  obtain ⟨_,o,ho,hc⟩:=hr b e.symm
  rw [hh] at ho
  cases ho
  simp [Obj.isCells] at hc)).trans hh
theorem ZHI {w0 A C D:World} {bx:Nat} (h:KV w0 bx A C) (k:KV w0 bx C D):KV w0 bx A D:=⟨fun e=>k.1 (h.1 e),fun b cs t fr hh ht=>k.2 b cs t fr (h.2 b cs t fr hh ht) ht⟩
theorem ZNG {w0 A C:World} {bx B:Nat} (h:ZFA B A C) (hB0:w0.heap.size≤B):KV w0 bx A C:=by
 obtain ⟨l,hB,hg,o,hl,hc⟩:=ZFB h
 refine ⟨fun e=>ZAE e hg (fun b e2=>by cases e2;omega) e.size,fun b cs t fr hh _=>(hg.block b (ZZZ hh).1 (fun e=>?_)).trans hh⟩
 cases e
 rw [hh] at hl
 cases hl
 simp [Obj.isCells] at hc
theorem ZKm {w0 A C:World} {bx:Nat} (h:Below A.heap.size A C) (h0:w0.heap.size≤A.heap.size):KV w0 bx A C:=
 ⟨fun e=>e.trans (h.mono h0),fun b cs t fr hh _=>(h.block b (ZZZ hh).1).trans hh⟩
theorem ZKn {w0 A C:World} {bx:Nat} {row:Option Nat} (hg:A.grownBy C row) (hr:∀ g,row=some g→w0.heap.size≤g∧g≠bx∧∃ cs t fr,A.heap[g]? = some (.cells cs t fr)∧(t=146∨t=136)):KV w0 bx A C:=by
 refine ⟨fun e=>ZAE e hg (fun b e2=>(hr b e2).1) e.size,fun b cs t fr hh ht=>(hg.block b (ZZZ hh).1 (fun e=>?_)).trans hh⟩
 obtain ⟨_,h2,cs',t',fr',h3,h4⟩:=hr b e.symm
 rw [hh] at h3
 cases h3
 rcases ht with ht | ht
 ·rcases h4 with h4 | h4
  ·exact ht.1 h4
  ·exact ht.2 h4
 ·exact h2 ht
theorem ZFp {w0 W W':World} {x:Sc.Ver} {sv cv:Value} (h:ZD9 w0 W x sv cv) (hk:∀ b cs t fr,w0.heap.size≤b→W.heap[b]? = some (.cells cs t fr)→W'.heap[b]? = some (.cells cs t fr)):ZD9 w0 W' x sv cv:=by
 have key:∀ {e:TypeId} {size n:Nat} {v:Value} {xs:List Value},W.ownsRow w0.heap.size e size v n xs→W'.ownsRow w0.heap.size e size v n xs:=fun {e size n v xs} h=>by
  refine ⟨h.1, ?_⟩
  rcases h.2 with hn | ⟨g,cap,cur,rfl,hg,hh,r⟩
  ·exact .inl hn
  ·exact .inr ⟨g,cap,cur,rfl,hg,hk g _ _ _ hg hh,r⟩
 obtain ⟨h1,h2⟩:=h
 refine ⟨?_, ?_⟩
 ·rcases h1 with h1 | ⟨cs,h1,h3⟩
  ·exact .inl h1
  ·exact .inr ⟨cs,key h1,h3⟩
 ·rcases h2 with h2 | h2
  ·exact .inl h2
  ·exact .inr (key h2)
def AllS (w:World) (t:TemplM) (ys:List ZDe) (W:World):Prop:=ys.map (·.1)=handed t∧∀ y∈ys,ZD9 w W y.1 (vSl y) (vCo y)
theorem ZJx {W W':World} {row:Option Nat} {B:Nat} (hg:W.grownBy W' row) (hr:∀ r,row=some r→B≤r∧∃ o:Obj,W.heap[r]? = some o∧o.isCells=false):∀ (b:Nat) (cs:Array Value) (t:TypeId) (fr:Nat × Nat),W.heap[b]? = some (Obj.cells cs t fr)→W'.heap[b]? = some (Obj.cells cs t fr):=fun b cs t fr hh=>
 (hg.block b (ZZZ hh).1 (fun e=>by
  obtain ⟨_,o,ho,hc⟩:=hr b e.symm
  rw [hh] at ho
  cases ho
  simp [Obj.isCells] at hc)).trans hh
theorem ZOf (w:World) (t:TemplM) (B:Nat):OwnFrom B (AllS w t):=fun s W W' row h hg hr=>⟨h.1,fun y hy=>ZFp (h.2 y hy) fun b cs t fr _ hh=>ZJx hg hr b cs t fr hh⟩
theorem ZHJ {B:Nat} {A C:World} (h:ZFA B A C) {b:Nat} {cs:Array Value} {t:TypeId} {f:Nat × Nat} (hc:A.heap[b]? = some (.cells cs t f)):C.heap[b]? = some (.cells cs t f):=by
 obtain ⟨l,hB,hg,o,hl,hcc⟩:=ZFB h
 exact (hg.block b (ZZZ hc).1 (fun e=>by cases e;rw [hc] at hl;cases hl;simp [Obj.isCells] at hcc)).trans hc
def SAtV (W:World) (b:Nat) (cs:Array Value):Prop:=W.heap[b]? = some (.cells cs 146 (0,0))
theorem ZIU {W:World} {b:Nat} {cs:Array Value} (h:SAtV W b cs) (i:Nat) (c:Value) (hc:cs[i]? = some c):W.cell? ⟨b,i,none⟩=some c:=by
 simp [World.cell?,show W.heap[b]? = _ from h,hc]
theorem ZLt {w W:World} {L:List Sc.Ver} {xs:List ZDe} {B n:Nat} {a:Option Addr} {c:Nat} (h:W.ownsRow B 146 2 (.slice a n c) xs.length (vcells xs)) (hm:xs.map (·.1)=L) (hv:∀ y∈xs,ZD9 w W y.1 (vSl y) (vCo y)):L.length≤c∧c≤maxLen∧ZPK w W a c L:=by
 have hl:L.length=xs.length:=by rw [←hm];simp
 rcases h.2 with ⟨hn,h0⟩ | ⟨g,cap,cur,hn,hg,hh,h1,h2,h3,h4⟩
 ·cases hn
  refine ⟨by omega,by unfold maxLen;omega,fun i x hx=>?_⟩
  have:=(List.getElem?_eq_some_iff.1 hx).1
  omega
 ·cases hn
  have hcell:∀ (j:Nat) (u:Value),(vcells xs)[j]? = some u→W.cell? ⟨g,j,none⟩=some u:=fun j u hu=>by
   rw [←h4,List.getElem?_take] at hu
   split at hu
   ·simp [World.cell?,hh]
    simpa using hu
   ·cases hu
  refine ⟨by omega,h2,fun i x hx=>?_⟩
  obtain ⟨y,hy,rfl⟩:∃ y,xs[i]? = some y∧y.1=x:=by
   rw [←hm,List.getElem?_map] at hx
   simpa using hx
  obtain ⟨q1,q2⟩:=ZNE xs i y hy
  exact ⟨g,0,vSl y,vCo y,rfl,by simpa using hcell _ _ q1,by simpa using hcell _ _ q2,hv y (List.mem_of_getElem? hy)⟩
theorem ZNH (hA:ZIM 147 1) (hR:ZIM 151 5):AllC:=fun t w X hg hi=>by
 have hi0:=hi
 obtain ⟨h1,sa,sc,ta,tc,rfl,hsl,hst⟩:=hi
 obtain ⟨jf,hjf,hf0,hf1,hf2⟩:=info_parts ZOe
 have hm30:t.steps.length≤30:=by
  have hgt:=hg
  unfold wideT at hgt
  simp only [Bool.or_eq_false_iff,decide_eq_false_iff_not] at hgt
  have:=hgt.1.1.2
  omega
 obtain ⟨TC,hTC⟩:∃ TC:Array Value,#[.string t.nm,.slice sa t.slots.length sc,.slice ta t.steps.length tc]=TC:=⟨_,rfl⟩
 have HTC:=ZZY hTC
 have HI0:=ZZY hi0
 clear hi0 hsl hst hTC
 refine (callsIn_wide (n:=100)).1 ?_
 refine callsIn_of_wp_marks func109 rfl trivial ?_ rfl
 simp only [ntmps109,List.size_toArray,List.length_cons,List.length_nil,Nat.reduceAdd,Nat.reduceSub,Array.replicate_succ,Array.replicate_zero,List.push_toArray,List.append_toArray,List.nil_append,List.cons_append]
 gi_wp2_with (refine ⟨trivial, ?_⟩;gi_at_call 121;refine (ZJu _ _ _ _ _ _ _ _ _).mono ?_;rintro e w' ⟨rfl,rfl⟩)
 rw [HTC.out]
 have hh:=heap3 (Below.refl _ (((w.alloc (.cells TC 40)).alloc (.cells #[.slice none 0 0] 136)).alloc (.cells TC 40)))
 have hB0:=below3 w (.cells TC 40) (.cells #[.slice none 0 0] 136) (.cells TC 40)
 have hsz0:(((w.alloc (.cells TC 40)).alloc (.cells #[.slice none 0 0] 136)).alloc (.cells TC 40)).heap.size=w.heap.size+3:=by simp
 obtain ⟨V0,hV0⟩:∃ V,(((w.alloc (.cells TC 40)).alloc (.cells #[.slice none 0 0] 136)).alloc (.cells TC 40))=V:=⟨_,rfl⟩
 rw [hV0] at hh hB0 hsz0 ⊢
 clear hV0
 obtain ⟨hh0,hh1,hh2⟩:=hh
 refine ZEA (β:={b:Nat // w.heap.size+3≤b}) rfl (by decide) (gf:=132) (lb:=#[.pointer (some ⟨w.heap.size+1+1,0,none⟩)]) ?hg trivial (enters_of func132 (by kernel_rfl) rfl)
  (encs:=verV) (Kp:=fun b _ _ A C=>KV w b.1 A C) (Tn:=fun b A C=>TV w b.1 A C) (S:=AllS w t) (Sp:=fun _ _=>True) (N:=9)
  (fun l J Jx W hW hJ hJx hY h0=>(ZIT _ (by decide) l (w.heap.size+1+1) (w.heap.size+3) hA hR w t sa sc ta tc hg HI0.out J Jx hJ hY W (hB0.trans (hW.mono hB0.size)) (by rw [HTC.out];exact (hW.block _ (ZZZ hh2).1).trans hh2) (by have:=hW.size;omega) h0).mono (fun e W' h=>h))
  (fun b A C k o _ hT hk ho=>hT.2.2.2 k o hk (.inr (fun cs fr e=>by subst e;simp [Obj.isCells] at ho)))
  (fun b W0 W1 A C D h k=>ZHI h k) (fun b W0 W1 A C h=>ZNG h hB0.size) (fun _=>rfl)
  (fun b=>AllV w (.cells TC 40 (0,0)) b.1) (fun _ _ _ _=>False) (fun b=>ZKl w TC 40 b.1 _ b.2 hB0.size) (fun _ _ _ _ _ _ h _ _=>h)
  (fun b pre A C h hT=>ZJw h b.2 hT.1 hT.2.1 (fun k cs tt fr hk hne=>hT.2.2.2 k _ hk (.inl hne))) (fun _ _ _ _ _ h _=>h) (ZOf w t _) (fun _ _ _ _ hs _ _=>hs)
  (fun b=>⟨hB0,hh0,by omega,.slice none 0 0,hh1,World.ownsRow_nil _ _ _ _,fun b e=>by simp [Value.ownBlock] at e⟩) ?round ?done ?stop
 case hg=>rfl
 case stop=>exact fun _ _ _ _ _ _ _ h _=>h.elim
 case done=>
  rintro D ⟨bx,hbx⟩ xs W hD hS hI hK
  obtain ⟨hB,hT,hz,v,hbl,hrow,hne⟩:=hI
  obtain ⟨av,cv,rfl⟩:=ZAe hrow
  have hc:=hbl.cell
  have hlen:xs.length=(handed t).length:=by rw [←hS.1];simp
  have w0c:W.cell? ⟨w.heap.size,0,none⟩=some (.string t.nm):=by rw [←HTC.out] at hT;simp [World.cell?,hT]
  have w1c:W.cell? ⟨w.heap.size,1,none⟩=some (.slice sa t.slots.length sc):=by rw [←HTC.out] at hT;simp [World.cell?,hT]
  have w2c:W.cell? ⟨w.heap.size,2,none⟩=some (.slice ta t.steps.length tc):=by rw [←HTC.out] at hT;simp [World.cell?,hT]
  have hwr:=Sc.wrapI (t.steps.length+1) (by omega)
  have hK':W.heap[D]? = some (Obj.deferred (some [])):=hK
  have hDl:w.heap.size≤D:=by omega
  have hrow9:=ownsRow_putObj (W:=W) hrow (Obj.deferred none) hK' rfl
  have hB9:=hB.trans (belowK_b (w:=w) (Nat.le_refl _) W D _ (Obj.deferred none) hDl hK' rfl rfl)
  have hv9:∀ y∈xs,ZD9 w (W.putObj D (Obj.deferred none)) y.1 (vSl y) (vCo y):=fun y hy=>ZFp (hS.2 y hy) fun b cs t fr _ hh=>by
   have hne:b≠D:=fun e=>by subst e;rw [hK] at hh;cases hh
   exact (World.putObj_heap_other hne).trans hh
  cases hv:Sc.vers t with
  |none=>
   have hne9:=ZJt hv
   have e1:((((handed t).length:Nat):Int) != (t.steps.length:Int)+1)=true:=by simp;omega
   gi_wp2
   all_goals
    refine ⟨by simp,.inl ⟨_,_,rfl,run_takeDeferred hK', ?_⟩⟩
    exact ⟨_,results_tmp (t:=2) rfl _ _ _,⟨_,_,rfl⟩,hB9⟩
  |some L=>
   have hL:=(Sc.vers_length hv).1
   have hL9:=ZJs hv
   have hLx:xs.length=L.length:=by rw [hlen,hL9]
   have e1:((((handed t).length:Nat):Int) != (t.steps.length:Int)+1)=false:=by rw [hL9];simp;omega
   obtain ⟨z1,z2,z3⟩:=ZLt hrow9 (hS.1.trans hL9) hv9
   gi_wp2
   all_goals
    refine ⟨by simp,.inl ⟨_,_,rfl,run_takeDeferred hK', ?_⟩⟩
    exact ⟨_,results_tmp (t:=2) rfl _ _ _,⟨_,_,rfl,by omega,z2,z3⟩,hB9⟩
 case round=>
  rintro l ⟨bx,hbx⟩ pre ⟨x,⟨a,nn,c⟩,⟨a',n',c'⟩⟩ W0 W hI0 hTn hI hlt
  refine ZOb (a':=?a2) ?e ?k
  case e=>(simp [verV];rfl)
  case k=>
   gi_wp2
   have hb0A:Below W.heap.size W (W.alloc (.cells #[.slice a nn c,.slice a' n' c'] 146)):=(Below.refl _ W).alloc (Nat.le_refl _) _
   have hIW:=hI
   have hwW:w.heap.size≤W.heap.size:=hI.1.size
   refine ⟨(KeepsOthers.alloc W _).from _,ZKm hb0A hwW,fun W2 htn=>?_⟩
   have hI2:AllV w (.cells TC 40 (0,0)) bx pre W2:=ZBi (ZKl w TC 40 bx _ hbx hB0.size) (ZJw hI hbx (fun h=>h.trans (hb0A.mono hwW)) hb0A.size (fun k cs tt fr hk _=>(hb0A.block _ (ZZZ hk).1).trans hk)) (hsz0 ▸ htn)
   have hs2:W2.heap.size=W.heap.size+1:=by
    obtain ⟨lp,o,o',_,_,_,_,rfl⟩:=htn
    simp
   have hv2:SAtV W2 W.heap.size #[.slice a nn c,.slice a' n' c'] :=ZHJ htn (World.alloc_heap_new W _)
   have hbW:bx<W.heap.size:=hTn.2.2.1
   clear hb0A htn hI hIW hI0 hTn
   obtain ⟨hB2,hT2,hz2,v,hbl2,hrow2,hne2⟩:=hI2
   obtain ⟨av,cv,rfl⟩:=ZAe hrow2
   have hg0:∀ g,(Value.slice av pre.length cv).ownBlock=some g→w.heap.size+3≤g∧g<W2.heap.size:=fun g h=>hrow2.lt g h
   have hc2:=hbl2.cell
   have hf2':=hbl2.frozen
   have v0:=ZIU hv2 0 _ rfl
   have v1:=ZIU hv2 1 _ rfl
   have hrow3:=hrow2.alloc (.cells #[.slice a nn c,.slice a' n' c'] 146)
   gi_wp2_with (gi_at_builtin;refine ZEd _ rfl _ _ 136 rfl (w.heap.size+3) 146 jf _ 2 48 Tryz.underlying136 hjf hf0 hf1 hf2 rfl (by decide) (.slice av pre.length cv) _ _ rfl hrow3 (some ⟨W2.heap.size,0,none⟩) 1 1 [.slice a nn c,.slice a' n' c'] (by simp [hs2];rfl) ⟨rfl,.inr ⟨_,rfl,ZBC _ [_,_] _⟩⟩ (by simp [Value.oneCell']) (by unfold maxLen;omega) (by omega) (by simp;omega) ?_;intro v' w3 hown' hgrow' hwhere;obtain ⟨g',cap',rfl⟩:=ownsRow_succ hown';have hbl3:=ZK7 (hbl2.alloc _) hgrow' hrow3 (by omega);have hc3:=hbl3.cell;have hf3:=hbl3.frozen)
   have hg:(W2.alloc (.cells #[.slice a nn c,.slice a' n' c'] 146)).grownBy w3 (Value.slice av pre.length cv).ownBlock:=hgrow'
   have hA2:Below W2.heap.size W2 (W2.alloc (.cells #[.slice a nn c,.slice a' n' c'] 146)):=(Below.refl _ W2).alloc (Nat.le_refl _) _
   have hw2:w.heap.size≤W2.heap.size:=by omega
   have hgr:∀ g,(Value.slice av pre.length cv).ownBlock=some g→w.heap.size≤g∧g≠bx∧∃ cs t fr,(W2.alloc (.cells #[.slice a nn c,.slice a' n' c'] 146)).heap[g]? = some (.cells cs t fr)∧(t=146∨t=136):=fun g e=>by
    refine ⟨by have:=hg0 g e;omega,hne2 g e, ?_⟩
    rcases hrow3.2 with ⟨hn,_⟩ | ⟨g2,cap2,cur2,hn,_,hh,_⟩
    ·rw [hn] at e;cases e
    ·rw [hn] at e;cases e
     exact ⟨_,_,_,hh,.inl rfl⟩
   have hB3:Below w.heap.size w w3:=ZAE (hB2.alloc hw2 _) hg (fun b e=>(hgr b e).1) (by simp;omega)
   have hset:=ZAJ w3 (w.heap.size+1) 0 (Value.slice (some ⟨g',0,none⟩) (pre.length+1) cap')
   have hs3:=hg.size
   rw [World.size_alloc] at hs3
   have hT3:w3.heap[w.heap.size]? = some (.cells TC 40 (0,0)):=(hg.block _ (by simp;omega) (fun e=>by have:=hg0 _ e.symm;omega)).trans ((hA2.block _ (by omega)).trans hT2)
   have hg3:=hown'.lt g' rfl
   refine ⟨((KeepsOthers.alloc W2 _).trans (ZEi hg hrow3)).trans (KeepsOthers.setCell _ _ _) |>.from _,
    ZHI (ZKm hA2 hw2) (ZHI (ZKn hg hgr) (ZKn hset fun g e=>by cases e;exact ⟨by omega,by omega,_,_,_,hbl3,.inr rfl⟩)),
    ZAE hB3 hset (fun b e=>by cases e;omega) (by omega),(hset.block _ (by omega) (fun e=>by simp at e)).trans hT3,by have:=hset.size;omega,_,hbl3.set _,ZBQ (ZAN hown' hset (fun b e e2=>by simp [Value.ownBlock] at e e2;omega)) (by simp) (by rw [ZJv]),fun b e=>?_⟩
   have e3:g'=b:=by simpa [Value.ownBlock] using e
   rcases hwhere with e2 | e2
   ·exact hne2 _ (e2.symm.trans e)
   ·simp [Value.ownBlock] at e2
    omega
