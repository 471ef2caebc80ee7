/- The program's schema: first (version 1). -/
import Derived.Test.YtcjdfdfphbckaaaGreatMh29Regi
import Derived.Test.YtcjdfdfphbckaaaGreatMh2Regi
import Derived.Test.YtcjdfdfphbckaaaGreatMh3Regi
set_option linter.unusedVariables false
set_option linter.unusedSimpArgs false
set_option maxRecDepth 100000
set_option maxHeartbeats 64000000
open Go.Proofs.Tryz
namespace Go.Proofs.YtcjdfdfphbckaaaGreat
open Go.RowKit Go.Shelf
theorem ZGV (a:Option Addr) (n c:Nat) (w:World):(Instr.build 146 #[(0,.slice a n c)]).run Tryz.prog w=.ok (.agg #[.slice a n c,.slice none 0 0]) w:=run_build w 146 _ _ (by kernel_rfl)
def firstV (t:TemplM):Option Sc.Ver:=if nameB (strB t.nm)=true∧1≤t.slots.length∧t.slots.length≤8∧t.steps.length≤8∧Sc.firstOk t.slots=true then some (Sc.first t.slots) else none
theorem ZFO (w:World) (o1 o2:Obj):((w.alloc o1).alloc o2).heap[w.heap.size+1]? = some o2:=by
 have e:=ZAQ (w.alloc o1) o2
 rwa [World.size_alloc] at e
theorem below2 (w:World) (o1 o2:Obj):Below w.heap.size w ((w.alloc o1).alloc o2):=((Below.refl _ w).alloc (Nat.le_refl _) o1).alloc (by simp) o2
theorem ZFP {w0 w V:World} {o:Option Sc.Ver} {e:Ending} (ho:o=none) (hB:Below w.heap.size w V) (he:e=.returned (.tuple #[.agg #[.slice none 0 0,.slice none 0 0],.bool false])):ZCQ o w0 w e V:=by
 subst ho
 exact ⟨⟨_,_,_,_,_,_,he⟩,hB⟩
def ZDn (w:World) (wr:World) (sa:Option Addr) (n sc q:Nat) (v:Value):Prop:=Below w.heap.size w wr∧wr.heap[w.heap.size+1]? = some (.cells #[.slice none 0 0,.slice none 0 0] 146 (0,0)) ∧
 wr.heap[w.heap.size+1+1]? = some (.cells #[.slice sa n sc,v] 146 (0,0))∧wr.ownsRow (w.heap.size+1+1+1) 3 1 v q (colC (List.range q))∧w.heap.size+1+1+1≤wr.heap.size
theorem ZBZ {w wr W:World} {sa:Option Addr} {n sc q:Nat} {v:Value} (h:ZDn w wr sa n sc q v) (hb:Below wr.heap.size wr W):ZDn w W sa n sc q v:=
 ⟨h.1.trans (hb.mono h.1.size),(hb.block _ (ZZZ h.2.1).1).trans h.2.1,(hb.block _ (ZZZ h.2.2.1).1).trans h.2.2.1,ZAL h.2.2.2.1 hb,Nat.le_trans h.2.2.2.2 hb.size⟩
theorem ZM9 (q:Nat):colC (List.range (q+1))=colC (List.range q) ++ [.int .i64 (q:Int)]:=by
 simp [colC,List.range_succ]
theorem ZFn (W:World) (u:Value) (T:TypeId):ZB7 (W.alloc (.cells #[u] T)) 1 (some ⟨W.heap.size,0,none⟩) 1 [u]:=
 ⟨rfl,.inr ⟨_,rfl,fun j c hj=>by
  have hlt:=(List.getElem?_eq_some_iff.1 hj).1
  obtain rfl:j=0:=by simpa using hlt
  simp only [List.getElem?_cons_zero,Option.some.injEq] at hj
  subst hj
  rw [Addr.add_lit,Nat.zero_add]
  exact ZAB (i:=0) (ZAQ W _) rfl⟩⟩
theorem ZIS {w W U:World} {sa:Option Addr} {n sc q:Nat} {v v':Value} (h:ZDn w W sa n sc q v) (ho:U.ownsRow (w.heap.size+1+1+1) 3 1 v' (q+1) (colC (List.range (q+1)))) (hg:W.grownBy U v.ownBlock) :
  ZDn w (U.setCell ⟨w.heap.size+1+1,1,none⟩ v') sa n sc (q+1) v':=by
 obtain ⟨h1,h2,h3,h4,h5⟩:=h
 have q4:=fun b e=>(ZAV h4 b e).2
 have hUB:=ZAE h1 hg (fun b e=>by have:=q4 b e;omega) (by omega)
 have e2:=(hg.block _ (ZZZ h2).1 (fun e=>by have:=q4 _ e.symm;omega)).trans h2
 have e3:=(hg.block _ (ZZZ h3).1 (fun e=>by have:=q4 _ e.symm;omega)).trans h3
 have hk:=ZAJ U (w.heap.size+1+1) 1 v'
 have qo:=fun b e=>(ZAV ho b e).2
 refine ⟨ZAE hUB hk (fun b e=>by cases e;omega) hUB.size,(hk.block _ (ZZZ e2).1 (fun e=>by injection e;omega)).trans e2, ?_,ZAN ho hk (fun b e1 e2=>by have:=qo b e2;cases e1;omega),by have:=hg.size;have:=hk.size;omega⟩
 obtain ⟨hlt,hh⟩:=ZZZ e3
 show (Array.modify U.heap (w.heap.size+1+1) _)[w.heap.size+1+1]? = _
 rw [Array.getElem?_eq_getElem (by rw [Array.size_modify];exact hlt),Array.getElem_modify_self,hh]
 rfl
theorem ZJr {w W U:World} {sa:Option Addr} {n sc q:Nat} {v:Value} (h:ZDn w W sa n sc q v) (hg:W.grownBy U v.ownBlock):U.heap[w.heap.size+1+1]? = some (.cells #[.slice sa n sc,v] 146 (0,0)):=by
 obtain ⟨h1,h2,h3,h4,h5⟩:=h
 have q4:=fun b e=>(ZAV h4 b e).2
 exact (hg.block _ (ZZZ h3).1 (fun e=>by have:=q4 _ e.symm;omega)).trans h3
theorem ZLr (t:TemplM) (w0 w:World) (X:Value) (hw0:Below w0.heap.size w0 w) (hg:wideT t=false) (hi0:ZA8 w0 t X):Calls Tryz.prog 133 #[X] w (ZCQ (firstV t) w0 w):=by
 obtain ⟨h1,sa,sc,ta,tc,rfl,hsl0,hst⟩:=hi0
 have hsl:=ZAy hw0 hsl0
 have HW0:=ZZY hw0;have HSL0:=ZZY hsl0
 have hN:=fun W=>ZDt t.nm W h1
 have hb0:=fun W=>ZDz W
 obtain ⟨O,hO⟩:∃ O,firstV t=O:=⟨_,rfl⟩
 rw [hO]
 obtain ⟨bn,e1⟩:∃ b,nameB (strB t.nm)=b:=⟨_,rfl⟩
 rw [e1] at hN
 have HN:=ZZY hN
 obtain ⟨nm,slots,steps⟩:=t
 simp only at hsl hst h1 e1 HSL0 ⊢
 have HO:=ZZY hO;have HE:=ZZY e1;have HSL:=ZZY hsl
 obtain ⟨n,hn⟩:∃ n,slots.length=n:=⟨_,rfl⟩
 obtain ⟨m,hm⟩:∃ m,steps.length=m:=⟨_,rfl⟩
 have HNL:=ZZY hn;have HML:=ZZY hm
 have hw2:=below2 w (.cells #[.string nm,.slice sa n sc,.slice ta m tc] 40) (.cells #[.slice none 0 0,.slice none 0 0] 146)
 have HG:=ZZY hg
 have hncap:=hsl.1
 have hcap:=hsl.2.1
 unfold maxLen at hcap
 rw [hn] at hncap
 rw [hn,hm]
 clear hN hO e1 hsl hst hn hm hg h1 hw0 hsl0
 cases bn with
 |false=>
  have hnone:O=none:=by
   rw [←HO.out];unfold firstV
   rw [if_neg (fun h=>by have:=h.1;simp only [HE.out] at this;cases this)]
  go_enter func133,ntmps133
  go_wp2_with (first
   |(go_at_call 128;(with_reducible refine (HN.out _).mono ?_);rintro e w1 ⟨rfl,rfl⟩))
  refine bodyPost_ret (ZAF Tryz.results133 _ _ (w.heap.size+1) _ _ _ _ rfl (ZFO w _ _) Tryz.underlying146 rfl (by kernel_rfl)) rfl ?_
  exact ZFP hnone hw2 rfl
 |true=>
 by_cases hlo:n<1
 ·have hd:decide ((n:Int)<1)=true:=by simp;omega
  have hnone:O=none:=by
   rw [←HO.out];unfold firstV
   rw [if_neg (fun h=>by have:=h.2.1;have:=HNL.out;simp only at *;omega)]
  have HL:=ZZY hlo;clear hlo
  go_enter func133,ntmps133
  go_wp2_with (first
   |(go_at_call 128;(with_reducible refine (HN.out _).mono ?_);rintro e w1 ⟨rfl,rfl⟩))
  refine bodyPost_ret (ZAF Tryz.results133 _ _ (w.heap.size+1) _ _ _ _ rfl (ZFO w _ _) Tryz.underlying146 rfl (by kernel_rfl)) rfl ?_
  exact ZFP hnone hw2 rfl
 have hd1:decide ((n:Int)<1)=false:=by simp;omega
 by_cases hhi:8<n
 ·have hd:decide ((n:Int) > 8)=true:=by simp;omega
  have hnone:O=none:=by
   rw [←HO.out];unfold firstV
   rw [if_neg (fun h=>by have:=h.2.2.1;have:=HNL.out;simp only at *;omega)]
  have HL:=ZZY hlo;have HH:=ZZY hhi;clear hlo hhi
  go_enter func133,ntmps133
  go_wp2_with (first
   |(go_at_call 128;(with_reducible refine (HN.out _).mono ?_);rintro e w1 ⟨rfl,rfl⟩))
  refine bodyPost_ret (ZAF Tryz.results133 _ _ (w.heap.size+1) _ _ _ _ rfl (ZFO w _ _) Tryz.underlying146 rfl (by kernel_rfl)) rfl ?_
  exact ZFP hnone hw2 rfl
 have hd2:decide ((n:Int) > 8)=false:=by simp;omega
 by_cases hms:8<m
 ·have hd:decide ((m:Int) > 8)=true:=by simp;omega
  have hnone:O=none:=by
   rw [←HO.out];unfold firstV
   rw [if_neg (fun h=>by have:=h.2.2.2.1;have:=HML.out;simp only at *;omega)]
  have HL:=ZZY hlo;have HH:=ZZY hhi;have HM:=ZZY hms;clear hlo hhi hms
  go_enter func133,ntmps133
  go_wp2_with (first
   |(go_at_call 128;(with_reducible refine (HN.out _).mono ?_);rintro e w1 ⟨rfl,rfl⟩))
  refine bodyPost_ret (ZAF Tryz.results133 _ _ (w.heap.size+1) _ _ _ _ rfl (ZFO w _ _) Tryz.underlying146 rfl (by kernel_rfl)) rfl ?_
  exact ZFP hnone hw2 rfl
 have hd3:decide ((m:Int) > 8)=false:=by simp;omega
 have hb1:=fun W=>ZGV sa n sc W
 have hlt0:decide ((0:Int)<1)=true:=by decide
 go_enter func133,ntmps133
 go_wp2_with (first
  |(go_at_call 128;(with_reducible refine (HN.out _).mono ?_);rintro e w1 ⟨rfl,rfl⟩))
 obtain ⟨i0,hi,hz0,hz1,hz2⟩:=info_parts ZCi
 go_loopw [36] (fun i wr=>∃ (q:Nat) (v:Value),q≤n∧i=.int .i64 (q:Int)∧ZDn w wr sa n sc q v∧Hid (∀ j,j<q→Sc.sound (slots[j]?.getD default)=true∧Sc.col ⟨slots,List.range j⟩ (slots[j]?.getD default).nm=none)) (fun i _=>n-(intOf i).toNat)
 case atStart=>
  have hh:=heap3 (Below.refl _ (((w.alloc (.cells #[.string nm,.slice sa n sc,.slice ta m tc] 40)).alloc (.cells #[.slice none 0 0,.slice none 0 0] 146)).alloc (.cells #[.slice sa n sc,.slice none 0 0] 146)))
  exact ⟨0,.slice none 0 0,Nat.zero_le _,rfl,⟨below3 w _ _ _,hh.2.1,hh.2.2,World.ownsRow_nil _ _ _ _,by simp⟩,ZZY (fun j hj=>by omega)⟩
 case round=>
  obtain ⟨q,v,hq,rfl,hF,hall⟩:=hrel
  obtain ⟨va,vc,rfl,hrv⟩:=ZBg hF.2.2.2.1
  rcases Nat.lt_or_ge q n with hlt | hge
  ·have hd:decide ((q:Int)<(n:Int))=true:=by simp;omega
   have hnl:=HNL.out
   obtain ⟨s,hs⟩:∃ s,slots[q]? = some s:=⟨slots[q],List.getElem?_eq_getElem (by omega)⟩
   obtain ⟨sb,so,rfl,hrow⟩:∃ b off,sa=some ⟨b,off,none⟩∧∀ i s,slots[i]? = some s→ZCS w b (off+i*7) s:=by
    rcases HSL.out.2.2 with h | h
    ·subst h;simp at hnl;omega
    ·exact h
   obtain ⟨k,nn,tx,a,len,cap,⟨g0,g1,g2,g3,g4,g5,g6⟩,hI,hsn,hdf⟩:=ZBR (hrow q s hs)
   have hsz:szV s.df≤1000000:=by
    refine Nat.le_trans (ZFJ _ ?_) (by omega)
    have hgt:=HG.out
    unfold wideT at hgt
    simp only [Bool.or_eq_false_iff] at hgt
    have h3:=List.any_eq_false.1 hgt.2.1 s (List.mem_of_getElem? hs)
    unfold wideS at h3
    simp only [Bool.or_eq_true,not_or,Bool.not_eq_true] at h3
    exact h3.1
   obtain ⟨bs,hbs⟩:∃ b,Sc.sound s=b:=⟨_,rfl⟩
   obtain ⟨R,hR⟩:∃ R,Sc.colI ⟨slots,List.range q⟩ s.nm=R:=⟨_,rfl⟩
   have hRt:=fun W (hb:Below w.heap.size w W)=>ZGO s hsz W (.agg #[.string s.nm,.int .i64 s.ty,.bool s.rq,.int .i64 k,.int .i64 nn,.string tx,.slice a len cap]) (ZAn hb ⟨_,_,_,_,_,_,_,rfl,hsn,hI,rfl,rfl,rfl,hdf⟩)
   rw [hbs] at hRt
   have hCl:∀ W,ZDn w W (some ⟨sb,so,none⟩) n sc q (.slice va q vc)→Calls Tryz.prog 140 #[.agg #[.slice (some ⟨sb,so,none⟩) n sc,.slice va q vc],.string s.nm] W fun e w'=>e=.returned (.int .i64 R)∧Below W.heap.size W w':=fun W hW=>by
    obtain ⟨va',vc',e2,hrW⟩:=ZBg hW.2.2.2.1
    injection e2 with e2a e2b e2c
    subst e2a e2c
    have h:=ZKD ⟨slots,List.range q⟩ (some ⟨sb,so,none⟩) sc va vc s.nm W (fun c hc=>by simp at hc;simp only;omega) hsn ⟨ZAy hW.1 HSL.out,by simp only [List.length_range];exact hrW⟩
    simp only [List.length_range] at h
    rw [HNL.out,hR] at h
    exact h
   have hF0:ZDn w (wr.alloc (.cells #[.string s.nm,.int .i64 s.ty,.bool s.rq,.int .i64 k,.int .i64 nn,.string tx,.slice a len cap] 51)) (some ⟨sb,so,none⟩) n sc q (.slice va q vc):=ZBZ hF ((Below.refl _ _).alloc (Nat.le_refl _) _)
   have hFB0:=hF0.1
   have hzz:=ZAB (i:=0) (v:=.string s.nm) (ZAQ wr (.cells #[.string s.nm,.int .i64 s.ty,.bool s.rq,.int .i64 k,.int .i64 nn,.string tx,.slice a len cap] 51)) rfl
   have y0:=ZAA hF.1 g0
   have y1:=ZAA hF.1 g1
   have y2:=ZAA hF.1 g2
   have y3:=ZAA hF.1 g3
   have y4:=ZAA hF.1 g4
   have y5:=ZAA hF.1 g5
   have y6:=ZAA hF.1 g6
   have hsq:slots[q]?.getD default=s:=by rw [hs];rfl
   have hbad:(bs=false∨0≤R)→O=none:=fun hor=>by
    rw [←HO.out];unfold firstV
    rw [if_neg]
    rintro ⟨_,_,_,_,h5⟩
    have h6:=(Sc.firstOk_iff slots).1 h5 q (by omega)
    rw [hsq,hbs] at h6
    rcases hor with h | h
    ·rw [h] at h6;cases h6.1
    ·have:=(Sc.colI_neg _ _).2 h6.2
     rw [hR] at this
     omega
   have hgood:bs=true→R<0→∀ j,j<q+1→Sc.sound (slots[j]?.getD default)=true∧Sc.col ⟨slots,List.range j⟩ (slots[j]?.getD default).nm=none:=fun h1 h2 j hj=>by
    rcases Nat.lt_or_ge j q with h | h
    ·exact hall.out j h
    ·obtain rfl:j=q:=by omega
     rw [hsq,hbs]
     exact ⟨h1,(Sc.colI_neg _ _).1 (by rw [hR];exact h2)⟩
   have HRt:=ZZY hRt;have HCl:=ZZY hCl;have HBAD:=ZZY hbad;have HGOOD:=ZZY hgood
   have hown:=hF.2.2.2.1
   have HSN:=ZZY hsn
   clear hRt hCl hbad hgood hrow g0 g1 g2 g3 g4 g5 g6 hdf hs hbs hR hsq hsz hnl hrv hI hsn hown
   cases bs with
   |false=>
    have hnone:=HBAD.out (.inl rfl)
    go_wp2_with (first
     |(go_at_call 139;(with_reducible refine (HRt.out _ hFB0).mono ?_);rintro e w1 ⟨rfl,hB1⟩;have hF1:=ZBZ hF0 hB1;obtain ⟨f0,f1,f2,f3⟩:=ZAD hF1.2.1;obtain ⟨j0,j1,j2,j3⟩:=ZAD hF1.2.2.1;have z0:=ZAA hB1 hzz))
    refine bodyPost_ret (ZAF Tryz.results133 _ _ (w.heap.size+1) _ _ _ _ rfl (ZAd _ _ hF1.2.1 hF1.1 (by omega)).1 Tryz.underlying146 rfl (by kernel_rfl)) rfl ?_
    exact ZBY hnone hF1.2.1 hF1.1 (by omega) rfl
   |true=>
    by_cases hRp:0≤R
    ·have hnone:=HBAD.out (.inr hRp)
     have hdr:decide (R≥0)=true:=by simpa using hRp
     have HRP:=ZZY hRp;clear hRp
     go_wp2_with (first
      |(go_at_call 139;(with_reducible refine (HRt.out _ hFB0).mono ?_);rintro e w1 ⟨rfl,hB1⟩;have hF1:=ZBZ hF0 hB1;obtain ⟨f0,f1,f2,f3⟩:=ZAD hF1.2.1;obtain ⟨j0,j1,j2,j3⟩:=ZAD hF1.2.2.1;have z0:=ZAA hB1 hzz)
      |(go_at_call 140;(with_reducible refine (HCl.out _ hF1).mono ?_);rintro e w2 ⟨rfl,hB2⟩;have hF2:=ZBZ hF1 hB2;obtain ⟨f0,f1,f2,f3⟩:=ZAD hF2.2.1;obtain ⟨j0,j1,j2,j3⟩:=ZAD hF2.2.2.1))
     refine bodyPost_ret (ZAF Tryz.results133 _ _ (w.heap.size+1) _ _ _ _ rfl (ZAd _ _ hF2.2.1 hF2.1 (by omega)).1 Tryz.underlying146 rfl (by kernel_rfl)) rfl ?_
     exact ZBY hnone hF2.2.1 hF2.1 (by omega) rfl
    ·have hdr:decide (R≥0)=false:=by simpa using hRp
     have hnext:=HGOOD.out rfl (by omega)
     have HNX:=ZZY hnext;have HRP:=ZZY hRp;clear hRp hnext
     go_wp2_with (first
      |(go_at_call 139;(with_reducible refine (HRt.out _ hFB0).mono ?_);rintro e w1 ⟨rfl,hB1⟩;have hF1:=ZBZ hF0 hB1;obtain ⟨f0,f1,f2,f3⟩:=ZAD hF1.2.1;obtain ⟨j0,j1,j2,j3⟩:=ZAD hF1.2.2.1;have z0:=ZAA hB1 hzz)
      |(go_at_call 140;(with_reducible refine (HCl.out _ hF1).mono ?_);rintro e w2 ⟨rfl,hB2⟩;have hF2:=ZBZ hF1 hB2;obtain ⟨f0,f1,f2,f3⟩:=ZAD hF2.2.1;obtain ⟨j0,j1,j2,j3⟩:=ZAD hF2.2.2.1)
      |(at_builtin;refine ZAj _ rfl _ _ 52 rfl (w.heap.size+1+1+1) 3 i0 _ 1 8 Tryz.underlying52 hi hz0 hz1 hz2 rfl (by decide) (.slice va q vc) q (colC (List.range q)) rfl (ZAL hF2.2.2.2.1 ((Below.refl _ _).alloc (Nat.le_refl _) _)) (some ⟨w2.heap.size,0,none⟩) 1 1 [.int .i64 (q:Int)] rfl (ZFn w2 _ _) (by simp [Value.oneCell']) (by unfold maxLen;omega) (by omega) (ZBZ hF2 ((Below.refl _ _).alloc (Nat.le_refl _) _)).2.2.2.2 ?_;intro v3 w3 ho3 hg3 _;rw [←ZM9] at ho3;obtain ⟨a3,c3,rfl⟩:=ZAe ho3;obtain ⟨j0,j1,j2,j3⟩:=ZAD (ZJr (ZBZ hF2 ((Below.refl _ _).alloc (Nat.le_refl _) _)) hg3);have hF3:=ZIS (ZBZ hF2 ((Below.refl _ _).alloc (Nat.le_refl _) _)) ho3 hg3))
     go_roundw
     case rel=>exact ⟨q+1,_,by omega,by go_num,hF3,HNX⟩
     case measure=>simp [intOf];omega
  ·obtain rfl:q=n:=by omega
   have hd:decide ((q:Int)<(q:Int))=false:=by simp
   have hgood:O=some (Sc.first slots):=by
    rw [←HO.out];unfold firstV
    rw [if_pos ⟨HE.out,by have:=HNL.out;simp only at *;omega,by have:=HNL.out;simp only at *;omega,by have:=HML.out;simp only at *;omega,(Sc.firstOk_iff slots).2 fun j hj=>hall.out j (by have:=HNL.out;omega)⟩]
   have HGD:=ZZY hgood
   clear hgood
   have hH:=hF.2.1
   have hBw:=hF.1
   obtain ⟨f0,f1,f2,f3⟩:=ZAD hF.2.1
   obtain ⟨j0,j1,j2,j3⟩:=ZAD hF.2.2.1
   go_wp2
   refine bodyPost_ret (ZAF Tryz.results133 _ _ (w.heap.size+1) _ _ _ _ rfl (ZAd _ _ hH hBw (by omega)).1 Tryz.underlying146 rfl (by kernel_rfl)) rfl ?_
   have hout:=ZAd (.slice sa q sc) (.slice va q vc) hH hBw (by omega)
   have hw0:=HW0.out
   have hwz:=hw0.size
   have hkp2:=ZB9 (.slice sa q sc) (.slice va q vc) (hw0.trans (hBw.mono hw0.size)) hH (by omega)
   have ho:=ZDF (ZAH hF.2.2.2.1 (show w0.heap.size≤w.heap.size+1+1+1 by omega)) (.inr rfl) hkp2
   rw [HGD.out]
   refine ⟨⟨.slice sa q sc,.slice va q vc,rfl,.inl ⟨sa,sc, ?_,HSL0.out⟩,.inr ?_⟩,hout.2⟩
   ·show _=Value.slice sa slots.length sc
    rw [HNL.out]
   ·show World.ownsRow _ _ _ _ _ (List.range slots.length).length (colC (List.range slots.length))
    rw [List.length_range,HNL.out]
    exact ho
