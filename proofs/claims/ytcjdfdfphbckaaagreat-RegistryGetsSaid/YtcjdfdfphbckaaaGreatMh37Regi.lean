/- The program's schema: reorder. (Made by gen_spo.py.) -/
import Derived.Test.YtcjdfdfphbckaaaGreatMh29Regi
import Derived.Test.YtcjdfdfphbckaaaGreatMh30Regi
import Derived.BigQuiet
import Derived.Deep.RegionHeldLaw
set_option linter.unusedVariables false
set_option linter.unusedSimpArgs false
set_option maxRecDepth 100000
set_option maxHeartbeats 64000000
open Go.Proofs.Tryz
namespace Go.Proofs.YtcjdfdfphbckaaaGreat
open Go.RowKit Go.Shelf
def ZJy (w W:World) (bb:Nat) (sa:Option Addr) (n sc:Nat) (ca:Option Addr) (m cc q:Nat) (v:Value) (cs:List Value):Prop:=Below w.heap.size w W∧W.heap[w.heap.size+1+1]? = some (.cells #[.slice none 0 0,.slice none 0 0] 146 (0,0)) ∧
 W.heap[bb]? = some (.cells #[.slice sa n sc,v] 146 (0,0))∧W.heap[w.heap.size]? = some (.cells #[.slice sa n sc,.slice ca m cc] 146 (0,0))∧W.ownsRow (bb+1) 3 1 v q cs∧bb<W.heap.size∧w.heap.size+1+1<bb
theorem ZCu {w W W':World} {bb:Nat} {sa:Option Addr} {n sc:Nat} {ca:Option Addr} {m cc q:Nat} {v:Value} {cs:List Value} (h:ZJy w W bb sa n sc ca m cc q v cs) (hb:Below W.heap.size W W'):ZJy w W' bb sa n sc ca m cc q v cs:=
 ⟨h.1.trans (hb.mono h.1.size),(hb.block _ (ZZZ h.2.1).1).trans h.2.1,(hb.block _ (ZZZ h.2.2.1).1).trans h.2.2.1,(hb.block _ (ZZZ h.2.2.2.1).1).trans h.2.2.2.1,ZAL h.2.2.2.2.1 hb,Nat.lt_of_lt_of_le h.2.2.2.2.2.1 hb.size,h.2.2.2.2.2.2⟩
theorem ZFq {w W U:World} {bb:Nat} {sa:Option Addr} {n sc:Nat} {ca:Option Addr} {m cc q:Nat} {v:Value} {cs:List Value} (h:ZJy w W bb sa n sc ca m cc q v cs) (hg:W.grownBy U v.ownBlock):U.heap[bb]? = some (.cells #[.slice sa n sc,v] 146 (0,0)):=by
 have q4:=fun b e=>(ZAV h.2.2.2.2.1 b e).2
 exact (hg.block _ (ZZZ h.2.2.1).1 (fun e=>by have:=q4 _ e.symm;omega)).trans h.2.2.1
theorem ZGX {w W U:World} {bb:Nat} {sa:Option Addr} {n sc:Nat} {ca:Option Addr} {m cc q q':Nat} {v v':Value} {cs cs':List Value} (h:ZJy w W bb sa n sc ca m cc q v cs) (ho:U.ownsRow (bb+1) 3 1 v' q' cs') (hg:W.grownBy U v.ownBlock) :
  ZJy w (U.setCell ⟨bb,1,none⟩ v') bb sa n sc ca m cc q' v' cs':=by
 have e3:=ZFq h hg
 obtain ⟨h1,h2,h3,h3',h4,h5,h6⟩:=h
 have q4:=fun b e=>(ZAV h4 b e).2
 have hUB:=ZAE h1 hg (fun b e=>by have:=q4 b e;omega) h1.size
 have e2:=(hg.block _ (ZZZ h2).1 (fun e=>by have:=q4 _ e.symm;omega)).trans h2
 have e4:=(hg.block _ (ZZZ h3').1 (fun e=>by have:=q4 _ e.symm;omega)).trans h3'
 have hk:=ZAJ U bb 1 v'
 have qo:=fun b e=>(ZAV ho b e).2
 refine ⟨ZAE hUB hk (fun b e=>by cases e;omega) hUB.size,(hk.block _ (ZZZ e2).1 (fun e=>by injection e;omega)).trans e2, ?_,(hk.block _ (ZZZ e4).1 (fun e=>by injection e;omega)).trans e4,ZAN ho hk (fun b e1 e2=>by have:=qo b e2;cases e1;omega),Nat.lt_of_lt_of_le (Nat.lt_of_lt_of_le h5 hg.size) hk.size,h6⟩
 obtain ⟨hlt,hh⟩:=ZZZ e3
 show (Array.modify U.heap bb _)[bb]? = _
 rw [Array.getElem?_eq_getElem (by rw [Array.size_modify];exact hlt),Array.getElem_modify_self,hh]
 rfl
theorem ZLu (w:World) (oa:Option Addr) (oc:Nat) (od:List Int) (h:Row w .i64 oa od.length oc od) (ho:∀ y∈od,I64 y):ZA3 w ⟨0,0,⟨⟨#[]⟩,0,false,Sc.nilV⟩,od⟩ (.agg #[.int .i64 0,.int .i64 0,.string ⟨#[]⟩,.int .i64 0,.bool false,.int .i64 0,.int .i64 0,.string ⟨#[]⟩,.slice none 0 0,.slice oa od.length oc]):=
 ⟨_,_,_,_,_,_,_,oa,oc,rfl,ZB8,ZB8,⟨Nat.zero_le _,ZB8,rfl,rfl,rfl,ZH5 w⟩,h,ho⟩
def reoC (x:Sc.Ver) (od:List Int) (q:Nat):List Nat:=(od.take q).map fun i=>x.cols[i.toNat]?.getD 0
theorem ZIV (x:Sc.Ver) (od:List Int) (q k c:Nat) (h:od[q]? = some (k:Int)) (hc:x.cols[k]? = some c):colC (reoC x od (q+1))=colC (reoC x od q) ++ [.int .i64 (c:Int)]:=by
 unfold reoC colC
 rw [List.take_add_one,h]
 simp [hc]
theorem ZKo (x:Sc.Ver) (od:List Int) (q:Nat) (h:q≤od.length):(reoC x od q).length=q:=by
 unfold reoC
 rw [List.length_map,List.length_take,Nat.min_eq_left h]
theorem ZPp {x:Sc.Ver} {od:List Int} {q k c:Nat} (hnd:x.cols.Nodup) (hin:∀ j,j<q→∃ i:Nat,od[j]? = some (i:Int)∧i<x.cols.length) (hk:x.cols[k]? = some c):((c:Int)∈(reoC x od q).map Int.ofNat) ↔ (k:Int)∈od.take q:=by
 unfold reoC
 constructor
 ·intro h
  obtain ⟨c',h1,e⟩:=List.mem_map.1 h
  obtain ⟨i,h2,e2⟩:=List.mem_map.1 h1
  obtain ⟨j,hj⟩:=List.mem_iff_getElem?.1 h2
  rw [List.getElem?_take] at hj
  split at hj
  ·rename_i hjq
   obtain ⟨i',h3,h4⟩:=hin j hjq
   rw [h3] at hj
   cases hj
   rw [Int.toNat_natCast,List.getElem?_eq_getElem h4] at e2
   simp only [Option.getD_some] at e2
   have e3:x.cols[i']? = some c:=by
    rw [List.getElem?_eq_getElem h4]
    have:(c':Int)=(c:Int):=e
    congr 1
    omega
   have:=Sc.nodup_at hnd e3 hk
   subst this
   exact h2
  ·cases hj
 ·intro h
  exact List.mem_map.2 ⟨c,List.mem_map.2 ⟨(k:Int),h,by rw [Int.toNat_natCast,hk];rfl⟩,rfl⟩
theorem ZGY {l:List Int} {q:Nat} {x:Int} (h:(l.take q).Nodup) (hx:l[q]? = some x) (hn:¬x∈l.take q):(l.take (q+1)).Nodup:=by
 rw [List.take_add_one,hx]
 refine List.nodup_append.2 ⟨h,List.nodup_cons.2 ⟨List.not_mem_nil,List.nodup_nil⟩,fun a ha b hb=>?_⟩
 simp at hb
 subst hb
 rintro rfl
 exact hn ha
theorem ZD2 {W U:World} {row:Option Nat} {b i:Nat} {v:Value} (h:W.cell? ⟨b,i,none⟩=some v) (hg:W.grownBy U row) (hne:some b≠row):U.cell? ⟨b,i,none⟩=some v:=by
 rw [←h]
 simp only [World.cell?,hg.block b (ZDy h) hne]
theorem ZJz:ZIM 151 5:=fun x s sa sc ca cc cs w0 w X hk hok hin hs0 _=>by
 have hs:=ZBB hin.below hs0
 have hst:=Sc.step5 (x:=x) hk
 have HIN:=ZZY hin
 have hv:=hin.ver
 clear hin hs0
 obtain ⟨k,n,tx,a,len,cap,oa,oc,rfl,hI1,hI2,hI3,hnm,hi,hr,ho⟩:=ZBF hs
 have h1:=fun W (hb:Below w.heap.size w W)=>ZEg s _ W _ _ (ZBB hb hs) (ZLu W oa oc s.od (ZAk hr hb rfl) ho)
 have h2:=fun z W=>ZG3 (.slice sa x.slots.length sc) ca x.cols.length cc z W
 have hb1:=fun W=>ZLa oa s.od.length oc W
 have hb2:=fun W=>ZGV sa x.slots.length sc W
 have hb0:=fun W=>ZDz W
 obtain ⟨O,hO⟩:∃ O,Sc.step x s=O:=⟨_,rfl⟩
 rw [hO] at hst ⊢
 obtain ⟨b0,e0⟩:∃ b,onlyB s ⟨0,0,⟨⟨#[]⟩,0,false,Sc.nilV⟩,s.od⟩=b:=⟨_,rfl⟩
 rw [e0] at h1 hst
 obtain ⟨kd,col,⟨nm,ty,rq,df⟩,od⟩:=s
 simp only at h1 h2 hst hb1 hb2 hr ho ⊢
 have HO1:=ZZY h1;have HO2:=ZZY h2
 have HST:=ZZY hst;have HV:=ZZY hv;have HOK:=ZZY hok;have HR:=ZZY hr
 obtain ⟨sn,hsn⟩:∃ sn,x.slots.length=sn:=⟨_,rfl⟩
 obtain ⟨cn,hcn⟩:∃ cn,x.cols.length=cn:=⟨_,rfl⟩
 obtain ⟨ol,hol⟩:∃ ol,od.length=ol:=⟨_,rfl⟩
 have hocc:=hr.2.1
 have hocm:=hr.2.2.1
 have hcc:=hv.2.2.1
 have hccm:=hv.2.2.2.1
 have hc8:=hok.len
 unfold maxLen at hocm hccm
 rw [hol] at hocc
 rw [hcn] at hcc hc8
 rw [hsn,hcn] at HO2
 rw [hol] at HO1 hb1
 rw [hsn] at hb2
 rw [hsn,hcn,hol]
 have HSN:=ZZY hsn;have HCN:=ZZY hcn;have HOL:=ZZY hol
 clear h1 h2 hst e0 hv hok hs hi hr ho hI1 hI2 hI3 hk hO hsn hcn hnm hol
 cases b0 with
 |false=>
  have hnone:O=none:=by rw [HST.out];simp
  go_enter func151,ntmps151
  go_wp2_with (first
   |(go_at_call 155;(with_reducible refine (HO1.out _ (below3 w _ _ _)).mono ?_);rintro e w1 ⟨rfl,hB1⟩;obtain ⟨g0,g1,hH⟩:=heap3 hB1;have x0:=ZAB (i:=0) (v:=.slice sa sn sc) g0 rfl;have x1:=ZAB (i:=1) (v:=.slice ca cn cc) g0 rfl;have t9:=ZAB (i:=9) (v:=.slice oa ol oc) g1 rfl;clear g1;obtain ⟨f0,f1,f2,f3⟩:=ZAD hH;have hBw:=(below3 w _ _ _).trans (hB1.mono (below3 w _ _ _).size)))
  refine bodyPost_ret (ZAF Tryz.results151 _ _ (w.heap.size+1+1) _ _ _ _ rfl (ZAd _ _ hH hBw (by omega)).1 Tryz.underlying146 rfl (by kernel_rfl)) rfl ?_
  exact ZBY hnone hH hBw (by omega) rfl
 |true=>
 by_cases hl:ol=cn
 rotate_left
 ·have hnone:O=none:=by
   rw [HST.out,HOL.out,HCN.out,decide_eq_false hl];simp
  have hd:((ol:Int) != (cn:Int))=true:=by simp;omega
  have HL:=ZZY hl;clear hl
  go_enter func151,ntmps151
  go_wp2_with (first
   |(go_at_call 155;(with_reducible refine (HO1.out _ (below3 w _ _ _)).mono ?_);rintro e w1 ⟨rfl,hB1⟩;obtain ⟨g0,g1,hH⟩:=heap3 hB1;have x0:=ZAB (i:=0) (v:=.slice sa sn sc) g0 rfl;have x1:=ZAB (i:=1) (v:=.slice ca cn cc) g0 rfl;have t9:=ZAB (i:=9) (v:=.slice oa ol oc) g1 rfl;clear g1;obtain ⟨f0,f1,f2,f3⟩:=ZAD hH;have hBw:=(below3 w _ _ _).trans (hB1.mono (below3 w _ _ _).size)))
  refine bodyPost_ret (ZAF Tryz.results151 _ _ (w.heap.size+1+1) _ _ _ _ rfl (ZAd _ _ hH hBw (by omega)).1 Tryz.underlying146 rfl (by kernel_rfl)) rfl ?_
  exact ZBY hnone hH hBw (by omega) rfl
 have hd:((ol:Int) != (cn:Int))=false:=by simp;omega
 have HL:=ZZY hl
 clear hl
 go_enter func151,ntmps151
 go_wp2_with (first
  |(go_at_call 155;(with_reducible refine (HO1.out _ (below3 w _ _ _)).mono ?_);rintro e w1 ⟨rfl,hB1⟩;obtain ⟨g0,g1,hH⟩:=heap3 hB1;have x0:=ZAB (i:=0) (v:=.slice sa sn sc) g0 rfl;have x1:=ZAB (i:=1) (v:=.slice ca cn cc) g0 rfl;have t9:=ZAB (i:=9) (v:=.slice oa ol oc) g1 rfl;clear g1;obtain ⟨f0,f1,f2,f3⟩:=ZAD hH;have hBw:=(below3 w _ _ _).trans (hB1.mono (below3 w _ _ _).size);have t9q:=ZAA ((Below.refl _ w1).alloc (Nat.le_refl _) (.cells #[.slice sa sn sc,.slice none 0 0] 146)) t9))
 obtain ⟨bb,hbb⟩:∃ b,w1.heap.size=b:=⟨_,rfl⟩
 have hlt1:=(ZZZ hH).1
 have hA1:=(Below.refl _ w1).alloc (Nat.le_refl _) (.cells #[.slice sa sn sc,.slice none 0 0] 146)
 have hR0:ZJy w (w1.alloc (.cells #[.slice sa sn sc,.slice none 0 0] 146)) w1.heap.size sa sn sc ca cn cc 0 (.slice none 0 0) []:=
  ⟨hBw.trans (hA1.mono hBw.size),(hA1.block _ hlt1).trans hH,ZAQ w1 _,(hA1.block _ (ZZZ g0).1).trans g0,World.ownsRow_nil _ _ _ _,by simp,hlt1⟩
 have hc8':ol≤8:=by have:=HL.out;omega
 obtain ⟨i0,hi,hz0,hz1,hz2⟩:=info_parts ZCi
 rw [hbb] at hR0 ⊢
 clear hA1 hbb hH x0 x1 t9 t9q g0 f0 f1 f2 f3 hlt1 hBw hB1
 go_loopw [31] (fun i wr=>∃ (q:Nat) (v:Value),q≤ol∧i=.int .i64 (q:Int)∧ZJy w wr bb sa sn sc ca cn cc q v (colC (reoC x od q))∧Hid ((∀ j,j<q→∃ i:Nat,od[j]? = some (i:Int)∧i<x.cols.length)∧(od.take q).Nodup)) (fun i _=>ol-(intOf i).toNat)
 case atStart=>exact ⟨0,.slice none 0 0,Nat.zero_le _,rfl,hR0,ZZY ⟨fun j hj=>by omega,by rw [List.take_zero];exact List.nodup_nil⟩⟩
 case round=>
  clear hR0
  obtain ⟨q,v,hq,rfl,hR,hall⟩:=hrel
  obtain ⟨va,vc,rfl,hrv⟩:=ZBg hR.2.2.2.2.1
  rcases Nat.lt_or_ge q ol with hlt | hge
  ·have hdq:decide ((q:Int)<(ol:Int))=true:=by simp;omega
   have hole:=HOL.out
   obtain ⟨z,hz⟩:∃ z,od[q]? = some z:=⟨od[q],List.getElem?_eq_getElem (by omega)⟩
   obtain ⟨ob,oo,rfl,hoc⟩:∃ b off,oa=some ⟨b,off,none⟩∧∀ i,i<od.length→w.cell? ⟨b,off+i,none⟩=some (.int .i64 (od[i]?.getD 0)):=by
    rcases HR.out.2.2.2 with h | h
    ·omega
    ·exact h
   have yo:=ZAA hR.1 (hoc q (by omega))
   rw [hz] at yo
   simp only [Option.getD_some] at yo
   obtain ⟨y0,y1,_,_⟩:=ZAD hR.2.2.2.1
   obtain ⟨j0,j1,_,_⟩:=ZAD hR.2.2.1
   have hfail:(¬(0≤z∧z<(cn:Int))∨z∈od.take q)→O=none:=fun hor=>by
    rw [HST.out]
    rw [if_neg]
    intro hc
    simp only [Bool.true_and,Bool.and_eq_true,decide_eq_true_eq] at hc
    obtain ⟨hin,hnd⟩:=(Sc.once_iff od x.cols.length hc.1).1 hc.2
    rcases hor with h | h
    ·have:=hin z (List.mem_of_getElem? hz)
     rw [HCN.out] at this
     exact h this
    ·obtain ⟨j,hj⟩:=List.mem_iff_getElem?.1 h
     rw [List.getElem?_take] at hj
     split at hj
     ·have:=Sc.nodup_at hnd hj hz
      omega
     ·cases hj
   have HF:=ZZY hfail
   have HZ:=ZZY hz
   clear hfail hoc hz hole
   by_cases hzr:0≤z∧z<(cn:Int)
   rotate_left
   ·have hnone:=HF.out (.inl hzr)
    have hbz:(decide (0≤z) && decide (z<(cn:Int)))=false:=by
     cases hx:(decide (0≤z) && decide (z<(cn:Int))) with
     |false=>rfl
     |true=>simp only [Bool.and_eq_true,decide_eq_true_eq] at hx;exact absurd hx hzr
    have hHz:=fun W=>by have h:=HO2.out z W;rw [hbz] at h;exact h
    have HO3:=ZZY hHz
    have HZR:=ZZY hzr
    clear hzr hbz hHz
    go_wp2
    refine wp_region_quiet (C:=fun W=>Below wr.heap.size wr W) (by kernel_rfl) (by kernel_rfl) (ZAI wr) ?_
    iterate 14 (first
     |((with_reducible refine BigFrame.wpQuiet_skip ?_ ?_);(focus rfl);simp only [Act.put,ZZX,ZZW,ZZV])
     |((with_reducible refine BigFrame.wpQuiet_want ?_ (fun K hK=>?_))
       focus rfl
       apply ZAq
       ·intro W hC
        unfold Oper.quietAt
        have HC:=ZZY hC
        have z0:=ZAA hC y0
        have z1:=ZAA hC y1
        have z2:=ZAA hC j0
        have z3:=ZAA hC j1
        clear hC
        go_simp
        first
         |done
         |with_reducible rfl
         |((with_reducible refine (HO3.out _).mono ?_);exact fun e w' ⟨he,hb⟩=>⟨he,HC.out.trans (hb.mono HC.out.size)⟩)
       (with_reducible refine hK _ ?_);clear hK K;simp only [Act.put,ZZX,ZZW,ZZV]))
    refine wpQuiet_nil ?_
    intro W9 hB9
    (try simp only at hB9)
    have hR9:=ZCu hR hB9
    obtain ⟨f0,f1,f2,f3⟩:=ZAD hR9.2.1
    go_wp2
    refine bodyPost_ret (ZAF Tryz.results151 _ _ (w.heap.size+1+1) _ _ _ _ rfl (ZAd _ _ hR9.2.1 hR9.1 (by omega)).1 Tryz.underlying146 rfl (by kernel_rfl)) rfl ?_
    exact ZBY hnone hR9.2.1 hR9.1 (by omega) rfl
   obtain ⟨hz0',hz1'⟩:=hzr
   obtain ⟨kI,rfl⟩:∃ kI:Nat,z=(kI:Int):=⟨z.toNat,by omega⟩
   have hkl:kI<x.cols.length:=by rw [HCN.out];omega
   obtain ⟨c,hc⟩:∃ c,x.cols[kI]? = some c:=⟨x.cols[kI],List.getElem?_eq_getElem hkl⟩
   obtain ⟨cb,co,rfl,hcol⟩:∃ b off,ca=some ⟨b,off,none⟩∧∀ i,i<x.cols.length→w.cell? ⟨b,off+i,none⟩=some (.int .i64 ((x.cols.map Int.ofNat)[i]?.getD 0)):=by
    rcases HV.out.2.2.2.2 with h | h
    ·omega
    ·exact h
   have ye:=hcol kI hkl
   rw [List.getElem?_map,hc] at ye
   simp only [Option.map_some,Option.getD_some,Int.ofNat_eq_natCast] at ye
   replace ye:=ZAA hR.1 ye
   have hbz:(decide (0≤(kI:Int)) && decide ((kI:Int)<(cn:Int)))=true:=by simp;omega
   have hHz:=fun W=>by have h:=HO2.out (kI:Int) W;rw [hbz] at h;exact h
   have HO3:=ZZY hHz
   have hq8:=ZKo x od q (by rw [HOL.out];omega)
   have hCo:=fun W (hb:Below wr.heap.size wr W)=>ZIo va q vc ((reoC x od q).map Int.ofNat) (c:Int) W (by
    have h:=ZAk hrv hb rfl
    exact h)
   have hmem:=ZPp (x:=x) (od:=od) (q:=q) HOK.out.nodup hall.out.1 hc
   have hdk:decide ((kI:Int)<(cn:Int))=true:=by simp;omega
   obtain ⟨bc,hbc⟩:∃ b,decide ((c:Int)∈(reoC x od q).map Int.ofNat)=b:=⟨_,rfl⟩
   rw [hbc] at hCo
   have HCo:=ZZY hCo
   have HC9:=ZZY hc
   have HM:=ZZY hmem;have HBC:=ZZY hbc
   have hcbw:cb<w.heap.size:=ZDy (hcol kI hkl)
   clear hHz hbz hcol hCo hmem hbc hc hkl hrv
   cases bc with
   |true=>
    have hnone:=HF.out (.inr (HM.out.1 (of_decide_eq_true HBC.out)))
    go_wp2
    refine wp_region_quiet (C:=fun W=>Below wr.heap.size wr W) (by kernel_rfl) (by kernel_rfl) (ZAI wr) ?_
    iterate 14 (first
     |((with_reducible refine BigFrame.wpQuiet_skip ?_ ?_);(focus rfl);simp only [Act.put,ZZX,ZZW,ZZV])
     |((with_reducible refine BigFrame.wpQuiet_want ?_ (fun K hK=>?_))
       focus rfl
       apply ZAq
       ·intro W hC
        unfold Oper.quietAt
        have HC:=ZZY hC
        have z0:=ZAA hC y0
        have z1:=ZAA hC y1
        have z2:=ZAA hC j0
        have z3:=ZAA hC j1
        have z4:=ZAA hC ye
        clear hC
        go_simp
        first
         |done
         |with_reducible rfl
         |((with_reducible refine (HO3.out _).mono ?_);exact fun e w' ⟨he,hb⟩=>⟨he,HC.out.trans (hb.mono HC.out.size)⟩)
         |((with_reducible refine (HCo.out _ HC.out).mono ?_);exact fun e w' ⟨he,k9,hk9⟩=>⟨he,hk9 ▸ ZAh HC.out k9⟩)
       (with_reducible refine hK _ ?_);clear hK K;simp only [Act.put,ZZX,ZZW,ZZV]))
    refine wpQuiet_nil ?_
    intro W9 hB9
    (try simp only at hB9)
    have hR9:=ZCu hR hB9
    obtain ⟨f0,f1,f2,f3⟩:=ZAD hR9.2.1
    go_wp2
    refine bodyPost_ret (ZAF Tryz.results151 _ _ (w.heap.size+1+1) _ _ _ _ rfl (ZAd _ _ hR9.2.1 hR9.1 (by omega)).1 Tryz.underlying146 rfl (by kernel_rfl)) rfl ?_
    exact ZBY hnone hR9.2.1 hR9.1 (by omega) rfl
   |false=>
    have hnin:¬(kI:Int)∈od.take q:=fun h=>(of_decide_eq_false HBC.out) (HM.out.2 h)
    have HNI:=ZZY hnin
    clear hnin
    go_wp2
    refine wp_region_quiet (C:=fun W=>Below wr.heap.size wr W) (by kernel_rfl) (by kernel_rfl) (ZAI wr) ?_
    iterate 14 (first
     |((with_reducible refine BigFrame.wpQuiet_skip ?_ ?_);(focus rfl);simp only [Act.put,ZZX,ZZW,ZZV])
     |((with_reducible refine BigFrame.wpQuiet_want ?_ (fun K hK=>?_))
       focus rfl
       apply ZAq
       ·intro W hC
        unfold Oper.quietAt
        have HC:=ZZY hC
        have z0:=ZAA hC y0
        have z1:=ZAA hC y1
        have z2:=ZAA hC j0
        have z3:=ZAA hC j1
        have z4:=ZAA hC ye
        clear hC
        go_simp
        first
         |done
         |with_reducible rfl
         |((with_reducible refine (HO3.out _).mono ?_);exact fun e w' ⟨he,hb⟩=>⟨he,HC.out.trans (hb.mono HC.out.size)⟩)
         |((with_reducible refine (HCo.out _ HC.out).mono ?_);exact fun e w' ⟨he,k9,hk9⟩=>⟨he,hk9 ▸ ZAh HC.out k9⟩)
       (with_reducible refine hK _ ?_);clear hK K;simp only [Act.put,ZZX,ZZW,ZZV]))
    refine wpQuiet_nil ?_
    intro W9 hB9
    (try simp only at hB9)
    have hR9:=ZCu hR hB9
    obtain ⟨y0',y1',_,_⟩:=ZAD hR9.2.2.2.1
    have ye':=ZAA hB9 ye
    go_wp2
    have hkl9:kI<x.cols.length:=by rw [HCN.out];omega
    have hSd:W9.drew.cell? ⟨w.heap.size,1,none⟩=some (.slice (some ⟨cb,co,none⟩) cn cc)∧W9.drew.cell? ⟨cb,co+kI,none⟩=some (.int .i64 (c:Int)):=⟨y1',ye'⟩
    have hRd:=ZCu hR9 (ZAI W9)
    refine wp_region_held_drew (S:=fun W=>W.cell? ⟨w.heap.size,1,none⟩=some (.slice (some ⟨cb,co,none⟩) cn cc)∧W.cell? ⟨cb,co+kI,none⟩=some (.int .i64 (c:Int))) (by kernel_rfl) hSd (fun hHeld=>?_)
    obtain ⟨V,hV⟩:∃ V,W9.drew=V:=⟨_,rfl⟩
    rw [hV] at hRd hHeld ⊢
    clear hV hSd
    have hRa:=ZCu hRd ((Below.refl _ _).alloc (Nat.le_refl _) (.cells #[.int .i64 (c:Int)] 3))
    refine wpAnyH_take (i:=0) (v:=?_) rfl (by kernel_rfl) (by kernel_rfl) (by kernel_rfl) (fun _ _ _ h=>h) (Or.inl ⟨by rfl, ?_⟩) (by assumption) ?_
    rotate_left
    ·intro w8 hSw;obtain ⟨hx1,hx2⟩:=hSw;go_simp;(try with_reducible rfl)
    (try simp only [Act.put,ZZX,ZZW,ZZV])
    refine wpAnyH_take (i:=2) (v:=?_) rfl (by kernel_rfl) (by kernel_rfl) (by kernel_rfl) (fun _ _ _ h=>h) (Or.inl ⟨by rfl, ?_⟩) (by assumption) ?_
    rotate_left
    ·intro w8 hSw;obtain ⟨hx1,hx2⟩:=hSw;go_simp;(try with_reducible rfl)
    (try simp only [Act.put,ZZX,ZZW,ZZV])
    refine wpAnyH_take (i:=3) (v:=?_) rfl (by kernel_rfl) (by kernel_rfl) (by kernel_rfl) (fun _ _ _ h=>h) (Or.inl ⟨by rfl, ?_⟩) (by assumption) ?_
    rotate_left
    ·intro w8 hSw;obtain ⟨hx1,hx2⟩:=hSw;go_simp;(try with_reducible rfl)
    (try simp only [Act.put,ZZX,ZZW,ZZV])
    refine wpAnyH_take (i:=4) (v:=?_) rfl (by kernel_rfl) (by kernel_rfl) (by kernel_rfl) (fun _ _ _ h=>h) (Or.inl ⟨by rfl, ?_⟩) (by assumption) ?_
    rotate_left
    ·intro w8 hSw;obtain ⟨hx1,hx2⟩:=hSw;go_simp;(try with_reducible rfl)
    (try simp only [Act.put,ZZX,ZZW,ZZV])
    refine wpAnyH_take (i:=5) (v:=?_) rfl (by kernel_rfl) (by kernel_rfl) (by kernel_rfl) (fun _ _ _ h=>h) (Or.inl ⟨by rfl, ?_⟩) (by assumption) ?_
    rotate_left
    ·intro w8 hSw;obtain ⟨hx1,hx2⟩:=hSw;go_simp;(try with_reducible rfl)
    (try simp only [Act.put,ZZX,ZZW,ZZV])
    refine wpAnyH_take (i:=6) (v:=?_) rfl (by kernel_rfl) (by kernel_rfl) (by kernel_rfl) (fun _ _ _ h=>h) (Or.inl ⟨by rfl, ?_⟩) (by assumption) ?_
    rotate_left
    ·intro w8 hSw;obtain ⟨hx1,hx2⟩:=hSw;go_simp;(try with_reducible rfl)
    (try simp only [Act.put,ZZX,ZZW,ZZV])
    refine wpAnyH_ready (rs:=[1,7]) (by kernel_rfl) (by simp) (AllReadyH.cons rfl (fun K hK=>?_) (AllReadyH.cons rfl (fun K hK=>?_) AllReadyH.nil))
    ·have yb:=(ZAD hRd.2.2.1).2.1;go_simp
     refine hK.out _ _ (hHeld) (fun hHeld=>?_)
     clear hK K
     refine wpAnyH_ready (rs:=[7]) (by kernel_rfl) (by simp) (AllReadyH.cons rfl (fun K hK=>?_) AllReadyH.nil)
     ·go_simp
      refine hK.out _ _ (⟨ZAA ((Below.refl _ _).alloc (Nat.le_refl _) _) hHeld.1,ZAA ((Below.refl _ _).alloc (Nat.le_refl _) _) hHeld.2⟩) (fun hHeld=>?_)
      clear hK K
      refine wpAnyH_ready (rs:=[8]) (by kernel_rfl) (by simp) (AllReadyH.cons rfl (fun K hK=>?_) AllReadyH.nil)
      ·refine ZA1 _ rfl _ _ 52 rfl (bb+1) 3 i0 _ 1 8 Tryz.underlying52 hi hz0 hz1 hz2 rfl (by decide) (.slice va q vc) q (colC (reoC x od q)) (by first | rfl | simp [Act.eval]) hRa.2.2.2.2.1 (some ⟨V.heap.size,0,none⟩) 1 1 [.int .i64 (c:Int)] (by first | rfl | simp [Act.eval]) (ZFn V _ _) (by simp [Value.oneCell']) (by unfold maxLen;omega) (by omega) (by have:=hRa.2.2.2.2.2.1;omega) ?_;intro v6 w6 ho6 hg6 _;obtain ⟨a6,c6,rfl⟩:=ZAe ho6;have hq6:=fun b e=>(ZAV hRa.2.2.2.2.1 b e).2
       refine hK.out _ _ (⟨ZD2 hHeld.1 hg6 (fun e=>by have:=hq6 _ e.symm;have:=hRa.2.2.2.2.2.2;omega),ZD2 hHeld.2 hg6 (fun e=>by have:=hq6 _ e.symm;have:=hRa.2.2.2.2.2.2;omega)⟩) (fun hHeld=>?_)
       clear hK K
       refine wpAnyH_take (i:=9) (v:=?_) rfl (by kernel_rfl) (by kernel_rfl) (by kernel_rfl) (fun _ _ _ h=>h) (Or.inl ⟨by rfl, ?_⟩) (by assumption) ?_
       rotate_left
       ·intro w8 hSw;obtain ⟨hx1,hx2⟩:=hSw;go_simp;(try with_reducible rfl)
       (try simp only [Act.put,ZZX,ZZW,ZZV])
       refine wpAnyH_ready (rs:=[10]) (by kernel_rfl) (by simp) (AllReadyH.cons rfl (fun K hK=>?_) AllReadyH.nil)
       ·obtain ⟨m0,m1,m2,m3⟩:=ZAD (ZFq hRa hg6);go_simp
        refine hK.out _ _ (⟨ZAU (k:=0) hHeld.1 (by have:=hRa.2.2.2.2.2.2;omega),ZAU (k:=0) hHeld.2 (by have:=hRa.2.2.2.2.2.2;omega)⟩) (fun hHeld=>?_)
        clear hK K
        refine wpAnyH_done (by kernel_rfl) ?_ _
        have hR7:=ZGX (q':=q+1) (cs':=colC (reoC x od (q+1))) hRa (by rw [ZIV x od q kI c HZ.out HC9.out];exact ho6) hg6
        go_wp2
        go_roundw
        case rel=>exact ⟨q+1,_,by omega,by go_num,hR7,ZZY ⟨fun j hj=>(by rcases Nat.lt_or_ge j q with h | h;(exact hall.out.1 j h);(obtain rfl:j=q:=(by omega);exact ⟨kI,HZ.out,hkl9⟩)),ZGY hall.out.2 HZ.out HNI.out⟩⟩
        case measure=>simp [intOf];omega
    ·go_simp
     refine hK.out _ _ (⟨ZAA ((Below.refl _ _).alloc (Nat.le_refl _) _) hHeld.1,ZAA ((Below.refl _ _).alloc (Nat.le_refl _) _) hHeld.2⟩) (fun hHeld=>?_)
     clear hK K
     refine wpAnyH_ready (rs:=[1]) (by kernel_rfl) (by simp) (AllReadyH.cons rfl (fun K hK=>?_) AllReadyH.nil)
     ·have yb:=(ZAD hRa.2.2.1).2.1;go_simp
      refine hK.out _ _ (hHeld) (fun hHeld=>?_)
      clear hK K
      refine wpAnyH_ready (rs:=[8]) (by kernel_rfl) (by simp) (AllReadyH.cons rfl (fun K hK=>?_) AllReadyH.nil)
      ·refine ZA1 _ rfl _ _ 52 rfl (bb+1) 3 i0 _ 1 8 Tryz.underlying52 hi hz0 hz1 hz2 rfl (by decide) (.slice va q vc) q (colC (reoC x od q)) (by first | rfl | simp [Act.eval]) hRa.2.2.2.2.1 (some ⟨V.heap.size,0,none⟩) 1 1 [.int .i64 (c:Int)] (by first | rfl | simp [Act.eval]) (ZFn V _ _) (by simp [Value.oneCell']) (by unfold maxLen;omega) (by omega) (by have:=hRa.2.2.2.2.2.1;omega) ?_;intro v6 w6 ho6 hg6 _;obtain ⟨a6,c6,rfl⟩:=ZAe ho6;have hq6:=fun b e=>(ZAV hRa.2.2.2.2.1 b e).2
       refine hK.out _ _ (⟨ZD2 hHeld.1 hg6 (fun e=>by have:=hq6 _ e.symm;have:=hRa.2.2.2.2.2.2;omega),ZD2 hHeld.2 hg6 (fun e=>by have:=hq6 _ e.symm;have:=hRa.2.2.2.2.2.2;omega)⟩) (fun hHeld=>?_)
       clear hK K
       refine wpAnyH_take (i:=9) (v:=?_) rfl (by kernel_rfl) (by kernel_rfl) (by kernel_rfl) (fun _ _ _ h=>h) (Or.inl ⟨by rfl, ?_⟩) (by assumption) ?_
       rotate_left
       ·intro w8 hSw;obtain ⟨hx1,hx2⟩:=hSw;go_simp;(try with_reducible rfl)
       (try simp only [Act.put,ZZX,ZZW,ZZV])
       refine wpAnyH_ready (rs:=[10]) (by kernel_rfl) (by simp) (AllReadyH.cons rfl (fun K hK=>?_) AllReadyH.nil)
       ·obtain ⟨m0,m1,m2,m3⟩:=ZAD (ZFq hRa hg6);go_simp
        refine hK.out _ _ (⟨ZAU (k:=0) hHeld.1 (by have:=hRa.2.2.2.2.2.2;omega),ZAU (k:=0) hHeld.2 (by have:=hRa.2.2.2.2.2.2;omega)⟩) (fun hHeld=>?_)
        clear hK K
        refine wpAnyH_done (by kernel_rfl) ?_ _
        have hR7:=ZGX (q':=q+1) (cs':=colC (reoC x od (q+1))) hRa (by rw [ZIV x od q kI c HZ.out HC9.out];exact ho6) hg6
        go_wp2
        go_roundw
        case rel=>exact ⟨q+1,_,by omega,by go_num,hR7,ZZY ⟨fun j hj=>(by rcases Nat.lt_or_ge j q with h | h;(exact hall.out.1 j h);(obtain rfl:j=q:=(by omega);exact ⟨kI,HZ.out,hkl9⟩)),ZGY hall.out.2 HZ.out HNI.out⟩⟩
        case measure=>simp [intOf];omega
  ·obtain rfl:q=ol:=by omega
   have hdq:decide ((q:Int)<(q:Int))=false:=by simp
   have hgood:O=some ⟨x.slots,reoC x od q⟩:=by
    have hin:(∀ y∈od,0≤y∧y<(x.cols.length:Int))∧od.Nodup:=by
     have h2:=hall.out.2
     rw [List.take_of_length_le (by rw [HOL.out];omega)] at h2
     refine ⟨fun y hy=>?_,h2⟩
     obtain ⟨j,hj⟩:=List.mem_iff_getElem?.1 hy
     obtain ⟨i,h3,h4⟩:=hall.out.1 j (by have:=(List.getElem?_eq_some_iff.1 hj).1;have:=HOL.out;omega)
     rw [hj] at h3
     cases h3
     omega
    have hlc:od.length=x.cols.length:=by rw [HOL.out,HCN.out];exact HL.out
    rw [HST.out,(Sc.once_iff od x.cols.length hlc).2 hin,decide_eq_true hlc]
    unfold reoC
    rw [List.take_of_length_le (by rw [HOL.out];omega)]
    rfl
   have HGD:=ZZY hgood
   clear hgood
   have hH:=hR.2.1
   have hBw:=hR.1
   obtain ⟨f0,f1,f2,f3⟩:=ZAD hH
   obtain ⟨j0,j1,_,_⟩:=ZAD hR.2.2.1
   go_wp2
   refine bodyPost_ret (ZAF Tryz.results151 _ _ (w.heap.size+1+1) _ _ _ _ rfl (ZAd _ _ hH hBw (by omega)).1 Tryz.underlying146 rfl (by kernel_rfl)) rfl ?_
   have hout:=ZAd (.slice sa sn sc) (.slice va q vc) hH hBw (by omega)
   have hB0:=HIN.out.below
   have hkp:=ZEN (.slice sa sn sc) (.slice va q vc) hB0 hH hBw (by omega)
   have hwz:=hB0.size
   have hkp2:=ZB9 (.slice sa sn sc) (.slice va q vc) (hB0.trans (hBw.mono hB0.size)) hH (by omega)
   have hbbw:=hR.2.2.2.2.2.2
   have ho:=ZDF (ZAH hR.2.2.2.2.1 (show w0.heap.size≤bb+1 by omega)) (.inr rfl) hkp2
   rw [HGD.out]
   refine ⟨⟨.slice sa sn sc,.slice va q vc,rfl, ?_,.inr ?_⟩,hout.2⟩
   ·have hvi:=(ZBW HIN.out.vin hkp).1
    rw [HSN.out] at hvi
    exact hvi
   ·show World.ownsRow _ _ _ _ _ (reoC x od q).length (colC (reoC x od q))
    rw [ZKo x od q (by rw [HOL.out];omega)]
    exact ho
