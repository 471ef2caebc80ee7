/- The document's Versions of layer 10. (Made by gen_ref10r.py.) -/
import Derived.Test.YtcjdfdfphbckaaaGreatMh40Regi
import Derived.Test.YtcjdfdfphbckaaaGreatMh39Regi
import Derived.Test.YtcjdfdfphbckaaaGreatMh19Regi
import Derived.Test.YtcjdfdfphbckaaaGreatMh2Regi
import Derived.Deep.RegionHeld3
set_option linter.unusedVariables false
set_option linter.unusedSimpArgs false
set_option maxRecDepth 100000
set_option maxHeartbeats 64000000
open Go.Proofs.Tryz
namespace Go.Proofs.YtcjdfdfphbckaaaGreat
open Go.RowKit Go.Shelf
theorem ZBj {W:World} {b:Nat} {u0 u1 u2:Value} {t:TypeId} (h:W.heap[b]? = some (.cells #[u0,u1,u2] t (0,0))):W.cell? ⟨b,0,none⟩=some u0∧W.cell? ⟨b,1,none⟩=some u1∧W.cell? ⟨b,2,none⟩=some u2:=by
 refine ⟨?_, ?_, ?_⟩<;>simp [World.cell?,h]
theorem ZNg:(Tryz.prog.info? 128).map (fun i=>(i.zero,i.size,i.bytes))=some (some (.agg #[.slice none 0 0,.slice none 0 0]),2,48):=by kernel_rfl
theorem ZNh (w:World) (o1 o2:Obj):((w.alloc o1).alloc o2).heap[w.heap.size+1]? = some o2:=by
 have e:=ZAQ (w.alloc o1) o2
 rwa [World.size_alloc] at e
theorem ZNi (W:World) (u:Value) (T:TypeId):ZB7 (W.alloc (.cells #[u] T)) 1 (some ⟨W.heap.size,0,none⟩) 1 [u]:=
 ⟨rfl,.inr ⟨_,rfl,ZBC W [u] T⟩⟩
def FS (w:World) (tcs:Array Value) (s6 c6:Value) (W:World):Prop:=W.heap[w.heap.size]? = some (.cells tcs 40 (0,0))∧W.heap[w.heap.size+1]? = some (.cells #[s6,c6] 128 (0,0))∧Below w.heap.size w W
theorem ZQU {w0 w V:World} {tcs:Array Value} {x:Sc.Ver} {s6 c6:Value} (h:FV w0 w V tcs x s6 c6):FS w tcs s6 c6 V:=⟨h.1,h.2.1,h.2.2.1⟩
theorem ZOn {w V W:World} {tcs:Array Value} {s6 c6:Value} {row:Option Nat} (h:FS w tcs s6 c6 V) (k:V.grownBy W row) (hr:∀ b,row=some b→w.heap.size+1+1≤b):FS w tcs s6 c6 W:=by
 obtain ⟨h1,h2,h3⟩:=h
 exact ⟨(k.block _ (ZZZ h1).1 (fun e=>by have:=hr _ e.symm;omega)).trans h1,(k.block _ (ZZZ h2).1 (fun e=>by have:=hr _ e.symm;omega)).trans h2,ZAE h3 k (fun b e=>by have:=hr b e;omega) h3.size⟩
theorem ZQV {w0 w V:World} {tcs:Array Value} {x:Sc.Ver} {s6 c6:Value} (h:FV w0 w V tcs x s6 c6):∀ b,(s6.ownBlock=some b→w.heap.size+1+1≤b)∧(c6.ownBlock=some b→w.heap.size+1+1≤b):=by
 obtain ⟨_,_,_,⟨cs,p1,p2,p3,p4⟩⟩:=h
 exact fun b=>⟨fun e=>(ZAV p1 b e).2,fun e=>(ZAV p3 b e).2⟩
theorem ZNj {α : Type} {l:List α} {q:Nat} {s : α} (h:l[q]? = some s):l.take q ++ [s]=l.take (q+1):=by
 rw [List.take_add_one,h];rfl
theorem ZP4 {w0 w V:World} {tcs:Array Value} {x:Sc.Ver} {s6 c6:Value} (h:FV w0 w V tcs x s6 c6):FV w0 w V.drew tcs x s6 c6:=ZEY h ((Below.refl _ _).drew)
theorem ZFI (t:TemplM) (w0 w:World) (X:Value) (h0:Below w0.heap.size w0 w) (hg:wideT t=false) (hi:ZA8 w0 t X):Calls Tryz.prog 79 #[X] w (ZNe w0 w t):=by
 obtain ⟨h1,sa,sc,ta,tc,rfl,hsl,hst⟩:=hi
 have hN:=fun W=>ZCA t.nm W h1
 obtain ⟨bn,e1⟩:∃ b,nameB (strB t.nm)=b:=⟨_,rfl⟩
 rw [e1] at hN
 have HN:=ZZY hN
 obtain ⟨Q,hQ⟩:∃ Q,ZNe w0 w t=Q:=⟨_,rfl⟩
 have hq0:Sc.vers t=none→∀ w',Below w.heap.size w w'→Q (.returned (.slice none 0 0)) w':=fun h w' hb=>by
  rw [←hQ];unfold ZNe;rw [h];exact ⟨rfl,hb⟩
 have hq1:∀ L,Sc.vers t=some L→∀ ov w',OV w0 w' w.heap.size L ov→Below w.heap.size w w'→Q (.returned ov) w':=fun L h ov w' ho hb=>by
  rw [←hQ];unfold ZNe;rw [h];exact ⟨⟨ov,rfl,ho⟩,hb⟩
 have HQ0:=ZZY hq0;have HQ1:=ZZY hq1
 rw [hQ]
 clear hq0 hq1 hQ hN
 obtain ⟨nm,slots,steps⟩:=t
 simp only at hsl hst h1 e1 ⊢
 have HE:=ZZY e1;have HSL:=ZZY hsl;have HST:=ZZY hst
 obtain ⟨n,hn⟩:∃ n,slots.length=n:=⟨_,rfl⟩
 obtain ⟨m,hm⟩:∃ m,steps.length=m:=⟨_,rfl⟩
 have HNL:=ZZY hn;have HML:=ZZY hm
 have hw1:Below w.heap.size w (w.alloc (.cells #[.string nm,.slice sa n sc,.slice ta m tc] 40)):=(Below.refl _ w).alloc (Nat.le_refl _) _
 have HG:=ZZY hg
 rw [hn,hm]
 clear e1 hsl hst hn hm hg h1
 cases bn with
 |false=>
  have hnone:Sc.vers ⟨nm,slots,steps⟩=none:=Sc.vers_no fun h=>by have:=h.1;simp only [HE.out] at this;cases this
  go_enter func79,ntmps79
  go_wp2_with (first
   |(go_at_call 100;(with_reducible refine (HN.out _).mono ?_);rintro e w1 ⟨rfl,rfl⟩))
  exact HQ0.out hnone _ hw1
 |true=>
 by_cases hlo:n<1
 ·have hd:decide ((n:Int)<1)=true:=by simp;omega
  have hnone:Sc.vers ⟨nm,slots,steps⟩=none:=Sc.vers_no fun h=>by have h1:=h.2.1;have h2:=h.2.2.1;have h3:=h.2.2.2.1;have:=HNL.out;have:=HML.out;simp only at *;omega
  have hlo9:=ZZY hlo;clear hlo
  go_enter func79,ntmps79
  go_wp2_with (first
   |(go_at_call 100;(with_reducible refine (HN.out _).mono ?_);rintro e w1 ⟨rfl,rfl⟩))
  exact HQ0.out hnone _ hw1
 have hd1:decide ((n:Int)<1)=false:=by simp;omega
 by_cases hhi:8<n
 ·have hd:decide ((8:Int)<(n:Int))=true:=by simp;omega
  have hnone:Sc.vers ⟨nm,slots,steps⟩=none:=Sc.vers_no fun h=>by have h1:=h.2.1;have h2:=h.2.2.1;have h3:=h.2.2.2.1;have:=HNL.out;have:=HML.out;simp only at *;omega
  have hlo9:=ZZY hlo;have hhi9:=ZZY hhi;clear hlo hhi
  go_enter func79,ntmps79
  go_wp2_with (first
   |(go_at_call 100;(with_reducible refine (HN.out _).mono ?_);rintro e w1 ⟨rfl,rfl⟩))
  exact HQ0.out hnone _ hw1
 have hd2:decide ((8:Int)<(n:Int))=false:=by simp;omega
 by_cases hms:8<m
 ·have hd:decide ((8:Int)<(m:Int))=true:=by simp;omega
  have hnone:Sc.vers ⟨nm,slots,steps⟩=none:=Sc.vers_no fun h=>by have h1:=h.2.1;have h2:=h.2.2.1;have h3:=h.2.2.2.1;have:=HNL.out;have:=HML.out;simp only at *;omega
  have hlo9:=ZZY hlo;have hhi9:=ZZY hhi;have hms9:=ZZY hms;clear hlo hhi hms
  go_enter func79,ntmps79
  go_wp2_with (first
   |(go_at_call 100;(with_reducible refine (HN.out _).mono ?_);rintro e w1 ⟨rfl,rfl⟩))
  exact HQ0.out hnone _ hw1
 have hd3:decide ((8:Int)<(m:Int))=false:=by simp;omega
 go_enter func79,ntmps79
 go_wp2_with (first
  |(go_at_call 100;(with_reducible refine (HN.out _).mono ?_);rintro e w1 ⟨rfl,rfl⟩))
 have hF0:FV w0 w ((w.alloc (.cells #[.string nm,.slice sa n sc,.slice ta m tc] 40)).alloc (.cells #[.slice none 0 0,.slice none 0 0] 128)) #[.string nm,.slice sa n sc,.slice ta m tc] ⟨slots.take 0,List.range 0⟩ (.slice none 0 0) (.slice none 0 0):=by
  refine ⟨(Below.heap_alloc _ _ _ (by simp)).trans (ZAQ w _),ZNh w _ _,hw1.alloc (by simp) _,⟨[], ?_,ZEm w0, ?_,fun b e _=>by simp [Value.ownBlock] at e⟩⟩
  ·simp only [List.take_zero,List.length_nil];exact World.ownsRow_nil _ _ _ _
  ·simp only [List.range_zero,List.length_nil,List.map_nil];exact World.ownsRow_nil _ _ _ _
 have HF0:=ZZY hF0
 clear hF0
 obtain ⟨i0,hi,hi0,hi1',hi2'⟩:=info_parts ZDE
 obtain ⟨j0,hj,hj0,hj1,hj2⟩:=info_parts ZCi
 go_loopw [4] (fun i wr=>∃ (q:Nat) (a:Option Addr) (c:Nat) (a':Option Addr) (c':Nat),q≤n∧i=.int .i64 (q:Int)∧FV w0 w wr #[.string nm,.slice sa n sc,.slice ta m tc] ⟨slots.take q,List.range q⟩ (.slice a q c) (.slice a' q c')∧Hid (∀ j,j<q→Sc.sound (slots[j]?.getD default)=true∧Sc.col ⟨slots,List.range j⟩ (slots[j]?.getD default).nm=none)) (fun i _=>n-(intOf i).toNat)
 case atStart=>exact ⟨0,none,0,none,0,Nat.zero_le _,rfl,HF0.out,ZZY (fun j hj=>by omega)⟩
 case round=>
  obtain ⟨q,a,c,a',c',hq,rfl,hF,hall⟩:=hrel
  obtain ⟨wj,hwj⟩:∃ x,x=wr:=⟨_,rfl⟩
  subst hwj
  obtain ⟨c0,c1,c2⟩:=ZBj hF.1
  obtain ⟨f0,f1,f2,f3⟩:=ZAD hF.2.1
  have hbw:=hF.2.2.1
  have hbw0:=h0.trans (hbw.mono h0.size)
  rcases Nat.lt_or_ge q n with hlt | hge
  ·have hd:decide ((q:Int)<(n:Int))=true:=by simp;omega
   have hnl:=HNL.out
   obtain ⟨s,hs⟩:∃ s,slots[q]? = some s:=⟨slots[q],List.getElem?_eq_getElem (by omega)⟩
   obtain ⟨sb,so,rfl,hrow⟩:∃ b off,sa=some ⟨b,off,none⟩∧∀ i s,slots[i]? = some s→ZCS w0 b (off+i*7) s:=by
    rcases HSL.out.2.2 with h | h
    ·subst h;simp at hnl;omega
    ·exact h
   obtain ⟨k,nn,tx,la,ll,lc,⟨g0,g1,g2,g3,g4,g5,g6⟩,hI,hsn,hdf⟩:=ZBR (hrow q s hs)
   have hscap:=HSL.out.1
   have hsmax:=HSL.out.2.1
   have hsz:szV s.df≤1000000:=by
    refine Nat.le_trans (ZFJ _ ?_) (by omega)
    have hgt:=HG.out
    unfold wideT at hgt
    simp only [Bool.or_eq_false_iff] at hgt
    have h3:=List.any_eq_false.1 hgt.2.1 s (List.mem_of_getElem? hs)
    unfold wideS at h3
    simp only [Bool.or_eq_true,not_or,Bool.not_eq_true] at h3
    exact h3.1
   obtain ⟨bs,hbs⟩:∃ b,Sc.sound s=b:=⟨_,rfl⟩
   obtain ⟨R,hR⟩:∃ R,Sc.colI ⟨slots,List.range q⟩ s.nm=R:=⟨_,rfl⟩
   have hS7:ZDi w0 s (.string s.nm) (.int .i64 s.ty) (.bool s.rq) (.int .i64 k) (.int .i64 nn) (.string tx) (.slice la ll lc):=⟨hsn,hI,rfl,rfl,rfl,hdf⟩
   have hSo:=fun (W:World) (hb:Below wj.heap.size wj W)=>ZCd s hsz W (.agg #[.string s.nm,.int .i64 s.ty,.bool s.rq,.int .i64 k,.int .i64 nn,.string tx,.slice la ll lc]) (ZAn (hbw0.trans (hb.mono hbw0.size)) ⟨_,_,_,_,_,_,_,rfl,hS7⟩)
   rw [hbs] at hSo
   have hql:(slots.take q).length=q:=by rw [List.length_take];omega
   have hCl:∀ W,Below wj.heap.size wj W→Calls Tryz.prog 102 #[.agg #[.slice a q c,.slice a' q c'],.string s.nm] W fun e w'=>e=.returned (.int .i64 R)∧Below W.heap.size W w':=fun W hb=>by
    have hFW:=ZEY hF hb
    obtain ⟨va,vc,va',vc',ea,ea'⟩:=ZBG hFW.2.2.2
    have h:=ZDD ⟨slots.take q,List.range q⟩ a c a' c' s.nm W (fun c hc=>by simp at hc;simp only [hql];exact hc) (by simp only [hql];have:=HSL.out.1;omega) (ZPL hFW.2.2.2 (h0.trans (hFW.2.2.1.mono h0.size)))
    simp only [hql,List.length_range] at h
    have e9:Sc.colI ⟨slots.take q,List.range q⟩ s.nm=R:=by
     rw [←hR];unfold Sc.colI;rw [Sc.col_take]
    rw [e9] at h
    exact h
   have y0:=ZAA hbw0 g0
   have y1:=ZAA hbw0 g1
   have y2:=ZAA hbw0 g2
   have y3:=ZAA hbw0 g3
   have y4:=ZAA hbw0 g4
   have y5:=ZAA hbw0 g5
   have y6:=ZAA hbw0 g6
   have hsq:slots[q]?.getD default=s:=by rw [hs];rfl
   have hbad:(bs=false∨0≤R)→Sc.vers ⟨nm,slots,steps⟩=none:=fun hor=>by
    refine Sc.vers_no ?_
    rintro ⟨_,_,_,_,h5⟩
    have h6:=(Sc.firstOk_iff slots).1 h5 q (by omega)
    rw [hsq,hbs] at h6
    rcases hor with h | h
    ·rw [h] at h6;cases h6.1
    ·have:=(Sc.colI_neg _ _).2 h6.2
     rw [hR] at this
     omega
   have hgood:bs=true→R<0→∀ j,j<q+1→Sc.sound (slots[j]?.getD default)=true∧Sc.col ⟨slots,List.range j⟩ (slots[j]?.getD default).nm=none:=fun h1 h2 j hj=>by
    rcases Nat.lt_or_ge j q with h | h
    ·exact hall.out j h
    ·obtain rfl:j=q:=by omega
     rw [hsq,hbs]
     exact ⟨h1,(Sc.colI_neg _ _).1 (by rw [hR];exact h2)⟩
   have HSo:=ZZY hSo;have HCl:=ZZY hCl;have HBAD:=ZZY hbad;have HGOOD:=ZZY hgood;have HS7:=ZZY hS7;have HSQ:=ZZY hs;have HQL:=ZZY hql;have HF:=ZZY hF
   clear hSo hCl hbad hgood hrow hdf hs hbs hR hsq hsz hnl hI hsn hS7 hql hF
   cases bs with
   |false=>
    have hnone:=HBAD.out (.inl rfl)
    go_wp2
    refine wp_region_quiet (C:=fun W=>Below wj.heap.size wj W) (by kernel_rfl) (by kernel_rfl) (ZAI wj) ?_
    iterate 18 (first
     |((with_reducible refine BigFrame.wpQuiet_skip ?_ ?_);(focus rfl);simp only [Act.put,ZZX,ZZW,ZZV])
     |((with_reducible refine BigFrame.wpQuiet_want ?_ (fun K hK=>?_))
       focus rfl
       apply ZAq
       ·intro W hC
        unfold Oper.quietAt
        have HC:=ZZY hC
        have k0:=ZAA hC c0
        have k1:=ZAA hC c1
        have k2:=ZAA hC c2
        have u0:=ZAA hC f0
        have u1:=ZAA hC f1
        have p0:=ZAA hC y0
        have p1:=ZAA hC y1
        have p2:=ZAA hC y2
        have p3:=ZAA hC y3
        have p4:=ZAA hC y4
        have p5:=ZAA hC y5
        have p6:=ZAA hC y6
        clear hC
        go_simp
        first
         |done
         |with_reducible rfl
         |((with_reducible refine (HSo.out _ HC.out).mono ?_);exact fun e w' ⟨he,hb⟩=>⟨he,HC.out.trans (hb.mono HC.out.size)⟩)
         |((with_reducible refine (HCl.out _ HC.out).mono ?_);exact fun e w' ⟨he,hb⟩=>⟨he,HC.out.trans (hb.mono HC.out.size)⟩)
       (with_reducible refine hK _ ?_);clear hK K;simp only [Act.put,ZZX,ZZW,ZZV]))
    refine wpQuiet_nil ?_
    intro W9 hB9
    (try simp only at hB9)
    clear g0 g1 g2 g3 g4 g5 g6
    go_wp2_with fail
    exact HQ0.out hnone _ (hbw.trans (hB9.mono hbw.size))
   |true=>
    by_cases hRp:0≤R
    ·have hnone:=HBAD.out (.inr hRp)
     have hdr:decide (0≤R)=true:=by simpa using hRp
     have HRP:=ZZY hRp;clear hRp
     go_wp2
     refine wp_region_quiet (C:=fun W=>Below wj.heap.size wj W) (by kernel_rfl) (by kernel_rfl) (ZAI wj) ?_
     iterate 18 (first
      |((with_reducible refine BigFrame.wpQuiet_skip ?_ ?_);(focus rfl);simp only [Act.put,ZZX,ZZW,ZZV])
      |((with_reducible refine BigFrame.wpQuiet_want ?_ (fun K hK=>?_))
        focus rfl
        apply ZAq
        ·intro W hC
         unfold Oper.quietAt
         have HC:=ZZY hC
         have k0:=ZAA hC c0
         have k1:=ZAA hC c1
         have k2:=ZAA hC c2
         have u0:=ZAA hC f0
         have u1:=ZAA hC f1
         have p0:=ZAA hC y0
         have p1:=ZAA hC y1
         have p2:=ZAA hC y2
         have p3:=ZAA hC y3
         have p4:=ZAA hC y4
         have p5:=ZAA hC y5
         have p6:=ZAA hC y6
         clear hC
         go_simp
         first
          |done
          |with_reducible rfl
          |((with_reducible refine (HSo.out _ HC.out).mono ?_);exact fun e w' ⟨he,hb⟩=>⟨he,HC.out.trans (hb.mono HC.out.size)⟩)
          |((with_reducible refine (HCl.out _ HC.out).mono ?_);exact fun e w' ⟨he,hb⟩=>⟨he,HC.out.trans (hb.mono HC.out.size)⟩)
        (with_reducible refine hK _ ?_);clear hK K;simp only [Act.put,ZZX,ZZW,ZZV]))
     refine wpQuiet_nil ?_
     intro W9 hB9
     (try simp only at hB9)
     clear g0 g1 g2 g3 g4 g5 g6
     go_wp2_with fail
     exact HQ0.out hnone _ (hbw.trans (hB9.mono hbw.size))
    ·have hdr:decide (0≤R)=false:=by simpa using hRp
     have hnext:=HGOOD.out rfl (by omega)
     have HNX:=ZZY hnext;have HRP:=ZZY hRp;clear hRp hnext
     go_wp2
     refine wp_region_quiet (C:=fun W=>Below wj.heap.size wj W) (by kernel_rfl) (by kernel_rfl) (ZAI wj) ?_
     iterate 18 (first
      |((with_reducible refine BigFrame.wpQuiet_skip ?_ ?_);(focus rfl);simp only [Act.put,ZZX,ZZW,ZZV])
      |((with_reducible refine BigFrame.wpQuiet_want ?_ (fun K hK=>?_))
        focus rfl
        apply ZAq
        ·intro W hC
         unfold Oper.quietAt
         have HC:=ZZY hC
         have k0:=ZAA hC c0
         have k1:=ZAA hC c1
         have k2:=ZAA hC c2
         have u0:=ZAA hC f0
         have u1:=ZAA hC f1
         have p0:=ZAA hC y0
         have p1:=ZAA hC y1
         have p2:=ZAA hC y2
         have p3:=ZAA hC y3
         have p4:=ZAA hC y4
         have p5:=ZAA hC y5
         have p6:=ZAA hC y6
         clear hC
         go_simp
         first
          |done
          |with_reducible rfl
          |((with_reducible refine (HSo.out _ HC.out).mono ?_);exact fun e w' ⟨he,hb⟩=>⟨he,HC.out.trans (hb.mono HC.out.size)⟩)
          |((with_reducible refine (HCl.out _ HC.out).mono ?_);exact fun e w' ⟨he,hb⟩=>⟨he,HC.out.trans (hb.mono HC.out.size)⟩)
        (with_reducible refine hK _ ?_);clear hK K;simp only [Act.put,ZZX,ZZW,ZZV]))
     refine wpQuiet_nil ?_
     intro W9 hB9
     (try simp only at hB9)
     have hF9:=ZEY HF.out hB9
     have HF9:=ZZY (ZP4 hF9)
     clear hF9 c0 c1 c2 f0 f1 f2 f3 y0 y1 y2 y3 y4 y5 y6
     go_wp2_with fail
     obtain ⟨V0,hV0⟩:∃ V0,W9.drew=V0:=⟨_,rfl⟩
     have hA0:=HF9.out
     rw [hV0] at hA0
     have hS0:=ZQU hA0
     refine ZD5 (S:=FS w #[.string nm,.slice (some ⟨sb,so,none⟩) n sc,.slice ta m tc] (.slice a q c) (.slice a' q c')) 10 11 #[false,false,false,false,false,false,false,false,false,false,false] (by kernel_rfl) (by kernel_rfl) (by kernel_rfl) ?_
     rw [hV0]
     clear hV0
     refine ZAO (i:=0) (v:=?_) rfl (by kernel_rfl) (by kernel_rfl) (by kernel_rfl) (by kernel_rfl) (fun _ _ _ h=>h) (Or.inl ⟨by rfl, ?_⟩) (by assumption) ?_
     rotate_left
     ·intro w8 hSw;obtain ⟨hx1,hx2,hx39⟩:=hSw;have hx3:=h0.trans (hx39.mono h0.size);obtain ⟨t0,t1,t2⟩:=ZBj hx1;obtain ⟨u0,u1⟩:=ZAg hx2;have y0:=ZAA hx3 g0;have y1:=ZAA hx3 g1;have y2:=ZAA hx3 g2;have y3:=ZAA hx3 g3;have y4:=ZAA hx3 g4;have y5:=ZAA hx3 g5;have y6:=ZAA hx3 g6;clear hx1 hx2 hx3 hx39;go_simp;(try with_reducible rfl)
     (try simp only [Act.put,ZZX,ZZW,ZZV])
     refine ZAO (i:=1) (v:=?_) rfl (by kernel_rfl) (by kernel_rfl) (by kernel_rfl) (by kernel_rfl) (fun _ _ _ h=>h) (Or.inl ⟨by rfl, ?_⟩) (by assumption) ?_
     rotate_left
     ·intro w8 hSw;obtain ⟨hx1,hx2,hx39⟩:=hSw;have hx3:=h0.trans (hx39.mono h0.size);obtain ⟨t0,t1,t2⟩:=ZBj hx1;obtain ⟨u0,u1⟩:=ZAg hx2;have y0:=ZAA hx3 g0;have y1:=ZAA hx3 g1;have y2:=ZAA hx3 g2;have y3:=ZAA hx3 g3;have y4:=ZAA hx3 g4;have y5:=ZAA hx3 g5;have y6:=ZAA hx3 g6;clear hx1 hx2 hx3 hx39;go_simp;(try with_reducible rfl)
     (try simp only [Act.put,ZZX,ZZW,ZZV])
     refine ZAO (i:=2) (v:=?_) rfl (by kernel_rfl) (by kernel_rfl) (by kernel_rfl) (by kernel_rfl) (fun _ _ _ h=>h) (Or.inl ⟨by rfl, ?_⟩) (by assumption) ?_
     rotate_left
     ·intro w8 hSw;obtain ⟨hx1,hx2,hx39⟩:=hSw;have hx3:=h0.trans (hx39.mono h0.size);obtain ⟨t0,t1,t2⟩:=ZBj hx1;obtain ⟨u0,u1⟩:=ZAg hx2;have y0:=ZAA hx3 g0;have y1:=ZAA hx3 g1;have y2:=ZAA hx3 g2;have y3:=ZAA hx3 g3;have y4:=ZAA hx3 g4;have y5:=ZAA hx3 g5;have y6:=ZAA hx3 g6;clear hx1 hx2 hx3 hx39;go_simp;(try with_reducible rfl)
     (try simp only [Act.put,ZZX,ZZW,ZZV])
     refine ZAO (i:=3) (v:=?_) rfl (by kernel_rfl) (by kernel_rfl) (by kernel_rfl) (by kernel_rfl) (fun _ _ _ h=>h) (Or.inl ⟨by rfl, ?_⟩) (by assumption) ?_
     rotate_left
     ·intro w8 hSw;obtain ⟨hx1,hx2,hx39⟩:=hSw;have hx3:=h0.trans (hx39.mono h0.size);obtain ⟨t0,t1,t2⟩:=ZBj hx1;obtain ⟨u0,u1⟩:=ZAg hx2;have y0:=ZAA hx3 g0;have y1:=ZAA hx3 g1;have y2:=ZAA hx3 g2;have y3:=ZAA hx3 g3;have y4:=ZAA hx3 g4;have y5:=ZAA hx3 g5;have y6:=ZAA hx3 g6;clear hx1 hx2 hx3 hx39;go_simp;(try with_reducible rfl)
     (try simp only [Act.put,ZZX,ZZW,ZZV])
     refine ZAO (i:=4) (v:=?_) rfl (by kernel_rfl) (by kernel_rfl) (by kernel_rfl) (by kernel_rfl) (fun _ _ _ h=>h) (Or.inl ⟨by rfl, ?_⟩) (by assumption) ?_
     rotate_left
     ·intro w8 hSw;obtain ⟨hx1,hx2,hx39⟩:=hSw;have hx3:=h0.trans (hx39.mono h0.size);obtain ⟨t0,t1,t2⟩:=ZBj hx1;obtain ⟨u0,u1⟩:=ZAg hx2;have y0:=ZAA hx3 g0;have y1:=ZAA hx3 g1;have y2:=ZAA hx3 g2;have y3:=ZAA hx3 g3;have y4:=ZAA hx3 g4;have y5:=ZAA hx3 g5;have y6:=ZAA hx3 g6;clear hx1 hx2 hx3 hx39;go_simp;(try with_reducible rfl)
     (try simp only [Act.put,ZZX,ZZW,ZZV])
     refine ZAO (i:=5) (v:=?_) rfl (by kernel_rfl) (by kernel_rfl) (by kernel_rfl) (by kernel_rfl) (fun _ _ _ h=>h) (Or.inl ⟨by rfl, ?_⟩) (by assumption) ?_
     rotate_left
     ·intro w8 hSw;obtain ⟨hx1,hx2,hx39⟩:=hSw;have hx3:=h0.trans (hx39.mono h0.size);obtain ⟨t0,t1,t2⟩:=ZBj hx1;obtain ⟨u0,u1⟩:=ZAg hx2;have y0:=ZAA hx3 g0;have y1:=ZAA hx3 g1;have y2:=ZAA hx3 g2;have y3:=ZAA hx3 g3;have y4:=ZAA hx3 g4;have y5:=ZAA hx3 g5;have y6:=ZAA hx3 g6;clear hx1 hx2 hx3 hx39;go_simp;(try with_reducible rfl)
     (try simp only [Act.put,ZZX,ZZW,ZZV])
     refine ZAO (i:=6) (v:=?_) rfl (by kernel_rfl) (by kernel_rfl) (by kernel_rfl) (by kernel_rfl) (fun _ _ _ h=>h) (Or.inl ⟨by rfl, ?_⟩) (by assumption) ?_
     rotate_left
     ·intro w8 hSw;obtain ⟨hx1,hx2,hx39⟩:=hSw;have hx3:=h0.trans (hx39.mono h0.size);obtain ⟨t0,t1,t2⟩:=ZBj hx1;obtain ⟨u0,u1⟩:=ZAg hx2;have y0:=ZAA hx3 g0;have y1:=ZAA hx3 g1;have y2:=ZAA hx3 g2;have y3:=ZAA hx3 g3;have y4:=ZAA hx3 g4;have y5:=ZAA hx3 g5;have y6:=ZAA hx3 g6;clear hx1 hx2 hx3 hx39;go_simp;(try with_reducible rfl)
     (try simp only [Act.put,ZZX,ZZW,ZZV])
     (with_reducible refine ZBH (i:=7) (o:=?ob7) (by kernel_rfl) ?ho7 (fun K hK=>?st7))
     case ho7=>exact rfl
     go_simp
     have hgA:=World.grownBy_alloc V0 (.cells #[.string s.nm,.int .i64 s.ty,.bool s.rq,.int .i64 k,.int .i64 nn,.string tx,.slice la ll lc] 51) none
     have hA1:=ZEY hA0 ((Below.refl _ V0).alloc (Nat.le_refl _) (.cells #[.string s.nm,.int .i64 s.ty,.bool s.rq,.int .i64 k,.int .i64 nn,.string tx,.slice la ll lc] 51))
     have hcn:=ZFC (W:=V0) rfl [.string s.nm,.int .i64 s.ty,.bool s.rq,.int .i64 k,.int .i64 nn,.string tx,.slice la ll lc] 51
     have hsz0:=ZEw hA0
     obtain ⟨V1,hU⟩:∃ U,V0.alloc (.cells #[.string s.nm,.int .i64 s.ty,.bool s.rq,.int .i64 k,.int .i64 nn,.string tx,.slice la ll lc] 51)=U:=⟨_,rfl⟩
     obtain ⟨gn,hgn⟩:∃ g,V0.heap.size=g:=⟨_,rfl⟩
     rw [hU] at hA1 ⊢
     have hcn2:∀ j u,[Value.string s.nm,.int .i64 s.ty,.bool s.rq,.int .i64 k,.int .i64 nn,.string tx,.slice la ll lc][j]? = some u→V1.cell? ((⟨gn,0,none⟩:Addr).add j)=some u:=by rw [←hU,←hgn];exact hcn
     rw [hgn]
     clear hcn hgA hA0 hS0 hU hgn
     have hS0:=ZQU hA1
     refine hK.out _ _ (.inr hS0) ?_
     clear hK K
     (with_reducible refine ZBH (i:=8) (o:=?ob8) (by kernel_rfl) ?ho8 (fun K hK=>?st8))
     case ho8=>exact rfl
     obtain ⟨cs9,hcs9,hsc9⟩:=ZOm hA1
     rw [HQL.out] at hcs9
     refine ZA1 _ rfl _ _ 37 rfl (w.heap.size+1+1) 51 i0 _ 7 88 Tryz.underlying37 hi hi0 hi1' hi2' rfl (by decide) (.slice a q c) q cs9 (by first | rfl | simp [Act.eval]) hcs9 (some ⟨gn,0,none⟩) 1 1 [.string s.nm,.int .i64 s.ty,.bool s.rq,.int .i64 k,.int .i64 nn,.string tx,.slice la ll lc] (by first | rfl | simp [Act.eval]) ⟨rfl,.inr ⟨_,rfl,hcn2⟩⟩ (ZFc HS7.out) (by unfold maxLen;omega) (by omega) (ZEw hA1) ?_
     intro v4 V2 ho4 hg4 ha4
     obtain ⟨a4,c4,rfl⟩:=ZAe ho4
     have hS2:=ZOn hS0 hg4 (fun b e=>(ZQV hA1 b).1 e)
     have hA2:=ZP1 (ns:=slots.take q ++ [s]) (ds:=cs9 ++ [.string s.nm,.int .i64 s.ty,.bool s.rq,.int .i64 k,.int .i64 nn,.string tx,.slice la ll lc]) hA1 hg4 ha4 (ZCj hsc9 (ZDx HS7.out)) (by rw [List.length_append,HQL.out];exact ho4)
     have HA2:=ZZY hA2.2
     have hx21:=hA2.1
     clear hA2 hcs9 hsc9 hcn2 hg4 ha4 ho4 hA1 hS0
     have hS0:=hS2
     refine hK.out _ _ (.inr hS0) ?_
     clear hK K
     refine ZAO (i:=9) (v:=?_) rfl (by kernel_rfl) (by kernel_rfl) (by kernel_rfl) (by kernel_rfl) (fun _ _ _ h=>h) (Or.inl ⟨by rfl, ?_⟩) (by assumption) ?_
     rotate_left
     ·intro w8 hSw;obtain ⟨hx1,hx2,hx39⟩:=hSw;have hx3:=h0.trans (hx39.mono h0.size);obtain ⟨t0,t1,t2⟩:=ZBj hx1;obtain ⟨u0,u1⟩:=ZAg hx2;have y0:=ZAA hx3 g0;have y1:=ZAA hx3 g1;have y2:=ZAA hx3 g2;have y3:=ZAA hx3 g3;have y4:=ZAA hx3 g4;have y5:=ZAA hx3 g5;have y6:=ZAA hx3 g6;clear hx1 hx2 hx3 hx39;go_simp;(try with_reducible rfl)
     (try simp only [Act.put,ZZX,ZZW,ZZV])
     (with_reducible refine ZBH (i:=10) (o:=?ob10) (by kernel_rfl) ?ho10 (fun K hK=>?st10))
     case ho10=>exact rfl
     obtain ⟨j0',j1',j2',j3'⟩:=ZAD hx21
     go_simp
     refine hK.out _ _ (.inl rfl) ?_
     clear hK K j0' j1' j2' j3' hx21 hS0 hS2
     refine ZCM (by kernel_rfl) ?_ _
     obtain ⟨V9,hV9⟩:∃ V9,V2.setCell ⟨w.heap.size+1,0,none⟩ (.slice a4 (q+1) c4)=V9:=⟨_,rfl⟩
     rw [hV9] at HA2 ⊢
     clear hV9 g0 g1 g2 g3 g4 g5 g6
     obtain ⟨f0,f1,f2,f3⟩:=ZAD HA2.out.2.1
     have hn2:=(Below.refl _ V9).alloc (Nat.le_refl _) (.cells #[.int .i64 (q:Int)] 3)
     have HN2:=ZZY hn2;clear hn2
     have hA3:=ZEY HA2.out HN2.out
     have HC2:=ZZY (ZP2 hA3)
     simp only [List.length_range] at HC2
     have hV92:w.heap.size+1+1≤(V9.alloc (.cells #[.int .i64 (q:Int)] 3)).heap.size:=ZEw hA3
     have HA3:=ZZY hA3;clear hA3
     go_wp2_with (first
      |(at_builtin;refine ZAj _ rfl _ _ 52 rfl (w.heap.size+1+1) 3 j0 _ 1 8 Tryz.underlying52 hj hj0 hj1 hj2 rfl (by decide) (.slice a' q c') q (((List.range q).map Int.ofNat).map (Value.int .i64)) rfl HC2.out (some ⟨V9.heap.size,0,none⟩) 1 1 [.int .i64 (q:Int)] rfl (ZNi V9 _ _) (by simp [Value.oneCell']) (by unfold maxLen;omega) (by omega) hV92 ?_;intro v5 w5 ho5 hg5 ha5;obtain ⟨a5,c5,rfl⟩:=ZAe ho5;have hC5:=ZQS (nc:=List.range (q+1)) HA3.out hg5 ha5 (by rw [List.range_succ];simpa using ho5);have HF5:=ZZY hC5.2;obtain ⟨j0',j1',j2',j3'⟩:=ZAD hC5.1;clear hC5))
     go_roundw
     case rel=>exact ⟨q+1,a4,c4,a5,c5,by omega,by go_num,by have h:=HF5.out;rwa [ZNj HSQ.out] at h,HNX⟩
     case measure=>simp [intOf];omega
  ·obtain rfl:q=n:=by omega
   have hd:decide ((q:Int)<(q:Int))=false:=by simp
   have hnl:=HNL.out
   have hml:=HML.out
   have hok:nameB (strB nm)=true∧1≤slots.length∧slots.length≤8∧steps.length≤8∧Sc.firstOk slots=true:=⟨HE.out,by omega,by omega,by omega,(Sc.firstOk_iff slots).2 fun j hj=>hall.out j (by omega)⟩
   have hrun:=Sc.vers_run (t:=⟨nm,slots,steps⟩) hok
   have hfok:=Sc.first_ok hok.2.2.2.2 hok.2.2.1
   have hfirst:(⟨slots.take q,List.range q⟩:Sc.Ver)=Sc.first slots:=by unfold Sc.first;rw [←hnl,List.take_length]
   have hV1:=hF.2.2.2
   rw [hfirst] at hV1
   have hO1:=ZQT hV1 (ZEw hF)
   have hRS:ZP3 ⟨nm,slots,steps⟩ [Sc.first slots] 0:=⟨[],Sc.first slots,rfl,rfl,by rw [hrun,List.drop_zero];simp only;cases Sc.run (Sc.first slots) steps<;>simp,hfok⟩
   have hT1:=(Below.heap_alloc wj (.cells #[.slice a q c,.slice a' q c'] 128) _ (ZZZ hF.1).1).trans hF.1
   have hB1:=hbw.alloc hbw.size (.cells #[.slice a q c,.slice a' q c'] 128)
   have HO1:=ZZY hO1;have HRS:=ZZY hRS;have HT1:=ZZY hT1;have HB1:=ZZY hB1
   clear hok hrun hfok hfirst hV1 hO1 hRS hT1 hB1 hnl hml hF
   go_wp2
   go_loopw [5,6] (fun ov i wr=>∃ (k:Nat) (L:List Sc.Ver),k≤m∧i=.int .i64 (k:Int)∧Below w.heap.size w wr∧wr.heap[w.heap.size]? = some (.cells #[.string nm,.slice sa q sc,.slice ta m tc] 40 (0,0))∧OV w0 wr (w.heap.size+1+1) L ov∧ZP3 ⟨nm,slots,steps⟩ L k) (fun _ i _=>m-(intOf i).toNat)
   case atStart=>exact ⟨0,_,Nat.zero_le _,rfl,HB1.out,HT1.out,HO1.out,HRS.out⟩
   case round=>
    obtain ⟨k,L,hk,rfl,hbk,hTk,hOk,hRk⟩:=hrel
    obtain ⟨wi,hwi⟩:∃ x,x=wr:=⟨_,rfl⟩
    subst hwi
    have hbk0:=h0.trans (hbk.mono h0.size)
    clear c0 c1 c2 f0 f1 f2 f3
    obtain ⟨c0,c1,c2⟩:=ZBj hTk
    obtain ⟨Lp,x,rfl,hlp,hvers,hxok⟩:=hRk
    have HRU:=ZZY hvers
    clear hvers
    rcases Nat.lt_or_ge k m with hkm | hkm
    ·have hd3':decide ((k:Int)<(m:Int))=true:=by simp;omega
     have hml:=HML.out
     obtain ⟨s,hs⟩:∃ s,steps[k]? = some s:=⟨steps[k],List.getElem?_eq_getElem (by omega)⟩
     obtain ⟨tb,tof,rfl,hrow⟩:∃ b off,ta=some ⟨b,off,none⟩∧∀ i s,steps[i]? = some s→ZDc w0 b (off+i*10) s:=by
      rcases HST.out.2.2 with h | h
      ·rw [h] at hml;simp at hml;omega
      ·exact h
     obtain ⟨oa,oc,⟨q0,q1,q9⟩,hk1,hk2,hsl,hro,hio⟩:=hrow k s hs
     obtain ⟨kk,n0,tx,a2,len,cap,⟨g0,g1,g2,g3,g4,g5,g6⟩,hI,hsn,hdf⟩:=ZBR hsl
     have hX:ZBS w0 s (.agg #[.int .i64 s.kd,.int .i64 s.col,.string s.sl.nm,.int .i64 s.sl.ty,.bool s.sl.rq,.int .i64 kk,.int .i64 n0,.string tx,.slice a2 len cap,.slice oa s.od.length oc]):=
      ⟨_,_,_,_,_,_,_,oa,oc,rfl,hk1,hk2,⟨hsn,hI,rfl,rfl,rfl,hdf⟩,hro,hio⟩
     have hsz:szV s.sl.df≤1000000:=by
      refine Nat.le_trans (ZFJ _ ?_) (by omega)
      have hgt:=HG.out
      unfold wideT at hgt
      simp only [Bool.or_eq_false_iff] at hgt
      have h3:=List.any_eq_false.1 hgt.2.2 s (List.mem_of_getElem? hs)
      unfold wideP at h3
      simp only [Bool.or_eq_true,not_or,Bool.not_eq_true] at h3
      exact h3.1.1
     have hOk9:=hOk
     obtain ⟨cs,o1,o2⟩:=hOk9
     have hxl:(Lp ++ [x])[k]? = some x:=by rw [←hlp];simp
     obtain ⟨sv,cv,e1,e2,hvx⟩:=o2 k x hxl
     obtain ⟨xa,xc,xa',xc',rfl,rfl⟩:=ZBG hvx
     have hLl:(Lp ++ [x]).length=k+1:=by simp [hlp]
     rw [hLl] at o1
     obtain ⟨oa9,oc9,rfl⟩:=ZAe o1
     obtain ⟨go,rfl,z0,zf0,zb⟩:=ZCv o1 e1
     obtain ⟨go',ego,z1,zf1,_⟩:=ZCv o1 e2
     injection ego with ego
     injection ego with ego _ _
     subst ego
     have hgo:go<wi.heap.size:=(ZAV o1 go rfl).1
     have hin:=ZNd hvx
     have hSt:=fun (W:World) (hb:Below wi.heap.size wi W)=>ZKG (8+k) (by omega) x s xa xc xa' xc' w0 W _ hxok (ZIy hin hb) hX (hbk0.trans (hb.mono hbk0.size)) hsz
     have HSt:=ZZY hSt
     have HOk:=ZZY hOk;have HS:=ZZY hs;have HXOK:=ZZY hxok
     obtain ⟨i1,hv1,hv2,hv3,hv4⟩:=info_parts ZNg
     clear hSt hOk hs hrow hX hin hvx o2 e1 e2 hxok hsl hro hio hdf hI hsn hk1 hk2 hml hxl hsz o1
     go_wp2_with fail
     refine ZD5 (S:=fun W=>Below wi.heap.size wi W) 99 16 #[false,false,false,false,false,false,false,false,false,false,false,false,false,false,false,false] (by kernel_rfl) (by kernel_rfl) (by kernel_rfl) ?_
     have hS0:Below wi.heap.size wi wi.drew:=ZJ9 wi
     obtain ⟨V0,hV0⟩:∃ V0,wi.drew=V0:=⟨_,rfl⟩
     rw [hV0] at hS0 ⊢
     clear hV0
     have hkk:(k:Int)<(k:Int)+1:=by omega
     have hkm':(k:Int)<(m:Int):=by omega
     refine ZAO (i:=0) (v:=?_) rfl (by kernel_rfl) (by kernel_rfl) (by kernel_rfl) (by kernel_rfl) (fun _ _ _ h=>h) (Or.inl ⟨by rfl, ?_⟩) (by assumption) ?_
     rotate_left
     ·intro w8 hSw;have t2:=ZAA hSw c2;have y0:=ZAA hSw z0;have y1:=ZAA hSw z1;have hbw8:=hbk0.trans (Below.mono hSw hbk0.size);have w0:=ZAA hbw8 q0;have w1:=ZAA hbw8 q1;have w9:=ZAA hbw8 q9;have v0:=ZAA hbw8 g0;have v1:=ZAA hbw8 g1;have v2:=ZAA hbw8 g2;have v3:=ZAA hbw8 g3;have v4:=ZAA hbw8 g4;have v5:=ZAA hbw8 g5;have v6:=ZAA hbw8 g6;clear hSw hbw8;go_simp;(try with_reducible rfl)
     (try simp only [Act.put,ZZX,ZZW,ZZV])
     refine ZAO (i:=1) (v:=?_) rfl (by kernel_rfl) (by kernel_rfl) (by kernel_rfl) (by kernel_rfl) (fun _ _ _ h=>h) (Or.inl ⟨by rfl, ?_⟩) (by assumption) ?_
     rotate_left
     ·intro w8 hSw;have t2:=ZAA hSw c2;have y0:=ZAA hSw z0;have y1:=ZAA hSw z1;have hbw8:=hbk0.trans (Below.mono hSw hbk0.size);have w0:=ZAA hbw8 q0;have w1:=ZAA hbw8 q1;have w9:=ZAA hbw8 q9;have v0:=ZAA hbw8 g0;have v1:=ZAA hbw8 g1;have v2:=ZAA hbw8 g2;have v3:=ZAA hbw8 g3;have v4:=ZAA hbw8 g4;have v5:=ZAA hbw8 g5;have v6:=ZAA hbw8 g6;clear hSw hbw8;go_simp;(try with_reducible rfl)
     (try simp only [Act.put,ZZX,ZZW,ZZV])
     refine ZAO (i:=2) (v:=?_) rfl (by kernel_rfl) (by kernel_rfl) (by kernel_rfl) (by kernel_rfl) (fun _ _ _ h=>h) (Or.inl ⟨by rfl, ?_⟩) (by assumption) ?_
     rotate_left
     ·intro w8 hSw;have t2:=ZAA hSw c2;have y0:=ZAA hSw z0;have y1:=ZAA hSw z1;have hbw8:=hbk0.trans (Below.mono hSw hbk0.size);have w0:=ZAA hbw8 q0;have w1:=ZAA hbw8 q1;have w9:=ZAA hbw8 q9;have v0:=ZAA hbw8 g0;have v1:=ZAA hbw8 g1;have v2:=ZAA hbw8 g2;have v3:=ZAA hbw8 g3;have v4:=ZAA hbw8 g4;have v5:=ZAA hbw8 g5;have v6:=ZAA hbw8 g6;clear hSw hbw8;go_simp;(try with_reducible rfl)
     (try simp only [Act.put,ZZX,ZZW,ZZV])
     refine ZAO (i:=3) (v:=?_) rfl (by kernel_rfl) (by kernel_rfl) (by kernel_rfl) (by kernel_rfl) (fun _ _ _ h=>h) (Or.inl ⟨by rfl, ?_⟩) (by assumption) ?_
     rotate_left
     ·intro w8 hSw;have t2:=ZAA hSw c2;have y0:=ZAA hSw z0;have y1:=ZAA hSw z1;have hbw8:=hbk0.trans (Below.mono hSw hbk0.size);have w0:=ZAA hbw8 q0;have w1:=ZAA hbw8 q1;have w9:=ZAA hbw8 q9;have v0:=ZAA hbw8 g0;have v1:=ZAA hbw8 g1;have v2:=ZAA hbw8 g2;have v3:=ZAA hbw8 g3;have v4:=ZAA hbw8 g4;have v5:=ZAA hbw8 g5;have v6:=ZAA hbw8 g6;clear hSw hbw8;go_simp;(try with_reducible rfl)
     (try simp only [Act.put,ZZX,ZZW,ZZV])
     refine ZAO (i:=4) (v:=?_) rfl (by kernel_rfl) (by kernel_rfl) (by kernel_rfl) (by kernel_rfl) (fun _ _ _ h=>h) (Or.inl ⟨by rfl, ?_⟩) (by assumption) ?_
     rotate_left
     ·intro w8 hSw;have t2:=ZAA hSw c2;have y0:=ZAA hSw z0;have y1:=ZAA hSw z1;have hbw8:=hbk0.trans (Below.mono hSw hbk0.size);have w0:=ZAA hbw8 q0;have w1:=ZAA hbw8 q1;have w9:=ZAA hbw8 q9;have v0:=ZAA hbw8 g0;have v1:=ZAA hbw8 g1;have v2:=ZAA hbw8 g2;have v3:=ZAA hbw8 g3;have v4:=ZAA hbw8 g4;have v5:=ZAA hbw8 g5;have v6:=ZAA hbw8 g6;clear hSw hbw8;go_simp;(try with_reducible rfl)
     (try simp only [Act.put,ZZX,ZZW,ZZV])
     refine ZAO (i:=5) (v:=?_) rfl (by kernel_rfl) (by kernel_rfl) (by kernel_rfl) (by kernel_rfl) (fun _ _ _ h=>h) (Or.inl ⟨by rfl, ?_⟩) (by assumption) ?_
     rotate_left
     ·intro w8 hSw;have t2:=ZAA hSw c2;have y0:=ZAA hSw z0;have y1:=ZAA hSw z1;have hbw8:=hbk0.trans (Below.mono hSw hbk0.size);have w0:=ZAA hbw8 q0;have w1:=ZAA hbw8 q1;have w9:=ZAA hbw8 q9;have v0:=ZAA hbw8 g0;have v1:=ZAA hbw8 g1;have v2:=ZAA hbw8 g2;have v3:=ZAA hbw8 g3;have v4:=ZAA hbw8 g4;have v5:=ZAA hbw8 g5;have v6:=ZAA hbw8 g6;clear hSw hbw8;go_simp;(try with_reducible rfl)
     (try simp only [Act.put,ZZX,ZZW,ZZV])
     refine ZAO (i:=6) (v:=?_) rfl (by kernel_rfl) (by kernel_rfl) (by kernel_rfl) (by kernel_rfl) (fun _ _ _ h=>h) (Or.inl ⟨by rfl, ?_⟩) (by assumption) ?_
     rotate_left
     ·intro w8 hSw;have t2:=ZAA hSw c2;have y0:=ZAA hSw z0;have y1:=ZAA hSw z1;have hbw8:=hbk0.trans (Below.mono hSw hbk0.size);have w0:=ZAA hbw8 q0;have w1:=ZAA hbw8 q1;have w9:=ZAA hbw8 q9;have v0:=ZAA hbw8 g0;have v1:=ZAA hbw8 g1;have v2:=ZAA hbw8 g2;have v3:=ZAA hbw8 g3;have v4:=ZAA hbw8 g4;have v5:=ZAA hbw8 g5;have v6:=ZAA hbw8 g6;clear hSw hbw8;go_simp;(try with_reducible rfl)
     (try simp only [Act.put,ZZX,ZZW,ZZV])
     refine ZAO (i:=7) (v:=?_) rfl (by kernel_rfl) (by kernel_rfl) (by kernel_rfl) (by kernel_rfl) (fun _ _ _ h=>h) (Or.inl ⟨by rfl, ?_⟩) (by assumption) ?_
     rotate_left
     ·intro w8 hSw;have t2:=ZAA hSw c2;have y0:=ZAA hSw z0;have y1:=ZAA hSw z1;have hbw8:=hbk0.trans (Below.mono hSw hbk0.size);have w0:=ZAA hbw8 q0;have w1:=ZAA hbw8 q1;have w9:=ZAA hbw8 q9;have v0:=ZAA hbw8 g0;have v1:=ZAA hbw8 g1;have v2:=ZAA hbw8 g2;have v3:=ZAA hbw8 g3;have v4:=ZAA hbw8 g4;have v5:=ZAA hbw8 g5;have v6:=ZAA hbw8 g6;clear hSw hbw8;go_simp;(try with_reducible rfl)
     (try simp only [Act.put,ZZX,ZZW,ZZV])
     refine ZAO (i:=8) (v:=?_) rfl (by kernel_rfl) (by kernel_rfl) (by kernel_rfl) (by kernel_rfl) (fun _ _ _ h=>h) (Or.inl ⟨by rfl, ?_⟩) (by assumption) ?_
     rotate_left
     ·intro w8 hSw;have t2:=ZAA hSw c2;have y0:=ZAA hSw z0;have y1:=ZAA hSw z1;have hbw8:=hbk0.trans (Below.mono hSw hbk0.size);have w0:=ZAA hbw8 q0;have w1:=ZAA hbw8 q1;have w9:=ZAA hbw8 q9;have v0:=ZAA hbw8 g0;have v1:=ZAA hbw8 g1;have v2:=ZAA hbw8 g2;have v3:=ZAA hbw8 g3;have v4:=ZAA hbw8 g4;have v5:=ZAA hbw8 g5;have v6:=ZAA hbw8 g6;clear hSw hbw8;go_simp;(try with_reducible rfl)
     (try simp only [Act.put,ZZX,ZZW,ZZV])
     clear z0 z1 c0 c1 c2 q0 q1 q9 g0 g1 g2 g3 g4 g5 g6
     cases hst:Sc.step x s with
     |none=>
      have hSC:∀ W,Below wi.heap.size wi W→Calls Tryz.prog 103 #[.agg #[.slice xa x.slots.length xc,.slice xa' x.cols.length xc'],.agg #[.int .i64 s.kd,.int .i64 s.col,.string s.sl.nm,.int .i64 s.sl.ty,.bool s.sl.rq,.int .i64 kk,.int .i64 n0,.string tx,.slice a2 len cap,.slice oa s.od.length oc]] W fun e w'=>(∃ a n c a' n' c',e=.returned (.tuple #[.agg #[.slice a n c,.slice a' n' c'],.bool false]))∧Below W.heap.size W w':=fun W hb=>(HSt.out W hb).mono fun e w' h=>by
       unfold ZAo at h;rw [hst] at h;exact h
      (with_reducible refine ZFt (i:=9) (j:=13) (o:=?obxn) (o':=?obyn) (by kernel_rfl) ?hoxn ?hoyn (fun K hK=>?stxn) (fun K hK=>?styn))
      case hoxn=>exact rfl
      case hoyn=>exact rfl
      ·go_simp
       go_at_call 103
       (with_reducible refine (hSC _ hS0).mono ?_)
       rintro e w3 ⟨⟨ya,yn,yc,ya',yn',yc',rfl⟩,hb3⟩
       have hS3:=hS0.trans (hb3.mono hS0.size)
       refine hK.out _ _ (.inr hS3) ?_
       clear hK K
       refine ZAO (i:=10) (v:=?_) rfl (by kernel_rfl) (by kernel_rfl) (by kernel_rfl) (by kernel_rfl) (fun _ _ _ h=>h) (Or.inl ⟨by rfl, ?_⟩) (by assumption) ?_
       rotate_left
       ·intro w8 hSw;go_simp;(try with_reducible rfl)
       (try simp only [Act.put,ZZX,ZZW,ZZV])
       refine ZAO (i:=11) (v:=?_) rfl (by kernel_rfl) (by kernel_rfl) (by kernel_rfl) (by kernel_rfl) (fun _ _ _ h=>h) (Or.inl ⟨by rfl, ?_⟩) (by assumption) ?_
       rotate_left
       ·intro w8 hSw;go_simp;(try with_reducible rfl)
       (try simp only [Act.put,ZZX,ZZW,ZZV])
       refine ZAO (i:=12) (v:=?_) rfl (by kernel_rfl) (by kernel_rfl) (by kernel_rfl) (by kernel_rfl) (fun _ _ _ h=>h) (Or.inl ⟨by rfl, ?_⟩) (by assumption) ?_
       rotate_left
       ·intro w8 hSw;go_simp;(try with_reducible rfl)
       (try simp only [Act.put,ZZX,ZZW,ZZV])
       (with_reducible refine ZBH (i:=13) (o:=?obnAa) (by kernel_rfl) ?honAa (fun K hK=>?stnAa))
       case honAa=>exact rfl
       go_simp
       have hA9:=(Below.refl _ w3).alloc (Nat.le_refl _) (.cells #[.slice none 0 0,.slice none 0 0] 128)
       have h74:=ZAQ w3 (.cells #[.slice none 0 0,.slice none 0 0] 128)
       have hS4:=hS3.trans (hA9.mono hS3.size)
       obtain ⟨V4,hV4e⟩:∃ U,w3.alloc (.cells #[.slice none 0 0,.slice none 0 0] 128)=U:=⟨_,rfl⟩
       have hb7:wi.heap.size≤w3.heap.size:=hS3.size
       obtain ⟨b7,hb7e⟩:∃ b,w3.heap.size=b:=⟨_,rfl⟩
       rw [hV4e] at h74 hS4 ⊢
       rw [hb7e] at h74 hb7 ⊢
       clear hV4e hb7e hA9
       refine hK.out _ _ (.inr hS4) ?_
       clear hK K
       have hB4:=hbk.trans (hS4.mono hbk.size)
       have hwi:=(ZZZ hTk).1
       have h75:=ZB2 h74 (.slice ya yn yc) (.slice ya' yn' yc')
       have hB5:=ZD6 hB4 (show w.heap.size≤b7 by omega) (.slice ya yn yc) (.slice ya' yn' yc')
       obtain ⟨d0,d1,d2,d3⟩:=ZAD h74
       (with_reducible refine ZBH (i:=14) (o:=?obnAc) (by kernel_rfl) ?honAc (fun K hK=>?stnAc))
       case honAc=>exact rfl
       go_simp
       refine hK.out _ _ (.inr ?_) ?_
       ·exact ZAE (ZAE hS4 (ZAJ V4 b7 0 (.slice ya yn yc)) (fun b e=>by cases e;exact hb7) hS4.size) (ZAJ _ b7 1 (.slice ya' yn' yc')) (fun b e=>by cases e;exact hb7) (by simp;exact hS4.size)
       have hS5:Below wi.heap.size wi ((V4.setCell ⟨b7,0,none⟩ (.slice ya yn yc)).setCell ⟨b7,1,none⟩ (.slice ya' yn' yc')):=ZAE (ZAE hS4 (ZAJ V4 b7 0 (.slice ya yn yc)) (fun b e=>by cases e;exact hb7) hS4.size) (ZAJ _ b7 1 (.slice ya' yn' yc')) (fun b e=>by cases e;exact hb7) (by simp;exact hS4.size)
       clear hK K d0 d1 d2 d3
       refine ZAO (i:=15) (v:=?_) rfl (by kernel_rfl) (by kernel_rfl) (by kernel_rfl) (by kernel_rfl) (fun _ _ _ h=>h) (Or.inl ⟨by rfl, ?_⟩) (by assumption) ?_
       rotate_left
       ·intro w8 hSw;go_simp;(try with_reducible rfl)
       (try simp only [Act.put,ZZX,ZZW,ZZV])
       refine ZCM (by kernel_rfl) ?_ _
       clear hS5 hS4 hS3
       have hnone:=ZGk HRU.out HS.out hst
       go_wp2_with fail
       exact HQ0.out hnone _ hB5
      ·go_simp
       have hA9:=(Below.refl _ V0).alloc (Nat.le_refl _) (.cells #[.slice none 0 0,.slice none 0 0] 128)
       have h73:=ZAQ V0 (.cells #[.slice none 0 0,.slice none 0 0] 128)
       have hS3:=hS0.trans (hA9.mono hS0.size)
       obtain ⟨V3,hV3e⟩:∃ U,V0.alloc (.cells #[.slice none 0 0,.slice none 0 0] 128)=U:=⟨_,rfl⟩
       have hb7:wi.heap.size≤V0.heap.size:=hS0.size
       obtain ⟨b7,hb7e⟩:∃ b,V0.heap.size=b:=⟨_,rfl⟩
       rw [hV3e] at h73 hS3 hA9 ⊢
       rw [hb7e] at h73 hb7 ⊢
       clear hV3e hb7e hA9
       refine hK.out _ _ (.inr hS3) ?_
       clear hK K
       (with_reducible refine ZBH (i:=9) (o:=?obnBb) (by kernel_rfl) ?honBb (fun K hK=>?stnBb))
       case honBb=>exact rfl
       go_simp
       go_at_call 103
       (with_reducible refine (hSC _ hS3).mono ?_)
       rintro e V4 ⟨⟨ya,yn,yc,ya',yn',yc',rfl⟩,hb3⟩
       have h74:=(hb3.block _ (ZZZ h73).1).trans h73
       have hS4:=hS3.trans (hb3.mono hS3.size)
       refine hK.out _ _ (.inr hS4) ?_
       clear hK K
       refine ZAO (i:=10) (v:=?_) rfl (by kernel_rfl) (by kernel_rfl) (by kernel_rfl) (by kernel_rfl) (fun _ _ _ h=>h) (Or.inl ⟨by rfl, ?_⟩) (by assumption) ?_
       rotate_left
       ·intro w8 hSw;go_simp;(try with_reducible rfl)
       (try simp only [Act.put,ZZX,ZZW,ZZV])
       refine ZAO (i:=11) (v:=?_) rfl (by kernel_rfl) (by kernel_rfl) (by kernel_rfl) (by kernel_rfl) (fun _ _ _ h=>h) (Or.inl ⟨by rfl, ?_⟩) (by assumption) ?_
       rotate_left
       ·intro w8 hSw;go_simp;(try with_reducible rfl)
       (try simp only [Act.put,ZZX,ZZW,ZZV])
       refine ZAO (i:=12) (v:=?_) rfl (by kernel_rfl) (by kernel_rfl) (by kernel_rfl) (by kernel_rfl) (fun _ _ _ h=>h) (Or.inl ⟨by rfl, ?_⟩) (by assumption) ?_
       rotate_left
       ·intro w8 hSw;go_simp;(try with_reducible rfl)
       (try simp only [Act.put,ZZX,ZZW,ZZV])
       have hB4:=hbk.trans (hS4.mono hbk.size)
       have hwi:=(ZZZ hTk).1
       have h75:=ZB2 h74 (.slice ya yn yc) (.slice ya' yn' yc')
       have hB5:=ZD6 hB4 (show w.heap.size≤b7 by omega) (.slice ya yn yc) (.slice ya' yn' yc')
       obtain ⟨d0,d1,d2,d3⟩:=ZAD h74
       (with_reducible refine ZBH (i:=14) (o:=?obnBc) (by kernel_rfl) ?honBc (fun K hK=>?stnBc))
       case honBc=>exact rfl
       go_simp
       refine hK.out _ _ (.inr ?_) ?_
       ·exact ZAE (ZAE hS4 (ZAJ V4 b7 0 (.slice ya yn yc)) (fun b e=>by cases e;exact hb7) hS4.size) (ZAJ _ b7 1 (.slice ya' yn' yc')) (fun b e=>by cases e;exact hb7) (by simp;exact hS4.size)
       have hS5:Below wi.heap.size wi ((V4.setCell ⟨b7,0,none⟩ (.slice ya yn yc)).setCell ⟨b7,1,none⟩ (.slice ya' yn' yc')):=ZAE (ZAE hS4 (ZAJ V4 b7 0 (.slice ya yn yc)) (fun b e=>by cases e;exact hb7) hS4.size) (ZAJ _ b7 1 (.slice ya' yn' yc')) (fun b e=>by cases e;exact hb7) (by simp;exact hS4.size)
       clear hK K d0 d1 d2 d3
       refine ZAO (i:=15) (v:=?_) rfl (by kernel_rfl) (by kernel_rfl) (by kernel_rfl) (by kernel_rfl) (fun _ _ _ h=>h) (Or.inl ⟨by rfl, ?_⟩) (by assumption) ?_
       rotate_left
       ·intro w8 hSw;go_simp;(try with_reducible rfl)
       (try simp only [Act.put,ZZX,ZZW,ZZV])
       refine ZCM (by kernel_rfl) ?_ _
       clear hS5 hS4 hS3
       have hnone:=ZGk HRU.out HS.out hst
       go_wp2_with fail
       exact HQ0.out hnone _ hB5
     |some y=>
      have hSC:∀ W,Below wi.heap.size wi W→Calls Tryz.prog 103 #[.agg #[.slice xa x.slots.length xc,.slice xa' x.cols.length xc'],.agg #[.int .i64 s.kd,.int .i64 s.col,.string s.sl.nm,.int .i64 s.sl.ty,.bool s.sl.rq,.int .i64 kk,.int .i64 n0,.string tx,.slice a2 len cap,.slice oa s.od.length oc]] W fun e w'=>(∃ sv cv,e=.returned (.tuple #[.agg #[sv,cv],.bool true])∧ZBd W.heap.size w0 w' y sv cv)∧Below W.heap.size W w':=fun W hb=>(HSt.out W hb).mono fun e w' h=>by
       unfold ZAo at h;rw [hst] at h;exact h
      (with_reducible refine ZFt (i:=9) (j:=13) (o:=?obxg) (o':=?obyg) (by kernel_rfl) ?hoxg ?hoyg (fun K hK=>?stxg) (fun K hK=>?styg))
      case hoxg=>exact rfl
      case hoyg=>exact rfl
      ·go_simp
       go_at_call 103
       (with_reducible refine (hSC _ hS0).mono ?_)
       rintro e w3 ⟨⟨sv9,cv9,rfl,hv9⟩,hb3⟩
       obtain ⟨ya,yc,ya',yc',rfl,rfl⟩:=ZBG hv9
       have hS3:=hS0.trans (hb3.mono hS0.size)
       refine hK.out _ _ (.inr hS3) ?_
       clear hK K
       refine ZAO (i:=10) (v:=?_) rfl (by kernel_rfl) (by kernel_rfl) (by kernel_rfl) (by kernel_rfl) (fun _ _ _ h=>h) (Or.inl ⟨by rfl, ?_⟩) (by assumption) ?_
       rotate_left
       ·intro w8 hSw;go_simp;(try with_reducible rfl)
       (try simp only [Act.put,ZZX,ZZW,ZZV])
       refine ZAO (i:=11) (v:=?_) rfl (by kernel_rfl) (by kernel_rfl) (by kernel_rfl) (by kernel_rfl) (fun _ _ _ h=>h) (Or.inl ⟨by rfl, ?_⟩) (by assumption) ?_
       rotate_left
       ·intro w8 hSw;go_simp;(try with_reducible rfl)
       (try simp only [Act.put,ZZX,ZZW,ZZV])
       refine ZAO (i:=12) (v:=?_) rfl (by kernel_rfl) (by kernel_rfl) (by kernel_rfl) (by kernel_rfl) (fun _ _ _ h=>h) (Or.inl ⟨by rfl, ?_⟩) (by assumption) ?_
       rotate_left
       ·intro w8 hSw;go_simp;(try with_reducible rfl)
       (try simp only [Act.put,ZZX,ZZW,ZZV])
       (with_reducible refine ZBH (i:=13) (o:=?obgAa) (by kernel_rfl) ?hogAa (fun K hK=>?stgAa))
       case hogAa=>exact rfl
       go_simp
       have hA9:=(Below.refl _ w3).alloc (Nat.le_refl _) (.cells #[.slice none 0 0,.slice none 0 0] 128)
       have h74:=ZAQ w3 (.cells #[.slice none 0 0,.slice none 0 0] 128)
       have hS4:=hS3.trans (hA9.mono hS3.size)
       have hV4:=ZB5 hv9 (ZCH hA9) (fun b e=>by cases e)
       obtain ⟨V4,hV4e⟩:∃ U,w3.alloc (.cells #[.slice none 0 0,.slice none 0 0] 128)=U:=⟨_,rfl⟩
       have hb7:wi.heap.size≤w3.heap.size:=hS3.size
       have hlo7:w.heap.size+1+1≤V0.heap.size:=by have:=hS0.size;omega
       obtain ⟨b7,hb7e⟩:∃ b,w3.heap.size=b:=⟨_,rfl⟩
       rw [hV4e] at h74 hS4 hV4 ⊢
       rw [hb7e] at h74 hb7 ⊢
       clear hV4e hb7e hA9
       refine hK.out _ _ (.inr hS4) ?_
       clear hK K
       have hB4:=hbk.trans (hS4.mono hbk.size)
       have hT4:=(hS4.block _ (ZZZ hTk).1).trans hTk
       have hO4:=ZFU HOk.out hS4
       have hwi:=(ZZZ hTk).1
       have h75:=ZB2 h74 (.slice ya y.slots.length yc) (.slice ya' y.cols.length yc')
       have hB5:=ZD6 hB4 (show w.heap.size≤b7 by omega) (.slice ya y.slots.length yc) (.slice ya' y.cols.length yc')
       have hT5:=ZIx hT4 (show w.heap.size≠b7 by omega) (.slice ya y.slots.length yc) (.slice ya' y.cols.length yc')
       have hO5:=ZPO hO4 h74 (fun b e=>by have e2:go=b:=(by simpa [Value.ownBlock] using e);omega) (.slice ya y.slots.length yc) (.slice ya' y.cols.length yc')
       have hV5:=ZEx hV4 h74 (.slice ya y.slots.length yc) (.slice ya' y.cols.length yc')
       obtain ⟨d0,d1,d2,d3⟩:=ZAD h74
       (with_reducible refine ZBH (i:=14) (o:=?obgAc) (by kernel_rfl) ?hogAc (fun K hK=>?stgAc))
       case hogAc=>exact rfl
       go_simp
       refine hK.out _ _ (.inr ?_) ?_
       ·exact ZAE (ZAE hS4 (ZAJ V4 b7 0 (.slice ya y.slots.length yc)) (fun b e=>by cases e;exact hb7) hS4.size) (ZAJ _ b7 1 (.slice ya' y.cols.length yc')) (fun b e=>by cases e;exact hb7) (by simp;exact hS4.size)
       have hS5:Below wi.heap.size wi ((V4.setCell ⟨b7,0,none⟩ (.slice ya y.slots.length yc)).setCell ⟨b7,1,none⟩ (.slice ya' y.cols.length yc')):=ZAE (ZAE hS4 (ZAJ V4 b7 0 (.slice ya y.slots.length yc)) (fun b e=>by cases e;exact hb7) hS4.size) (ZAJ _ b7 1 (.slice ya' y.cols.length yc')) (fun b e=>by cases e;exact hb7) (by simp;exact hS4.size)
       clear hK K d0 d1 d2 d3
       refine ZAO (i:=15) (v:=?_) rfl (by kernel_rfl) (by kernel_rfl) (by kernel_rfl) (by kernel_rfl) (fun _ _ _ h=>h) (Or.inl ⟨by rfl, ?_⟩) (by assumption) ?_
       rotate_left
       ·intro w8 hSw;go_simp;(try with_reducible rfl)
       (try simp only [Act.put,ZZX,ZZW,ZZV])
       refine ZCM (by kernel_rfl) ?_ _
       clear hS5 hS4 hS3
       obtain ⟨d0,d1,d2,d3⟩:=ZAD h75
       have HO5:=ZZY hO5;have HV5:=ZZY hV5;have HB5:=ZZY hB5;have HT5:=ZZY hT5
       obtain ⟨V5,hV5e⟩:∃ V5,(V4.setCell ⟨b7,0,none⟩ (.slice ya y.slots.length yc)).setCell ⟨b7,1,none⟩ (.slice ya' y.cols.length yc')=V5:=⟨_,rfl⟩
       rw [hV5e] at HO5 HV5 HB5 HT5 d0 d1 d2 d3 ⊢
       clear hV5e h75 hO5 hV5 hB5 hT5
       have HA5:=ZZY ((Below.refl _ V5).alloc (Nat.le_refl _) (.cells #[.slice ya y.slots.length yc,.slice ya' y.cols.length yc'] 128))
       obtain ⟨cs5,p5,r5⟩:=ZFU HO5.out HA5.out
       rw [hLl] at p5
       have HP5:=ZZY p5;have HR5:=ZZY r5;clear p5 r5
       go_wp2_with (first
        |(at_builtin;refine ZAj _ rfl _ _ 112 rfl (w.heap.size+1+1) 128 i1 _ 2 48 Tryz.underlying112 hv1 hv2 hv3 hv4 rfl (by decide) (.slice (some ⟨go,0,none⟩) (k+1) oc9) (k+1) cs5 rfl HP5.out (some ⟨V5.heap.size,0,none⟩) 1 1 [.slice ya y.slots.length yc,.slice ya' y.cols.length yc'] rfl ⟨rfl,.inr ⟨_,rfl,ZBC V5 [_,_] _⟩⟩ (by simp [Value.oneCell']) (by unfold maxLen;omega) (by omega) (Nat.le_trans (by have:=(ZAV HP5.out go rfl).2;have:=(ZAV HP5.out go rfl).1;omega) (Nat.le_refl _)) ?_;intro v6 V6 ho6 hg6 ha6;have hO6:=ZIw (L:=Lp ++ [x]) (by rw [hLl];exact HP5.out) HR5.out (ZEG (ZB5 HV5.out (ZCH HA5.out) (fun b e=>by cases e)) hlo7) hg6 (by rw [hLl];exact ho6);have HO6:=ZZY hO6;have hbl6:=(ZAV HP5.out go rfl).2;have HB6:=ZZY (ZAE (HB5.out.trans (HA5.out.mono HB5.out.size)) hg6 (fun b e=>by have e2:go=b:=(by simpa [Value.ownBlock] using e);omega) (Nat.le_trans HB5.out.size HA5.out.size));have hT55:=(HA5.out.block _ (ZZZ HT5.out).1).trans HT5.out;have HT6:=ZZY ((hg6.block _ (ZZZ hT55).1 (fun e=>by simp [Value.ownBlock] at e;omega)).trans hT55);clear hO6 hT55 hg6 ha6 ho6))
       go_roundw
       case rel=>exact ⟨k+1,(Lp ++ [x]) ++ [y],by omega,by go_num,HB6.out,HT6.out,HO6.out,ZGj hlp HRU.out HXOK.out HS.out hst⟩
       case measure=>simp [intOf];omega
      ·go_simp
       have hA9:=(Below.refl _ V0).alloc (Nat.le_refl _) (.cells #[.slice none 0 0,.slice none 0 0] 128)
       have h73:=ZAQ V0 (.cells #[.slice none 0 0,.slice none 0 0] 128)
       have hS3:=hS0.trans (hA9.mono hS0.size)
       obtain ⟨V3,hV3e⟩:∃ U,V0.alloc (.cells #[.slice none 0 0,.slice none 0 0] 128)=U:=⟨_,rfl⟩
       have hb7:wi.heap.size≤V0.heap.size:=hS0.size
       obtain ⟨b7,hb7e⟩:∃ b,V0.heap.size=b:=⟨_,rfl⟩
       rw [hV3e] at h73 hS3 hA9 ⊢
       have hlo7:w.heap.size+1+1≤V3.heap.size:=by have:=hS3.size;omega
       rw [hb7e] at h73 hb7 ⊢
       clear hV3e hb7e hA9
       refine hK.out _ _ (.inr hS3) ?_
       clear hK K
       (with_reducible refine ZBH (i:=9) (o:=?obgBb) (by kernel_rfl) ?hogBb (fun K hK=>?stgBb))
       case hogBb=>exact rfl
       go_simp
       go_at_call 103
       (with_reducible refine (hSC _ hS3).mono ?_)
       rintro e V4 ⟨⟨sv9,cv9,rfl,hV4⟩,hb3⟩
       obtain ⟨ya,yc,ya',yc',rfl,rfl⟩:=ZBG hV4
       have h74:=(hb3.block _ (ZZZ h73).1).trans h73
       have hS4:=hS3.trans (hb3.mono hS3.size)
       refine hK.out _ _ (.inr hS4) ?_
       clear hK K
       refine ZAO (i:=10) (v:=?_) rfl (by kernel_rfl) (by kernel_rfl) (by kernel_rfl) (by kernel_rfl) (fun _ _ _ h=>h) (Or.inl ⟨by rfl, ?_⟩) (by assumption) ?_
       rotate_left
       ·intro w8 hSw;go_simp;(try with_reducible rfl)
       (try simp only [Act.put,ZZX,ZZW,ZZV])
       refine ZAO (i:=11) (v:=?_) rfl (by kernel_rfl) (by kernel_rfl) (by kernel_rfl) (by kernel_rfl) (fun _ _ _ h=>h) (Or.inl ⟨by rfl, ?_⟩) (by assumption) ?_
       rotate_left
       ·intro w8 hSw;go_simp;(try with_reducible rfl)
       (try simp only [Act.put,ZZX,ZZW,ZZV])
       refine ZAO (i:=12) (v:=?_) rfl (by kernel_rfl) (by kernel_rfl) (by kernel_rfl) (by kernel_rfl) (fun _ _ _ h=>h) (Or.inl ⟨by rfl, ?_⟩) (by assumption) ?_
       rotate_left
       ·intro w8 hSw;go_simp;(try with_reducible rfl)
       (try simp only [Act.put,ZZX,ZZW,ZZV])
       have hB4:=hbk.trans (hS4.mono hbk.size)
       have hT4:=(hS4.block _ (ZZZ hTk).1).trans hTk
       have hO4:=ZFU HOk.out hS4
       have hwi:=(ZZZ hTk).1
       have h75:=ZB2 h74 (.slice ya y.slots.length yc) (.slice ya' y.cols.length yc')
       have hB5:=ZD6 hB4 (show w.heap.size≤b7 by omega) (.slice ya y.slots.length yc) (.slice ya' y.cols.length yc')
       have hT5:=ZIx hT4 (show w.heap.size≠b7 by omega) (.slice ya y.slots.length yc) (.slice ya' y.cols.length yc')
       have hO5:=ZPO hO4 h74 (fun b e=>by have e2:go=b:=(by simpa [Value.ownBlock] using e);omega) (.slice ya y.slots.length yc) (.slice ya' y.cols.length yc')
       have hV5:=ZEx hV4 h74 (.slice ya y.slots.length yc) (.slice ya' y.cols.length yc')
       obtain ⟨d0,d1,d2,d3⟩:=ZAD h74
       (with_reducible refine ZBH (i:=14) (o:=?obgBc) (by kernel_rfl) ?hogBc (fun K hK=>?stgBc))
       case hogBc=>exact rfl
       go_simp
       refine hK.out _ _ (.inr ?_) ?_
       ·exact ZAE (ZAE hS4 (ZAJ V4 b7 0 (.slice ya y.slots.length yc)) (fun b e=>by cases e;exact hb7) hS4.size) (ZAJ _ b7 1 (.slice ya' y.cols.length yc')) (fun b e=>by cases e;exact hb7) (by simp;exact hS4.size)
       have hS5:Below wi.heap.size wi ((V4.setCell ⟨b7,0,none⟩ (.slice ya y.slots.length yc)).setCell ⟨b7,1,none⟩ (.slice ya' y.cols.length yc')):=ZAE (ZAE hS4 (ZAJ V4 b7 0 (.slice ya y.slots.length yc)) (fun b e=>by cases e;exact hb7) hS4.size) (ZAJ _ b7 1 (.slice ya' y.cols.length yc')) (fun b e=>by cases e;exact hb7) (by simp;exact hS4.size)
       clear hK K d0 d1 d2 d3
       refine ZAO (i:=15) (v:=?_) rfl (by kernel_rfl) (by kernel_rfl) (by kernel_rfl) (by kernel_rfl) (fun _ _ _ h=>h) (Or.inl ⟨by rfl, ?_⟩) (by assumption) ?_
       rotate_left
       ·intro w8 hSw;go_simp;(try with_reducible rfl)
       (try simp only [Act.put,ZZX,ZZW,ZZV])
       refine ZCM (by kernel_rfl) ?_ _
       clear hS5 hS4 hS3
       obtain ⟨d0,d1,d2,d3⟩:=ZAD h75
       have HO5:=ZZY hO5;have HV5:=ZZY hV5;have HB5:=ZZY hB5;have HT5:=ZZY hT5
       obtain ⟨V5,hV5e⟩:∃ V5,(V4.setCell ⟨b7,0,none⟩ (.slice ya y.slots.length yc)).setCell ⟨b7,1,none⟩ (.slice ya' y.cols.length yc')=V5:=⟨_,rfl⟩
       rw [hV5e] at HO5 HV5 HB5 HT5 d0 d1 d2 d3 ⊢
       clear hV5e h75 hO5 hV5 hB5 hT5
       have HA5:=ZZY ((Below.refl _ V5).alloc (Nat.le_refl _) (.cells #[.slice ya y.slots.length yc,.slice ya' y.cols.length yc'] 128))
       obtain ⟨cs5,p5,r5⟩:=ZFU HO5.out HA5.out
       rw [hLl] at p5
       have HP5:=ZZY p5;have HR5:=ZZY r5;clear p5 r5
       go_wp2_with (first
        |(at_builtin;refine ZAj _ rfl _ _ 112 rfl (w.heap.size+1+1) 128 i1 _ 2 48 Tryz.underlying112 hv1 hv2 hv3 hv4 rfl (by decide) (.slice (some ⟨go,0,none⟩) (k+1) oc9) (k+1) cs5 rfl HP5.out (some ⟨V5.heap.size,0,none⟩) 1 1 [.slice ya y.slots.length yc,.slice ya' y.cols.length yc'] rfl ⟨rfl,.inr ⟨_,rfl,ZBC V5 [_,_] _⟩⟩ (by simp [Value.oneCell']) (by unfold maxLen;omega) (by omega) (Nat.le_trans (by have:=(ZAV HP5.out go rfl).2;have:=(ZAV HP5.out go rfl).1;omega) (Nat.le_refl _)) ?_;intro v6 V6 ho6 hg6 ha6;have hO6:=ZIw (L:=Lp ++ [x]) (by rw [hLl];exact HP5.out) HR5.out (ZEG (ZB5 HV5.out (ZCH HA5.out) (fun b e=>by cases e)) hlo7) hg6 (by rw [hLl];exact ho6);have HO6:=ZZY hO6;have hbl6:=(ZAV HP5.out go rfl).2;have HB6:=ZZY (ZAE (HB5.out.trans (HA5.out.mono HB5.out.size)) hg6 (fun b e=>by have e2:go=b:=(by simpa [Value.ownBlock] using e);omega) (Nat.le_trans HB5.out.size HA5.out.size));have hT55:=(HA5.out.block _ (ZZZ HT5.out).1).trans HT5.out;have HT6:=ZZY ((hg6.block _ (ZZZ hT55).1 (fun e=>by simp [Value.ownBlock] at e;omega)).trans hT55);clear hO6 hT55 hg6 ha6 ho6))
       go_roundw
       case rel=>exact ⟨k+1,(Lp ++ [x]) ++ [y],by omega,by go_num,HB6.out,HT6.out,HO6.out,ZGj hlp HRU.out HXOK.out HS.out hst⟩
       case measure=>simp [intOf];omega
    ·obtain rfl:k=m:=by omega
     have hd3':decide ((k:Int)<(k:Int))=false:=by simp
     have hml:=HML.out
     have hend:=ZNf HRU.out hml
     obtain ⟨cs,o1,o2⟩:=hOk
     have HFin:=ZZY (HQ1.out _ hend _ _ ⟨cs,ZAH o1 (by omega),fun i y hy=>by
      obtain ⟨s1,s2,e1,e2,e3⟩:=o2 i y hy
      exact ⟨s1,s2,e1,e2,ZEG e3 (by omega)⟩⟩ hbk)
     clear o1 o2 hend hml hlp hxok
     go_wp2_with fail
     exact HFin.out
