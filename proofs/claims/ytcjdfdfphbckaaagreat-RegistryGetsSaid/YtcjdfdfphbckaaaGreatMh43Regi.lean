/- Registries: the document's SameSlots, of any slots. (Made by gen_rgw.py.) -/
import Derived.Test.YtcjdfdfphbckaaaGreatMh42Regi
set_option linter.unusedVariables false
set_option linter.unusedSimpArgs false
set_option maxRecDepth 100000
set_option maxHeartbeats 64000000
open Go.Proofs.Tryz
namespace Go.Proofs.YtcjdfdfphbckaaaGreat
open Go.RowKit Go.Shelf
theorem ZNk {a b:ByteArray} (h:a≠b):(a.toList != b.toList)=true:=by rw [bne,ZGI h];rfl
theorem ZKH {a b:Int} (h:a≠b):(a != b)=true:=by rw [bne,ZGJ h];rfl
theorem ZOo {a b:Bool} (h:a≠b):(a=true∧b=false)∨(a=false∧b=true):=by
 cases a<;>cases b<;>simp_all
theorem ZDd (a1 a2:Option Addr) (c1 c2:Nat) (ls ms:List SlotM) (w:World) (h1:ZBV w a1 c1 ls) (h2:ZBV w a2 c2 ms) :
  Calls Tryz.prog 21 #[.slice a1 ls.length c1,.slice a2 ms.length c2] w fun e w'=>e=.returned (.bool (eqB ls ms))∧Below w.heap.size w w':=by
 have hcap:=h1.2.1
 have hlc:=h1.1
 unfold maxLen at hcap
 have hB:=ZDS ls ms
 obtain ⟨B,hBB⟩:∃ B,eqB ls ms=B:=⟨_,rfl⟩
 rw [hBB] at hB ⊢
 clear hBB
 by_cases hnm:ls.length=ms.length
 ·obtain ⟨n,hn⟩:∃ n,ls.length=n:=⟨_,rfl⟩
  have hmn:ms.length=n:=by rw [←hnm,hn]
  have HL:=ZZY h1;have HV:=ZZY h2;have HN:=ZZY hn;have HM:=ZZY hmn;have HB:=ZZY hB
  rw [hn] at hlc ⊢
  rw [hmn]
  have hb:((n:Int) != (n:Int))=false:=by simp
  clear h1 h2 hn hmn hB hnm
  go_enter func21,ntmps21
  go_wp2
  go_loopw [5] (fun i wr=>∃ q:Nat,q≤n∧i=.int .i64 (q:Int)∧Below w.heap.size w wr∧Hid (∀ (j:Nat) (s m:SlotM),j<q→ls[j]? = some s→ms[j]? = some m→eqB s m=true)) (fun i _=>n-(intOf i).toNat)
  case atStart=>exact ⟨0,Nat.zero_le _,rfl,Below.refl _ _,ZZY (fun j s v hj=>by omega)⟩
  case round=>
   obtain ⟨q,hq,rfl,hbw,HALL⟩:=hrel
   obtain ⟨W0,hW0⟩:∃ x,x=wr:=⟨_,rfl⟩
   subst hW0
   rcases Nat.lt_or_ge q n with hlt | hge
   ·have hd:decide ((q:Int)<(n:Int))=true:=by simp;omega
    have hnl:=HN.out
    have hvl:=HM.out
    obtain ⟨s,hs⟩:∃ s,ls[q]? = some s:=⟨ls[q],List.getElem?_eq_getElem (by omega)⟩
    obtain ⟨m,hm⟩:∃ m,ms[q]? = some m:=⟨ms[q],List.getElem?_eq_getElem (by omega)⟩
    obtain ⟨pb,po,rfl,prow⟩:∃ b9 off,a1=some ⟨b9,off,none⟩∧∀ i s,ls[i]? = some s→ZCS w b9 (off+i*7) s:=by
     rcases HL.out.2.2 with h | h
     ·subst h;simp at hnl;omega
     ·exact h
    obtain ⟨rb,ro,rfl,rrow⟩:∃ b9 off,a2=some ⟨b9,off,none⟩∧∀ i s,ms[i]? = some s→ZCS w b9 (off+i*7) s:=by
     rcases HV.out.2.2 with h | h
     ·subst h;simp at hvl;omega
     ·exact h
    obtain ⟨pk,pn,pt,pa,pl,pc,⟨g0,g1,g2,g3,g4,g5,g6⟩,ph1,ph2,ph3⟩:=ZBR (prow q s hs)
    obtain ⟨rk,rn,rt,ra,rl,rc,⟨e0,e1,e2,e3,e4,e5,e6⟩,rh1,rh2,rh3⟩:=ZBR (rrow q m hm)
    have Y0:=ZZY (ZAA hbw g0)
    have Y1:=ZZY (ZAA hbw g1)
    have Y2:=ZZY (ZAA hbw g2)
    have Y3:=ZZY (ZAA hbw g3)
    have Y4:=ZZY (ZAA hbw g4)
    have Y5:=ZZY (ZAA hbw g5)
    have Y6:=ZZY (ZAA hbw g6)
    have X0:=ZZY (ZAA hbw e0)
    have X1:=ZZY (ZAA hbw e1)
    have X2:=ZZY (ZAA hbw e2)
    have X3:=ZZY (ZAA hbw e3)
    have X4:=ZZY (ZAA hbw e4)
    have X5:=ZZY (ZAA hbw e5)
    have X6:=ZZY (ZAA hbw e6)
    have hSm:∀ W,Below W0.heap.size W0 W→Calls Tryz.prog 40 #[.agg #[.int .i64 pk,.int .i64 pn,.string pt,.slice pa pl pc],.agg #[.int .i64 rk,.int .i64 rn,.string rt,.slice ra rl rc]] W fun e w'=>e=.returned (.bool (eqB s.df m.df))∧Below W.heap.size W w':=fun W hb=>
     (ZFu s.df m.df W _ _ (ZAf (hbw.trans (hb.mono hbw.size)) _ _ ph3) (ZAf (hbw.trans (hb.mono hbw.size)) _ _ rh3)).mono fun e w' h=>⟨by rw [h.1];exact ZAG (by rw [Bool.eq_iff_iff,ZBo];exact ZIn _ _),h.2⟩
    have hgood:eqB s m=true→∀ (j:Nat) (s m:SlotM),j<q+1→ls[j]? = some s→ms[j]? = some m→eqB s m=true:=fun h1 j s' v' hj h2 h3=>by
     rcases Nat.lt_or_ge j q with h | h
     ·exact HALL.out j s' v' h h2 h3
     ·obtain rfl:j=q:=by omega
      rw [hs] at h2;rw [hm] at h3
      cases h2;cases h3
      exact h1
    have hbad:eqB s m=false→B=false:=fun h1=>by
     cases B with
     |false=>rfl
     |true=>
      have:=(HB.out.1 rfl).2 q s m hs hm
      rw [h1] at this
      exact this.symm
    have HGOOD:=ZZY hgood;have HBAD:=ZZY hbad
    clear hgood hbad hs hm hnl hvl prow rrow g0 g1 g2 g3 g4 g5 g6 e0 e1 e2 e3 e4 e5 e6 ph1 ph2 ph3 rh1 rh2 rh3
    obtain ⟨nm,ty,rq,df⟩:=s
    obtain ⟨nm',ty',rq',df'⟩:=m
    simp only at *
    by_cases k1:nm=nm'
    ·subst k1
     have n1:(nm.toList != nm.toList)=false:=by simp
     by_cases k2:ty=ty'
     ·subst k2
      have n2:(ty != ty)=false:=by simp
      by_cases k3:rq=rq'
      ·subst k3
       have n3:(rq != rq)=false:=by simp
       obtain ⟨E,hE⟩:∃ E,eqB df df'=E:=⟨_,rfl⟩
       rw [hE] at hSm
       have hx:=ZEJ (ZDj (nm:=nm) (nm':=nm) (ty:=ty) (ty':=ty) (rq:=rq) (rq':=rq) (df:=df) (df':=df') |>.trans (show _ ↔ df=df' from ⟨fun h=>h.2.2.2,fun h=>⟨rfl,rfl,rfl,h⟩⟩))
       rw [hE] at hx
       have HSm:=ZZY hSm
       have HXX:=ZZY hx
       clear hSm hE hx
       cases E with
       |false=>
        have hb0:B=false:=HBAD.out HXX.out
        go_wp2_with fail
        refine wp_region_quiet (C:=fun W=>Below W0.heap.size W0 W) (by kernel_rfl) (by kernel_rfl) (ZAI W0) ?_
        iterate 51 (first
         |((with_reducible refine BigFrame.wpQuiet_skip ?_ ?_);(focus rfl);simp only [Act.put,ZZX,ZZW,ZZV])
         |((with_reducible refine BigFrame.wpQuiet_want ?_ (fun K hK=>?_))
           focus rfl
           apply ZAq
           ·intro W hC
            unfold Oper.quietAt
            have HC:=ZZY hC
            have y0:=ZAA hC Y0.out
            have y1:=ZAA hC Y1.out
            have y2:=ZAA hC Y2.out
            have y3:=ZAA hC Y3.out
            have y4:=ZAA hC Y4.out
            have y5:=ZAA hC Y5.out
            have y6:=ZAA hC Y6.out
            have x0:=ZAA hC X0.out
            have x1:=ZAA hC X1.out
            have x2:=ZAA hC X2.out
            have x3:=ZAA hC X3.out
            have x4:=ZAA hC X4.out
            have x5:=ZAA hC X5.out
            have x6:=ZAA hC X6.out
            clear hC
            go_simp
            first
             |done
             |with_reducible rfl
             |((with_reducible refine (HSm.out _ HC.out).mono ?_);exact fun e w' ⟨he,hb⟩=>⟨he,HC.out.trans (hb.mono HC.out.size)⟩)
           (with_reducible refine hK _ ?_);clear hK K;simp only [Act.put,ZZX,ZZW,ZZV]))
        refine wpQuiet_nil ?_
        intro W9 hB9
        (try simp only at hB9)
        go_wp2_with fail
        go_ret
        exact ⟨ZAG hb0.symm,hbw.trans (hB9.mono hbw.size)⟩
       |true=>
        have hgd:=ZZY (HGOOD.out HXX.out)
        go_wp2_with fail
        refine wp_region_quiet (C:=fun W=>Below W0.heap.size W0 W) (by kernel_rfl) (by kernel_rfl) (ZAI W0) ?_
        iterate 51 (first
         |((with_reducible refine BigFrame.wpQuiet_skip ?_ ?_);(focus rfl);simp only [Act.put,ZZX,ZZW,ZZV])
         |((with_reducible refine BigFrame.wpQuiet_want ?_ (fun K hK=>?_))
           focus rfl
           apply ZAq
           ·intro W hC
            unfold Oper.quietAt
            have HC:=ZZY hC
            have y0:=ZAA hC Y0.out
            have y1:=ZAA hC Y1.out
            have y2:=ZAA hC Y2.out
            have y3:=ZAA hC Y3.out
            have y4:=ZAA hC Y4.out
            have y5:=ZAA hC Y5.out
            have y6:=ZAA hC Y6.out
            have x0:=ZAA hC X0.out
            have x1:=ZAA hC X1.out
            have x2:=ZAA hC X2.out
            have x3:=ZAA hC X3.out
            have x4:=ZAA hC X4.out
            have x5:=ZAA hC X5.out
            have x6:=ZAA hC X6.out
            clear hC
            go_simp
            first
             |done
             |with_reducible rfl
             |((with_reducible refine (HSm.out _ HC.out).mono ?_);exact fun e w' ⟨he,hb⟩=>⟨he,HC.out.trans (hb.mono HC.out.size)⟩)
           (with_reducible refine hK _ ?_);clear hK K;simp only [Act.put,ZZX,ZZW,ZZV]))
        refine wpQuiet_nil ?_
        intro W9 hB9
        (try simp only at hB9)
        go_wp2_with fail
        go_roundw
        case rel=>exact ⟨q+1,by omega,by go_num,hbw.trans (hB9.mono hbw.size),hgd⟩
        case measure=>simp [intOf];omega
      ·have hb0:B=false:=HBAD.out (ZCV (fun e=>k3 (ZDj.1 e).2.2.1))
       rcases ZOo k3 with ⟨rfl,rfl⟩ | ⟨rfl,rfl⟩
       ·clear hSm k3
        go_wp2_with fail
        refine wp_region_quiet (C:=fun W=>Below W0.heap.size W0 W) (by kernel_rfl) (by kernel_rfl) (ZAI W0) ?_
        iterate 51 (first
         |((with_reducible refine BigFrame.wpQuiet_skip ?_ ?_);(focus rfl);simp only [Act.put,ZZX,ZZW,ZZV])
         |((with_reducible refine BigFrame.wpQuiet_want ?_ (fun K hK=>?_))
           focus rfl
           apply ZAq
           ·intro W hC
            unfold Oper.quietAt
            have HC:=ZZY hC
            have y0:=ZAA hC Y0.out
            have y1:=ZAA hC Y1.out
            have y2:=ZAA hC Y2.out
            have y3:=ZAA hC Y3.out
            have y4:=ZAA hC Y4.out
            have y5:=ZAA hC Y5.out
            have y6:=ZAA hC Y6.out
            have x0:=ZAA hC X0.out
            have x1:=ZAA hC X1.out
            have x2:=ZAA hC X2.out
            have x3:=ZAA hC X3.out
            have x4:=ZAA hC X4.out
            have x5:=ZAA hC X5.out
            have x6:=ZAA hC X6.out
            clear hC
            go_simp
            first
             |done
             |with_reducible rfl
             |done
           (with_reducible refine hK _ ?_);clear hK K;simp only [Act.put,ZZX,ZZW,ZZV]))
        refine wpQuiet_nil ?_
        intro W9 hB9
        (try simp only at hB9)
        go_wp2_with fail
        go_ret
        exact ⟨ZAG hb0.symm,hbw.trans (hB9.mono hbw.size)⟩
       ·clear hSm k3
        go_wp2_with fail
        refine wp_region_quiet (C:=fun W=>Below W0.heap.size W0 W) (by kernel_rfl) (by kernel_rfl) (ZAI W0) ?_
        iterate 51 (first
         |((with_reducible refine BigFrame.wpQuiet_skip ?_ ?_);(focus rfl);simp only [Act.put,ZZX,ZZW,ZZV])
         |((with_reducible refine BigFrame.wpQuiet_want ?_ (fun K hK=>?_))
           focus rfl
           apply ZAq
           ·intro W hC
            unfold Oper.quietAt
            have HC:=ZZY hC
            have y0:=ZAA hC Y0.out
            have y1:=ZAA hC Y1.out
            have y2:=ZAA hC Y2.out
            have y3:=ZAA hC Y3.out
            have y4:=ZAA hC Y4.out
            have y5:=ZAA hC Y5.out
            have y6:=ZAA hC Y6.out
            have x0:=ZAA hC X0.out
            have x1:=ZAA hC X1.out
            have x2:=ZAA hC X2.out
            have x3:=ZAA hC X3.out
            have x4:=ZAA hC X4.out
            have x5:=ZAA hC X5.out
            have x6:=ZAA hC X6.out
            clear hC
            go_simp
            first
             |done
             |with_reducible rfl
             |done
           (with_reducible refine hK _ ?_);clear hK K;simp only [Act.put,ZZX,ZZW,ZZV]))
        refine wpQuiet_nil ?_
        intro W9 hB9
        (try simp only at hB9)
        go_wp2_with fail
        go_ret
        exact ⟨ZAG hb0.symm,hbw.trans (hB9.mono hbw.size)⟩
     ·have n2:=ZKH k2
      have hb0:B=false:=HBAD.out (ZCV (fun e=>k2 (ZDj.1 e).2.1))
      clear hSm k2
      go_wp2_with fail
      refine wp_region_quiet (C:=fun W=>Below W0.heap.size W0 W) (by kernel_rfl) (by kernel_rfl) (ZAI W0) ?_
      iterate 51 (first
       |((with_reducible refine BigFrame.wpQuiet_skip ?_ ?_);(focus rfl);simp only [Act.put,ZZX,ZZW,ZZV])
       |((with_reducible refine BigFrame.wpQuiet_want ?_ (fun K hK=>?_))
         focus rfl
         apply ZAq
         ·intro W hC
          unfold Oper.quietAt
          have HC:=ZZY hC
          have y0:=ZAA hC Y0.out
          have y1:=ZAA hC Y1.out
          have y2:=ZAA hC Y2.out
          have y3:=ZAA hC Y3.out
          have y4:=ZAA hC Y4.out
          have y5:=ZAA hC Y5.out
          have y6:=ZAA hC Y6.out
          have x0:=ZAA hC X0.out
          have x1:=ZAA hC X1.out
          have x2:=ZAA hC X2.out
          have x3:=ZAA hC X3.out
          have x4:=ZAA hC X4.out
          have x5:=ZAA hC X5.out
          have x6:=ZAA hC X6.out
          clear hC
          go_simp
          first
           |done
           |with_reducible rfl
           |done
         (with_reducible refine hK _ ?_);clear hK K;simp only [Act.put,ZZX,ZZW,ZZV]))
      refine wpQuiet_nil ?_
      intro W9 hB9
      (try simp only at hB9)
      go_wp2_with fail
      go_ret
      exact ⟨ZAG hb0.symm,hbw.trans (hB9.mono hbw.size)⟩
    ·have n1:=ZNk k1
     have n1':=ZGI k1
     have n1'':¬nm.toList=nm'.toList:=by simpa using n1'
     have hb0:B=false:=HBAD.out (ZCV (fun e=>k1 (ZDj.1 e).1))
     clear hSm k1
     go_wp2_with fail
     refine wp_region_quiet (C:=fun W=>Below W0.heap.size W0 W) (by kernel_rfl) (by kernel_rfl) (ZAI W0) ?_
     iterate 51 (first
      |((with_reducible refine BigFrame.wpQuiet_skip ?_ ?_);(focus rfl);simp only [Act.put,ZZX,ZZW,ZZV])
      |((with_reducible refine BigFrame.wpQuiet_want ?_ (fun K hK=>?_))
        focus rfl
        apply ZAq
        ·intro W hC
         unfold Oper.quietAt
         have HC:=ZZY hC
         have y0:=ZAA hC Y0.out
         have y1:=ZAA hC Y1.out
         have y2:=ZAA hC Y2.out
         have y3:=ZAA hC Y3.out
         have y4:=ZAA hC Y4.out
         have y5:=ZAA hC Y5.out
         have y6:=ZAA hC Y6.out
         have x0:=ZAA hC X0.out
         have x1:=ZAA hC X1.out
         have x2:=ZAA hC X2.out
         have x3:=ZAA hC X3.out
         have x4:=ZAA hC X4.out
         have x5:=ZAA hC X5.out
         have x6:=ZAA hC X6.out
         clear hC
         go_simp
         first
          |done
          |with_reducible rfl
          |done
        (with_reducible refine hK _ ?_);clear hK K;simp only [Act.put,ZZX,ZZW,ZZV]))
     refine wpQuiet_nil ?_
     intro W9 hB9
     (try simp only at hB9)
     go_wp2_with fail
     go_ret
     exact ⟨ZAG hb0.symm,hbw.trans (hB9.mono hbw.size)⟩
   ·obtain rfl:q=n:=by omega
    have hd:decide ((q:Int)<(q:Int))=false:=by simp
    have hBt:B=true:=HB.out.2 ⟨by rw [HN.out,HM.out],fun i s v h1 h2=>HALL.out i s v (by have h3:=(List.getElem?_eq_some_iff.1 h1).1;have h4:=HN.out;omega) h1 h2⟩
    go_wp2
    go_ret
    exact ⟨ZAG hBt.symm,hbw⟩
 ·have hB0:B=false:=by
   cases B with
   |false=>rfl
   |true=>exact absurd (hB.1 rfl).1 hnm
  have hb:((ls.length:Int) != (ms.length:Int))=true:=by simp only [bne_iff_ne,ne_eq];omega
  obtain ⟨n,hn⟩:∃ n,ls.length=n:=⟨_,rfl⟩
  obtain ⟨m,hmn⟩:∃ m,ms.length=m:=⟨_,rfl⟩
  rw [hn] at hb hlc ⊢
  rw [hmn] at hb ⊢
  clear h1 h2 hnm hB hn hmn
  go_enter func21,ntmps21
  go_wp2
  go_ret
  exact ⟨ZAG hB0.symm,Below.refl _ _⟩
