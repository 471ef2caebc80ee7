/- Registries: the document's Same. (Made by gen_rgx.py.) -/
import Derived.Test.YtcjdfdfphbckaaaGreatMh43Regi
import Derived.Deep.DeepCutAuto
set_option linter.unusedVariables false
set_option linter.unusedSimpArgs false
set_option maxRecDepth 100000
set_option maxHeartbeats 64000000
open Go.Proofs.Tryz
namespace Go.Proofs.YtcjdfdfphbckaaaGreat
open Go.RowKit Go.Shelf
theorem ZFx {W:World} {s:SlotM} {c0 c1 c2 c3 c4 c5 c6:Value} (h:ZDi W s c0 c1 c2 c3 c4 c5 c6):ZBV (W.alloc (.cells #[c0,c1,c2,c3,c4,c5,c6] 51)) (some ⟨W.heap.size,0,none⟩) 1 [s]:=by
 have hA:=(Below.refl _ W).alloc (Nat.le_refl _) (.cells #[c0,c1,c2,c3,c4,c5,c6] 51)
 refine ⟨by simp,by decide,.inr ⟨_,0,rfl,fun i t ht=>?_⟩⟩
 have hi:i<1:=(List.getElem?_eq_some_iff.1 ht).1
 obtain rfl:i=0:=by omega
 simp only [List.getElem?_cons_zero,Option.some.injEq] at ht
 subst ht
 exact ⟨c0,c1,c2,c3,c4,c5,c6,⟨by simp,by simp,by simp,by simp,by simp,by simp,by simp⟩,ZB3 hA h⟩
theorem ZP5 {α : Type} (a b : α):eqB [a] [b]=eqB a b:=ZEJ ⟨fun h=>by injection h,fun h=>by rw [h]⟩
theorem ZDV {s m:TemplM} (h:s.nm≠m.nm∨s.slots≠m.slots∨s.steps≠m.steps):eqB s m=false:=ZCV fun e=>by
 subst e
 rcases h with h | h | h<;>exact h rfl
theorem ZEZ {W0 W F:World} {b:Nat} (h:Below W0.heap.size W0 W) (hg:W.grownBy F (some b)) (hb:W0.heap.size≤b):Below W0.heap.size W0 F:=
 ⟨hg.os.trans h.os,hg.tape.trans h.tape,hg.output.trans h.output,Nat.le_trans h.size hg.size,fun k hk=>by rw [hg.block k (Nat.lt_of_lt_of_le hk h.size) (by simp;omega),h.block k hk]⟩
theorem ZKv {w:World} {s:SlotM} {c0 c1 c2 c3 c4 c5 c6:Value} (h:ZBe w s (.agg #[c0,c1,c2,c3,c4,c5,c6])):ZDi w s c0 c1 c2 c3 c4 c5 c6:=by
 obtain ⟨d0,d1,d2,d3,d4,d5,d6,e,h7⟩:=h
 simp only [Value.agg.injEq,Array.mk.injEq,List.cons.injEq,and_true] at e
 obtain ⟨rfl,rfl,rfl,rfl,rfl,rfl,rfl⟩:=e
 exact h7
theorem ZIz {w:World} {t:StepM} {a0 a1 c2 c3 c4 c5 c6 c7 c8:Value} {oa:Option Addr} {ol oc:Nat} (h:ZA3 w t (.agg #[a0,a1,c2,c3,c4,c5,c6,c7,c8,.slice oa ol oc])):Row w .i64 oa t.od.length oc t.od:=by
 obtain ⟨d2,d3,d4,d5,d6,d7,d8,oa',oc',e,_,_,_,hr,_⟩:=h
 simp only [Value.agg.injEq,Array.mk.injEq,List.cons.injEq,and_true,Value.slice.injEq] at e
 obtain ⟨_,_,_,_,_,_,_,_,_,rfl,_,rfl⟩:=e
 exact hr
theorem ZNl {x y:StepM} (h1:x.kd=y.kd) (h2:x.col=y.col) (h3:x.sl=y.sl) (h4:x.od=y.od):x=y:=by
 cases x;cases y;simp only at h1 h2 h3 h4;subst h1 h2 h3 h4;rfl
theorem ZHX (a1 a2:Option Addr) (c1 c2:Nat) (ls ms:List TemplM) (w:World) (h1:ZAw w a1 c1 ls) (h2:ZAw w a2 c2 ms) :
  Calls Tryz.prog 7 #[.slice a1 ls.length c1,.slice a2 ms.length c2] w fun e w'=>e=.returned (.bool (eqB ls ms))∧Below w.heap.size w w':=by
 have hcap:=h1.2.1
 have hlc:=h1.1
 unfold maxLen at hcap
 have hB:=ZDS ls ms
 obtain ⟨B,hBB⟩:∃ B,eqB ls ms=B:=⟨_,rfl⟩
 rw [hBB] at hB ⊢
 clear hBB
 by_cases hnm:ls.length=ms.length
 ·obtain ⟨n,hn⟩:∃ n,ls.length=n:=⟨_,rfl⟩
  have hmn:ms.length=n:=by rw [←hnm,hn]
  have HL:=ZZY h1;have HV:=ZZY h2;have HN:=ZZY hn;have HM:=ZZY hmn;have HB:=ZZY hB
  rw [hn] at hlc ⊢
  rw [hmn]
  have hb:((n:Int) != (n:Int))=false:=by simp
  clear h1 h2 hn hmn hB hnm
  go_enter func7,ntmps7
  go_wp2
  go_loopw [5] (fun i wr=>∃ q:Nat,q≤n∧i=.int .i64 (q:Int)∧Below w.heap.size w wr∧Hid (∀ (j:Nat) (s m:TemplM),j<q→ls[j]? = some s→ms[j]? = some m→eqB s m=true)) (fun i _=>n-(intOf i).toNat)
  case atStart=>exact ⟨0,Nat.zero_le _,rfl,Below.refl _ _,ZZY (fun j s v hj=>by omega)⟩
  case round=>
   obtain ⟨q,hq,rfl,hbw,HALL⟩:=hrel
   obtain ⟨W0,hW0⟩:∃ x,x=wr:=⟨_,rfl⟩
   subst hW0
   rcases Nat.lt_or_ge q n with hlt | hge
   ·have hd:decide ((q:Int)<(n:Int))=true:=by simp;omega
    have hnl:=HN.out
    have hvl:=HM.out
    obtain ⟨s,hs⟩:∃ s,ls[q]? = some s:=⟨ls[q],List.getElem?_eq_getElem (by omega)⟩
    obtain ⟨m,hm⟩:∃ m,ms[q]? = some m:=⟨ms[q],List.getElem?_eq_getElem (by omega)⟩
    obtain ⟨pb,po,rfl,prow⟩:∃ b9 off,a1=some ⟨b9,off,none⟩∧∀ i s,ls[i]? = some s→ZCe w b9 (off+i*3) s:=by
     rcases HL.out.2.2 with h | h
     ·subst h;simp at hnl;omega
     ·exact h
    obtain ⟨rb,ro,rfl,rrow⟩:∃ b9 off,a2=some ⟨b9,off,none⟩∧∀ i s,ms[i]? = some s→ZCe w b9 (off+i*3) s:=by
     rcases HV.out.2.2 with h | h
     ·subst h;simp at hvl;omega
     ·exact h
    obtain ⟨sa,sc,ta,tc,⟨g0,g1,g2⟩,psn,psl,pst⟩:=prow q s hs
    obtain ⟨ra,rc,ua,uc,⟨e0,e1,e2⟩,rsn,rsl,rst⟩:=rrow q m hm
    have N0:=ZZY (ZAA hbw g0)
    have N9:=ZZY (ZAA hbw e0)
    have O0:=ZZY (ZAA hbw g1)
    have O1:=ZZY (ZAA hbw e1)
    have M0:=ZZY (ZAA hbw g2)
    have M1:=ZZY (ZAA hbw e2)
    have G2:=ZZY g2;have E2:=ZZY e2
    have hSl:∀ W,Below W0.heap.size W0 W→Calls Tryz.prog 21 #[.slice sa s.slots.length sc,.slice ra m.slots.length rc] W fun e w'=>e=.returned (.bool (eqB s.slots m.slots))∧Below W.heap.size W w':=fun W hb=>
     ZDd sa ra sc rc s.slots m.slots W (ZAy (hbw.trans (hb.mono hbw.size)) psl) (ZAy (hbw.trans (hb.mono hbw.size)) rsl)
    have HPST:=ZZY pst;have HRST:=ZZY rst
    have hgood:eqB s m=true→∀ (j:Nat) (s m:TemplM),j<q+1→ls[j]? = some s→ms[j]? = some m→eqB s m=true:=fun h1 j s' v' hj h2 h3=>by
     rcases Nat.lt_or_ge j q with h | h
     ·exact HALL.out j s' v' h h2 h3
     ·obtain rfl:j=q:=by omega
      rw [hs] at h2;rw [hm] at h3
      cases h2;cases h3
      exact h1
    have hbad:eqB s m=false→B=false:=fun h1=>by
     cases B with
     |false=>rfl
     |true=>
      have:=(HB.out.1 rfl).2 q s m hs hm
      rw [h1] at this
      exact this.symm
    have HGOOD:=ZZY hgood;have HBAD:=ZZY hbad
    clear hgood hbad hs hm hnl hvl prow rrow g0 g1 g2 e0 e1 e2 psn psl pst rsn rsl rst
    obtain ⟨nm,sl,st⟩:=s
    obtain ⟨nm',sl',st'⟩:=m
    simp only at *
    by_cases k1:nm=nm'
    ·subst k1
     have n1:(nm.toList != nm.toList)=false:=by simp
     obtain ⟨E1,hE1⟩:∃ E,eqB sl sl'=E:=⟨_,rfl⟩
     rw [hE1] at hSl
     have HSl:=ZZY hSl
     have HE1:=ZZY hE1
     clear hSl hE1
     cases E1 with
     |false=>
       have hb0:B=false:=HBAD.out (ZDV (.inr (.inl (fun e=>by have:=HE1.out;simp only at e;rw [e,ZDu] at this;cases this))))
       go_wp2_with fail
       refine wp_region_quiet (C:=fun W=>Below W0.heap.size W0 W) (by kernel_rfl) (by kernel_rfl) (ZAI W0) ?_
       iterate 40 (first
        |((with_reducible refine BigFrame.wpQuiet_skip ?_ ?_);(focus rfl);simp only [Act.put,ZZX,ZZW,ZZV])
        |((with_reducible refine BigFrame.wpQuiet_want ?_ (fun K hK=>?_))
          focus rfl
          apply ZAq
          ·intro W hC
           unfold Oper.quietAt
           have HC:=ZZY hC
           have m0:=ZAA hC M0.out
           have m1:=ZAA hC M1.out
           have n0:=ZAA hC N0.out
           have n9:=ZAA hC N9.out
           have o0:=ZAA hC O0.out
           have o1:=ZAA hC O1.out
           clear hC
           go_simp
           first
            |done
            |with_reducible rfl
            |((with_reducible refine (HSl.out _ HC.out).mono ?_);exact fun e w' ⟨he,hb⟩=>⟨he,HC.out.trans (hb.mono HC.out.size)⟩)
          (with_reducible refine hK _ ?_);clear hK K;simp only [Act.put,ZZX,ZZW,ZZV]))
       refine wpQuiet_nil ?_
       intro W9 hB9
       (try simp only at hB9)
       go_wp2_with fail
       go_ret
       exact ⟨ZAG hb0.symm,hbw.trans (hB9.mono hbw.size)⟩
     |true=>
       by_cases k2:st.length=st'.length
       ·obtain ⟨L,hL⟩:∃ L,st.length=L:=⟨_,rfl⟩
        have hL':st'.length=L:=by rw [←k2,hL]
        rw [hL] at M0 G2
        rw [hL'] at M1 E2
        have hLc:L≤tc∧tc≤maxLen:=by have:=HPST.out;exact ⟨hL ▸ this.1,this.2.1⟩
        unfold maxLen at hLc
        have n3:((L:Int) != (L:Int))=false:=by simp
        have HLL:=ZZY hL;have HLL':=ZZY hL'
        clear hL hL' k2
        go_wp2_with fail
        refine wp_region_quiet (C:=fun W=>Below W0.heap.size W0 W) (by kernel_rfl) (by kernel_rfl) (ZAI W0) ?_
        iterate 40 (first
         |((with_reducible refine BigFrame.wpQuiet_skip ?_ ?_);(focus rfl);simp only [Act.put,ZZX,ZZW,ZZV])
         |((with_reducible refine BigFrame.wpQuiet_want ?_ (fun K hK=>?_))
           focus rfl
           apply ZAq
           ·intro W hC
            unfold Oper.quietAt
            have HC:=ZZY hC
            have m0:=ZAA hC M0.out
            have m1:=ZAA hC M1.out
            have n0:=ZAA hC N0.out
            have n9:=ZAA hC N9.out
            have o0:=ZAA hC O0.out
            have o1:=ZAA hC O1.out
            clear hC
            go_simp
            first
             |done
             |with_reducible rfl
             |((with_reducible refine (HSl.out _ HC.out).mono ?_);exact fun e w' ⟨he,hb⟩=>⟨he,HC.out.trans (hb.mono HC.out.size)⟩)
           (with_reducible refine hK _ ?_);clear hK K;simp only [Act.put,ZZX,ZZW,ZZV]))
        refine wpQuiet_nil ?_
        intro W9 hB9
        (try simp only at hB9)
        have hb9:=hbw.trans (hB9.mono hbw.size)
        clear hB9
        go_wp2_with fail
        go_loopw [6] (fun i wr=>∃ k:Nat,k≤L∧i=.int .i64 (k:Int)∧Below w.heap.size w wr∧Hid (∀ (j:Nat) (x y:StepM),j<k→st[j]? = some x→st'[j]? = some y→eqB x y=true)) (fun i _=>L-(intOf i).toNat)
        case atStart=>exact ⟨0,Nat.zero_le _,rfl,hb9,ZZY (fun j s v hj=>by omega)⟩
        case round=>
         obtain ⟨k,hk,rfl,hbk,HEK⟩:=hrel
         clear M0 M1 N0 N9 O0 O1 hb9 hbw
         obtain ⟨W0,hW0⟩:∃ x,x=wr:=⟨_,rfl⟩
         subst hW0
         have M0:=ZZY (ZAA hbk G2.out)
         have M1:=ZZY (ZAA hbk E2.out)
         have m0:=M0.out
         have m1:=M1.out
         rcases Nat.lt_or_ge k L with hkl | hkl
         ·have hd2:decide ((k:Int)<(L:Int))=true:=by simp;omega
          have hl1:=HLL.out
          have hl2:=HLL'.out
          obtain ⟨x,hx⟩:∃ x,st[k]? = some x:=⟨st[k],List.getElem?_eq_getElem (by omega)⟩
          obtain ⟨y,hy⟩:∃ y,st'[k]? = some y:=⟨st'[k],List.getElem?_eq_getElem (by omega)⟩
          obtain ⟨tb,tq,rfl,trow⟩:∃ b9 off,ta=some ⟨b9,off,none⟩∧∀ i s,st[i]? = some s→ZDc w b9 (off+i*10) s:=by
           rcases HPST.out.2.2 with h | h
           ·subst h;simp at hl1;omega
           ·exact h
          obtain ⟨ub,uq,rfl,urow⟩:∃ b9 off,ua=some ⟨b9,off,none⟩∧∀ i s,st'[i]? = some s→ZDc w b9 (off+i*10) s:=by
           rcases HRST.out.2.2 with h | h
           ·subst h;simp at hl2;omega
           ·exact h
          obtain ⟨pk,pn,pt,pa,pl,pc,poa,poc,⟨g0,g1,g2,g3,g4,g5,g6,g7,g8,g9⟩,hX⟩:=ZCU (trow k x hx)
          obtain ⟨rk,rn,rt,ra9,rl,rc9,roa,roc,⟨e0,e1,e2,e3,e4,e5,e6,e7,e8,e9⟩,hY⟩:=ZCU (urow k y hy)
          have Y0:=ZZY (ZAA hbk g0);have Y1:=ZZY (ZAA hbk g1);have Y2:=ZZY (ZAA hbk g2);have Y3:=ZZY (ZAA hbk g3);have Y4:=ZZY (ZAA hbk g4);have Y5:=ZZY (ZAA hbk g5);have Y6:=ZZY (ZAA hbk g6);have Y7:=ZZY (ZAA hbk g7);have Y8:=ZZY (ZAA hbk g8);have Y9:=ZZY (ZAA hbk g9)
          have X0:=ZZY (ZAA hbk e0);have X1:=ZZY (ZAA hbk e1);have X2:=ZZY (ZAA hbk e2);have X3:=ZZY (ZAA hbk e3);have X4:=ZZY (ZAA hbk e4);have X5:=ZZY (ZAA hbk e5);have X6:=ZZY (ZAA hbk e6);have X7:=ZZY (ZAA hbk e7);have X8:=ZZY (ZAA hbk e8);have X9:=ZZY (ZAA hbk e9)
          have HSX:=ZZY (fun W (hb:Below w.heap.size w W)=>ZB3 hb (ZKv (ZBx hX)))
          have HSY:=ZZY (fun W (hb:Below w.heap.size w W)=>ZB3 hb (ZKv (ZBx hY)))
          have hIn:=fun W (hb:Below w.heap.size w W)=>(ZKC poa roa x.od.length y.od.length poc roc x.od y.od W (ZAk (ZIz hX) hb rfl) (ZAk (ZIz hY) hb rfl)).mono fun e w' h=>ZHu h
          obtain ⟨E3,hE3⟩:∃ E,eqB x.od y.od=E:=⟨_,rfl⟩
          obtain ⟨E2',hE2⟩:∃ E,eqB x.sl y.sl=E:=⟨_,rfl⟩
          simp only [hE3] at hIn
          have hSS:∀ W a b,ZBV W a 1 [x.sl]→ZBV W b 1 [y.sl]→Calls Tryz.prog 21 #[.slice a 1 1,.slice b 1 1] W fun e w'=>e=.returned (.bool E2')∧Below W.heap.size W w':=fun W a b h1 h2=>by
           have:=ZDd a b 1 1 [x.sl] [y.sl] W h1 h2
           rw [ZP5,hE2] at this
           exact this
          have hgood2:eqB x y=true→∀ (j:Nat) (s m:StepM),j<k+1→st[j]? = some s→st'[j]? = some m→eqB s m=true:=fun h1 j s' v' hj h2 h3=>by
           rcases Nat.lt_or_ge j k with h | h
           ·exact HEK.out j s' v' h h2 h3
           ·obtain rfl:j=k:=by omega
            rw [hx] at h2;rw [hy] at h3
            cases h2;cases h3
            exact h1
          have hbad2:x≠y→B=false:=fun h1=>HBAD.out (ZDV (.inr (.inr (fun e=>h1 (by
           simp only at e
           rw [e] at hx
           rw [hx] at hy
           injection hy)))))
          have HGOOD2:=ZZY hgood2;have HBAD2:=ZZY hbad2;have HIn:=ZZY hIn;have HSS:=ZZY hSS;have HE3:=ZZY hE3;have HE2:=ZZY hE2
          clear hgood2 hbad2 hIn hSS hE3 hE2 hx hy hX hY trow urow hl1 hl2 g0 g1 g2 g3 g4 g5 g6 g7 g8 g9 e0 e1 e2 e3 e4 e5 e6 e7 e8 e9
          go_wp2_with fail
          go_cut [7,8] from 70 to 85 (fun s7 s8 W=>∃ b7 b8,s7=.pointer (some ⟨b7,0,none⟩)∧s8=.pointer (some ⟨b8,0,none⟩)∧CA W b7 54 #[.int .i64 x.kd,.int .i64 x.col,.string x.sl.nm,.int .i64 x.sl.ty,.bool x.sl.rq,.int .i64 pk,.int .i64 pn,.string pt,.slice pa pl pc,.slice poa x.od.length poc]∧CA W b8 54 #[.int .i64 y.kd,.int .i64 y.col,.string y.sl.nm,.int .i64 y.sl.ty,.bool y.sl.rq,.int .i64 rk,.int .i64 rn,.string rt,.slice ra9 rl rc9,.slice roa y.od.length roc]∧Below W0.heap.size W0 W)
          case first=>
           refine ZD5 (S:=fun W=>Below W0.heap.size W0 W) 19 20 #[false,false,false,false,false,false,false,false,false,false,false,false,false,false,false,false,false,false,false,false] (by kernel_rfl) (by kernel_rfl) (by kernel_rfl) ?_
           have hS0:=ZAI W0
           obtain ⟨V0,hV0⟩:∃ V0,W0.drew=V0:=⟨_,rfl⟩
           rw [hV0] at hS0 ⊢
           clear hV0
           refine ZAO (i:=0) (v:=?_) rfl (by kernel_rfl) (by kernel_rfl) (by kernel_rfl) (by kernel_rfl) (fun _ _ _ h=>h) (Or.inl ⟨by rfl, ?_⟩) (by assumption) ?_
           rotate_left
           ·intro w8 hSw;have m0:=ZAA hSw M0.out;have m1:=ZAA hSw M1.out;have y0:=ZAA hSw Y0.out;have y1:=ZAA hSw Y1.out;have y2:=ZAA hSw Y2.out;have y3:=ZAA hSw Y3.out;have y4:=ZAA hSw Y4.out;have y5:=ZAA hSw Y5.out;have y6:=ZAA hSw Y6.out;have y7:=ZAA hSw Y7.out;have y8:=ZAA hSw Y8.out;have y9:=ZAA hSw Y9.out;have x0:=ZAA hSw X0.out;have x1:=ZAA hSw X1.out;have x2:=ZAA hSw X2.out;have x3:=ZAA hSw X3.out;have x4:=ZAA hSw X4.out;have x5:=ZAA hSw X5.out;have x6:=ZAA hSw X6.out;have x7:=ZAA hSw X7.out;have x8:=ZAA hSw X8.out;have x9:=ZAA hSw X9.out;clear hSw;go_simp;(try with_reducible rfl)
           (try simp only [Act.put,ZZX,ZZW,ZZV])
           refine ZAO (i:=1) (v:=?_) rfl (by kernel_rfl) (by kernel_rfl) (by kernel_rfl) (by kernel_rfl) (fun _ _ _ h=>h) (Or.inl ⟨by rfl, ?_⟩) (by assumption) ?_
           rotate_left
           ·intro w8 hSw;have m0:=ZAA hSw M0.out;have m1:=ZAA hSw M1.out;have y0:=ZAA hSw Y0.out;have y1:=ZAA hSw Y1.out;have y2:=ZAA hSw Y2.out;have y3:=ZAA hSw Y3.out;have y4:=ZAA hSw Y4.out;have y5:=ZAA hSw Y5.out;have y6:=ZAA hSw Y6.out;have y7:=ZAA hSw Y7.out;have y8:=ZAA hSw Y8.out;have y9:=ZAA hSw Y9.out;have x0:=ZAA hSw X0.out;have x1:=ZAA hSw X1.out;have x2:=ZAA hSw X2.out;have x3:=ZAA hSw X3.out;have x4:=ZAA hSw X4.out;have x5:=ZAA hSw X5.out;have x6:=ZAA hSw X6.out;have x7:=ZAA hSw X7.out;have x8:=ZAA hSw X8.out;have x9:=ZAA hSw X9.out;clear hSw;go_simp;(try with_reducible rfl)
           (try simp only [Act.put,ZZX,ZZW,ZZV])
           refine ZAO (i:=2) (v:=?_) rfl (by kernel_rfl) (by kernel_rfl) (by kernel_rfl) (by kernel_rfl) (fun _ _ _ h=>h) (Or.inl ⟨by rfl, ?_⟩) (by assumption) ?_
           rotate_left
           ·intro w8 hSw;have m0:=ZAA hSw M0.out;have m1:=ZAA hSw M1.out;have y0:=ZAA hSw Y0.out;have y1:=ZAA hSw Y1.out;have y2:=ZAA hSw Y2.out;have y3:=ZAA hSw Y3.out;have y4:=ZAA hSw Y4.out;have y5:=ZAA hSw Y5.out;have y6:=ZAA hSw Y6.out;have y7:=ZAA hSw Y7.out;have y8:=ZAA hSw Y8.out;have y9:=ZAA hSw Y9.out;have x0:=ZAA hSw X0.out;have x1:=ZAA hSw X1.out;have x2:=ZAA hSw X2.out;have x3:=ZAA hSw X3.out;have x4:=ZAA hSw X4.out;have x5:=ZAA hSw X5.out;have x6:=ZAA hSw X6.out;have x7:=ZAA hSw X7.out;have x8:=ZAA hSw X8.out;have x9:=ZAA hSw X9.out;clear hSw;go_simp;(try with_reducible rfl)
           (try simp only [Act.put,ZZX,ZZW,ZZV])
           refine ZAO (i:=3) (v:=?_) rfl (by kernel_rfl) (by kernel_rfl) (by kernel_rfl) (by kernel_rfl) (fun _ _ _ h=>h) (Or.inl ⟨by rfl, ?_⟩) (by assumption) ?_
           rotate_left
           ·intro w8 hSw;have m0:=ZAA hSw M0.out;have m1:=ZAA hSw M1.out;have y0:=ZAA hSw Y0.out;have y1:=ZAA hSw Y1.out;have y2:=ZAA hSw Y2.out;have y3:=ZAA hSw Y3.out;have y4:=ZAA hSw Y4.out;have y5:=ZAA hSw Y5.out;have y6:=ZAA hSw Y6.out;have y7:=ZAA hSw Y7.out;have y8:=ZAA hSw Y8.out;have y9:=ZAA hSw Y9.out;have x0:=ZAA hSw X0.out;have x1:=ZAA hSw X1.out;have x2:=ZAA hSw X2.out;have x3:=ZAA hSw X3.out;have x4:=ZAA hSw X4.out;have x5:=ZAA hSw X5.out;have x6:=ZAA hSw X6.out;have x7:=ZAA hSw X7.out;have x8:=ZAA hSw X8.out;have x9:=ZAA hSw X9.out;clear hSw;go_simp;(try with_reducible rfl)
           (try simp only [Act.put,ZZX,ZZW,ZZV])
           refine ZAO (i:=4) (v:=?_) rfl (by kernel_rfl) (by kernel_rfl) (by kernel_rfl) (by kernel_rfl) (fun _ _ _ h=>h) (Or.inl ⟨by rfl, ?_⟩) (by assumption) ?_
           rotate_left
           ·intro w8 hSw;have m0:=ZAA hSw M0.out;have m1:=ZAA hSw M1.out;have y0:=ZAA hSw Y0.out;have y1:=ZAA hSw Y1.out;have y2:=ZAA hSw Y2.out;have y3:=ZAA hSw Y3.out;have y4:=ZAA hSw Y4.out;have y5:=ZAA hSw Y5.out;have y6:=ZAA hSw Y6.out;have y7:=ZAA hSw Y7.out;have y8:=ZAA hSw Y8.out;have y9:=ZAA hSw Y9.out;have x0:=ZAA hSw X0.out;have x1:=ZAA hSw X1.out;have x2:=ZAA hSw X2.out;have x3:=ZAA hSw X3.out;have x4:=ZAA hSw X4.out;have x5:=ZAA hSw X5.out;have x6:=ZAA hSw X6.out;have x7:=ZAA hSw X7.out;have x8:=ZAA hSw X8.out;have x9:=ZAA hSw X9.out;clear hSw;go_simp;(try with_reducible rfl)
           (try simp only [Act.put,ZZX,ZZW,ZZV])
           refine ZAO (i:=5) (v:=?_) rfl (by kernel_rfl) (by kernel_rfl) (by kernel_rfl) (by kernel_rfl) (fun _ _ _ h=>h) (Or.inl ⟨by rfl, ?_⟩) (by assumption) ?_
           rotate_left
           ·intro w8 hSw;have m0:=ZAA hSw M0.out;have m1:=ZAA hSw M1.out;have y0:=ZAA hSw Y0.out;have y1:=ZAA hSw Y1.out;have y2:=ZAA hSw Y2.out;have y3:=ZAA hSw Y3.out;have y4:=ZAA hSw Y4.out;have y5:=ZAA hSw Y5.out;have y6:=ZAA hSw Y6.out;have y7:=ZAA hSw Y7.out;have y8:=ZAA hSw Y8.out;have y9:=ZAA hSw Y9.out;have x0:=ZAA hSw X0.out;have x1:=ZAA hSw X1.out;have x2:=ZAA hSw X2.out;have x3:=ZAA hSw X3.out;have x4:=ZAA hSw X4.out;have x5:=ZAA hSw X5.out;have x6:=ZAA hSw X6.out;have x7:=ZAA hSw X7.out;have x8:=ZAA hSw X8.out;have x9:=ZAA hSw X9.out;clear hSw;go_simp;(try with_reducible rfl)
           (try simp only [Act.put,ZZX,ZZW,ZZV])
           refine ZAO (i:=6) (v:=?_) rfl (by kernel_rfl) (by kernel_rfl) (by kernel_rfl) (by kernel_rfl) (fun _ _ _ h=>h) (Or.inl ⟨by rfl, ?_⟩) (by assumption) ?_
           rotate_left
           ·intro w8 hSw;have m0:=ZAA hSw M0.out;have m1:=ZAA hSw M1.out;have y0:=ZAA hSw Y0.out;have y1:=ZAA hSw Y1.out;have y2:=ZAA hSw Y2.out;have y3:=ZAA hSw Y3.out;have y4:=ZAA hSw Y4.out;have y5:=ZAA hSw Y5.out;have y6:=ZAA hSw Y6.out;have y7:=ZAA hSw Y7.out;have y8:=ZAA hSw Y8.out;have y9:=ZAA hSw Y9.out;have x0:=ZAA hSw X0.out;have x1:=ZAA hSw X1.out;have x2:=ZAA hSw X2.out;have x3:=ZAA hSw X3.out;have x4:=ZAA hSw X4.out;have x5:=ZAA hSw X5.out;have x6:=ZAA hSw X6.out;have x7:=ZAA hSw X7.out;have x8:=ZAA hSw X8.out;have x9:=ZAA hSw X9.out;clear hSw;go_simp;(try with_reducible rfl)
           (try simp only [Act.put,ZZX,ZZW,ZZV])
           refine ZAO (i:=7) (v:=?_) rfl (by kernel_rfl) (by kernel_rfl) (by kernel_rfl) (by kernel_rfl) (fun _ _ _ h=>h) (Or.inl ⟨by rfl, ?_⟩) (by assumption) ?_
           rotate_left
           ·intro w8 hSw;have m0:=ZAA hSw M0.out;have m1:=ZAA hSw M1.out;have y0:=ZAA hSw Y0.out;have y1:=ZAA hSw Y1.out;have y2:=ZAA hSw Y2.out;have y3:=ZAA hSw Y3.out;have y4:=ZAA hSw Y4.out;have y5:=ZAA hSw Y5.out;have y6:=ZAA hSw Y6.out;have y7:=ZAA hSw Y7.out;have y8:=ZAA hSw Y8.out;have y9:=ZAA hSw Y9.out;have x0:=ZAA hSw X0.out;have x1:=ZAA hSw X1.out;have x2:=ZAA hSw X2.out;have x3:=ZAA hSw X3.out;have x4:=ZAA hSw X4.out;have x5:=ZAA hSw X5.out;have x6:=ZAA hSw X6.out;have x7:=ZAA hSw X7.out;have x8:=ZAA hSw X8.out;have x9:=ZAA hSw X9.out;clear hSw;go_simp;(try with_reducible rfl)
           (try simp only [Act.put,ZZX,ZZW,ZZV])
           refine ZAO (i:=8) (v:=?_) rfl (by kernel_rfl) (by kernel_rfl) (by kernel_rfl) (by kernel_rfl) (fun _ _ _ h=>h) (Or.inl ⟨by rfl, ?_⟩) (by assumption) ?_
           rotate_left
           ·intro w8 hSw;have m0:=ZAA hSw M0.out;have m1:=ZAA hSw M1.out;have y0:=ZAA hSw Y0.out;have y1:=ZAA hSw Y1.out;have y2:=ZAA hSw Y2.out;have y3:=ZAA hSw Y3.out;have y4:=ZAA hSw Y4.out;have y5:=ZAA hSw Y5.out;have y6:=ZAA hSw Y6.out;have y7:=ZAA hSw Y7.out;have y8:=ZAA hSw Y8.out;have y9:=ZAA hSw Y9.out;have x0:=ZAA hSw X0.out;have x1:=ZAA hSw X1.out;have x2:=ZAA hSw X2.out;have x3:=ZAA hSw X3.out;have x4:=ZAA hSw X4.out;have x5:=ZAA hSw X5.out;have x6:=ZAA hSw X6.out;have x7:=ZAA hSw X7.out;have x8:=ZAA hSw X8.out;have x9:=ZAA hSw X9.out;clear hSw;go_simp;(try with_reducible rfl)
           (try simp only [Act.put,ZZX,ZZW,ZZV])
           refine ZAO (i:=9) (v:=?_) rfl (by kernel_rfl) (by kernel_rfl) (by kernel_rfl) (by kernel_rfl) (fun _ _ _ h=>h) (Or.inl ⟨by rfl, ?_⟩) (by assumption) ?_
           rotate_left
           ·intro w8 hSw;have m0:=ZAA hSw M0.out;have m1:=ZAA hSw M1.out;have y0:=ZAA hSw Y0.out;have y1:=ZAA hSw Y1.out;have y2:=ZAA hSw Y2.out;have y3:=ZAA hSw Y3.out;have y4:=ZAA hSw Y4.out;have y5:=ZAA hSw Y5.out;have y6:=ZAA hSw Y6.out;have y7:=ZAA hSw Y7.out;have y8:=ZAA hSw Y8.out;have y9:=ZAA hSw Y9.out;have x0:=ZAA hSw X0.out;have x1:=ZAA hSw X1.out;have x2:=ZAA hSw X2.out;have x3:=ZAA hSw X3.out;have x4:=ZAA hSw X4.out;have x5:=ZAA hSw X5.out;have x6:=ZAA hSw X6.out;have x7:=ZAA hSw X7.out;have x8:=ZAA hSw X8.out;have x9:=ZAA hSw X9.out;clear hSw;go_simp;(try with_reducible rfl)
           (try simp only [Act.put,ZZX,ZZW,ZZV])
           refine ZAO (i:=10) (v:=?_) rfl (by kernel_rfl) (by kernel_rfl) (by kernel_rfl) (by kernel_rfl) (fun _ _ _ h=>h) (Or.inl ⟨by rfl, ?_⟩) (by assumption) ?_
           rotate_left
           ·intro w8 hSw;have m0:=ZAA hSw M0.out;have m1:=ZAA hSw M1.out;have y0:=ZAA hSw Y0.out;have y1:=ZAA hSw Y1.out;have y2:=ZAA hSw Y2.out;have y3:=ZAA hSw Y3.out;have y4:=ZAA hSw Y4.out;have y5:=ZAA hSw Y5.out;have y6:=ZAA hSw Y6.out;have y7:=ZAA hSw Y7.out;have y8:=ZAA hSw Y8.out;have y9:=ZAA hSw Y9.out;have x0:=ZAA hSw X0.out;have x1:=ZAA hSw X1.out;have x2:=ZAA hSw X2.out;have x3:=ZAA hSw X3.out;have x4:=ZAA hSw X4.out;have x5:=ZAA hSw X5.out;have x6:=ZAA hSw X6.out;have x7:=ZAA hSw X7.out;have x8:=ZAA hSw X8.out;have x9:=ZAA hSw X9.out;clear hSw;go_simp;(try with_reducible rfl)
           (try simp only [Act.put,ZZX,ZZW,ZZV])
           refine ZAO (i:=11) (v:=?_) rfl (by kernel_rfl) (by kernel_rfl) (by kernel_rfl) (by kernel_rfl) (fun _ _ _ h=>h) (Or.inl ⟨by rfl, ?_⟩) (by assumption) ?_
           rotate_left
           ·intro w8 hSw;have m0:=ZAA hSw M0.out;have m1:=ZAA hSw M1.out;have y0:=ZAA hSw Y0.out;have y1:=ZAA hSw Y1.out;have y2:=ZAA hSw Y2.out;have y3:=ZAA hSw Y3.out;have y4:=ZAA hSw Y4.out;have y5:=ZAA hSw Y5.out;have y6:=ZAA hSw Y6.out;have y7:=ZAA hSw Y7.out;have y8:=ZAA hSw Y8.out;have y9:=ZAA hSw Y9.out;have x0:=ZAA hSw X0.out;have x1:=ZAA hSw X1.out;have x2:=ZAA hSw X2.out;have x3:=ZAA hSw X3.out;have x4:=ZAA hSw X4.out;have x5:=ZAA hSw X5.out;have x6:=ZAA hSw X6.out;have x7:=ZAA hSw X7.out;have x8:=ZAA hSw X8.out;have x9:=ZAA hSw X9.out;clear hSw;go_simp;(try with_reducible rfl)
           (try simp only [Act.put,ZZX,ZZW,ZZV])
           refine ZAO (i:=12) (v:=?_) rfl (by kernel_rfl) (by kernel_rfl) (by kernel_rfl) (by kernel_rfl) (fun _ _ _ h=>h) (Or.inl ⟨by rfl, ?_⟩) (by assumption) ?_
           rotate_left
           ·intro w8 hSw;have m0:=ZAA hSw M0.out;have m1:=ZAA hSw M1.out;have y0:=ZAA hSw Y0.out;have y1:=ZAA hSw Y1.out;have y2:=ZAA hSw Y2.out;have y3:=ZAA hSw Y3.out;have y4:=ZAA hSw Y4.out;have y5:=ZAA hSw Y5.out;have y6:=ZAA hSw Y6.out;have y7:=ZAA hSw Y7.out;have y8:=ZAA hSw Y8.out;have y9:=ZAA hSw Y9.out;have x0:=ZAA hSw X0.out;have x1:=ZAA hSw X1.out;have x2:=ZAA hSw X2.out;have x3:=ZAA hSw X3.out;have x4:=ZAA hSw X4.out;have x5:=ZAA hSw X5.out;have x6:=ZAA hSw X6.out;have x7:=ZAA hSw X7.out;have x8:=ZAA hSw X8.out;have x9:=ZAA hSw X9.out;clear hSw;go_simp;(try with_reducible rfl)
           (try simp only [Act.put,ZZX,ZZW,ZZV])
           refine ZAO (i:=13) (v:=?_) rfl (by kernel_rfl) (by kernel_rfl) (by kernel_rfl) (by kernel_rfl) (fun _ _ _ h=>h) (Or.inl ⟨by rfl, ?_⟩) (by assumption) ?_
           rotate_left
           ·intro w8 hSw;have m0:=ZAA hSw M0.out;have m1:=ZAA hSw M1.out;have y0:=ZAA hSw Y0.out;have y1:=ZAA hSw Y1.out;have y2:=ZAA hSw Y2.out;have y3:=ZAA hSw Y3.out;have y4:=ZAA hSw Y4.out;have y5:=ZAA hSw Y5.out;have y6:=ZAA hSw Y6.out;have y7:=ZAA hSw Y7.out;have y8:=ZAA hSw Y8.out;have y9:=ZAA hSw Y9.out;have x0:=ZAA hSw X0.out;have x1:=ZAA hSw X1.out;have x2:=ZAA hSw X2.out;have x3:=ZAA hSw X3.out;have x4:=ZAA hSw X4.out;have x5:=ZAA hSw X5.out;have x6:=ZAA hSw X6.out;have x7:=ZAA hSw X7.out;have x8:=ZAA hSw X8.out;have x9:=ZAA hSw X9.out;clear hSw;go_simp;(try with_reducible rfl)
           (try simp only [Act.put,ZZX,ZZW,ZZV])
           refine ZAO (i:=14) (v:=?_) rfl (by kernel_rfl) (by kernel_rfl) (by kernel_rfl) (by kernel_rfl) (fun _ _ _ h=>h) (Or.inl ⟨by rfl, ?_⟩) (by assumption) ?_
           rotate_left
           ·intro w8 hSw;have m0:=ZAA hSw M0.out;have m1:=ZAA hSw M1.out;have y0:=ZAA hSw Y0.out;have y1:=ZAA hSw Y1.out;have y2:=ZAA hSw Y2.out;have y3:=ZAA hSw Y3.out;have y4:=ZAA hSw Y4.out;have y5:=ZAA hSw Y5.out;have y6:=ZAA hSw Y6.out;have y7:=ZAA hSw Y7.out;have y8:=ZAA hSw Y8.out;have y9:=ZAA hSw Y9.out;have x0:=ZAA hSw X0.out;have x1:=ZAA hSw X1.out;have x2:=ZAA hSw X2.out;have x3:=ZAA hSw X3.out;have x4:=ZAA hSw X4.out;have x5:=ZAA hSw X5.out;have x6:=ZAA hSw X6.out;have x7:=ZAA hSw X7.out;have x8:=ZAA hSw X8.out;have x9:=ZAA hSw X9.out;clear hSw;go_simp;(try with_reducible rfl)
           (try simp only [Act.put,ZZX,ZZW,ZZV])
           refine ZAO (i:=15) (v:=?_) rfl (by kernel_rfl) (by kernel_rfl) (by kernel_rfl) (by kernel_rfl) (fun _ _ _ h=>h) (Or.inl ⟨by rfl, ?_⟩) (by assumption) ?_
           rotate_left
           ·intro w8 hSw;have m0:=ZAA hSw M0.out;have m1:=ZAA hSw M1.out;have y0:=ZAA hSw Y0.out;have y1:=ZAA hSw Y1.out;have y2:=ZAA hSw Y2.out;have y3:=ZAA hSw Y3.out;have y4:=ZAA hSw Y4.out;have y5:=ZAA hSw Y5.out;have y6:=ZAA hSw Y6.out;have y7:=ZAA hSw Y7.out;have y8:=ZAA hSw Y8.out;have y9:=ZAA hSw Y9.out;have x0:=ZAA hSw X0.out;have x1:=ZAA hSw X1.out;have x2:=ZAA hSw X2.out;have x3:=ZAA hSw X3.out;have x4:=ZAA hSw X4.out;have x5:=ZAA hSw X5.out;have x6:=ZAA hSw X6.out;have x7:=ZAA hSw X7.out;have x8:=ZAA hSw X8.out;have x9:=ZAA hSw X9.out;clear hSw;go_simp;(try with_reducible rfl)
           (try simp only [Act.put,ZZX,ZZW,ZZV])
           (with_reducible refine ZFt (i:=16) (j:=17) (o:=?obs0) (o':=?obm0) (by kernel_rfl) ?hos0 ?hom0 (fun K hK=>?sts0) (fun K hK=>?stm0))
           case hos0=>exact rfl
           case hom0=>exact rfl
           case sts0=>
            go_simp
            have hA1:=(Below.refl _ V0).alloc (Nat.le_refl _) (.cells #[.int .i64 0,.int .i64 0,.string ⟨#[]⟩,.int .i64 0,.bool false,.int .i64 0,.int .i64 0,.string ⟨#[]⟩,.slice none 0 0,.slice none 0 0] 54)
            have hS1:=hS0.trans (hA1.mono hS0.size)
            have ka:=ZBO V0 54 #[.int .i64 0,.int .i64 0,.string ⟨#[]⟩,.int .i64 0,.bool false,.int .i64 0,.int .i64 0,.string ⟨#[]⟩,.slice none 0 0,.slice none 0 0]
            have hka:W0.heap.size≤V0.heap.size:=hS0.size
            obtain ⟨V1,hU⟩:∃ U,V0.alloc (.cells #[.int .i64 0,.int .i64 0,.string ⟨#[]⟩,.int .i64 0,.bool false,.int .i64 0,.int .i64 0,.string ⟨#[]⟩,.slice none 0 0,.slice none 0 0] 54)=U:=⟨_,rfl⟩
            obtain ⟨ga,hga⟩:∃ g,V0.heap.size=g:=⟨_,rfl⟩
            rw [hU] at hS1 ka hA1 ⊢
            rw [hga] at ka hka ⊢
            clear hU hA1 hga
            refine hK.out _ _ (.inr hS1) ?_
            clear hK K
            (with_reducible refine ZBH (i:=17) (o:=?obs1) (by kernel_rfl) ?hos1 (fun K hK=>?sts1))
            case hos1=>exact rfl
            go_simp
            have hA2:=(Below.refl _ V1).alloc (Nat.le_refl _) (.cells #[.int .i64 0,.int .i64 0,.string ⟨#[]⟩,.int .i64 0,.bool false,.int .i64 0,.int .i64 0,.string ⟨#[]⟩,.slice none 0 0,.slice none 0 0] 54)
            have hS2:=hS1.trans (hA2.mono hS1.size)
            have kb:=ZBO V1 54 #[.int .i64 0,.int .i64 0,.string ⟨#[]⟩,.int .i64 0,.bool false,.int .i64 0,.int .i64 0,.string ⟨#[]⟩,.slice none 0 0,.slice none 0 0]
            have hkb:W0.heap.size≤V1.heap.size:=hS1.size
            have kab:ga<V1.heap.size:=ZC2 ka
            have ka2:=ZA4 ka hA2
            obtain ⟨V2,hU⟩:∃ U,V1.alloc (.cells #[.int .i64 0,.int .i64 0,.string ⟨#[]⟩,.int .i64 0,.bool false,.int .i64 0,.int .i64 0,.string ⟨#[]⟩,.slice none 0 0,.slice none 0 0] 54)=U:=⟨_,rfl⟩
            obtain ⟨gb,hgb⟩:∃ g,V1.heap.size=g:=⟨_,rfl⟩
            rw [hU] at hS2 kb hA2 ka2 ⊢
            rw [hgb] at kb hkb kab ⊢
            clear hU hA2 hgb ka hS1
            refine hK.out _ _ (.inr hS2) ?_
            clear hK K
            have hne:¬ga=gb:=by omega
            have hne2:¬gb=ga:=by omega
            obtain ⟨⟨i0,i1,i2,i3,i4,i5,i6,i7,i8,i9⟩,j0,j1,j2,j3,j4,j5,j6,j7,j8,j9⟩:=box10 ka2
            (with_reducible refine ZBH (i:=18) (o:=?obs2) (by kernel_rfl) ?hos2 (fun K hK=>?sts2))
            case hos2=>exact rfl
            go_simp
            obtain ⟨zF,gF⟩:=set10 (t:=54) (W:=V2) ka2 (.int .i64 x.kd) (.int .i64 x.col) (.string x.sl.nm) (.int .i64 x.sl.ty) (.bool x.sl.rq) (.int .i64 pk) (.int .i64 pn) (.string pt) (.slice pa pl pc) (.slice poa x.od.length poc)
            have z8:=(gF.block _ (ZC2 kb) (by simp;omega)).trans kb
            have hS3:=ZEZ hS2 gF (by omega)
            obtain ⟨V3,hV3⟩:∃ V,((((((((((V2.setCell ⟨ga,0,none⟩ (.int .i64 x.kd)).setCell ⟨ga,1,none⟩ (.int .i64 x.col)).setCell ⟨ga,2,none⟩ (.string x.sl.nm)).setCell ⟨ga,3,none⟩ (.int .i64 x.sl.ty)).setCell ⟨ga,4,none⟩ (.bool x.sl.rq)).setCell ⟨ga,5,none⟩ (.int .i64 pk)).setCell ⟨ga,6,none⟩ (.int .i64 pn)).setCell ⟨ga,7,none⟩ (.string pt)).setCell ⟨ga,8,none⟩ (.slice pa pl pc)).setCell ⟨ga,9,none⟩ (.slice poa x.od.length poc))=V:=⟨_,rfl⟩
            rw [hV3] at zF gF z8 hS3 ⊢
            clear hV3 i0 i1 i2 i3 i4 i5 i6 i7 i8 i9 j0 j1 j2 j3 j4 j5 j6 j7 j8 j9 gF
            refine hK.out _ _ (.inr hS3) ?_
            clear hK K
            obtain ⟨⟨i0,i1,i2,i3,i4,i5,i6,i7,i8,i9⟩,j0,j1,j2,j3,j4,j5,j6,j7,j8,j9⟩:=box10 (show CA V3 gb 54 #[.int .i64 0,.int .i64 0,.string ⟨#[]⟩,.int .i64 0,.bool false,.int .i64 0,.int .i64 0,.string ⟨#[]⟩,.slice none 0 0,.slice none 0 0] from z8)
            (with_reducible refine ZBH (i:=19) (o:=?obs3) (by kernel_rfl) ?hos3 (fun K hK=>?sts3))
            case hos3=>exact rfl
            go_simp
            obtain ⟨yF,gF⟩:=set10 (t:=54) (W:=V3) (show CA V3 gb 54 #[.int .i64 0,.int .i64 0,.string ⟨#[]⟩,.int .i64 0,.bool false,.int .i64 0,.int .i64 0,.string ⟨#[]⟩,.slice none 0 0,.slice none 0 0] from z8) (.int .i64 y.kd) (.int .i64 y.col) (.string y.sl.nm) (.int .i64 y.sl.ty) (.bool y.sl.rq) (.int .i64 rk) (.int .i64 rn) (.string rt) (.slice ra9 rl rc9) (.slice roa y.od.length roc)
            have z7:=(gF.block _ (ZC2 zF) (by simp;omega)).trans zF
            have hS4:=ZEZ hS3 gF (by omega)
            obtain ⟨V4,hV4⟩:∃ V,((((((((((V3.setCell ⟨gb,0,none⟩ (.int .i64 y.kd)).setCell ⟨gb,1,none⟩ (.int .i64 y.col)).setCell ⟨gb,2,none⟩ (.string y.sl.nm)).setCell ⟨gb,3,none⟩ (.int .i64 y.sl.ty)).setCell ⟨gb,4,none⟩ (.bool y.sl.rq)).setCell ⟨gb,5,none⟩ (.int .i64 rk)).setCell ⟨gb,6,none⟩ (.int .i64 rn)).setCell ⟨gb,7,none⟩ (.string rt)).setCell ⟨gb,8,none⟩ (.slice ra9 rl rc9)).setCell ⟨gb,9,none⟩ (.slice roa y.od.length roc))=V:=⟨_,rfl⟩
            rw [hV4] at yF gF z7 hS4 ⊢
            clear hV4 i0 i1 i2 i3 i4 i5 i6 i7 i8 i9 j0 j1 j2 j3 j4 j5 j6 j7 j8 j9 gF
            refine hK.out _ _ (.inl rfl) ?_
            clear hK K
            refine ZCM (by kernel_rfl) ?_ _
            go_wp2_with fail
            go_meet
            exact ⟨ga,gb,rfl,rfl,z7,yF,hS4⟩
           case stm0=>
            go_simp
            have hA1:=(Below.refl _ V0).alloc (Nat.le_refl _) (.cells #[.int .i64 0,.int .i64 0,.string ⟨#[]⟩,.int .i64 0,.bool false,.int .i64 0,.int .i64 0,.string ⟨#[]⟩,.slice none 0 0,.slice none 0 0] 54)
            have hS1:=hS0.trans (hA1.mono hS0.size)
            have ka:=ZBO V0 54 #[.int .i64 0,.int .i64 0,.string ⟨#[]⟩,.int .i64 0,.bool false,.int .i64 0,.int .i64 0,.string ⟨#[]⟩,.slice none 0 0,.slice none 0 0]
            have hka:W0.heap.size≤V0.heap.size:=hS0.size
            obtain ⟨V1,hU⟩:∃ U,V0.alloc (.cells #[.int .i64 0,.int .i64 0,.string ⟨#[]⟩,.int .i64 0,.bool false,.int .i64 0,.int .i64 0,.string ⟨#[]⟩,.slice none 0 0,.slice none 0 0] 54)=U:=⟨_,rfl⟩
            obtain ⟨ga,hga⟩:∃ g,V0.heap.size=g:=⟨_,rfl⟩
            rw [hU] at hS1 ka hA1 ⊢
            rw [hga] at ka hka ⊢
            clear hU hA1 hga
            refine hK.out _ _ (.inr hS1) ?_
            clear hK K
            (with_reducible refine ZBH (i:=16) (o:=?obm1) (by kernel_rfl) ?hom1 (fun K hK=>?stm1))
            case hom1=>exact rfl
            go_simp
            have hA2:=(Below.refl _ V1).alloc (Nat.le_refl _) (.cells #[.int .i64 0,.int .i64 0,.string ⟨#[]⟩,.int .i64 0,.bool false,.int .i64 0,.int .i64 0,.string ⟨#[]⟩,.slice none 0 0,.slice none 0 0] 54)
            have hS2:=hS1.trans (hA2.mono hS1.size)
            have kb:=ZBO V1 54 #[.int .i64 0,.int .i64 0,.string ⟨#[]⟩,.int .i64 0,.bool false,.int .i64 0,.int .i64 0,.string ⟨#[]⟩,.slice none 0 0,.slice none 0 0]
            have hkb:W0.heap.size≤V1.heap.size:=hS1.size
            have kab:ga<V1.heap.size:=ZC2 ka
            have ka2:=ZA4 ka hA2
            obtain ⟨V2,hU⟩:∃ U,V1.alloc (.cells #[.int .i64 0,.int .i64 0,.string ⟨#[]⟩,.int .i64 0,.bool false,.int .i64 0,.int .i64 0,.string ⟨#[]⟩,.slice none 0 0,.slice none 0 0] 54)=U:=⟨_,rfl⟩
            obtain ⟨gb,hgb⟩:∃ g,V1.heap.size=g:=⟨_,rfl⟩
            rw [hU] at hS2 kb hA2 ka2 ⊢
            rw [hgb] at kb hkb kab ⊢
            clear hU hA2 hgb ka hS1
            refine hK.out _ _ (.inr hS2) ?_
            clear hK K
            have hne:¬gb=ga:=by omega
            have hne2:¬ga=gb:=by omega
            obtain ⟨⟨i0,i1,i2,i3,i4,i5,i6,i7,i8,i9⟩,j0,j1,j2,j3,j4,j5,j6,j7,j8,j9⟩:=box10 kb
            (with_reducible refine ZBH (i:=18) (o:=?obm2) (by kernel_rfl) ?hom2 (fun K hK=>?stm2))
            case hom2=>exact rfl
            go_simp
            obtain ⟨zF,gF⟩:=set10 (t:=54) (W:=V2) kb (.int .i64 x.kd) (.int .i64 x.col) (.string x.sl.nm) (.int .i64 x.sl.ty) (.bool x.sl.rq) (.int .i64 pk) (.int .i64 pn) (.string pt) (.slice pa pl pc) (.slice poa x.od.length poc)
            have z8:=(gF.block _ (ZC2 ka2) (by simp;omega)).trans ka2
            have hS3:=ZEZ hS2 gF (by omega)
            obtain ⟨V3,hV3⟩:∃ V,((((((((((V2.setCell ⟨gb,0,none⟩ (.int .i64 x.kd)).setCell ⟨gb,1,none⟩ (.int .i64 x.col)).setCell ⟨gb,2,none⟩ (.string x.sl.nm)).setCell ⟨gb,3,none⟩ (.int .i64 x.sl.ty)).setCell ⟨gb,4,none⟩ (.bool x.sl.rq)).setCell ⟨gb,5,none⟩ (.int .i64 pk)).setCell ⟨gb,6,none⟩ (.int .i64 pn)).setCell ⟨gb,7,none⟩ (.string pt)).setCell ⟨gb,8,none⟩ (.slice pa pl pc)).setCell ⟨gb,9,none⟩ (.slice poa x.od.length poc))=V:=⟨_,rfl⟩
            rw [hV3] at zF gF z8 hS3 ⊢
            clear hV3 i0 i1 i2 i3 i4 i5 i6 i7 i8 i9 j0 j1 j2 j3 j4 j5 j6 j7 j8 j9 gF
            refine hK.out _ _ (.inr hS3) ?_
            clear hK K
            obtain ⟨⟨i0,i1,i2,i3,i4,i5,i6,i7,i8,i9⟩,j0,j1,j2,j3,j4,j5,j6,j7,j8,j9⟩:=box10 (show CA V3 ga 54 #[.int .i64 0,.int .i64 0,.string ⟨#[]⟩,.int .i64 0,.bool false,.int .i64 0,.int .i64 0,.string ⟨#[]⟩,.slice none 0 0,.slice none 0 0] from z8)
            (with_reducible refine ZBH (i:=19) (o:=?obm3) (by kernel_rfl) ?hom3 (fun K hK=>?stm3))
            case hom3=>exact rfl
            go_simp
            obtain ⟨yF,gF⟩:=set10 (t:=54) (W:=V3) (show CA V3 ga 54 #[.int .i64 0,.int .i64 0,.string ⟨#[]⟩,.int .i64 0,.bool false,.int .i64 0,.int .i64 0,.string ⟨#[]⟩,.slice none 0 0,.slice none 0 0] from z8) (.int .i64 y.kd) (.int .i64 y.col) (.string y.sl.nm) (.int .i64 y.sl.ty) (.bool y.sl.rq) (.int .i64 rk) (.int .i64 rn) (.string rt) (.slice ra9 rl rc9) (.slice roa y.od.length roc)
            have z7:=(gF.block _ (ZC2 zF) (by simp;omega)).trans zF
            have hS4:=ZEZ hS3 gF (by omega)
            obtain ⟨V4,hV4⟩:∃ V,((((((((((V3.setCell ⟨ga,0,none⟩ (.int .i64 y.kd)).setCell ⟨ga,1,none⟩ (.int .i64 y.col)).setCell ⟨ga,2,none⟩ (.string y.sl.nm)).setCell ⟨ga,3,none⟩ (.int .i64 y.sl.ty)).setCell ⟨ga,4,none⟩ (.bool y.sl.rq)).setCell ⟨ga,5,none⟩ (.int .i64 rk)).setCell ⟨ga,6,none⟩ (.int .i64 rn)).setCell ⟨ga,7,none⟩ (.string rt)).setCell ⟨ga,8,none⟩ (.slice ra9 rl rc9)).setCell ⟨ga,9,none⟩ (.slice roa y.od.length roc))=V:=⟨_,rfl⟩
            rw [hV4] at yF gF z7 hS4 ⊢
            clear hV4 i0 i1 i2 i3 i4 i5 i6 i7 i8 i9 j0 j1 j2 j3 j4 j5 j6 j7 j8 j9 gF
            refine hK.out _ _ (.inl rfl) ?_
            clear hK K
            refine ZCM (by kernel_rfl) ?_ _
            go_wp2_with fail
            go_meet
            exact ⟨gb,ga,rfl,rfl,z7,yF,hS4⟩
          case rest=>
           obtain ⟨b7,b8,rfl,rfl,z7,z8,hB11⟩:=hcut
           have hbc:=hbk.trans (hB11.mono hbk.size)
           clear M0 M1 m0 m1 Y0 Y1 Y2 Y3 Y4 Y5 Y6 Y7 Y8 Y9 X0 X1 X2 X3 X4 X5 X6 X7 X8 X9
           by_cases q1:x.kd=y.kd
           ·by_cases q2:x.col=y.col
            ·rw [←q1,←q2] at z8
             obtain ⟨⟨i0,i1,i2,i3,i4,i5,i6,i7,i8,i9⟩,_⟩:=box10 z7
             obtain ⟨⟨j0,j1,j2,j3,j4,j5,j6,j7,j8,j9⟩,_⟩:=box10 z8
             have f1:(x.kd != x.kd)=false:=by simp
             have f2:(x.col != x.col)=false:=by simp
             have hA1:=(Below.refl _ wc).alloc (Nat.le_refl _) (.cells #[.string x.sl.nm,.int .i64 x.sl.ty,.bool x.sl.rq,.int .i64 pk,.int .i64 pn,.string pt,.slice pa pl pc] 51)
             have hA2:=(Below.refl _ (wc.alloc (.cells #[.string x.sl.nm,.int .i64 x.sl.ty,.bool x.sl.rq,.int .i64 pk,.int .i64 pn,.string pt,.slice pa pl pc] 51))).alloc (Nat.le_refl _) (.cells #[.string y.sl.nm,.int .i64 y.sl.ty,.bool y.sl.rq,.int .i64 rk,.int .i64 rn,.string rt,.slice ra9 rl rc9] 51)
             have hAB:=hA1.trans (hA2.mono hA1.size)
             obtain ⟨⟨v0,v1,v2,v3,v4,v5,v6,v7,v8,v9⟩,_⟩:=box10 (ZA4 z8 hA1)
             have hrA:=ZZY (ZAy hA2 (ZFx (HSX.out wc hbc)))
             have hrB:Hid (ZBV ((wc.alloc (.cells #[.string x.sl.nm,.int .i64 x.sl.ty,.bool x.sl.rq,.int .i64 pk,.int .i64 pn,.string pt,.slice pa pl pc] 51)).alloc (.cells #[.string y.sl.nm,.int .i64 y.sl.ty,.bool y.sl.rq,.int .i64 rk,.int .i64 rn,.string rt,.slice ra9 rl rc9] 51)) (some ⟨wc.heap.size+1,0,none⟩) 1 [y.sl]):=ZZY (by have:=ZFx (W:=wc.alloc (.cells #[.string x.sl.nm,.int .i64 x.sl.ty,.bool x.sl.rq,.int .i64 pk,.int .i64 pn,.string pt,.slice pa pl pc] 51)) (HSY.out _ (hbc.trans (hA1.mono hbc.size)));rwa [World.size_alloc] at this)
             have HQ1:=ZZY q1;have HQ2:=ZZY q2
             clear q1 q2 hA1 hA2
             cases E2' with
             |false=>
              have hb0:B=false:=HBAD2.out (fun e=>by have:=HE2.out;rw [e,ZDu] at this;cases this)
              go_wp2_with (first
               |(go_at_call 21;(with_reducible refine (HSS.out _ _ _ hrA.out hrB.out).mono ?_);rintro e w13 ⟨rfl,hB13⟩;have hB12:=hAB.trans (hB13.mono hAB.size);obtain ⟨⟨i0,i1,i2,i3,i4,i5,i6,i7,i8,i9⟩,_⟩:=box10 (ZA4 z7 hB12);obtain ⟨⟨j0,j1,j2,j3,j4,j5,j6,j7,j8,j9⟩,_⟩:=box10 (ZA4 z8 hB12);have hbd:=hbc.trans (hB12.mono hbc.size)))
              go_ret
              exact ⟨ZAG hb0.symm,hbd⟩
             |true=>
              cases E3 with
              |false=>
               have hb0:B=false:=HBAD2.out (fun e=>by have:=HE3.out;rw [e,ZDu] at this;cases this)
               go_wp2_with (first
                |(go_at_call 21;(with_reducible refine (HSS.out _ _ _ hrA.out hrB.out).mono ?_);rintro e w13 ⟨rfl,hB13⟩;have hB12:=hAB.trans (hB13.mono hAB.size);obtain ⟨⟨i0,i1,i2,i3,i4,i5,i6,i7,i8,i9⟩,_⟩:=box10 (ZA4 z7 hB12);obtain ⟨⟨j0,j1,j2,j3,j4,j5,j6,j7,j8,j9⟩,_⟩:=box10 (ZA4 z8 hB12);have hbd:=hbc.trans (hB12.mono hbc.size))
                |(go_at_call 22;(with_reducible refine (HIn.out _ hbd).mono ?_);rintro e w14 ⟨rfl,hB14⟩))
               go_ret
               exact ⟨ZAG hb0.symm,hbd.trans (hB14.mono hbd.size)⟩
              |true=>
               have hgd:=ZZY (HGOOD2.out ((ZBo _ _).2 (ZNl HQ1.out HQ2.out ((ZBo _ _).1 HE2.out) ((ZBo _ _).1 HE3.out))))
               go_wp2_with (first
                |(go_at_call 21;(with_reducible refine (HSS.out _ _ _ hrA.out hrB.out).mono ?_);rintro e w13 ⟨rfl,hB13⟩;have hB12:=hAB.trans (hB13.mono hAB.size);obtain ⟨⟨i0,i1,i2,i3,i4,i5,i6,i7,i8,i9⟩,_⟩:=box10 (ZA4 z7 hB12);obtain ⟨⟨j0,j1,j2,j3,j4,j5,j6,j7,j8,j9⟩,_⟩:=box10 (ZA4 z8 hB12);have hbd:=hbc.trans (hB12.mono hbc.size))
                |(go_at_call 22;(with_reducible refine (HIn.out _ hbd).mono ?_);rintro e w14 ⟨rfl,hB14⟩))
               go_roundw
               case rel=>exact ⟨k+1,by omega,by go_num,hbd.trans (hB14.mono hbd.size),hgd⟩
               case measure=>simp [intOf];omega
            ·rw [←q1] at z8
             obtain ⟨⟨i0,i1,i2,i3,i4,i5,i6,i7,i8,i9⟩,_⟩:=box10 z7
             obtain ⟨⟨j0,j1,j2,j3,j4,j5,j6,j7,j8,j9⟩,_⟩:=box10 z8
             have f1:(x.kd != x.kd)=false:=by simp
             have f2:=ZKH q2
             have hb0:B=false:=HBAD2.out (fun e=>q2 (by rw [e]))
             clear q1 q2
             go_wp2_with fail
             go_ret
             exact ⟨ZAG hb0.symm,hbc⟩
           ·obtain ⟨⟨i0,i1,i2,i3,i4,i5,i6,i7,i8,i9⟩,_⟩:=box10 z7
            obtain ⟨⟨j0,j1,j2,j3,j4,j5,j6,j7,j8,j9⟩,_⟩:=box10 z8
            have f1:=ZKH q1
            have hb0:B=false:=HBAD2.out (fun e=>q1 (by rw [e]))
            clear q1
            go_wp2_with fail
            go_ret
            exact ⟨ZAG hb0.symm,hbc⟩
         ·obtain rfl:k=L:=by omega
          have hd2:decide ((k:Int)<(k:Int))=false:=by simp
          have hst:=(ZBo _ _).1 ((ZDS st st').2 ⟨by rw [HLL.out,HLL'.out],fun i x y h1 h2=>HEK.out i x y (by have h3:=(List.getElem?_eq_some_iff.1 h1).1;have h4:=HLL.out;omega) h1 h2⟩)
          have hgd:=ZZY (HGOOD.out ((ZBo _ _).2 (ZGx.2 ⟨rfl,(ZBo _ _).1 HE1.out,hst⟩)))
          clear hst M0 M1
          go_wp2_with fail
          go_roundw
          case rel=>exact ⟨q+1,by omega,by go_num,hbk,hgd⟩
          case measure=>simp [intOf];omega
       ·have n3:((st.length:Int) != (st'.length:Int))=true:=by simp only [bne_iff_ne,ne_eq];omega
        have hb0:B=false:=HBAD.out (ZDV (.inr (.inr (fun e=>k2 (by simp only at e;rw [e])))))
        go_wp2_with fail
        refine wp_region_quiet (C:=fun W=>Below W0.heap.size W0 W) (by kernel_rfl) (by kernel_rfl) (ZAI W0) ?_
        iterate 40 (first
         |((with_reducible refine BigFrame.wpQuiet_skip ?_ ?_);(focus rfl);simp only [Act.put,ZZX,ZZW,ZZV])
         |((with_reducible refine BigFrame.wpQuiet_want ?_ (fun K hK=>?_))
           focus rfl
           apply ZAq
           ·intro W hC
            unfold Oper.quietAt
            have HC:=ZZY hC
            have m0:=ZAA hC M0.out
            have m1:=ZAA hC M1.out
            have n0:=ZAA hC N0.out
            have n9:=ZAA hC N9.out
            have o0:=ZAA hC O0.out
            have o1:=ZAA hC O1.out
            clear hC
            go_simp
            first
             |done
             |with_reducible rfl
             |((with_reducible refine (HSl.out _ HC.out).mono ?_);exact fun e w' ⟨he,hb⟩=>⟨he,HC.out.trans (hb.mono HC.out.size)⟩)
           (with_reducible refine hK _ ?_);clear hK K;simp only [Act.put,ZZX,ZZW,ZZV]))
        refine wpQuiet_nil ?_
        intro W9 hB9
        (try simp only at hB9)
        go_wp2_with fail
        go_ret
        exact ⟨ZAG hb0.symm,hbw.trans (hB9.mono hbw.size)⟩
    ·have n1:=ZNk k1
     have n1':=ZGI k1
     have n1'':¬nm.toList=nm'.toList:=by simpa using n1'
     have hb0:B=false:=HBAD.out (ZDV (.inl k1))
     clear hSl k1
     go_wp2_with fail
     refine wp_region_quiet (C:=fun W=>Below W0.heap.size W0 W) (by kernel_rfl) (by kernel_rfl) (ZAI W0) ?_
     iterate 40 (first
      |((with_reducible refine BigFrame.wpQuiet_skip ?_ ?_);(focus rfl);simp only [Act.put,ZZX,ZZW,ZZV])
      |((with_reducible refine BigFrame.wpQuiet_want ?_ (fun K hK=>?_))
        focus rfl
        apply ZAq
        ·intro W hC
         unfold Oper.quietAt
         have HC:=ZZY hC
         have m0:=ZAA hC M0.out
         have m1:=ZAA hC M1.out
         have n0:=ZAA hC N0.out
         have n9:=ZAA hC N9.out
         have o0:=ZAA hC O0.out
         have o1:=ZAA hC O1.out
         clear hC
         go_simp
         first
          |done
          |with_reducible rfl
          |done
        (with_reducible refine hK _ ?_);clear hK K;simp only [Act.put,ZZX,ZZW,ZZV]))
     refine wpQuiet_nil ?_
     intro W9 hB9
     (try simp only at hB9)
     go_wp2_with fail
     go_ret
     exact ⟨ZAG hb0.symm,hbw.trans (hB9.mono hbw.size)⟩
   ·obtain rfl:q=n:=by omega
    have hd:decide ((q:Int)<(q:Int))=false:=by simp
    have hBt:B=true:=HB.out.2 ⟨by rw [HN.out,HM.out],fun i s v h1 h2=>HALL.out i s v (by have h3:=(List.getElem?_eq_some_iff.1 h1).1;have h4:=HN.out;omega) h1 h2⟩
    go_wp2
    go_ret
    exact ⟨ZAG hBt.symm,hbw⟩
 ·have hB0:B=false:=by
   cases B with
   |false=>rfl
   |true=>exact absurd (hB.1 rfl).1 hnm
  have hb:((ls.length:Int) != (ms.length:Int))=true:=by simp only [bne_iff_ne,ne_eq];omega
  obtain ⟨n,hn⟩:∃ n,ls.length=n:=⟨_,rfl⟩
  obtain ⟨m,hmn⟩:∃ m,ms.length=m:=⟨_,rfl⟩
  rw [hn] at hb hlc ⊢
  rw [hmn] at hb ⊢
  clear h1 h2 hnm hB hn hmn
  go_enter func7,ntmps7
  go_wp2
  go_ret
  exact ⟨ZAG hB0.symm,Below.refl _ _⟩
