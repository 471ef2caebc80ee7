/- Registries: the document's Same. (Made by gen_rgx.py.) -/
import Derived.Test.YtnefldogciemgaaGreatMh46Regi
import Derived.Deep.DeepCutAuto
set_option linter.unusedVariables false
set_option linter.unusedSimpArgs false
set_option maxRecDepth 100000
namespace Go.Proofs.YtnefldogciemgaaGreat
open Go.RowKit Go.Shelf
theorem slotRow_one {W:World} {s:SlotM} {c0 c1 c2 c3 c4 c5 c6:Value} (h:Slot7 W s c0 c1 c2 c3 c4 c5 c6):SlotRow (W.alloc (.cells #[c0,c1,c2,c3,c4,c5,c6] 57)) (some ⟨W.heap.size,0,none⟩) 1 [s]:=by
 have hA:=(Below.refl _ W).alloc (Nat.le_refl _) (.cells #[c0,c1,c2,c3,c4,c5,c6] 57)
 refine ⟨by simp,by decide,.inr ⟨_,0,rfl,fun i t ht=>?_⟩⟩
 have hi:i<1:=(List.getElem?_eq_some_iff.1 ht).1
 obtain rfl:i=0:=by omega
 simp only [List.getElem?_cons_zero,Option.some.injEq] at ht
 subst ht
 exact ⟨c0,c1,c2,c3,c4,c5,c6,⟨by simp,by simp,by simp,by simp,by simp,by simp,by simp⟩,slot7_below hA h⟩
theorem eqB_one {α : Type} (a b : α):eqB [a] [b]=eqB a b:=eqB_congr ⟨fun h=>by injection h,fun h=>by rw [h]⟩
theorem templ_false {s m:TemplM} (h:s.nm≠m.nm∨s.slots≠m.slots∨s.steps≠m.steps):eqB s m=false:=eqB_not fun e=>by
 subst e
 rcases h with h | h | h<;>exact h rfl
theorem below_blk {W0 W F:World} {b:Nat} (h:Below W0.heap.size W0 W) (hg:W.grownBy F (some b)) (hb:W0.heap.size≤b):Below W0.heap.size W0 F:=
 ⟨hg.os.trans h.os,hg.tape.trans h.tape,hg.output.trans h.output,Nat.le_trans h.size hg.size,fun k hk=>by rw [hg.block k (Nat.lt_of_lt_of_le hk h.size) (by simp;omega),h.block k hk]⟩
theorem slot7_of {w:World} {s:SlotM} {c0 c1 c2 c3 c4 c5 c6:Value} (h:IsSlot w s (.agg #[c0,c1,c2,c3,c4,c5,c6])):Slot7 w s c0 c1 c2 c3 c4 c5 c6:=by
 obtain ⟨d0,d1,d2,d3,d4,d5,d6,e,h7⟩:=h
 simp only [Value.agg.injEq,Array.mk.injEq,List.cons.injEq,and_true] at e
 obtain ⟨rfl,rfl,rfl,rfl,rfl,rfl,rfl⟩:=e
 exact h7
theorem step_row9 {w:World} {t:StepM} {a0 a1 c2 c3 c4 c5 c6 c7 c8:Value} {oa:Option Addr} {ol oc:Nat} (h:IsStep w t (.agg #[a0,a1,c2,c3,c4,c5,c6,c7,c8,.slice oa ol oc])):Row w .i64 oa t.od.length oc t.od:=by
 obtain ⟨d2,d3,d4,d5,d6,d7,d8,oa',oc',e,_,_,_,hr,_⟩:=h
 simp only [Value.agg.injEq,Array.mk.injEq,List.cons.injEq,and_true,Value.slice.injEq] at e
 obtain ⟨_,_,_,_,_,_,_,_,_,rfl,_,rfl⟩:=e
 exact hr
theorem step_ext9 {x y:StepM} (h1:x.kd=y.kd) (h2:x.col=y.col) (h3:x.sl=y.sl) (h4:x.od=y.od):x=y:=by
 cases x;cases y;simp only at h1 h2 h3 h4;subst h1 h2 h3 h4;rfl
set_option maxHeartbeats 32000000 in
theorem refSame13_any (a1 a2:Option Addr) (c1 c2:Nat) (ls ms:List TemplM) (w:World) (h1:TemplRow w a1 c1 ls) (h2:TemplRow w a2 c2 ms) :
  Calls Tryz.prog 15 #[.slice a1 ls.length c1,.slice a2 ms.length c2] w fun e w'=>e=.returned (.bool (eqB ls ms))∧Below w.heap.size w w':=by
 have hcap:=h1.2.1
 have hlc:=h1.1
 unfold maxLen at hcap
 have hB:=eqB_list ls ms
 obtain ⟨B,hBB⟩:∃ B,eqB ls ms=B:=⟨_,rfl⟩
 rw [hBB] at hB ⊢
 clear hBB
 by_cases hnm:ls.length=ms.length
 ·obtain ⟨n,hn⟩:∃ n,ls.length=n:=⟨_,rfl⟩
  have hmn:ms.length=n:=by rw [←hnm,hn]
  have HL:=Lib.hid h1;have HV:=Lib.hid h2;have HN:=Lib.hid hn;have HM:=Lib.hid hmn;have HB:=Lib.hid hB
  rw [hn] at hlc ⊢
  rw [hmn]
  have hb:((n:Int) != (n:Int))=false:=by simp
  clear h1 h2 hn hmn hB hnm
  go_enter Tryz.func15,Tryz.ntmps15
  go_wp2
  go_loopw [5] (fun i wr=>∃ q:Nat,q≤n∧i=.int .i64 (q:Int)∧Below w.heap.size w wr∧Hid (∀ (j:Nat) (s m:TemplM),j<q→ls[j]? = some s→ms[j]? = some m→eqB s m=true)) (fun i _=>n-(intOf i).toNat)
  case atStart=>exact ⟨0,Nat.zero_le _,rfl,Below.refl _ _,Lib.hid (fun j s v hj=>by omega)⟩
  case round=>
   obtain ⟨q,hq,rfl,hbw,HALL⟩:=hrel
   obtain ⟨W0,hW0⟩:∃ x,x=wr:=⟨_,rfl⟩
   subst hW0
   rcases Nat.lt_or_ge q n with hlt | hge
   ·have hd:decide ((q:Int)<(n:Int))=true:=by simp;omega
    have hnl:=HN.out
    have hvl:=HM.out
    obtain ⟨s,hs⟩:∃ s,ls[q]? = some s:=⟨ls[q],List.getElem?_eq_getElem (by omega)⟩
    obtain ⟨m,hm⟩:∃ m,ms[q]? = some m:=⟨ms[q],List.getElem?_eq_getElem (by omega)⟩
    obtain ⟨pb,po,rfl,prow⟩:∃ b9 off,a1=some ⟨b9,off,none⟩∧∀ i s,ls[i]? = some s→TemplAt w b9 (off+i*3) s:=by
     rcases HL.out.2.2 with h | h
     ·subst h;simp at hnl;omega
     ·exact h
    obtain ⟨rb,ro,rfl,rrow⟩:∃ b9 off,a2=some ⟨b9,off,none⟩∧∀ i s,ms[i]? = some s→TemplAt w b9 (off+i*3) s:=by
     rcases HV.out.2.2 with h | h
     ·subst h;simp at hvl;omega
     ·exact h
    obtain ⟨sa,sc,ta,tc,⟨g0,g1,g2⟩,psn,psl,pst⟩:=prow q s hs
    obtain ⟨ra,rc,ua,uc,⟨e0,e1,e2⟩,rsn,rsl,rst⟩:=rrow q m hm
    have N0:=Lib.hid (cell_below hbw g0)
    have N9:=Lib.hid (cell_below hbw e0)
    have O0:=Lib.hid (cell_below hbw g1)
    have O1:=Lib.hid (cell_below hbw e1)
    have M0:=Lib.hid (cell_below hbw g2)
    have M1:=Lib.hid (cell_below hbw e2)
    have G2:=Lib.hid g2;have E2:=Lib.hid e2
    have hSl:∀ W,Below W0.heap.size W0 W→Calls Tryz.prog 36 #[.slice sa s.slots.length sc,.slice ra m.slots.length rc] W fun e w'=>e=.returned (.bool (eqB s.slots m.slots))∧Below W.heap.size W w':=fun W hb=>
     refSameSlots_any sa ra sc rc s.slots m.slots W (slotRow_below (hbw.trans (hb.mono hbw.size)) psl) (slotRow_below (hbw.trans (hb.mono hbw.size)) rsl)
    have HPST:=Lib.hid pst;have HRST:=Lib.hid rst
    have hgood:eqB s m=true→∀ (j:Nat) (s m:TemplM),j<q+1→ls[j]? = some s→ms[j]? = some m→eqB s m=true:=fun h1 j s' v' hj h2 h3=>by
     rcases Nat.lt_or_ge j q with h | h
     ·exact HALL.out j s' v' h h2 h3
     ·obtain rfl:j=q:=by omega
      rw [hs] at h2;rw [hm] at h3
      cases h2;cases h3
      exact h1
    have hbad:eqB s m=false→B=false:=fun h1=>by
     cases B with
     |false=>rfl
     |true=>
      have:=(HB.out.1 rfl).2 q s m hs hm
      rw [h1] at this
      exact this.symm
    have HGOOD:=Lib.hid hgood;have HBAD:=Lib.hid hbad
    clear hgood hbad hs hm hnl hvl prow rrow g0 g1 g2 e0 e1 e2 psn psl pst rsn rsl rst
    obtain ⟨nm,sl,st⟩:=s
    obtain ⟨nm',sl',st'⟩:=m
    simp only at *
    by_cases k1:nm=nm'
    ·subst k1
     have n1:(nm.toList != nm.toList)=false:=by simp
     obtain ⟨E1,hE1⟩:∃ E,eqB sl sl'=E:=⟨_,rfl⟩
     rw [hE1] at hSl
     have HSl:=Lib.hid hSl
     have HE1:=Lib.hid hE1
     clear hSl hE1
     cases E1 with
     |false=>
       have hb0:B=false:=HBAD.out (templ_false (.inr (.inl (fun e=>by have:=HE1.out;simp only at e;rw [e,eqB_self] at this;cases this))))
       go_wp2_with fail
       refine wp_region_quiet (C:=fun W=>Below W0.heap.size W0 W) (by kernel_rfl) (by kernel_rfl) (below_drew W0) ?_
       iterate 40 (first
        |((with_reducible refine BigFrame.wpQuiet_skip ?_ ?_);(focus rfl);simp only [Act.put,List.setIfInBounds_toArray,List.set_cons_zero,List.set_cons_succ])
        |((with_reducible refine BigFrame.wpQuiet_want ?_ (fun K hK=>?_))
          focus rfl
          apply quiet_run9
          ·intro W hC
           unfold Oper.quietAt
           have HC:=Lib.hid hC
           have m0:=cell_below hC M0.out
           have m1:=cell_below hC M1.out
           have n0:=cell_below hC N0.out
           have n9:=cell_below hC N9.out
           have o0:=cell_below hC O0.out
           have o1:=cell_below hC O1.out
           clear hC
           go_simp
           first
            |done
            |with_reducible rfl
            |((with_reducible refine (HSl.out _ HC.out).mono ?_);exact fun e w' ⟨he,hb⟩=>⟨he,HC.out.trans (hb.mono HC.out.size)⟩)
          (with_reducible refine hK _ ?_);clear hK K;simp only [Act.put,List.setIfInBounds_toArray,List.set_cons_zero,List.set_cons_succ]))
       refine wpQuiet_nil ?_
       intro W9 hB9
       (try simp only at hB9)
       go_wp2_with fail
       go_ret
       exact ⟨ret_bool hb0.symm,hbw.trans (hB9.mono hbw.size)⟩
     |true=>
       by_cases k2:st.length=st'.length
       ·obtain ⟨L,hL⟩:∃ L,st.length=L:=⟨_,rfl⟩
        have hL':st'.length=L:=by rw [←k2,hL]
        rw [hL] at M0 G2
        rw [hL'] at M1 E2
        have hLc:L≤tc∧tc≤maxLen:=by have:=HPST.out;exact ⟨hL ▸ this.1,this.2.1⟩
        unfold maxLen at hLc
        have n3:((L:Int) != (L:Int))=false:=by simp
        have HLL:=Lib.hid hL;have HLL':=Lib.hid hL'
        clear hL hL' k2
        go_wp2_with fail
        refine wp_region_quiet (C:=fun W=>Below W0.heap.size W0 W) (by kernel_rfl) (by kernel_rfl) (below_drew W0) ?_
        iterate 40 (first
         |((with_reducible refine BigFrame.wpQuiet_skip ?_ ?_);(focus rfl);simp only [Act.put,List.setIfInBounds_toArray,List.set_cons_zero,List.set_cons_succ])
         |((with_reducible refine BigFrame.wpQuiet_want ?_ (fun K hK=>?_))
           focus rfl
           apply quiet_run9
           ·intro W hC
            unfold Oper.quietAt
            have HC:=Lib.hid hC
            have m0:=cell_below hC M0.out
            have m1:=cell_below hC M1.out
            have n0:=cell_below hC N0.out
            have n9:=cell_below hC N9.out
            have o0:=cell_below hC O0.out
            have o1:=cell_below hC O1.out
            clear hC
            go_simp
            first
             |done
             |with_reducible rfl
             |((with_reducible refine (HSl.out _ HC.out).mono ?_);exact fun e w' ⟨he,hb⟩=>⟨he,HC.out.trans (hb.mono HC.out.size)⟩)
           (with_reducible refine hK _ ?_);clear hK K;simp only [Act.put,List.setIfInBounds_toArray,List.set_cons_zero,List.set_cons_succ]))
        refine wpQuiet_nil ?_
        intro W9 hB9
        (try simp only at hB9)
        have hb9:=hbw.trans (hB9.mono hbw.size)
        clear hB9
        go_wp2_with fail
        go_loopw [6] (fun i wr=>∃ k:Nat,k≤L∧i=.int .i64 (k:Int)∧Below w.heap.size w wr∧Hid (∀ (j:Nat) (x y:StepM),j<k→st[j]? = some x→st'[j]? = some y→eqB x y=true)) (fun i _=>L-(intOf i).toNat)
        case atStart=>exact ⟨0,Nat.zero_le _,rfl,hb9,Lib.hid (fun j s v hj=>by omega)⟩
        case round=>
         obtain ⟨k,hk,rfl,hbk,HEK⟩:=hrel
         clear M0 M1 N0 N9 O0 O1 hb9 hbw
         obtain ⟨W0,hW0⟩:∃ x,x=wr:=⟨_,rfl⟩
         subst hW0
         have M0:=Lib.hid (cell_below hbk G2.out)
         have M1:=Lib.hid (cell_below hbk E2.out)
         have m0:=M0.out
         have m1:=M1.out
         rcases Nat.lt_or_ge k L with hkl | hkl
         ·have hd2:decide ((k:Int)<(L:Int))=true:=by simp;omega
          have hl1:=HLL.out
          have hl2:=HLL'.out
          obtain ⟨x,hx⟩:∃ x,st[k]? = some x:=⟨st[k],List.getElem?_eq_getElem (by omega)⟩
          obtain ⟨y,hy⟩:∃ y,st'[k]? = some y:=⟨st'[k],List.getElem?_eq_getElem (by omega)⟩
          obtain ⟨tb,tq,rfl,trow⟩:∃ b9 off,ta=some ⟨b9,off,none⟩∧∀ i s,st[i]? = some s→StepAt w b9 (off+i*10) s:=by
           rcases HPST.out.2.2 with h | h
           ·subst h;simp at hl1;omega
           ·exact h
          obtain ⟨ub,uq,rfl,urow⟩:∃ b9 off,ua=some ⟨b9,off,none⟩∧∀ i s,st'[i]? = some s→StepAt w b9 (off+i*10) s:=by
           rcases HRST.out.2.2 with h | h
           ·subst h;simp at hl2;omega
           ·exact h
          obtain ⟨pk,pn,pt,pa,pl,pc,poa,poc,⟨g0,g1,g2,g3,g4,g5,g6,g7,g8,g9⟩,hX⟩:=stepAt_form (trow k x hx)
          obtain ⟨rk,rn,rt,ra9,rl,rc9,roa,roc,⟨e0,e1,e2,e3,e4,e5,e6,e7,e8,e9⟩,hY⟩:=stepAt_form (urow k y hy)
          have Y0:=Lib.hid (cell_below hbk g0);have Y1:=Lib.hid (cell_below hbk g1);have Y2:=Lib.hid (cell_below hbk g2);have Y3:=Lib.hid (cell_below hbk g3);have Y4:=Lib.hid (cell_below hbk g4);have Y5:=Lib.hid (cell_below hbk g5);have Y6:=Lib.hid (cell_below hbk g6);have Y7:=Lib.hid (cell_below hbk g7);have Y8:=Lib.hid (cell_below hbk g8);have Y9:=Lib.hid (cell_below hbk g9)
          have X0:=Lib.hid (cell_below hbk e0);have X1:=Lib.hid (cell_below hbk e1);have X2:=Lib.hid (cell_below hbk e2);have X3:=Lib.hid (cell_below hbk e3);have X4:=Lib.hid (cell_below hbk e4);have X5:=Lib.hid (cell_below hbk e5);have X6:=Lib.hid (cell_below hbk e6);have X7:=Lib.hid (cell_below hbk e7);have X8:=Lib.hid (cell_below hbk e8);have X9:=Lib.hid (cell_below hbk e9)
          have HSX:=Lib.hid (fun W (hb:Below w.heap.size w W)=>slot7_below hb (slot7_of (step_slot hX)))
          have HSY:=Lib.hid (fun W (hb:Below w.heap.size w W)=>slot7_below hb (slot7_of (step_slot hY)))
          have hIn:=fun W (hb:Below w.heap.size w W)=>(refInts_any poa roa x.od.length y.od.length poc roc x.od y.od W (row_below (step_row9 hX) hb rfl) (row_below (step_row9 hY) hb rfl)).mono fun e w' h=>rbytes_eq h
          obtain ⟨E3,hE3⟩:∃ E,eqB x.od y.od=E:=⟨_,rfl⟩
          obtain ⟨E2',hE2⟩:∃ E,eqB x.sl y.sl=E:=⟨_,rfl⟩
          simp only [hE3] at hIn
          have hSS:∀ W a b,SlotRow W a 1 [x.sl]→SlotRow W b 1 [y.sl]→Calls Tryz.prog 36 #[.slice a 1 1,.slice b 1 1] W fun e w'=>e=.returned (.bool E2')∧Below W.heap.size W w':=fun W a b h1 h2=>by
           have:=refSameSlots_any a b 1 1 [x.sl] [y.sl] W h1 h2
           rw [eqB_one,hE2] at this
           exact this
          have hgood2:eqB x y=true→∀ (j:Nat) (s m:StepM),j<k+1→st[j]? = some s→st'[j]? = some m→eqB s m=true:=fun h1 j s' v' hj h2 h3=>by
           rcases Nat.lt_or_ge j k with h | h
           ·exact HEK.out j s' v' h h2 h3
           ·obtain rfl:j=k:=by omega
            rw [hx] at h2;rw [hy] at h3
            cases h2;cases h3
            exact h1
          have hbad2:x≠y→B=false:=fun h1=>HBAD.out (templ_false (.inr (.inr (fun e=>h1 (by
           simp only at e
           rw [e] at hx
           rw [hx] at hy
           injection hy)))))
          have HGOOD2:=Lib.hid hgood2;have HBAD2:=Lib.hid hbad2;have HIn:=Lib.hid hIn;have HSS:=Lib.hid hSS;have HE3:=Lib.hid hE3;have HE2:=Lib.hid hE2
          clear hgood2 hbad2 hIn hSS hE3 hE2 hx hy hX hY trow urow hl1 hl2 g0 g1 g2 g3 g4 g5 g6 g7 g8 g9 e0 e1 e2 e3 e4 e5 e6 e7 e8 e9
          go_wp2_with fail
          go_cut [7,8] from 70 to 85 (fun s7 s8 W=>∃ b7 b8,s7=.pointer (some ⟨b7,0,none⟩)∧s8=.pointer (some ⟨b8,0,none⟩)∧CA W b7 60 #[.int .i64 x.kd,.int .i64 x.col,.string x.sl.nm,.int .i64 x.sl.ty,.bool x.sl.rq,.int .i64 pk,.int .i64 pn,.string pt,.slice pa pl pc,.slice poa x.od.length poc]∧CA W b8 60 #[.int .i64 y.kd,.int .i64 y.col,.string y.sl.nm,.int .i64 y.sl.ty,.bool y.sl.rq,.int .i64 rk,.int .i64 rn,.string rt,.slice ra9 rl rc9,.slice roa y.od.length roc]∧Below W0.heap.size W0 W)
          case first=>
           refine wp_regionZ (S:=fun W=>Below W0.heap.size W0 W) 19 20 #[false,false,false,false,false,false,false,false,false,false,false,false,false,false,false,false,false,false,false,false] (by kernel_rfl) (by kernel_rfl) (by kernel_rfl) ?_
           have hS0:=below_drew W0
           obtain ⟨V0,hV0⟩:∃ V0,W0.drew=V0:=⟨_,rfl⟩
           rw [hV0] at hS0 ⊢
           clear hV0
           refine lastZ_take (i:=0) (v:=?_) rfl (by kernel_rfl) (by kernel_rfl) (by kernel_rfl) (by kernel_rfl) (fun _ _ _ h=>h) (Or.inl ⟨by rfl, ?_⟩) (by assumption) ?_
           rotate_left
           ·intro w8 hSw;have m0:=cell_below hSw M0.out;have m1:=cell_below hSw M1.out;have y0:=cell_below hSw Y0.out;have y1:=cell_below hSw Y1.out;have y2:=cell_below hSw Y2.out;have y3:=cell_below hSw Y3.out;have y4:=cell_below hSw Y4.out;have y5:=cell_below hSw Y5.out;have y6:=cell_below hSw Y6.out;have y7:=cell_below hSw Y7.out;have y8:=cell_below hSw Y8.out;have y9:=cell_below hSw Y9.out;have x0:=cell_below hSw X0.out;have x1:=cell_below hSw X1.out;have x2:=cell_below hSw X2.out;have x3:=cell_below hSw X3.out;have x4:=cell_below hSw X4.out;have x5:=cell_below hSw X5.out;have x6:=cell_below hSw X6.out;have x7:=cell_below hSw X7.out;have x8:=cell_below hSw X8.out;have x9:=cell_below hSw X9.out;clear hSw;go_simp;(try with_reducible rfl)
           (try simp only [Act.put,List.setIfInBounds_toArray,List.set_cons_zero,List.set_cons_succ])
           refine lastZ_take (i:=1) (v:=?_) rfl (by kernel_rfl) (by kernel_rfl) (by kernel_rfl) (by kernel_rfl) (fun _ _ _ h=>h) (Or.inl ⟨by rfl, ?_⟩) (by assumption) ?_
           rotate_left
           ·intro w8 hSw;have m0:=cell_below hSw M0.out;have m1:=cell_below hSw M1.out;have y0:=cell_below hSw Y0.out;have y1:=cell_below hSw Y1.out;have y2:=cell_below hSw Y2.out;have y3:=cell_below hSw Y3.out;have y4:=cell_below hSw Y4.out;have y5:=cell_below hSw Y5.out;have y6:=cell_below hSw Y6.out;have y7:=cell_below hSw Y7.out;have y8:=cell_below hSw Y8.out;have y9:=cell_below hSw Y9.out;have x0:=cell_below hSw X0.out;have x1:=cell_below hSw X1.out;have x2:=cell_below hSw X2.out;have x3:=cell_below hSw X3.out;have x4:=cell_below hSw X4.out;have x5:=cell_below hSw X5.out;have x6:=cell_below hSw X6.out;have x7:=cell_below hSw X7.out;have x8:=cell_below hSw X8.out;have x9:=cell_below hSw X9.out;clear hSw;go_simp;(try with_reducible rfl)
           (try simp only [Act.put,List.setIfInBounds_toArray,List.set_cons_zero,List.set_cons_succ])
           refine lastZ_take (i:=2) (v:=?_) rfl (by kernel_rfl) (by kernel_rfl) (by kernel_rfl) (by kernel_rfl) (fun _ _ _ h=>h) (Or.inl ⟨by rfl, ?_⟩) (by assumption) ?_
           rotate_left
           ·intro w8 hSw;have m0:=cell_below hSw M0.out;have m1:=cell_below hSw M1.out;have y0:=cell_below hSw Y0.out;have y1:=cell_below hSw Y1.out;have y2:=cell_below hSw Y2.out;have y3:=cell_below hSw Y3.out;have y4:=cell_below hSw Y4.out;have y5:=cell_below hSw Y5.out;have y6:=cell_below hSw Y6.out;have y7:=cell_below hSw Y7.out;have y8:=cell_below hSw Y8.out;have y9:=cell_below hSw Y9.out;have x0:=cell_below hSw X0.out;have x1:=cell_below hSw X1.out;have x2:=cell_below hSw X2.out;have x3:=cell_below hSw X3.out;have x4:=cell_below hSw X4.out;have x5:=cell_below hSw X5.out;have x6:=cell_below hSw X6.out;have x7:=cell_below hSw X7.out;have x8:=cell_below hSw X8.out;have x9:=cell_below hSw X9.out;clear hSw;go_simp;(try with_reducible rfl)
           (try simp only [Act.put,List.setIfInBounds_toArray,List.set_cons_zero,List.set_cons_succ])
           refine lastZ_take (i:=3) (v:=?_) rfl (by kernel_rfl) (by kernel_rfl) (by kernel_rfl) (by kernel_rfl) (fun _ _ _ h=>h) (Or.inl ⟨by rfl, ?_⟩) (by assumption) ?_
           rotate_left
           ·intro w8 hSw;have m0:=cell_below hSw M0.out;have m1:=cell_below hSw M1.out;have y0:=cell_below hSw Y0.out;have y1:=cell_below hSw Y1.out;have y2:=cell_below hSw Y2.out;have y3:=cell_below hSw Y3.out;have y4:=cell_below hSw Y4.out;have y5:=cell_below hSw Y5.out;have y6:=cell_below hSw Y6.out;have y7:=cell_below hSw Y7.out;have y8:=cell_below hSw Y8.out;have y9:=cell_below hSw Y9.out;have x0:=cell_below hSw X0.out;have x1:=cell_below hSw X1.out;have x2:=cell_below hSw X2.out;have x3:=cell_below hSw X3.out;have x4:=cell_below hSw X4.out;have x5:=cell_below hSw X5.out;have x6:=cell_below hSw X6.out;have x7:=cell_below hSw X7.out;have x8:=cell_below hSw X8.out;have x9:=cell_below hSw X9.out;clear hSw;go_simp;(try with_reducible rfl)
           (try simp only [Act.put,List.setIfInBounds_toArray,List.set_cons_zero,List.set_cons_succ])
           refine lastZ_take (i:=4) (v:=?_) rfl (by kernel_rfl) (by kernel_rfl) (by kernel_rfl) (by kernel_rfl) (fun _ _ _ h=>h) (Or.inl ⟨by rfl, ?_⟩) (by assumption) ?_
           rotate_left
           ·intro w8 hSw;have m0:=cell_below hSw M0.out;have m1:=cell_below hSw M1.out;have y0:=cell_below hSw Y0.out;have y1:=cell_below hSw Y1.out;have y2:=cell_below hSw Y2.out;have y3:=cell_below hSw Y3.out;have y4:=cell_below hSw Y4.out;have y5:=cell_below hSw Y5.out;have y6:=cell_below hSw Y6.out;have y7:=cell_below hSw Y7.out;have y8:=cell_below hSw Y8.out;have y9:=cell_below hSw Y9.out;have x0:=cell_below hSw X0.out;have x1:=cell_below hSw X1.out;have x2:=cell_below hSw X2.out;have x3:=cell_below hSw X3.out;have x4:=cell_below hSw X4.out;have x5:=cell_below hSw X5.out;have x6:=cell_below hSw X6.out;have x7:=cell_below hSw X7.out;have x8:=cell_below hSw X8.out;have x9:=cell_below hSw X9.out;clear hSw;go_simp;(try with_reducible rfl)
           (try simp only [Act.put,List.setIfInBounds_toArray,List.set_cons_zero,List.set_cons_succ])
           refine lastZ_take (i:=5) (v:=?_) rfl (by kernel_rfl) (by kernel_rfl) (by kernel_rfl) (by kernel_rfl) (fun _ _ _ h=>h) (Or.inl ⟨by rfl, ?_⟩) (by assumption) ?_
           rotate_left
           ·intro w8 hSw;have m0:=cell_below hSw M0.out;have m1:=cell_below hSw M1.out;have y0:=cell_below hSw Y0.out;have y1:=cell_below hSw Y1.out;have y2:=cell_below hSw Y2.out;have y3:=cell_below hSw Y3.out;have y4:=cell_below hSw Y4.out;have y5:=cell_below hSw Y5.out;have y6:=cell_below hSw Y6.out;have y7:=cell_below hSw Y7.out;have y8:=cell_below hSw Y8.out;have y9:=cell_below hSw Y9.out;have x0:=cell_below hSw X0.out;have x1:=cell_below hSw X1.out;have x2:=cell_below hSw X2.out;have x3:=cell_below hSw X3.out;have x4:=cell_below hSw X4.out;have x5:=cell_below hSw X5.out;have x6:=cell_below hSw X6.out;have x7:=cell_below hSw X7.out;have x8:=cell_below hSw X8.out;have x9:=cell_below hSw X9.out;clear hSw;go_simp;(try with_reducible rfl)
           (try simp only [Act.put,List.setIfInBounds_toArray,List.set_cons_zero,List.set_cons_succ])
           refine lastZ_take (i:=6) (v:=?_) rfl (by kernel_rfl) (by kernel_rfl) (by kernel_rfl) (by kernel_rfl) (fun _ _ _ h=>h) (Or.inl ⟨by rfl, ?_⟩) (by assumption) ?_
           rotate_left
           ·intro w8 hSw;have m0:=cell_below hSw M0.out;have m1:=cell_below hSw M1.out;have y0:=cell_below hSw Y0.out;have y1:=cell_below hSw Y1.out;have y2:=cell_below hSw Y2.out;have y3:=cell_below hSw Y3.out;have y4:=cell_below hSw Y4.out;have y5:=cell_below hSw Y5.out;have y6:=cell_below hSw Y6.out;have y7:=cell_below hSw Y7.out;have y8:=cell_below hSw Y8.out;have y9:=cell_below hSw Y9.out;have x0:=cell_below hSw X0.out;have x1:=cell_below hSw X1.out;have x2:=cell_below hSw X2.out;have x3:=cell_below hSw X3.out;have x4:=cell_below hSw X4.out;have x5:=cell_below hSw X5.out;have x6:=cell_below hSw X6.out;have x7:=cell_below hSw X7.out;have x8:=cell_below hSw X8.out;have x9:=cell_below hSw X9.out;clear hSw;go_simp;(try with_reducible rfl)
           (try simp only [Act.put,List.setIfInBounds_toArray,List.set_cons_zero,List.set_cons_succ])
           refine lastZ_take (i:=7) (v:=?_) rfl (by kernel_rfl) (by kernel_rfl) (by kernel_rfl) (by kernel_rfl) (fun _ _ _ h=>h) (Or.inl ⟨by rfl, ?_⟩) (by assumption) ?_
           rotate_left
           ·intro w8 hSw;have m0:=cell_below hSw M0.out;have m1:=cell_below hSw M1.out;have y0:=cell_below hSw Y0.out;have y1:=cell_below hSw Y1.out;have y2:=cell_below hSw Y2.out;have y3:=cell_below hSw Y3.out;have y4:=cell_below hSw Y4.out;have y5:=cell_below hSw Y5.out;have y6:=cell_below hSw Y6.out;have y7:=cell_below hSw Y7.out;have y8:=cell_below hSw Y8.out;have y9:=cell_below hSw Y9.out;have x0:=cell_below hSw X0.out;have x1:=cell_below hSw X1.out;have x2:=cell_below hSw X2.out;have x3:=cell_below hSw X3.out;have x4:=cell_below hSw X4.out;have x5:=cell_below hSw X5.out;have x6:=cell_below hSw X6.out;have x7:=cell_below hSw X7.out;have x8:=cell_below hSw X8.out;have x9:=cell_below hSw X9.out;clear hSw;go_simp;(try with_reducible rfl)
           (try simp only [Act.put,List.setIfInBounds_toArray,List.set_cons_zero,List.set_cons_succ])
           refine lastZ_take (i:=8) (v:=?_) rfl (by kernel_rfl) (by kernel_rfl) (by kernel_rfl) (by kernel_rfl) (fun _ _ _ h=>h) (Or.inl ⟨by rfl, ?_⟩) (by assumption) ?_
           rotate_left
           ·intro w8 hSw;have m0:=cell_below hSw M0.out;have m1:=cell_below hSw M1.out;have y0:=cell_below hSw Y0.out;have y1:=cell_below hSw Y1.out;have y2:=cell_below hSw Y2.out;have y3:=cell_below hSw Y3.out;have y4:=cell_below hSw Y4.out;have y5:=cell_below hSw Y5.out;have y6:=cell_below hSw Y6.out;have y7:=cell_below hSw Y7.out;have y8:=cell_below hSw Y8.out;have y9:=cell_below hSw Y9.out;have x0:=cell_below hSw X0.out;have x1:=cell_below hSw X1.out;have x2:=cell_below hSw X2.out;have x3:=cell_below hSw X3.out;have x4:=cell_below hSw X4.out;have x5:=cell_below hSw X5.out;have x6:=cell_below hSw X6.out;have x7:=cell_below hSw X7.out;have x8:=cell_below hSw X8.out;have x9:=cell_below hSw X9.out;clear hSw;go_simp;(try with_reducible rfl)
           (try simp only [Act.put,List.setIfInBounds_toArray,List.set_cons_zero,List.set_cons_succ])
           refine lastZ_take (i:=9) (v:=?_) rfl (by kernel_rfl) (by kernel_rfl) (by kernel_rfl) (by kernel_rfl) (fun _ _ _ h=>h) (Or.inl ⟨by rfl, ?_⟩) (by assumption) ?_
           rotate_left
           ·intro w8 hSw;have m0:=cell_below hSw M0.out;have m1:=cell_below hSw M1.out;have y0:=cell_below hSw Y0.out;have y1:=cell_below hSw Y1.out;have y2:=cell_below hSw Y2.out;have y3:=cell_below hSw Y3.out;have y4:=cell_below hSw Y4.out;have y5:=cell_below hSw Y5.out;have y6:=cell_below hSw Y6.out;have y7:=cell_below hSw Y7.out;have y8:=cell_below hSw Y8.out;have y9:=cell_below hSw Y9.out;have x0:=cell_below hSw X0.out;have x1:=cell_below hSw X1.out;have x2:=cell_below hSw X2.out;have x3:=cell_below hSw X3.out;have x4:=cell_below hSw X4.out;have x5:=cell_below hSw X5.out;have x6:=cell_below hSw X6.out;have x7:=cell_below hSw X7.out;have x8:=cell_below hSw X8.out;have x9:=cell_below hSw X9.out;clear hSw;go_simp;(try with_reducible rfl)
           (try simp only [Act.put,List.setIfInBounds_toArray,List.set_cons_zero,List.set_cons_succ])
           refine lastZ_take (i:=10) (v:=?_) rfl (by kernel_rfl) (by kernel_rfl) (by kernel_rfl) (by kernel_rfl) (fun _ _ _ h=>h) (Or.inl ⟨by rfl, ?_⟩) (by assumption) ?_
           rotate_left
           ·intro w8 hSw;have m0:=cell_below hSw M0.out;have m1:=cell_below hSw M1.out;have y0:=cell_below hSw Y0.out;have y1:=cell_below hSw Y1.out;have y2:=cell_below hSw Y2.out;have y3:=cell_below hSw Y3.out;have y4:=cell_below hSw Y4.out;have y5:=cell_below hSw Y5.out;have y6:=cell_below hSw Y6.out;have y7:=cell_below hSw Y7.out;have y8:=cell_below hSw Y8.out;have y9:=cell_below hSw Y9.out;have x0:=cell_below hSw X0.out;have x1:=cell_below hSw X1.out;have x2:=cell_below hSw X2.out;have x3:=cell_below hSw X3.out;have x4:=cell_below hSw X4.out;have x5:=cell_below hSw X5.out;have x6:=cell_below hSw X6.out;have x7:=cell_below hSw X7.out;have x8:=cell_below hSw X8.out;have x9:=cell_below hSw X9.out;clear hSw;go_simp;(try with_reducible rfl)
           (try simp only [Act.put,List.setIfInBounds_toArray,List.set_cons_zero,List.set_cons_succ])
           refine lastZ_take (i:=11) (v:=?_) rfl (by kernel_rfl) (by kernel_rfl) (by kernel_rfl) (by kernel_rfl) (fun _ _ _ h=>h) (Or.inl ⟨by rfl, ?_⟩) (by assumption) ?_
           rotate_left
           ·intro w8 hSw;have m0:=cell_below hSw M0.out;have m1:=cell_below hSw M1.out;have y0:=cell_below hSw Y0.out;have y1:=cell_below hSw Y1.out;have y2:=cell_below hSw Y2.out;have y3:=cell_below hSw Y3.out;have y4:=cell_below hSw Y4.out;have y5:=cell_below hSw Y5.out;have y6:=cell_below hSw Y6.out;have y7:=cell_below hSw Y7.out;have y8:=cell_below hSw Y8.out;have y9:=cell_below hSw Y9.out;have x0:=cell_below hSw X0.out;have x1:=cell_below hSw X1.out;have x2:=cell_below hSw X2.out;have x3:=cell_below hSw X3.out;have x4:=cell_below hSw X4.out;have x5:=cell_below hSw X5.out;have x6:=cell_below hSw X6.out;have x7:=cell_below hSw X7.out;have x8:=cell_below hSw X8.out;have x9:=cell_below hSw X9.out;clear hSw;go_simp;(try with_reducible rfl)
           (try simp only [Act.put,List.setIfInBounds_toArray,List.set_cons_zero,List.set_cons_succ])
           refine lastZ_take (i:=12) (v:=?_) rfl (by kernel_rfl) (by kernel_rfl) (by kernel_rfl) (by kernel_rfl) (fun _ _ _ h=>h) (Or.inl ⟨by rfl, ?_⟩) (by assumption) ?_
           rotate_left
           ·intro w8 hSw;have m0:=cell_below hSw M0.out;have m1:=cell_below hSw M1.out;have y0:=cell_below hSw Y0.out;have y1:=cell_below hSw Y1.out;have y2:=cell_below hSw Y2.out;have y3:=cell_below hSw Y3.out;have y4:=cell_below hSw Y4.out;have y5:=cell_below hSw Y5.out;have y6:=cell_below hSw Y6.out;have y7:=cell_below hSw Y7.out;have y8:=cell_below hSw Y8.out;have y9:=cell_below hSw Y9.out;have x0:=cell_below hSw X0.out;have x1:=cell_below hSw X1.out;have x2:=cell_below hSw X2.out;have x3:=cell_below hSw X3.out;have x4:=cell_below hSw X4.out;have x5:=cell_below hSw X5.out;have x6:=cell_below hSw X6.out;have x7:=cell_below hSw X7.out;have x8:=cell_below hSw X8.out;have x9:=cell_below hSw X9.out;clear hSw;go_simp;(try with_reducible rfl)
           (try simp only [Act.put,List.setIfInBounds_toArray,List.set_cons_zero,List.set_cons_succ])
           refine lastZ_take (i:=13) (v:=?_) rfl (by kernel_rfl) (by kernel_rfl) (by kernel_rfl) (by kernel_rfl) (fun _ _ _ h=>h) (Or.inl ⟨by rfl, ?_⟩) (by assumption) ?_
           rotate_left
           ·intro w8 hSw;have m0:=cell_below hSw M0.out;have m1:=cell_below hSw M1.out;have y0:=cell_below hSw Y0.out;have y1:=cell_below hSw Y1.out;have y2:=cell_below hSw Y2.out;have y3:=cell_below hSw Y3.out;have y4:=cell_below hSw Y4.out;have y5:=cell_below hSw Y5.out;have y6:=cell_below hSw Y6.out;have y7:=cell_below hSw Y7.out;have y8:=cell_below hSw Y8.out;have y9:=cell_below hSw Y9.out;have x0:=cell_below hSw X0.out;have x1:=cell_below hSw X1.out;have x2:=cell_below hSw X2.out;have x3:=cell_below hSw X3.out;have x4:=cell_below hSw X4.out;have x5:=cell_below hSw X5.out;have x6:=cell_below hSw X6.out;have x7:=cell_below hSw X7.out;have x8:=cell_below hSw X8.out;have x9:=cell_below hSw X9.out;clear hSw;go_simp;(try with_reducible rfl)
           (try simp only [Act.put,List.setIfInBounds_toArray,List.set_cons_zero,List.set_cons_succ])
           refine lastZ_take (i:=14) (v:=?_) rfl (by kernel_rfl) (by kernel_rfl) (by kernel_rfl) (by kernel_rfl) (fun _ _ _ h=>h) (Or.inl ⟨by rfl, ?_⟩) (by assumption) ?_
           rotate_left
           ·intro w8 hSw;have m0:=cell_below hSw M0.out;have m1:=cell_below hSw M1.out;have y0:=cell_below hSw Y0.out;have y1:=cell_below hSw Y1.out;have y2:=cell_below hSw Y2.out;have y3:=cell_below hSw Y3.out;have y4:=cell_below hSw Y4.out;have y5:=cell_below hSw Y5.out;have y6:=cell_below hSw Y6.out;have y7:=cell_below hSw Y7.out;have y8:=cell_below hSw Y8.out;have y9:=cell_below hSw Y9.out;have x0:=cell_below hSw X0.out;have x1:=cell_below hSw X1.out;have x2:=cell_below hSw X2.out;have x3:=cell_below hSw X3.out;have x4:=cell_below hSw X4.out;have x5:=cell_below hSw X5.out;have x6:=cell_below hSw X6.out;have x7:=cell_below hSw X7.out;have x8:=cell_below hSw X8.out;have x9:=cell_below hSw X9.out;clear hSw;go_simp;(try with_reducible rfl)
           (try simp only [Act.put,List.setIfInBounds_toArray,List.set_cons_zero,List.set_cons_succ])
           refine lastZ_take (i:=15) (v:=?_) rfl (by kernel_rfl) (by kernel_rfl) (by kernel_rfl) (by kernel_rfl) (fun _ _ _ h=>h) (Or.inl ⟨by rfl, ?_⟩) (by assumption) ?_
           rotate_left
           ·intro w8 hSw;have m0:=cell_below hSw M0.out;have m1:=cell_below hSw M1.out;have y0:=cell_below hSw Y0.out;have y1:=cell_below hSw Y1.out;have y2:=cell_below hSw Y2.out;have y3:=cell_below hSw Y3.out;have y4:=cell_below hSw Y4.out;have y5:=cell_below hSw Y5.out;have y6:=cell_below hSw Y6.out;have y7:=cell_below hSw Y7.out;have y8:=cell_below hSw Y8.out;have y9:=cell_below hSw Y9.out;have x0:=cell_below hSw X0.out;have x1:=cell_below hSw X1.out;have x2:=cell_below hSw X2.out;have x3:=cell_below hSw X3.out;have x4:=cell_below hSw X4.out;have x5:=cell_below hSw X5.out;have x6:=cell_below hSw X6.out;have x7:=cell_below hSw X7.out;have x8:=cell_below hSw X8.out;have x9:=cell_below hSw X9.out;clear hSw;go_simp;(try with_reducible rfl)
           (try simp only [Act.put,List.setIfInBounds_toArray,List.set_cons_zero,List.set_cons_succ])
           (with_reducible refine lastZ_two (i:=16) (j:=17) (o:=?obs0) (o':=?obm0) (by kernel_rfl) ?hos0 ?hom0 (fun K hK=>?sts0) (fun K hK=>?stm0))
           case hos0=>exact rfl
           case hom0=>exact rfl
           case sts0=>
            go_simp
            have hA1:=(Below.refl _ V0).alloc (Nat.le_refl _) (.cells #[.int .i64 0,.int .i64 0,.string ⟨#[]⟩,.int .i64 0,.bool false,.int .i64 0,.int .i64 0,.string ⟨#[]⟩,.slice none 0 0,.slice none 0 0] 60)
            have hS1:=hS0.trans (hA1.mono hS0.size)
            have ka:=ca_alloc V0 60 #[.int .i64 0,.int .i64 0,.string ⟨#[]⟩,.int .i64 0,.bool false,.int .i64 0,.int .i64 0,.string ⟨#[]⟩,.slice none 0 0,.slice none 0 0]
            have hka:W0.heap.size≤V0.heap.size:=hS0.size
            obtain ⟨V1,hU⟩:∃ U,V0.alloc (.cells #[.int .i64 0,.int .i64 0,.string ⟨#[]⟩,.int .i64 0,.bool false,.int .i64 0,.int .i64 0,.string ⟨#[]⟩,.slice none 0 0,.slice none 0 0] 60)=U:=⟨_,rfl⟩
            obtain ⟨ga,hga⟩:∃ g,V0.heap.size=g:=⟨_,rfl⟩
            rw [hU] at hS1 ka hA1 ⊢
            rw [hga] at ka hka ⊢
            clear hU hA1 hga
            refine hK.out _ _ (.inr hS1) ?_
            clear hK K
            (with_reducible refine lastZ_one (i:=17) (o:=?obs1) (by kernel_rfl) ?hos1 (fun K hK=>?sts1))
            case hos1=>exact rfl
            go_simp
            have hA2:=(Below.refl _ V1).alloc (Nat.le_refl _) (.cells #[.int .i64 0,.int .i64 0,.string ⟨#[]⟩,.int .i64 0,.bool false,.int .i64 0,.int .i64 0,.string ⟨#[]⟩,.slice none 0 0,.slice none 0 0] 60)
            have hS2:=hS1.trans (hA2.mono hS1.size)
            have kb:=ca_alloc V1 60 #[.int .i64 0,.int .i64 0,.string ⟨#[]⟩,.int .i64 0,.bool false,.int .i64 0,.int .i64 0,.string ⟨#[]⟩,.slice none 0 0,.slice none 0 0]
            have hkb:W0.heap.size≤V1.heap.size:=hS1.size
            have kab:ga<V1.heap.size:=ca_lt ka
            have ka2:=ca_below ka hA2
            obtain ⟨V2,hU⟩:∃ U,V1.alloc (.cells #[.int .i64 0,.int .i64 0,.string ⟨#[]⟩,.int .i64 0,.bool false,.int .i64 0,.int .i64 0,.string ⟨#[]⟩,.slice none 0 0,.slice none 0 0] 60)=U:=⟨_,rfl⟩
            obtain ⟨gb,hgb⟩:∃ g,V1.heap.size=g:=⟨_,rfl⟩
            rw [hU] at hS2 kb hA2 ka2 ⊢
            rw [hgb] at kb hkb kab ⊢
            clear hU hA2 hgb ka hS1
            refine hK.out _ _ (.inr hS2) ?_
            clear hK K
            have hne:¬ga=gb:=by omega
            have hne2:¬gb=ga:=by omega
            obtain ⟨⟨i0,i1,i2,i3,i4,i5,i6,i7,i8,i9⟩,j0,j1,j2,j3,j4,j5,j6,j7,j8,j9⟩:=box10 ka2
            (with_reducible refine lastZ_one (i:=18) (o:=?obs2) (by kernel_rfl) ?hos2 (fun K hK=>?sts2))
            case hos2=>exact rfl
            go_simp
            obtain ⟨zF,gF⟩:=set10 (t:=60) (W:=V2) ka2 (.int .i64 x.kd) (.int .i64 x.col) (.string x.sl.nm) (.int .i64 x.sl.ty) (.bool x.sl.rq) (.int .i64 pk) (.int .i64 pn) (.string pt) (.slice pa pl pc) (.slice poa x.od.length poc)
            have z8:=(gF.block _ (ca_lt kb) (by simp;omega)).trans kb
            have hS3:=below_blk hS2 gF (by omega)
            obtain ⟨V3,hV3⟩:∃ V,((((((((((V2.setCell ⟨ga,0,none⟩ (.int .i64 x.kd)).setCell ⟨ga,1,none⟩ (.int .i64 x.col)).setCell ⟨ga,2,none⟩ (.string x.sl.nm)).setCell ⟨ga,3,none⟩ (.int .i64 x.sl.ty)).setCell ⟨ga,4,none⟩ (.bool x.sl.rq)).setCell ⟨ga,5,none⟩ (.int .i64 pk)).setCell ⟨ga,6,none⟩ (.int .i64 pn)).setCell ⟨ga,7,none⟩ (.string pt)).setCell ⟨ga,8,none⟩ (.slice pa pl pc)).setCell ⟨ga,9,none⟩ (.slice poa x.od.length poc))=V:=⟨_,rfl⟩
            rw [hV3] at zF gF z8 hS3 ⊢
            clear hV3 i0 i1 i2 i3 i4 i5 i6 i7 i8 i9 j0 j1 j2 j3 j4 j5 j6 j7 j8 j9 gF
            refine hK.out _ _ (.inr hS3) ?_
            clear hK K
            obtain ⟨⟨i0,i1,i2,i3,i4,i5,i6,i7,i8,i9⟩,j0,j1,j2,j3,j4,j5,j6,j7,j8,j9⟩:=box10 (show CA V3 gb 60 #[.int .i64 0,.int .i64 0,.string ⟨#[]⟩,.int .i64 0,.bool false,.int .i64 0,.int .i64 0,.string ⟨#[]⟩,.slice none 0 0,.slice none 0 0] from z8)
            (with_reducible refine lastZ_one (i:=19) (o:=?obs3) (by kernel_rfl) ?hos3 (fun K hK=>?sts3))
            case hos3=>exact rfl
            go_simp
            obtain ⟨yF,gF⟩:=set10 (t:=60) (W:=V3) (show CA V3 gb 60 #[.int .i64 0,.int .i64 0,.string ⟨#[]⟩,.int .i64 0,.bool false,.int .i64 0,.int .i64 0,.string ⟨#[]⟩,.slice none 0 0,.slice none 0 0] from z8) (.int .i64 y.kd) (.int .i64 y.col) (.string y.sl.nm) (.int .i64 y.sl.ty) (.bool y.sl.rq) (.int .i64 rk) (.int .i64 rn) (.string rt) (.slice ra9 rl rc9) (.slice roa y.od.length roc)
            have z7:=(gF.block _ (ca_lt zF) (by simp;omega)).trans zF
            have hS4:=below_blk hS3 gF (by omega)
            obtain ⟨V4,hV4⟩:∃ V,((((((((((V3.setCell ⟨gb,0,none⟩ (.int .i64 y.kd)).setCell ⟨gb,1,none⟩ (.int .i64 y.col)).setCell ⟨gb,2,none⟩ (.string y.sl.nm)).setCell ⟨gb,3,none⟩ (.int .i64 y.sl.ty)).setCell ⟨gb,4,none⟩ (.bool y.sl.rq)).setCell ⟨gb,5,none⟩ (.int .i64 rk)).setCell ⟨gb,6,none⟩ (.int .i64 rn)).setCell ⟨gb,7,none⟩ (.string rt)).setCell ⟨gb,8,none⟩ (.slice ra9 rl rc9)).setCell ⟨gb,9,none⟩ (.slice roa y.od.length roc))=V:=⟨_,rfl⟩
            rw [hV4] at yF gF z7 hS4 ⊢
            clear hV4 i0 i1 i2 i3 i4 i5 i6 i7 i8 i9 j0 j1 j2 j3 j4 j5 j6 j7 j8 j9 gF
            refine hK.out _ _ (.inl rfl) ?_
            clear hK K
            refine lastZ_done (by kernel_rfl) ?_ _
            go_wp2_with fail
            go_meet
            exact ⟨ga,gb,rfl,rfl,z7,yF,hS4⟩
           case stm0=>
            go_simp
            have hA1:=(Below.refl _ V0).alloc (Nat.le_refl _) (.cells #[.int .i64 0,.int .i64 0,.string ⟨#[]⟩,.int .i64 0,.bool false,.int .i64 0,.int .i64 0,.string ⟨#[]⟩,.slice none 0 0,.slice none 0 0] 60)
            have hS1:=hS0.trans (hA1.mono hS0.size)
            have ka:=ca_alloc V0 60 #[.int .i64 0,.int .i64 0,.string ⟨#[]⟩,.int .i64 0,.bool false,.int .i64 0,.int .i64 0,.string ⟨#[]⟩,.slice none 0 0,.slice none 0 0]
            have hka:W0.heap.size≤V0.heap.size:=hS0.size
            obtain ⟨V1,hU⟩:∃ U,V0.alloc (.cells #[.int .i64 0,.int .i64 0,.string ⟨#[]⟩,.int .i64 0,.bool false,.int .i64 0,.int .i64 0,.string ⟨#[]⟩,.slice none 0 0,.slice none 0 0] 60)=U:=⟨_,rfl⟩
            obtain ⟨ga,hga⟩:∃ g,V0.heap.size=g:=⟨_,rfl⟩
            rw [hU] at hS1 ka hA1 ⊢
            rw [hga] at ka hka ⊢
            clear hU hA1 hga
            refine hK.out _ _ (.inr hS1) ?_
            clear hK K
            (with_reducible refine lastZ_one (i:=16) (o:=?obm1) (by kernel_rfl) ?hom1 (fun K hK=>?stm1))
            case hom1=>exact rfl
            go_simp
            have hA2:=(Below.refl _ V1).alloc (Nat.le_refl _) (.cells #[.int .i64 0,.int .i64 0,.string ⟨#[]⟩,.int .i64 0,.bool false,.int .i64 0,.int .i64 0,.string ⟨#[]⟩,.slice none 0 0,.slice none 0 0] 60)
            have hS2:=hS1.trans (hA2.mono hS1.size)
            have kb:=ca_alloc V1 60 #[.int .i64 0,.int .i64 0,.string ⟨#[]⟩,.int .i64 0,.bool false,.int .i64 0,.int .i64 0,.string ⟨#[]⟩,.slice none 0 0,.slice none 0 0]
            have hkb:W0.heap.size≤V1.heap.size:=hS1.size
            have kab:ga<V1.heap.size:=ca_lt ka
            have ka2:=ca_below ka hA2
            obtain ⟨V2,hU⟩:∃ U,V1.alloc (.cells #[.int .i64 0,.int .i64 0,.string ⟨#[]⟩,.int .i64 0,.bool false,.int .i64 0,.int .i64 0,.string ⟨#[]⟩,.slice none 0 0,.slice none 0 0] 60)=U:=⟨_,rfl⟩
            obtain ⟨gb,hgb⟩:∃ g,V1.heap.size=g:=⟨_,rfl⟩
            rw [hU] at hS2 kb hA2 ka2 ⊢
            rw [hgb] at kb hkb kab ⊢
            clear hU hA2 hgb ka hS1
            refine hK.out _ _ (.inr hS2) ?_
            clear hK K
            have hne:¬gb=ga:=by omega
            have hne2:¬ga=gb:=by omega
            obtain ⟨⟨i0,i1,i2,i3,i4,i5,i6,i7,i8,i9⟩,j0,j1,j2,j3,j4,j5,j6,j7,j8,j9⟩:=box10 kb
            (with_reducible refine lastZ_one (i:=18) (o:=?obm2) (by kernel_rfl) ?hom2 (fun K hK=>?stm2))
            case hom2=>exact rfl
            go_simp
            obtain ⟨zF,gF⟩:=set10 (t:=60) (W:=V2) kb (.int .i64 x.kd) (.int .i64 x.col) (.string x.sl.nm) (.int .i64 x.sl.ty) (.bool x.sl.rq) (.int .i64 pk) (.int .i64 pn) (.string pt) (.slice pa pl pc) (.slice poa x.od.length poc)
            have z8:=(gF.block _ (ca_lt ka2) (by simp;omega)).trans ka2
            have hS3:=below_blk hS2 gF (by omega)
            obtain ⟨V3,hV3⟩:∃ V,((((((((((V2.setCell ⟨gb,0,none⟩ (.int .i64 x.kd)).setCell ⟨gb,1,none⟩ (.int .i64 x.col)).setCell ⟨gb,2,none⟩ (.string x.sl.nm)).setCell ⟨gb,3,none⟩ (.int .i64 x.sl.ty)).setCell ⟨gb,4,none⟩ (.bool x.sl.rq)).setCell ⟨gb,5,none⟩ (.int .i64 pk)).setCell ⟨gb,6,none⟩ (.int .i64 pn)).setCell ⟨gb,7,none⟩ (.string pt)).setCell ⟨gb,8,none⟩ (.slice pa pl pc)).setCell ⟨gb,9,none⟩ (.slice poa x.od.length poc))=V:=⟨_,rfl⟩
            rw [hV3] at zF gF z8 hS3 ⊢
            clear hV3 i0 i1 i2 i3 i4 i5 i6 i7 i8 i9 j0 j1 j2 j3 j4 j5 j6 j7 j8 j9 gF
            refine hK.out _ _ (.inr hS3) ?_
            clear hK K
            obtain ⟨⟨i0,i1,i2,i3,i4,i5,i6,i7,i8,i9⟩,j0,j1,j2,j3,j4,j5,j6,j7,j8,j9⟩:=box10 (show CA V3 ga 60 #[.int .i64 0,.int .i64 0,.string ⟨#[]⟩,.int .i64 0,.bool false,.int .i64 0,.int .i64 0,.string ⟨#[]⟩,.slice none 0 0,.slice none 0 0] from z8)
            (with_reducible refine lastZ_one (i:=19) (o:=?obm3) (by kernel_rfl) ?hom3 (fun K hK=>?stm3))
            case hom3=>exact rfl
            go_simp
            obtain ⟨yF,gF⟩:=set10 (t:=60) (W:=V3) (show CA V3 ga 60 #[.int .i64 0,.int .i64 0,.string ⟨#[]⟩,.int .i64 0,.bool false,.int .i64 0,.int .i64 0,.string ⟨#[]⟩,.slice none 0 0,.slice none 0 0] from z8) (.int .i64 y.kd) (.int .i64 y.col) (.string y.sl.nm) (.int .i64 y.sl.ty) (.bool y.sl.rq) (.int .i64 rk) (.int .i64 rn) (.string rt) (.slice ra9 rl rc9) (.slice roa y.od.length roc)
            have z7:=(gF.block _ (ca_lt zF) (by simp;omega)).trans zF
            have hS4:=below_blk hS3 gF (by omega)
            obtain ⟨V4,hV4⟩:∃ V,((((((((((V3.setCell ⟨ga,0,none⟩ (.int .i64 y.kd)).setCell ⟨ga,1,none⟩ (.int .i64 y.col)).setCell ⟨ga,2,none⟩ (.string y.sl.nm)).setCell ⟨ga,3,none⟩ (.int .i64 y.sl.ty)).setCell ⟨ga,4,none⟩ (.bool y.sl.rq)).setCell ⟨ga,5,none⟩ (.int .i64 rk)).setCell ⟨ga,6,none⟩ (.int .i64 rn)).setCell ⟨ga,7,none⟩ (.string rt)).setCell ⟨ga,8,none⟩ (.slice ra9 rl rc9)).setCell ⟨ga,9,none⟩ (.slice roa y.od.length roc))=V:=⟨_,rfl⟩
            rw [hV4] at yF gF z7 hS4 ⊢
            clear hV4 i0 i1 i2 i3 i4 i5 i6 i7 i8 i9 j0 j1 j2 j3 j4 j5 j6 j7 j8 j9 gF
            refine hK.out _ _ (.inl rfl) ?_
            clear hK K
            refine lastZ_done (by kernel_rfl) ?_ _
            go_wp2_with fail
            go_meet
            exact ⟨gb,ga,rfl,rfl,z7,yF,hS4⟩
          case rest=>
           obtain ⟨b7,b8,rfl,rfl,z7,z8,hB11⟩:=hcut
           have hbc:=hbk.trans (hB11.mono hbk.size)
           clear M0 M1 m0 m1 Y0 Y1 Y2 Y3 Y4 Y5 Y6 Y7 Y8 Y9 X0 X1 X2 X3 X4 X5 X6 X7 X8 X9
           by_cases q1:x.kd=y.kd
           ·by_cases q2:x.col=y.col
            ·rw [←q1,←q2] at z8
             obtain ⟨⟨i0,i1,i2,i3,i4,i5,i6,i7,i8,i9⟩,_⟩:=box10 z7
             obtain ⟨⟨j0,j1,j2,j3,j4,j5,j6,j7,j8,j9⟩,_⟩:=box10 z8
             have f1:(x.kd != x.kd)=false:=by simp
             have f2:(x.col != x.col)=false:=by simp
             have hA1:=(Below.refl _ wc).alloc (Nat.le_refl _) (.cells #[.string x.sl.nm,.int .i64 x.sl.ty,.bool x.sl.rq,.int .i64 pk,.int .i64 pn,.string pt,.slice pa pl pc] 57)
             have hA2:=(Below.refl _ (wc.alloc (.cells #[.string x.sl.nm,.int .i64 x.sl.ty,.bool x.sl.rq,.int .i64 pk,.int .i64 pn,.string pt,.slice pa pl pc] 57))).alloc (Nat.le_refl _) (.cells #[.string y.sl.nm,.int .i64 y.sl.ty,.bool y.sl.rq,.int .i64 rk,.int .i64 rn,.string rt,.slice ra9 rl rc9] 57)
             have hAB:=hA1.trans (hA2.mono hA1.size)
             obtain ⟨⟨v0,v1,v2,v3,v4,v5,v6,v7,v8,v9⟩,_⟩:=box10 (ca_below z8 hA1)
             have hrA:=Lib.hid (slotRow_below hA2 (slotRow_one (HSX.out wc hbc)))
             have hrB:Hid (SlotRow ((wc.alloc (.cells #[.string x.sl.nm,.int .i64 x.sl.ty,.bool x.sl.rq,.int .i64 pk,.int .i64 pn,.string pt,.slice pa pl pc] 57)).alloc (.cells #[.string y.sl.nm,.int .i64 y.sl.ty,.bool y.sl.rq,.int .i64 rk,.int .i64 rn,.string rt,.slice ra9 rl rc9] 57)) (some ⟨wc.heap.size+1,0,none⟩) 1 [y.sl]):=Lib.hid (by have:=slotRow_one (W:=wc.alloc (.cells #[.string x.sl.nm,.int .i64 x.sl.ty,.bool x.sl.rq,.int .i64 pk,.int .i64 pn,.string pt,.slice pa pl pc] 57)) (HSY.out _ (hbc.trans (hA1.mono hbc.size)));rwa [World.size_alloc] at this)
             have HQ1:=Lib.hid q1;have HQ2:=Lib.hid q2
             clear q1 q2 hA1 hA2
             cases E2' with
             |false=>
              have hb0:B=false:=HBAD2.out (fun e=>by have:=HE2.out;rw [e,eqB_self] at this;cases this)
              go_wp2_with (first
               |(go_at_call 36;(with_reducible refine (HSS.out _ _ _ hrA.out hrB.out).mono ?_);rintro e w13 ⟨rfl,hB13⟩;have hB12:=hAB.trans (hB13.mono hAB.size);obtain ⟨⟨i0,i1,i2,i3,i4,i5,i6,i7,i8,i9⟩,_⟩:=box10 (ca_below z7 hB12);obtain ⟨⟨j0,j1,j2,j3,j4,j5,j6,j7,j8,j9⟩,_⟩:=box10 (ca_below z8 hB12);have hbd:=hbc.trans (hB12.mono hbc.size)))
              go_ret
              exact ⟨ret_bool hb0.symm,hbd⟩
             |true=>
              cases E3 with
              |false=>
               have hb0:B=false:=HBAD2.out (fun e=>by have:=HE3.out;rw [e,eqB_self] at this;cases this)
               go_wp2_with (first
                |(go_at_call 36;(with_reducible refine (HSS.out _ _ _ hrA.out hrB.out).mono ?_);rintro e w13 ⟨rfl,hB13⟩;have hB12:=hAB.trans (hB13.mono hAB.size);obtain ⟨⟨i0,i1,i2,i3,i4,i5,i6,i7,i8,i9⟩,_⟩:=box10 (ca_below z7 hB12);obtain ⟨⟨j0,j1,j2,j3,j4,j5,j6,j7,j8,j9⟩,_⟩:=box10 (ca_below z8 hB12);have hbd:=hbc.trans (hB12.mono hbc.size))
                |(go_at_call 37;(with_reducible refine (HIn.out _ hbd).mono ?_);rintro e w14 ⟨rfl,hB14⟩))
               go_ret
               exact ⟨ret_bool hb0.symm,hbd.trans (hB14.mono hbd.size)⟩
              |true=>
               have hgd:=Lib.hid (HGOOD2.out ((eqB_iff _ _).2 (step_ext9 HQ1.out HQ2.out ((eqB_iff _ _).1 HE2.out) ((eqB_iff _ _).1 HE3.out))))
               go_wp2_with (first
                |(go_at_call 36;(with_reducible refine (HSS.out _ _ _ hrA.out hrB.out).mono ?_);rintro e w13 ⟨rfl,hB13⟩;have hB12:=hAB.trans (hB13.mono hAB.size);obtain ⟨⟨i0,i1,i2,i3,i4,i5,i6,i7,i8,i9⟩,_⟩:=box10 (ca_below z7 hB12);obtain ⟨⟨j0,j1,j2,j3,j4,j5,j6,j7,j8,j9⟩,_⟩:=box10 (ca_below z8 hB12);have hbd:=hbc.trans (hB12.mono hbc.size))
                |(go_at_call 37;(with_reducible refine (HIn.out _ hbd).mono ?_);rintro e w14 ⟨rfl,hB14⟩))
               go_roundw
               case rel=>exact ⟨k+1,by omega,by go_num,hbd.trans (hB14.mono hbd.size),hgd⟩
               case measure=>simp [intOf];omega
            ·rw [←q1] at z8
             obtain ⟨⟨i0,i1,i2,i3,i4,i5,i6,i7,i8,i9⟩,_⟩:=box10 z7
             obtain ⟨⟨j0,j1,j2,j3,j4,j5,j6,j7,j8,j9⟩,_⟩:=box10 z8
             have f1:(x.kd != x.kd)=false:=by simp
             have f2:=int_nbe q2
             have hb0:B=false:=HBAD2.out (fun e=>q2 (by rw [e]))
             clear q1 q2
             go_wp2_with fail
             go_ret
             exact ⟨ret_bool hb0.symm,hbc⟩
           ·obtain ⟨⟨i0,i1,i2,i3,i4,i5,i6,i7,i8,i9⟩,_⟩:=box10 z7
            obtain ⟨⟨j0,j1,j2,j3,j4,j5,j6,j7,j8,j9⟩,_⟩:=box10 z8
            have f1:=int_nbe q1
            have hb0:B=false:=HBAD2.out (fun e=>q1 (by rw [e]))
            clear q1
            go_wp2_with fail
            go_ret
            exact ⟨ret_bool hb0.symm,hbc⟩
         ·obtain rfl:k=L:=by omega
          have hd2:decide ((k:Int)<(k:Int))=false:=by simp
          have hst:=(eqB_iff _ _).1 ((eqB_list st st').2 ⟨by rw [HLL.out,HLL'.out],fun i x y h1 h2=>HEK.out i x y (by have h3:=(List.getElem?_eq_some_iff.1 h1).1;have h4:=HLL.out;omega) h1 h2⟩)
          have hgd:=Lib.hid (HGOOD.out ((eqB_iff _ _).2 (templ_eq.2 ⟨rfl,(eqB_iff _ _).1 HE1.out,hst⟩)))
          clear hst M0 M1
          go_wp2_with fail
          go_roundw
          case rel=>exact ⟨q+1,by omega,by go_num,hbk,hgd⟩
          case measure=>simp [intOf];omega
       ·have n3:((st.length:Int) != (st'.length:Int))=true:=by simp only [bne_iff_ne,ne_eq];omega
        have hb0:B=false:=HBAD.out (templ_false (.inr (.inr (fun e=>k2 (by simp only at e;rw [e])))))
        go_wp2_with fail
        refine wp_region_quiet (C:=fun W=>Below W0.heap.size W0 W) (by kernel_rfl) (by kernel_rfl) (below_drew W0) ?_
        iterate 40 (first
         |((with_reducible refine BigFrame.wpQuiet_skip ?_ ?_);(focus rfl);simp only [Act.put,List.setIfInBounds_toArray,List.set_cons_zero,List.set_cons_succ])
         |((with_reducible refine BigFrame.wpQuiet_want ?_ (fun K hK=>?_))
           focus rfl
           apply quiet_run9
           ·intro W hC
            unfold Oper.quietAt
            have HC:=Lib.hid hC
            have m0:=cell_below hC M0.out
            have m1:=cell_below hC M1.out
            have n0:=cell_below hC N0.out
            have n9:=cell_below hC N9.out
            have o0:=cell_below hC O0.out
            have o1:=cell_below hC O1.out
            clear hC
            go_simp
            first
             |done
             |with_reducible rfl
             |((with_reducible refine (HSl.out _ HC.out).mono ?_);exact fun e w' ⟨he,hb⟩=>⟨he,HC.out.trans (hb.mono HC.out.size)⟩)
           (with_reducible refine hK _ ?_);clear hK K;simp only [Act.put,List.setIfInBounds_toArray,List.set_cons_zero,List.set_cons_succ]))
        refine wpQuiet_nil ?_
        intro W9 hB9
        (try simp only at hB9)
        go_wp2_with fail
        go_ret
        exact ⟨ret_bool hb0.symm,hbw.trans (hB9.mono hbw.size)⟩
    ·have n1:=toL_nbe k1
     have n1':=toL_ne k1
     have n1'':¬nm.toList=nm'.toList:=by simpa using n1'
     have hb0:B=false:=HBAD.out (templ_false (.inl k1))
     clear hSl k1
     go_wp2_with fail
     refine wp_region_quiet (C:=fun W=>Below W0.heap.size W0 W) (by kernel_rfl) (by kernel_rfl) (below_drew W0) ?_
     iterate 40 (first
      |((with_reducible refine BigFrame.wpQuiet_skip ?_ ?_);(focus rfl);simp only [Act.put,List.setIfInBounds_toArray,List.set_cons_zero,List.set_cons_succ])
      |((with_reducible refine BigFrame.wpQuiet_want ?_ (fun K hK=>?_))
        focus rfl
        apply quiet_run9
        ·intro W hC
         unfold Oper.quietAt
         have HC:=Lib.hid hC
         have m0:=cell_below hC M0.out
         have m1:=cell_below hC M1.out
         have n0:=cell_below hC N0.out
         have n9:=cell_below hC N9.out
         have o0:=cell_below hC O0.out
         have o1:=cell_below hC O1.out
         clear hC
         go_simp
         first
          |done
          |with_reducible rfl
          |done
        (with_reducible refine hK _ ?_);clear hK K;simp only [Act.put,List.setIfInBounds_toArray,List.set_cons_zero,List.set_cons_succ]))
     refine wpQuiet_nil ?_
     intro W9 hB9
     (try simp only at hB9)
     go_wp2_with fail
     go_ret
     exact ⟨ret_bool hb0.symm,hbw.trans (hB9.mono hbw.size)⟩
   ·obtain rfl:q=n:=by omega
    have hd:decide ((q:Int)<(q:Int))=false:=by simp
    have hBt:B=true:=HB.out.2 ⟨by rw [HN.out,HM.out],fun i s v h1 h2=>HALL.out i s v (by have h3:=(List.getElem?_eq_some_iff.1 h1).1;have h4:=HN.out;omega) h1 h2⟩
    go_wp2
    go_ret
    exact ⟨ret_bool hBt.symm,hbw⟩
 ·have hB0:B=false:=by
   cases B with
   |false=>rfl
   |true=>exact absurd (hB.1 rfl).1 hnm
  have hb:((ls.length:Int) != (ms.length:Int))=true:=by simp only [bne_iff_ne,ne_eq];omega
  obtain ⟨n,hn⟩:∃ n,ls.length=n:=⟨_,rfl⟩
  obtain ⟨m,hmn⟩:∃ m,ms.length=m:=⟨_,rfl⟩
  rw [hn] at hb hlc ⊢
  rw [hmn] at hb ⊢
  clear h1 h2 hnm hB hn hmn
  go_enter Tryz.func15,Tryz.ntmps15
  go_wp2
  go_ret
  exact ⟨ret_bool hB0.symm,Below.refl _ _⟩
