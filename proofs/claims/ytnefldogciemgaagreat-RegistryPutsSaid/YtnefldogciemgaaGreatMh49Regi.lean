/- Registries: the document's Put. (Made by gen_rgo.py.) -/
import Derived.Test.YtnefldogciemgaaGreatMh45Regi
import Derived.Test.YtnefldogciemgaaGreatMh47Regi
import Derived.Test.YtnefldogciemgaaGreatMh48Regi
set_option linter.unusedVariables false
set_option linter.unusedSimpArgs false
set_option maxRecDepth 100000
namespace Go.Proofs.YtnefldogciemgaaGreat
open Go.RowKit Go.Shelf
theorem own_app9 {w:World} {base:Nat} {v:Value} {l r:List Int} (h:w.ownsRow base 5 1 v l.length (u8s l)) (hbase:base≤w.heap.size) {v2:Value} (h2:IsSl w v2 r) (hl:l.length+r.length≤1000000000) (ty:TypeId) :
  ∃ v' w',(Builtin.append_ #[26,26] ty #[v,v2]).run Tryz.prog w=.ok v' w'∧w'.ownsRow base 5 1 v' (l++r).length (u8s (l++r))∧Below base w w'∧w.grownBy w' v.ownBlock:=by
 obtain ⟨i0,hi,hz0,hz1,hz2⟩:=info_parts info_u8
 obtain ⟨a,n,c,rfl,hr⟩:=h2
 have hn:=hr.1
 obtain ⟨v',w',h1,h2,h3⟩:=run_append_cells (P:=Tryz.prog) w base 26 ty 5 i0 (.int .u8 0) 1 1 Tryz.underlying26 hi hz0 hz1 hz2 rfl (by decide) v l.length (u8s l) h a n c (u8s r) (cells_of_row hr) (by simp [u8s,Value.oneCell']) (by unfold maxLen;omega) (by omega) hbase
 exact ⟨v',w',h1,ownsRow_nth h2 (by rw [List.length_append];omega) (by rw [u8s_append]),below_grown h3 h hbase,h3⟩
def OS (w W:World) (bx:Nat) (cs:Array Value) (v:Value) (bs:List Int):Prop:=W.ownsRow w.heap.size 5 1 v bs.length (u8s bs)∧CA W bx 60 cs∧Below w.heap.size w W
theorem os_below {w W W':World} {bx:Nat} {cs:Array Value} {v:Value} {bs:List Int} (h:OS w W bx cs v bs) (hb:Below W.heap.size W W'):OS w W' bx cs v bs:=
 ⟨ownsRow_below h.1 hb,ca_below h.2.1 hb,h.2.2.trans (hb.mono h.2.2.size)⟩
theorem os_app {w W:World} {bx:Nat} {cs:Array Value} {v v2:Value} {bs r:List Int} (h:OS w W bx cs v bs) (h2:IsSl W v2 r) (hl:bs.length+r.length≤1000000000) :
  ∃ v' W',(Builtin.append_ #[26,26] 26 #[v,v2]).run Tryz.prog W=.ok v' W'∧OS w W' bx cs v' (bs++r):=by
 obtain ⟨v',W',h1,h3,h4,h5⟩:=own_app9 h.1 h.2.2.size h2 hl 26
 exact ⟨v',W',h1,h3,(h5.block bx (ca_lt h.2.1) (fun e=>own_ne h.1 h.2.1 (by decide) bx e.symm rfl)).trans h.2.1,h.2.2.trans h4⟩
theorem os_byte {w W:World} {bx:Nat} {cs:Array Value} {v:Value} {bs:List Int} (h:OS w W bx cs v bs) (n:Int) (hl:bs.length≤900000000) :
  ∃ v' W',(Builtin.append_ #[26,26] 26 #[v,.slice (some ⟨W.heap.size,0,none⟩) 1 1]).run Tryz.prog (W.alloc (.cells #[.int .u8 n] 5))=.ok v' W'∧OS w W' bx cs v' (bs ++ [n]):=
 os_app (os_below h ((Below.refl _ W).alloc (Nat.le_refl _) _)) (isSl_byte W n) (by simp;omega)
theorem os_byte2 {w W:World} {o:Obj} {bx:Nat} {cs:Array Value} {v:Value} {bs:List Int} (h:OS w (W.alloc o) bx cs v bs) (n:Int) (hl:bs.length≤900000000) (b:Nat) (hb:(W.alloc o).heap.size=b) :
  ∃ v' W',(Builtin.append_ #[26,26] 26 #[v,.slice (some ⟨b,0,none⟩) 1 1]).run Tryz.prog ((W.alloc o).alloc (.cells #[.int .u8 n] 5))=.ok v' W'∧OS w W' bx cs v' (bs ++ [n]):=by
 subst hb
 exact os_byte h n hl
theorem size_alloc9 (W:World) (o:Obj):(W.alloc o).heap.size=W.heap.size+1:=Array.size_push _
theorem sB1 (col:Int) (sl:SlotM) (od:List Int):Rg.stepB ⟨1,col,sl,od⟩ = [1]++Rg.slotB sl:=by
 show (if (1:Int)=1 then Rg.byB 1++Rg.slotB sl else _)=_
 rw [if_pos rfl,Rg.byB_in (by decide) (by decide)]
theorem sB2 {col:Int} (h:0≤col∧col≤7) (sl:SlotM) (od:List Int):Rg.stepB ⟨2,col,sl,od⟩ = [2] ++ [col]:=by
 have e:Rg.stepB ⟨2,col,sl,od⟩=Rg.byB 2++(Rg.byB col ++ []):=by
  show (if (2:Int)=1 then _ else if (2:Int)=3 then _ else if (2:Int)=2 then _ else _)=_
  rw [if_neg (by decide),if_neg (by decide),if_pos rfl]
 rw [e,Rg.byB_in (by decide) (by decide),Rg.byB_in h.1 (by omega),List.append_nil]
theorem sB3 {col:Int} (h:0≤col∧col≤7) (sl:SlotM) (od:List Int):Rg.stepB ⟨3,col,sl,od⟩ = [3]++([col]++Rg.txtB sl.nm):=by
 have e:Rg.stepB ⟨3,col,sl,od⟩=Rg.byB 3++(Rg.byB col++Rg.txtB sl.nm):=by
  show (if (3:Int)=1 then _ else if (3:Int)=3 then _ else _)=_
  rw [if_neg (by decide),if_pos rfl]
 rw [e,Rg.byB_in (by decide) (by decide),Rg.byB_in h.1 (by omega)]
theorem sB4 {col:Int} (h:0≤col∧col≤7) {sl:SlotM} (hs:1≤sl.ty∧sl.ty≤63) (od:List Int):Rg.stepB ⟨4,col,sl,od⟩ = [4]++([col] ++ [sl.ty]):=by
 have e:Rg.stepB ⟨4,col,sl,od⟩=Rg.byB 4++(Rg.byB col++Rg.byB sl.ty):=by
  show (if (4:Int)=1 then _ else if (4:Int)=3 then _ else if (4:Int)=2 then _ else if (4:Int)=4 then _ else _)=_
  rw [if_neg (by decide),if_neg (by decide),if_neg (by decide),if_pos rfl]
 rw [e,Rg.byB_in (by decide) (by decide),Rg.byB_in h.1 (by omega),Rg.byB_in (by omega) (by omega)]
theorem sB5 (col:Int) (sl:SlotM) {od:List Int} (h:∀ x∈od,0≤x∧x≤7):Rg.stepB ⟨5,col,sl,od⟩ = [5]++(Rg.nuB od.length++od):=by
 have e:Rg.stepB ⟨5,col,sl,od⟩=Rg.byB 5++(Rg.nuB od.length++od.flatMap Rg.byB):=by
  show (if (5:Int)=1 then _ else if (5:Int)=3 then _ else if (5:Int)=2 then _ else if (5:Int)=4 then _ else _)=_
  rw [if_neg (by decide),if_neg (by decide),if_neg (by decide),if_neg (by decide)]
 have f:od.flatMap Rg.byB=od:=by
  clear e
  induction od with
  |nil=>rfl
  |cons x l ih=>
   have hx:=h x (List.mem_cons_self ..)
   rw [List.flatMap_cons,ih (fun y hy=>h y (List.mem_cons_of_mem _ hy)),Rg.byB_in hx.1 (by omega)]
   rfl
 rw [e,f,Rg.byB_in (by decide) (by decide)]
set_option maxHeartbeats 32000000 in
theorem refPut13_any (a:Option Addr) (cap:Nat) (l:List TemplM) (w:World) (hr:TemplRow w a cap l) (hg:∀ t∈l,greatT t=false) :
  Calls Tryz.prog 11 #[.slice a l.length cap] w (Got w (Rg.putIf l)):=by
 have hR:=refRight13_any a cap l w hr hg
 unfold Rg.putIf
 obtain ⟨R,hRR⟩:∃ R,Rg.right l=R:=⟨_,rfl⟩
 rw [hRR] at hR ⊢
 have HR:=Lib.hid hR
 clear hR
 cases R with
 |false=>
  rw [if_neg (by simp)]
  obtain ⟨n,hn⟩:∃ n,l.length=n:=⟨_,rfl⟩
  rw [hn] at HR ⊢
  clear hr hg hRR hn
  go_enter Tryz.func11,Tryz.ntmps11
  go_wp2_with (go_at_call 8;(with_reducible refine (HR.out).mono ?_);rintro e w1 ⟨rfl,hB1⟩)
  go_ret
  exact ⟨_,rfl,World.ownsRow_nil _ _ _ _,hB1⟩
 |true=>
  rw [if_pos rfl]
  have hok:∀ t∈l,Rg.TemplOk t:=fun t ht=>by
   obtain ⟨i,hi⟩:=List.mem_iff_getElem?.1 ht
   exact Rg.rightT_ok (((Rg.right_iff l).1 hRR).2 i t hi).1
  have h6:=((Rg.right_iff l).1 hRR).1
  have hN:=fun n W=>ref06Num_any (n:Int) W
  obtain ⟨n,hn⟩:∃ n,l.length=n:=⟨_,rfl⟩
  have hnu:∀ k:Nat,k≤1000→∀ W,Calls Tryz.prog 29 #[.int .i64 (k:Int)] W (Got W (Rg.nuB k)):=fun k _ W=>ref06Num_any (k:Int) W
  have HW:=Lib.hid hr;have HN:=Lib.hid hn;have HOK:=Lib.hid hok;have HNU:=Lib.hid hnu
  unfold Rg.putR
  rw [hn] at HR h6 ⊢
  have hl0:(Rg.nuB n).length≤4:=Rg.spn_len _ _ _
  generalize hNB:Rg.nuB n=NB at *
  have HNB:=Lib.hid hNB
  clear hr hn hok hnu hN hg hRR hNB
  go_enter Tryz.func11,Tryz.ntmps11
  go_wp2_with (first
   |(go_at_call 8;(with_reducible refine (HR.out).mono ?_);rintro e w1 ⟨rfl,hB1⟩)
   |(go_at_call 29;(with_reducible refine (HNU.out n (by omega) _).mono ?_);rintro e w2 ⟨v2,rfl,ho2,hb2⟩;have hB2:=hB1.trans (hb2.mono hB1.size)))
  rw [HNB.out] at ho2
  have ho2':=ownsRow_mono ho2 hB1.size
  go_loopw [3,4] (fun c i wr=>∃ (q:Nat) (bs:List Int),q≤n∧i=.int .i64 (q:Int)∧wr.ownsRow w.heap.size 5 1 c bs.length (u8s bs)∧bs.length≤4+3000000*q∧Hid (bs=NB++(l.take q).flatMap Rg.templB)∧Below w.heap.size w wr) (fun _ i _=>n-(intOf i).toNat)
  case atStart=>exact ⟨0,NB,Nat.zero_le _,rfl,ho2',by omega,Lib.hid (by simp),hB2⟩
  case round=>
   obtain ⟨q,bs,hq,rfl,how,hbl,HBS,hbw⟩:=hrel
   rcases Nat.lt_or_ge q n with hlt | hge
   ·have hd:decide ((q:Int)<(n:Int))=true:=by simp;omega
    have hnl:=HN.out
    obtain ⟨t,ht⟩:∃ t,l[q]? = some t:=⟨l[q],List.getElem?_eq_getElem (by omega)⟩
    obtain ⟨sb,so,rfl,hrow⟩:∃ b off,a=some ⟨b,off,none⟩∧∀ i s,l[i]? = some s→TemplAt w b (off+i*3) s:=by
     rcases HW.out.2.2 with h | h
     ·subst h;simp at hnl;omega
     ·exact h
    obtain ⟨sa,sc,ta,tc,⟨g0,g1,g2⟩,hsn,hsl,hst⟩:=hrow q t ht
    have hto:=HOK.out t (List.mem_of_getElem? ht)
    have hnm:=Rg.name_size hto.nm
    have hn8:=hto.n8
    have hm8:=hto.m8
    have y0:=cell_below hbw g0
    have y1:=cell_below hbw g1
    have y2:=cell_below hbw g2
    have hT:=fun W=>txt06_any t.nm W (by omega)
    have hlt1:=Rg.txtB_len t.nm
    have hls:(Rg.nuB t.slots.length).length≤4:=Rg.spn_len _ _ _
    have hlp:(Rg.nuB t.steps.length).length≤4:=Rg.spn_len _ _ _
    have HT:=Lib.hid hT;have HTO:=Lib.hid hto;have HTT:=Lib.hid ht;have HSL:=Lib.hid hsl;have HST:=Lib.hid hst
    have G1:=Lib.hid g1;have G2:=Lib.hid g2
    clear hT hto ht hrow hsl hst g0 g1 g2 hsn hnl
    go_upto_region 9 with (first
     |(go_at_call 30;(with_reducible refine (HT.out _).mono ?_);rintro e w3 ⟨v3,rfl,ho3,hb3⟩;obtain ⟨v4,w4,run4,ho4,hb4⟩:=own_app (ownsRow_below how hb3) (Nat.le_trans hbw.size hb3.size) (isSl_own ho3) (by omega) 26;have hbw4:=(hbw.trans (hb3.mono hbw.size)).trans hb4;have z1:=cell_below hbw4 G1.out)
     |(at_builtin;refine Lib.wpList_append_run _ rfl _ _ _ _ rfl _ _ rfl rfl _ _ run4 ?_)
     |(go_at_call 29;(with_reducible refine (HNU.out t.slots.length (by omega) _).mono ?_);rintro e w5 ⟨v5,rfl,ho5,hb5⟩;obtain ⟨v6,w6,run6,ho6,hb6⟩:=own_app (ownsRow_below ho4 hb5) (Nat.le_trans hbw4.size hb5.size) (isSl_own ho5) (by rw [List.length_append];omega) 26;have hbw6:=(hbw4.trans (hb5.mono hbw4.size)).trans hb6)
     |(at_builtin;refine Lib.wpList_append_run _ rfl _ _ _ _ rfl _ _ rfl rfl _ _ run6 ?_))
    obtain ⟨B1,hB1e⟩:∃ B,(bs++Rg.txtB t.nm)++Rg.nuB t.slots.length=B:=⟨_,rfl⟩
    have hlB1:B1.length≤4+3000000*q+1008:=by rw [←hB1e,List.length_append,List.length_append];omega
    rw [hB1e] at ho6
    have HB1:=Lib.hid hB1e
    obtain ⟨N1,hN1⟩:∃ N,t.slots.length=N:=⟨_,rfl⟩
    rw [hN1] at hn8
    have HN1:=Lib.hid hN1
    have hG1:=G1.out
    rw [hN1] at hG1
    have G1':=Lib.hid hG1
    obtain ⟨wk,hwk⟩:∃ x,x=wr:=⟨_,rfl⟩
    subst hwk
    clear y0 y1 y2 z1 hB1e hN1 hG1 how ho4 G1
    go_wp2_with fail
    go_loopw [3,5] (fun c i wr=>∃ (k:Nat) (ds:List Int),k≤N1∧i=.int .i64 (k:Int)∧wr.ownsRow w.heap.size 5 1 c ds.length (u8s ds)∧ds.length≤4+3000000*q+1008+22100*k∧Hid (ds=B1++(t.slots.take k).flatMap Rg.slotB)∧Below w.heap.size w wr) (fun _ i _=>N1-(intOf i).toNat)
    case atStart=>exact ⟨0,B1,Nat.zero_le _,rfl,ho6,by omega,Lib.hid (by simp),hbw6⟩
    case round=>
     obtain ⟨k,ds,hk,rfl,hod,hdl,HDS,hbk⟩:=hrel
     obtain ⟨wj,hwj⟩:∃ x,x=wr:=⟨_,rfl⟩
     subst hwj
     have y1:=cell_below hbk G1'.out
     rcases Nat.lt_or_ge k N1 with hkl | hkl
     ·have hd2:decide ((k:Int)<(N1:Int))=true:=by simp;omega
      have hnl:=HN1.out
      obtain ⟨s,hs⟩:∃ s,t.slots[k]? = some s:=⟨t.slots[k],List.getElem?_eq_getElem (by omega)⟩
      obtain ⟨tb,tq,rfl,trow⟩:∃ b9 off,sa=some ⟨b9,off,none⟩∧∀ i s,t.slots[i]? = some s→SlotAt w b9 (off+i*7) s:=by
       rcases HSL.out.2.2 with h | h
       ·rw [h] at hnl;simp at hnl;omega
       ·exact h
      obtain ⟨k0,nn,tx,la,ll,lc,⟨g0,g1,g2,g3,g4,g5,g6⟩,hI,hsn,hdf⟩:=slotAt_form (trow k s hs)
      have x0:=cell_below hbk g0
      have x1:=cell_below hbk g1
      have x2:=cell_below hbk g2
      have x3:=cell_below hbk g3
      have x4:=cell_below hbk g4
      have x5:=cell_below hbk g5
      have x6:=cell_below hbk g6
      have hso:=Rg.sound_sound' (HTO.out.so s (List.mem_of_getElem? hs))
      have hso2:=Rg.name_size (Rg.sound_name (HTO.out.so s (List.mem_of_getElem? hs)))
      have hC:=Lib.hid (refSlot13_any s hso wj _ (isSlot_below hbk ⟨_,_,_,_,_,_,_,rfl,hsn,hI,rfl,rfl,rfl,hdf⟩))
      have hsl9:=Rg.slotB_len s
      have HS:=Lib.hid hs
      clear hs trow g0 g1 g2 g3 g4 g5 g6 hI hsn hdf hso hnl
      go_wp2_with (first
       |(go_at_call 31;(with_reducible refine (hC.out).mono ?_);rintro e w7 ⟨v7,rfl,ho7,hb7⟩;obtain ⟨v8,w8,run8,ho8,hb8⟩:=own_app (ownsRow_below hod hb7) (Nat.le_trans hbk.size hb7.size) (isSl_own ho7) (by omega) 26;have hbk8:=(hbk.trans (hb7.mono hbk.size)).trans hb8)
       |(at_builtin;refine Lib.wpList_append_run _ rfl _ _ _ _ rfl _ _ rfl rfl _ _ run8 ?_))
      go_roundw
      case rel=>exact ⟨k+1,ds++Rg.slotB s,by omega,by go_num,ho8,by rw [List.length_append];omega,Lib.hid (by rw [HDS.out,List.take_add_one,HS.out];simp),hbk8⟩
      case measure=>simp [intOf];omega
     ·obtain rfl:k=N1:=by omega
      have hd2:decide ((k:Int)<(k:Int))=false:=by simp
      have HDS2:Hid (ds=B1++t.slots.flatMap Rg.slotB):=Lib.hid (by rw [HDS.out,List.take_of_length_le (by have:=HN1.out;omega)])
      have z2:=cell_below hbk G2.out
      clear HDS
      go_upto_region 14 with (first
       |(go_at_call 29;(with_reducible refine (HNU.out t.steps.length (by omega) _).mono ?_);rintro e w7 ⟨v7,rfl,ho7,hb7⟩;obtain ⟨v8,w8,run8,ho8,hb8⟩:=own_app (ownsRow_below hod hb7) (Nat.le_trans hbk.size hb7.size) (isSl_own ho7) (by omega) 26;have hbk8:=(hbk.trans (hb7.mono hbk.size)).trans hb8)
       |(at_builtin;refine Lib.wpList_append_run _ rfl _ _ _ _ rfl _ _ rfl rfl _ _ run8 ?_))
      obtain ⟨B2,hB2e⟩:∃ B,ds++Rg.nuB t.steps.length=B:=⟨_,rfl⟩
      have hlB2:B2.length≤4+3000000*q+1008+22100*8+4:=by rw [←hB2e,List.length_append];omega
      rw [hB2e] at ho8
      have HB2:=Lib.hid hB2e
      obtain ⟨N2,hN2⟩:∃ N,t.steps.length=N:=⟨_,rfl⟩
      rw [hN2] at hm8
      have HN2:=Lib.hid hN2
      have hG2:=G2.out
      rw [hN2] at hG2
      have G2':=Lib.hid hG2
      clear y1 z2 hB2e hN2 hG2 hod G2
      go_wp2_with fail
      go_loopw [3,6] (fun c i wr=>∃ (k:Nat) (ds:List Int),k≤N2∧i=.int .i64 (k:Int)∧wr.ownsRow w.heap.size 5 1 c ds.length (u8s ds)∧ds.length≤4+3000000*q+1008+22100*8+4+23100*k∧Hid (ds=B2++(t.steps.take k).flatMap Rg.stepB)∧Below w.heap.size w wr) (fun _ i _=>N2-(intOf i).toNat)
      case atStart=>exact ⟨0,B2,Nat.zero_le _,rfl,ho8,by omega,Lib.hid (by simp),hbk8⟩
      case round=>
       obtain ⟨j,es,hj,rfl,hoe,hel,HES,hbj⟩:=hrel
       obtain ⟨wi,hwi⟩:∃ x,x=wr:=⟨_,rfl⟩
       subst hwi
       have y2:=cell_below hbj G2'.out
       rcases Nat.lt_or_ge j N2 with hjl | hjl
       ·have hd3:decide ((j:Int)<(N2:Int))=true:=by simp;omega
        have hnl:=HN2.out
        obtain ⟨x,hx⟩:∃ x,t.steps[j]? = some x:=⟨t.steps[j],List.getElem?_eq_getElem (by omega)⟩
        obtain ⟨ub,uq,rfl,urow⟩:∃ b9 off,ta=some ⟨b9,off,none⟩∧∀ i s,t.steps[i]? = some s→StepAt w b9 (off+i*10) s:=by
         rcases HST.out.2.2 with h | h
         ·rw [h] at hnl;simp at hnl;omega
         ·exact h
        obtain ⟨pk,pn,pt,pa,pl,pc,poa,poc,⟨g0,g1,g2,g3,g4,g5,g6,g7,g8,g9⟩,hX⟩:=stepAt_form (urow j x hx)
        have x0:=cell_below hbj g0;have x1:=cell_below hbj g1;have x2:=cell_below hbj g2;have x3:=cell_below hbj g3;have x4:=cell_below hbj g4;have x5:=cell_below hbj g5;have x6:=cell_below hbj g6;have x7:=cell_below hbj g7;have x8:=cell_below hbj g8;have x9:=cell_below hbj g9
        have hst:=HTO.out.st x (List.mem_of_getElem? hx)
        have hnx:=Rg.stepOk_name hst
        have hlx:=Rg.stepB_len x
        have hox:=Rg.stepOk_od hst
        have hsbx:(Rg.stepB x).length≤21100:=by omega
        have HSX:=Lib.hid (fun W (hb:Below w.heap.size w W)=>isSlot_below hb (step_slot hX))
        have HRX:=Lib.hid (step_row9 hX)
        have HXX:=Lib.hid hx
        obtain ⟨kd,col,sl,od⟩:=x
        have HSTX:=Lib.hid hst
        have hkd:=hst.kd
        have hcol:=hst.col
        simp only at *
        have hwc:=wrap8 hcol.1 (by omega:col≤255)
        clear hx urow g0 g1 g2 g3 g4 g5 g6 g7 g8 g9 hX hst hnl hlx
        have hA1:=(Below.refl _ wi).alloc (Nat.le_refl _) (.cells #[.int .i64 kd,.int .i64 col,.string sl.nm,.int .i64 sl.ty,.bool sl.rq,.int .i64 pk,.int .i64 pn,.string pt,.slice pa pl pc,.slice poa od.length poc] 60)
        have hos1:OS w (wi.alloc (.cells #[.int .i64 kd,.int .i64 col,.string sl.nm,.int .i64 sl.ty,.bool sl.rq,.int .i64 pk,.int .i64 pn,.string pt,.slice pa pl pc,.slice poa od.length poc] 60)) wi.heap.size #[.int .i64 kd,.int .i64 col,.string sl.nm,.int .i64 sl.ty,.bool sl.rq,.int .i64 pk,.int .i64 pn,.string pt,.slice pa pl pc,.slice poa od.length poc] u3 es:=⟨ownsRow_below hoe hA1,ca_alloc _ _ _,hbj.trans (hA1.mono hbj.size)⟩
        obtain ⟨⟨a0,a1,a2,a3,a4,a5,a6,a7,a8,a9⟩,_⟩:=box10 hos1.2.1
        obtain ⟨v2,W2,run2,hos2⟩:=os_byte2 hos1 kd (by omega) (wi.heap.size+1) (size_alloc9 _ _)
        have hsB2:=hos2.2.2
        have key:∀ (v:Value) (W:World) (bs:List Int),OS w W wi.heap.size #[.int .i64 kd,.int .i64 col,.string sl.nm,.int .i64 sl.ty,.bool sl.rq,.int .i64 pk,.int .i64 pn,.string pt,.slice pa pl pc,.slice poa od.length poc] v bs→bs=es++Rg.stepB ⟨kd,col,sl,od⟩→W.ownsRow w.heap.size 5 1 v (es++Rg.stepB ⟨kd,col,sl,od⟩).length (u8s (es++Rg.stepB ⟨kd,col,sl,od⟩)):=fun v W bs h e=>by rw [←e];exact h.1
        have HKEY:=Lib.hid key
        have hsbl:(es++Rg.stepB ⟨kd,col,sl,od⟩).length≤4+3000000*q+1008+22100*8+4+23100*(j+1):=by rw [List.length_append];omega
        have hnext:Hid (es++Rg.stepB ⟨kd,col,sl,od⟩=B2++(t.steps.take (j+1)).flatMap Rg.stepB):=Lib.hid (by rw [HES.out,List.take_add_one,HXX.out];simp)
        clear key hA1 hsbx
        have hcase:kd=1∨kd=2∨kd=3∨kd=4∨kd=5:=by omega
        rcases hcase with rfl | rfl | rfl | rfl | rfl
        ·have hk8:=wrap8 (by omega:(0:Int)≤1) (by omega:(1:Int)≤255)
         obtain ⟨q1,q2,q3,q4⟩:=HSTX.out.k1 rfl
         have hsd:=Rg.sound_sound' q1
         have hC:=Lib.hid (refSlot13_any sl hsd W2 _ (HSX.out W2 hsB2))
         have hsl9:=Rg.slotB_len sl
         clear q1 hsd
         obtain ⟨⟨i0,i1,i2,i3,i4,i5,i6,i7,i8,i9⟩,_⟩:=box10 hos2.2.1
         go_wp2_with (first
          |(at_builtin;refine Lib.wpList_append_run _ rfl _ _ _ _ rfl _ _ rfl rfl _ _ run2 ?_)
          |(go_at_call 31;(with_reducible refine (hC.out).mono ?_);rintro e w5 ⟨v5,rfl,ho5,hb5⟩;obtain ⟨v6,w6,run6,hos6⟩:=os_app (os_below hos2 hb5) (isSl_own ho5) (by rw [List.length_append];simp;omega))
          |(at_builtin;refine Lib.wpList_append_run _ rfl _ _ _ _ rfl _ _ rfl rfl _ _ run6 ?_))
         go_roundw
         case rel=>exact ⟨j+1,es++Rg.stepB ⟨1,col,sl,od⟩,by omega,by go_num,HKEY.out _ _ _ hos6 (by rw [sB1];simp),hsbl,hnext,hos6.2.2⟩
         case measure=>simp [intOf];omega
        ·have hk8:=wrap8 (by omega:(0:Int)≤2) (by omega:(2:Int)≤255)
         obtain ⟨v3,W3,run3,hos3⟩:=os_byte hos2 col (by rw [List.length_append];simp;omega)
         obtain ⟨⟨i0,i1,i2,i3,i4,i5,i6,i7,i8,i9⟩,_⟩:=box10 hos2.2.1
         obtain ⟨⟨m0,m1,m2,m3,m4,m5,m6,m7,m8,m9⟩,_⟩:=box10 hos3.2.1
         go_wp2_with (first
          |(at_builtin;refine Lib.wpList_append_run _ rfl _ _ _ _ rfl _ _ rfl rfl _ _ run2 ?_)
          |(at_builtin;refine Lib.wpList_append_run _ rfl _ _ _ _ rfl _ _ rfl rfl _ _ run3 ?_))
         go_roundw
         case rel=>exact ⟨j+1,es++Rg.stepB ⟨2,col,sl,od⟩,by omega,by go_num,HKEY.out _ _ _ hos3 (by rw [sB2 hcol];simp),hsbl,hnext,hos3.2.2⟩
         case measure=>simp [intOf];omega
        ·have hk8:=wrap8 (by omega:(0:Int)≤3) (by omega:(3:Int)≤255)
         obtain ⟨v3,W3,run3,hos3⟩:=os_byte hos2 col (by rw [List.length_append];simp;omega)
         obtain ⟨⟨i0,i1,i2,i3,i4,i5,i6,i7,i8,i9⟩,_⟩:=box10 hos2.2.1
         obtain ⟨⟨m0,m1,m2,m3,m4,m5,m6,m7,m8,m9⟩,_⟩:=box10 hos3.2.1
         have hC:=Lib.hid (fun W=>txt06_any sl.nm W (by omega))
         have hlt9:=Rg.txtB_len sl.nm
         go_wp2_with (first
          |(at_builtin;refine Lib.wpList_append_run _ rfl _ _ _ _ rfl _ _ rfl rfl _ _ run2 ?_)
          |(at_builtin;refine Lib.wpList_append_run _ rfl _ _ _ _ rfl _ _ rfl rfl _ _ run3 ?_)
          |(go_at_call 30;(with_reducible refine (hC.out _).mono ?_);rintro e w5 ⟨v5,rfl,ho5,hb5⟩;obtain ⟨v6,w6,run6,hos6⟩:=os_app (os_below hos3 hb5) (isSl_own ho5) (by rw [List.length_append,List.length_append];simp;omega))
          |(at_builtin;refine Lib.wpList_append_run _ rfl _ _ _ _ rfl _ _ rfl rfl _ _ run6 ?_))
         go_roundw
         case rel=>exact ⟨j+1,es++Rg.stepB ⟨3,col,sl,od⟩,by omega,by go_num,HKEY.out _ _ _ hos6 (by rw [sB3 hcol];simp),hsbl,hnext,hos6.2.2⟩
         case measure=>simp [intOf];omega
        ·have hk8:=wrap8 (by omega:(0:Int)≤4) (by omega:(4:Int)≤255)
         obtain ⟨v3,W3,run3,hos3⟩:=os_byte hos2 col (by rw [List.length_append];simp;omega)
         obtain ⟨⟨i0,i1,i2,i3,i4,i5,i6,i7,i8,i9⟩,_⟩:=box10 hos2.2.1
         obtain ⟨⟨m0,m1,m2,m3,m4,m5,m6,m7,m8,m9⟩,_⟩:=box10 hos3.2.1
         obtain ⟨⟨q1,q2⟩,q3,q4⟩:=HSTX.out.k4 rfl
         simp only at q1 q2
         have hwt:=wrap8 (by omega:0≤sl.ty) (by omega:sl.ty≤255)
         obtain ⟨v4,W4,run4,hos4⟩:=os_byte hos3 sl.ty (by rw [List.length_append,List.length_append];simp;omega)
         clear q3 q4
         go_wp2_with (first
          |(at_builtin;refine Lib.wpList_append_run _ rfl _ _ _ _ rfl _ _ rfl rfl _ _ run2 ?_)
          |(at_builtin;refine Lib.wpList_append_run _ rfl _ _ _ _ rfl _ _ rfl rfl _ _ run3 ?_)
          |(at_builtin;refine Lib.wpList_append_run _ rfl _ _ _ _ rfl _ _ rfl rfl _ _ run4 ?_))
         go_roundw
         case rel=>exact ⟨j+1,es++Rg.stepB ⟨4,col,sl,od⟩,by omega,by go_num,HKEY.out _ _ _ hos4 (by rw [sB4 hcol ⟨q1,q2⟩];simp),hsbl,hnext,hos4.2.2⟩
         case measure=>simp [intOf];omega
        ·have hk8:=wrap8 (by omega:(0:Int)≤5) (by omega:(5:Int)≤255)
         obtain ⟨q1,q2,q3,q4⟩:=HSTX.out.k5 rfl
         simp only at q1 q2 q3 q4
         obtain ⟨L,hL⟩:∃ L,od.length=L:=⟨_,rfl⟩
         have hrx:=HRX.out
         have HL:=Lib.hid hL
         have HQ:=Lib.hid q4
         have hlno:(Rg.nuB od.length).length≤4:=Rg.spn_len _ _ _
         obtain ⟨⟨i0,i1,i2,i3,i4,i5,i6,i7,i8,i9⟩,_⟩:=box10 hos2.2.1
         clear q1 q2 q4 hL
         go_wp2_with (first
          |(at_builtin;refine Lib.wpList_append_run _ rfl _ _ _ _ rfl _ _ rfl rfl _ _ run2 ?_)
          |(go_at_call 29;(with_reducible refine (HNU.out od.length (by omega) _).mono ?_);rintro e w5 ⟨v5,rfl,ho5,hb5⟩;obtain ⟨v6,w6,run6,hos6⟩:=os_app (os_below hos2 hb5) (isSl_own ho5) (by rw [List.length_append];simp;omega))
          |(at_builtin;refine Lib.wpList_append_run _ rfl _ _ _ _ rfl _ _ rfl rfl _ _ run6 ?_))
         go_loopw [3,8] (fun c i wr=>∃ (k:Nat) (bs:List Int),k≤od.length∧i=.int .i64 (k:Int)∧OS w wr wi.heap.size #[.int .i64 5,.int .i64 col,.string sl.nm,.int .i64 sl.ty,.bool sl.rq,.int .i64 pk,.int .i64 pn,.string pt,.slice pa pl pc,.slice poa od.length poc] c bs∧bs.length≤es.length+5+k∧Hid (bs=((es ++ [5])++Rg.nuB od.length)++od.take k)) (fun _ i _=>od.length-(intOf i).toNat)
         case atStart=>exact ⟨0,_,Nat.zero_le _,rfl,hos6,by rw [List.length_append,List.length_append];simp;omega,Lib.hid (by simp)⟩
         case round=>
          obtain ⟨k9,bs9,hk9,rfl,hoz,hzl,HZ⟩:=hrel
          obtain ⟨wh,hwh⟩:∃ x,x=wr:=⟨_,rfl⟩
          subst hwh
          obtain ⟨⟨j0,j1,j2,j3,j4,j5,j6,j7,j8,j9⟩,_⟩:=box10 hoz.2.1
          rcases Nat.lt_or_ge k9 od.length with hkl9 | hkl9
          ·have hd9:decide ((k9:Int)<(od.length:Int))=true:=by simp;omega
           obtain ⟨ob,oq,rfl,orow⟩:∃ b off,poa=some ⟨b,off,none⟩∧∀ i,i<od.length→w.cell? ⟨b,off+i,none⟩=some (.int .i64 (od[i]?.getD 0)):=by
            rcases hrx.2.2.2 with h | h
            ·rw [h] at hkl9;exact absurd hkl9 (Nat.not_lt_zero _)
            ·exact h
           obtain ⟨y,hy⟩:∃ y,od[k9]? = some y:=⟨od[k9],List.getElem?_eq_getElem hkl9⟩
           have e9:wh.cell? ⟨ob,oq+k9,none⟩=some (.int .i64 y):=by
            have h:=cell_below hoz.2.2 (orow k9 hkl9)
            rw [hy] at h
            exact h
           have hq9:=HQ.out y (List.mem_of_getElem? hy)
           have hwy:=wrap8 hq9.1 (by omega:y≤255)
           obtain ⟨v8,W8,run8,hos8⟩:=os_byte hoz y (by omega)
           have HY:=Lib.hid hy
           clear hy orow hrx
           go_wp2_with (at_builtin;refine Lib.wpList_append_run _ rfl _ _ _ _ rfl _ _ rfl rfl _ _ run8 ?_)
           go_roundw
           case rel=>exact ⟨k9+1,bs9 ++ [y],by omega,by go_num,hos8,by rw [List.length_append];simp;omega,Lib.hid (by rw [HZ.out,List.take_add_one,HY.out];simp)⟩
           case measure=>simp [intOf];omega
          ·have ek:k9=od.length:=by omega
           have hd9:decide ((k9:Int)<(od.length:Int))=false:=by simp;omega
           have hfin:bs9=es++Rg.stepB ⟨5,col,sl,od⟩:=by rw [HZ.out,sB5 col sl HQ.out,List.take_of_length_le (by omega)];simp
           have hend9:=Lib.hid hfin
           clear hfin ek
           go_wp2_with fail
           go_roundw
           case rel=>exact ⟨j+1,es++Rg.stepB ⟨5,col,sl,od⟩,by omega,by go_num,HKEY.out _ _ _ hoz hend9.out,hsbl,hnext,hoz.2.2⟩
           case measure=>simp [intOf];omega
       ·obtain rfl:j=N2:=by omega
        have hd3:decide ((j:Int)<(j:Int))=false:=by simp
        have hbt:Hid (es=NB++(l.take (q+1)).flatMap Rg.templB):=Lib.hid (by
         rw [HES.out,List.take_of_length_le (by have:=HN2.out;omega),←HB2.out,HDS2.out,←HB1.out,HBS.out,List.take_add_one,HTT.out]
         simp [Rg.templB])
        clear HES
        go_wp2_with fail
        go_roundw
        case rel=>exact ⟨q+1,es,by omega,by go_num,hoe,by omega,hbt,hbj⟩
        case measure=>simp [intOf];omega
   ·obtain rfl:q=n:=by omega
    have hd:decide ((q:Int)<(q:Int))=false:=by simp
    have hend:bs=NB++l.flatMap Rg.templB:=by rw [HBS.out,List.take_of_length_le (by have:=HN.out;omega)]
    have HE:=Lib.hid hend
    clear hend
    go_wp2
    go_ret
    rw [←HE.out]
    exact ⟨_,rfl,how,hbw⟩
