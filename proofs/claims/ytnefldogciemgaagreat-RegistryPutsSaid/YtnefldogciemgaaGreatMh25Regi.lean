/- Registries: how many things a list has, and the bytes of each (putList). (Made by gen_rgp.py.) -/
import Derived.Test.YtnefldogciemgaaGreatMh13Regi
set_option linter.unusedVariables false
set_option linter.unusedSimpArgs false
set_option maxRecDepth 100000
namespace Go.Proofs.YtnefldogciemgaaGreat
open Go.RowKit Go.Shelf
set_option maxHeartbeats 4000000 in
theorem putLI_any (a:Option Addr) (cap:Nat) (l:List Int) (f:Int→List Int) (gf:Nat) (w:World) (hr:Row w .i64 a l.length cap l∧∀ x∈l,I64 x) (hsm:l.length≤1000) (hbd:(l.flatMap f).length≤900000000)
  (eg:∀ args w,(callFunc gf args).run Tryz.prog w=.ok (.enter gf args) w)
  (hG:∀ (i:Nat) (y:Int) (W:World),l[i]? = some y→Below w.heap.size w W→Calls Tryz.prog gf #[.int .i64 y] W (Got W (f y))) :
  Calls Tryz.prog 92 #[.slice a l.length cap,.func (.func gf) #[] #[]] w (Got w (Rg.nuB l.length++l.flatMap f)):=by
 obtain ⟨i0,hi,hz0,hz1,hz2⟩:=info_parts info_sl
 have hN:=fun w=>num_any (l.length:Int) w
 have hrl:=Rg.spn_len (l.length:Int) 2147483647 4
 have hnu:spn (l.length:Int) 2147483647 4=Rg.nuB l.length:=rfl
 rw [hnu] at hN hrl
 generalize Rg.nuB l.length=r at *
 obtain ⟨n,hn⟩:∃ n,l.length=n:=⟨_,rfl⟩
 have HR:=Lib.hid hr;have HN:=Lib.hid hn;have HG:=Lib.hid hG;have HBD:=Lib.hid hbd;have HRL:=Lib.hid hrl;have HNU:=Lib.hid hN
 rw [hn] at hsm HNU ⊢
 clear hr hn hG hbd hrl hN hnu
 go_enter Tryz.func92,Tryz.ntmps92
 go_wp2_with (go_at_call 57;(with_reducible refine ((HNU.out) _).mono ?_);rintro e w2 ⟨v2,rfl,ho2,hb2⟩;obtain ⟨a2,m2,c2,rfl,_⟩:=isSl_own ho2;have hA:=(Below.refl _ w2).alloc (Nat.le_refl _) (.cells #[.slice a2 m2 c2] 26);have hbA:=hb2.trans (hA.mono hb2.size))
 have hbuilt:=ownsRow_mono (owns_built w2 [.slice a2 m2 c2] 26 1 rfl (by unfold maxLen;omega)) hb2.size
 have hps:∀ p∈[(Value.slice a2 m2 c2,r)],(w2.alloc (.cells #[.slice a2 m2 c2] 26)).ownsRow 0 5 1 p.1 p.2.length (u8s p.2):=by
  intro p hp
  simp only [List.mem_cons,List.not_mem_nil,or_false] at hp
  subst hp
  exact ownsRow_mono (ownsRow_below ho2 hA) (Nat.zero_le _)
 go_loopw [5,14] (fun c i wr=>∃ (q:Nat) (ps:List (Value × List Int)),q≤n∧i=.int .i64 (q:Int)∧ps.length=1+q∧wr.ownsRow w.heap.size 26 1 c (1+q) (ps.map Prod.fst)∧(∀ p∈ps,wr.ownsRow 0 5 1 p.1 p.2.length (u8s p.2)) ∧
  Hid (ps.flatMap (·.2)=r++(l.take q).flatMap f)∧Below w.heap.size w wr) (fun _ i _=>n-(intOf i).toNat)
 case atStart=>exact ⟨0,[(Value.slice a2 m2 c2,r)],Nat.zero_le _,rfl,rfl,hbuilt,hps,Lib.hid (by simp),hbA⟩
 case round=>
  obtain ⟨q,ps,hq,rfl,hpl,hown,hall,HC,hB⟩:=hrel
  rcases Nat.lt_or_ge q n with hlt | hge
  ·have hd:decide ((q:Int)<(n:Int))=true:=by simp;omega
   have hnl:=HN.out
   obtain ⟨y,hy⟩:∃ y,l[q]? = some y:=⟨l[q],List.getElem?_eq_getElem (by omega)⟩
   obtain ⟨sb,so,rfl,c1⟩:=row_nth HR.out.1 q (by omega)
   have e0:l[q]?.getD 0=y:=by rw [hy];rfl
   rw [e0] at c1
   have y0:=cell_below hB c1
   have HX:=Lib.hid (HG.out q y _ hy hB)
   have hA0:=Below.refl wr.heap.size wr
   clear c1 e0 hnl
   have HY:=Lib.hid hy
   have HALL:=Lib.hid hall
   have HPL:=Lib.hid hpl
   clear hy hall hpl hps hbuilt ho2
   go_wp2_with (first
    |(go_at_fn gf;(with_reducible refine (HX.out).mono ?_);rintro e w3 ⟨v3,rfl,ho3,hb3⟩;obtain ⟨a3,m3,c3,rfl,_⟩:=isSl_own ho3;have hA3:=(hA0.trans (hb3.mono hA0.size)).alloc (by have:=hA0.size;have:=hb3.size;omega) (.cells #[.slice a3 m3 c3] 26);have hown3:=ownsRow_below hown hA3)
    |(at_builtin;refine wpList_append_cells _ rfl _ _ 82 rfl w.heap.size 26 i0 (.slice none 0 0) 1 24 Tryz.underlying82 hi hz0 hz1 hz2 rfl (by decide) u5 (1+q) (ps.map Prod.fst) rfl hown3 (some ⟨w3.heap.size,0,none⟩) 1 1 [.slice a3 m3 c3] rfl ⟨rfl,.inr ⟨_,rfl,cells_new w3 [.slice a3 m3 c3] 26⟩⟩ (by simp [Value.oneCell']) (by unfold maxLen;omega) (by omega) (Nat.le_trans hB.size hA3.size) ?_;intro v4 w4 hown4 hg4))
   go_roundw
   all_goals (first
    |(case' rel=>
      refine ⟨q+1,ps ++ [(.slice a3 m3 c3,f y)],by omega,by go_num,by rw [List.length_append,HPL.out];rfl,ownsRow_nth hown4 rfl (by simp),fun p hp=>?_,Lib.hid (by rw [List.flatMap_append,HC.out,List.take_add_one,HY.out];simp), ?_⟩
      ·rcases List.mem_append.1 hp with hp | hp
       ·exact owns_other hg4 hown3 (ownsRow_below (HALL.out p hp) hA3) (by decide)
       ·simp only [List.mem_cons,List.not_mem_nil,or_false] at hp
        subst hp
        exact owns_other hg4 hown3 (ownsRow_mono (ownsRow_below ho3 ((Below.refl _ w3).alloc (Nat.le_refl _) (.cells #[.slice a3 m3 c3] 26))) (Nat.zero_le _)) (by decide)
      ·exact (hB.trans (hA3.mono hB.size)).trans (below_grown hg4 hown3 (Nat.le_trans hB.size hA3.size)))
    |(case' measure=>simp [intOf];omega))
  ·obtain rfl:q=n:=by omega
   have hd:decide ((q:Int)<(q:Int))=false:=by simp
   obtain ⟨g,gc,rfl,hgc,hgm,hgcells⟩:=own_cells1 hown (by omega)
   have hCat:=HC.out
   rw [List.take_of_length_le (by have:=HN.out;omega)] at hCat
   have hAll:=all_at wr g (1+q) gc ps (fun i p hp=>hgcells i p.1 (by simp [hp])) (fun p hp=>isSl_own (hall p hp)) hpl hgc hgm (by rw [hCat,List.length_append];have:=HBD.out;have:=HRL.out;omega)
   rw [hCat] at hAll
   clear hall hpl hCat HC hgcells hps hbuilt ho2
   go_wp2_with (go_at_call 58;(with_reducible refine hAll.mono ?_);rintro e w3 ⟨v3,rfl,ho3,hb3⟩)
   all_goals go_ret
   all_goals exact got_under hB ⟨_,rfl,ho3,hb3⟩
set_option maxHeartbeats 4000000 in
theorem putLSlot_any (a:Option Addr) (cap:Nat) (l:List SlotM) (f:SlotM→List Int) (gf:Nat) (w:World) (hr:SlotRow w a cap l) (hsm:l.length≤1000) (hbd:(l.flatMap f).length≤900000000)
  (eg:∀ args w,(callFunc gf args).run Tryz.prog w=.ok (.enter gf args) w)
  (hG:∀ (i:Nat) (y:SlotM) (W:World) (X:Value),l[i]? = some y→Below w.heap.size w W→IsSlot W y X→Calls Tryz.prog gf #[X] W (Got W (f y))) :
  Calls Tryz.prog 60 #[.slice a l.length cap,.func (.func gf) #[] #[]] w (Got w (Rg.nuB l.length++l.flatMap f)):=by
 obtain ⟨i0,hi,hz0,hz1,hz2⟩:=info_parts info_sl
 have hN:=fun w=>num_any (l.length:Int) w
 have hrl:=Rg.spn_len (l.length:Int) 2147483647 4
 have hnu:spn (l.length:Int) 2147483647 4=Rg.nuB l.length:=rfl
 rw [hnu] at hN hrl
 generalize Rg.nuB l.length=r at *
 obtain ⟨n,hn⟩:∃ n,l.length=n:=⟨_,rfl⟩
 have HR:=Lib.hid hr;have HN:=Lib.hid hn;have HG:=Lib.hid hG;have HBD:=Lib.hid hbd;have HRL:=Lib.hid hrl;have HNU:=Lib.hid hN
 rw [hn] at hsm HNU ⊢
 clear hr hn hG hbd hrl hN hnu
 go_enter Tryz.func60,Tryz.ntmps60
 go_wp2_with (go_at_call 57;(with_reducible refine ((HNU.out) _).mono ?_);rintro e w2 ⟨v2,rfl,ho2,hb2⟩;obtain ⟨a2,m2,c2,rfl,_⟩:=isSl_own ho2;have hA:=(Below.refl _ w2).alloc (Nat.le_refl _) (.cells #[.slice a2 m2 c2] 26);have hbA:=hb2.trans (hA.mono hb2.size))
 have hbuilt:=ownsRow_mono (owns_built w2 [.slice a2 m2 c2] 26 1 rfl (by unfold maxLen;omega)) hb2.size
 have hps:∀ p∈[(Value.slice a2 m2 c2,r)],(w2.alloc (.cells #[.slice a2 m2 c2] 26)).ownsRow 0 5 1 p.1 p.2.length (u8s p.2):=by
  intro p hp
  simp only [List.mem_cons,List.not_mem_nil,or_false] at hp
  subst hp
  exact ownsRow_mono (ownsRow_below ho2 hA) (Nat.zero_le _)
 go_loopw [5,14] (fun c i wr=>∃ (q:Nat) (ps:List (Value × List Int)),q≤n∧i=.int .i64 (q:Int)∧ps.length=1+q∧wr.ownsRow w.heap.size 26 1 c (1+q) (ps.map Prod.fst)∧(∀ p∈ps,wr.ownsRow 0 5 1 p.1 p.2.length (u8s p.2)) ∧
  Hid (ps.flatMap (·.2)=r++(l.take q).flatMap f)∧Below w.heap.size w wr) (fun _ i _=>n-(intOf i).toNat)
 case atStart=>exact ⟨0,[(Value.slice a2 m2 c2,r)],Nat.zero_le _,rfl,rfl,hbuilt,hps,Lib.hid (by simp),hbA⟩
 case round=>
  obtain ⟨q,ps,hq,rfl,hpl,hown,hall,HC,hB⟩:=hrel
  rcases Nat.lt_or_ge q n with hlt | hge
  ·have hd:decide ((q:Int)<(n:Int))=true:=by simp;omega
   have hnl:=HN.out
   obtain ⟨y,hy⟩:∃ y,l[q]? = some y:=⟨l[q],List.getElem?_eq_getElem (by omega)⟩
   obtain ⟨sb,so,rfl,hrow⟩:∃ b off,a=some ⟨b,off,none⟩∧∀ i s,l[i]? = some s→SlotAt w b (off+i*7) s:=by
    rcases HR.out.2.2 with h | h
    ·subst h;simp at hnl;omega
    ·exact h
   obtain ⟨k0,nn,tx,la,ll,lc,⟨g0,g1,g2,g3,g4,g5,g6⟩,hI,hsn,hdf⟩:=slotAt_form (hrow q y hy)
   have y0:=cell_below hB g0
   have y1:=cell_below hB g1
   have y2:=cell_below hB g2
   have y3:=cell_below hB g3
   have y4:=cell_below hB g4
   have y5:=cell_below hB g5
   have y6:=cell_below hB g6
   have hA0:=(Below.refl _ wr).alloc (Nat.le_refl _) (.cells #[.string y.nm,.int .i64 y.ty,.bool y.rq,.int .i64 k0,.int .i64 nn,.string tx,.slice la ll lc] 57)
   have hBA:=hB.trans (hA0.mono hB.size)
   have HX:=Lib.hid (HG.out q y _ _ hy hBA (isSlot_below hBA ⟨_,_,_,_,_,_,_,rfl,hsn,hI,rfl,rfl,rfl,hdf⟩))
   clear hnl hrow g0 g1 g2 g3 g4 g5 g6 hI hsn hdf
   have HY:=Lib.hid hy
   have HALL:=Lib.hid hall
   have HPL:=Lib.hid hpl
   clear hy hall hpl hps hbuilt ho2
   go_wp2_with (first
    |(go_at_fn gf;(with_reducible refine (HX.out).mono ?_);rintro e w3 ⟨v3,rfl,ho3,hb3⟩;obtain ⟨a3,m3,c3,rfl,_⟩:=isSl_own ho3;have hA3:=(hA0.trans (hb3.mono hA0.size)).alloc (by have:=hA0.size;have:=hb3.size;omega) (.cells #[.slice a3 m3 c3] 26);have hown3:=ownsRow_below hown hA3)
    |(at_builtin;refine wpList_append_cells _ rfl _ _ 82 rfl w.heap.size 26 i0 (.slice none 0 0) 1 24 Tryz.underlying82 hi hz0 hz1 hz2 rfl (by decide) u5 (1+q) (ps.map Prod.fst) rfl hown3 (some ⟨w3.heap.size,0,none⟩) 1 1 [.slice a3 m3 c3] rfl ⟨rfl,.inr ⟨_,rfl,cells_new w3 [.slice a3 m3 c3] 26⟩⟩ (by simp [Value.oneCell']) (by unfold maxLen;omega) (by omega) (Nat.le_trans hB.size hA3.size) ?_;intro v4 w4 hown4 hg4))
   go_roundw
   all_goals (first
    |(case' rel=>
      refine ⟨q+1,ps ++ [(.slice a3 m3 c3,f y)],by omega,by go_num,by rw [List.length_append,HPL.out];rfl,ownsRow_nth hown4 rfl (by simp),fun p hp=>?_,Lib.hid (by rw [List.flatMap_append,HC.out,List.take_add_one,HY.out];simp), ?_⟩
      ·rcases List.mem_append.1 hp with hp | hp
       ·exact owns_other hg4 hown3 (ownsRow_below (HALL.out p hp) hA3) (by decide)
       ·simp only [List.mem_cons,List.not_mem_nil,or_false] at hp
        subst hp
        exact owns_other hg4 hown3 (ownsRow_mono (ownsRow_below ho3 ((Below.refl _ w3).alloc (Nat.le_refl _) (.cells #[.slice a3 m3 c3] 26))) (Nat.zero_le _)) (by decide)
      ·exact (hB.trans (hA3.mono hB.size)).trans (below_grown hg4 hown3 (Nat.le_trans hB.size hA3.size)))
    |(case' measure=>simp [intOf];omega))
  ·obtain rfl:q=n:=by omega
   have hd:decide ((q:Int)<(q:Int))=false:=by simp
   obtain ⟨g,gc,rfl,hgc,hgm,hgcells⟩:=own_cells1 hown (by omega)
   have hCat:=HC.out
   rw [List.take_of_length_le (by have:=HN.out;omega)] at hCat
   have hAll:=all_at wr g (1+q) gc ps (fun i p hp=>hgcells i p.1 (by simp [hp])) (fun p hp=>isSl_own (hall p hp)) hpl hgc hgm (by rw [hCat,List.length_append];have:=HBD.out;have:=HRL.out;omega)
   rw [hCat] at hAll
   clear hall hpl hCat HC hgcells hps hbuilt ho2
   go_wp2_with (go_at_call 58;(with_reducible refine hAll.mono ?_);rintro e w3 ⟨v3,rfl,ho3,hb3⟩)
   all_goals go_ret
   all_goals exact got_under hB ⟨_,rfl,ho3,hb3⟩
set_option maxHeartbeats 4000000 in
theorem putLStep_any (a:Option Addr) (cap:Nat) (l:List StepM) (f:StepM→List Int) (gf:Nat) (w:World) (hr:StepRow w a cap l) (hsm:l.length≤1000) (hbd:(l.flatMap f).length≤900000000)
  (eg:∀ args w,(callFunc gf args).run Tryz.prog w=.ok (.enter gf args) w)
  (hG:∀ (i:Nat) (y:StepM) (W:World) (X:Value),l[i]? = some y→Below w.heap.size w W→IsStep W y X→Calls Tryz.prog gf #[X] W (Got W (f y))) :
  Calls Tryz.prog 62 #[.slice a l.length cap,.func (.func gf) #[] #[]] w (Got w (Rg.nuB l.length++l.flatMap f)):=by
 obtain ⟨i0,hi,hz0,hz1,hz2⟩:=info_parts info_sl
 have hN:=fun w=>num_any (l.length:Int) w
 have hrl:=Rg.spn_len (l.length:Int) 2147483647 4
 have hnu:spn (l.length:Int) 2147483647 4=Rg.nuB l.length:=rfl
 rw [hnu] at hN hrl
 generalize Rg.nuB l.length=r at *
 obtain ⟨n,hn⟩:∃ n,l.length=n:=⟨_,rfl⟩
 have HR:=Lib.hid hr;have HN:=Lib.hid hn;have HG:=Lib.hid hG;have HBD:=Lib.hid hbd;have HRL:=Lib.hid hrl;have HNU:=Lib.hid hN
 rw [hn] at hsm HNU ⊢
 clear hr hn hG hbd hrl hN hnu
 go_enter Tryz.func62,Tryz.ntmps62
 go_wp2_with (go_at_call 57;(with_reducible refine ((HNU.out) _).mono ?_);rintro e w2 ⟨v2,rfl,ho2,hb2⟩;obtain ⟨a2,m2,c2,rfl,_⟩:=isSl_own ho2;have hA:=(Below.refl _ w2).alloc (Nat.le_refl _) (.cells #[.slice a2 m2 c2] 26);have hbA:=hb2.trans (hA.mono hb2.size))
 have hbuilt:=ownsRow_mono (owns_built w2 [.slice a2 m2 c2] 26 1 rfl (by unfold maxLen;omega)) hb2.size
 have hps:∀ p∈[(Value.slice a2 m2 c2,r)],(w2.alloc (.cells #[.slice a2 m2 c2] 26)).ownsRow 0 5 1 p.1 p.2.length (u8s p.2):=by
  intro p hp
  simp only [List.mem_cons,List.not_mem_nil,or_false] at hp
  subst hp
  exact ownsRow_mono (ownsRow_below ho2 hA) (Nat.zero_le _)
 go_loopw [5,14] (fun c i wr=>∃ (q:Nat) (ps:List (Value × List Int)),q≤n∧i=.int .i64 (q:Int)∧ps.length=1+q∧wr.ownsRow w.heap.size 26 1 c (1+q) (ps.map Prod.fst)∧(∀ p∈ps,wr.ownsRow 0 5 1 p.1 p.2.length (u8s p.2)) ∧
  Hid (ps.flatMap (·.2)=r++(l.take q).flatMap f)∧Below w.heap.size w wr) (fun _ i _=>n-(intOf i).toNat)
 case atStart=>exact ⟨0,[(Value.slice a2 m2 c2,r)],Nat.zero_le _,rfl,rfl,hbuilt,hps,Lib.hid (by simp),hbA⟩
 case round=>
  obtain ⟨q,ps,hq,rfl,hpl,hown,hall,HC,hB⟩:=hrel
  rcases Nat.lt_or_ge q n with hlt | hge
  ·have hd:decide ((q:Int)<(n:Int))=true:=by simp;omega
   have hnl:=HN.out
   obtain ⟨y,hy⟩:∃ y,l[q]? = some y:=⟨l[q],List.getElem?_eq_getElem (by omega)⟩
   obtain ⟨sb,so,rfl,hrow⟩:∃ b off,a=some ⟨b,off,none⟩∧∀ i s,l[i]? = some s→StepAt w b (off+i*10) s:=by
    rcases HR.out.2.2 with h | h
    ·subst h;simp at hnl;omega
    ·exact h
   obtain ⟨k0,nn,tx,la,ll,lc,oa,oc,⟨g0,g1,g2,g3,g4,g5,g6,g7,g8,g9⟩,hst⟩:=stepAt_form (hrow q y hy)
   have y0:=cell_below hB g0
   have y1:=cell_below hB g1
   have y2:=cell_below hB g2
   have y3:=cell_below hB g3
   have y4:=cell_below hB g4
   have y5:=cell_below hB g5
   have y6:=cell_below hB g6
   have y7:=cell_below hB g7
   have y8:=cell_below hB g8
   have y9:=cell_below hB g9
   have hA0:=(Below.refl _ wr).alloc (Nat.le_refl _) (.cells #[.int .i64 y.kd,.int .i64 y.col,.string y.sl.nm,.int .i64 y.sl.ty,.bool y.sl.rq,.int .i64 k0,.int .i64 nn,.string tx,.slice la ll lc,.slice oa y.od.length oc] 60)
   have hBA:=hB.trans (hA0.mono hB.size)
   have HX:=Lib.hid (HG.out q y _ _ hy hBA (isStep_below hBA hst))
   clear hnl hrow g0 g1 g2 g3 g4 g5 g6 g7 g8 g9 hst
   have HY:=Lib.hid hy
   have HALL:=Lib.hid hall
   have HPL:=Lib.hid hpl
   clear hy hall hpl hps hbuilt ho2
   go_wp2_with (first
    |(go_at_fn gf;(with_reducible refine (HX.out).mono ?_);rintro e w3 ⟨v3,rfl,ho3,hb3⟩;obtain ⟨a3,m3,c3,rfl,_⟩:=isSl_own ho3;have hA3:=(hA0.trans (hb3.mono hA0.size)).alloc (by have:=hA0.size;have:=hb3.size;omega) (.cells #[.slice a3 m3 c3] 26);have hown3:=ownsRow_below hown hA3)
    |(at_builtin;refine wpList_append_cells _ rfl _ _ 82 rfl w.heap.size 26 i0 (.slice none 0 0) 1 24 Tryz.underlying82 hi hz0 hz1 hz2 rfl (by decide) u5 (1+q) (ps.map Prod.fst) rfl hown3 (some ⟨w3.heap.size,0,none⟩) 1 1 [.slice a3 m3 c3] rfl ⟨rfl,.inr ⟨_,rfl,cells_new w3 [.slice a3 m3 c3] 26⟩⟩ (by simp [Value.oneCell']) (by unfold maxLen;omega) (by omega) (Nat.le_trans hB.size hA3.size) ?_;intro v4 w4 hown4 hg4))
   go_roundw
   all_goals (first
    |(case' rel=>
      refine ⟨q+1,ps ++ [(.slice a3 m3 c3,f y)],by omega,by go_num,by rw [List.length_append,HPL.out];rfl,ownsRow_nth hown4 rfl (by simp),fun p hp=>?_,Lib.hid (by rw [List.flatMap_append,HC.out,List.take_add_one,HY.out];simp), ?_⟩
      ·rcases List.mem_append.1 hp with hp | hp
       ·exact owns_other hg4 hown3 (ownsRow_below (HALL.out p hp) hA3) (by decide)
       ·simp only [List.mem_cons,List.not_mem_nil,or_false] at hp
        subst hp
        exact owns_other hg4 hown3 (ownsRow_mono (ownsRow_below ho3 ((Below.refl _ w3).alloc (Nat.le_refl _) (.cells #[.slice a3 m3 c3] 26))) (Nat.zero_le _)) (by decide)
      ·exact (hB.trans (hA3.mono hB.size)).trans (below_grown hg4 hown3 (Nat.le_trans hB.size hA3.size)))
    |(case' measure=>simp [intOf];omega))
  ·obtain rfl:q=n:=by omega
   have hd:decide ((q:Int)<(q:Int))=false:=by simp
   obtain ⟨g,gc,rfl,hgc,hgm,hgcells⟩:=own_cells1 hown (by omega)
   have hCat:=HC.out
   rw [List.take_of_length_le (by have:=HN.out;omega)] at hCat
   have hAll:=all_at wr g (1+q) gc ps (fun i p hp=>hgcells i p.1 (by simp [hp])) (fun p hp=>isSl_own (hall p hp)) hpl hgc hgm (by rw [hCat,List.length_append];have:=HBD.out;have:=HRL.out;omega)
   rw [hCat] at hAll
   clear hall hpl hCat HC hgcells hps hbuilt ho2
   go_wp2_with (go_at_call 58;(with_reducible refine hAll.mono ?_);rintro e w3 ⟨v3,rfl,ho3,hb3⟩)
   all_goals go_ret
   all_goals exact got_under hB ⟨_,rfl,ho3,hb3⟩
set_option maxHeartbeats 4000000 in
theorem putLTempl_any (a:Option Addr) (cap:Nat) (l:List TemplM) (f:TemplM→List Int) (gf:Nat) (w:World) (hr:TemplRow w a cap l) (hsm:l.length≤1000) (hbd:(l.flatMap f).length≤900000000)
  (eg:∀ args w,(callFunc gf args).run Tryz.prog w=.ok (.enter gf args) w)
  (hG:∀ (i:Nat) (y:TemplM) (W:World) (X:Value),l[i]? = some y→Below w.heap.size w W→IsTempl W y X→Calls Tryz.prog gf #[X] W (Got W (f y))) :
  Calls Tryz.prog 27 #[.slice a l.length cap,.func (.func gf) #[] #[]] w (Got w (Rg.nuB l.length++l.flatMap f)):=by
 obtain ⟨i0,hi,hz0,hz1,hz2⟩:=info_parts info_sl
 have hN:=fun w=>num_any (l.length:Int) w
 have hrl:=Rg.spn_len (l.length:Int) 2147483647 4
 have hnu:spn (l.length:Int) 2147483647 4=Rg.nuB l.length:=rfl
 rw [hnu] at hN hrl
 generalize Rg.nuB l.length=r at *
 obtain ⟨n,hn⟩:∃ n,l.length=n:=⟨_,rfl⟩
 have HR:=Lib.hid hr;have HN:=Lib.hid hn;have HG:=Lib.hid hG;have HBD:=Lib.hid hbd;have HRL:=Lib.hid hrl;have HNU:=Lib.hid hN
 rw [hn] at hsm HNU ⊢
 clear hr hn hG hbd hrl hN hnu
 go_enter Tryz.func27,Tryz.ntmps27
 go_wp2_with (go_at_call 57;(with_reducible refine ((HNU.out) _).mono ?_);rintro e w2 ⟨v2,rfl,ho2,hb2⟩;obtain ⟨a2,m2,c2,rfl,_⟩:=isSl_own ho2;have hA:=(Below.refl _ w2).alloc (Nat.le_refl _) (.cells #[.slice a2 m2 c2] 26);have hbA:=hb2.trans (hA.mono hb2.size))
 have hbuilt:=ownsRow_mono (owns_built w2 [.slice a2 m2 c2] 26 1 rfl (by unfold maxLen;omega)) hb2.size
 have hps:∀ p∈[(Value.slice a2 m2 c2,r)],(w2.alloc (.cells #[.slice a2 m2 c2] 26)).ownsRow 0 5 1 p.1 p.2.length (u8s p.2):=by
  intro p hp
  simp only [List.mem_cons,List.not_mem_nil,or_false] at hp
  subst hp
  exact ownsRow_mono (ownsRow_below ho2 hA) (Nat.zero_le _)
 go_loopw [5,14] (fun c i wr=>∃ (q:Nat) (ps:List (Value × List Int)),q≤n∧i=.int .i64 (q:Int)∧ps.length=1+q∧wr.ownsRow w.heap.size 26 1 c (1+q) (ps.map Prod.fst)∧(∀ p∈ps,wr.ownsRow 0 5 1 p.1 p.2.length (u8s p.2)) ∧
  Hid (ps.flatMap (·.2)=r++(l.take q).flatMap f)∧Below w.heap.size w wr) (fun _ i _=>n-(intOf i).toNat)
 case atStart=>exact ⟨0,[(Value.slice a2 m2 c2,r)],Nat.zero_le _,rfl,rfl,hbuilt,hps,Lib.hid (by simp),hbA⟩
 case round=>
  obtain ⟨q,ps,hq,rfl,hpl,hown,hall,HC,hB⟩:=hrel
  rcases Nat.lt_or_ge q n with hlt | hge
  ·have hd:decide ((q:Int)<(n:Int))=true:=by simp;omega
   have hnl:=HN.out
   obtain ⟨y,hy⟩:∃ y,l[q]? = some y:=⟨l[q],List.getElem?_eq_getElem (by omega)⟩
   obtain ⟨sb,so,rfl,hrow⟩:∃ b off,a=some ⟨b,off,none⟩∧∀ i s,l[i]? = some s→TemplAt w b (off+i*3) s:=by
    rcases HR.out.2.2 with h | h
    ·subst h;simp at hnl;omega
    ·exact h
   obtain ⟨la,lc,oa,oc,⟨g0,g1,g2⟩,hsn,hst⟩:=templAt_form (hrow q y hy)
   have y0:=cell_below hB g0
   have y1:=cell_below hB g1
   have y2:=cell_below hB g2
   have hA0:=(Below.refl _ wr).alloc (Nat.le_refl _) (.cells #[.string y.nm,.slice la y.slots.length lc,.slice oa y.steps.length oc] 45)
   have hBA:=hB.trans (hA0.mono hB.size)
   have HX:=Lib.hid (HG.out q y _ _ hy hBA (isTempl_below hBA hst))
   clear hnl hrow g0 g1 g2 hst hsn
   have HY:=Lib.hid hy
   have HALL:=Lib.hid hall
   have HPL:=Lib.hid hpl
   clear hy hall hpl hps hbuilt ho2
   go_wp2_with (first
    |(go_at_fn gf;(with_reducible refine (HX.out).mono ?_);rintro e w3 ⟨v3,rfl,ho3,hb3⟩;obtain ⟨a3,m3,c3,rfl,_⟩:=isSl_own ho3;have hA3:=(hA0.trans (hb3.mono hA0.size)).alloc (by have:=hA0.size;have:=hb3.size;omega) (.cells #[.slice a3 m3 c3] 26);have hown3:=ownsRow_below hown hA3)
    |(at_builtin;refine wpList_append_cells _ rfl _ _ 82 rfl w.heap.size 26 i0 (.slice none 0 0) 1 24 Tryz.underlying82 hi hz0 hz1 hz2 rfl (by decide) u5 (1+q) (ps.map Prod.fst) rfl hown3 (some ⟨w3.heap.size,0,none⟩) 1 1 [.slice a3 m3 c3] rfl ⟨rfl,.inr ⟨_,rfl,cells_new w3 [.slice a3 m3 c3] 26⟩⟩ (by simp [Value.oneCell']) (by unfold maxLen;omega) (by omega) (Nat.le_trans hB.size hA3.size) ?_;intro v4 w4 hown4 hg4))
   go_roundw
   all_goals (first
    |(case' rel=>
      refine ⟨q+1,ps ++ [(.slice a3 m3 c3,f y)],by omega,by go_num,by rw [List.length_append,HPL.out];rfl,ownsRow_nth hown4 rfl (by simp),fun p hp=>?_,Lib.hid (by rw [List.flatMap_append,HC.out,List.take_add_one,HY.out];simp), ?_⟩
      ·rcases List.mem_append.1 hp with hp | hp
       ·exact owns_other hg4 hown3 (ownsRow_below (HALL.out p hp) hA3) (by decide)
       ·simp only [List.mem_cons,List.not_mem_nil,or_false] at hp
        subst hp
        exact owns_other hg4 hown3 (ownsRow_mono (ownsRow_below ho3 ((Below.refl _ w3).alloc (Nat.le_refl _) (.cells #[.slice a3 m3 c3] 26))) (Nat.zero_le _)) (by decide)
      ·exact (hB.trans (hA3.mono hB.size)).trans (below_grown hg4 hown3 (Nat.le_trans hB.size hA3.size)))
    |(case' measure=>simp [intOf];omega))
  ·obtain rfl:q=n:=by omega
   have hd:decide ((q:Int)<(q:Int))=false:=by simp
   obtain ⟨g,gc,rfl,hgc,hgm,hgcells⟩:=own_cells1 hown (by omega)
   have hCat:=HC.out
   rw [List.take_of_length_le (by have:=HN.out;omega)] at hCat
   have hAll:=all_at wr g (1+q) gc ps (fun i p hp=>hgcells i p.1 (by simp [hp])) (fun p hp=>isSl_own (hall p hp)) hpl hgc hgm (by rw [hCat,List.length_append];have:=HBD.out;have:=HRL.out;omega)
   rw [hCat] at hAll
   clear hall hpl hCat HC hgcells hps hbuilt ho2
   go_wp2_with (go_at_call 58;(with_reducible refine hAll.mono ?_);rintro e w3 ⟨v3,rfl,ho3,hb3⟩)
   all_goals go_ret
   all_goals exact got_under hB ⟨_,rfl,ho3,hb3⟩
