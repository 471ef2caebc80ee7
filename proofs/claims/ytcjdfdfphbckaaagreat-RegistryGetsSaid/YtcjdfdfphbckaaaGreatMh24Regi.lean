/- Registries: how many things a list has, and the bytes of each (putList). (Made by gen_rgp.py.) -/
import Derived.Test.YtcjdfdfphbckaaaGreatMh12Regi
set_option linter.unusedVariables false
set_option linter.unusedSimpArgs false
set_option maxRecDepth 100000
set_option maxHeartbeats 64000000
open Go.Proofs.Tryz
namespace Go.Proofs.YtcjdfdfphbckaaaGreat
open Go.RowKit Go.Shelf
theorem ZMw (a:Option Addr) (cap:Nat) (l:List Int) (f:Int→List Int) (gf:Nat) (w:World) (hr:Row w .i64 a l.length cap l∧∀ x∈l,I64 x) (hsm:l.length≤1000) (hbd:(l.flatMap f).length≤900000000)
  (eg:∀ args w,(callFunc gf args).run Tryz.prog w=.ok (.enter gf args) w)
  (hG:∀ (i:Nat) (y:Int) (W:World),l[i]? = some y→Below w.heap.size w W→Calls Tryz.prog gf #[.int .i64 y] W (Got W (f y))) :
  Calls Tryz.prog 83 #[.slice a l.length cap,.func (.func gf) #[] #[]] w (Got w (Rg.nuB l.length++l.flatMap f)):=by
 obtain ⟨i0,hi,hz0,hz1,hz2⟩:=info_parts ZF5
 have hN:=fun w=>ZEz (l.length:Int) w
 have hrl:=Rg.spn_len (l.length:Int) 2147483647 4
 have hnu:spn (l.length:Int) 2147483647 4=Rg.nuB l.length:=rfl
 rw [hnu] at hN hrl
 generalize Rg.nuB l.length=r at *
 obtain ⟨n,hn⟩:∃ n,l.length=n:=⟨_,rfl⟩
 have HR:=ZZY hr;have HN:=ZZY hn;have HG:=ZZY hG;have HBD:=ZZY hbd;have HRL:=ZZY hrl;have HNU:=ZZY hN
 rw [hn] at hsm HNU ⊢
 clear hr hn hG hbd hrl hN hnu
 go_enter func83,ntmps83
 go_wp2_with (go_at_call 50;(with_reducible refine ((HNU.out) _).mono ?_);rintro e w2 ⟨v2,rfl,ho2,hb2⟩;obtain ⟨a2,m2,c2,rfl,_⟩:=ZAW ho2;have hA:=(Below.refl _ w2).alloc (Nat.le_refl _) (.cells #[.slice a2 m2 c2] 22);have hbA:=hb2.trans (hA.mono hb2.size))
 have hbuilt:=ZAH (ZBy w2 [.slice a2 m2 c2] 22 1 rfl (by unfold maxLen;omega)) hb2.size
 have hps:∀ p∈[(Value.slice a2 m2 c2,r)],(w2.alloc (.cells #[.slice a2 m2 c2] 22)).ownsRow 0 5 1 p.1 p.2.length (u8s p.2):=by
  intro p hp
  simp only [List.mem_cons,List.not_mem_nil,or_false] at hp
  subst hp
  exact ZAH (ZAL ho2 hA) (Nat.zero_le _)
 go_loopw [5,14] (fun c i wr=>∃ (q:Nat) (ps:List (Value × List Int)),q≤n∧i=.int .i64 (q:Int)∧ps.length=1+q∧wr.ownsRow w.heap.size 22 1 c (1+q) (ps.map Prod.fst)∧(∀ p∈ps,wr.ownsRow 0 5 1 p.1 p.2.length (u8s p.2)) ∧
  Hid (ps.flatMap (·.2)=r++(l.take q).flatMap f)∧Below w.heap.size w wr) (fun _ i _=>n-(intOf i).toNat)
 case atStart=>exact ⟨0,[(Value.slice a2 m2 c2,r)],Nat.zero_le _,rfl,rfl,hbuilt,hps,ZZY (by simp),hbA⟩
 case round=>
  obtain ⟨q,ps,hq,rfl,hpl,hown,hall,HC,hB⟩:=hrel
  rcases Nat.lt_or_ge q n with hlt | hge
  ·have hd:decide ((q:Int)<(n:Int))=true:=by simp;omega
   have hnl:=HN.out
   obtain ⟨y,hy⟩:∃ y,l[q]? = some y:=⟨l[q],List.getElem?_eq_getElem (by omega)⟩
   obtain ⟨sb,so,rfl,c1⟩:=ZEu HR.out.1 q (by omega)
   have e0:l[q]?.getD 0=y:=by rw [hy];rfl
   rw [e0] at c1
   have y0:=ZAA hB c1
   have HX:=ZZY (HG.out q y _ hy hB)
   have hA0:=Below.refl wr.heap.size wr
   clear c1 e0 hnl
   have HY:=ZZY hy
   have HALL:=ZZY hall
   have HPL:=ZZY hpl
   clear hy hall hpl hps hbuilt ho2
   go_wp2_with (first
    |(go_at_fn gf;(with_reducible refine (HX.out).mono ?_);rintro e w3 ⟨v3,rfl,ho3,hb3⟩;obtain ⟨a3,m3,c3,rfl,_⟩:=ZAW ho3;have hA3:=(hA0.trans (hb3.mono hA0.size)).alloc (by have:=hA0.size;have:=hb3.size;omega) (.cells #[.slice a3 m3 c3] 22);have hown3:=ZAL hown hA3)
    |(at_builtin;refine ZAr _ rfl _ _ 83 rfl w.heap.size 22 i0 (.slice none 0 0) 1 24 Tryz.underlying83 hi hz0 hz1 hz2 rfl (by decide) u5 (1+q) (ps.map Prod.fst) rfl hown3 (some ⟨w3.heap.size,0,none⟩) 1 1 [.slice a3 m3 c3] rfl ⟨rfl,.inr ⟨_,rfl,ZBC w3 [.slice a3 m3 c3] 22⟩⟩ (by simp [Value.oneCell']) (by unfold maxLen;omega) (by omega) (Nat.le_trans hB.size hA3.size) ?_;intro v4 w4 hown4 hg4))
   go_roundw
   all_goals (first
    |(case' rel=>
      refine ⟨q+1,ps ++ [(.slice a3 m3 c3,f y)],by omega,by go_num,by rw [List.length_append,HPL.out];rfl,ZBQ hown4 rfl (by simp),fun p hp=>?_,ZZY (by rw [List.flatMap_append,HC.out,List.take_add_one,HY.out];simp), ?_⟩
      ·rcases List.mem_append.1 hp with hp | hp
       ·exact ZBz hg4 hown3 (ZAL (HALL.out p hp) hA3) (by decide)
       ·simp only [List.mem_cons,List.not_mem_nil,or_false] at hp
        subst hp
        exact ZBz hg4 hown3 (ZAH (ZAL ho3 ((Below.refl _ w3).alloc (Nat.le_refl _) (.cells #[.slice a3 m3 c3] 22))) (Nat.zero_le _)) (by decide)
      ·exact (hB.trans (hA3.mono hB.size)).trans (ZBX hg4 hown3 (Nat.le_trans hB.size hA3.size)))
    |(case' measure=>simp [intOf];omega))
  ·obtain rfl:q=n:=by omega
   have hd:decide ((q:Int)<(q:Int))=false:=by simp
   obtain ⟨g,gc,rfl,hgc,hgm,hgcells⟩:=ZDQ hown (by omega)
   have hCat:=HC.out
   rw [List.take_of_length_le (by have:=HN.out;omega)] at hCat
   have hAll:=ZGo wr g (1+q) gc ps (fun i p hp=>hgcells i p.1 (by simp [hp])) (fun p hp=>ZAW (hall p hp)) hpl hgc hgm (by rw [hCat,List.length_append];have:=HBD.out;have:=HRL.out;omega)
   rw [hCat] at hAll
   clear hall hpl hCat HC hgcells hps hbuilt ho2
   go_wp2_with (go_at_call 51;(with_reducible refine hAll.mono ?_);rintro e w3 ⟨v3,rfl,ho3,hb3⟩)
   all_goals go_ret
   all_goals exact ZBM hB ⟨_,rfl,ho3,hb3⟩
theorem ZID (a:Option Addr) (cap:Nat) (l:List SlotM) (f:SlotM→List Int) (gf:Nat) (w:World) (hr:ZBV w a cap l) (hsm:l.length≤1000) (hbd:(l.flatMap f).length≤900000000)
  (eg:∀ args w,(callFunc gf args).run Tryz.prog w=.ok (.enter gf args) w)
  (hG:∀ (i:Nat) (y:SlotM) (W:World) (X:Value),l[i]? = some y→Below w.heap.size w W→ZBe W y X→Calls Tryz.prog gf #[X] W (Got W (f y))) :
  Calls Tryz.prog 53 #[.slice a l.length cap,.func (.func gf) #[] #[]] w (Got w (Rg.nuB l.length++l.flatMap f)):=by
 obtain ⟨i0,hi,hz0,hz1,hz2⟩:=info_parts ZF5
 have hN:=fun w=>ZEz (l.length:Int) w
 have hrl:=Rg.spn_len (l.length:Int) 2147483647 4
 have hnu:spn (l.length:Int) 2147483647 4=Rg.nuB l.length:=rfl
 rw [hnu] at hN hrl
 generalize Rg.nuB l.length=r at *
 obtain ⟨n,hn⟩:∃ n,l.length=n:=⟨_,rfl⟩
 have HR:=ZZY hr;have HN:=ZZY hn;have HG:=ZZY hG;have HBD:=ZZY hbd;have HRL:=ZZY hrl;have HNU:=ZZY hN
 rw [hn] at hsm HNU ⊢
 clear hr hn hG hbd hrl hN hnu
 go_enter func53,ntmps53
 go_wp2_with (go_at_call 50;(with_reducible refine ((HNU.out) _).mono ?_);rintro e w2 ⟨v2,rfl,ho2,hb2⟩;obtain ⟨a2,m2,c2,rfl,_⟩:=ZAW ho2;have hA:=(Below.refl _ w2).alloc (Nat.le_refl _) (.cells #[.slice a2 m2 c2] 22);have hbA:=hb2.trans (hA.mono hb2.size))
 have hbuilt:=ZAH (ZBy w2 [.slice a2 m2 c2] 22 1 rfl (by unfold maxLen;omega)) hb2.size
 have hps:∀ p∈[(Value.slice a2 m2 c2,r)],(w2.alloc (.cells #[.slice a2 m2 c2] 22)).ownsRow 0 5 1 p.1 p.2.length (u8s p.2):=by
  intro p hp
  simp only [List.mem_cons,List.not_mem_nil,or_false] at hp
  subst hp
  exact ZAH (ZAL ho2 hA) (Nat.zero_le _)
 go_loopw [5,14] (fun c i wr=>∃ (q:Nat) (ps:List (Value × List Int)),q≤n∧i=.int .i64 (q:Int)∧ps.length=1+q∧wr.ownsRow w.heap.size 22 1 c (1+q) (ps.map Prod.fst)∧(∀ p∈ps,wr.ownsRow 0 5 1 p.1 p.2.length (u8s p.2)) ∧
  Hid (ps.flatMap (·.2)=r++(l.take q).flatMap f)∧Below w.heap.size w wr) (fun _ i _=>n-(intOf i).toNat)
 case atStart=>exact ⟨0,[(Value.slice a2 m2 c2,r)],Nat.zero_le _,rfl,rfl,hbuilt,hps,ZZY (by simp),hbA⟩
 case round=>
  obtain ⟨q,ps,hq,rfl,hpl,hown,hall,HC,hB⟩:=hrel
  rcases Nat.lt_or_ge q n with hlt | hge
  ·have hd:decide ((q:Int)<(n:Int))=true:=by simp;omega
   have hnl:=HN.out
   obtain ⟨y,hy⟩:∃ y,l[q]? = some y:=⟨l[q],List.getElem?_eq_getElem (by omega)⟩
   obtain ⟨sb,so,rfl,hrow⟩:∃ b off,a=some ⟨b,off,none⟩∧∀ i s,l[i]? = some s→ZCS w b (off+i*7) s:=by
    rcases HR.out.2.2 with h | h
    ·subst h;simp at hnl;omega
    ·exact h
   obtain ⟨k0,nn,tx,la,ll,lc,⟨g0,g1,g2,g3,g4,g5,g6⟩,hI,hsn,hdf⟩:=ZBR (hrow q y hy)
   have y0:=ZAA hB g0
   have y1:=ZAA hB g1
   have y2:=ZAA hB g2
   have y3:=ZAA hB g3
   have y4:=ZAA hB g4
   have y5:=ZAA hB g5
   have y6:=ZAA hB g6
   have hA0:=(Below.refl _ wr).alloc (Nat.le_refl _) (.cells #[.string y.nm,.int .i64 y.ty,.bool y.rq,.int .i64 k0,.int .i64 nn,.string tx,.slice la ll lc] 51)
   have hBA:=hB.trans (hA0.mono hB.size)
   have HX:=ZZY (HG.out q y _ _ hy hBA (ZAn hBA ⟨_,_,_,_,_,_,_,rfl,hsn,hI,rfl,rfl,rfl,hdf⟩))
   clear hnl hrow g0 g1 g2 g3 g4 g5 g6 hI hsn hdf
   have HY:=ZZY hy
   have HALL:=ZZY hall
   have HPL:=ZZY hpl
   clear hy hall hpl hps hbuilt ho2
   go_wp2_with (first
    |(go_at_fn gf;(with_reducible refine (HX.out).mono ?_);rintro e w3 ⟨v3,rfl,ho3,hb3⟩;obtain ⟨a3,m3,c3,rfl,_⟩:=ZAW ho3;have hA3:=(hA0.trans (hb3.mono hA0.size)).alloc (by have:=hA0.size;have:=hb3.size;omega) (.cells #[.slice a3 m3 c3] 22);have hown3:=ZAL hown hA3)
    |(at_builtin;refine ZAr _ rfl _ _ 83 rfl w.heap.size 22 i0 (.slice none 0 0) 1 24 Tryz.underlying83 hi hz0 hz1 hz2 rfl (by decide) u5 (1+q) (ps.map Prod.fst) rfl hown3 (some ⟨w3.heap.size,0,none⟩) 1 1 [.slice a3 m3 c3] rfl ⟨rfl,.inr ⟨_,rfl,ZBC w3 [.slice a3 m3 c3] 22⟩⟩ (by simp [Value.oneCell']) (by unfold maxLen;omega) (by omega) (Nat.le_trans hB.size hA3.size) ?_;intro v4 w4 hown4 hg4))
   go_roundw
   all_goals (first
    |(case' rel=>
      refine ⟨q+1,ps ++ [(.slice a3 m3 c3,f y)],by omega,by go_num,by rw [List.length_append,HPL.out];rfl,ZBQ hown4 rfl (by simp),fun p hp=>?_,ZZY (by rw [List.flatMap_append,HC.out,List.take_add_one,HY.out];simp), ?_⟩
      ·rcases List.mem_append.1 hp with hp | hp
       ·exact ZBz hg4 hown3 (ZAL (HALL.out p hp) hA3) (by decide)
       ·simp only [List.mem_cons,List.not_mem_nil,or_false] at hp
        subst hp
        exact ZBz hg4 hown3 (ZAH (ZAL ho3 ((Below.refl _ w3).alloc (Nat.le_refl _) (.cells #[.slice a3 m3 c3] 22))) (Nat.zero_le _)) (by decide)
      ·exact (hB.trans (hA3.mono hB.size)).trans (ZBX hg4 hown3 (Nat.le_trans hB.size hA3.size)))
    |(case' measure=>simp [intOf];omega))
  ·obtain rfl:q=n:=by omega
   have hd:decide ((q:Int)<(q:Int))=false:=by simp
   obtain ⟨g,gc,rfl,hgc,hgm,hgcells⟩:=ZDQ hown (by omega)
   have hCat:=HC.out
   rw [List.take_of_length_le (by have:=HN.out;omega)] at hCat
   have hAll:=ZGo wr g (1+q) gc ps (fun i p hp=>hgcells i p.1 (by simp [hp])) (fun p hp=>ZAW (hall p hp)) hpl hgc hgm (by rw [hCat,List.length_append];have:=HBD.out;have:=HRL.out;omega)
   rw [hCat] at hAll
   clear hall hpl hCat HC hgcells hps hbuilt ho2
   go_wp2_with (go_at_call 51;(with_reducible refine hAll.mono ?_);rintro e w3 ⟨v3,rfl,ho3,hb3⟩)
   all_goals go_ret
   all_goals exact ZBM hB ⟨_,rfl,ho3,hb3⟩
theorem ZIE (a:Option Addr) (cap:Nat) (l:List StepM) (f:StepM→List Int) (gf:Nat) (w:World) (hr:ZCI w a cap l) (hsm:l.length≤1000) (hbd:(l.flatMap f).length≤900000000)
  (eg:∀ args w,(callFunc gf args).run Tryz.prog w=.ok (.enter gf args) w)
  (hG:∀ (i:Nat) (y:StepM) (W:World) (X:Value),l[i]? = some y→Below w.heap.size w W→ZA3 W y X→Calls Tryz.prog gf #[X] W (Got W (f y))) :
  Calls Tryz.prog 55 #[.slice a l.length cap,.func (.func gf) #[] #[]] w (Got w (Rg.nuB l.length++l.flatMap f)):=by
 obtain ⟨i0,hi,hz0,hz1,hz2⟩:=info_parts ZF5
 have hN:=fun w=>ZEz (l.length:Int) w
 have hrl:=Rg.spn_len (l.length:Int) 2147483647 4
 have hnu:spn (l.length:Int) 2147483647 4=Rg.nuB l.length:=rfl
 rw [hnu] at hN hrl
 generalize Rg.nuB l.length=r at *
 obtain ⟨n,hn⟩:∃ n,l.length=n:=⟨_,rfl⟩
 have HR:=ZZY hr;have HN:=ZZY hn;have HG:=ZZY hG;have HBD:=ZZY hbd;have HRL:=ZZY hrl;have HNU:=ZZY hN
 rw [hn] at hsm HNU ⊢
 clear hr hn hG hbd hrl hN hnu
 go_enter func55,ntmps55
 go_wp2_with (go_at_call 50;(with_reducible refine ((HNU.out) _).mono ?_);rintro e w2 ⟨v2,rfl,ho2,hb2⟩;obtain ⟨a2,m2,c2,rfl,_⟩:=ZAW ho2;have hA:=(Below.refl _ w2).alloc (Nat.le_refl _) (.cells #[.slice a2 m2 c2] 22);have hbA:=hb2.trans (hA.mono hb2.size))
 have hbuilt:=ZAH (ZBy w2 [.slice a2 m2 c2] 22 1 rfl (by unfold maxLen;omega)) hb2.size
 have hps:∀ p∈[(Value.slice a2 m2 c2,r)],(w2.alloc (.cells #[.slice a2 m2 c2] 22)).ownsRow 0 5 1 p.1 p.2.length (u8s p.2):=by
  intro p hp
  simp only [List.mem_cons,List.not_mem_nil,or_false] at hp
  subst hp
  exact ZAH (ZAL ho2 hA) (Nat.zero_le _)
 go_loopw [5,14] (fun c i wr=>∃ (q:Nat) (ps:List (Value × List Int)),q≤n∧i=.int .i64 (q:Int)∧ps.length=1+q∧wr.ownsRow w.heap.size 22 1 c (1+q) (ps.map Prod.fst)∧(∀ p∈ps,wr.ownsRow 0 5 1 p.1 p.2.length (u8s p.2)) ∧
  Hid (ps.flatMap (·.2)=r++(l.take q).flatMap f)∧Below w.heap.size w wr) (fun _ i _=>n-(intOf i).toNat)
 case atStart=>exact ⟨0,[(Value.slice a2 m2 c2,r)],Nat.zero_le _,rfl,rfl,hbuilt,hps,ZZY (by simp),hbA⟩
 case round=>
  obtain ⟨q,ps,hq,rfl,hpl,hown,hall,HC,hB⟩:=hrel
  rcases Nat.lt_or_ge q n with hlt | hge
  ·have hd:decide ((q:Int)<(n:Int))=true:=by simp;omega
   have hnl:=HN.out
   obtain ⟨y,hy⟩:∃ y,l[q]? = some y:=⟨l[q],List.getElem?_eq_getElem (by omega)⟩
   obtain ⟨sb,so,rfl,hrow⟩:∃ b off,a=some ⟨b,off,none⟩∧∀ i s,l[i]? = some s→ZDc w b (off+i*10) s:=by
    rcases HR.out.2.2 with h | h
    ·subst h;simp at hnl;omega
    ·exact h
   obtain ⟨k0,nn,tx,la,ll,lc,oa,oc,⟨g0,g1,g2,g3,g4,g5,g6,g7,g8,g9⟩,hst⟩:=ZCU (hrow q y hy)
   have y0:=ZAA hB g0
   have y1:=ZAA hB g1
   have y2:=ZAA hB g2
   have y3:=ZAA hB g3
   have y4:=ZAA hB g4
   have y5:=ZAA hB g5
   have y6:=ZAA hB g6
   have y7:=ZAA hB g7
   have y8:=ZAA hB g8
   have y9:=ZAA hB g9
   have hA0:=(Below.refl _ wr).alloc (Nat.le_refl _) (.cells #[.int .i64 y.kd,.int .i64 y.col,.string y.sl.nm,.int .i64 y.sl.ty,.bool y.sl.rq,.int .i64 k0,.int .i64 nn,.string tx,.slice la ll lc,.slice oa y.od.length oc] 54)
   have hBA:=hB.trans (hA0.mono hB.size)
   have HX:=ZZY (HG.out q y _ _ hy hBA (ZBB hBA hst))
   clear hnl hrow g0 g1 g2 g3 g4 g5 g6 g7 g8 g9 hst
   have HY:=ZZY hy
   have HALL:=ZZY hall
   have HPL:=ZZY hpl
   clear hy hall hpl hps hbuilt ho2
   go_wp2_with (first
    |(go_at_fn gf;(with_reducible refine (HX.out).mono ?_);rintro e w3 ⟨v3,rfl,ho3,hb3⟩;obtain ⟨a3,m3,c3,rfl,_⟩:=ZAW ho3;have hA3:=(hA0.trans (hb3.mono hA0.size)).alloc (by have:=hA0.size;have:=hb3.size;omega) (.cells #[.slice a3 m3 c3] 22);have hown3:=ZAL hown hA3)
    |(at_builtin;refine ZAr _ rfl _ _ 83 rfl w.heap.size 22 i0 (.slice none 0 0) 1 24 Tryz.underlying83 hi hz0 hz1 hz2 rfl (by decide) u5 (1+q) (ps.map Prod.fst) rfl hown3 (some ⟨w3.heap.size,0,none⟩) 1 1 [.slice a3 m3 c3] rfl ⟨rfl,.inr ⟨_,rfl,ZBC w3 [.slice a3 m3 c3] 22⟩⟩ (by simp [Value.oneCell']) (by unfold maxLen;omega) (by omega) (Nat.le_trans hB.size hA3.size) ?_;intro v4 w4 hown4 hg4))
   go_roundw
   all_goals (first
    |(case' rel=>
      refine ⟨q+1,ps ++ [(.slice a3 m3 c3,f y)],by omega,by go_num,by rw [List.length_append,HPL.out];rfl,ZBQ hown4 rfl (by simp),fun p hp=>?_,ZZY (by rw [List.flatMap_append,HC.out,List.take_add_one,HY.out];simp), ?_⟩
      ·rcases List.mem_append.1 hp with hp | hp
       ·exact ZBz hg4 hown3 (ZAL (HALL.out p hp) hA3) (by decide)
       ·simp only [List.mem_cons,List.not_mem_nil,or_false] at hp
        subst hp
        exact ZBz hg4 hown3 (ZAH (ZAL ho3 ((Below.refl _ w3).alloc (Nat.le_refl _) (.cells #[.slice a3 m3 c3] 22))) (Nat.zero_le _)) (by decide)
      ·exact (hB.trans (hA3.mono hB.size)).trans (ZBX hg4 hown3 (Nat.le_trans hB.size hA3.size)))
    |(case' measure=>simp [intOf];omega))
  ·obtain rfl:q=n:=by omega
   have hd:decide ((q:Int)<(q:Int))=false:=by simp
   obtain ⟨g,gc,rfl,hgc,hgm,hgcells⟩:=ZDQ hown (by omega)
   have hCat:=HC.out
   rw [List.take_of_length_le (by have:=HN.out;omega)] at hCat
   have hAll:=ZGo wr g (1+q) gc ps (fun i p hp=>hgcells i p.1 (by simp [hp])) (fun p hp=>ZAW (hall p hp)) hpl hgc hgm (by rw [hCat,List.length_append];have:=HBD.out;have:=HRL.out;omega)
   rw [hCat] at hAll
   clear hall hpl hCat HC hgcells hps hbuilt ho2
   go_wp2_with (go_at_call 51;(with_reducible refine hAll.mono ?_);rintro e w3 ⟨v3,rfl,ho3,hb3⟩)
   all_goals go_ret
   all_goals exact ZBM hB ⟨_,rfl,ho3,hb3⟩
theorem ZHF (a:Option Addr) (cap:Nat) (l:List TemplM) (f:TemplM→List Int) (gf:Nat) (w:World) (hr:ZAw w a cap l) (hsm:l.length≤1000) (hbd:(l.flatMap f).length≤900000000)
  (eg:∀ args w,(callFunc gf args).run Tryz.prog w=.ok (.enter gf args) w)
  (hG:∀ (i:Nat) (y:TemplM) (W:World) (X:Value),l[i]? = some y→Below w.heap.size w W→ZA8 W y X→Calls Tryz.prog gf #[X] W (Got W (f y))) :
  Calls Tryz.prog 33 #[.slice a l.length cap,.func (.func gf) #[] #[]] w (Got w (Rg.nuB l.length++l.flatMap f)):=by
 obtain ⟨i0,hi,hz0,hz1,hz2⟩:=info_parts ZF5
 have hN:=fun w=>ZEz (l.length:Int) w
 have hrl:=Rg.spn_len (l.length:Int) 2147483647 4
 have hnu:spn (l.length:Int) 2147483647 4=Rg.nuB l.length:=rfl
 rw [hnu] at hN hrl
 generalize Rg.nuB l.length=r at *
 obtain ⟨n,hn⟩:∃ n,l.length=n:=⟨_,rfl⟩
 have HR:=ZZY hr;have HN:=ZZY hn;have HG:=ZZY hG;have HBD:=ZZY hbd;have HRL:=ZZY hrl;have HNU:=ZZY hN
 rw [hn] at hsm HNU ⊢
 clear hr hn hG hbd hrl hN hnu
 go_enter func33,ntmps33
 go_wp2_with (go_at_call 50;(with_reducible refine ((HNU.out) _).mono ?_);rintro e w2 ⟨v2,rfl,ho2,hb2⟩;obtain ⟨a2,m2,c2,rfl,_⟩:=ZAW ho2;have hA:=(Below.refl _ w2).alloc (Nat.le_refl _) (.cells #[.slice a2 m2 c2] 22);have hbA:=hb2.trans (hA.mono hb2.size))
 have hbuilt:=ZAH (ZBy w2 [.slice a2 m2 c2] 22 1 rfl (by unfold maxLen;omega)) hb2.size
 have hps:∀ p∈[(Value.slice a2 m2 c2,r)],(w2.alloc (.cells #[.slice a2 m2 c2] 22)).ownsRow 0 5 1 p.1 p.2.length (u8s p.2):=by
  intro p hp
  simp only [List.mem_cons,List.not_mem_nil,or_false] at hp
  subst hp
  exact ZAH (ZAL ho2 hA) (Nat.zero_le _)
 go_loopw [5,14] (fun c i wr=>∃ (q:Nat) (ps:List (Value × List Int)),q≤n∧i=.int .i64 (q:Int)∧ps.length=1+q∧wr.ownsRow w.heap.size 22 1 c (1+q) (ps.map Prod.fst)∧(∀ p∈ps,wr.ownsRow 0 5 1 p.1 p.2.length (u8s p.2)) ∧
  Hid (ps.flatMap (·.2)=r++(l.take q).flatMap f)∧Below w.heap.size w wr) (fun _ i _=>n-(intOf i).toNat)
 case atStart=>exact ⟨0,[(Value.slice a2 m2 c2,r)],Nat.zero_le _,rfl,rfl,hbuilt,hps,ZZY (by simp),hbA⟩
 case round=>
  obtain ⟨q,ps,hq,rfl,hpl,hown,hall,HC,hB⟩:=hrel
  rcases Nat.lt_or_ge q n with hlt | hge
  ·have hd:decide ((q:Int)<(n:Int))=true:=by simp;omega
   have hnl:=HN.out
   obtain ⟨y,hy⟩:∃ y,l[q]? = some y:=⟨l[q],List.getElem?_eq_getElem (by omega)⟩
   obtain ⟨sb,so,rfl,hrow⟩:∃ b off,a=some ⟨b,off,none⟩∧∀ i s,l[i]? = some s→ZCe w b (off+i*3) s:=by
    rcases HR.out.2.2 with h | h
    ·subst h;simp at hnl;omega
    ·exact h
   obtain ⟨la,lc,oa,oc,⟨g0,g1,g2⟩,hsn,hst⟩:=ZB4 (hrow q y hy)
   have y0:=ZAA hB g0
   have y1:=ZAA hB g1
   have y2:=ZAA hB g2
   have hA0:=(Below.refl _ wr).alloc (Nat.le_refl _) (.cells #[.string y.nm,.slice la y.slots.length lc,.slice oa y.steps.length oc] 40)
   have hBA:=hB.trans (hA0.mono hB.size)
   have HX:=ZZY (HG.out q y _ _ hy hBA (ZBU hBA hst))
   clear hnl hrow g0 g1 g2 hst hsn
   have HY:=ZZY hy
   have HALL:=ZZY hall
   have HPL:=ZZY hpl
   clear hy hall hpl hps hbuilt ho2
   go_wp2_with (first
    |(go_at_fn gf;(with_reducible refine (HX.out).mono ?_);rintro e w3 ⟨v3,rfl,ho3,hb3⟩;obtain ⟨a3,m3,c3,rfl,_⟩:=ZAW ho3;have hA3:=(hA0.trans (hb3.mono hA0.size)).alloc (by have:=hA0.size;have:=hb3.size;omega) (.cells #[.slice a3 m3 c3] 22);have hown3:=ZAL hown hA3)
    |(at_builtin;refine ZAr _ rfl _ _ 83 rfl w.heap.size 22 i0 (.slice none 0 0) 1 24 Tryz.underlying83 hi hz0 hz1 hz2 rfl (by decide) u5 (1+q) (ps.map Prod.fst) rfl hown3 (some ⟨w3.heap.size,0,none⟩) 1 1 [.slice a3 m3 c3] rfl ⟨rfl,.inr ⟨_,rfl,ZBC w3 [.slice a3 m3 c3] 22⟩⟩ (by simp [Value.oneCell']) (by unfold maxLen;omega) (by omega) (Nat.le_trans hB.size hA3.size) ?_;intro v4 w4 hown4 hg4))
   go_roundw
   all_goals (first
    |(case' rel=>
      refine ⟨q+1,ps ++ [(.slice a3 m3 c3,f y)],by omega,by go_num,by rw [List.length_append,HPL.out];rfl,ZBQ hown4 rfl (by simp),fun p hp=>?_,ZZY (by rw [List.flatMap_append,HC.out,List.take_add_one,HY.out];simp), ?_⟩
      ·rcases List.mem_append.1 hp with hp | hp
       ·exact ZBz hg4 hown3 (ZAL (HALL.out p hp) hA3) (by decide)
       ·simp only [List.mem_cons,List.not_mem_nil,or_false] at hp
        subst hp
        exact ZBz hg4 hown3 (ZAH (ZAL ho3 ((Below.refl _ w3).alloc (Nat.le_refl _) (.cells #[.slice a3 m3 c3] 22))) (Nat.zero_le _)) (by decide)
      ·exact (hB.trans (hA3.mono hB.size)).trans (ZBX hg4 hown3 (Nat.le_trans hB.size hA3.size)))
    |(case' measure=>simp [intOf];omega))
  ·obtain rfl:q=n:=by omega
   have hd:decide ((q:Int)<(q:Int))=false:=by simp
   obtain ⟨g,gc,rfl,hgc,hgm,hgcells⟩:=ZDQ hown (by omega)
   have hCat:=HC.out
   rw [List.take_of_length_le (by have:=HN.out;omega)] at hCat
   have hAll:=ZGo wr g (1+q) gc ps (fun i p hp=>hgcells i p.1 (by simp [hp])) (fun p hp=>ZAW (hall p hp)) hpl hgc hgm (by rw [hCat,List.length_append];have:=HBD.out;have:=HRL.out;omega)
   rw [hCat] at hAll
   clear hall hpl hCat HC hgcells hps hbuilt ho2
   go_wp2_with (go_at_call 51;(with_reducible refine hAll.mono ?_);rintro e w3 ⟨v3,rfl,ho3,hb3⟩)
   all_goals go_ret
   all_goals exact ZBM hB ⟨_,rfl,ho3,hb3⟩
