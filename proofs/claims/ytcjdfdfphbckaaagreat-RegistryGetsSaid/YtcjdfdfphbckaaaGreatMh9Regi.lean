/- Package bin: put, Value, walked. -/
import Derived.Test.YtcjdfdfphbckaaaGreatMh4Regi
set_option linter.unusedVariables false
set_option linter.unusedSimpArgs false
set_option maxRecDepth 100000
set_option maxHeartbeats 64000000
open Go.Proofs.Tryz
namespace Go.Proofs.YtcjdfdfphbckaaaGreat
open Go.RowKit Go.Shelf
attribute [local go_sem] Oper.semAt_some
theorem ZBM {w A w':World} {l:List Int} {e:Ending} (hA:Below w.heap.size w A) (h:Got A l e w'):Got w l e w':=by
 obtain ⟨v,rfl,ho,hb⟩:=h
 exact ⟨v,rfl,ZAH ho hA.size,hA.trans (hb.mono hA.size)⟩
theorem ZDQ {w:World} {base:Nat} {e:TypeId} {v:Value} {n:Nat} {xs:List Value} (h:w.ownsRow base e 1 v n xs) (h0:0<n):∃ g cap,v=.slice (some ⟨g,0,none⟩) n cap∧n≤cap∧cap≤maxLen∧∀ (i:Nat) (u:Value),xs[i]? = some u→w.cell? ⟨g,i,none⟩=some u:=by
 obtain ⟨h1,h2⟩:=h
 rcases h2 with ⟨_,h2⟩ | ⟨g,cap,cur,rfl,_,hg,hn,hc,hs,ht⟩
 ·omega
 ·refine ⟨g,cap,rfl,hn,hc,fun i u hu=>?_⟩
  rw [←ht,List.getElem?_take] at hu
  split at hu
  ·simp only [World.cell?,hg]
   simpa using hu
  ·cases hu
theorem ZPD (v:PV):okV v=true→210*szV v≤900000000→∀ w x,Is w v x→Calls Tryz.prog 87 #[x] w (Got w (putV v)):=by
 induction v using ZB1 with
 |h k n s l ih=>
  intro hok hsz w x hi
  have hln:=ZKz _ hok
  obtain ⟨⟨hk0,hk5⟩,hn1,hs200,hl5,hl20,hol,-,-⟩:=ZC7 hok
  simp only [szV] at hsz hln
  unfold Is at hi
  obtain ⟨h1,h2,h3,a,cap,rfl,h4,h5,h6⟩:=hi
  have hm:l.length≤maxLen:=Nat.le_trans h4 h5
  unfold maxLen at hm
  have hB0:=(Below.refl _ w).alloc (Nat.le_refl _) (vobj k n s a l.length cap)
  have hK:=fun w=>ZHc k w
  rw [ZHg k hk0 (by omega)] at hK
  clear hok
  by_cases k1:k=1
  ·subst k1
   have hN:=fun w=>ZHc n w
   rw [ZHg n (by omega) (by omega)] at hN
   have hp:putV (.mk 1 n s l) = [1] ++ [n]:=by simp [putV]
   rw [hp]
   clear ih h6 hp hln hol hl5 hn1
   go_enter func87,ntmps87
   go_wp2_with (first
    |(go_at_call 82;(first
     |((with_reducible refine (hK _).mono ?_);rintro e w1 ⟨v1,rfl,ho1,hb1⟩;obtain ⟨e0,e1,e2,e3⟩:=ZAi hb1;have hB1:=hB0.trans (hb1.mono hB0.size);have hs1:=ZAW ho1;obtain ⟨a1,m1,c1,rfl,_⟩:=id hs1)
     |((with_reducible refine (hN _).mono ?_);rintro e w2 ⟨v2,rfl,ho2,hb2⟩;have hB2:=hB1.trans (hb2.mono hB1.size);have hs2:=ZAW ho2;obtain ⟨a2,m2,c2,rfl,_⟩:=id hs2;have hs1':=ZAm hs1 hb2)))
    |(go_at_call 51;(with_reducible refine (ZF4 w2 _ _ _ _ hs1' hs2 (by simp)).mono ?_);rintro e w3 ⟨v3,rfl,ho3,hb3⟩))
   all_goals go_ret
   all_goals exact ZBM hB2 ⟨_,rfl,ho3,hb3⟩
  by_cases k2:k=2
  ·subst k2
   have hN:=fun w=>ZOy n w
   have hp:putV (.mk 2 n s l) = [2]++spl64 n:=by simp [putV]
   have h64:(spl64 n).length=8:=by simp [spl64,Bn.spl_len]
   rw [hp]
   clear ih h6 hp hln hol hl5 hn1 k1
   generalize spl64 n=r at *
   go_enter func87,ntmps87
   go_wp2_with (first
    |(go_at_call 82;(with_reducible refine (hK _).mono ?_);rintro e w1 ⟨v1,rfl,ho1,hb1⟩;obtain ⟨e0,e1,e2,e3⟩:=ZAi hb1;have hB1:=hB0.trans (hb1.mono hB0.size);have hs1:=ZAW ho1;obtain ⟨a1,m1,c1,rfl,_⟩:=id hs1)
    |(go_at_call 108;(with_reducible refine (hN _).mono ?_);rintro e w2 ⟨v2,rfl,ho2,hb2⟩;have hB2:=hB1.trans (hb2.mono hB1.size);have hs2:=ZAW ho2;obtain ⟨a2,m2,c2,rfl,_⟩:=id hs2;have hs1':=ZAm hs1 hb2)
    |(go_at_call 51;(with_reducible refine (ZF4 w2 _ _ _ _ hs1' hs2 (by simp [h64])).mono ?_);rintro e w3 ⟨v3,rfl,ho3,hb3⟩))
   all_goals go_ret
   all_goals exact ZBM hB2 ⟨_,rfl,ho3,hb3⟩
  by_cases k34:k=3∨k=4
  ·have hN:=fun w=>ZI5 s w (by omega)
   have hp:putV (.mk k n s l) = [k]++(Bn.spl s.size 4++strB s):=by simp only [putV];rw [if_neg k1,if_neg k2,if_pos k34];rfl
   have h64:(Bn.spl s.size 4++strB s).length=4+s.size:=by simp [Bn.spl_len,ZBc]
   rw [hp]
   clear ih h6 hp hln hol hl5 hn1 k1 k2
   generalize Bn.spl s.size 4++strB s=r at *
   rcases k34 with rfl | rfl
   all_goals (
    go_enter func87,ntmps87
    go_wp2_with (first
     |(go_at_call 82;(with_reducible refine (hK _).mono ?_);rintro e w1 ⟨v1,rfl,ho1,hb1⟩;obtain ⟨e0,e1,e2,e3⟩:=ZAi hb1;have hB1:=hB0.trans (hb1.mono hB0.size);have hs1:=ZAW ho1;obtain ⟨a1,m1,c1,rfl,_⟩:=id hs1)
     |(go_at_call 52;(with_reducible refine (hN _).mono ?_);rintro e w2 ⟨v2,rfl,ho2,hb2⟩;have hB2:=hB1.trans (hb2.mono hB1.size);have hs2:=ZAW ho2;obtain ⟨a2,m2,c2,rfl,_⟩:=id hs2;have hs1':=ZAm hs1 hb2)
     |(go_at_call 51;(with_reducible refine (ZF4 w2 _ _ _ _ hs1' hs2 (by simp [h64];omega)).mono ?_);rintro e w3 ⟨v3,rfl,ho3,hb3⟩))
    all_goals go_ret
    all_goals exact ZBM hB2 ⟨_,rfl,ho3,hb3⟩)
  by_cases k5:k=5
  ·subst k5
   have hN:=fun w=>ZEz (l.length:Int) w
   rw [ZNz _ _ _ (by omega) (by omega),Int.toNat_natCast] at hN
   have hp:putV (.mk 5 n s l)=5 :: (Bn.spl l.length 4++putL l):=by simp [putV]
   have hls:=Bn.spl_len l.length 4
   rw [hp] at hln ⊢
   simp only [List.length_cons,List.length_append,hls] at hln
   have hplen:∀ q,(putL (l.take q)).length≤900000000:=fun q=>Nat.le_trans (ZHf l q) (by omega)
   have HP:=ZZY hplen
   obtain ⟨i0,hi,hz0,hz1,hz2⟩:=info_parts ZF5
   have HI:Hid (∀ y∈l,∀ w x,Is w y x→Calls Tryz.prog 87 #[x] w (Got w (putV y))):=ZZY (fun y hy=>ih y hy (ZF7 hol y hy) (by have:=ZJC hy;omega))
   clear ih hp hln hol hl5 hn1 k1 k2 k34 hplen
   have hl100:l.length≤20:=hl20
   generalize Bn.spl l.length 4=r at *
   have HLS:=ZZY hls;clear hls
   go_enter func87,ntmps87
   go_wp2_with (first
    |(go_at_call 82;(with_reducible refine (hK _).mono ?_);rintro e w1 ⟨v1,rfl,ho1,hb1⟩;obtain ⟨e0,e1,e2,e3⟩:=ZAi hb1;obtain ⟨a1,m1,c1,rfl,_⟩:=ZAW ho1)
    |(go_at_call 50;(with_reducible refine (hN _).mono ?_);rintro e w2 ⟨v2,rfl,ho2,hb2⟩;have hb12:=hb1.trans (hb2.mono hb1.size);obtain ⟨a2,m2,c2,rfl,_⟩:=ZAW ho2;have ho1':=ZAL ho1 hb2;have hA:=(Below.refl _ w2).alloc (Nat.le_refl _) (.cells #[.slice a1 m1 c1,.slice a2 m2 c2] 22);have hbA:=hb12.trans (hA.mono hb12.size);obtain ⟨f0,f1,f2,f3⟩:=ZAi hbA))
   have hbuilt:=ZAH (ZBy w2 [.slice a1 m1 c1,.slice a2 m2 c2] 22 2 rfl (by unfold maxLen;omega)) hb12.size
   have hps:∀ p∈[(Value.slice a1 m1 c1,[5]),(Value.slice a2 m2 c2,r)],(w2.alloc (.cells #[.slice a1 m1 c1,.slice a2 m2 c2] 22)).ownsRow 0 5 1 p.1 p.2.length (u8s p.2):=by
    intro p hp
    simp only [List.mem_cons,List.not_mem_nil,or_false] at hp
    rcases hp with rfl | rfl
    ·exact ZAH (ZAL ho1' hA) (Nat.zero_le _)
    ·exact ZAH (ZAL ho2 hA) (Nat.zero_le _)
   go_loopw [4,6,48] (fun c _ i wr=>∃ (q:Nat) (ps:List (Value × List Int)),q≤l.length∧i=.int .i64 (q:Int)∧ps.length=2+q∧wr.ownsRow (w.alloc (vobj 5 n s a l.length cap)).heap.size 22 1 c (2+q) (ps.map Prod.fst)∧(∀ p∈ps,wr.ownsRow 0 5 1 p.1 p.2.length (u8s p.2)) ∧
    Hid (ps.flatMap (·.2)=5 :: (r++putL (l.take q)))∧Below (w.alloc (vobj 5 n s a l.length cap)).heap.size (w.alloc (vobj 5 n s a l.length cap)) wr) (fun _ _ i _=>l.length-(intOf i).toNat)
   case atStart=>exact ⟨0,[(Value.slice a1 m1 c1,[5]),(Value.slice a2 m2 c2,r)],Nat.zero_le _,rfl,rfl,hbuilt,hps,ZZY (by simp [putL]),hbA⟩
   case round=>
   obtain ⟨q,ps,hq,rfl,hpl,hown,hall,HC,hB⟩:=hrel
   by_cases hql:q<l.length
   ·have hdq:decide (q<l.length)=true:=by simp;omega
    obtain ⟨y,hy⟩:∃ y,l[q]? = some y:=⟨l[q],List.getElem?_eq_getElem hql⟩
    obtain ⟨b,off,rfl,hIs⟩:∃ b off,a=some ⟨b,off,none⟩∧IsL w b l off:=by
     rcases h6 with h | h
     ·subst h;simp at hql
     ·exact h
    have HT:=ZZY (ZNy l q y hy)
    have hcall:=fun w x hx=>HI.out y (List.mem_of_getElem? hy) w x hx
    cases y with
    |mk yk yn ys yl=>
    obtain ⟨ya,yc,⟨g0,g1,g2,g3⟩,hi9⟩:=ZCT (ZA7 hB (ZA7 hB0 hIs)) q _ _ _ _ hy
    have hA0:=(Below.refl _ wr).alloc (Nat.le_refl _) (vobj yk yn ys ya yl.length yc)
    have hi2:=ZZY (ZAf hA0 _ _ hi9)
    have HC2:=ZZY hcall
    have HALL:=ZZY hall
    have HPL:=ZZY hpl
    clear h6 hIs hi9 hy hcall hall hpl hN hK hps hbuilt ho1 ho2 ho1' e0 e1 e2 e3 f0 f1 f2 f3
    go_wp2_with (first
     |(go_at_call 87;(with_reducible refine (HC2.out _ _ hi2.out).mono ?_);rintro e w3 ⟨v3,rfl,ho3,hb3⟩;obtain ⟨a3,m3,c3,rfl,_⟩:=ZAW ho3;have hA3:=(hA0.trans (hb3.mono hA0.size)).alloc (by have:=hA0.size;have:=hb3.size;omega) (.cells #[.slice a3 m3 c3] 22);have hown3:=ZAL hown hA3)
     |(at_builtin;refine ZAr _ rfl _ _ 83 rfl (w.alloc (vobj 5 n s (some ⟨b,off,none⟩) l.length cap)).heap.size 22 i0 (.slice none 0 0) 1 24 Tryz.underlying83 hi hz0 hz1 hz2 rfl (by decide) u4 (2+q) (ps.map Prod.fst) rfl hown3 (some ⟨w3.heap.size,0,none⟩) 1 1 [.slice a3 m3 c3] rfl ⟨rfl,.inr ⟨_,rfl,ZBC w3 [.slice a3 m3 c3] 22⟩⟩ (by simp [Value.oneCell']) (by unfold maxLen;omega) (by omega) (Nat.le_trans hB.size hA3.size) ?_;intro v4 w4 hown4 hg4))
    go_roundw
    all_goals (first
     |(case' rel=>
       refine ⟨q+1,ps ++ [(.slice a3 m3 c3,putV (.mk yk yn ys yl))],by omega,by go_num,by rw [List.length_append,HPL.out];rfl,ZBQ hown4 rfl (by simp),fun p hp=>?_,ZZY (by rw [List.flatMap_append,HC.out,HT.out];simp), ?_⟩
       ·rcases List.mem_append.1 hp with hp | hp
        ·exact ZBz hg4 hown3 (ZAL (HALL.out p hp) hA3) (by decide)
        ·simp only [List.mem_cons,List.not_mem_nil,or_false] at hp
         subst hp
         exact ZBz hg4 hown3 (ZAH (ZAL ho3 ((Below.refl _ w3).alloc (Nat.le_refl _) (.cells #[.slice a3 m3 c3] 22))) (Nat.zero_le _)) (by decide)
       ·exact (hB.trans (hA3.mono hB.size)).trans (ZBX hg4 hown3 (Nat.le_trans hB.size hA3.size)))
     |(case' measure=>simp [intOf];omega))
   ·have hdq:decide (q<l.length)=false:=by simp;omega
    obtain rfl:q=l.length:=by omega
    obtain ⟨g,gc,rfl,hgc,hgm,hgcells⟩:=ZDQ hown (by omega)
    have hCat:=HC.out
    rw [List.take_length] at hCat
    have hAll:=ZGo wr g (2+l.length) gc ps (fun i p hp=>hgcells i p.1 (by simp [hp])) (fun p hp=>ZAW (hall p hp)) hpl hgc hgm (by rw [hCat];have:=HP.out l.length;rw [List.take_length] at this;simp only [List.length_cons,List.length_append,HLS.out];omega)
    rw [hCat] at hAll
    clear hall hpl hCat HC hgcells
    go_wp2_with (first
     |(go_at_call 51;(with_reducible refine hAll.mono ?_);rintro e w3 ⟨v3,rfl,ho3,hb3⟩))
    all_goals go_ret
    all_goals exact ZBM (hB0.trans (hB.mono hB0.size)) ⟨_,rfl,ho3,hb3⟩
  ·have k0:k=0:=by omega
   subst k0
   have hp:putV (.mk 0 n s l) = [0]:=by simp [putV]
   rw [hp]
   clear ih h6 hp hln hol hl5 hn1 k1 k2 k34 k5
   go_enter func87,ntmps87
   go_wp2_with (first
    |(go_at_call 82;(with_reducible refine (hK _).mono ?_);rintro e w1 ⟨v1,rfl,ho1,hb1⟩;obtain ⟨e0,e1,e2,e3⟩:=ZAi hb1))
   all_goals go_ret
   all_goals exact ZBM hB0 ⟨_,rfl,ho1,hb1⟩
def valB (v:PV):List Int:=if rightV v=true then putV v else []
theorem ZEh {v:PV} (h:rightV v=true):okV v=true∧szV v≤100∧deepV v≤4:=by
 simp only [rightV,Bool.and_eq_true,decide_eq_true_eq] at h
 exact ⟨h.2,h.1.2,h.1.1⟩
theorem ZGs (v:PV) (w:World) (x:Value) (hi:Is w v x):Calls Tryz.prog 62 #[x] w (Got w (valB v)):=by
 have hR:=fun w x hi=>ZGn v w x hi
 have hP:=fun h:rightV v=true=>ZPD v (ZEh h).1 (by have:=(ZEh h).2.1;omega)
 unfold valB
 obtain ⟨r,hr⟩:∃ r,rightV v=r:=⟨_,rfl⟩
 rw [hr] at hR hP ⊢
 generalize putV v=l at hP
 obtain ⟨k,m,s,vl,rfl⟩:∃ k m s l,v=.mk k m s l:=by cases v;exact ⟨_,_,_,_,rfl⟩
 have hi2:=ZZY hi
 unfold Is at hi
 obtain ⟨_,_,_,a,cap,rfl,_,_,_⟩:=hi
 have hB0:=(Below.refl _ w).alloc (Nat.le_refl _) (vobj k m s a vl.length cap)
 clear hr
 cases r with
 |false=>
  rw [if_neg (by simp)]
  clear hP
  go_enter func62,ntmps62
  go_wp2_with (first
   |(go_at_call 86;(with_reducible refine (hR _ _ (ZAf hB0 _ _ hi2.out)).mono ?_);rintro e w1 ⟨rfl,hb1⟩))
  all_goals go_ret
  all_goals exact ⟨_,rfl,World.ownsRow_nil _ _ _ _,hB0.trans (hb1.mono hB0.size)⟩
 |true=>
  rw [if_pos rfl]
  have hP':=hP rfl
  clear hP
  go_enter func62,ntmps62
  go_wp2_with (first
   |(go_at_call 86;(with_reducible refine (hR _ _ (ZAf hB0 _ _ hi2.out)).mono ?_);rintro e w1 ⟨rfl,hb1⟩;have hB1:=hB0.trans (hb1.mono hB0.size);obtain ⟨e0,e1,e2,e3⟩:=ZAi hb1)
   |(go_at_call 87;(with_reducible refine (hP' _ _ (ZAf hB1 _ _ hi2.out)).mono ?_);rintro e w2 ⟨v2,rfl,ho2,hb2⟩))
  all_goals go_ret
  all_goals exact ZBM hB1 ⟨_,rfl,ho2,hb2⟩
