/- Registries that are read: the list of at most so many things that stands there. (Made by gen_rgl.py.) -/
import Derived.Test.YtcjdfdfphbckaaaGreatMh14Regi
set_option linter.unusedVariables false
set_option linter.unusedSimpArgs false
set_option maxRecDepth 100000
set_option maxHeartbeats 64000000
open Go.Proofs.Tryz
namespace Go.Proofs.YtcjdfdfphbckaaaGreat
open Go.RowKit Go.Shelf
theorem ZMd:(Tryz.prog.info? 3).map (fun i=>(i.zero,i.size,i.bytes))=some (some (.int .i64 0),1,8):=by kernel_rfl
theorem ZLM:(Tryz.prog.info? 51).map (fun i=>(i.zero,i.size,i.bytes))=some (some (.agg vz7),7,88):=by kernel_rfl
abbrev vz10:Array Value:=#[.int .i64 0,.int .i64 0,.string ⟨#[]⟩,.int .i64 0,.bool false,.int .i64 0,.int .i64 0,.string ⟨#[]⟩,.slice none 0 0,.slice none 0 0]
abbrev vz3:Array Value:=#[.string ⟨#[]⟩,.slice none 0 0,.slice none 0 0]
theorem ZLN:(Tryz.prog.info? 54).map (fun i=>(i.zero,i.size,i.bytes))=some (some (.agg vz10),10,128):=by kernel_rfl
theorem ZJR:(Tryz.prog.info? 40).map (fun i=>(i.zero,i.size,i.bytes))=some (some (.agg vz3),3,64):=by kernel_rfl
def ZPE (p:Nat) (w:World) (r:Option Int × Bn.St) (e:Ending) (w':World):Prop:=∃ (x:Int),
 e=.returned (.tuple #[.int .i64 x,.bool r.1.isSome])∧(∀ y,r.1=some y→ZEB IsI1 w.heap.size w' y (.agg #[.int .i64 x]))∧RD w' p r.2∧w.grownBy w' (some p)
def ZDl (p:Nat) (w:World) (r:Option StepM × Bn.St) (e:Ending) (w':World):Prop:=∃ (kd col:Int) (nm:ByteArray) (ty:Int) (rq:Bool) (k n:Int) (t:ByteArray) (a:Option Addr) (l c:Nat) (oa:Option Addr) (ol oc:Nat),
 e=.returned (.tuple #[.agg #[.int .i64 kd,.int .i64 col,.string nm,.int .i64 ty,.bool rq,.int .i64 k,.int .i64 n,.string t,.slice a l c,.slice oa ol oc],.bool r.1.isSome])∧(∀ x,r.1=some x→ZEB ZA3 w.heap.size w' x (.agg #[.int .i64 kd,.int .i64 col,.string nm,.int .i64 ty,.bool rq,.int .i64 k,.int .i64 n,.string t,.slice a l c,.slice oa ol oc]))∧RD w' p r.2∧w.grownBy w' (some p)
def ZKY (p:Nat) (w:World) (r:Option TemplM × Bn.St) (e:Ending) (w':World):Prop:=∃ (nm:ByteArray) (a:Option Addr) (l c:Nat) (oa:Option Addr) (ol oc:Nat),
 e=.returned (.tuple #[.agg #[.string nm,.slice a l c,.slice oa ol oc],.bool r.1.isSome])∧(∀ x,r.1=some x→ZEB ZA8 w.heap.size w' x (.agg #[.string nm,.slice a l c,.slice oa ol oc]))∧RD w' p r.2∧w.grownBy w' (some p)
def ZDm {α : Type} (R:World→Option Addr→Nat→List α→Prop) (p:Nat) (w:World) (r:Option (List α) × Bn.St) (e:Ending) (w':World):Prop:=∃ (a:Option Addr) (l c:Nat),
 e=.returned (.tuple #[.slice a l c,.bool r.1.isSome])∧(∀ ys,r.1=some ys→l=ys.length∧∀ W':World,(∀ b,w.heap.size≤b→b<w'.heap.size→W'.heap[b]? = w'.heap[b]?)→R W' a c ys)∧RD w' p r.2∧w.grownBy w' (some p)
def ZMe (W:World) (a:Option Addr) (c:Nat) (l:List Int):Prop:=Row W .i64 a l.length c l∧∀ y∈l,I64 y
theorem ZLO {B:Nat} {W:World} {u:Value} {ys:List Int} (h:GRow IsI1 1 3 B W u ys):∃ a cap,u=.slice a ys.length cap∧∀ W':World,(∀ b,B≤b→b<W.heap.size→W'.heap[b]? = W.heap[b]?)→ZMe W' a cap ys:=by
 obtain ⟨a,cap,e,h1,h2⟩:=ZHx h
 exact ⟨a,cap,e,fun W' k=>⟨h2 W' k,h1⟩⟩
theorem ZDw {w W W':World} {p:Nat} {e:TypeId} {size n:Nat} {u:Value} {xs:List Value} (h:w.grownBy W (some p)) (hown:W.ownsRow w.heap.size e size u n xs) (hg:W.grownBy W' u.ownBlock):w.grownBy W' (some p):=
 ⟨hg.os.trans h.os,hg.tape.trans h.tape,hg.output.trans h.output,Nat.le_trans h.size hg.size,fun k hk hne=>by rw [hg.block k (Nat.lt_of_lt_of_le hk h.size) (fun e9=>by have:=(ZC3 hown k e9.symm).2;omega),h.block k hk hne]⟩
theorem ZLP (most:Nat) (hm:most≤100) (f:Bn.St→Option Int × Bn.St) (gf:Nat) (p:Nat) (s:Bn.St) (w:World) (h:RD w p s)
  (eg:∀ args w,(callFunc gf args).run Tryz.prog w=.ok (.enter gf args) w)
  (hG:∀ (W:World) (s:Bn.St),RD W p s→Calls Tryz.prog gf #[.pointer (some ⟨p,0,none⟩)] W (ZPE p W (f s))) :
  Calls Tryz.prog 75 #[.pointer (some ⟨p,0,none⟩),.int .i64 (most:Int),.func (.func gf) #[] #[]] w (ZDm ZMe p w (Rg.rList most f s)):=by
 obtain ⟨i0,hi,hz0,hz1,hz2⟩:=info_parts ZMd
 have hpw:=ZCf h
 have hN:=ZC1 p s w h
 unfold Rg.rList
 generalize Bn.rNum s=r1 at *
 obtain ⟨N,s1⟩:=r1
 simp only at hN ⊢
 have HG:=ZZY hG;have HN:=ZZY hN
 clear hG hN h
 by_cases hmn:most<N
 ·rw [if_pos hmn]
  have d1:decide ((N:Int) > (most:Int))=true:=by simp;omega
  have d2:decide ((most:Int)<(N:Int))=true:=by simp;omega
  have d3:decide (most<N)=true:=decide_eq_true hmn
  go_enter func75,ntmps75
  go_wp2_with (go_at_call 41;(with_reducible refine (HN.out).mono ?_);rintro e w1 ⟨rfl,hR1,hg1⟩)
  go_ret2
  exact ⟨none,0,0,rfl,fun ys hy=>(by cases hy),hR1,hg1⟩
 ·rw [if_neg hmn]
  obtain ⟨R,hR⟩:∃ R,Rg.rep f N s1=R:=⟨_,rfl⟩
  rw [hR]
  have d1:decide ((N:Int) > (most:Int))=false:=by simp;omega
  have d2:decide ((most:Int)<(N:Int))=false:=by simp;omega
  have hN100:N≤100:=by omega
  have HR:=ZZY hR
  have d3:decide (most<N)=false:=decide_eq_false hmn
  clear hR
  go_enter func75,ntmps75
  go_wp2_with (go_at_call 41;(with_reducible refine (HN.out).mono ?_);rintro e w1 ⟨rfl,hR1,hg1⟩)
  go_loopw [9,18] (fun c i wr=>∃ (q:Nat) (ys:List Int) (sq:Bn.St) (cs:List Value),q≤N∧i=.int .i64 (q:Int)∧ys.length=q∧wr.ownsRow w.heap.size 3 1 c q cs∧Hid (GEl IsI1 1 w.heap.size wr c ys cs)∧RD wr p sq∧w.grownBy wr (some p)∧Hid (R=Rg.aft ys (Rg.rep f (N-q) sq))) (fun _ i _=>N-(intOf i).toNat)
  case atStart=>exact ⟨0,[],s1,[],Nat.zero_le _,rfl,rfl,World.ownsRow_nil _ _ _ _,ZZY (fun i y h=>by simp at h),hR1,hg1,ZZY (by rw [Rg.aft_nil,Nat.sub_zero];exact HR.out.symm)⟩
  case round=>
   obtain ⟨q,ys,sq,cs,hq,rfl,hyl,hown,HEL,hRq,hGq,HQ⟩:=hrel
   have HYL:=ZZY hyl
   clear hyl
   rcases Nat.lt_or_ge q N with hlt | hge
   ·have hd:decide ((q:Int)<(N:Int))=true:=by simp;omega
    have hC:=HG.out wr sq hRq
    obtain ⟨o,ho⟩:∃ o,f sq=o:=⟨_,rfl⟩
    rw [ho] at hC
    have HC:=ZZY hC
    have HO:=ZZY ho
    clear hC ho
    obtain ⟨ox,s'⟩:=o
    cases ox with
    |none=>
     have hend:R=(none,s'):=by
      rw [HQ.out,show N-q=(N-(q+1))+1 by omega,Rg.rep_none HO.out];rfl
     have HE:=ZZY hend
     clear hend
     go_wp2_with (go_at_fn gf;(with_reducible refine (HC.out).mono ?_);rintro e w4 ⟨x1,rfl,hF4,hR4,hg4⟩)
     go_ret2
     rw [HE.out]
     exact ⟨none,0,0,rfl,fun ys hy=>(by cases hy),hR4,ZAC hGq hg4⟩
    |some x=>
     have hstep:R=Rg.aft (ys ++ [x]) (Rg.rep f (N-(q+1)) s'):=by
      rw [HQ.out,show N-q=(N-(q+1))+1 by omega,Rg.rep_some ys HO.out]
     have HST:=ZZY hstep
     clear hstep
     go_wp2_with (first
      |(go_at_fn gf;(with_reducible refine (HC.out).mono ?_);rintro e w4 ⟨x1,rfl,hF4,hR4,hg4⟩;have hG4:=ZAC hGq hg4;have hb5:=(Below.refl _ w4).alloc (Nat.le_refl _) (.cells #[.int .i64 x1] 3);have hown4:=ZBb hown (fun b b1 b2=>hg4.block b b2 (by simp;omega));have hown5:=ZAL hown4 hb5;have hR5:=ZAp hR4 hb5;have hG5:=ZAX hG4 (.cells #[.int .i64 x1] 3);have hs5:=hG5.size)
      |(at_builtin;refine ZAj _ rfl _ _ 52 rfl w.heap.size 3 i0 (.int .i64 0) 1 8 Tryz.underlying52 hi hz0 hz1 hz2 rfl (by decide) u9 q cs rfl hown5 (some ⟨w4.heap.size,0,none⟩) 1 1 [.int .i64 x1] (by first | rfl | (simp;rfl)) ⟨rfl,.inr ⟨_,rfl,ZBC _ [.int .i64 x1] _⟩⟩ (by simp [Value.oneCell']) (by unfold maxLen;omega) (by omega) (by first | exact hs5 | (simp at hs5 ⊢;omega)) ?_;intro v' w6 hown6 hgr6 hwhere))
     have hel:=ZC4 (P:=IsI1) (n:=1) (cs:=cs) (ys:=ys) (ds:=[.int .i64 x1]) (w4:=w4) (w6:=w6) (v':=v') (y:=x) (by rw [HYL.out];exact hown) HEL.out hpw hGq.size hg4 (hF4 x rfl) rfl hb5 hgr6 hwhere
     go_roundw
     case rel=>exact ⟨q+1,ys ++ [x],s',cs ++ [.int .i64 x1],by omega,by go_num,by rw [List.length_append,HYL.out];rfl,hown6,ZZY hel,ZKX hR5 hown5 hgr6 (by decide) (by decide),ZDw hG5 hown5 hgr6,HST⟩
     case measure=>simp [intOf];omega
   ·obtain rfl:q=N:=by omega
    have hd:decide ((q:Int)<(q:Int))=false:=by simp
    have hend:R=(some ys,sq):=by
     rw [HQ.out,Nat.sub_self];simp [Rg.rep,Rg.aft]
    have HE:=ZZY hend
    clear hend
    obtain ⟨a9,c9,e9,hrow⟩:=ZLO (ys:=ys) ⟨cs,by rw [HYL.out];exact hown,HEL.out⟩
    subst e9
    have HROW:=ZZY hrow
    clear hrow hown
    go_wp2
    go_ret2
    rw [HE.out]
    exact ⟨_,_,_,rfl,fun zs hz=>(by cases hz;exact ⟨rfl,fun W' k=>HROW.out W' k⟩),hRq,hGq⟩
theorem ZG0 (most:Nat) (hm:most≤100) (f:Bn.St→Option SlotM × Bn.St) (gf:Nat) (p:Nat) (s:Bn.St) (w:World) (h:RD w p s)
  (eg:∀ args w,(callFunc gf args).run Tryz.prog w=.ok (.enter gf args) w)
  (hG:∀ (W:World) (s:Bn.St),RD W p s→Calls Tryz.prog gf #[.pointer (some ⟨p,0,none⟩)] W (ZMc p W (f s))) :
  Calls Tryz.prog 43 #[.pointer (some ⟨p,0,none⟩),.int .i64 (most:Int),.func (.func gf) #[] #[]] w (ZDm ZBV p w (Rg.rList most f s)):=by
 obtain ⟨i0,hi,hz0,hz1,hz2⟩:=info_parts ZLM
 have hpw:=ZCf h
 have hN:=ZC1 p s w h
 unfold Rg.rList
 generalize Bn.rNum s=r1 at *
 obtain ⟨N,s1⟩:=r1
 simp only at hN ⊢
 have HG:=ZZY hG;have HN:=ZZY hN
 clear hG hN h
 by_cases hmn:most<N
 ·rw [if_pos hmn]
  have d1:decide ((N:Int) > (most:Int))=true:=by simp;omega
  have d2:decide ((most:Int)<(N:Int))=true:=by simp;omega
  have d3:decide (most<N)=true:=decide_eq_true hmn
  go_enter func43,ntmps43
  go_wp2_with (go_at_call 41;(with_reducible refine (HN.out).mono ?_);rintro e w1 ⟨rfl,hR1,hg1⟩)
  go_ret2
  exact ⟨none,0,0,rfl,fun ys hy=>(by cases hy),hR1,hg1⟩
 ·rw [if_neg hmn]
  obtain ⟨R,hR⟩:∃ R,Rg.rep f N s1=R:=⟨_,rfl⟩
  rw [hR]
  have d1:decide ((N:Int) > (most:Int))=false:=by simp;omega
  have d2:decide ((most:Int)<(N:Int))=false:=by simp;omega
  have hN100:N≤100:=by omega
  have HR:=ZZY hR
  have d3:decide (most<N)=false:=decide_eq_false hmn
  clear hR
  go_enter func43,ntmps43
  go_wp2_with (go_at_call 41;(with_reducible refine (HN.out).mono ?_);rintro e w1 ⟨rfl,hR1,hg1⟩)
  go_loopw [9,18] (fun c i wr=>∃ (q:Nat) (ys:List SlotM) (sq:Bn.St) (cs:List Value),q≤N∧i=.int .i64 (q:Int)∧ys.length=q∧wr.ownsRow w.heap.size 51 7 c q cs∧Hid (GEl ZBe 7 w.heap.size wr c ys cs)∧RD wr p sq∧w.grownBy wr (some p)∧Hid (R=Rg.aft ys (Rg.rep f (N-q) sq))) (fun _ i _=>N-(intOf i).toNat)
  case atStart=>exact ⟨0,[],s1,[],Nat.zero_le _,rfl,rfl,World.ownsRow_nil _ _ _ _,ZZY (fun i y h=>by simp at h),hR1,hg1,ZZY (by rw [Rg.aft_nil,Nat.sub_zero];exact HR.out.symm)⟩
  case round=>
   obtain ⟨q,ys,sq,cs,hq,rfl,hyl,hown,HEL,hRq,hGq,HQ⟩:=hrel
   have HYL:=ZZY hyl
   clear hyl
   rcases Nat.lt_or_ge q N with hlt | hge
   ·have hd:decide ((q:Int)<(N:Int))=true:=by simp;omega
    have hC:=HG.out wr sq hRq
    obtain ⟨o,ho⟩:∃ o,f sq=o:=⟨_,rfl⟩
    rw [ho] at hC
    have HC:=ZZY hC
    have HO:=ZZY ho
    clear hC ho
    obtain ⟨ox,s'⟩:=o
    cases ox with
    |none=>
     have hend:R=(none,s'):=by
      rw [HQ.out,show N-q=(N-(q+1))+1 by omega,Rg.rep_none HO.out];rfl
     have HE:=ZZY hend
     clear hend
     go_wp2_with (go_at_fn gf;(with_reducible refine (HC.out).mono ?_);rintro e w4 ⟨nm,ty,rq,k1,n1,t1,a1,l1,c1,rfl,hF4,hR4,hg4⟩)
     go_ret2
     rw [HE.out]
     exact ⟨none,0,0,rfl,fun ys hy=>(by cases hy),ZAp hR4 ((Below.refl _ w4).alloc (Nat.le_refl _) _),ZAX (ZAC hGq hg4) _⟩
    |some x=>
     have hstep:R=Rg.aft (ys ++ [x]) (Rg.rep f (N-(q+1)) s'):=by
      rw [HQ.out,show N-q=(N-(q+1))+1 by omega,Rg.rep_some ys HO.out]
     have HST:=ZZY hstep
     clear hstep
     go_wp2_with (first
      |(go_at_fn gf;(with_reducible refine (HC.out).mono ?_);rintro e w4 ⟨nm,ty,rq,k1,n1,t1,a1,l1,c1,rfl,hF4,hR4,hg4⟩;have hG4:=ZAC hGq hg4;have hb5:=((Below.refl _ w4).alloc (Nat.le_refl _) (.cells #[.string nm,.int .i64 ty,.bool rq,.int .i64 k1,.int .i64 n1,.string t1,.slice a1 l1 c1] 51)).alloc (by simp) (.cells #[.string nm,.int .i64 ty,.bool rq,.int .i64 k1,.int .i64 n1,.string t1,.slice a1 l1 c1] 51);have hown4:=ZBb hown (fun b b1 b2=>hg4.block b b2 (by simp;omega));have hown5:=ZAL hown4 hb5;have hR5:=ZAp hR4 hb5;have hG5:=ZAX (ZAX hG4 (.cells #[.string nm,.int .i64 ty,.bool rq,.int .i64 k1,.int .i64 n1,.string t1,.slice a1 l1 c1] 51)) (.cells #[.string nm,.int .i64 ty,.bool rq,.int .i64 k1,.int .i64 n1,.string t1,.slice a1 l1 c1] 51);have hs5:=hG5.size)
      |(at_builtin;refine ZAj _ rfl _ _ 37 rfl w.heap.size 51 i0 (.agg vz7) 7 88 Tryz.underlying37 hi hz0 hz1 hz2 rfl (by decide) u9 q cs rfl hown5 (some ⟨(w4.alloc (.cells #[.string nm,.int .i64 ty,.bool rq,.int .i64 k1,.int .i64 n1,.string t1,.slice a1 l1 c1] 51)).heap.size,0,none⟩) 1 1 [.string nm,.int .i64 ty,.bool rq,.int .i64 k1,.int .i64 n1,.string t1,.slice a1 l1 c1] (by first | rfl | (simp;rfl)) ⟨rfl,.inr ⟨_,rfl,ZBC _ [.string nm,.int .i64 ty,.bool rq,.int .i64 k1,.int .i64 n1,.string t1,.slice a1 l1 c1] _⟩⟩ (by simp [Value.oneCell']) (by unfold maxLen;omega) (by omega) (by first | exact hs5 | (simp at hs5 ⊢;omega)) ?_;intro v' w6 hown6 hgr6 hwhere))
     have hel:=ZC4 (P:=ZBe) (n:=7) (cs:=cs) (ys:=ys) (ds:=[.string nm,.int .i64 ty,.bool rq,.int .i64 k1,.int .i64 n1,.string t1,.slice a1 l1 c1]) (w4:=w4) (w6:=w6) (v':=v') (y:=x) (by rw [HYL.out];exact hown) HEL.out hpw hGq.size hg4 (hF4 x rfl) rfl hb5 hgr6 hwhere
     go_roundw
     case rel=>exact ⟨q+1,ys ++ [x],s',cs ++ [.string nm,.int .i64 ty,.bool rq,.int .i64 k1,.int .i64 n1,.string t1,.slice a1 l1 c1],by omega,by go_num,by rw [List.length_append,HYL.out];rfl,hown6,ZZY hel,ZKX hR5 hown5 hgr6 (by decide) (by decide),ZDw hG5 hown5 hgr6,HST⟩
     case measure=>simp [intOf];omega
   ·obtain rfl:q=N:=by omega
    have hd:decide ((q:Int)<(q:Int))=false:=by simp
    have hend:R=(some ys,sq):=by
     rw [HQ.out,Nat.sub_self];simp [Rg.rep,Rg.aft]
    have HE:=ZZY hend
    clear hend
    obtain ⟨a9,c9,e9,hrow⟩:=ZGK (ys:=ys) ⟨cs,by rw [HYL.out];exact hown,HEL.out⟩
    subst e9
    have HROW:=ZZY hrow
    clear hrow hown
    go_wp2
    go_ret2
    rw [HE.out]
    exact ⟨_,_,_,rfl,fun zs hz=>(by cases hz;exact ⟨rfl,fun W' k=>HROW.out W' k⟩),hRq,hGq⟩
theorem ZG1 (most:Nat) (hm:most≤100) (f:Bn.St→Option StepM × Bn.St) (gf:Nat) (p:Nat) (s:Bn.St) (w:World) (h:RD w p s)
  (eg:∀ args w,(callFunc gf args).run Tryz.prog w=.ok (.enter gf args) w)
  (hG:∀ (W:World) (s:Bn.St),RD W p s→Calls Tryz.prog gf #[.pointer (some ⟨p,0,none⟩)] W (ZDl p W (f s))) :
  Calls Tryz.prog 45 #[.pointer (some ⟨p,0,none⟩),.int .i64 (most:Int),.func (.func gf) #[] #[]] w (ZDm ZCI p w (Rg.rList most f s)):=by
 obtain ⟨i0,hi,hz0,hz1,hz2⟩:=info_parts ZLN
 have hpw:=ZCf h
 have hN:=ZC1 p s w h
 unfold Rg.rList
 generalize Bn.rNum s=r1 at *
 obtain ⟨N,s1⟩:=r1
 simp only at hN ⊢
 have HG:=ZZY hG;have HN:=ZZY hN
 clear hG hN h
 by_cases hmn:most<N
 ·rw [if_pos hmn]
  have d1:decide ((N:Int) > (most:Int))=true:=by simp;omega
  have d2:decide ((most:Int)<(N:Int))=true:=by simp;omega
  have d3:decide (most<N)=true:=decide_eq_true hmn
  go_enter func45,ntmps45
  go_wp2_with (go_at_call 41;(with_reducible refine (HN.out).mono ?_);rintro e w1 ⟨rfl,hR1,hg1⟩)
  go_ret2
  exact ⟨none,0,0,rfl,fun ys hy=>(by cases hy),hR1,hg1⟩
 ·rw [if_neg hmn]
  obtain ⟨R,hR⟩:∃ R,Rg.rep f N s1=R:=⟨_,rfl⟩
  rw [hR]
  have d1:decide ((N:Int) > (most:Int))=false:=by simp;omega
  have d2:decide ((most:Int)<(N:Int))=false:=by simp;omega
  have hN100:N≤100:=by omega
  have HR:=ZZY hR
  have d3:decide (most<N)=false:=decide_eq_false hmn
  clear hR
  go_enter func45,ntmps45
  go_wp2_with (go_at_call 41;(with_reducible refine (HN.out).mono ?_);rintro e w1 ⟨rfl,hR1,hg1⟩)
  go_loopw [9,18] (fun c i wr=>∃ (q:Nat) (ys:List StepM) (sq:Bn.St) (cs:List Value),q≤N∧i=.int .i64 (q:Int)∧ys.length=q∧wr.ownsRow w.heap.size 54 10 c q cs∧Hid (GEl ZA3 10 w.heap.size wr c ys cs)∧RD wr p sq∧w.grownBy wr (some p)∧Hid (R=Rg.aft ys (Rg.rep f (N-q) sq))) (fun _ i _=>N-(intOf i).toNat)
  case atStart=>exact ⟨0,[],s1,[],Nat.zero_le _,rfl,rfl,World.ownsRow_nil _ _ _ _,ZZY (fun i y h=>by simp at h),hR1,hg1,ZZY (by rw [Rg.aft_nil,Nat.sub_zero];exact HR.out.symm)⟩
  case round=>
   obtain ⟨q,ys,sq,cs,hq,rfl,hyl,hown,HEL,hRq,hGq,HQ⟩:=hrel
   have HYL:=ZZY hyl
   clear hyl
   rcases Nat.lt_or_ge q N with hlt | hge
   ·have hd:decide ((q:Int)<(N:Int))=true:=by simp;omega
    have hC:=HG.out wr sq hRq
    obtain ⟨o,ho⟩:∃ o,f sq=o:=⟨_,rfl⟩
    rw [ho] at hC
    have HC:=ZZY hC
    have HO:=ZZY ho
    clear hC ho
    obtain ⟨ox,s'⟩:=o
    cases ox with
    |none=>
     have hend:R=(none,s'):=by
      rw [HQ.out,show N-q=(N-(q+1))+1 by omega,Rg.rep_none HO.out];rfl
     have HE:=ZZY hend
     clear hend
     go_wp2_with (go_at_fn gf;(with_reducible refine (HC.out).mono ?_);rintro e w4 ⟨kd,col,nm,ty,rq,k1,n1,t1,a1,l1,c1,oa,ol,oc,rfl,hF4,hR4,hg4⟩)
     go_ret2
     rw [HE.out]
     exact ⟨none,0,0,rfl,fun ys hy=>(by cases hy),ZAp hR4 ((Below.refl _ w4).alloc (Nat.le_refl _) _),ZAX (ZAC hGq hg4) _⟩
    |some x=>
     have hstep:R=Rg.aft (ys ++ [x]) (Rg.rep f (N-(q+1)) s'):=by
      rw [HQ.out,show N-q=(N-(q+1))+1 by omega,Rg.rep_some ys HO.out]
     have HST:=ZZY hstep
     clear hstep
     go_wp2_with (first
      |(go_at_fn gf;(with_reducible refine (HC.out).mono ?_);rintro e w4 ⟨kd,col,nm,ty,rq,k1,n1,t1,a1,l1,c1,oa,ol,oc,rfl,hF4,hR4,hg4⟩;have hG4:=ZAC hGq hg4;have hb5:=((Below.refl _ w4).alloc (Nat.le_refl _) (.cells #[.int .i64 kd,.int .i64 col,.string nm,.int .i64 ty,.bool rq,.int .i64 k1,.int .i64 n1,.string t1,.slice a1 l1 c1,.slice oa ol oc] 54)).alloc (by simp) (.cells #[.int .i64 kd,.int .i64 col,.string nm,.int .i64 ty,.bool rq,.int .i64 k1,.int .i64 n1,.string t1,.slice a1 l1 c1,.slice oa ol oc] 54);have hown4:=ZBb hown (fun b b1 b2=>hg4.block b b2 (by simp;omega));have hown5:=ZAL hown4 hb5;have hR5:=ZAp hR4 hb5;have hG5:=ZAX (ZAX hG4 (.cells #[.int .i64 kd,.int .i64 col,.string nm,.int .i64 ty,.bool rq,.int .i64 k1,.int .i64 n1,.string t1,.slice a1 l1 c1,.slice oa ol oc] 54)) (.cells #[.int .i64 kd,.int .i64 col,.string nm,.int .i64 ty,.bool rq,.int .i64 k1,.int .i64 n1,.string t1,.slice a1 l1 c1,.slice oa ol oc] 54);have hs5:=hG5.size)
      |(at_builtin;refine ZAj _ rfl _ _ 38 rfl w.heap.size 54 i0 (.agg vz10) 10 128 Tryz.underlying38 hi hz0 hz1 hz2 rfl (by decide) u9 q cs rfl hown5 (some ⟨(w4.alloc (.cells #[.int .i64 kd,.int .i64 col,.string nm,.int .i64 ty,.bool rq,.int .i64 k1,.int .i64 n1,.string t1,.slice a1 l1 c1,.slice oa ol oc] 54)).heap.size,0,none⟩) 1 1 [.int .i64 kd,.int .i64 col,.string nm,.int .i64 ty,.bool rq,.int .i64 k1,.int .i64 n1,.string t1,.slice a1 l1 c1,.slice oa ol oc] (by first | rfl | (simp;rfl)) ⟨rfl,.inr ⟨_,rfl,ZBC _ [.int .i64 kd,.int .i64 col,.string nm,.int .i64 ty,.bool rq,.int .i64 k1,.int .i64 n1,.string t1,.slice a1 l1 c1,.slice oa ol oc] _⟩⟩ (by simp [Value.oneCell']) (by unfold maxLen;omega) (by omega) (by first | exact hs5 | (simp at hs5 ⊢;omega)) ?_;intro v' w6 hown6 hgr6 hwhere))
     have hel:=ZC4 (P:=ZA3) (n:=10) (cs:=cs) (ys:=ys) (ds:=[.int .i64 kd,.int .i64 col,.string nm,.int .i64 ty,.bool rq,.int .i64 k1,.int .i64 n1,.string t1,.slice a1 l1 c1,.slice oa ol oc]) (w4:=w4) (w6:=w6) (v':=v') (y:=x) (by rw [HYL.out];exact hown) HEL.out hpw hGq.size hg4 (hF4 x rfl) rfl hb5 hgr6 hwhere
     go_roundw
     case rel=>exact ⟨q+1,ys ++ [x],s',cs ++ [.int .i64 kd,.int .i64 col,.string nm,.int .i64 ty,.bool rq,.int .i64 k1,.int .i64 n1,.string t1,.slice a1 l1 c1,.slice oa ol oc],by omega,by go_num,by rw [List.length_append,HYL.out];rfl,hown6,ZZY hel,ZKX hR5 hown5 hgr6 (by decide) (by decide),ZDw hG5 hown5 hgr6,HST⟩
     case measure=>simp [intOf];omega
   ·obtain rfl:q=N:=by omega
    have hd:decide ((q:Int)<(q:Int))=false:=by simp
    have hend:R=(some ys,sq):=by
     rw [HQ.out,Nat.sub_self];simp [Rg.rep,Rg.aft]
    have HE:=ZZY hend
    clear hend
    obtain ⟨a9,c9,e9,hrow⟩:=ZGL (ys:=ys) ⟨cs,by rw [HYL.out];exact hown,HEL.out⟩
    subst e9
    have HROW:=ZZY hrow
    clear hrow hown
    go_wp2
    go_ret2
    rw [HE.out]
    exact ⟨_,_,_,rfl,fun zs hz=>(by cases hz;exact ⟨rfl,fun W' k=>HROW.out W' k⟩),hRq,hGq⟩
theorem ZGB (most:Nat) (hm:most≤100) (f:Bn.St→Option TemplM × Bn.St) (gf:Nat) (p:Nat) (s:Bn.St) (w:World) (h:RD w p s)
  (eg:∀ args w,(callFunc gf args).run Tryz.prog w=.ok (.enter gf args) w)
  (hG:∀ (W:World) (s:Bn.St),RD W p s→Calls Tryz.prog gf #[.pointer (some ⟨p,0,none⟩)] W (ZKY p W (f s))) :
  Calls Tryz.prog 24 #[.pointer (some ⟨p,0,none⟩),.int .i64 (most:Int),.func (.func gf) #[] #[]] w (ZDm ZAw p w (Rg.rList most f s)):=by
 obtain ⟨i0,hi,hz0,hz1,hz2⟩:=info_parts ZJR
 have hpw:=ZCf h
 have hN:=ZC1 p s w h
 unfold Rg.rList
 generalize Bn.rNum s=r1 at *
 obtain ⟨N,s1⟩:=r1
 simp only at hN ⊢
 have HG:=ZZY hG;have HN:=ZZY hN
 clear hG hN h
 by_cases hmn:most<N
 ·rw [if_pos hmn]
  have d1:decide ((N:Int) > (most:Int))=true:=by simp;omega
  have d2:decide ((most:Int)<(N:Int))=true:=by simp;omega
  have d3:decide (most<N)=true:=decide_eq_true hmn
  go_enter func24,ntmps24
  go_wp2_with (go_at_call 41;(with_reducible refine (HN.out).mono ?_);rintro e w1 ⟨rfl,hR1,hg1⟩)
  go_ret2
  exact ⟨none,0,0,rfl,fun ys hy=>(by cases hy),hR1,hg1⟩
 ·rw [if_neg hmn]
  obtain ⟨R,hR⟩:∃ R,Rg.rep f N s1=R:=⟨_,rfl⟩
  rw [hR]
  have d1:decide ((N:Int) > (most:Int))=false:=by simp;omega
  have d2:decide ((most:Int)<(N:Int))=false:=by simp;omega
  have hN100:N≤100:=by omega
  have HR:=ZZY hR
  have d3:decide (most<N)=false:=decide_eq_false hmn
  clear hR
  go_enter func24,ntmps24
  go_wp2_with (go_at_call 41;(with_reducible refine (HN.out).mono ?_);rintro e w1 ⟨rfl,hR1,hg1⟩)
  go_loopw [9,18] (fun c i wr=>∃ (q:Nat) (ys:List TemplM) (sq:Bn.St) (cs:List Value),q≤N∧i=.int .i64 (q:Int)∧ys.length=q∧wr.ownsRow w.heap.size 40 3 c q cs∧Hid (GEl ZA8 3 w.heap.size wr c ys cs)∧RD wr p sq∧w.grownBy wr (some p)∧Hid (R=Rg.aft ys (Rg.rep f (N-q) sq))) (fun _ i _=>N-(intOf i).toNat)
  case atStart=>exact ⟨0,[],s1,[],Nat.zero_le _,rfl,rfl,World.ownsRow_nil _ _ _ _,ZZY (fun i y h=>by simp at h),hR1,hg1,ZZY (by rw [Rg.aft_nil,Nat.sub_zero];exact HR.out.symm)⟩
  case round=>
   obtain ⟨q,ys,sq,cs,hq,rfl,hyl,hown,HEL,hRq,hGq,HQ⟩:=hrel
   have HYL:=ZZY hyl
   clear hyl
   rcases Nat.lt_or_ge q N with hlt | hge
   ·have hd:decide ((q:Int)<(N:Int))=true:=by simp;omega
    have hC:=HG.out wr sq hRq
    obtain ⟨o,ho⟩:∃ o,f sq=o:=⟨_,rfl⟩
    rw [ho] at hC
    have HC:=ZZY hC
    have HO:=ZZY ho
    clear hC ho
    obtain ⟨ox,s'⟩:=o
    cases ox with
    |none=>
     have hend:R=(none,s'):=by
      rw [HQ.out,show N-q=(N-(q+1))+1 by omega,Rg.rep_none HO.out];rfl
     have HE:=ZZY hend
     clear hend
     go_wp2_with (go_at_fn gf;(with_reducible refine (HC.out).mono ?_);rintro e w4 ⟨nm,a1,l1,c1,oa,ol,oc,rfl,hF4,hR4,hg4⟩)
     go_ret2
     rw [HE.out]
     exact ⟨none,0,0,rfl,fun ys hy=>(by cases hy),ZAp hR4 ((Below.refl _ w4).alloc (Nat.le_refl _) _),ZAX (ZAC hGq hg4) _⟩
    |some x=>
     have hstep:R=Rg.aft (ys ++ [x]) (Rg.rep f (N-(q+1)) s'):=by
      rw [HQ.out,show N-q=(N-(q+1))+1 by omega,Rg.rep_some ys HO.out]
     have HST:=ZZY hstep
     clear hstep
     go_wp2_with (first
      |(go_at_fn gf;(with_reducible refine (HC.out).mono ?_);rintro e w4 ⟨nm,a1,l1,c1,oa,ol,oc,rfl,hF4,hR4,hg4⟩;have hG4:=ZAC hGq hg4;have hb5:=((Below.refl _ w4).alloc (Nat.le_refl _) (.cells #[.string nm,.slice a1 l1 c1,.slice oa ol oc] 40)).alloc (by simp) (.cells #[.string nm,.slice a1 l1 c1,.slice oa ol oc] 40);have hown4:=ZBb hown (fun b b1 b2=>hg4.block b b2 (by simp;omega));have hown5:=ZAL hown4 hb5;have hR5:=ZAp hR4 hb5;have hG5:=ZAX (ZAX hG4 (.cells #[.string nm,.slice a1 l1 c1,.slice oa ol oc] 40)) (.cells #[.string nm,.slice a1 l1 c1,.slice oa ol oc] 40);have hs5:=hG5.size)
      |(at_builtin;refine ZAj _ rfl _ _ 24 rfl w.heap.size 40 i0 (.agg vz3) 3 64 Tryz.underlying24 hi hz0 hz1 hz2 rfl (by decide) u9 q cs rfl hown5 (some ⟨(w4.alloc (.cells #[.string nm,.slice a1 l1 c1,.slice oa ol oc] 40)).heap.size,0,none⟩) 1 1 [.string nm,.slice a1 l1 c1,.slice oa ol oc] (by first | rfl | (simp;rfl)) ⟨rfl,.inr ⟨_,rfl,ZBC _ [.string nm,.slice a1 l1 c1,.slice oa ol oc] _⟩⟩ (by simp [Value.oneCell']) (by unfold maxLen;omega) (by omega) (by first | exact hs5 | (simp at hs5 ⊢;omega)) ?_;intro v' w6 hown6 hgr6 hwhere))
     have hel:=ZC4 (P:=ZA8) (n:=3) (cs:=cs) (ys:=ys) (ds:=[.string nm,.slice a1 l1 c1,.slice oa ol oc]) (w4:=w4) (w6:=w6) (v':=v') (y:=x) (by rw [HYL.out];exact hown) HEL.out hpw hGq.size hg4 (hF4 x rfl) rfl hb5 hgr6 hwhere
     go_roundw
     case rel=>exact ⟨q+1,ys ++ [x],s',cs ++ [.string nm,.slice a1 l1 c1,.slice oa ol oc],by omega,by go_num,by rw [List.length_append,HYL.out];rfl,hown6,ZZY hel,ZKX hR5 hown5 hgr6 (by decide) (by decide),ZDw hG5 hown5 hgr6,HST⟩
     case measure=>simp [intOf];omega
   ·obtain rfl:q=N:=by omega
    have hd:decide ((q:Int)<(q:Int))=false:=by simp
    have hend:R=(some ys,sq):=by
     rw [HQ.out,Nat.sub_self];simp [Rg.rep,Rg.aft]
    have HE:=ZZY hend
    clear hend
    obtain ⟨a9,c9,e9,hrow⟩:=ZFb (ys:=ys) ⟨cs,by rw [HYL.out];exact hown,HEL.out⟩
    subst e9
    have HROW:=ZZY hrow
    clear hrow hown
    go_wp2
    go_ret2
    rw [HE.out]
    exact ⟨_,_,_,rfl,fun zs hz=>(by cases hz;exact ⟨rfl,fun W' k=>HROW.out W' k⟩),hRq,hGq⟩
