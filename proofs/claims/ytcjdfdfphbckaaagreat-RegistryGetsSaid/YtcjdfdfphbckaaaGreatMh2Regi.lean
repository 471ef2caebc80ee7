/- The order of values: cmp's functions, lists of bytes. -/
import Derived.Test.YtcjdfdfphbckaaaGreatMh0Regi
import Derived.Deep.RegionWith
import Derived.Deep.QuietTactic
import Derived.BigQuiet
import Derived.Deep.RegionHeld3
import Derived.Test.YtcjdfdfphbckaaaGreatMh1Regi
import Derived.Lib.AppendStr
import Derived.Deep.RegionLaw
set_option linter.unusedVariables false
set_option linter.unusedSimpArgs false
set_option maxRecDepth 100000
set_option maxHeartbeats 64000000
open Go.Proofs.Tryz
namespace Go.Proofs.YtcjdfdfphbckaaaGreat
open Go.RowKit Go.Shelf
def cmpI (a b:Int):Int:=if a<b then -1 else if b<a then 1 else 0
theorem ZDI (a b:Int):cmpI a b=0 ↔ a=b:=by unfold cmpI;split<;>(try split)<;>omega
theorem ZDJ (a:Int):cmpI a a=0:=by simp [cmpI]
theorem ZM4 (x:Int) (w:World):Calls Tryz.prog 175 #[.int .i64 x] w fun e w'=>e=.returned (.bool false)∧w=w':=by
 go_enter func175,ntmps175
 go_wp2
 go_ret
 exact ⟨ZAG (by simp),rfl⟩
theorem ZIN (x:Int) (w:World):Calls Tryz.prog 176 #[.int .i64 x] w fun e w'=>e=.returned (.bool false)∧w=w':=by
 go_enter func176,ntmps176
 go_wp2
 go_ret
 exact ⟨ZAG (by simp),rfl⟩
theorem ZDK (x y:Int) (w:World):Calls Tryz.prog 170 #[.int .i64 x,.int .i64 y] w fun e w'=>e=.returned (.int .i64 (cmpI x y))∧w=w':=by
 have hx:=fun w=>ZM4 x w
 have hy:=fun w=>ZM4 y w
 unfold cmpI
 rcases Int.lt_trichotomy x y with h | h | h
 ·have d1:decide (x<y)=true:=by simpa using h
  rw [if_pos h]
  go_enter func170,ntmps170
  go_wp2_with (first | (go_at_call 175;(first | with_reducible refine (hx _).mono ?_ | with_reducible refine (hy _).mono ?_);rintro e w' ⟨rfl,rfl⟩))
  go_ret
  exact ⟨rfl,rfl⟩
 ·subst h
  rw [if_neg (by omega),if_neg (by omega)]
  go_enter func170,ntmps170
  go_wp2_with (first | (go_at_call 175;(first | with_reducible refine (hx _).mono ?_ | with_reducible refine (hy _).mono ?_);rintro e w' ⟨rfl,rfl⟩))
  go_ret
  exact ⟨rfl,rfl⟩
 ·have d1:decide (x<y)=false:=by simp;omega
  have d2:decide (y<x)=true:=by simpa using h
  rw [if_neg (by omega),if_pos h]
  go_enter func170,ntmps170
  go_wp2_with (first | (go_at_call 175;(first | with_reducible refine (hx _).mono ?_ | with_reducible refine (hy _).mono ?_);rintro e w' ⟨rfl,rfl⟩))
  go_ret
  exact ⟨rfl,rfl⟩
theorem ZIO (x y:Int) (w:World):Calls Tryz.prog 171 #[.int .i64 x,.int .i64 y] w fun e w'=>e=.returned (.int .i64 (cmpI x y))∧w=w':=by
 have hx:=fun w=>ZIN x w
 have hy:=fun w=>ZIN y w
 unfold cmpI
 rcases Int.lt_trichotomy x y with h | h | h
 ·have d1:decide (x<y)=true:=by simpa using h
  rw [if_pos h]
  go_enter func171,ntmps171
  go_wp2_with (first | (go_at_call 176;(first | with_reducible refine (hx _).mono ?_ | with_reducible refine (hy _).mono ?_);rintro e w' ⟨rfl,rfl⟩))
  go_ret
  exact ⟨rfl,rfl⟩
 ·subst h
  rw [if_neg (by omega),if_neg (by omega)]
  go_enter func171,ntmps171
  go_wp2_with (first | (go_at_call 176;(first | with_reducible refine (hx _).mono ?_ | with_reducible refine (hy _).mono ?_);rintro e w' ⟨rfl,rfl⟩))
  go_ret
  exact ⟨rfl,rfl⟩
 ·have d1:decide (x<y)=false:=by simp;omega
  have d2:decide (y<x)=true:=by simpa using h
  rw [if_neg (by omega),if_pos h]
  go_enter func171,ntmps171
  go_wp2_with (first | (go_at_call 176;(first | with_reducible refine (hx _).mono ?_ | with_reducible refine (hy _).mono ?_);rintro e w' ⟨rfl,rfl⟩))
  go_ret
  exact ⟨rfl,rfl⟩
def orI (x y:Int):Int:=if x≠0 then x else y
theorem ZQQ (x y:Int) (b cap:Nat) (w:World) (h0:w.cell? ⟨b,0,none⟩=some (.int .i64 x)) (h1:w.cell? ⟨b,1,none⟩=some (.int .i64 y)) :
  Calls Tryz.prog 169 #[.slice (some ⟨b,0,none⟩) 2 cap] w fun e w'=>e=.returned (.int .i64 (orI x y))∧w=w':=by
 unfold orI
 by_cases hx:x=0
 ·subst hx
  rw [if_neg (by omega)]
  by_cases hy:y=0
  ·subst hy
   go_enter func169,ntmps169
   go_wp2
   go_loop [5,8] (fun _ i=>i=.int .i64 0∨i=.int .i64 1∨i=.int .i64 2) (fun _ i=>2-(intOf i).toNat)
   case atStart=>exact .inl rfl
   case round=>
    rcases hrel with rfl | rfl | rfl
    ·go_wp2
     go_round
     case rel=>exact .inr (.inl rfl)
     case measure=>simp [intOf]
    ·go_wp2
     go_round
     case rel=>exact .inr (.inr rfl)
     case measure=>simp [intOf]
    ·go_wp2
     go_ret
     exact ⟨rfl,rfl⟩
  ·have d:(y != 0)=true:=by simpa using hy
   go_enter func169,ntmps169
   go_wp2
   go_loop [5,8] (fun _ i=>i=.int .i64 0∨i=.int .i64 1) (fun _ i=>2-(intOf i).toNat)
   case atStart=>exact .inl rfl
   case round=>
    rcases hrel with rfl | rfl
    ·go_wp2
     go_round
     case rel=>exact .inr rfl
     case measure=>simp [intOf]
    ·go_wp2
     go_ret
     exact ⟨rfl,rfl⟩
 ·have d:(x != 0)=true:=by simpa using hx
  rw [if_pos hx]
  go_enter func169,ntmps169
  go_wp2
  go_loop [5,8] (fun _ i=>i=.int .i64 0) (fun _ i=>2-(intOf i).toNat)
  case atStart=>rfl
  case round=>
   subst hrel
   go_wp2
   go_ret
   exact ⟨rfl,rfl⟩
def cmpB:List Int→List Int→Int
 | [],[]=>0
 | [],_ :: _=>-1
 | _ :: _,[]=>1
 |x :: a,y :: b=>if x-y≠0 then cmpI (x-y) 0 else cmpB a b
theorem ZPi (x y:Int) (w:World) (h:0≤x∧x≤255) (h':0≤y∧y≤255):Calls Tryz.prog 173 #[.int .u8 x,.int .u8 y] w fun e w'=>e=.returned (.int .i64 (x-y))∧w=w':=by
 go_enter func173,ntmps173
 go_wp2
 go_ret
 exact ⟨ZBK (by go_num),rfl⟩
theorem ZIP (l r:List Int) (q:Nat) (h1:q<l.length) (h2:q<r.length):cmpB (l.drop q) (r.drop q)=if l[q]?.getD 0-r[q]?.getD 0≠0 then cmpI (l[q]?.getD 0-r[q]?.getD 0) 0 else cmpB (l.drop (q+1)) (r.drop (q+1)):=by
 rw [List.drop_eq_getElem_cons h1,List.drop_eq_getElem_cons h2,List.getElem?_eq_getElem h1,List.getElem?_eq_getElem h2]
 rfl
theorem ZKf (l r:List Int) (q:Nat) (h:q=min l.length r.length):cmpB (l.drop q) (r.drop q)=cmpI l.length r.length:=by
 subst h
 rcases Nat.lt_trichotomy l.length r.length with h | h | h
 ·rw [Nat.min_eq_left (by omega),List.drop_length,List.drop_eq_getElem_cons h]
  unfold cmpI;rw [if_pos (by omega)];rfl
 ·rw [Nat.min_eq_left (by omega),List.drop_length,h,List.drop_length]
  simp [cmpB,cmpI]
 ·rw [Nat.min_eq_right (by omega),List.drop_length,List.drop_eq_getElem_cons h]
  unfold cmpI;rw [if_neg (by omega),if_pos (by omega)];rfl
theorem ZLo (a b:Option Addr) (c d m n:Nat) (l r:List Int) (w:World) (hl:Row w .u8 a m c l) (hr:Row w .u8 b n d r) (hbl:ZCh l) (hbr:ZCh r) :
  Calls Tryz.prog 172 #[.slice a m c,.slice b n d,.func (.func 173) #[] #[]] w fun e w'=>e=.returned (.int .i64 (cmpB l r))∧∃ k,w'=w.drewN k:=by
 obtain ⟨l1,l2,l3,l4⟩:=hl
 obtain ⟨r1,r2,r3,r4⟩:=hr
 unfold maxLen at l3 r3
 have hcm:=fun w=>ZDK (m:Int) (n:Int) w
 obtain ⟨z,hz⟩:∃ z,cmpB l r=z:=⟨_,rfl⟩
 rw [hz]
 have HZ:=ZZY hz;clear hz
 rcases Nat.lt_or_ge n m with hmn | hmn
 all_goals (
  go_enter func172,ntmps172
  go_wp2_with fail
  all_goals (first | (exfalso;omega) | skip)
  go_loopw [7,8,14] (fun _ _ i wr=>∃ q nq:Nat,q≤m∧q≤n∧i=.int .i64 (q:Int)∧wr=w.drewN nq∧Hid (cmpB (l.drop q) (r.drop q)=z)) (fun _ _ i _=>m-(intOf i).toNat))
 all_goals (first | (case' atStart=>exact ⟨0,0,Nat.zero_le _,Nat.zero_le _,rfl,rfl,HZ.out⟩) | skip)
 all_goals (
  obtain ⟨q,n1,hq1,hq2,rfl,hwr,HQ⟩:=hrel
  by_cases hqq:q<m∧q<n
  ·obtain ⟨ba,oa,rfl,ca⟩:∃ b off,a=some ⟨b,off,none⟩∧∀ i,i<m→w.cell? ⟨b,off+i,none⟩=some (.int .u8 (l[i]?.getD 0)):=by
    rcases l4 with h | h
    ·omega
    ·exact h
   obtain ⟨bb,ob,rfl,cb⟩:∃ b' off,b=some ⟨b',off,none⟩∧∀ i,i<n→w.cell? ⟨b',off+i,none⟩=some (.int .u8 (r[i]?.getD 0)):=by
    rcases r4 with h | h
    ·omega
    ·exact h
   have g1:wr.cell? ⟨ba,oa+q,none⟩=some (.int .u8 (l[q]?.getD 0)):=by rw [hwr];exact ca q hqq.1
   have g2:wr.cell? ⟨bb,ob+q,none⟩=some (.int .u8 (r[q]?.getD 0)):=by rw [hwr];exact cb q hqq.2
   have HW:=ZZY hwr
   clear hwr
   have hst:=ZIP l r q (by omega) (by omega)
   rw [HQ.out] at hst
   have hsub:=fun w=>(ZPi (l[q]?.getD 0) (r[q]?.getD 0) w (hbl q) (hbr q)).mono fun e w' h=>(⟨h.1,h.2.symm⟩:e=.returned (.int .i64 (l[q]?.getD 0-r[q]?.getD 0))∧w'=w)
   obtain ⟨u,hu⟩:∃ u,l[q]?.getD 0=u:=⟨_,rfl⟩
   obtain ⟨v,hv⟩:∃ v,r[q]?.getD 0=v:=⟨_,rfl⟩
   rw [hu] at g1 hst hsub
   rw [hv] at g2 hst hsub
   obtain ⟨o,ho⟩:∃ o,u-v=o:=⟨_,rfl⟩
   rw [ho] at hst hsub
   have hcz:=fun w=>ZDK o 0 w
   have HST:=ZZY hst
   have hd1:decide (q<m)=true:=by simpa using hqq.1
   have hd2:decide (q<n)=true:=by simpa using hqq.2
   have hlt1:=hqq.1
   have hlt2:=hqq.2
   clear hst hu hv ho ca cb l4 r4 HQ hqq hbl hbr
   by_cases ho:o=0
   ·subst ho
    go_wp2_with fail
    go_quiet (first | (go_at_call 173;refine Calls.quiet_of_same (hsub _)))
    go_wp2_with fail
    go_roundw
    all_goals (first | (case' rel=>exact ⟨q+1,_,by omega,by omega,by go_num,by rw [HW.out,World.drewN_drewN],(HST.out.trans (if_neg (by omega))).symm⟩) | (case' measure=>simp [intOf];omega))
   ·have hne:(o != 0)=true:=by simpa using ho
    go_wp2_with fail
    go_quiet (first | (go_at_call 173;refine Calls.quiet_of_same (hsub _)))
    go_wp2_with (first | (go_at_call 170;(with_reducible refine (hcz _).mono ?_);rintro e w' ⟨rfl,rfl⟩))
    go_ret
    exact ⟨ZBK (HST.out.trans (if_pos (by omega))).symm,_,by rw [HW.out,World.drewN_drewN]⟩
  ·have hq:q=min l.length r.length:=by omega
   have hen:=ZKf l r q hq
   rw [HQ.out,l1,r1] at hen
   have HE:=ZZY hen
   clear hen
   have hd:decide (q<m)=false∨decide (q<n)=false:=by simp;omega
   first
    |(have hd1:decide (q<m)=false:=by simp;omega)
    |(have hd1:decide (q<n)=false:=by simp;omega)
   clear l4 r4 hqq hq hd
   go_wp2_with (first | (go_at_call 170;(with_reducible refine (hcm _).mono ?_);rintro e w' ⟨rfl,rfl⟩))
   all_goals (first | (exfalso;omega) | skip)
   go_ret
   exact ⟨ZBK HE.out.symm,_,rfl⟩)
open Go.RowKit Go.Shelf
mutual
def cmpV:PV→PV→Int
 | .mk k n s l,.mk k' n' s' l'=>if orI (cmpI k k') (cmpI n n')≠0 then orI (cmpI k k') (cmpI n n') else if strB s≠strB s' then cmpB (strB s) (strB s') else cmpL l l'
def cmpL:List PV→List PV→Int
 | [],[]=>0
 | [],_ :: _=>-1
 | _ :: _,[]=>1
 |x :: a,y :: b=>if cmpV x y≠0 then cmpI (cmpV x y) 0 else cmpL a b
end
theorem ZIQ (l r:List PV) (q:Nat) (x y:PV) (h1:l[q]? = some x) (h2:r[q]? = some y):cmpL (l.drop q) (r.drop q)=if cmpV x y≠0 then cmpI (cmpV x y) 0 else cmpL (l.drop (q+1)) (r.drop (q+1)):=by
 obtain ⟨g1,rfl⟩:=List.getElem?_eq_some_iff.1 h1
 obtain ⟨g2,rfl⟩:=List.getElem?_eq_some_iff.1 h2
 rw [List.drop_eq_getElem_cons g1,List.drop_eq_getElem_cons g2]
 simp only [cmpL]
theorem ZKg (l r:List PV) (q:Nat) (h:q=min l.length r.length):cmpL (l.drop q) (r.drop q)=cmpI l.length r.length:=by
 subst h
 rcases Nat.lt_trichotomy l.length r.length with h | h | h
 ·rw [Nat.min_eq_left (by omega),List.drop_length,List.drop_eq_getElem_cons h]
  unfold cmpI;rw [if_pos (by omega)];simp only [cmpL]
 ·rw [Nat.min_eq_left (by omega),List.drop_length,h,List.drop_length]
  simp [cmpL,cmpI]
 ·rw [Nat.min_eq_right (by omega),List.drop_length,List.drop_eq_getElem_cons h]
  unfold cmpI;rw [if_neg (by omega),if_pos (by omega)];simp only [cmpL]
theorem ZAI (w:World):Below w.heap.size w w.drew:=⟨rfl,rfl,rfl,Nat.le_refl _,fun _ _=>rfl⟩
theorem ZLp (l r:List PV)
  (hc:∀ x∈l,∀ y∈r,∀ w v v',Is w x v→Is w y v'→Calls Tryz.prog 168 #[v,v'] w fun e w'=>e=.returned (.int .i64 (cmpV x y))∧Below w.heap.size w w')
  (w:World) (a b:Option Addr) (c d m n:Nat) (hm:l.length=m) (hn:r.length=n) (l2:m≤c) (l3:c≤maxLen) (r2:n≤d) (r3:d≤maxLen)
  (l4:l = []∨∃ b off,a=some ⟨b,off,none⟩∧IsL w b l off) (r4:r = []∨∃ b' off,b=some ⟨b',off,none⟩∧IsL w b' r off) :
  Calls Tryz.prog 174 #[.slice a m c,.slice b n d,.func (.func 168) #[] #[]] w fun e w'=>e=.returned (.int .i64 (cmpL l r))∧Below w.heap.size w w':=by
 unfold maxLen at l3 r3
 have hcm:=fun w=>ZDK (m:Int) (n:Int) w
 obtain ⟨z,hz⟩:∃ z,cmpL l r=z:=⟨_,rfl⟩
 rw [hz]
 have HZ:=ZZY hz;clear hz
 have HC:=ZZY hc;clear hc
 rcases Nat.lt_or_ge n m with hmn | hmn
 all_goals (
  go_enter func174,ntmps174
  go_wp2_with fail
  all_goals (first | (exfalso;omega) | skip)
  go_loopw [7,8,14] (fun _ _ i wr=>∃ q:Nat,q≤m∧q≤n∧i=.int .i64 (q:Int)∧Below w.heap.size w wr∧Hid (cmpL (l.drop q) (r.drop q)=z)) (fun _ _ i _=>m-(intOf i).toNat))
 all_goals (first | (case' atStart=>exact ⟨0,Nat.zero_le _,Nat.zero_le _,rfl,Below.refl _ _,HZ.out⟩) | skip)
 all_goals (
  obtain ⟨q,hq1,hq2,rfl,hB,HQ⟩:=hrel
  by_cases hqq:q<m∧q<n
  ·obtain ⟨x,hx⟩:∃ x,l[q]? = some x:=⟨l[q]'(by omega),List.getElem?_eq_getElem (by omega)⟩
   obtain ⟨y,hy⟩:∃ y,r[q]? = some y:=⟨r[q]'(by omega),List.getElem?_eq_getElem (by omega)⟩
   obtain ⟨ba,oa,rfl,ca⟩:∃ b off,a=some ⟨b,off,none⟩∧IsL w b l off:=by
    rcases l4 with h | h
    ·subst h;simp at hm;omega
    ·exact h
   obtain ⟨bb,ob,rfl,cb⟩:∃ b' off,b=some ⟨b',off,none⟩∧IsL w b' r off:=by
    rcases r4 with h | h
    ·subst h;simp at hn;omega
    ·exact h
   have hst:=ZIQ l r q x y hx hy
   rw [HQ.out] at hst
   obtain ⟨o,ho⟩:∃ o,cmpV x y=o:=⟨_,rfl⟩
   have hcall:=HC.out x (List.mem_of_getElem? hx) y (List.mem_of_getElem? hy)
   rw [ho] at hst hcall
   cases x with
   |mk xk xn xs xl=>
   cases y with
   |mk yk yn ys yl=>
   obtain ⟨xa,xc,⟨g0,g1,g2,g3⟩,hix⟩:=ZCT (ZA7 hB ca) q _ _ _ _ hx
   obtain ⟨ya,yc,⟨k0,k1,k2,k3⟩,hiy⟩:=ZCT (ZA7 hB cb) q _ _ _ _ hy
   have hix2:=ZZY (ZAf (ZAI wr) _ _ hix)
   have hiy2:=ZZY (ZAf (ZAI wr) _ _ hiy)
   have HCALL:=ZZY hcall
   have hcz:=fun w=>ZDK o 0 w
   have HST:=ZZY hst
   have hd1:decide (q<m)=true:=by simpa using hqq.1
   have hd2:decide (q<n)=true:=by simpa using hqq.2
   have hlt1:=hqq.1
   have hlt2:=hqq.2
   clear hst hx hy ho ca cb l4 r4 HQ hqq hcall hix hiy
   by_cases ho:o=0
   ·subst ho
    go_wp2_with fail
    go_region_with (first | (go_at_call 168;(with_reducible refine (HCALL.out _ _ _ hix2.out hiy2.out).mono ?_);rintro e w' ⟨rfl,hb⟩))
    all_goals (
     go_wp2_with fail
     go_roundw
     all_goals (first | (case' rel=>exact ⟨q+1,by omega,by omega,by go_num,hB.trans (((ZAI wr).trans (hb.mono (ZAI wr).size)).mono hB.size),(HST.out.trans (if_neg (by omega))).symm⟩) | (case' measure=>simp [intOf];omega)))
   ·have hne:(o != 0)=true:=by simpa using ho
    go_wp2_with fail
    go_region_with (first | (go_at_call 168;(with_reducible refine (HCALL.out _ _ _ hix2.out hiy2.out).mono ?_);rintro e w' ⟨rfl,hb⟩))
    all_goals (
     go_wp2_with (first | (go_at_call 170;(with_reducible refine (hcz _).mono ?_);rintro e w' ⟨rfl,rfl⟩))
     go_ret
     exact ⟨ZBK (HST.out.trans (if_pos (by omega))).symm,hB.trans (((ZAI wr).trans (hb.mono (ZAI wr).size)).mono hB.size)⟩)
  ·have hq:q=min l.length r.length:=by omega
   have hen:=ZKg l r q hq
   rw [HQ.out,hm,hn] at hen
   have HE:=ZZY hen
   clear hen
   have hd:decide (q<m)=false∨decide (q<n)=false:=by simp;omega
   first
    |(have hd1:decide (q<m)=false:=by simp;omega)
    |(have hd1:decide (q<n)=false:=by simp;omega)
   clear l4 r4 hqq hq hd
   go_wp2_with (first | (go_at_call 170;(with_reducible refine (hcm _).mono ?_);rintro e w' ⟨rfl,rfl⟩))
   all_goals (first | (exfalso;omega) | skip)
   go_ret
   exact ⟨ZBK HE.out.symm,hB⟩)
open Go.RowKit Go.Shelf
theorem ZGT {w W:World} {k n k' n':Int} {s s':ByteArray} {a a':Option Addr} {len cap len' cap':Nat}
  (hb:Below ((w.alloc (vobj k n s a len cap)).alloc (vobj k' n' s' a' len' cap')).heap.size ((w.alloc (vobj k n s a len cap)).alloc (vobj k' n' s' a' len' cap')) W) :
  (W.cell? ⟨w.heap.size,0,none⟩=some (.int .i64 k)∧W.cell? ⟨w.heap.size,1,none⟩=some (.int .i64 n)∧W.cell? ⟨w.heap.size,2,none⟩=some (.string s)∧W.cell? ⟨w.heap.size,3,none⟩=some (.slice a len cap)) ∧
  (W.cell? ⟨w.heap.size+1,0,none⟩=some (.int .i64 k')∧W.cell? ⟨w.heap.size+1,1,none⟩=some (.int .i64 n')∧W.cell? ⟨w.heap.size+1,2,none⟩=some (.string s')∧W.cell? ⟨w.heap.size+1,3,none⟩=some (.slice a' len' cap')):=by
 have h1:=(Below.refl _ (w.alloc (vobj k n s a len cap))).alloc (Nat.le_refl _) (vobj k' n' s' a' len' cap')
 have h2:=ZAi hb
 rw [World.size_alloc] at h2
 exact ⟨ZAi (h1.trans (hb.mono h1.size)),h2⟩
theorem ZKh {s t:ByteArray} (h:strB s=strB t):s=t:=by
 rw [←ZC9 s,h,ZC9]
theorem new2 (W:World) (x y:Value) (t:TypeId) (g:Nat) (hg:g=W.heap.size):(W.alloc (.cells #[x,y] t)).cell? ⟨g,0,none⟩=some x∧(W.alloc (.cells #[x,y] t)).cell? ⟨g,1,none⟩=some y:=by
 subst hg;exact ⟨by simp,by simp⟩
theorem ZJp (v:PV):∀ v' w x y,Is w v x→Is w v' y→Calls Tryz.prog 168 #[x,y] w fun e w'=>e=.returned (.int .i64 (cmpV v v'))∧Below w.heap.size w w':=by
 induction v using ZB1 with
 |h k n s l ih=>
  intro v' w x y hi hi'
  obtain ⟨k',n',s',l',rfl⟩:∃ k m s l,v'=.mk k m s l:=by cases v';exact ⟨_,_,_,_,rfl⟩
  unfold Is at hi hi'
  obtain ⟨h1,h2,h3,a,cap,rfl,h4,h5,h6⟩:=hi
  obtain ⟨i1,i2,i3,a',cap',rfl,i4,i5,i6⟩:=hi'
  have hB1:=(Below.refl _ w).alloc (Nat.le_refl _) (vobj k n s a l.length cap)
  have hB2:=hB1.alloc hB1.size (vobj k' n' s' a' l'.length cap')
  have hk:=fun w=>ZDK k k' w
  have hn:=fun w=>ZIO n n' w
  have hL:=fun w l4 r4=>ZLp l l' (fun x hx y _ w v v' hv hv'=>ih x hx y w v v' hv hv') w a a' cap cap' _ _ rfl rfl h4 h5 i4 i5 l4 r4
  simp only [cmpV]
  obtain ⟨ck,hck⟩:∃ c,cmpI k k'=c:=⟨_,rfl⟩
  obtain ⟨cn,hcn⟩:∃ c,cmpI n n'=c:=⟨_,rfl⟩
  rw [hck] at hk ⊢
  rw [hcn] at hn ⊢
  obtain ⟨o,ho⟩:∃ o,orI ck cn=o:=⟨_,rfl⟩
  have hor:=fun b W (q0:W.cell? ⟨b,0,none⟩=some (.int .i64 ck)) (q1:W.cell? ⟨b,1,none⟩=some (.int .i64 cn))=>ZQQ ck cn b 2 W q0 q1
  rw [ho] at hor ⊢
  have HOR:=ZZY hor
  clear hck hcn ho hor ih
  have hB4:=(hB2.alloc hB2.size (.cells #[.int .i64 ck,.int .i64 cn] 3)).drew
  by_cases ho:o=0
  ·subst ho
   rw [if_neg (by omega)]
   obtain ⟨r,hr⟩:∃ r,(if strB s≠strB s' then cmpB (strB s) (strB s') else cmpL l l')=r:=⟨_,rfl⟩
   rw [hr]
   have HR:=ZZY hr;clear hr
   go_enter func168,ntmps168
   go_wp2_with fail
   go_region_held3 (fun W=>(W.cell? ⟨w.heap.size,0,none⟩=some (.int .i64 k)∧W.cell? ⟨w.heap.size,1,none⟩=some (.int .i64 n))∧(W.cell? ⟨w.heap.size+1,0,none⟩=some (.int .i64 k')∧W.cell? ⟨w.heap.size+1,1,none⟩=some (.int .i64 n'))) (go_keep) (first
    |(go_at_call 170;(with_reducible refine (hk _).mono ?_);rintro e w' ⟨rfl,rfl⟩)
    |(go_at_call 171;(with_reducible refine (hn _).mono ?_);rintro e w' ⟨rfl,rfl⟩)
    |(go_at_call 169;(refine (HOR.out _ _ (by simp;exact (new2 _ _ _ _ _ (by simp)).1) (by simp;exact (new2 _ _ _ _ _ (by simp)).2)).mono ?_);rintro e w' ⟨rfl,rfl⟩))
   rename_i hSS
   clear hSS
   have hB24:=(((Below.refl _ ((w.alloc (vobj k n s a l.length cap)).alloc (vobj k' n' s' a' l'.length cap'))).alloc (Nat.le_refl _) (.cells #[.int .i64 ck,.int .i64 cn] 3))).drew
   obtain ⟨⟨c0,c1,c2,c3⟩,d0,d1,d2,d3⟩:=ZGT hB24
   generalize (((w.alloc (vobj k n s a l.length cap)).alloc (vobj k' n' s' a' l'.length cap')).alloc (.cells #[.int .i64 ck,.int .i64 cn] 3)).drew=W4 at *
   have h64:l = []∨∃ b off,a=some ⟨b,off,none⟩∧IsL W4 b l off:=by
    rcases h6 with h6 | ⟨b,off,rfl,h6⟩
    ·exact .inl h6
    ·exact .inr ⟨b,off,rfl,ZA7 hB4 h6⟩
   have i64:l' = []∨∃ b off,a'=some ⟨b,off,none⟩∧IsL W4 b l' off:=by
    rcases i6 with h6 | ⟨b,off,rfl,h6⟩
    ·exact .inl h6
    ·exact .inr ⟨b,off,rfl,ZA7 hB4 h6⟩
   have hLL:=hL W4 h64 i64
   clear h6 i6 h64 i64 hL
   by_cases hss:s=s'
   ·subst hss
    have HR2:=ZZY (HR.out.symm.trans (if_neg (by simp)))
    go_wp2_with (first | (go_at_call 174;(with_reducible refine hLL.mono ?_);rintro e w' ⟨rfl,hb⟩))
    go_ret
    exact ⟨ZBK HR2.out.symm,hB4.trans (hb.mono hB4.size)⟩
   ·have hne:(s.toList == s'.toList)=false:=by
     rw [ZAz,ZAz]
     simp only [beq_eq_false_iff_ne,ne_eq]
     exact fun h=>hss (ByteArray.ext (Array.toList_inj.1 h))
    have HR2:=ZZY (HR.out.symm.trans (if_pos (fun h=>hss (ZKh h))))
    clear hss
    obtain ⟨q1,w1,run1,row1,hb1⟩:=ZDs W4 s h3
    have d2:=ZAA hb1 d2
    have d3:=ZAA hb1 d3
    obtain ⟨q2,w2,run2,row2,hb2⟩:=ZDs w1 s' i3
    have hlb:=ZLo _ _ _ _ _ _ _ _ w2 (ZAk row1 hb2 rfl) row2 (ZCL s) (ZCL s')
    have hB5:=hB4.trans ((hb1.trans (hb2.mono hb1.size)).mono hB4.size)
    clear row1 row2
    go_wp2_with (first | (go_at_call 172;(with_reducible refine hlb.mono ?_);rintro e w' ⟨rfl,m,rfl⟩))
    go_ret
    exact ⟨ZBK HR2.out.symm,ZAh hB5 m⟩
  ·have hne:(o != 0)=true:=by simpa using ho
   rw [if_pos (by omega)]
   go_enter func168,ntmps168
   go_wp2_with fail
   go_region_held3 (fun W=>(W.cell? ⟨w.heap.size,0,none⟩=some (.int .i64 k)∧W.cell? ⟨w.heap.size,1,none⟩=some (.int .i64 n))∧(W.cell? ⟨w.heap.size+1,0,none⟩=some (.int .i64 k')∧W.cell? ⟨w.heap.size+1,1,none⟩=some (.int .i64 n'))) (go_keep) (first
    |(go_at_call 170;(with_reducible refine (hk _).mono ?_);rintro e w' ⟨rfl,rfl⟩)
    |(go_at_call 171;(with_reducible refine (hn _).mono ?_);rintro e w' ⟨rfl,rfl⟩)
    |(go_at_call 169;(refine (HOR.out _ _ (by simp;exact (new2 _ _ _ _ _ (by simp)).1) (by simp;exact (new2 _ _ _ _ _ (by simp)).2)).mono ?_);rintro e w' ⟨rfl,rfl⟩))
   go_wp2_with fail
   go_ret
   exact ⟨rfl,hB4⟩
theorem ZOZ (v v':PV) (w:World) (x y:Value) (hi:Is w v x) (hi':Is w v' y):Calls Tryz.prog 163 #[x,y] w fun e w'=>e=.returned (.bool (cmpV v v' == 0))∧Below w.heap.size w w':=by
 have hc:=fun w x y hi hi'=>ZJp v v' w x y hi hi'
 obtain ⟨c,hcv⟩:∃ c,cmpV v v'=c:=⟨_,rfl⟩
 rw [hcv] at hc ⊢
 clear hcv
 obtain ⟨k,n,s,l,rfl⟩:∃ k m s l,v=.mk k m s l:=by cases v;exact ⟨_,_,_,_,rfl⟩
 obtain ⟨k',n',s',l',rfl⟩:∃ k m s l,v'=.mk k m s l:=by cases v';exact ⟨_,_,_,_,rfl⟩
 have hi2:=ZZY hi
 have hi3:=ZZY hi'
 unfold Is at hi hi'
 obtain ⟨h1,h2,h3,a,cap,rfl,h4,h5,h6⟩:=hi
 obtain ⟨i1,i2,i3,a',cap',rfl,i4,i5,i6⟩:=hi'
 have hB1:=(Below.refl _ w).alloc (Nat.le_refl _) (vobj k n s a l.length cap)
 have hB2:=hB1.alloc hB1.size (vobj k' n' s' a' l'.length cap')
 clear h6 i6
 go_enter func163,ntmps163
 go_wp2_with (first | (go_at_call 168;(with_reducible refine (hc _ _ _ (ZAf hB2 _ _ hi2.out) (ZAf hB2 _ _ hi3.out)).mono ?_);rintro e w' ⟨rfl,hb⟩))
 go_ret
 exact ⟨rfl,hB2.trans (hb.mono hB2.size)⟩
open Go.RowKit Go.Shelf
theorem ZJq (a b:Int):cmpI a b = -1∨cmpI a b=0∨cmpI a b=1:=by unfold cmpI;split<;>(try split)<;>simp
theorem ZFm:∀ l r:List Int,cmpB l r=0 ↔ l=r:=by
 intro l
 induction l with
 |nil=>intro r;cases r<;>simp [cmpB]
 |cons x l ih=>
  intro r
  cases r with
  |nil=>simp [cmpB]
  |cons y r=>
   simp only [cmpB,List.cons.injEq]
   split
   ·rename_i h
    rw [ZDI]
    exact ⟨fun e=>absurd e h,fun e=>absurd (by omega:x-y=0) h⟩
   ·rename_i h
    rw [ih r]
    have:x=y:=by omega
    simp [this]
theorem ZPj:∀ l r:List Int,cmpB l r = -1∨cmpB l r=0∨cmpB l r=1:=by
 intro l
 induction l with
 |nil=>intro r;cases r<;>simp [cmpB]
 |cons x l ih=>
  intro r
  cases r with
  |nil=>simp [cmpB]
  |cons y r=>
   simp only [cmpB]
   split
   ·exact ZJq _ _
   ·exact ih r
theorem ZKi (x y:Int):orI x y=0 ↔ x=0∧y=0:=by
 unfold orI
 split
 ·rename_i h;exact ⟨fun e=>absurd e h,fun e=>absurd e.1 h⟩
 ·rename_i h;have:x=0:=by omega
  simp [this]
theorem ZIR:∀ v v':PV,cmpV v v'=0 ↔ v=v':=by
 intro v
 induction v using ZB1 with
 |h k n s l ih=>
  intro v'
  cases v' with
  |mk k' n' s' l'=>
  have hl:∀ l',cmpL l l'=0 ↔ l=l':=by
   clear k n s k' n' s' l'
   induction l with
   |nil=>intro l';cases l'<;>simp [cmpL]
   |cons x r ih2=>
    intro l'
    cases l' with
    |nil=>simp [cmpL]
    |cons y r'=>
     simp only [cmpL,List.cons.injEq]
     have hx:=ih x (by simp) y
     split
     ·rename_i h
      rw [ZDI]
      exact ⟨fun e=>absurd e h,fun e=>absurd (hx.2 e.1) h⟩
     ·rename_i h
      rw [ih2 (fun z hz=>ih z (by simp [hz])) r']
      have hxy:=hx.1 (by omega)
      simp [hxy]
  simp only [cmpV,PV.mk.injEq]
  split
  ·rename_i h
   constructor
   ·intro e;exact absurd e h
   ·rintro ⟨rfl,rfl,_⟩;exact absurd ((ZKi _ _).2 ⟨ZDJ _,ZDJ _⟩) h
  ·rename_i h
   have h0:=(ZKi _ _).1 (by omega:orI (cmpI k k') (cmpI n n')=0)
   have hk:=(ZDI _ _).1 h0.1
   have hn:=(ZDI _ _).1 h0.2
   split
   ·rename_i hs
    rw [ZFm]
    constructor
    ·intro e;exact absurd e hs
    ·rintro ⟨_,_,rfl,_⟩;exact absurd rfl hs
   ·rename_i hs
    have hss:s=s':=ZKh (by simpa using hs)
    rw [hl l']
    simp [hk,hn,hss]
theorem ZPk:∀ l l':List PV,cmpL l l' = -1∨cmpL l l'=0∨cmpL l l'=1:=by
 intro l
 induction l with
 |nil=>intro l';cases l'<;>simp [cmpL]
 |cons x r ih=>
  intro l'
  cases l' with
  |nil=>simp [cmpL]
  |cons y r'=>
   simp only [cmpL]
   split
   ·exact ZJq _ _
   ·exact ih r'
theorem ZPl (v v':PV):cmpV v v' = -1∨cmpV v v'=0∨cmpV v v'=1:=by
 cases v with
 |mk k n s l=>
 cases v' with
 |mk k' n' s' l'=>
 simp only [cmpV]
 split
 ·unfold orI;split<;>exact ZJq _ _
 ·split
  ·exact ZPj _ _
  ·exact ZPk _ _
def two (a b:PV):PV:=.mk 5 0 ⟨#[]⟩ [a,b]
def numsV:PV→Prop
 | .mk _ n _ l=>I64 n∧numsL l
where numsL:List PV→Prop
 | []=>True
 |x :: r=>numsV x∧numsL r
theorem ZKj {k n:Int} {s:ByteArray} {l:List PV} (h:okV (.mk k n s l)=true):k=0∨k=1∨k=2∨k=3∨k=4∨k=5:=by
 by_cases h0:k=0;· simp [h0]
 by_cases h1:k=1;· simp [h1]
 by_cases h2:k=2;· simp [h2]
 by_cases h3:k=3;· simp [h3]
 by_cases h4:k=4;· simp [h4]
 by_cases h5:k=5;· simp [h5]
 rw [okV6 _ _ _ _ h0 h1 h2 h3 h4 h5] at h
 cases h
theorem ZOa {s t:ByteArray} (h:s.toList.isEmpty=true) (h':t.toList.isEmpty=true):s=t:=by
 rw [ZAz] at h h'
 apply ByteArray.ext
 apply Array.toList_inj.1
 rw [List.isEmpty_iff.1 h,List.isEmpty_iff.1 h']
namespace Sc
def kindV:PV→Int
 | .mk k _ _ _=>k
def nilV:PV:=.mk 0 0 ⟨#[]⟩ []
def has (ty k:Nat):Bool:=decide (ty / 2 ^ k % 2=1)
def fits (ty:Int) (v:PV):Bool:=rightV v && has ty.toNat (kindV v).toNat
def sound (s:SlotM):Bool:=nameB (strB s.nm) && decide (0<s.ty) && decide (s.ty<64) && fits s.ty s.df
structure Ver where
 slots:List SlotM
 cols:List Nat
def eqN (a b:ByteArray):Bool:=decide (a.data.toList=b.data.toList)
theorem eqN_iff (a b:ByteArray):eqN a b=true ↔ a=b:=by
 unfold eqN
 rw [decide_eq_true_eq]
 exact ⟨fun h=>ByteArray.ext (Array.toList_inj.1 h),fun h=>by rw [h]⟩
def slotOf (x:Ver) (c:Nat):SlotM:=x.slots[c]?.getD default
def col (x:Ver) (nm:ByteArray):Option Nat:=x.cols.find? fun c=>eqN (slotOf x c).nm nm
def colI (x:Ver) (nm:ByteArray):Int:=match col x nm with
 |none=>-1
 |some c=>c
def rest (s:StepM):Bool:=
 (decide (s.kd=1) || (!s.sl.rq && decide (cmpV s.sl.df nilV=0))) && (decide (s.kd=5) || s.od.isEmpty) && (decide (s.kd=1) || decide (s.kd=3) || decide (s.sl.nm.size=0)) && (decide (s.kd=1) || decide (s.kd=4) || decide (s.sl.ty=0)) &&
 ((!decide (s.kd=1) && !decide (s.kd=5)) || decide (s.col=0))
def setNm (s:SlotM) (nm:ByteArray):SlotM:={ s with nm:=nm }
def setTy (s:SlotM) (ty:Int):SlotM:={ s with ty:=ty }
def once (od:List Int) (n:Nat):Bool:=(List.range n).all fun k=>decide ((od.filter fun x=>decide (x=(k:Int))).length=1)
def step (x:Ver) (s:StepM):Option Ver:=
 if rest s=false then none
 else if s.kd=1 then (if x.cols.length≤7∧sound s.sl=true∧s.sl.rq=false∧col x s.sl.nm=none then some ⟨x.slots ++ [s.sl],x.cols ++ [x.slots.length]⟩ else none)
 else if s.kd=5 then (if s.od.length=x.cols.length∧once s.od x.cols.length=true then some ⟨x.slots,s.od.map fun i=>x.cols[i.toNat]?.getD 0⟩ else none)
 else if s.kd<1∨5<s.kd∨s.col<0∨x.cols.length≤s.col then none
 else if s.kd=2 then (if 2≤x.cols.length then some ⟨x.slots,x.cols.eraseIdx s.col.toNat⟩ else none)
 else if s.kd=3 then (if nameB (strB s.sl.nm)=true∧col x s.sl.nm=none then some ⟨x.slots.modify (x.cols[s.col.toNat]?.getD 0) (fun t=>setNm t s.sl.nm),x.cols⟩ else none)
 else (let c:=x.cols[s.col.toNat]?.getD 0;let old:=(slotOf x c).ty.toNat
  if 1≤s.sl.ty∧s.sl.ty≤63∧old ||| s.sl.ty.toNat≠old then some ⟨x.slots.modify c (fun t=>setTy t ((old ||| s.sl.ty.toNat:Nat):Int)),x.cols⟩ else none)
def run:Ver→List StepM→Option (List Ver)
 |x,[]=>some [x]
 |x,s :: r=>match step x s with
  |none=>none
  |some y=>(run y r).map (x :: ·)
def first (l:List SlotM):Ver:=⟨l,List.range l.length⟩
def firstOk (l:List SlotM):Bool:=l.all sound && (List.range l.length).all fun i=>(List.range i).all fun j=>!eqN (l[j]?.getD default).nm (l[i]?.getD default).nm
def vers (t:TemplM):Option (List Ver):=
 if nameB (strB t.nm)=true∧1≤t.slots.length∧t.slots.length≤8∧t.steps.length≤8∧firstOk t.slots=true then run (first t.slots) t.steps else none
theorem ZLq:∀ (l:List StepM) (x:Ver) (L:List Ver),run x l=some L→L.length=l.length+1:=by
 intro l
 induction l with
 |nil=>intro x L h;simp only [run,Option.some.injEq] at h;subst h;rfl
 |cons s r ih=>
  intro x L h
  simp only [run] at h
  split at h
  ·cases h
  ·rename_i y hy
   cases hr:run y r with
   |none=>rw [hr] at h;cases h
   |some M=>
    rw [hr] at h
    simp only [Option.map_some,Option.some.injEq] at h
    subst h
    have:=ih y M hr
    simp [this]
theorem vers_length {t:TemplM} {L:List Ver} (h:vers t=some L):L.length=t.steps.length+1∧t.steps.length≤8:=by
 unfold vers at h
 split at h
 ·rename_i hc
  exact ⟨ZLq _ _ _ h,hc.2.2.2.1⟩
 ·cases h
end Sc
open Go.RowKit Go.Shelf
namespace Sc
theorem ofI (a:Nat) (ha:a<9223372036854775808):(BitVec.ofInt 64 (a:Int)).toNat=a:=by
 rw [BitVec.ofInt_natCast,BitVec.toNat_ofNat];exact Nat.mod_eq_of_lt (by omega)
theorem wrapI (n:Nat) (h:n<9223372036854775808):IntKind.i64.wrap (n:Int)=(n:Int):=by
 simp [IntKind.wrap,IntKind.bits,IntKind.signed]
 split<;>omega
theorem andI (a b:Nat) (ha:a<9223372036854775808) (hb:b<9223372036854775808):bits .and .i64 (a:Int) (b:Int)=((a &&& b:Nat):Int):=by
 have hx:a &&& b<2 ^ 63:=Nat.and_lt_two_pow _ (by omega)
 show IntKind.i64.wrap ((BitVec.ofInt 64 (a:Int) &&& BitVec.ofInt 64 (b:Int)).toNat:Int)=_
 rw [BitVec.toNat_and,ofI a ha,ofI b hb]
 exact wrapI _ (by omega)
theorem orI' (a b:Nat) (ha:a<9223372036854775808) (hb:b<9223372036854775808):bits .or .i64 (a:Int) (b:Int)=((a ||| b:Nat):Int):=by
 have hx:a ||| b<2 ^ 63:=Nat.or_lt_two_pow (by omega) (by omega)
 show IntKind.i64.wrap ((BitVec.ofInt 64 (a:Int) ||| BitVec.ofInt 64 (b:Int)).toNat:Int)=_
 rw [BitVec.toNat_or,ofI a ha,ofI b hb]
 exact wrapI _ (by omega)
theorem ZM5 (t k:Nat):(t &&& 2 ^ k=0) ↔ ¬t / 2 ^ k % 2=1:=by
 have e:t.testBit k=decide (t / 2 ^ k % 2=1):=by
  rw [Nat.testBit_eq_decide_div_mod_eq]
 constructor
 ·intro h hk
  have h2:(t &&& 2 ^ k).testBit k=false:=by rw [h];exact Nat.zero_testBit k
  rw [Nat.testBit_and,e,Nat.testBit_two_pow_self] at h2
  simp [hk] at h2
 ·intro h
  refine Nat.eq_of_testBit_eq fun i=>?_
  rw [Nat.testBit_and,Nat.zero_testBit]
  by_cases hi:k=i
  ·subst hi
   rw [e]
   simp [h]
  ·rw [Nat.testBit_two_pow_of_ne hi,Bool.and_false]
theorem and_has (t k:Nat):decide ((t &&& 2 ^ k)=0) = !has t k:=by
 unfold has
 by_cases h:t / 2 ^ k % 2=1
 ·rw [decide_eq_true h,decide_eq_false (fun e=>((ZM5 t k).1 e) h)];rfl
 ·rw [decide_eq_false h,decide_eq_true ((ZM5 t k).2 h)];rfl
theorem small_or:∀ a b:Nat,a<64→b<64→a ||| b<64:=fun a b ha hb=>Nat.or_lt_two_pow (n:=6) ha hb
theorem bitsNot (a b:Nat) (ha:a<64) (hb:b<64):bits .andNot .i64 (a:Int) (b:Int)=((a &&& (63-b):Nat):Int):=by
 have H:∀ (a b:Fin 64),bits .andNot .i64 ((a.val:Nat):Int) ((b.val:Nat):Int)=((a.val &&& (63-b.val):Nat):Int):=by decide +kernel
 exact H ⟨a,ha⟩ ⟨b,hb⟩
theorem not_or (a b:Nat) (ha:a<64) (hb:b<64):(a &&& (63-b)=0) ↔ b ||| a=b:=by
 have H:∀ (a b:Fin 64),(a.val &&& (63-b.val)=0) ↔ b.val ||| a.val=b.val:=by decide +kernel
 exact H ⟨a,ha⟩ ⟨b,hb⟩
end Sc
open Go.RowKit Go.Shelf
namespace Sc
def ZPI (s:SlotM):Prop:=1≤s.ty∧s.ty≤63∧rightV s.df=true
structure VerOk (n:Nat) (x:Ver):Prop where
 lt:∀ c∈x.cols,c<x.slots.length
 nodup:x.cols.Nodup
 len:x.cols.length≤8
 num:x.slots.length≤n
 ok:∀ s∈x.slots,ZPI s
theorem sound_ok {s:SlotM} (h:sound s=true):ZPI s:=by
 unfold sound fits at h
 simp only [Bool.and_eq_true,decide_eq_true_eq] at h
 exact ⟨by omega,by omega,h.2.1⟩
theorem find_at {α : Type} (p : α→Bool) (l:List α) (q:Nat) (x : α) (h:∀ (i:Nat) (y : α),i<q→l[i]? = some y→p y=false) (hx:l[q]? = some x) (hp:p x=true):l.find? p=some x:=by
 induction l generalizing q with
 |nil=>simp at hx
 |cons a r ih=>
  cases q with
  |zero=>
   simp only [List.getElem?_cons_zero,Option.some.injEq] at hx
   subst hx
   rw [List.find?_cons,hp]
  |succ q=>
   rw [List.find?_cons,h 0 a (by omega) rfl]
   exact ih q (fun i y hi hy=>h (i+1) y (by omega) (by simpa using hy)) (by simpa using hx)
theorem find_no {α : Type} (p : α→Bool) (l:List α) (h:∀ (i:Nat) (y : α),l[i]? = some y→p y=false):l.find? p=none:=by
 rw [List.find?_eq_none]
 intro y hy
 obtain ⟨i,hi⟩:=List.mem_iff_getElem?.1 hy
 rw [h i y hi]
 simp
theorem colI_neg (x:Ver) (nm:ByteArray):colI x nm<0 ↔ col x nm=none:=by
 unfold colI
 cases col x nm with
 |none=>simp
 |some c=>simp
theorem ZGU {α : Type} {l:List α} {i:Nat} {f : α→α} {P : α→Prop} (h:∀ s∈l,P s) (hf:∀ s,P s→P (f s)):∀ s∈l.modify i f,P s:=by
 intro s hs
 obtain ⟨j,hj⟩:=List.mem_iff_getElem?.1 hs
 rw [List.getElem?_modify] at hj
 obtain ⟨t,ht,rfl⟩:=Option.map_eq_some_iff.1 hj
 have:=h t (List.mem_of_getElem? ht)
 split
 ·exact hf t this
 ·exact this
def cnt (od:List Int) (k:Nat):Nat:=(od.filter fun x=>decide (x=(k:Int))).length
def inr (od:List Int) (m:Nat):Nat:=(od.filter fun x=>decide (0≤x) && decide (x<(m:Int))).length
theorem ZPm (x:Int) (m:Nat):((List.range m).map fun (k:Nat)=>if x=(k:Int) then 1 else 0).sum=if 0≤x∧x<(m:Int) then 1 else 0:=by
 induction m with
 |zero=>rw [if_neg (by omega)];rfl
 |succ m ih=>
  rw [List.range_succ,List.map_append,List.sum_append_nat,ih]
  simp only [List.map_cons,List.map_nil,List.sum_cons,List.sum_nil,Nat.add_zero]
  by_cases h1:x=(m:Int)
  ·rw [if_pos h1,if_neg (by omega),if_pos (by omega)]
  ·rw [if_neg h1]
   by_cases h2:0≤x∧x<(m:Int)
   ·rw [if_pos h2,if_pos (by omega)]
   ·rw [if_neg h2,if_neg (by omega)]
theorem ZPn (l:List Nat) (f g:Nat→Nat):(l.map fun k=>f k+g k).sum=(l.map f).sum+(l.map g).sum:=by
 induction l with
 |nil=>rfl
 |cons a r ih=>simp only [List.map_cons,List.sum_cons,ih];omega
theorem ZFN (x:Int) (r:List Int) (k:Nat):cnt (x :: r) k=(if x=(k:Int) then 1 else 0)+cnt r k:=by
 unfold cnt
 rw [List.filter_cons]
 by_cases h:x=(k:Int)
 ·rw [if_pos (by simpa using h),if_pos h,List.length_cons];omega
 ·rw [if_neg (by simpa using h),if_neg h];omega
theorem total (od:List Int) (m:Nat):((List.range m).map (cnt od)).sum=inr od m:=by
 induction od with
 |nil=>
  have:∀ l:List Nat,(l.map (cnt [])).sum=0:=by
   intro l
   induction l with
   |nil=>rfl
   |cons a r ih=>simp only [List.map_cons,List.sum_cons,ih];rfl
  exact this _
 |cons x r ih=>
  rw [show cnt (x :: r)=fun (k:Nat)=>(if x=(k:Int) then 1 else 0)+cnt r k from funext fun k=>ZFN x r k,ZPn,ih,ZPm]
  unfold inr
  rw [List.filter_cons]
  by_cases h:0≤x∧x<(m:Int)
  ·rw [if_pos h,if_pos (by simpa using h),List.length_cons];omega
  ·rw [if_neg h,if_neg (by simpa using h)];omega
theorem ZQR (l:List Nat) (f:Nat→Nat) (h:∀ k∈l,f k≤1):(l.map f).sum≤l.length∧((l.map f).sum=l.length→∀ k∈l,f k=1):=by
 induction l with
 |nil=>simp
 |cons a r ih=>
  obtain ⟨i1,i2⟩:=ih fun k hk=>h k (List.mem_cons_of_mem _ hk)
  have ha:=h a (List.mem_cons_self ..)
  simp only [List.map_cons,List.sum_cons,List.length_cons]
  refine ⟨by omega,fun e k hk=>?_⟩
  rcases List.mem_cons.1 hk with rfl | hk
  ·omega
  ·exact i2 (by omega) k hk
theorem ZPo (l:List Nat) (f:Nat→Nat) (h:∀ k∈l,f k=1):(l.map f).sum=l.length:=by
 induction l with
 |nil=>rfl
 |cons a r ih=>
  simp only [List.map_cons,List.sum_cons,List.length_cons,ih fun k hk=>h k (List.mem_cons_of_mem _ hk),h a (List.mem_cons_self ..)]
  omega
theorem ZM6 {od:List Int} (h:od.Nodup) (k:Nat):cnt od k≤1:=by
 induction od with
 |nil=>exact Nat.zero_le _
 |cons x r ih=>
  obtain ⟨h1,h2⟩:=List.nodup_cons.1 h
  rw [ZFN]
  split
  ·rename_i e
   have:cnt r k=0:=by
    unfold cnt
    rw [List.length_eq_zero_iff,List.filter_eq_nil_iff]
    intro y hy
    simp only [decide_eq_true_eq]
    rintro rfl
    exact h1 (e ▸ hy)
   omega
  ·have:=ih h2;omega
theorem ZM7 {od:List Int} {m:Nat} (hin:∀ x∈od,0≤x∧x<(m:Int)) (h:∀ k,k<m→cnt od k≤1):od.Nodup:=by
 induction od with
 |nil=>exact List.nodup_nil
 |cons x r ih=>
  refine List.nodup_cons.2 ⟨fun hx=>?_,ih (fun y hy=>hin y (List.mem_cons_of_mem _ hy)) fun k hk=>?_⟩
  ·obtain ⟨h0,h1⟩:=hin x (List.mem_cons_self ..)
   have h2:=h x.toNat (by omega)
   rw [ZFN,if_pos (by omega)] at h2
   have:0<cnt r x.toNat:=by
    unfold cnt
    exact List.length_pos_of_mem (List.mem_filter.2 ⟨hx,by simp;omega⟩)
   omega
  ·have:=h k hk
   rw [ZFN] at this
   omega
theorem once_iff (od:List Int) (m:Nat) (hl:od.length=m):once od m=true ↔ (∀ x∈od,0≤x∧x<(m:Int))∧od.Nodup:=by
 have e:once od m=true ↔ ∀ k,k<m→cnt od k=1:=by
  unfold once cnt
  rw [List.all_eq_true]
  constructor
  ·intro h k hk
   have:=h k (List.mem_range.2 hk)
   simpa using this
  ·intro h k hk
   simpa using h k (List.mem_range.1 hk)
 rw [e]
 constructor
 ·intro h
  have ht:=total od m
  rw [ZPo _ _ fun k hk=>h k (List.mem_range.1 hk),List.length_range] at ht
  have hin:∀ x∈od,0≤x∧x<(m:Int):=by
   have h2:(od.filter fun x=>decide (0≤x) && decide (x<(m:Int))).length=od.length:=by unfold inr at ht;omega
   rw [List.length_filter_eq_length_iff] at h2
   intro x hx
   simpa using h2 x hx
  exact ⟨hin,ZM7 hin fun k hk=>Nat.le_of_eq (h k hk)⟩
 ·rintro ⟨h1,h2⟩ k hk
  have hs:=ZQR (List.range m) (cnt od) fun k _=>ZM6 h2 k
  have ht:=total od m
  have hi:inr od m=m:=by
   unfold inr
   rw [List.filter_eq_self.2 fun x hx=>by simpa using h1 x hx,hl]
  exact hs.2 (by rw [ht,hi,List.length_range]) k (List.mem_range.2 hk)
theorem nodup_at {α : Type} {l:List α} (h:l.Nodup) {i j:Nat} {x : α} (hi:l[i]? = some x) (hj:l[j]? = some x):i=j:=by
 obtain ⟨h1,e1⟩:=List.getElem?_eq_some_iff.1 hi
 obtain ⟨h2,e2⟩:=List.getElem?_eq_some_iff.1 hj
 have:=(List.pairwise_iff_getElem.1 h)
 rcases Nat.lt_trichotomy i j with hlt | he | hgt
 ·exact absurd (e1.trans e2.symm) (this i j h1 h2 hlt)
 ·exact he
 ·exact absurd (e2.trans e1.symm) (this j i h2 h1 hgt)
theorem ZM8 {α β : Type} {f : α→β} : ∀ {l:List α},l.Nodup→(∀ x∈l,∀ y∈l,f x=f y→x=y)→(l.map f).Nodup:=by
 intro l
 induction l with
 |nil=>intro _ _;exact List.nodup_nil
 |cons a r ih=>
  intro h hf
  obtain ⟨h1,h2⟩:=List.nodup_cons.1 h
  rw [List.map_cons]
  refine List.nodup_cons.2 ⟨fun hm=>?_,ih h2 fun x hx y hy=>hf x (List.mem_cons_of_mem _ hx) y (List.mem_cons_of_mem _ hy)⟩
  obtain ⟨b,hb,e⟩:=List.mem_map.1 hm
  exact h1 ((hf b (List.mem_cons_of_mem _ hb) a (List.mem_cons_self ..) e) ▸ hb)
theorem step_ok {n:Nat} {x y:Ver} {s:StepM} (h:VerOk n x) (hs:step x s=some y):VerOk (n+1) y:=by
 unfold step at hs
 split at hs
 ·cases hs
 split at hs
 ·split at hs
  ·rename_i hc
   simp only [Option.some.injEq] at hs
   subst hs
   refine ⟨fun c hc'=>?_, ?_, ?_, ?_,fun t ht=>?_⟩
   ·simp only [List.length_append,List.length_cons,List.length_nil]
    rcases List.mem_append.1 hc' with g | g
    ·have:=h.lt c g;omega
    ·simp at g;omega
   ·simp only
    refine List.nodup_append.2 ⟨h.nodup,(List.nodup_cons.2 ⟨List.not_mem_nil,List.nodup_nil⟩),fun a ha b hb=>?_⟩
    simp at hb
    have:=h.lt a ha
    omega
   ·simp only [List.length_append,List.length_cons,List.length_nil];omega
   ·have:=h.num
    simp only [List.length_append,List.length_cons,List.length_nil];omega
   ·rcases List.mem_append.1 ht with g | g
    ·exact h.ok t g
    ·simp at g;subst g;exact sound_ok hc.2.1
  ·cases hs
 split at hs
 ·split at hs
  ·rename_i hc
   simp only [Option.some.injEq] at hs
   subst hs
   obtain ⟨hin,hnd⟩:=(once_iff s.od x.cols.length hc.1).1 hc.2
   refine ⟨fun c hc'=>?_, ?_, ?_,Nat.le_succ_of_le h.num,h.ok⟩
   ·obtain ⟨i,hi,rfl⟩:=List.mem_map.1 hc'
    have:=hin i hi
    have hlt:i.toNat<x.cols.length:=by omega
    rw [List.getElem?_eq_getElem hlt]
    exact h.lt _ (List.getElem_mem hlt)
   ·refine ZM8 hnd fun a ha b hb e=>?_
    have h1:=hin a ha
    have h2:=hin b hb
    have e1:x.cols[a.toNat]? = some x.cols[a.toNat]:=List.getElem?_eq_getElem (by omega)
    have e2:x.cols[b.toNat]? = some x.cols[b.toNat]:=List.getElem?_eq_getElem (by omega)
    rw [e1,e2] at e
    have e':x.cols[a.toNat]=x.cols[b.toNat]:=e
    have:=nodup_at h.nodup e1 (e' ▸ e2)
    omega
   ·simp only [List.length_map];rw [hc.1];exact h.len
  ·cases hs
 split at hs
 ·cases hs
 split at hs
 ·split at hs
  ·simp only [Option.some.injEq] at hs
   subst hs
   refine ⟨fun c hc=>h.lt c (List.mem_of_mem_eraseIdx hc),h.nodup.sublist (List.eraseIdx_sublist ..),Nat.le_trans (List.length_eraseIdx_le ..) h.len,Nat.le_succ_of_le h.num,h.ok⟩
  ·cases hs
 split at hs
 ·split at hs
  ·simp only [Option.some.injEq] at hs
   subst hs
   exact ⟨fun c hc=>by rw [List.length_modify];exact h.lt c hc,h.nodup,h.len,by rw [List.length_modify];exact Nat.le_succ_of_le h.num,ZGU h.ok fun t ht=>ht⟩
  ·cases hs
 ·dsimp only at hs
  split at hs
  ·rename_i hcol _ _ hc
   simp only [Option.some.injEq] at hs
   subst hs
   refine ⟨fun c hc=>by rw [List.length_modify];exact h.lt c hc,h.nodup,h.len,by rw [List.length_modify];exact Nat.le_succ_of_le h.num,ZGU h.ok fun t ht=>?_⟩
   have hold:(slotOf x (x.cols[s.col.toNat]?.getD 0)).ty.toNat<64:=by
    have hlt:s.col.toNat<x.cols.length:=by omega
    have hcl:=h.lt _ (List.getElem_mem hlt)
    unfold slotOf
    rw [List.getElem?_eq_getElem hlt]
    simp only [Option.getD_some]
    rw [List.getElem?_eq_getElem hcl]
    have:=(h.ok _ (List.getElem_mem hcl)).2.1
    simp only [Option.getD_some]
    omega
   have h64:=small_or _ s.sl.ty.toNat hold (by omega)
   have hle:s.sl.ty.toNat≤(slotOf x (x.cols[s.col.toNat]?.getD 0)).ty.toNat ||| s.sl.ty.toNat:=Nat.right_le_or
   exact ⟨by simp only [setTy];omega,by simp only [setTy];omega,ht.2.2⟩
  ·cases hs
theorem firstOk_iff (l:List SlotM):firstOk l=true ↔ ∀ i,i<l.length→sound (l[i]?.getD default)=true∧col ⟨l,List.range i⟩ (l[i]?.getD default).nm=none:=by
 unfold firstOk
 rw [Bool.and_eq_true,List.all_eq_true,List.all_eq_true]
 constructor
 ·rintro ⟨h1,h2⟩ i hi
  refine ⟨by rw [List.getElem?_eq_getElem hi];exact h1 _ (List.getElem_mem hi), ?_⟩
  have h3:=h2 i (List.mem_range.2 hi)
  rw [List.all_eq_true] at h3
  unfold col
  rw [List.find?_eq_none]
  intro c hc
  have:=h3 c hc
  simpa [slotOf] using this
 ·intro h
  refine ⟨fun s hs=>?_,fun i hi=>?_⟩
  ·obtain ⟨i,hi⟩:=List.mem_iff_getElem?.1 hs
   have:=(h i (List.getElem?_eq_some_iff.1 hi).1).1
   rwa [hi] at this
  ·rw [List.all_eq_true]
   intro j hj
   have h3:=(h i (List.mem_range.1 hi)).2
   unfold col at h3
   rw [List.find?_eq_none] at h3
   have:=h3 j hj
   simpa [slotOf] using this
theorem first_ok {l:List SlotM} (h:firstOk l=true) (h8:l.length≤8):VerOk 8 (first l):=by
 have hs:=(firstOk_iff l).1 h
 refine ⟨fun c hc=>by simpa [first] using hc,by simpa [first] using List.nodup_range,by simpa [first] using h8,by simpa [first] using h8,fun s hs'=>?_⟩
 obtain ⟨i,hi⟩:=List.mem_iff_getElem?.1 hs'
 have hi':l[i]? = some s:=hi
 have:=(hs i (List.getElem?_eq_some_iff.1 hi').1).1
 rw [hi'] at this
 exact sound_ok this
end Sc
open Go.RowKit Go.Shelf
def greatS (s:SlotM):Bool:=greatV s.df || decide (300<s.nm.size)
def greatP (t:StepM):Bool:=greatV t.sl.df || decide (300<t.sl.nm.size) || decide (30<t.od.length)
def greatT (t:TemplM):Bool:=(decide (30<t.slots.length) || decide (30<t.steps.length) || decide (300<t.nm.size)) || (t.slots.any greatS || t.steps.any greatP)
def wideS (s:SlotM):Bool:=greatV s.df || decide (maxLen<s.nm.size)
def wideP (t:StepM):Bool:=greatV t.sl.df || decide (maxLen<t.sl.nm.size) || decide (30<t.od.length)
def wideT (t:TemplM):Bool:=(decide (30<t.slots.length) || decide (30<t.steps.length) || decide (maxLen<t.nm.size)) || (t.slots.any wideS || t.steps.any wideP)
theorem ZHH {t:TemplM} (h:greatT t=false):wideT t=false:=by
 have hm:∀ n:Nat,decide (300<n)=false→decide (maxLen<n)=false:=fun n h=>by
  rw [decide_eq_false_iff_not] at h ⊢
  unfold maxLen;omega
 unfold greatT at h
 unfold wideT
 simp only [Bool.or_eq_false_iff] at h ⊢
 refine ⟨⟨h.1.1,hm _ h.1.2⟩,List.any_eq_false.2 fun s hs=>?_,List.any_eq_false.2 fun s hs=>?_⟩
 ·have h3:=List.any_eq_false.1 h.2.1 s hs
  unfold greatS at h3
  unfold wideS
  simp only [Bool.not_eq_true,Bool.or_eq_false_iff] at h3 ⊢
  exact ⟨h3.1,hm _ h3.2⟩
 ·have h3:=List.any_eq_false.1 h.2.2 s hs
  unfold greatP at h3
  unfold wideP
  simp only [Bool.not_eq_true,Bool.or_eq_false_iff] at h3 ⊢
  exact ⟨⟨h3.1.1,hm _ h3.1.2⟩,h3.2⟩
theorem ZBR {w:World} {b o:Nat} {s:SlotM} (h:ZCS w b o s):∃ k n t a len cap,
  (w.cell? ⟨b,o,none⟩=some (.string s.nm)∧w.cell? ⟨b,o+1,none⟩=some (.int .i64 s.ty)∧w.cell? ⟨b,o+2,none⟩=some (.bool s.rq)∧w.cell? ⟨b,o+3,none⟩=some (.int .i64 k)∧w.cell? ⟨b,o+4,none⟩=some (.int .i64 n)∧w.cell? ⟨b,o+5,none⟩=some (.string t)∧w.cell? ⟨b,o+6,none⟩=some (.slice a len cap)) ∧
  I64 s.ty∧s.nm.size≤maxLen∧Is w s.df (.agg #[.int .i64 k,.int .i64 n,.string t,.slice a len cap]):=by
 obtain ⟨c0,c1,c2,c3,c4,c5,c6,⟨g0,g1,g2,g3,g4,g5,g6⟩,h1,h2,rfl,rfl,rfl,h3⟩:=h
 have h4:=h3
 cases hd:s.df with
 |mk k n t l=>
  rw [hd] at h4
  unfold Is at h4
  obtain ⟨_,_,_,a,cap,e,_⟩:=h4
  simp only [Value.agg.injEq,Array.mk.injEq,List.cons.injEq,and_true] at e
  obtain ⟨rfl,rfl,rfl,rfl⟩:=e
  rw [hd] at h3
  exact ⟨_,_,_,_,_,_,⟨g0,g1,g2,g3,g4,g5,g6⟩,h2,h1,h3⟩
