/- Whether a value is right: formed, Right. -/
import Derived.Test.YtcjdfdfphbckaaaGreatMh0Regi
set_option linter.unusedVariables false
set_option linter.unusedSimpArgs false
set_option maxRecDepth 100000
set_option maxHeartbeats 64000000
open Go.Proofs.Tryz
namespace Go.Proofs.YtcjdfdfphbckaaaGreat
open Go.RowKit Go.Shelf
mutual
def okV:PV→Bool
 | .mk k n s l=>
  if k=0 then n == 0 && s.toList.isEmpty && l.isEmpty
  else if k=1 then (n == 0 || n == 1) && s.toList.isEmpty && l.isEmpty
  else if k=2 then s.toList.isEmpty && l.isEmpty
  else if k=3 then n == 0 && nameB (strB s) && l.isEmpty
  else if k=4 then n == 0 && decide (s.size≤200) && U.validS s && l.isEmpty
  else if k=5 then n == 0 && s.toList.isEmpty && decide (l.length≤20) && okL l
  else false
def okL:List PV→Bool
 | []=>true
 |x :: r=>okV x && okL r
end
theorem ZPd (l:List PV) (b:Bool):l.foldl (fun b y=>b && okV y) b=(b && okL l):=by
 induction l generalizing b with
 |nil=>simp [okL]
 |cons x r ih=>simp only [List.foldl_cons,okL,ih,Bool.and_assoc]
theorem ZPe (l:List PV):((l.length:Int) == 0)=l.isEmpty:=by
 cases l with
 |nil=>rfl
 |cons x r=>simp;omega
theorem okV0 (n:Int) (s:ByteArray) (l:List PV):okV (.mk 0 n s l)=(n == 0 && s.toList.isEmpty && l.isEmpty):=by simp [okV]
theorem okV1 (n:Int) (s:ByteArray) (l:List PV):okV (.mk 1 n s l)=((n == 0 || n == 1) && s.toList.isEmpty && l.isEmpty):=by simp [okV]
theorem okV2 (n:Int) (s:ByteArray) (l:List PV):okV (.mk 2 n s l)=(s.toList.isEmpty && l.isEmpty):=by simp [okV]
theorem okV3 (n:Int) (s:ByteArray) (l:List PV):okV (.mk 3 n s l)=(n == 0 && nameB (strB s) && l.isEmpty):=by simp [okV]
theorem okV4 (n:Int) (s:ByteArray) (l:List PV):okV (.mk 4 n s l)=(n == 0 && decide (s.size≤200) && U.validS s && l.isEmpty):=by simp [okV]
theorem okV5 (n:Int) (s:ByteArray) (l:List PV):okV (.mk 5 n s l)=(n == 0 && s.toList.isEmpty && decide (l.length≤20) && okL l):=by simp [okV]
theorem okV6 (k n:Int) (s:ByteArray) (l:List PV) (h0:k≠0) (h1:k≠1) (h2:k≠2) (h3:k≠3) (h4:k≠4) (h5:k≠5):okV (.mk k n s l)=false:=by simp [okV, *]
theorem ZH2 (g:Bool→PV→Bool) (l:List PV) (first:Bool)
  (hc:∀ i y,l[i]? = some y→∀ w x,Is w y x→Calls Tryz.prog 131 #[.bool ((l.take i).foldl g first),x] w fun e w'=>e=.returned (.bool ((l.take (i+1)).foldl g first))∧Below w.heap.size w w')
  (w:World) (a:Option Addr) (cap:Nat) (hl:l.length≤cap) (hcap:cap≤maxLen) (hL:l = []∨∃ b off,a=some ⟨b,off,none⟩∧IsL w b l off) :
  Calls Tryz.prog 130 #[.slice a l.length cap,.bool first,.func (.func 131) #[] #[]] w fun e w'=>e=.returned (.bool (l.foldl g first))∧Below w.heap.size w w':=by
 have hm:l.length≤maxLen:=Nat.le_trans hl hcap
 unfold maxLen at hm
 have HC:=ZZY hc;clear hc
 go_enter func130,ntmps130
 go_wp2_with fail
 go_loopw [1,8,11] (fun c _ i wr=>∃ k:Nat,i=.int .i64 (k:Int)∧c=.bool ((l.take k).foldl g first)∧k≤l.length∧Below w.heap.size w wr) (fun _ _ i _=>l.length-(intOf i).toNat)
 case atStart=>exact ⟨0,rfl,rfl,Nat.zero_le _,Below.refl _ w⟩
 case round=>
 obtain ⟨k,rfl,rfl,hk,hB⟩:=hrel
 by_cases hkl:k<l.length
 ·have hd:decide (k<l.length)=true:=by simp;omega
  obtain ⟨y,hy⟩:∃ y,l[k]? = some y:=⟨l[k],List.getElem?_eq_getElem hkl⟩
  obtain ⟨b,off,rfl,hIs⟩:∃ b off,a=some ⟨b,off,none⟩∧IsL w b l off:=by
   rcases hL with h | h
   ·subst h;simp at hkl
   ·exact h
  cases y with
  |mk yk yn ys yl=>
  obtain ⟨ya,yc,⟨g0,g1,g2,g3⟩,hi⟩:=ZCT hIs k _ _ _ _ hy
  replace g0:=ZAA hB g0
  replace g1:=ZAA hB g1
  replace g2:=ZAA hB g2
  replace g3:=ZAA hB g3
  have hi2:=ZZY (ZAf hB _ _ hi)
  have HY:=ZZY hy
  clear hL hIs hi hy
  have hA0:=(Below.refl _ wr).alloc (Nat.le_refl _) (vobj yk yn ys ya yl.length yc)
  obtain ⟨c,hc⟩:∃ c,(l.take k).foldl g first=c:=⟨_,rfl⟩
  obtain ⟨c',hc'⟩:∃ c',(l.take (k+1)).foldl g first=c':=⟨_,rfl⟩
  have HC':=ZZY (show ∀ w x,Is w (PV.mk yk yn ys yl) x→Calls Tryz.prog 131 #[.bool c,x] w fun e w'=>e=.returned (.bool c')∧Below w.heap.size w w' by
   rw [←hc,←hc'];exact HC.out k _ HY.out)
  have HCc:=ZZY hc'
  rw [hc]
  clear hc hc' HC
  go_wp2_with (first | (go_at_call 131;(with_reducible refine (HC'.out _ _ (ZAf hA0 _ _ hi2.out)).mono ?_);rintro e w' ⟨rfl,hb⟩))
  all_goals go_roundw
  all_goals (first | (case' rel=>exact ⟨k+1,by go_num,by rw [HCc.out],by omega,hB.trans ((hA0.trans (hb.mono hA0.size)).mono hB.size)⟩) | (case' measure=>simp [intOf];omega))
 ·have hd:decide (k<l.length)=false:=by simp;omega
  obtain rfl:k=l.length:=by omega
  go_wp2_with fail
  go_ret
  exact ⟨ZAG (by rw [List.take_length]),hB⟩
theorem ZJW (y:PV) (c:Bool) (w:World) (x:Value) (hi:Is w y x) (h:∀ w x,Is w y x→Calls Tryz.prog 120 #[x] w fun e w'=>e=.returned (.bool (okV y))∧Below w.heap.size w w') :
  Calls Tryz.prog 131 #[.bool c,x] w fun e w'=>e=.returned (.bool (c && okV y))∧Below w.heap.size w w':=by
 cases y with
 |mk k n s l=>
 have hi2:=ZZY hi
 unfold Is at hi
 obtain ⟨h1,h2,h3,a,cap,rfl,h4,h5,h6⟩:=hi
 have h':∀ w W,Is w (PV.mk k n s l) (.agg #[.int .i64 k,.int .i64 n,.string s,.slice a l.length cap])→Below w.heap.size w W →
  Calls Tryz.prog 120 #[.agg #[.int .i64 k,.int .i64 n,.string s,.slice a l.length cap]] W fun e w'=>e=.returned (.bool (okV (.mk k n s l)))∧Below W.heap.size W w':=fun w W hi hB=>h W _ (ZAf hB _ _ hi)
 obtain ⟨D,hD⟩:∃ D,okV (.mk k n s l)=D:=⟨_,rfl⟩
 rw [hD] at h' ⊢
 clear h6 hD h
 have hB0:=(Below.refl _ w).alloc (Nat.le_refl _) (vobj k n s a l.length cap)
 cases c
 all_goals (
  go_enter func131,ntmps131
  go_wp2_with (first | (go_at_call 120;(with_reducible refine (h' _ _ hi2.out hB0).mono ?_);rintro e w' ⟨rfl,hb⟩))
  all_goals (go_ret;first | exact ⟨ZAG (by simp),hB0⟩ | exact ⟨ZAG (by simp),hB0.trans (hb.mono hB0.size)⟩))
theorem ZJX (v:PV):∀ w x,Is w v x→Calls Tryz.prog 120 #[x] w fun e w'=>e=.returned (.bool (okV v))∧Below w.heap.size w w':=by
 induction v using ZB1 with
 |h k n s l ih=>
  intro w x hi
  unfold Is at hi
  obtain ⟨h1,h2,h3,a,cap,rfl,h4,h5,h6⟩:=hi
  have hm:l.length≤maxLen:=Nat.le_trans h4 h5
  have hB0:=(Below.refl _ w).alloc (Nat.le_refl _) (vobj k n s a l.length cap)
  have H6:=ZZY (show l = []∨∃ b off,a=some ⟨b,off,none⟩∧IsL (w.alloc (vobj k n s a l.length cap)) b l off by
   rcases h6 with h6 | ⟨b,off,rfl,h6⟩
   ·exact .inl h6
   ·exact .inr ⟨b,off,rfl,ZA7 hB0 h6⟩)
  have hfold:=fun W h6=>ZH2 (fun b y=>b && okV y) l true (fun i y hy w x hx=>by
   rw [ZEk _ _ _ _ _ hy]
   exact ZJW y _ w x hx fun w x hx=>ih y (List.mem_of_getElem? hy) w x hx) W a cap h4 h5 h6
  rw [ZPd,Bool.true_and] at hfold
  have hname:=fun w=>ZDt s w h3
  have hval:=fun w=>ZMU s w h3
  have hfl:=ZPe l
  unfold maxLen at h3 hm
  clear h6 ih
  obtain ⟨r,hr⟩:∃ r,okV (.mk k n s l)=r:=⟨_,rfl⟩
  rw [hr]
  obtain ⟨ol,hol⟩:∃ b,okL l=b:=⟨_,rfl⟩
  obtain ⟨vl,hvl⟩:∃ b,U.validS s=b:=⟨_,rfl⟩
  obtain ⟨nm,hnm⟩:∃ b,nameB (strB s)=b:=⟨_,rfl⟩
  obtain ⟨fl,hf⟩:∃ b,l.isEmpty=b:=⟨_,rfl⟩
  obtain ⟨bn,hbn⟩:∃ b,(n == 0)=b:=⟨_,rfl⟩
  obtain ⟨bs,hbs⟩:∃ b,s.toList.isEmpty=b:=⟨_,rfl⟩
  rw [hol] at hfold
  rw [hvl] at hval
  rw [hnm] at hname
  rw [hf] at hfl
  by_cases k0:k=0
  ·subst k0
   rw [okV0,hf,hbn,hbs] at hr
   clear hfold hname hval hf H6 hol hvl hnm
   have HR:=ZZY hr;clear hr
   cases bn<;>cases bs
   all_goals (
    go_enter func120,ntmps120
    go_wp2_with fail
    all_goals (go_ret;refine ⟨ZAG (Eq.trans ?_ HR.out),hB0⟩;first | rfl | simp))
  by_cases k1:k=1
  ·subst k1
   clear k0
   rw [okV1,hf,hbs] at hr
   clear hfold hname hval hf H6 hol hvl hnm
   have HR:=ZZY hr;clear hr
   obtain ⟨b1,hb1⟩:∃ b,(n == 1)=b:=⟨_,rfl⟩
   cases bn<;>cases bs<;>cases b1
   all_goals (
    go_enter func120,ntmps120
    go_wp2_with fail
    all_goals (go_ret;refine ⟨ZAG (Eq.trans ?_ HR.out),hB0⟩;first | rfl | simp_all))
  by_cases k2:k=2
  ·subst k2
   clear k0 k1
   rw [okV2,hf,hbs] at hr
   clear hfold hname hval hf H6 hol hvl hnm hbn
   have HR:=ZZY hr;clear hr
   cases bs
   all_goals (
    go_enter func120,ntmps120
    go_wp2_with fail
    all_goals (go_ret;refine ⟨ZAG (Eq.trans ?_ HR.out),hB0⟩;first | rfl | simp_all))
  by_cases k3:k=3
  ·subst k3
   clear k0 k1 k2
   rw [okV3,hf,hbn,hnm] at hr
   clear hfold hval hf H6 hol hvl hnm hbs
   have HR:=ZZY hr;clear hr
   cases bn<;>cases nm
   all_goals (
    go_enter func120,ntmps120
    go_wp2_with (first | (go_at_call 128;(with_reducible refine (hname _).mono ?_);rintro e w' ⟨rfl,rfl⟩))
    all_goals (go_ret;refine ⟨ZAG (Eq.trans ?_ HR.out),hB0⟩;first | rfl | simp_all))
  by_cases k4:k=4
  ·subst k4
   clear k0 k1 k2 k3
   rw [okV4,hf,hbn,hvl] at hr
   clear hfold hname hf H6 hol hvl hnm hbs
   obtain ⟨b2,hb2⟩:∃ b,decide (s.size≤200)=b:=⟨_,rfl⟩
   rw [hb2] at hr
   have HR:=ZZY hr;clear hr
   cases bn<;>cases b2<;>cases vl
   all_goals (
    go_enter func120,ntmps120
    go_wp2_with (first | (go_at_call 129;(with_reducible refine (hval _).mono ?_);rintro e w' ⟨rfl,hb⟩))
    all_goals (first | (exfalso;simp at hb2;omega) | skip)
    all_goals (go_ret;refine ⟨ZAG (Eq.trans ?_ HR.out), ?_⟩;rotate_left;(first | exact hB0 | exact hB0.trans (hb.mono hB0.size));(first | rfl | simp_all)))
  by_cases k5:k=5
  ·subst k5
   clear k0 k1 k2 k3 k4
   rw [okV5,hbn,hbs,hol] at hr
   clear hname hval hf hol hvl hnm
   obtain ⟨b2,hb2⟩:∃ b,decide (l.length≤20)=b:=⟨_,rfl⟩
   rw [hb2] at hr
   have HR:=ZZY hr;clear hr
   cases bn<;>cases bs<;>cases b2
   all_goals (
    go_enter func120,ntmps120
    go_wp2_with (first | (go_at_call 130;(with_reducible refine (hfold _ H6.out).mono ?_);rintro e w' ⟨rfl,hb⟩))
    all_goals (first | (exfalso;simp at hb2;omega) | skip)
    all_goals (go_ret;refine ⟨ZAG (Eq.trans ?_ HR.out), ?_⟩;rotate_left;(first | exact hB0 | exact hB0.trans (hb.mono hB0.size));(first | rfl | simp_all)))
  ·rw [okV6 _ _ _ _ k0 k1 k2 k3 k4 k5] at hr
   subst hr
   have d0:(k == 0)=false:=by simpa using k0
   have d1:(k == 1)=false:=by simpa using k1
   have d2:(k == 2)=false:=by simpa using k2
   have d3:(k == 3)=false:=by simpa using k3
   have d4:(k == 4)=false:=by simpa using k4
   have d5:(k == 5)=false:=by simpa using k5
   clear hfold hname hval hf H6 hol hvl hnm hbn hbs k0 k1 k2 k3 k4 k5
   go_enter func120,ntmps120
   go_wp2_with fail
   all_goals (go_ret;exact ⟨rfl,hB0⟩)
def rightV (v:PV):Bool:=decide (deepV v≤4) && decide (szV v≤100) && okV v
theorem ZH3 (v:PV) (hsz:szV v≤1000000) (w:World) (x:Value) (hi:Is w v x):Calls Tryz.prog 107 #[x] w fun e w'=>e=.returned (.bool (rightV v))∧Below w.heap.size w w':=by
 have hD:=ZN8 v hsz
 have hN:=ZMQ v hsz
 have hF:=ZJX v
 unfold rightV
 obtain ⟨d,hd⟩:∃ d,deepV v=d:=⟨_,rfl⟩
 obtain ⟨z,hz⟩:∃ z,szV v=z:=⟨_,rfl⟩
 obtain ⟨f,hf⟩:∃ f,okV v=f:=⟨_,rfl⟩
 rw [hd] at hD ⊢
 rw [hz] at hN hsz ⊢
 rw [hf] at hF ⊢
 clear hd hz hf
 obtain ⟨k,m,s,l,rfl⟩:∃ k m s l,v=.mk k m s l:=by cases v;exact ⟨_,_,_,_,rfl⟩
 have hi2:=ZZY hi
 unfold Is at hi
 obtain ⟨_,_,_,a,cap,rfl,_,_,_⟩:=hi
 have hB0:=(Below.refl _ w).alloc (Nat.le_refl _) (vobj k m s a l.length cap)
 obtain ⟨b1,hb1⟩:∃ b,decide (d≤4)=b:=⟨_,rfl⟩
 obtain ⟨b2,hb2⟩:∃ b,decide (z≤100)=b:=⟨_,rfl⟩
 rw [hb1,hb2]
 cases b1<;>cases b2
 all_goals (
  go_enter func107,ntmps107
  go_wp2_with (first
   |(go_at_call 118;(with_reducible refine (hD _ _ (ZAf hB0 _ _ hi2.out)).mono ?_);rintro e w1 ⟨rfl,hq1⟩;have hB1:=hB0.trans (hq1.mono hB0.size);obtain ⟨e0,e1,e2,e3⟩:=ZAi hq1)
   |(go_at_call 119;(with_reducible refine (hN _ _ (ZAf hB1 _ _ hi2.out)).mono ?_);rintro e w2 ⟨rfl,hq2⟩;have hB2:=hB1.trans (hq2.mono hB1.size);obtain ⟨f0,f1,f2,f3⟩:=ZAi (hq1.trans (hq2.mono hq1.size)))
   |(go_at_call 120;(with_reducible refine (hF _ _ (ZAf hB2 _ _ hi2.out)).mono ?_);rintro e w3 ⟨rfl,hq3⟩;have hB3:=hB2.trans (hq3.mono hB2.size)))
  all_goals (first | (exfalso;simp at hb1 hb2;omega) | skip)
  all_goals (go_ret;refine ⟨ZAG ?_, ?_⟩;rotate_left;(first | exact hB3 | exact hB2 | exact hB1);(first | rfl | simp)))
