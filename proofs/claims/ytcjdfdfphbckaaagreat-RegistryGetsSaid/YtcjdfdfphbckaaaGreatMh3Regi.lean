/- The document's order of values: Compare, Same. -/
import Derived.Test.YtcjdfdfphbckaaaGreatMh2Regi
import Derived.Test.YtcjdfdfphbckaaaGreatMh1Regi
import Derived.Deep.RegionHeld3
import Derived.Test.YtcjdfdfphbckaaaGreatMh0Regi
import Derived.Deep.QuietTactic
import Derived.BigQuiet
import Derived.Deep.DeepCutAuto
import Derived.Laws.BytesArg
import Derived.Deep.RegionWith
import Derived.Lib.ConvBytes
set_option linter.unusedVariables false
set_option linter.unusedSimpArgs false
set_option maxRecDepth 100000
set_option maxHeartbeats 64000000
open Go.Proofs.Tryz
namespace Go.Proofs.YtcjdfdfphbckaaaGreat
open Go.RowKit Go.Shelf
attribute [local go_sem] Oper.semAt_some
theorem ZPz (k n:Int) (s s':ByteArray) (l l':List PV):cmpV (.mk k n s l) (.mk k n s' l')=if cmpB (strB s) (strB s')≠0 then cmpB (strB s) (strB s') else cmpL l l':=by
 have h:orI (cmpI k k) (cmpI n n)=0:=by simp [ZDJ,orI]
 simp only [cmpV]
 rw [if_neg (by rw [h];simp)]
 by_cases hs:strB s=strB s'
 ·rw [if_neg (by simpa using hs),if_neg (by simpa using (ZFm _ _).2 hs)]
 ·rw [if_pos hs,if_pos (fun e=>hs ((ZFm _ _).1 e))]
def ZNV (b:Nat) (k n k' n':Int) (s s':ByteArray) (a a':Option Addr) (len cap len' cap':Nat) (W:World):Prop:=
 ((W.cell? ⟨b,0,none⟩=some (.int .i64 k)∧W.cell? ⟨b,1,none⟩=some (.int .i64 n))∧(W.cell? ⟨b,2,none⟩=some (.string s)∧W.cell? ⟨b,3,none⟩=some (.slice a len cap))) ∧
 ((W.cell? ⟨b+1,0,none⟩=some (.int .i64 k')∧W.cell? ⟨b+1,1,none⟩=some (.int .i64 n'))∧(W.cell? ⟨b+1,2,none⟩=some (.string s')∧W.cell? ⟨b+1,3,none⟩=some (.slice a' len' cap')))
theorem ZDp {b:Nat} {k n k' n':Int} {s s':ByteArray} {a a':Option Addr} {len cap len' cap':Nat} {W W':World} (h:ZNV b k n k' n' s s' a a' len cap len' cap' W) (hb:Below W.heap.size W W'):ZNV b k n k' n' s s' a a' len cap len' cap' W':=
 ⟨⟨⟨ZAA hb h.1.1.1,ZAA hb h.1.1.2⟩,ZAA hb h.1.2.1,ZAA hb h.1.2.2⟩,⟨ZAA hb h.2.1.1,ZAA hb h.2.1.2⟩,ZAA hb h.2.2.1,ZAA hb h.2.2.2⟩
theorem ZGE (v:PV):∀ v' w x y,Is w v x→Is w v' y→Calls Tryz.prog 67 #[x,y] w fun e w'=>e=.returned (.int .i64 (cmpV v v'))∧Below w.heap.size w w':=by
 induction v using ZB1 with
 |h k n s l ih=>
  intro v' w x y hi hi'
  obtain ⟨k',n',s',l',rfl⟩:∃ k m s l,v'=.mk k m s l:=by cases v';exact ⟨_,_,_,_,rfl⟩
  unfold Is at hi hi'
  obtain ⟨h1,h2,h3,a,cap,rfl,h4,h5,h6⟩:=hi
  obtain ⟨i1,i2,i3,a',cap',rfl,i4,i5,i6⟩:=hi'
  have hm:l.length≤maxLen:=Nat.le_trans h4 h5
  have hm':l'.length≤maxLen:=Nat.le_trans i4 i5
  have hB1:=(Below.refl _ w).alloc (Nat.le_refl _) (vobj k n s a l.length cap)
  have hB2:=hB1.alloc hB1.size (vobj k' n' s' a' l'.length cap')
  by_cases hk:k=k'
  ·subst hk
   by_cases hn:n=n'
   ·subst hn
    rw [ZPz]
    have hdk:(k != k)=false:=by simp
    have hdn:(n != n)=false:=by simp
    have hbox:ZNV w.heap.size k n k n s s' a a' l.length cap l'.length cap' ((w.alloc (vobj k n s a l.length cap)).alloc (vobj k n s' a' l'.length cap')):=by
     obtain ⟨⟨c0,c1,c2,c3⟩,d0,d1,d2,d3⟩:=ZGT (Below.refl _ ((w.alloc (vobj k n s a l.length cap)).alloc (vobj k n s' a' l'.length cap')))
     exact ⟨⟨⟨c0,c1⟩,c2,c3⟩,⟨d0,d1⟩,d2,d3⟩
    obtain ⟨t,ht⟩:∃ t,cmpB (strB s) (strB s')=t:=⟨_,rfl⟩
    rw [ht]
    obtain ⟨R,hR⟩:∃ R,(if t≠0 then t else cmpL l l')=R:=⟨_,rfl⟩
    rw [hR]
    have HT:=ZZY ht
    have H0:Hid (t=0→cmpL l l'=R):=ZZY fun h=>by rw [←hR,if_neg (by simpa using h)]
    have H1:Hid (t≠0→R=t):=ZZY fun h=>by rw [←hR,if_pos h]
    clear hR
    have HI:=ZZY ih
    have hbs:=ZCL s
    have hbs':=ZCL s'
    have hls:=ZBc s
    have hls':=ZBc s'
    unfold maxLen at h3 i3 hm hm'
    clear ih ht hdk hdn
    go_enter func67,ntmps67
    go_wp2_with fail
    go_loopw [5] (fun i wr=>∃ q:Nat,q≤s.size∧q≤s'.size∧i=.int .i64 (q:Int)∧Below ((w.alloc (vobj k n s a l.length cap)).alloc (vobj k n s' a' l'.length cap')).heap.size ((w.alloc (vobj k n s a l.length cap)).alloc (vobj k n s' a' l'.length cap')) wr∧Hid (cmpB ((strB s).drop q) ((strB s').drop q)=t)) (fun i _=>s.size-(intOf i).toNat)
    case atStart=>exact ⟨0,Nat.zero_le _,Nat.zero_le _,rfl,Below.refl _ _,HT.out⟩
    case round=>
    obtain ⟨q,hq1,hq2,rfl,hB,HQ⟩:=hrel
    obtain ⟨⟨⟨c0,c1⟩,c2,c3⟩,⟨d0,d1⟩,d2,d3⟩:=ZDp hbox hB
    have hBw:=hB2.trans (hB.mono hB2.size)
    by_cases hqq:q<s.size∧q<s'.size
    ·obtain ⟨hqa,hqb⟩:=hqq
     have e1:decide (q<s.size)=true:=by simpa using hqa
     have e2:decide (q<s'.size)=true:=by simpa using hqb
     have hst:=ZIP (strB s) (strB s') q (by omega) (by omega)
     rw [HQ.out,ZDh s q hqa,ZDh s' q hqb] at hst
     rcases Nat.lt_trichotomy s[q].toNat s'[q].toNat with hxy | hxy | hxy
     ·have f1:decide (s[q].toNat<s'[q].toNat)=true:=by simpa using hxy
      have ht1:t = -1:=by
       rw [hst,if_pos (by omega)];unfold cmpI;rw [if_pos (by omega)]
      have HRt:=H1.out (by rw [ht1];decide)
      rw [ht1] at HRt
      subst HRt
      clear hst HT ht1
      go_wp2_with fail
      go_quiet (fail)
      go_wp2_with fail
      go_ret
      exact ⟨rfl,by first | exact ZAh hBw _ | exact ZAh (ZAh hBw _) _⟩
     ·have f1:decide (s[q].toNat<s'[q].toNat)=false:=by simp;omega
      have f2:decide (s'[q].toNat<s[q].toNat)=false:=by simp;omega
      rw [if_neg (by omega)] at hst
      have HST:=ZZY hst
      clear hst
      go_wp2_with fail
      go_quiet (fail)
      go_wp2_with fail
      go_quiet (fail)
      go_wp2_with fail
      go_roundw
      all_goals (first
       |(case' rel=>exact ⟨q+1,by omega,by omega,by go_num,ZAh hB _,HST.out.symm⟩)
       |(case' measure=>simp [intOf];omega))
     ·have f1:decide (s[q].toNat<s'[q].toNat)=false:=by simp;omega
      have f2:decide (s'[q].toNat<s[q].toNat)=true:=by simpa using hxy
      have ht1:t=1:=by
       rw [hst,if_pos (by omega)];unfold cmpI;rw [if_neg (by omega),if_pos (by omega)]
      have HRt:=H1.out (by rw [ht1];decide)
      rw [ht1] at HRt
      subst HRt
      clear hst HT ht1
      go_wp2_with fail
      go_quiet (fail)
      go_wp2_with fail
      go_quiet (fail)
      go_wp2_with fail
      go_ret
      exact ⟨rfl,by first | exact ZAh hBw _ | exact ZAh (ZAh hBw _) _⟩
    ·have hqm:q=min s.size s'.size:=by omega
     have hen:=ZKf (strB s) (strB s') q (by rw [hls,hls'];exact hqm)
     rw [HQ.out,hls,hls'] at hen
     have hd:decide (q<s.size)=false∨decide (q<s'.size)=false:=by simp;omega
     rcases Nat.lt_trichotomy s.size s'.size with hss | hss | hss
     ·have e1:decide (q<s.size)=false:=by simp;omega
      have f1:((s.size:Int) != (s'.size:Int))=true:=by simp;omega
      have f2:decide (s.size<s'.size)=true:=by simpa using hss
      have ht1:t = -1:=by rw [hen];unfold cmpI;rw [if_pos (by omega)]
      have HRt:=H1.out (by rw [ht1];decide)
      rw [ht1] at HRt
      subst HRt
      clear hen hd HT hqq hqm ht1
      go_wp2_with fail
      go_ret
      exact ⟨rfl,hBw⟩
     ·have e1:decide (q<s.size)=false:=by simp;omega
      have f1:((s.size:Int) != (s'.size:Int))=false:=by simp;omega
      have ht1:t=0:=by rw [hen,hss];exact ZDJ _
      have hr:=H0.out ht1
      have HR:=ZZY hr
      have HSS:=ZZY hss
      have HBox:=ZZY hbox
      have HB:=ZZY hB
      obtain ⟨nl,hnl⟩:∃ m,l.length=m:=⟨_,rfl⟩
      clear hen hd HT hqq hqm hr hss hbox hnl ht1
      go_wp2_with fail
      go_loopw [6,7] (fun i _ wr'=>∃ q:Nat,q≤l.length∧q≤l'.length∧i=.int .i64 (q:Int)∧Below wr.heap.size wr wr'∧Hid (cmpL (l.drop q) (l'.drop q)=R)) (fun i _ _=>l.length-(intOf i).toNat)
      case atStart=>exact ⟨0,Nat.zero_le _,Nat.zero_le _,rfl,Below.refl _ _,HR.out⟩
      case round=>
      obtain ⟨q2,hp1,hp2,rfl,hB',HQ'⟩:=hrel
      have hBW:=hBw.trans (hB'.mono hBw.size)
      obtain ⟨⟨⟨x0,x1⟩,x2,x3⟩,⟨z0,z1⟩,z2,z3⟩:=ZDp (ZDp HBox.out HB.out) hB'
      clear c0 c1 c2 c3 d0 d1 d2 d3 hB1 hB2 e1 f1 hq1 hq2 hbs hbs' hls hls'
      by_cases hqq:q2<l.length∧q2<l'.length
      ·obtain ⟨hqa,hqb⟩:=hqq
       have e1:decide (q2<l.length)=true:=by simpa using hqa
       have e2:decide (q2<l'.length)=true:=by simpa using hqb
       obtain ⟨y,hy⟩:∃ y,l[q2]? = some y:=⟨l[q2],List.getElem?_eq_getElem hqa⟩
       obtain ⟨y',hy'⟩:∃ y,l'[q2]? = some y:=⟨l'[q2],List.getElem?_eq_getElem hqb⟩
       obtain ⟨b,off,rfl,hIs⟩:∃ b off,a=some ⟨b,off,none⟩∧IsL w b l off:=by
        rcases h6 with h | h
        ·subst h;simp at hqa
        ·exact h
       obtain ⟨b',off',rfl,hIs'⟩:∃ b off,a'=some ⟨b,off,none⟩∧IsL w b l' off:=by
        rcases i6 with h | h
        ·subst h;simp at hqb
        ·exact h
       have hst:=ZIQ l l' q2 y y' hy hy'
       rw [HQ'.out] at hst
       have hbd:=ZPl y y'
       have hcall:=fun W x x' hx hx'=>HI.out y (List.mem_of_getElem? hy) y' W x x' hx hx'
       obtain ⟨c,hc⟩:∃ c,cmpV y y'=c:=⟨_,rfl⟩
       rw [hc] at hst hbd hcall
       cases y with
       |mk yk yn ys yl=>
       cases y' with
       |mk uk un us ul=>
       obtain ⟨ya,yc,⟨g0,g1,g2,g3⟩,hiy⟩:=ZCT (ZA7 hBW hIs) q2 _ _ _ _ hy
       obtain ⟨ua,uc,⟨j0,j1,j2,j3⟩,hiu⟩:=ZCT (ZA7 hBW hIs') q2 _ _ _ _ hy'
       have HC:=ZZY (fun W (hW:Below wr.heap.size wr W)=>hcall W _ _ (ZAf hW _ _ hiy) (ZAf hW _ _ hiu))
       have HST:=ZZY hst
       clear hcall hst hIs hIs' hiy hiu hy hy' hc h6 i6 HQ' HI HBox HB hB x0 x1 x2 z0 z1 z2
       go_wp2_with fail
       go_region_held3 (fun W=>(W.cell? ⟨w.heap.size,3,none⟩=some (.slice (some ⟨b,off,none⟩) l.length cap)∧W.cell? ⟨w.heap.size+1,3,none⟩=some (.slice (some ⟨b',off',none⟩) l'.length cap')) ∧
         ((W.cell? ⟨b,off+q2*4,none⟩=some (.int .i64 yk)∧W.cell? ⟨b,off+q2*4+1,none⟩=some (.int .i64 yn))∧(W.cell? ⟨b,off+q2*4+2,none⟩=some (.string ys)∧W.cell? ⟨b,off+q2*4+3,none⟩=some (.slice ya yl.length yc))) ∧
         ((W.cell? ⟨b',off'+q2*4,none⟩=some (.int .i64 uk)∧W.cell? ⟨b',off'+q2*4+1,none⟩=some (.int .i64 un))∧(W.cell? ⟨b',off'+q2*4+2,none⟩=some (.string us)∧W.cell? ⟨b',off'+q2*4+3,none⟩=some (.slice ua ul.length uc))))
        (first | ((try dsimp only);refine ⟨⟨?_, ?_⟩,⟨⟨?_, ?_⟩, ?_, ?_⟩,⟨?_, ?_⟩, ?_, ?_⟩<;>first | (go_keep;done) | (with_reducible refine ZAA hb ?_;go_keep))) (first
        |(go_at_call 67;(with_reducible refine (HC.out _ (ZAI _)).mono ?_);rintro e w' ⟨rfl,hb⟩))
       all_goals (
        have hbw':=(ZAI wr).trans (hb.mono (Nat.le_refl _))
        by_cases hc0:c=0
        ·subst hc0
         have hd0:((0:Int) != 0)=false:=rfl
         go_wp2_with fail
         go_roundw
         all_goals (first
          |(case' rel=>exact ⟨q2+1,by omega,by omega,by go_num,hB'.trans (hbw'.mono hB'.size),by have h:=HST.out;rw [if_neg (by simp)] at h;exact h.symm⟩)
          |(case' measure=>simp [intOf];omega))
        ·have hd0:(c != 0)=true:=by simpa using hc0
         have hR:R=c:=by
          have h:=HST.out
          rw [if_pos hc0] at h
          rw [h];unfold cmpI
          rcases hbd with rfl | rfl | rfl<;>simp at hc0 ⊢
         subst hR
         go_wp2_with fail
         go_ret
         exact ⟨rfl,hBW.trans (hbw'.mono hBW.size)⟩)
      ·have hqm:q2=min l.length l'.length:=by omega
       have hen:=ZKg l l' q2 hqm
       rw [HQ'.out] at hen
       clear h6 i6 HQ' HI HBox HB hB
       rcases Nat.lt_trichotomy l.length l'.length with hll | hll | hll
       ·have e1:decide (q2<l.length)=false:=by simp;omega
        have f2:decide (l.length<l'.length)=true:=by simpa using hll
        have ht1:R = -1:=by rw [hen];unfold cmpI;rw [if_pos (by omega)]
        subst ht1
        clear hen hqq hqm
        go_wp2_with fail
        go_ret
        exact ⟨rfl,hBW⟩
       ·have e1:decide (q2<l.length)=false:=by simp;omega
        have f2:decide (l.length<l'.length)=false:=by simp;omega
        have f3:decide (l'.length<l.length)=false:=by simp;omega
        have ht1:R=0:=by rw [hen,hll];exact ZDJ _
        subst ht1
        clear hen hqq hqm
        have HLL:=ZZY hll;clear hll
        go_wp2_with fail
        go_ret
        exact ⟨rfl,hBW⟩
       ·have e1:decide (q2<l.length)=true:=by simp;omega
        have e2:decide (q2<l'.length)=false:=by simp;omega
        have f2:decide (l.length<l'.length)=false:=by simp;omega
        have f3:decide (l'.length<l.length)=true:=by simpa using hll
        have ht1:R=1:=by rw [hen];unfold cmpI;rw [if_neg (by omega),if_pos (by omega)]
        subst ht1
        clear hen hqq hqm
        go_wp2_with fail
        go_ret
        exact ⟨rfl,hBW⟩
     ·have e2:decide (q<s'.size)=false:=by simp;omega
      have e1:decide (q<s.size)=true:=by simp;omega
      have f1:((s.size:Int) != (s'.size:Int))=true:=by simp;omega
      have f2:decide (s.size<s'.size)=false:=by simp;omega
      have ht1:t=1:=by rw [hen];unfold cmpI;rw [if_neg (by omega),if_pos (by omega)]
      have HRt:=H1.out (by rw [ht1];decide)
      rw [ht1] at HRt
      subst HRt
      clear hen hd HT hqq hqm ht1
      go_wp2_with fail
      go_ret
      exact ⟨rfl,hBw⟩
   ·have hdk:(k != k)=false:=by simp
    have hdn:(n != n')=true:=by simpa using hn
    have hv:cmpV (.mk k n s l) (.mk k n' s' l')=cmpI n n':=by
     have h0:orI (cmpI k k) (cmpI n n')=cmpI n n':=by simp [ZDJ,orI]
     simp only [cmpV]
     rw [if_pos (by rw [h0];exact fun e=>hn ((ZDI _ _).1 e)),h0]
    rw [hv]
    unfold cmpI
    clear ih hdk hv h6 i6
    rcases Int.lt_trichotomy n n' with hlt | hlt | hlt
    ·have d1:decide (n<n')=true:=by simpa using hlt
     rw [if_pos hlt]
     go_enter func67,ntmps67
     go_wp2_with fail
     go_ret
     exact ⟨rfl,hB2⟩
    ·exact absurd hlt hn
    ·have d1:decide (n<n')=false:=by simp;omega
     rw [if_neg (by omega),if_pos hlt]
     go_enter func67,ntmps67
     go_wp2_with fail
     go_ret
     exact ⟨rfl,hB2⟩
  ·have hdk:(k != k')=true:=by simpa using hk
   have hv:cmpV (.mk k n s l) (.mk k' n' s' l')=cmpI k k':=by
    have h00:cmpI k k'≠0:=fun e=>hk ((ZDI _ _).1 e)
    have h0:orI (cmpI k k') (cmpI n n')=cmpI k k':=by unfold orI;rw [if_pos h00]
    simp only [cmpV]
    rw [if_pos (by rw [h0];exact h00),h0]
   rw [hv]
   unfold cmpI
   clear ih hv h6 i6
   rcases Int.lt_trichotomy k k' with hlt | hlt | hlt
   ·have d1:decide (k<k')=true:=by simpa using hlt
    rw [if_pos hlt]
    go_enter func67,ntmps67
    go_wp2_with fail
    go_ret
    exact ⟨rfl,hB2⟩
   ·exact absurd hlt hk
   ·have d1:decide (k<k')=false:=by simp;omega
    rw [if_neg (by omega),if_pos hlt]
    go_enter func67,ntmps67
    go_wp2_with fail
    go_ret
    exact ⟨rfl,hB2⟩
theorem ZFu (v v':PV) (w:World) (x y:Value) (hi:Is w v x) (hi':Is w v' y):Calls Tryz.prog 40 #[x,y] w fun e w'=>e=.returned (.bool (cmpV v v' == 0))∧Below w.heap.size w w':=by
 have hc:=fun w x y hi hi'=>ZGE v v' w x y hi hi'
 obtain ⟨c,hcv⟩:∃ c,cmpV v v'=c:=⟨_,rfl⟩
 rw [hcv] at hc ⊢
 clear hcv
 obtain ⟨k,n,s,l,rfl⟩:∃ k m s l,v=.mk k m s l:=by cases v;exact ⟨_,_,_,_,rfl⟩
 obtain ⟨k',n',s',l',rfl⟩:∃ k m s l,v'=.mk k m s l:=by cases v';exact ⟨_,_,_,_,rfl⟩
 have hi2:=ZZY hi
 have hi3:=ZZY hi'
 unfold Is at hi hi'
 obtain ⟨h1,h2,h3,a,cap,rfl,h4,h5,h6⟩:=hi
 obtain ⟨i1,i2,i3,a',cap',rfl,i4,i5,i6⟩:=hi'
 have hB1:=(Below.refl _ w).alloc (Nat.le_refl _) (vobj k n s a l.length cap)
 have hB2:=hB1.alloc hB1.size (vobj k' n' s' a' l'.length cap')
 clear h6 i6
 go_enter func40,ntmps40
 go_wp2_with (first | (go_at_call 67;(with_reducible refine (hc _ _ _ (ZAf hB2 _ _ hi2.out) (ZAf hB2 _ _ hi3.out)).mono ?_);rintro e w' ⟨rfl,hb⟩))
 go_ret
 exact ⟨rfl,hB2.trans (hb.mono hB2.size)⟩
theorem ZIn (v v':PV):(cmpV v v' == 0)=true ↔ v=v':=by
 rw [beq_iff_eq];exact ZIR v v'
open Go.RowKit Go.Shelf
def ZKt (l r:List Int) (w:World) (e:Ending) (w':World):Prop:=e=.returned (.bool (decide (l=r)))∧∃ n,w'=w.drewN n
theorem ZFD (a b:Option Addr) (n m c d:Nat) (l r:List Int) (w:World) (hl:Row w .u8 a n c l) (hr:Row w .u8 b m d r) :
  Calls Tryz.prog 18 #[.slice a n c,.slice b m d] w (ZKt l r w):=by
 obtain ⟨h1,h2,h3,h4⟩:=hl
 obtain ⟨k1,k2,k3,k4⟩:=hr
 unfold maxLen at h3 k3
 by_cases hnm:n=m
 ·subst hnm
  have hb:((n:Int) != (n:Int))=false:=by simp
  have H1:=ZZY h1;clear h1
  have K1:=ZZY k1;clear k1
  have H4:=ZZY h4;clear h4
  have K4:=ZZY k4;clear k4
  go_enter func18,ntmps18
  go_wp2
  go_loopw [5] (fun i wr=>∃ k nq:Nat,k≤n∧i=.int .i64 k∧wr=w.drewN nq∧∀ j,j<k→l[j]?.getD 0=r[j]?.getD 0)
   (fun i _=>n-(intOf i).toNat)
  case atStart=>exact ⟨0,0,Nat.zero_le _,rfl,rfl,fun j hj=>by omega⟩
  case round=>
   obtain ⟨k,nq,hk,rfl,rfl,heq⟩:=hrel
   have HE:=ZZY heq;clear heq
   by_cases hlt:k<n
   ·rcases H4.out with h0 | ⟨p,o,rfl,hc⟩
    ·exact absurd h0 (by omega)
    rcases K4.out with h0 | ⟨p',o',rfl,hc'⟩
    ·exact absurd h0 (by omega)
    have c1:=hc k hlt
    have c2:=hc' k hlt
    clear hc hc'
    by_cases hx:l[k]?.getD 0=r[k]?.getD 0
    ·have HX:=ZZY hx
     rw [hx] at c1
     generalize r[k]?.getD 0=x at c1 c2
     clear hx
     have hne:(x != x)=false:=by simp
     go_wp2
     go_quiet (fail)
     go_wp2
     go_roundw
     case rel=>exact ⟨k+1,_,by omega,by go_num,rfl,fun j hj=>by
      rcases Nat.lt_or_ge j k with h | h
      ·exact HE.out j h
      ·obtain rfl:j=k:=by omega
       exact HX.out⟩
     case measure=>simp [intOf];omega
    ·have hne:(l[k]?.getD 0 != r[k]?.getD 0)=true:=by simpa using hx
     have HX:=ZZY hx;clear hx
     go_wp2
     go_quiet (fail)
     go_wp2
     go_ret
     refine ⟨ZAG ?_,_,World.drewN_drewN _ _ _⟩
     have:=HX.out
     simp;intro h;rw [h] at this;exact this rfl
   ·obtain rfl:k=n:=by omega
    go_wp2
    go_ret
    refine ⟨ZAG ?_,_,rfl⟩
    have h1:=H1.out
    have k1:=K1.out
    simp
    exact ZGu l r (by omega) (fun i hi=>HE.out i (by omega))
 ·have hb:((n:Int) != (m:Int))=true:=by simp;omega
  have hne:l≠r:=fun h=>by rw [h] at h1;omega
  have HN:=ZZY hne;clear hne h1 k1 h4 k4
  go_enter func18,ntmps18
  go_wp2
  go_ret
  exact ⟨ZAG (by simp;exact HN.out),0,rfl⟩
theorem ZKC (a b:Option Addr) (n m c d:Nat) (l r:List Int) (w:World) (hl:Row w .i64 a n c l) (hr:Row w .i64 b m d r) :
  Calls Tryz.prog 22 #[.slice a n c,.slice b m d] w (ZKt l r w):=by
 obtain ⟨h1,h2,h3,h4⟩:=hl
 obtain ⟨k1,k2,k3,k4⟩:=hr
 unfold maxLen at h3 k3
 by_cases hnm:n=m
 ·subst hnm
  have hb:((n:Int) != (n:Int))=false:=by simp
  have H1:=ZZY h1;clear h1
  have K1:=ZZY k1;clear k1
  have H4:=ZZY h4;clear h4
  have K4:=ZZY k4;clear k4
  go_enter func22,ntmps22
  go_wp2
  go_loopw [5] (fun i wr=>∃ k nq:Nat,k≤n∧i=.int .i64 k∧wr=w.drewN nq∧∀ j,j<k→l[j]?.getD 0=r[j]?.getD 0)
   (fun i _=>n-(intOf i).toNat)
  case atStart=>exact ⟨0,0,Nat.zero_le _,rfl,rfl,fun j hj=>by omega⟩
  case round=>
   obtain ⟨k,nq,hk,rfl,rfl,heq⟩:=hrel
   have HE:=ZZY heq;clear heq
   by_cases hlt:k<n
   ·rcases H4.out with h0 | ⟨p,o,rfl,hc⟩
    ·exact absurd h0 (by omega)
    rcases K4.out with h0 | ⟨p',o',rfl,hc'⟩
    ·exact absurd h0 (by omega)
    have c1:=hc k hlt
    have c2:=hc' k hlt
    clear hc hc'
    by_cases hx:l[k]?.getD 0=r[k]?.getD 0
    ·have HX:=ZZY hx
     rw [hx] at c1
     generalize r[k]?.getD 0=x at c1 c2
     clear hx
     have hne:(x != x)=false:=by simp
     go_wp2
     go_quiet (fail)
     go_wp2
     go_roundw
     case rel=>exact ⟨k+1,_,by omega,by go_num,rfl,fun j hj=>by
      rcases Nat.lt_or_ge j k with h | h
      ·exact HE.out j h
      ·obtain rfl:j=k:=by omega
       exact HX.out⟩
     case measure=>simp [intOf];omega
    ·have hne:(l[k]?.getD 0 != r[k]?.getD 0)=true:=by simpa using hx
     have HX:=ZZY hx;clear hx
     go_wp2
     go_quiet (fail)
     go_wp2
     go_ret
     refine ⟨ZAG ?_,_,World.drewN_drewN _ _ _⟩
     have:=HX.out
     simp;intro h;rw [h] at this;exact this rfl
   ·obtain rfl:k=n:=by omega
    go_wp2
    go_ret
    refine ⟨ZAG ?_,_,rfl⟩
    have h1:=H1.out
    have k1:=K1.out
    simp
    exact ZGu l r (by omega) (fun i hi=>HE.out i (by omega))
 ·have hb:((n:Int) != (m:Int))=true:=by simp;omega
  have hne:l≠r:=fun h=>by rw [h] at h1;omega
  have HN:=ZZY hne;clear hne h1 k1 h4 k4
  go_enter func22,ntmps22
  go_wp2
  go_ret
  exact ⟨ZAG (by simp;exact HN.out),0,rfl⟩
open Go.RowKit Go.Shelf
def ZL4 (w:World) (v:Sc.Ver) (sa:Option Addr) (sc:Nat) (ca:Option Addr) (cc:Nat):Prop:=ZBV w sa sc v.slots∧Row w .i64 ca v.cols.length cc (v.cols.map Int.ofNat)
def ZPM:Prop:=∀ (t:TemplM) (w:World) (X:Value),greatT t=false→ZA8 w t X→Calls Tryz.prog 66 #[X] w fun e w'=>e=.returned (.bool (Sc.vers t).isSome)∧Below w.heap.size w w'
theorem ZNW {t:TemplM} (h:greatT t=false):t.slots.length≤30∧t.steps.length≤30:=by
 unfold greatT at h
 simp only [Bool.or_eq_false_iff,decide_eq_false_iff_not] at h
 omega
namespace schemaFirstWalk
end schemaFirstWalk
open Go.RowKit Go.Shelf
theorem ZEu {W:World} {a:Option Addr} {n c:Nat} {l:List Int} (h:Row W .i64 a n c l) (i:Nat) (hi:i<n):∃ b off,a=some ⟨b,off,none⟩∧W.cell? ⟨b,off+i,none⟩=some (.int .i64 (l[i]?.getD 0)):=by
 obtain ⟨h1,h2,h3,h4⟩:=h
 rcases h4 with h4 | ⟨b,off,rfl,hc⟩
 ·omega
 ·exact ⟨b,off,rfl,by have:=hc i (by omega);simpa [List.getElem?_eq_getElem (show i<l.length by omega)] using this⟩
theorem ZGg (a b:Option Addr) (n m c d:Nat) (l r:List Int) (w:World) (hl:Row w .i64 a n c l) (hr:Row w .i64 b m d r) :
  Calls Tryz.prog 85 #[.slice a n c,.slice b m d] w (ZKt l r w):=by
 obtain ⟨h1,h2,h3,h4⟩:=hl
 obtain ⟨k1,k2,k3,k4⟩:=hr
 unfold maxLen at h3 k3
 by_cases hnm:n=m
 ·subst hnm
  have hb:((n:Int) != (n:Int))=false:=by simp
  have H1:=ZZY h1;clear h1
  have K1:=ZZY k1;clear k1
  have H4:=ZZY h4;clear h4
  have K4:=ZZY k4;clear k4
  go_enter func85,ntmps85
  go_wp2
  go_loopw [13] (fun i wr=>∃ k nq:Nat,k≤n∧i=.int .i64 k∧wr=w.drewN nq∧∀ j,j<k→l[j]?.getD 0=r[j]?.getD 0)
   (fun i _=>n-(intOf i).toNat)
  case atStart=>exact ⟨0,0,Nat.zero_le _,rfl,rfl,fun j hj=>by omega⟩
  case round=>
   obtain ⟨k,nq,hk,rfl,rfl,heq⟩:=hrel
   have HE:=ZZY heq;clear heq
   by_cases hlt:k<n
   ·rcases H4.out with h0 | ⟨p,o,rfl,hc⟩
    ·exact absurd h0 (by omega)
    rcases K4.out with h0 | ⟨p',o',rfl,hc'⟩
    ·exact absurd h0 (by omega)
    have c1:=hc k hlt
    have c2:=hc' k hlt
    clear hc hc'
    by_cases hx:l[k]?.getD 0=r[k]?.getD 0
    ·have HX:=ZZY hx
     rw [hx] at c1
     generalize r[k]?.getD 0=x at c1 c2
     clear hx
     have hne:(x != x)=false:=by simp
     go_wp2
     go_quiet (fail)
     go_wp2
     go_roundw
     case rel=>exact ⟨k+1,_,by omega,by go_num,rfl,fun j hj=>by
      rcases Nat.lt_or_ge j k with h | h
      ·exact HE.out j h
      ·obtain rfl:j=k:=by omega
       exact HX.out⟩
     case measure=>simp [intOf];omega
    ·have hne:(l[k]?.getD 0 != r[k]?.getD 0)=true:=by simpa using hx
     have HX:=ZZY hx;clear hx
     go_wp2
     go_quiet (fail)
     go_wp2
     go_ret
     refine ⟨ZAG ?_,_,World.drewN_drewN _ _ _⟩
     have:=HX.out
     simp;intro h;rw [h] at this;exact this rfl
   ·obtain rfl:k=n:=by omega
    go_wp2
    go_ret
    refine ⟨ZAG ?_,_,rfl⟩
    have h1:=H1.out
    have k1:=K1.out
    simp
    exact ZGu l r (by omega) (fun i hi=>HE.out i (by omega))
 ·have hb:((n:Int) != (m:Int))=true:=by simp;omega
  have hne:l≠r:=fun h=>by rw [h] at h1;omega
  have HN:=ZZY hne;clear hne h1 k1 h4 k4
  go_enter func85,ntmps85
  go_wp2
  go_ret
  exact ⟨ZAG (by simp;exact HN.out),0,rfl⟩
theorem ZNX (a:Option Addr) (n c:Nat) (l:List Int) (x:Int) (w:World) (hr:Row w .i64 a n c l):Calls Tryz.prog 167 #[.slice a n c,.int .i64 x] w fun e w'=>(∃ r:Int,e=.returned (.int .i64 r)∧decide (r≥0)=decide (x∈l))∧∃ k,w'=w.drewN k:=by
 obtain ⟨h1,h2,h3,h4⟩:=hr
 unfold maxLen at h3
 have H1:=ZZY h1;clear h1
 have H4:=ZZY h4;clear h4
 go_enter func167,ntmps167
 go_wp2
 go_loopw [8] (fun i wr=>∃ k nq:Nat,k≤n∧i=.int .i64 k∧wr=w.drewN nq∧∀ j,j<k→l[j]?.getD 0≠x)
  (fun i _=>n-(intOf i).toNat)
 case atStart=>exact ⟨0,0,Nat.zero_le _,rfl,rfl,fun j hj=>by omega⟩
 case round=>
  obtain ⟨k,nq,hk,rfl,rfl,heq⟩:=hrel
  have HE:=ZZY heq;clear heq
  by_cases hlt:k<n
  ·rcases H4.out with h0 | ⟨p,o,rfl,hc⟩
   ·exact absurd h0 (by omega)
   have c1:=hc k hlt
   have hm:l[k]?.getD 0∈l:=by
    have:=H1.out
    rw [List.getElem?_eq_getElem (by omega)]
    exact List.getElem_mem _
   clear hc
   by_cases hx:l[k]?.getD 0=x
   ·rw [hx] at c1 hm
    have hne:(x == x)=true:=by simp
    have HM:=ZZY hm
    clear hx hm
    go_wp2
    go_ret
    exact ⟨⟨_,rfl,by rw [decide_eq_true HM.out];simp⟩,_,rfl⟩
   ·have HX:=ZZY hx
    generalize l[k]?.getD 0=y at c1 hx
    have hne:(x == y)=false:=by simpa using fun h=>hx h.symm
    clear hx hm
    go_wp2
    go_roundw
    case rel=>exact ⟨k+1,_,by omega,by go_num,rfl,fun j hj=>by
     rcases Nat.lt_or_ge j k with h | h
     ·exact HE.out j h
     ·obtain rfl:j=k:=by omega
      exact HX.out⟩
    case measure=>simp [intOf];omega
  ·obtain rfl:k=n:=by omega
   go_wp2
   go_ret
   refine ⟨⟨_,rfl, ?_⟩,_,rfl⟩
   have hno:¬x∈l:=fun hm=>by
    obtain ⟨i,hi⟩:=List.mem_iff_getElem?.1 hm
    have h1:=H1.out
    exact HE.out i (by have:=(List.getElem?_eq_some_iff.1 hi).1;omega) (by rw [hi];rfl)
   rw [decide_eq_false hno];rfl
theorem ZIo (a:Option Addr) (n c:Nat) (l:List Int) (x:Int) (w:World) (hr:Row w .i64 a n c l):Calls Tryz.prog 162 #[.slice a n c,.int .i64 x] w fun e w'=>e=.returned (.bool (decide (x∈l)))∧∃ k,w'=w.drewN k:=by
 have hI:=ZNX a n c l x w hr
 go_enter func162,ntmps162
 go_wp2_with (go_at_call 167;(with_reducible refine hI.mono ?_);rintro e w1 ⟨⟨r,rfl,hd⟩,k,rfl⟩)
 go_ret
 exact ⟨ZAG (by first | rfl | exact hd),_,rfl⟩
theorem ZKD (x:Sc.Ver) (sa:Option Addr) (sc:Nat) (ca:Option Addr) (cc:Nat) (nm:ByteArray) (w:World) (hin:∀ c∈x.cols,c<x.slots.length) (hnm:nm.size≤maxLen) (hv:ZL4 w x sa sc ca cc) :
  Calls Tryz.prog 140 #[.agg #[.slice sa x.slots.length sc,.slice ca x.cols.length cc],.string nm] w fun e w'=>e=.returned (.int .i64 (Sc.colI x nm))∧Below w.heap.size w w':=by
 obtain ⟨slots,cols⟩:=x
 obtain ⟨⟨hs1,hs2,hs3⟩,hr1,hr2,hr3,hr4⟩:=hv
 simp only at hin hs1 hs3 hr2 hr4 ⊢
 unfold maxLen at hs2 hr3
 obtain ⟨G,hG⟩:∃ G,Sc.colI ⟨slots,cols⟩ nm=G:=⟨_,rfl⟩
 rw [hG]
 have HGG:=ZZY hG
 clear hG
 have HS:=ZZY hs3;have HR:=ZZY hr4;have HIN:=ZZY hin
 clear hs3 hr4 hin
 have hB0:=(Below.refl _ w).alloc (Nat.le_refl _) (.cells #[.slice sa slots.length sc,.slice ca cols.length cc] 146)
 have x0:World.cell? (w.alloc (.cells #[.slice sa slots.length sc,.slice ca cols.length cc] 146)) ⟨w.heap.size,0,none⟩=some (.slice sa slots.length sc):=by simp
 have x1:World.cell? (w.alloc (.cells #[.slice sa slots.length sc,.slice ca cols.length cc] 146)) ⟨w.heap.size,1,none⟩=some (.slice ca cols.length cc):=by simp
 go_enter func140,ntmps140
 go_wp2
 obtain ⟨W1,hW1⟩:∃ W1,w.alloc (.cells #[.slice sa slots.length sc,.slice ca cols.length cc] 146)=W1:=⟨_,rfl⟩
 obtain ⟨b,hb⟩:∃ b,w.heap.size=b:=⟨_,rfl⟩
 have HB0:=ZZY hB0
 rw [hW1] at x0 x1 HB0 ⊢
 rw [hb] at x0 x1 ⊢
 clear hB0 hW1 hb
 go_loopw [10] (fun i wr=>∃ q nq:Nat,q≤cols.length∧i=.int .i64 (q:Int)∧wr=W1.drewN nq∧∀ j c,j<q→cols[j]? = some c→Sc.eqN (Sc.slotOf ⟨slots,cols⟩ c).nm nm=false) (fun i _=>cols.length-(intOf i).toNat)
 case atStart=>exact ⟨0,0,Nat.zero_le _,rfl,rfl,fun j c h=>by omega⟩
 case round=>
  obtain ⟨q,nq,hq,rfl,rfl,hno⟩:=hrel
  have HNO:=ZZY hno
  clear hno
  rcases Nat.lt_or_ge q cols.length with hlt | hge
  ·have hd:decide ((q:Int)<(cols.length:Int))=true:=by simp;omega
   obtain ⟨c,hc⟩:∃ c,cols[q]? = some c:=⟨cols[q],List.getElem?_eq_getElem hlt⟩
   have hcl:=HIN.out c (List.mem_of_getElem? hc)
   obtain ⟨cb,co,rfl,hcol⟩:∃ b off,ca=some ⟨b,off,none⟩∧∀ i,i<cols.length→w.cell? ⟨b,off+i,none⟩=some (.int .i64 ((cols.map Int.ofNat)[i]?.getD 0)):=by
    rcases HR.out with h | h
    ·exact absurd h (by omega)
    ·exact h
   obtain ⟨sb,so,rfl,hrow⟩:∃ b off,sa=some ⟨b,off,none⟩∧∀ i s,slots[i]? = some s→ZCS w b (off+i*7) s:=by
    rcases HS.out with h | h
    ·subst h;simp at hcl
    ·exact h
   obtain ⟨s,hs⟩:∃ s,slots[c]? = some s:=⟨slots[c],List.getElem?_eq_getElem hcl⟩
   obtain ⟨k,n,t,a,len,cap,⟨g0,_⟩,_⟩:=ZBR (hrow c s hs)
   have e1:=ZAA HB0.out (hcol q hlt)
   have e2:=ZAA HB0.out g0
   rw [List.getElem?_map,hc] at e1
   simp only [Option.map_some,Option.getD_some,Int.ofNat_eq_natCast] at e1
   have hso:Sc.slotOf ⟨slots,cols⟩ c=s:=by unfold Sc.slotOf;simp [hs]
   have HC:=ZZY hc;have HSO:=ZZY hso
   clear hc hcol hrow hs g0 hso
   have d0:decide ((c:Int)≥0)=true:=by simp
   have d1:decide ((c:Int)<(slots.length:Int))=true:=by simp;omega
   obtain ⟨B,hB⟩:∃ B,Sc.eqN s.nm nm=B:=⟨_,rfl⟩
   have heq:(s.nm.toList == nm.toList)=B:=by
    rw [←hB]
    unfold Sc.eqN
    rw [Bool.eq_iff_iff,beq_iff_eq,decide_eq_true_eq,ZAz,ZAz]
   have HB:=ZZY hB
   clear hB
   cases B with
   |true=>
    have hans:Sc.colI ⟨slots,cols⟩ nm=(c:Int):=by
     unfold Sc.colI Sc.col
     rw [Sc.find_at _ cols q c (fun j y hj hy=>HNO.out j y hj hy) HC.out (by rw [HSO.out,HB.out])]
    have HANS:=ZZY hans
    clear hans
    go_wp2
    go_ret
    exact ⟨ZBK (HANS.out.symm.trans HGG.out),ZAh HB0.out _⟩
   |false=>
    go_wp2
    go_roundw
    case rel=>exact ⟨q+1,_,by omega,by go_num,rfl,fun j y hj hy=>by
     rcases Nat.lt_or_ge j q with h | h
     ·exact HNO.out j y h hy
     ·obtain rfl:j=q:=by omega
      rw [HC.out] at hy
      cases hy
      rw [HSO.out,HB.out]⟩
    case measure=>simp [intOf];omega
  ·obtain rfl:q=cols.length:=by omega
   have hd:decide ((cols.length:Int)<(cols.length:Int))=false:=by simp
   have hans:Sc.colI ⟨slots,cols⟩ nm = -1:=by
    unfold Sc.colI Sc.col
    rw [Sc.find_no _ cols (fun j y hy=>HNO.out j y ((List.getElem?_eq_some_iff.1 hy).1) hy)]
   have HANS:=ZZY hans
   clear hans
   go_wp2
   go_ret
   exact ⟨ZBK (HANS.out.symm.trans HGG.out),ZAh HB0.out _⟩
open Go.RowKit Go.Shelf
def U.okAll (l:List Int):Bool:=l.all fun c=>U.size c != 0
def U.text (l:List Int):ByteArray × Bool:=if U.okAll l then (strOfNums (l.flatMap U.put),true) else (ByteArray.empty,false)
namespace U
def At (r:List Int) (c:Int) (n:Nat):Prop:=0<n∧size c=n∧∃ t,r=put c++t
theorem size_cases (c:Int):(size c=0∧put c = [])∨(size c=1∧0≤c∧c<128∧put c = [c])∨(size c=2∧128≤c∧c<2048∧put c = [192+c / 64,128+c % 64]) ∨
  (size c=3∧2048≤c∧c<65536∧¬(55296≤c∧c≤57343)∧put c = [224+c / 4096,128+c / 64 % 64,128+c % 64]) ∨
  (size c=4∧65536≤c∧c≤1114111∧put c = [240+c / 262144,128+c / 4096 % 64,128+c / 64 % 64,128+c % 64]):=by
 have h:(size c=0)∨(size c=1∧0≤c∧c<128)∨(size c=2∧128≤c∧c<2048)∨(size c=3∧2048≤c∧c<65536∧¬(55296≤c∧c≤57343))∨(size c=4∧65536≤c∧c≤1114111):=by
  unfold size;repeat' split
  all_goals omega
 rcases h with h | ⟨h,a⟩ | ⟨h,a⟩ | ⟨h,a⟩ | ⟨h,a⟩<;>simp [put,h]<;>omega
theorem ZP0 (c:Int):(0≤c→c<128→size c=1)∧(128≤c→c<2048→size c=2)∧(2048≤c→c<65536→¬(55296≤c∧c≤57343)→size c=3)∧(65536≤c→c≤1114111→size c=4):=by
 refine ⟨fun a b=>?_,fun a b=>?_,fun a b d=>?_,fun a b=>?_⟩<;>(unfold size;repeat' split)<;>omega
theorem ZIp (x:Int):(x<128∧fst x=(x,1))∨(192≤x∧x<224∧fst x=(x-192,2))∨(224≤x∧x<240∧fst x=(x-224,3))∨(240≤x∧x<248∧fst x=(x-240,4))∨fst x=(0,0):=by
 unfold fst
 repeat' split
 all_goals simp<;>omega
theorem ZC6 (x:Int):cont x=true ↔ 128≤x∧x<192:=by simp [cont]
theorem get_of (r:List Int) (c:Int) (n:Nat) (h:At r c n):get r=(c,n):=by
 obtain ⟨hn,hs,t,rfl⟩:=h
 rcases size_cases c with ⟨h,hp⟩ | ⟨h,a,b,hp⟩ | ⟨h,a,b,hp⟩ | ⟨h,a,b,d,hp⟩ | ⟨h,a,b,hp⟩<;>rw [h] at hs
 ·omega
 ·obtain rfl:n=1:=by omega
  have hf:fst c=(c,1):=by rcases ZIp c with q | q | q | q | q<;>first | exact q.2 | omega | (unfold fst;rw [if_pos b])
  simp [hp,get,hf,conts,got,h]
 ·obtain rfl:n=2:=by omega
  have hf:fst (192+c / 64)=(c / 64,2):=by unfold fst;rw [if_neg (by omega),if_pos (by omega)];simp;omega
  have k1:cont (128+c % 64)=true:=(ZC6 _).2 (by omega)
  have e:c / 64*64+(128+c % 64-128)=c:=by omega
  simp [hp,get,hf,conts,got,k1,e,h]
 ·obtain rfl:n=3:=by omega
  have hf:fst (224+c / 4096)=(c / 4096,3):=by unfold fst;rw [if_neg (by omega),if_neg (by omega),if_pos (by omega)];simp;omega
  have k1:cont (128+c % 64)=true:=(ZC6 _).2 (by omega)
  have k2:cont (128+c / 64 % 64)=true:=(ZC6 _).2 (by omega)
  have e:(c / 4096*64+(128+c / 64 % 64-128))*64+(128+c % 64-128)=c:=by omega
  simp [hp,get,hf,conts,got,k1,k2,e,h]
 ·obtain rfl:n=4:=by omega
  have hf:fst (240+c / 262144)=(c / 262144,4):=by unfold fst;rw [if_neg (by omega),if_neg (by omega),if_neg (by omega),if_pos (by omega)];simp;omega
  have k1:cont (128+c % 64)=true:=(ZC6 _).2 (by omega)
  have k2:cont (128+c / 64 % 64)=true:=(ZC6 _).2 (by omega)
  have k3:cont (128+c / 4096 % 64)=true:=(ZC6 _).2 (by omega)
  have e:((c / 262144*64+(128+c / 4096 % 64-128))*64+(128+c / 64 % 64-128))*64+(128+c % 64-128)=c:=by omega
  simp [hp,get,hf,conts,got,k1,k2,k3,e,h]
theorem ZCo (r:List Int) (n:Nat) (c d:Int) (h:conts r n c=some d):n=0∧d=c∨∃ x t m,n=m+1∧r=x :: t∧128≤x∧x<192∧conts t m (c*64+(x-128))=some d:=by
 cases n with
 |zero=>left;rw [conts_zero] at h;cases h;exact ⟨rfl,rfl⟩
 |succ m=>
  right
  cases r with
  |nil=>simp [conts] at h
  |cons x t=>
   rw [conts_succ] at h
   by_cases hx:cont x=true
   ·rw [if_pos hx] at h;exact ⟨x,t,m,rfl,rfl,((ZC6 x).1 hx).1,((ZC6 x).1 hx).2,h⟩
   ·rw [if_neg hx] at h;cases h
theorem at_of_get (r:List Int) (hb:∀ x∈r,0≤x) (h:0<(get r).2):At r (get r).1 (get r).2:=by
 cases r with
 |nil=>simp [get] at h
 |cons x r=>
  have hx0:0≤x:=hb x (by simp)
  rcases ZIp x with ⟨a,hf⟩ | ⟨a,b,hf⟩ | ⟨a,b,hf⟩ | ⟨a,b,hf⟩ | hf
  ·have e:=(ZP0 x).1 hx0 a
   simp [get,hf,conts_zero,got,e] at h ⊢
   refine ⟨by omega,by simpa using e, ?_⟩
   simp [put,e]
  ·by_cases hl:r.length+1<2
   ·simp [get,hf,hl] at h
   cases hc:conts r 1 (x-192) with
   |none=>simp [get,hf,hl,hc,got] at h
   |some d=>
    by_cases hs:size d=2
    ·simp only [get,hf,hl,hc,got,hs] at h ⊢
     obtain ⟨h0,_⟩ | ⟨y1,t0,m0,hm0,rfl,l0,u0,hc0⟩:=ZCo _ _ _ _ hc
     ·omega
     obtain rfl:m0=0:=by omega
     rw [conts_zero] at hc0
     cases hc0
     have hz:=size_cases ((x-192)*64+(y1-128))
     simp at h ⊢
     refine ⟨by omega,hs,t0, ?_⟩
     rcases hz with ⟨q,_⟩ | ⟨q,_⟩ | ⟨q,_,_,hp⟩ | ⟨q,_,_,_,hp⟩ | ⟨q,_,_,hp⟩<;>rw [q] at hs<;>first | omega | (rw [hp];simp;omega)
    ·simp [get,hf,hl,hc,got,hs] at h
  ·by_cases hl:r.length+1<3
   ·simp [get,hf,hl] at h
   cases hc:conts r 2 (x-224) with
   |none=>simp [get,hf,hl,hc,got] at h
   |some d=>
    by_cases hs:size d=3
    ·simp only [get,hf,hl,hc,got,hs] at h ⊢
     obtain ⟨h0,_⟩ | ⟨y1,t0,m0,hm0,rfl,l0,u0,hc0⟩:=ZCo _ _ _ _ hc
     ·omega
     obtain rfl:m0=1:=by omega
     obtain ⟨h0,_⟩ | ⟨y2,t1,m1,hm1,rfl,l1,u1,hc1⟩:=ZCo _ _ _ _ hc0
     ·omega
     obtain rfl:m1=0:=by omega
     rw [conts_zero] at hc1
     cases hc1
     have hz:=size_cases (((x-224)*64+(y1-128))*64+(y2-128))
     simp at h ⊢
     refine ⟨by omega,hs,t1, ?_⟩
     rcases hz with ⟨q,_⟩ | ⟨q,_⟩ | ⟨q,_,_,hp⟩ | ⟨q,_,_,_,hp⟩ | ⟨q,_,_,hp⟩<;>rw [q] at hs<;>first | omega | (rw [hp];simp;omega)
    ·simp [get,hf,hl,hc,got,hs] at h
  ·by_cases hl:r.length+1<4
   ·simp [get,hf,hl] at h
   cases hc:conts r 3 (x-240) with
   |none=>simp [get,hf,hl,hc,got] at h
   |some d=>
    by_cases hs:size d=4
    ·simp only [get,hf,hl,hc,got,hs] at h ⊢
     obtain ⟨h0,_⟩ | ⟨y1,t0,m0,hm0,rfl,l0,u0,hc0⟩:=ZCo _ _ _ _ hc
     ·omega
     obtain rfl:m0=2:=by omega
     obtain ⟨h0,_⟩ | ⟨y2,t1,m1,hm1,rfl,l1,u1,hc1⟩:=ZCo _ _ _ _ hc0
     ·omega
     obtain rfl:m1=1:=by omega
     obtain ⟨h0,_⟩ | ⟨y3,t2,m2,hm2,rfl,l2,u2,hc2⟩:=ZCo _ _ _ _ hc1
     ·omega
     obtain rfl:m2=0:=by omega
     rw [conts_zero] at hc2
     cases hc2
     have hz:=size_cases ((((x-240)*64+(y1-128))*64+(y2-128))*64+(y3-128))
     simp at h ⊢
     refine ⟨by omega,hs,t2, ?_⟩
     rcases hz with ⟨q,_⟩ | ⟨q,_⟩ | ⟨q,_,_,hp⟩ | ⟨q,_,_,_,hp⟩ | ⟨q,_,_,hp⟩<;>rw [q] at hs<;>first | omega | (rw [hp];simp;omega)
    ·simp [get,hf,hl,hc,got,hs] at h
  ·simp [get,hf] at h
def lead (x:Int):Int:=if 240≤x then x-240 else if 224≤x then x-224 else if 192≤x then x-192 else x
def refC (r:List Int):Nat→Int
 | 0=>0
 | 1=>lead (r[0]?.getD 0)
 |n+2=>refC r (n+1)*64+r[n+1]?.getD 0 % 64
theorem refC_of (r:List Int) (c:Int) (n:Nat) (h:At r c n):refC r n=c∧r.take n=put c∧n≤4∧n≤r.length:=by
 obtain ⟨hn,hs,t,rfl⟩:=h
 rcases size_cases c with ⟨h,hp⟩ | ⟨h,a,b,hp⟩ | ⟨h,a,b,hp⟩ | ⟨h,a,b,d,hp⟩ | ⟨h,a,b,hp⟩<;>rw [h] at hs
 ·omega
 ·obtain rfl:n=1:=by omega
  simp [hp,refC,lead];omega
 ·obtain rfl:n=2:=by omega
  simp [hp,refC,lead];omega
 ·obtain rfl:n=3:=by omega
  simp [hp,refC,lead];omega
 ·obtain rfl:n=4:=by omega
  simp [hp,refC,lead];omega
theorem at_of_take (r:List Int) (c:Int) (n:Nat) (hn:0<n) (hl:n≤r.length) (h:put c=r.take n):At r c n:=by
 have h1:(put c).length=n:=by rw [h,List.length_take];omega
 have h2:=ZPa c
 refine ⟨hn, ?_,r.drop n,by rw [h,List.take_append_drop]⟩
 rw [h1] at h2
 rcases size_cases c with ⟨h,_⟩ | ⟨h,_⟩ | ⟨h,_⟩ | ⟨h,_⟩ | ⟨h,_⟩<;>omega
theorem refC_bd (r:List Int) (hb:∀ i:Nat,0≤r[i]?.getD 0∧r[i]?.getD 0≤255):(∀ n,0≤refC r n)∧refC r 1≤191∧refC r 2≤12287∧refC r 3≤786431∧refC r 4≤50331647:=by
 have h1:0≤refC r 1∧refC r 1≤191:=by have:=hb 0;simp only [refC,lead];(repeat' split)<;>omega
 refine ⟨fun n=>?_,h1.2, ?_, ?_, ?_⟩
 ·induction n with
  |zero=>simp [refC]
  |succ n ih=>cases n with
   |zero=>exact h1.1
   |succ n=>have:=hb (n+1);simp only [refC];omega
 all_goals simp only [refC] at h1 ⊢
 all_goals have:=hb 1
 all_goals omega
end U
open Go.RowKit Go.Shelf
theorem ZKE (c:Int) (w:World) :
  Calls Tryz.prog 152 #[.int .i64 c] w fun e w'=>e=.returned (.bool (U.size c != 0))∧w=w':=by
 have hz:=U.size_cases c
 have hsz:((U.size c != 0)=true ↔ (0≤c∧c<55296)∨(57343<c∧c≤1114111)):=by
  rw [bne_iff_ne]
  unfold U.size
  repeat' split
  all_goals simp
  all_goals omega
 generalize (U.size c != 0)=z at hsz ⊢
 have HZ:=ZZY hsz;clear hsz hz
 go_enter func152,ntmps152
 go_wp2
 all_goals go_ret
 all_goals (refine ⟨ZAG ?_,rfl⟩;have h:=HZ.out;rw [Bool.eq_iff_iff,h];simp;omega)
def Put (w:World) (c:Int) (e:Ending) (w':World):Prop:=∃ v,e=.returned v∧w'.ownsRow w.heap.size 5 1 v (U.put c).length (u8s (U.put c))∧Below w.heap.size w w'
theorem ZL5 (c:Int) (w:World):Calls Tryz.prog 142 #[.int .i64 c] w (Put w c):=by
 have hcode:=ZKE c
 have hb:∀ l:List Value,Below w.heap.size w (w.alloc (.cells l.toArray 5)):=fun l=>(Below.refl _ w).alloc (Nat.le_refl _) _
 rcases U.size_cases c with ⟨h,hp⟩ | ⟨h,a,b,hp⟩ | ⟨h,a,b,hp⟩ | ⟨h,a,b,d,hp⟩ | ⟨h,a,b,hp⟩
 ·have hz:(U.size c != 0)=false:=by simp [h]
  rw [hz] at hcode
  have H:=ZZY h;have HP:=ZZY hp;clear h hp hz
  go_enter func142,ntmps142
  go_wp2_with (first | (go_at_call 152;refine (hcode _).mono ?_;rintro e w' ⟨rfl,rfl⟩))
  go_ret
  exact ⟨_,rfl,by rw [HP.out];exact World.ownsRow_nil _ _ _ _,Below.refl _ _⟩
 ·have hz:(U.size c != 0)=true:=by simp [h]
  rw [hz] at hcode
  have H:=ZZY h;have HP:=ZZY hp;clear h hp hz
  go_enter func142,ntmps142
  go_wp2_with (first | (go_at_call 152;refine (hcode _).mono ?_;rintro e w' ⟨rfl,rfl⟩))
  go_ret
  exact ⟨_,rfl,by rw [HP.out];exact ZBy w _ _ 1 rfl (by unfold maxLen;omega),hb [_]⟩
 ·have hz:(U.size c != 0)=true:=by simp [h]
  rw [hz] at hcode
  have H:=ZZY h;have HP:=ZZY hp;clear h hp hz
  have e1:(192+c / 64) % 256=192+c / 64:=by omega
  have e2:(128+c % 64) % 256=128+c % 64:=by omega
  go_enter func142,ntmps142
  go_wp2_with (first | (go_at_call 152;refine (hcode _).mono ?_;rintro e w' ⟨rfl,rfl⟩))
  go_ret
  exact ⟨_,rfl,by rw [HP.out];exact ZBy w _ _ 2 rfl (by unfold maxLen;omega),hb [_,_]⟩
 ·have hz:(U.size c != 0)=true:=by simp [h]
  rw [hz] at hcode
  have H:=ZZY h;have HP:=ZZY hp;clear h hp hz
  have e1:(224+c / 4096) % 256=224+c / 4096:=by omega
  have e2:(128+c % 64) % 256=128+c % 64:=by omega
  have e3:(128+c / 64 % 64) % 256=128+c / 64 % 64:=by omega
  go_enter func142,ntmps142
  go_wp2_with (first | (go_at_call 152;refine (hcode _).mono ?_;rintro e w' ⟨rfl,rfl⟩))
  go_ret
  exact ⟨_,rfl,by rw [HP.out];exact ZBy w _ _ 3 rfl (by unfold maxLen;omega),hb [_,_,_]⟩
 ·have hz:(U.size c != 0)=true:=by simp [h]
  rw [hz] at hcode
  have H:=ZZY h;have HP:=ZZY hp;clear h hp hz
  have e1:(240+c / 262144) % 256=240+c / 262144:=by omega
  have e2:(128+c % 64) % 256=128+c % 64:=by omega
  have e3:(128+c / 64 % 64) % 256=128+c / 64 % 64:=by omega
  have e4:(128+c / 4096 % 64) % 256=128+c / 4096 % 64:=by omega
  go_enter func142,ntmps142
  go_wp2_with (first | (go_at_call 152;refine (hcode _).mono ?_;rintro e w' ⟨rfl,rfl⟩))
  go_ret
  exact ⟨_,rfl,by rw [HP.out];exact ZBy w _ _ 4 rfl (by unfold maxLen;omega),hb [_,_,_,_]⟩
open Go.RowKit Go.Shelf
theorem U.get_zero (r:List Int) (h:(U.get r).2=0):U.get r=(0,0):=by
 have hg:∀ n o,(U.got n o).2=0→0<n→U.got n o=(0,0):=by
  intro n o h hn
  cases o with
  |none=>rfl
  |some c=>simp only [U.got] at h ⊢;split at h<;>simp_all
 cases r with
 |nil=>rfl
 |cons x r=>
  simp only [U.get] at h ⊢
  split
  ·rfl
  ·rename_i hc
   rw [if_neg hc] at h
   exact hg _ _ h (by omega)
theorem ZL6 (a:Option Addr) (len cap:Nat) (l:List Int) (p:Int) (w:World) (hr:Row w .u8 a len cap l) (hb:ZCh l) (hp : -9223372036854775808≤p) (hp':p≤9223372036854775807) :
  Calls Tryz.prog 135 #[.slice a len cap,.int .i64 p] w fun e w'=>e=.returned (.tuple #[.int .i64 (getAt l p).1,.int .i64 ((getAt l p).2:Int),.bool (decide (0<(getAt l p).2))])∧Below w.heap.size w w':=by
 obtain ⟨hl,hlc,hcm,hrow⟩:=hr
 unfold maxLen at hcm
 by_cases hneg:p<0
 ·have hd:decide (p<0)=true:=by simpa using hneg
  have hg:getAt l p=(0,0):=by unfold getAt;rw [if_neg (by omega)]
  go_enter func135,ntmps135
  rw [hg];clear hg hl hrow
  go_wp2
  go_ret3
  exact ⟨rfl,Below.refl _ _⟩
 obtain ⟨q,rfl⟩:=Int.eq_ofNat_of_zero_le (by omega:0≤p)
 have hd:decide ((q:Int)<0)=false:=by simp
 by_cases hge:len≤q
 ·have hg:getAt l q=(0,0):=by unfold getAt;rw [if_neg (by omega)]
  have hd2:decide (len≤q)=true:=by simpa using hge
  go_enter func135,ntmps135
  rw [hg];clear hg hl hrow
  go_wp2
  go_ret3
  exact ⟨rfl,Below.refl _ _⟩
 rcases hrow with h0 | ⟨b,off,rfl,hcell⟩
 ·exact absurd h0 (by omega)
 have hlt:q<len:=by omega
 have hd2:decide (len≤q)=false:=by simpa using hge
 have hgl:getAt l q=U.get (l.drop q):=by unfold getAt;rw [if_pos (by omega),Int.toNat_natCast]
 obtain ⟨r,hr⟩:∃ r,l.drop q=r:=⟨_,rfl⟩
 have hrl:r.length=len-q:=by rw [←hr,List.length_drop,hl]
 have hri:∀ i,r[i]?.getD 0=l[q+i]?.getD 0:=fun i=>by rw [←hr,List.getElem?_drop]
 have hrb:∀ i:Nat,0≤r[i]?.getD 0∧r[i]?.getD 0≤255:=fun i=>by rw [hri];exact hb _
 have hbd:=U.refC_bd r hrb
 have hrx:∀ x∈r,0≤x:=fun x hx=>by
  obtain ⟨i,hi,rfl⟩:=List.getElem_of_mem hx
  have:=(hrb i).1;rwa [List.getElem?_eq_getElem hi] at this
 rw [hr] at hgl
 generalize getAt l (q:Int)=g at hgl ⊢
 have HG:=ZZY hgl;clear hgl
 have HL:=ZZY hl;clear hl
 have HR:=ZZY hr;clear hr
 have HRL:=ZZY hrl;clear hrl
 have HRI:=ZZY hri;clear hri
 have HRB:=ZZY hrb;clear hrb
 have HBD:=ZZY hbd;clear hbd
 have HRX:=ZZY hrx;clear hrx
 have HC:=ZZY hcell
 have hb0:b<w.heap.size:=by
  have h0:=hcell q hlt
  simp only [World.cell?] at h0
  rcases Nat.lt_or_ge b w.heap.size with h | h
  ·exact h
  ·rw [Array.getElem?_eq_none h] at h0;cases h0
 clear hcell
 go_enter func135,ntmps135
 go_wp2
 go_loopw [7,8,9] (fun c i _ wr=>∃ (k:Nat) (cc:Int),1≤k∧k≤5∧q+k≤len+1∧i=.int .i64 k∧c=.int .i64 cc∧cc=U.refC r (k-1)∧(∀ m,1≤m→m<k→U.put (U.refC r m)≠r.take m)∧Below w.heap.size w wr)
  (fun _ i _ _=>5-(intOf i).toNat)
 case atStart=>exact ⟨1,0,by omega,by omega,by omega,rfl,rfl,rfl,fun m h1 h2=>by omega,Below.refl _ _⟩
 case round=>
  obtain ⟨k,cc,hk1,hk5,hql,rfl,rfl,hcc,hno,hB⟩:=hrel
  have HNO:=ZZY hno;clear hno
  have hcb:0≤cc∧cc≤50331647:=by
   have h:=HBD.out
   rw [hcc]
   refine ⟨h.1 _, ?_⟩
   obtain h | h | h | h | h:k=1∨k=2∨k=3∨k=4∨k=5:=by omega
   all_goals subst h
   all_goals simp only [U.refC,Nat.reduceSub] at *
   all_goals omega
  have HCC:=ZZY hcc;clear hcc
  by_cases hin:k≤4∧q+k≤len
  ·obtain ⟨hk4,hqk⟩:=hin
   have hg1:decide (k≤4)=true:=by simpa using hk4
   have hg2:decide ((k:Int)≤(len:Int)-q)=true:=by simp;omega
   have hx:=(hB.cell (p:=⟨b,off+(q+k-1),none⟩) hb0).trans (HC.out (q+k-1) (by omega))
   have hxb:=hb (q+k-1)
   obtain ⟨x,hxe⟩:∃ x,l[q+k-1]?.getD 0=x:=⟨_,rfl⟩
   rw [hxe] at hx hxb
   have HX:Hid (r[k-1]?.getD 0=x):=ZZY (by rw [HRI.out,←hxe,show q+(k-1)=q+k-1 by omega])
   clear hxe
   obtain ⟨y,hy⟩:∃ y,U.refC r k=y:=⟨_,rfl⟩
   have hyb:0≤y:=by rw [←hy];exact HBD.out.1 k
   have hcase:((k:Int) == 1)=true∧240≤x∧x-240=y∨((k:Int) == 1)=true∧x<240∧224≤x∧x-224=y∨((k:Int) == 1)=true∧x<224∧192≤x∧x-192=y ∨
     ((k:Int) == 1)=true∧x<192∧x=y∨((k:Int) == 1)=false∧cc*64+x % 64=y:=by
    have hx':=HX.out
    by_cases h1:k=1
    ·subst h1
     simp only [U.refC,U.lead,Nat.sub_self] at hy hx'
     rw [hx'] at hy
     have e:(((1:Nat):Int) == 1)=true:=by decide
     simp only [e,true_and]
     (repeat' split at hy)<;>omega
    ·right;right;right;right
     refine ⟨by simp;omega, ?_⟩
     obtain ⟨m,rfl⟩:∃ m,k=m+2:=⟨k-2,by omega⟩
     have hcc':=HCC.out
     rw [show m+2-1=m+1 from rfl] at hcc' hx'
     simp only [U.refC] at hy
     rw [hx',←hcc'] at hy
     exact hy
   have HY:=ZZY hy;clear hy
   have hput:=ZL5 y
   have hrow1:∀ w1,Below wr.heap.size wr w1→Row w1 .u8 (some ⟨b,off+q,none⟩) k (cap-q) (r.take k):=by
    intro w1 h1
    refine ⟨by rw [List.length_take,HRL.out];omega,by omega,by unfold maxLen;omega,.inr ⟨b,off+q,rfl,fun i hi=>?_⟩⟩
    have h2:=HC.out (q+i) (by omega)
    rw [List.getElem?_take,if_pos hi,HRI.out i,Nat.add_assoc]
    exact (h1.cell (p:=⟨b,off+(q+i),none⟩) (Nat.lt_of_lt_of_le hb0 hB.size)).trans ((hB.cell (p:=⟨b,off+(q+i),none⟩) hb0).trans h2)
   have HRW:=ZZY hrow1;clear hrow1
   have hsl:=ZQE b off len cap q k (by omega) (by omega)
   have hwr:IntKind.i64.wrap ((q:Int)+k)=(q:Int)+k:=IntWalk.i64_in _ (by omega)
   rcases hcase with ⟨h1,h2,h3⟩ | ⟨h1,h2,h3,h4⟩ | ⟨h1,h2,h3,h4⟩ | ⟨h1,h2,h3⟩ | ⟨h1,h2⟩
   all_goals
    go_wp2
    go_region_with (first
     |(go_at_call 142;refine (hput _).mono ?_;rintro e w1 ⟨v,rfl,hown,hbl⟩;obtain ⟨a',c',rfl,hrw⟩:=ZBg hown)
     |(go_at_call 18;refine (ZFD _ _ _ _ _ _ (U.put y) (r.take k) _ (by exact hrw) (by exact HRW.out _ ((Below.refl wr.heap.size wr).drew.trans (by exact hbl)))).mono ?_;rintro e w2 ⟨rfl,nq,rfl⟩))
    all_goals
     have hBw:Below w.heap.size w (w1.drewN nq):=ZAh (hB.trans (((Below.refl wr.heap.size wr).drew.trans (by exact hbl)).mono hB.size)) nq
     clear hrw hown hput hsl hwr h1 h2
     by_cases hm:U.put y=r.take k
     ·have hdec:decide (U.put y=r.take k)=true:=by simpa using hm
      have hat:=U.at_of_take r y k (by omega) (by rw [HRL.out];omega) hm
      obtain rfl:g=(y,k):=by rw [HG.out];exact U.get_of r y k hat
      have HM:=ZZY hm;clear hm hat
      go_wp2
      go_ret3
      exact ⟨ZMM rfl rfl (by simp;omega),hBw⟩
     ·have hdec:decide (U.put y=r.take k)=false:=by simpa using hm
      have HM:=ZZY hm;clear hm
      go_wp2
      go_roundw
      case rel=>exact ⟨k+1,y,by omega,by omega,by omega,by go_num,rfl,HY.out.symm,fun m h1 h2=>by
       rcases Nat.lt_or_ge m k with h | h
       ·exact HNO.out m h1 h
       ·obtain rfl:m=k:=by omega
        rw [HY.out];exact HM.out,hBw⟩
      case measure=>simp [intOf];omega
  ·obtain rfl:g=(0,0):=by
    rw [HG.out]
    rcases Nat.eq_zero_or_pos (U.get r).2 with h | h
    ·exact U.get_zero r h
    ·obtain ⟨e1,e2,e3,e4⟩:=U.refC_of r _ _ (U.at_of_get r HRX.out h)
     have:=HRL.out
     exact absurd (by rw [e1,e2]) (HNO.out (U.get r).2 h (by omega))
   by_cases hk:k≤4
   ·have hg1:decide (k≤4)=true:=by simpa using hk
    have hg2:decide ((k:Int)≤(len:Int)-q)=false:=by simp;omega
    go_wp2
    go_ret3
    exact ⟨rfl,hB⟩
   ·have hg1:decide (k≤4)=false:=by simpa using hk
    go_wp2
    go_ret3
    exact ⟨rfl,hB⟩
open Go.RowKit Go.Shelf
theorem ZIq (s:ByteArray) (w:World) (hsm:s.size≤1099511627776) :
  Calls Tryz.prog 124 #[.string s] w (Cds w s):=by
 obtain ⟨i0,hi,hz0,hz1,hz2⟩:=info_parts ZCi
 have hmx:s.size≤maxLen:=by unfold maxLen;omega
 go_enter func124,ntmps124
 go_wp2
 go_loopw [4,5,6,7,8] (fun o i _ _ _ wr=>∃ (p f:Nat) (pre:List (Int × Nat)) (v:Value),p≤s.size∧i=.int .i64 p∧v=o∧wr.ownsRow w.heap.size 3 1 v pre.length (i64s (pre.map (·.1)))∧Below w.heap.size w wr ∧
   pre++U.cds f (strB s) p=U.cds s.size (strB s) 0∧s.size≤p+f∧pre.length≤p∧U.lastEnd pre=p)
  (fun _ i _ _ _ _=>s.size-(intOf i).toNat)
 case atStart=>exact ⟨0,s.size,[],_,Nat.zero_le _,rfl,rfl,World.ownsRow_nil _ _ _ _,Below.refl _ _,rfl,by omega,by simp,rfl⟩
 case round=>
  obtain ⟨p,f,pre,v,hp,rfl,rfl,hown,hB,hcd,hpf,hpl,hle⟩:=hrel
  have HC:=ZZY hcd;clear hcd
  have HE:=ZZY hle;clear hle
  by_cases hlt:p<s.size
  ·obtain ⟨cap,w1,hcv,hrow,hb1⟩:=ZDs wr s hmx
   have hget:=ZL6 _ _ _ _ (p:Int) w1 hrow (ZCL s) (by omega) (by omega)
   have hle:=U.getAt_le (strB s) p (by rw [ZBc];exact hp)
   rw [ZBc] at hle
   have hcs:=ZKV (f-1) (strB s) p
   have hcn:=ZGv (f-1) (strB s) p
   obtain ⟨c,m,hcm⟩:=ZGt (getAt (strB s) (p:Int))
   simp only [hcm] at hle hget hcs hcn
   have HM:=ZZY hcm;clear hcm
   have hf:f=f-1+1:=by omega
   have hown1:=ZAL hown hb1
   by_cases hm:0<m
   ·have HD:Hid ((pre ++ [(c,p+m)])++U.cds (f-1) (strB s) (p+m)=U.cds s.size (strB s) 0):=ZZY (by
     rw [←HC.out,hf,hcs hm];simp)
    clear hcs hcn
    have HF:=ZZY hf;clear hf
    have hd:decide (0<m)=true:=by simpa using hm
    go_wp2_with (first
     |(go_at_call 135;refine hget.mono ?_;rintro e w2 ⟨rfl,hb2⟩;have hown2:=(ZAL hown1 hb2).alloc (.cells #[.int .i64 c] 3))
     |(at_builtin;refine wpList_append_own _ rfl _ _ 52 rfl w.heap.size 3 i0 (.int .i64 0) 1 8 Tryz.underlying52 hi hz0 hz1 hz2 rfl (by decide) v _ _ rfl hown2 ⟨w2.heap.size,0,none⟩ 1 1 [.int .i64 c] rfl rfl (ZBC _ [_] _) (by simp [Value.oneCell']) ?b1 ?b2 ?b3 ?_))
    case b1=>unfold maxLen;omega
    case b2=>omega
    case b3=>have:=hB.size;have:=hb1.size;have:=hb2.size;simp;omega
    intro v' w3 hown3 hg _
    have hbl:Below w.heap.size w w3:=(((hB.trans (hb1.mono hB.size)).trans (hb2.mono (Nat.le_trans hB.size hb1.size))).alloc (by have:=hB.size;have:=hb1.size;have:=hb2.size;omega) _).trans (ZBX hg hown2 (by have:=hB.size;have:=hb1.size;have:=hb2.size;simp;omega))
    have HV:=ZZY hown3;clear hown3 hown2 hown1 hown hcv
    go_wp2
    go_roundw
    case rel=>exact ⟨p+m,f-1,pre ++ [(c,p+m)],v',hle.1,by go_num,rfl,ZBQ HV.out (by simp) (by simp [i64s]),hbl,HD.out,by omega,by simp;omega,U.lastEnd_snoc _ _⟩
    case measure=>simp [intOf];omega
   ·have hm0:m=0:=by omega
    subst hm0
    have HD:Hid (pre=U.cds s.size (strB s) 0):=ZZY (by rw [←HC.out,hf,hcn hm,List.append_nil])
    clear hcs hcn hf
    have hd:decide (0<0)=false:=by simp
    go_wp2_with (first
     |(go_at_call 135;refine hget.mono ?_;rintro e w2 ⟨rfl,hb2⟩;have hown2:=ZAL hown1 hb2))
    go_ret2
    exact ⟨v,by rw [←HD.out,HE.out];rfl,by rw [←HD.out];exact hown2,(hB.trans (hb1.mono hB.size)).trans (hb2.mono (Nat.le_trans hB.size hb1.size))⟩
  ·obtain rfl:p=s.size:=by omega
   have HD:Hid (pre=U.cds s.size (strB s) 0):=ZZY (by
    rw [←HC.out]
    cases f with
    |zero=>simp [U.cds]
    |succ f=>rw [ZGv f _ _ (by unfold getAt;rw [if_neg (by rw [ZBc];omega)];simp),List.append_nil])
   go_wp2
   go_ret2
   exact ⟨v,by rw [←HD.out,HE.out];rfl,by rw [←HD.out];exact hown,hB⟩
