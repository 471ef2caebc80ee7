/- The program's contracts of stage 10. -/
import Derived.Test.YtnefldogciemgaaGreatMh36Regi
import Derived.Test.YtnefldogciemgaaGreatMh37Regi
import Derived.Test.YtnefldogciemgaaGreatMh38Regi
import Derived.Test.YtnefldogciemgaaGreatMh24Regi
import Derived.Test.YtnefldogciemgaaGreatMh26Regi
import Derived.Test.YtnefldogciemgaaGreatMh21Regi
import Derived.Test.YtnefldogciemgaaGreatMh17Regi
import Derived.Test.YtnefldogciemgaaGreatMh4Regi
set_option linter.unusedVariables false
namespace Go.Proofs.YtnefldogciemgaaGreat
open Go.RowKit Go.Shelf
theorem allC:AllC:=spAll_any spAdd_any reorder_any
theorem rightC:RightC:=rightA allC
set_option linter.unusedSimpArgs false
set_option maxRecDepth 100000
open Go.RowKit Go.Shelf
theorem rightOf_great {t:TemplM} (h:greatT t=false):RightOf t:=fun W X hi=>rightC t W X h hi
theorem great_lens {t:TemplM} (h:greatT t=false):t.slots.length≤30∧t.steps.length≤30:=great_len h
theorem asked_great {l:List TemplM} (h:∀ t∈l,greatT t=false):Asked l:=fun t ht=>⟨rightOf_great (h t ht),by have:=great_lens (h t ht);omega,by have:=great_lens (h t ht);omega⟩
def tB:List Int:=Rg.putR [twoT]
theorem twoR_right:Rg.right [twoT]=true:=by decide +kernel
theorem two_put:Rg.putIf [twoT]=tB:=by unfold Rg.putIf;rw [if_pos twoR_right];rfl
theorem two_len:20<tB.length∧tB.length≤1000:=by decide +kernel
theorem two_asked:Asked [twoT]:=asked_great fun t ht=>by
 simp only [List.mem_cons,List.not_mem_nil,or_false] at ht
 subst ht;exact two_great
theorem two_nums:∀ t∈[twoT],Rg.NumsT t:=fun t ht=>by
 simp only [List.mem_cons,List.not_mem_nil,or_false] at ht
 subst ht
 constructor
 ·intro s hs;simp [twoT] at hs;rcases hs with rfl | rfl<;>simp [intV,numsV,numsV.numsL,I64]
 ·intro s hs;simp [twoT] at hs;rcases hs with rfl | rfl<;>simp [Sc.nilV,numsV,numsV.numsL,I64]
theorem two_find:Rg.ixJ (Rg.find [twoT] ⟨#[116]⟩)=0:=by decide +kernel
theorem two_find2:Rg.ixJ (Rg.find [twoT] ⟨#[117]⟩) = -1:=by decide +kernel
theorem nil_put:Rg.putIf [] = [0,0,0,0]:=by decide +kernel
theorem asked_nil:Asked []:=fun t ht=>by simp at ht
theorem two_get:getRg tB=some [twoT]:=Rg.get_back _ twoR_right two_nums
theorem two_get0:getRg (tB ++ [0])=none:=by
 have h1:=Rg.rReg_back _ twoR_right two_nums [0]
 have h2:=Rg.rRead_back _ twoR_right two_nums [0]
 unfold getRg tB
 rw [h2,h1]
 rfl
theorem two_read (r:List Int):∀ ts s',Rg.rReg (some (tB++r))=(some ts,s')→s'.isNone=false→ts.length≤100000∧Asked ts:=fun ts s' h _=>by
 rw [show tB=Rg.putR [twoT] from rfl,Rg.rReg_back _ twoR_right two_nums r] at h
 cases h
 exact ⟨by decide,two_asked⟩
theorem tB_bytes (r:List Int) (hr:Rg.BD r):Bytes (tB++r):=Rg.bd_bytes (Rg.bd_app (Rg.bd_putR _) hr)
theorem templRow_one {W:World} {t:TemplM} {sa:Option Addr} {sc:Nat} {ta:Option Addr} {tc:Nat} (h1:t.nm.size≤maxLen) (h2:SlotRow W sa sc t.slots) (h3:StepRow W ta tc t.steps) :
  TemplRow (W.alloc (.cells #[.string t.nm,.slice sa t.slots.length sc,.slice ta t.steps.length tc] 45)) (some ⟨W.heap.size,0,none⟩) 1 [t]:=by
 have hA:=(Below.refl _ W).alloc (Nat.le_refl _) (.cells #[.string t.nm,.slice sa t.slots.length sc,.slice ta t.steps.length tc] 45)
 refine ⟨by simp,by decide,.inr ⟨_,0,rfl,fun i s hs=>?_⟩⟩
 have hi:i<1:=(List.getElem?_eq_some_iff.1 hs).1
 obtain rfl:i=0:=by omega
 simp only [List.getElem?_cons_zero,Option.some.injEq] at hs
 subst hs
 exact ⟨sa,sc,ta,tc,⟨by simp,by simp,by simp⟩,h1,slotRow_below hA h2,stepRow_below hA h3⟩
theorem row_zero4 (w:World):Row (w.alloc (.cells #[.int .u8 0,.int .u8 0,.int .u8 0,.int .u8 0] 5)) .u8 (some ⟨w.heap.size,0,none⟩) 4 4 [0,0,0,0]:=by
 refine ⟨rfl,Nat.le_refl _,by unfold maxLen;omega,.inr ⟨_,0,rfl,fun i hi=>?_⟩⟩
 match i,hi with
 | 0,_=>simp
 | 1,_=>simp
 | 2,_=>simp
 | 3,_=>simp
def Got1 (W:World) (e:Ending) (w':World):Prop:=∃ (a:Option Addr) (c:Nat),e=.returned (.tuple #[.slice a 1 c,.bool true])∧(∀ W':World,(∀ b,W.heap.size≤b→b<w'.heap.size→W'.heap[b]? = w'.heap[b]?)→TemplRow W' a c [twoT])∧Below W.heap.size W w'
def Got0 (W:World) (e:Ending) (w':World):Prop:=∃ (c:Nat),e=.returned (.tuple #[.slice none 0 c,.bool false])∧Below W.heap.size W w'
set_option maxHeartbeats 8000000 in
theorem rgAlive_any (w:World):Calls Tryz.prog 5 #[] w fun e w'=>e=.returned (.bool true)∧Below w.heap.size w w':=by
 obtain ⟨i0,hi,hz0,hz1,hz2⟩:=info_parts info_u8
 have hTw:=refTwo_any w
 obtain ⟨hN20,hN1⟩:=two_len
 have hPut:∀ W a,TemplRow W a 1 [twoT]→Calls Tryz.prog 10 #[.slice a 1 1] W (Got W tB):=fun W a h=>by
  have:=rgPut_any a 1 [twoT] W h (by decide) two_asked
  rw [two_put] at this
  exact this
 have hGet:∀ W a c,Row W .u8 a tB.length c tB→Calls Tryz.prog 16 #[.slice a tB.length c] W (Got1 W):=fun W a c h=>by
  have:=rgGet_any a _ c tB W h (by have:=tB_bytes [] Rg.bd_nil;rwa [List.append_nil] at this) (by omega) (by have:=two_read [];rwa [List.append_nil] at this)
  rw [two_get] at this
  refine this.mono fun e w' h=>?_
  obtain ⟨a4,l4,c4,rfl,_,hF4,hB4⟩:=h
  obtain ⟨hl4,hrow4⟩:=hF4 [twoT] rfl
  obtain rfl:l4=1:=hl4
  exact ⟨a4,c4,rfl,hrow4,hB4⟩
 have hGet0:∀ W a c,Row W .u8 a (tB.length+1) c (tB ++ [0])→Calls Tryz.prog 16 #[.slice a (tB.length+1) c] W (Got0 W):=fun W a c h=>by
  have:=rgGet_any a _ c (tB ++ [0]) W h (tB_bytes [0] (fun x hx=>by simp at hx;omega)) (by omega) (two_read [0])
  rw [two_get0] at this
  refine this.mono fun e w' h=>?_
  obtain ⟨a4,l4,c4,rfl,h4,_,hB4⟩:=h
  obtain ⟨rfl,rfl⟩:=h4 rfl
  exact ⟨c4,rfl,hB4⟩
 have hSame:∀ W a b c,TemplRow W a 1 [twoT]→TemplRow W b c [twoT]→Calls Tryz.prog 14 #[.slice a 1 1,.slice b 1 c] W fun e w'=>e=.returned (.bool true)∧Below W.heap.size W w':=fun W a b c h1 h2=>by
  have:=rgSame_any a b 1 c [twoT] [twoT] W h1 h2
  rw [eqB_self] at this
  exact this
 have hRight:∀ W a,TemplRow W a 1 [twoT]→Calls Tryz.prog 7 #[.slice a 1 1] W fun e w'=>e=.returned (.bool true)∧Below W.heap.size W w':=fun W a h=>by
  have:=rgRight_any a 1 [twoT] W h (by decide) two_asked
  rw [twoR_right] at this
  exact this
 have hFind:∀ W a,TemplRow W a 1 [twoT]→Calls Tryz.prog 12 #[.slice a 1 1,.string ⟨#[116]⟩] W fun e w'=>e=.returned (.int .i64 0)∧Below W.heap.size W w':=fun W a h=>by
  have:=rgFind_any a 1 [twoT] ⟨#[116]⟩ W h (by decide)
  rw [two_find] at this
  exact this
 have hFind2:∀ W a,TemplRow W a 1 [twoT]→Calls Tryz.prog 12 #[.slice a 1 1,.string ⟨#[117]⟩] W fun e w'=>e=.returned (.int .i64 (-1))∧Below W.heap.size W w':=fun W a h=>by
  have:=rgFind_any a 1 [twoT] ⟨#[117]⟩ W h (by decide)
  rw [two_find2] at this
  exact this
 have hNil:∀ W,Calls Tryz.prog 10 #[.slice none 0 0] W (Got W [0,0,0,0]):=fun W=>by
  have:=rgPut_any none 0 [] W ⟨by simp,by unfold maxLen;omega,.inl rfl⟩ (by decide) asked_nil
  rw [nil_put] at this
  exact this
 generalize tB=TB at *
 obtain ⟨N,hN⟩:∃ N,TB.length=N:=⟨_,rfl⟩
 rw [hN] at hN20 hN1
 simp only [hN] at hGet hGet0
 have d20:decide ((N:Int) > 20)=true:=by simp;omega
 have d21:decide ((20:Int)<(N:Int))=true:=by simp;omega
 have d22:decide (20<N)=true:=by simp;omega
 have HPut:=Lib.hid hPut;have HGet:=Lib.hid hGet;have HGet0:=Lib.hid hGet0;have HSame:=Lib.hid hSame;have HRight:=Lib.hid hRight;have HFind:=Lib.hid hFind;have HFind2:=Lib.hid hFind2;have HNil:=Lib.hid hNil;have HN:=Lib.hid hN
 clear hPut hGet hGet0 hSame hRight hFind hFind2 hNil hN
 go_enter Tryz.func5,Tryz.ntmps5
 go_upto_region 2 with (go_at_call 23;(with_reducible refine hTw.mono ?_);rintro e w1 ⟨⟨X,rfl,hX⟩,hB1⟩;obtain ⟨h1,sa,sc,ta,tc,rfl,hs,ht⟩:=hX;have hrow:=templRow_one h1 hs ht)
 have hB2:=hB1.alloc hB1.size (.cells #[.string twoT.nm,.slice sa twoT.slots.length sc,.slice ta twoT.steps.length tc] 45)
 generalize w1.alloc (.cells #[.string twoT.nm,.slice sa twoT.slots.length sc,.slice ta twoT.steps.length tc] 45)=W2 at *
 generalize (some (⟨w1.heap.size,0,none⟩:Addr))=A at *
 have HRow:=Lib.hid hrow
 clear hrow hB1 h1 hs ht hTw
 go_upto_region 3 with (go_at_call 10;(with_reducible refine (HPut.out _ _ HRow.out).mono ?_);rintro e w3 ⟨v3,rfl,ho3,hB3⟩;obtain ⟨a3,c3,rfl,hr3⟩:=got_row ho3 HN.out)
 have ho3':=ownsRow_nth ho3 HN.out rfl
 have HO3:=Lib.hid ho3';have HR3:=Lib.hid hr3
 have hb23:=hB3
 clear ho3 ho3' hr3
 go_upto_region 4 with (go_at_call 16;(with_reducible refine (HGet.out _ _ _ HR3.out).mono ?_);rintro e w4 ⟨a4,c4,rfl,hrow4,hB4⟩)
 have HRow4:=Lib.hid hrow4
 have hA4:=(Below.refl _ w4).alloc (Nat.le_refl _) (.cells #[.int .u8 0] 5)
 have ho5:=ownsRow_below (ownsRow_below HO3.out hB4) hA4
 have hb24:=hb23.trans (hB4.mono hb23.size)
 have hb25:=hb24.trans (hA4.mono hb24.size)
 clear hrow4
 go_upto_region 5 with (first
  |(at_builtin;refine wpList_append_cells _ rfl _ _ 26 rfl W2.heap.size 5 i0 (.int .u8 0) 1 1 Tryz.underlying26 hi hz0 hz1 hz2 rfl (by decide) (.slice a3 N c3) N (u8s TB) rfl ho5 (some ⟨w4.heap.size,0,none⟩) 1 1 [.int .u8 0] rfl ⟨rfl,.inr ⟨_,rfl,cells_new w4 [.int .u8 0] 5⟩⟩ (by simp [Value.oneCell']) (by unfold maxLen;omega) (by omega) hb25.size ?_;intro v6 w6 hown6 hg6;obtain ⟨a6,c6,rfl,hr6⟩:=got_row (l:=TB ++ [0]) (n:=N+1) (ownsRow_nth hown6 (by rw [List.length_append,HN.out];rfl) (by simp [u8s])) (by rw [List.length_append,HN.out];rfl))
  |(go_at_call 16;(with_reducible refine (HGet0.out _ _ _ hr6).mono ?_);rintro e w7 ⟨c7,rfl,hB7⟩))
 have hb26:=hb25.trans (below_grown hg6 ho5 hb25.size)
 have hb27:=hb26.trans (hB7.mono hb26.size)
 have hrA:=templRow_below hb27 HRow.out
 have hrM:=HRow4.out w7 fun b b1 b2=>by
  have hw5:(w4.alloc (.cells #[.int .u8 0] 5)).heap.size=w4.heap.size+1:=World.size_alloc _ _
  rw [hB7.block b (by have:=hg6.size;omega),hg6.block b (by omega) (fun e=>by have:=(own_blk8 HO3.out b e.symm).1;omega),hA4.block b b2]
 have HrA:=Lib.hid hrA;have HrM:=Lib.hid hrM
 clear hrA hrM hown6 hg6 hr6 ho5 hA4 hb23 hb24 hb25 hb26 hB3 hB4 hB7 hi hz0 hz1 hz2
 go_wp2_with (first
  |(go_at_call 14;(with_reducible refine (HSame.out _ _ _ _ HrA.out HrM.out).mono ?_);rintro e w8 ⟨rfl,hB8⟩;have hr8:=templRow_below hB8 HrA.out;have hb28:=hb27.trans (hB8.mono hb27.size))
  |(go_at_call 7;(with_reducible refine (HRight.out _ _ hr8).mono ?_);rintro e w9 ⟨rfl,hB9⟩;have hr9:=templRow_below hB9 hr8;have hb29:=hb28.trans (hB9.mono hb28.size))
  |(go_at_call 12;(with_reducible refine (HFind.out _ _ hr9).mono ?_);rintro e w10 ⟨rfl,hB10⟩;have hr10:=templRow_below hB10 hr9;have hb210:=hb29.trans (hB10.mono hb29.size))
  |(go_at_call 12;(with_reducible refine (HFind2.out _ _ hr10).mono ?_);rintro e w11 ⟨rfl,hB11⟩;have hb211:=hb210.trans (hB11.mono hb210.size))
  |(go_at_call 10;(with_reducible refine (HNil.out _).mono ?_);rintro e w12 ⟨v12,rfl,ho12,hB12⟩;obtain ⟨a12,c12,rfl,hr12⟩:=got_row (n:=4) ho12 rfl;have hb212:=hb211.trans (hB12.mono hb211.size);have hA12:=(Below.refl _ w12).alloc (Nat.le_refl _) (.cells #[.int .u8 0,.int .u8 0,.int .u8 0,.int .u8 0] 5);have hr13:=row_zero4 w12)
  |(go_at_call 9;(with_reducible refine (refBytes_any _ _ _ _ _ _ _ _ _ (row_below hr12 hA12 rfl) hr13).mono ?_);rintro e w14 ⟨rfl,n14,rfl⟩))
 go_ret
 exact ⟨rfl,hB2.trans ((below_drewN (hb212.trans (hA12.mono hb212.size)) _).mono hB2.size)⟩
set_option linter.unusedSimpArgs false
set_option maxRecDepth 100000
open Go.RowKit Go.Shelf
def greatR (l:List TemplM):Bool:=decide (12<l.length) || l.any greatT
theorem greatR_not {l:List TemplM} (h:greatR l=false):l.length≤12∧∀ t∈l,greatT t=false:=by
 unfold greatR at h
 rw [Bool.or_eq_false_iff,decide_eq_false_iff_not,List.any_eq_false] at h
 exact ⟨by omega,fun t ht=>by have:=h.2 t ht;simpa using this⟩
set_option maxHeartbeats 4000000 in
theorem refGreat13_any (a:Option Addr) (cap:Nat) (l:List TemplM) (w:World) (hr:TemplRow w a cap l) :
  Calls Tryz.prog 6 #[.slice a l.length cap] w fun e w'=>e=.returned (.bool (greatR l))∧Below w.heap.size w w':=by
 unfold greatR
 obtain ⟨n,hn⟩:∃ n,l.length=n:=⟨_,rfl⟩
 obtain ⟨B,hB⟩:∃ B,(decide (12<l.length) || l.any greatT)=B:=⟨_,rfl⟩
 rw [hB]
 have HR:=Lib.hid hr;have HN:=Lib.hid hn;have HB:=Lib.hid hB
 rw [hn] at hB ⊢
 clear hr hn
 by_cases h12:12<n
 ·have hb:B=true:=by rw [←hB,decide_eq_true h12];rfl
  subst hb
  have d1:decide ((n:Int) > 12)=true:=by simp;omega
  have d2:decide ((12:Int)<(n:Int))=true:=by simp;omega
  clear hB
  go_enter Tryz.func6,Tryz.ntmps6
  go_wp2
  go_ret
  exact ⟨rfl,Below.refl _ _⟩
 ·have d1:decide ((n:Int) > 12)=false:=by simp;omega
  have d2:decide ((12:Int)<(n:Int))=false:=by simp;omega
  have hn12:n≤12:=by omega
  rw [decide_eq_false h12,Bool.false_or] at hB
  have HA:=Lib.hid hB
  clear hB h12
  go_enter Tryz.func6,Tryz.ntmps6
  go_wp2
  go_loopw [3] (fun i wr=>∃ k:Nat,k≤n∧i=.int .i64 k∧Below w.heap.size w wr∧Hid (∀ j t,j<k→l[j]? = some t→greatT t=false)) (fun i _=>n-(intOf i).toNat)
  case atStart=>exact ⟨0,Nat.zero_le _,rfl,Below.refl _ _,Lib.hid (fun j y hj=>by omega)⟩
  case round=>
   obtain ⟨k,hk,rfl,hbw,HE⟩:=hrel
   rcases Nat.lt_or_ge k n with hlt | hge
   ·have hd:decide ((k:Int)<(n:Int))=true:=by simp;omega
    have hnl:=HN.out
    obtain ⟨y,hy⟩:∃ y,l[k]? = some y:=⟨l[k],List.getElem?_eq_getElem (by omega)⟩
    obtain ⟨sb,so,rfl,hrow⟩:∃ b off,a=some ⟨b,off,none⟩∧∀ i s,l[i]? = some s→TemplAt w b (off+i*3) s:=by
     rcases HR.out.2.2 with h | h
     ·subst h;simp at hnl;omega
     ·exact h
    obtain ⟨la,lc,oa,oc,⟨g0,g1,g2⟩,hsn,hst⟩:=templAt_form (hrow k y hy)
    have y0:=cell_below hbw g0
    have y1:=cell_below hbw g1
    have y2:=cell_below hbw g2
    have HX:=Lib.hid (refGreat10_any y wr _ (isTempl_below hbw hst))
    obtain ⟨R,hR⟩:∃ R,greatT y=R:=⟨_,rfl⟩
    rw [hR] at HX
    have HY:=Lib.hid hy;have HRR:=Lib.hid hR
    clear hy hR hst hsn hrow hnl g0 g1 g2
    cases R with
    |true=>
     have hb0:B=true:=by rw [←HA.out];exact any_at _ _ k y HY.out HRR.out
     subst hb0
     go_wp2_with (go_at_call 24;(with_reducible refine (HX.out).mono ?_);rintro e w1 ⟨rfl,hB1⟩)
     go_ret
     exact ⟨rfl,hbw.trans (hB1.mono hbw.size)⟩
    |false=>
     go_wp2_with (go_at_call 24;(with_reducible refine (HX.out).mono ?_);rintro e w1 ⟨rfl,hB1⟩)
     go_roundw
     case rel=>exact ⟨k+1,by omega,by go_num,hbw.trans (hB1.mono hbw.size),Lib.hid (fun j z hj hz=>by
      rcases Nat.lt_or_ge j k with h | h
      ·exact HE.out j z h hz
      ·obtain rfl:j=k:=by omega
       rw [HY.out] at hz
       cases hz
       exact HRR.out)⟩
     case measure=>simp [intOf];omega
   ·obtain rfl:k=n:=by omega
    have hd:decide ((k:Int)<(k:Int))=false:=by simp
    have hb0:B=false:=by rw [←HA.out];exact any_take _ _ fun q x hx=>HE.out q x (by have h3:=(List.getElem?_eq_some_iff.1 hx).1;have h4:=HN.out;omega) hx
    subst hb0
    go_wp2
    go_ret
    exact ⟨rfl,hbw⟩
theorem great_asked {l:List TemplM} (h:greatR l=false):l.length≤100000∧Asked l:=by
 have:=greatR_not h
 exact ⟨by omega,asked_great this.2⟩
set_option linter.unusedSimpArgs false
open Go.RowKit Go.Shelf
def RIsStep (w:World) (s:StepM) (x:Value):Prop:=∃ c2 c3 c4 c5 c6 c7 c8 oa oc,x=.agg #[.int .i64 s.kd,.int .i64 s.col,c2,c3,c4,c5,c6,c7,c8,.slice oa s.od.length oc]∧I64 s.kd∧I64 s.col∧Slot7 w s.sl c2 c3 c4 c5 c6 c7 c8∧Row w .i64 oa s.od.length oc s.od∧∀ x∈s.od,I64 x
theorem rIsStep_below {w w':World} (hb:Below w.heap.size w w') {s:StepM} {x:Value} (h:RIsStep w s x):RIsStep w' s x:=by
 obtain ⟨c2,c3,c4,c5,c6,c7,c8,oa,oc,rfl,h1,h2,h3,h4,h5⟩:=h
 exact ⟨c2,c3,c4,c5,c6,c7,c8,oa,oc,rfl,h1,h2,slot7_below hb h3,row_below h4 hb rfl,h5⟩
theorem nilV_is (W:World):Is W Sc.nilV (.agg #[.int .i64 0,.int .i64 0,.string ⟨#[]⟩,.slice none 0 0]):=by
 unfold Sc.nilV Is
 exact ⟨by unfold I64;omega,by unfold I64;omega,Nat.zero_le _,none,0,rfl,Nat.le_refl _,Nat.zero_le _,.inl rfl⟩
set_option maxRecDepth 100000 in
set_option maxHeartbeats 8000000 in
theorem refRest_any (s:StepM) (w:World) (x:Value) (hs:RIsStep w s x):Calls Tryz.prog 114 #[x] w fun e w'=>e=.returned (.bool (Sc.rest s))∧Below w.heap.size w w':=by
 obtain ⟨kd,col,⟨nm,ty,rq,df⟩,od⟩:=s
 obtain ⟨c2,c3,c4,c5,c6,c7,c8,oa,oc,rfl,hk,hc,⟨hnm,hty,rfl,rfl,rfl,hdf⟩,hod,_⟩:=hs
 have hdf0:=hdf
 obtain ⟨vk,vn,vt,va,vl,vc,e⟩:∃ k n t a len cap,(Value.agg #[c5,c6,c7,c8])=.agg #[.int .i64 k,.int .i64 n,.string t,.slice a len cap]:=by
  cases df
  simp only at hdf
  unfold Is at hdf
  obtain ⟨_,_,_,a,cap,e,_⟩:=hdf
  exact ⟨_,_,_,_,_,_,e⟩
 simp only [Value.agg.injEq,Array.mk.injEq,List.cons.injEq,and_true] at e
 obtain ⟨rfl,rfl,rfl,rfl⟩:=e
 simp only at hdf hnm hty hk hc hod ⊢
 have hoc:=hod.2.2.1
 have hol:=hod.2.1
 unfold maxLen at hoc
 clear hod hdf0
 have hB0:=(Below.refl _ w).alloc (Nat.le_refl _) (.cells #[.int .i64 kd,.int .i64 col,.string nm,.int .i64 ty,.bool rq,.int .i64 vk,.int .i64 vn,.string vt,.slice va vl vc,.slice oa od.length oc] 60)
 have hB1:=hB0.alloc hB0.size (.cells #[.string nm,.int .i64 ty,.bool rq,.int .i64 vk,.int .i64 vn,.string vt,.slice va vl vc] 57)
 have hL1:=(Below.refl _ (w.alloc (.cells #[.int .i64 kd,.int .i64 col,.string nm,.int .i64 ty,.bool rq,.int .i64 vk,.int .i64 vn,.string vt,.slice va vl vc,.slice oa od.length oc] 60))).alloc (Nat.le_refl _) (.cells #[.string nm,.int .i64 ty,.bool rq,.int .i64 vk,.int .i64 vn,.string vt,.slice va vl vc] 57)
 have hSm:∀ W,Below w.heap.size w W→Calls Tryz.prog 69 #[.agg #[.int .i64 vk,.int .i64 vn,.string vt,.slice va vl vc],.agg #[.int .i64 0,.int .i64 0,.string ⟨#[]⟩,.slice none 0 0]] W fun e w'=>e=.returned (.bool (cmpV df Sc.nilV == 0))∧Below W.heap.size W w':=fun W hb=>refSame_any df Sc.nilV W _ _ (is_below hb _ _ hdf) (nilV_is W)
 obtain ⟨S,hS⟩:∃ S,(cmpV df Sc.nilV == 0)=S:=⟨_,rfl⟩
 rw [hS] at hSm
 have hres:Sc.rest ⟨kd,col,⟨nm,ty,rq,df⟩,od⟩=((decide (kd=1) || (!rq && S)) && (decide (kd=5) || od.isEmpty) && (decide (kd=1) || decide (kd=3) || decide (nm.size=0)) && (decide (kd=1) || decide (kd=4) || decide (ty=0)) && ((!decide (kd=1) && !decide (kd=5)) || decide (col=0))):=by
  unfold Sc.rest
  rw [←hS]
  rfl
 rw [hres]
 obtain ⟨G,hG⟩:∃ G,((decide (kd=1) || (!rq && S)) && (decide (kd=5) || od.isEmpty) && (decide (kd=1) || decide (kd=3) || decide (nm.size=0)) && (decide (kd=1) || decide (kd=4) || decide (ty=0)) && ((!decide (kd=1) && !decide (kd=5)) || decide (col=0)))=G:=⟨_,rfl⟩
 rw [hG]
 have HG:=Lib.hid hG
 have HSm:=Lib.hid hSm
 have hx:∀ W,Below ((w.alloc (.cells #[.int .i64 kd,.int .i64 col,.string nm,.int .i64 ty,.bool rq,.int .i64 vk,.int .i64 vn,.string vt,.slice va vl vc,.slice oa od.length oc] 60)).alloc (.cells #[.string nm,.int .i64 ty,.bool rq,.int .i64 vk,.int .i64 vn,.string vt,.slice va vl vc] 57)).heap.size ((w.alloc (.cells #[.int .i64 kd,.int .i64 col,.string nm,.int .i64 ty,.bool rq,.int .i64 vk,.int .i64 vn,.string vt,.slice va vl vc,.slice oa od.length oc] 60)).alloc (.cells #[.string nm,.int .i64 ty,.bool rq,.int .i64 vk,.int .i64 vn,.string vt,.slice va vl vc] 57)) W →
   W.cell? ⟨w.heap.size,0,none⟩=some (.int .i64 kd)∧W.cell? ⟨w.heap.size,1,none⟩=some (.int .i64 col)∧W.cell? ⟨w.heap.size,9,none⟩=some (.slice oa od.length oc)∧W.cell? ⟨w.heap.size+1,0,none⟩=some (.string nm)∧W.cell? ⟨w.heap.size+1,1,none⟩=some (.int .i64 ty):=fun W hb=>
  ⟨cell_below hb (by simp),cell_below hb (by simp),cell_below hb (by simp),cell_below hb (by simp),cell_below hb (by simp)⟩
 have HX:=Lib.hid hx
 clear hx hS hres hG hSm hdf
 have hnmB:(nm.toList != []) = !decide (nm.size=0):=by
  rw [toList_data]
  cases h:nm.data.toList with
  |nil=>simp [ByteArray.size,←Array.length_toList,h]
  |cons y r=>simp [ByteArray.size,←Array.length_toList,h]
 have hodB:od.isEmpty=decide (od.length=0):=by cases od<;>simp
 rw [hodB] at HG
 clear hodB
 by_cases k1:kd=1
 ·subst k1
  have e1:((1:Int) != 1)=false:=by decide
  have e5:((1:Int) != 5)=true:=by decide
  have e3:((1:Int) != 3)=true:=by decide
  have e4:((1:Int) != 4)=true:=by decide
  by_cases h_O:od.length=0
  ·have d_O:decide (0<od.length)=false:=by simp [h_O]
   have H_O:=Lib.hid h_O
   clear h_O
   by_cases h_C:col=0
   ·have d_C:(col == 0)=true:=by simp [h_C]
    have H_C:=Lib.hid h_C
    clear h_C
    go_enter Tryz.func114,Tryz.ntmps114
    go_wp2
    go_ret
    exact ⟨ret_bool (by rw [←HG.out];simp [*,H_O.out,H_C.out]),hB1⟩
   ·have d_C:(col == 0)=false:=by simp [h_C]
    have H_C:=Lib.hid h_C
    clear h_C
    go_enter Tryz.func114,Tryz.ntmps114
    go_wp2
    go_ret
    exact ⟨ret_bool (by rw [←HG.out];simp [*,H_O.out,H_C.out]),hB1⟩
  ·have d_O:decide (0<od.length)=true:=by simp;omega
   have H_O:=Lib.hid h_O
   clear h_O
   go_enter Tryz.func114,Tryz.ntmps114
   go_wp2
   go_ret
   exact ⟨ret_bool (by rw [←HG.out];simp [*,H_O.out]),hB1⟩
 by_cases k5:kd=5
 ·subst k5
  have e1:((5:Int) != 1)=true:=by decide
  have e5:((5:Int) != 5)=false:=by decide
  have e3:((5:Int) != 3)=true:=by decide
  have e4:((5:Int) != 4)=true:=by decide
  by_cases h_rq:rq=true
  ·subst h_rq
   go_enter Tryz.func114,Tryz.ntmps114
   go_wp2
   go_ret
   exact ⟨ret_bool (by rw [←HG.out];simp [*]),hB1⟩
  ·have h_rq':rq=false:=by simpa using h_rq
   subst h_rq'
   clear h_rq
   by_cases h_S:S=true
   ·subst h_S
    by_cases h_N:nm.size=0
    ·have d_N:nm.toList = []:=by have:=hnmB;simp [h_N] at this;exact this
     have H_N:=Lib.hid h_N
     clear h_N
     by_cases h_T:ty=0
     ·have d_T:(ty != 0)=false:=by simp [h_T]
      have H_T:=Lib.hid h_T
      clear h_T
      by_cases h_C:col=0
      ·have d_C:(col == 0)=true:=by simp [h_C]
       have H_C:=Lib.hid h_C
       clear h_C
       go_enter Tryz.func114,Tryz.ntmps114
       go_wp2_with (first | (go_at_call 69;(with_reducible refine (HSm.out _ hB1).mono ?_);rintro e w1 ⟨rfl,hb⟩;obtain ⟨x0,x1,x2,x3,x4⟩:=HX.out _ hb))
       go_ret
       exact ⟨ret_bool (by rw [←HG.out];simp [*,H_N.out,H_T.out,H_C.out]),hB1.trans (hb.mono hB1.size)⟩
      ·have d_C:(col == 0)=false:=by simp [h_C]
       have H_C:=Lib.hid h_C
       clear h_C
       go_enter Tryz.func114,Tryz.ntmps114
       go_wp2_with (first | (go_at_call 69;(with_reducible refine (HSm.out _ hB1).mono ?_);rintro e w1 ⟨rfl,hb⟩;obtain ⟨x0,x1,x2,x3,x4⟩:=HX.out _ hb))
       go_ret
       exact ⟨ret_bool (by rw [←HG.out];simp [*,H_N.out,H_T.out,H_C.out]),hB1.trans (hb.mono hB1.size)⟩
     ·have d_T:(ty != 0)=true:=by simp [h_T]
      have H_T:=Lib.hid h_T
      clear h_T
      go_enter Tryz.func114,Tryz.ntmps114
      go_wp2_with (first | (go_at_call 69;(with_reducible refine (HSm.out _ hB1).mono ?_);rintro e w1 ⟨rfl,hb⟩;obtain ⟨x0,x1,x2,x3,x4⟩:=HX.out _ hb))
      go_ret
      exact ⟨ret_bool (by rw [←HG.out];simp [*,H_N.out,H_T.out]),hB1.trans (hb.mono hB1.size)⟩
    ·have d_N:¬nm.toList = []:=by have:=hnmB;simp [h_N] at this;exact this
     have H_N:=Lib.hid h_N
     clear h_N
     go_enter Tryz.func114,Tryz.ntmps114
     go_wp2_with (first | (go_at_call 69;(with_reducible refine (HSm.out _ hB1).mono ?_);rintro e w1 ⟨rfl,hb⟩;obtain ⟨x0,x1,x2,x3,x4⟩:=HX.out _ hb))
     go_ret
     exact ⟨ret_bool (by rw [←HG.out];simp [*,H_N.out]),hB1.trans (hb.mono hB1.size)⟩
   ·have h_S':S=false:=by simpa using h_S
    subst h_S'
    clear h_S
    go_enter Tryz.func114,Tryz.ntmps114
    go_wp2_with (first | (go_at_call 69;(with_reducible refine (HSm.out _ hB1).mono ?_);rintro e w1 ⟨rfl,hb⟩;obtain ⟨x0,x1,x2,x3,x4⟩:=HX.out _ hb))
    go_ret
    exact ⟨ret_bool (by rw [←HG.out];simp [*]),hB1.trans (hb.mono hB1.size)⟩
 by_cases k3:kd=3
 ·subst k3
  have e1:((3:Int) != 1)=true:=by decide
  have e5:((3:Int) != 5)=true:=by decide
  have e3:((3:Int) != 3)=false:=by decide
  have e4:((3:Int) != 4)=true:=by decide
  by_cases h_rq:rq=true
  ·subst h_rq
   go_enter Tryz.func114,Tryz.ntmps114
   go_wp2
   go_ret
   exact ⟨ret_bool (by rw [←HG.out];simp [*]),hB1⟩
  ·have h_rq':rq=false:=by simpa using h_rq
   subst h_rq'
   clear h_rq
   by_cases h_S:S=true
   ·subst h_S
    by_cases h_O:od.length=0
    ·have d_O:decide (0<od.length)=false:=by simp [h_O]
     have H_O:=Lib.hid h_O
     clear h_O
     by_cases h_T:ty=0
     ·have d_T:(ty != 0)=false:=by simp [h_T]
      have H_T:=Lib.hid h_T
      clear h_T
      go_enter Tryz.func114,Tryz.ntmps114
      go_wp2_with (first | (go_at_call 69;(with_reducible refine (HSm.out _ hB1).mono ?_);rintro e w1 ⟨rfl,hb⟩;obtain ⟨x0,x1,x2,x3,x4⟩:=HX.out _ hb))
      go_ret
      exact ⟨ret_bool (by rw [←HG.out];simp [*,H_O.out,H_T.out]),hB1.trans (hb.mono hB1.size)⟩
     ·have d_T:(ty != 0)=true:=by simp [h_T]
      have H_T:=Lib.hid h_T
      clear h_T
      go_enter Tryz.func114,Tryz.ntmps114
      go_wp2_with (first | (go_at_call 69;(with_reducible refine (HSm.out _ hB1).mono ?_);rintro e w1 ⟨rfl,hb⟩;obtain ⟨x0,x1,x2,x3,x4⟩:=HX.out _ hb))
      go_ret
      exact ⟨ret_bool (by rw [←HG.out];simp [*,H_O.out,H_T.out]),hB1.trans (hb.mono hB1.size)⟩
    ·have d_O:decide (0<od.length)=true:=by simp;omega
     have H_O:=Lib.hid h_O
     clear h_O
     go_enter Tryz.func114,Tryz.ntmps114
     go_wp2_with (first | (go_at_call 69;(with_reducible refine (HSm.out _ hB1).mono ?_);rintro e w1 ⟨rfl,hb⟩;obtain ⟨x0,x1,x2,x3,x4⟩:=HX.out _ hb))
     go_ret
     exact ⟨ret_bool (by rw [←HG.out];simp [*,H_O.out]),hB1.trans (hb.mono hB1.size)⟩
   ·have h_S':S=false:=by simpa using h_S
    subst h_S'
    clear h_S
    go_enter Tryz.func114,Tryz.ntmps114
    go_wp2_with (first | (go_at_call 69;(with_reducible refine (HSm.out _ hB1).mono ?_);rintro e w1 ⟨rfl,hb⟩;obtain ⟨x0,x1,x2,x3,x4⟩:=HX.out _ hb))
    go_ret
    exact ⟨ret_bool (by rw [←HG.out];simp [*]),hB1.trans (hb.mono hB1.size)⟩
 by_cases k4:kd=4
 ·subst k4
  have e1:((4:Int) != 1)=true:=by decide
  have e5:((4:Int) != 5)=true:=by decide
  have e3:((4:Int) != 3)=true:=by decide
  have e4:((4:Int) != 4)=false:=by decide
  by_cases h_rq:rq=true
  ·subst h_rq
   go_enter Tryz.func114,Tryz.ntmps114
   go_wp2
   go_ret
   exact ⟨ret_bool (by rw [←HG.out];simp [*]),hB1⟩
  ·have h_rq':rq=false:=by simpa using h_rq
   subst h_rq'
   clear h_rq
   by_cases h_S:S=true
   ·subst h_S
    by_cases h_O:od.length=0
    ·have d_O:decide (0<od.length)=false:=by simp [h_O]
     have H_O:=Lib.hid h_O
     clear h_O
     by_cases h_N:nm.size=0
     ·have d_N:nm.toList = []:=by have:=hnmB;simp [h_N] at this;exact this
      have H_N:=Lib.hid h_N
      clear h_N
      go_enter Tryz.func114,Tryz.ntmps114
      go_wp2_with (first | (go_at_call 69;(with_reducible refine (HSm.out _ hB1).mono ?_);rintro e w1 ⟨rfl,hb⟩;obtain ⟨x0,x1,x2,x3,x4⟩:=HX.out _ hb))
      go_ret
      exact ⟨ret_bool (by rw [←HG.out];simp [*,H_O.out,H_N.out]),hB1.trans (hb.mono hB1.size)⟩
     ·have d_N:¬nm.toList = []:=by have:=hnmB;simp [h_N] at this;exact this
      have H_N:=Lib.hid h_N
      clear h_N
      go_enter Tryz.func114,Tryz.ntmps114
      go_wp2_with (first | (go_at_call 69;(with_reducible refine (HSm.out _ hB1).mono ?_);rintro e w1 ⟨rfl,hb⟩;obtain ⟨x0,x1,x2,x3,x4⟩:=HX.out _ hb))
      go_ret
      exact ⟨ret_bool (by rw [←HG.out];simp [*,H_O.out,H_N.out]),hB1.trans (hb.mono hB1.size)⟩
    ·have d_O:decide (0<od.length)=true:=by simp;omega
     have H_O:=Lib.hid h_O
     clear h_O
     go_enter Tryz.func114,Tryz.ntmps114
     go_wp2_with (first | (go_at_call 69;(with_reducible refine (HSm.out _ hB1).mono ?_);rintro e w1 ⟨rfl,hb⟩;obtain ⟨x0,x1,x2,x3,x4⟩:=HX.out _ hb))
     go_ret
     exact ⟨ret_bool (by rw [←HG.out];simp [*,H_O.out]),hB1.trans (hb.mono hB1.size)⟩
   ·have h_S':S=false:=by simpa using h_S
    subst h_S'
    clear h_S
    go_enter Tryz.func114,Tryz.ntmps114
    go_wp2_with (first | (go_at_call 69;(with_reducible refine (HSm.out _ hB1).mono ?_);rintro e w1 ⟨rfl,hb⟩;obtain ⟨x0,x1,x2,x3,x4⟩:=HX.out _ hb))
    go_ret
    exact ⟨ret_bool (by rw [←HG.out];simp [*]),hB1.trans (hb.mono hB1.size)⟩
 have k9:True:=trivial
 have e1:(kd != 1)=true:=by simpa using k1
 have e5:(kd != 5)=true:=by simpa using k5
 have e3:(kd != 3)=true:=by simpa using k3
 have e4:(kd != 4)=true:=by simpa using k4
 by_cases h_rq:rq=true
 ·subst h_rq
  go_enter Tryz.func114,Tryz.ntmps114
  go_wp2
  go_ret
  exact ⟨ret_bool (by rw [←HG.out];simp [*]),hB1⟩
 ·have h_rq':rq=false:=by simpa using h_rq
  subst h_rq'
  clear h_rq
  by_cases h_S:S=true
  ·subst h_S
   by_cases h_O:od.length=0
   ·have d_O:decide (0<od.length)=false:=by simp [h_O]
    have H_O:=Lib.hid h_O
    clear h_O
    by_cases h_N:nm.size=0
    ·have d_N:nm.toList = []:=by have:=hnmB;simp [h_N] at this;exact this
     have H_N:=Lib.hid h_N
     clear h_N
     by_cases h_T:ty=0
     ·have d_T:(ty != 0)=false:=by simp [h_T]
      have H_T:=Lib.hid h_T
      clear h_T
      go_enter Tryz.func114,Tryz.ntmps114
      go_wp2_with (first | (go_at_call 69;(with_reducible refine (HSm.out _ hB1).mono ?_);rintro e w1 ⟨rfl,hb⟩;obtain ⟨x0,x1,x2,x3,x4⟩:=HX.out _ hb))
      go_ret
      exact ⟨ret_bool (by rw [←HG.out];simp [*,H_O.out,H_N.out,H_T.out]),hB1.trans (hb.mono hB1.size)⟩
     ·have d_T:(ty != 0)=true:=by simp [h_T]
      have H_T:=Lib.hid h_T
      clear h_T
      go_enter Tryz.func114,Tryz.ntmps114
      go_wp2_with (first | (go_at_call 69;(with_reducible refine (HSm.out _ hB1).mono ?_);rintro e w1 ⟨rfl,hb⟩;obtain ⟨x0,x1,x2,x3,x4⟩:=HX.out _ hb))
      go_ret
      exact ⟨ret_bool (by rw [←HG.out];simp [*,H_O.out,H_N.out,H_T.out]),hB1.trans (hb.mono hB1.size)⟩
    ·have d_N:¬nm.toList = []:=by have:=hnmB;simp [h_N] at this;exact this
     have H_N:=Lib.hid h_N
     clear h_N
     go_enter Tryz.func114,Tryz.ntmps114
     go_wp2_with (first | (go_at_call 69;(with_reducible refine (HSm.out _ hB1).mono ?_);rintro e w1 ⟨rfl,hb⟩;obtain ⟨x0,x1,x2,x3,x4⟩:=HX.out _ hb))
     go_ret
     exact ⟨ret_bool (by rw [←HG.out];simp [*,H_O.out,H_N.out]),hB1.trans (hb.mono hB1.size)⟩
   ·have d_O:decide (0<od.length)=true:=by simp;omega
    have H_O:=Lib.hid h_O
    clear h_O
    go_enter Tryz.func114,Tryz.ntmps114
    go_wp2_with (first | (go_at_call 69;(with_reducible refine (HSm.out _ hB1).mono ?_);rintro e w1 ⟨rfl,hb⟩;obtain ⟨x0,x1,x2,x3,x4⟩:=HX.out _ hb))
    go_ret
    exact ⟨ret_bool (by rw [←HG.out];simp [*,H_O.out]),hB1.trans (hb.mono hB1.size)⟩
  ·have h_S':S=false:=by simpa using h_S
   subst h_S'
   clear h_S
   go_enter Tryz.func114,Tryz.ntmps114
   go_wp2_with (first | (go_at_call 69;(with_reducible refine (HSm.out _ hB1).mono ?_);rintro e w1 ⟨rfl,hb⟩;obtain ⟨x0,x1,x2,x3,x4⟩:=HX.out _ hb))
   go_ret
   exact ⟨ret_bool (by rw [←HG.out];simp [*]),hB1.trans (hb.mono hB1.size)⟩
