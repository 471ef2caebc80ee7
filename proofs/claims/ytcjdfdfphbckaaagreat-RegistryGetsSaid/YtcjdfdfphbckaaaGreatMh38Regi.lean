/- The program's contracts of stage 10. -/
import Derived.Test.YtcjdfdfphbckaaaGreatMh35Regi
import Derived.Test.YtcjdfdfphbckaaaGreatMh36Regi
import Derived.Test.YtcjdfdfphbckaaaGreatMh37Regi
import Derived.Test.YtcjdfdfphbckaaaGreatMh23Regi
import Derived.Test.YtcjdfdfphbckaaaGreatMh25Regi
import Derived.Test.YtcjdfdfphbckaaaGreatMh20Regi
import Derived.Test.YtcjdfdfphbckaaaGreatMh16Regi
import Derived.Test.YtcjdfdfphbckaaaGreatMh14Regi
import Derived.Test.YtcjdfdfphbckaaaGreatMh3Regi
import Derived.Deep.RegionHeldLaw
import Derived.Laws.ResultCell
set_option linter.unusedVariables false
set_option linter.unusedSimpArgs false
set_option maxRecDepth 100000
set_option maxHeartbeats 64000000
open Go.Proofs.Tryz
namespace Go.Proofs.YtcjdfdfphbckaaaGreat
open Go.RowKit Go.Shelf
theorem allC:AllC:=ZNH ZNI ZJz
theorem rightC:ZPM:=rightA allC
theorem rightW (t:TemplM) (w:World) (X:Value) (hg:wideT t=false) (hi:ZA8 w t X):Calls Tryz.prog 66 #[X] w fun e w'=>e=.returned (.bool (Sc.vers t).isSome)∧Below w.heap.size w w':=ZGW allC t w X hg hi
open Go.RowKit Go.Shelf
theorem ZHK {t:TemplM} (h:greatT t=false):ZFj t:=fun W X hi=>rightC t W X h hi
theorem ZGZ {t:TemplM} (h:greatT t=false):t.slots.length≤30∧t.steps.length≤30:=ZNW h
theorem ZJ0 {l:List TemplM} (h:∀ t∈l,greatT t=false):ZHB l:=fun t ht=>⟨ZHK (h t ht),by have:=ZGZ (h t ht);omega,by have:=ZGZ (h t ht);omega⟩
def tB:List Int:=Rg.putR [twoT]
theorem ZCm:Rg.right [twoT]=true:=by decide +kernel
theorem ZPq:Rg.putIf [twoT]=tB:=by unfold Rg.putIf;rw [if_pos ZCm];rfl
theorem ZPr:20<tB.length∧tB.length≤1000:=by decide +kernel
theorem ZFr:ZHB [twoT]:=ZJ0 fun t ht=>by
 simp only [List.mem_cons,List.not_mem_nil,or_false] at ht
 subst ht;exact ZNC
theorem ZFQ:∀ t∈[twoT],Rg.NumsT t:=fun t ht=>by
 simp only [List.mem_cons,List.not_mem_nil,or_false] at ht
 subst ht
 constructor
 ·intro s hs;simp [twoT] at hs;rcases hs with rfl | rfl<;>simp [intV,numsV,numsV.numsL,I64]
 ·intro s hs;simp [twoT] at hs;rcases hs with rfl | rfl<;>simp [Sc.nilV,numsV,numsV.numsL,I64]
theorem ZOg:Rg.ixJ (Rg.find [twoT] ⟨#[116]⟩)=0:=by decide +kernel
theorem ZNJ:Rg.ixJ (Rg.find [twoT] ⟨#[117]⟩) = -1:=by decide +kernel
theorem ZPs:Rg.putIf [] = [0,0,0,0]:=by decide +kernel
theorem ZNK:ZHB []:=fun t ht=>by simp at ht
theorem ZPt:getRg tB=some [twoT]:=Rg.get_back _ ZCm ZFQ
theorem ZOh:getRg (tB ++ [0])=none:=by
 have h1:=Rg.rReg_back _ ZCm ZFQ [0]
 have h2:=Rg.rRead_back _ ZCm ZFQ [0]
 unfold getRg tB
 rw [h2,h1]
 rfl
theorem ZKp (r:List Int):∀ ts s',Rg.rReg (some (tB++r))=(some ts,s')→s'.isNone=false→ts.length≤100000∧ZHB ts:=fun ts s' h _=>by
 rw [show tB=Rg.putR [twoT] from rfl,Rg.rReg_back _ ZCm ZFQ r] at h
 cases h
 exact ⟨by decide,ZFr⟩
theorem ZKq (r:List Int) (hr:Rg.BD r):ZCh (tB++r):=Rg.bd_bytes (Rg.bd_app (Rg.bd_putR _) hr)
theorem ZIW {W:World} {t:TemplM} {sa:Option Addr} {sc:Nat} {ta:Option Addr} {tc:Nat} (h1:t.nm.size≤maxLen) (h2:ZBV W sa sc t.slots) (h3:ZCI W ta tc t.steps) :
  ZAw (W.alloc (.cells #[.string t.nm,.slice sa t.slots.length sc,.slice ta t.steps.length tc] 40)) (some ⟨W.heap.size,0,none⟩) 1 [t]:=by
 have hA:=(Below.refl _ W).alloc (Nat.le_refl _) (.cells #[.string t.nm,.slice sa t.slots.length sc,.slice ta t.steps.length tc] 40)
 refine ⟨by simp,by decide,.inr ⟨_,0,rfl,fun i s hs=>?_⟩⟩
 have hi:i<1:=(List.getElem?_eq_some_iff.1 hs).1
 obtain rfl:i=0:=by omega
 simp only [List.getElem?_cons_zero,Option.some.injEq] at hs
 subst hs
 exact ⟨sa,sc,ta,tc,⟨by simp,by simp,by simp⟩,h1,ZAy hA h2,ZBf hA h3⟩
theorem ZNL (w:World):Row (w.alloc (.cells #[.int .u8 0,.int .u8 0,.int .u8 0,.int .u8 0] 5)) .u8 (some ⟨w.heap.size,0,none⟩) 4 4 [0,0,0,0]:=by
 refine ⟨rfl,Nat.le_refl _,by unfold maxLen;omega,.inr ⟨_,0,rfl,fun i hi=>?_⟩⟩
 match i,hi with
 | 0,_=>simp
 | 1,_=>simp
 | 2,_=>simp
 | 3,_=>simp
def Got1 (W:World) (e:Ending) (w':World):Prop:=∃ (a:Option Addr) (c:Nat),e=.returned (.tuple #[.slice a 1 c,.bool true])∧(∀ W':World,(∀ b,W.heap.size≤b→b<w'.heap.size→W'.heap[b]? = w'.heap[b]?)→ZAw W' a c [twoT])∧Below W.heap.size W w'
def Got0 (W:World) (e:Ending) (w':World):Prop:=∃ (c:Nat),e=.returned (.tuple #[.slice none 0 c,.bool false])∧Below W.heap.size W w'
theorem ZJ1 (w:World):Calls Tryz.prog 4 #[] w fun e w'=>e=.returned (.bool true)∧Below w.heap.size w w':=by
 obtain ⟨i0,hi,hz0,hz1,hz2⟩:=info_parts ZFZ
 have hTw:=ZLV w
 obtain ⟨hN20,hN1⟩:=ZPr
 have hPut:∀ W a,ZAw W a 1 [twoT]→Calls Tryz.prog 14 #[.slice a 1 1] W (Got W tB):=fun W a h=>by
  have:=ZIK a 1 [twoT] W h (by decide) ZFr
  rw [ZPq] at this
  exact this
 have hGet:∀ W a c,Row W .u8 a tB.length c tB→Calls Tryz.prog 5 #[.slice a tB.length c] W (Got1 W):=fun W a c h=>by
  have:=ZFk a _ c tB W h (by have:=ZKq [] Rg.bd_nil;rwa [List.append_nil] at this) (by omega) (by have:=ZKp [];rwa [List.append_nil] at this)
  rw [ZPt] at this
  refine this.mono fun e w' h=>?_
  obtain ⟨a4,l4,c4,rfl,_,hF4,hB4⟩:=h
  obtain ⟨hl4,hrow4⟩:=hF4 [twoT] rfl
  obtain rfl:l4=1:=hl4
  exact ⟨a4,c4,rfl,hrow4,hB4⟩
 have hGet0:∀ W a c,Row W .u8 a (tB.length+1) c (tB ++ [0])→Calls Tryz.prog 5 #[.slice a (tB.length+1) c] W (Got0 W):=fun W a c h=>by
  have:=ZFk a _ c (tB ++ [0]) W h (ZKq [0] (fun x hx=>by simp at hx;omega)) (by omega) (ZKp [0])
  rw [ZOh] at this
  refine this.mono fun e w' h=>?_
  obtain ⟨a4,l4,c4,rfl,h4,_,hB4⟩:=h
  obtain ⟨rfl,rfl⟩:=h4 rfl
  exact ⟨c4,rfl,hB4⟩
 have hSame:∀ W a b c,ZAw W a 1 [twoT]→ZAw W b c [twoT]→Calls Tryz.prog 15 #[.slice a 1 1,.slice b 1 c] W fun e w'=>e=.returned (.bool true)∧Below W.heap.size W w':=fun W a b c h1 h2=>by
  have:=ZLI a b 1 c [twoT] [twoT] W h1 h2
  rw [ZDu] at this
  exact this
 have hRight:∀ W a,ZAw W a 1 [twoT]→Calls Tryz.prog 16 #[.slice a 1 1] W fun e w'=>e=.returned (.bool true)∧Below W.heap.size W w':=fun W a h=>by
  have:=ZEC a 1 [twoT] W h (by decide) ZFr
  rw [ZCm] at this
  exact this
 have hFind:∀ W a,ZAw W a 1 [twoT]→Calls Tryz.prog 17 #[.slice a 1 1,.string ⟨#[116]⟩] W fun e w'=>e=.returned (.int .i64 0)∧Below W.heap.size W w':=fun W a h=>by
  have:=ZEn a 1 [twoT] ⟨#[116]⟩ W h (by decide)
  rw [ZOg] at this
  exact this
 have hFind2:∀ W a,ZAw W a 1 [twoT]→Calls Tryz.prog 17 #[.slice a 1 1,.string ⟨#[117]⟩] W fun e w'=>e=.returned (.int .i64 (-1))∧Below W.heap.size W w':=fun W a h=>by
  have:=ZEn a 1 [twoT] ⟨#[117]⟩ W h (by decide)
  rw [ZNJ] at this
  exact this
 have hNil:∀ W,Calls Tryz.prog 14 #[.slice none 0 0] W (Got W [0,0,0,0]):=fun W=>by
  have:=ZIK none 0 [] W ⟨by simp,by unfold maxLen;omega,.inl rfl⟩ (by decide) ZNK
  rw [ZPs] at this
  exact this
 generalize tB=TB at *
 obtain ⟨N,hN⟩:∃ N,TB.length=N:=⟨_,rfl⟩
 rw [hN] at hN20 hN1
 simp only [hN] at hGet hGet0
 have d20:decide ((N:Int) > 20)=true:=by simp;omega
 have d21:decide ((20:Int)<(N:Int))=true:=by simp;omega
 have d22:decide (20<N)=true:=by simp;omega
 have HPut:=ZZY hPut;have HGet:=ZZY hGet;have HGet0:=ZZY hGet0;have HSame:=ZZY hSame;have HRight:=ZZY hRight;have HFind:=ZZY hFind;have HFind2:=ZZY hFind2;have HNil:=ZZY hNil;have HN:=ZZY hN
 clear hPut hGet hGet0 hSame hRight hFind hFind2 hNil hN
 go_enter func4,ntmps4
 go_upto_region 2 with (go_at_call 13;(with_reducible refine hTw.mono ?_);rintro e w1 ⟨⟨X,rfl,hX⟩,hB1⟩;obtain ⟨h1,sa,sc,ta,tc,rfl,hs,ht⟩:=hX;have hrow:=ZIW h1 hs ht)
 have hB2:=hB1.alloc hB1.size (.cells #[.string twoT.nm,.slice sa twoT.slots.length sc,.slice ta twoT.steps.length tc] 40)
 generalize w1.alloc (.cells #[.string twoT.nm,.slice sa twoT.slots.length sc,.slice ta twoT.steps.length tc] 40)=W2 at *
 generalize (some (⟨w1.heap.size,0,none⟩:Addr))=A at *
 have HRow:=ZZY hrow
 clear hrow hB1 h1 hs ht hTw
 go_upto_region 3 with (go_at_call 14;(with_reducible refine (HPut.out _ _ HRow.out).mono ?_);rintro e w3 ⟨v3,rfl,ho3,hB3⟩;obtain ⟨a3,c3,rfl,hr3⟩:=ZHd ho3 HN.out)
 have ho3':=ZBQ ho3 HN.out rfl
 have HO3:=ZZY ho3';have HR3:=ZZY hr3
 have hb23:=hB3
 clear ho3 ho3' hr3
 go_upto_region 4 with (go_at_call 5;(with_reducible refine (HGet.out _ _ _ HR3.out).mono ?_);rintro e w4 ⟨a4,c4,rfl,hrow4,hB4⟩)
 have HRow4:=ZZY hrow4
 have hA4:=(Below.refl _ w4).alloc (Nat.le_refl _) (.cells #[.int .u8 0] 5)
 have ho5:=ZAL (ZAL HO3.out hB4) hA4
 have hb24:=hb23.trans (hB4.mono hb23.size)
 have hb25:=hb24.trans (hA4.mono hb24.size)
 clear hrow4
 go_upto_region 5 with (first
  |(at_builtin;refine ZAr _ rfl _ _ 22 rfl W2.heap.size 5 i0 (.int .u8 0) 1 1 Tryz.underlying22 hi hz0 hz1 hz2 rfl (by decide) (.slice a3 N c3) N (u8s TB) rfl ho5 (some ⟨w4.heap.size,0,none⟩) 1 1 [.int .u8 0] rfl ⟨rfl,.inr ⟨_,rfl,ZBC w4 [.int .u8 0] 5⟩⟩ (by simp [Value.oneCell']) (by unfold maxLen;omega) (by omega) hb25.size ?_;intro v6 w6 hown6 hg6;obtain ⟨a6,c6,rfl,hr6⟩:=ZHd (l:=TB ++ [0]) (n:=N+1) (ZBQ hown6 (by rw [List.length_append,HN.out];rfl) (by simp [u8s])) (by rw [List.length_append,HN.out];rfl))
  |(go_at_call 5;(with_reducible refine (HGet0.out _ _ _ hr6).mono ?_);rintro e w7 ⟨c7,rfl,hB7⟩))
 have hb26:=hb25.trans (ZBX hg6 ho5 hb25.size)
 have hb27:=hb26.trans (hB7.mono hb26.size)
 have hrA:=ZBh hb27 HRow.out
 have hrM:=HRow4.out w7 fun b b1 b2=>by
  have hw5:(w4.alloc (.cells #[.int .u8 0] 5)).heap.size=w4.heap.size+1:=World.size_alloc _ _
  rw [hB7.block b (by have:=hg6.size;omega),hg6.block b (by omega) (fun e=>by have:=(ZC3 HO3.out b e.symm).1;omega),hA4.block b b2]
 have HrA:=ZZY hrA;have HrM:=ZZY hrM
 clear hrA hrM hown6 hg6 hr6 ho5 hA4 hb23 hb24 hb25 hb26 hB3 hB4 hB7 hi hz0 hz1 hz2
 go_wp2_with (first
  |(go_at_call 15;(with_reducible refine (HSame.out _ _ _ _ HrA.out HrM.out).mono ?_);rintro e w8 ⟨rfl,hB8⟩;have hr8:=ZBh hB8 HrA.out;have hb28:=hb27.trans (hB8.mono hb27.size))
  |(go_at_call 16;(with_reducible refine (HRight.out _ _ hr8).mono ?_);rintro e w9 ⟨rfl,hB9⟩;have hr9:=ZBh hB9 hr8;have hb29:=hb28.trans (hB9.mono hb28.size))
  |(go_at_call 17;(with_reducible refine (HFind.out _ _ hr9).mono ?_);rintro e w10 ⟨rfl,hB10⟩;have hr10:=ZBh hB10 hr9;have hb210:=hb29.trans (hB10.mono hb29.size))
  |(go_at_call 17;(with_reducible refine (HFind2.out _ _ hr10).mono ?_);rintro e w11 ⟨rfl,hB11⟩;have hb211:=hb210.trans (hB11.mono hb210.size))
  |(go_at_call 14;(with_reducible refine (HNil.out _).mono ?_);rintro e w12 ⟨v12,rfl,ho12,hB12⟩;obtain ⟨a12,c12,rfl,hr12⟩:=ZHd (n:=4) ho12 rfl;have hb212:=hb211.trans (hB12.mono hb211.size);have hA12:=(Below.refl _ w12).alloc (Nat.le_refl _) (.cells #[.int .u8 0,.int .u8 0,.int .u8 0,.int .u8 0] 5);have hr13:=ZNL w12)
  |(go_at_call 18;(with_reducible refine (ZFD _ _ _ _ _ _ _ _ _ (ZAk hr12 hA12 rfl) hr13).mono ?_);rintro e w14 ⟨rfl,n14,rfl⟩))
 go_ret
 exact ⟨rfl,hB2.trans ((ZAh (hb212.trans (hA12.mono hb212.size)) _).mono hB2.size)⟩
open Go.RowKit Go.Shelf
theorem ZEE:(rValue none).2=none:=by kernel_rfl
namespace Rg
def gRep {α : Type} (g:Bn.St→α × Bn.St):Nat→Bn.St→List α × Bn.St
 | 0,s=>([],s)
 | _+1,none=>([],none)
 |n+1,some l=>((g (some l)).1 :: (gRep g n (g (some l)).2).1,(gRep g n (g (some l)).2).2)
def gList {α : Type} (most:Nat) (g:Bn.St→α × Bn.St) (s:Bn.St):List α × Bn.St:=gRep g (min (Bn.rNum s).1 most) (Bn.rNum s).2
def ZLv {α : Type} (F:Option α × Bn.St) (G : α × Bn.St) (Ov : α→Prop):Prop:=
 (∃ x t,F=(some x,some t)∧G=(x,some t))∨(G.2=none∧(F.1=none∨F.2=none))∨(G.2≠none∧Ov G.1∧F.1=none)
def ZJ2 {α : Type} (f:Bn.St→Option α × Bn.St) (g:Bn.St→α × Bn.St) (Ov : α→Prop):Prop:=
 (∀ s,ZLv (f s) (g s) Ov)∧(g none).2=none∧((f none).1=none∨(f none).2=none)
theorem ZCZ {α : Type} {F:Option α × Bn.St} {G : α × Bn.St} {Ov : α→Prop} {x : α} {t:Bn.St} (h1:F=(some x,t)) (h2:G=(x,t)):ZLv F G Ov:=by
 cases t with
 |none=>exact .inr (.inl ⟨by rw [h2],.inr (by rw [h1])⟩)
 |some t=>exact .inl ⟨x,t,h1,h2⟩
theorem ZET {α : Type} {F:Option α × Bn.St} {G : α × Bn.St} {Ov : α→Prop} (h1:F.1=none) (h2:G.2≠none→Ov G.1):ZLv F G Ov:=by
 cases h:G.2 with
 |none=>exact .inr (.inl ⟨h,.inl h1⟩)
 |some t=>exact .inr (.inr ⟨by rw [h];simp,h2 (by rw [h];simp),h1⟩)
theorem ZDo {α : Type} (g:Bn.St→α × Bn.St) (n:Nat):gRep g n none=([],none):=by cases n<;>rfl
theorem ZFR {α : Type} {f:Bn.St→Option α × Bn.St} (h:(f none).1=none∨(f none).2=none) (n:Nat):(rep f n none).1=none∨(rep f n none).2=none:=by
 induction n with
 |zero=>exact .inr rfl
 |succ n ih=>
  rcases hf:f none with ⟨o,s'⟩
  rw [hf] at h
  cases o with
  |none=>exact .inl (by rw [rep_none hf])
  |some x=>
   obtain rfl:s'=none:=by simpa using h
   simp only [rep,hf]
   rcases ih with h | h
   ·exact .inl (by rw [h];rfl)
   ·exact .inr h
theorem gRep_succ {α : Type} (g:Bn.St→α × Bn.St):∀ (n:Nat) (s:Bn.St),gRep g (n+1) s=match (gRep g n s).2 with
  |none=>gRep g n s
  |some l=>((gRep g n s).1 ++ [(g (some l)).1],(g (some l)).2):=by
 intro n
 induction n with
 |zero=>
  intro s
  cases s with
  |none=>rfl
  |some l=>rfl
 |succ n ih=>
  intro s
  cases s with
  |none=>rw [ZDo,ZDo]
  |some l=>
   have e:∀ m,gRep g (m+1) (some l)=((g (some l)).1 :: (gRep g m (g (some l)).2).1,(gRep g m (g (some l)).2).2):=fun _=>rfl
   rw [e (n+1),ih,e n]
   cases h:(gRep g n (g (some l)).2).2 with
   |none=>simp [h]
   |some t=>simp
theorem gRep_dead {α : Type} {g:Bn.St→α × Bn.St} {s:Bn.St} {q n:Nat} (hq:q≤n) (h:(gRep g q s).2=none):gRep g n s=gRep g q s:=by
 induction n with
 |zero=>
  obtain rfl:q=0:=by omega
  rfl
 |succ n ih=>
  rcases Nat.lt_or_ge n q with h1 | h1
  ·obtain rfl:q=n+1:=by omega
   rfl
  ·have e:=ih h1
   rw [gRep_succ,e,h]
theorem gRep_len {α : Type} {g:Bn.St→α × Bn.St} : ∀ {n:Nat} {s:Bn.St},(gRep g n s).2≠none→(gRep g n s).1.length=n:=by
 intro n
 induction n with
 |zero=>intro s _;rfl
 |succ n ih=>
  intro s h
  cases s with
  |none=>exact absurd rfl h
  |some l=>simp only [gRep] at h ⊢;rw [List.length_cons,ih h]
theorem ZNM {α : Type} {f:Bn.St→Option α × Bn.St} {g:Bn.St→α × Bn.St} {Ov : α→Prop} (hA:ZJ2 f g Ov):∀ (n:Nat) (s:Bn.St),ZLv (rep f n s) (gRep g n s) (fun l=>∃ x∈l,Ov x):=by
 intro n
 induction n with
 |zero=>intro s;exact ZCZ rfl rfl
 |succ n ih=>
  intro s
  cases s with
  |none=>rw [ZDo];exact .inr (.inl ⟨rfl,ZFR hA.2.2 _⟩)
  |some l=>
   rcases hA.1 (some l) with ⟨x,t,h1,h2⟩ | ⟨h1,h2⟩ | ⟨h1,h2,h3⟩
   ·have e1:rep f (n+1) (some l)=((rep f n (some t)).1.map (x :: ·),(rep f n (some t)).2):=by simp only [rep,h1]
    have e2:gRep g (n+1) (some l)=(x :: (gRep g n (some t)).1,(gRep g n (some t)).2):=by simp only [gRep,h2]
    rw [e1,e2]
    rcases ih (some t) with ⟨ys,u,k1,k2⟩ | ⟨k1,k2⟩ | ⟨k1,⟨y,hy,ho⟩,k3⟩
    ·rw [k1,k2];exact .inl ⟨x :: ys,u,rfl,rfl⟩
    ·refine .inr (.inl ⟨k1,k2.imp (fun h=>by simp only [h];rfl) id⟩)
    ·exact .inr (.inr ⟨k1,⟨y,List.mem_cons_of_mem _ hy,ho⟩,by simp only [k3];rfl⟩)
   ·refine .inr (.inl ⟨?_, ?_⟩)
    ·simp only [gRep,h1,ZDo]
    ·rcases hf:f (some l) with ⟨o,s'⟩
     rw [hf] at h2
     cases o with
     |none=>exact .inl (by rw [rep_none hf])
     |some x=>
      obtain rfl:s'=none:=by simpa using h2
      simp only [rep,hf]
      exact (ZFR hA.2.2 n).imp (fun h=>by rw [h];rfl) id
   ·refine ZET ?_ fun _=>⟨(g (some l)).1,by simp only [gRep];exact List.mem_cons_self,h2⟩
    rcases hf:f (some l) with ⟨o,s'⟩
    rw [hf] at h3
    obtain rfl:o=none:=h3
    rw [rep_none hf]
def OvL {α : Type} (most:Nat) (Ov : α→Prop) (l:List α):Prop:=most<l.length∨∃ x∈l,Ov x
theorem ZIX:Bn.rNum none=(0,none):=rfl
theorem ZD3 {α : Type} {f:Bn.St→Option α × Bn.St} {g:Bn.St→α × Bn.St} {Ov : α→Prop} (hA:ZJ2 f g Ov) (most:Nat):ZJ2 (rList most f) (gList (most+1) g) (OvL most Ov):=by
 refine ⟨fun s=>?_, ?_, ?_⟩
 ·unfold rList gList
  split
  ·rename_i h
   refine ZET rfl fun hn=>.inl ?_
   rw [gRep_len hn]
   omega
  ·rename_i h
   rw [Nat.min_eq_left (by omega)]
   rcases ZNM hA (Bn.rNum s).1 (Bn.rNum s).2 with h | h | ⟨h1,h2,h3⟩
   ·exact .inl h
   ·exact .inr (.inl h)
   ·exact .inr (.inr ⟨h1,.inr h2,h3⟩)
 ·unfold gList;rw [ZIX];exact congrArg Prod.snd (ZDo g _)
 ·unfold rList;rw [ZIX,if_neg (by omega)];exact .inr rfl
theorem ZCn:Bn.rByte none=(0,none):=rfl
theorem ZD4:Bn.rText none=(⟨#[]⟩,none):=rfl
def gSlot (s:Bn.St):SlotM × Bn.St:=
 (⟨(Bn.rText s).1,((Bn.rByte (Bn.rText s).2).1:Nat),decide ((Bn.rByte (Bn.rByte (Bn.rText s).2).2).1=1),(rValue (if 1<(Bn.rByte (Bn.rByte (Bn.rText s).2).2).1 then none else (Bn.rByte (Bn.rByte (Bn.rText s).2).2).2)).1⟩,
  (rValue (if 1<(Bn.rByte (Bn.rByte (Bn.rText s).2).2).1 then none else (Bn.rByte (Bn.rByte (Bn.rText s).2).2).2)).2)
theorem ZGa:ZJ2 rSlot gSlot (fun _=>False):=by
 refine ⟨fun s=>?_, ?_, ?_⟩
 ·by_cases h:(Bn.rByte (Bn.rByte (Bn.rText s).2).2).1≤1
  ·refine ZCZ (x:=(gSlot s).1) (t:=(gSlot s).2) ?_ rfl
   unfold rSlot gSlot
   rw [if_pos h,if_neg (by omega)]
  ·refine ZET ?_ fun hn=>?_
   ·unfold rSlot;rw [if_neg h]
   ·unfold gSlot at hn
    rw [if_pos (by omega)] at hn
    exact absurd ZEE hn
 ·unfold gSlot;rw [ZD4,ZCn,ZCn,if_neg (by omega)];exact ZEE
 ·unfold rSlot;rw [ZD4,ZCn,ZCn];exact .inr ZEE
def gOne (s:Bn.St):Int × Bn.St:=(((Bn.rByte s).1:Nat),(Bn.rByte s).2)
theorem ZNN:ZJ2 rOne gOne (fun _=>False):=⟨fun s=>ZCZ rfl rfl,rfl,.inr rfl⟩
def gStep1 (k:Nat) (s:Bn.St):StepM × Bn.St:=
 if k=1 then (⟨1,0,(gSlot s).1,[]⟩,(gSlot s).2)
 else if k=2 then (⟨2,((Bn.rByte s).1:Nat),z7,[]⟩,(Bn.rByte s).2)
 else if k=3 then (⟨3,((Bn.rByte s).1:Nat),⟨(Bn.rText (Bn.rByte s).2).1,0,false,Sc.nilV⟩,[]⟩,(Bn.rText (Bn.rByte s).2).2)
 else if k=4 then (⟨4,((Bn.rByte s).1:Nat),⟨e0,((Bn.rByte (Bn.rByte s).2).1:Nat),false,Sc.nilV⟩,[]⟩,(Bn.rByte (Bn.rByte s).2).2)
 else if k=5 then (⟨5,0,z7,(gList 9 gOne s).1⟩,(gList 9 gOne s).2)
 else (⟨k,0,z7,[]⟩,s)
def gStep (s:Bn.St):StepM × Bn.St:=gStep1 (Bn.rByte s).1 (Bn.rByte s).2
def OvS (t:StepM):Prop:=8<t.od.length
theorem ZFs {α β : Type} {F:Option α × Bn.St} {G : α × Bn.St} {Ov : α→Prop} {Ov' : β→Prop} (m : α→β) (h:ZLv F G Ov) (ho:∀ x,Ov x→Ov' (m x)):ZLv (F.1.map m,F.2) (m G.1,G.2) Ov':=by
 rcases h with ⟨x,t,h1,h2⟩ | ⟨h1,h2⟩ | ⟨h1,h2,h3⟩
 ·exact .inl ⟨m x,t,by rw [h1];rfl,by rw [h2]⟩
 ·exact .inr (.inl ⟨h1,h2.imp (fun h=>by simp only [h];rfl) id⟩)
 ·exact .inr (.inr ⟨h1,ho _ h2,by simp only [h3];rfl⟩)
theorem ZLw:ZJ2 rStep gStep OvS:=by
 refine ⟨fun s=>?_, ?_, ?_⟩
 ·unfold rStep gStep rStep1 gStep1
  split
  ·exact ZFs (fun sl=>(⟨1,0,sl,[]⟩:StepM)) (ZGa.1 _) fun _ h=>h.elim
  ·split
   ·exact ZCZ rfl rfl
   ·split
    ·exact ZCZ rfl rfl
    ·split
     ·exact ZCZ rfl rfl
     ·split
      ·exact ZFs (fun l=>(⟨5,0,z7,l⟩:StepM)) ((ZD3 ZNN 8).1 _) fun _ h=>h.elim id fun ⟨_,_,h⟩=>h.elim
      ·exact ZCZ rfl rfl
 ·unfold gStep;rw [ZCn];rfl
 ·unfold rStep;rw [ZCn];exact .inr rfl
def gTempl (s:Bn.St):TemplM × Bn.St:=
 (⟨(Bn.rText s).1,(gList 9 gSlot (Bn.rText s).2).1,(gList 9 gStep (gList 9 gSlot (Bn.rText s).2).2).1⟩,(gList 9 gStep (gList 9 gSlot (Bn.rText s).2).2).2)
def OvT (t:TemplM):Prop:=8<t.slots.length∨OvL 8 OvS t.steps
theorem ZJ3:ZJ2 rTempl gTempl OvT:=by
 have hS:=ZD3 ZGa 8
 have hT:=ZD3 ZLw 8
 refine ⟨fun s=>?_, ?_, ?_⟩
 ·unfold rTempl gTempl
  obtain ⟨nm,s1⟩:=Bn.rText s
  simp only
  rcases hS.1 s1 with ⟨sl,t,h1,h2⟩ | ⟨h1,h2⟩ | ⟨h1,h2,h3⟩
  ·rw [h1,h2]
   exact ZFs (fun st=>(⟨nm,sl,st⟩:TemplM)) (hT.1 (some t)) fun _ h=>.inr h
  ·rw [h1]
   refine .inr (.inl ⟨hT.2.1, ?_⟩)
   rcases hF:rList 8 rSlot s1 with ⟨o,s2⟩
   rw [hF] at h2
   cases o with
   |none=>exact .inl rfl
   |some sl=>
    obtain rfl:s2=none:=by simpa using h2
    simp only [rTempl1,rTempl2]
    exact hT.2.2.imp (fun h=>by rw [h];rfl) id
  ·rcases hF:rList 8 rSlot s1 with ⟨o,s2⟩
   rw [hF] at h3
   obtain rfl:o=none:=h3
   exact ZET rfl fun _=>.inl (h2.elim id fun ⟨_,_,h⟩=>h.elim)
 ·unfold gTempl;rw [ZD4,hS.2.1];exact hT.2.1
 ·unfold rTempl;rw [ZD4]
  rcases hF:rList 8 rSlot none with ⟨o,s2⟩
  have h2:=hS.2.2
  rw [hF] at h2
  cases o with
  |none=>exact .inl rfl
  |some sl=>
   obtain rfl:s2=none:=by simpa using h2
   simp only [rTempl1,rTempl2]
   exact hT.2.2.imp (fun h=>by rw [h];rfl) id
def gReg (s:Bn.St):List TemplM × Bn.St:=gList 7 gTempl s
theorem ZPu {s:StepM} (h:ZC5 s):s.od.length≤8:=by
 have hk:=h.kd
 by_cases k5:s.kd=5
 ·exact (h.k5 k5).2.2.1
 ·have e:s.od = []:=by
   by_cases k1:s.kd=1
   ·exact (h.k1 k1).2.2.2
   ·by_cases k2:s.kd=2
    ·exact (h.k2 k2).2
    ·by_cases k3:s.kd=3
     ·exact (h.k3 k3).2.2
     ·exact (h.k4 (by omega)).2.2
  rw [e];simp
theorem ZLx {l:List TemplM} (h:right l=true):¬OvL 6 OvT l:=by
 obtain ⟨h1,h2⟩:=(right_iff l).1 h
 rintro (h3 | ⟨t,ht,h4⟩)
 ·omega
 ·obtain ⟨i,hi⟩:=List.mem_iff_getElem?.1 ht
  have hk:=rightT_ok (h2 i t hi).1
  rcases h4 with h4 | h4 | ⟨s,hs,h4⟩
  ·have:=hk.n8;omega
  ·have:=hk.m8;omega
  ·have hs8:=ZPu (hk.st s hs);unfold OvS at h4;omega
def gRead (s:Bn.St):Option (List TemplM):=if (gReg s).2.isNone=true∨right (gReg s).1=false then none else some (gReg s).1
theorem read_agree (s:Bn.St):rRead s=gRead s∧∀ l,gRead s=some l→(rReg s).2=(gReg s).2:=by
 unfold rRead gRead rReg gReg
 rcases (ZD3 ZJ3 6).1 s with ⟨l,t,h1,h2⟩ | ⟨h1,h2⟩ | ⟨h1,h2,h3⟩
 ·rw [h1,h2]
  cases hr:right l<;>simp [hr]
 ·rw [if_pos (.inl (by rw [h1];rfl))]
  refine ⟨?_,fun l h=>by cases h⟩
  rcases hF:rList 6 rTempl s with ⟨o,s2⟩
  rw [hF] at h2
  cases o with
  |none=>rfl
  |some l=>
   obtain rfl:s2=none:=by simpa using h2
   rfl
 ·have hr:right (gList 7 gTempl s).1=false:=by
   cases h:right (gList 7 gTempl s).1 with
   |false=>rfl
   |true=>exact absurd h2 (ZLx h)
  rw [if_pos (.inr hr)]
  refine ⟨?_,fun l h=>by cases h⟩
  rcases hF:rList 6 rTempl s with ⟨o,s2⟩
  rw [hF] at h3
  obtain rfl:o=none:=h3
  rfl
end Rg
open Go.RowKit Go.Shelf
theorem ZNO:∀ v:PV,okV v=true→∀ n d:Int,(szV v:Int)≤n→(deepV v:Int)≤d→0≤cntV v n d:=by
 intro v
 induction v using ZB1 with
 |h k m s l ih=>
  intro ho n d hn hd
  have hL:∀ l:List PV,(∀ x∈l,okV x=true→∀ n d:Int,(szV x:Int)≤n→(deepV x:Int)≤d→0≤cntV x n d)→okL l=true→∀ n d:Int,(szL l:Int)≤n→(deepL l:Int)≤d→0≤n→0≤cntL l n d:=by
   intro l
   induction l with
   |nil=>intro _ _ n d _ _ h;simpa [cntL] using h
   |cons x r ih2=>
    intro ih ho n d hn hd h0
    simp only [okL,Bool.and_eq_true] at ho
    simp only [szL,deepL,Int.natCast_add] at hn hd
    have h1:=ih x (by simp) ho.1 n d (by omega) (by omega)
    have h2:=(ZHp x n d h0).2.2 h1
    simp only [cntL]
    rw [if_neg (by omega)]
    exact ih2 (fun z hz=>ih z (by simp [hz])) ho.2 _ d (by omega) (by omega) (by omega)
  simp only [szV,deepV,Int.natCast_add] at hn hd
  simp only [cntV]
  rw [if_neg (by omega)]
  by_cases hk:k=5
  ·subst hk
   rw [okV5] at ho
   simp only [Bool.and_eq_true] at ho
   rw [if_pos rfl] at hd
   exact hL l ih ho.2 _ _ (by omega) (by omega) (by omega)
  ·have hl:l = []:=by
    rcases ZKj ho with rfl | rfl | rfl | rfl | rfl | rfl
    ·rw [okV0] at ho;simp only [Bool.and_eq_true] at ho;exact List.isEmpty_iff.1 ho.2
    ·rw [okV1] at ho;simp only [Bool.and_eq_true] at ho;exact List.isEmpty_iff.1 ho.2
    ·rw [okV2] at ho;simp only [Bool.and_eq_true] at ho;exact List.isEmpty_iff.1 ho.2
    ·rw [okV3] at ho;simp only [Bool.and_eq_true] at ho;exact List.isEmpty_iff.1 ho.2
    ·rw [okV4] at ho;simp only [Bool.and_eq_true] at ho;exact List.isEmpty_iff.1 ho.2
    ·exact absurd rfl hk
   subst hl
   simp only [cntL]
   omega
theorem ZOi:∀ v:PV,okV v=true→rdV v≤deepV v:=by
 intro v
 induction v using ZB1 with
 |h k m s l ih=>
  intro ho
  have hL:∀ (l:List PV),(∀ x∈l,okV x=true→rdV x≤deepV x)→okL l=true→∀ n:Int,rdL n l≤max n (deepL l):=by
   intro l
   induction l with
   |nil=>intro _ _ n;simp only [rdL,deepL];omega
   |cons x r ih2=>
    intro ih ho n
    simp only [okL,Bool.and_eq_true] at ho
    have h1:=ih x (by simp) ho.1
    have h2:=ih2 (fun z hz=>ih z (by simp [hz])) ho.2 (if n<rdV x then rdV x else n)
    simp only [rdL,deepL]
    split at h2<;>rename_i h<;>simp only [h,if_true,if_false]<;>omega
  simp only [rdV,deepV]
  by_cases hk:k=5
  ·subst hk
   rw [okV5] at ho
   simp only [Bool.and_eq_true] at ho
   have:=hL l ih ho.2 0
   rw [if_pos rfl,if_pos rfl]
   omega
  ·have hl:l = []:=by
    rcases ZKj ho with rfl | rfl | rfl | rfl | rfl | rfl
    ·rw [okV0] at ho;simp only [Bool.and_eq_true] at ho;exact List.isEmpty_iff.1 ho.2
    ·rw [okV1] at ho;simp only [Bool.and_eq_true] at ho;exact List.isEmpty_iff.1 ho.2
    ·rw [okV2] at ho;simp only [Bool.and_eq_true] at ho;exact List.isEmpty_iff.1 ho.2
    ·rw [okV3] at ho;simp only [Bool.and_eq_true] at ho;exact List.isEmpty_iff.1 ho.2
    ·rw [okV4] at ho;simp only [Bool.and_eq_true] at ho;exact List.isEmpty_iff.1 ho.2
    ·exact absurd rfl hk
   subst hl
   rw [if_neg hk,if_neg hk]
   simp [rdL,deepL]
theorem ZLy {v:PV} (h:rightV v=true):greatV v=false:=by
 simp only [rightV,Bool.and_eq_true,decide_eq_true_eq] at h
 have h1:=ZNO v h.2 1000 10 (by omega) (by omega)
 have h2:=ZOi v h.2
 unfold greatV
 rw [decide_eq_false (by omega),decide_eq_false (by omega)]
 rfl
theorem ZIY {w:World} {b o:Nat} {s:SlotM} (h:ZCS w b o s):s.nm.size≤maxLen:=by
 obtain ⟨_,_,_,_,_,_,_,_,h⟩:=h
 exact h.1
def ZPv (s:SlotM):Prop:=greatV s.df=false
def ZPw (s:StepM):Prop:=greatV s.sl.df=false∧s.od.length≤30
def ZJ4 (t:TemplM):Prop:=(t.slots.length≤30∧t.steps.length≤30)∧(∀ s∈t.slots,ZPv s)∧∀ s∈t.steps,ZPw s
theorem wide_meek {t:TemplM} (h:ZJ4 t) {W:World} {X:Value} (hi:ZA8 W t X):wideT t=false:=by
 obtain ⟨h1,sa,sc,ta,tc,_,hs,ht⟩:=hi
 obtain ⟨⟨m1,m2⟩,m3,m4⟩:=h
 have hS:∀ s∈t.slots,s.nm.size≤maxLen:=fun s hm=>by
  obtain ⟨i,hi⟩:=List.mem_iff_getElem?.1 hm
  rcases hs.2.2 with e | ⟨b,off,_,hc⟩
  ·rw [e] at hm;cases hm
  ·exact ZIY (hc i s hi)
 have hT:∀ s∈t.steps,s.sl.nm.size≤maxLen:=fun s hm=>by
  obtain ⟨i,hi⟩:=List.mem_iff_getElem?.1 hm
  rcases ht.2.2 with e | ⟨b,off,_,hc⟩
  ·rw [e] at hm;cases hm
  ·obtain ⟨_,_,_,_,_,hsl,_⟩:=hc i s hi
   exact ZIY hsl
 unfold wideT
 simp only [Bool.or_eq_false_iff,decide_eq_false_iff_not]
 refine ⟨⟨⟨by omega,by omega⟩,by omega⟩,List.any_eq_false.2 fun s hm=>?_,List.any_eq_false.2 fun s hm=>?_⟩
 ·have h3:=hS s hm
  have h4:greatV s.df=false:=m3 s hm
  unfold wideS
  rw [h4,decide_eq_false (by omega)]
  simp
 ·have h3:=hT s hm
  obtain ⟨h4,h5⟩:=m4 s hm
  unfold wideP
  rw [h4,decide_eq_false (show ¬maxLen<s.sl.nm.size by omega),decide_eq_false (show ¬30<s.od.length by omega)]
  simp
theorem ZNP:greatV zv=false:=by decide +kernel
theorem ZIZ (s:Bn.St):greatV (rValue s).1=false:=by
 unfold rValue rFin
 split
 ·exact ZNP
 ·split
  ·rename_i h;exact ZLy h
  ·exact ZNP
theorem ZEU:greatV Sc.nilV=false:=by decide +kernel
theorem ZEq:greatV Rg.z7.df=false:=by decide +kernel
namespace Rg
theorem ZPx {α : Type} {f:Bn.St→Option α × Bn.St} {P : α→Prop} (hP:∀ s x,(f s).1=some x→P x):∀ (n:Nat) (s:Bn.St) (l:List α),(rep f n s).1=some l→l.length=n∧∀ x∈l,P x:=by
 intro n
 induction n with
 |zero=>intro s l h;simp only [rep,Option.some.injEq] at h;subst h;simp
 |succ n ih=>
  intro s l h
  rcases hf:f s with ⟨o,s'⟩
  cases o with
  |none=>rw [rep_none hf] at h;cases h
  |some x=>
   simp only [rep,hf] at h
   obtain ⟨r,hr,rfl⟩:=Option.map_eq_some_iff.1 h
   obtain ⟨h1,h2⟩:=ih s' r hr
   refine ⟨by simp [h1],fun y hy=>?_⟩
   rcases List.mem_cons.1 hy with rfl | hy
   ·exact hP s y (by rw [hf])
   ·exact h2 y hy
theorem ZFS {α : Type} {f:Bn.St→Option α × Bn.St} {P : α→Prop} (hP:∀ s x,(f s).1=some x→P x) {most:Nat} {s:Bn.St} {l:List α} (h:(rList most f s).1=some l):l.length≤most∧∀ x∈l,P x:=by
 unfold rList at h
 split at h
 ·cases h
 ·obtain ⟨h1,h2⟩:=ZPx hP _ _ _ h
  exact ⟨by omega,h2⟩
theorem ZOj {α : Type} {g:Bn.St→α × Bn.St} {P : α→Prop} (hP:∀ s,P (g s).1):∀ (n:Nat) (s:Bn.St),(gRep g n s).1.length≤n∧∀ x∈(gRep g n s).1,P x:=by
 intro n
 induction n with
 |zero=>intro s;simp [gRep]
 |succ n ih=>
  intro s
  cases s with
  |none=>simp [gRep]
  |some l=>
   simp only [gRep]
   obtain ⟨h1,h2⟩:=ih (g (some l)).2
   refine ⟨by simp;omega,fun y hy=>?_⟩
   rcases List.mem_cons.1 hy with rfl | hy
   ·exact hP _
   ·exact h2 y hy
theorem ZEV {α : Type} {g:Bn.St→α × Bn.St} {P : α→Prop} (hP:∀ s,P (g s).1) (most:Nat) (s:Bn.St):(gList most g s).1.length≤most∧∀ x∈(gList most g s).1,P x:=by
 obtain ⟨h1,h2⟩:=ZOj hP (min (Bn.rNum s).1 most) (Bn.rNum s).2
 exact ⟨by unfold gList;omega,h2⟩
theorem ZGb (s:Bn.St) (x:SlotM) (h:(rSlot s).1=some x):ZPv x:=by
 unfold rSlot at h
 simp only at h
 split at h
 ·cases h;exact ZIZ _
 ·cases h
theorem ZGc (s:Bn.St):ZPv (gSlot s).1:=ZIZ _
theorem ZLz (s:Bn.St) (x:StepM) (h:(rStep s).1=some x):ZPw x:=by
 unfold rStep rStep1 at h
 split at h
 ·obtain ⟨sl,hsl,rfl⟩:=Option.map_eq_some_iff.1 h
  exact ⟨ZGb _ _ hsl,by simp⟩
 ·split at h
  ·cases h;exact ⟨ZEq,by simp⟩
  ·split at h
   ·cases h;exact ⟨ZEU,by simp⟩
   ·split at h
    ·cases h;exact ⟨ZEU,by simp⟩
    ·split at h
     ·obtain ⟨l,hl,rfl⟩:=Option.map_eq_some_iff.1 h
      have:=(ZFS (P:=fun _=>True) (fun _ _ _=>trivial) hl).1
      exact ⟨ZEq,by simp only;omega⟩
     ·cases h;exact ⟨ZEq,by simp⟩
theorem ZL0 (s:Bn.St):ZPw (gStep s).1:=by
 unfold gStep gStep1
 split
 ·exact ⟨ZGc _,by simp⟩
 ·split
  ·exact ⟨ZEq,by simp⟩
  ·split
   ·exact ⟨ZEU,by simp⟩
   ·split
    ·exact ⟨ZEU,by simp⟩
    ·split
     ·have:=(ZEV (g:=gOne) (P:=fun _=>True) (fun _=>trivial) 9 (Bn.rByte s).2).1
      exact ⟨ZEq,by simp only;omega⟩
     ·exact ⟨ZEq,by simp⟩
theorem ZJ5 (s:Bn.St) (t:TemplM) (h:(rTempl s).1=some t):ZJ4 t:=by
 unfold rTempl rTempl1 at h
 split at h
 ·cases h
 ·rename_i sl hsl
  unfold rTempl2 at h
  obtain ⟨st,hst,rfl⟩:=Option.map_eq_some_iff.1 h
  have h1:=ZFS ZGb hsl
  have h2:=ZFS ZLz hst
  exact ⟨⟨by simp only;omega,by simp only;omega⟩,h1.2,h2.2⟩
theorem ZJ6 (s:Bn.St):ZJ4 (gTempl s).1:=by
 have h1:=ZEV ZGc 9 (Bn.rText s).2
 have h2:=ZEV ZL0 9 (gList 9 gSlot (Bn.rText s).2).2
 exact ⟨⟨by simp only [gTempl];omega,by simp only [gTempl];omega⟩,h1.2,h2.2⟩
theorem rReg_meek {s s':Bn.St} {l:List TemplM} (h:rReg s=(some l,s')):l.length≤6∧∀ t∈l,ZJ4 t:=ZFS ZJ5 (show (rList 6 rTempl s).1=some l by unfold rReg at h;rw [h])
theorem gReg_meek (s:Bn.St):(gReg s).1.length≤7∧∀ t∈(gReg s).1,ZJ4 t:=ZEV ZJ6 7 s
end Rg
open Go.RowKit Go.Shelf
theorem ZIa {t:TemplM} (h:ZJ4 t):ZFj t:=fun W X hi=>rightW t W X (wide_meek h hi) hi
theorem ZGd {l:List TemplM} (h:l.length≤6∧∀ t∈l,ZJ4 t):l.length≤100000∧ZHB l:=
 ⟨by omega,fun t ht=>⟨ZIa (h.2 t ht),by have:=(h.2 t ht).1.1;omega,by have:=(h.2 t ht).1.2;omega⟩⟩
theorem ZJ7 (p:Nat) (s:Bn.St) (w:World) (h:RD w p s) :
  Calls Tryz.prog 9 #[.pointer (some ⟨p,0,none⟩)] w (ZIB p w s):=ZGQ p s w h fun l s' e _=>ZGd (Rg.rReg_meek e)
theorem ZL1 (a:Option Addr) (n c:Nat) (l:List Int) (w:World) (h:Row w .u8 a n c l) (hb:ZCh l) (hn:n≤1000000000) :
  Calls Tryz.prog 5 #[.slice a n c] w (ZKd w (getRg l)):=ZFk a n c l w h hb hn fun ts s' e _=>ZGd (Rg.rReg_meek e)
open Go.RowKit Go.Shelf
def ZBS (w:World) (s:StepM) (x:Value):Prop:=∃ c2 c3 c4 c5 c6 c7 c8 oa oc,x=.agg #[.int .i64 s.kd,.int .i64 s.col,c2,c3,c4,c5,c6,c7,c8,.slice oa s.od.length oc]∧I64 s.kd∧I64 s.col∧ZDi w s.sl c2 c3 c4 c5 c6 c7 c8∧Row w .i64 oa s.od.length oc s.od∧∀ x∈s.od,I64 x
theorem ZAP {w w':World} (hb:Below w.heap.size w w') {s:StepM} {x:Value} (h:ZBS w s x):ZBS w' s x:=by
 obtain ⟨c2,c3,c4,c5,c6,c7,c8,oa,oc,rfl,h1,h2,h3,h4,h5⟩:=h
 exact ⟨c2,c3,c4,c5,c6,c7,c8,oa,oc,rfl,h1,h2,ZB3 hb h3,ZAk h4 hb rfl,h5⟩
theorem ZPy (W:World):Is W Sc.nilV (.agg #[.int .i64 0,.int .i64 0,.string ⟨#[]⟩,.slice none 0 0]):=by
 unfold Sc.nilV Is
 exact ⟨by unfold I64;omega,by unfold I64;omega,Nat.zero_le _,none,0,rfl,Nat.le_refl _,Nat.zero_le _,.inl rfl⟩
theorem ZA0 (s:StepM) (w:World) (x:Value) (hs:ZBS w s x):Calls Tryz.prog 116 #[x] w fun e w'=>e=.returned (.bool (Sc.rest s))∧Below w.heap.size w w':=by
 obtain ⟨kd,col,⟨nm,ty,rq,df⟩,od⟩:=s
 obtain ⟨c2,c3,c4,c5,c6,c7,c8,oa,oc,rfl,hk,hc,⟨hnm,hty,rfl,rfl,rfl,hdf⟩,hod,_⟩:=hs
 have hdf0:=hdf
 obtain ⟨vk,vn,vt,va,vl,vc,e⟩:∃ k n t a len cap,(Value.agg #[c5,c6,c7,c8])=.agg #[.int .i64 k,.int .i64 n,.string t,.slice a len cap]:=by
  cases df
  simp only at hdf
  unfold Is at hdf
  obtain ⟨_,_,_,a,cap,e,_⟩:=hdf
  exact ⟨_,_,_,_,_,_,e⟩
 simp only [Value.agg.injEq,Array.mk.injEq,List.cons.injEq,and_true] at e
 obtain ⟨rfl,rfl,rfl,rfl⟩:=e
 simp only at hdf hnm hty hk hc hod ⊢
 have hoc:=hod.2.2.1
 have hol:=hod.2.1
 unfold maxLen at hoc
 clear hod hdf0
 have hB0:=(Below.refl _ w).alloc (Nat.le_refl _) (.cells #[.int .i64 kd,.int .i64 col,.string nm,.int .i64 ty,.bool rq,.int .i64 vk,.int .i64 vn,.string vt,.slice va vl vc,.slice oa od.length oc] 54)
 have hB1:=hB0.alloc hB0.size (.cells #[.string nm,.int .i64 ty,.bool rq,.int .i64 vk,.int .i64 vn,.string vt,.slice va vl vc] 51)
 have hL1:=(Below.refl _ (w.alloc (.cells #[.int .i64 kd,.int .i64 col,.string nm,.int .i64 ty,.bool rq,.int .i64 vk,.int .i64 vn,.string vt,.slice va vl vc,.slice oa od.length oc] 54))).alloc (Nat.le_refl _) (.cells #[.string nm,.int .i64 ty,.bool rq,.int .i64 vk,.int .i64 vn,.string vt,.slice va vl vc] 51)
 have hSm:∀ W,Below w.heap.size w W→Calls Tryz.prog 40 #[.agg #[.int .i64 vk,.int .i64 vn,.string vt,.slice va vl vc],.agg #[.int .i64 0,.int .i64 0,.string ⟨#[]⟩,.slice none 0 0]] W fun e w'=>e=.returned (.bool (cmpV df Sc.nilV == 0))∧Below W.heap.size W w':=fun W hb=>ZFu df Sc.nilV W _ _ (ZAf hb _ _ hdf) (ZPy W)
 obtain ⟨S,hS⟩:∃ S,(cmpV df Sc.nilV == 0)=S:=⟨_,rfl⟩
 rw [hS] at hSm
 have hres:Sc.rest ⟨kd,col,⟨nm,ty,rq,df⟩,od⟩=((decide (kd=1) || (!rq && S)) && (decide (kd=5) || od.isEmpty) && (decide (kd=1) || decide (kd=3) || decide (nm.size=0)) && (decide (kd=1) || decide (kd=4) || decide (ty=0)) && ((!decide (kd=1) && !decide (kd=5)) || decide (col=0))):=by
  unfold Sc.rest
  rw [←hS]
  rfl
 rw [hres]
 obtain ⟨G,hG⟩:∃ G,((decide (kd=1) || (!rq && S)) && (decide (kd=5) || od.isEmpty) && (decide (kd=1) || decide (kd=3) || decide (nm.size=0)) && (decide (kd=1) || decide (kd=4) || decide (ty=0)) && ((!decide (kd=1) && !decide (kd=5)) || decide (col=0)))=G:=⟨_,rfl⟩
 rw [hG]
 have HG:=ZZY hG
 have HSm:=ZZY hSm
 have hx:∀ W,Below ((w.alloc (.cells #[.int .i64 kd,.int .i64 col,.string nm,.int .i64 ty,.bool rq,.int .i64 vk,.int .i64 vn,.string vt,.slice va vl vc,.slice oa od.length oc] 54)).alloc (.cells #[.string nm,.int .i64 ty,.bool rq,.int .i64 vk,.int .i64 vn,.string vt,.slice va vl vc] 51)).heap.size ((w.alloc (.cells #[.int .i64 kd,.int .i64 col,.string nm,.int .i64 ty,.bool rq,.int .i64 vk,.int .i64 vn,.string vt,.slice va vl vc,.slice oa od.length oc] 54)).alloc (.cells #[.string nm,.int .i64 ty,.bool rq,.int .i64 vk,.int .i64 vn,.string vt,.slice va vl vc] 51)) W →
   W.cell? ⟨w.heap.size,0,none⟩=some (.int .i64 kd)∧W.cell? ⟨w.heap.size,1,none⟩=some (.int .i64 col)∧W.cell? ⟨w.heap.size,9,none⟩=some (.slice oa od.length oc)∧W.cell? ⟨w.heap.size+1,0,none⟩=some (.string nm)∧W.cell? ⟨w.heap.size+1,1,none⟩=some (.int .i64 ty):=fun W hb=>
  ⟨ZAA hb (by simp),ZAA hb (by simp),ZAA hb (by simp),ZAA hb (by simp),ZAA hb (by simp)⟩
 have HX:=ZZY hx
 clear hx hS hres hG hSm hdf
 have hnmB:(nm.toList != []) = !decide (nm.size=0):=by
  rw [ZAz]
  cases h:nm.data.toList with
  |nil=>simp [ByteArray.size,←Array.length_toList,h]
  |cons y r=>simp [ByteArray.size,←Array.length_toList,h]
 have hodB:od.isEmpty=decide (od.length=0):=by cases od<;>simp
 rw [hodB] at HG
 clear hodB
 by_cases k1:kd=1
 ·subst k1
  have e1:((1:Int) != 1)=false:=by decide
  have e5:((1:Int) != 5)=true:=by decide
  have e3:((1:Int) != 3)=true:=by decide
  have e4:((1:Int) != 4)=true:=by decide
  by_cases h_O:od.length=0
  ·have d_O:decide (0<od.length)=false:=by simp [h_O]
   have H_O:=ZZY h_O
   clear h_O
   by_cases h_C:col=0
   ·have d_C:(col == 0)=true:=by simp [h_C]
    have H_C:=ZZY h_C
    clear h_C
    go_enter func116,ntmps116
    go_wp2
    go_ret
    exact ⟨ZAG (by rw [←HG.out];simp [*,H_O.out,H_C.out]),hB1⟩
   ·have d_C:(col == 0)=false:=by simp [h_C]
    have H_C:=ZZY h_C
    clear h_C
    go_enter func116,ntmps116
    go_wp2
    go_ret
    exact ⟨ZAG (by rw [←HG.out];simp [*,H_O.out,H_C.out]),hB1⟩
  ·have d_O:decide (0<od.length)=true:=by simp;omega
   have H_O:=ZZY h_O
   clear h_O
   go_enter func116,ntmps116
   go_wp2
   go_ret
   exact ⟨ZAG (by rw [←HG.out];simp [*,H_O.out]),hB1⟩
 by_cases k5:kd=5
 ·subst k5
  have e1:((5:Int) != 1)=true:=by decide
  have e5:((5:Int) != 5)=false:=by decide
  have e3:((5:Int) != 3)=true:=by decide
  have e4:((5:Int) != 4)=true:=by decide
  by_cases h_rq:rq=true
  ·subst h_rq
   go_enter func116,ntmps116
   go_wp2
   go_ret
   exact ⟨ZAG (by rw [←HG.out];simp [*]),hB1⟩
  ·have h_rq':rq=false:=by simpa using h_rq
   subst h_rq'
   clear h_rq
   by_cases h_S:S=true
   ·subst h_S
    by_cases h_N:nm.size=0
    ·have d_N:nm.toList = []:=by have:=hnmB;simp [h_N] at this;exact this
     have H_N:=ZZY h_N
     clear h_N
     by_cases h_T:ty=0
     ·have d_T:(ty != 0)=false:=by simp [h_T]
      have H_T:=ZZY h_T
      clear h_T
      by_cases h_C:col=0
      ·have d_C:(col == 0)=true:=by simp [h_C]
       have H_C:=ZZY h_C
       clear h_C
       go_enter func116,ntmps116
       go_wp2_with (first | (go_at_call 40;(with_reducible refine (HSm.out _ hB1).mono ?_);rintro e w1 ⟨rfl,hb⟩;obtain ⟨x0,x1,x2,x3,x4⟩:=HX.out _ hb))
       go_ret
       exact ⟨ZAG (by rw [←HG.out];simp [*,H_N.out,H_T.out,H_C.out]),hB1.trans (hb.mono hB1.size)⟩
      ·have d_C:(col == 0)=false:=by simp [h_C]
       have H_C:=ZZY h_C
       clear h_C
       go_enter func116,ntmps116
       go_wp2_with (first | (go_at_call 40;(with_reducible refine (HSm.out _ hB1).mono ?_);rintro e w1 ⟨rfl,hb⟩;obtain ⟨x0,x1,x2,x3,x4⟩:=HX.out _ hb))
       go_ret
       exact ⟨ZAG (by rw [←HG.out];simp [*,H_N.out,H_T.out,H_C.out]),hB1.trans (hb.mono hB1.size)⟩
     ·have d_T:(ty != 0)=true:=by simp [h_T]
      have H_T:=ZZY h_T
      clear h_T
      go_enter func116,ntmps116
      go_wp2_with (first | (go_at_call 40;(with_reducible refine (HSm.out _ hB1).mono ?_);rintro e w1 ⟨rfl,hb⟩;obtain ⟨x0,x1,x2,x3,x4⟩:=HX.out _ hb))
      go_ret
      exact ⟨ZAG (by rw [←HG.out];simp [*,H_N.out,H_T.out]),hB1.trans (hb.mono hB1.size)⟩
    ·have d_N:¬nm.toList = []:=by have:=hnmB;simp [h_N] at this;exact this
     have H_N:=ZZY h_N
     clear h_N
     go_enter func116,ntmps116
     go_wp2_with (first | (go_at_call 40;(with_reducible refine (HSm.out _ hB1).mono ?_);rintro e w1 ⟨rfl,hb⟩;obtain ⟨x0,x1,x2,x3,x4⟩:=HX.out _ hb))
     go_ret
     exact ⟨ZAG (by rw [←HG.out];simp [*,H_N.out]),hB1.trans (hb.mono hB1.size)⟩
   ·have h_S':S=false:=by simpa using h_S
    subst h_S'
    clear h_S
    go_enter func116,ntmps116
    go_wp2_with (first | (go_at_call 40;(with_reducible refine (HSm.out _ hB1).mono ?_);rintro e w1 ⟨rfl,hb⟩;obtain ⟨x0,x1,x2,x3,x4⟩:=HX.out _ hb))
    go_ret
    exact ⟨ZAG (by rw [←HG.out];simp [*]),hB1.trans (hb.mono hB1.size)⟩
 by_cases k3:kd=3
 ·subst k3
  have e1:((3:Int) != 1)=true:=by decide
  have e5:((3:Int) != 5)=true:=by decide
  have e3:((3:Int) != 3)=false:=by decide
  have e4:((3:Int) != 4)=true:=by decide
  by_cases h_rq:rq=true
  ·subst h_rq
   go_enter func116,ntmps116
   go_wp2
   go_ret
   exact ⟨ZAG (by rw [←HG.out];simp [*]),hB1⟩
  ·have h_rq':rq=false:=by simpa using h_rq
   subst h_rq'
   clear h_rq
   by_cases h_S:S=true
   ·subst h_S
    by_cases h_O:od.length=0
    ·have d_O:decide (0<od.length)=false:=by simp [h_O]
     have H_O:=ZZY h_O
     clear h_O
     by_cases h_T:ty=0
     ·have d_T:(ty != 0)=false:=by simp [h_T]
      have H_T:=ZZY h_T
      clear h_T
      go_enter func116,ntmps116
      go_wp2_with (first | (go_at_call 40;(with_reducible refine (HSm.out _ hB1).mono ?_);rintro e w1 ⟨rfl,hb⟩;obtain ⟨x0,x1,x2,x3,x4⟩:=HX.out _ hb))
      go_ret
      exact ⟨ZAG (by rw [←HG.out];simp [*,H_O.out,H_T.out]),hB1.trans (hb.mono hB1.size)⟩
     ·have d_T:(ty != 0)=true:=by simp [h_T]
      have H_T:=ZZY h_T
      clear h_T
      go_enter func116,ntmps116
      go_wp2_with (first | (go_at_call 40;(with_reducible refine (HSm.out _ hB1).mono ?_);rintro e w1 ⟨rfl,hb⟩;obtain ⟨x0,x1,x2,x3,x4⟩:=HX.out _ hb))
      go_ret
      exact ⟨ZAG (by rw [←HG.out];simp [*,H_O.out,H_T.out]),hB1.trans (hb.mono hB1.size)⟩
    ·have d_O:decide (0<od.length)=true:=by simp;omega
     have H_O:=ZZY h_O
     clear h_O
     go_enter func116,ntmps116
     go_wp2_with (first | (go_at_call 40;(with_reducible refine (HSm.out _ hB1).mono ?_);rintro e w1 ⟨rfl,hb⟩;obtain ⟨x0,x1,x2,x3,x4⟩:=HX.out _ hb))
     go_ret
     exact ⟨ZAG (by rw [←HG.out];simp [*,H_O.out]),hB1.trans (hb.mono hB1.size)⟩
   ·have h_S':S=false:=by simpa using h_S
    subst h_S'
    clear h_S
    go_enter func116,ntmps116
    go_wp2_with (first | (go_at_call 40;(with_reducible refine (HSm.out _ hB1).mono ?_);rintro e w1 ⟨rfl,hb⟩;obtain ⟨x0,x1,x2,x3,x4⟩:=HX.out _ hb))
    go_ret
    exact ⟨ZAG (by rw [←HG.out];simp [*]),hB1.trans (hb.mono hB1.size)⟩
 by_cases k4:kd=4
 ·subst k4
  have e1:((4:Int) != 1)=true:=by decide
  have e5:((4:Int) != 5)=true:=by decide
  have e3:((4:Int) != 3)=true:=by decide
  have e4:((4:Int) != 4)=false:=by decide
  by_cases h_rq:rq=true
  ·subst h_rq
   go_enter func116,ntmps116
   go_wp2
   go_ret
   exact ⟨ZAG (by rw [←HG.out];simp [*]),hB1⟩
  ·have h_rq':rq=false:=by simpa using h_rq
   subst h_rq'
   clear h_rq
   by_cases h_S:S=true
   ·subst h_S
    by_cases h_O:od.length=0
    ·have d_O:decide (0<od.length)=false:=by simp [h_O]
     have H_O:=ZZY h_O
     clear h_O
     by_cases h_N:nm.size=0
     ·have d_N:nm.toList = []:=by have:=hnmB;simp [h_N] at this;exact this
      have H_N:=ZZY h_N
      clear h_N
      go_enter func116,ntmps116
      go_wp2_with (first | (go_at_call 40;(with_reducible refine (HSm.out _ hB1).mono ?_);rintro e w1 ⟨rfl,hb⟩;obtain ⟨x0,x1,x2,x3,x4⟩:=HX.out _ hb))
      go_ret
      exact ⟨ZAG (by rw [←HG.out];simp [*,H_O.out,H_N.out]),hB1.trans (hb.mono hB1.size)⟩
     ·have d_N:¬nm.toList = []:=by have:=hnmB;simp [h_N] at this;exact this
      have H_N:=ZZY h_N
      clear h_N
      go_enter func116,ntmps116
      go_wp2_with (first | (go_at_call 40;(with_reducible refine (HSm.out _ hB1).mono ?_);rintro e w1 ⟨rfl,hb⟩;obtain ⟨x0,x1,x2,x3,x4⟩:=HX.out _ hb))
      go_ret
      exact ⟨ZAG (by rw [←HG.out];simp [*,H_O.out,H_N.out]),hB1.trans (hb.mono hB1.size)⟩
    ·have d_O:decide (0<od.length)=true:=by simp;omega
     have H_O:=ZZY h_O
     clear h_O
     go_enter func116,ntmps116
     go_wp2_with (first | (go_at_call 40;(with_reducible refine (HSm.out _ hB1).mono ?_);rintro e w1 ⟨rfl,hb⟩;obtain ⟨x0,x1,x2,x3,x4⟩:=HX.out _ hb))
     go_ret
     exact ⟨ZAG (by rw [←HG.out];simp [*,H_O.out]),hB1.trans (hb.mono hB1.size)⟩
   ·have h_S':S=false:=by simpa using h_S
    subst h_S'
    clear h_S
    go_enter func116,ntmps116
    go_wp2_with (first | (go_at_call 40;(with_reducible refine (HSm.out _ hB1).mono ?_);rintro e w1 ⟨rfl,hb⟩;obtain ⟨x0,x1,x2,x3,x4⟩:=HX.out _ hb))
    go_ret
    exact ⟨ZAG (by rw [←HG.out];simp [*]),hB1.trans (hb.mono hB1.size)⟩
 have k9:True:=trivial
 have e1:(kd != 1)=true:=by simpa using k1
 have e5:(kd != 5)=true:=by simpa using k5
 have e3:(kd != 3)=true:=by simpa using k3
 have e4:(kd != 4)=true:=by simpa using k4
 by_cases h_rq:rq=true
 ·subst h_rq
  go_enter func116,ntmps116
  go_wp2
  go_ret
  exact ⟨ZAG (by rw [←HG.out];simp [*]),hB1⟩
 ·have h_rq':rq=false:=by simpa using h_rq
  subst h_rq'
  clear h_rq
  by_cases h_S:S=true
  ·subst h_S
   by_cases h_O:od.length=0
   ·have d_O:decide (0<od.length)=false:=by simp [h_O]
    have H_O:=ZZY h_O
    clear h_O
    by_cases h_N:nm.size=0
    ·have d_N:nm.toList = []:=by have:=hnmB;simp [h_N] at this;exact this
     have H_N:=ZZY h_N
     clear h_N
     by_cases h_T:ty=0
     ·have d_T:(ty != 0)=false:=by simp [h_T]
      have H_T:=ZZY h_T
      clear h_T
      go_enter func116,ntmps116
      go_wp2_with (first | (go_at_call 40;(with_reducible refine (HSm.out _ hB1).mono ?_);rintro e w1 ⟨rfl,hb⟩;obtain ⟨x0,x1,x2,x3,x4⟩:=HX.out _ hb))
      go_ret
      exact ⟨ZAG (by rw [←HG.out];simp [*,H_O.out,H_N.out,H_T.out]),hB1.trans (hb.mono hB1.size)⟩
     ·have d_T:(ty != 0)=true:=by simp [h_T]
      have H_T:=ZZY h_T
      clear h_T
      go_enter func116,ntmps116
      go_wp2_with (first | (go_at_call 40;(with_reducible refine (HSm.out _ hB1).mono ?_);rintro e w1 ⟨rfl,hb⟩;obtain ⟨x0,x1,x2,x3,x4⟩:=HX.out _ hb))
      go_ret
      exact ⟨ZAG (by rw [←HG.out];simp [*,H_O.out,H_N.out,H_T.out]),hB1.trans (hb.mono hB1.size)⟩
    ·have d_N:¬nm.toList = []:=by have:=hnmB;simp [h_N] at this;exact this
     have H_N:=ZZY h_N
     clear h_N
     go_enter func116,ntmps116
     go_wp2_with (first | (go_at_call 40;(with_reducible refine (HSm.out _ hB1).mono ?_);rintro e w1 ⟨rfl,hb⟩;obtain ⟨x0,x1,x2,x3,x4⟩:=HX.out _ hb))
     go_ret
     exact ⟨ZAG (by rw [←HG.out];simp [*,H_O.out,H_N.out]),hB1.trans (hb.mono hB1.size)⟩
   ·have d_O:decide (0<od.length)=true:=by simp;omega
    have H_O:=ZZY h_O
    clear h_O
    go_enter func116,ntmps116
    go_wp2_with (first | (go_at_call 40;(with_reducible refine (HSm.out _ hB1).mono ?_);rintro e w1 ⟨rfl,hb⟩;obtain ⟨x0,x1,x2,x3,x4⟩:=HX.out _ hb))
    go_ret
    exact ⟨ZAG (by rw [←HG.out];simp [*,H_O.out]),hB1.trans (hb.mono hB1.size)⟩
  ·have h_S':S=false:=by simpa using h_S
   subst h_S'
   clear h_S
   go_enter func116,ntmps116
   go_wp2_with (first | (go_at_call 40;(with_reducible refine (HSm.out _ hB1).mono ?_);rintro e w1 ⟨rfl,hb⟩;obtain ⟨x0,x1,x2,x3,x4⟩:=HX.out _ hb))
   go_ret
   exact ⟨ZAG (by rw [←HG.out];simp [*]),hB1.trans (hb.mono hB1.size)⟩
open Go.RowKit Go.Shelf
def ZBq (w0 w1:World) (x:Sc.Ver) (sa:Option Addr) (sc:Nat) (ca:Option Addr) (cc:Nat):Prop:=(∃ cs,ZBw w0 x.slots cs∧ZB7 w1 7 sa x.slots.length cs)∧Row w1 .i64 ca x.cols.length cc (x.cols.map Int.ofNat)
theorem ZA2 (x:Sc.Ver) (sa:Option Addr) (sc:Nat) (ca:Option Addr) (cc:Nat) (w0 w1 w:World) (hsl:x.slots.length≤100000) (hcl:x.cols.length≤100000) (hv:ZBq w0 w1 x sa sc ca cc) (hw0:Below w1.heap.size w1 w) :
  Calls Tryz.prog 115 #[.agg #[.slice sa x.slots.length sc,.slice ca x.cols.length cc]] w fun e w'=>(∃ sv cv,e=.returned (.agg #[sv,cv])∧ZBd w.heap.size w0 w' x sv cv)∧Below w.heap.size w w':=by
 obtain ⟨slots,cols⟩:=x
 obtain ⟨⟨cs,hsc,hcs⟩,hr⟩:=hv
 unfold ZBd
 simp only at hsl hcl hsc hcs hr ⊢
 have hci:=ZAs (ZCK hr) hw0
 replace hcs:=ZAs hcs hw0
 obtain ⟨ds,hds⟩:∃ ds,(cols.map Int.ofNat).map (Value.int .i64)=ds:=⟨_,rfl⟩
 have hd1:∀ u∈ds,u.oneCell'=true:=by
  intro u hu
  rw [←hds] at hu
  obtain ⟨i,_,rfl⟩:=List.mem_map.1 hu
  rfl
 rw [hds] at hci ⊢
 have hc1:=hsc.2.1
 obtain ⟨n,hn⟩:∃ n,slots.length=n:=⟨_,rfl⟩
 obtain ⟨m,hm⟩:∃ m,cols.length=m:=⟨_,rfl⟩
 rw [hn] at hcs hsl ⊢
 rw [hm] at hci hcl ⊢
 obtain ⟨i0,hi,hi0,hi1,hi2⟩:=info_parts ZDE
 obtain ⟨j0,hj,hj0,hj1,hj2⟩:=info_parts ZCi
 have HSC:=ZZY hsc
 clear hsc hr hn hm hds
 go_enter func115,ntmps115
 go_wp2
 obtain ⟨V,hV⟩:∃ V,(w.alloc (.cells #[.slice sa n sc,.slice ca m cc] 128)).alloc (.cells #[.slice none 0 0,.slice none 0 0] 128)=V:=⟨_,rfl⟩
 obtain ⟨b1,hb1⟩:∃ b,w.heap.size=b:=⟨_,rfl⟩
 obtain ⟨b2,hb2⟩:∃ b,b1+1=b:=⟨_,rfl⟩
 have hS0:ZOG w sa n sc ca m cc b1 b2 V.drew∧V.drew.heap.size=b2+1:=by
  rw [←hV,←hb2,←hb1]
  have hs1:(w.alloc (.cells #[.slice sa n sc,.slice ca m cc] 128)).heap.size=w.heap.size+1:=World.size_alloc _ _
  refine ⟨⟨(((Below.refl _ w).alloc (Nat.le_refl _) _).alloc (by omega) _).drew, ?_,.slice none 0 0,.slice none 0 0, ?_⟩, ?_⟩
  ·exact (Below.heap_alloc _ _ _ (by omega)).trans (ZAQ w _)
  ·exact hs1 ▸ ZAQ (w.alloc (.cells #[.slice sa n sc,.slice ca m cc] 128)) _
  ·show (World.alloc _ _).heap.size=_
   rw [World.size_alloc,hs1]
 obtain ⟨hS0,hC0⟩:=hS0
 rw [hV,hb1,hb2]
 clear hV
 refine wp_region_held_drew (S:=ZOG w sa n sc ca m cc b1 b2) (by kernel_rfl) hS0 (fun hHeld=>?_)
 clear hS0
 obtain ⟨V0,hV0⟩:∃ V0,V.drew=V0:=⟨_,rfl⟩
 rw [hV0] at hHeld hC0 ⊢
 clear hV0
 obtain ⟨C,hC,hC1⟩:∃ C,b2<C∧C≤V0.heap.size:=⟨b2+1,by omega,by omega⟩
 clear hC0
 refine wpAnyH_take (i:=1) (v:=?_) rfl (by kernel_rfl) (by kernel_rfl) (by kernel_rfl) (fun _ _ _ h=>h) (Or.inl ⟨by rfl, ?_⟩) (by assumption) ?_
 rotate_left
 ·intro w hSw;obtain ⟨_,hx1,_⟩:=hSw;have hx2:=ZAg hx1;go_simp;(try with_reducible rfl)
 (try simp only [Act.put,ZZX,ZZW,ZZV])
 refine wpAnyH_take (i:=2) (v:=?_) rfl (by kernel_rfl) (by kernel_rfl) (by kernel_rfl) (fun _ _ _ h=>h) (Or.inl ⟨by rfl, ?_⟩) (by assumption) ?_
 rotate_left
 ·intro w hSw;obtain ⟨_,hx1,_⟩:=hSw;have hx2:=ZAg hx1;go_simp;(try with_reducible rfl)
 (try simp only [Act.put,ZZX,ZZW,ZZV])
 refine wpAnyH_take (i:=5) (v:=?_) rfl (by kernel_rfl) (by kernel_rfl) (by kernel_rfl) (fun _ _ _ h=>h) (Or.inl ⟨by rfl, ?_⟩) (by assumption) ?_
 rotate_left
 ·intro w hSw;obtain ⟨_,hx1,_⟩:=hSw;have hx2:=ZAg hx1;go_simp;(try with_reducible rfl)
 (try simp only [Act.put,ZZX,ZZW,ZZV])
 refine wpAnyH_take (i:=6) (v:=?_) rfl (by kernel_rfl) (by kernel_rfl) (by kernel_rfl) (fun _ _ _ h=>h) (Or.inl ⟨by rfl, ?_⟩) (by assumption) ?_
 rotate_left
 ·intro w hSw;obtain ⟨_,hx1,_⟩:=hSw;have hx2:=ZAg hx1;go_simp;(try with_reducible rfl)
 (try simp only [Act.put,ZZX,ZZW,ZZV])
 refine wpAnyH_ready (rs:=[0,4]) (by kernel_rfl) (by simp) (AllReadyH.cons rfl (fun K hK=>?_) (AllReadyH.cons rfl (fun K hK=>?_) AllReadyH.nil))
 ·go_simp
  have hg:V0.grownBy (V0.alloc (.cells #[] 51)) none:=World.grownBy_alloc _ _ none
  have o0:=ZCr V0 C 51 7 (by omega)
  have hz:V0.heap.size+1≤(V0.alloc (.cells #[] 51)).heap.size:=Nat.le_of_eq (World.size_alloc _ _).symm
  obtain ⟨V1,hU⟩:∃ U,V0.alloc (.cells #[] 51)=U:=⟨_,rfl⟩
  rw [hU] at hg o0 hz ⊢
  obtain ⟨g0,hg0⟩:∃ g,V0.heap.size=g:=⟨_,rfl⟩
  rw [hg0] at o0 ⊢
  clear hU
  refine hK.out _ _ (ZBp hHeld hg (fun b e=>by cases e) (by omega)) (fun hHeld=>?_)
  clear hK K hg
  refine wpAnyH_ready (rs:=[3,4]) (by kernel_rfl) (by simp) (AllReadyH.cons rfl (fun K hK=>?_) (AllReadyH.cons rfl (fun K hK=>?_) AllReadyH.nil))
  ·refine ZA1 _ rfl _ _ 37 rfl C 51 i0 _ 7 88 Tryz.underlying37 hi hi0 hi1 hi2 rfl (by decide) (.slice (some ⟨g0,0,none⟩) 0 0) 0 [] (by first | rfl | simp [Act.eval]) o0 sa n sc cs (by first | rfl | simp [Act.eval]) (ZAs hcs hHeld.1) hc1 (by unfold maxLen;omega) (by omega) (by omega) ?_
   intro v6 V2 o3 hg at6
   replace hg:V1.grownBy V2 (some g0):=hg
   replace at6:v6.ownBlock=some g0∨v6.ownBlock=some V1.heap.size:=at6
   rw [Nat.zero_add,List.nil_append] at o3
   have hz3:=hg.size
   have h6l:=fun b e=>(ZAV o3 b e).1
   skip
   refine hK.out _ _ (ZBp hHeld hg (fun b e=>by cases e;omega) (by omega)) (fun hHeld=>?_)
   clear hK K hg
   refine wpAnyH_ready (rs:=[4]) (by kernel_rfl) (by simp) (AllReadyH.cons rfl (fun K hK=>?_) AllReadyH.nil)
   ·go_simp
    have hg:V2.grownBy (V2.alloc (.cells #[] 3)) none:=World.grownBy_alloc _ _ none
    have o4:=ZCr V2 C 3 1 (by omega)
    have hz:V2.heap.size+1≤(V2.alloc (.cells #[] 3)).heap.size:=Nat.le_of_eq (World.size_alloc _ _).symm
    obtain ⟨V3,hU⟩:∃ U,V2.alloc (.cells #[] 3)=U:=⟨_,rfl⟩
    rw [hU] at hg o4 hz ⊢
    obtain ⟨g4,hg4⟩:∃ g,V2.heap.size=g:=⟨_,rfl⟩
    rw [hg4] at o4 ⊢
    clear hU
    have o3:=ZAN o3 hg (fun b e=>by cases e)
    refine hK.out _ _ (ZBp hHeld hg (fun b e=>by cases e) (by omega)) (fun hHeld=>?_)
    clear hK K hg
    refine wpAnyH_ready (rs:=[7]) (by kernel_rfl) (by simp) (AllReadyH.cons rfl (fun K hK=>?_) AllReadyH.nil)
    ·refine ZA1 _ rfl _ _ 52 rfl C 3 j0 _ 1 8 Tryz.underlying52 hj hj0 hj1 hj2 rfl (by decide) (.slice (some ⟨g4,0,none⟩) 0 0) 0 [] (by first | rfl | simp [Act.eval]) o4 ca m cc ds (by first | rfl | simp [Act.eval]) (ZAs hci hHeld.1) hd1 (by unfold maxLen;omega) (by omega) (by omega) ?_
     intro v10 V4 o7 hg at10
     replace hg:V3.grownBy V4 (some g4):=hg
     replace at10:v10.ownBlock=some g4∨v10.ownBlock=some V3.heap.size:=at10
     rw [Nat.zero_add,List.nil_append] at o7
     have hz7:=hg.size
     have hne:∀ b,v6.ownBlock=some b→v10.ownBlock=some b→False:=fun b e1 e2=>by have hb6:=ZAV o3 b e1;have hb7:=h6l b e1;rcases at6 with q | q<;>rw [q] at e1<;>rcases at10 with r | r<;>rw [r] at e2<;>injection e1 with e1<;>injection e2 with e2<;>omega
     have o3:=ZAN o3 hg (fun b e1 e2=>by have hb6:=ZAV o3 b e2;have hb7:=h6l b e2;rcases at6 with q | q<;>rw [q] at e2<;>injection e1 with e1<;>injection e2 with e2<;>omega)
     skip
     refine hK.out _ _ (ZBp hHeld hg (fun b e=>by cases e;omega) (by omega)) (fun hHeld=>?_)
     clear hK K hg
     obtain ⟨a6,c6,rfl⟩:=ZAe o3
     obtain ⟨a10,c10,rfl⟩:=ZAe o7
     refine wpAnyH_take (i:=8) (v:=?_) rfl (by kernel_rfl) (by kernel_rfl) (by kernel_rfl) (fun _ _ _ h=>h) (Or.inl ⟨by rfl, ?_⟩) (by assumption) ?_
     rotate_left
     ·intro w hSw;obtain ⟨_,hx1,_⟩:=hSw;have hx2:=ZAg hx1;go_simp;(try with_reducible rfl)
     (try simp only [Act.put,ZZX,ZZW,ZZV])
     refine wpAnyH_ready (rs:=[9]) (by kernel_rfl) (by simp) (AllReadyH.cons rfl (fun K hK=>?_) AllReadyH.nil)
     ·obtain ⟨hBW,hbx,u0,u1,hrv⟩:=id hHeld
      obtain ⟨y0,y1,f0,f1⟩:=ZAD hrv
      go_simp
      have hk1:=ZAJ V4 b2 0 (.slice a6 n c6)
      have hk2:=ZAJ (V4.setCell ⟨b2,0,none⟩ (.slice a6 n c6)) b2 1 (.slice a10 m c10)
      have hrw:=ZB2 hrv (.slice a6 n c6) (.slice a10 m c10)
      have hzz:(V4.setCell ⟨b2,0,none⟩ (.slice a6 n c6)).heap.size=V4.heap.size:=by simp
      have o3:=ZAN (ZAN o3 hk1 (fun b e1 e2=>by have:=ZAV o3 b e2;cases e1;omega)) hk2 (fun b e1 e2=>by have:=ZAV o3 b e2;cases e1;omega)
      have o7:=ZAN (ZAN o7 hk1 (fun b e1 e2=>by have:=ZAV o7 b e2;cases e1;omega)) hk2 (fun b e1 e2=>by have:=ZAV o7 b e2;cases e1;omega)
      have hBF:=ZAE (ZAE hBW hk1 (fun b e=>by cases e;omega) (by omega)) hk2 (fun b e=>by cases e;omega) (by omega)
      obtain ⟨p0,p1⟩:=ZAg hrw
      refine hK.out _ _ ⟨hBF,((hk2.block b1 (by have:=(ZZZ hbx).1;omega) (by simp;omega)).trans (hk1.block b1 (ZZZ hbx).1 (by simp;omega))).trans hbx,_,_,hrw⟩ (fun hHeld=>?_)
      clear hK K
      refine wpAnyH_done (by kernel_rfl) ?_ _
      go_wp2
      refine bodyPost_ret (results_cell_row Tryz.results115 _ _ b2 _ _ _ _ rfl hrw Tryz.underlying128 rfl (by kernel_rfl)) rfl ?_
      exact ⟨⟨_,_,rfl,cs,ZAH o3 (by omega),HSC.out,ZAH o7 (by omega),hne⟩,hBF⟩
  ·go_simp
   have hg:V1.grownBy (V1.alloc (.cells #[] 3)) none:=World.grownBy_alloc _ _ none
   have o4:=ZCr V1 C 3 1 (by omega)
   have hz:V1.heap.size+1≤(V1.alloc (.cells #[] 3)).heap.size:=Nat.le_of_eq (World.size_alloc _ _).symm
   obtain ⟨V2,hU⟩:∃ U,V1.alloc (.cells #[] 3)=U:=⟨_,rfl⟩
   rw [hU] at hg o4 hz ⊢
   obtain ⟨g4,hg4⟩:∃ g,V1.heap.size=g:=⟨_,rfl⟩
   rw [hg4] at o4 ⊢
   clear hU
   have o0:=ZAN o0 hg (fun b e=>by cases e)
   refine hK.out _ _ (ZBp hHeld hg (fun b e=>by cases e) (by omega)) (fun hHeld=>?_)
   clear hK K hg
   refine wpAnyH_ready (rs:=[3]) (by kernel_rfl) (by simp) (AllReadyH.cons rfl (fun K hK=>?_) AllReadyH.nil)
   ·refine ZA1 _ rfl _ _ 37 rfl C 51 i0 _ 7 88 Tryz.underlying37 hi hi0 hi1 hi2 rfl (by decide) (.slice (some ⟨g0,0,none⟩) 0 0) 0 [] (by first | rfl | simp [Act.eval]) o0 sa n sc cs (by first | rfl | simp [Act.eval]) (ZAs hcs hHeld.1) hc1 (by unfold maxLen;omega) (by omega) (by omega) ?_
    intro v6 V3 o3 hg at6
    replace hg:V2.grownBy V3 (some g0):=hg
    replace at6:v6.ownBlock=some g0∨v6.ownBlock=some V2.heap.size:=at6
    rw [Nat.zero_add,List.nil_append] at o3
    have hz3:=hg.size
    have h6l:=fun b e=>(ZAV o3 b e).1
    have o4:=ZAN o4 hg (fun b e1 e2=>by have:some g4=some b:=e2;injection e1 with e1;injection this with this;omega)
    skip
    refine hK.out _ _ (ZBp hHeld hg (fun b e=>by cases e;omega) (by omega)) (fun hHeld=>?_)
    clear hK K hg
    refine wpAnyH_ready (rs:=[7]) (by kernel_rfl) (by simp) (AllReadyH.cons rfl (fun K hK=>?_) AllReadyH.nil)
    ·refine ZA1 _ rfl _ _ 52 rfl C 3 j0 _ 1 8 Tryz.underlying52 hj hj0 hj1 hj2 rfl (by decide) (.slice (some ⟨g4,0,none⟩) 0 0) 0 [] (by first | rfl | simp [Act.eval]) o4 ca m cc ds (by first | rfl | simp [Act.eval]) (ZAs hci hHeld.1) hd1 (by unfold maxLen;omega) (by omega) (by omega) ?_
     intro v10 V4 o7 hg at10
     replace hg:V3.grownBy V4 (some g4):=hg
     replace at10:v10.ownBlock=some g4∨v10.ownBlock=some V3.heap.size:=at10
     rw [Nat.zero_add,List.nil_append] at o7
     have hz7:=hg.size
     have hne:∀ b,v6.ownBlock=some b→v10.ownBlock=some b→False:=fun b e1 e2=>by have hb6:=ZAV o3 b e1;have hb7:=h6l b e1;rcases at6 with q | q<;>rw [q] at e1<;>rcases at10 with r | r<;>rw [r] at e2<;>injection e1 with e1<;>injection e2 with e2<;>omega
     have o3:=ZAN o3 hg (fun b e1 e2=>by have hb6:=ZAV o3 b e2;have hb7:=h6l b e2;rcases at6 with q | q<;>rw [q] at e2<;>injection e1 with e1<;>injection e2 with e2<;>omega)
     skip
     refine hK.out _ _ (ZBp hHeld hg (fun b e=>by cases e;omega) (by omega)) (fun hHeld=>?_)
     clear hK K hg
     obtain ⟨a6,c6,rfl⟩:=ZAe o3
     obtain ⟨a10,c10,rfl⟩:=ZAe o7
     refine wpAnyH_take (i:=8) (v:=?_) rfl (by kernel_rfl) (by kernel_rfl) (by kernel_rfl) (fun _ _ _ h=>h) (Or.inl ⟨by rfl, ?_⟩) (by assumption) ?_
     rotate_left
     ·intro w hSw;obtain ⟨_,hx1,_⟩:=hSw;have hx2:=ZAg hx1;go_simp;(try with_reducible rfl)
     (try simp only [Act.put,ZZX,ZZW,ZZV])
     refine wpAnyH_ready (rs:=[9]) (by kernel_rfl) (by simp) (AllReadyH.cons rfl (fun K hK=>?_) AllReadyH.nil)
     ·obtain ⟨hBW,hbx,u0,u1,hrv⟩:=id hHeld
      obtain ⟨y0,y1,f0,f1⟩:=ZAD hrv
      go_simp
      have hk1:=ZAJ V4 b2 0 (.slice a6 n c6)
      have hk2:=ZAJ (V4.setCell ⟨b2,0,none⟩ (.slice a6 n c6)) b2 1 (.slice a10 m c10)
      have hrw:=ZB2 hrv (.slice a6 n c6) (.slice a10 m c10)
      have hzz:(V4.setCell ⟨b2,0,none⟩ (.slice a6 n c6)).heap.size=V4.heap.size:=by simp
      have o3:=ZAN (ZAN o3 hk1 (fun b e1 e2=>by have:=ZAV o3 b e2;cases e1;omega)) hk2 (fun b e1 e2=>by have:=ZAV o3 b e2;cases e1;omega)
      have o7:=ZAN (ZAN o7 hk1 (fun b e1 e2=>by have:=ZAV o7 b e2;cases e1;omega)) hk2 (fun b e1 e2=>by have:=ZAV o7 b e2;cases e1;omega)
      have hBF:=ZAE (ZAE hBW hk1 (fun b e=>by cases e;omega) (by omega)) hk2 (fun b e=>by cases e;omega) (by omega)
      obtain ⟨p0,p1⟩:=ZAg hrw
      refine hK.out _ _ ⟨hBF,((hk2.block b1 (by have:=(ZZZ hbx).1;omega) (by simp;omega)).trans (hk1.block b1 (ZZZ hbx).1 (by simp;omega))).trans hbx,_,_,hrw⟩ (fun hHeld=>?_)
      clear hK K
      refine wpAnyH_done (by kernel_rfl) ?_ _
      go_wp2
      refine bodyPost_ret (results_cell_row Tryz.results115 _ _ b2 _ _ _ _ rfl hrw Tryz.underlying128 rfl (by kernel_rfl)) rfl ?_
      exact ⟨⟨_,_,rfl,cs,ZAH o3 (by omega),HSC.out,ZAH o7 (by omega),hne⟩,hBF⟩
 ·go_simp
  have hg:V0.grownBy (V0.alloc (.cells #[] 3)) none:=World.grownBy_alloc _ _ none
  have o4:=ZCr V0 C 3 1 (by omega)
  have hz:V0.heap.size+1≤(V0.alloc (.cells #[] 3)).heap.size:=Nat.le_of_eq (World.size_alloc _ _).symm
  obtain ⟨V1,hU⟩:∃ U,V0.alloc (.cells #[] 3)=U:=⟨_,rfl⟩
  rw [hU] at hg o4 hz ⊢
  obtain ⟨g4,hg4⟩:∃ g,V0.heap.size=g:=⟨_,rfl⟩
  rw [hg4] at o4 ⊢
  clear hU
  refine hK.out _ _ (ZBp hHeld hg (fun b e=>by cases e) (by omega)) (fun hHeld=>?_)
  clear hK K hg
  refine wpAnyH_ready (rs:=[0]) (by kernel_rfl) (by simp) (AllReadyH.cons rfl (fun K hK=>?_) AllReadyH.nil)
  ·go_simp
   have hg:V1.grownBy (V1.alloc (.cells #[] 51)) none:=World.grownBy_alloc _ _ none
   have o0:=ZCr V1 C 51 7 (by omega)
   have hz:V1.heap.size+1≤(V1.alloc (.cells #[] 51)).heap.size:=Nat.le_of_eq (World.size_alloc _ _).symm
   obtain ⟨V2,hU⟩:∃ U,V1.alloc (.cells #[] 51)=U:=⟨_,rfl⟩
   rw [hU] at hg o0 hz ⊢
   obtain ⟨g0,hg0⟩:∃ g,V1.heap.size=g:=⟨_,rfl⟩
   rw [hg0] at o0 ⊢
   clear hU
   have o4:=ZAN o4 hg (fun b e=>by cases e)
   refine hK.out _ _ (ZBp hHeld hg (fun b e=>by cases e) (by omega)) (fun hHeld=>?_)
   clear hK K hg
   refine wpAnyH_ready (rs:=[3]) (by kernel_rfl) (by simp) (AllReadyH.cons rfl (fun K hK=>?_) AllReadyH.nil)
   ·refine ZA1 _ rfl _ _ 37 rfl C 51 i0 _ 7 88 Tryz.underlying37 hi hi0 hi1 hi2 rfl (by decide) (.slice (some ⟨g0,0,none⟩) 0 0) 0 [] (by first | rfl | simp [Act.eval]) o0 sa n sc cs (by first | rfl | simp [Act.eval]) (ZAs hcs hHeld.1) hc1 (by unfold maxLen;omega) (by omega) (by omega) ?_
    intro v6 V3 o3 hg at6
    replace hg:V2.grownBy V3 (some g0):=hg
    replace at6:v6.ownBlock=some g0∨v6.ownBlock=some V2.heap.size:=at6
    rw [Nat.zero_add,List.nil_append] at o3
    have hz3:=hg.size
    have h6l:=fun b e=>(ZAV o3 b e).1
    have o4:=ZAN o4 hg (fun b e1 e2=>by have:some g4=some b:=e2;injection e1 with e1;injection this with this;omega)
    skip
    refine hK.out _ _ (ZBp hHeld hg (fun b e=>by cases e;omega) (by omega)) (fun hHeld=>?_)
    clear hK K hg
    refine wpAnyH_ready (rs:=[7]) (by kernel_rfl) (by simp) (AllReadyH.cons rfl (fun K hK=>?_) AllReadyH.nil)
    ·refine ZA1 _ rfl _ _ 52 rfl C 3 j0 _ 1 8 Tryz.underlying52 hj hj0 hj1 hj2 rfl (by decide) (.slice (some ⟨g4,0,none⟩) 0 0) 0 [] (by first | rfl | simp [Act.eval]) o4 ca m cc ds (by first | rfl | simp [Act.eval]) (ZAs hci hHeld.1) hd1 (by unfold maxLen;omega) (by omega) (by omega) ?_
     intro v10 V4 o7 hg at10
     replace hg:V3.grownBy V4 (some g4):=hg
     replace at10:v10.ownBlock=some g4∨v10.ownBlock=some V3.heap.size:=at10
     rw [Nat.zero_add,List.nil_append] at o7
     have hz7:=hg.size
     have hne:∀ b,v6.ownBlock=some b→v10.ownBlock=some b→False:=fun b e1 e2=>by have hb6:=ZAV o3 b e1;have hb7:=h6l b e1;rcases at6 with q | q<;>rw [q] at e1<;>rcases at10 with r | r<;>rw [r] at e2<;>injection e1 with e1<;>injection e2 with e2<;>omega
     have o3:=ZAN o3 hg (fun b e1 e2=>by have hb6:=ZAV o3 b e2;have hb7:=h6l b e2;rcases at6 with q | q<;>rw [q] at e2<;>injection e1 with e1<;>injection e2 with e2<;>omega)
     skip
     refine hK.out _ _ (ZBp hHeld hg (fun b e=>by cases e;omega) (by omega)) (fun hHeld=>?_)
     clear hK K hg
     obtain ⟨a6,c6,rfl⟩:=ZAe o3
     obtain ⟨a10,c10,rfl⟩:=ZAe o7
     refine wpAnyH_take (i:=8) (v:=?_) rfl (by kernel_rfl) (by kernel_rfl) (by kernel_rfl) (fun _ _ _ h=>h) (Or.inl ⟨by rfl, ?_⟩) (by assumption) ?_
     rotate_left
     ·intro w hSw;obtain ⟨_,hx1,_⟩:=hSw;have hx2:=ZAg hx1;go_simp;(try with_reducible rfl)
     (try simp only [Act.put,ZZX,ZZW,ZZV])
     refine wpAnyH_ready (rs:=[9]) (by kernel_rfl) (by simp) (AllReadyH.cons rfl (fun K hK=>?_) AllReadyH.nil)
     ·obtain ⟨hBW,hbx,u0,u1,hrv⟩:=id hHeld
      obtain ⟨y0,y1,f0,f1⟩:=ZAD hrv
      go_simp
      have hk1:=ZAJ V4 b2 0 (.slice a6 n c6)
      have hk2:=ZAJ (V4.setCell ⟨b2,0,none⟩ (.slice a6 n c6)) b2 1 (.slice a10 m c10)
      have hrw:=ZB2 hrv (.slice a6 n c6) (.slice a10 m c10)
      have hzz:(V4.setCell ⟨b2,0,none⟩ (.slice a6 n c6)).heap.size=V4.heap.size:=by simp
      have o3:=ZAN (ZAN o3 hk1 (fun b e1 e2=>by have:=ZAV o3 b e2;cases e1;omega)) hk2 (fun b e1 e2=>by have:=ZAV o3 b e2;cases e1;omega)
      have o7:=ZAN (ZAN o7 hk1 (fun b e1 e2=>by have:=ZAV o7 b e2;cases e1;omega)) hk2 (fun b e1 e2=>by have:=ZAV o7 b e2;cases e1;omega)
      have hBF:=ZAE (ZAE hBW hk1 (fun b e=>by cases e;omega) (by omega)) hk2 (fun b e=>by cases e;omega) (by omega)
      obtain ⟨p0,p1⟩:=ZAg hrw
      refine hK.out _ _ ⟨hBF,((hk2.block b1 (by have:=(ZZZ hbx).1;omega) (by simp;omega)).trans (hk1.block b1 (ZZZ hbx).1 (by simp;omega))).trans hbx,_,_,hrw⟩ (fun hHeld=>?_)
      clear hK K
      refine wpAnyH_done (by kernel_rfl) ?_ _
      go_wp2
      refine bodyPost_ret (results_cell_row Tryz.results115 _ _ b2 _ _ _ _ rfl hrw Tryz.underlying128 rfl (by kernel_rfl)) rfl ?_
      exact ⟨⟨_,_,rfl,cs,ZAH o3 (by omega),HSC.out,ZAH o7 (by omega),hne⟩,hBF⟩
open Go.RowKit Go.Shelf
def ZAo (w0 w:World) (x:Sc.Ver) (s:StepM) (e:Ending) (w':World):Prop:=(match Sc.step x s with
 |none=>∃ a n c a' n' c',e=.returned (.tuple #[.agg #[.slice a n c,.slice a' n' c'],.bool false])
 |some y=>∃ sv cv,e=.returned (.tuple #[.agg #[sv,cv],.bool true])∧ZBd w.heap.size w0 w' y sv cv)∧Below w.heap.size w w'
def ZDf (w0 w V:World) (x:Sc.Ver) (b6:Nat) (o0 o1:Value) (st:Array Value) (s6 c6:Value):Prop:=
 V.heap[w.heap.size]? = some (.cells #[o0,o1] 128 (0,0))∧V.heap[w.heap.size+1]? = some (.cells st 54 (0,0))∧V.heap[w.heap.size+1+1]? = some (.cells #[.slice none 0 0,.slice none 0 0] 128 (0,0)) ∧
 V.heap[b6]? = some (.cells #[s6,c6] 128 (0,0))∧Below w.heap.size w V∧ZBd (w.heap.size+1+1+1) w0 V x s6 c6∧w.heap.size+1+1<b6∧(∀ b,s6.ownBlock=some b→b<b6)∧(∀ b,c6.ownBlock=some b→b<b6)
theorem ZBP (w0 w w1:World) (x:Sc.Ver) (sa:Option Addr) (sc:Nat) (ca:Option Addr) (cc:Nat) (o0 o1:Value) (st:Array Value) (s6 c6:Value)
  (hb:Below (((w.alloc (.cells #[o0,o1] 128)).alloc (.cells st 54)).alloc (.cells #[.slice none 0 0,.slice none 0 0] 128)).heap.size (((w.alloc (.cells #[o0,o1] 128)).alloc (.cells st 54)).alloc (.cells #[.slice none 0 0,.slice none 0 0] 128)) w1)
  (hvo:ZBd (((w.alloc (.cells #[o0,o1] 128)).alloc (.cells st 54)).alloc (.cells #[.slice none 0 0,.slice none 0 0] 128)).heap.size w0 w1 x s6 c6) :
  ZDf w0 w (w1.alloc (.cells #[s6,c6] 128)) x w1.heap.size o0 o1 st s6 c6∧w1.heap[w.heap.size+1+1]? = some (.cells #[.slice none 0 0,.slice none 0 0] 128 (0,0))∧Below w.heap.size w w1:=by
 have e1:(w.alloc (.cells #[o0,o1] 128)).heap.size=w.heap.size+1:=World.size_alloc _ _
 have e2:((w.alloc (.cells #[o0,o1] 128)).alloc (.cells st 54)).heap.size=w.heap.size+1+1:=by rw [World.size_alloc,e1]
 have e3:(((w.alloc (.cells #[o0,o1] 128)).alloc (.cells st 54)).alloc (.cells #[.slice none 0 0,.slice none 0 0] 128)).heap.size=w.heap.size+1+1+1:=by rw [World.size_alloc,e2]
 rw [e3] at hb hvo
 have hB3:Below w.heap.size w (((w.alloc (.cells #[o0,o1] 128)).alloc (.cells st 54)).alloc (.cells #[.slice none 0 0,.slice none 0 0] 128)):=(((Below.refl _ w).alloc (Nat.le_refl _) _).alloc (by omega) _).alloc (by omega) _
 have hB1:Below w.heap.size w w1:=hB3.trans (hb.mono (by omega))
 have hz:w.heap.size+1+1+1≤w1.heap.size:=by have:=hb.size;omega
 have g0:w1.heap[w.heap.size]? = some (.cells #[o0,o1] 128 (0,0)):=(hb.block _ (by omega)).trans ((Below.heap_alloc _ _ _ (by omega)).trans ((Below.heap_alloc _ _ _ (by omega)).trans (ZAQ w _)))
 have g1:w1.heap[w.heap.size+1]? = some (.cells st 54 (0,0)):=(hb.block _ (by omega)).trans ((Below.heap_alloc _ _ _ (by omega)).trans (e1 ▸ ZAQ (w.alloc (.cells #[o0,o1] 128)) _))
 have g2:w1.heap[w.heap.size+1+1]? = some (.cells #[.slice none 0 0,.slice none 0 0] 128 (0,0)):=(hb.block _ (by omega)).trans (e2 ▸ ZAQ ((w.alloc (.cells #[o0,o1] 128)).alloc (.cells st 54)) _)
 have k0:=World.grownBy_alloc w1 (.cells #[s6,c6] 128) none
 have far:∀ b o,b<w1.heap.size→w1.heap[b]? = some o→(w1.alloc (.cells #[s6,c6] 128)).heap[b]? = some o:=fun b o hlt h=>(k0.block b hlt (by simp)).trans h
 obtain ⟨cs,p1,p2,p3,p4⟩:=hvo
 have q1:=fun b e=>(ZAV p1 b e).1
 have q3:=fun b e=>(ZAV p3 b e).1
 exact ⟨⟨far _ _ (by omega) g0,far _ _ (by omega) g1,far _ _ (by omega) g2,ZAQ w1 _,ZAE hB1 k0 (fun b e=>by cases e) (by omega),⟨cs,ZAN p1 k0 (fun b e=>by cases e),p2,ZAN p3 k0 (fun b e=>by cases e),p4⟩,by omega,q1,q3⟩,g2,hB1⟩
theorem ZKr (w w1:World) (b6:Nat) (u0 u1 s6 c6:Value) (o:Obj) (h:w1.heap[b6]? = some (.cells #[u0,u1] 128 (0,0))) (hb:Below w.heap.size w w1) (hlt:w.heap.size≤b6) :
  (((w1.setCell ⟨b6,0,none⟩ s6).setCell ⟨b6,1,none⟩ c6).alloc o).heap[b6]? = some (.cells #[s6,c6] 128 (0,0))∧Below w.heap.size w (((w1.setCell ⟨b6,0,none⟩ s6).setCell ⟨b6,1,none⟩ c6).alloc o):=by
 have k1:=ZAJ w1 b6 0 s6
 have k2:=ZAJ (w1.setCell ⟨b6,0,none⟩ s6) b6 1 c6
 have z1:=k1.size
 have z2:=k2.size
 have hs:=hb.size
 have h2:=ZB2 h s6 c6
 have hB:=ZAE (ZAE hb k1 (fun b e=>by injection e with e;omega) hs) k2 (fun b e=>by injection e with e;omega) (by omega)
 exact ⟨(Below.heap_alloc _ _ _ (ZZZ h2).1).trans h2,hB.alloc (by omega) o⟩
theorem ZAR {P:Program} {fn:Func} {p u:Tmp} {ty:TypeId} (h:fn.results=#[.cell p ty,.tmp u]) (tmps:Array Value) (w:World) (g:Nat) (t:TypeId) (cs:Array Value) (fr:Nat × Nat) (d:TypeDesc)
  (hp:tmps.getD p undef=.pointer (some ⟨g,0,none⟩)) (hg:w.heap[g]? = some (.cells cs t fr))
  (hu:P.underlying ty=some d) (hd:(match d with | .struct _ | .array _ _=>true | _=>false)=true) (hi:(P.info? ty).map (·.size)=some cs.size) :
  (results fn tmps).run P w=.ok (.tuple #[.agg cs,tmps.getD u undef]) w:=by
 rw [results_cell_tmp h,hp]
 simp [asAddr,run_loadVar_row w g t ty cs fr d hg hu hd hi,Result.andThen]
theorem ZBG {B:Nat} {w0 W:World} {x:Sc.Ver} {sv cv:Value} (h:ZBd B w0 W x sv cv):∃ a c a' c',sv=.slice a x.slots.length c∧cv=.slice a' x.cols.length c':=by
 obtain ⟨cs,p1,_,p3,_⟩:=h
 obtain ⟨a,c,rfl⟩:=ZAe p1
 obtain ⟨a',c',rfl⟩:=ZAe p3
 exact ⟨a,c,a',c',rfl,rfl⟩
theorem ZAS {W:World} {b:Nat} {c0 c1 c2 c3 c4 c5 c6 c7 c8 c9:Value} {t:TypeId} (h:W.heap[b]? = some (.cells #[c0,c1,c2,c3,c4,c5,c6,c7,c8,c9] t (0,0))) :
  (W.cell? ⟨b,0,none⟩=some c0∧W.cell? ⟨b,1,none⟩=some c1∧W.cell? ⟨b,2,none⟩=some c2∧W.cell? ⟨b,3,none⟩=some c3∧W.cell? ⟨b,4,none⟩=some c4)∧(W.cell? ⟨b,5,none⟩=some c5∧W.cell? ⟨b,6,none⟩=some c6∧W.cell? ⟨b,7,none⟩=some c7∧W.cell? ⟨b,8,none⟩=some c8∧W.cell? ⟨b,9,none⟩=some c9):=by
 refine ⟨⟨?_, ?_, ?_, ?_, ?_⟩, ?_, ?_, ?_, ?_, ?_⟩<;>simp [World.cell?,h]
theorem ZIb (x:Sc.Ver) (s:StepM) (sa:Option Addr) (sc:Nat) (ca:Option Addr) (cc:Nat) (w0 w:World) (T:Value) (hsl:x.slots.length≤100000) (hcl:x.cols.length≤100000) (hv:ZBq w0 w x sa sc ca cc) (hs0:ZBS w0 s T) (h0:Below w0.heap.size w0 w) (hk:s.kd<1) :
  Calls Tryz.prog 103 #[.agg #[.slice sa x.slots.length sc,.slice ca x.cols.length cc],T] w (ZAo w0 w x s):=by
 have hs:=ZAP h0 hs0
 have hC:=fun W (hb:Below w.heap.size w W)=>ZA2 x sa sc ca cc w0 w W hsl hcl hv hb
 obtain ⟨kd,col,sl,od⟩:=s
 obtain ⟨c2,c3,c4,c5,c6,c7,c8,oa,oc,rfl,hi1,hi2,h7,hod,_⟩:=hs
 simp only at hk hi1 hi2 ⊢
 have hno:Sc.step x ⟨kd,col,sl,od⟩=none:=by
  unfold Sc.step
  simp only
  split
  ·rfl
  ·rw [if_neg (by omega),if_neg (by omega),if_pos (by omega)]
 obtain ⟨Q,hQ⟩:∃ Q,ZAo w0 w x ⟨kd,col,sl,od⟩=Q:=⟨_,rfl⟩
 have hq:∀ (a:Option Addr) (n c:Nat) (a':Option Addr) (n' c':Nat) (w':World),Below w.heap.size w w'→Q (.returned (.tuple #[.agg #[.slice a n c,.slice a' n' c'],.bool false])) w':=by
  intro a n c a' n' c' w' hb
  rw [←hQ];unfold ZAo;rw [hno];exact ⟨⟨a,n,c,a',n',c',rfl⟩,hb⟩
 have HQ:=ZZY hq
 clear hq
 rw [hQ]
 clear hQ hno h7 hod
 have d0:decide (kd<1)=true:=by simpa using hk
 have HV:=ZZY hv
 clear hv hk
 go_enter func103,ntmps103
 go_wp2_with (first | (go_at_call 115;(with_reducible refine (hC _ ?_).mono ?_);rotate_left;rintro e w1 ⟨⟨sv,cv,rfl,hvo⟩,hb1⟩;obtain ⟨a6,c6,a7,c7',rfl,rfl⟩:=ZBG hvo;obtain ⟨hP,hq2,hq3⟩:=ZBP w0 w w1 x sa sc ca cc _ _ _ _ _ hb1 hvo;obtain ⟨t0,t1,t2,t3⟩:=ZAD hq2;have hE:=ZKr w w1 (w.heap.size+1+1) _ _ (.slice a6 x.slots.length c6) (.slice a7 x.cols.length c7') (.cells #[.slice a6 x.slots.length c6,.slice a7 x.cols.length c7'] 128) hq2 hq3 (by omega);have HE:=ZZY hE;clear hq2 hq3 hE hb1;have HP:=ZZY hP;obtain ⟨_,p2,p3,p4,_⟩:=hP;obtain ⟨⟨y0,y1,_⟩,_⟩:=ZAS p2;obtain ⟨r0,r1,r2,r3⟩:=ZAD p3;obtain ⟨x0,x1,x2,x3⟩:=ZAD p4))
 ·refine bodyPost_ret (ZAR Tryz.results103 _ _ (w.heap.size+1+1) _ _ _ _ rfl HE.out.1 Tryz.underlying128 rfl (by kernel_rfl)) rfl ?_
  exact HQ.out _ _ _ _ _ _ _ HE.out.2
 ·exact (((Below.refl _ w).alloc (Nat.le_refl _) _).alloc (by simp) _).alloc (by simp;omega) _
open Go.RowKit Go.Shelf
theorem ZAl {w0 w V V':World} {x:Sc.Ver} {b6:Nat} {o0 o1 s6 c6:Value} {st:Array Value} (h:ZDf w0 w V x b6 o0 o1 st s6 c6) (hb:Below V.heap.size V V'):ZDf w0 w V' x b6 o0 o1 st s6 c6:=by
 obtain ⟨g0,g1,g2,g3,g4,⟨cs,p1,p2,p3,p4⟩,h1,h2,h3⟩:=h
 have k:=fun b o (hb0:V.heap[b]? = some o)=>(hb.block b (ZZZ hb0).1).trans hb0
 have kg:V.grownBy V' none:=by
  obtain ⟨a1,a2,a3,a4,a5⟩:=hb
  exact ⟨a1,a2,a3,a4,fun j hj _=>a5 j hj⟩
 exact ⟨k _ _ g0,k _ _ g1,k _ _ g2,k _ _ g3,ZAE g4 kg (fun b e=>by cases e) g4.size,⟨cs,ZAN p1 kg (fun b e=>by cases e),p2,ZAN p3 kg (fun b e=>by cases e),p4⟩,h1,h2,h3⟩
theorem ZAa {w0 w V:World} {x:Sc.Ver} {b6:Nat} {o0 o1 s6 c6:Value} {st:Array Value} (h:ZDf w0 w V x b6 o0 o1 st s6 c6):Below w.heap.size w V:=h.2.2.2.2.1
theorem ZAx {w0 w V:World} {x:Sc.Ver} {b6:Nat} {o0 o1 s6 c6:Value} {st:Array Value} (h:ZDf w0 w V x b6 o0 o1 st s6 c6):V.heap[w.heap.size+1+1]? = some (.cells #[.slice none 0 0,.slice none 0 0] 128 (0,0)):=h.2.2.1
theorem ZAu (w w1:World) (b6:Nat) (u0 u1 s6 c6:Value) (h:w1.heap[b6]? = some (.cells #[u0,u1] 128 (0,0))) (hb:Below w.heap.size w w1) (hlt:w.heap.size≤b6) :
  ((w1.setCell ⟨b6,0,none⟩ s6).setCell ⟨b6,1,none⟩ c6).heap[b6]? = some (.cells #[s6,c6] 128 (0,0))∧Below w.heap.size w ((w1.setCell ⟨b6,0,none⟩ s6).setCell ⟨b6,1,none⟩ c6):=by
 have k1:=ZAJ w1 b6 0 s6
 have k2:=ZAJ (w1.setCell ⟨b6,0,none⟩ s6) b6 1 c6
 have z1:=k1.size
 have hs:=hb.size
 exact ⟨ZB2 h s6 c6,ZAE (ZAE hb k1 (fun b e=>by injection e with e;omega) hs) k2 (fun b e=>by injection e with e;omega) (by omega)⟩
theorem ZHL (x:Sc.Ver) (s:StepM) (sa:Option Addr) (sc:Nat) (ca:Option Addr) (cc:Nat) (w0 w:World) (T:Value) (hsl:x.slots.length≤100000) (hcl:x.cols.length≤100000) (hv:ZBq w0 w x sa sc ca cc) (hs0:ZBS w0 s T) (h0:Below w0.heap.size w0 w) (hk:5<s.kd) :
  Calls Tryz.prog 103 #[.agg #[.slice sa x.slots.length sc,.slice ca x.cols.length cc],T] w (ZAo w0 w x s):=by
 have hs:=ZAP h0 hs0
 have hC:=fun W (hb:Below w.heap.size w W)=>ZA2 x sa sc ca cc w0 w W hsl hcl hv hb
 obtain ⟨kd,col,sl,od⟩:=s
 obtain ⟨c2,c3,c4,c5,c6,c7,c8,oa,oc,rfl,hi1,hi2,h7,hod,_⟩:=hs
 simp only at hk hi1 hi2 ⊢
 have hno:Sc.step x ⟨kd,col,sl,od⟩=none:=by
  unfold Sc.step
  simp only
  split
  ·rfl
  ·rw [if_neg (by omega),if_neg (by omega),if_pos (by omega)]
 obtain ⟨Q,hQ⟩:∃ Q,ZAo w0 w x ⟨kd,col,sl,od⟩=Q:=⟨_,rfl⟩
 have hq:∀ (a:Option Addr) (n c:Nat) (a':Option Addr) (n' c':Nat) (w':World),Below w.heap.size w w'→Q (.returned (.tuple #[.agg #[.slice a n c,.slice a' n' c'],.bool false])) w':=by
  intro a n c a' n' c' w' hb
  rw [←hQ];unfold ZAo;rw [hno];exact ⟨⟨a,n,c,a',n',c',rfl⟩,hb⟩
 have HQ:=ZZY hq
 clear hq
 rw [hQ]
 clear hQ hno h7 hod
 have d0:decide (kd<1)=false:=by simp;omega
 have d1:decide (5<kd)=true:=by simpa using hk
 have HV:=ZZY hv
 clear hv hk
 go_enter func103,ntmps103
 go_wp2_with (first | (go_at_call 115;(with_reducible refine (hC _ ?_).mono ?_);rotate_left;rintro e w1 ⟨⟨sv,cv,rfl,hvo⟩,hb1⟩;obtain ⟨a6,c6,a7,c7',rfl,rfl⟩:=ZBG hvo;obtain ⟨hP,hq2,hq3⟩:=ZBP w0 w w1 x sa sc ca cc _ _ _ _ _ hb1 hvo;obtain ⟨t0,t1,t2,t3⟩:=ZAD hq2;have hE:=ZKr w w1 (w.heap.size+1+1) _ _ (.slice a6 x.slots.length c6) (.slice a7 x.cols.length c7') (.cells #[.slice a6 x.slots.length c6,.slice a7 x.cols.length c7'] 128) hq2 hq3 (by omega);have HE:=ZZY hE;clear hq2 hq3 hE hb1;have HP:=ZZY hP;obtain ⟨_,p2,p3,p4,_⟩:=hP;obtain ⟨⟨y0,y1,_⟩,_⟩:=ZAS p2;obtain ⟨r0,r1,r2,r3⟩:=ZAD p3;obtain ⟨x0,x1,x2,x3⟩:=ZAD p4))
 ·refine bodyPost_ret (ZAR Tryz.results103 _ _ (w.heap.size+1+1) _ _ _ _ rfl HE.out.1 Tryz.underlying128 rfl (by kernel_rfl)) rfl ?_
  exact HQ.out _ _ _ _ _ _ _ HE.out.2
 ·exact (((Below.refl _ w).alloc (Nat.le_refl _) _).alloc (by simp) _).alloc (by simp;omega) _
theorem ZIc (x:Sc.Ver) (s:StepM) (sa:Option Addr) (sc:Nat) (ca:Option Addr) (cc:Nat) (w0 w:World) (T:Value) (hsl:x.slots.length≤100000) (hcl:x.cols.length≤100000) (hv:ZBq w0 w x sa sc ca cc) (hs0:ZBS w0 s T) (h0:Below w0.heap.size w0 w) (hk:1≤s.kd∧s.kd≤5) (hre:Sc.rest s=false) :
  Calls Tryz.prog 103 #[.agg #[.slice sa x.slots.length sc,.slice ca x.cols.length cc],T] w (ZAo w0 w x s):=by
 have hs:=ZAP h0 hs0
 have hC:=fun W (hb:Below w.heap.size w W)=>ZA2 x sa sc ca cc w0 w W hsl hcl hv hb
 have hR:=fun W (hb:Below w.heap.size w W)=>ZA0 s W T (ZAP hb hs)
 rw [hre] at hR
 obtain ⟨kd,col,sl,od⟩:=s
 obtain ⟨c2,c3,c4,c5,c6,c7,c8,oa,oc,rfl,hi1,hi2,h7,hod,_⟩:=hs
 simp only at hk hi1 hi2 hre ⊢
 have hno:Sc.step x ⟨kd,col,sl,od⟩=none:=by
  unfold Sc.step
  simp only
  rw [if_pos hre]
 obtain ⟨Q,hQ⟩:∃ Q,ZAo w0 w x ⟨kd,col,sl,od⟩=Q:=⟨_,rfl⟩
 have hq:∀ (a:Option Addr) (n c:Nat) (a':Option Addr) (n' c':Nat) (w':World),Below w.heap.size w w'→Q (.returned (.tuple #[.agg #[.slice a n c,.slice a' n' c'],.bool false])) w':=by
  intro a n c a' n' c' w' hb
  rw [←hQ];unfold ZAo;rw [hno];exact ⟨⟨a,n,c,a',n',c',rfl⟩,hb⟩
 have HQ:=ZZY hq
 clear hq
 rw [hQ]
 clear hQ hno h7 hod
 have d0:decide (kd<1)=false:=by simp;omega
 have d1:decide (5<kd)=false:=by simp;omega
 clear hre
 have HV:=ZZY hv
 clear hv hk
 go_enter func103,ntmps103
 go_wp2_with (first
  |(go_at_call 115;(with_reducible refine (hC _ ?_).mono ?_);rotate_left;rintro e w1 ⟨⟨sv,cv,rfl,hvo⟩,hb1⟩;obtain ⟨a6,c6,a7,c7',rfl,rfl⟩:=ZBG hvo;obtain ⟨hP,hq2,hq3⟩:=ZBP w0 w w1 x sa sc ca cc _ _ _ _ _ hb1 hvo;have HP:=ZZY hP;clear hq2 hq3 hb1;obtain ⟨_,p2,_,p4,_⟩:=hP;obtain ⟨⟨y0,y1,y2,y3,y4⟩,y5,y6,y7,y8,y9⟩:=ZAS p2)
  |(go_at_call 116;(with_reducible refine (hR _ (ZAa HP.out)).mono ?_);rintro e w2 ⟨rfl,hb2⟩;have hP2:=ZAl HP.out hb2;have hE:=ZAu w w2 (w.heap.size+1+1) _ _ (.slice a6 x.slots.length c6) (.slice a7 x.cols.length c7') (ZAx hP2) (ZAa hP2) (by omega);have HE:=ZZY hE;clear hE hb2;obtain ⟨_,_,p3,p4',_⟩:=hP2;obtain ⟨r0,r1,r2,r3⟩:=ZAD p3;obtain ⟨x0,x1,x2,x3⟩:=ZAD p4'))
 ·refine bodyPost_ret (ZAR Tryz.results103 _ _ (w.heap.size+1+1) _ _ _ _ rfl HE.out.1 Tryz.underlying128 rfl (by kernel_rfl)) rfl ?_
  exact HQ.out _ _ _ _ _ _ _ HE.out.2
 ·exact (((Below.refl _ w).alloc (Nat.le_refl _) _).alloc (by simp) _).alloc (by simp;omega) _
open Go.RowKit Go.Shelf
theorem ZJ8 (x:Sc.Ver) (s:StepM) (sa:Option Addr) (sc:Nat) (ca:Option Addr) (cc:Nat) (w0 w:World) (T:Value) (hsl:x.slots.length≤100000) (hcl:x.cols.length≤100000) (hv:ZBq w0 w x sa sc ca cc) (hs0:ZBS w0 s T) (h0:Below w0.heap.size w0 w) (hk:2≤s.kd∧s.kd≤4) (hre:Sc.rest s=true) (hco:s.col<0) :
  Calls Tryz.prog 103 #[.agg #[.slice sa x.slots.length sc,.slice ca x.cols.length cc],T] w (ZAo w0 w x s):=by
 have hs:=ZAP h0 hs0
 have hC:=fun W (hb:Below w.heap.size w W)=>ZA2 x sa sc ca cc w0 w W hsl hcl hv hb
 have hR:=fun W (hb:Below w.heap.size w W)=>ZA0 s W T (ZAP hb hs)
 rw [hre] at hR
 obtain ⟨kd,col,sl,od⟩:=s
 obtain ⟨c2,c3,c4,c5,c6,c7,c8,oa,oc,rfl,hi1,hi2,h7,hod,_⟩:=hs
 simp only at hk hi1 hi2 hre hco ⊢
 have hno:Sc.step x ⟨kd,col,sl,od⟩=none:=by
  unfold Sc.step
  simp only
  rw [if_neg (by rw [hre];simp),if_neg (by omega),if_neg (by omega),if_pos (by omega)]
 obtain ⟨Q,hQ⟩:∃ Q,ZAo w0 w x ⟨kd,col,sl,od⟩=Q:=⟨_,rfl⟩
 have hq:∀ (a:Option Addr) (n c:Nat) (a':Option Addr) (n' c':Nat) (w':World),Below w.heap.size w w'→Q (.returned (.tuple #[.agg #[.slice a n c,.slice a' n' c'],.bool false])) w':=by
  intro a n c a' n' c' w' hb
  rw [←hQ];unfold ZAo;rw [hno];exact ⟨⟨a,n,c,a',n',c',rfl⟩,hb⟩
 have HQ:=ZZY hq
 clear hq
 rw [hQ]
 clear hQ hno h7 hod
 have d0:decide (kd<1)=false:=by simp;omega
 have d1:decide (5<kd)=false:=by simp;omega
 have d2:decide (1<kd)=true:=by simp;omega
 have d3:decide (kd<5)=true:=by simp;omega
 have d4:decide (col<0)=true:=by simpa using hco
 clear hre hco
 have HV:=ZZY hv
 clear hv hk
 go_enter func103,ntmps103
 go_wp2_with (first
  |(go_at_call 115;(with_reducible refine (hC _ ?_).mono ?_);rotate_left;rintro e w1 ⟨⟨sv,cv,rfl,hvo⟩,hb1⟩;obtain ⟨a6,c6,a7,c7',rfl,rfl⟩:=ZBG hvo;obtain ⟨hP,hq2,hq3⟩:=ZBP w0 w w1 x sa sc ca cc _ _ _ _ _ hb1 hvo;have HP:=ZZY hP;clear hq2 hq3 hb1;obtain ⟨_,p2,_,p4,_⟩:=hP;obtain ⟨⟨y0,y1,y2,y3,y4⟩,y5,y6,y7,y8,y9⟩:=ZAS p2)
  |(go_at_call 116;(with_reducible refine (hR _ (ZAa HP.out)).mono ?_);rintro e w2 ⟨rfl,hb2⟩;have hP2:=ZAl HP.out hb2;have hE:=ZAu w w2 (w.heap.size+1+1) _ _ (.slice a6 x.slots.length c6) (.slice a7 x.cols.length c7') (ZAx hP2) (ZAa hP2) (by omega);have HE:=ZZY hE;clear hE hb2;obtain ⟨_,p2',p3,p4',_⟩:=hP2;obtain ⟨⟨z0,z1,z2,z3,z4⟩,z5,z6,z7,z8,z9⟩:=ZAS p2';obtain ⟨r0,r1,r2,r3⟩:=ZAD p3;obtain ⟨x0,x1,x2,x3⟩:=ZAD p4'))
 ·refine bodyPost_ret (ZAR Tryz.results103 _ _ (w.heap.size+1+1) _ _ _ _ rfl HE.out.1 Tryz.underlying128 rfl (by kernel_rfl)) rfl ?_
  exact HQ.out _ _ _ _ _ _ _ HE.out.2
 ·exact (((Below.refl _ w).alloc (Nat.le_refl _) _).alloc (by simp) _).alloc (by simp;omega) _
theorem ZId (x:Sc.Ver) (s:StepM) (sa:Option Addr) (sc:Nat) (ca:Option Addr) (cc:Nat) (w0 w:World) (T:Value) (hsl:x.slots.length≤100000) (hcl:x.cols.length≤100000) (hv:ZBq w0 w x sa sc ca cc) (hs0:ZBS w0 s T) (h0:Below w0.heap.size w0 w) (hk:2≤s.kd∧s.kd≤4) (hre:Sc.rest s=true) (hco:(x.cols.length:Int)≤s.col) :
  Calls Tryz.prog 103 #[.agg #[.slice sa x.slots.length sc,.slice ca x.cols.length cc],T] w (ZAo w0 w x s):=by
 have hs:=ZAP h0 hs0
 have hC:=fun W (hb:Below w.heap.size w W)=>ZA2 x sa sc ca cc w0 w W hsl hcl hv hb
 have hR:=fun W (hb:Below w.heap.size w W)=>ZA0 s W T (ZAP hb hs)
 rw [hre] at hR
 obtain ⟨kd,col,sl,od⟩:=s
 obtain ⟨c2,c3,c4,c5,c6,c7,c8,oa,oc,rfl,hi1,hi2,h7,hod,_⟩:=hs
 simp only at hk hi1 hi2 hre hco ⊢
 have hno:Sc.step x ⟨kd,col,sl,od⟩=none:=by
  unfold Sc.step
  simp only
  rw [if_neg (by rw [hre];simp),if_neg (by omega),if_neg (by omega),if_pos (by omega)]
 obtain ⟨Q,hQ⟩:∃ Q,ZAo w0 w x ⟨kd,col,sl,od⟩=Q:=⟨_,rfl⟩
 have hq:∀ (a:Option Addr) (n c:Nat) (a':Option Addr) (n' c':Nat) (w':World),Below w.heap.size w w'→Q (.returned (.tuple #[.agg #[.slice a n c,.slice a' n' c'],.bool false])) w':=by
  intro a n c a' n' c' w' hb
  rw [←hQ];unfold ZAo;rw [hno];exact ⟨⟨a,n,c,a',n',c',rfl⟩,hb⟩
 have HQ:=ZZY hq
 clear hq
 rw [hQ]
 clear hQ hno h7 hod
 have d0:decide (kd<1)=false:=by simp;omega
 have d1:decide (5<kd)=false:=by simp;omega
 have d2:decide (1<kd)=true:=by simp;omega
 have d3:decide (kd<5)=true:=by simp;omega
 have d4:decide (col<0)=false:=by simp;omega
 have d5:decide ((x.cols.length:Int)≤col)=true:=by simpa using hco
 clear hre hco
 have HV:=ZZY hv
 clear hv hk
 go_enter func103,ntmps103
 go_wp2_with (first
  |(go_at_call 115;(with_reducible refine (hC _ ?_).mono ?_);rotate_left;rintro e w1 ⟨⟨sv,cv,rfl,hvo⟩,hb1⟩;obtain ⟨a6,c6,a7,c7',rfl,rfl⟩:=ZBG hvo;obtain ⟨hP,hq2,hq3⟩:=ZBP w0 w w1 x sa sc ca cc _ _ _ _ _ hb1 hvo;have HP:=ZZY hP;clear hq2 hq3 hb1;obtain ⟨_,p2,_,p4,_⟩:=hP;obtain ⟨⟨y0,y1,y2,y3,y4⟩,y5,y6,y7,y8,y9⟩:=ZAS p2)
  |(go_at_call 116;(with_reducible refine (hR _ (ZAa HP.out)).mono ?_);rintro e w2 ⟨rfl,hb2⟩;have hP2:=ZAl HP.out hb2;have hE:=ZAu w w2 (w.heap.size+1+1) _ _ (.slice a6 x.slots.length c6) (.slice a7 x.cols.length c7') (ZAx hP2) (ZAa hP2) (by omega);have HE:=ZZY hE;clear hE hb2;obtain ⟨_,p2',p3,p4',_⟩:=hP2;obtain ⟨⟨z0,z1,z2,z3,z4⟩,z5,z6,z7,z8,z9⟩:=ZAS p2';obtain ⟨r0,r1,r2,r3⟩:=ZAD p3;obtain ⟨x0,x1,x2,x3⟩:=ZAD p4'))
 ·refine bodyPost_ret (ZAR Tryz.results103 _ _ (w.heap.size+1+1) _ _ _ _ rfl HE.out.1 Tryz.underlying128 rfl (by kernel_rfl)) rfl ?_
  exact HQ.out _ _ _ _ _ _ _ HE.out.2
 ·exact (((Below.refl _ w).alloc (Nat.le_refl _) _).alloc (by simp) _).alloc (by simp;omega) _
