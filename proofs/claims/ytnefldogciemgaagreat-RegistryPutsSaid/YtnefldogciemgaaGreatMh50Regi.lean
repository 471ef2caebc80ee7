/- The walk of RegistryPuts: whether a registry is right, its bytes, the template of a name, and which registries are the same, are the document's. -/
import Derived.Test.YtnefldogciemgaaGreatMh49Regi
set_option linter.unusedVariables false
set_option linter.unusedSimpArgs false
set_option maxRecDepth 100000
namespace Go.Proofs.YtnefldogciemgaaGreat.registryPutsWalk
open Go.RowKit Go.Shelf
set_option maxHeartbeats 8000000 in
theorem walk (t0:List TemplM) (a0:Option Addr) (c0:Nat) (t1:List TemplM) (a1:Option Addr) (c1:Nat) (a2:ByteArray) (w:World) (w0:TemplRow w a0 c0 t0) (w1:TemplRow w a1 c1 t1) (w2:a2.size≤maxLen) :
  Calls Tryz.prog 3 #[.slice a0 t0.length c0,.slice a1 t1.length c1,.string a2] w fun e w'=>e=.returned (.bool true)∧Below w.heap.size w w':=by
 have hAl:=fun w=>rgAlive_any w
 have H0:=fun W hb=>templRow_below (w:=w) (w':=W) hb w0
 have H1:=fun W hb=>templRow_below (w:=w) (w':=W) hb w1
 have hG0:=fun W hb=>refGreat13_any a0 c0 t0 W (H0 W hb)
 have hG1:=fun W hb=>refGreat13_any a1 c1 t1 W (H1 W hb)
 obtain ⟨G0,hg0⟩:∃ G,greatR t0=G:=⟨_,rfl⟩
 obtain ⟨G1,hg1⟩:∃ G,greatR t1=G:=⟨_,rfl⟩
 simp only [hg0] at hG0
 simp only [hg1] at hG1
 have HG0:=Lib.hid hG0;have HG1:=Lib.hid hG1;have HAl:=Lib.hid hAl
 clear hG0 hG1 hAl
 cases G0 with
 |true=>
  clear H0 H1 hg0 hg1 w0 w1
  go_enter Tryz.func3,Tryz.ntmps3
  go_wp2_with (first
   |(go_at_call 5;(with_reducible refine (HAl.out _).mono ?_);rintro e w2 ⟨rfl,hB2⟩)
   |(go_at_call 6;(with_reducible refine (HG0.out _ hB2).mono ?_);rintro e w3 ⟨rfl,hB3⟩))
  go_ret
  exact ⟨rfl,hB2.trans (hB3.mono hB2.size)⟩
 |false=>
 cases G1 with
 |true=>
  clear H0 H1 hg0 hg1 w0 w1
  go_enter Tryz.func3,Tryz.ntmps3
  go_wp2_with (first
   |(go_at_call 5;(with_reducible refine (HAl.out _).mono ?_);rintro e w2 ⟨rfl,hB2⟩)
   |(go_at_call 6;(with_reducible refine (HG0.out _ hB2).mono ?_);rintro e w3 ⟨rfl,hB3⟩;have hb3:=hB2.trans (hB3.mono hB2.size))
   |(go_at_call 6;(with_reducible refine (HG1.out _ hb3).mono ?_);rintro e w4 ⟨rfl,hB4⟩))
  go_ret
  exact ⟨rfl,hb3.trans (hB4.mono hb3.size)⟩
 |false=>
 obtain ⟨l0,k0⟩:=great_asked hg0
 have q0:=(greatR_not hg0).2
 by_cases hl:300<a2.size
 ·have d0:decide (300<a2.size)=true:=by simpa using hl
  clear H0 H1 hg0 hg1 w0 w1 w2 l0 k0 q0
  go_enter Tryz.func3,Tryz.ntmps3
  go_wp2_with (first
   |(go_at_call 5;(with_reducible refine (HAl.out _).mono ?_);rintro e w2 ⟨rfl,hB2⟩)
   |(go_at_call 6;(with_reducible refine (HG0.out _ hB2).mono ?_);rintro e w3 ⟨rfl,hB3⟩;have hb3:=hB2.trans (hB3.mono hB2.size))
   |(go_at_call 6;(with_reducible refine (HG1.out _ hb3).mono ?_);rintro e w4 ⟨rfl,hB4⟩))
  go_ret
  exact ⟨rfl,hb3.trans (hB4.mono hb3.size)⟩
 ·have d0:decide (300<a2.size)=false:=by simpa using hl
  have hR:=fun W hb=>rgRight_any a0 c0 t0 W (H0 W hb) l0 k0
  have hR':=fun W hb=>refRight13_any a0 c0 t0 W (H0 W hb) q0
  have hP:=fun W hb=>rgPut_any a0 c0 t0 W (H0 W hb) l0 k0
  have hP':=fun W hb=>refPut13_any a0 c0 t0 W (H0 W hb) q0
  have hF:=fun W hb=>rgFind_any a0 c0 t0 a2 W (H0 W hb) l0
  have hF':=fun W hb=>refFind13_any a0 c0 t0 a2 W (H0 W hb)
  have hS:=fun W hb=>rgSame_any a0 a1 c0 c1 t0 t1 W (H0 W hb) (H1 W hb)
  have hS':=fun W hb=>refSame13_any a0 a1 c0 c1 t0 t1 W (H0 W hb) (H1 W hb)
  generalize Rg.right t0=R at *
  generalize Rg.putIf t0=L0 at *
  generalize Rg.ixJ (Rg.find t0 a2)=F at *
  generalize eqB t0 t1=E at *
  obtain ⟨N0,hN0⟩:∃ N,L0.length=N:=⟨_,rfl⟩
  have hBy:∀ W a b c d,Row W .u8 a N0 c L0→Row W .u8 b N0 d L0→Calls Tryz.prog 9 #[.slice a N0 c,.slice b N0 d] W fun e w'=>e=.returned (.bool true)∧∃ n,w'=W.drewN n:=fun W a b c d h1 h2=>by
   refine (refBytes_any a b _ _ c d _ _ W h1 h2).mono fun e w' h=>?_
   obtain ⟨rfl,n,rfl⟩:=h
   exact ⟨ret_bool (by simp),n,rfl⟩
  have HR:=Lib.hid hR;have HR':=Lib.hid hR';have HP:=Lib.hid hP;have HP':=Lib.hid hP';have HF:=Lib.hid hF;have HF':=Lib.hid hF';have HS:=Lib.hid hS;have HS':=Lib.hid hS';have HBy:=Lib.hid hBy;have HN0:=Lib.hid hN0
  have fR:(R == R)=true:=by simp
  have fF:(F == F)=true:=by simp
  have fE:(E == E)=true:=by simp
  clear hR hR' hP hP' hF hF' hS hS' hBy hN0 H0 H1 hg0 hg1 w0 w1 w2 l0 k0 q0
  go_enter Tryz.func3,Tryz.ntmps3
  go_wp2_with (first
   |(go_at_call 5;(with_reducible refine (HAl.out _).mono ?_);rintro e w2 ⟨rfl,hB2⟩)
   |(go_at_call 6;(with_reducible refine (HG0.out _ hB2).mono ?_);rintro e w3 ⟨rfl,hB3⟩;have hb3:=hB2.trans (hB3.mono hB2.size))
   |(go_at_call 6;(with_reducible refine (HG1.out _ hb3).mono ?_);rintro e w4 ⟨rfl,hB4⟩;have hb4:=hb3.trans (hB4.mono hb3.size))
   |(go_at_call 7;(with_reducible refine (HR.out _ hb4).mono ?_);rintro e w5 ⟨rfl,hB5⟩;have hb5:=hb4.trans (hB5.mono hb4.size))
   |(go_at_call 8;(with_reducible refine (HR'.out _ hb5).mono ?_);rintro e w6 ⟨rfl,hB6⟩;have hb6:=hb5.trans (hB6.mono hb5.size))
   |(go_at_call 10;(with_reducible refine (HP.out _ hb6).mono ?_);rintro e w7 ⟨v7,rfl,ho7,hB7⟩;obtain ⟨a7,c7,rfl,hr7⟩:=got_row ho7 HN0.out;have hb7:=hb6.trans (hB7.mono hb6.size))
   |(go_at_call 11;(with_reducible refine (HP'.out _ hb7).mono ?_);rintro e w8 ⟨v8,rfl,ho8,hB8⟩;obtain ⟨a8,c8,rfl,hr8⟩:=got_row ho8 HN0.out;have hb8:=hb7.trans (hB8.mono hb7.size);have hr78:=row_below hr7 hB8 rfl)
   |(go_at_call 9;(with_reducible refine (HBy.out _ _ _ _ _ hr78 hr8).mono ?_);rintro e w9 ⟨rfl,n9,rfl⟩;have hb9:=below_drewN hb8 n9)
   |(go_at_call 12;(with_reducible refine (HF.out _ hb9).mono ?_);rintro e w10 ⟨rfl,hB10⟩;have hb10:=hb9.trans (hB10.mono hb9.size))
   |(go_at_call 13;(with_reducible refine (HF'.out _ hb10).mono ?_);rintro e w11 ⟨rfl,hB11⟩;have hb11:=hb10.trans (hB11.mono hb10.size))
   |(go_at_call 14;(with_reducible refine (HS.out _ hb11).mono ?_);rintro e w12 ⟨rfl,hB12⟩;have hb12:=hb11.trans (hB12.mono hb11.size))
   |(go_at_call 15;(with_reducible refine (HS'.out _ hb12).mono ?_);rintro e w13 ⟨rfl,hB13⟩))
  go_ret
  exact ⟨ret_bool (by simp),hb12.trans (hB13.mono hb12.size)⟩
end Go.Proofs.YtnefldogciemgaaGreat.registryPutsWalk
