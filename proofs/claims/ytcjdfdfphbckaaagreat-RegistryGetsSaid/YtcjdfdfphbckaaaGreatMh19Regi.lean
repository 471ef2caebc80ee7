/- The program's schema: kinds' bits, has, Fits, right. (Made by gen_spa.py.) -/
import Derived.Test.YtcjdfdfphbckaaaGreatMh2Regi
import Derived.Test.YtcjdfdfphbckaaaGreatMh7Regi
import Derived.Deep.DeepCutAuto
import Derived.BigQuiet
set_option linter.unusedVariables false
set_option linter.unusedSimpArgs false
set_option maxRecDepth 100000
set_option maxHeartbeats 64000000
open Go.Proofs.Tryz
namespace Go.Proofs.YtcjdfdfphbckaaaGreat
open Go.RowKit Go.Shelf
theorem ZE8 (n:Int) (w:World):Calls Tryz.prog 145 #[.int .i64 n] w fun e w'=>e=.returned (.bool (decide (0<n) && decide (n<64)))∧w'=w:=by
 by_cases h1:1≤n
 ·have d1:decide (n≥1)=true:=by simp;omega
  have d1':decide (1≤n)=true:=by simp;omega
  by_cases h2:n≤63
  ·have d2:decide (n≤63)=true:=by simp;omega
   go_enter func145,ntmps145
   go_wp2
   go_ret
   exact ⟨ZAG (by rw [decide_eq_true (by omega:0<n),decide_eq_true (by omega:n<64)];rfl),rfl⟩
  ·have d2:decide (n≤63)=false:=by simp;omega
   go_enter func145,ntmps145
   go_wp2
   go_ret
   exact ⟨ZAG (by rw [decide_eq_false (by omega:¬n<64),Bool.and_false]),rfl⟩
 ·have d1:decide (n≥1)=false:=by simp;omega
  have d1':decide (1≤n)=false:=by simp;omega
  go_enter func145,ntmps145
  go_wp2
  go_ret
  exact ⟨ZAG (by rw [decide_eq_false (by omega:¬0<n)];rfl),rfl⟩
theorem ZG3 (v:Value) (a:Option Addr) (m c:Nat) (col:Int) (w:World):Calls Tryz.prog 158 #[.agg #[v,.slice a m c],.int .i64 col] w fun e w'=>e=.returned (.bool (decide (0≤col) && decide (col<m)))∧Below w.heap.size w w':=by
 have hb:=(Below.refl _ w).alloc (Nat.le_refl _) (.cells #[v,.slice a m c] 146)
 obtain ⟨G,hG⟩:∃ G,(decide (0≤col) && decide (col<(m:Int)))=G:=⟨_,rfl⟩
 rw [hG]
 have HG:=ZZY hG
 clear hG
 by_cases h1:0≤col
 ·have d1:decide (col≥0)=true:=by simp;omega
  have d1':decide (0≤col)=true:=by simp;omega
  by_cases h2:col<m
  ·have d2:decide (col<(m:Int))=true:=by simp;omega
   go_enter func158,ntmps158
   go_wp2
   go_ret
   exact ⟨ZAG (by rw [←HG.out,d1',d2];rfl),hb⟩
  ·have d2:decide (col<(m:Int))=false:=by simp;omega
   go_enter func158,ntmps158
   go_wp2
   go_ret
   exact ⟨ZAG (by rw [←HG.out,d2,Bool.and_false]),hb⟩
 ·have d1:decide (col≥0)=false:=by simp;omega
  have d1':decide (0≤col)=false:=by simp;omega
  go_enter func158,ntmps158
  go_wp2
  go_ret
  exact ⟨ZAG (by rw [←HG.out,d1'];rfl),hb⟩
theorem ZAq {P:Program} {o:Oper} {a:Act} {C:World→Prop} {K:Act→Prop} {v:Value} (h1:∀ w,C w→o.quietAt P a C w v) (h2:K (a.put o.dst v)):o.quiet P a C K:=⟨v,h1,h2⟩
theorem keepF {b1 b2:Nat} {c0 c1 c2 c3 c4:Value} {W0 W W':World} (h:(W.cell? ⟨b1,1,none⟩=some c0∧(W.cell? ⟨b2,0,none⟩=some c1∧W.cell? ⟨b2,1,none⟩=some c2)∧W.cell? ⟨b2,2,none⟩=some c3∧W.cell? ⟨b2,3,none⟩=some c4)∧Below W0.heap.size W0 W) (hb:Below W.heap.size W W'):(W'.cell? ⟨b1,1,none⟩=some c0∧(W'.cell? ⟨b2,0,none⟩=some c1∧W'.cell? ⟨b2,1,none⟩=some c2)∧W'.cell? ⟨b2,2,none⟩=some c3∧W'.cell? ⟨b2,3,none⟩=some c4)∧Below W0.heap.size W0 W':=by
 obtain ⟨⟨q0,⟨q1,q2⟩,q3,q4⟩,hB⟩:=h
 exact ⟨⟨ZAA hb q0,⟨ZAA hb q1,ZAA hb q2⟩,ZAA hb q3,ZAA hb q4⟩,hB.trans (hb.mono hB.size)⟩
theorem ZPc (nm t0:ByteArray) (ty:Nat) (rq:Bool) (k0 n0:Int) (a0:Option Addr) (len0 cap0:Nat) (k:Int) (n:Int) (t:ByteArray) (a:Option Addr) (len cap:Nat) (w:World)
  (H:∀ W,Below w.heap.size w W→Calls Tryz.prog 107 #[.agg #[.int .i64 k,.int .i64 n,.string t,.slice a len cap]] W fun e w'=>e=.returned (.bool false)∧Below W.heap.size W w') :
  Calls Tryz.prog 146 #[.agg #[.string nm,.int .i64 (ty:Int),.bool rq,.int .i64 k0,.int .i64 n0,.string t0,.slice a0 len0 cap0],.agg #[.int .i64 k,.int .i64 n,.string t,.slice a len cap]] w fun e w'=>e=.returned (.bool false)∧Below w.heap.size w w':=by
 have hb1:=(Below.refl _ w).alloc (Nat.le_refl _) (.cells #[.string nm,.int .i64 (ty:Int),.bool rq,.int .i64 k0,.int .i64 n0,.string t0,.slice a0 len0 cap0] 51)
 have hb2:=hb1.alloc hb1.size (.cells #[.int .i64 k,.int .i64 n,.string t,.slice a len cap] 49)
 go_enter func146,ntmps146
 go_wp2
 obtain ⟨W0,hW0⟩:∃ W0,(w.alloc (.cells #[.string nm,.int .i64 (ty:Int),.bool rq,.int .i64 k0,.int .i64 n0,.string t0,.slice a0 len0 cap0] 51)).alloc (.cells #[.int .i64 k,.int .i64 n,.string t,.slice a len cap] 49)=W0:=⟨_,rfl⟩
 obtain ⟨b1,hb1'⟩:∃ b,w.heap.size=b:=⟨_,rfl⟩
 obtain ⟨b2,hb2'⟩:∃ b,b1+1=b:=⟨_,rfl⟩
 have hbase:(W0.cell? ⟨b1,1,none⟩=some (.int .i64 (ty:Int))∧(W0.cell? ⟨b2,0,none⟩=some (.int .i64 k)∧W0.cell? ⟨b2,1,none⟩=some (.int .i64 n))∧W0.cell? ⟨b2,2,none⟩=some (.string t)∧W0.cell? ⟨b2,3,none⟩=some (.slice a len cap))∧Below W0.heap.size W0 W0:=by
  rw [←hW0,←hb2',←hb1']
  refine ⟨⟨?_,⟨?_, ?_⟩, ?_, ?_⟩,Below.refl _ _⟩<;>simp
 have hB0:Below w.heap.size w W0:=hW0 ▸ hb2
 rw [hW0,hb1',hb2']
 clear hW0 hb1 hb2 hb1' hb2'
 have HH:=ZZY H
 clear H
 refine wp_region_quiet (C:=fun W=>(W.cell? ⟨b1,1,none⟩=some (.int .i64 (ty:Int))∧(W.cell? ⟨b2,0,none⟩=some (.int .i64 k)∧W.cell? ⟨b2,1,none⟩=some (.int .i64 n))∧W.cell? ⟨b2,2,none⟩=some (.string t)∧W.cell? ⟨b2,3,none⟩=some (.slice a len cap))∧Below W0.heap.size W0 W) (by kernel_rfl) (by kernel_rfl) (keepF hbase (ZAI _)) ?_
 iterate 12 (first
  |(refine BigFrame.wpQuiet_skip (by rfl) ?_;simp only [Act.put,ZZX,ZZW,ZZV])
  |(refine BigFrame.wpQuiet_want (by rfl) (fun K hK=>?_)
    apply ZAq
    ·intro W hC
     unfold Oper.quietAt
     have HC:=ZZY hC
     obtain ⟨⟨x0,⟨x1,x2⟩,x3,x4⟩,_⟩:=hC
     go_simp
     first
      |done
      |with_reducible rfl
      |((with_reducible refine (HH.out _ (hB0.trans (Below.mono HC.out.2 hB0.size))).mono ?_);exact fun e w' ⟨he,hb⟩=>⟨he,keepF HC.out hb⟩)
    refine hK _ ?_;clear hK K;simp only [Act.put,ZZX,ZZW,ZZV]))
 refine wpQuiet_nil ?_
 intro W9 hC9
 go_wp2_with fail
 go_ret
 exact ⟨by first | rfl | exact ZAG (hA ▸ hq),hB0.trans (hC9.2.mono hB0.size)⟩
theorem ZQH (nm t0:ByteArray) (ty:Nat) (rq:Bool) (k0 n0:Int) (a0:Option Addr) (len0 cap0:Nat) (Z:Int) (q:Bool) (hA:bits .and .i64 (ty:Int) (IntKind.i64.wrap 1)=Z) (hq:(Z != 0)=q) (n:Int) (t:ByteArray) (a:Option Addr) (len cap:Nat) (w:World)
  (H:∀ W,Below w.heap.size w W→Calls Tryz.prog 107 #[.agg #[.int .i64 0,.int .i64 n,.string t,.slice a len cap]] W fun e w'=>e=.returned (.bool true)∧Below W.heap.size W w') :
  Calls Tryz.prog 146 #[.agg #[.string nm,.int .i64 (ty:Int),.bool rq,.int .i64 k0,.int .i64 n0,.string t0,.slice a0 len0 cap0],.agg #[.int .i64 0,.int .i64 n,.string t,.slice a len cap]] w fun e w'=>e=.returned (.bool q)∧Below w.heap.size w w':=by
 have hb1:=(Below.refl _ w).alloc (Nat.le_refl _) (.cells #[.string nm,.int .i64 (ty:Int),.bool rq,.int .i64 k0,.int .i64 n0,.string t0,.slice a0 len0 cap0] 51)
 have hb2:=hb1.alloc hb1.size (.cells #[.int .i64 0,.int .i64 n,.string t,.slice a len cap] 49)
 go_enter func146,ntmps146
 go_wp2
 obtain ⟨W0,hW0⟩:∃ W0,(w.alloc (.cells #[.string nm,.int .i64 (ty:Int),.bool rq,.int .i64 k0,.int .i64 n0,.string t0,.slice a0 len0 cap0] 51)).alloc (.cells #[.int .i64 0,.int .i64 n,.string t,.slice a len cap] 49)=W0:=⟨_,rfl⟩
 obtain ⟨b1,hb1'⟩:∃ b,w.heap.size=b:=⟨_,rfl⟩
 obtain ⟨b2,hb2'⟩:∃ b,b1+1=b:=⟨_,rfl⟩
 have hbase:(W0.cell? ⟨b1,1,none⟩=some (.int .i64 (ty:Int))∧(W0.cell? ⟨b2,0,none⟩=some (.int .i64 0)∧W0.cell? ⟨b2,1,none⟩=some (.int .i64 n))∧W0.cell? ⟨b2,2,none⟩=some (.string t)∧W0.cell? ⟨b2,3,none⟩=some (.slice a len cap))∧Below W0.heap.size W0 W0:=by
  rw [←hW0,←hb2',←hb1']
  refine ⟨⟨?_,⟨?_, ?_⟩, ?_, ?_⟩,Below.refl _ _⟩<;>simp
 have hB0:Below w.heap.size w W0:=hW0 ▸ hb2
 rw [hW0,hb1',hb2']
 clear hW0 hb1 hb2 hb1' hb2'
 have HH:=ZZY H
 clear H
 refine wp_region_quiet (C:=fun W=>(W.cell? ⟨b1,1,none⟩=some (.int .i64 (ty:Int))∧(W.cell? ⟨b2,0,none⟩=some (.int .i64 0)∧W.cell? ⟨b2,1,none⟩=some (.int .i64 n))∧W.cell? ⟨b2,2,none⟩=some (.string t)∧W.cell? ⟨b2,3,none⟩=some (.slice a len cap))∧Below W0.heap.size W0 W) (by kernel_rfl) (by kernel_rfl) (keepF hbase (ZAI _)) ?_
 iterate 12 (first
  |(refine BigFrame.wpQuiet_skip (by rfl) ?_;simp only [Act.put,ZZX,ZZW,ZZV])
  |(refine BigFrame.wpQuiet_want (by rfl) (fun K hK=>?_)
    apply ZAq
    ·intro W hC
     unfold Oper.quietAt
     have HC:=ZZY hC
     obtain ⟨⟨x0,⟨x1,x2⟩,x3,x4⟩,_⟩:=hC
     go_simp
     first
      |done
      |with_reducible rfl
      |((with_reducible refine (HH.out _ (hB0.trans (Below.mono HC.out.2 hB0.size))).mono ?_);exact fun e w' ⟨he,hb⟩=>⟨he,keepF HC.out hb⟩)
    refine hK _ ?_;clear hK K;simp only [Act.put,ZZX,ZZW,ZZV]))
 refine wpQuiet_nil ?_
 intro W9 hC9
 go_wp2_with fail
 go_ret
 exact ⟨by first | rfl | exact ZAG (hA ▸ hq),hB0.trans (hC9.2.mono hB0.size)⟩
theorem ZQI (nm t0:ByteArray) (ty:Nat) (rq:Bool) (k0 n0:Int) (a0:Option Addr) (len0 cap0:Nat) (Z:Int) (q:Bool) (hA:bits .and .i64 (ty:Int) (IntKind.i64.wrap 2)=Z) (hq:(Z != 0)=q) (n:Int) (t:ByteArray) (a:Option Addr) (len cap:Nat) (w:World)
  (H:∀ W,Below w.heap.size w W→Calls Tryz.prog 107 #[.agg #[.int .i64 1,.int .i64 n,.string t,.slice a len cap]] W fun e w'=>e=.returned (.bool true)∧Below W.heap.size W w') :
  Calls Tryz.prog 146 #[.agg #[.string nm,.int .i64 (ty:Int),.bool rq,.int .i64 k0,.int .i64 n0,.string t0,.slice a0 len0 cap0],.agg #[.int .i64 1,.int .i64 n,.string t,.slice a len cap]] w fun e w'=>e=.returned (.bool q)∧Below w.heap.size w w':=by
 have hb1:=(Below.refl _ w).alloc (Nat.le_refl _) (.cells #[.string nm,.int .i64 (ty:Int),.bool rq,.int .i64 k0,.int .i64 n0,.string t0,.slice a0 len0 cap0] 51)
 have hb2:=hb1.alloc hb1.size (.cells #[.int .i64 1,.int .i64 n,.string t,.slice a len cap] 49)
 go_enter func146,ntmps146
 go_wp2
 obtain ⟨W0,hW0⟩:∃ W0,(w.alloc (.cells #[.string nm,.int .i64 (ty:Int),.bool rq,.int .i64 k0,.int .i64 n0,.string t0,.slice a0 len0 cap0] 51)).alloc (.cells #[.int .i64 1,.int .i64 n,.string t,.slice a len cap] 49)=W0:=⟨_,rfl⟩
 obtain ⟨b1,hb1'⟩:∃ b,w.heap.size=b:=⟨_,rfl⟩
 obtain ⟨b2,hb2'⟩:∃ b,b1+1=b:=⟨_,rfl⟩
 have hbase:(W0.cell? ⟨b1,1,none⟩=some (.int .i64 (ty:Int))∧(W0.cell? ⟨b2,0,none⟩=some (.int .i64 1)∧W0.cell? ⟨b2,1,none⟩=some (.int .i64 n))∧W0.cell? ⟨b2,2,none⟩=some (.string t)∧W0.cell? ⟨b2,3,none⟩=some (.slice a len cap))∧Below W0.heap.size W0 W0:=by
  rw [←hW0,←hb2',←hb1']
  refine ⟨⟨?_,⟨?_, ?_⟩, ?_, ?_⟩,Below.refl _ _⟩<;>simp
 have hB0:Below w.heap.size w W0:=hW0 ▸ hb2
 rw [hW0,hb1',hb2']
 clear hW0 hb1 hb2 hb1' hb2'
 have HH:=ZZY H
 clear H
 refine wp_region_quiet (C:=fun W=>(W.cell? ⟨b1,1,none⟩=some (.int .i64 (ty:Int))∧(W.cell? ⟨b2,0,none⟩=some (.int .i64 1)∧W.cell? ⟨b2,1,none⟩=some (.int .i64 n))∧W.cell? ⟨b2,2,none⟩=some (.string t)∧W.cell? ⟨b2,3,none⟩=some (.slice a len cap))∧Below W0.heap.size W0 W) (by kernel_rfl) (by kernel_rfl) (keepF hbase (ZAI _)) ?_
 iterate 12 (first
  |(refine BigFrame.wpQuiet_skip (by rfl) ?_;simp only [Act.put,ZZX,ZZW,ZZV])
  |(refine BigFrame.wpQuiet_want (by rfl) (fun K hK=>?_)
    apply ZAq
    ·intro W hC
     unfold Oper.quietAt
     have HC:=ZZY hC
     obtain ⟨⟨x0,⟨x1,x2⟩,x3,x4⟩,_⟩:=hC
     go_simp
     first
      |done
      |with_reducible rfl
      |((with_reducible refine (HH.out _ (hB0.trans (Below.mono HC.out.2 hB0.size))).mono ?_);exact fun e w' ⟨he,hb⟩=>⟨he,keepF HC.out hb⟩)
    refine hK _ ?_;clear hK K;simp only [Act.put,ZZX,ZZW,ZZV]))
 refine wpQuiet_nil ?_
 intro W9 hC9
 go_wp2_with fail
 go_ret
 exact ⟨by first | rfl | exact ZAG (hA ▸ hq),hB0.trans (hC9.2.mono hB0.size)⟩
theorem ZQJ (nm t0:ByteArray) (ty:Nat) (rq:Bool) (k0 n0:Int) (a0:Option Addr) (len0 cap0:Nat) (Z:Int) (q:Bool) (hA:bits .and .i64 (ty:Int) (IntKind.i64.wrap 4)=Z) (hq:(Z != 0)=q) (n:Int) (t:ByteArray) (a:Option Addr) (len cap:Nat) (w:World)
  (H:∀ W,Below w.heap.size w W→Calls Tryz.prog 107 #[.agg #[.int .i64 2,.int .i64 n,.string t,.slice a len cap]] W fun e w'=>e=.returned (.bool true)∧Below W.heap.size W w') :
  Calls Tryz.prog 146 #[.agg #[.string nm,.int .i64 (ty:Int),.bool rq,.int .i64 k0,.int .i64 n0,.string t0,.slice a0 len0 cap0],.agg #[.int .i64 2,.int .i64 n,.string t,.slice a len cap]] w fun e w'=>e=.returned (.bool q)∧Below w.heap.size w w':=by
 have hb1:=(Below.refl _ w).alloc (Nat.le_refl _) (.cells #[.string nm,.int .i64 (ty:Int),.bool rq,.int .i64 k0,.int .i64 n0,.string t0,.slice a0 len0 cap0] 51)
 have hb2:=hb1.alloc hb1.size (.cells #[.int .i64 2,.int .i64 n,.string t,.slice a len cap] 49)
 go_enter func146,ntmps146
 go_wp2
 obtain ⟨W0,hW0⟩:∃ W0,(w.alloc (.cells #[.string nm,.int .i64 (ty:Int),.bool rq,.int .i64 k0,.int .i64 n0,.string t0,.slice a0 len0 cap0] 51)).alloc (.cells #[.int .i64 2,.int .i64 n,.string t,.slice a len cap] 49)=W0:=⟨_,rfl⟩
 obtain ⟨b1,hb1'⟩:∃ b,w.heap.size=b:=⟨_,rfl⟩
 obtain ⟨b2,hb2'⟩:∃ b,b1+1=b:=⟨_,rfl⟩
 have hbase:(W0.cell? ⟨b1,1,none⟩=some (.int .i64 (ty:Int))∧(W0.cell? ⟨b2,0,none⟩=some (.int .i64 2)∧W0.cell? ⟨b2,1,none⟩=some (.int .i64 n))∧W0.cell? ⟨b2,2,none⟩=some (.string t)∧W0.cell? ⟨b2,3,none⟩=some (.slice a len cap))∧Below W0.heap.size W0 W0:=by
  rw [←hW0,←hb2',←hb1']
  refine ⟨⟨?_,⟨?_, ?_⟩, ?_, ?_⟩,Below.refl _ _⟩<;>simp
 have hB0:Below w.heap.size w W0:=hW0 ▸ hb2
 rw [hW0,hb1',hb2']
 clear hW0 hb1 hb2 hb1' hb2'
 have HH:=ZZY H
 clear H
 refine wp_region_quiet (C:=fun W=>(W.cell? ⟨b1,1,none⟩=some (.int .i64 (ty:Int))∧(W.cell? ⟨b2,0,none⟩=some (.int .i64 2)∧W.cell? ⟨b2,1,none⟩=some (.int .i64 n))∧W.cell? ⟨b2,2,none⟩=some (.string t)∧W.cell? ⟨b2,3,none⟩=some (.slice a len cap))∧Below W0.heap.size W0 W) (by kernel_rfl) (by kernel_rfl) (keepF hbase (ZAI _)) ?_
 iterate 12 (first
  |(refine BigFrame.wpQuiet_skip (by rfl) ?_;simp only [Act.put,ZZX,ZZW,ZZV])
  |(refine BigFrame.wpQuiet_want (by rfl) (fun K hK=>?_)
    apply ZAq
    ·intro W hC
     unfold Oper.quietAt
     have HC:=ZZY hC
     obtain ⟨⟨x0,⟨x1,x2⟩,x3,x4⟩,_⟩:=hC
     go_simp
     first
      |done
      |with_reducible rfl
      |((with_reducible refine (HH.out _ (hB0.trans (Below.mono HC.out.2 hB0.size))).mono ?_);exact fun e w' ⟨he,hb⟩=>⟨he,keepF HC.out hb⟩)
    refine hK _ ?_;clear hK K;simp only [Act.put,ZZX,ZZW,ZZV]))
 refine wpQuiet_nil ?_
 intro W9 hC9
 go_wp2_with fail
 go_ret
 exact ⟨by first | rfl | exact ZAG (hA ▸ hq),hB0.trans (hC9.2.mono hB0.size)⟩
theorem ZQK (nm t0:ByteArray) (ty:Nat) (rq:Bool) (k0 n0:Int) (a0:Option Addr) (len0 cap0:Nat) (Z:Int) (q:Bool) (hA:bits .and .i64 (ty:Int) (IntKind.i64.wrap 8)=Z) (hq:(Z != 0)=q) (n:Int) (t:ByteArray) (a:Option Addr) (len cap:Nat) (w:World)
  (H:∀ W,Below w.heap.size w W→Calls Tryz.prog 107 #[.agg #[.int .i64 3,.int .i64 n,.string t,.slice a len cap]] W fun e w'=>e=.returned (.bool true)∧Below W.heap.size W w') :
  Calls Tryz.prog 146 #[.agg #[.string nm,.int .i64 (ty:Int),.bool rq,.int .i64 k0,.int .i64 n0,.string t0,.slice a0 len0 cap0],.agg #[.int .i64 3,.int .i64 n,.string t,.slice a len cap]] w fun e w'=>e=.returned (.bool q)∧Below w.heap.size w w':=by
 have hb1:=(Below.refl _ w).alloc (Nat.le_refl _) (.cells #[.string nm,.int .i64 (ty:Int),.bool rq,.int .i64 k0,.int .i64 n0,.string t0,.slice a0 len0 cap0] 51)
 have hb2:=hb1.alloc hb1.size (.cells #[.int .i64 3,.int .i64 n,.string t,.slice a len cap] 49)
 go_enter func146,ntmps146
 go_wp2
 obtain ⟨W0,hW0⟩:∃ W0,(w.alloc (.cells #[.string nm,.int .i64 (ty:Int),.bool rq,.int .i64 k0,.int .i64 n0,.string t0,.slice a0 len0 cap0] 51)).alloc (.cells #[.int .i64 3,.int .i64 n,.string t,.slice a len cap] 49)=W0:=⟨_,rfl⟩
 obtain ⟨b1,hb1'⟩:∃ b,w.heap.size=b:=⟨_,rfl⟩
 obtain ⟨b2,hb2'⟩:∃ b,b1+1=b:=⟨_,rfl⟩
 have hbase:(W0.cell? ⟨b1,1,none⟩=some (.int .i64 (ty:Int))∧(W0.cell? ⟨b2,0,none⟩=some (.int .i64 3)∧W0.cell? ⟨b2,1,none⟩=some (.int .i64 n))∧W0.cell? ⟨b2,2,none⟩=some (.string t)∧W0.cell? ⟨b2,3,none⟩=some (.slice a len cap))∧Below W0.heap.size W0 W0:=by
  rw [←hW0,←hb2',←hb1']
  refine ⟨⟨?_,⟨?_, ?_⟩, ?_, ?_⟩,Below.refl _ _⟩<;>simp
 have hB0:Below w.heap.size w W0:=hW0 ▸ hb2
 rw [hW0,hb1',hb2']
 clear hW0 hb1 hb2 hb1' hb2'
 have HH:=ZZY H
 clear H
 refine wp_region_quiet (C:=fun W=>(W.cell? ⟨b1,1,none⟩=some (.int .i64 (ty:Int))∧(W.cell? ⟨b2,0,none⟩=some (.int .i64 3)∧W.cell? ⟨b2,1,none⟩=some (.int .i64 n))∧W.cell? ⟨b2,2,none⟩=some (.string t)∧W.cell? ⟨b2,3,none⟩=some (.slice a len cap))∧Below W0.heap.size W0 W) (by kernel_rfl) (by kernel_rfl) (keepF hbase (ZAI _)) ?_
 iterate 12 (first
  |(refine BigFrame.wpQuiet_skip (by rfl) ?_;simp only [Act.put,ZZX,ZZW,ZZV])
  |(refine BigFrame.wpQuiet_want (by rfl) (fun K hK=>?_)
    apply ZAq
    ·intro W hC
     unfold Oper.quietAt
     have HC:=ZZY hC
     obtain ⟨⟨x0,⟨x1,x2⟩,x3,x4⟩,_⟩:=hC
     go_simp
     first
      |done
      |with_reducible rfl
      |((with_reducible refine (HH.out _ (hB0.trans (Below.mono HC.out.2 hB0.size))).mono ?_);exact fun e w' ⟨he,hb⟩=>⟨he,keepF HC.out hb⟩)
    refine hK _ ?_;clear hK K;simp only [Act.put,ZZX,ZZW,ZZV]))
 refine wpQuiet_nil ?_
 intro W9 hC9
 go_wp2_with fail
 go_ret
 exact ⟨by first | rfl | exact ZAG (hA ▸ hq),hB0.trans (hC9.2.mono hB0.size)⟩
theorem ZQL (nm t0:ByteArray) (ty:Nat) (rq:Bool) (k0 n0:Int) (a0:Option Addr) (len0 cap0:Nat) (Z:Int) (q:Bool) (hA:bits .and .i64 (ty:Int) (IntKind.i64.wrap 16)=Z) (hq:(Z != 0)=q) (n:Int) (t:ByteArray) (a:Option Addr) (len cap:Nat) (w:World)
  (H:∀ W,Below w.heap.size w W→Calls Tryz.prog 107 #[.agg #[.int .i64 4,.int .i64 n,.string t,.slice a len cap]] W fun e w'=>e=.returned (.bool true)∧Below W.heap.size W w') :
  Calls Tryz.prog 146 #[.agg #[.string nm,.int .i64 (ty:Int),.bool rq,.int .i64 k0,.int .i64 n0,.string t0,.slice a0 len0 cap0],.agg #[.int .i64 4,.int .i64 n,.string t,.slice a len cap]] w fun e w'=>e=.returned (.bool q)∧Below w.heap.size w w':=by
 have hb1:=(Below.refl _ w).alloc (Nat.le_refl _) (.cells #[.string nm,.int .i64 (ty:Int),.bool rq,.int .i64 k0,.int .i64 n0,.string t0,.slice a0 len0 cap0] 51)
 have hb2:=hb1.alloc hb1.size (.cells #[.int .i64 4,.int .i64 n,.string t,.slice a len cap] 49)
 go_enter func146,ntmps146
 go_wp2
 obtain ⟨W0,hW0⟩:∃ W0,(w.alloc (.cells #[.string nm,.int .i64 (ty:Int),.bool rq,.int .i64 k0,.int .i64 n0,.string t0,.slice a0 len0 cap0] 51)).alloc (.cells #[.int .i64 4,.int .i64 n,.string t,.slice a len cap] 49)=W0:=⟨_,rfl⟩
 obtain ⟨b1,hb1'⟩:∃ b,w.heap.size=b:=⟨_,rfl⟩
 obtain ⟨b2,hb2'⟩:∃ b,b1+1=b:=⟨_,rfl⟩
 have hbase:(W0.cell? ⟨b1,1,none⟩=some (.int .i64 (ty:Int))∧(W0.cell? ⟨b2,0,none⟩=some (.int .i64 4)∧W0.cell? ⟨b2,1,none⟩=some (.int .i64 n))∧W0.cell? ⟨b2,2,none⟩=some (.string t)∧W0.cell? ⟨b2,3,none⟩=some (.slice a len cap))∧Below W0.heap.size W0 W0:=by
  rw [←hW0,←hb2',←hb1']
  refine ⟨⟨?_,⟨?_, ?_⟩, ?_, ?_⟩,Below.refl _ _⟩<;>simp
 have hB0:Below w.heap.size w W0:=hW0 ▸ hb2
 rw [hW0,hb1',hb2']
 clear hW0 hb1 hb2 hb1' hb2'
 have HH:=ZZY H
 clear H
 refine wp_region_quiet (C:=fun W=>(W.cell? ⟨b1,1,none⟩=some (.int .i64 (ty:Int))∧(W.cell? ⟨b2,0,none⟩=some (.int .i64 4)∧W.cell? ⟨b2,1,none⟩=some (.int .i64 n))∧W.cell? ⟨b2,2,none⟩=some (.string t)∧W.cell? ⟨b2,3,none⟩=some (.slice a len cap))∧Below W0.heap.size W0 W) (by kernel_rfl) (by kernel_rfl) (keepF hbase (ZAI _)) ?_
 iterate 12 (first
  |(refine BigFrame.wpQuiet_skip (by rfl) ?_;simp only [Act.put,ZZX,ZZW,ZZV])
  |(refine BigFrame.wpQuiet_want (by rfl) (fun K hK=>?_)
    apply ZAq
    ·intro W hC
     unfold Oper.quietAt
     have HC:=ZZY hC
     obtain ⟨⟨x0,⟨x1,x2⟩,x3,x4⟩,_⟩:=hC
     go_simp
     first
      |done
      |with_reducible rfl
      |((with_reducible refine (HH.out _ (hB0.trans (Below.mono HC.out.2 hB0.size))).mono ?_);exact fun e w' ⟨he,hb⟩=>⟨he,keepF HC.out hb⟩)
    refine hK _ ?_;clear hK K;simp only [Act.put,ZZX,ZZW,ZZV]))
 refine wpQuiet_nil ?_
 intro W9 hC9
 go_wp2_with fail
 go_ret
 exact ⟨by first | rfl | exact ZAG (hA ▸ hq),hB0.trans (hC9.2.mono hB0.size)⟩
theorem ZQM (nm t0:ByteArray) (ty:Nat) (rq:Bool) (k0 n0:Int) (a0:Option Addr) (len0 cap0:Nat) (Z:Int) (q:Bool) (hA:bits .and .i64 (ty:Int) (IntKind.i64.wrap 32)=Z) (hq:(Z != 0)=q) (n:Int) (t:ByteArray) (a:Option Addr) (len cap:Nat) (w:World)
  (H:∀ W,Below w.heap.size w W→Calls Tryz.prog 107 #[.agg #[.int .i64 5,.int .i64 n,.string t,.slice a len cap]] W fun e w'=>e=.returned (.bool true)∧Below W.heap.size W w') :
  Calls Tryz.prog 146 #[.agg #[.string nm,.int .i64 (ty:Int),.bool rq,.int .i64 k0,.int .i64 n0,.string t0,.slice a0 len0 cap0],.agg #[.int .i64 5,.int .i64 n,.string t,.slice a len cap]] w fun e w'=>e=.returned (.bool q)∧Below w.heap.size w w':=by
 have hb1:=(Below.refl _ w).alloc (Nat.le_refl _) (.cells #[.string nm,.int .i64 (ty:Int),.bool rq,.int .i64 k0,.int .i64 n0,.string t0,.slice a0 len0 cap0] 51)
 have hb2:=hb1.alloc hb1.size (.cells #[.int .i64 5,.int .i64 n,.string t,.slice a len cap] 49)
 go_enter func146,ntmps146
 go_wp2
 obtain ⟨W0,hW0⟩:∃ W0,(w.alloc (.cells #[.string nm,.int .i64 (ty:Int),.bool rq,.int .i64 k0,.int .i64 n0,.string t0,.slice a0 len0 cap0] 51)).alloc (.cells #[.int .i64 5,.int .i64 n,.string t,.slice a len cap] 49)=W0:=⟨_,rfl⟩
 obtain ⟨b1,hb1'⟩:∃ b,w.heap.size=b:=⟨_,rfl⟩
 obtain ⟨b2,hb2'⟩:∃ b,b1+1=b:=⟨_,rfl⟩
 have hbase:(W0.cell? ⟨b1,1,none⟩=some (.int .i64 (ty:Int))∧(W0.cell? ⟨b2,0,none⟩=some (.int .i64 5)∧W0.cell? ⟨b2,1,none⟩=some (.int .i64 n))∧W0.cell? ⟨b2,2,none⟩=some (.string t)∧W0.cell? ⟨b2,3,none⟩=some (.slice a len cap))∧Below W0.heap.size W0 W0:=by
  rw [←hW0,←hb2',←hb1']
  refine ⟨⟨?_,⟨?_, ?_⟩, ?_, ?_⟩,Below.refl _ _⟩<;>simp
 have hB0:Below w.heap.size w W0:=hW0 ▸ hb2
 rw [hW0,hb1',hb2']
 clear hW0 hb1 hb2 hb1' hb2'
 have HH:=ZZY H
 clear H
 refine wp_region_quiet (C:=fun W=>(W.cell? ⟨b1,1,none⟩=some (.int .i64 (ty:Int))∧(W.cell? ⟨b2,0,none⟩=some (.int .i64 5)∧W.cell? ⟨b2,1,none⟩=some (.int .i64 n))∧W.cell? ⟨b2,2,none⟩=some (.string t)∧W.cell? ⟨b2,3,none⟩=some (.slice a len cap))∧Below W0.heap.size W0 W) (by kernel_rfl) (by kernel_rfl) (keepF hbase (ZAI _)) ?_
 iterate 12 (first
  |(refine BigFrame.wpQuiet_skip (by rfl) ?_;simp only [Act.put,ZZX,ZZW,ZZV])
  |(refine BigFrame.wpQuiet_want (by rfl) (fun K hK=>?_)
    apply ZAq
    ·intro W hC
     unfold Oper.quietAt
     have HC:=ZZY hC
     obtain ⟨⟨x0,⟨x1,x2⟩,x3,x4⟩,_⟩:=hC
     go_simp
     first
      |done
      |with_reducible rfl
      |((with_reducible refine (HH.out _ (hB0.trans (Below.mono HC.out.2 hB0.size))).mono ?_);exact fun e w' ⟨he,hb⟩=>⟨he,keepF HC.out hb⟩)
    refine hK _ ?_;clear hK K;simp only [Act.put,ZZX,ZZW,ZZV]))
 refine wpQuiet_nil ?_
 intro W9 hC9
 go_wp2_with fail
 go_ret
 exact ⟨by first | rfl | exact ZAG (hA ▸ hq),hB0.trans (hC9.2.mono hB0.size)⟩
theorem ZOK (s:SlotM) (v:PV) (hsz:szV v≤1000000) (h0:0≤s.ty) (w:World) (x y:Value) (hs:ZBe w s x) (hv:Is w v y):Calls Tryz.prog 146 #[x,y] w fun e w'=>e=.returned (.bool (Sc.fits s.ty v))∧Below w.heap.size w w':=by
 obtain ⟨k0,n0,t0,a0,len0,cap0,rfl,hI,hnm,hd⟩:=ZCF hs
 have hR:=fun W (hb:Below w.heap.size w W)=>ZH3 v hsz W y (ZAf hb _ _ hv)
 obtain ⟨ty,hty⟩:∃ ty:Nat,s.ty=(ty:Int):=⟨s.ty.toNat,by omega⟩
 cases v with
 |mk k n t l=>
 unfold Is at hv
 obtain ⟨hk,hn,ht,a,cap,rfl,_⟩:=hv
 have hfit:Sc.fits s.ty (.mk k n t l)=(rightV (.mk k n t l) && Sc.has ty k.toNat):=by unfold Sc.fits Sc.kindV;rw [hty];rfl
 rw [hfit,hty]
 have hI1:(ty:Int)≤9223372036854775807:=by unfold I64 at hI;omega
 obtain ⟨r,hr⟩:∃ r,rightV (.mk k n t l)=r:=⟨_,rfl⟩
 have hkk:=ZGr (k:=k) (n:=n) (s:=t) (l:=l)
 rw [hr] at hR hkk ⊢
 cases r with
 |false=>exact ZPc _ _ _ _ _ _ _ _ _ k _ _ _ _ _ w hR
 |true=>
  obtain ⟨hk0,hk5⟩:=hkk rfl
  obtain ⟨kn,hkn⟩:∃ kn:Nat,k=(kn:Int):=⟨k.toNat,by omega⟩
  subst hkn
  rw [Int.toNat_natCast,Bool.true_and]
  have hZ:=Sc.andI ty (2 ^ kn) (by omega) (by have:=Nat.pow_le_pow_right (n:=2) (by omega) (show kn≤5 by omega);omega)
  have hq:((((ty &&& 2 ^ kn:Nat):Int)) != 0)=Sc.has ty kn:=by
   have:=Sc.and_has ty kn
   by_cases h:ty &&& 2 ^ kn=0
   ·rw [decide_eq_true h] at this
    rw [h]
    have h2:Sc.has ty kn=false:=by cases hx:Sc.has ty kn<;>rw [hx] at this<;>simp at this ⊢
    rw [h2];rfl
   ·rw [decide_eq_false h] at this
    have h2:Sc.has ty kn=true:=by cases hx:Sc.has ty kn<;>rw [hx] at this<;>simp at this ⊢
    rw [h2]
    simp
    omega
  have hkn5:kn=0∨kn=1∨kn=2∨kn=3∨kn=4∨kn=5:=by omega
  rcases hkn5 with rfl | rfl | rfl | rfl | rfl | rfl
  ·exact ZQH _ _ _ _ _ _ _ _ _ _ _ hZ hq _ _ _ _ _ w hR
  ·exact ZQI _ _ _ _ _ _ _ _ _ _ _ hZ hq _ _ _ _ _ w hR
  ·exact ZQJ _ _ _ _ _ _ _ _ _ _ _ hZ hq _ _ _ _ _ w hR
  ·exact ZQK _ _ _ _ _ _ _ _ _ _ _ hZ hq _ _ _ _ _ w hR
  ·exact ZQL _ _ _ _ _ _ _ _ _ _ _ hZ hq _ _ _ _ _ w hR
  ·exact ZQM _ _ _ _ _ _ _ _ _ _ _ hZ hq _ _ _ _ _ w hR
theorem ZGO (s:SlotM) (hsz:szV s.df≤1000000) (w:World) (x:Value) (hs:ZBe w s x):Calls Tryz.prog 139 #[x] w fun e w'=>e=.returned (.bool (Sc.sound s))∧Below w.heap.size w w':=by
 obtain ⟨k0,n0,t0,a0,len0,cap0,rfl,hI,hnm,hd⟩:=ZCF hs
 have hb1:=(Below.refl _ w).alloc (Nat.le_refl _) (.cells #[.string s.nm,.int .i64 s.ty,.bool s.rq,.int .i64 k0,.int .i64 n0,.string t0,.slice a0 len0 cap0] 51)
 have hN:=fun W=>ZDt s.nm W hnm
 have hT:=fun W=>ZE8 s.ty W
 have hF:=fun W (hb:Below w.heap.size w W) (h0:0≤s.ty)=>ZOK s s.df hsz h0 W _ _ (ZAn hb hs) (ZAf hb _ _ hd)
 have hso:Sc.sound s=(nameB (strB s.nm) && (decide (0<s.ty) && decide (s.ty<64)) && Sc.fits s.ty s.df):=by unfold Sc.sound;rw [Bool.and_assoc (nameB _)]
 rw [hso]
 obtain ⟨bn,hbn⟩:∃ bn,nameB (strB s.nm)=bn:=⟨_,rfl⟩
 obtain ⟨bt,hbt⟩:∃ bt,(decide (0<s.ty) && decide (s.ty<64))=bt:=⟨_,rfl⟩
 obtain ⟨bf,hbf⟩:∃ bf,Sc.fits s.ty s.df=bf:=⟨_,rfl⟩
 have h0:bt=true→0≤s.ty:=fun e=>by rw [←hbt] at e;simp at e;omega
 rw [hbn] at hN
 rw [hbt] at hT
 rw [hbf] at hF
 rw [hbn,hbt,hbf]
 have HN:=ZZY hN;have HT:=ZZY hT;have HF:=ZZY hF
 clear hN hT hF hbn hbt hbf hso hs hd hI
 generalize s.nm=nm at *
 generalize s.ty=ty at *
 generalize s.rq=rq at *
 clear hsz hnm
 cases bn with
 |false=>
  go_enter func139,ntmps139
  go_wp2_with (go_at_call 128;(with_reducible refine (HN.out _).mono ?_);rintro e w1 ⟨rfl,rfl⟩)
  go_ret
  exact ⟨rfl,hb1⟩
 |true=>
  cases bt with
  |false=>
   go_enter func139,ntmps139
   go_wp2_with (first
    |(go_at_call 128;(with_reducible refine (HN.out _).mono ?_);rintro e w1 ⟨rfl,rfl⟩)
    |(go_at_call 145;(with_reducible refine (HT.out _).mono ?_);rintro e w1 ⟨rfl,rfl⟩))
   go_ret
   exact ⟨rfl,hb1⟩
  |true=>
   have h00:=h0 rfl
   go_enter func139,ntmps139
   go_wp2_with (first
    |(go_at_call 128;(with_reducible refine (HN.out _).mono ?_);rintro e w1 ⟨rfl,rfl⟩)
    |(go_at_call 145;(with_reducible refine (HT.out _).mono ?_);rintro e w1 ⟨rfl,rfl⟩)
    |(go_at_call 146;(with_reducible refine (HF.out _ hb1 h00).mono ?_);rintro e w1 ⟨rfl,hB1⟩))
   go_ret
   exact ⟨rfl,hb1.trans (hB1.mono hb1.size)⟩
