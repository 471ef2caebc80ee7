/- The program's schema: the model's step, as the program tells it, kind by kind (no walk). -/
import Derived.Test.YtcjdfdfphbckaaaGreatMh8Regi
import Derived.Test.YtcjdfdfphbckaaaGreatMh2Regi
import Derived.Test.YtcjdfdfphbckaaaGreatMh3Regi
set_option linter.unusedVariables false
set_option linter.unusedSimpArgs false
set_option maxRecDepth 100000
set_option maxHeartbeats 64000000
open Go.Proofs.Tryz
namespace Go.Proofs.YtcjdfdfphbckaaaGreat
open Go.RowKit Go.Shelf
namespace Sc
theorem ZKa (a:ByteArray):eqN a a=true:=(eqN_iff a a).2 rfl
theorem ZFi (a:ByteArray):eqN a ⟨#[]⟩=decide (a.size=0):=by
 rw [Bool.eq_iff_iff,eqN_iff,decide_eq_true_eq]
 constructor
 ·rintro rfl;rfl
 ·intro h;exact ByteArray.ext (Array.eq_empty_of_size_eq_zero h)
theorem ZG2 (l:List Int):decide (l = [])=l.isEmpty:=by cases l<;>simp
def hasB (x:Ver) (c:Int):Bool:=decide (0≤c) && decide (c<(x.cols.length:Int))
theorem ZOJ (v:PV):(cmpV v v == 0)=true:=(ZIn v v).2 rfl
theorem rest1 (s:StepM) (hk:s.kd=1):rest s=onlyB s ⟨0,0,s.sl,[]⟩:=by
 unfold rest onlyB
 rw [hk,ZKa,ZOJ,ZG2]
 cases s.od.isEmpty<;>by_cases h:s.col=0<;>simp [h]
theorem rest2 (s:StepM) (hk:s.kd=2):rest s=onlyB s ⟨0,s.col,⟨⟨#[]⟩,0,false,nilV⟩,[]⟩:=by
 unfold rest onlyB
 rw [hk,ZFi,ZG2]
 cases s.od.isEmpty<;>by_cases h:s.sl.nm.size=0<;>by_cases h2:s.sl.ty=0<;>cases s.sl.rq<;>by_cases h3:cmpV s.sl.df nilV=0<;>simp [h,h2,h3]
theorem rest3 (s:StepM) (hk:s.kd=3):rest s=onlyB s ⟨0,s.col,⟨s.sl.nm,0,false,nilV⟩,[]⟩:=by
 unfold rest onlyB
 rw [hk,ZKa,ZG2]
 cases s.od.isEmpty<;>by_cases h2:s.sl.ty=0<;>cases s.sl.rq<;>by_cases h3:cmpV s.sl.df nilV=0<;>simp [h2,h3]
theorem rest4 (s:StepM) (hk:s.kd=4):rest s=onlyB s ⟨0,s.col,⟨⟨#[]⟩,s.sl.ty,false,nilV⟩,[]⟩:=by
 unfold rest onlyB
 rw [hk,ZFi,ZG2]
 cases s.od.isEmpty<;>by_cases h:s.sl.nm.size=0<;>cases s.sl.rq<;>by_cases h3:cmpV s.sl.df nilV=0<;>simp [h,h3]
theorem rest5 (s:StepM) (hk:s.kd=5):rest s=onlyB s ⟨0,0,⟨⟨#[]⟩,0,false,nilV⟩,s.od⟩:=by
 unfold rest onlyB
 rw [hk,ZFi]
 by_cases h:s.sl.nm.size=0<;>by_cases h2:s.sl.ty=0<;>cases s.sl.rq<;>by_cases h3:cmpV s.sl.df nilV=0<;>by_cases h4:s.col=0<;>simp [h,h2,h3,h4]
theorem step_other {x:Ver} {s:StepM} (h:s.kd<1∨5<s.kd):step x s=none:=by
 unfold step
 split
 ·rfl
 ·rw [if_neg (by omega),if_neg (by omega),if_pos (by omega)]
theorem step1 {x:Ver} {s:StepM} (hk:s.kd=1):step x s=if (onlyB s ⟨0,0,s.sl,[]⟩ && (decide (x.cols.length≤7) && (sound s.sl && (!s.sl.rq && decide (colI x s.sl.nm<0)))))=true then some ⟨x.slots ++ [s.sl],x.cols ++ [x.slots.length]⟩ else none:=by
 unfold step
 rw [rest1 s hk,if_pos hk]
 cases onlyB s ⟨0,0,s.sl,[]⟩ with
 |false=>simp
 |true=>
  rw [if_neg (by simp)]
  simp only [Bool.true_and,Bool.and_eq_true,decide_eq_true_eq,colI_neg,Bool.not_eq_true']
theorem step2 {x:Ver} {s:StepM} (hk:s.kd=2):step x s=if (onlyB s ⟨0,s.col,⟨⟨#[]⟩,0,false,nilV⟩,[]⟩ && (hasB x s.col && !decide (x.cols.length=1)))=true then some ⟨x.slots,x.cols.eraseIdx s.col.toNat⟩ else none:=by
 unfold step hasB
 rw [rest2 s hk]
 cases onlyB s ⟨0,s.col,⟨⟨#[]⟩,0,false,nilV⟩,[]⟩ with
 |false=>simp
 |true=>
  rw [if_neg (by simp),if_neg (by omega),if_neg (by omega)]
  simp only [Bool.true_and,Bool.and_eq_true,decide_eq_true_eq,Bool.not_eq_true',decide_eq_false_iff_not]
  by_cases h1:0≤s.col∧s.col<(x.cols.length:Int)
  ·rw [if_neg (by omega),if_pos hk]
   by_cases h2:2≤x.cols.length
   ·rw [if_pos h2,if_pos ⟨h1,by omega⟩]
   ·rw [if_neg h2,if_neg (by omega)]
  ·rw [if_pos (by omega),if_neg (by omega)]
theorem step3 {x:Ver} {s:StepM} (hk:s.kd=3):step x s=if (onlyB s ⟨0,s.col,⟨s.sl.nm,0,false,nilV⟩,[]⟩ && (hasB x s.col && (nameB (strB s.sl.nm) && decide (colI x s.sl.nm<0))))=true then some ⟨x.slots.modify (x.cols[s.col.toNat]?.getD 0) (fun t=>setNm t s.sl.nm),x.cols⟩ else none:=by
 unfold step hasB
 rw [rest3 s hk]
 cases onlyB s ⟨0,s.col,⟨s.sl.nm,0,false,nilV⟩,[]⟩ with
 |false=>simp
 |true=>
  rw [if_neg (by simp),if_neg (by omega),if_neg (by omega)]
  simp only [Bool.true_and,Bool.and_eq_true,decide_eq_true_eq,colI_neg]
  by_cases h1:0≤s.col∧s.col<(x.cols.length:Int)
  ·rw [if_neg (by omega),if_neg (by omega),if_pos hk]
   by_cases h2:nameB (strB s.sl.nm)=true∧col x s.sl.nm=none
   ·rw [if_pos h2,if_pos ⟨h1,h2⟩]
   ·rw [if_neg h2,if_neg (fun h=>h2 h.2)]
  ·rw [if_pos (by omega),if_neg (fun h=>h1 h.1)]
def oldTy (x:Ver) (c:Int):Nat:=(slotOf x (x.cols[c.toNat]?.getD 0)).ty.toNat
theorem step4 {x:Ver} {s:StepM} (hk:s.kd=4):step x s=if (onlyB s ⟨0,s.col,⟨⟨#[]⟩,s.sl.ty,false,nilV⟩,[]⟩ && (hasB x s.col && ((decide (0<s.sl.ty) && decide (s.sl.ty<64)) && !decide (oldTy x s.col ||| s.sl.ty.toNat=oldTy x s.col))))=true then some ⟨x.slots.modify (x.cols[s.col.toNat]?.getD 0) (fun t=>setTy t ((oldTy x s.col ||| s.sl.ty.toNat:Nat):Int)),x.cols⟩ else none:=by
 unfold step hasB
 rw [rest4 s hk]
 cases onlyB s ⟨0,s.col,⟨⟨#[]⟩,s.sl.ty,false,nilV⟩,[]⟩ with
 |false=>simp
 |true=>
  rw [if_neg (by simp),if_neg (by omega),if_neg (by omega)]
  simp only [Bool.true_and,Bool.and_eq_true,decide_eq_true_eq,Bool.not_eq_true',decide_eq_false_iff_not]
  by_cases h1:0≤s.col∧s.col<(x.cols.length:Int)
  ·rw [if_neg (by omega),if_neg (by omega),if_neg (by omega)]
   show (if 1≤s.sl.ty∧s.sl.ty≤63∧oldTy x s.col ||| s.sl.ty.toNat≠oldTy x s.col then _ else _)=_
   by_cases h2:1≤s.sl.ty∧s.sl.ty≤63∧oldTy x s.col ||| s.sl.ty.toNat≠oldTy x s.col
   ·rw [if_pos h2,if_pos ⟨h1,⟨by omega,by omega⟩,h2.2.2⟩];rfl
   ·rw [if_neg h2,if_neg (fun h=>h2 ⟨by omega,by omega,h.2.2⟩)]
  ·rw [if_pos (by omega),if_neg (fun h=>h1 h.1)]
theorem step5 {x:Ver} {s:StepM} (hk:s.kd=5):step x s=if (onlyB s ⟨0,0,⟨⟨#[]⟩,0,false,nilV⟩,s.od⟩ && (decide (s.od.length=x.cols.length) && once s.od x.cols.length))=true then some ⟨x.slots,s.od.map fun i=>x.cols[i.toNat]?.getD 0⟩ else none:=by
 unfold step
 rw [rest5 s hk]
 cases onlyB s ⟨0,0,⟨⟨#[]⟩,0,false,nilV⟩,s.od⟩ with
 |false=>simp
 |true=>
  rw [if_neg (by simp),if_neg (by omega),if_pos hk]
  simp only [Bool.true_and,Bool.and_eq_true,decide_eq_true_eq]
end Sc
