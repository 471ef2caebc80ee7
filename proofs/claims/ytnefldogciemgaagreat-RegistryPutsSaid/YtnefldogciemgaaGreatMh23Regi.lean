/- Registries: slices.IndexFunc and ContainsFunc of slots, steps and templates, of whatever test that reads, and may make memory. (Made by gen_rgf.py.) -/
import Derived.Test.YtnefldogciemgaaGreatMh11Regi
set_option linter.unusedVariables false
set_option linter.unusedSimpArgs false
set_option maxRecDepth 100000
namespace Go.Proofs.YtnefldogciemgaaGreat
open Go.RowKit Go.Shelf
set_option maxHeartbeats 4000000 in
theorem ixSlot_any (a:Option Addr) (cap:Nat) (l:List SlotM) (p:SlotM→Bool) (gf:Nat) (bd:Array Value) (w:World) (hr:SlotRow w a cap l) (hsm:l.length≤100000)
  (eg:∀ args w,(callFunc gf args).run Tryz.prog w=.ok (.enter gf args) w)
  (hG:∀ (i:Nat) (y:SlotM) (W:World) (X:Value),l[i]? = some y→Below w.heap.size w W→IsSlot W y X→Calls Tryz.prog gf (#[X]++bd) W fun e w'=>e=.returned (.bool (p y))∧Below W.heap.size W w') :
  Calls Tryz.prog 82 #[.slice a l.length cap,.func (.func gf) #[] bd] w fun e w'=>e=.returned (.int .i64 (Rg.ixJ (l.findIdx? p)))∧Below w.heap.size w w':=by
 obtain ⟨n,hn⟩:∃ n,l.length=n:=⟨_,rfl⟩
 obtain ⟨R,hR⟩:∃ R,Rg.ixJ (l.findIdx? p)=R:=⟨_,rfl⟩
 have HR:=Lib.hid hr;have HN:=Lib.hid hn;have HRR:=Lib.hid hR;have HG:=Lib.hid hG
 rw [hn] at hsm ⊢
 rw [hR]
 clear hr hn hR hG
 go_enter Tryz.func82,Tryz.ntmps82
 go_wp2
 go_loopw [8] (fun i wr=>∃ k:Nat,k≤n∧i=.int .i64 k∧Below w.heap.size w wr∧Hid (∀ j y,j<k→l[j]? = some y→p y=false)) (fun i _=>n-(intOf i).toNat)
 case atStart=>exact ⟨0,Nat.zero_le _,rfl,Below.refl _ _,Lib.hid (fun j y hj=>by omega)⟩
 case round=>
  obtain ⟨k,hk,rfl,hbw,HE⟩:=hrel
  by_cases hlt:k<n
  ·have hd:decide ((k:Int)<(n:Int))=true:=by simp;omega
   have hnl:=HN.out
   obtain ⟨y,hy⟩:∃ y,l[k]? = some y:=⟨l[k],List.getElem?_eq_getElem (by omega)⟩
   obtain ⟨sb,so,rfl,hrow⟩:∃ b off,a=some ⟨b,off,none⟩∧∀ i s,l[i]? = some s→SlotAt w b (off+i*7) s:=by
    rcases HR.out.2.2 with h | h
    ·subst h;simp at hnl;omega
    ·exact h
   obtain ⟨k0,nn,tx,la,ll,lc,⟨g0,g1,g2,g3,g4,g5,g6⟩,hI,hsn,hdf⟩:=slotAt_form (hrow k y hy)
   have y0:=cell_below hbw g0
   have y1:=cell_below hbw g1
   have y2:=cell_below hbw g2
   have y3:=cell_below hbw g3
   have y4:=cell_below hbw g4
   have y5:=cell_below hbw g5
   have y6:=cell_below hbw g6
   obtain ⟨B,hB⟩:∃ B,p y=B:=⟨_,rfl⟩
   have hX:=HG.out k y _ _ hy hbw.drew (isSlot_below hbw.drew ⟨_,_,_,_,_,_,_,rfl,hsn,hI,rfl,rfl,rfl,hdf⟩)
   have hX0:=HG.out k y _ _ hy hbw (isSlot_below hbw ⟨_,_,_,_,_,_,_,rfl,hsn,hI,rfl,rfl,rfl,hdf⟩)
   rw [hB] at hX hX0
   have HX:=Lib.hid hX;have HX0:=Lib.hid hX0;have HB:=Lib.hid hB;have HY:=Lib.hid hy
   clear hX hX0 hB g0 g1 g2 g3 g4 g5 g6 hnl hrow hI hsn hdf
   cases B with
   |true=>
    have hans:(k:Int)=R:=by
     rw [←HRR.out,Rg.find_first HY.out HB.out (fun j z hj hz=>HE.out j z hj hz)]
     rfl
    have HA:=Lib.hid hans
    clear hy hans
    go_wp2_with (go_at_fn gf;(first | with_reducible refine (HX0.out).mono ?_ | with_reducible refine (HX.out).mono ?_);rintro e w1 ⟨rfl,hB1⟩)
    go_ret
    exact ⟨ret_int HA.out,hbw.trans (hB1.mono hbw.size)⟩
   |false=>
    clear hy
    go_wp2_with (go_at_fn gf;(first | with_reducible refine (HX0.out).mono ?_ | with_reducible refine (HX.out).mono ?_);rintro e w1 ⟨rfl,hB1⟩)
    go_roundw
    case rel=>exact ⟨k+1,by omega,by go_num,hbw.trans (hB1.mono hbw.size),Lib.hid (fun j z hj hz=>by
     rcases Nat.lt_or_ge j k with h | h
     ·exact HE.out j z h hz
     ·obtain rfl:j=k:=by omega
      rw [HY.out] at hz
      cases hz
      exact HB.out)⟩
    case measure=>simp [intOf];omega
  ·obtain rfl:k=n:=by omega
   have hd:decide ((k:Int)<(k:Int))=false:=by simp
   have hans:(-1:Int)=R:=by
    rw [←HRR.out,Rg.find_never (fun j z hj hz=>HE.out j z (by have:=HN.out;omega) hz)]
    rfl
   have HA:=Lib.hid hans
   clear hans
   go_wp2
   go_ret
   exact ⟨ret_int HA.out,hbw⟩
theorem hasSlot_any (a:Option Addr) (cap:Nat) (l:List SlotM) (p:SlotM→Bool) (gf:Nat) (bd:Array Value) (w:World) (hr:SlotRow w a cap l) (hsm:l.length≤100000)
  (eg:∀ args w,(callFunc gf args).run Tryz.prog w=.ok (.enter gf args) w)
  (hG:∀ (i:Nat) (y:SlotM) (W:World) (X:Value),l[i]? = some y→Below w.heap.size w W→IsSlot W y X→Calls Tryz.prog gf (#[X]++bd) W fun e w'=>e=.returned (.bool (p y))∧Below W.heap.size W w') :
  Calls Tryz.prog 52 #[.slice a l.length cap,.func (.func gf) #[] bd] w fun e w'=>e=.returned (.bool (l.any p))∧Below w.heap.size w w':=by
 have hI:=ixSlot_any a cap l p gf bd w hr hsm eg hG
 have hg:=Rg.ixJ_ge (l.findIdx? p)
 rw [List.findIdx?_isSome] at hg
 obtain ⟨R,hR⟩:∃ R,Rg.ixJ (l.findIdx? p)=R:=⟨_,rfl⟩
 rw [hR] at hI hg
 rw [←hg]
 have H:=Lib.hid hI
 clear hI hg hR hG hr
 go_enter Tryz.func52,Tryz.ntmps52
 go_wp2_with (go_at_call 82;(with_reducible refine H.out.mono ?_);rintro e w1 ⟨rfl,hB1⟩)
 go_ret
 exact ⟨ret_bool (by first | rfl | simp),hB1⟩
set_option maxHeartbeats 4000000 in
theorem ixStep_any (a:Option Addr) (cap:Nat) (l:List StepM) (p:StepM→Bool) (gf:Nat) (bd:Array Value) (w:World) (hr:StepRow w a cap l) (hsm:l.length≤100000)
  (eg:∀ args w,(callFunc gf args).run Tryz.prog w=.ok (.enter gf args) w)
  (hG:∀ (i:Nat) (y:StepM) (W:World) (X:Value),l[i]? = some y→Below w.heap.size w W→IsStep W y X→Calls Tryz.prog gf (#[X]++bd) W fun e w'=>e=.returned (.bool (p y))∧Below W.heap.size W w') :
  Calls Tryz.prog 83 #[.slice a l.length cap,.func (.func gf) #[] bd] w fun e w'=>e=.returned (.int .i64 (Rg.ixJ (l.findIdx? p)))∧Below w.heap.size w w':=by
 obtain ⟨n,hn⟩:∃ n,l.length=n:=⟨_,rfl⟩
 obtain ⟨R,hR⟩:∃ R,Rg.ixJ (l.findIdx? p)=R:=⟨_,rfl⟩
 have HR:=Lib.hid hr;have HN:=Lib.hid hn;have HRR:=Lib.hid hR;have HG:=Lib.hid hG
 rw [hn] at hsm ⊢
 rw [hR]
 clear hr hn hR hG
 go_enter Tryz.func83,Tryz.ntmps83
 go_wp2
 go_loopw [8] (fun i wr=>∃ k:Nat,k≤n∧i=.int .i64 k∧Below w.heap.size w wr∧Hid (∀ j y,j<k→l[j]? = some y→p y=false)) (fun i _=>n-(intOf i).toNat)
 case atStart=>exact ⟨0,Nat.zero_le _,rfl,Below.refl _ _,Lib.hid (fun j y hj=>by omega)⟩
 case round=>
  obtain ⟨k,hk,rfl,hbw,HE⟩:=hrel
  by_cases hlt:k<n
  ·have hd:decide ((k:Int)<(n:Int))=true:=by simp;omega
   have hnl:=HN.out
   obtain ⟨y,hy⟩:∃ y,l[k]? = some y:=⟨l[k],List.getElem?_eq_getElem (by omega)⟩
   obtain ⟨sb,so,rfl,hrow⟩:∃ b off,a=some ⟨b,off,none⟩∧∀ i s,l[i]? = some s→StepAt w b (off+i*10) s:=by
    rcases HR.out.2.2 with h | h
    ·subst h;simp at hnl;omega
    ·exact h
   obtain ⟨k0,nn,tx,la,ll,lc,oa,oc,⟨g0,g1,g2,g3,g4,g5,g6,g7,g8,g9⟩,hst⟩:=stepAt_form (hrow k y hy)
   have y0:=cell_below hbw g0
   have y1:=cell_below hbw g1
   have y2:=cell_below hbw g2
   have y3:=cell_below hbw g3
   have y4:=cell_below hbw g4
   have y5:=cell_below hbw g5
   have y6:=cell_below hbw g6
   have y7:=cell_below hbw g7
   have y8:=cell_below hbw g8
   have y9:=cell_below hbw g9
   obtain ⟨B,hB⟩:∃ B,p y=B:=⟨_,rfl⟩
   have hX:=HG.out k y _ _ hy hbw.drew (isStep_below hbw.drew hst)
   have hX0:=HG.out k y _ _ hy hbw (isStep_below hbw hst)
   rw [hB] at hX hX0
   have HX:=Lib.hid hX;have HX0:=Lib.hid hX0;have HB:=Lib.hid hB;have HY:=Lib.hid hy
   clear hX hX0 hB g0 g1 g2 g3 g4 g5 g6 g7 g8 g9 hnl hrow hst
   cases B with
   |true=>
    have hans:(k:Int)=R:=by
     rw [←HRR.out,Rg.find_first HY.out HB.out (fun j z hj hz=>HE.out j z hj hz)]
     rfl
    have HA:=Lib.hid hans
    clear hy hans
    go_wp2_with (go_at_fn gf;(first | with_reducible refine (HX0.out).mono ?_ | with_reducible refine (HX.out).mono ?_);rintro e w1 ⟨rfl,hB1⟩)
    go_ret
    exact ⟨ret_int HA.out,hbw.trans (hB1.mono hbw.size)⟩
   |false=>
    clear hy
    go_wp2_with (go_at_fn gf;(first | with_reducible refine (HX0.out).mono ?_ | with_reducible refine (HX.out).mono ?_);rintro e w1 ⟨rfl,hB1⟩)
    go_roundw
    case rel=>exact ⟨k+1,by omega,by go_num,hbw.trans (hB1.mono hbw.size),Lib.hid (fun j z hj hz=>by
     rcases Nat.lt_or_ge j k with h | h
     ·exact HE.out j z h hz
     ·obtain rfl:j=k:=by omega
      rw [HY.out] at hz
      cases hz
      exact HB.out)⟩
    case measure=>simp [intOf];omega
  ·obtain rfl:k=n:=by omega
   have hd:decide ((k:Int)<(k:Int))=false:=by simp
   have hans:(-1:Int)=R:=by
    rw [←HRR.out,Rg.find_never (fun j z hj hz=>HE.out j z (by have:=HN.out;omega) hz)]
    rfl
   have HA:=Lib.hid hans
   clear hans
   go_wp2
   go_ret
   exact ⟨ret_int HA.out,hbw⟩
theorem hasStep_any (a:Option Addr) (cap:Nat) (l:List StepM) (p:StepM→Bool) (gf:Nat) (bd:Array Value) (w:World) (hr:StepRow w a cap l) (hsm:l.length≤100000)
  (eg:∀ args w,(callFunc gf args).run Tryz.prog w=.ok (.enter gf args) w)
  (hG:∀ (i:Nat) (y:StepM) (W:World) (X:Value),l[i]? = some y→Below w.heap.size w W→IsStep W y X→Calls Tryz.prog gf (#[X]++bd) W fun e w'=>e=.returned (.bool (p y))∧Below W.heap.size W w') :
  Calls Tryz.prog 53 #[.slice a l.length cap,.func (.func gf) #[] bd] w fun e w'=>e=.returned (.bool (l.any p))∧Below w.heap.size w w':=by
 have hI:=ixStep_any a cap l p gf bd w hr hsm eg hG
 have hg:=Rg.ixJ_ge (l.findIdx? p)
 rw [List.findIdx?_isSome] at hg
 obtain ⟨R,hR⟩:∃ R,Rg.ixJ (l.findIdx? p)=R:=⟨_,rfl⟩
 rw [hR] at hI hg
 rw [←hg]
 have H:=Lib.hid hI
 clear hI hg hR hG hr
 go_enter Tryz.func53,Tryz.ntmps53
 go_wp2_with (go_at_call 83;(with_reducible refine H.out.mono ?_);rintro e w1 ⟨rfl,hB1⟩)
 go_ret
 exact ⟨ret_bool (by first | rfl | simp),hB1⟩
set_option maxHeartbeats 4000000 in
theorem ixTempl_any (a:Option Addr) (cap:Nat) (l:List TemplM) (p:TemplM→Bool) (gf:Nat) (bd:Array Value) (w:World) (hr:TemplRow w a cap l) (hsm:l.length≤100000)
  (eg:∀ args w,(callFunc gf args).run Tryz.prog w=.ok (.enter gf args) w)
  (hG:∀ (i:Nat) (y:TemplM) (W:World) (X:Value),l[i]? = some y→Below w.heap.size w W→IsTempl W y X→Calls Tryz.prog gf (#[X]++bd) W fun e w'=>e=.returned (.bool (p y))∧Below W.heap.size W w') :
  Calls Tryz.prog 32 #[.slice a l.length cap,.func (.func gf) #[] bd] w fun e w'=>e=.returned (.int .i64 (Rg.ixJ (l.findIdx? p)))∧Below w.heap.size w w':=by
 obtain ⟨n,hn⟩:∃ n,l.length=n:=⟨_,rfl⟩
 obtain ⟨R,hR⟩:∃ R,Rg.ixJ (l.findIdx? p)=R:=⟨_,rfl⟩
 have HR:=Lib.hid hr;have HN:=Lib.hid hn;have HRR:=Lib.hid hR;have HG:=Lib.hid hG
 rw [hn] at hsm ⊢
 rw [hR]
 clear hr hn hR hG
 go_enter Tryz.func32,Tryz.ntmps32
 go_wp2
 go_loopw [8] (fun i wr=>∃ k:Nat,k≤n∧i=.int .i64 k∧Below w.heap.size w wr∧Hid (∀ j y,j<k→l[j]? = some y→p y=false)) (fun i _=>n-(intOf i).toNat)
 case atStart=>exact ⟨0,Nat.zero_le _,rfl,Below.refl _ _,Lib.hid (fun j y hj=>by omega)⟩
 case round=>
  obtain ⟨k,hk,rfl,hbw,HE⟩:=hrel
  by_cases hlt:k<n
  ·have hd:decide ((k:Int)<(n:Int))=true:=by simp;omega
   have hnl:=HN.out
   obtain ⟨y,hy⟩:∃ y,l[k]? = some y:=⟨l[k],List.getElem?_eq_getElem (by omega)⟩
   obtain ⟨sb,so,rfl,hrow⟩:∃ b off,a=some ⟨b,off,none⟩∧∀ i s,l[i]? = some s→TemplAt w b (off+i*3) s:=by
    rcases HR.out.2.2 with h | h
    ·subst h;simp at hnl;omega
    ·exact h
   obtain ⟨la,lc,oa,oc,⟨g0,g1,g2⟩,hsn,hst⟩:=templAt_form (hrow k y hy)
   have y0:=cell_below hbw g0
   have y1:=cell_below hbw g1
   have y2:=cell_below hbw g2
   obtain ⟨B,hB⟩:∃ B,p y=B:=⟨_,rfl⟩
   have hX:=HG.out k y _ _ hy hbw.drew (isTempl_below hbw.drew hst)
   have hX0:=HG.out k y _ _ hy hbw (isTempl_below hbw hst)
   rw [hB] at hX hX0
   have HX:=Lib.hid hX;have HX0:=Lib.hid hX0;have HB:=Lib.hid hB;have HY:=Lib.hid hy
   clear hX hX0 hB g0 g1 g2 hnl hrow hst hsn
   cases B with
   |true=>
    have hans:(k:Int)=R:=by
     rw [←HRR.out,Rg.find_first HY.out HB.out (fun j z hj hz=>HE.out j z hj hz)]
     rfl
    have HA:=Lib.hid hans
    clear hy hans
    go_wp2_with (go_at_fn gf;(first | with_reducible refine (HX0.out).mono ?_ | with_reducible refine (HX.out).mono ?_);rintro e w1 ⟨rfl,hB1⟩)
    go_ret
    exact ⟨ret_int HA.out,hbw.trans (hB1.mono hbw.size)⟩
   |false=>
    clear hy
    go_wp2_with (go_at_fn gf;(first | with_reducible refine (HX0.out).mono ?_ | with_reducible refine (HX.out).mono ?_);rintro e w1 ⟨rfl,hB1⟩)
    go_roundw
    case rel=>exact ⟨k+1,by omega,by go_num,hbw.trans (hB1.mono hbw.size),Lib.hid (fun j z hj hz=>by
     rcases Nat.lt_or_ge j k with h | h
     ·exact HE.out j z h hz
     ·obtain rfl:j=k:=by omega
      rw [HY.out] at hz
      cases hz
      exact HB.out)⟩
    case measure=>simp [intOf];omega
  ·obtain rfl:k=n:=by omega
   have hd:decide ((k:Int)<(k:Int))=false:=by simp
   have hans:(-1:Int)=R:=by
    rw [←HRR.out,Rg.find_never (fun j z hj hz=>HE.out j z (by have:=HN.out;omega) hz)]
    rfl
   have HA:=Lib.hid hans
   clear hans
   go_wp2
   go_ret
   exact ⟨ret_int HA.out,hbw⟩
