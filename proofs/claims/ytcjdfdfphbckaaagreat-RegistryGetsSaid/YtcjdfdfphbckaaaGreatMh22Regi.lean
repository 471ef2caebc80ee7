/- Registries: slices.IndexFunc and ContainsFunc of slots, steps and templates, of whatever test that reads, and may make memory. (Made by gen_rgf.py.) -/
import Derived.Test.YtcjdfdfphbckaaaGreatMh10Regi
set_option linter.unusedVariables false
set_option linter.unusedSimpArgs false
set_option maxRecDepth 100000
set_option maxHeartbeats 64000000
open Go.Proofs.Tryz
namespace Go.Proofs.YtcjdfdfphbckaaaGreat
open Go.RowKit Go.Shelf
theorem ZLb (a:Option Addr) (cap:Nat) (l:List SlotM) (p:SlotM→Bool) (gf:Nat) (bd:Array Value) (w:World) (hr:ZBV w a cap l) (hsm:l.length≤100000)
  (eg:∀ args w,(callFunc gf args).run Tryz.prog w=.ok (.enter gf args) w)
  (hG:∀ (i:Nat) (y:SlotM) (W:World) (X:Value),l[i]? = some y→Below w.heap.size w W→ZBe W y X→Calls Tryz.prog gf (#[X]++bd) W fun e w'=>e=.returned (.bool (p y))∧Below W.heap.size W w') :
  Calls Tryz.prog 88 #[.slice a l.length cap,.func (.func gf) #[] bd] w fun e w'=>e=.returned (.int .i64 (Rg.ixJ (l.findIdx? p)))∧Below w.heap.size w w':=by
 obtain ⟨n,hn⟩:∃ n,l.length=n:=⟨_,rfl⟩
 obtain ⟨R,hR⟩:∃ R,Rg.ixJ (l.findIdx? p)=R:=⟨_,rfl⟩
 have HR:=ZZY hr;have HN:=ZZY hn;have HRR:=ZZY hR;have HG:=ZZY hG
 rw [hn] at hsm ⊢
 rw [hR]
 clear hr hn hR hG
 go_enter func88,ntmps88
 go_wp2
 go_loopw [8] (fun i wr=>∃ k:Nat,k≤n∧i=.int .i64 k∧Below w.heap.size w wr∧Hid (∀ j y,j<k→l[j]? = some y→p y=false)) (fun i _=>n-(intOf i).toNat)
 case atStart=>exact ⟨0,Nat.zero_le _,rfl,Below.refl _ _,ZZY (fun j y hj=>by omega)⟩
 case round=>
  obtain ⟨k,hk,rfl,hbw,HE⟩:=hrel
  by_cases hlt:k<n
  ·have hd:decide ((k:Int)<(n:Int))=true:=by simp;omega
   have hnl:=HN.out
   obtain ⟨y,hy⟩:∃ y,l[k]? = some y:=⟨l[k],List.getElem?_eq_getElem (by omega)⟩
   obtain ⟨sb,so,rfl,hrow⟩:∃ b off,a=some ⟨b,off,none⟩∧∀ i s,l[i]? = some s→ZCS w b (off+i*7) s:=by
    rcases HR.out.2.2 with h | h
    ·subst h;simp at hnl;omega
    ·exact h
   obtain ⟨k0,nn,tx,la,ll,lc,⟨g0,g1,g2,g3,g4,g5,g6⟩,hI,hsn,hdf⟩:=ZBR (hrow k y hy)
   have y0:=ZAA hbw g0
   have y1:=ZAA hbw g1
   have y2:=ZAA hbw g2
   have y3:=ZAA hbw g3
   have y4:=ZAA hbw g4
   have y5:=ZAA hbw g5
   have y6:=ZAA hbw g6
   obtain ⟨B,hB⟩:∃ B,p y=B:=⟨_,rfl⟩
   have hX:=HG.out k y _ _ hy hbw.drew (ZAn hbw.drew ⟨_,_,_,_,_,_,_,rfl,hsn,hI,rfl,rfl,rfl,hdf⟩)
   have hX0:=HG.out k y _ _ hy hbw (ZAn hbw ⟨_,_,_,_,_,_,_,rfl,hsn,hI,rfl,rfl,rfl,hdf⟩)
   rw [hB] at hX hX0
   have HX:=ZZY hX;have HX0:=ZZY hX0;have HB:=ZZY hB;have HY:=ZZY hy
   clear hX hX0 hB g0 g1 g2 g3 g4 g5 g6 hnl hrow hI hsn hdf
   cases B with
   |true=>
    have hans:(k:Int)=R:=by
     rw [←HRR.out,Rg.find_first HY.out HB.out (fun j z hj hz=>HE.out j z hj hz)]
     rfl
    have HA:=ZZY hans
    clear hy hans
    go_wp2_with (go_at_fn gf;(first | with_reducible refine (HX0.out).mono ?_ | with_reducible refine (HX.out).mono ?_);rintro e w1 ⟨rfl,hB1⟩)
    go_ret
    exact ⟨ZBK HA.out,hbw.trans (hB1.mono hbw.size)⟩
   |false=>
    clear hy
    go_wp2_with (go_at_fn gf;(first | with_reducible refine (HX0.out).mono ?_ | with_reducible refine (HX.out).mono ?_);rintro e w1 ⟨rfl,hB1⟩)
    go_roundw
    case rel=>exact ⟨k+1,by omega,by go_num,hbw.trans (hB1.mono hbw.size),ZZY (fun j z hj hz=>by
     rcases Nat.lt_or_ge j k with h | h
     ·exact HE.out j z h hz
     ·obtain rfl:j=k:=by omega
      rw [HY.out] at hz
      cases hz
      exact HB.out)⟩
    case measure=>simp [intOf];omega
  ·obtain rfl:k=n:=by omega
   have hd:decide ((k:Int)<(k:Int))=false:=by simp
   have hans:(-1:Int)=R:=by
    rw [←HRR.out,Rg.find_never (fun j z hj hz=>HE.out j z (by have:=HN.out;omega) hz)]
    rfl
   have HA:=ZZY hans
   clear hans
   go_wp2
   go_ret
   exact ⟨ZBK HA.out,hbw⟩
theorem ZJf (a:Option Addr) (cap:Nat) (l:List SlotM) (p:SlotM→Bool) (gf:Nat) (bd:Array Value) (w:World) (hr:ZBV w a cap l) (hsm:l.length≤100000)
  (eg:∀ args w,(callFunc gf args).run Tryz.prog w=.ok (.enter gf args) w)
  (hG:∀ (i:Nat) (y:SlotM) (W:World) (X:Value),l[i]? = some y→Below w.heap.size w W→ZBe W y X→Calls Tryz.prog gf (#[X]++bd) W fun e w'=>e=.returned (.bool (p y))∧Below W.heap.size W w') :
  Calls Tryz.prog 63 #[.slice a l.length cap,.func (.func gf) #[] bd] w fun e w'=>e=.returned (.bool (l.any p))∧Below w.heap.size w w':=by
 have hI:=ZLb a cap l p gf bd w hr hsm eg hG
 have hg:=Rg.ixJ_ge (l.findIdx? p)
 rw [List.findIdx?_isSome] at hg
 obtain ⟨R,hR⟩:∃ R,Rg.ixJ (l.findIdx? p)=R:=⟨_,rfl⟩
 rw [hR] at hI hg
 rw [←hg]
 have H:=ZZY hI
 clear hI hg hR hG hr
 go_enter func63,ntmps63
 go_wp2_with (go_at_call 88;(with_reducible refine H.out.mono ?_);rintro e w1 ⟨rfl,hB1⟩)
 go_ret
 exact ⟨ZAG (by first | rfl | simp),hB1⟩
theorem ZLc (a:Option Addr) (cap:Nat) (l:List StepM) (p:StepM→Bool) (gf:Nat) (bd:Array Value) (w:World) (hr:ZCI w a cap l) (hsm:l.length≤100000)
  (eg:∀ args w,(callFunc gf args).run Tryz.prog w=.ok (.enter gf args) w)
  (hG:∀ (i:Nat) (y:StepM) (W:World) (X:Value),l[i]? = some y→Below w.heap.size w W→ZA3 W y X→Calls Tryz.prog gf (#[X]++bd) W fun e w'=>e=.returned (.bool (p y))∧Below W.heap.size W w') :
  Calls Tryz.prog 89 #[.slice a l.length cap,.func (.func gf) #[] bd] w fun e w'=>e=.returned (.int .i64 (Rg.ixJ (l.findIdx? p)))∧Below w.heap.size w w':=by
 obtain ⟨n,hn⟩:∃ n,l.length=n:=⟨_,rfl⟩
 obtain ⟨R,hR⟩:∃ R,Rg.ixJ (l.findIdx? p)=R:=⟨_,rfl⟩
 have HR:=ZZY hr;have HN:=ZZY hn;have HRR:=ZZY hR;have HG:=ZZY hG
 rw [hn] at hsm ⊢
 rw [hR]
 clear hr hn hR hG
 go_enter func89,ntmps89
 go_wp2
 go_loopw [8] (fun i wr=>∃ k:Nat,k≤n∧i=.int .i64 k∧Below w.heap.size w wr∧Hid (∀ j y,j<k→l[j]? = some y→p y=false)) (fun i _=>n-(intOf i).toNat)
 case atStart=>exact ⟨0,Nat.zero_le _,rfl,Below.refl _ _,ZZY (fun j y hj=>by omega)⟩
 case round=>
  obtain ⟨k,hk,rfl,hbw,HE⟩:=hrel
  by_cases hlt:k<n
  ·have hd:decide ((k:Int)<(n:Int))=true:=by simp;omega
   have hnl:=HN.out
   obtain ⟨y,hy⟩:∃ y,l[k]? = some y:=⟨l[k],List.getElem?_eq_getElem (by omega)⟩
   obtain ⟨sb,so,rfl,hrow⟩:∃ b off,a=some ⟨b,off,none⟩∧∀ i s,l[i]? = some s→ZDc w b (off+i*10) s:=by
    rcases HR.out.2.2 with h | h
    ·subst h;simp at hnl;omega
    ·exact h
   obtain ⟨k0,nn,tx,la,ll,lc,oa,oc,⟨g0,g1,g2,g3,g4,g5,g6,g7,g8,g9⟩,hst⟩:=ZCU (hrow k y hy)
   have y0:=ZAA hbw g0
   have y1:=ZAA hbw g1
   have y2:=ZAA hbw g2
   have y3:=ZAA hbw g3
   have y4:=ZAA hbw g4
   have y5:=ZAA hbw g5
   have y6:=ZAA hbw g6
   have y7:=ZAA hbw g7
   have y8:=ZAA hbw g8
   have y9:=ZAA hbw g9
   obtain ⟨B,hB⟩:∃ B,p y=B:=⟨_,rfl⟩
   have hX:=HG.out k y _ _ hy hbw.drew (ZBB hbw.drew hst)
   have hX0:=HG.out k y _ _ hy hbw (ZBB hbw hst)
   rw [hB] at hX hX0
   have HX:=ZZY hX;have HX0:=ZZY hX0;have HB:=ZZY hB;have HY:=ZZY hy
   clear hX hX0 hB g0 g1 g2 g3 g4 g5 g6 g7 g8 g9 hnl hrow hst
   cases B with
   |true=>
    have hans:(k:Int)=R:=by
     rw [←HRR.out,Rg.find_first HY.out HB.out (fun j z hj hz=>HE.out j z hj hz)]
     rfl
    have HA:=ZZY hans
    clear hy hans
    go_wp2_with (go_at_fn gf;(first | with_reducible refine (HX0.out).mono ?_ | with_reducible refine (HX.out).mono ?_);rintro e w1 ⟨rfl,hB1⟩)
    go_ret
    exact ⟨ZBK HA.out,hbw.trans (hB1.mono hbw.size)⟩
   |false=>
    clear hy
    go_wp2_with (go_at_fn gf;(first | with_reducible refine (HX0.out).mono ?_ | with_reducible refine (HX.out).mono ?_);rintro e w1 ⟨rfl,hB1⟩)
    go_roundw
    case rel=>exact ⟨k+1,by omega,by go_num,hbw.trans (hB1.mono hbw.size),ZZY (fun j z hj hz=>by
     rcases Nat.lt_or_ge j k with h | h
     ·exact HE.out j z h hz
     ·obtain rfl:j=k:=by omega
      rw [HY.out] at hz
      cases hz
      exact HB.out)⟩
    case measure=>simp [intOf];omega
  ·obtain rfl:k=n:=by omega
   have hd:decide ((k:Int)<(k:Int))=false:=by simp
   have hans:(-1:Int)=R:=by
    rw [←HRR.out,Rg.find_never (fun j z hj hz=>HE.out j z (by have:=HN.out;omega) hz)]
    rfl
   have HA:=ZZY hans
   clear hans
   go_wp2
   go_ret
   exact ⟨ZBK HA.out,hbw⟩
theorem ZJg (a:Option Addr) (cap:Nat) (l:List StepM) (p:StepM→Bool) (gf:Nat) (bd:Array Value) (w:World) (hr:ZCI w a cap l) (hsm:l.length≤100000)
  (eg:∀ args w,(callFunc gf args).run Tryz.prog w=.ok (.enter gf args) w)
  (hG:∀ (i:Nat) (y:StepM) (W:World) (X:Value),l[i]? = some y→Below w.heap.size w W→ZA3 W y X→Calls Tryz.prog gf (#[X]++bd) W fun e w'=>e=.returned (.bool (p y))∧Below W.heap.size W w') :
  Calls Tryz.prog 64 #[.slice a l.length cap,.func (.func gf) #[] bd] w fun e w'=>e=.returned (.bool (l.any p))∧Below w.heap.size w w':=by
 have hI:=ZLc a cap l p gf bd w hr hsm eg hG
 have hg:=Rg.ixJ_ge (l.findIdx? p)
 rw [List.findIdx?_isSome] at hg
 obtain ⟨R,hR⟩:∃ R,Rg.ixJ (l.findIdx? p)=R:=⟨_,rfl⟩
 rw [hR] at hI hg
 rw [←hg]
 have H:=ZZY hI
 clear hI hg hR hG hr
 go_enter func64,ntmps64
 go_wp2_with (go_at_call 89;(with_reducible refine H.out.mono ?_);rintro e w1 ⟨rfl,hB1⟩)
 go_ret
 exact ⟨ZAG (by first | rfl | simp),hB1⟩
theorem ZJh (a:Option Addr) (cap:Nat) (l:List TemplM) (p:TemplM→Bool) (gf:Nat) (bd:Array Value) (w:World) (hr:ZAw w a cap l) (hsm:l.length≤100000)
  (eg:∀ args w,(callFunc gf args).run Tryz.prog w=.ok (.enter gf args) w)
  (hG:∀ (i:Nat) (y:TemplM) (W:World) (X:Value),l[i]? = some y→Below w.heap.size w W→ZA8 W y X→Calls Tryz.prog gf (#[X]++bd) W fun e w'=>e=.returned (.bool (p y))∧Below W.heap.size W w') :
  Calls Tryz.prog 38 #[.slice a l.length cap,.func (.func gf) #[] bd] w fun e w'=>e=.returned (.int .i64 (Rg.ixJ (l.findIdx? p)))∧Below w.heap.size w w':=by
 obtain ⟨n,hn⟩:∃ n,l.length=n:=⟨_,rfl⟩
 obtain ⟨R,hR⟩:∃ R,Rg.ixJ (l.findIdx? p)=R:=⟨_,rfl⟩
 have HR:=ZZY hr;have HN:=ZZY hn;have HRR:=ZZY hR;have HG:=ZZY hG
 rw [hn] at hsm ⊢
 rw [hR]
 clear hr hn hR hG
 go_enter func38,ntmps38
 go_wp2
 go_loopw [8] (fun i wr=>∃ k:Nat,k≤n∧i=.int .i64 k∧Below w.heap.size w wr∧Hid (∀ j y,j<k→l[j]? = some y→p y=false)) (fun i _=>n-(intOf i).toNat)
 case atStart=>exact ⟨0,Nat.zero_le _,rfl,Below.refl _ _,ZZY (fun j y hj=>by omega)⟩
 case round=>
  obtain ⟨k,hk,rfl,hbw,HE⟩:=hrel
  by_cases hlt:k<n
  ·have hd:decide ((k:Int)<(n:Int))=true:=by simp;omega
   have hnl:=HN.out
   obtain ⟨y,hy⟩:∃ y,l[k]? = some y:=⟨l[k],List.getElem?_eq_getElem (by omega)⟩
   obtain ⟨sb,so,rfl,hrow⟩:∃ b off,a=some ⟨b,off,none⟩∧∀ i s,l[i]? = some s→ZCe w b (off+i*3) s:=by
    rcases HR.out.2.2 with h | h
    ·subst h;simp at hnl;omega
    ·exact h
   obtain ⟨la,lc,oa,oc,⟨g0,g1,g2⟩,hsn,hst⟩:=ZB4 (hrow k y hy)
   have y0:=ZAA hbw g0
   have y1:=ZAA hbw g1
   have y2:=ZAA hbw g2
   obtain ⟨B,hB⟩:∃ B,p y=B:=⟨_,rfl⟩
   have hX:=HG.out k y _ _ hy hbw.drew (ZBU hbw.drew hst)
   have hX0:=HG.out k y _ _ hy hbw (ZBU hbw hst)
   rw [hB] at hX hX0
   have HX:=ZZY hX;have HX0:=ZZY hX0;have HB:=ZZY hB;have HY:=ZZY hy
   clear hX hX0 hB g0 g1 g2 hnl hrow hst hsn
   cases B with
   |true=>
    have hans:(k:Int)=R:=by
     rw [←HRR.out,Rg.find_first HY.out HB.out (fun j z hj hz=>HE.out j z hj hz)]
     rfl
    have HA:=ZZY hans
    clear hy hans
    go_wp2_with (go_at_fn gf;(first | with_reducible refine (HX0.out).mono ?_ | with_reducible refine (HX.out).mono ?_);rintro e w1 ⟨rfl,hB1⟩)
    go_ret
    exact ⟨ZBK HA.out,hbw.trans (hB1.mono hbw.size)⟩
   |false=>
    clear hy
    go_wp2_with (go_at_fn gf;(first | with_reducible refine (HX0.out).mono ?_ | with_reducible refine (HX.out).mono ?_);rintro e w1 ⟨rfl,hB1⟩)
    go_roundw
    case rel=>exact ⟨k+1,by omega,by go_num,hbw.trans (hB1.mono hbw.size),ZZY (fun j z hj hz=>by
     rcases Nat.lt_or_ge j k with h | h
     ·exact HE.out j z h hz
     ·obtain rfl:j=k:=by omega
      rw [HY.out] at hz
      cases hz
      exact HB.out)⟩
    case measure=>simp [intOf];omega
  ·obtain rfl:k=n:=by omega
   have hd:decide ((k:Int)<(k:Int))=false:=by simp
   have hans:(-1:Int)=R:=by
    rw [←HRR.out,Rg.find_never (fun j z hj hz=>HE.out j z (by have:=HN.out;omega) hz)]
    rfl
   have HA:=ZZY hans
   clear hans
   go_wp2
   go_ret
   exact ⟨ZBK HA.out,hbw⟩
