/- Package bin: a reader's Value, whole; of a nil reader. -/
import Derived.Test.YtcjdfdfphbckaaaGreatMh12Regi
set_option linter.unusedVariables false
set_option linter.unusedSimpArgs false
set_option maxRecDepth 100000
set_option maxHeartbeats 64000000
open Go.Proofs.Tryz
namespace Go.Proofs.YtcjdfdfphbckaaaGreat
open Go.RowKit Go.Shelf
attribute [local go_sem] Oper.semAt_some
def zv:PV:=.mk 0 0 ⟨#[]⟩ []
def rFin (r:PV × Bn.St):PV × Bn.St:=match r.2 with
 |none=>(zv,none)
 |some l=>if rightV r.1=true then (r.1,some l) else (zv,none)
def rValue (s:Bn.St):PV × Bn.St:=rFin (Bn.get 4 s)
theorem ZDC (B:Nat) (w:World):ZDg B w zv (.agg vzero):=ZBs B w 0 0 ⟨#[]⟩ ⟨by omega,by omega⟩ ⟨by omega,by omega⟩ (by unfold maxLen;decide)
theorem ZJQ (p:Nat) (s:Bn.St) (w:World) (h:RD w p s):Calls Tryz.prog 74 #[.pointer (some ⟨p,0,none⟩)] w (VRet p w (rValue s).1 (rValue s).2):=by
 have hA0:=(Below.refl _ w).alloc (Nat.le_refl _) (.cells vzero 49)
 have hz0:=ZBI w vzero
 have hpw:=ZCf h
 have hRA:=ZAp h hA0
 have hN:Calls Tryz.prog 93 #[.pointer (some ⟨p,0,none⟩),.int .i64 0] (w.alloc (.cells vzero 49)) (VRet p (w.alloc (.cells vzero 49)) (Bn.get 4 s).1 (Bn.get 4 s).2):=ZPB 4 0 rfl p s _ hRA
 have hG0:=ZAZ hA0 (some p)
 unfold rValue
 generalize Bn.get 4 s=r at *
 obtain ⟨v,s2⟩:=r
 dsimp only at hN
 clear h hRA hA0
 have key:∀ (w2:World) (b:Nat) (k n:Int) (t:ByteArray) (a:Option Addr) (len cap:Nat),VAt w2 b #[.int .i64 k,.int .i64 n,.string t,.slice a len cap]→Is w2 v (.agg #[.int .i64 k,.int .i64 n,.string t,.slice a len cap])→RD w2 p s2→w.heap.size<w2.heap.size→ZDg (w.heap.size+1) w2 v (.agg #[.int .i64 k,.int .i64 n,.string t,.slice a len cap]) →
   Calls Tryz.prog 94 #[.pointer (some ⟨p,0,none⟩),.int .i64 0,.func (.func 95) #[] #[.pointer (some ⟨b,0,none⟩)]] w2 fun e w'=>
    ∃ (k n:Int) (t:ByteArray) (a:Option Addr) (len cap:Nat),e=.returned (.agg #[.int .i64 k,.int .i64 n,.string t,.slice a len cap])∧RD w' p (rFin (v,s2)).2∧w2.grownBy w' (some p)∧ZDg (w.heap.size+1) w' (rFin (v,s2)).1 (.agg #[.int .i64 k,.int .i64 n,.string t,.slice a len cap]):=by
  intro w2 b k n t a len cap hv hi hR hsz hF
  cases s2 with
  |none=>
   refine (ZJP _ p w2 hR).mono ?_
   rintro e w' ⟨rfl,h1,h2⟩
   exact ⟨_,_,_,_,_,_,rfl,h1,h2,ZDC _ _⟩
  |some l=>
   refine (ZLL v b p l w2 _ _ _ _ hR hv hi).mono ?_
   rintro e w' ⟨rfl,h1,h2⟩
   simp only [rFin]
   cases hr:rightV v with
   |true=>
    rw [hr] at h1
    simp only [if_true] at h1 ⊢
    exact ⟨_,_,_,_,_,_,rfl,h1,h2,ZBk hF h2.size fun b' hb1 hb2=>h2.block b' hb2 (by simp;omega)⟩
   |false=>
    rw [hr] at h1
    simp only [Bool.false_eq_true,if_false] at h1 ⊢
    exact ⟨_,_,_,_,_,_,rfl,h1,h2,ZDC _ _⟩
 have HK:=ZZY key
 generalize rFin (v,s2)=r at HK ⊢
 clear key
 go_enter func74,ntmps74
 go_wp2_with (first
  |(go_at_call 93;(with_reducible refine hN.mono ?_);rintro e w2 ⟨x,rfl,hF2,hR2,hg2⟩;obtain ⟨d0,d1,d2,d3,d4,d5,rfl⟩:=ZDb (ZC8 hF2);have hA2:=(Below.refl _ w2).alloc (Nat.le_refl _) (.cells #[.int .i64 d0,.int .i64 d1,.string d2,.slice d3 d4 d5] 49);have hR3:=ZAp hR2 hA2;have hi3:=ZAf hA2 _ _ (ZC8 hF2);have hsz2:=hg2.size;rw [World.size_alloc] at hF2 hsz2;have hF3:=ZBk hF2 hA2.size (fun b _ h=>hA2.block b h);have hz3:=ZA9 hA2 (ZAb hz0 hg2 (by omega));have hG3:=ZAC (ZAC hG0 hg2) (ZAZ hA2 _))
  |(go_at_call 94;(with_reducible refine (HK.out _ _ _ _ _ _ _ _ (ZBI _ _) hi3 hR3 (by simp;omega) hF3).mono ?_);rintro e w4 ⟨k4,n4,t4,a4,l4,p4,rfl,hR4,hg4,hF4⟩;have hz4:=ZAb hz3 hg4 (by omega);obtain ⟨⟨r0,r1,r2,r3⟩,t0,t1,t2,t3⟩:=box4 hz4))
 refine bodyPost_ret (results_cell_row Tryz.results74 _ _ w.heap.size _ _ _ _ rfl (ZBJ hz4 _ _ _ _) Tryz.underlying49 rfl val4) rfl ?_
 exact ZDa hz4 hR4 (ZAC hG3 hg4) hF4
