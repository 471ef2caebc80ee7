/- Package bin: node. -/
import Derived.Test.YtcjdfdfphbckaaaGreatMh5Regi
set_option linter.unusedVariables false
set_option linter.unusedSimpArgs false
set_option maxRecDepth 100000
set_option maxHeartbeats 64000000
open Go.Proofs.Tryz
namespace Go.Proofs.YtcjdfdfphbckaaaGreat
open Go.RowKit Go.Shelf
attribute [local go_sem] Oper.semAt_some
theorem ZAb {W W':World} {b p:Nat} {cs:Array Value} (h:VAt W b cs) (hg:W.grownBy W' (some p)) (hne:b≠p):VAt W' b cs:=(hg.block b (ZDO h) (by simpa using hne)).trans h
theorem ZQq {W:World} {p b:Nat} {s:Bn.St} {cs:Array Value} (h:RD W p s) (hv:VAt W b cs):p≠b:=by
 rintro rfl
 obtain ⟨a,cap,h1,_⟩:=h
 have h2:W.heap[p]? = _:=h1
 rw [show W.heap[p]? = _ from hv] at h2
 cases h2
theorem ZEf {W:World} {p b:Nat} {s:Bn.St} {cs:Array Value} (h:RD W p s) (hv:VAt W b cs) (i:Nat) (v:Value):RD (W.setCell ⟨b,i,none⟩ v) p s:=
 ZHi h (Below.heap_setCell _ _ _ p (ZQq h hv)) fun b' cs' fr hb'=>Below.heap_setCell _ _ _ b' (fun e=>by
  rw [show b'=b from e,show W.heap[b]? = _ from hv] at hb'
  cases hb')
theorem ZF9 {W:World} {p b:Nat} {s:Bn.St} {cs:Array Value} (h:RD W p s) (hv:VAt W b cs) (i0 i1 i2 i3:Nat) (d0 d1 d2 d3:Value) :
  RD ((((W.setCell ⟨b,i0,none⟩ d0).setCell ⟨b,i1,none⟩ d1).setCell ⟨b,i2,none⟩ d2).setCell ⟨b,i3,none⟩ d3) p s:=
 ZEf (ZEf (ZEf (ZEf h hv i0 d0) (ZBl hv i0 d0) i1 d1) (ZBl (ZBl hv i0 d0) i1 d1) i2 d2) (ZBl (ZBl (ZBl hv i0 d0) i1 d1) i2 d2) i3 d3
theorem ZAc {w W:World} {row:Option Nat} (h:w.grownBy W row) {b:Nat} (hb:w.heap.size≤b) (i:Nat) (v:Value):w.grownBy (W.setCell ⟨b,i,none⟩ v) row:=
 ⟨h.os,h.tape,h.output,Nat.le_trans h.size (KeepsWalks.setCell W _ v).size,fun k hk hne=>(Below.heap_setCell _ _ _ k (by show k≠b;omega)).trans (h.block k hk hne)⟩
theorem ZCE {w W:World} {row:Option Nat} (h:w.grownBy W row) {b:Nat} (hb:w.heap.size≤b) (i0 i1 i2 i3:Nat) (d0 d1 d2 d3:Value) :
  w.grownBy ((((W.setCell ⟨b,i0,none⟩ d0).setCell ⟨b,i1,none⟩ d1).setCell ⟨b,i2,none⟩ d2).setCell ⟨b,i3,none⟩ d3) row:=
 ZAc (ZAc (ZAc (ZAc h hb i0 d0) hb i1 d1) hb i2 d2) hb i3 d3
theorem ZAX {w W:World} {row:Option Nat} (h:w.grownBy W row) (o:Obj):w.grownBy (W.alloc o) row:=ZAC h (ZAZ ((Below.refl _ W).alloc (Nat.le_refl _) o) row)
def VRet (p:Nat) (w:World) (v:PV) (s:Bn.St) (e:Ending) (w':World):Prop:=∃ x,e=.returned x∧ZDg w.heap.size w' v x∧RD w' p s∧w.grownBy w' (some p)
theorem ZDa {w W:World} {p:Nat} {s:Bn.St} {v:PV} {d0 d1 d2 d3:Value} (hz:VAt W w.heap.size vzero) (hR:RD W p s) (hG:w.grownBy W (some p)) (hF:ZDg (w.heap.size+1) W v (.agg #[d0,d1,d2,d3])) :
  VRet p w v s (.returned (.agg #[d0,d1,d2,d3])) ((((W.setCell ⟨w.heap.size,0,none⟩ d0).setCell ⟨w.heap.size,1,none⟩ d1).setCell ⟨w.heap.size,2,none⟩ d2).setCell ⟨w.heap.size,3,none⟩ d3):=by
 refine ⟨_,rfl,ZD8 (ZBk hF (by simp) fun b h1 _=>?_) (Nat.le_succ _),ZF9 hR hz _ _ _ _ _ _ _ _,ZCE hG (Nat.le_refl _) _ _ _ _ _ _ _ _⟩
 rw [Below.heap_setCell _ _ _ b (by show b≠w.heap.size;omega),Below.heap_setCell _ _ _ b (by show b≠w.heap.size;omega),Below.heap_setCell _ _ _ b (by show b≠w.heap.size;omega),Below.heap_setCell _ _ _ b (by show b≠w.heap.size;omega)]
theorem ZPA (w:World) (k n:Int) (s:ByteArray) (hk:I64 k) (hn:I64 n) (hs:s.size≤maxLen):Is w (.mk k n s []) (.agg #[.int .i64 k,.int .i64 n,.string s,.slice none 0 0]):=by
 unfold Is
 exact ⟨hk,hn,hs,none,0,rfl,Nat.le_refl _,by unfold maxLen;omega,.inl rfl⟩
theorem ZBs (B:Nat) (w:World) (k n:Int) (s:ByteArray) (hk:I64 k) (hn:I64 n) (hs:s.size≤maxLen):ZDg B w (.mk k n s []) (.agg #[.int .i64 k,.int .i64 n,.string s,.slice none 0 0]):=fun w' _=>ZPA w' k n s hk hn hs
def LRet (p:Nat) (w:World) (r:List PV × Bn.St) (e:Ending) (w':World):Prop:=∃ a cap,e=.returned (.slice a r.1.length cap)∧r.1.length≤cap∧cap≤maxLen ∧
 (∀ w2:World,(∀ b:Nat,w.heap.size≤b→b<w'.heap.size→w2.heap[b]? = w'.heap[b]?)→r.1 = []∨∃ b off,a=some ⟨b,off,none⟩∧IsL w2 b r.1 off)∧RD w' p r.2∧w.grownBy w' (some p)
theorem ZBv {W:World} {p:Nat} {s:Bn.St} (h:RD W p s):(Bn.rByte s).1<256:=by
 obtain ⟨_,_,_,_,hb,_⟩:=h
 exact Bn.num_lt 1 s (ZC0 hb)
theorem ZK3 {n:Nat} {s:Bn.St} (h:(Bn.lf s).length≤maxLen):(Bn.txt n s).1.size≤maxLen:=by
 cases s with
 |none=>simp [Bn.txt,ByteArray.size]
 |some l=>
  simp only [Bn.txt,Bn.lf] at *
  split
  ·have:(strOfNums (l.take n)).size=(l.take n).length:=by simp [strOfNums,ByteArray.size]
   rw [this,List.length_take];omega
  ·simp [ByteArray.size]
theorem ZPX {W:World} {p:Nat} {s:Bn.St} (h:RD W p s):(Bn.lf s).length≤maxLen:=by
 obtain ⟨a,cap,_,h2,_⟩:=h
 exact Nat.le_trans h2.2.1 h2.2.2.1
theorem ZQD (n:Nat) (s:Bn.St):(Bn.lf (Bn.num n s).2).length≤(Bn.lf s).length:=by
 cases s with
 |none=>simp [Bn.num,Bn.lf]
 |some l=>
  simp only [Bn.num]
  split<;>simp [Bn.lf]
theorem ZK4 (s:Bn.St):(Bn.lf (Bn.rNum s).2).length≤(Bn.lf s).length:=by
 unfold Bn.rNum
 split
 ·simp [Bn.lf]
 ·exact ZQD 4 s
theorem ZDP {W:World} {p:Nat} {s:Bn.St} (h:RD W p s):(Bn.rText s).1.size≤maxLen:=ZK3 (Nat.le_trans (ZK4 s) (ZPX h))
theorem ZK5 (s:Bn.St):I64 (Bn.rLong s).1:=by
 unfold Bn.rLong I64
 rw [IntKind.wrap_i64]
 constructor<;>(show _≤_;omega)
theorem val4:(Tryz.prog.info? 49).map (·.size)=some 4:=by
 obtain ⟨i0,hi,hz0,hz1,hz2⟩:=info_parts ZHk
 rw [hi];simp [hz1]
theorem ZI8 (k:Nat) (hk4:k≤4) (g:Nat→Bn.St→List PV × Bn.St)
  (hL:∀ (p:Nat) (s:Bn.St) (w:World),RD w p s→Calls Tryz.prog 111 #[.pointer (some ⟨p,0,none⟩),.int .i64 ((k:Int)+1)] w (LRet p w (g (Bn.rNum s).1 (Bn.rNum s).2)))
  (p:Nat) (s:Bn.St) (w:World) (h:RD w p s) :
  Calls Tryz.prog 93 #[.pointer (some ⟨p,0,none⟩),.int .i64 (k:Int)] w (VRet p w (Bn.node g s).1 (Bn.node g s).2):=by
 have hpw:=ZCf h
 have hA0:=(Below.refl _ w).alloc (Nat.le_refl _) (.cells vzero 49)
 have hz0:=ZBI w vzero
 have hBy:=ZBT p s _ (ZAp h hA0)
 have hkk:=ZBv h
 have hG0:=ZAZ hA0 (some p)
 unfold Bn.node
 generalize (Bn.rByte s).1=kk at *
 generalize (Bn.rByte s).2=s1 at *
 have HL:=ZZY hL
 clear h hA0 hL
 by_cases k1:kk=1
 ·subst k1
  rw [if_pos rfl]
  go_enter func93,ntmps93
  go_wp2_with (first
   |(go_at_call 73;(first
    |((with_reducible refine hBy.mono ?_);rintro e w2 ⟨rfl,hR2,hg2⟩;have hgw2:=ZAC hG0 hg2;have hz2:=ZAb hz0 hg2 (by omega);have hA2:=(Below.refl _ w2).alloc (Nat.le_refl _) (.cells #[.int .i64 1,.int .i64 0,.string ⟨#[]⟩,.slice none 0 0] 49);have hv2:=ZBI w2 #[.int .i64 1,.int .i64 0,.string ⟨#[]⟩,.slice none 0 0];obtain ⟨⟨e0,e1,e2,e3⟩,f0,f1,f2,f3⟩:=box4 hv2;have hRA:=ZAp hR2 hA2;have hz2':=ZA9 hA2 hz2;have hp2:=ZCf hR2;have hBy2:=ZBT p s1 _ hRA;have hkn:=ZBv hR2;clear hBy)
    |((with_reducible refine hBy2.mono ?_);rintro e w4 ⟨rfl,hR4,hg4⟩;have hgw4:=ZAC (ZAX hgw2 _) hg4;have hz4:=ZAb hz2' hg4 (by omega);have hv4:=ZAb hv2 hg4 (by omega);obtain ⟨⟨p0,p1,p2,p3⟩,q0,q1,q2,q3⟩:=box4 hv4;have hw2s:=hgw2.size;obtain ⟨⟨r0,r1,r2,r3⟩,t0,t1,t2,t3⟩:=box4 hz4;have hne:w.heap.size≠w2.heap.size:=(by have:=ZDO hz2;omega)))))
  have hz5:=ZBA hz4 hne 1 (.int .i64 ((Bn.rByte s1).1:Int))
  refine bodyPost_ret (results_cell_row Tryz.results93 _ _ w.heap.size _ _ _ _ rfl (ZBJ hz5 _ _ _ _) Tryz.underlying49 rfl val4) rfl ?_
  exact ZDa hz5 (ZEf hR4 hv4 _ _) (ZAc hgw4 hw2s _ _) (ZBs _ _ 1 _ _ ⟨by omega,by omega⟩ ⟨by omega,by omega⟩ (by unfold maxLen;decide))
 rw [if_neg k1]
 by_cases k2:kk=2
 ·subst k2
  rw [if_pos rfl]
  clear k1
  go_enter func93,ntmps93
  go_wp2_with (first
   |(go_at_call 73;((with_reducible refine hBy.mono ?_);rintro e w2 ⟨rfl,hR2,hg2⟩;have hgw2:=ZAC hG0 hg2;have hz2:=ZAb hz0 hg2 (by omega);have hA2:=(Below.refl _ w2).alloc (Nat.le_refl _) (.cells #[.int .i64 2,.int .i64 0,.string ⟨#[]⟩,.slice none 0 0] 49);have hv2:=ZBI w2 #[.int .i64 2,.int .i64 0,.string ⟨#[]⟩,.slice none 0 0];obtain ⟨⟨e0,e1,e2,e3⟩,f0,f1,f2,f3⟩:=box4 hv2;have hRA:=ZAp hR2 hA2;have hz2':=ZA9 hA2 hz2;have hp2:=ZCf hR2;have hLo2:=ZMH p s1 _ hRA;have hkn:=ZK5 s1;clear hBy))
   |(go_at_call 110;((with_reducible refine hLo2.mono ?_);rintro e w4 ⟨rfl,hR4,hg4⟩;have hgw4:=ZAC (ZAX hgw2 _) hg4;have hz4:=ZAb hz2' hg4 (by omega);have hv4:=ZAb hv2 hg4 (by omega);obtain ⟨⟨p0,p1,p2,p3⟩,q0,q1,q2,q3⟩:=box4 hv4;have hw2s:=hgw2.size;obtain ⟨⟨r0,r1,r2,r3⟩,t0,t1,t2,t3⟩:=box4 hz4;have hne:w.heap.size≠w2.heap.size:=(by have:=ZDO hz2;omega))))
  have hz5:=ZBA hz4 hne 1 (.int .i64 (Bn.rLong s1).1)
  refine bodyPost_ret (results_cell_row Tryz.results93 _ _ w.heap.size _ _ _ _ rfl (ZBJ hz5 _ _ _ _) Tryz.underlying49 rfl val4) rfl ?_
  exact ZDa hz5 (ZEf hR4 hv4 _ _) (ZAc hgw4 hw2s _ _) (ZBs _ _ 2 _ _ ⟨by omega,by omega⟩ hkn (by unfold maxLen;decide))
 rw [if_neg k2]
 by_cases k34:kk=3∨kk=4
 ·rw [if_pos k34]
  clear k1 k2
  have hI:I64 (kk:Int):=⟨by omega,by omega⟩
  have K34:=ZZY k34
  rcases k34 with rfl | rfl
  ·go_enter func93,ntmps93
   go_wp2_with (first
    |(go_at_call 73;((with_reducible refine hBy.mono ?_);rintro e w2 ⟨rfl,hR2,hg2⟩;have hgw2:=ZAC hG0 hg2;have hz2:=ZAb hz0 hg2 (by omega);have hA2:=(Below.refl _ w2).alloc (Nat.le_refl _) (.cells #[.int .i64 3,.int .i64 0,.string ⟨#[]⟩,.slice none 0 0] 49);have hv2:=ZBI w2 #[.int .i64 3,.int .i64 0,.string ⟨#[]⟩,.slice none 0 0];obtain ⟨⟨e0,e1,e2,e3⟩,f0,f1,f2,f3⟩:=box4 hv2;have hRA:=ZAp hR2 hA2;have hz2':=ZA9 hA2 hz2;have hp2:=ZCf hR2;have hTx2:=ZDN p s1 _ hRA;have hkn:=ZDP hR2;clear hBy))
    |(go_at_call 42;((with_reducible refine hTx2.mono ?_);rintro e w4 ⟨rfl,hR4,hg4⟩;have hgw4:=ZAC (ZAX hgw2 _) hg4;have hz4:=ZAb hz2' hg4 (by omega);have hv4:=ZAb hv2 hg4 (by omega);obtain ⟨⟨p0,p1,p2,p3⟩,q0,q1,q2,q3⟩:=box4 hv4;have hw2s:=hgw2.size;obtain ⟨⟨r0,r1,r2,r3⟩,t0,t1,t2,t3⟩:=box4 hz4;have hne:w.heap.size≠w2.heap.size:=(by have:=ZDO hz2;omega))))
   have hz5:=ZBA hz4 hne 2 (.string (Bn.rText s1).1)
   refine bodyPost_ret (results_cell_row Tryz.results93 _ _ w.heap.size _ _ _ _ rfl (ZBJ hz5 _ _ _ _) Tryz.underlying49 rfl val4) rfl ?_
   exact ZDa hz5 (ZEf hR4 hv4 _ _) (ZAc hgw4 hw2s _ _) (ZBs _ _ _ _ _ hI ⟨by omega,by omega⟩ hkn)
  ·go_enter func93,ntmps93
   go_wp2_with (first
    |(go_at_call 73;((with_reducible refine hBy.mono ?_);rintro e w2 ⟨rfl,hR2,hg2⟩;have hgw2:=ZAC hG0 hg2;have hz2:=ZAb hz0 hg2 (by omega);have hA2:=(Below.refl _ w2).alloc (Nat.le_refl _) (.cells #[.int .i64 4,.int .i64 0,.string ⟨#[]⟩,.slice none 0 0] 49);have hv2:=ZBI w2 #[.int .i64 4,.int .i64 0,.string ⟨#[]⟩,.slice none 0 0];obtain ⟨⟨e0,e1,e2,e3⟩,f0,f1,f2,f3⟩:=box4 hv2;have hRA:=ZAp hR2 hA2;have hz2':=ZA9 hA2 hz2;have hp2:=ZCf hR2;have hTx2:=ZDN p s1 _ hRA;have hkn:=ZDP hR2;clear hBy))
    |(go_at_call 42;((with_reducible refine hTx2.mono ?_);rintro e w4 ⟨rfl,hR4,hg4⟩;have hgw4:=ZAC (ZAX hgw2 _) hg4;have hz4:=ZAb hz2' hg4 (by omega);have hv4:=ZAb hv2 hg4 (by omega);obtain ⟨⟨p0,p1,p2,p3⟩,q0,q1,q2,q3⟩:=box4 hv4;have hw2s:=hgw2.size;obtain ⟨⟨r0,r1,r2,r3⟩,t0,t1,t2,t3⟩:=box4 hz4;have hne:w.heap.size≠w2.heap.size:=(by have:=ZDO hz2;omega))))
   have hz5:=ZBA hz4 hne 2 (.string (Bn.rText s1).1)
   refine bodyPost_ret (results_cell_row Tryz.results93 _ _ w.heap.size _ _ _ _ rfl (ZBJ hz5 _ _ _ _) Tryz.underlying49 rfl val4) rfl ?_
   exact ZDa hz5 (ZEf hR4 hv4 _ _) (ZAc hgw4 hw2s _ _) (ZBs _ _ _ _ _ hI ⟨by omega,by omega⟩ hkn)
 rw [if_neg k34]
 by_cases k5:kk=5
 ·subst k5
  rw [if_pos rfl]
  clear k1 k2 k34
  obtain ⟨r4,hr4⟩:∃ r,g (Bn.rNum s1).1 (Bn.rNum s1).2=r:=⟨_,rfl⟩
  rw [hr4]
  have HR4:=ZZY hr4;clear hr4
  go_enter func93,ntmps93
  go_wp2_with (first
   |(go_at_call 73;((with_reducible refine hBy.mono ?_);rintro e w2 ⟨rfl,hR2,hg2⟩;have hgw2:=ZAC hG0 hg2;have hz2:=ZAb hz0 hg2 (by omega);have hA2:=(Below.refl _ w2).alloc (Nat.le_refl _) (.cells #[.int .i64 5,.int .i64 0,.string ⟨#[]⟩,.slice none 0 0] 49);have hv2:=ZBI w2 #[.int .i64 5,.int .i64 0,.string ⟨#[]⟩,.slice none 0 0];obtain ⟨⟨e0,e1,e2,e3⟩,f0,f1,f2,f3⟩:=box4 hv2;have hRA:=ZAp hR2 hA2;have hz2':=ZA9 hA2 hz2;have hp2:=ZCf hR2;have hLi2:=HL.out p s1 _ hRA;rw [HR4.out] at hLi2;clear hBy))
   |(go_at_call 111;((with_reducible refine hLi2.mono ?_);rintro e w4 ⟨a4,c4,rfl,hl4,hc4,hF4,hR4,hg4⟩;have hgw4:=ZAC (ZAX hgw2 _) hg4;have hz4:=ZAb hz2' hg4 (by omega);have hv4:=ZAb hv2 hg4 (by omega);obtain ⟨⟨p0,p1,p2,p3⟩,q0,q1,q2,q3⟩:=box4 hv4;have hw2s:=hgw2.size;obtain ⟨⟨r0,r1,r2,r3⟩,t0,t1,t2,t3⟩:=box4 hz4;have hne:w.heap.size≠w2.heap.size:=(by have:=ZDO hz2;omega);have HF:=ZZY hF4;clear hF4)))
  have hz5:=ZBA hz4 hne 3 (.slice a4 r4.1.length c4)
  refine bodyPost_ret (results_cell_row Tryz.results93 _ _ w.heap.size _ _ _ _ rfl (ZBJ hz5 _ _ _ _) Tryz.underlying49 rfl val4) rfl ?_
  refine ZDa hz5 (ZEf hR4 hv4 _ _) (ZAc hgw4 hw2s _ _) fun w9 hw9=>?_
  unfold Is
  refine ⟨⟨by omega,by omega⟩,⟨by omega,by omega⟩,by unfold maxLen;decide,a4,c4,rfl,hl4,hc4,HF.out w9 fun b hb1 hb2=>?_⟩
  rw [World.size_alloc] at hb1
  rw [hw9 b (by omega) (by simpa using hb2),Below.heap_setCell _ _ _ b (by show b≠w2.heap.size;omega)]
 ·rw [if_neg k5]
  have hI:I64 (kk:Int):=⟨by omega,by omega⟩
  have d1:((kk:Int) == 1)=false:=by simp;omega
  have d2:((kk:Int) == 2)=false:=by simp;omega
  have d3:((kk:Int) == 3)=false:=by simp;omega
  have d4:((kk:Int) == 4)=false:=by simp;omega
  have d5:((kk:Int) == 5)=false:=by simp;omega
  clear k1 k2 k34 k5
  go_enter func93,ntmps93
  go_wp2_with (first
   |(go_at_call 73;(with_reducible refine hBy.mono ?_);rintro e w2 ⟨rfl,hR2,hg2⟩;have hgw2:=ZAC hG0 hg2;have hz2:=ZAb hz0 hg2 (by omega);have hA2:=(Below.refl _ w2).alloc (Nat.le_refl _) (.cells #[.int .i64 kk,.int .i64 0,.string ⟨#[]⟩,.slice none 0 0] 49);have hv2:=ZBI w2 #[.int .i64 kk,.int .i64 0,.string ⟨#[]⟩,.slice none 0 0];obtain ⟨⟨e0,e1,e2,e3⟩,f0,f1,f2,f3⟩:=box4 hv2;have hRA:=ZAp hR2 hA2;have hz2':=ZA9 hA2 hz2;have hp2:=ZCf hR2;skip;clear hBy;obtain ⟨⟨r0,r1,r2,r3⟩,t0,t1,t2,t3⟩:=box4 hz2'))
  refine bodyPost_ret (results_cell_row Tryz.results93 _ _ w.heap.size _ _ _ _ rfl (ZBJ hz2' _ _ _ _) Tryz.underlying49 rfl val4) rfl ?_
  exact ZDa hz2' hRA (ZAX hgw2 _) (ZBs _ _ _ 0 _ hI ⟨by omega,by omega⟩ (by unfold maxLen;decide))
