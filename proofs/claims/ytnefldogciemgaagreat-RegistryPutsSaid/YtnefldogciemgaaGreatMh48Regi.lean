/- The document's answer for layer 6: Num, Long, Text. -/
import Derived.Test.YtnefldogciemgaaGreatMh10Regi
import Derived.Test.YtnefldogciemgaaGreatMh8Regi
import Derived.Test.YtnefldogciemgaaGreatMh39Regi
import Derived.Test.YtnefldogciemgaaGreatMh42Regi
import Derived.Test.YtnefldogciemgaaGreatMh5Regi
namespace Go.Proofs.YtnefldogciemgaaGreat
open Go.RowKit Go.Shelf
attribute [local go_sem] Oper.semAt_some
set_option maxHeartbeats 1000000 in
theorem ref06Num_any (n:Int) (w:World):Calls Tryz.prog 29 #[.int .i64 n] w (Got w (spn n 2147483647 4)):=by
 unfold spn
 by_cases hg:n<0∨2147483647<n
 ·rw [if_pos hg]
  rcases Int.lt_or_le n 0 with h0 | h0
  ·have d0:decide (n<0)=true:=by simpa using h0
   clear hg
   go_enter Tryz.func29,Tryz.ntmps29
   go_wp2
   go_ret
   exact ⟨_,rfl,World.ownsRow_nil _ _ _ _,Below.refl _ _⟩
  ·have d0:decide (n<0)=false:=by simpa using h0
   have d1:decide (2147483647<n)=true:=by simp;omega
   clear hg
   go_enter Tryz.func29,Tryz.ntmps29
   go_wp2
   go_ret
   exact ⟨_,rfl,World.ownsRow_nil _ _ _ _,Below.refl _ _⟩
 ·rw [if_neg hg]
  obtain ⟨m,rfl⟩:=Int.eq_ofNat_of_zero_le (show 0≤n by omega)
  rw [Int.toNat_natCast]
  have hm:(m:Int)≤2147483647:=by omega
  have hm2:(0:Int)≤(m:Int):=by omega
  have HS:=Lib.hid (Bn.spl4 m)
  have HL:=Lib.hid (Bn.spl_len m 4)
  clear hg
  go_enter Tryz.func29,Tryz.ntmps29
  go_wp2
  go_ret
  refine ⟨_,rfl,owns_built w [_,_,_,_] _ 4 rfl (by unfold maxLen;omega) |> fun h=>ownsRow_nth h (by rw [HL.out]) (by rw [HS.out];simp [u8s];omega),(Below.refl _ w).alloc (Nat.le_refl _) _⟩
theorem spl_at (n:Nat):∀ k i,i<k→(Bn.spl n k)[i]?.getD 0=((n / 256 ^ (k-1-i) % 256:Nat):Int):=by
 intro k
 induction k with
 |zero=>intro i hi;omega
 |succ k ih=>
  intro i hi
  cases i with
  |zero=>simp [Bn.spl]
  |succ i=>
   simp only [Bn.spl,List.getElem?_cons_succ]
   rw [ih i (by omega),show k+1-1-(i+1)=k-1-i by omega]
theorem pow_step (i:Nat) (h:i<7):256 ^ (7-i) / 256=256 ^ (7-(i+1)):=by
 rw [show 7-i=(7-(i+1))+1 by omega,Nat.pow_succ,Nat.mul_div_cancel _ (by omega)]
set_option maxRecDepth 100000 in
set_option maxHeartbeats 2000000 in
theorem ref06Long_any (n:Int) (w:World):Calls Tryz.prog 119 #[.int .i64 n] w (Got w (spl64 n)):=by
 obtain ⟨i0,hi,hz0,hz1,hz2⟩:=info_parts info_u8
 obtain ⟨m,hm⟩:∃ m:Nat,IntKind.u64.wrap n=(m:Int):=⟨(IntKind.u64.wrap n).toNat,by rw [IntKind.wrap_u64];omega⟩
 have hlt:m<18446744073709551616:=by rw [IntKind.wrap_u64] at hm;omega
 unfold spl64
 rw [hm,Int.toNat_natCast]
 have hat:=spl_at m 8
 have hlen:=Bn.spl_len m 8
 generalize Bn.spl m 8=l at *
 have HAT:=Lib.hid hat
 have HLEN:=Lib.hid hlen
 clear hat hlen
 go_enter Tryz.func119,Tryz.ntmps119
 go_wp2
 go_loopw [4,5,6] (fun o st i wr=>∃ (q p:Nat),q≤8∧i=.int .i64 (q:Int)∧st=.int .u64 (p:Int)∧(q≤7→p=256 ^ (7-q))∧p≤72057594037927936∧wr.ownsRow w.heap.size 5 1 o q (u8s (l.take q))∧Below w.heap.size w wr) (fun _ _ i _=>8-(intOf i).toNat)
 case atStart=>exact ⟨0,72057594037927936,by omega,rfl,rfl,fun _=>by decide,Nat.le_refl _,World.ownsRow_nil _ _ _ _,Below.refl _ _⟩
 case round=>
  obtain ⟨q,p,hq,rfl,rfl,hp,hpb,hown,hB⟩:=hrel
  by_cases hlt8:q<8
  ·have hp7:=hp (by omega)
   have hpos:0<p:=by rw [hp7];exact Nat.pow_pos (by omega)
   have hx:=HAT.out q hlt8
   rw [show 8-1-q=7-q by omega,←hp7] at hx
   have hT:=take_succ_getD l q (by rw [HLEN.out];exact hlt8)
   rw [hx] at hT
   have HT:=Lib.hid hT
   have HP:=Lib.hid hp7
   have HX:=Lib.hid hx
   have hlx:(l.take q).length=q:=by rw [List.length_take,HLEN.out];omega
   have HLX:=Lib.hid hlx
   have hB0:=Lib.hid hB
   have hOwn:=Lib.hid hown
   clear hp hp7 hx hT hlx hB
   have hdv:(m:Int) / (p:Int)=((m / p:Nat):Int):=(Int.natCast_ediv m p).symm
   have hA0:=fun x:Int=>(Below.refl _ wr).alloc (Nat.le_refl _) (.cells #[.int .u8 x] 5)
   have hOA:=fun x:Int=>ownsRow_below hOwn.out (hA0 x)
   obtain ⟨d,hd⟩:∃ d:Nat,m / p=d:=⟨_,rfl⟩
   have hdl:d≤m:=by rw [←hd];exact Nat.div_le_self m p
   rw [hd] at hdv HT HX
   have hw:IntKind.u64.wrap (d:Int)=(d:Int):=by rw [IntKind.wrap_u64];omega
   obtain ⟨f,hf,hf2⟩:∃ f:Nat,d % 256=f∧f≤255:=⟨_,rfl,by omega⟩
   have htm:(d:Int).tmod 256=(f:Int):=by rw [Int.tmod_eq_emod_of_nonneg (by omega)];omega
   have hff:(f:Int) % 256=(f:Int):=by omega
   rw [hf] at HT HX
   clear hd hf
   go_wp2_with (at_builtin;go_loud (refine wpList_append_cells _ rfl _ _ 26 rfl w.heap.size 5 i0 (.int .u8 0) 1 1 Tryz.underlying26 hi hz0 hz1 hz2 rfl (by decide) u4 q (u8s (l.take q)) rfl (hOA (f:Int)) (some ⟨wr.heap.size,0,none⟩) 1 1 [.int .u8 (f:Int)] rfl ⟨rfl,.inr ⟨_,rfl,cells_new wr [.int .u8 (f:Int)] 5⟩⟩ (by simp [Value.oneCell']) (by unfold maxLen;omega) (by omega) (by have:=hB0.out.size;simp;omega) ?_);intro v2 w2 hown2 hg2)
   go_roundw
   all_goals (first
    |(case' rel=>exact ⟨q+1,p / 256,by omega,by go_num,by first | rfl | (go_num),fun h=>by rw [HP.out];exact pow_step q (by omega),by omega,ownsRow_nth hown2 rfl (by rw [HT.out,u8s_append];simp [u8s]),(hB0.out.trans ((hA0 _).mono hB0.out.size)).trans (below_grown hg2 (hOA _) (by have:=hB0.out.size;simp;omega))⟩)
    |(case' measure=>simp [intOf];omega))
  ·obtain rfl:q=8:=by omega
   have hx:l.take 8=l:=List.take_of_length_le (by rw [HLEN.out];exact Nat.le_refl _)
   rw [hx] at hown
   have HL:=HLEN.out
   go_wp2
   go_ret
   exact ⟨_,rfl,ownsRow_nth hown (by rw [HL]) rfl,hB⟩
set_option maxRecDepth 100000 in
set_option maxHeartbeats 1000000 in
theorem ref06Text_any (s:ByteArray) (w:World) (hs:s.size≤900000000):Calls Tryz.prog 30 #[.string s] w (Got w (Bn.spl s.size 4++strB s)):=by
 obtain ⟨i0,hi,hz0,hz1,hz2⟩:=info_parts info_u8
 have hN:=fun w=>ref06Num_any (s.size:Int) w
 rw [spn_in _ _ _ (by omega) (by omega),Int.toNat_natCast] at hN
 have hl4:=Bn.spl_len s.size 4
 generalize Bn.spl s.size 4=l at *
 have hsm:s.size≤maxLen:=by unfold maxLen;omega
 have HL:=Lib.hid hl4;clear hl4
 have hls:=Lib.hid (strB_len s)
 go_enter Tryz.func30,Tryz.ntmps30
 go_wp2_with (first
  |(go_at_call 29;(with_reducible refine (hN _).mono ?_);rintro e w1 ⟨v1,rfl,ho1,hb1⟩;obtain ⟨cap2,w2,run2,row2,hb2⟩:=conv_bytes w1 s hsm;have ho2:=ownsRow_below ho1 hb2;have hb12:=hb1.trans (hb2.mono hb1.size))
  |(at_builtin;refine wpList_append_cells _ rfl _ _ 26 rfl w.heap.size 5 i0 (.int .u8 0) 1 1 Tryz.underlying26 hi hz0 hz1 hz2 rfl (by decide) v1 l.length (u8s l) rfl ho2 (some ⟨w1.heap.size,0,none⟩) s.size cap2 (u8s (strB s)) rfl (cells_of_row row2) (by simp [u8s,Value.oneCell']) (by rw [HL.out];unfold maxLen;omega) (by rw [HL.out];omega) hb12.size ?_;intro v3 w3 hown3 hg3))
 go_ret
 exact ⟨_,rfl,ownsRow_nth hown3 (by rw [List.length_append,hls.out]) (by rw [u8s_append]),hb12.trans (below_grown hg3 ho2 hb12.size)⟩
theorem own_app {w:World} {base:Nat} {v:Value} {l r:List Int} (h:w.ownsRow base 5 1 v l.length (u8s l)) (hbase:base≤w.heap.size) {v2:Value} (h2:IsSl w v2 r) (hl:l.length+r.length≤1000000000) (ty:TypeId) :
  ∃ v' w',(Builtin.append_ #[26,26] ty #[v,v2]).run Tryz.prog w=.ok v' w'∧w'.ownsRow base 5 1 v' (l++r).length (u8s (l++r))∧Below base w w':=by
 obtain ⟨i0,hi,hz0,hz1,hz2⟩:=info_parts info_u8
 obtain ⟨a,n,c,rfl,hr⟩:=h2
 have hn:=hr.1
 obtain ⟨v',w',h1,h2,h3⟩:=run_append_cells (P:=Tryz.prog) w base 26 ty 5 i0 (.int .u8 0) 1 1 Tryz.underlying26 hi hz0 hz1 hz2 rfl (by decide) v l.length (u8s l) h a n c (u8s r) (cells_of_row hr) (by simp [u8s,Value.oneCell']) (by unfold maxLen;omega) (by omega) hbase
 exact ⟨v',w',h1,ownsRow_nth h2 (by rw [List.length_append];omega) (by rw [u8s_append]),below_grown h3 h hbase⟩
theorem put_own (w:World) (k n:Int) (s:ByteArray) (a:Option Addr) (len cap:Nat):((w.alloc (vobj k n s a len cap)).alloc (.cells #[.int .u8 k] 5)).ownsRow (w.alloc (vobj k n s a len cap)).heap.size 5 1 (.slice (some ⟨w.heap.size+1,0,none⟩) 1 1) [k].length (u8s [k]):=by
 have h:=owns_built (w.alloc (vobj k n s a len cap)) [.int .u8 k] 5 1 rfl (by unfold maxLen;omega)
 have e:(w.alloc (vobj k n s a len cap)).heap.size=w.heap.size+1:=World.size_alloc _ _
 rw [e] at h ⊢
 exact h
theorem put_head (w:World) (k n:Int) (s:ByteArray) (a:Option Addr) (len cap:Nat) :
  ((w.alloc (vobj k n s a len cap)).alloc (.cells #[.int .u8 k] 5)).ownsRow w.heap.size 5 1 (.slice (some ⟨w.heap.size+1,0,none⟩) 1 1) [k].length (u8s [k]) ∧
  Below (w.alloc (vobj k n s a len cap)).heap.size (w.alloc (vobj k n s a len cap)) ((w.alloc (vobj k n s a len cap)).alloc (.cells #[.int .u8 k] 5)) ∧
  Below w.heap.size w ((w.alloc (vobj k n s a len cap)).alloc (.cells #[.int .u8 k] 5)) ∧
  ((w.alloc (vobj k n s a len cap)).alloc (.cells #[.int .u8 k] 5)).cell? ⟨w.heap.size,0,none⟩=some (.int .i64 k)∧((w.alloc (vobj k n s a len cap)).alloc (.cells #[.int .u8 k] 5)).cell? ⟨w.heap.size,1,none⟩=some (.int .i64 n) ∧
  ((w.alloc (vobj k n s a len cap)).alloc (.cells #[.int .u8 k] 5)).cell? ⟨w.heap.size,2,none⟩=some (.string s)∧((w.alloc (vobj k n s a len cap)).alloc (.cells #[.int .u8 k] 5)).cell? ⟨w.heap.size,3,none⟩=some (.slice a len cap):=by
 have hB0:=(Below.refl _ w).alloc (Nat.le_refl _) (vobj k n s a len cap)
 have hb1:=(Below.refl (w.alloc (vobj k n s a len cap)).heap.size (w.alloc (vobj k n s a len cap))).alloc (Nat.le_refl _) (.cells #[.int .u8 k] 5)
 exact ⟨ownsRow_mono (put_own w k n s a len cap) hB0.size,hb1,hB0.trans (hb1.mono hB0.size),box_cells hb1⟩
set_option maxRecDepth 100000 in
set_option maxHeartbeats 4000000 in
theorem ref06Put_any (v:PV):okV v=true→210*szV v≤900000000→∀ w x,Is w v x→Calls Tryz.prog 94 #[x] w (Got w (putV v)):=by
 induction v using pv_ind with
 |h k n s l ih=>
  intro hok hsz w x hi
  have hln:=bput_len _ hok
  obtain ⟨⟨hk0,hk5⟩,hn1,hs200,hl5,hl20,hol,-,-⟩:=ok_parts hok
  simp only [szV] at hsz hln
  unfold Is at hi
  obtain ⟨h1,h2,h3,a,cap,rfl,h4,h5,h6⟩:=hi
  have hm:l.length≤maxLen:=Nat.le_trans h4 h5
  unfold maxLen at hm
  have hB0:=(Below.refl _ w).alloc (Nat.le_refl _) (vobj k n s a l.length cap)
  clear hok
  have HD:=Lib.hid (put_head w k n s a l.length cap)
  by_cases k0:k=0
  ·subst k0
   obtain ⟨ho1,hb1,hA1,e0,e1,e2,e3⟩:=HD.out
   have hp:putV (.mk 0 n s l) = [0]:=by simp [putV]
   rw [hp]
   clear ih h6 hp hln hol hl5 hn1
   go_enter Tryz.func94,Tryz.ntmps94
   go_wp2_with fail
   go_ret
   exact ⟨_,rfl,ho1,hA1⟩
  by_cases k1:k=1
  ·subst k1
   obtain ⟨ho1,hb1,hA1,e0,e1,e2,e3⟩:=HD.out
   have hp:putV (.mk 1 n s l) = [1] ++ [n]:=by simp [putV]
   rw [hp]
   have hn9:=hn1 rfl
   have hA2:=(Below.refl _ ((w.alloc (vobj 1 n s a l.length cap)).alloc (.cells #[.int .u8 1] 5))).alloc (Nat.le_refl _) (.cells #[.int .u8 n] 5)
   obtain ⟨v4,w4,hrun,ho4,hb4⟩:=own_app (ownsRow_below ho1 hA2) (by have:=hA1.size;have:=hA2.size;omega) (isSl_own (l:=[n]) (owns_built ((w.alloc (vobj 1 n s a l.length cap)).alloc (.cells #[.int .u8 1] 5)) [.int .u8 n] 5 1 rfl (by unfold maxLen;omega))) (by simp) 26
   have hb04:=(hA1.trans (hA2.mono hA1.size)).trans hb4
   clear ih h6 hp hln hol hl5 hn1 k0 hb4 ho1 hA1 hA2
   simp only [World.size_alloc] at hrun
   rcases hn9 with rfl | rfl
   ·go_enter Tryz.func94,Tryz.ntmps94
    go_wp2_with (at_builtin;refine Lib.wpList_append_run _ rfl _ _ _ _ rfl _ _ rfl rfl _ _ hrun ?_)
    go_ret
    exact ⟨_,rfl,ho4,hb04⟩
   ·go_enter Tryz.func94,Tryz.ntmps94
    go_wp2_with (at_builtin;refine Lib.wpList_append_run _ rfl _ _ _ _ rfl _ _ rfl rfl _ _ hrun ?_)
    go_ret
    exact ⟨_,rfl,ho4,hb04⟩
  by_cases k2:k=2
  ·subst k2
   obtain ⟨ho1,hb1,hA1,e0,e1,e2,e3⟩:=HD.out
   have hN:=fun w=>ref06Long_any n w
   have hp:putV (.mk 2 n s l) = [2]++spl64 n:=by simp [putV]
   have h64:(spl64 n).length=8:=by simp [spl64,Bn.spl_len]
   rw [hp]
   generalize spl64 n=r at *
   clear ih h6 hp hln hol hl5 hn1 k0 k1
   go_enter Tryz.func94,Tryz.ntmps94
   go_wp2_with (first
    |(go_at_call 119;(with_reducible refine (hN _).mono ?_);rintro e w3 ⟨v3,rfl,ho3,hb3⟩;have hA3:=hA1.trans (hb3.mono hA1.size);obtain ⟨v4,w4,hrun,ho4,hb4⟩:=own_app (ownsRow_below ho1 hb3) hA3.size (isSl_own ho3) (by rw [h64];simp) 26)
    |(at_builtin;refine Lib.wpList_append_run _ rfl _ _ _ _ rfl _ _ rfl rfl _ _ hrun ?_))
   go_ret
   exact ⟨_,rfl,ho4,hA3.trans hb4⟩
  by_cases k34:k=3∨k=4
  ·have hN:=fun w=>ref06Text_any s w (by omega)
   have hp:putV (.mk k n s l) = [k]++(Bn.spl s.size 4++strB s):=by simp only [putV];rw [if_neg k1,if_neg k2,if_pos k34];rfl
   have h64:(Bn.spl s.size 4++strB s).length=4+s.size:=by simp [Bn.spl_len,strB_len]
   rw [hp]
   clear ih h6 hp hln hol hl5 hn1 k0 k1 k2
   generalize Bn.spl s.size 4++strB s=r at *
   rcases k34 with rfl | rfl
   all_goals (
    obtain ⟨ho1,hb1,hA1,e0,e1,e2,e3⟩:=HD.out
    go_enter Tryz.func94,Tryz.ntmps94
    go_wp2_with (first
     |(go_at_call 30;(with_reducible refine (hN _).mono ?_);rintro e w3 ⟨v3,rfl,ho3,hb3⟩;have hA3:=hA1.trans (hb3.mono hA1.size);obtain ⟨v4,w4,hrun,ho4,hb4⟩:=own_app (ownsRow_below ho1 hb3) hA3.size (isSl_own ho3) (by rw [h64];simp;omega) 26)
     |(at_builtin;refine Lib.wpList_append_run _ rfl _ _ _ _ rfl _ _ rfl rfl _ _ hrun ?_))
    go_ret
    exact ⟨_,rfl,ho4,hA3.trans hb4⟩)
  ·obtain rfl:k=5:=by omega
   obtain ⟨ho1,hb1,hA1,e0,e1,e2,e3⟩:=HD.out
   have hN:=fun w=>ref06Num_any (l.length:Int) w
   rw [spn_in _ _ _ (by omega) (by omega),Int.toNat_natCast] at hN
   have hp:putV (.mk 5 n s l)=5 :: (Bn.spl l.length 4++putL l):=by simp [putV]
   have hls:=Bn.spl_len l.length 4
   rw [hp] at hln ⊢
   simp only [List.length_cons,List.length_append,hls] at hln
   have hplen:∀ q,(putL (l.take q)).length≤900000000:=fun q=>Nat.le_trans (putL_take_len l q) (by omega)
   have HP:=Lib.hid hplen
   have HI:Hid (∀ y∈l,∀ w x,Is w y x→Calls Tryz.prog 94 #[x] w (Got w (putV y))):=Lib.hid (fun y hy=>ih y hy (okL_mem hol y hy) (by have:=szL_mem hy;omega))
   clear ih hp hln hol hl5 hn1 k0 k1 k2 k34 hplen
   generalize Bn.spl l.length 4=r at *
   have HLS:=Lib.hid hls;clear hls
   go_enter Tryz.func94,Tryz.ntmps94
   go_wp2_with (first
    |(go_at_call 29;(with_reducible refine (hN _).mono ?_);rintro e w3 ⟨v3,rfl,ho3,hb3⟩;have hb13:=hb1.trans (hb3.mono hb1.size);have hA3:=hA1.trans (hb3.mono hA1.size);obtain ⟨v4,w4,hrun,ho4,hb4⟩:=own_app (ownsRow_below (ownsRow_mono (base':=(w.alloc (vobj 5 n s a l.length cap)).heap.size) (put_own w 5 n s a l.length cap) (Nat.le_refl _)) hb3) hb13.size (isSl_own ho3) (by rw [HLS.out];simp) 26;have hb14:=hb13.trans hb4;obtain ⟨f0,f1,f2,f3⟩:=box_cells hb14)
    |(at_builtin;refine Lib.wpList_append_run _ rfl _ _ _ _ rfl _ _ rfl rfl _ _ hrun ?_))
   go_loopw [3,4] (fun c i wr=>∃ q:Nat,q≤l.length∧i=.int .i64 (q:Int)∧wr.ownsRow (w.alloc (vobj 5 n s a l.length cap)).heap.size 5 1 c (5 :: (r++putL (l.take q))).length (u8s (5 :: (r++putL (l.take q))))∧Below (w.alloc (vobj 5 n s a l.length cap)).heap.size (w.alloc (vobj 5 n s a l.length cap)) wr) (fun _ i _=>l.length-(intOf i).toNat)
   case atStart=>exact ⟨0,Nat.zero_le _,rfl,by simpa [putL] using ho4,hb14⟩
   case round=>
   obtain ⟨q,hq,rfl,hown,hB⟩:=hrel
   clear e0 e1 e2 e3 f0 f1 f2 f3 hrun hb4 hb14 ho4 ho3 hb3 ho1 hA1 hA3 hb13 hb1 hN HD
   obtain ⟨f0,f1,f2,f3⟩:=box_cells hB
   have hln:=HP.out q
   by_cases hql:q<l.length
   ·have hdq:decide (q<l.length)=true:=by simpa using hql
    obtain ⟨y,hy⟩:∃ y,l[q]? = some y:=⟨l[q],List.getElem?_eq_getElem hql⟩
    obtain ⟨b,off,rfl,hIs⟩:∃ b off,a=some ⟨b,off,none⟩∧IsL w b l off:=by
     rcases h6 with h | h
     ·subst h;simp at hql
     ·exact h
    have hT:=putL_take l q y hy
    have hln2:=HP.out (q+1)
    rw [hT,List.length_append] at hln2
    have HT:=Lib.hid hT
    have hcall:=fun w x hx=>HI.out y (List.mem_of_getElem? hy) w x hx
    generalize putV y=py at *
    cases y with
    |mk yk yn ys yl=>
    obtain ⟨ya,yc,⟨g0,g1,g2,g3⟩,hiy⟩:=isL_val (isL_below hB (isL_below hB0 hIs)) q _ _ _ _ hy
    have hi2:=Lib.hid hiy
    have HC:=Lib.hid hcall
    have HOW:=Lib.hid hown
    clear h6 hIs hiy hy hcall hT hown
    go_wp2_with (first
     |(go_at_call 94;(with_reducible refine (HC.out _ _ hi2.out).mono ?_);rintro e w3 ⟨v3,rfl,ho3,hb3⟩;obtain ⟨v4,w4,hrun,ho4,hb4⟩:=own_app (ownsRow_below HOW.out hb3) (Nat.le_trans hB.size hb3.size) (isSl_own ho3) (by simp only [List.length_cons,List.length_append,HLS.out];omega) 26)
     |(at_builtin;refine Lib.wpList_append_run _ rfl _ _ _ _ rfl _ _ rfl rfl _ _ hrun ?_))
    go_roundw
    all_goals (first
     |(case' rel=>exact ⟨q+1,by omega,by go_num,by rw [HT.out];simpa using ho4,(hB.trans (hb3.mono hB.size)).trans hb4⟩)
     |(case' measure=>simp [intOf];omega))
   ·obtain rfl:q=l.length:=by omega
    have hdq:decide (l.length<l.length)=false:=by simp
    rw [List.take_length] at hown
    go_wp2_with fail
    go_ret
    exact ⟨_,rfl,ownsRow_mono hown hB0.size,hB0.trans (hB.mono hB0.size)⟩
set_option maxHeartbeats 1000000 in
theorem ref06Value_any (v:PV) (hsz:szV v≤1000000) (w:World) (x:Value) (hi:Is w v x):Calls Tryz.prog 64 #[x] w (Got w (valB v)):=by
 have hR:=fun w x hi=>refRight_any v hsz w x hi
 have hP:=fun h:rightV v=true=>ref06Put_any v (right_ok h).1 (by have:=(right_ok h).2.1;omega)
 unfold valB
 obtain ⟨r,hr⟩:∃ r,rightV v=r:=⟨_,rfl⟩
 rw [hr] at hR hP ⊢
 generalize putV v=l at hP
 have hi2:=Lib.hid hi
 obtain ⟨k,m,s,a,len,cap,rfl⟩:=is_form hi
 have hB0:=(Below.refl _ w).alloc (Nat.le_refl _) (vobj k m s a len cap)
 clear hr hi
 cases r with
 |false=>
  rw [if_neg (by simp)]
  clear hP
  go_enter Tryz.func64,Tryz.ntmps64
  go_wp2_with (first
   |(go_at_call 93;(with_reducible refine (hR _ _ (is_below hB0 _ _ hi2.out)).mono ?_);rintro e w1 ⟨rfl,hb1⟩))
  all_goals go_ret
  all_goals exact ⟨_,rfl,World.ownsRow_nil _ _ _ _,hB0.trans (hb1.mono hB0.size)⟩
 |true=>
  rw [if_pos rfl]
  have hP':=hP rfl
  clear hP
  go_enter Tryz.func64,Tryz.ntmps64
  go_wp2_with (first
   |(go_at_call 93;(with_reducible refine (hR _ _ (is_below hB0 _ _ hi2.out)).mono ?_);rintro e w1 ⟨rfl,hb1⟩;have hB1:=hB0.trans (hb1.mono hB0.size);obtain ⟨e0,e1,e2,e3⟩:=box_cells hb1)
   |(go_at_call 94;(with_reducible refine (hP' _ _ (is_below hB1 _ _ hi2.out)).mono ?_);rintro e w2 ⟨v2,rfl,ho2,hb2⟩))
  all_goals go_ret
  all_goals exact got_under hB1 ⟨_,rfl,ho2,hb2⟩
set_option linter.unusedVariables false
set_option linter.unusedSimpArgs false
set_option maxRecDepth 100000
open Go.RowKit Go.Shelf
theorem isSl_byte (W:World) (n:Int):IsSl (W.alloc (.cells #[.int .u8 n] 5)) (.slice (some ⟨W.heap.size,0,none⟩) 1 1) [n]:=by
 refine ⟨_,1,1,rfl,rfl,Nat.le_refl _,by unfold maxLen;omega,.inr ⟨_,0,rfl,fun i hi=>?_⟩⟩
 obtain rfl:i=0:=by omega
 simp
theorem txt06_any (s:ByteArray) (w:World) (hs:s.size≤1000000):Calls Tryz.prog 30 #[.string s] w (Got w (Rg.txtB s)):=ref06Text_any s w (by omega)
theorem rg_below_drew (w:World):Below w.heap.size w w.drew:=⟨rfl,rfl,rfl,Nat.le_refl _,fun _ _=>rfl⟩
theorem wrap8 {n:Int} (h0:0≤n) (h1:n≤255):IntKind.u8.wrap n=n:=by
 have e:IntKind.u8.wrap n=n % 256:=by simp [IntKind.wrap,IntKind.signed,IntKind.bits]
 rw [e];omega
set_option maxHeartbeats 8000000 in
theorem refSlot13_any (s:SlotM) (hs9:Rg.sound' s) (w:World) (x:Value) (hs:IsSlot w s x):Calls Tryz.prog 31 #[x] w (Got w (Rg.slotB s)):=by
 obtain ⟨i0,hi,hz0,hz1,hz2⟩:=info_parts info_u8
 obtain ⟨k,n,t,a,len,cap,rfl,hI,hnm,hd⟩:=slot7_form hs
 obtain ⟨h1,h2,h3,h4⟩:=hs9
 have hB0:=(Below.refl _ w).alloc (Nat.le_refl _) (.cells #[.string s.nm,.int .i64 s.ty,.bool s.rq,.int .i64 k,.int .i64 n,.string t,.slice a len cap] 57)
 have hT:=fun W=>txt06_any s.nm W h1
 have hV:=fun W (hb:Below w.heap.size w W)=>ref06Value_any s.df (by have:=(right_ok h4).2.1;omega) W _ (is_below hb _ _ hd)
 have hl1:=Rg.txtB_len s.nm
 have hl4:=Rg.valB_len9 s.df
 have hw8:=wrap8 h2 h3
 unfold Rg.slotB
 rw [Rg.byB_in h2 h3]
 have hq:Rg.byB (if s.rq=true then 1 else 0) = [if s.rq=true then 1 else 0]:=Rg.byB_in (by split<;>omega) (by split<;>omega)
 rw [hq]
 generalize Rg.txtB s.nm=L1 at *
 generalize valB s.df=L4 at *
 have HL:=Lib.hid (And.intro hl1 (And.intro hl4 h1));have HT:=Lib.hid hT;have HV:=Lib.hid hV
 have hc0:∀ W,Below (w.alloc (.cells #[.string s.nm,.int .i64 s.ty,.bool s.rq,.int .i64 k,.int .i64 n,.string t,.slice a len cap] 57)).heap.size (w.alloc (.cells #[.string s.nm,.int .i64 s.ty,.bool s.rq,.int .i64 k,.int .i64 n,.string t,.slice a len cap] 57)) W →
   (W.cell? ⟨w.heap.size,0,none⟩=some (.string s.nm)∧W.cell? ⟨w.heap.size,1,none⟩=some (.int .i64 s.ty)∧W.cell? ⟨w.heap.size,2,none⟩=some (.bool s.rq))∧(W.cell? ⟨w.heap.size,3,none⟩=some (.int .i64 k)∧W.cell? ⟨w.heap.size,4,none⟩=some (.int .i64 n))∧(W.cell? ⟨w.heap.size,5,none⟩=some (.string t)∧W.cell? ⟨w.heap.size,6,none⟩=some (.slice a len cap)):=fun W hb=>
  ⟨⟨cell_below hb (by simp),cell_below hb (by simp),cell_below hb (by simp)⟩,⟨cell_below hb (by simp),cell_below hb (by simp)⟩,cell_below hb (by simp),cell_below hb (by simp)⟩
 have HC0:=Lib.hid hc0
 clear hc0 hs hd hV hT hl1 hl4 hI h1 h2 h3 h4 hq
 obtain ⟨Q,hQ⟩:∃ Q:Int,(if s.rq=true then 1 else 0)=Q:=⟨_,rfl⟩
 rw [hQ]
 have HQ:=Lib.hid hQ
 clear hQ
 obtain ⟨nm,ty,rq,df⟩:=s
 simp only at *
 obtain ⟨W0,hW0⟩:∃ V,w.alloc (.cells #[.string nm,.int .i64 ty,.bool rq,.int .i64 k,.int .i64 n,.string t,.slice a len cap] 57)=V:=⟨_,rfl⟩
 rw [hW0] at HC0 hB0
 go_enter Tryz.func31,Tryz.ntmps31
 go_wp2_with fail
 try rw [hW0]
 obtain ⟨b,hb⟩:∃ b,w.heap.size=b:=⟨_,rfl⟩
 have hbb:=hb
 rw [hb] at HC0 ⊢
 have HW0:=Lib.hid hW0
 clear hW0 hb
 go_cut [3] from 4 to 11 (fun s3 W=>W.ownsRow W0.heap.size 5 1 s3 (L1 ++ [ty]).length (u8s (L1 ++ [ty]))∧Below W0.heap.size W0 W)
 case first=>
  refine wp_regionZ (S:=fun W=>Below W0.heap.size W0 W) 8 9 #[false,false,false,false,false,false,false,false,false] (by kernel_rfl) (by kernel_rfl) (by kernel_rfl) ?_
  have hS0:=rg_below_drew W0
  obtain ⟨V0,hV0⟩:∃ V0,W0.drew=V0:=⟨_,rfl⟩
  rw [hV0] at hS0 ⊢
  clear hV0
  refine lastZ_take (i:=0) (v:=?_) rfl (by kernel_rfl) (by kernel_rfl) (by kernel_rfl) (by kernel_rfl) (fun _ _ _ h=>h) (Or.inl ⟨by rfl, ?_⟩) (by assumption) ?_
  rotate_left
  ·intro w8 hSw;obtain ⟨⟨x0,x1,x2⟩,⟨x3,x4⟩,x5,x6⟩:=HC0.out _ hSw;clear hSw;go_simp;(try with_reducible rfl)
  (try simp only [Act.put,List.setIfInBounds_toArray,List.set_cons_zero,List.set_cons_succ])
  refine lastZ_take (i:=1) (v:=?_) rfl (by kernel_rfl) (by kernel_rfl) (by kernel_rfl) (by kernel_rfl) (fun _ _ _ h=>h) (Or.inl ⟨by rfl, ?_⟩) (by assumption) ?_
  rotate_left
  ·intro w8 hSw;obtain ⟨⟨x0,x1,x2⟩,⟨x3,x4⟩,x5,x6⟩:=HC0.out _ hSw;clear hSw;go_simp;(try with_reducible rfl)
  (try simp only [Act.put,List.setIfInBounds_toArray,List.set_cons_zero,List.set_cons_succ])
  refine lastZ_take (i:=3) (v:=?_) rfl (by kernel_rfl) (by kernel_rfl) (by kernel_rfl) (by kernel_rfl) (fun _ _ _ h=>h) (Or.inl ⟨by rfl, ?_⟩) (by assumption) ?_
  rotate_left
  ·intro w8 hSw;obtain ⟨⟨x0,x1,x2⟩,⟨x3,x4⟩,x5,x6⟩:=HC0.out _ hSw;clear hSw;go_simp;(try with_reducible rfl)
  (try simp only [Act.put,List.setIfInBounds_toArray,List.set_cons_zero,List.set_cons_succ])
  refine lastZ_take (i:=4) (v:=?_) rfl (by kernel_rfl) (by kernel_rfl) (by kernel_rfl) (by kernel_rfl) (fun _ _ _ h=>h) (Or.inl ⟨by rfl, ?_⟩) (by assumption) ?_
  rotate_left
  ·intro w8 hSw;obtain ⟨⟨x0,x1,x2⟩,⟨x3,x4⟩,x5,x6⟩:=HC0.out _ hSw;clear hSw;go_simp;(try with_reducible rfl)
  (try simp only [Act.put,List.setIfInBounds_toArray,List.set_cons_zero,List.set_cons_succ])
  refine lastZ_take (i:=5) (v:=?_) rfl (by kernel_rfl) (by kernel_rfl) (by kernel_rfl) (by kernel_rfl) (fun _ _ _ h=>h) (Or.inl ⟨by rfl, ?_⟩) (by assumption) ?_
  rotate_left
  ·intro w8 hSw;obtain ⟨⟨x0,x1,x2⟩,⟨x3,x4⟩,x5,x6⟩:=HC0.out _ hSw;clear hSw;go_simp;(try with_reducible rfl)
  (try simp only [Act.put,List.setIfInBounds_toArray,List.set_cons_zero,List.set_cons_succ])
  (with_reducible refine lastZ_two (i:=2) (j:=6) (o:=?obs0) (o':=?obm0) (by kernel_rfl) ?hos0 ?hom0 (fun K hK=>?sts0) (fun K hK=>?stm0))
  case hos0=>exact rfl
  case hom0=>exact rfl
  case sts0=>
   go_simp
   go_wp2_with (go_at_call 30;(with_reducible refine (HT.out _).mono ?_);rintro e w1 ⟨v1,rfl,ho1,hb1⟩;have hS1:=hS0.trans (hb1.mono hS0.size))
   refine hK.out _ _ (.inr hS1) ?_
   clear hK K
   (with_reducible refine lastZ_one (i:=6) (o:=?ob1) (by kernel_rfl) ?ho1' (fun K hK=>?st1))
   case ho1'=>exact rfl
   go_simp
   have hA2:=(Below.refl _ w1).alloc (Nat.le_refl _) (.cells #[.int .u8 ty] 5)
   have hS2:=hS1.trans (hA2.mono hS1.size)
   have ho2:=ownsRow_mono (ownsRow_below ho1 hA2) hS0.size
   have hsl:=isSl_byte w1 ty
   obtain ⟨V2,hU⟩:∃ U,w1.alloc (.cells #[.int .u8 ty] 5)=U:=⟨_,rfl⟩
   obtain ⟨ga,hga⟩:∃ g,w1.heap.size=g:=⟨_,rfl⟩
   rw [hU] at hS2 ho2 hsl ⊢
   rw [hga] at hsl ⊢
   clear hU hA2 hga ho1 hS1
   refine hK.out _ _ (.inr hS2) ?_
   clear hK K
   obtain ⟨aS,nS,cS,eS,hrS⟩:=hsl
   injection eS with eS1 eS2 eS3
   subst eS1 eS2 eS3
   have hszW:W0.heap.size≤V2.heap.size:=hS2.size
   (with_reducible refine lastZ_one (i:=7) (o:=?ob7V2) (by kernel_rfl) ?ho7V2 (fun K hK=>?st7V2))
   case ho7V2=>exact rfl
   refine step_append_at _ rfl _ _ 26 rfl W0.heap.size 5 i0 (.int .u8 0) 1 1 Tryz.underlying26 hi hz0 hz1 hz2 rfl (by decide) v1 L1.length (u8s L1) (by first | rfl | simp [Act.eval]) ho2 (some ⟨ga,0,none⟩) 1 1 (u8s [ty]) (by first | rfl | simp [Act.eval]) (cells_of_row hrS) (by simp [u8s,Value.oneCell']) (by have:=HL.out;unfold maxLen;omega) (by have:=HL.out;omega) hszW ?_
   intro v4 V4 ho4 hg4 _
   have hS4:Below W0.heap.size W0 V4:=hS2.trans (below_grown hg4 ho2 hszW)
   have ho4':=ownsRow_nth ho4 (show L1.length+1=(L1 ++ [ty]).length by simp) (show u8s L1++u8s [ty]=u8s (L1 ++ [ty]) by rw [u8s_append])
   obtain ⟨a4,c4,rfl⟩:=own_form9 ho4'
   refine hK.out _ _ (.inr hS4) ?_
   clear hK K
   (with_reducible refine lastZ_one (i:=8) (o:=?ob8V2) (by kernel_rfl) ?ho8V2 (fun K hK=>?st8V2))
   case ho8V2=>exact rfl
   go_simp
   refine hK.out _ _ (.inl rfl) ?_
   clear hK K
   refine lastZ_done (by kernel_rfl) ?_ _
   go_wp2_with fail
   go_meet
   exact ⟨by simpa using ho4',hS4⟩
  case stm0=>
   go_simp
   have hA1:=(Below.refl _ V0).alloc (Nat.le_refl _) (.cells #[.int .u8 ty] 5)
   have hS1:=hS0.trans (hA1.mono hS0.size)
   have hsl0:=isSl_byte V0 ty
   have hbase:W0.heap.size≤(V0.alloc (.cells #[.int .u8 ty] 5)).heap.size:=hS1.size
   obtain ⟨V1,hU⟩:∃ U,V0.alloc (.cells #[.int .u8 ty] 5)=U:=⟨_,rfl⟩
   obtain ⟨ga,hga⟩:∃ g,V0.heap.size=g:=⟨_,rfl⟩
   rw [hU] at hS1 hsl0 hA1 hbase ⊢
   rw [hga] at hsl0 ⊢
   clear hU hA1 hga
   refine hK.out _ _ (.inr hS1) ?_
   clear hK K
   (with_reducible refine lastZ_one (i:=2) (o:=?ob2) (by kernel_rfl) ?ho2' (fun K hK=>?st2))
   case ho2'=>exact rfl
   go_simp
   go_wp2_with (go_at_call 30;(with_reducible refine (HT.out _).mono ?_);rintro e w1 ⟨v1,rfl,ho1,hb1⟩;have hS2:=hS1.trans (hb1.mono hS1.size))
   have hsl:=isSl_below hsl0 hb1
   have ho2:=ownsRow_mono ho1 hbase
   refine hK.out _ _ (.inr hS2) ?_
   clear hK K
   obtain ⟨aS,nS,cS,eS,hrS⟩:=hsl
   injection eS with eS1 eS2 eS3
   subst eS1 eS2 eS3
   have hszW:W0.heap.size≤w1.heap.size:=hS2.size
   (with_reducible refine lastZ_one (i:=7) (o:=?ob7w1) (by kernel_rfl) ?ho7w1 (fun K hK=>?st7w1))
   case ho7w1=>exact rfl
   refine step_append_at _ rfl _ _ 26 rfl W0.heap.size 5 i0 (.int .u8 0) 1 1 Tryz.underlying26 hi hz0 hz1 hz2 rfl (by decide) v1 L1.length (u8s L1) (by first | rfl | simp [Act.eval]) ho2 (some ⟨ga,0,none⟩) 1 1 (u8s [ty]) (by first | rfl | simp [Act.eval]) (cells_of_row hrS) (by simp [u8s,Value.oneCell']) (by have:=HL.out;unfold maxLen;omega) (by have:=HL.out;omega) hszW ?_
   intro v4 V4 ho4 hg4 _
   have hS4:Below W0.heap.size W0 V4:=hS2.trans (below_grown hg4 ho2 hszW)
   have ho4':=ownsRow_nth ho4 (show L1.length+1=(L1 ++ [ty]).length by simp) (show u8s L1++u8s [ty]=u8s (L1 ++ [ty]) by rw [u8s_append])
   obtain ⟨a4,c4,rfl⟩:=own_form9 ho4'
   refine hK.out _ _ (.inr hS4) ?_
   clear hK K
   (with_reducible refine lastZ_one (i:=8) (o:=?ob8w1) (by kernel_rfl) ?ho8w1 (fun K hK=>?st8w1))
   case ho8w1=>exact rfl
   go_simp
   refine hK.out _ _ (.inl rfl) ?_
   clear hK K
   refine lastZ_done (by kernel_rfl) ?_ _
   go_wp2_with fail
   go_meet
   exact ⟨by simpa using ho4',hS4⟩
 case rest=>
  obtain ⟨ho3,hB3⟩:=hcut
  have hb3:=hB0.trans (hB3.mono hB0.size)
  obtain ⟨⟨x0,x1,x2⟩,⟨x3,x4⟩,x5,x6⟩:=HC0.out _ hB3
  cases rq with
  |true=>
   obtain rfl:(1:Int)=Q:=by have:=HQ.out;simpa using this
   have hA4:=(Below.refl _ wc).alloc (Nat.le_refl _) (.cells #[.int .u8 1] 5)
   have ho4:=ownsRow_below ho3 hA4
   have hb4:=hB3.trans (hA4.mono hB3.size)
   obtain ⟨v5,w5,hrun5,ho5,hb5⟩:=own_app ho4 hb4.size (isSl_byte wc 1) (by have:=HL.out;simp;omega) 26
   have hc5:=hb4.trans hb5
   have hb5':=hB0.trans (hc5.mono hB0.size)
   obtain ⟨⟨y0,y1,y2⟩,⟨y3,y4⟩,y5,y6⟩:=HC0.out _ hc5
   clear hA4 ho4
   go_wp2_with (first
    |(at_builtin;refine Lib.wpList_append_run _ rfl _ _ _ _ rfl _ _ rfl rfl _ _ hrun5 ?_)
    |(go_at_call 64;(with_reducible refine (HV.out _ hb5').mono ?_);rintro e w6 ⟨v6,rfl,ho6,hb6⟩;obtain ⟨v7,w7,hrun7,ho7,hb7⟩:=own_app (ownsRow_below ho5 hb6) (Nat.le_trans hc5.size hb6.size) (isSl_own ho6) (by have:=HL.out;simp;omega) 26)
    |(at_builtin;refine Lib.wpList_append_run _ rfl _ _ _ _ rfl _ _ rfl rfl _ _ hrun7 ?_))
   go_ret
   exact ⟨_,rfl,ownsRow_mono (by simpa using ho7) hB0.size,hB0.trans (((hc5.trans (hb6.mono hc5.size)).trans hb7).mono hB0.size)⟩
  |false=>
   obtain rfl:(0:Int)=Q:=by have:=HQ.out;simpa using this
   have hA4:=(Below.refl _ wc).alloc (Nat.le_refl _) (.cells #[.int .u8 0] 5)
   have ho4:=ownsRow_below ho3 hA4
   have hb4:=hB3.trans (hA4.mono hB3.size)
   obtain ⟨v5,w5,hrun5,ho5,hb5⟩:=own_app ho4 hb4.size (isSl_byte wc 0) (by have:=HL.out;simp;omega) 26
   have hc5:=hb4.trans hb5
   have hb5':=hB0.trans (hc5.mono hB0.size)
   obtain ⟨⟨y0,y1,y2⟩,⟨y3,y4⟩,y5,y6⟩:=HC0.out _ hc5
   clear hA4 ho4
   go_wp2_with (first
    |(at_builtin;refine Lib.wpList_append_run _ rfl _ _ _ _ rfl _ _ rfl rfl _ _ hrun5 ?_)
    |(go_at_call 64;(with_reducible refine (HV.out _ hb5').mono ?_);rintro e w6 ⟨v6,rfl,ho6,hb6⟩;obtain ⟨v7,w7,hrun7,ho7,hb7⟩:=own_app (ownsRow_below ho5 hb6) (Nat.le_trans hc5.size hb6.size) (isSl_own ho6) (by have:=HL.out;simp;omega) 26)
    |(at_builtin;refine Lib.wpList_append_run _ rfl _ _ _ _ rfl _ _ rfl rfl _ _ hrun7 ?_))
   go_ret
   exact ⟨_,rfl,ownsRow_mono (by simpa using ho7) hB0.size,hB0.trans (((hc5.trans (hb6.mono hc5.size)).trans hb7).mono hB0.size)⟩
