/- The document's Right: Valid, IsName, each, Nodes. -/
import Derived.Test.YtcjdfdfphbckaaaGreatMh1Regi
import Derived.Test.YtcjdfdfphbckaaaGreatMh0Regi
import Derived.Test.YtcjdfdfphbckaaaGreatMh3Regi
import Derived.Deep.RegionHeld3
import Derived.Deep.DeepCutAuto
import Derived.Laws.BitsAllLaws
import Derived.Maps.OwnIn
import Derived.Deep.RegionLaw
import Derived.Laws.MakeOwn
import Derived.Lib.AppendZeros
import Derived.RegionTactic
import Derived.Lib.SliceRun
set_option linter.unusedVariables false
set_option linter.unusedSimpArgs false
set_option maxRecDepth 100000
set_option maxHeartbeats 64000000
open Go.Proofs.Tryz
namespace Go.Proofs.YtcjdfdfphbckaaaGreat
open Go.RowKit Go.Shelf
attribute [local go_sem] Oper.semAt_some
theorem ZI2 (s:ByteArray) (w:World) (hs:s.size≤1099511627776):Calls Tryz.prog 112 #[.string s] w fun e w'=>e=.returned (.bool (U.validS s))∧Below w.heap.size w w':=by
 have hC:=ZIq s w hs
 have hd:U.validS s=decide (U.lastEnd (U.cds s.size (strB s) 0)=s.size):=rfl
 rw [hd]
 unfold Cds at hC
 generalize U.lastEnd (U.cds s.size (strB s) 0)=m at *
 generalize U.cds s.size (strB s) 0=cs at *
 clear hd
 have hsz:s.size≤maxLen:=by unfold maxLen;omega
 unfold maxLen at hsz
 go_enter func112,ntmps112
 go_wp2_with (first | (go_at_call 124;(with_reducible refine hC.mono ?_);rintro e w1 ⟨v,rfl,_,hb⟩))
 go_ret
 exact ⟨ZAG (by rw [Bool.eq_iff_iff];simp;omega),hb⟩
def nmF (l:List Int) (q:Nat):Bool:=(if q=0 then letterB (l[0]?.getD 0) else true) && (l.drop q).all withinB
theorem ZOt (l:List Int) (q:Nat) (h:q<l.length):nmF l q=((if q=0 then letterB (l[q]?.getD 0) else withinB (l[q]?.getD 0)) && nmF l (q+1)):=by
 unfold nmF
 rw [if_neg (show ¬q+1=0 by omega),Bool.true_and,List.drop_eq_getElem_cons h,List.all_cons,List.getElem?_eq_getElem h]
 by_cases h0:q=0
 ·subst h0
  simp only [if_true]
  rw [List.getElem?_eq_getElem h]
  simp only [Option.getD_some]
  cases hl:letterB l[0] with
  |false=>simp
  |true=>simp [withinB,hl]
 ·simp only [if_neg h0]
  rfl
theorem ZPW (q:Nat) (x:Int):(if q=0 then letterB x else withinB x)=true ↔ (q=0∧((65≤x∧x≤90)∨(97≤x∧x≤122)))∨(q≠0∧(((65≤x∧x≤90)∨(97≤x∧x≤122))∨(48≤x∧x≤57)∨x=95∨x=45)):=by
 by_cases h:q=0
 ·simp [h,letterB]
 ·simp [h,letterB,withinB,or_assoc]
theorem ZOu {q:Nat} {x:Int} {b r:Bool} (h:r=((if q=0 then letterB x else withinB x) && b)) (hn:¬((q=0∧((65≤x∧x≤90)∨(97≤x∧x≤122)))∨(q≠0∧(((65≤x∧x≤90)∨(97≤x∧x≤122))∨(48≤x∧x≤57)∨x=95∨x=45)))):r=false:=by
 have:(if q=0 then letterB x else withinB x)=false:=by rw [Bool.eq_false_iff];exact fun h=>hn ((ZPW q x).1 h)
 rw [h,this,Bool.false_and]
theorem ZNs {q:Nat} {x:Int} {b r:Bool} (h:r=((if q=0 then letterB x else withinB x) && b)) (hn:(q=0∧((65≤x∧x≤90)∨(97≤x∧x≤122)))∨(q≠0∧(((65≤x∧x≤90)∨(97≤x∧x≤122))∨(48≤x∧x≤57)∨x=95∨x=45))):b=r:=by
 rw [h,(ZPW q x).2 hn,Bool.true_and]
theorem ZCA (s:ByteArray) (w:World) (hs:s.size≤maxLen):Calls Tryz.prog 100 #[.string s] w fun e w'=>e=.returned (.bool (nameB (strB s)))∧w=w':=by
 unfold maxLen at hs
 have hl:=ZBc s
 obtain ⟨r,hr⟩:∃ r,nameB (strB s)=r:=⟨_,rfl⟩
 rw [hr]
 by_cases h0:s.size<1
 ·have d0:decide ((s.size:Int)<1)=true:=by simp;omega
  obtain rfl:r=false:=by
   rw [←hr];unfold nameB
   have:strB s = []:=List.length_eq_zero_iff.1 (by omega)
   rw [this];rfl
  clear hr
  go_enter func100,ntmps100
  go_wp2
  go_ret
  exact ⟨rfl,rfl⟩
 have d0:decide ((s.size:Int)<1)=false:=by simp;omega
 by_cases h40:40<s.size
 ·have d1:decide ((40:Int)<(s.size:Int))=true:=by simp;omega
  obtain rfl:r=false:=by
   rw [←hr];unfold nameB
   have:decide ((strB s).length≤40)=false:=by simp;omega
   rw [this];simp
  clear hr
  go_enter func100,ntmps100
  go_wp2
  go_ret
  exact ⟨rfl,rfl⟩
 have d1:decide ((40:Int)<(s.size:Int))=false:=by simp;omega
 have hnm:nmF (strB s) 0=r:=by
  rw [←hr,ZGH _ (fun e=>by rw [e] at hl;simp at hl;omega)]
  have:decide ((strB s).length≤40)=true:=by simp;omega
  rw [this,Bool.true_and]
  simp [nmF]
 have HN:=ZZY hnm
 have HL:=ZZY hl
 clear hr hnm hl
 go_enter func100,ntmps100
 go_wp2
 go_loop [3,4,5] (fun i _ _=>∃ q:Nat,q≤s.size∧i=.int .i64 q∧Hid (nmF (strB s) q=r)) (fun i _ _=>s.size-(intOf i).toNat)
 case atStart=>exact ⟨0,Nat.zero_le _,rfl,HN.out⟩
 case round=>
  obtain ⟨q,hq,rfl,HQ⟩:=hrel
  by_cases hqs:q<s.size
  ·have hdq:decide (q<s.size)=true:=by simpa using hqs
   have hst:=ZOt (strB s) q (by rw [HL.out];exact hqs)
   rw [HQ.out,ZDh s q hqs] at hst
   have hbd:=ZMN s[q]
   have HST:=ZZY hst
   clear hst
   go_upto_region 7 with fail
   generalize ((s[q].toNat:Nat):Int)=x at *
   go_wp2_with fail
   all_goals (try simp only [Bool.not_eq_eq_eq_not,Bool.not_true,Bool.not_false,decide_eq_false_iff_not,decide_eq_true_eq,beq_iff_eq,beq_eq_false_iff_ne,ne_eq] at *)
   all_goals (first
    |(have hrf:r=false:=ZOu HST.out (by omega)
      subst hrf
      go_ret
      exact ⟨rfl,rfl⟩)
    |(have hb:=ZNs HST.out (by omega)
      refine ⟨⟨q+1,by omega,by go_num,ZZY hb⟩, ?_⟩
      simp [intOf];omega)
    |(have hb:=ZNs HST.out (by omega)
      refine ⟨⟨q+1,by omega,by simp;omega,ZZY hb⟩, ?_⟩
      simp;omega)
    |(exfalso
      have h57:x≤57:=by omega
      simp_all))
  ·obtain rfl:q=s.size:=by omega
   have hdq:decide (s.size<s.size)=false:=by simp
   have hr:r=true:=by
    rw [←HQ.out];unfold nmF
    rw [if_neg (by omega),List.drop_of_length_le (by rw [HL.out];exact Nat.le_refl _)];rfl
   subst hr
   go_wp2
   go_ret
   exact ⟨rfl,rfl⟩
namespace Bn
def spl (n:Nat):Nat→List Int
 | 0=>[]
 |k+1=>((n / 256 ^ k % 256:Nat):Int) :: spl n k
def jn (l:List Int):Nat:=l.foldl (fun n x=>n*256+x.toNat) 0
theorem spl_len (n k:Nat):(spl n k).length=k:=by
 induction k with
 |zero=>rfl
 |succ k ih=>simp [spl,ih]
theorem spl_bd (n k:Nat):∀ x∈spl n k,0≤x∧x≤255:=by
 induction k with
 |zero=>simp [spl]
 |succ k ih=>
  intro x hx
  simp only [spl,List.mem_cons] at hx
  rcases hx with rfl | hx
  ·have:n / 256 ^ k % 256<256:=Nat.mod_lt _ (by omega)
   omega
  ·exact ih x hx
theorem jn_snoc (l:List Int) (x:Int):jn (l ++ [x])=jn l*256+x.toNat:=by simp [jn]
theorem ZOv (l:List Int) (c:Nat):l.foldl (fun n x=>n*256+x.toNat) c=c*256 ^ l.length+jn l:=by
 unfold jn
 induction l generalizing c with
 |nil=>simp
 |cons x l ih=>
  simp only [List.foldl_cons,List.length_cons]
  rw [ih,ih (0*256+x.toNat)]
  rw [Nat.pow_succ,Nat.add_mul]
  simp only [Nat.zero_mul,Nat.zero_add,Nat.mul_assoc,Nat.mul_comm,Nat.add_assoc]
theorem ZNt (x:Int) (l:List Int):jn (x :: l)=x.toNat*256 ^ l.length+jn l:=by
 have:=ZOv l (0*256+x.toNat)
 rw [Nat.zero_mul,Nat.zero_add] at this
 rw [←this];simp [jn]
theorem jn_lt (l:List Int) (h:∀ x∈l,0≤x∧x≤255):jn l<256 ^ l.length:=by
 induction l with
 |nil=>simp [jn]
 |cons x l ih=>
  rw [ZNt,List.length_cons,Nat.pow_succ]
  have h1:=ih fun y hy=>h y (by simp [hy])
  have h2:=h x (by simp)
  have h3:x.toNat≤255:=by omega
  have h4:x.toNat*256 ^ l.length≤255*256 ^ l.length:=Nat.mul_le_mul_right _ h3
  omega
theorem jn_spl (n k:Nat):jn (spl n k)=n % 256 ^ k:=by
 induction k with
 |zero=>simp [spl,jn,Nat.mod_one]
 |succ k ih=>
  rw [spl,ZNt,ih,spl_len,Int.toNat_natCast,Nat.pow_succ,Nat.mod_mul,Nat.mul_comm,Nat.add_comm]
theorem pow7 (k:Nat) (h:k≤7):256 ^ k≤72057594037927936:=Nat.le_trans (Nat.pow_le_pow_right (by omega) h) (by decide)
theorem div_step (n k:Nat):n / 256 ^ k / 256=n / 256 ^ (k+1):=by rw [Nat.div_div_eq_div_mul,Nat.pow_succ]
theorem or64 (a b:Nat) (hb:b<256) (h:a<72057594037927936):bits .or .u64 ((a*256:Nat):Int) (b:Int)=((a*256+b:Nat):Int):=by
 show IntKind.u64.wrap ((BitVec.ofInt 64 ((a*256:Nat):Int) ||| BitVec.ofInt 64 (b:Int)).toNat:Int)=_
 have e:∀ n:Nat,n<18446744073709551616→(BitVec.ofInt 64 (n:Int)).toNat=n:=fun n hn=>by simp;omega
 rw [BitVec.toNat_or,e _ (by omega),e _ (by omega),Nat.mul_comm,show (256:Nat)=2 ^ 8 from rfl,←Nat.two_pow_add_eq_or_of_lt (by omega),IntKind.wrap_u64]
 omega
end Bn
open Go.RowKit Go.Shelf
section
variable {P:Program} (w:World)
theorem ZDZ (base:Nat) (t ty e:TypeId) (i:TypeInfo) (z:Value) (size bytes:Nat) (ht:P.underlying t=some (.slice e)) (hi:P.info? e=some i) (hz:i.zero=some z)
  (hsize:i.size=size) (hby:i.bytes=bytes) (hzs:z.cells.size=size) (hsz:0<size) (v:Value) (n:Nat) (xs:List Value) (hown:w.ownsRow base e size v n xs)
  (a:Option Addr) (m c:Nat) (news:List Value) (hr:ZB7 w size a m news) (h1:∀ u∈news,u.oneCell'=true) (h63:n+m≤maxLen) (hbytes:(n+m)*bytes≤140737488355328) (hbase:base≤w.heap.size) :
  ∃ v' w',(Builtin.append_ #[t,t] ty #[v,.slice a m c]).run P w=.ok v' w'∧w'.ownsRow base e size v' (n+m) (xs++news)∧w.grownBy w' v.ownBlock∧(v'.ownBlock=v.ownBlock∨v'.ownBlock=some w.heap.size):=by
 obtain ⟨hl,hr⟩:=hr
 cases a with
 |none=>
  obtain rfl:m=0:=by rcases hr with h | ⟨_,h,_⟩<;>first | exact h | cases h
  obtain rfl:news = []:=List.length_eq_zero_iff.1 (by simpa using hl)
  refine ⟨v,w, ?_,by simpa using hown,⟨rfl,rfl,rfl,Nat.le_refl _,fun _ _ _=>rfl⟩,.inl rfl⟩
  rcases hown.2 with ⟨rfl,rfl⟩ | ⟨g,cap,cur,rfl,_,_,hnc,_⟩
  ·simp [Builtin.append_,run_underlying ht,sizeOf,typeInfo,hi,Builtin.lenOf,Builtin.firstCells]
  ·simp [Builtin.append_,run_underlying ht,sizeOf,typeInfo,hi,Builtin.lenOf,Builtin.firstCells,hnc,storeCells]
 |some ad=>
  have hc:∀ j u,news[j]? = some u→w.cell? (ad.add j)=some u:=by
   rcases hr with rfl | ⟨ad',e,h⟩
   ·intro j u hu
    obtain rfl:news = []:=List.length_eq_zero_iff.1 (by simpa using hl)
    simp at hu
   ·cases e;exact h
  obtain ⟨v',w',hrun,h2,h3,_,h5⟩:=run_append_own_at (P:=P) w base t ty e i z size bytes ht hi hz hsize hby hzs hsz v n xs hown ad m c news hl hc h1 h63 hbytes hbase
  exact ⟨v',w',hrun,h2,h3,h5⟩
theorem ZAj {ops:Array Oper} {rest:List Oper} {o:Oper} {a:Act} {Q:Exit→Act→World→Prop} (hgd:o.guard=none) (s x:Operand) (t:TypeId)
  (ho:o.op=.call { callee:=.builtin .append,args:=#[s,x],argTypes:=#[t,t] }) (base:Nat) (e:TypeId) (i:TypeInfo) (z:Value) (size bytes:Nat) (ht:P.underlying t=some (.slice e)) (hi:P.info? e=some i) (hz:i.zero=some z)
  (hsize:i.size=size) (hby:i.bytes=bytes) (hzs:z.cells.size=size) (hsz:0<size) (v:Value) (n:Nat) (xs:List Value) (hs:a.eval s=v) (hown:w.ownsRow base e size v n xs)
  (A:Option Addr) (m c:Nat) (news:List Value) (hx:a.eval x=.slice A m c) (hr:ZB7 w size A m news) (h1:∀ u∈news,u.oneCell'=true) (h63:n+m≤maxLen) (hbytes:(n+m)*bytes≤140737488355328) (hbase:base≤w.heap.size)
  (h:∀ v' w',w'.ownsRow base e size v' (n+m) (xs++news)→w.grownBy w' v.ownBlock→(v'.ownBlock=v.ownBlock∨v'.ownBlock=some w.heap.size)→wpList P ops Q rest (a.put o.dst v') w'):wpList P ops Q (o :: rest) a w:=
 wpList_plain hgd fun K hK=>by
  obtain ⟨v',w',hrun,h2,h3,h4⟩:=ZDZ (P:=P) w base t o.type e i z size bytes ht hi hz hsize hby hzs hsz v n xs hown A m c news hr h1 h63 hbytes hbase
  unfold Oper.wp execOp
  simp only [ho,resolve,invoke,builtin,Sem.run_bind,Sem.run_pure,Result.andThen_ok,List.map_toArray,List.map_cons,List.map_nil,hs,hx,hrun]
  exact hK _ _ (h v' w' h2 h3 h4)
theorem ZEd {F:Fence} {nF:Nat} {ops:Array Oper} {rest:List Oper} {o:Oper} {a:Act} {Q:Exit→Act→World→Prop} (hgd:o.guard=none) (s x:Operand) (t:TypeId)
  (ho:o.op=.call { callee:=.builtin .append,args:=#[s,x],argTypes:=#[t,t] }) (base:Nat) (e:TypeId) (i:TypeInfo) (z:Value) (size bytes:Nat) (ht:P.underlying t=some (.slice e)) (hi:P.info? e=some i) (hz:i.zero=some z)
  (hsize:i.size=size) (hby:i.bytes=bytes) (hzs:z.cells.size=size) (hsz:0<size) (v:Value) (n:Nat) (xs:List Value) (hs:a.eval s=v) (hown:w.ownsRow base e size v n xs)
  (A:Option Addr) (m c:Nat) (news:List Value) (hx:a.eval x=.slice A m c) (hr:ZB7 w size A m news) (h1:∀ u∈news,u.oneCell'=true) (h63:n+m≤maxLen) (hbytes:(n+m)*bytes≤140737488355328) (hbase:base≤w.heap.size)
  (h:∀ v' w',w'.ownsRow base e size v' (n+m) (xs++news)→w.grownBy w' v.ownBlock→(v'.ownBlock=v.ownBlock∨v'.ownBlock=some w.heap.size)→wpListIn F nF P ops Q rest (a.put o.dst v') w'):wpListIn F nF P ops Q (o :: rest) a w:=by
 refine wpListIn_plain hgd fun K hK=>?_
 obtain ⟨v',w',hrun,h2,h3,h4⟩:=ZDZ (P:=P) w base t o.type e i z size bytes ht hi hz hsize hby hzs hsz v n xs hown A m c news hr h1 h63 hbytes hbase
 unfold Oper.wpIn
 refine ⟨by simp [Oper.about,ho,resolve,Target.leads,Sem.run_pure], ?_⟩
 rw [Oper.semAt_plain F _ _ (by rw [ho];intro c hc';cases hc')]
 simp [execOp,ho,resolve,invoke,builtin,hs,hx,hrun,Result.andThen]
 exact hK _ _ (h v' w' h2 h3 h4)
theorem ZA1 {ops:Array Oper} {o:Oper} {a:Act} {K:Act→World→Prop} {Q:Exit→Act→World→Prop} {E:Prop} (hgd:o.guard=none) (s x:Operand) (t:TypeId)
  (ho:o.op=.call { callee:=.builtin .append,args:=#[s,x],argTypes:=#[t,t] }) (base:Nat) (e:TypeId) (i:TypeInfo) (z:Value) (size bytes:Nat) (ht:P.underlying t=some (.slice e)) (hi:P.info? e=some i) (hz:i.zero=some z)
  (hsize:i.size=size) (hby:i.bytes=bytes) (hzs:z.cells.size=size) (hsz:0<size) (v:Value) (n:Nat) (xs:List Value) (hs:a.eval s=v) (hown:w.ownsRow base e size v n xs)
  (A:Option Addr) (m c:Nat) (news:List Value) (hx:a.eval x=.slice A m c) (hr:ZB7 w size A m news) (h1:∀ u∈news,u.oneCell'=true) (h63:n+m≤maxLen) (hbytes:(n+m)*bytes≤140737488355328) (hbase:base≤w.heap.size)
  (h:∀ v' w',w'.ownsRow base e size v' (n+m) (xs++news)→w.grownBy w' v.ownBlock→(v'.ownBlock=v.ownBlock∨v'.ownBlock=some w.heap.size)→K (a.put o.dst v') w'):if Region.wanted o (yielded ops a.tmps)=true then Oper.wp P o a w K Q else E:=by
 have hw:Region.wanted o (yielded ops a.tmps)=true:=by simp [Region.wanted,hgd]
 rw [if_pos hw]
 obtain ⟨v',w',hrun,h2,h3,h4⟩:=ZDZ (P:=P) w base t o.type e i z size bytes ht hi hz hsize hby hzs hsz v n xs hown A m c news hr h1 h63 hbytes hbase
 unfold Oper.wp
 simp [execOp,ho,resolve,invoke,builtin,hs,hx,hrun,Result.andThen]
 exact h v' w' h2 h3 h4
end
open Go.RowKit Go.Shelf
attribute [local go_sem] Oper.semAt_some
def Got (w:World) (l:List Int) (e:Ending) (w':World):Prop:=∃ v,e=.returned v∧w'.ownsRow w.heap.size 5 1 v l.length (u8s l)∧Below w.heap.size w w'
def BAt (W:World) (b:Nat) (cs:Array Value):Prop:=W.heap[b]? = some (.cells cs 5 (0,0))
theorem ZOw {W:World} {b:Nat} {cs:Array Value} (h:BAt W b cs) (i:Nat) (hi:i<cs.size):W.cell? ⟨b,i,none⟩=some cs[i]:=by
 simp [World.cell?,show W.heap[b]? = _ from h,hi]
theorem ZMB {W:World} {b:Nat} {cs:Array Value} (h:BAt W b cs) (i:Nat):W.frozen? ⟨b,i,none⟩=false:=by simp [World.frozen?,show W.heap[b]? = _ from h]
theorem ZQA {W:World} {b:Nat} {cs:Array Value} (h:BAt W b cs) (i:Nat) (c:Value):BAt (W.setCell ⟨b,i,none⟩ c) b (cs.setIfInBounds i c):=by
 obtain ⟨hlt,hk⟩:=ZZZ h
 show (W.heap.modify b _)[b]? = _
 rw [Array.getElem?_eq_getElem (by rw [Array.size_modify];exact hlt),Array.getElem_modify_self,hk]
 rfl
theorem ZOx {W:World} {b base:Nat} {cs:Array Value} {n:Nat} {xs:List Value} (h:BAt W b cs) (hb:base≤b) (hn:n≤maxLen) (hx:cs.toList=xs) (hl:xs.length=n):W.ownsRow base 5 1 (.slice (some ⟨b,0,none⟩) n n) n xs:=by
 subst hx
 have hl:cs.size=n:=by simpa using hl
 exact ⟨by simp [hl],.inr ⟨b,n,cs,rfl,hb,h,Nat.le_refl _,hn,by simp [hl],List.take_of_length_le (by simp [hl])⟩⟩
theorem ZNu (n size k j:Nat) (cs:Array Value) (hs:cs.size=size) (hj:j+k+1=size) (hc:cs.toList.drop (size-k)=u8s (Bn.spl n k)) (x:Int) (hx:x=((n / 256 ^ k % 256:Nat):Int)) :
  (cs.setIfInBounds j (.int .u8 x)).toList.drop (size-(k+1))=u8s (Bn.spl n (k+1)):=by
 subst hx
 have e1:size-(k+1)=j:=by omega
 have e2:size-k=j+1:=by omega
 rw [e2] at hc
 rw [e1,Array.toList_setIfInBounds,List.drop_eq_getElem_cons (by simp;omega)]
 simp only [List.getElem_set_self,Bn.spl,u8s,List.map_cons]
 congr 1
 rw [List.drop_set_of_lt (by omega)]
 exact hc
theorem ZF3 (n size:Nat) (w:World) (hn:n<18446744073709551616) (h1:1≤size) (h8:size≤8) :
  Calls Tryz.prog 80 #[.int .u64 n,.int .i64 size] w (Got w (Bn.spl n size)):=by
 obtain ⟨i0,hi,hz0,hz1,hz2⟩:=info_parts ZFZ
 have hsz:(madeCells (Value.int .u8 0).cells (((size:Nat):Int).toNat*i0.size)).size=size:=by rw [size_madeCells,hz1];simp
 have hmk:∀ W:World,(Instr.makeSlice 22 (.int .i64 (size:Int)) (.int .i64 (size:Int))).run Tryz.prog W =
   .ok (.slice (some ⟨W.heap.size,0,none⟩) size size) (W.alloc (.cells (madeCells (Value.int .u8 0).cells (((size:Nat):Int).toNat*i0.size)) 5)):=fun W=>by
  have h:=run_make (P:=Tryz.prog) W 22 5 i0 (.int .u8 0) Tryz.underlying22 hi hz0 .i64 .i64 (size:Int) (size:Int) (by omega) (by omega) (by rw [hz2];omega) (by omega)
  simpa using h
 generalize (madeCells (Value.int .u8 0).cells (((size:Nat):Int).toNat*i0.size))=M at hsz hmk
 have hB0:=(Below.refl w.heap.size w).alloc (Nat.le_refl _) (.cells M 5)
 have hA0:BAt (w.alloc (.cells M 5)) w.heap.size M:=World.alloc_heap_new w _
 clear hi hz0 hz1 hz2
 go_enter func80,ntmps80
 go_wp2
 go_loopw [0,11] (fun c i wr=>∃ (k:Nat) (cs:Array Value),k≤size∧i=.int .i64 (k:Int)∧c=.int .u64 ((n / 256 ^ k:Nat):Int)∧BAt wr w.heap.size cs∧cs.size=size∧cs.toList.drop (size-k)=u8s (Bn.spl n k)∧Below w.heap.size w wr) (fun _ i _=>size-(intOf i).toNat)
 case atStart=>exact ⟨0,M,Nat.zero_le _,rfl,by simp,hA0,hsz,by simp [Bn.spl,u8s,←hsz],hB0⟩
 case round=>
  obtain ⟨k,cs,hk,rfl,rfl,hA,hcs,hd,hB⟩:=hrel
  by_cases hlt:k<size
  ·obtain ⟨j,hj⟩:∃ j,j+k+1=size:=⟨size-k-1,by omega⟩
   obtain ⟨v0,hc⟩:∃ v,wr.cell? ⟨w.heap.size,j,none⟩=some v:=⟨_,ZOw hA j (by omega)⟩
   have hf:=ZMB hA j
   have hsub:(size:Int)-1-(k:Int)=(j:Int):=by omega
   have hlt2:n / 256 ^ k<18446744073709551616:=Nat.lt_of_le_of_lt (Nat.div_le_self _ _) hn
   have hst:=Bn.div_step n k
   have HS:=ZZY (ZNu n size k j cs hcs hj hd)
   generalize hm:n / 256 ^ k=m at *
   have HM:=ZZY hm;clear hm
   have HST:=ZZY hst;clear hst
   have hjs:j<size:=by omega
   have HD:=ZZY hd;clear hd
   have HJ:=ZZY hj;clear hj
   go_wp2
   go_roundw
   all_goals (first
    |(case' rel=>exact ⟨k+1,_,by omega,by go_num,by rw [←HST.out];rfl,ZQA hA _ _,by simp [hcs],HS.out _ (by omega),hB.setCell (p:=⟨w.heap.size,j,none⟩) (Nat.le_refl _) _⟩)
    |(case' measure=>simp [intOf];omega))
  ·obtain rfl:k=size:=by omega
   go_wp2
   go_ret
   rw [Nat.sub_self,List.drop_zero] at hd
   exact ⟨_,rfl,by rw [Bn.spl_len];exact ZOx hA (Nat.le_refl _) (by unfold maxLen;omega) hd (by simp [u8s,Bn.spl_len]),hB⟩
theorem ZNv (l:List Int) (k:Nat) (h:k<l.length):Bn.jn (l.take (k+1))=Bn.jn (l.take k)*256+(l[k]?.getD 0).toNat:=by
 rw [ZGA _ _ h,Bn.jn_snoc]
theorem ZC0 {l:List Int} (h:ZCh l):∀ x∈l,0≤x∧x≤255:=by
 intro x hx
 obtain ⟨i,hi,rfl⟩:=List.getElem_of_mem hx
 have:=h i
 rwa [List.getElem?_eq_getElem hi] at this
theorem ZHb (a:Option Addr) (len cap:Nat) (l:List Int) (w:World) (h:Row w .u8 a len cap l) (hl:ZCh l) (h8:len≤8) :
  Calls Tryz.prog 70 #[.slice a len cap] w fun e w'=>e=.returned (.int .u64 (Bn.jn l:Nat))∧w=w':=by
 obtain ⟨k1,k2,k3,k4⟩:=h
 have HB:=ZZY hl
 have K4:=ZZY k4;clear k4
 have K1:=ZZY k1;clear k1
 have hbd:∀ k,k≤7→Bn.jn (l.take k)<72057594037927936:=fun k hk=>
  Nat.lt_of_lt_of_le (Bn.jn_lt _ fun x hx=>ZC0 hl x (List.mem_of_mem_take hx)) (Nat.le_trans (Nat.pow_le_pow_right (by omega) (by rw [List.length_take];omega)) (Bn.pow7 7 (Nat.le_refl _)))
 have HBD:=ZZY hbd;clear hbd hl
 go_enter func70,ntmps70
 go_wp2
 go_loop [3,8] (fun c i=>∃ k:Nat,k≤len∧i=.int .i64 k∧c=.int .u64 (Bn.jn (l.take k):Nat)) (fun _ i=>len-(intOf i).toNat)
 case atStart=>exact ⟨0,by omega,rfl,rfl⟩
 case round=>
  obtain ⟨k,hk,rfl,rfl⟩:=hrel
  by_cases hlt:k<len
  ·rcases K4.out with h0 | ⟨B',off',rfl,hc'⟩
   ·exact absurd h0 (by omega)
   have c1:=hc' k hlt
   have HR:=ZZY (ZNv l k (by rw [K1.out];exact hlt))
   have hx:=HB.out k
   have hb:=HBD.out k (by omega)
   generalize l[k]?.getD 0=x at c1 HR hx
   generalize Bn.jn (l.take k)=c at hb HR
   obtain ⟨hx0,hx1⟩:=hx
   obtain ⟨y,rfl⟩:=Int.eq_ofNat_of_zero_le hx0
   rw [Int.toNat_natCast] at HR
   have ho:=Bn.or64 c y (by omega) hb
   have hsh:(c:Int)*256=((c*256:Nat):Int):=by omega
   rw [←hsh] at ho
   have hsl:IntKind.u64.wrap ((c:Int)*2 ^ min (Int.toNat 8) IntKind.u64.bits)=(c:Int)*256:=by
    rw [show min (Int.toNat 8) IntKind.u64.bits=8 from rfl,IntKind.wrap_u64];omega
   clear hc' hsh
   go_wp2
   go_round
   case rel=>exact ⟨k+1,by omega,by go_num,by rw [HR.out];simp⟩
   case measure=>simp [intOf];omega
  ·obtain rfl:k=len:=by omega
   have HE:Hid (l.take k=l):=ZZY (List.take_of_length_le (by rw [K1.out];omega))
   go_wp2
   go_ret
   exact ⟨ZBK (by rw [HE.out]),rfl⟩
def spn (n:Int) (most:Int) (size:Nat):List Int:=if n<0∨most<n then [] else Bn.spl n.toNat size
theorem ZHc (n:Int) (w:World):Calls Tryz.prog 82 #[.int .i64 n] w (Got w (spn n 255 1)):=by
 unfold spn
 by_cases hg:n<0∨255<n
 ·rw [if_pos hg]
  rcases Int.lt_or_le n 0 with h0 | h0
  ·have d0:decide (n<0)=true:=by simpa using h0
   clear hg
   go_enter func82,ntmps82
   go_wp2
   go_ret
   exact ⟨_,rfl,World.ownsRow_nil _ _ _ _,Below.refl _ _⟩
  ·have d0:decide (n<0)=false:=by simpa using h0
   have d1:decide (255<n)=true:=by simp;omega
   clear hg
   go_enter func82,ntmps82
   go_wp2
   go_ret
   exact ⟨_,rfl,World.ownsRow_nil _ _ _ _,Below.refl _ _⟩
 ·rw [if_neg hg]
  obtain ⟨m,rfl⟩:=Int.eq_ofNat_of_zero_le (show 0≤n by omega)
  rw [Int.toNat_natCast]
  have hS:∀ w,Calls Tryz.prog 80 #[.int .u64 m,.int .i64 1] w (Got w (Bn.spl m 1)):=fun w=>ZF3 m 1 w (by omega) (by omega) (by omega)
  have hm:(m:Int)≤255:=by omega
  have hm2:(0:Int)≤(m:Int):=by omega
  clear hg
  generalize Bn.spl m 1=l at *
  go_enter func82,ntmps82
  go_wp2_with (first | (go_at_call 80;(with_reducible refine (hS _).mono ?_);rintro e w' ⟨v,rfl,ho,hb⟩))
  go_ret
  exact ⟨_,rfl,ho,hb⟩
theorem ZEz (n:Int) (w:World):Calls Tryz.prog 50 #[.int .i64 n] w (Got w (spn n 2147483647 4)):=by
 unfold spn
 by_cases hg:n<0∨2147483647<n
 ·rw [if_pos hg]
  rcases Int.lt_or_le n 0 with h0 | h0
  ·have d0:decide (n<0)=true:=by simpa using h0
   clear hg
   go_enter func50,ntmps50
   go_wp2
   go_ret
   exact ⟨_,rfl,World.ownsRow_nil _ _ _ _,Below.refl _ _⟩
  ·have d0:decide (n<0)=false:=by simpa using h0
   have d1:decide (2147483647<n)=true:=by simp;omega
   clear hg
   go_enter func50,ntmps50
   go_wp2
   go_ret
   exact ⟨_,rfl,World.ownsRow_nil _ _ _ _,Below.refl _ _⟩
 ·rw [if_neg hg]
  obtain ⟨m,rfl⟩:=Int.eq_ofNat_of_zero_le (show 0≤n by omega)
  rw [Int.toNat_natCast]
  have hS:∀ w,Calls Tryz.prog 80 #[.int .u64 m,.int .i64 4] w (Got w (Bn.spl m 4)):=fun w=>ZF3 m 4 w (by omega) (by omega) (by omega)
  have hm:(m:Int)≤2147483647:=by omega
  have hm2:(0:Int)≤(m:Int):=by omega
  clear hg
  generalize Bn.spl m 4=l at *
  go_enter func50,ntmps50
  go_wp2_with (first | (go_at_call 80;(with_reducible refine (hS _).mono ?_);rintro e w' ⟨v,rfl,ho,hb⟩))
  go_ret
  exact ⟨_,rfl,ho,hb⟩
def spl64 (n:Int):List Int:=Bn.spl (IntKind.u64.wrap n).toNat 8
theorem ZOy (n:Int) (w:World):Calls Tryz.prog 108 #[.int .i64 n] w (Got w (spl64 n)):=by
 obtain ⟨m,hm⟩:∃ m:Nat,IntKind.u64.wrap n=(m:Int):=⟨(IntKind.u64.wrap n).toNat,by rw [IntKind.wrap_u64];omega⟩
 have hlt:m<18446744073709551616:=by rw [IntKind.wrap_u64] at hm;omega
 unfold spl64
 rw [hm,Int.toNat_natCast]
 have hS:∀ w,Calls Tryz.prog 80 #[.int .u64 m,.int .i64 8] w (Got w (Bn.spl m 8)):=fun w=>ZF3 m 8 w hlt (by omega) (by omega)
 generalize Bn.spl m 8=l at *
 go_enter func108,ntmps108
 go_wp2_with (first | (go_at_call 80;(with_reducible refine (hS _).mono ?_);rintro e w' ⟨v,rfl,ho,hb⟩))
 go_ret
 exact ⟨_,rfl,ho,hb⟩
open Go.RowKit Go.Shelf
attribute [local go_sem] Oper.semAt_some
theorem ZOz (n:Nat) (w:World) (hn:n≤1000000000):Calls Tryz.prog 104 #[.slice none 0 0,.int .i64 (n:Int)] w (Got w []):=by
 obtain ⟨i0,hi,hz0,hz1,hz2⟩:=info_parts ZFZ
 rcases Nat.eq_zero_or_pos n with rfl | h0
 ·go_enter func104,ntmps104
  go_wp2
  go_ret
  exact ⟨_,rfl,World.ownsRow_nil _ _ _ _,Below.refl _ _⟩
 ·have hrun:=Lib.run_append_nil_zeros (P:=Tryz.prog) w 22 3 22 5 i0 (.int .u8 0) .i64 .i64 Tryz.underlying22 Tryz.underlying3 hi hz0 n h0 (by omega) (by omega) (by rw [hz2];omega)
  have hge:=grownCap_ge w n 0 5
  have hle:=grownCap_le_maxLen w n 0 5 (by unfold maxLen;omega)
  have hcs:(Builtin.zeroCells (Value.int .u8 0).cells n++Builtin.zeroCells (Value.int .u8 0).cells (grownCap w n 0 5-n)).size=grownCap w n 0 5:=by
   rw [Array.size_append,size_zeroCells,size_zeroCells];simp [Value.cells];omega
  generalize (Builtin.zeroCells (Value.int .u8 0).cells n++Builtin.zeroCells (Value.int .u8 0).cells (grownCap w n 0 5-n))=M at hrun hcs
  generalize grownCap w n 0 5=g at hrun hge hle hcs
  unfold maxLen at hle
  have hB:Below w.heap.size w (w.drew.alloc (.cells M 5)):=((Below.refl w.heap.size w).drew).alloc (Nat.le_refl _) _
  have hA:BAt (w.drew.alloc (.cells M 5)) w.heap.size M:=World.alloc_heap_new w.drew _
  clear hi hz0 hz1 hz2
  go_enter func104,ntmps104
  go_wp2_with (first | (at_builtin;refine Lib.wpList_append_run _ rfl _ _ _ _ rfl _ _ rfl rfl _ _ hrun ?_))
  go_ret
  exact ⟨_,rfl,⟨rfl,.inr ⟨w.heap.size,g,M,rfl,Nat.le_refl _,hA,Nat.zero_le _,by unfold maxLen;omega,by omega,rfl⟩⟩,hB⟩
abbrev R4:=Option Addr × Nat × Nat × List Int
def ZGm (W:World) (b:Nat) (rows:List R4):Prop:=∀ i x,rows[i]? = some x→W.cell? ⟨b,i,none⟩=some (.slice x.1 x.2.1 x.2.2.1)∧Row W .u8 x.1 x.2.1 x.2.2.1 x.2.2.2
def cat (rows:List R4):List Int:=rows.flatMap (·.2.2.2)
theorem ZKy (rows:List R4) (k:Nat) (x:R4) (h:rows[k]? = some x):cat (rows.take (k+1))=cat (rows.take k)++x.2.2.2:=by
 rw [List.take_add_one,h];simp [cat]
theorem ZI3 (rows:List R4) (k:Nat):(cat (rows.take k)).length≤(cat rows).length:=by
 have e:cat rows=cat (rows.take k)++cat (rows.drop k):=by
  conv=>lhs;rw [←List.take_append_drop k rows]
  simp only [cat,List.flatMap_append]
 rw [e,List.length_append];omega
theorem ZI4 {W W':World} {b:Nat} {rows:List R4} (h:ZGm W b rows) (hb:Below W.heap.size W W'):ZGm W' b rows:=by
 intro i x hx
 obtain ⟨h1,h2⟩:=h i x hx
 refine ⟨?_,ZAk h2 hb rfl⟩
 have hbk:b<W.heap.size:=by
  simp only [World.cell?] at h1
  rcases Nat.lt_or_ge b W.heap.size with h | h
  ·exact h
  ·rw [Array.getElem?_eq_none h] at h1;cases h1
 exact (hb.cell (p:=⟨b,i,none⟩) hbk).trans h1
theorem ZMC (rows:List R4) (b n cap:Nat) (w:World) (h:ZGm w b rows) (hn:rows.length=n) (hc:n≤cap) (hcap:cap≤maxLen) (hl:(cat rows).length≤1000000000) :
  Calls Tryz.prog 81 #[.slice (some ⟨b,0,none⟩) n cap] w (Got w (cat rows)):=by
 obtain ⟨i0,hi,hz0,hz1,hz2⟩:=info_parts ZFZ
 unfold maxLen at hcap
 have H:=ZZY h;clear h
 have HN:=ZZY hn;clear hn
 have HL:∀ k,(cat (rows.take k)).length≤1000000000:=fun k=>Nat.le_trans (ZI3 rows k) hl
 have HL:=ZZY HL
 have hgr:=fun w=>ZOz (cat rows).length w hl
 go_enter func81,ntmps81
 go_wp2
 go_loop [3,11] (fun c i=>∃ k:Nat,k≤n∧i=.int .i64 k∧c=.int .i64 ((cat (rows.take k)).length:Int)) (fun _ i=>n-(intOf i).toNat)
 case atStart=>exact ⟨0,by omega,rfl,rfl⟩
 case round=>
  obtain ⟨k,hk,rfl,rfl⟩:=hrel
  by_cases hlt:k<n
  ·obtain ⟨⟨xa,xl,xc,xt⟩,hx⟩:∃ x,rows[k]? = some x:=⟨rows[k]'(by rw [HN.out];exact hlt),List.getElem?_eq_getElem _⟩
   obtain ⟨c1,hr⟩:=H.out k _ hx
   dsimp only at c1 hr
   have hst:=ZKy rows k _ hx
   dsimp only at hst
   have hl1:=HL.out (k+1)
   have hxl:=hr.1
   have hsum:(cat (rows.take (k+1))).length=(cat (rows.take k)).length+xl:=by rw [hst,List.length_append,hxl]
   generalize hm':(cat (rows.take (k+1))).length=m' at hl1 hsum
   generalize (cat (rows.take k)).length=m at hsum
   have HM':=ZZY hm';clear hm'
   have HST:=ZZY hst;have HR:=ZZY hr;have HX:=ZZY hx;have HXL:=ZZY hxl
   clear hst hr hx hxl hgr
   have HS:=ZZY hsum
   have hm:m+xl≤1000000000:=by omega
   clear hsum
   have d0:decide ((m:Int)+(xl:Int)<0)=false:=by simp;omega
   go_wp2
   go_round
   case rel=>exact ⟨k+1,by omega,by go_num,by rw [HM'.out,HS.out];simp⟩
   case measure=>simp [intOf];omega
  ·obtain rfl:k=n:=by omega
   have he:rows.take k=rows:=List.take_of_length_le (by rw [HN.out];omega)
   rw [he]
   have hln:=hl
   have HLL:=ZZY hl
   clear hl he
   obtain ⟨m,hm⟩:∃ m,(cat rows).length=m:=⟨_,rfl⟩
   rw [hm] at hgr hln ⊢
   have HM:=ZZY hm;clear hm
   go_wp2_with (first | (go_at_call 104;(with_reducible refine (hgr _).mono ?_);rintro e w1 ⟨v1,rfl,hown1,hb1⟩))
   go_loopw [6,27] (fun c i wr=>∃ j:Nat,j≤k∧i=.int .i64 j∧wr.ownsRow w.heap.size 5 1 c (cat (rows.take j)).length (u8s (cat (rows.take j)))∧Below w.heap.size w wr) (fun _ i _=>k-(intOf i).toNat)
   case atStart=>exact ⟨0,by omega,rfl,hown1,hb1⟩
   case round=>
    obtain ⟨j,hj,rfl,hown,hB⟩:=hrel
    by_cases hlt:j<k
    ·obtain ⟨⟨xa,xl,xc,xt⟩,hx⟩:∃ x,rows[j]? = some x:=⟨rows[j]'(by rw [HN.out];exact hlt),List.getElem?_eq_getElem _⟩
     obtain ⟨c1,hr⟩:=ZI4 H.out hB j _ hx
     dsimp only at c1 hr
     have hst:=ZKy rows j _ hx
     dsimp only at hst
     have hl1:=HL.out (j+1)
     have hxl:=hr.1
     rw [hst,List.length_append,hxl] at hl1
     have HST:=ZZY hst;have HR:=ZZY hr;have HX:=ZZY hx;have HXL:=ZZY hxl
     clear hst hr hx hxl
     generalize hX:cat (rows.take j)=X at *
     have HB:=ZZY hB
     go_wp2_with (first
      |(at_builtin;refine ZAr _ rfl _ _ 22 rfl w.heap.size 5 i0 (.int .u8 0) 1 1 Tryz.underlying22 hi hz0 hz1 hz2 rfl (by decide) _ X.length (u8s X) rfl hown xa xl xc (u8s xt) rfl (ZCK HR.out) (by simp [u8s,Value.oneCell']) (by unfold maxLen;omega) (by omega) HB.out.size ?_;intro v2 w2 hown2 hg2))
     go_roundw
     all_goals (first
      |(case' rel=>exact ⟨j+1,by omega,by go_num,ZBQ hown2 (by rw [HST.out,List.length_append,HXL.out]) (by rw [HST.out,ZK8]),HB.out.trans ((ZBX hg2 hown HB.out.size))⟩)
      |(case' measure=>simp [intOf];omega))
    ·obtain rfl:j=k:=by omega
     have he:rows.take j=rows:=List.take_of_length_le (by rw [HN.out];omega)
     rw [he] at hown
     go_wp2
     go_ret
     exact ⟨_,rfl,hown,hB⟩
theorem ZNw (rows:List R4) (b n cap:Nat) (w:World) (h:ZGm w b rows) (hn:rows.length=n) (hc:n≤cap) (hcap:cap≤maxLen) (hl:(cat rows).length≤1000000000) :
  Calls Tryz.prog 51 #[.slice (some ⟨b,0,none⟩) n cap] w (Got w (cat rows)):=by
 have hC:=ZMC rows b n cap w h hn hc hcap hl
 generalize cat rows=l at *
 clear h hn
 go_enter func51,ntmps51
 go_wp2_with (first | (go_at_call 81;(with_reducible refine hC.mono ?_);rintro e w' ⟨v,rfl,ho,hb⟩))
 go_ret
 exact ⟨_,rfl,ho,hb⟩
theorem ZMD {W:World} {b:Nat} {x y:R4} (hx:W.cell? ⟨b,0,none⟩=some (.slice x.1 x.2.1 x.2.2.1)) (hy:W.cell? ⟨b,1,none⟩=some (.slice y.1 y.2.1 y.2.2.1)) (rx:Row W .u8 x.1 x.2.1 x.2.2.1 x.2.2.2) (ry:Row W .u8 y.1 y.2.1 y.2.2.1 y.2.2.2):ZGm W b [x,y]:=by
 intro i z hz
 match i with
 | 0=>simp at hz;subst hz;exact ⟨hx,rx⟩
 | 1=>simp at hz;subst hz;exact ⟨hy,ry⟩
 |i+2=>simp at hz
theorem ZO0 {w':World} {base:Nat} {v:Value} {l:List Int} {n:Nat} (h:w'.ownsRow base 5 1 v l.length (u8s l)) (hn:l.length=n) (h0:0<n):∃ g cap,v=.slice (some ⟨g,0,none⟩) n cap∧Row w' .u8 (some ⟨g,0,none⟩) n cap l∧base≤g:=by
 subst hn
 obtain ⟨a,cap,e,hr⟩:=ZBg (k:=.u8) h
 rcases h.2 with ⟨_,h1⟩ | ⟨g,_,_,e2,hb,_⟩
 ·omega
 ·rw [e] at e2;cases e2
  exact ⟨g,cap,e,hr,hb⟩
theorem ZHd {w':World} {base:Nat} {v:Value} {l:List Int} {n:Nat} (h:w'.ownsRow base 5 1 v l.length (u8s l)) (hn:l.length=n):∃ a cap,v=.slice a n cap∧Row w' .u8 a n cap l:=by
 subst hn
 exact ZBg (k:=.u8) h
theorem ZI5 (s:ByteArray) (w:World) (hs:s.size≤900000000):Calls Tryz.prog 52 #[.string s] w (Got w (Bn.spl s.size 4++strB s)):=by
 have hN:=fun w=>ZEz (s.size:Int) w
 have hsp:spn (s.size:Int) 2147483647 4=Bn.spl s.size 4:=by unfold spn;rw [if_neg (by omega),Int.toNat_natCast]
 rw [hsp] at hN
 have hl4:=Bn.spl_len s.size 4
 generalize Bn.spl s.size 4=l at *
 clear hsp
 have hsm:s.size≤maxLen:=by unfold maxLen;omega
 have HL:=ZZY hl4;clear hl4
 have hnil:=fun w a n c=>Lib.run_eql_slice_nil (P:=Tryz.prog) w 22 5 a n c 0 0 Tryz.underlying22
 go_enter func52,ntmps52
 go_wp2_with (first
  |(go_at_call 50;(with_reducible refine (hN _).mono ?_);rintro e w1 ⟨v1,rfl,ho1,hb1⟩;obtain ⟨g1,cap1,rfl,hr1,_⟩:=ZO0 ho1 HL.out (by omega);have HR1:=ZZY hr1;clear hr1;have HO1:=ZZY ho1;clear ho1;obtain ⟨cap2,w2,run2,row2,hb2⟩:=ZDs w1 s hsm;have HR2:=ZZY row2;clear row2)
  |(go_at_call 51
    have hA:=(Below.refl _ w2).alloc (Nat.le_refl _) (.cells #[.slice (some ⟨g1,0,none⟩) 4 cap1,.slice (some ⟨w1.heap.size,0,none⟩) s.size cap2] 22)
    have hRows:ZGm (w2.alloc (.cells #[.slice (some ⟨g1,0,none⟩) 4 cap1,.slice (some ⟨w1.heap.size,0,none⟩) s.size cap2] 22)) w2.heap.size [(some ⟨g1,0,none⟩,4,cap1,l),(some ⟨w1.heap.size,0,none⟩,s.size,cap2,strB s)]:=
     ZMD (by simp) (by simp) (ZAk (ZAk HR1.out hb2 rfl) hA rfl) (ZAk HR2.out hA rfl)
    have hAll:=ZNw _ w2.heap.size 2 2 _ hRows rfl (Nat.le_refl _) (by unfold maxLen;omega) (by simp [cat,HL.out,ZBc];omega)
    rw [show cat [(some ⟨g1,0,none⟩,4,cap1,l),(some ⟨w1.heap.size,0,none⟩,s.size,cap2,strB s)]=l++strB s by simp [cat]] at hAll
    with_reducible refine hAll.mono ?_
    rintro e w4 ⟨v4,rfl,ho4,hb4⟩))
 go_ret
 have hB2:=hb1.trans (hb2.mono hb1.size)
 have hB3:=hB2.trans (hA.mono hB2.size)
 exact ⟨_,rfl,ZAH ho4 hB3.size,hB3.trans (hb4.mono hB3.size)⟩
open Go.RowKit Go.Shelf
mutual
def spV:PV→Int→Int→Int
 | .mk _ _ _ l,d,n=>if 4<d then -1 else spL l (d+1) (n-1)
def spL:List PV→Int→Int→Int
 | [],_,n=>n
 |x :: r,d,n=>if n<0 then n else spL r d (spV x d n)
end
theorem ZQd:∀ v:PV,∀ d n,0≤n→-1≤spV v d n∧spV v d n≤n∧(0≤spV v d n→spV v d n=n-szV v):=by
 intro v
 induction v using ZB1 with
 |h k n s l ih=>
  have hl:∀ d n,-1≤n→-1≤spL l d n∧spL l d n≤n∧(0≤spL l d n→spL l d n=n-szL l):=by
   induction l with
   |nil=>intro d n hn;simp only [spL,szL];omega
   |cons x r ih2=>
    intro d n hn
    simp only [spL,szL]
    split
    ·omega
    ·have h1:=ih x (by simp) d n (by omega)
     have h2:=ih2 (fun y hy=>ih y (by simp [hy])) d (spV x d n) (by omega)
     omega
  intro d n hn
  simp only [spV,szV]
  split
  ·omega
  ·have:=hl (d+1) (n-1) (by omega);omega
theorem ZQp:∀ v:PV,okV v=true→∀ d n:Nat,deepV v+d≤4→szV v≤n→spV v d n=(n:Int)-szV v:=by
 intro v
 induction v using ZB1 with
 |h k m s l ih=>
  intro ho d n hd hn
  simp only [spV,szV,deepV] at *
  rw [if_neg (by omega)]
  by_cases hk:k=5
  ·subst hk
   rw [okV5] at ho
   simp only [Bool.and_eq_true] at ho
   have hol:=ho.2
   clear ho
   rw [if_pos rfl] at hd
   have key:∀ n:Nat,szL l≤n→spL l ((d:Int)+1) n=(n:Int)-szL l:=by
    clear hn
    induction l with
    |nil=>intro n _;simp [spL,szL]
    |cons x r ih2=>
     intro n hn
     simp only [spL,szL,deepL,okL,Bool.and_eq_true] at *
     rw [if_neg (by omega)]
     have h1:=ih x (by simp) hol.1 (d+1) n (by omega) (by omega)
     rw [show ((d+1:Nat):Int)=(d:Int)+1 by omega] at h1
     rw [h1]
     have h2:=ih2 (fun y hy=>ih y (by simp [hy])) (by omega) hol.2 (n-szV x) (by omega)
     rw [show ((n-szV x:Nat):Int)=(n:Int)-szV x by omega] at h2
     rw [h2];omega
   have h3:=key (n-1) (by omega)
   rw [show ((n-1:Nat):Int)=(n:Int)-1 by omega] at h3
   rw [h3];omega
  ·have hl:l = []:=by
    by_cases k0:k=0
    ·subst k0;rw [okV0] at ho;simp at ho;exact ho.2
    by_cases k1:k=1
    ·subst k1;rw [okV1] at ho;simp at ho;exact ho.2
    by_cases k2:k=2
    ·subst k2;rw [okV2] at ho;simp at ho;exact ho.2
    by_cases k3:k=3
    ·subst k3;rw [okV3] at ho;simp at ho;exact ho.2
    by_cases k4:k=4
    ·subst k4;rw [okV4] at ho;simp at ho;exact ho.2
    ·rw [okV6 _ _ _ _ k0 k1 k2 k3 k4 hk] at ho;cases ho
   subst hl
   simp [spL,szL]
theorem ZO1 (v:PV) (h:rightV v=true):0≤spV v 0 100:=by
 simp only [rightV,Bool.and_eq_true,decide_eq_true_eq] at h
 have:=ZQp v h.2 0 100 (by omega) h.1.2
 simp only [Int.natCast_zero] at this
 rw [show ((100:Nat):Int)=100 from rfl] at this
 rw [this];omega
theorem ZNx (v:PV):∀ (d n:Int),0≤d→d≤5→0≤n→n≤100→∀ w x,Is w v x →
  Calls Tryz.prog 106 #[x,.int .i64 d,.int .i64 n] w fun e w'=>e=.returned (.int .i64 (spV v d n))∧Below w.heap.size w w':=by
 induction v using ZB1 with
 |h k m s l ih=>
  intro d n hd hd' hn hn' w x hi
  unfold Is at hi
  obtain ⟨h1,h2,h3,a,cap,rfl,h4,h5,h6⟩:=hi
  have hm:l.length≤maxLen:=Nat.le_trans h4 h5
  unfold maxLen at hm
  have hB0:=(Below.refl _ w).alloc (Nat.le_refl _) (vobj k m s a l.length cap)
  by_cases hg:4<d
  ·have hv:spV (.mk k m s l) d n = -1:=by simp only [spV];rw [if_pos hg]
   rw [hv]
   have hd1:decide (4<d)=true:=by simpa using hg
   clear ih h6 hv hg
   go_enter func106,ntmps106
   go_wp2_with fail
   all_goals go_ret
   all_goals exact ⟨rfl,hB0⟩
  ·have hv:spV (.mk k m s l) d n=spL l (d+1) (n-1):=by simp only [spV];rw [if_neg hg]
   rw [hv]
   clear hv
   have hd1:decide (4<d)=false:=by simpa using hg
   obtain ⟨r,hr⟩:∃ r,spL l (d+1) (n-1)=r:=⟨_,rfl⟩
   rw [hr]
   have HR:=ZZY hr;have HI:=ZZY ih;clear ih hr
   go_enter func106,ntmps106
   go_wp2_with fail
   go_loopw [2,8,16] (fun c _ i wr=>∃ (q:Nat) (z:Int),i=.int .i64 (q:Int)∧c=.int .i64 z∧-1≤z∧z≤100∧q≤l.length∧Below (w.alloc (vobj k m s a l.length cap)).heap.size (w.alloc (vobj k m s a l.length cap)) wr∧Hid (spL (l.drop q) (d+1) z=r)) (fun _ _ i _=>l.length-(intOf i).toNat)
   case atStart=>exact ⟨0,n-1,rfl,rfl,by omega,by omega,Nat.zero_le _,Below.refl _ _,HR.out⟩
   case round=>
   obtain ⟨q,c,rfl,rfl,hc,hc',hq,hB,HQ⟩:=hrel
   by_cases hql:q<l.length
   ·have hdq:decide (q<l.length)=true:=by simp;omega
    obtain ⟨y,hy⟩:∃ y,l[q]? = some y:=⟨l[q],List.getElem?_eq_getElem hql⟩
    obtain ⟨b,off,rfl,hIs⟩:∃ b off,a=some ⟨b,off,none⟩∧IsL w b l off:=by
     rcases h6 with h | h
     ·subst h;simp at hql
     ·exact h
    have hdrop:spL (l.drop q) (d+1) c=if c<0 then c else spL (l.drop (q+1)) (d+1) (spV y (d+1) c):=by
     rw [show l.drop q=y :: l.drop (q+1) by
      rw [List.drop_eq_getElem_cons hql]
      rw [List.getElem?_eq_getElem hql] at hy
      cases hy;rfl]
     simp only [spL]
    rw [HQ.out] at hdrop
    rcases Int.lt_or_le c 0 with hc0 | hc0
    ·have hdc:decide (c<0)=true:=by simpa using hc0
     rw [if_pos hc0] at hdrop
     have HD:=ZZY hdrop
     cases y with
     |mk yk yn ys yl=>
     obtain ⟨ya,yc,⟨g0,g1,g2,g3⟩,hi⟩:=ZCT (ZA7 hB (ZA7 hB0 hIs)) q _ _ _ _ hy
     have hA0:=(Below.refl _ wr).alloc (Nat.le_refl _) (vobj yk yn ys ya yl.length yc)
     clear h6 hIs hi hy hdrop HQ
     go_wp2_with fail
     all_goals go_ret
     all_goals exact ⟨ZBK HD.out.symm,hB0.trans ((hB.trans (hA0.mono hB.size)).mono hB0.size)⟩
    ·have hdc:decide (c<0)=false:=by simp;omega
     rw [if_neg (by omega)] at hdrop
     have hbd:=ZQd y (d+1) c hc0
     have hcall:=fun w x hx=>HI.out y (List.mem_of_getElem? hy) (d+1) c (by omega) (by omega) hc0 hc' w x hx
     cases y with
     |mk yk yn ys yl=>
     obtain ⟨ya,yc,⟨g0,g1,g2,g3⟩,hi⟩:=ZCT (ZA7 hB (ZA7 hB0 hIs)) q _ _ _ _ hy
     have hi2:=ZZY hi
     have hA0:=(Below.refl _ wr).alloc (Nat.le_refl _) (vobj yk yn ys ya yl.length yc)
     obtain ⟨z,hz⟩:∃ z,spV (.mk yk yn ys yl) (d+1) c=z:=⟨_,rfl⟩
     rw [hz] at hcall hdrop hbd
     have HD:=ZZY hdrop
     have HC:=ZZY hcall
     clear h6 hIs hi hy hz hdrop HQ hcall
     go_wp2_with (first | (go_at_call 106;(with_reducible refine (HC.out _ _ (ZAf hA0 _ _ hi2.out)).mono ?_);rintro e w' ⟨rfl,hb⟩))
     all_goals go_roundw
     all_goals (first
      |(case' rel=>exact ⟨q+1,z,by go_num,rfl,by omega,by omega,by omega,hB.trans ((hA0.trans (hb.mono hA0.size)).mono hB.size),HD.out.symm⟩)
      |(case' measure=>simp [intOf];omega))
   ·have hdq:decide (q<l.length)=false:=by simp;omega
    obtain rfl:q=l.length:=by omega
    have hQ:=HQ.out
    rw [List.drop_length] at hQ
    simp only [spL] at hQ
    subst hQ
    go_wp2_with fail
    all_goals go_ret
    all_goals exact ⟨rfl,hB0.trans (hB.mono hB0.size)⟩
theorem ZGn (v:PV) (w:World) (x:Value) (hi:Is w v x):Calls Tryz.prog 86 #[x] w fun e w'=>e=.returned (.bool (rightV v))∧Below w.heap.size w w':=by
 have hS:=fun w x hi=>ZNx v 0 100 (by omega) (by omega) (by omega) (by omega) w x hi
 have hbd:=ZQd v 0 100 (by omega)
 have hrs:=ZO1 v
 have hR:=fun hsz=>ZH3 v hsz
 obtain ⟨c,hc⟩:∃ c,spV v 0 100=c:=⟨_,rfl⟩
 obtain ⟨r,hr⟩:∃ r,rightV v=r:=⟨_,rfl⟩
 rw [hc] at hS hbd hrs
 rw [hr] at hR hrs ⊢
 obtain ⟨k,m,s,l,rfl⟩:∃ k m s l,v=.mk k m s l:=by cases v;exact ⟨_,_,_,_,rfl⟩
 have hi2:=ZZY hi
 unfold Is at hi
 obtain ⟨_,_,_,a,cap,rfl,_,_,_⟩:=hi
 have hB0:=(Below.refl _ w).alloc (Nat.le_refl _) (vobj k m s a l.length cap)
 clear hc hr
 rcases Int.lt_or_le c 0 with hcn | hcn
 ·have hd:decide (0≤c)=false:=by simp;omega
  obtain rfl:r=false:=by
   cases r with
   |false=>rfl
   |true=>have:=hrs rfl;omega
  clear hrs hR
  go_enter func86,ntmps86
  go_wp2_with (first
   |(go_at_call 106;(with_reducible refine (hS _ _ (ZAf hB0 _ _ hi2.out)).mono ?_);rintro e w1 ⟨rfl,hb1⟩))
  all_goals go_ret
  all_goals exact ⟨rfl,hB0.trans (hb1.mono hB0.size)⟩
 ·have hd:decide (0≤c)=true:=by simpa using hcn
  have hR':=hR (by have:=hbd.2.2 hcn;omega)
  clear hR hrs
  go_enter func86,ntmps86
  go_wp2_with (first
   |(go_at_call 106;(with_reducible refine (hS _ _ (ZAf hB0 _ _ hi2.out)).mono ?_);rintro e w1 ⟨rfl,hb1⟩;have hB1:=hB0.trans (hb1.mono hB0.size);obtain ⟨e0,e1,e2,e3⟩:=ZAi hb1)
   |(go_at_call 107;(with_reducible refine (hR' _ _ (ZAf hB1 _ _ hi2.out)).mono ?_);rintro e w2 ⟨rfl,hb2⟩))
  all_goals go_ret
  all_goals exact ⟨ZAG (by simp),hB1.trans (hb2.mono hB1.size)⟩
open Go.RowKit Go.Shelf
attribute [local go_sem] Oper.semAt_some
def IsSl (W:World) (v:Value) (l:List Int):Prop:=∃ a n cap,v=.slice a n cap∧Row W .u8 a n cap l
theorem ZAW {W:World} {base:Nat} {v:Value} {l:List Int} (h:W.ownsRow base 5 1 v l.length (u8s l)):IsSl W v l:=by
 obtain ⟨a,cap,e,hr⟩:=ZBg (k:=.u8) h
 exact ⟨a,_,cap,e,hr⟩
theorem ZAm {W W':World} {v:Value} {l:List Int} (h:IsSl W v l) (hb:Below W.heap.size W W'):IsSl W' v l:=by
 obtain ⟨a,n,cap,e,hr⟩:=h
 exact ⟨a,n,cap,e,ZAk hr hb rfl⟩
theorem ZQB {W:World} : ∀ ps:List (Value × List Int),(∀ p∈ps,IsSl W p.1 p.2)→∃ rows:List R4,rows.length=ps.length∧cat rows=ps.flatMap (·.2)∧∀ (i:Nat) (x:R4),rows[i]? = some x→∃ p:Value × List Int,ps[i]? = some p∧p.1=.slice x.1 x.2.1 x.2.2.1∧Row W .u8 x.1 x.2.1 x.2.2.1 x.2.2.2:=by
 intro ps
 induction ps with
 |nil=>intro _;exact ⟨[],rfl,rfl,by simp⟩
 |cons p ps ih=>
  intro h
  obtain ⟨rows,h1,h2,h3⟩:=ih fun q hq=>h q (by simp [hq])
  obtain ⟨a,n,cap,e,hr⟩:=h p (by simp)
  refine ⟨(a,n,cap,p.2) :: rows,by simp [h1],by simp only [cat,List.flatMap_cons] at h2 ⊢;rw [h2],fun i x hx=>?_⟩
  cases i with
  |zero=>simp at hx;subst hx;exact ⟨p,rfl,e,hr⟩
  |succ i=>simpa using h3 i x (by simpa using hx)
theorem ZGo (W:World) (g n cap:Nat) (ps:List (Value × List Int)) (hc:∀ (i:Nat) (p:Value × List Int),ps[i]? = some p→W.cell? ⟨g,i,none⟩=some p.1) (h:∀ p∈ps,IsSl W p.1 p.2) (hn:ps.length=n) (hcap:n≤cap) (hm:cap≤maxLen) (hl:(ps.flatMap (·.2)).length≤1000000000) :
  Calls Tryz.prog 51 #[.slice (some ⟨g,0,none⟩) n cap] W (Got W (ps.flatMap (·.2))):=by
 obtain ⟨rows,h1,h2,h3⟩:=ZQB ps h
 rw [←h2] at hl ⊢
 refine ZNw rows g n cap W (fun i x hx=>?_) (by omega) hcap hm hl
 obtain ⟨p,q1,q2,q3⟩:=h3 i x hx
 exact ⟨by rw [hc i p q1,q2],q3⟩
theorem ZHe (W:World) (n:Nat) (ps:List (Value × List Int)) (h:∀ p∈ps,IsSl W p.1 p.2) (hn:ps.length=n) (hm:n≤1000) (hl:(ps.flatMap (·.2)).length≤1000000000) (cs:Array Value) (hcs:cs=(ps.map (·.1)).toArray) :
  Calls Tryz.prog 51 #[.slice (some ⟨W.heap.size,0,none⟩) n n] (W.alloc (.cells cs 22)) (Got W (ps.flatMap (·.2))):=by
 subst hcs
 have hA:=(Below.refl W.heap.size W).alloc (Nat.le_refl _) (.cells (ps.map (·.1)).toArray 22)
 refine (ZGo _ W.heap.size n n ps (fun i p hp=>?_) (fun p hp=>ZAm (h p hp) hA) hn (Nat.le_refl _) (by unfold maxLen;omega) hl).mono ?_
 ·have:=ZBC W (ps.map (·.1)) 22 i p.1 (by simp [hp])
  simpa [Addr.add_lit] using this
 ·rintro e w' ⟨v,rfl,ho,hb⟩
  exact ⟨v,rfl,ZAH ho hA.size,hA.trans (hb.mono hA.size)⟩
theorem ZF4 (W:World) (v1 v2:Value) (l1 l2:List Int) (h1:IsSl W v1 l1) (h2:IsSl W v2 l2) (hl:l1.length+l2.length≤1000000000) :
  Calls Tryz.prog 51 #[.slice (some ⟨W.heap.size,0,none⟩) 2 2] (W.alloc (.cells #[v1,v2] 22)) (Got W (l1++l2)):=by
 have:=ZHe W 2 [(v1,l1),(v2,l2)] (by intro p hp;simp at hp;rcases hp with rfl | rfl<;>assumption) rfl (by omega) (by simp;omega) #[v1,v2] rfl
 simpa using this
theorem ZBz {W W':World} {v:Value} {base size n:Nat} {e:TypeId} {xs:List Value} (hg:W.grownBy W' v.ownBlock) (hv:W.ownsRow base e size v n xs) {u:Value} {base' size' m:Nat} {e':TypeId} {ys:List Value} (hu:W.ownsRow base' e' size' u m ys) (hne:e'≠e):W'.ownsRow base' e' size' u m ys:=by
 refine ⟨hu.1, ?_⟩
 rcases hu.2 with h' | ⟨g,cap,cur,rfl,hb,hgb,r'⟩
 ·exact .inl h'
 ·refine .inr ⟨g,cap,cur,rfl,hb, ?_,r'⟩
  rw [hg.block g (ZZZ hgb).1 (fun e1=>?_)]
  ·exact hgb
  ·rcases hv.2 with ⟨rfl,_⟩ | ⟨g2,_,_,rfl,_,hg2,_⟩
   ·cases e1
   ·have:g=g2:=by simpa [Value.ownBlock] using e1
    subst this
    rw [hgb] at hg2;cases hg2;exact hne rfl
theorem ZF5:(Tryz.prog.info? 22).map (fun i=>(i.zero,i.size,i.bytes))=some (some (.slice none 0 0),1,24):=by kernel_rfl
mutual
def putV:PV→List Int
 | .mk k n s l=>k :: (if k=1 then [n] else if k=2 then spl64 n else if k=3∨k=4 then Bn.spl s.size 4++strB s else if k=5 then Bn.spl l.length 4++putL l else [])
def putL:List PV→List Int
 | []=>[]
 |x :: r=>putV x++putL r
end
theorem ZF6 (l r:List PV):putL (l++r)=putL l++putL r:=by
 induction l with
 |nil=>rfl
 |cons x l ih=>simp only [List.cons_append,putL,ih,List.append_assoc]
theorem ZNy (l:List PV) (i:Nat) (y:PV) (h:l[i]? = some y):putL (l.take (i+1))=putL (l.take i)++putV y:=by
 rw [List.take_add_one,h,ZF6];simp [putL]
theorem ZHf (l:List PV) (i:Nat):(putL (l.take i)).length≤(putL l).length:=by
 have e:putL l=putL (l.take i)++putL (l.drop i):=by rw [←ZF6,List.take_append_drop]
 rw [e,List.length_append];omega
theorem ZC7 {k n:Int} {s:ByteArray} {l:List PV} (h:okV (.mk k n s l)=true):(0≤k∧k≤5)∧(k=1→n=0∨n=1)∧s.size≤200∧(k≠5→l = [])∧l.length≤20∧okL l=true∧(k≠3→k≠4→s.toList.isEmpty=true)∧(k≠1→k≠2→n=0):=by
 have hemp:∀ s:ByteArray,s.toList.isEmpty=true→s.size≤200:=fun s hs=>by
  rw [ZAz] at hs;simp at hs;simp [ByteArray.size,hs]
 by_cases k0:k=0
 ·subst k0;rw [okV0] at h;simp only [Bool.and_eq_true,beq_iff_eq,List.isEmpty_iff] at h;obtain ⟨⟨rfl,h2⟩,rfl⟩:=h
  exact ⟨by omega,by omega,hemp s (by simp [h2]),fun _=>rfl,by simp,rfl,fun _ _=>by simp [h2],fun _ _=>rfl⟩
 by_cases k1:k=1
 ·subst k1;rw [okV1] at h;simp only [Bool.and_eq_true,Bool.or_eq_true,beq_iff_eq,List.isEmpty_iff] at h;obtain ⟨⟨h1,h2⟩,rfl⟩:=h
  exact ⟨by omega,fun _=>h1,hemp s (by simp [h2]),fun _=>rfl,by simp,rfl,fun _ _=>by simp [h2],fun h=>absurd rfl h⟩
 by_cases k2:k=2
 ·subst k2;rw [okV2] at h;simp only [Bool.and_eq_true,List.isEmpty_iff] at h;obtain ⟨h2,rfl⟩:=h
  exact ⟨by omega,by omega,hemp s (by simp [h2]),fun _=>rfl,by simp,rfl,fun _ _=>by simp [h2],fun _ h=>absurd rfl h⟩
 by_cases k3:k=3
 ·subst k3;rw [okV3] at h;simp only [Bool.and_eq_true,beq_iff_eq,List.isEmpty_iff] at h;obtain ⟨⟨rfl,h2⟩,rfl⟩:=h
  refine ⟨by omega,by omega, ?_,fun _=>rfl,by simp,rfl,fun h=>absurd rfl h,fun _ _=>rfl⟩
  have:=ZBc s
  simp only [nameB,Bool.and_eq_true,decide_eq_true_eq] at h2
  omega
 by_cases k4:k=4
 ·subst k4;rw [okV4] at h;simp only [Bool.and_eq_true,beq_iff_eq,List.isEmpty_iff,decide_eq_true_eq] at h;obtain ⟨⟨⟨rfl,h2⟩,h3⟩,rfl⟩:=h
  exact ⟨by omega,by omega,h2,fun _=>rfl,by simp,rfl,fun _ h=>absurd rfl h,fun _ _=>rfl⟩
 by_cases k5:k=5
 ·subst k5;rw [okV5] at h;simp only [Bool.and_eq_true,beq_iff_eq,decide_eq_true_eq] at h;obtain ⟨⟨⟨rfl,h2⟩,h3⟩,h4⟩:=h
  exact ⟨by omega,by omega,hemp s h2,fun h=>absurd rfl h,h3,h4,fun _ _=>h2,fun _ _=>rfl⟩
 ·rw [okV6 _ _ _ _ k0 k1 k2 k3 k4 k5] at h;cases h
theorem ZF7 {l:List PV} (h:okL l=true):∀ x∈l,okV x=true:=by
 induction l with
 |nil=>simp
 |cons y r ih=>
  intro x hx
  simp only [okL,Bool.and_eq_true] at h
  rcases List.mem_cons.1 hx with rfl | hx
  ·exact h.1
  ·exact ih h.2 x hx
theorem ZKz:∀ v:PV,okV v=true→(putV v).length≤210*szV v:=by
 intro v
 induction v using ZB1 with
 |h k n s l ih=>
  intro h
  have hp:=ZC7 h
  have h3:=hp.2.2.1
  have h6:=hp.2.2.2.2.2.1
  clear hp
  have hl:(putL l).length≤210*szL l:=by
   clear h
   induction l with
   |nil=>simp [putL]
   |cons x r ih2=>
    simp only [okL,Bool.and_eq_true] at h6
    have h1:=ih x (by simp) h6.1
    have h2:=ih2 (fun y hy=>ih y (by simp [hy])) h6.2
    simp only [putL,szL,List.length_append]
    omega
  simp only [putV,szV,List.length_cons]
  split
  ·simp;omega
  ·split
   ·simp [spl64,Bn.spl_len];omega
   ·split
    ·simp [Bn.spl_len,ZBc];omega
    ·split
     ·simp [Bn.spl_len];omega
     ·simp;omega
theorem ZNz (n most:Int) (size:Nat) (h0:0≤n) (h1:n≤most):spn n most size=Bn.spl n.toNat size:=by unfold spn;rw [if_neg (by omega)]
theorem ZHg (n:Int) (h0:0≤n) (h1:n≤255):spn n 255 1 = [n]:=by
 rw [ZNz n 255 1 h0 h1]
 simp [Bn.spl]
 omega
