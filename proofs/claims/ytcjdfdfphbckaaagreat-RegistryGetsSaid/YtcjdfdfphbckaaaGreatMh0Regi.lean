/- What all my texts share: endings, rows of integers, new cells. -/
import Derived.Test.YtcjdfdfphbckaaaGreatRows
import Derived.WalkKit
import Derived.WalkSpells
import Derived.WalkLawsBesides
import Derived.Lib.Hide
import Derived.RangeFuncBox
import Derived.Maps.AppendAt
import Derived.Laws.BytesArg
import Derived.Lib.ConvBytes
import Derived.RangeFuncNested
import Derived.RangeFuncBound
import Derived.RangeFuncCalls
import Derived.RangeFuncLeaves
import Derived.Shelf.Abstract
import Derived.Shelf.RegionOpen
import Derived.OwnWalkIn
import Derived.TacticsInMore
import Derived.LoopNIn
import Derived.LoopIn
import Derived.Deep.Slices
import Derived.Laws.BitsAllLaws
import Derived.Below
set_option linter.unusedVariables false
set_option linter.unusedSimpArgs false
set_option maxRecDepth 100000
set_option maxHeartbeats 64000000
open Go.Proofs.Tryz
namespace Go.Proofs.YtcjdfdfphbckaaaGreat
theorem ZZZ {α : Type} {xs : Array α} {i : Nat} {a : α} (h : xs[i]? = some a) : ∃ h : i < xs.size, xs[i] = a := Array.getElem?_eq_some_iff.1 h
theorem ZZY {p : Prop} (h : p) : Go.RowKit.Hid p := Lib.hid h
theorem ZZX {α : Type} (l : List α) (i : Nat) (a : α) : l.toArray.setIfInBounds i a = (l.set i a).toArray := List.setIfInBounds_toArray ..
theorem ZZW {α : Type} {x a : α} {l : List α} : (x :: l).set 0 a = a :: l := List.set_cons_zero ..
theorem ZZV {α : Type} {x a : α} {l : List α} {n : Nat} : (x :: l).set (n + 1) a = x :: l.set n a := List.set_cons_succ ..
end Go.Proofs.YtcjdfdfphbckaaaGreat
namespace Go.Proofs.YtcjdfdfphbckaaaGreat
open Go.RowKit
theorem ZBK {k:IntKind} {a b:Int} (h:a=b):Ending.returned (.int k a)=.returned (.int k b):=by rw [h]
theorem ZAG {a b:Bool} (h:a=b):Ending.returned (.bool a)=.returned (.bool b):=by rw [h]
theorem ZN5 {k l:IntKind} {a b c d:Int} (h:a=b) (h':c=d):Ending.returned (.tuple #[.int k a,.int l c])=.returned (.tuple #[.int k b,.int l d]):=by rw [h,h']
theorem ZMM {k l:IntKind} {a b c d:Int} {x y:Bool} (h:a=b) (h':c=d) (h'':x=y):Ending.returned (.tuple #[.int k a,.int l c,.bool x])=.returned (.tuple #[.int k b,.int l d,.bool y]):=by rw [h,h',h'']
def Row (w:World) (k:IntKind) (a:Option Addr) (len cap:Nat) (l:List Int):Prop:=
 l.length=len∧len≤cap∧cap≤maxLen∧(len=0∨∃ b off,a=some ⟨b,off,none⟩∧∀ i,i<len→w.cell? ⟨b,off+i,none⟩=some (.int k (l[i]?.getD 0)))
theorem ZBC (w:World) (l:List Value) (t:TypeId):∀ j u,l[j]? = some u→(w.alloc (.cells l.toArray t)).cell? ((⟨w.heap.size,0,none⟩:Addr).add j)=some u:=by
 intro j u hj
 have hlt:j<l.length:=by
  rcases Nat.lt_or_ge j l.length with h | h
  ·exact h
  ·rw [List.getElem?_eq_none h] at hj;cases hj
 simp only [Addr.add_lit]
 rw [World.cell?_alloc_at _ _ _ _ (by simp)]
 simpa using hj
theorem ZAH {w:World} {base base':Nat} {e:TypeId} {size:Nat} {v:Value} {n:Nat} {xs:List Value} (h:w.ownsRow base e size v n xs) (hb:base'≤base):w.ownsRow base' e size v n xs:=by
 refine ⟨h.1, ?_⟩
 rcases h.2 with h | ⟨g,cap,cur,h1,h2,h3⟩
 ·exact .inl h
 ·exact .inr ⟨g,cap,cur,h1,Nat.le_trans hb h2,h3⟩
theorem ZK7 {W W':World} {B:Nat} {t:TypeId} {u:Value} (hb:Boxed W B t u) {v:Value} (hg:W.grownBy W' v.ownBlock) {base:Nat} {e:TypeId} {size n:Nat} {xs:List Value} (hrow:W.ownsRow base e size v n xs) (hlt:B<base):Boxed W' B t u:=
 hb.kept hg (fun h=>by have:=(hrow.lt B h.symm).1;omega)
theorem ZEi {W W':World} {v:Value} (hg:W.grownBy W' v.ownBlock) {base:Nat} {e:TypeId} {size n:Nat} {xs:List Value} (hrow:W.ownsRow base e size v n xs):KeepsOthers W W':=
 KeepsOthers.of_grownBy hg fun j o ej hj=>by
  rcases hrow.2 with ⟨rfl,_⟩ | ⟨g,cap,cur,rfl,_,hgb,_⟩
  ·simp [Value.ownBlock] at ej
  ·obtain rfl:g=j:=by simpa [Value.ownBlock] using ej
   rw [hgb] at hj;cases hj;rfl
theorem ZBX {W W':World} {v:Value} (hg:W.grownBy W' v.ownBlock) {base:Nat} {e:TypeId} {size n:Nat} {xs:List Value} (hrow:W.ownsRow base e size v n xs) (hb:base≤W.heap.size):Below base W W':=
 (Below.refl base W).grown hg hb (fun k hk=>(hrow.lt k hk).1)
theorem ZAh {B:Nat} {a w:World} (h:Below B a w) (n:Nat):Below B a (w.drewN n):=h.trans ⟨rfl,rfl,rfl,Nat.le_refl _,fun _ _=>rfl⟩
theorem ZAL {w w':World} {base:Nat} {e:TypeId} {size:Nat} {v:Value} {n:Nat} {xs:List Value} (h:w.ownsRow base e size v n xs) (hb:Below w.heap.size w w'):w'.ownsRow base e size v n xs:=by
 refine ⟨h.1, ?_⟩
 rcases h.2 with hn | ⟨g,cap,cur,rfl,hg,hh,r⟩
 ·exact .inl hn
 ·exact .inr ⟨g,cap,cur,rfl,hg,(hb.block g (ZZZ hh).1).trans hh,r⟩
def ZPY (k:IntKind) (w:World) (a:Option Addr) (len cap:Nat) (zs:List Int):Prop:=
 (a=none∧len=0∧cap=0∧zs = []) ∨
 ∃ x,a=some x∧len≤cap∧cap≤maxLen∧zs.length=cap∧(∀ i,i<zs.length→w.cell? (x.add i)=some (.int k (zs.getD i 0)))∧∀ n∈zs,(Lit.int k n).wf=true
theorem ZHm {k:IntKind} {w:World} {a:Option Addr} {len cap:Nat} {zs:List Int} (h:ZPY k w a len cap zs):Row w k a len cap (zs.take len)∧∀ n∈zs.take len,(Lit.int k n).wf=true:=by
 rcases h with ⟨rfl,rfl,rfl,rfl⟩ | ⟨x,rfl,hl,hm,hz,hc,hw⟩
 ·exact ⟨⟨rfl,Nat.le_refl _,by unfold maxLen;omega,.inl rfl⟩,by simp⟩
 ·refine ⟨⟨by rw [List.length_take];omega,hl,hm, ?_⟩,fun n hn=>hw n (List.mem_of_mem_take hn)⟩
  rcases Nat.eq_zero_or_pos len with h0 | h0
  ·exact .inl h0
  ·obtain ⟨b,off,spot⟩:=x
   have hspot:spot=none:=by simpa [Addr.add] using World.cell?_spot (hc 0 (by omega))
   subst hspot
   refine .inr ⟨b,off,rfl,fun i hi=>?_⟩
   have:=hc i (by omega)
   rw [Addr.add_lit] at this
   rw [List.getElem?_take,if_pos hi]
   simpa [List.getD] using this
def ZB7 (w:World) (size:Nat) (a:Option Addr) (n:Nat) (xs:List Value):Prop:=
 xs.length=n*size∧(n=0∨∃ ad,a=some ad∧∀ j u,xs[j]? = some u→w.cell? (ad.add j)=some u)
theorem ZCK {w:World} {k:IntKind} {a:Option Addr} {n c:Nat} {l:List Int} (h:Row w k a n c l):ZB7 w 1 a n (l.map (Value.int k)):=by
 obtain ⟨h1,_,_,h4⟩:=h
 refine ⟨by simp [h1], ?_⟩
 rcases h4 with h | ⟨b,off,rfl,hc⟩
 ·exact .inl h
 ·refine .inr ⟨_,rfl,fun j u hu=>?_⟩
  have hj:j<n:=by
   rcases Nat.lt_or_ge j n with h | h
   ·exact h
   ·rw [List.getElem?_eq_none (by simp;omega)] at hu;cases hu
  rw [Addr.add_lit,hc j hj,←hu]
  simp [List.getElem?_eq_getElem (show j<l.length by omega)]
section
variable {P:Program} (w:World)
theorem ZFF (base:Nat) (t ty e:TypeId) (i:TypeInfo) (z:Value) (size bytes:Nat) (ht:P.underlying t=some (.slice e)) (hi:P.info? e=some i) (hz:i.zero=some z)
  (hsize:i.size=size) (hby:i.bytes=bytes) (hzs:z.cells.size=size) (hsz:0<size) (v:Value) (n:Nat) (xs:List Value) (hown:w.ownsRow base e size v n xs)
  (a:Option Addr) (m c:Nat) (news:List Value) (hr:ZB7 w size a m news) (h1:∀ u∈news,u.oneCell'=true) (h63:n+m≤maxLen) (hbytes:(n+m)*bytes≤140737488355328) (hbase:base≤w.heap.size) :
  ∃ v' w',(Builtin.append_ #[t,t] ty #[v,.slice a m c]).run P w=.ok v' w'∧w'.ownsRow base e size v' (n+m) (xs++news)∧w.grownBy w' v.ownBlock:=by
 obtain ⟨hl,hr⟩:=hr
 cases a with
 |none=>
  obtain rfl:m=0:=by rcases hr with h | ⟨_,h,_⟩<;>first | exact h | cases h
  obtain rfl:news = []:=List.length_eq_zero_iff.1 (by simpa using hl)
  refine ⟨v,w, ?_,by simpa using hown,⟨rfl,rfl,rfl,Nat.le_refl _,fun _ _ _=>rfl⟩⟩
  rcases hown.2 with ⟨rfl,rfl⟩ | ⟨g,cap,cur,rfl,_,_,hnc,_⟩
  ·simp [Builtin.append_,run_underlying ht,sizeOf,typeInfo,hi,Builtin.lenOf,Builtin.firstCells]
  ·simp [Builtin.append_,run_underlying ht,sizeOf,typeInfo,hi,Builtin.lenOf,Builtin.firstCells,hnc,storeCells]
 |some ad=>
  have hc:∀ j u,news[j]? = some u→w.cell? (ad.add j)=some u:=by
   rcases hr with rfl | ⟨ad',e,h⟩
   ·intro j u hu
    obtain rfl:news = []:=List.length_eq_zero_iff.1 (by simpa using hl)
    simp at hu
   ·cases e;exact h
  obtain ⟨v',w',hrun,h2,h3,_⟩:=run_append_own_at (P:=P) w base t ty e i z size bytes ht hi hz hsize hby hzs hsz v n xs hown ad m c news hl hc h1 h63 hbytes hbase
  exact ⟨v',w',hrun,h2,h3⟩
theorem ZAr {ops:Array Oper} {rest:List Oper} {o:Oper} {a:Act} {Q:Exit→Act→World→Prop} (hgd:o.guard=none) (s x:Operand) (t:TypeId)
  (ho:o.op=.call { callee:=.builtin .append,args:=#[s,x],argTypes:=#[t,t] }) (base:Nat) (e:TypeId) (i:TypeInfo) (z:Value) (size bytes:Nat) (ht:P.underlying t=some (.slice e)) (hi:P.info? e=some i) (hz:i.zero=some z)
  (hsize:i.size=size) (hby:i.bytes=bytes) (hzs:z.cells.size=size) (hsz:0<size) (v:Value) (n:Nat) (xs:List Value) (hs:a.eval s=v) (hown:w.ownsRow base e size v n xs)
  (A:Option Addr) (m c:Nat) (news:List Value) (hx:a.eval x=.slice A m c) (hr:ZB7 w size A m news) (h1:∀ u∈news,u.oneCell'=true) (h63:n+m≤maxLen) (hbytes:(n+m)*bytes≤140737488355328) (hbase:base≤w.heap.size)
  (h:∀ v' w',w'.ownsRow base e size v' (n+m) (xs++news)→w.grownBy w' v.ownBlock→wpList P ops Q rest (a.put o.dst v') w'):wpList P ops Q (o :: rest) a w:=
 wpList_plain hgd fun K hK=>by
  obtain ⟨v',w',hrun,h2,h3⟩:=ZFF (P:=P) w base t o.type e i z size bytes ht hi hz hsize hby hzs hsz v n xs hown A m c news hr h1 h63 hbytes hbase
  unfold Oper.wp execOp
  simp only [ho,resolve,invoke,builtin,Sem.run_bind,Sem.run_pure,Result.andThen_ok,List.map_toArray,List.map_cons,List.map_nil,hs,hx,hrun]
  exact hK _ _ (h v' w' h2 h3)
end
open Go.RowKit Go.Shelf
def ZCh (l:List Int):Prop:=∀ i:Nat,0≤l[i]?.getD 0∧l[i]?.getD 0≤255
theorem ZGt {α β : Type} (p : α × β):∃ a b,p=(a,b):=⟨p.1,p.2,rfl⟩
def strB (s:ByteArray):List Int:=s.data.toList.map fun b=>(b.toNat:Int)
theorem ZBc (s:ByteArray):(strB s).length=s.size:=by simp [strB]
theorem ZDh (s:ByteArray) (i:Nat) (h:i<s.size):(strB s)[i]?.getD 0=(s[i].toNat:Int):=by
 simp only [strB,List.getElem?_map,Array.getElem?_toList]
 rw [Array.getElem?_eq_getElem (by simpa using h)];rfl
theorem ZCL (s:ByteArray):ZCh (strB s):=by
 intro i
 simp only [strB,List.getElem?_map,Array.getElem?_toList]
 cases s.data[i]? with
 |none=>simp
 |some b=>simp;have:=b.toNat_lt;omega
theorem ZMN (b:UInt8):0≤(b.toNat:Int)∧(b.toNat:Int)≤255:=by have:=b.toNat_lt;omega
def u8s (l:List Int):List Value:=l.map (Value.int .u8)
theorem ZK8 (l r:List Int):u8s (l++r)=u8s l++u8s r:=by simp [u8s]
theorem ZFZ:(Tryz.prog.info? 5).map (fun i=>(i.zero,i.size,i.bytes))=some (some (.int .u8 0),1,1):=by kernel_rfl
theorem ZBQ {w:World} {base:Nat} {e:TypeId} {size:Nat} {v:Value} {n m:Nat} {xs ys:List Value} (h:w.ownsRow base e size v n xs) (h1:n=m) (h2:xs=ys):w.ownsRow base e size v m ys:=by
 subst h1 h2;exact h
def ZDR (b:Nat) (t:TypeId) (A B:World):Prop:=∀ v,Boxed A b t v→Boxed B b t v
theorem ZK9 {b:Nat} {t:TypeId} {A B C:World} (h:ZDR b t A B) (k:ZDR b t B C):ZDR b t A C:=fun v hv=>k v (h v hv)
theorem ZLA {b:Nat} {t:TypeId} (W:World) (l:Nat) (o o':Obj) (hl:W.heap[l]? = some o) (ho:o.isCells=false):ZDR b t W (W.putObj l o'):=fun v hv=>
 hv.kept (grownBy_putObj' W l o') (fun e=>by
  cases e
  have h:W.heap[b]? = some (.cells #[v] t (0,0)):=hv
  rw [h] at hl;cases hl;simp [Obj.isCells] at ho)
theorem ZJB {b:Nat} {t:TypeId} {A B:World} {row:Option Nat} (hg:A.grownBy B row) (hne:some b≠row):ZDR b t A B:=fun _ hv=>hv.kept hg hne
theorem ZCi:(Tryz.prog.info? 3).map (fun i=>(i.zero,i.size,i.bytes))=some (some (.int .i64 0),1,8):=by kernel_rfl
def i64s (l:List Int):List Value:=l.map (Value.int .i64)
theorem ZGA (l:List Int) (k:Nat) (h:k<l.length):l.take (k+1)=l.take k ++ [l[k]?.getD 0]:=by
 rw [List.take_succ_eq_append_getElem h,List.getElem?_eq_getElem h];rfl
theorem ZGu (l r:List Int) (h:l.length=r.length) (hc:∀ i,i<l.length→l[i]?.getD 0=r[i]?.getD 0):l=r:=by
 apply List.ext_getElem h
 intro i h1 h2
 have:=hc i h1
 rwa [List.getElem?_eq_getElem h1,List.getElem?_eq_getElem h2] at this
theorem ZBy (w:World) (l:List Value) (e:TypeId) (n:Nat) (hn:l.length=n) (hm:n≤maxLen) :
  (w.alloc (.cells l.toArray e)).ownsRow w.heap.size e 1 (.slice (some ⟨w.heap.size,0,none⟩) n n) n l:=
 ⟨by omega,.inr ⟨w.heap.size,n,l.toArray,rfl,Nat.le_refl _,World.alloc_heap_new w _,Nat.le_refl _,hm,by simpa using hn,by simp [←hn]⟩⟩
theorem ZBg {w:World} {base:Nat} {e:TypeId} {v:Value} {n:Nat} {k:IntKind} {l:List Int} (h:w.ownsRow base e 1 v n (l.map (Value.int k))) :
  ∃ a cap,v=.slice a n cap∧Row w k a n cap l:=by
 obtain ⟨h1,h2⟩:=h
 have hl:l.length=n:=by simpa using h1
 rcases h2 with ⟨rfl,rfl⟩ | ⟨g,cap,cur,rfl,hb,hg,hn,hc,hs,ht⟩
 ·exact ⟨none,0,rfl,hl,Nat.le_refl _,by unfold maxLen;omega,.inl rfl⟩
 ·refine ⟨_,cap,rfl,hl,hn,hc,.inr ⟨g,0,rfl,fun i hi=>?_⟩⟩
  rw [Nat.mul_one] at ht
  have h1:(l.map (Value.int k))[i]? = some (.int k (l[i]?.getD 0)):=by
   simp [List.getElem?_eq_getElem (show i<l.length by omega)]
  rw [←ht,List.getElem?_take,if_pos hi] at h1
  simp only [World.cell?,hg,Nat.zero_add]
  simpa using h1
theorem ZAk {w w':World} {B:Nat} {k:IntKind} {a:Option Addr} {n c:Nat} {l:List Int} (h:Row w k a n c l) (hb:Below B w w') (hB:B=w.heap.size):Row w' k a n c l:=by
 subst hB
 obtain ⟨h1,h2,h3,h4⟩:=h
 refine ⟨h1,h2,h3, ?_⟩
 rcases h4 with h | ⟨b,off,rfl,hc⟩
 ·exact .inl h
 ·refine .inr ⟨b,off,rfl,fun i hi=>?_⟩
  have h0:=hc i hi
  have hbk:b<w.heap.size:=by
   simp only [World.cell?] at h0
   rcases Nat.lt_or_ge b w.heap.size with h | h
   ·exact h
   ·rw [Array.getElem?_eq_none h] at h0;cases h0
  exact (hb.cell (p:=⟨b,off+i,none⟩) hbk).trans h0
theorem ZQE (b off len cap q k:Nat) (hq:q<cap) (hk:q+k≤cap) (w:World) :
  (Instr.slice 22 (.slice (some ⟨b,off,none⟩) len cap) (some (.int .i64 (q:Int))) (some (.int .i64 ((q:Int)+k))) none).run Tryz.prog w=.ok (.slice (some ⟨b,off+q,none⟩) k (cap-q)) w:=by
 have h1:=run_slice_lh (P:=Tryz.prog) (w:=w) 22 (some ⟨b,off,none⟩) len cap Tryz.underlying22 .i64 .i64 (q:Int) ((q:Int)+k) (by omega) (by omega) (by omega)
 have h2:(sizeOf (Tryz.prog.elem 22)).run Tryz.prog w=.ok 1 w:=by kernel_rfl
 rw [h2] at h1
 simp only [Result.andThen,sliced] at h1
 rw [h1,if_neg (by omega)]
 simp only [Option.map,Addr.add_lit,Nat.mul_one]
 congr 2<;>simp<;>omega
theorem ZDs (w:World) (s:ByteArray) (hs:s.size≤maxLen):∃ cap w',(convert 9 22 (.string s)).run Tryz.prog w=.ok (.slice (some ⟨w.heap.size,0,none⟩) s.size cap) w' ∧
  Row w' .u8 (some ⟨w.heap.size,0,none⟩) s.size cap (strB s)∧Below w.heap.size w w':=by
 refine ⟨_,_,Lib.run_convert_string_bytes w _ _ _ s Tryz.underlying9 Tryz.underlying22 Tryz.underlying5,⟨ZBc s,grownCap_ge _ _ _ _,grownCap_le_maxLen _ _ _ _ hs,.inr ⟨_,0,rfl,fun i hi=>?_⟩⟩, ?_⟩
 ·rw [Nat.zero_add,Lib.bytesWorld_cell w _ s i hi,ZDh s i hi]
  simp only [List.getD,Array.getElem?_toList]
  rw [Array.getElem?_eq_getElem (by simpa using hi)]
  rfl
 ·have h:=Lib.bytesWorld_at_old w 5 s
  exact ⟨by simp [Lib.bytesWorld,World.freeze,World.alloc,World.drew,-World.alloc_eq,-World.drew_eq],rfl,rfl,by rw [Lib.bytesWorld_size];omega,h⟩
theorem ZQn {n:Int} (h:(Lit.int .u8 n).wf=true):0≤n∧n≤255:=by simpa [Lit.wf,IntKind.min,IntKind.max,IntKind.signed,IntKind.bits] using h
theorem ZN6 {l:List Int} (h:∀ n∈l,(Lit.int .u8 n).wf=true):ZCh l:=by
 intro i
 rcases Nat.lt_or_ge i l.length with h1 | h1
 ·rw [List.getElem?_eq_getElem h1];exact ZQn (h _ (List.getElem_mem h1))
 ·rw [List.getElem?_eq_none h1];simp
theorem ZC9 (s:ByteArray):strOfNums (strB s)=s:=by
 apply ByteArray.ext
 apply Array.toList_inj.1
 simp only [strOfNums,strB,List.map_map]
 conv=>rhs;rw [←List.map_id s.data.toList]
 apply List.map_congr_left
 intro x _
 simp
theorem ZAz (s:ByteArray):s.toList=s.data.toList:=by
 have h:∀ (n i:Nat) (r:List UInt8),s.size-i=n→ByteArray.toList.loop s i r=r.reverse++s.data.toList.drop i:=by
  intro n
  induction n with
  |zero=>
   intro i r h
   rw [ByteArray.toList.loop,if_neg (by omega),List.drop_eq_nil_of_le (by simp;omega)];simp
  |succ n ih=>
   intro i r h
   have hi:i<s.data.toList.length:=by simp;omega
   rw [ByteArray.toList.loop,if_pos (by omega),ih _ _ (by omega),List.drop_eq_getElem_cons hi]
   simp only [List.reverse_cons,List.append_assoc,List.cons_append,List.nil_append]
   congr 2
   have:s.get! i=s.data[i]!:=rfl
   rw [this,getElem!_pos s.data i (by simpa using hi)];rfl
 exact (h _ 0 [] rfl)
open Go.RowKit Go.Shelf
inductive PV where
 |mk (k n:Int) (s:ByteArray) (l:List PV)
instance:Inhabited PV:=⟨.mk 0 0 ⟨#[]⟩ []⟩
theorem ZB1 {p:PV→Prop} (h:∀ k n s l,(∀ x∈l,p x)→p (.mk k n s l)):∀ v,p v:=by
 intro v
 refine PV.rec (motive_1:=p) (motive_2:=fun l=>∀ x∈l,p x) (fun k n s l ih=>h k n s l ih) (by simp) (fun x r hx hr y hy=>?_) v
 rcases List.mem_cons.1 hy with rfl | hy
 ·exact hx
 ·exact hr y hy
def I64 (n:Int):Prop:=-9223372036854775808≤n∧n≤9223372036854775807
mutual
def Is (w:World):PV→Value→Prop
 | .mk k n s l,v=>I64 k∧I64 n∧s.size≤maxLen∧∃ a cap,v=.agg #[.int .i64 k,.int .i64 n,.string s,.slice a l.length cap]∧l.length≤cap∧cap≤maxLen ∧
   (l = []∨∃ b off,a=some ⟨b,off,none⟩∧IsL w b l off)
def IsL (w:World) (b:Nat):List PV→Nat→Prop
 | [],_=>True
 |x :: r,off=>(∃ c0 c1 c2 c3,(w.cell? ⟨b,off,none⟩=some c0∧w.cell? ⟨b,off+1,none⟩=some c1∧w.cell? ⟨b,off+2,none⟩=some c2∧w.cell? ⟨b,off+3,none⟩=some c3)∧Is w x (.agg #[c0,c1,c2,c3]))∧IsL w b r (off+4)
end
theorem ZMO {w:World} {b:Nat} : ∀ {l:List PV} {off:Nat},IsL w b l off→∀ i x,l[i]? = some x→∃ c0 c1 c2 c3,(w.cell? ⟨b,off+i*4,none⟩=some c0∧w.cell? ⟨b,off+i*4+1,none⟩=some c1∧w.cell? ⟨b,off+i*4+2,none⟩=some c2∧w.cell? ⟨b,off+i*4+3,none⟩=some c3)∧Is w x (.agg #[c0,c1,c2,c3]):=by
 intro l
 induction l with
 |nil=>intro off _ i x h;simp at h
 |cons y r ih=>
  intro off h i x hx
  unfold IsL at h
  cases i with
  |zero=>simp at hx;subst hx;simpa using h.1
  |succ i=>
   have:=ih h.2 i x (by simpa using hx)
   simpa [Nat.succ_mul,Nat.add_assoc,Nat.add_comm,Nat.add_left_comm] using this
theorem ZKT {w:World} {b:Nat} : ∀ {l:List PV} {off:Nat},(∀ i x,l[i]? = some x→∃ c0 c1 c2 c3,(w.cell? ⟨b,off+i*4,none⟩=some c0∧w.cell? ⟨b,off+i*4+1,none⟩=some c1∧w.cell? ⟨b,off+i*4+2,none⟩=some c2∧w.cell? ⟨b,off+i*4+3,none⟩=some c3)∧Is w x (.agg #[c0,c1,c2,c3]))→IsL w b l off:=by
 intro l
 induction l with
 |nil=>intro off _;unfold IsL;trivial
 |cons y r ih=>
  intro off h
  unfold IsL
  refine ⟨by simpa using h 0 y rfl,ih fun i x hx=>?_⟩
  have:=h (i+1) x (by simpa using hx)
  simpa [Nat.succ_mul,Nat.add_assoc,Nat.add_comm,Nat.add_left_comm] using this
theorem ZCT {w:World} {b off:Nat} {l:List PV} (h:IsL w b l off) (i:Nat) (k n:Int) (s:ByteArray) (r:List PV) (hx:l[i]? = some (.mk k n s r)):∃ a cap,
  (w.cell? ⟨b,off+i*4,none⟩=some (.int .i64 k)∧w.cell? ⟨b,off+i*4+1,none⟩=some (.int .i64 n)∧w.cell? ⟨b,off+i*4+2,none⟩=some (.string s)∧w.cell? ⟨b,off+i*4+3,none⟩=some (.slice a r.length cap)) ∧
  Is w (.mk k n s r) (.agg #[.int .i64 k,.int .i64 n,.string s,.slice a r.length cap]):=by
 obtain ⟨c0,c1,c2,c3,⟨g0,g1,g2,g3⟩,hi⟩:=ZMO h i _ hx
 have h2:=hi
 unfold Is at h2
 obtain ⟨_,_,_,a,cap,e,_⟩:=h2
 simp only [Value.agg.injEq,Array.mk.injEq,List.cons.injEq,and_true] at e
 obtain ⟨rfl,rfl,rfl,rfl⟩:=e
 exact ⟨a,cap,⟨g0,g1,g2,g3⟩,hi⟩
theorem ZAA {w w':World} (hb:Below w.heap.size w w') {p:Addr} {v:Value} (h:w.cell? p=some v):w'.cell? p=some v:=by
 have hbk:p.block<w.heap.size:=by
  simp only [World.cell?] at h
  rcases Nat.lt_or_ge p.block w.heap.size with h' | h'
  ·exact h'
  ·rw [Array.getElem?_eq_none h'] at h;cases h
 exact (hb.cell hbk).trans h
theorem ZAf {w w':World} (hb:Below w.heap.size w w'):∀ v x,Is w v x→Is w' v x:=by
 intro v
 induction v using ZB1 with
 |h k n s l ih=>
  intro x h
  unfold Is at h ⊢
  obtain ⟨h1,h2,h3,a,cap,rfl,h4,h5,h6⟩:=h
  refine ⟨h1,h2,h3,a,cap,rfl,h4,h5, ?_⟩
  rcases h6 with h6 | ⟨b,off,rfl,h6⟩
  ·exact .inl h6
  ·refine .inr ⟨b,off,rfl,ZKT fun i y hy=>?_⟩
   obtain ⟨c0,c1,c2,c3,⟨g0,g1,g2,g3⟩,hi⟩:=ZMO h6 i y hy
   exact ⟨c0,c1,c2,c3,⟨ZAA hb g0,ZAA hb g1,ZAA hb g2,ZAA hb g3⟩,ih y (List.mem_of_getElem? hy) _ hi⟩
theorem ZA7 {w w':World} (hb:Below w.heap.size w w') {b:Nat} {l:List PV} {off:Nat} (h:IsL w b l off):IsL w' b l off:=
 ZKT fun i y hy=>by
  obtain ⟨c0,c1,c2,c3,⟨g0,g1,g2,g3⟩,hi⟩:=ZMO h i y hy
  exact ⟨c0,c1,c2,c3,⟨ZAA hb g0,ZAA hb g1,ZAA hb g2,ZAA hb g3⟩,ZAf hb _ _ hi⟩
mutual
def szV:PV→Nat
 | .mk _ _ _ l=>szL l+1
def szL:List PV→Nat
 | []=>0
 |x :: r=>szV x+szL r
end
mutual
def deepV:PV→Nat
 | .mk k _ _ l=>deepL l+(if k=5 then 1 else 0)
def deepL:List PV→Nat
 | []=>0
 |x :: r=>max (deepV x) (deepL r)
end
theorem ZPZ:∀ v,deepV v≤szV v:=by
 intro v
 induction v using ZB1 with
 |h k n s l ih=>
  have:deepL l≤szL l:=by
   clear k n s
   induction l with
   |nil=>simp [deepL,szL]
   |cons x r ih2=>
    have h1:=ih x (by simp)
    have h2:=ih2 fun y hy=>ih y (by simp [hy])
    simp only [deepL,szL]
    omega
  simp only [deepV,szV]
  split<;>omega
theorem ZEj (l r:List PV):szL (l++r)=szL l+szL r:=by
 induction l with
 |nil=>simp [szL]
 |cons x l ih=>simp only [List.cons_append,szL,ih];omega
theorem ZJC {l:List PV} {x:PV} (h:x∈l):szV x≤szL l:=by
 induction l with
 |nil=>simp at h
 |cons y r ih=>
  simp only [szL]
  rcases List.mem_cons.1 h with rfl | h
  ·omega
  ·have:=ih h;omega
open Go.RowKit Go.ChangeShapes Go.WideShapes Go.Shelf
structure SlotM where
 nm:ByteArray
 ty:Int
 rq:Bool
 df:PV
instance:Inhabited SlotM:=⟨⟨⟨#[]⟩,0,false,default⟩⟩
structure StepM where
 kd:Int
 col:Int
 sl:SlotM
 od:List Int
instance:Inhabited StepM:=⟨⟨0,0,default,[]⟩⟩
structure TemplM where
 nm:ByteArray
 slots:List SlotM
 steps:List StepM
def ZDi (w:World) (s:SlotM) (c0 c1 c2 c3 c4 c5 c6:Value):Prop:=
 s.nm.size≤maxLen∧I64 s.ty∧c0=.string s.nm∧c1=.int .i64 s.ty∧c2=.bool s.rq∧Is w s.df (.agg #[c3,c4,c5,c6])
def ZBe (w:World) (s:SlotM) (x:Value):Prop:=∃ c0 c1 c2 c3 c4 c5 c6,x=.agg #[c0,c1,c2,c3,c4,c5,c6]∧ZDi w s c0 c1 c2 c3 c4 c5 c6
def ZCS (w:World) (b o:Nat) (s:SlotM):Prop:=∃ c0 c1 c2 c3 c4 c5 c6,
 (w.cell? ⟨b,o,none⟩=some c0∧w.cell? ⟨b,o+1,none⟩=some c1∧w.cell? ⟨b,o+2,none⟩=some c2∧w.cell? ⟨b,o+3,none⟩=some c3∧w.cell? ⟨b,o+4,none⟩=some c4∧w.cell? ⟨b,o+5,none⟩=some c5∧w.cell? ⟨b,o+6,none⟩=some c6)∧ZDi w s c0 c1 c2 c3 c4 c5 c6
def ZBV (w:World) (a:Option Addr) (cap:Nat) (l:List SlotM):Prop:=l.length≤cap∧cap≤maxLen∧(l = []∨∃ b off,a=some ⟨b,off,none⟩∧∀ i s,l[i]? = some s→ZCS w b (off+i*7) s)
def ZDc (w:World) (b o:Nat) (t:StepM):Prop:=∃ oa oc,(w.cell? ⟨b,o,none⟩=some (.int .i64 t.kd)∧w.cell? ⟨b,o+1,none⟩=some (.int .i64 t.col)∧w.cell? ⟨b,o+9,none⟩=some (.slice oa t.od.length oc))∧I64 t.kd∧I64 t.col ∧
 ZCS w b (o+2) t.sl∧Row w .i64 oa t.od.length oc t.od∧∀ x∈t.od,I64 x
def ZCI (w:World) (a:Option Addr) (cap:Nat) (l:List StepM):Prop:=l.length≤cap∧cap≤maxLen∧(l = []∨∃ b off,a=some ⟨b,off,none⟩∧∀ i s,l[i]? = some s→ZDc w b (off+i*10) s)
def ZA8 (w:World) (t:TemplM) (x:Value):Prop:=t.nm.size≤maxLen∧∃ sa sc ta tc,x=.agg #[.string t.nm,.slice sa t.slots.length sc,.slice ta t.steps.length tc]∧ZBV w sa sc t.slots∧ZCI w ta tc t.steps
theorem ZB3 {w w':World} (hb:Below w.heap.size w w') {s:SlotM} {c0 c1 c2 c3 c4 c5 c6:Value} (h:ZDi w s c0 c1 c2 c3 c4 c5 c6):ZDi w' s c0 c1 c2 c3 c4 c5 c6:=
 ⟨h.1,h.2.1,h.2.2.1,h.2.2.2.1,h.2.2.2.2.1,ZAf hb _ _ h.2.2.2.2.2⟩
theorem ZAn {w w':World} (hb:Below w.heap.size w w') {s:SlotM} {x:Value} (h:ZBe w s x):ZBe w' s x:=by
 obtain ⟨c0,c1,c2,c3,c4,c5,c6,rfl,h⟩:=h
 exact ⟨c0,c1,c2,c3,c4,c5,c6,rfl,ZB3 hb h⟩
theorem ZE2 {w w':World} (hb:Below w.heap.size w w') {b o:Nat} {s:SlotM} (h:ZCS w b o s):ZCS w' b o s:=by
 obtain ⟨c0,c1,c2,c3,c4,c5,c6,⟨g0,g1,g2,g3,g4,g5,g6⟩,h⟩:=h
 exact ⟨c0,c1,c2,c3,c4,c5,c6,⟨ZAA hb g0,ZAA hb g1,ZAA hb g2,ZAA hb g3,ZAA hb g4,ZAA hb g5,ZAA hb g6⟩,ZB3 hb h⟩
theorem ZAy {w w':World} (hb:Below w.heap.size w w') {a:Option Addr} {cap:Nat} {l:List SlotM} (h:ZBV w a cap l):ZBV w' a cap l:=
 ⟨h.1,h.2.1,h.2.2.imp id fun ⟨b,off,ha,hc⟩=>⟨b,off,ha,fun i s hi=>ZE2 hb (hc i s hi)⟩⟩
theorem ZHn {w w':World} (hb:Below w.heap.size w w') {b o:Nat} {t:StepM} (h:ZDc w b o t):ZDc w' b o t:=by
 obtain ⟨oa,oc,⟨g0,g1,g2⟩,h1,h2,h3,h4,h5⟩:=h
 exact ⟨oa,oc,⟨ZAA hb g0,ZAA hb g1,ZAA hb g2⟩,h1,h2,ZE2 hb h3,ZAk h4 hb rfl,h5⟩
theorem ZBf {w w':World} (hb:Below w.heap.size w w') {a:Option Addr} {cap:Nat} {l:List StepM} (h:ZCI w a cap l):ZCI w' a cap l:=
 ⟨h.1,h.2.1,h.2.2.imp id fun ⟨b,off,ha,hc⟩=>⟨b,off,ha,fun i s hi=>ZHn hb (hc i s hi)⟩⟩
theorem ZBU {w w':World} (hb:Below w.heap.size w w') {t:TemplM} {x:Value} (h:ZA8 w t x):ZA8 w' t x:=by
 obtain ⟨h1,sa,sc,ta,tc,rfl,h2,h3⟩:=h
 exact ⟨h1,sa,sc,ta,tc,rfl,ZAy hb h2,ZBf hb h3⟩
open Go.RowKit Go.Shelf
theorem ZFa (f:Nat) (hf:f=126∨f=127) (g:Int→PV→Int) (l:List PV) (first:Int)
  (hc:∀ i y,l[i]? = some y→∀ w x,Is w y x→Calls Tryz.prog f #[.int .i64 ((l.take i).foldl g first),x] w fun e w'=>e=.returned (.int .i64 ((l.take (i+1)).foldl g first))∧Below w.heap.size w w')
  (w:World) (a:Option Addr) (cap:Nat) (hl:l.length≤cap) (hcap:cap≤maxLen) (hL:l = []∨∃ b off,a=some ⟨b,off,none⟩∧IsL w b l off) :
  Calls Tryz.prog 125 #[.slice a l.length cap,.int .i64 first,.func (.func f) #[] #[]] w fun e w'=>e=.returned (.int .i64 (l.foldl g first))∧Below w.heap.size w w':=by
 have hm:l.length≤maxLen:=Nat.le_trans hl hcap
 unfold maxLen at hm
 have HC:=ZZY hc;clear hc
 go_enter func125,ntmps125
 go_wp2_with fail
 go_loopw [1,8,11] (fun c _ i wr=>∃ k:Nat,i=.int .i64 (k:Int)∧c=.int .i64 ((l.take k).foldl g first)∧k≤l.length∧Below w.heap.size w wr) (fun _ _ i _=>l.length-(intOf i).toNat)
 case atStart=>exact ⟨0,rfl,rfl,Nat.zero_le _,Below.refl _ w⟩
 case round=>
 obtain ⟨k,rfl,rfl,hk,hB⟩:=hrel
 by_cases hkl:k<l.length
 ·have hd:decide (k<l.length)=true:=by simp;omega
  obtain ⟨y,hy⟩:∃ y,l[k]? = some y:=⟨l[k],List.getElem?_eq_getElem hkl⟩
  obtain ⟨b,off,rfl,hIs⟩:∃ b off,a=some ⟨b,off,none⟩∧IsL w b l off:=by
   rcases hL with h | h
   ·subst h;simp at hkl
   ·exact h
  cases y with
  |mk yk yn ys yl=>
  obtain ⟨ya,yc,⟨g0,g1,g2,g3⟩,hi⟩:=ZCT hIs k _ _ _ _ hy
  replace g0:=ZAA hB g0
  replace g1:=ZAA hB g1
  replace g2:=ZAA hB g2
  replace g3:=ZAA hB g3
  have hi2:=ZZY (ZAf hB _ _ hi)
  have HY:=ZZY hy
  clear hL hIs hi hy
  have hA0:=(Below.refl _ wr).alloc (Nat.le_refl _) (Obj.cells #[.int .i64 yk,.int .i64 yn,.string ys,.slice ya yl.length yc] 49)
  rcases hf with rfl | rfl
  all_goals go_wp2_with (first | ((first | go_at_call 126 | go_at_call 127);(with_reducible refine (HC.out k _ HY.out _ _ (ZAf hA0 _ _ hi2.out)).mono ?_);rintro e w' ⟨rfl,hb⟩))
  all_goals go_roundw
  all_goals (first | (case' rel=>exact ⟨k+1,by go_num,rfl,by omega,hB.trans ((hA0.trans (hb.mono hA0.size)).mono hB.size)⟩) | (case' measure=>simp [intOf];omega))
 ·have hd:decide (k<l.length)=false:=by simp;omega
  obtain rfl:k=l.length:=by omega
  go_wp2_with fail
  go_ret
  exact ⟨ZBK (by rw [List.take_length]),hB⟩
theorem ZMP (y:PV) (d:Int) (w:World) (x:Value) (hi:Is w y x) (h:∀ w x,Is w y x→Calls Tryz.prog 118 #[x] w fun e w'=>e=.returned (.int .i64 (deepV y))∧Below w.heap.size w w') :
  Calls Tryz.prog 126 #[.int .i64 d,x] w fun e w'=>e=.returned (.int .i64 (max d (deepV y)))∧Below w.heap.size w w':=by
 cases y with
 |mk k n s l=>
 have hi2:=ZZY hi
 unfold Is at hi
 obtain ⟨h1,h2,h3,a,cap,rfl,h4,h5,h6⟩:=hi
 have h':∀ w W,Is w (PV.mk k n s l) (.agg #[.int .i64 k,.int .i64 n,.string s,.slice a l.length cap])→Below w.heap.size w W →
  Calls Tryz.prog 118 #[.agg #[.int .i64 k,.int .i64 n,.string s,.slice a l.length cap]] W fun e w'=>e=.returned (.int .i64 (deepV (.mk k n s l)))∧Below W.heap.size W w':=fun w W hi hB=>h W _ (ZAf hB _ _ hi)
 obtain ⟨D,hD⟩:∃ D,deepV (.mk k n s l)=D:=⟨_,rfl⟩
 rw [hD] at h' ⊢
 clear h6 hD h
 have hB0:=(Below.refl _ w).alloc (Nat.le_refl _) (Obj.cells #[.int .i64 k,.int .i64 n,.string s,.slice a l.length cap] 49)
 rcases Int.le_total d (D:Int) with hd | hd
 ·go_enter func126,ntmps126
  go_wp2_with (first | (go_at_call 118;(with_reducible refine (h' _ _ hi2.out hB0).mono ?_);rintro e w' ⟨rfl,hb⟩))
  all_goals (first | (exfalso;omega) | (go_ret;exact ⟨ZBK (by omega),hB0.trans (hb.mono hB0.size)⟩))
 ·go_enter func126,ntmps126
  go_wp2_with (first | (go_at_call 118;(with_reducible refine (h' _ _ hi2.out hB0).mono ?_);rintro e w' ⟨rfl,hb⟩))
  all_goals (first | (exfalso;omega) | (go_ret;exact ⟨ZBK (by omega),hB0.trans (hb.mono hB0.size)⟩))
theorem ZLB (y:PV) (d:Nat) (w:World) (x:Value) (hi:Is w y x) (hd:d+szV y≤1000000) (h:∀ w x,Is w y x→Calls Tryz.prog 119 #[x] w fun e w'=>e=.returned (.int .i64 (szV y))∧Below w.heap.size w w') :
  Calls Tryz.prog 127 #[.int .i64 d,x] w fun e w'=>e=.returned (.int .i64 ((d:Int)+szV y))∧Below w.heap.size w w':=by
 cases y with
 |mk k n s l=>
 have hi2:=ZZY hi
 unfold Is at hi
 obtain ⟨h1,h2,h3,a,cap,rfl,h4,h5,h6⟩:=hi
 have h':∀ w W,Is w (PV.mk k n s l) (.agg #[.int .i64 k,.int .i64 n,.string s,.slice a l.length cap])→Below w.heap.size w W →
  Calls Tryz.prog 119 #[.agg #[.int .i64 k,.int .i64 n,.string s,.slice a l.length cap]] W fun e w'=>e=.returned (.int .i64 (szV (.mk k n s l)))∧Below W.heap.size W w':=fun w W hi hB=>h W _ (ZAf hB _ _ hi)
 obtain ⟨D,hD⟩:∃ D,szV (.mk k n s l)=D:=⟨_,rfl⟩
 rw [hD] at h' hd ⊢
 clear h6 hD h
 have hB0:=(Below.refl _ w).alloc (Nat.le_refl _) (Obj.cells #[.int .i64 k,.int .i64 n,.string s,.slice a l.length cap] 49)
 go_enter func127,ntmps127
 go_wp2_with (first | (go_at_call 119;(with_reducible refine (h' _ _ hi2.out hB0).mono ?_);rintro e w' ⟨rfl,hb⟩))
 go_ret
 exact ⟨ZBK (by go_num),hB0.trans (hb.mono hB0.size)⟩
theorem ZLC (l:List PV) (d:Nat):l.foldl (fun (d:Int) y=>max d (deepV y)) (d:Int)=((max d (deepL l):Nat):Int):=by
 induction l generalizing d with
 |nil=>simp [deepL]
 |cons y l ih=>
  simp only [List.foldl_cons,deepL]
  rw [show max (d:Int) (deepV y:Int)=((max d (deepV y):Nat):Int) by omega,ih]
  congr 1;omega
theorem ZKU (l:List PV) (d:Nat):l.foldl (fun (d:Int) y=>d+szV y) (d:Int)=((d+szL l:Nat):Int):=by
 induction l generalizing d with
 |nil=>simp [szL]
 |cons y l ih=>
  simp only [List.foldl_cons,szL]
  rw [show (d:Int)+(szV y:Int)=((d+szV y:Nat):Int) by omega,ih]
  congr 1;omega
theorem ZHo (l:List PV) (i:Nat) (y:PV) (h:l[i]? = some y):l.take (i+1)=l.take i ++ [y]:=by
 rw [List.take_add_one,h];rfl
theorem ZEk {α : Type} (g : α→PV→α) (z : α) (l:List PV) (i:Nat) (y:PV) (h:l[i]? = some y):(l.take (i+1)).foldl g z=g ((l.take i).foldl g z) y:=by
 rw [ZHo l i y h,List.foldl_append];rfl
theorem ZN7 (l:List PV) (i:Nat) (y:PV) (h:l[i]? = some y):szL (l.take i)+szV y≤szL l:=by
 have h1:szL (l.take (i+1)++l.drop (i+1))=szL l:=by rw [List.take_append_drop]
 rw [ZHo l i y h,ZEj,ZEj] at h1
 simp only [szL] at h1
 omega
abbrev vobj (k n:Int) (s:ByteArray) (a:Option Addr) (len cap:Nat):Obj:=Obj.cells #[.int .i64 k,.int .i64 n,.string s,.slice a len cap] 49
theorem ZN8 (v:PV):szV v≤1000000→∀ w x,Is w v x→Calls Tryz.prog 118 #[x] w fun e w'=>e=.returned (.int .i64 (deepV v))∧Below w.heap.size w w':=by
 induction v using ZB1 with
 |h k n s l ih=>
  intro hsz w x hi
  have hdl:=ZPZ (.mk k n s l)
  simp only [szV,deepV] at hsz hdl
  unfold Is at hi
  obtain ⟨h1,h2,h3,a,cap,rfl,h4,h5,h6⟩:=hi
  have hB0:=(Below.refl _ w).alloc (Nat.le_refl _) (vobj k n s a l.length cap)
  have hfold:=fun W h6=>ZFa 126 (.inl rfl) (fun d y=>max d (deepV y)) l 0 (fun i y hy w x hx=>by
   rw [ZEk _ _ _ _ _ hy]
   exact ZMP y _ w x hx fun w x hx=>ih y (List.mem_of_getElem? hy) (by have:=ZJC (List.mem_of_getElem? hy);omega) w x hx) W a cap h4 h5 h6
  rw [show l.foldl (fun (d:Int) y=>max d (deepV y)) (0:Int)=((deepL l:Nat):Int) by simpa using ZLC l 0] at hfold
  have H6:=ZZY (show l = []∨∃ b off,a=some ⟨b,off,none⟩∧IsL (w.alloc (vobj k n s a l.length cap)) b l off by
   rcases h6 with h6 | ⟨b,off,rfl,h6⟩
   ·exact .inl h6
   ·exact .inr ⟨b,off,rfl,ZA7 hB0 h6⟩)
  clear h6 ih
  obtain ⟨D,hD⟩:∃ D,deepL l=D:=⟨_,rfl⟩
  have hv:deepV (.mk k n s l)=D+(if k=5 then 1 else 0):=by simp only [deepV,hD]
  rw [hD] at hfold hdl
  rw [hv]
  clear hv hD
  by_cases hk:k=5
  ·subst hk
   simp only [if_true] at hdl ⊢
   go_enter func118,ntmps118
   go_wp2_with (first | (go_at_call 125;(with_reducible refine (hfold _ H6.out).mono ?_);rintro e w' ⟨rfl,hb⟩;have hc0:=ZAA hb (p:=⟨w.heap.size,0,none⟩) (v:=.int .i64 5) (by simp)))
   all_goals go_ret
   all_goals exact ⟨ZBK (by go_num),hB0.trans (hb.mono hB0.size)⟩
  ·have hk':(k == 5)=false:=by simpa using hk
   rw [if_neg hk] at hdl ⊢
   go_enter func118,ntmps118
   go_wp2_with (first | (go_at_call 125;(with_reducible refine (hfold _ H6.out).mono ?_);rintro e w' ⟨rfl,hb⟩;have hc0:=ZAA hb (p:=⟨w.heap.size,0,none⟩) (v:=.int .i64 k) (by simp)))
   all_goals go_ret
   all_goals exact ⟨ZBK (by omega),hB0.trans (hb.mono hB0.size)⟩
theorem ZMQ (v:PV):szV v≤1000000→∀ w x,Is w v x→Calls Tryz.prog 119 #[x] w fun e w'=>e=.returned (.int .i64 (szV v))∧Below w.heap.size w w':=by
 induction v using ZB1 with
 |h k n s l ih=>
  intro hsz w x hi
  simp only [szV] at hsz
  unfold Is at hi
  obtain ⟨h1,h2,h3,a,cap,rfl,h4,h5,h6⟩:=hi
  have hB0:=(Below.refl _ w).alloc (Nat.le_refl _) (vobj k n s a l.length cap)
  have hfold:=fun W h6=>ZFa 127 (.inr rfl) (fun d y=>d+szV y) l 1 (fun i y hy w x hx=>by
   have h7:=ZN7 l i y hy
   rw [ZEk _ _ _ _ _ hy,show (l.take i).foldl (fun (d:Int) y=>d+szV y) 1=((1+szL (l.take i):Nat):Int) from ZKU (l.take i) 1]
   exact ZLB y _ w x hx (by omega) fun w x hx=>ih y (List.mem_of_getElem? hy) (by omega) w x hx) W a cap h4 h5 h6
  rw [show l.foldl (fun (d:Int) y=>d+szV y) (1:Int)=((1+szL l:Nat):Int) from ZKU l 1] at hfold
  have H6:=ZZY (show l = []∨∃ b off,a=some ⟨b,off,none⟩∧IsL (w.alloc (vobj k n s a l.length cap)) b l off by
   rcases h6 with h6 | ⟨b,off,rfl,h6⟩
   ·exact .inl h6
   ·exact .inr ⟨b,off,rfl,ZA7 hB0 h6⟩)
  clear h6 ih
  simp only [szV]
  obtain ⟨D,hD⟩:∃ D,szL l=D:=⟨_,rfl⟩
  rw [hD] at hfold ⊢
  clear hD
  go_enter func119,ntmps119
  go_wp2_with (first | (go_at_call 125;(with_reducible refine (hfold _ H6.out).mono ?_);rintro e w' ⟨rfl,hb⟩))
  all_goals go_ret
  all_goals exact ⟨ZBK (by omega),hB0.trans (hb.mono hB0.size)⟩
open Go.RowKit Go.Shelf
mutual
def cntV:PV→Int→Int→Int
 | .mk _ _ _ l,n,d=>if n-1<0∨d<0 then -1 else cntL l (n-1) (d-1)
def cntL:List PV→Int→Int→Int
 | [],n,_=>n
 |x :: r,n,d=>if cntV x n d<0 then -1 else cntL r (cntV x n d) d
end
theorem ZHp:∀ v:PV,∀ n d,0≤n→-1≤cntV v n d∧cntV v n d≤n∧(0≤cntV v n d→cntV v n d=n-szV v):=by
 intro v
 induction v using ZB1 with
 |h k n s l ih=>
  have hl:∀ n d,0≤n→-1≤cntL l n d∧cntL l n d≤n∧(0≤cntL l n d→cntL l n d=n-szL l):=by
   induction l with
   |nil=>intro n d hn;simp only [cntL,szL];omega
   |cons x r ih2=>
    intro n d hn
    have h1:=ih x (by simp) n d hn
    simp only [cntL,szL]
    split
    ·omega
    ·have h2:=ih2 (fun y hy=>ih y (by simp [hy])) (cntV x n d) d (by omega)
     omega
  intro n d hn
  simp only [cntV,szV]
  split
  ·omega
  ·have:=hl (n-1) (d-1) (by omega);omega
theorem ZHq (v:PV):∀ (n d:Int),0≤n→n≤2000→-1≤d→d≤2000→∀ w x,Is w v x →
  Calls Tryz.prog 113 #[x,.int .i64 n,.int .i64 d] w fun e w'=>e=.returned (.int .i64 (cntV v n d))∧Below w.heap.size w w':=by
 induction v using ZB1 with
 |h k m s l ih=>
  intro n d hn hn' hd hd' w x hi
  unfold Is at hi
  obtain ⟨h1,h2,h3,a,cap,rfl,h4,h5,h6⟩:=hi
  have hm:l.length≤maxLen:=Nat.le_trans h4 h5
  unfold maxLen at hm
  have hB0:=(Below.refl _ w).alloc (Nat.le_refl _) (vobj k m s a l.length cap)
  by_cases hg:n-1<0∨d<0
  ·have hv:cntV (.mk k m s l) n d = -1:=by simp only [cntV];rw [if_pos hg]
   rw [hv]
   clear ih h6 hv
   rcases Int.lt_or_le (n-1) 0 with hg1 | hg1
   ·have hd1:decide (n-1<0)=true:=by simpa using hg1
    go_enter func113,ntmps113
    go_wp2_with fail
    all_goals go_ret
    all_goals exact ⟨rfl,hB0⟩
   ·have hd1:decide (n-1<0)=false:=by simp;omega
    have hd2:decide (d<0)=true:=by simp;omega
    clear hg
    go_enter func113,ntmps113
    go_wp2_with fail
    all_goals go_ret
    all_goals exact ⟨rfl,hB0⟩
  ·have hv:cntV (.mk k m s l) n d=cntL l (n-1) (d-1):=by simp only [cntV];rw [if_neg hg]
   rw [hv]
   clear hv
   have hd1:decide (n-1<0)=false:=by simp;omega
   have hd2:decide (d<0)=false:=by simp;omega
   obtain ⟨r,hr⟩:∃ r,cntL l (n-1) (d-1)=r:=⟨_,rfl⟩
   rw [hr]
   have HR:=ZZY hr;have HI:=ZZY ih;clear ih hr
   have hg0:0≤d∧1≤n:=by omega
   clear hg
   go_enter func113,ntmps113
   go_wp2_with fail
   go_loopw [1,7] (fun c i wr=>∃ (q:Nat) (z:Int),i=.int .i64 (q:Int)∧c=.int .i64 z∧0≤z∧z≤2000∧q≤l.length∧Below (w.alloc (vobj k m s a l.length cap)).heap.size (w.alloc (vobj k m s a l.length cap)) wr∧Hid (cntL (l.drop q) z (d-1)=r)) (fun _ i _=>l.length-(intOf i).toNat)
   case atStart=>exact ⟨0,n-1,rfl,rfl,by omega,by omega,Nat.zero_le _,Below.refl _ _,HR.out⟩
   case round=>
   obtain ⟨q,c,rfl,rfl,hc,hc',hq,hB,HQ⟩:=hrel
   have e3:=ZAA hB (p:=⟨w.heap.size,3,none⟩) (v:=.slice a l.length cap) (by simp)
   by_cases hql:q<l.length
   ·have hdq:decide (q<l.length)=true:=by simp;omega
    obtain ⟨y,hy⟩:∃ y,l[q]? = some y:=⟨l[q],List.getElem?_eq_getElem hql⟩
    obtain ⟨b,off,rfl,hIs⟩:∃ b off,a=some ⟨b,off,none⟩∧IsL w b l off:=by
     rcases h6 with h | h
     ·subst h;simp at hql
     ·exact h
    have hdrop:cntL (l.drop q) c (d-1)=if cntV y c (d-1)<0 then -1 else cntL (l.drop (q+1)) (cntV y c (d-1)) (d-1):=by
     rw [show l.drop q=y :: l.drop (q+1) by
      rw [List.drop_eq_getElem_cons hql]
      rw [List.getElem?_eq_getElem hql] at hy
      cases hy;rfl]
     simp only [cntL]
    rw [HQ.out] at hdrop
    have hbd:=ZHp y c (d-1) hc
    have hcall:=fun w x hx=>HI.out y (List.mem_of_getElem? hy) c (d-1) hc hc' (by omega) (by omega) w x hx
    cases y with
    |mk yk yn ys yl=>
    obtain ⟨ya,yc,⟨g0,g1,g2,g3⟩,hi⟩:=ZCT (ZA7 hB (ZA7 hB0 hIs)) q _ _ _ _ hy
    have hi2:=ZZY hi
    obtain ⟨z,hz⟩:∃ z,cntV (.mk yk yn ys yl) c (d-1)=z:=⟨_,rfl⟩
    rw [hz] at hcall hdrop hbd
    have HD:=ZZY hdrop
    have HC:=ZZY hcall
    clear h6 hIs hi hy hz hdrop HQ hcall
    rcases Int.lt_or_le z 0 with hz0 | hz0
    ·have hdz:decide (z<0)=true:=by simpa using hz0
     go_wp2_with (first | (go_at_call 113;(with_reducible refine (HC.out _ _ hi2.out).mono ?_);rintro e w' ⟨rfl,hb⟩))
     all_goals go_ret
     all_goals exact ⟨ZBK (by rw [HD.out,if_pos hz0]),hB0.trans ((hB.trans (hb.mono hB.size)).mono hB0.size)⟩
    ·have hdz:decide (z<0)=false:=by simp;omega
     go_wp2_with (first | (go_at_call 113;(with_reducible refine (HC.out _ _ hi2.out).mono ?_);rintro e w' ⟨rfl,hb⟩))
     all_goals go_roundw
     all_goals (first
      |(case' rel=>exact ⟨q+1,z,by go_num,rfl,by omega,by omega,by omega,hB.trans (hb.mono hB.size),(HD.out.trans (if_neg (by omega))).symm⟩)
      |(case' measure=>simp [intOf];omega))
   ·have hdq:decide (q<l.length)=false:=by simp;omega
    obtain rfl:q=l.length:=by omega
    have hQ:=HQ.out
    rw [List.drop_length] at hQ
    simp only [cntL] at hQ
    subst hQ
    go_wp2_with fail
    all_goals go_ret
    all_goals exact ⟨rfl,hB0.trans (hB.mono hB0.size)⟩
mutual
def rdV:PV→Int
 | .mk k _ _ l=>rdL (if k=5 then 0 else -1) l+1
def rdL:Int→List PV→Int
 |n,[]=>n
 |n,x :: r=>rdL (if n<rdV x then rdV x else n) r
end
theorem ZQF:∀ v:PV,0≤rdV v∧rdV v≤szV v:=by
 intro v
 induction v using ZB1 with
 |h k n s l ih=>
  have hl:∀ n,-1≤n→n≤rdL n l∧(rdL n l≤n∨rdL n l≤szL l):=by
   induction l with
   |nil=>intro n hn;simp only [rdL,szL];omega
   |cons x r ih2=>
    intro n hn
    have h1:=ih x (by simp)
    simp only [rdL,szL]
    have h2:=ih2 (fun y hy=>ih y (by simp [hy])) (if n<rdV x then rdV x else n) (by split<;>omega)
    split at h2<;>rename_i h3
    ·rw [if_pos h3];omega
    ·rw [if_neg h3];omega
  simp only [rdV,szV]
  have h1:=hl (if k=5 then 0 else -1) (by split<;>omega)
  split at h1<;>rename_i h3
  ·rw [if_pos h3];omega
  ·rw [if_neg h3];omega
theorem ZJD (v:PV):szV v≤1000000→∀ w x,Is w v x→Calls Tryz.prog 98 #[x] w fun e w'=>e=.returned (.int .i64 (rdV v))∧Below w.heap.size w w':=by
 induction v using ZB1 with
 |h k m s l ih=>
  intro hsz w x hi
  simp only [szV] at hsz
  unfold Is at hi
  obtain ⟨h1,h2,h3,a,cap,rfl,h4,h5,h6⟩:=hi
  have hm:l.length≤maxLen:=Nat.le_trans h4 h5
  unfold maxLen at hm
  have hB0:=(Below.refl _ w).alloc (Nat.le_refl _) (vobj k m s a l.length cap)
  obtain ⟨r,hr⟩:∃ r,rdL (if k=5 then 0 else -1) l=r:=⟨_,rfl⟩
  have hrb : -1≤r∧r≤1000000:=by have:=ZQF (.mk k m s l);simp only [rdV,szV,hr] at this;omega
  simp only [rdV,hr]
  obtain ⟨z0,hz0⟩:∃ z0:Int,(if k=5 then 0 else -1)=z0:=⟨_,rfl⟩
  rw [hz0] at hr
  have hz1 : -1≤z0∧z0≤1000000:=by rw [←hz0];split<;>omega
  have HR:=ZZY hr;have HI:=ZZY ih;clear ih hr
  have hk:(k == 5)=true∧z0=0∨(k == 5)=false∧z0 = -1:=by
   rw [←hz0]
   by_cases h:k=5<;>simp [h]
  clear hz0
  have key:∀ wr,Below (w.alloc (vobj k m s a l.length cap)).heap.size (w.alloc (vobj k m s a l.length cap)) wr→True:=fun _ _=>trivial
  clear key
  rcases hk with ⟨hk,rfl⟩ | ⟨hk,rfl⟩
  all_goals (go_enter func98,ntmps98)
  all_goals (go_wp2_with fail)
  all_goals (go_loopw [3,4,5] (fun c i _ wr=>∃ (q:Nat) (z:Int),i=.int .i64 (q:Int)∧c=.int .i64 z∧-1≤z∧z≤1000000∧q≤l.length∧Below (w.alloc (vobj k m s a l.length cap)).heap.size (w.alloc (vobj k m s a l.length cap)) wr∧Hid (rdL z (l.drop q)=r)) (fun _ i _ _=>l.length-(intOf i).toNat))
  all_goals (first | (case' atStart=>exact ⟨0,_,rfl,rfl,hz1.1,hz1.2,Nat.zero_le _,Below.refl _ _,HR.out⟩) | skip)
  all_goals (
   obtain ⟨q,c,rfl,rfl,hc,hc',hq,hB,HQ⟩:=hrel
   have e3:=ZAA hB (p:=⟨w.heap.size,3,none⟩) (v:=.slice a l.length cap) (by simp)
   by_cases hql:q<l.length
   ·have hdq:decide (q<l.length)=true:=by simp;omega
    obtain ⟨y,hy⟩:∃ y,l[q]? = some y:=⟨l[q],List.getElem?_eq_getElem hql⟩
    obtain ⟨b,off,rfl,hIs⟩:∃ b off,a=some ⟨b,off,none⟩∧IsL w b l off:=by
     rcases h6 with h | h
     ·subst h;simp at hql
     ·exact h
    have hdrop:rdL c (l.drop q)=rdL (if c<rdV y then rdV y else c) (l.drop (q+1)):=by
     rw [show l.drop q=y :: l.drop (q+1) by
      rw [List.drop_eq_getElem_cons hql]
      rw [List.getElem?_eq_getElem hql] at hy
      cases hy;rfl]
     simp only [rdL]
    rw [HQ.out] at hdrop
    have hsy:szV y≤1000000:=by have:=ZJC (List.mem_of_getElem? hy);omega
    have hbd:=ZQF y
    have hcall:=fun w x hx=>HI.out y (List.mem_of_getElem? hy) hsy w x hx
    cases y with
    |mk yk yn ys yl=>
    obtain ⟨ya,yc,⟨g0,g1,g2,g3⟩,hi⟩:=ZCT (ZA7 hB (ZA7 hB0 hIs)) q _ _ _ _ hy
    have hi2:=ZZY hi
    obtain ⟨z,hz⟩:∃ z,rdV (.mk yk yn ys yl)=z:=⟨_,rfl⟩
    rw [hz] at hcall hdrop hbd
    have hz9:z≤1000000:=by omega
    have HD:=ZZY hdrop
    have HC:=ZZY hcall
    clear h6 hIs hi hy hz hdrop HQ hcall
    rcases Int.lt_or_le c z with hz0 | hz0
    ·have hdz:decide (c<z)=true:=by simpa using hz0
     go_wp2_with (first | (go_at_call 98;(with_reducible refine (HC.out _ _ hi2.out).mono ?_);rintro e w' ⟨rfl,hb⟩))
     all_goals go_roundw
     all_goals (first
      |(case' rel=>exact ⟨q+1,z,by go_num,rfl,by omega,by omega,by omega,hB.trans (hb.mono hB.size),by have h:=HD.out;rw [if_pos hz0] at h;exact h.symm⟩)
      |(case' measure=>simp [intOf];omega))
    ·have hdz:decide (c<z)=false:=by simp;omega
     go_wp2_with (first | (go_at_call 98;(with_reducible refine (HC.out _ _ hi2.out).mono ?_);rintro e w' ⟨rfl,hb⟩))
     all_goals go_roundw
     all_goals (first
      |(case' rel=>exact ⟨q+1,c,by go_num,rfl,by omega,by omega,by omega,hB.trans (hb.mono hB.size),by have h:=HD.out;rw [if_neg (by omega)] at h;exact h.symm⟩)
      |(case' measure=>simp [intOf];omega))
   ·have hdq:decide (q<l.length)=false:=by simp;omega
    obtain rfl:q=l.length:=by omega
    have hQ:=HQ.out
    rw [List.drop_length] at hQ
    simp only [rdL] at hQ
    subst hQ
    go_wp2_with fail
    all_goals go_ret
    all_goals exact ⟨ZBK (by go_num),hB0.trans (hB.mono hB0.size)⟩)
def greatV (v:PV):Bool:=decide (cntV v 1000 10<0) || decide (10<rdV v)
theorem ZFJ (v:PV) (h:greatV v=false):szV v≤1000:=by
 simp [greatV] at h
 have:=ZHp v 1000 10 (by omega)
 omega
end Go.Proofs.YtcjdfdfphbckaaaGreat
namespace Go.Proofs.YtcjdfdfphbckaaaGreat.M
def D (m:Nat):List Int:=if m<10 then [48+(m:Int)] else D (m / 10) ++ [48+((m % 10:Nat):Int)]
termination_by m
decreasing_by omega
def isD (x:Int):Bool:=decide (48≤x∧x≤57)
def val (l:List Int):Nat:=l.foldl (fun m x=>m*10+(x-48).toNat) 0
def sgn (l:List Int) (p:Nat):Nat:=if l[p]?.getD 0=45 then p+1 else p
def runTo (l:List Int) (p:Nat):Nat:=p+((l.drop p).takeWhile isD).length
def formed (l:List Int):Prop:=sgn l 0<l.length∧runTo l (sgn l 0)=l.length∧(l[sgn l 0]?.getD 0≠48∨l = [48])
instance (l:List Int):Decidable (formed l):=by unfold formed;infer_instance
def add (a b:Int):Int × Bool:=if -9223372036854775808≤a+b∧a+b≤9223372036854775807 then (a+b,true) else (0,false)
end Go.Proofs.YtcjdfdfphbckaaaGreat.M
namespace Go.Proofs.YtcjdfdfphbckaaaGreat
open Go.RowKit Go.Shelf
attribute [local go_sem] Oper.semAt_some
def Arr (W:World) (B:Nat) (t:TypeId) (xs:List Int):Prop:=W.heap[B]? = some (.cells (u8s xs).toArray t (0,0))
theorem Arr.lt {W:World} {B:Nat} {t:TypeId} {xs:List Int} (h:Arr W B t xs):B<W.heap.size:=(ZZZ h).1
theorem Arr.cell {W:World} {B:Nat} {t:TypeId} {xs:List Int} (h:Arr W B t xs) (i:Nat) (hi:i<xs.length):W.cell? ⟨B,i,none⟩=some (.int .u8 (xs[i]?.getD 0)):=by
 simp [World.cell?,show W.heap[B]? = _ from h,u8s,List.getElem?_eq_getElem hi]
theorem Arr.frozen {W:World} {B:Nat} {t:TypeId} {xs:List Int} (h:Arr W B t xs) (i:Nat):W.frozen? ⟨B,i,none⟩=false:=by simp [World.frozen?,show W.heap[B]? = _ from h]
theorem Arr.kept {W W':World} {row:Option Nat} {B:Nat} {t:TypeId} {xs:List Int} (h:Arr W B t xs) (hg:W.grownBy W' row) (hne:some B≠row):Arr W' B t xs:=(hg.block B h.lt hne).trans h
theorem Arr.alloc {W:World} {B:Nat} {t:TypeId} {xs:List Int} (h:Arr W B t xs) (o:Obj):Arr (W.alloc o) B t xs:=h.kept (World.grownBy_alloc W o none) (by simp)
theorem Arr.other {W:World} {B B':Nat} {t:TypeId} {xs:List Int} (h:Arr W B t xs) (hne:B≠B') (u:Value):Arr (W.setCell ⟨B',0,none⟩ u) B t xs:=h.kept (grownBy_setCell' W B' u) (fun e=>hne (by cases e;rfl))
theorem Arr.set {W:World} {B:Nat} {t:TypeId} {xs:List Int} (h:Arr W B t xs) (i:Nat) (x:Int):Arr (W.setCell ⟨B,i,none⟩ (.int .u8 x)) B t (xs.set i x):=by
 obtain ⟨hlt,hk⟩:=ZZZ h
 show (W.heap.modify B _)[B]? = _
 rw [Array.getElem?_eq_getElem (by rw [Array.size_modify];exact hlt),Array.getElem_modify_self,hk]
 simp [u8s,List.map_set]
theorem Arr.new (W:World) (t:TypeId) (xs:List Int) (cs:Array Value) (h:cs=(u8s xs).toArray):Arr (W.alloc (.cells cs t)) W.heap.size t xs:=by subst h;exact World.alloc_heap_new W _
def M.room (pre:List Int):List Int:=List.replicate (20-pre.length) 0++pre.reverse.map fun x=>(48+x) % 256
open Go.RowKit Go.Shelf
def letterB (x:Int):Bool:=(decide (65≤x) && decide (x≤90)) || (decide (97≤x) && decide (x≤122))
def withinB (x:Int):Bool:=letterB x || (decide (48≤x) && decide (x≤57)) || decide (x=95) || decide (x=45)
def nameB (l:List Int):Bool:=!l.isEmpty && decide (l.length≤40) && letterB (l[0]?.getD 0) && l.all withinB
theorem ZAi {w W:World} {k n:Int} {s:ByteArray} {a:Option Addr} {len cap:Nat} (hb:Below (w.alloc (vobj k n s a len cap)).heap.size (w.alloc (vobj k n s a len cap)) W) :
  W.cell? ⟨w.heap.size,0,none⟩=some (.int .i64 k)∧W.cell? ⟨w.heap.size,1,none⟩=some (.int .i64 n)∧W.cell? ⟨w.heap.size,2,none⟩=some (.string s)∧W.cell? ⟨w.heap.size,3,none⟩=some (.slice a len cap):=
 ⟨ZAA hb (by simp),ZAA hb (by simp),ZAA hb (by simp),ZAA hb (by simp)⟩
theorem ZGG (x:Int) (w:World) (h:0≤x) (h':x≤255):Calls Tryz.prog 136 #[.int .u8 x] w fun e w'=>e=.returned (.bool (letterB x))∧w=w':=by
 unfold letterB
 rcases Int.lt_or_le x 65 with h1 | h1
 ·have d1:decide (65≤x)=false:=by simp;omega
  have d2:decide (97≤x)=false:=by simp;omega
  go_enter func136,ntmps136
  go_wp2
  go_ret
  exact ⟨ZAG (by simp [d1,d2]),rfl⟩
 ·have d1:decide (65≤x)=true:=by simp;omega
  rcases Int.lt_or_le 90 x with h2 | h2
  ·have d2:decide (x≤90)=false:=by simp;omega
   rcases Int.lt_or_le x 97 with h3 | h3
   ·have d3:decide (97≤x)=false:=by simp;omega
    go_enter func136,ntmps136
    go_wp2
    go_ret
    exact ⟨ZAG (by simp [d2,d3]),rfl⟩
   ·have d3:decide (97≤x)=true:=by simp;omega
    go_enter func136,ntmps136
    go_wp2
    go_ret
    exact ⟨ZAG (by simp [d1,d2,d3]),rfl⟩
  ·have d2:decide (x≤90)=true:=by simp;omega
   go_enter func136,ntmps136
   go_wp2
   go_ret
   exact ⟨ZAG (by simp [d1,d2]),rfl⟩
theorem ZLD (x:Int) (w:World) (h:0≤x) (h':x≤255):Calls Tryz.prog 137 #[.int .u8 x] w fun e w'=>e=.returned (.bool (withinB x))∧w=w':=by
 have hc:=fun w=>ZGG x w h h'
 unfold withinB
 obtain ⟨lb,hlb⟩:∃ lb,letterB x=lb:=⟨_,rfl⟩
 rw [hlb] at hc ⊢
 clear hlb
 cases lb with
 |true=>
  go_enter func137,ntmps137
  go_wp2_with (first | (go_at_call 136;(with_reducible refine (hc _).mono ?_);rintro e w' ⟨rfl,rfl⟩))
  go_ret
  exact ⟨ZAG (by simp),rfl⟩
 |false=>
  by_cases h1:48≤x∧x≤57
  ·have d1:decide (48≤x)=true:=by simp;omega
   have d2:decide (x≤57)=true:=by simp;omega
   go_enter func137,ntmps137
   go_wp2_with (first | (go_at_call 136;(with_reducible refine (hc _).mono ?_);rintro e w' ⟨rfl,rfl⟩))
   all_goals go_ret
   all_goals exact ⟨ZAG (by simp [d1,d2]),rfl⟩
  ·have d12:(decide (48≤x) && decide (x≤57))=false:=by simp;omega
   by_cases h2:x=95
   ·subst h2
    go_enter func137,ntmps137
    go_wp2_with (first | (go_at_call 136;(with_reducible refine (hc _).mono ?_);rintro e w' ⟨rfl,rfl⟩))
    all_goals go_ret
    all_goals exact ⟨ZAG (by simp),rfl⟩
   ·have d3:decide (x=95)=false:=by simpa using h2
    have d4:(x == 95)=false:=by simpa using h2
    rcases Int.lt_or_le x 48 with h3 | h3
    ·have d1:decide (48≤x)=false:=by simp;omega
     go_enter func137,ntmps137
     go_wp2_with (first | (go_at_call 136;(with_reducible refine (hc _).mono ?_);rintro e w' ⟨rfl,rfl⟩))
     all_goals go_ret
     all_goals exact ⟨ZAG (by simp [d1,d3];try rfl),rfl⟩
    ·have d1:decide (48≤x)=true:=by simp;omega
     have d2:decide (x≤57)=false:=by simp;omega
     go_enter func137,ntmps137
     go_wp2_with (first | (go_at_call 136;(with_reducible refine (hc _).mono ?_);rintro e w' ⟨rfl,rfl⟩))
     all_goals go_ret
     all_goals exact ⟨ZAG (by simp [d2,d3];try rfl),rfl⟩
theorem ZJE {s:ByteArray} (h:s.size≠0):s.toList.isEmpty=false:=by
 rw [ZAz]
 have h2:s.data.toList.length=s.size:=by simp
 cases hc:s.data.toList with
 |nil=>rw [hc] at h2;simp at h2;omega
 |cons a r=>rfl
theorem ZGH (l:List Int) (h:l≠[]):nameB l=(decide (l.length≤40) && letterB (l[0]?.getD 0) && l.all withinB):=by
 unfold nameB;cases l with
 |nil=>exact absurd rfl h
 |cons a r=>simp
theorem ZN9 (l:List Int) (k:Nat) (h:k<l.length):(l.drop k).all withinB=(withinB (l[k]?.getD 0) && (l.drop (k+1)).all withinB):=by
 rw [List.drop_eq_getElem_cons h,List.all_cons,List.getElem?_eq_getElem h];rfl
theorem ZDt (s:ByteArray) (w:World) (hsm:s.size≤maxLen) :
  Calls Tryz.prog 128 #[.string s] w fun e w'=>e=.returned (.bool (nameB (strB s)))∧w=w':=by
 unfold maxLen at hsm
 obtain ⟨r,hr⟩:∃ r,nameB (strB s)=r:=⟨_,rfl⟩
 rw [hr]
 have hl:=ZBc s
 by_cases h0:s.size=0
 ·have hs:s=⟨#[]⟩:=by
   apply ByteArray.ext
   exact Array.eq_empty_of_size_eq_zero h0
  subst hs
  obtain rfl:r=false:=by rw [←hr];rfl
  clear hr
  go_enter func128,ntmps128
  go_wp2
  go_ret
  exact ⟨rfl,rfl⟩
 ·have hse:=ZJE h0
  have hx:=ZDh s 0 (by omega)
  have hbd:=ZMN s[0]
  have hbs:=ZCL s
  rw [ZGH _ (by intro h;rw [h] at hl;simp at hl;omega),hx,hl] at hr
  have hLt:=fun w=>ZGG (s[0].toNat:Int) w hbd.1 hbd.2
  obtain ⟨lb,hlb⟩:∃ lb,letterB (s[0].toNat:Int)=lb:=⟨_,rfl⟩
  rw [hlb] at hr hLt
  have HR:=ZZY hr
  clear hr hx hlb hbd
  rcases Nat.lt_or_ge 40 s.size with h40 | h40
  ·have hd:decide (40<(s.size:Int))=true:=by simp;omega
   have hd2:decide (s.size≤40)=false:=by simp;omega
   obtain rfl:r=false:=by rw [←HR.out,hd2];rfl
   clear hd2
   go_enter func128,ntmps128
   go_wp2_with fail
   go_ret
   exact ⟨rfl,rfl⟩
  ·have hd:decide (40<(s.size:Int))=false:=by simp;omega
   cases lb with
   |false=>
    obtain rfl:r=false:=by rw [←HR.out];simp
    go_enter func128,ntmps128
    go_wp2_with (first | (go_at_call 136;(with_reducible refine (hLt _).mono ?_);rintro e w' ⟨rfl,rfl⟩))
    go_ret
    exact ⟨rfl,rfl⟩
   |true=>
    have hd2:decide (s.size≤40)=true:=by simp;omega
    have HR2:=ZZY (show (strB s).all withinB=r by rw [←HR.out,hd2];simp)
    clear HR hd2
    go_enter func128,ntmps128
    go_wp2_with (first | (go_at_call 136;(with_reducible refine (hLt _).mono ?_);rintro e w' ⟨rfl,rfl⟩))
    go_loop [3,19] (fun _ i=>∃ q:Nat,q≤s.size∧i=.int .i64 q∧Hid (((strB s).drop q).all withinB=r)) (fun _ i=>s.size-(intOf i).toNat)
    case atStart=>exact ⟨0,Nat.zero_le _,rfl,HR2.out⟩
    case round=>
     obtain ⟨q,hq,rfl,hrq⟩:=hrel
     rcases Nat.lt_or_ge q s.size with hlt | hge
     ·have hx:=ZDh s q hlt
      have hd:decide (q<s.size)=true:=by simpa using hlt
      have hbd:=ZMN s[q]
      have hst:=ZN9 (strB s) q (by omega)
      rw [hrq.out,hx] at hst
      have hW:=fun w=>ZLD (s[q].toNat:Int) w hbd.1 hbd.2
      obtain ⟨wb,hwb⟩:∃ wb,withinB (s[q].toNat:Int)=wb:=⟨_,rfl⟩
      rw [hwb] at hst hW
      have HST:=ZZY hst
      clear hst hwb hx hrq hbd
      cases wb with
      |true=>
       go_wp2_with (first | (go_at_call 137;(with_reducible refine (hW _).mono ?_);rintro e w' ⟨rfl,rfl⟩))
       go_round
       case rel=>exact ⟨q+1,by omega,by go_num,(HST.out.trans (by simp)).symm⟩
       case measure=>simp [intOf];omega
      |false=>
       obtain rfl:r=false:=by rw [HST.out];simp
       go_wp2_with (first | (go_at_call 137;(with_reducible refine (hW _).mono ?_);rintro e w' ⟨rfl,rfl⟩))
       go_ret
       exact ⟨rfl,rfl⟩
     ·have hd:decide (q<s.size)=false:=by simpa using hge
      obtain rfl:r=true:=by
       rw [←hrq.out,List.drop_of_length_le (by omega)];rfl
      go_wp2_with fail
      go_ret
      exact ⟨rfl,rfl⟩
end Go.Proofs.YtcjdfdfphbckaaaGreat
namespace Go.Proofs.YtcjdfdfphbckaaaGreat.U
def size (c:Int):Int:=if c<0∨(55296≤c∧c≤57343)∨1114111<c then 0 else if c<128 then 1 else if c<2048 then 2 else if c<65536 then 3 else 4
def fst (x:Int):Int × Nat:=if x<128 then (x,1) else if 192≤x∧x<224 then (x-192,2) else if 224≤x∧x<240 then (x-224,3) else if 240≤x∧x<248 then (x-240,4) else (0,0)
def cont (x:Int):Bool:=decide (128≤x∧x<192)
def conts:List Int→Nat→Int→Option Int
 | _,0,c=>some c
 | [],_+1,_=>none
 |x :: r,n+1,c=>if cont x then conts r n (c*64+(x-128)) else none
theorem conts_zero (l:List Int) (c:Int):conts l 0 c=some c:=by cases l<;>rfl
theorem conts_succ (x:Int) (r:List Int) (n:Nat) (c:Int):conts (x :: r) (n+1) c=if cont x then conts r n (c*64+(x-128)) else none:=rfl
def got (n:Nat):Option Int→Int × Nat
 |none=>(0,0)
 |some c=>if size c=n then (c,n) else (0,0)
def get (l:List Int):Int × Nat:=
 match l with
 | []=>(0,0)
 |x :: r=>if (fst x).2=0∨r.length+1<(fst x).2 then (0,0) else
  got (fst x).2 (conts r ((fst x).2-1) (fst x).1)
def put (c:Int):List Int:=
 if size c=1 then [c] else if size c=2 then [192+c / 64,128+c % 64] else
 if size c=3 then [224+c / 4096,128+c / 64 % 64,128+c % 64] else
 if size c=4 then [240+c / 262144,128+c / 4096 % 64,128+c / 64 % 64,128+c % 64] else []
theorem fst_bd (x:Int) (h0:0≤x):0≤(fst x).1∧(fst x).1≤127∧(fst x).2≤4:=by
 unfold fst
 repeat' (split;· simp;omega)
 simp
theorem ZE3 (p:Int→Bool) (h:((List.range 256).all fun n=>p (n:Int))=true) (x:Int) (h0:0≤x) (h1:x≤255):p x=true:=by
 have:=List.all_eq_true.1 h x.toNat (by simp;omega)
 rwa [show ((x.toNat:Nat):Int)=x from by omega] at this
theorem and224 (x:Int) (h0:0≤x) (h1:x≤255):bits .and .u8 x 224=x / 32*32:=by
 have:=ZE3 (fun x=>bits .and .u8 x 224 == x / 32*32) (by decide +kernel) x h0 h1
 simpa using this
theorem and240 (x:Int) (h0:0≤x) (h1:x≤255):bits .and .u8 x 240=x / 16*16:=by
 have:=ZE3 (fun x=>bits .and .u8 x 240 == x / 16*16) (by decide +kernel) x h0 h1
 simpa using this
theorem and248 (x:Int) (h0:0≤x) (h1:x≤255):bits .and .u8 x 248=x / 8*8:=by
 have:=ZE3 (fun x=>bits .and .u8 x 248 == x / 8*8) (by decide +kernel) x h0 h1
 simpa using this
theorem and192 (x:Int) (h0:0≤x) (h1:x≤255):bits .and .u8 x 192=x / 64*64:=by
 have:=ZE3 (fun x=>bits .and .u8 x 192 == x / 64*64) (by decide +kernel) x h0 h1
 simpa using this
theorem and31 (x:Int) (h0:0≤x) (h1:x≤255):bits .and .u8 x 31=x % 32:=by
 have:=ZE3 (fun x=>bits .and .u8 x 31 == x % 32) (by decide +kernel) x h0 h1
 simpa using this
theorem and15 (x:Int) (h0:0≤x) (h1:x≤255):bits .and .u8 x 15=x % 16:=by
 have:=ZE3 (fun x=>bits .and .u8 x 15 == x % 16) (by decide +kernel) x h0 h1
 simpa using this
theorem and7 (x:Int) (h0:0≤x) (h1:x≤255):bits .and .u8 x 7=x % 8:=by
 have:=ZE3 (fun x=>bits .and .u8 x 7 == x % 8) (by decide +kernel) x h0 h1
 simpa using this
theorem and63 (x:Int) (h0:0≤x) (h1:x≤255):bits .and .u8 x 63=x % 64:=by
 have:=ZE3 (fun x=>bits .and .u8 x 63 == x % 64) (by decide +kernel) x h0 h1
 simpa using this
theorem ZLE (a b:Nat) (ha:a<2 ^ 62) (hb:b<2 ^ 62):bits .or .i64 (a:Int) (b:Int)=((a ||| b:Nat):Int):=by
 have hx:a ||| b<2 ^ 62:=Nat.or_lt_two_pow ha hb
 show IntKind.i64.wrap ((BitVec.ofInt 64 (a:Int) ||| BitVec.ofInt 64 (b:Int)).toNat:Int)=_
 have e:∀ x:Nat,x<2 ^ 62→(BitVec.ofInt 64 (x:Int)).toNat=x:=by
  intro x hx;rw [BitVec.ofInt_natCast,BitVec.toNat_ofNat];exact Nat.mod_eq_of_lt (by omega)
 rw [BitVec.toNat_or,e a ha,e b hb,IntKind.wrap_i64]
 omega
theorem ZJF (x y:Int) (i:Nat) (h0:0≤x) (h1:x<4611686018427387904) (h2:0≤y) (h3:y<2 ^ i) (hi:i≤60) (hx:x % 2 ^ i=0):bits .or .i64 x y=x+y:=by
 obtain ⟨X,rfl⟩:=Int.eq_ofNat_of_zero_le h0
 obtain ⟨Y,rfl⟩:=Int.eq_ofNat_of_zero_le h2
 have hY:Y<2 ^ i:=by exact_mod_cast h3
 have hX:X % 2 ^ i=0:=by exact_mod_cast hx
 have hp:2 ^ i≤2 ^ 60:=Nat.pow_le_pow_right (by decide) hi
 rw [ZLE X Y (by omega) (by omega),nat_join i X Y hX hY]
 rfl
theorem or64 (c y:Int) (h0:0≤c) (h1:c<70368744177664) (h2:0≤y) (h3:y<64):bits .or .i64 (c*64) y=c*64+y:=
 ZJF (c*64) y 6 (by omega) (by omega) h2 (by omega) (by omega) (by omega)
end Go.Proofs.YtcjdfdfphbckaaaGreat.U
namespace Go.Proofs.YtcjdfdfphbckaaaGreat
open Go.RowKit
theorem ZMR (c:Int) (w:World) :
  Calls Tryz.prog 154 #[.int .i64 c] w fun e w'=>e=.returned (.int .i64 (U.size c))∧w=w':=by
 go_enter func154,ntmps154
 go_wp2
 all_goals (go_ret;refine ⟨ZBK ?_,rfl⟩;simp only [U.size];(repeat' split)<;>first | rfl | (exfalso;omega))
theorem ZMS (x:Int) (w:World) (h0:0≤x) (h1:x≤255) :
  Calls Tryz.prog 153 #[.int .u8 x] w fun e w'=>e=.returned (.tuple #[.int .i64 (U.fst x).1,.int .i64 ((U.fst x).2:Int)])∧w=w':=by
 have e1:=U.and224 x h0 h1
 have e2:=U.and240 x h0 h1
 have e3:=U.and248 x h0 h1
 have e4:=U.and31 x h0 h1
 have e5:=U.and15 x h0 h1
 have e6:=U.and7 x h0 h1
 go_enter func153,ntmps153
 go_wp2
 all_goals (go_ret2;refine ⟨ZN5 ?_ ?_,rfl⟩)
 all_goals (clear e1 e2 e3 e4 e5 e6;try simp only [beq_iff_eq,beq_eq_false_iff_ne] at *)
 all_goals (unfold U.fst;(repeat' split)<;>first | rfl | omega | (simp;omega) | (simp;done))
def getAt (l:List Int) (at_:Int):Int × Nat:=if 0≤at_∧at_<l.length then U.get (l.drop at_.toNat) else (0,0)
theorem ZFK (l:List Int) (q:Nat) (x:Int) (hq:q<l.length) (h:l[q]?.getD 0=x):l.drop q=x :: l.drop (q+1) ∧
  getAt l q=if (U.fst x).2=0∨l.length-q<(U.fst x).2 then (0,0) else U.got (U.fst x).2 (U.conts (l.drop (q+1)) ((U.fst x).2-1) (U.fst x).1):=by
 have hdrop:l.drop q=x :: l.drop (q+1):=by
  rw [List.drop_eq_getElem_cons hq];congr 1;rw [←h,List.getElem?_eq_getElem hq];rfl
 refine ⟨hdrop, ?_⟩
 unfold getAt
 rw [if_pos (by omega),Int.toNat_natCast,hdrop]
 simp only [U.get,List.length_drop]
 rw [show l.length-(q+1)+1=l.length-q by omega]
theorem ZOA (s:ByteArray) (p:Int) (w:World) (hsm:s.size≤maxLen) (hp : -9223372036854775808≤p) (hp':p≤9223372036854775807) :
  Calls Tryz.prog 144 #[.string s,.int .i64 p] w fun e w'=>e=.returned (.tuple #[.int .i64 (getAt (strB s) p).1,.int .i64 ((getAt (strB s) p).2:Int),.bool (decide (0<(getAt (strB s) p).2))])∧w=w':=by
 unfold maxLen at hsm
 obtain ⟨l,hls⟩:∃ l,strB s=l:=⟨_,rfl⟩
 have hl:l.length=s.size:=by rw [←hls,ZBc]
 rw [hls]
 have HLS:=ZZY hls;clear hls
 by_cases hneg:p<0
 ·have hd:decide (p<0)=true:=by simpa using hneg
  have hg:getAt l p=(0,0):=by unfold getAt;rw [if_neg (by omega)]
  go_enter func144,ntmps144
  rw [hg];clear hg hl
  go_wp2
  go_ret3
  exact ⟨rfl,rfl⟩
 obtain ⟨q,rfl⟩:=Int.eq_ofNat_of_zero_le (by omega:0≤p)
 have hd:decide ((q:Int)<0)=false:=by simp
 by_cases hge:s.size≤q
 ·have hg:getAt l q=(0,0):=by unfold getAt;rw [if_neg (by omega)]
  have hd2:decide (s.size≤q)=true:=by simpa using hge
  go_enter func144,ntmps144
  rw [hg];clear hg hl
  go_wp2
  go_ret3
  exact ⟨rfl,rfl⟩
 have hlt:q<s.size:=by omega
 have hd2:decide (s.size≤q)=false:=by simpa using hge
 have hxe:l[q]?.getD 0=(s[q].toNat:Int):=by rw [←HLS.out];exact ZDh s q hlt
 have hxb:=ZMN s[q]
 obtain ⟨hdrop,hgl⟩:=ZFK l q (s[q].toNat:Int) (by omega) hxe
 rw [hl] at hgl
 generalize getAt l (q:Int)=g at hgl ⊢
 have hfb:=U.fst_bd (s[q].toNat:Int) hxb.1
 have hfirst:=ZMS (s[q].toNat:Int) w hxb.1 hxb.2
 obtain ⟨c0,n,hcn⟩:=ZGt (U.fst (s[q].toNat:Int))
 rw [hcn] at hgl hfb hfirst
 simp only at hgl hfb hfirst
 have HL:=ZZY hl;clear hl
 have HX:=ZZY hxe;clear hxe
 have HD:=ZZY hdrop;clear hdrop
 have HN:=ZZY hcn;clear hcn
 have HG:=ZZY hgl;clear hgl
 by_cases hn:n=0
 ·subst hn
  obtain rfl:g=(0,0):=by rw [HG.out];rfl
  go_enter func144,ntmps144
  go_wp2_with (first | (go_at_call 153;refine hfirst.mono ?_;rintro e w' ⟨rfl,rfl⟩))
  go_ret3
  exact ⟨rfl,rfl⟩
 have hn0:((n:Int) == 0)=false:=by simp;omega
 by_cases hnl:s.size-q<n
 ·obtain rfl:g=(0,0):=by rw [HG.out,if_pos (.inr hnl)]
  have hgt:decide ((s.size:Int)-q<n)=true:=by simp;omega
  go_enter func144,ntmps144
  go_wp2_with (first | (go_at_call 153;refine hfirst.mono ?_;rintro e w' ⟨rfl,rfl⟩))
  go_ret3
  exact ⟨rfl,rfl⟩
 have hgt:decide ((s.size:Int)-q<n)=false:=by simp;omega
 have hnc:n≤4∧q+n≤s.size∧0<n:=by omega
 obtain ⟨hn4,hqn,hn1⟩:=hnc
 have HG2:Hid (g=U.got n (U.conts (l.drop (q+1)) (n-1) c0)):=ZZY (by rw [HG.out,if_neg (by omega)])
 clear HG
 go_enter func144,ntmps144
 go_wp2_with (first | (go_at_call 153;refine hfirst.mono ?_;rintro e w' ⟨rfl,rfl⟩))
 clear hfirst
 go_loop [7,9,10] (fun c i _=>∃ (k:Nat) (cc:Int),1≤k∧k≤n∧i=.int .i64 k∧c=.int .i64 cc∧0≤cc∧((k=1∧cc≤127)∨(k=2∧cc≤8191)∨(k=3∧cc≤524287)∨(k=4∧cc≤33554431))∧U.conts (l.drop (q+k)) (n-k) cc=U.conts (l.drop (q+1)) (n-1) c0) (fun _ i _=>5-(intOf i).toNat)
 case atStart=>exact ⟨1,c0,by omega,by omega,rfl,rfl,by omega,by omega,rfl⟩
 case round=>
  obtain ⟨k,cc,hk1,hkn,rfl,rfl,hc0,hcb,hcont⟩:=hrel
  have HK:=ZZY hcont;clear hcont
  by_cases hkl:k<n
  ·have hkq:q+k<s.size:=by omega
   have hyb:=ZMN s[q+k]
   have e1:=U.and192 (s[q+k].toNat:Int) hyb.1 hyb.2
   have e2:=U.and63 (s[q+k].toNat:Int) hyb.1 hyb.2
   have e3:=U.or64 cc ((s[q+k].toNat:Int) % 64) hc0 (by omega) (by omega) (by omega)
   have hdr:=(ZFK l (q+k) (s[q+k].toNat:Int) (by have:=HL.out;omega) (by rw [←HLS.out];exact ZDh s (q+k) hkq)).1
   have HK2:Hid ((if U.cont (s[q+k].toNat:Int) then U.conts (l.drop (q+(k+1))) (n-(k+1)) (cc*64+((s[q+k].toNat:Int)-128)) else none)=U.conts (l.drop (q+1)) (n-1) c0):=by
    have h:=HK.out
    rw [hdr,show n-k=(n-(k+1))+1 by omega,U.conts_succ,show q+k+1=q+(k+1) by omega] at h
    exact ZZY h
   clear hdr HK
   go_wp2
   ·have hy1:((s[q+k].toNat:Int) / 64*64 != 128)=true:=by assumption
    obtain rfl:g=(0,0):=by
     have h:=HK2.out
     have:U.cont (s[q+k].toNat:Int)=false:=by simp only [U.cont,bne_iff_ne] at *;simp;omega
     rw [this] at h
     rw [HG2.out,←h];rfl
    go_ret3
    exact ⟨rfl,rfl⟩
   ·have hy1:((s[q+k].toNat:Int) / 64*64 != 128)=false:=by assumption
    have hyc:U.cont (s[q+k].toNat:Int)=true∧(s[q+k].toNat:Int) % 64=(s[q+k].toNat:Int)-128:=by simp only [U.cont,bne_eq_false_iff_eq] at *;simp;omega
    go_round
    case rel=>exact ⟨k+1,cc*64+(s[q+k].toNat:Int) % 64,by omega,by omega,by go_num,rfl,by omega,by omega,by rw [←HK2.out,hyc.1,hyc.2,if_pos rfl]⟩
    case measure=>simp [intOf];omega
  ·obtain rfl:k=n:=by omega
   have HK2:Hid (U.conts (l.drop (q+1)) (k-1) c0=some cc):=by
    have h:=HK.out
    rw [Nat.sub_self,U.conts_zero] at h
    exact h.symm
   clear HK
   have hs:=ZMR cc
   by_cases hsz:U.size cc=k
   ·obtain rfl:g=(cc,k):=by rw [HG2.out,HK2.out];simp [U.got,hsz]
    have hb0:(U.size cc != (k:Int))=false:=by simpa using hsz
    have HS:=ZZY hsz;clear hsz
    go_wp2_with (first | (go_at_call 154;refine (hs _).mono ?_;rintro e w' ⟨rfl,rfl⟩))
    go_ret3
    exact ⟨ZMM rfl rfl (by simp),rfl⟩
   ·obtain rfl:g=(0,0):=by rw [HG2.out,HK2.out];simp [U.got,hsz]
    have hb0:(U.size cc != (k:Int))=true:=by simpa using hsz
    go_wp2_with (first | (go_at_call 154;refine (hs _).mono ?_;rintro e w' ⟨rfl,rfl⟩))
    go_ret3
    exact ⟨rfl,rfl⟩
theorem ZPa (c:Int):(U.put c).length=(U.size c).toNat:=by
 unfold U.put U.size
 repeat' split
 all_goals (first | rfl | omega | (simp_all;done) | (simp_all;omega))
open Go.RowKit Go.Shelf
attribute [local go_sem] Oper.semAt_some
namespace U
def cds:Nat→List Int→Nat→List (Int × Nat)
 | 0,_,_=>[]
 |f+1,l,p=>if 0<(getAt l p).2 then ((getAt l p).1,p+(getAt l p).2) :: cds f l (p+(getAt l p).2) else []
theorem ZQG (n:Nat) (o:Option Int):(got n o).2≤n:=by
 cases o with
 |none=>simp [got]
 |some c=>simp only [got];split<;>simp
theorem getAt_le (l:List Int) (p:Nat) (h:p≤l.length):p+(getAt l p).2≤l.length∧(getAt l p).2≤4:=by
 by_cases hp:p<l.length
 ·obtain ⟨_,h2⟩:=ZFK l p _ hp rfl
  rw [h2]
  split
  ·simp;omega
  ·have:=ZQG (fst (l[p]?.getD 0)).2 (conts (l.drop (p+1)) ((fst (l[p]?.getD 0)).2-1) (fst (l[p]?.getD 0)).1)
   have h4:(fst (l[p]?.getD 0)).2≤4:=by unfold fst;(repeat' split)<;>simp
   omega
 ·unfold getAt;rw [if_neg (by omega)];simp;omega
theorem ZPb (c:Int):size c=0∨(0≤c∧c≤1114111):=by
 unfold size;repeat' split
 all_goals (first | (left;rfl) | (right;omega))
theorem getAt_code (l:List Int) (p:Nat):0≤(getAt l p).1∧(getAt l p).1≤1114111:=by
 by_cases hp:p<l.length
 ·obtain ⟨_,h2⟩:=ZFK l p _ hp rfl
  rw [h2]
  split
  ·simp
  ·rename_i hn
   cases conts (l.drop (p+1)) ((fst (l[p]?.getD 0)).2-1) (fst (l[p]?.getD 0)).1 with
   |none=>simp [got]
   |some c=>
    simp only [got]
    split
    ·rename_i hs
     rcases ZPb c with h | h
     ·rw [h] at hs;omega
     ·simpa using h
    ·simp
 ·unfold getAt;rw [if_neg (by omega)];simp
end U
theorem ZKV (f:Nat) (l:List Int) (p:Nat) (h:0<(getAt l p).2):U.cds (f+1) l p=((getAt l p).1,p+(getAt l p).2) :: U.cds f l (p+(getAt l p).2):=by
 simp only [U.cds];rw [if_pos h]
theorem ZGv (f:Nat) (l:List Int) (p:Nat) (h:¬0<(getAt l p).2):U.cds (f+1) l p = []:=by
 simp only [U.cds];rw [if_neg h]
theorem ZMT (n:Nat) (hn:1≤n) (l Bs:Nat) (s:ByteArray) (hsm:s.size≤maxLen) (J Jx:List (Int × Nat)→World→Prop)
  (hY:∀ pre x W,J pre W→pre.length<s.size→YieldAt Fence.wide (n-1) Tryz.prog l #[.int .i64 x.1,.int .i64 (x.2:Int)] W fun e W'=>
   (e=.returned (.bool true)∧J (pre ++ [x]) W'∧ZDR Bs 9 W W')∨(e=.returned (.bool false)∧Jx (pre ++ [x]) W'))
  (W:World) (hBs:Boxed W Bs 9 (.string s)) (h0:J [] W) :
  CallsIn Fence.wide n Tryz.prog 143 #[.func (.yield l) #[] #[],.pointer (some ⟨Bs,0,none⟩)] W fun e W'=>(∃ v,e=.returned v) ∧
   ((∃ ys,ys=U.cds s.size (strB s) 0∧J ys W')∨(∃ pre,pre <+: U.cds s.size (strB s) 0∧Jx pre W')):=by
 refine callsIn_of_wp func143 rfl trivial ?_ rfl
 simp only [ntmps143,List.size_toArray,List.length_cons,List.length_nil,Nat.reduceAdd,Nat.reduceSub,Array.replicate_succ,Array.replicate_zero,List.push_toArray,List.append_toArray,List.nil_append,List.cons_append]
 gi_wp2
 gi_loopw [3] (fun i wr=>∃ (p f:Nat) (pre:List (Int × Nat)),p≤s.size∧i=.int .i64 p∧J pre wr∧Boxed wr Bs 9 (.string s)∧pre++U.cds f (strB s) p=U.cds s.size (strB s) 0∧s.size≤p+f∧pre.length≤p)
  (fun i _=>s.size-(intOf i).toNat)
 case atStart=>exact ⟨0,s.size,[],Nat.zero_le _,rfl,h0,hBs,rfl,by omega,by simp⟩
 case round=>
  obtain ⟨p,f,pre,hp,rfl,hJs,hnx,hcd,hpf,hpl⟩:=hrel
  have hcx:=hnx.cell
  have hle:=U.getAt_le (strB s) p (by rw [ZBc];exact hp)
  rw [ZBc] at hle
  have hcode:=U.getAt_code (strB s) p
  have hget:∀ w,Calls Tryz.prog 144 #[.string s,.int .i64 (p:Int)] w _:=fun w=>ZOA s p w hsm (by omega) (by unfold maxLen at hsm;omega)
  have hcs:=ZKV (f-1) (strB s) p
  have hcn:=ZGv (f-1) (strB s) p
  have hsz:p=s.size→(getAt (strB s) p).2=0:=fun e=>by omega
  obtain ⟨c,m,hcm⟩:=ZGt (getAt (strB s) (p:Int))
  simp only [hcm] at hle hget hcs hcn hsz hcode
  have HM:=ZZY hcm;clear hcm
  unfold maxLen at hsm
  by_cases hm:0<m
  ·have hplt:p<s.size:=by omega
   have hf:f=f-1+1:=by omega
   have hcd2:(pre ++ [(c,p+m)])++U.cds (f-1) (strB s) (p+m)=U.cds s.size (strB s) 0:=by
    rw [←hcd,hf,hcs hm];simp
   have HD:=ZZY hcd2;clear hcd2 hcd
   have HS:=ZZY hcs;clear hcs
   have HN:=ZZY hcn;clear hcn
   have HZ:=ZZY hsz;clear hsz
   have HF:=ZZY hf;clear hf
   have hd:decide (0<m)=true:=by simpa using hm
   obtain ⟨fn,tmps,assign,body,hy,hR⟩:=hY _ (c,p+m) wr hJs (by omega)
   dsimp only at hy
   have hpm:((p+m:Nat):Int)=(p:Int)+m:=by omega
   rw [hpm] at hy
   have HPM:=ZZY hpm;clear hpm
   gi_wp2_with (refine ⟨trivial, ?_⟩;gi_at_call 144;refine (callsIn_wide.2 (hget _)).mono ?_;rintro e w' ⟨rfl,rfl⟩)
   refine hR.mono ?_
   rintro e W3 (⟨rfl,hJ3,hk3⟩ | ⟨rfl,hJx3⟩)
   ·gi_wp2
    go_roundw
    case rel=>exact ⟨p+m,f-1,pre ++ [(c,p+m)],hle.1,by rw [HPM.out],hJ3,hk3 _ hnx,HD.out,by omega,by simp;omega⟩
    case measure=>simp [intOf];omega
   ·gi_wp2
    refine bodyPost_ret (results_none rfl _ _ _) rfl ?_
    exact ⟨⟨_,rfl⟩,.inr ⟨_,⟨U.cds (f-1) (strB s) (p+m),HD.out⟩,hJx3⟩⟩
  ·have hm0:m=0:=by omega
   subst hm0
   have hcd2:pre=U.cds s.size (strB s) 0:=by
    rw [←hcd]
    cases f with
    |zero=>simp [U.cds]
    |succ f=>rw [show f+1-1=f from rfl] at hcn;rw [hcn (by simp)];simp
   have HD:=ZZY hcd2;clear hcd2 hcd hcs hcn hsz
   gi_wp2_with (refine ⟨trivial, ?_⟩;gi_at_call 144;refine (callsIn_wide.2 (hget _)).mono ?_;rintro e w' ⟨rfl,rfl⟩)
   all_goals
    refine ⟨fun _ h=>(by cases h), ?_⟩
    gi_wp2
    refine bodyPost_ret (results_none rfl _ _ _) rfl ?_
    exact ⟨⟨_,rfl⟩,.inl ⟨_,HD.out,hJs⟩⟩
theorem ZOB (n:Nat) (s:ByteArray) (w:World) :
  CallsIn Fence.wide n Tryz.prog 138 #[.string s] w fun e w'=>e=.returned (.func (.func 143) #[] #[.pointer (some ⟨w.heap.size,0,none⟩)])∧w'=w.alloc (.cells #[.string s] 9):=by
 refine callsIn_of_wp func138 rfl trivial ?_ rfl
 simp only [ntmps138,List.size_toArray,List.length_cons,List.length_nil,Nat.reduceAdd,Nat.reduceSub,Array.replicate_succ,Array.replicate_zero,List.push_toArray,List.append_toArray,List.nil_append,List.cons_append]
 gi_wp2
 go_ret
 exact ⟨rfl,rfl⟩
theorem ZJG (n:Nat) (hn:1≤n) (Bs:Nat) (s:ByteArray) (hsm:s.size≤maxLen) (w:World) (hBs:Boxed w Bs 9 (.string s)) :
  SeqStopsK Fence.wide n Tryz.prog 143 #[.pointer (some ⟨Bs,0,none⟩)] (fun x:Int × Nat=>#[Value.int .i64 x.1,Value.int .i64 (x.2:Int)]) (ZDR Bs 9) (fun ys=>ys=U.cds s.size (strB s) 0)
   (fun pre=>pre <+: U.cds s.size (strB s) 0) s.size w:=fun l J Jx W hW _ _ hY h0=>
 ZMT n hn l Bs s hsm J Jx hY W ((hW.block Bs hBs.lt).trans hBs) h0
def U.lastEnd (l:List (Int × Nat)):Nat:=match l.getLast? with | some x=>x.2 | none=>0
theorem U.lastEnd_snoc (l:List (Int × Nat)) (x:Int × Nat):U.lastEnd (l ++ [x])=x.2:=by simp [U.lastEnd]
def U.validS (s:ByteArray):Bool:=decide (U.lastEnd (U.cds s.size (strB s) 0)=s.size)
theorem ZMU (s:ByteArray) (w:World) (hsm:s.size≤maxLen) :
  Calls Tryz.prog 129 #[.string s] w fun e w'=>e=.returned (.bool (U.validS s))∧Below w.heap.size w w':=by
 refine (callsIn_wide (n:=100)).1 ?_
 refine callsIn_of_wp_marks func129 rfl trivial ?_ rfl
 simp only [ntmps129,List.size_toArray,List.length_cons,List.length_nil,Nat.reduceAdd,Nat.reduceSub,Array.replicate_succ,Array.replicate_zero,List.push_toArray,List.append_toArray,List.nil_append,List.cons_append]
 gi_wp2_with (refine ⟨trivial, ?_⟩;gi_at_call 138;refine (ZOB _ _ _).mono ?_;rintro e w' ⟨rfl,rfl⟩)
 have bO:=Boxed.new w 3 (.int .i64 0)
 have bN:=Boxed.new (w.alloc (.cells #[.int .i64 0] 3)) 9 (.string s)
 rw [World.size_alloc] at bN
 have hB0:Below w.heap.size w ((w.alloc (.cells #[.int .i64 0] 3)).alloc (.cells #[.string s] 9)):=((Below.refl _ w).alloc (Nat.le_refl _) _).alloc (by simp) _
 refine wpIn_rangeFunc_ownG rfl (by decide) (gf:=143) (lb:=#[.pointer (some ⟨w.heap.size+1,0,none⟩)]) rfl trivial (enters_of func143 (by kernel_rfl) rfl)
  (ZJG _ (by decide) (w.heap.size+1) s hsm _ bN) ZK9 (fun W l o o' _ hl ho _=>ZLA W l o o' hl ho) (Below.refl _ _) (fun _=>rfl)
  (fun pre W=>Boxed W w.heap.size 3 (.int .i64 (U.lastEnd pre:Int))∧Below w.heap.size w W)
  (fun _ _ _=>False)
  (OwnFrom.and (Own.from (boxed_own _ _ _) _) (ownFrom_below (Nat.le_refl _) (by simp;omega)))
  (fun _ _ _ _ _ hs _ _=>hs)
  ⟨bO.alloc _,hB0⟩ ?a1 ?assign ?body ?done ?stop
 case assign=>
  intro l x W K hK
  gi_wp2
  exact hK
 case body=>
  rintro l pre x W ⟨hv,hB⟩ hlt
  have hc:=hv.cell
  have hf:=hv.frozen
  gi_wp2
  exact ⟨(KeepsOthers.setCell _ _ _).from _,ZJB (grownBy_setCell' _ _ _) (by simp),by rw [U.lastEnd_snoc];exact hv.set _,hB.setCell (p:=⟨w.heap.size,0,none⟩) (Nat.le_refl _) _⟩
 case done=>
  rintro D ys W hD rfl ⟨hv,hB⟩ hK
  have hc:=hv.cell
  gi_wp2
  refine ⟨by simp,.inl ⟨_,_,rfl,run_takeDeferred hK, ?_⟩⟩
  exact ⟨_,results_tmp (t:=2) rfl _ _ _,ZAG (by rw [Bool.eq_iff_iff];simp [U.validS];omega),hB.trans (belowK_b (w:=w) (Nat.le_refl _) W D _ _ (by simp at hD;omega) hK rfl rfl)⟩
 case stop=>
  rintro D c pre W _ _ h _
  exact h.elim
def Cds (w:World) (s:ByteArray) (e:Ending) (w':World):Prop:=
 ∃ v,e=.returned (.tuple #[v,.int .i64 (U.lastEnd (U.cds s.size (strB s) 0):Int)]) ∧
  w'.ownsRow w.heap.size 3 1 v (U.cds s.size (strB s) 0).length (i64s ((U.cds s.size (strB s) 0).map (·.1)))∧Below w.heap.size w w'
