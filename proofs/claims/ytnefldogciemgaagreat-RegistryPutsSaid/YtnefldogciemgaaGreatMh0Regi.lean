/- What all my texts share: endings, rows of integers, new cells. -/
import Derived.Test.YtnefldogciemgaaGreatRows
import Derived.WalkKit
import Derived.WalkSpells
import Derived.WalkLawsBesides
import Derived.Lib.Hide
import Derived.RangeFuncBox
import Derived.Maps.AppendAt
import Derived.Laws.BytesArg
import Derived.Lib.ConvBytes
import Derived.RangeFuncNested
import Derived.RangeFuncBound
import Derived.RangeFuncCalls
import Derived.RangeFuncLeaves
import Derived.Shelf.Abstract
import Derived.Shelf.RegionOpen
import Derived.OwnWalkIn
import Derived.TacticsInMore
import Derived.LoopNIn
import Derived.LoopIn
import Derived.Deep.Slices
namespace Go.Proofs.YtnefldogciemgaaGreat
open Go.RowKit
theorem ret_int {k:IntKind} {a b:Int} (h:a=b):Ending.returned (.int k a)=.returned (.int k b):=by rw [h]
theorem ret_bool {a b:Bool} (h:a=b):Ending.returned (.bool a)=.returned (.bool b):=by rw [h]
theorem ret_int2 {k l:IntKind} {a b c d:Int} (h:a=b) (h':c=d):Ending.returned (.tuple #[.int k a,.int l c])=.returned (.tuple #[.int k b,.int l d]):=by rw [h,h']
theorem ret_iib {k l:IntKind} {a b c d:Int} {x y:Bool} (h:a=b) (h':c=d) (h'':x=y):Ending.returned (.tuple #[.int k a,.int l c,.bool x])=.returned (.tuple #[.int k b,.int l d,.bool y]):=by rw [h,h',h'']
def Row (w:World) (k:IntKind) (a:Option Addr) (len cap:Nat) (l:List Int):Prop:=
 l.length=len∧len≤cap∧cap≤maxLen∧(len=0∨∃ b off,a=some ⟨b,off,none⟩∧∀ i,i<len→w.cell? ⟨b,off+i,none⟩=some (.int k (l[i]?.getD 0)))
theorem cells_new (w:World) (l:List Value) (t:TypeId):∀ j u,l[j]? = some u→(w.alloc (.cells l.toArray t)).cell? ((⟨w.heap.size,0,none⟩:Addr).add j)=some u:=by
 intro j u hj
 have hlt:j<l.length:=by
  rcases Nat.lt_or_ge j l.length with h | h
  ·exact h
  ·rw [List.getElem?_eq_none h] at hj;cases hj
 simp only [Addr.add_lit]
 rw [World.cell?_alloc_at _ _ _ _ (by simp)]
 simpa using hj
theorem ownsRow_mono {w:World} {base base':Nat} {e:TypeId} {size:Nat} {v:Value} {n:Nat} {xs:List Value} (h:w.ownsRow base e size v n xs) (hb:base'≤base):w.ownsRow base' e size v n xs:=by
 refine ⟨h.1, ?_⟩
 rcases h.2 with h | ⟨g,cap,cur,h1,h2,h3⟩
 ·exact .inl h
 ·exact .inr ⟨g,cap,cur,h1,Nat.le_trans hb h2,h3⟩
theorem boxed_past {W W':World} {B:Nat} {t:TypeId} {u:Value} (hb:Boxed W B t u) {v:Value} (hg:W.grownBy W' v.ownBlock) {base:Nat} {e:TypeId} {size n:Nat} {xs:List Value} (hrow:W.ownsRow base e size v n xs) (hlt:B<base):Boxed W' B t u:=
 hb.kept hg (fun h=>by have:=(hrow.lt B h.symm).1;omega)
theorem keepsOthers_grown {W W':World} {v:Value} (hg:W.grownBy W' v.ownBlock) {base:Nat} {e:TypeId} {size n:Nat} {xs:List Value} (hrow:W.ownsRow base e size v n xs):KeepsOthers W W':=
 KeepsOthers.of_grownBy hg fun j o ej hj=>by
  rcases hrow.2 with ⟨rfl,_⟩ | ⟨g,cap,cur,rfl,_,hgb,_⟩
  ·simp [Value.ownBlock] at ej
  ·obtain rfl:g=j:=by simpa [Value.ownBlock] using ej
   rw [hgb] at hj;cases hj;rfl
theorem below_grown {W W':World} {v:Value} (hg:W.grownBy W' v.ownBlock) {base:Nat} {e:TypeId} {size n:Nat} {xs:List Value} (hrow:W.ownsRow base e size v n xs) (hb:base≤W.heap.size):Below base W W':=
 (Below.refl base W).grown hg hb (fun k hk=>(hrow.lt k hk).1)
theorem below_drewN {B:Nat} {a w:World} (h:Below B a w) (n:Nat):Below B a (w.drewN n):=h.trans ⟨rfl,rfl,rfl,Nat.le_refl _,fun _ _=>rfl⟩
theorem ownsRow_below {w w':World} {base:Nat} {e:TypeId} {size:Nat} {v:Value} {n:Nat} {xs:List Value} (h:w.ownsRow base e size v n xs) (hb:Below w.heap.size w w'):w'.ownsRow base e size v n xs:=by
 refine ⟨h.1, ?_⟩
 rcases h.2 with hn | ⟨g,cap,cur,rfl,hg,hh,r⟩
 ·exact .inl hn
 ·exact .inr ⟨g,cap,cur,rfl,hg,(hb.block g (Array.getElem?_eq_some_iff.1 hh).1).trans hh,r⟩
def Cells (w:World) (size:Nat) (a:Option Addr) (n:Nat) (xs:List Value):Prop:=
 xs.length=n*size∧(n=0∨∃ ad,a=some ad∧∀ j u,xs[j]? = some u→w.cell? (ad.add j)=some u)
theorem cells_of_row {w:World} {k:IntKind} {a:Option Addr} {n c:Nat} {l:List Int} (h:Row w k a n c l):Cells w 1 a n (l.map (Value.int k)):=by
 obtain ⟨h1,_,_,h4⟩:=h
 refine ⟨by simp [h1], ?_⟩
 rcases h4 with h | ⟨b,off,rfl,hc⟩
 ·exact .inl h
 ·refine .inr ⟨_,rfl,fun j u hu=>?_⟩
  have hj:j<n:=by
   rcases Nat.lt_or_ge j n with h | h
   ·exact h
   ·rw [List.getElem?_eq_none (by simp;omega)] at hu;cases hu
  rw [Addr.add_lit,hc j hj,←hu]
  simp [List.getElem?_eq_getElem (show j<l.length by omega)]
section
variable {P:Program} (w:World)
theorem run_append_cells (base:Nat) (t ty e:TypeId) (i:TypeInfo) (z:Value) (size bytes:Nat) (ht:P.underlying t=some (.slice e)) (hi:P.info? e=some i) (hz:i.zero=some z)
  (hsize:i.size=size) (hby:i.bytes=bytes) (hzs:z.cells.size=size) (hsz:0<size) (v:Value) (n:Nat) (xs:List Value) (hown:w.ownsRow base e size v n xs)
  (a:Option Addr) (m c:Nat) (news:List Value) (hr:Cells w size a m news) (h1:∀ u∈news,u.oneCell'=true) (h63:n+m≤maxLen) (hbytes:(n+m)*bytes≤140737488355328) (hbase:base≤w.heap.size) :
  ∃ v' w',(Builtin.append_ #[t,t] ty #[v,.slice a m c]).run P w=.ok v' w'∧w'.ownsRow base e size v' (n+m) (xs++news)∧w.grownBy w' v.ownBlock:=by
 obtain ⟨hl,hr⟩:=hr
 cases a with
 |none=>
  obtain rfl:m=0:=by rcases hr with h | ⟨_,h,_⟩<;>first | exact h | cases h
  obtain rfl:news = []:=List.length_eq_zero_iff.1 (by simpa using hl)
  refine ⟨v,w, ?_,by simpa using hown,⟨rfl,rfl,rfl,Nat.le_refl _,fun _ _ _=>rfl⟩⟩
  rcases hown.2 with ⟨rfl,rfl⟩ | ⟨g,cap,cur,rfl,_,_,hnc,_⟩
  ·simp [Builtin.append_,run_underlying ht,sizeOf,typeInfo,hi,Builtin.lenOf,Builtin.firstCells]
  ·simp [Builtin.append_,run_underlying ht,sizeOf,typeInfo,hi,Builtin.lenOf,Builtin.firstCells,hnc,storeCells]
 |some ad=>
  have hc:∀ j u,news[j]? = some u→w.cell? (ad.add j)=some u:=by
   rcases hr with rfl | ⟨ad',e,h⟩
   ·intro j u hu
    obtain rfl:news = []:=List.length_eq_zero_iff.1 (by simpa using hl)
    simp at hu
   ·cases e;exact h
  obtain ⟨v',w',hrun,h2,h3,_⟩:=run_append_own_at (P:=P) w base t ty e i z size bytes ht hi hz hsize hby hzs hsz v n xs hown ad m c news hl hc h1 h63 hbytes hbase
  exact ⟨v',w',hrun,h2,h3⟩
theorem wpList_append_cells {ops:Array Oper} {rest:List Oper} {o:Oper} {a:Act} {Q:Exit→Act→World→Prop} (hgd:o.guard=none) (s x:Operand) (t:TypeId)
  (ho:o.op=.call { callee:=.builtin .append,args:=#[s,x],argTypes:=#[t,t] }) (base:Nat) (e:TypeId) (i:TypeInfo) (z:Value) (size bytes:Nat) (ht:P.underlying t=some (.slice e)) (hi:P.info? e=some i) (hz:i.zero=some z)
  (hsize:i.size=size) (hby:i.bytes=bytes) (hzs:z.cells.size=size) (hsz:0<size) (v:Value) (n:Nat) (xs:List Value) (hs:a.eval s=v) (hown:w.ownsRow base e size v n xs)
  (A:Option Addr) (m c:Nat) (news:List Value) (hx:a.eval x=.slice A m c) (hr:Cells w size A m news) (h1:∀ u∈news,u.oneCell'=true) (h63:n+m≤maxLen) (hbytes:(n+m)*bytes≤140737488355328) (hbase:base≤w.heap.size)
  (h:∀ v' w',w'.ownsRow base e size v' (n+m) (xs++news)→w.grownBy w' v.ownBlock→wpList P ops Q rest (a.put o.dst v') w'):wpList P ops Q (o :: rest) a w:=
 wpList_plain hgd fun K hK=>by
  obtain ⟨v',w',hrun,h2,h3⟩:=run_append_cells (P:=P) w base t o.type e i z size bytes ht hi hz hsize hby hzs hsz v n xs hown A m c news hr h1 h63 hbytes hbase
  unfold Oper.wp execOp
  simp only [ho,resolve,invoke,builtin,Sem.run_bind,Sem.run_pure,Result.andThen_ok,List.map_toArray,List.map_cons,List.map_nil,hs,hx,hrun]
  exact hK _ _ (h v' w' h2 h3)
end
open Go.RowKit Go.Shelf
def Bytes (l:List Int):Prop:=∀ i:Nat,0≤l[i]?.getD 0∧l[i]?.getD 0≤255
theorem pair_eta {α β : Type} (p : α × β):∃ a b,p=(a,b):=⟨p.1,p.2,rfl⟩
def strB (s:ByteArray):List Int:=s.data.toList.map fun b=>(b.toNat:Int)
theorem strB_len (s:ByteArray):(strB s).length=s.size:=by simp [strB]
theorem strB_at (s:ByteArray) (i:Nat) (h:i<s.size):(strB s)[i]?.getD 0=(s[i].toNat:Int):=by
 simp only [strB,List.getElem?_map,Array.getElem?_toList]
 rw [Array.getElem?_eq_getElem (by simpa using h)];rfl
theorem strB_bytes (s:ByteArray):Bytes (strB s):=by
 intro i
 simp only [strB,List.getElem?_map,Array.getElem?_toList]
 cases s.data[i]? with
 |none=>simp
 |some b=>simp;have:=b.toNat_lt;omega
theorem u8_bd (b:UInt8):0≤(b.toNat:Int)∧(b.toNat:Int)≤255:=by have:=b.toNat_lt;omega
def u8s (l:List Int):List Value:=l.map (Value.int .u8)
theorem u8s_append (l r:List Int):u8s (l++r)=u8s l++u8s r:=by simp [u8s]
theorem info_u8:(Tryz.prog.info? 5).map (fun i=>(i.zero,i.size,i.bytes))=some (some (.int .u8 0),1,1):=by kernel_rfl
theorem ownsRow_nth {w:World} {base:Nat} {e:TypeId} {size:Nat} {v:Value} {n m:Nat} {xs ys:List Value} (h:w.ownsRow base e size v n xs) (h1:n=m) (h2:xs=ys):w.ownsRow base e size v m ys:=by
 subst h1 h2;exact h
def KeepsBox (b:Nat) (t:TypeId) (A B:World):Prop:=∀ v,Boxed A b t v→Boxed B b t v
theorem keepsBox_t {b:Nat} {t:TypeId} {A B C:World} (h:KeepsBox b t A B) (k:KeepsBox b t B C):KeepsBox b t A C:=fun v hv=>k v (h v hv)
theorem keepsBox_b {b:Nat} {t:TypeId} (W:World) (l:Nat) (o o':Obj) (hl:W.heap[l]? = some o) (ho:o.isCells=false):KeepsBox b t W (W.putObj l o'):=fun v hv=>
 hv.kept (grownBy_putObj' W l o') (fun e=>by
  cases e
  have h:W.heap[b]? = some (.cells #[v] t (0,0)):=hv
  rw [h] at hl;cases hl;simp [Obj.isCells] at ho)
theorem keepsBox_of {b:Nat} {t:TypeId} {A B:World} {row:Option Nat} (hg:A.grownBy B row) (hne:some b≠row):KeepsBox b t A B:=fun _ hv=>hv.kept hg hne
theorem info_int:(Tryz.prog.info? 3).map (fun i=>(i.zero,i.size,i.bytes))=some (some (.int .i64 0),1,8):=by kernel_rfl
def i64s (l:List Int):List Value:=l.map (Value.int .i64)
theorem take_succ_getD (l:List Int) (k:Nat) (h:k<l.length):l.take (k+1)=l.take k ++ [l[k]?.getD 0]:=by
 rw [List.take_succ_eq_append_getElem h,List.getElem?_eq_getElem h];rfl
theorem getD_ext (l r:List Int) (h:l.length=r.length) (hc:∀ i,i<l.length→l[i]?.getD 0=r[i]?.getD 0):l=r:=by
 apply List.ext_getElem h
 intro i h1 h2
 have:=hc i h1
 rwa [List.getElem?_eq_getElem h1,List.getElem?_eq_getElem h2] at this
theorem owns_built (w:World) (l:List Value) (e:TypeId) (n:Nat) (hn:l.length=n) (hm:n≤maxLen) :
  (w.alloc (.cells l.toArray e)).ownsRow w.heap.size e 1 (.slice (some ⟨w.heap.size,0,none⟩) n n) n l:=
 ⟨by omega,.inr ⟨w.heap.size,n,l.toArray,rfl,Nat.le_refl _,World.alloc_heap_new w _,Nat.le_refl _,hm,by simpa using hn,by simp [←hn]⟩⟩
theorem row_of_owns {w:World} {base:Nat} {e:TypeId} {v:Value} {n:Nat} {k:IntKind} {l:List Int} (h:w.ownsRow base e 1 v n (l.map (Value.int k))) :
  ∃ a cap,v=.slice a n cap∧Row w k a n cap l:=by
 obtain ⟨h1,h2⟩:=h
 have hl:l.length=n:=by simpa using h1
 rcases h2 with ⟨rfl,rfl⟩ | ⟨g,cap,cur,rfl,hb,hg,hn,hc,hs,ht⟩
 ·exact ⟨none,0,rfl,hl,Nat.le_refl _,by unfold maxLen;omega,.inl rfl⟩
 ·refine ⟨_,cap,rfl,hl,hn,hc,.inr ⟨g,0,rfl,fun i hi=>?_⟩⟩
  rw [Nat.mul_one] at ht
  have h1:(l.map (Value.int k))[i]? = some (.int k (l[i]?.getD 0)):=by
   simp [List.getElem?_eq_getElem (show i<l.length by omega)]
  rw [←ht,List.getElem?_take,if_pos hi] at h1
  simp only [World.cell?,hg,Nat.zero_add]
  simpa using h1
theorem row_below {w w':World} {B:Nat} {k:IntKind} {a:Option Addr} {n c:Nat} {l:List Int} (h:Row w k a n c l) (hb:Below B w w') (hB:B=w.heap.size):Row w' k a n c l:=by
 subst hB
 obtain ⟨h1,h2,h3,h4⟩:=h
 refine ⟨h1,h2,h3, ?_⟩
 rcases h4 with h | ⟨b,off,rfl,hc⟩
 ·exact .inl h
 ·refine .inr ⟨b,off,rfl,fun i hi=>?_⟩
  have h0:=hc i hi
  have hbk:b<w.heap.size:=by
   simp only [World.cell?] at h0
   rcases Nat.lt_or_ge b w.heap.size with h | h
   ·exact h
   ·rw [Array.getElem?_eq_none h] at h0;cases h0
  exact (hb.cell (p:=⟨b,off+i,none⟩) hbk).trans h0
set_option maxRecDepth 100000 in
theorem sub_u8 (b off len cap q k:Nat) (hq:q<cap) (hk:q+k≤cap) (w:World) :
  (Instr.slice 26 (.slice (some ⟨b,off,none⟩) len cap) (some (.int .i64 (q:Int))) (some (.int .i64 ((q:Int)+k))) none).run Tryz.prog w=.ok (.slice (some ⟨b,off+q,none⟩) k (cap-q)) w:=by
 have h1:=run_slice_lh (P:=Tryz.prog) (w:=w) 26 (some ⟨b,off,none⟩) len cap Tryz.underlying26 .i64 .i64 (q:Int) ((q:Int)+k) (by omega) (by omega) (by omega)
 have h2:(sizeOf (Tryz.prog.elem 26)).run Tryz.prog w=.ok 1 w:=by kernel_rfl
 rw [h2] at h1
 simp only [Result.andThen,sliced] at h1
 rw [h1,if_neg (by omega)]
 simp only [Option.map,Addr.add_lit,Nat.mul_one]
 congr 2<;>simp<;>omega
theorem conv_bytes (w:World) (s:ByteArray) (hs:s.size≤maxLen):∃ cap w',(convert 9 26 (.string s)).run Tryz.prog w=.ok (.slice (some ⟨w.heap.size,0,none⟩) s.size cap) w' ∧
  Row w' .u8 (some ⟨w.heap.size,0,none⟩) s.size cap (strB s)∧Below w.heap.size w w':=by
 refine ⟨_,_,Lib.run_convert_string_bytes w _ _ _ s Tryz.underlying9 Tryz.underlying26 Tryz.underlying5,⟨strB_len s,grownCap_ge _ _ _ _,grownCap_le_maxLen _ _ _ _ hs,.inr ⟨_,0,rfl,fun i hi=>?_⟩⟩, ?_⟩
 ·rw [Nat.zero_add,Lib.bytesWorld_cell w _ s i hi,strB_at s i hi]
  simp only [List.getD,Array.getElem?_toList]
  rw [Array.getElem?_eq_getElem (by simpa using hi)]
  rfl
 ·have h:=Lib.bytesWorld_at_old w 5 s
  exact ⟨by simp [Lib.bytesWorld,World.freeze,World.alloc,World.drew,-World.alloc_eq,-World.drew_eq],rfl,rfl,by rw [Lib.bytesWorld_size];omega,h⟩
theorem wf_i64 {n:Int} (h:(Lit.int .i64 n).wf=true) : -9223372036854775808≤n∧n≤9223372036854775807:=by simpa [Lit.wf,IntKind.min,IntKind.max,IntKind.signed,IntKind.bits] using h
theorem strOfNums_strB (s:ByteArray):strOfNums (strB s)=s:=by
 apply ByteArray.ext
 apply Array.toList_inj.1
 simp only [strOfNums,strB,List.map_map]
 conv=>rhs;rw [←List.map_id s.data.toList]
 apply List.map_congr_left
 intro x _
 simp
theorem toList_data (s:ByteArray):s.toList=s.data.toList:=by
 have h:∀ (n i:Nat) (r:List UInt8),s.size-i=n→ByteArray.toList.loop s i r=r.reverse++s.data.toList.drop i:=by
  intro n
  induction n with
  |zero=>
   intro i r h
   rw [ByteArray.toList.loop,if_neg (by omega),List.drop_eq_nil_of_le (by simp;omega)];simp
  |succ n ih=>
   intro i r h
   have hi:i<s.data.toList.length:=by simp;omega
   rw [ByteArray.toList.loop,if_pos (by omega),ih _ _ (by omega),List.drop_eq_getElem_cons hi]
   simp only [List.reverse_cons,List.append_assoc,List.cons_append,List.nil_append]
   congr 2
   have:s.get! i=s.data[i]!:=rfl
   rw [this,getElem!_pos s.data i (by simpa using hi)];rfl
 exact (h _ 0 [] rfl)
open Go.RowKit Go.Shelf
inductive PV where
 |mk (k n:Int) (s:ByteArray) (l:List PV)
theorem pv_ind {p:PV→Prop} (h:∀ k n s l,(∀ x∈l,p x)→p (.mk k n s l)):∀ v,p v:=by
 intro v
 refine PV.rec (motive_1:=p) (motive_2:=fun l=>∀ x∈l,p x) (fun k n s l ih=>h k n s l ih) (by simp) (fun x r hx hr y hy=>?_) v
 rcases List.mem_cons.1 hy with rfl | hy
 ·exact hx
 ·exact hr y hy
def I64 (n:Int):Prop:=-9223372036854775808≤n∧n≤9223372036854775807
mutual
def Is (w:World):PV→Value→Prop
 | .mk k n s l,v=>I64 k∧I64 n∧s.size≤maxLen∧∃ a cap,v=.agg #[.int .i64 k,.int .i64 n,.string s,.slice a l.length cap]∧l.length≤cap∧cap≤maxLen ∧
   (l = []∨∃ b off,a=some ⟨b,off,none⟩∧IsL w b l off)
def IsL (w:World) (b:Nat):List PV→Nat→Prop
 | [],_=>True
 |x :: r,off=>(∃ c0 c1 c2 c3,(w.cell? ⟨b,off,none⟩=some c0∧w.cell? ⟨b,off+1,none⟩=some c1∧w.cell? ⟨b,off+2,none⟩=some c2∧w.cell? ⟨b,off+3,none⟩=some c3)∧Is w x (.agg #[c0,c1,c2,c3]))∧IsL w b r (off+4)
end
theorem isL_at {w:World} {b:Nat} : ∀ {l:List PV} {off:Nat},IsL w b l off→∀ i x,l[i]? = some x→∃ c0 c1 c2 c3,(w.cell? ⟨b,off+i*4,none⟩=some c0∧w.cell? ⟨b,off+i*4+1,none⟩=some c1∧w.cell? ⟨b,off+i*4+2,none⟩=some c2∧w.cell? ⟨b,off+i*4+3,none⟩=some c3)∧Is w x (.agg #[c0,c1,c2,c3]):=by
 intro l
 induction l with
 |nil=>intro off _ i x h;simp at h
 |cons y r ih=>
  intro off h i x hx
  unfold IsL at h
  cases i with
  |zero=>simp at hx;subst hx;simpa using h.1
  |succ i=>
   have:=ih h.2 i x (by simpa using hx)
   simpa [Nat.succ_mul,Nat.add_assoc,Nat.add_comm,Nat.add_left_comm] using this
theorem isL_of {w:World} {b:Nat} : ∀ {l:List PV} {off:Nat},(∀ i x,l[i]? = some x→∃ c0 c1 c2 c3,(w.cell? ⟨b,off+i*4,none⟩=some c0∧w.cell? ⟨b,off+i*4+1,none⟩=some c1∧w.cell? ⟨b,off+i*4+2,none⟩=some c2∧w.cell? ⟨b,off+i*4+3,none⟩=some c3)∧Is w x (.agg #[c0,c1,c2,c3]))→IsL w b l off:=by
 intro l
 induction l with
 |nil=>intro off _;unfold IsL;trivial
 |cons y r ih=>
  intro off h
  unfold IsL
  refine ⟨by simpa using h 0 y rfl,ih fun i x hx=>?_⟩
  have:=h (i+1) x (by simpa using hx)
  simpa [Nat.succ_mul,Nat.add_assoc,Nat.add_comm,Nat.add_left_comm] using this
theorem isL_val {w:World} {b off:Nat} {l:List PV} (h:IsL w b l off) (i:Nat) (k n:Int) (s:ByteArray) (r:List PV) (hx:l[i]? = some (.mk k n s r)):∃ a cap,
  (w.cell? ⟨b,off+i*4,none⟩=some (.int .i64 k)∧w.cell? ⟨b,off+i*4+1,none⟩=some (.int .i64 n)∧w.cell? ⟨b,off+i*4+2,none⟩=some (.string s)∧w.cell? ⟨b,off+i*4+3,none⟩=some (.slice a r.length cap)) ∧
  Is w (.mk k n s r) (.agg #[.int .i64 k,.int .i64 n,.string s,.slice a r.length cap]):=by
 obtain ⟨c0,c1,c2,c3,⟨g0,g1,g2,g3⟩,hi⟩:=isL_at h i _ hx
 have h2:=hi
 unfold Is at h2
 obtain ⟨_,_,_,a,cap,e,_⟩:=h2
 simp only [Value.agg.injEq,Array.mk.injEq,List.cons.injEq,and_true] at e
 obtain ⟨rfl,rfl,rfl,rfl⟩:=e
 exact ⟨a,cap,⟨g0,g1,g2,g3⟩,hi⟩
theorem cell_below {w w':World} (hb:Below w.heap.size w w') {p:Addr} {v:Value} (h:w.cell? p=some v):w'.cell? p=some v:=by
 have hbk:p.block<w.heap.size:=by
  simp only [World.cell?] at h
  rcases Nat.lt_or_ge p.block w.heap.size with h' | h'
  ·exact h'
  ·rw [Array.getElem?_eq_none h'] at h;cases h
 exact (hb.cell hbk).trans h
theorem is_below {w w':World} (hb:Below w.heap.size w w'):∀ v x,Is w v x→Is w' v x:=by
 intro v
 induction v using pv_ind with
 |h k n s l ih=>
  intro x h
  unfold Is at h ⊢
  obtain ⟨h1,h2,h3,a,cap,rfl,h4,h5,h6⟩:=h
  refine ⟨h1,h2,h3,a,cap,rfl,h4,h5, ?_⟩
  rcases h6 with h6 | ⟨b,off,rfl,h6⟩
  ·exact .inl h6
  ·refine .inr ⟨b,off,rfl,isL_of fun i y hy=>?_⟩
   obtain ⟨c0,c1,c2,c3,⟨g0,g1,g2,g3⟩,hi⟩:=isL_at h6 i y hy
   exact ⟨c0,c1,c2,c3,⟨cell_below hb g0,cell_below hb g1,cell_below hb g2,cell_below hb g3⟩,ih y (List.mem_of_getElem? hy) _ hi⟩
theorem isL_below {w w':World} (hb:Below w.heap.size w w') {b:Nat} {l:List PV} {off:Nat} (h:IsL w b l off):IsL w' b l off:=
 isL_of fun i y hy=>by
  obtain ⟨c0,c1,c2,c3,⟨g0,g1,g2,g3⟩,hi⟩:=isL_at h i y hy
  exact ⟨c0,c1,c2,c3,⟨cell_below hb g0,cell_below hb g1,cell_below hb g2,cell_below hb g3⟩,is_below hb _ _ hi⟩
mutual
def szV:PV→Nat
 | .mk _ _ _ l=>szL l+1
def szL:List PV→Nat
 | []=>0
 |x :: r=>szV x+szL r
end
mutual
def deepV:PV→Nat
 | .mk k _ _ l=>deepL l+(if k=5 then 1 else 0)
def deepL:List PV→Nat
 | []=>0
 |x :: r=>max (deepV x) (deepL r)
end
theorem deep_le:∀ v,deepV v≤szV v:=by
 intro v
 induction v using pv_ind with
 |h k n s l ih=>
  have:deepL l≤szL l:=by
   clear k n s
   induction l with
   |nil=>simp [deepL,szL]
   |cons x r ih2=>
    have h1:=ih x (by simp)
    have h2:=ih2 fun y hy=>ih y (by simp [hy])
    simp only [deepL,szL]
    omega
  simp only [deepV,szV]
  split<;>omega
theorem szL_append (l r:List PV):szL (l++r)=szL l+szL r:=by
 induction l with
 |nil=>simp [szL]
 |cons x l ih=>simp only [List.cons_append,szL,ih];omega
theorem szL_mem {l:List PV} {x:PV} (h:x∈l):szV x≤szL l:=by
 induction l with
 |nil=>simp at h
 |cons y r ih=>
  simp only [szL]
  rcases List.mem_cons.1 h with rfl | h
  ·omega
  ·have:=ih h;omega
set_option maxRecDepth 100000
open Go.RowKit Go.ChangeShapes Go.WideShapes
theorem cellsOf_val:Tryz.prog.cellsOf 55=4:=by kernel_rfl
theorem cells_four {W:World} {a:Addr} {cs:List Value} (h:W.cells? 0 a 4=some cs):∃ c0 c1 c2 c3,cs = [c0,c1,c2,c3]∧W.cell? (a.add 0)=some c0∧W.cell? (a.add 1)=some c1∧W.cell? (a.add 2)=some c2∧W.cell? (a.add 3)=some c3:=by
 obtain ⟨_,hlen,hc⟩:=World.cells?_some h
 match cs,hlen with
 | [c0,c1,c2,c3],_=>exact ⟨c0,c1,c2,c3,rfl,hc 0 (by omega),hc 1 (by omega),hc 2 (by omega),hc 3 (by omega)⟩
instance:Inhabited PV:=⟨.mk 0 0 ⟨#[]⟩ []⟩
theorem open_value {H:Type} {enc:TypeId × Value→H} {W:World} {spare:Nat→Bool} {held:Bool} (fuel:Nat):∀ (cs:List Value) (x:DataW H × List MemPlace),DataW.trod enc Tryz.prog W 0 spare held fuel 55 cs=some x →
  ∃ c0 c1 c2 c3,cs = [c0,c1,c2,c3]∧∃ t:PV,Is W t (.agg #[c0,c1,c2,c3]):=by
 induction fuel using Nat.strongRecOn with
 | _ fuel ih=>
  intro cs x h
  obtain ⟨xs,n,hfu,_,hlen,hxl,hf⟩:=DataW.trod_struct Tryz.underlying55 h
  rw [cellsOf_val] at hlen
  match cs,hlen with
  | [c0,c1,c2,c3],_=>
  have h0:=hf 0 _ rfl
  have h1:=hf 1 _ rfl
  have h2:=hf 2 _ rfl
  have h3:=hf 3 _ rfl
  have hxl':xs.length=4:=hxl
  match xs,hxl' with
  | [x0,x1,x2,x3],_=>
  replace h0:DataW.trod enc Tryz.prog W 0 spare held n 3 [c0]=some x0:=h0
  replace h1:DataW.trod enc Tryz.prog W 0 spare held n 2 [c1]=some x1:=h1
  replace h2:DataW.trod enc Tryz.prog W 0 spare held n 9 [c2]=some x2:=h2
  replace h3:DataW.trod enc Tryz.prog W 0 spare held n 53 [c3]=some x3:=h3
  obtain ⟨k,e0,_,wk⟩:=DataW.trod_int Tryz.underlying3 h0
  obtain ⟨m,e1,_,wm⟩:=DataW.trod_int Tryz.underlying2 h1
  obtain ⟨s,e2,_,ws⟩:=DataW.trod_string Tryz.underlying9 h2
  simp only [List.cons.injEq,and_true] at e0 e1 e2
  subst e0 e1 e2
  refine ⟨_,_,_,_,rfl, ?_⟩
  rcases DataW.trod_slice Tryz.underlying53 h3 with ⟨e3,_⟩ | ⟨a,len,cap,elems,rest,n',hn',e3,_,_,hl,hm,hlen,hel,_,_⟩
  ·simp only [List.cons.injEq,and_true] at e3
   subst e3
   refine ⟨.mk k m s [], ?_⟩
   unfold Is
   exact ⟨wf_i64 wk,wf_i64 wm,ws,none,0,rfl,Nat.le_refl _,by unfold maxLen;omega,.inl rfl⟩
  ·simp only [List.cons.injEq,and_true] at e3
   subst e3
   have each:∀ i,i<len→∃ t:PV,∃ c0 c1 c2 c3,(W.cell? ((a.add (i*4)).add 0)=some c0∧W.cell? ((a.add (i*4)).add 1)=some c1∧W.cell? ((a.add (i*4)).add 2)=some c2∧W.cell? ((a.add (i*4)).add 3)=some c3)∧Is W t (.agg #[c0,c1,c2,c3]):=fun i hi=>by
    have he:=hel i hi
    rw [cellsOf_val,List.getElem?_eq_getElem (by omega)] at he
    obtain ⟨cs',g1,g2⟩:=Option.bind_eq_some_iff.1 he
    obtain ⟨d0,d1,d2,d3,rfl,q0,q1,q2,q3⟩:=cells_four g1
    obtain ⟨_,_,_,_,e,t,ht⟩:=ih n' (by omega) _ _ g2
    simp only [List.cons.injEq,and_true] at e
    obtain ⟨rfl,rfl,rfl,rfl⟩:=e
    exact ⟨t,d0,d1,d2,d3,⟨q0,q1,q2,q3⟩,ht⟩
   obtain ⟨f,hf⟩:=Go.Deep.choose_lt each
   refine ⟨.mk k m s ((List.range len).map f), ?_⟩
   unfold Is
   refine ⟨wf_i64 wk,wf_i64 wm,ws,some a,cap,by simp,by simpa using hl,hm, ?_⟩
   rcases Nat.eq_zero_or_pos len with hz | hz
   ·subst hz;exact .inl rfl
   ·obtain ⟨b,off,spot⟩:=a
    have hspot:spot=none:=by
     obtain ⟨c0,_,_,_,⟨q0,_⟩,_⟩:=hf 0 hz
     simpa [Addr.add] using World.cell?_spot q0
    subst hspot
    refine .inr ⟨b,off,rfl,isL_of fun i y hy=>?_⟩
    have hi:i<len:=by
     have:=(List.getElem?_eq_some_iff.1 hy).1
     simpa using this
    obtain ⟨c0,c1,c2,c3,⟨q0,q1,q2,q3⟩,ht⟩:=hf i hi
    have hyf:f i=y:=by
     rw [List.getElem?_map,List.getElem?_range hi] at hy
     simpa using hy
    subst hyf
    simp only [Addr.add_lit,Nat.add_zero] at q0 q1 q2 q3
    exact ⟨c0,c1,c2,c3,⟨q0,q1,q2,q3⟩,ht⟩
set_option linter.unusedVariables false
set_option maxRecDepth 100000
open Go.RowKit Go.ChangeShapes Go.WideShapes Go.Shelf
structure SlotM where
 nm:ByteArray
 ty:Int
 rq:Bool
 df:PV
instance:Inhabited SlotM:=⟨⟨⟨#[]⟩,0,false,default⟩⟩
structure StepM where
 kd:Int
 col:Int
 sl:SlotM
 od:List Int
instance:Inhabited StepM:=⟨⟨0,0,default,[]⟩⟩
structure TemplM where
 nm:ByteArray
 slots:List SlotM
 steps:List StepM
def Slot7 (w:World) (s:SlotM) (c0 c1 c2 c3 c4 c5 c6:Value):Prop:=
 s.nm.size≤maxLen∧I64 s.ty∧c0=.string s.nm∧c1=.int .i64 s.ty∧c2=.bool s.rq∧Is w s.df (.agg #[c3,c4,c5,c6])
def IsSlot (w:World) (s:SlotM) (x:Value):Prop:=∃ c0 c1 c2 c3 c4 c5 c6,x=.agg #[c0,c1,c2,c3,c4,c5,c6]∧Slot7 w s c0 c1 c2 c3 c4 c5 c6
def SlotAt (w:World) (b o:Nat) (s:SlotM):Prop:=∃ c0 c1 c2 c3 c4 c5 c6,
 (w.cell? ⟨b,o,none⟩=some c0∧w.cell? ⟨b,o+1,none⟩=some c1∧w.cell? ⟨b,o+2,none⟩=some c2∧w.cell? ⟨b,o+3,none⟩=some c3∧w.cell? ⟨b,o+4,none⟩=some c4∧w.cell? ⟨b,o+5,none⟩=some c5∧w.cell? ⟨b,o+6,none⟩=some c6)∧Slot7 w s c0 c1 c2 c3 c4 c5 c6
def SlotRow (w:World) (a:Option Addr) (cap:Nat) (l:List SlotM):Prop:=l.length≤cap∧cap≤maxLen∧(l = []∨∃ b off,a=some ⟨b,off,none⟩∧∀ i s,l[i]? = some s→SlotAt w b (off+i*7) s)
def StepAt (w:World) (b o:Nat) (t:StepM):Prop:=∃ oa oc,(w.cell? ⟨b,o,none⟩=some (.int .i64 t.kd)∧w.cell? ⟨b,o+1,none⟩=some (.int .i64 t.col)∧w.cell? ⟨b,o+9,none⟩=some (.slice oa t.od.length oc))∧I64 t.kd∧I64 t.col ∧
 SlotAt w b (o+2) t.sl∧Row w .i64 oa t.od.length oc t.od∧∀ x∈t.od,I64 x
def StepRow (w:World) (a:Option Addr) (cap:Nat) (l:List StepM):Prop:=l.length≤cap∧cap≤maxLen∧(l = []∨∃ b off,a=some ⟨b,off,none⟩∧∀ i s,l[i]? = some s→StepAt w b (off+i*10) s)
def IsTempl (w:World) (t:TemplM) (x:Value):Prop:=t.nm.size≤maxLen∧∃ sa sc ta tc,x=.agg #[.string t.nm,.slice sa t.slots.length sc,.slice ta t.steps.length tc]∧SlotRow w sa sc t.slots∧StepRow w ta tc t.steps
theorem slot7_below {w w':World} (hb:Below w.heap.size w w') {s:SlotM} {c0 c1 c2 c3 c4 c5 c6:Value} (h:Slot7 w s c0 c1 c2 c3 c4 c5 c6):Slot7 w' s c0 c1 c2 c3 c4 c5 c6:=
 ⟨h.1,h.2.1,h.2.2.1,h.2.2.2.1,h.2.2.2.2.1,is_below hb _ _ h.2.2.2.2.2⟩
theorem isSlot_below {w w':World} (hb:Below w.heap.size w w') {s:SlotM} {x:Value} (h:IsSlot w s x):IsSlot w' s x:=by
 obtain ⟨c0,c1,c2,c3,c4,c5,c6,rfl,h⟩:=h
 exact ⟨c0,c1,c2,c3,c4,c5,c6,rfl,slot7_below hb h⟩
theorem slotAt_below {w w':World} (hb:Below w.heap.size w w') {b o:Nat} {s:SlotM} (h:SlotAt w b o s):SlotAt w' b o s:=by
 obtain ⟨c0,c1,c2,c3,c4,c5,c6,⟨g0,g1,g2,g3,g4,g5,g6⟩,h⟩:=h
 exact ⟨c0,c1,c2,c3,c4,c5,c6,⟨cell_below hb g0,cell_below hb g1,cell_below hb g2,cell_below hb g3,cell_below hb g4,cell_below hb g5,cell_below hb g6⟩,slot7_below hb h⟩
theorem slotRow_below {w w':World} (hb:Below w.heap.size w w') {a:Option Addr} {cap:Nat} {l:List SlotM} (h:SlotRow w a cap l):SlotRow w' a cap l:=
 ⟨h.1,h.2.1,h.2.2.imp id fun ⟨b,off,ha,hc⟩=>⟨b,off,ha,fun i s hi=>slotAt_below hb (hc i s hi)⟩⟩
theorem stepAt_below {w w':World} (hb:Below w.heap.size w w') {b o:Nat} {t:StepM} (h:StepAt w b o t):StepAt w' b o t:=by
 obtain ⟨oa,oc,⟨g0,g1,g2⟩,h1,h2,h3,h4,h5⟩:=h
 exact ⟨oa,oc,⟨cell_below hb g0,cell_below hb g1,cell_below hb g2⟩,h1,h2,slotAt_below hb h3,row_below h4 hb rfl,h5⟩
theorem stepRow_below {w w':World} (hb:Below w.heap.size w w') {a:Option Addr} {cap:Nat} {l:List StepM} (h:StepRow w a cap l):StepRow w' a cap l:=
 ⟨h.1,h.2.1,h.2.2.imp id fun ⟨b,off,ha,hc⟩=>⟨b,off,ha,fun i s hi=>stepAt_below hb (hc i s hi)⟩⟩
theorem isTempl_below {w w':World} (hb:Below w.heap.size w w') {t:TemplM} {x:Value} (h:IsTempl w t x):IsTempl w' t x:=by
 obtain ⟨h1,sa,sc,ta,tc,rfl,h2,h3⟩:=h
 exact ⟨h1,sa,sc,ta,tc,rfl,slotRow_below hb h2,stepRow_below hb h3⟩
theorem cellsOf_slot:Tryz.prog.cellsOf 57=7:=by kernel_rfl
theorem cellsOf_step:Tryz.prog.cellsOf 60=10:=by kernel_rfl
theorem cellsOf_templ:Tryz.prog.cellsOf 45=3:=by kernel_rfl
theorem list_seven {α : Type} {cs:List α} (h:cs.length=7):∃ c0 c1 c2 c3 c4 c5 c6,cs = [c0,c1,c2,c3,c4,c5,c6]:=by
 match cs,h with
 | [c0,c1,c2,c3,c4,c5,c6],_=>exact ⟨_,_,_,_,_,_,_,rfl⟩
theorem list_ten {α : Type} {cs:List α} (h:cs.length=10):∃ c0 c1 c2 c3 c4 c5 c6 c7 c8 c9,cs = [c0,c1,c2,c3,c4,c5,c6,c7,c8,c9]:=by
 match cs,h with
 | [c0,c1,c2,c3,c4,c5,c6,c7,c8,c9],_=>exact ⟨_,_,_,_,_,_,_,_,_,_,rfl⟩
theorem open_slot {H:Type} {enc:TypeId × Value→H} {W:World} {spare:Nat→Bool} {held:Bool} {fuel:Nat} {cs:List Value} {x:DataW H × List MemPlace} (h:DataW.trod enc Tryz.prog W 0 spare held fuel 57 cs=some x) :
  ∃ c0 c1 c2 c3 c4 c5 c6,cs = [c0,c1,c2,c3,c4,c5,c6]∧∃ s:SlotM,Slot7 W s c0 c1 c2 c3 c4 c5 c6:=by
 obtain ⟨xs,n,hfu,_,hlen,hxl,hf⟩:=DataW.trod_struct Tryz.underlying57 h
 rw [cellsOf_slot] at hlen
 obtain ⟨c0,c1,c2,c3,c4,c5,c6,rfl⟩:=list_seven hlen
 have h0:=hf 0 _ rfl
 have h1:=hf 1 _ rfl
 have h2:=hf 2 _ rfl
 have h3:=hf 3 _ rfl
 have hxl':xs.length=4:=hxl
 match xs,hxl' with
 | [x0,x1,x2,x3],_=>
 replace h0:DataW.trod enc Tryz.prog W 0 spare held n 9 [c0]=some x0:=h0
 replace h1:DataW.trod enc Tryz.prog W 0 spare held n 3 [c1]=some x1:=h1
 replace h2:DataW.trod enc Tryz.prog W 0 spare held n 4 [c2]=some x2:=h2
 replace h3:DataW.trod enc Tryz.prog W 0 spare held n 55 [c3,c4,c5,c6]=some x3:=h3
 obtain ⟨s,e0,_,ws⟩:=DataW.trod_string Tryz.underlying9 h0
 obtain ⟨k,e1,_,wk⟩:=DataW.trod_int Tryz.underlying3 h1
 obtain ⟨b,e2,_⟩:=DataW.trod_bool Tryz.underlying4 h2
 obtain ⟨d0,d1,d2,d3,e3,v,hv⟩:=open_value n _ _ h3
 simp only [List.cons.injEq,and_true] at e0 e1 e2 e3
 obtain ⟨rfl,rfl,rfl,rfl⟩:=e3
 subst e0 e1 e2
 exact ⟨_,_,_,_,_,_,_,rfl,⟨s,k,b,v⟩,ws,wf_i64 wk,rfl,rfl,rfl,hv⟩
theorem addr_flat {W:World} {a:Addr} {v:Value} (h:W.cell? (a.add 0)=some v):∃ b off,a=⟨b,off,none⟩:=by
 obtain ⟨b,off,spot⟩:=a
 have hspot:spot=none:=by simpa [Addr.add] using World.cell?_spot h
 subst hspot
 exact ⟨b,off,rfl⟩
theorem open_ints9 {H:Type} {enc:TypeId × Value→H} {W:World} {spare:Nat→Bool} {held:Bool} {fuel:Nat} {c:Value} {x:DataW H × List MemPlace} (h:DataW.trod enc Tryz.prog W 0 spare held fuel 58 [c]=some x) :
  ∃ oa oc,∃ l:List Int,c=.slice oa l.length oc∧Row W .i64 oa l.length oc l∧∀ y∈l,I64 y:=by
 rcases DataW.trod_slice Tryz.underlying58 h with ⟨e3,_⟩ | ⟨a,len,cap,elems,rest,n',hn',e3,_,_,hl,hm,hlen,hel,_,_⟩
 ·simp only [List.cons.injEq,and_true] at e3
  subst e3
  exact ⟨none,0,[],rfl,⟨rfl,Nat.le_refl _,by unfold maxLen;omega,.inl rfl⟩,by simp⟩
 ·simp only [List.cons.injEq,and_true] at e3
  subst e3
  have hco:Tryz.prog.cellsOf 3=1:=by kernel_rfl
  have each:∀ i,i<len→∃ y:Int,W.cell? (a.add i)=some (.int .i64 y)∧I64 y:=by
   intro i hi
   have he:=hel i hi
   rw [hco,List.getElem?_eq_getElem (by omega),Nat.mul_one] at he
   obtain ⟨cs',g1,g2⟩:=Option.bind_eq_some_iff.1 he
   obtain ⟨k,e1,_,wk⟩:=DataW.trod_int Tryz.underlying3 g2
   obtain ⟨_,hlen',hc⟩:=World.cells?_some g1
   have h0:=hc 0 (by omega)
   rw [e1] at h0
   refine ⟨k, ?_,wf_i64 wk⟩
   have hadd:(a.add i).add 0=a.add i:=by unfold Addr.add;split<;>simp_all
   rw [hadd] at h0
   exact h0
  obtain ⟨f,hf⟩:=Go.Deep.choose_lt each
  refine ⟨some a,cap,(List.range len).map f,by simp,⟨rfl,by simpa using hl,hm, ?_⟩,fun y hy=>?_⟩
  ·rcases Nat.eq_zero_or_pos len with hz | hz
   ·subst hz;exact .inl (by simp)
   ·obtain ⟨b,off,rfl⟩:=addr_flat (hf 0 hz).1
    refine .inr ⟨b,off,rfl,fun i hi=>?_⟩
    rw [List.length_map,List.length_range] at hi
    have:=(hf i hi).1
    simp only [Addr.add_lit] at this
    rw [List.getElem?_map,List.getElem?_range hi]
    exact this
  ·obtain ⟨i,hi,rfl⟩:=List.mem_map.1 hy
   exact (hf i (List.mem_range.1 hi)).2
theorem open_slots {H:Type} {enc:TypeId × Value→H} {W:World} {spare:Nat→Bool} {held:Bool} {fuel:Nat} {c:Value} {x:DataW H × List MemPlace} (h:DataW.trod enc Tryz.prog W 0 spare held fuel 42 [c]=some x) :
  ∃ sa sc,∃ l:List SlotM,c=.slice sa l.length sc∧SlotRow W sa sc l:=by
 rcases DataW.trod_slice Tryz.underlying42 h with ⟨e3,_⟩ | ⟨a,len,cap,elems,rest,n',hn',e3,_,_,hl,hm,hlen,hel,_,_⟩
 ·simp only [List.cons.injEq,and_true] at e3
  subst e3
  exact ⟨none,0,[],rfl,Nat.le_refl _,by unfold maxLen;omega,.inl rfl⟩
 ·simp only [List.cons.injEq,and_true] at e3
  subst e3
  have each:∀ i,i<len→∃ s:SlotM,∃ c0 c1 c2 c3 c4 c5 c6,(∀ j,j<7→W.cell? ((a.add (i*7)).add j) = [c0,c1,c2,c3,c4,c5,c6][j]?)∧Slot7 W s c0 c1 c2 c3 c4 c5 c6:=by
   intro i hi
   have he:=hel i hi
   rw [cellsOf_slot,List.getElem?_eq_getElem (by omega)] at he
   obtain ⟨cs',g1,g2⟩:=Option.bind_eq_some_iff.1 he
   obtain ⟨c0,c1,c2,c3,c4,c5,c6,rfl,s,hs⟩:=open_slot g2
   exact ⟨s,c0,c1,c2,c3,c4,c5,c6,(World.cells?_some g1).2.2,hs⟩
  obtain ⟨f,hf⟩:=Go.Deep.choose_lt each
  refine ⟨some a,cap,(List.range len).map f,by simp,by simpa using hl,hm, ?_⟩
  rcases Nat.eq_zero_or_pos len with hz | hz
  ·subst hz;exact .inl rfl
  ·obtain ⟨b,off,rfl⟩:∃ b off,a=⟨b,off,none⟩:=by
    obtain ⟨c0,_,_,_,_,_,_,hc,_⟩:=hf 0 hz
    have:=hc 0 (by omega)
    rw [Nat.zero_mul] at this
    have h0:(a.add 0).add 0=a.add 0:=by unfold Addr.add;split<;>simp_all
    rw [h0] at this
    exact addr_flat this
   refine .inr ⟨b,off,rfl,fun i s hs=>?_⟩
   have hi:i<len:=by
    have:=(List.getElem?_eq_some_iff.1 hs).1
    simpa using this
   rw [List.getElem?_map,List.getElem?_range hi] at hs
   simp only [Option.map_some,Option.some.injEq] at hs
   subst hs
   obtain ⟨c0,c1,c2,c3,c4,c5,c6,hc,h7⟩:=hf i hi
   simp only [Addr.add_lit] at hc
   exact ⟨c0,c1,c2,c3,c4,c5,c6,⟨hc 0 (by omega),hc 1 (by omega),hc 2 (by omega),hc 3 (by omega),hc 4 (by omega),hc 5 (by omega),hc 6 (by omega)⟩,h7⟩
theorem open_step {H:Type} {enc:TypeId × Value→H} {W:World} {spare:Nat→Bool} {held:Bool} {fuel:Nat} {cs:List Value} {x:DataW H × List MemPlace} (h:DataW.trod enc Tryz.prog W 0 spare held fuel 60 cs=some x) :
  ∃ t:StepM,∃ c2 c3 c4 c5 c6 c7 c8 oa oc,cs = [.int .i64 t.kd,.int .i64 t.col,c2,c3,c4,c5,c6,c7,c8,.slice oa t.od.length oc]∧I64 t.kd∧I64 t.col∧Slot7 W t.sl c2 c3 c4 c5 c6 c7 c8∧Row W .i64 oa t.od.length oc t.od∧∀ x∈t.od,I64 x:=by
 obtain ⟨xs,n,hfu,_,hlen,hxl,hf⟩:=DataW.trod_struct Tryz.underlying60 h
 rw [cellsOf_step] at hlen
 obtain ⟨c0,c1,c2,c3,c4,c5,c6,c7,c8,c9,rfl⟩:=list_ten hlen
 have h0:=hf 0 _ rfl
 have h1:=hf 1 _ rfl
 have h2:=hf 2 _ rfl
 have h3:=hf 3 _ rfl
 have hxl':xs.length=4:=hxl
 match xs,hxl' with
 | [x0,x1,x2,x3],_=>
 replace h0:DataW.trod enc Tryz.prog W 0 spare held n 3 [c0]=some x0:=h0
 replace h1:DataW.trod enc Tryz.prog W 0 spare held n 3 [c1]=some x1:=h1
 replace h2:DataW.trod enc Tryz.prog W 0 spare held n 57 [c2,c3,c4,c5,c6,c7,c8]=some x2:=h2
 replace h3:DataW.trod enc Tryz.prog W 0 spare held n 58 [c9]=some x3:=h3
 obtain ⟨k,e0,_,wk⟩:=DataW.trod_int Tryz.underlying3 h0
 obtain ⟨m,e1,_,wm⟩:=DataW.trod_int Tryz.underlying3 h1
 obtain ⟨d0,d1,d2,d3,d4,d5,d6,e2,s,hs⟩:=open_slot h2
 obtain ⟨oa,oc,l,e3,hr,hl⟩:=open_ints9 h3
 simp only [List.cons.injEq,and_true] at e0 e1 e2
 obtain ⟨rfl,rfl,rfl,rfl,rfl,rfl,rfl⟩:=e2
 subst e0 e1 e3
 exact ⟨⟨k,m,s,l⟩,_,_,_,_,_,_,_,oa,oc,rfl,wf_i64 wk,wf_i64 wm,hs,hr,hl⟩
theorem open_steps {H:Type} {enc:TypeId × Value→H} {W:World} {spare:Nat→Bool} {held:Bool} {fuel:Nat} {c:Value} {x:DataW H × List MemPlace} (h:DataW.trod enc Tryz.prog W 0 spare held fuel 43 [c]=some x) :
  ∃ ta tc,∃ l:List StepM,c=.slice ta l.length tc∧StepRow W ta tc l:=by
 rcases DataW.trod_slice Tryz.underlying43 h with ⟨e3,_⟩ | ⟨a,len,cap,elems,rest,n',hn',e3,_,_,hl,hm,hlen,hel,_,_⟩
 ·simp only [List.cons.injEq,and_true] at e3
  subst e3
  exact ⟨none,0,[],rfl,Nat.le_refl _,by unfold maxLen;omega,.inl rfl⟩
 ·simp only [List.cons.injEq,and_true] at e3
  subst e3
  have each:∀ i,i<len→∃ t:StepM,∃ c2 c3 c4 c5 c6 c7 c8 oa oc,(∀ j,j<10→W.cell? ((a.add (i*10)).add j) = [.int .i64 t.kd,.int .i64 t.col,c2,c3,c4,c5,c6,c7,c8,.slice oa t.od.length oc][j]?)∧I64 t.kd∧I64 t.col∧Slot7 W t.sl c2 c3 c4 c5 c6 c7 c8∧Row W .i64 oa t.od.length oc t.od∧∀ x∈t.od,I64 x:=by
   intro i hi
   have he:=hel i hi
   rw [cellsOf_step,List.getElem?_eq_getElem (by omega)] at he
   obtain ⟨cs',g1,g2⟩:=Option.bind_eq_some_iff.1 he
   obtain ⟨t,c2,c3,c4,c5,c6,c7,c8,oa,oc,rfl,hs⟩:=open_step g2
   exact ⟨t,c2,c3,c4,c5,c6,c7,c8,oa,oc,(World.cells?_some g1).2.2,hs⟩
  obtain ⟨f,hf⟩:=Go.Deep.choose_lt each
  refine ⟨some a,cap,(List.range len).map f,by simp,by simpa using hl,hm, ?_⟩
  rcases Nat.eq_zero_or_pos len with hz | hz
  ·subst hz;exact .inl rfl
  ·obtain ⟨b,off,rfl⟩:∃ b off,a=⟨b,off,none⟩:=by
    obtain ⟨c2,_,_,_,_,_,_,_,_,hc,_⟩:=hf 0 hz
    have:=hc 0 (by omega)
    rw [Nat.zero_mul] at this
    have h0:(a.add 0).add 0=a.add 0:=by unfold Addr.add;split<;>simp_all
    rw [h0] at this
    exact addr_flat this
   refine .inr ⟨b,off,rfl,fun i s hs=>?_⟩
   have hi:i<len:=by
    have:=(List.getElem?_eq_some_iff.1 hs).1
    simpa using this
   rw [List.getElem?_map,List.getElem?_range hi] at hs
   simp only [Option.map_some,Option.some.injEq] at hs
   subst hs
   obtain ⟨c2,c3,c4,c5,c6,c7,c8,oa,oc,hc,hk,hm2,h7,hr,ho⟩:=hf i hi
   simp only [Addr.add_lit] at hc
   exact ⟨oa,oc,⟨hc 0 (by omega),hc 1 (by omega),hc 9 (by omega)⟩,hk,hm2,⟨c2,c3,c4,c5,c6,c7,c8,⟨hc 2 (by omega),hc 3 (by omega),hc 4 (by omega),hc 5 (by omega),hc 6 (by omega),hc 7 (by omega),hc 8 (by omega)⟩,h7⟩,hr,ho⟩
