/- Registries: how templates lie in memory one behind the other, opened, and what is said of them. -/
import Derived.Test.YtnefldogciemgaaGreatMh9Regi
import Derived.Test.YtnefldogciemgaaGreatMh3Regi
import Derived.Test.YtnefldogciemgaaGreatMh4Regi
import Derived.Test.YtnefldogciemgaaGreatMh10Regi
set_option linter.unusedVariables false
set_option linter.unusedSimpArgs false
set_option maxRecDepth 100000
namespace Go.Proofs.YtnefldogciemgaaGreat
open Go.RowKit Go.ChangeShapes Go.WideShapes Go.Shelf
instance:Inhabited TemplM:=⟨⟨⟨#[]⟩,[],[]⟩⟩
def TemplAt (w:World) (b o:Nat) (t:TemplM):Prop:=∃ sa sc ta tc,(w.cell? ⟨b,o,none⟩=some (.string t.nm)∧w.cell? ⟨b,o+1,none⟩=some (.slice sa t.slots.length sc)∧w.cell? ⟨b,o+2,none⟩=some (.slice ta t.steps.length tc)) ∧
 t.nm.size≤maxLen∧SlotRow w sa sc t.slots∧StepRow w ta tc t.steps
def TemplRow (w:World) (a:Option Addr) (cap:Nat) (l:List TemplM):Prop:=l.length≤cap∧cap≤maxLen∧(l = []∨∃ b off,a=some ⟨b,off,none⟩∧∀ i t,l[i]? = some t→TemplAt w b (off+i*3) t)
theorem templAt_below {w w':World} (hb:Below w.heap.size w w') {b o:Nat} {t:TemplM} (h:TemplAt w b o t):TemplAt w' b o t:=by
 obtain ⟨sa,sc,ta,tc,⟨g0,g1,g2⟩,h1,h2,h3⟩:=h
 exact ⟨sa,sc,ta,tc,⟨cell_below hb g0,cell_below hb g1,cell_below hb g2⟩,h1,slotRow_below hb h2,stepRow_below hb h3⟩
theorem templRow_below {w w':World} (hb:Below w.heap.size w w') {a:Option Addr} {cap:Nat} {l:List TemplM} (h:TemplRow w a cap l):TemplRow w' a cap l:=
 ⟨h.1,h.2.1,h.2.2.imp id fun ⟨b,off,ha,hc⟩=>⟨b,off,ha,fun i s hi=>templAt_below hb (hc i s hi)⟩⟩
theorem templAt_form {w:World} {b o:Nat} {t:TemplM} (h:TemplAt w b o t):∃ sa sc ta tc,(w.cell? ⟨b,o,none⟩=some (.string t.nm)∧w.cell? ⟨b,o+1,none⟩=some (.slice sa t.slots.length sc)∧w.cell? ⟨b,o+2,none⟩=some (.slice ta t.steps.length tc))∧t.nm.size≤maxLen ∧
  IsTempl w t (.agg #[.string t.nm,.slice sa t.slots.length sc,.slice ta t.steps.length tc]):=by
 obtain ⟨sa,sc,ta,tc,g,h1,h2,h3⟩:=h
 exact ⟨sa,sc,ta,tc,g,h1,h1,sa,sc,ta,tc,rfl,h2,h3⟩
theorem stepAt_form {w:World} {b o:Nat} {t:StepM} (h:StepAt w b o t):∃ k n tx a len cap oa oc,
  (w.cell? ⟨b,o,none⟩=some (.int .i64 t.kd)∧w.cell? ⟨b,o+1,none⟩=some (.int .i64 t.col)∧w.cell? ⟨b,o+2,none⟩=some (.string t.sl.nm)∧w.cell? ⟨b,o+3,none⟩=some (.int .i64 t.sl.ty)∧w.cell? ⟨b,o+4,none⟩=some (.bool t.sl.rq)∧w.cell? ⟨b,o+5,none⟩=some (.int .i64 k)∧w.cell? ⟨b,o+6,none⟩=some (.int .i64 n)∧w.cell? ⟨b,o+7,none⟩=some (.string tx)∧w.cell? ⟨b,o+8,none⟩=some (.slice a len cap)∧w.cell? ⟨b,o+9,none⟩=some (.slice oa t.od.length oc)) ∧
  IsStep w t (.agg #[.int .i64 t.kd,.int .i64 t.col,.string t.sl.nm,.int .i64 t.sl.ty,.bool t.sl.rq,.int .i64 k,.int .i64 n,.string tx,.slice a len cap,.slice oa t.od.length oc]):=by
 obtain ⟨oa,oc,⟨g0,g1,g2⟩,h1,h2,h3,h4,h5⟩:=h
 obtain ⟨k,n,tx,a,len,cap,⟨f0,f1,f2,f3,f4,f5,f6⟩,k1,k2,k3⟩:=slotAt_form h3
 exact ⟨k,n,tx,a,len,cap,oa,oc,⟨g0,g1,f0,f1,f2,f3,f4,f5,f6,g2⟩,_,_,_,_,_,_,_,oa,oc,rfl,h1,h2,⟨k2,k1,rfl,rfl,rfl,k3⟩,h4,h5⟩
theorem list_three9 {α : Type} {cs:List α} (h:cs.length=3):∃ c0 c1 c2,cs = [c0,c1,c2]:=by
 match cs,h with
 | [c0,c1,c2],_=>exact ⟨_,_,_,rfl⟩
theorem open_templ {H:Type} {enc:TypeId × Value→H} {W:World} {spare:Nat→Bool} {held:Bool} {fuel:Nat} {cs:List Value} {x:DataW H × List MemPlace} (hf:DataW.trod enc Tryz.prog W 0 spare held fuel 45 cs=some x) :
  ∃ t:TemplM,∃ sa sc ta tc,cs = [.string t.nm,.slice sa t.slots.length sc,.slice ta t.steps.length tc]∧t.nm.size≤maxLen∧SlotRow W sa sc t.slots∧StepRow W ta tc t.steps:=by
 obtain ⟨xs,n,hfu,_,hlen,hxl,hf⟩:=DataW.trod_struct Tryz.underlying45 hf
 rw [cellsOf_templ] at hlen
 obtain ⟨c0,c1,c2,rfl⟩:=list_three9 hlen
 have h0:=hf 0 _ rfl
 have h1:=hf 1 _ rfl
 have h2:=hf 2 _ rfl
 have hxl':xs.length=3:=hxl
 match xs,hxl' with
 | [x0,x1,x2],_=>
 replace h0:DataW.trod enc Tryz.prog W 0 spare held n 9 [c0]=some x0:=h0
 replace h1:DataW.trod enc Tryz.prog W 0 spare held n 42 [c1]=some x1:=h1
 replace h2:DataW.trod enc Tryz.prog W 0 spare held n 43 [c2]=some x2:=h2
 obtain ⟨s,e0,_,ws⟩:=DataW.trod_string Tryz.underlying9 h0
 obtain ⟨sa,sc,ls,e1,hs⟩:=open_slots h1
 obtain ⟨ta,tc,lt,e2,ht⟩:=open_steps h2
 simp only [List.cons.injEq,and_true] at e0
 subst e0 e1 e2
 exact ⟨⟨s,ls,lt⟩,sa,sc,ta,tc,rfl,ws,hs,ht⟩
theorem open_templs {H:Type} {enc:TypeId × Value→H} {W:World} {spare:Nat→Bool} {held:Bool} {fuel:Nat} {a0:Option Addr} {len0 cap0:Nat} {x:DataW H × List MemPlace} (h3:DataW.trod enc Tryz.prog W 0 spare held fuel 22 (Value.slice a0 len0 cap0).cells.toList=some x) :
  ∃ l:List TemplM,l.length=len0∧TemplRow W a0 cap0 l:=by
 rcases DataW.trod_slice Tryz.underlying22 h3 with ⟨e3,_⟩ | ⟨a,len,cap,elems,rest,n',hn',e3,hx3,_,hl,hm,hlen,hel,_,_⟩
 ·simp [Value.cells] at e3
  obtain ⟨rfl,rfl,rfl⟩:=e3
  exact ⟨[],rfl,Nat.le_refl _,by unfold maxLen;omega,.inl rfl⟩
 ·simp [Value.cells] at e3
  obtain ⟨rfl,rfl,rfl⟩:=e3
  have each:∀ i,i<len0→∃ t:TemplM,∃ sa sc ta tc,(∀ j,j<3→W.cell? ((a.add (i*3)).add j) = [Value.string t.nm,.slice sa t.slots.length sc,.slice ta t.steps.length tc][j]?)∧t.nm.size≤maxLen∧SlotRow W sa sc t.slots∧StepRow W ta tc t.steps:=by
   intro i hi
   have he:=hel i hi
   rw [cellsOf_templ,List.getElem?_eq_getElem (by omega)] at he
   obtain ⟨cs',g1,g2⟩:=Option.bind_eq_some_iff.1 he
   obtain ⟨t,sa,sc,ta,tc,rfl,hs⟩:=open_templ g2
   exact ⟨t,sa,sc,ta,tc,(World.cells?_some g1).2.2,hs⟩
  obtain ⟨f,hf⟩:=Go.Deep.choose_lt each
  refine ⟨(List.range len0).map f,by simp,by simpa using hl,hm, ?_⟩
  rcases Nat.eq_zero_or_pos len0 with hz | hz
  ·subst hz;exact .inl rfl
  ·obtain ⟨b,off,rfl⟩:∃ b off,a=⟨b,off,none⟩:=by
    obtain ⟨sa,sc,ta,tc,hc,_⟩:=hf 0 hz
    have:=hc 0 (by omega)
    rw [Nat.zero_mul] at this
    have h0:(a.add 0).add 0=a.add 0:=by unfold Addr.add;split<;>simp_all
    rw [h0] at this
    exact addr_flat this
   refine .inr ⟨b,off,rfl,fun i s hs=>?_⟩
   have hi:i<len0:=by
    have:=(List.getElem?_eq_some_iff.1 hs).1
    simpa using this
   rw [List.getElem?_map,List.getElem?_range hi] at hs
   simp only [Option.map_some,Option.some.injEq] at hs
   subst hs
   obtain ⟨sa,sc,ta,tc,hc,h7⟩:=hf i hi
   simp only [Addr.add_lit] at hc
   exact ⟨sa,sc,ta,tc,⟨hc 0 (by omega),hc 1 (by omega),hc 2 (by omega)⟩,h7⟩
namespace Rg
def ixJ (o:Option Nat):Int:=match o with
 |none=>-1
 |some i=>i
theorem ixJ_ge (o:Option Nat):decide (ixJ o≥0)=o.isSome:=by
 cases o with
 |none=>rfl
 |some i=>simp [ixJ]
theorem find_first {α : Type} {p : α→Bool} {l:List α} {q:Nat} {x : α} (hx:l[q]? = some x) (hp:p x=true) (hno:∀ j y,j<q→l[j]? = some y→p y=false):l.findIdx? p=some q:=by
 rw [List.findIdx?_eq_some_iff_getElem]
 obtain ⟨hl,he⟩:=List.getElem?_eq_some_iff.1 hx
 refine ⟨hl,by rw [he];exact hp,fun j hj=>?_⟩
 rw [hno j _ hj (List.getElem?_eq_getElem (by omega))]
 simp
theorem find_never {α : Type} {p : α→Bool} {l:List α} (hno:∀ j y,j<l.length→l[j]? = some y→p y=false):l.findIdx? p=none:=by
 rw [List.findIdx?_eq_none_iff]
 intro x hx
 obtain ⟨i,hi⟩:=List.mem_iff_getElem?.1 hx
 exact hno i x (List.getElem?_eq_some_iff.1 hi).1 hi
def rightT (t:TemplM):Bool:=(Sc.vers t).isSome
def find (l:List TemplM) (nm:ByteArray):Option Nat:=l.findIdx? fun t=>Sc.eqN t.nm nm
def names (l:List TemplM):List (List UInt8):=l.map fun t=>t.nm.data.toList
def right (l:List TemplM):Bool:=decide (l.length≤6) && l.all rightT && decide (names l).Nodup
theorem names_at {l:List TemplM} {i:Nat} {t:TemplM} (h:l[i]? = some t):(names l)[i]? = some t.nm.data.toList:=by
 unfold names;rw [List.getElem?_map,h];rfl
theorem eqN_false {a b:ByteArray} (h:a.data.toList≠b.data.toList):Sc.eqN a b=false:=decide_eq_false h
theorem nodup_find (l:List TemplM):(names l).Nodup ↔ ∀ (i:Nat) (t:TemplM),l[i]? = some t→find l t.nm=some i:=by
 constructor
 ·intro hn i t ht
  refine find_first ht ((Sc.eqN_iff _ _).2 rfl) fun j y hj hy=>eqN_false fun e=>?_
  have h1:=names_at ht
  have h2:=names_at hy
  rw [e] at h2
  have:=Sc.nodup_at hn h1 h2
  omega
 ·intro h
  rw [List.Nodup,List.pairwise_iff_getElem]
  intro i j hi hj hij e
  have hi':i<l.length:=by simpa [names] using hi
  have hj':j<l.length:=by simpa [names] using hj
  have e1:(names l)[i]=l[i].nm.data.toList:=by simp [names]
  have e2:(names l)[j]=l[j].nm.data.toList:=by simp [names]
  have hf:=h j l[j] (List.getElem?_eq_getElem hj')
  have hp:Sc.eqN l[i].nm l[j].nm=true:=decide_eq_true (by rw [←e1,←e2];exact e)
  unfold find at hf
  rw [List.findIdx?_eq_some_iff_getElem] at hf
  obtain ⟨_,_,hno⟩:=hf
  have:=hno i hij
  rw [hp] at this
  simp at this
theorem right_iff (l:List TemplM):right l=true ↔ l.length≤6∧∀ (i:Nat) (t:TemplM),l[i]? = some t→rightT t=true∧find l t.nm=some i:=by
 unfold right
 rw [Bool.and_eq_true,Bool.and_eq_true,decide_eq_true_eq,decide_eq_true_eq,nodup_find,List.all_eq_true]
 constructor
 ·rintro ⟨⟨h1,h2⟩,h3⟩
  exact ⟨h1,fun i t ht=>⟨h2 t (List.mem_of_getElem? ht),h3 i t ht⟩⟩
 ·rintro ⟨h1,h2⟩
  refine ⟨⟨h1,fun t ht=>?_⟩,fun i t ht=>(h2 i t ht).2⟩
  obtain ⟨i,hi⟩:=List.mem_iff_getElem?.1 ht
  exact (h2 i t hi).1
end Rg
