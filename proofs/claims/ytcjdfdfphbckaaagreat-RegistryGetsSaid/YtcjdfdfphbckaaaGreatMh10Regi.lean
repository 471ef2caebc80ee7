/- Registries: how templates lie in memory one behind the other, opened, and what is said of them. -/
import Derived.Test.YtcjdfdfphbckaaaGreatMh8Regi
import Derived.Test.YtcjdfdfphbckaaaGreatMh2Regi
import Derived.Test.YtcjdfdfphbckaaaGreatMh9Regi
set_option linter.unusedVariables false
set_option linter.unusedSimpArgs false
set_option maxRecDepth 100000
set_option maxHeartbeats 64000000
open Go.Proofs.Tryz
namespace Go.Proofs.YtcjdfdfphbckaaaGreat
open Go.RowKit Go.ChangeShapes Go.WideShapes Go.Shelf
instance:Inhabited TemplM:=⟨⟨⟨#[]⟩,[],[]⟩⟩
def ZCe (w:World) (b o:Nat) (t:TemplM):Prop:=∃ sa sc ta tc,(w.cell? ⟨b,o,none⟩=some (.string t.nm)∧w.cell? ⟨b,o+1,none⟩=some (.slice sa t.slots.length sc)∧w.cell? ⟨b,o+2,none⟩=some (.slice ta t.steps.length tc)) ∧
 t.nm.size≤maxLen∧ZBV w sa sc t.slots∧ZCI w ta tc t.steps
def ZAw (w:World) (a:Option Addr) (cap:Nat) (l:List TemplM):Prop:=l.length≤cap∧cap≤maxLen∧(l = []∨∃ b off,a=some ⟨b,off,none⟩∧∀ i t,l[i]? = some t→ZCe w b (off+i*3) t)
theorem ZGw {w w':World} (hb:Below w.heap.size w w') {b o:Nat} {t:TemplM} (h:ZCe w b o t):ZCe w' b o t:=by
 obtain ⟨sa,sc,ta,tc,⟨g0,g1,g2⟩,h1,h2,h3⟩:=h
 exact ⟨sa,sc,ta,tc,⟨ZAA hb g0,ZAA hb g1,ZAA hb g2⟩,h1,ZAy hb h2,ZBf hb h3⟩
theorem ZBh {w w':World} (hb:Below w.heap.size w w') {a:Option Addr} {cap:Nat} {l:List TemplM} (h:ZAw w a cap l):ZAw w' a cap l:=
 ⟨h.1,h.2.1,h.2.2.imp id fun ⟨b,off,ha,hc⟩=>⟨b,off,ha,fun i s hi=>ZGw hb (hc i s hi)⟩⟩
theorem ZB4 {w:World} {b o:Nat} {t:TemplM} (h:ZCe w b o t):∃ sa sc ta tc,(w.cell? ⟨b,o,none⟩=some (.string t.nm)∧w.cell? ⟨b,o+1,none⟩=some (.slice sa t.slots.length sc)∧w.cell? ⟨b,o+2,none⟩=some (.slice ta t.steps.length tc))∧t.nm.size≤maxLen ∧
  ZA8 w t (.agg #[.string t.nm,.slice sa t.slots.length sc,.slice ta t.steps.length tc]):=by
 obtain ⟨sa,sc,ta,tc,g,h1,h2,h3⟩:=h
 exact ⟨sa,sc,ta,tc,g,h1,h1,sa,sc,ta,tc,rfl,h2,h3⟩
theorem ZCU {w:World} {b o:Nat} {t:StepM} (h:ZDc w b o t):∃ k n tx a len cap oa oc,
  (w.cell? ⟨b,o,none⟩=some (.int .i64 t.kd)∧w.cell? ⟨b,o+1,none⟩=some (.int .i64 t.col)∧w.cell? ⟨b,o+2,none⟩=some (.string t.sl.nm)∧w.cell? ⟨b,o+3,none⟩=some (.int .i64 t.sl.ty)∧w.cell? ⟨b,o+4,none⟩=some (.bool t.sl.rq)∧w.cell? ⟨b,o+5,none⟩=some (.int .i64 k)∧w.cell? ⟨b,o+6,none⟩=some (.int .i64 n)∧w.cell? ⟨b,o+7,none⟩=some (.string tx)∧w.cell? ⟨b,o+8,none⟩=some (.slice a len cap)∧w.cell? ⟨b,o+9,none⟩=some (.slice oa t.od.length oc)) ∧
  ZA3 w t (.agg #[.int .i64 t.kd,.int .i64 t.col,.string t.sl.nm,.int .i64 t.sl.ty,.bool t.sl.rq,.int .i64 k,.int .i64 n,.string tx,.slice a len cap,.slice oa t.od.length oc]):=by
 obtain ⟨oa,oc,⟨g0,g1,g2⟩,h1,h2,h3,h4,h5⟩:=h
 obtain ⟨k,n,tx,a,len,cap,⟨f0,f1,f2,f3,f4,f5,f6⟩,k1,k2,k3⟩:=ZBR h3
 exact ⟨k,n,tx,a,len,cap,oa,oc,⟨g0,g1,f0,f1,f2,f3,f4,f5,f6,g2⟩,_,_,_,_,_,_,_,oa,oc,rfl,h1,h2,⟨k2,k1,rfl,rfl,rfl,k3⟩,h4,h5⟩
namespace Rg
def ixJ (o:Option Nat):Int:=match o with
 |none=>-1
 |some i=>i
theorem ixJ_ge (o:Option Nat):decide (ixJ o≥0)=o.isSome:=by
 cases o with
 |none=>rfl
 |some i=>simp [ixJ]
theorem find_first {α : Type} {p : α→Bool} {l:List α} {q:Nat} {x : α} (hx:l[q]? = some x) (hp:p x=true) (hno:∀ j y,j<q→l[j]? = some y→p y=false):l.findIdx? p=some q:=by
 rw [List.findIdx?_eq_some_iff_getElem]
 obtain ⟨hl,he⟩:=List.getElem?_eq_some_iff.1 hx
 refine ⟨hl,by rw [he];exact hp,fun j hj=>?_⟩
 rw [hno j _ hj (List.getElem?_eq_getElem (by omega))]
 simp
theorem find_never {α : Type} {p : α→Bool} {l:List α} (hno:∀ j y,j<l.length→l[j]? = some y→p y=false):l.findIdx? p=none:=by
 rw [List.findIdx?_eq_none_iff]
 intro x hx
 obtain ⟨i,hi⟩:=List.mem_iff_getElem?.1 hx
 exact hno i x (List.getElem?_eq_some_iff.1 hi).1 hi
def rightT (t:TemplM):Bool:=(Sc.vers t).isSome
def find (l:List TemplM) (nm:ByteArray):Option Nat:=l.findIdx? fun t=>Sc.eqN t.nm nm
def names (l:List TemplM):List (List UInt8):=l.map fun t=>t.nm.data.toList
def right (l:List TemplM):Bool:=decide (l.length≤6) && l.all rightT && decide (names l).Nodup
theorem ZKW {l:List TemplM} {i:Nat} {t:TemplM} (h:l[i]? = some t):(names l)[i]? = some t.nm.data.toList:=by
 unfold names;rw [List.getElem?_map,h];rfl
theorem ZMV {a b:ByteArray} (h:a.data.toList≠b.data.toList):Sc.eqN a b=false:=decide_eq_false h
theorem ZLF (l:List TemplM):(names l).Nodup ↔ ∀ (i:Nat) (t:TemplM),l[i]? = some t→find l t.nm=some i:=by
 constructor
 ·intro hn i t ht
  refine find_first ht ((Sc.eqN_iff _ _).2 rfl) fun j y hj hy=>ZMV fun e=>?_
  have h1:=ZKW ht
  have h2:=ZKW hy
  rw [e] at h2
  have:=Sc.nodup_at hn h1 h2
  omega
 ·intro h
  rw [List.Nodup,List.pairwise_iff_getElem]
  intro i j hi hj hij e
  have hi':i<l.length:=by simpa [names] using hi
  have hj':j<l.length:=by simpa [names] using hj
  have e1:(names l)[i]=l[i].nm.data.toList:=by simp [names]
  have e2:(names l)[j]=l[j].nm.data.toList:=by simp [names]
  have hf:=h j l[j] (List.getElem?_eq_getElem hj')
  have hp:Sc.eqN l[i].nm l[j].nm=true:=decide_eq_true (by rw [←e1,←e2];exact e)
  unfold find at hf
  rw [List.findIdx?_eq_some_iff_getElem] at hf
  obtain ⟨_,_,hno⟩:=hf
  have:=hno i hij
  rw [hp] at this
  simp at this
theorem right_iff (l:List TemplM):right l=true ↔ l.length≤6∧∀ (i:Nat) (t:TemplM),l[i]? = some t→rightT t=true∧find l t.nm=some i:=by
 unfold right
 rw [Bool.and_eq_true,Bool.and_eq_true,decide_eq_true_eq,decide_eq_true_eq,ZLF,List.all_eq_true]
 constructor
 ·rintro ⟨⟨h1,h2⟩,h3⟩
  exact ⟨h1,fun i t ht=>⟨h2 t (List.mem_of_getElem? ht),h3 i t ht⟩⟩
 ·rintro ⟨h1,h2⟩
  refine ⟨⟨h1,fun t ht=>?_⟩,fun i t ht=>(h2 i t ht).2⟩
  obtain ⟨i,hi⟩:=List.mem_iff_getElem?.1 ht
  exact (h2 i t hi).1
end Rg
