/- The program's schema: the versions that an iterator hands on, up to the first step that can't be done (no walk). -/
import Derived.Test.YtcjdfdfphbckaaaGreatMh30Regi
import Derived.Test.YtcjdfdfphbckaaaGreatMh0Regi
set_option linter.unusedVariables false
set_option linter.unusedSimpArgs false
set_option maxRecDepth 100000
set_option maxHeartbeats 64000000
open Go.Proofs.Tryz
namespace Go.Proofs.YtcjdfdfphbckaaaGreat
open Go.RowKit Go.Shelf
namespace Sc
def runFrom:Ver→List StepM→List Ver
 |x,[]=>[x]
 |x,s :: r=>match step x s with
  |none=>[x]
  |some y=>x :: runFrom y r
theorem runFrom_some:∀ (l:List StepM) (x:Ver) (L:List Ver),run x l=some L→runFrom x l=L:=by
 intro l
 induction l with
 |nil=>intro x L h;simp only [run,Option.some.injEq] at h;exact h
 |cons s r ih=>
  intro x L h
  simp only [run] at h
  simp only [runFrom]
  cases hs:step x s with
  |none=>rw [hs] at h;cases h
  |some y=>
   rw [hs] at h
   simp only at h ⊢
   cases hr:run y r with
   |none=>rw [hr] at h;cases h
   |some M=>
    rw [hr] at h
    simp only [Option.map_some,Option.some.injEq] at h
    subst h
    rw [ih y M hr]
theorem runFrom_none:∀ (l:List StepM) (x:Ver),run x l=none→(runFrom x l).length<l.length+1:=by
 intro l
 induction l with
 |nil=>intro x h;simp [run] at h
 |cons s r ih=>
  intro x h
  simp only [run] at h
  simp only [runFrom]
  cases hs:step x s with
  |none=>simp
  |some y=>
   rw [hs] at h
   simp only at h ⊢
   cases hr:run y r with
   |none=>have:=ih y hr;simp only [List.length_cons];omega
   |some M=>rw [hr] at h;cases h
end Sc
def handed (t:TemplM):List Sc.Ver:=match firstV t with
 |none=>[]
 |some x=>Sc.runFrom x t.steps
theorem ZNA (t:TemplM):Sc.vers t=match firstV t with
 |none=>none
 |some x=>Sc.run x t.steps:=by
 unfold Sc.vers firstV
 split
 ·rfl
 ·rfl
theorem ZJs {t:TemplM} {L:List Sc.Ver} (h:Sc.vers t=some L):handed t=L:=by
 rw [ZNA] at h
 unfold handed
 cases hf:firstV t with
 |none=>rw [hf] at h;cases h
 |some x=>rw [hf] at h;exact Sc.runFrom_some _ _ _ h
theorem ZJt {t:TemplM} (h:Sc.vers t=none):(handed t).length≠t.steps.length+1:=by
 rw [ZNA] at h
 unfold handed
 cases hf:firstV t with
 |none=>simp
 |some x=>rw [hf] at h;have:=Sc.runFrom_none _ _ h;simp only;omega
theorem ZFo {t:TemplM} {x:Sc.Ver} (h:firstV t=some x):t.steps.length≤8∧Sc.VerOk 8 x:=by
 unfold firstV at h
 split at h
 ·rename_i hc
  simp only [Option.some.injEq] at h
  subst h
  exact ⟨hc.2.2.2.1,Sc.first_ok hc.2.2.2.2 hc.2.2.1⟩
 ·cases h
open Go.RowKit Go.Shelf
def ZFA (B:Nat) (A C:World):Prop:=∃ l o o',B≤l∧A.heap[l]? = some o∧o.isCells=false∧o.isWalk=false∧C=A.putObj l o'
theorem ZFB {B:Nat} {A C:World} (h:ZFA B A C):∃ l,B≤l∧A.grownBy C (some l)∧∃ o,A.heap[l]? = some o∧o.isCells=false:=by
 obtain ⟨l,o,o',hB,hl,hc,_,rfl⟩:=h
 exact ⟨l,hB,grownBy_putObj' A l o',o,hl,hc⟩
theorem ZBi {β : Type} {B:Nat} {I : β→World→Prop} (hI:OwnFrom B I) {s : β} {A C:World} (h:I s A) (ht:ZFA B A C):I s C:=by
 obtain ⟨l,o,o',hB,hl,hc,_,rfl⟩:=ht
 exact hI.putObj o' h hB hl hc
def turnPost {α : Type} (B:Nat) (Kp:World→World→Prop) (I:List α→World→Prop) (Ix:Code→List α→World→Prop) (xs:List α) (W:World):Exit→Act→World→Prop
 | .normal,_,W'=>KeepsFrom B W W'∧Kp W W'∧I xs W'
 | .ret,_,W'=>KeepsFrom B W W'∧Ix .ret xs W'
 | .exit id,_,W'=>KeepsFrom B W W'∧Ix (.exit id) xs W'
 | .goto t,_,W'=>KeepsFrom B W W'∧Ix (.goto t) xs W'
 | _,_,_=>False
variable {F:Fence} {n:Nat} {P:Program}
theorem ZOb {c:Code} {Q:Exit→Act→World→Prop} {a a':Act} {w:World} (h:a=a') (k:c.wpIn F n P Q a' w):c.wpIn F n P Q a w:=h ▸ k
open Go.RowKit Go.Shelf
def ZOc {β α : Type} (F:Fence) (n:Nat) (P:Program) (g:Nat) (lb:Array Value) (encs : α→Array Value) (Kp : β→World→World→World→World→Prop) (Tn : β→World→World→Prop) (S Sp:List α→World→Prop) (N:Nat) (w:World):Prop:=
 ∀ (l:Nat) (J Jx : β→List α→World→Prop) (W:World),Below w.heap.size w W→(∀ b s A C,J b s A→Tn b A C→J b s C)→(∀ b s A C,Jx b s A→Tn b A C→Jx b s C) →
  (∀ b pre x W0 W1,J b pre W0→Tn b W0 W1→pre.length<N→YieldAt F (n-1) P l (encs x) W1 fun e W'=>
   (e=.returned (.bool true)∧J b (pre ++ [x]) W'∧Kp b W0 W1 W1 W')∨(e=.returned (.bool false)∧Jx b (pre ++ [x]) W')) →
  (∀ b,J b [] W) →
  CallsIn F n P g (#[.func (.yield l) #[] #[]]++lb) W fun e W'=>(∃ v,e=.returned v)∧∃ b,((∃ xs,S xs W'∧J b xs W')∨(∃ pre,Sp pre W'∧Jx b pre W'))
variable {F:Fence} {n:Nat} {P:Program}
theorem ZEA {β α : Type} {g:Operand} {ps:Array Tmp} {assign body:Code} {Q:Exit→Act→World→Prop} {a:Act} {w:World}
  (hro:F.round=none) (h1:1≤n) {gf:Nat} {lb:Array Value} (hg:a.eval g=.func (.func gf) #[] lb) (hFg:F.fn gf) (eg:∀ args w,(callFunc gf args).run P w=.ok (.enter gf args) w)
  {encs : α→Array Value} {Kp : β→World→World→World→World→Prop} {Tn : β→World→World→Prop} {S Sp:List α→World→Prop} {N:Nat} (hseq:ZOc F (n-1) P gf lb encs Kp Tn S Sp N w)
  (hTn:∀ (b : β) (A C:World) (k:Nat) (o:Obj),w.heap.size≤k→Tn b A C→A.heap[k]? = some o→o.isCells=false→C.heap[k]? = some o)
  (hKt:∀ (b : β) (W0 W1 A C D:World),Kp b W0 W1 A C→Kp b W0 W1 C D→Kp b W0 W1 A D) (hKb:∀ (b : β) (W0 W1 A C:World),ZFA w.heap.size A C→Kp b W0 W1 A C) (hps:∀ x,(encs x).size=ps.size)
  (I : β→List α→World→Prop) (Ix : β→Code→List α→World→Prop) (hI:∀ b,OwnFrom w.heap.size (I b)) (hIx:∀ b c,OwnFrom w.heap.size (Ix b c))
  (hIT:∀ (b : β) (s:List α) (A C:World),I b s A→Tn b A C→I b s C) (hIxT:∀ (b : β) (c:Code) (s:List α) (A C:World),Ix b c s A→Tn b A C→Ix b c s C)
  (hS:OwnFrom w.heap.size S) (hSp:OwnFrom w.heap.size Sp) (h0:∀ b,I b [] w)
  (hround:∀ (l:Nat) (b : β) (pre:List α) (x : α) (W0 W:World),I b pre W0→Tn b W0 W→I b pre W→pre.length<N →
   assign.wpIn (F.inRound l) (n-1-1) P (Exit.then (fun a₁ W₁ => KeepsFrom w.heap.size W W₁∧Kp b W0 W W W₁∧∀ W₂,ZFA w.heap.size W₁ W₂ →
     body.wpIn (F.inRound l) (n-1-1) P (turnPost w.heap.size (Kp b W0 W) (I b) (Ix b) (pre ++ [x]) W₂) a₁ W₂) (fun _ _ _=>False))
    { tmps:=(ps.zip (encs x)).foldl (fun t (p,v)=>t.setIfInBounds p v) a.tmps,defers:=[] } W)
  (hdone:∀ (D:Nat) (b : β) (xs:List α) (W:World),w.heap.size≤D→S xs W→I b xs W→W.heap[D]? = some (.deferred (some []))→Q .normal { a with defers:={ target:=.collected D,args:=#[] } :: a.defers } W)
  (hstop:∀ (D:Nat) (b : β) (c:Code) (pre:List α) (W:World),w.heap.size≤D→Sp pre W→Ix b c pre W→W.heap[D]? = some (.deferred (some []))→c.wpIn F n P Q { a with defers:={ target:=.collected D,args:=#[] } :: a.defers } W) :
  (Code.rangeFunc g ps assign body).wpIn F n P Q a w:=by
 obtain ⟨D,hD⟩:∃ D,D=w.heap.size:=⟨_,rfl⟩
 refine wpIn_rangeFunc fun fn hfn=>?_
 rw [hro]
 obtain ⟨rec,hrec⟩:∃ rec:LoopState→Option Code→Obj,rec=fun st j=>.loop { state:=st,pending:=j,fn,tmps:=a.tmps,params:=ps,assign,body,defers:=D }:=⟨_,rfl⟩
 have hnc:∀ st j,(rec st j).isCells=false:=fun st j=>by rw [hrec];rfl
 have hnw:∀ st j,(rec st j).isWalk=false:=fun st j=>by rw [hrec];rfl
 obtain ⟨Lies,hLies⟩:∃ Lies:LoopState→Option Code→World→Prop,Lies=fun st j W=>W.heap[D+1]? = some (rec st j)∧W.heap[D]? = some (.deferred (some [])):=⟨_,rfl⟩
 have lies:∀ {st j W},Lies st j W ↔ W.heap[D+1]? = some (rec st j)∧W.heap[D]? = some (.deferred (some [])):=fun {st j W} => by rw [hLies]
 have liesPut:∀ {st j W} st' j',Lies st j W→Lies st' j' (W.putObj (D+1) (rec st' j')):=fun {st j W} st' j' h=>by
  rw [lies] at h ⊢
  exact ⟨World.putObj_heap_same (ZZZ h.1).1,(World.putObj_heap_other (by omega)).trans h.2⟩
 have turn:∀ {st j W} st' j',Lies st j W→ZFA w.heap.size W (W.putObj (D+1) (rec st' j')):=fun {st j W} st' j' h=>⟨D+1,rec st j,_,by omega,(lies.1 h).1,hnc _ _,hnw _ _,rfl⟩
 have liesKeep:∀ {st j A C},KeepsFrom w.heap.size A C→Lies st j A→Lies st j C:=fun {st j A C} k h=>by
  rw [lies] at h ⊢
  exact ⟨k.same _ _ (by omega) h.1 (hnc _ _),k.same _ _ (by omega) h.2 rfl⟩
 have liesTurn:∀ {b st j A C},Tn b A C→Lies st j A→Lies st j C:=fun {b st j A C} k h=>by
  rw [lies] at h ⊢
  exact ⟨hTn _ _ _ _ _ (by omega) k h.1 (hnc _ _),hTn _ _ _ _ _ (by omega) k h.2 rfl⟩
 have start:=run_enterLoop_outer (P:=P) (w:=w) fn a.tmps ps assign body
 rw [←hD] at start
 obtain ⟨W0,hW0⟩:∃ W0,W0=(w.alloc (.deferred (some []))).alloc (rec .ready none):=⟨_,rfl⟩
 have lies0:Lies .ready none W0:=by
  rw [lies,hW0]
  refine ⟨?_,(Below.heap_alloc _ _ _ (by simp;omega)).trans (by rw [hD];exact World.alloc_heap_new w _)⟩
  have:=World.alloc_heap_new (w.alloc (.deferred (some []))) (rec .ready none)
  rwa [World.size_alloc,←hD] at this
 have below0:Below w.heap.size w W0:=hW0 ▸ ((Below.refl _ w).alloc (Nat.le_refl _) _).alloc (by simp) _
 have i0:∀ b,I b [] W0:=fun b=>hW0 ▸ (hI b).alloc _ ((hI b).alloc _ (h0 b))
 refine ⟨D+1,[{ target:=.collected D,args:=#[] }],W0,{ target:=.fn (.func gf) lb,args:=#[.func (.yield (D+1)) #[] #[]] },W0,gf,#[.func (.yield (D+1)) #[] #[]]++lb,W0,
  by rw [start,hW0,hrec],by simp only [resolve,hg];simp [go_sem],fun f' hf'=>?_,by simp [invoke,go_sem,eg],fun _=>h1, ?_⟩
 ·simp [Target.leads] at hf';subst hf';exact hFg
 refine (hseq (D+1) (fun b s W=>I b s W∧Lies .ready none W) (fun b s W=>∃ c,Ix b c s W∧Lies .done (some c) W) W0 below0
  (fun b s A C h k=>⟨hIT _ _ _ _ h.1 k,liesTurn k h.2⟩) (fun b s A C ⟨c,h⟩ k=>⟨c,hIxT _ _ _ _ _ h.1 k,liesTurn k h.2⟩) ?_ (fun b=>⟨i0 b,lies0⟩)).mono ?_
 ·rintro b pre x Wp W ⟨hi0,hL0⟩ hTp hlen
  have hi:=hIT _ _ _ _ hi0 hTp
  have hL:=liesTurn hTp hL0
  have hl1:=(lies.1 hL).1
  have hy:=run_yield (P:=P) (args:=encs x) (by rw [hrec] at hl1;exact hl1) (hps x)
  refine ⟨fn,_,assign,body,hy,roundIn_of_wpIn hfn (wpIn_mono (hround (D+1) b pre x Wp W hi0 hTp hi hlen) ?_)⟩
  rintro e a₁ W₁ hp
  cases e with
  |normal=>
   obtain ⟨k1,kp1,hb⟩:=hp
   have hL1:=liesKeep k1 hL
   have hb1:=run_beginRound (P:=P) (w:=W₁) (by have:=(lies.1 hL1).1;rw [hrec] at this;exact this) rfl
   have e2:(W₁.putObj (D+1) (rec .busy none))=W₁.putObj (D+1) (.loop { state:=.busy,pending:=none,fn,tmps:=a.tmps,params:=ps,assign,body,defers:=D }):=by rw [hrec]
   refine ⟨_,hb1, ?_⟩
   rw [←e2]
   have hL2:=liesPut .busy none hL1
   have t2:=turn .busy none hL1
   refine wpIn_mono (hb _ t2) ?_
   have fin:∀ (jump:Option Code) (W3:World),KeepsFrom w.heap.size (W₁.putObj (D+1) (rec .busy none)) W3→Lies .busy none W3 ∧
     (Instr.endRound (D+1) jump).run P W3=.ok (.bool jump.isNone) (W3.putObj (D+1) (rec (if jump.isNone then .ready else .done) jump)):=fun jump W3 k=>by
    have hL3:=liesKeep k hL2
    refine ⟨hL3, ?_⟩
    have h3:=(lies.1 hL3).1
    rw [hrec] at h3
    have:=run_endRound (P:=P) jump h3
    rw [hrec];exact this
   have left:∀ (jump:Code) (W3:World),KeepsFrom w.heap.size (W₁.putObj (D+1) (rec .busy none)) W3→Ix b jump (pre ++ [x]) W3→∃ v w',(Instr.endRound (D+1) (some jump)).run P W3=.ok v w' ∧
     ((Ending.returned v=.returned (.bool true)∧(I b (pre ++ [x]) w'∧Lies .ready none w')∧Kp b Wp W W w')∨(Ending.returned v=.returned (.bool false)∧∃ c,Ix b c (pre ++ [x]) w'∧Lies .done (some c) w')):=fun jump W3 k h=>by
    obtain ⟨hL3,hr⟩:=fin (some jump) W3 k
    exact ⟨_,_,hr,.inr ⟨rfl,jump,ZBi (hIx _ _) h (turn _ _ hL3),liesPut _ _ hL3⟩⟩
   rintro e a3 W3 hp
   cases e with
   |normal=>
    obtain ⟨k3,kp3,hi3⟩:=hp
    obtain ⟨hL3,hr⟩:=fin none W3 k3
    exact ⟨_,_,hr,.inl ⟨rfl,⟨ZBi (hI b) hi3 (turn _ _ hL3),liesPut _ _ hL3⟩,hKt _ _ _ _ _ _ (hKt _ _ _ _ _ _ (hKt _ _ _ _ _ _ kp1 (hKb _ _ _ _ _ t2)) kp3) (hKb _ _ _ _ _ (turn _ _ hL3))⟩⟩
   |ret=>exact left .ret W3 hp.1 hp.2
   |exit id=>exact left (.exit id) W3 hp.1 hp.2
   |goto t=>exact left (.goto t) W3 hp.1 hp.2
   |panic ch=>exact hp.elim
   |outgrown=>exact hp.elim
  |ret=>exact hp.elim
  |exit id=>exact hp.elim
  |goto t=>exact hp.elim
  |panic ch=>exact hp.elim
  |outgrown=>exact hp.elim
 ·have stop:∀ {st j W},Lies st j W→st≠.busy→∃ W4,(Instr.endLoop (D+1)).run P W=.ok j W4∧ZFA w.heap.size W W4∧W4.heap[D]? = some (.deferred (some [])):=fun {st j W} hL hb=>by
   have h3:=(lies.1 hL).1
   rw [hrec] at h3
   exact ⟨_,run_endLoop h3 hb,⟨D+1,_,_,by omega,h3,rfl,rfl,rfl⟩,(World.putObj_heap_other (by omega)).trans (lies.1 hL).2⟩
  rintro e W2 ⟨⟨v,rfl⟩,b,⟨xs,hs,hi,hL⟩ | ⟨pre,hs,c,hi,hL⟩⟩
  ·obtain ⟨W4,hr,ht,hd⟩:=stop hL (by simp)
   exact ⟨none,W4,hr,hdone D b xs W4 (by omega) (ZBi hS hs ht) (ZBi (hI b) hi ht) hd⟩
  ·obtain ⟨W4,hr,ht,hd⟩:=stop hL (by simp)
   exact ⟨some c,W4,hr,hstop D b c pre W4 (by omega) (ZBi hSp hs ht) (ZBi (hIx _ _) hi ht) hd⟩
