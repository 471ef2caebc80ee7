/- The program's schema: turned (a version with a column's slot turned). -/
import Derived.Test.YtcjdfdfphbckaaaGreatMh16Regi
import Derived.Test.YtcjdfdfphbckaaaGreatMh2Regi
import Derived.Deep.RegionHeld3
import Derived.Deep.RegionWith
import Derived.BigQuiet
set_option linter.unusedVariables false
set_option linter.unusedSimpArgs false
set_option maxRecDepth 100000
set_option maxHeartbeats 64000000
open Go.Proofs.Tryz
namespace Go.Proofs.YtcjdfdfphbckaaaGreat
open Go.RowKit Go.Shelf
theorem ZH0 {B n j:Nat} {W:World} {e:TypeId} {size:Nat} {a:Option Addr} {cap n':Nat} {xs:List Value} {u:Value} (h:W.ownsRow B e size (.slice a n' cap) n xs) (hj:xs[j]? = some u):∃ g,a=some ⟨g,0,none⟩∧W.cell? ⟨g,j,none⟩=some u∧W.frozen? ⟨g,j,none⟩=false∧B≤g:=by
 obtain ⟨hl,h2⟩:=h
 rcases h2 with ⟨_,rfl⟩ | ⟨g,cap',cur,e1,hb,hh,hn,hm,hs,ht⟩
 ·have:=(List.getElem?_eq_some_iff.1 hj).1
  omega
 ·cases e1
  have hu:cur[j]? = some u:=by
   rw [←ht,List.getElem?_take] at hj
   split at hj
   ·rwa [Array.getElem?_toList] at hj
   ·cases hj
  refine ⟨g,rfl, ?_, ?_,hb⟩
  ·simp [World.cell?,hh,hu]
  ·simp [World.frozen?,hh]
theorem ZKZ {B n j:Nat} {W:World} {e:TypeId} {size:Nat} {v c:Value} {xs:List Value} {g:Nat} (h:W.ownsRow B e size v n xs) (hg:v.ownBlock=some g) (hj:j<n*size):(W.setCell ⟨g,j,none⟩ c).ownsRow B e size v n (xs.set j c):=by
 obtain ⟨hl,h2⟩:=h
 rcases h2 with ⟨rfl,_⟩ | ⟨g',cap,cur,rfl,hb,hh,hn,hm,hs,ht⟩
 ·simp [Value.ownBlock] at hg
 ·obtain rfl:g'=g:=by simpa [Value.ownBlock] using hg
  refine ⟨by simpa using hl,.inr ⟨g',cap,cur.setIfInBounds j c,rfl,hb, ?_,hn,hm,by simpa using hs, ?_⟩⟩
  ·obtain ⟨hlt,hk⟩:=ZZZ hh
   show (W.heap.modify g' _)[g']? = _
   rw [Array.getElem?_eq_getElem (by rw [Array.size_modify];exact hlt),Array.getElem_modify_self,hk]
   rfl
  ·rw [←ht]
   simp [Array.toList_setIfInBounds,List.take_set]
theorem keepT {b1:Nat} {c0 c1:Value} {W0 W W':World} (h:(W.cell? ⟨b1,0,none⟩=some c0∧W.cell? ⟨b1,1,none⟩=some c1)∧Below W0.heap.size W0 W) (hb:Below W.heap.size W W'):(W'.cell? ⟨b1,0,none⟩=some c0∧W'.cell? ⟨b1,1,none⟩=some c1)∧Below W0.heap.size W0 W':=
 ⟨⟨ZAA hb h.1.1,ZAA hb h.1.2⟩,h.2.trans (hb.mono h.2.size)⟩
theorem ZDy {W:World} {b i:Nat} {v:Value} (h:W.cell? ⟨b,i,none⟩=some v):b<W.heap.size:=by
 rcases Nat.lt_or_ge b W.heap.size with h2 | h2
 ·exact h2
 ·simp [World.cell?,Array.getElem?_eq_none h2] at h
theorem keepTs {b1 g:Nat} {c0 c1 u v:Value} {W0 W:World} (h:(W.cell? ⟨b1,0,none⟩=some c0∧W.cell? ⟨b1,1,none⟩=some c1)∧Below W0.heap.size W0 W) (hlt:b1<W0.heap.size) (hg:W0.heap.size≤g):(((W.setCell ⟨g,0,none⟩ u).setCell ⟨g,1,none⟩ v).cell? ⟨b1,0,none⟩=some c0∧((W.setCell ⟨g,0,none⟩ u).setCell ⟨g,1,none⟩ v).cell? ⟨b1,1,none⟩=some c1)∧Below W0.heap.size W0 ((W.setCell ⟨g,0,none⟩ u).setCell ⟨g,1,none⟩ v):=by
 have hne:b1≠g:=by omega
 have k1:=ZAJ W g 0 u
 have k2:=ZAJ (W.setCell ⟨g,0,none⟩ u) g 1 v
 have hB:=ZAE (ZAE h.2 k1 (fun b e=>by cases e;omega) h.2.size) k2 (fun b e=>by cases e;omega) (Nat.le_trans h.2.size k1.size)
 have e:∀ i,((W.setCell ⟨g,0,none⟩ u).setCell ⟨g,1,none⟩ v).cell? ⟨b1,i,none⟩=W.cell? ⟨b1,i,none⟩:=fun i=>by
  have hlt':b1<W.heap.size:=Nat.lt_of_lt_of_le hlt h.2.size
  have e1:=k1.block b1 hlt' (fun e=>by cases e;omega)
  have e2:=k2.block b1 (Nat.lt_of_lt_of_le hlt' k1.size) (fun e=>by cases e;omega)
  simp only [World.cell?,e2,e1]
 exact ⟨⟨(e 0).trans h.1.1,(e 1).trans h.1.2⟩,hB⟩
theorem ZMk {W w9:World} {u0 u1:Value} {t:TypeId} (h:Below (W.drew.alloc (.cells #[u0,u1] t)).heap.size (W.drew.alloc (.cells #[u0,u1] t)) w9):w9.cell? ⟨W.heap.size,0,none⟩=some u0∧w9.cell? ⟨W.heap.size,1,none⟩=some u1∧w9.frozen? ⟨W.heap.size,0,none⟩=false∧w9.frozen? ⟨W.heap.size,1,none⟩=false:=
 ZAD ((h.block W.heap.size (by simp)).trans (ZAQ W.drew _))
theorem keepTB {b1:Nat} {c0 c1:Value} {W0 W:World} (h:(W.cell? ⟨b1,0,none⟩=some c0∧W.cell? ⟨b1,1,none⟩=some c1)∧Below W0.heap.size W0 W):Below W0.heap.size W0 W:=h.2
theorem ZAU {W:World} {g i:Nat} {u v:Value} {b o k:Nat} (h:W.cell? ⟨b,o,none⟩=some v) (hne:b≠g):((W.setCell ⟨g,i,none⟩ u).drewN k).cell? ⟨b,o,none⟩=some v:=by
 have e:=(ZAJ W g i u).block b (ZDy h) (fun e=>by cases e;exact hne rfl)
 have:(W.setCell ⟨g,i,none⟩ u).cell? ⟨b,o,none⟩=some v:=by
  simp only [World.cell?,e]
  exact h
 exact this
theorem ZGM {B:Nat} {w W:World} {g i:Nat} {u:Value} (h:Below B w W) (hg:B≤g) (hs:B≤W.heap.size) (k:Nat):Below B w ((W.setCell ⟨g,i,none⟩ u).drewN k):=
 ZAh (ZAE h (ZAJ W g i u) (fun b e=>by cases e;exact hg) hs) k
theorem ZH1 {W:World} {g i b:Nat} {u:Value} {o:Obj} (h:W.heap[b]? = some o) (hne:b≠g) (k:Nat):((W.setCell ⟨g,i,none⟩ u).drewN k).heap[b]? = some o:=
 ((ZAJ W g i u).block b (ZZZ h).1 (fun e=>by cases e;exact hne rfl)).trans h
def ZPF (w W0 W:World) (g:Nat) (T:TypeId) (a:Option Addr) (n c:Nat) (s1:Value) (cs:List Value) (b2:Nat):Prop:=
 W.heap[g]? = some (.cells #[.slice a n c,s1] T (0,0))∧W.ownsRow W0.heap.size 51 7 (.slice a n c) n cs∧W0.heap.size≤g∧(∀ b,Value.ownBlock (.slice a n c)=some b→b≠g)∧Below W0.heap.size W0 W
theorem turnA {w W0 w9:World} {T:TypeId} {a:Option Addr} {n c:Nat} {s1:Value} {cs:List Value} {b2:Nat} (hb:Below W0.drew.heap.size W0.drew w9) (ho:w9.ownsRow W0.drew.heap.size 51 7 (.slice a n c) n cs) :
  ZPF w W0 (w9.alloc (.cells #[.slice a n c,s1] T)) w9.heap.size T a n c s1 cs b2:=by
 have hz:W0.heap.size≤w9.heap.size:=hb.size
 have hk:w9.grownBy (w9.alloc (.cells #[.slice a n c,s1] T)) none:=World.grownBy_alloc _ _ none
 refine ⟨World.alloc_heap_new w9 _,ZAN ho hk (fun b e=>by cases e),hz,fun b e he=>?_, ?_⟩
 ·have:=(ZAV ho b e).1;omega
 ·exact (((Below.refl W0.heap.size W0).drew).trans hb).alloc hz _
theorem turnB {w W0 w9:World} {T:TypeId} {a:Option Addr} {n c:Nat} {s1 z0 z1:Value} {cs:List Value} {b2:Nat} (hb:Below (W0.drew.alloc (.cells #[z0,z1] T)).heap.size (W0.drew.alloc (.cells #[z0,z1] T)) w9) (ho:w9.ownsRow (W0.drew.alloc (.cells #[z0,z1] T)).heap.size 51 7 (.slice a n c) n cs) :
  ZPF w W0 ((w9.setCell ⟨W0.heap.size,0,none⟩ (.slice a n c)).setCell ⟨W0.heap.size,1,none⟩ s1) W0.heap.size T a n c s1 cs b2:=by
 have hsz:(W0.drew.alloc (.cells #[z0,z1] T)).heap.size=W0.heap.size+1:=World.size_alloc _ _
 have h0:w9.heap[W0.heap.size]? = some (.cells #[z0,z1] T (0,0)):=(hb.block W0.heap.size (by omega)).trans (ZAQ W0.drew _)
 have hk1:=ZAJ w9 W0.heap.size 0 (.slice a n c)
 have hk2:=ZAJ (w9.setCell ⟨W0.heap.size,0,none⟩ (.slice a n c)) W0.heap.size 1 s1
 have q:=fun b e=>(ZAV ho b e).2
 have hB9:Below W0.heap.size W0 w9:=(((Below.refl W0.heap.size W0).drew).alloc (Nat.le_refl _) (.cells #[z0,z1] T)).trans (hb.mono (by omega))
 refine ⟨ZB2 h0 _ _,ZAH (ZAN (ZAN ho hk1 (fun b e1 e2=>by have:=q b e2;cases e1;omega)) hk2 (fun b e1 e2=>by have:=q b e2;cases e1;omega)) (by omega),Nat.le_refl _,fun b e he=>by have:=q b e;omega, ?_⟩
 exact ZAE (ZAE hB9 hk1 (fun b e=>by cases e;omega) hB9.size) hk2 (fun b e=>by cases e;omega) (Nat.le_trans hB9.size hk1.size)
theorem ZGN (x:Sc.Ver) (sa:Option Addr) (sc:Nat) (ca:Option Addr) (cc:Nat) (col c j:Nat) (old u:Value) (gf bn:Nat) (cs:List Value) (w0 w:World) (hok:Sc.VerOk 16 x) (hsc:ZBw w0 x.slots cs) (hcs:ZB7 w 7 sa x.slots.length cs) (hr:Row w .i64 ca x.cols.length cc (x.cols.map Int.ofNat)) (hc:x.cols[col]? = some c) (hj:j<7)
  (hou:cs[c*7+j]? = some old)
  (eg:∀ args w,(callFunc gf args).run Tryz.prog w=.ok (.enter gf args) w)
  (hF:∀ W g,Below w.heap.size w W→W.cell? ⟨g,c*7+j,none⟩=some old→W.frozen? ⟨g,c*7+j,none⟩=false→Calls Tryz.prog gf #[.pointer (some ⟨g,c*7,none⟩),.pointer (some ⟨bn,0,none⟩)] W fun e w'=>(∃ v,e=.returned v)∧∃ k,w'=(W.setCell ⟨g,c*7+j,none⟩ u).drewN k) :
  Calls Tryz.prog 159 #[.agg #[.slice sa x.slots.length sc,.slice ca x.cols.length cc],.int .i64 (col:Int),.func (.func gf) #[] #[.pointer (some ⟨bn,0,none⟩)]] w fun e w'=>
   (∃ a cp,e=.returned (.agg #[.slice a x.slots.length cp,.slice ca x.cols.length cc])∧w'.ownsRow w.heap.size 51 7 (.slice a x.slots.length cp) x.slots.length (cs.set (c*7+j) u))∧Below w.heap.size w w':=by
 obtain ⟨slots,cols⟩:=x
 have hn16:=hok.num
 have hcl:=hok.lt c (List.mem_of_getElem? hc)
 have hcm:=(List.getElem?_eq_some_iff.1 hc).1
 simp only at hsc hcs hr hc hn16 hcl hcm ⊢
 have HCJ:=hou
 have hCl:=fun W (hb:Below w.heap.size w W)=>ZLS sa slots.length sc cs W (ZAs hcs hb) hsc.2.1 (by omega)
 obtain ⟨cb,co,rfl,hcol⟩:∃ b off,ca=some ⟨b,off,none⟩∧∀ i,i<cols.length→w.cell? ⟨b,off+i,none⟩=some (.int .i64 ((cols.map Int.ofNat)[i]?.getD 0)):=by
  rcases hr.2.2.2 with h | h
  ·omega
  ·exact h
 have hcc:=hr.2.1
 have hcc2:=hr.2.2.1
 unfold maxLen at hcc2
 have e1:=hcol col hcm
 rw [List.getElem?_map,hc] at e1
 simp only [Option.map_some,Option.getD_some,Int.ofNat_eq_natCast] at e1
 obtain ⟨n,hn⟩:∃ n,slots.length=n:=⟨_,rfl⟩
 obtain ⟨m,hm⟩:∃ m,cols.length=m:=⟨_,rfl⟩
 rw [hn] at hCl hn16 hcl ⊢
 rw [hm] at hcm hcc ⊢
 have hCJ:=ZZY HCJ
 clear hsc HCJ hou hok hr hcs hn hm hc hcol
 have hd1:decide ((col:Int)<(m:Int))=true:=by simp;omega
 have hd2:decide ((c:Int)<(n:Int))=true:=by simp;omega
 go_enter func159,ntmps159
 go_wp2
 obtain ⟨W0,hW0⟩:∃ W0,(w.alloc (.cells #[.slice sa n sc,.slice (some ⟨cb,co,none⟩) m cc] 146)).alloc (.cells #[.slice none 0 0,.slice none 0 0] 146)=W0:=⟨_,rfl⟩
 obtain ⟨b1,hb1⟩:∃ b,w.heap.size=b:=⟨_,rfl⟩
 obtain ⟨b2,hb2⟩:∃ b,b1+1=b:=⟨_,rfl⟩
 have hbase:(W0.cell? ⟨b1,0,none⟩=some (.slice sa n sc)∧W0.cell? ⟨b1,1,none⟩=some (.slice (some ⟨cb,co,none⟩) m cc))∧Below W0.heap.size W0 W0:=by
  rw [←hW0,←hb1]
  refine ⟨⟨?_, ?_⟩,Below.refl _ _⟩<;>simp
 have hres:W0.heap[b2]? = some (.cells #[.slice none 0 0,.slice none 0 0] 146 (0,0)):=by
  rw [←hW0,←hb2,←hb1,←World.size_alloc w (.cells #[.slice sa n sc,.slice (some ⟨cb,co,none⟩) m cc] 146)]
  exact ZAQ _ _
 have hB0:Below w.heap.size w W0:=hW0 ▸ ((Below.refl _ w).alloc (Nat.le_refl _) _).alloc (by simp) _
 rw [hW0,hb1,hb2]
 have hwb:w.heap.size=b1∧b1+1=b2:=⟨hb1,hb2⟩
 have hlt:b1<W0.heap.size:=ZDy hbase.1.1
 have hb2lt:b2<W0.heap.size:=(ZZZ hres).1
 have HWB:=ZZY hwb
 clear hW0 hb1 hwb hb2
 have H:=ZZY hCl
 have HF:=ZZY hF
 clear hCl hF
 go_region_held3 (fun W=>(W.cell? ⟨b1,0,none⟩=some (.slice sa n sc)∧W.cell? ⟨b1,1,none⟩=some (.slice (some ⟨cb,co,none⟩) m cc))∧Below W0.heap.size W0 W) (first | assumption | exact keepT (by assumption) hb9 | exact keepT hbase (ZAI _) | exact keepT (by assumption) ((Below.refl _ _).alloc (Nat.le_refl _) _) | exact keepT (by assumption) (ZAh (Below.refl _ _) _) | exact keepT (keepT (keepT hbase (ZAI _)) hb9) ((Below.refl _ _).alloc (Nat.le_refl _) _) | exact keepTs (keepT (keepT (keepT hbase (ZAI _)) ((Below.refl _ _).alloc (Nat.le_refl _) _)) hb9) hlt (Nat.le_refl _)) (first
  |(go_at_call 166;(with_reducible refine (H.out _ (hB0.trans (Below.mono (keepTB (by assumption)) hB0.size))).mono ?_);rintro e w9 ⟨v9,rfl,ho9,hb9⟩;obtain ⟨a9,c9,rfl⟩:=ZAe ho9;first | (have f9:=ZMk hb9;obtain ⟨f0,f1,f2,f3⟩:=f9) | skip))
 ·have hHeld:=trivial
  have hT:=turnA (w:=w) (T:=146) (s1:=.slice (some ⟨cb,co,none⟩) m cc) (b2:=b2) hb9 ho9
  obtain ⟨Wf,hWf0⟩:∃ Wf,w9.alloc (.cells #[.slice a9 n c9,.slice (some ⟨cb,co,none⟩) m cc] 146)=Wf:=⟨_,rfl⟩
  obtain ⟨g,hg0⟩:∃ g,w9.heap.size=g:=⟨_,rfl⟩
  rw [hWf0,hg0] at hT
  rw [hWf0,hg0]
  clear hWf0 hg0
  obtain ⟨hT1,hT2,hT3,hT4,hT5⟩:=hT
  obtain ⟨gA,rfl,hold,hfro,hgA⟩:=ZH0 hT2 hCJ.out
  have hWf:Below w.heap.size w Wf:=hB0.trans (hT5.mono hB0.size)
  have hne1:gA≠g:=hT4 gA rfl
  have hcb:=ZDy e1
  have hcb2:cb≠gA:=by have:=hB0.size;omega
  obtain ⟨t0,t1,_,_⟩:=ZAD hT1
  have e2:=ZAA hWf e1
  have hH2:Wf.heap[b2]? = some (.cells #[.slice none 0 0,.slice none 0 0] 146 (0,0)):=(hT5.block b2 hb2lt).trans hres
  have hb2g:b2≠g:=by omega
  have hb2A:b2≠gA:=by omega
  have x1f:=ZAA hT5 hbase.1.2
  have hb1A:b1≠gA:=by omega
  have hold':Wf.drew.cell? ⟨gA,c*7+j,none⟩=some old:=hold
  have hfro':Wf.drew.frozen? ⟨gA,c*7+j,none⟩=false:=hfro
  have ho2:=ZKZ (c:=u) hT2 (show Value.ownBlock (.slice (some ⟨gA,0,none⟩) n c9)=some gA from rfl) (show c*7+j<n*7 by omega)
  clear hb9 ho9 hT2 hT4 hHeld
  go_wp2
  go_region_held3 (fun W=>((W.cell? ⟨g,0,none⟩=some (.slice (some ⟨gA,0,none⟩) n c9)∧W.cell? ⟨b1,1,none⟩=some (.slice (some ⟨cb,co,none⟩) m cc))∧W.cell? ⟨cb,co+col,none⟩=some (.int .i64 (c:Int)))) (first | assumption | exact ⟨⟨t0,x1f⟩,e2⟩ | exact ⟨⟨ZAU t0 (Ne.symm hne1),ZAU x1f hb1A⟩,ZAU e2 hcb2⟩) (first
   |(go_at_fn gf;(with_reducible refine (HF.out _ gA (hWf.drew) hold' hfro').mono ?_);rintro e w8 ⟨⟨v8,rfl⟩,k8,rfl⟩))
  have p0:=ZAU (u:=u) (i:=c*7+j) (k:=1+k8) t0 (Ne.symm hne1)
  have p1:=ZAU (u:=u) (i:=c*7+j) (k:=1+k8) t1 (Ne.symm hne1)
  have hH3:=ZH1 (u:=u) (i:=c*7+j) hH2 hb2A (1+k8)
  have hBf:=ZGM (u:=u) (i:=c*7+j) (g:=gA) hWf (by have:=hB0.size;omega) hWf.size (1+k8)
  replace ho2:((Wf.setCell ⟨gA,c*7+j,none⟩ u).drewN (1+k8)).ownsRow W0.heap.size 51 7 (.slice (some ⟨gA,0,none⟩) n c9) n (cs.set (c*7+j) u):=ho2
  obtain ⟨V8,hV8⟩:∃ V8,(Wf.setCell ⟨gA,c*7+j,none⟩ u).drewN (1+k8)=V8:=⟨_,rfl⟩
  rw [hV8] at p0 p1 hH3 hBf ho2
  rw [hV8]
  clear hV8 hold hfro hold' hfro' t0 t1 e1 e2 x1f hT1 hT5 hH2 hbase hres
  obtain ⟨r0,r1,f0,f1⟩:=ZAD hH3
  go_wp2
  have hk1:=ZAJ V8 b2 0 (.slice (some ⟨gA,0,none⟩) n c9)
  have hk2:=ZAJ (V8.setCell ⟨b2,0,none⟩ (.slice (some ⟨gA,0,none⟩) n c9)) b2 1 (.slice (some ⟨cb,co,none⟩) m cc)
  have hrw:=ZB2 hH3 (.slice (some ⟨gA,0,none⟩) n c9) (.slice (some ⟨cb,co,none⟩) m cc)
  have hwb:=HWB.out
  have hwz:=hB0.size
  have ho3:=ZAN (ZAN ho2 hk1 (fun b e1 e2=>by have:=ZAV ho2 b e2;cases e1;omega)) hk2 (fun b e1 e2=>by have:=ZAV ho2 b e2;cases e1;omega)
  have hBF:=ZAE (ZAE hBf hk1 (fun b e=>by cases e;omega) hBf.size) hk2 (fun b e=>by cases e;omega) (Nat.le_trans hBf.size hk1.size)
  refine bodyPost_ret (results_cell_row Tryz.results159 _ _ b2 _ _ _ _ rfl hrw Tryz.underlying146 rfl (by kernel_rfl)) rfl ?_
  exact ⟨⟨_,_,rfl,ZAH ho3 (by omega)⟩,hBF⟩
 ·have hHeld:=trivial
  have hT:=turnB (w:=w) (T:=146) (s1:=.slice (some ⟨cb,co,none⟩) m cc) (b2:=b2) hb9 ho9
  obtain ⟨Wf,hWf0⟩:∃ Wf,(w9.setCell ⟨W0.heap.size,0,none⟩ (.slice a9 n c9)).setCell ⟨W0.heap.size,1,none⟩ (.slice (some ⟨cb,co,none⟩) m cc)=Wf:=⟨_,rfl⟩
  obtain ⟨g,hg0⟩:∃ g,W0.heap.size=g:=⟨_,rfl⟩
  rw [hWf0,hg0] at hT
  rw [hWf0,hg0]
  clear hWf0 hg0
  obtain ⟨hT1,hT2,hT3,hT4,hT5⟩:=hT
  obtain ⟨gA,rfl,hold,hfro,hgA⟩:=ZH0 hT2 hCJ.out
  have hWf:Below w.heap.size w Wf:=hB0.trans (hT5.mono hB0.size)
  have hne1:gA≠g:=hT4 gA rfl
  have hcb:=ZDy e1
  have hcb2:cb≠gA:=by have:=hB0.size;omega
  obtain ⟨t0,t1,_,_⟩:=ZAD hT1
  have e2:=ZAA hWf e1
  have hH2:Wf.heap[b2]? = some (.cells #[.slice none 0 0,.slice none 0 0] 146 (0,0)):=(hT5.block b2 hb2lt).trans hres
  have hb2g:b2≠g:=by omega
  have hb2A:b2≠gA:=by omega
  have x1f:=ZAA hT5 hbase.1.2
  have hb1A:b1≠gA:=by omega
  have hold':Wf.drew.cell? ⟨gA,c*7+j,none⟩=some old:=hold
  have hfro':Wf.drew.frozen? ⟨gA,c*7+j,none⟩=false:=hfro
  have ho2:=ZKZ (c:=u) hT2 (show Value.ownBlock (.slice (some ⟨gA,0,none⟩) n c9)=some gA from rfl) (show c*7+j<n*7 by omega)
  clear hb9 ho9 hT2 hT4 hHeld
  go_wp2
  go_region_held3 (fun W=>((W.cell? ⟨g,0,none⟩=some (.slice (some ⟨gA,0,none⟩) n c9)∧W.cell? ⟨b1,1,none⟩=some (.slice (some ⟨cb,co,none⟩) m cc))∧W.cell? ⟨cb,co+col,none⟩=some (.int .i64 (c:Int)))) (first | assumption | exact ⟨⟨t0,x1f⟩,e2⟩ | exact ⟨⟨ZAU t0 (Ne.symm hne1),ZAU x1f hb1A⟩,ZAU e2 hcb2⟩) (first
   |(go_at_fn gf;(with_reducible refine (HF.out _ gA (hWf.drew) hold' hfro').mono ?_);rintro e w8 ⟨⟨v8,rfl⟩,k8,rfl⟩))
  have p0:=ZAU (u:=u) (i:=c*7+j) (k:=1+k8) t0 (Ne.symm hne1)
  have p1:=ZAU (u:=u) (i:=c*7+j) (k:=1+k8) t1 (Ne.symm hne1)
  have hH3:=ZH1 (u:=u) (i:=c*7+j) hH2 hb2A (1+k8)
  have hBf:=ZGM (u:=u) (i:=c*7+j) (g:=gA) hWf (by have:=hB0.size;omega) hWf.size (1+k8)
  replace ho2:((Wf.setCell ⟨gA,c*7+j,none⟩ u).drewN (1+k8)).ownsRow W0.heap.size 51 7 (.slice (some ⟨gA,0,none⟩) n c9) n (cs.set (c*7+j) u):=ho2
  obtain ⟨V8,hV8⟩:∃ V8,(Wf.setCell ⟨gA,c*7+j,none⟩ u).drewN (1+k8)=V8:=⟨_,rfl⟩
  rw [hV8] at p0 p1 hH3 hBf ho2
  rw [hV8]
  clear hV8 hold hfro hold' hfro' t0 t1 e1 e2 x1f hT1 hT5 hH2 hbase hres
  obtain ⟨r0,r1,f0,f1⟩:=ZAD hH3
  go_wp2
  have hk1:=ZAJ V8 b2 0 (.slice (some ⟨gA,0,none⟩) n c9)
  have hk2:=ZAJ (V8.setCell ⟨b2,0,none⟩ (.slice (some ⟨gA,0,none⟩) n c9)) b2 1 (.slice (some ⟨cb,co,none⟩) m cc)
  have hrw:=ZB2 hH3 (.slice (some ⟨gA,0,none⟩) n c9) (.slice (some ⟨cb,co,none⟩) m cc)
  have hwb:=HWB.out
  have hwz:=hB0.size
  have ho3:=ZAN (ZAN ho2 hk1 (fun b e1 e2=>by have:=ZAV ho2 b e2;cases e1;omega)) hk2 (fun b e1 e2=>by have:=ZAV ho2 b e2;cases e1;omega)
  have hBF:=ZAE (ZAE hBf hk1 (fun b e=>by cases e;omega) hBf.size) hk2 (fun b e=>by cases e;omega) (Nat.le_trans hBf.size hk1.size)
  refine bodyPost_ret (results_cell_row Tryz.results159 _ _ b2 _ _ _ _ rfl hrw Tryz.underlying146 rfl (by kernel_rfl)) rfl ?_
  exact ⟨⟨_,_,rfl,ZAH ho3 (by omega)⟩,hBF⟩
theorem ZJV (W:World) (g o bn:Nat) (nm:ByteArray) (old:Value) (h0:W.cell? ⟨bn,0,none⟩=some (.string nm)) (h1:W.cell? ⟨g,o,none⟩=some old) (h2:W.frozen? ⟨g,o,none⟩=false) :
  Calls Tryz.prog 160 #[.pointer (some ⟨g,o,none⟩),.pointer (some ⟨bn,0,none⟩)] W fun e w'=>(∃ v,e=.returned v)∧∃ k,w'=(W.setCell ⟨g,o,none⟩ (.string nm)).drewN k:=by
 go_enter func160,ntmps160
 go_wp2
 refine bodyPost_end (results_none rfl _ _ _) rfl ?_
 exact ⟨⟨_,rfl⟩,0,rfl⟩
theorem ZLT (W:World) (g o bn:Nat) (a b d:Int) (hd:bits .or .i64 a b=d) (h0:W.cell? ⟨bn,0,none⟩=some (.int .i64 b)) (h1:W.cell? ⟨g,o+1,none⟩=some (.int .i64 a)) (h2:W.frozen? ⟨g,o+1,none⟩=false) :
  Calls Tryz.prog 161 #[.pointer (some ⟨g,o,none⟩),.pointer (some ⟨bn,0,none⟩)] W fun e w'=>(∃ v,e=.returned v)∧∃ k,w'=(W.setCell ⟨g,o+1,none⟩ (.int .i64 d)).drewN k:=by
 go_enter func161,ntmps161
 go_wp2
 go_region
 all_goals (
  refine bodyPost_end (results_none rfl _ _ _) rfl ?_
  exact ⟨⟨_,rfl⟩,1,rfl⟩)
