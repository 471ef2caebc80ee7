/- The document's Copy of layer 10, of a version whose values lie in an elder world. (Made by gen_ref10copy.py.) -/
import Derived.Test.YtnefldogciemgaaGreatMh17Regi
import Derived.Deep.RegionHeldLaw
import Derived.Test.YtnefldogciemgaaGreatMh39Regi
import Derived.Laws.ResultCell
set_option linter.unusedVariables false
set_option linter.unusedSimpArgs false
set_option maxRecDepth 100000
namespace Go.Proofs.YtnefldogciemgaaGreat
open Go.RowKit Go.Shelf
def VerInA (w0 w1:World) (x:Sc.Ver) (sa:Option Addr) (sc:Nat) (ca:Option Addr) (cc:Nat):Prop:=(∃ cs,SCells w0 x.slots cs∧Cells w1 7 sa x.slots.length cs)∧Row w1 .i64 ca x.cols.length cc (x.cols.map Int.ofNat)
set_option maxRecDepth 100000 in
set_option maxHeartbeats 4000000 in
theorem refCopy_in (x:Sc.Ver) (sa:Option Addr) (sc:Nat) (ca:Option Addr) (cc:Nat) (w0 w1 w:World) (hsl:x.slots.length≤100000) (hcl:x.cols.length≤100000) (hv:VerInA w0 w1 x sa sc ca cc) (hw0:Below w1.heap.size w1 w) :
  Calls Tryz.prog 113 #[.agg #[.slice sa x.slots.length sc,.slice ca x.cols.length cc]] w fun e w'=>(∃ sv cv,e=.returned (.agg #[sv,cv])∧VerOwn w.heap.size w0 w' x sv cv)∧Below w.heap.size w w':=by
 obtain ⟨slots,cols⟩:=x
 obtain ⟨⟨cs,hsc,hcs⟩,hr⟩:=hv
 unfold VerOwn
 simp only at hsl hcl hsc hcs hr ⊢
 have hci:=cells_below9 (cells_of_row hr) hw0
 replace hcs:=cells_below9 hcs hw0
 obtain ⟨ds,hds⟩:∃ ds,(cols.map Int.ofNat).map (Value.int .i64)=ds:=⟨_,rfl⟩
 have hd1:∀ u∈ds,u.oneCell'=true:=by
  intro u hu
  rw [←hds] at hu
  obtain ⟨i,_,rfl⟩:=List.mem_map.1 hu
  rfl
 rw [hds] at hci ⊢
 have hc1:=hsc.2.1
 obtain ⟨n,hn⟩:∃ n,slots.length=n:=⟨_,rfl⟩
 obtain ⟨m,hm⟩:∃ m,cols.length=m:=⟨_,rfl⟩
 rw [hn] at hcs hsl ⊢
 rw [hm] at hci hcl ⊢
 obtain ⟨i0,hi,hi0,hi1,hi2⟩:=info_parts info_slot
 obtain ⟨j0,hj,hj0,hj1,hj2⟩:=info_parts info_int
 have HSC:=Lib.hid hsc
 clear hsc hr hn hm hds
 go_enter Tryz.func113,Tryz.ntmps113
 go_wp2
 obtain ⟨V,hV⟩:∃ V,(w.alloc (.cells #[.slice sa n sc,.slice ca m cc] 110)).alloc (.cells #[.slice none 0 0,.slice none 0 0] 110)=V:=⟨_,rfl⟩
 obtain ⟨b1,hb1⟩:∃ b,w.heap.size=b:=⟨_,rfl⟩
 obtain ⟨b2,hb2⟩:∃ b,b1+1=b:=⟨_,rfl⟩
 have hS0:CopyS w sa n sc ca m cc b1 b2 V.drew∧V.drew.heap.size=b2+1:=by
  rw [←hV,←hb2,←hb1]
  have hs1:(w.alloc (.cells #[.slice sa n sc,.slice ca m cc] 110)).heap.size=w.heap.size+1:=World.size_alloc _ _
  refine ⟨⟨(((Below.refl _ w).alloc (Nat.le_refl _) _).alloc (by omega) _).drew, ?_,.slice none 0 0,.slice none 0 0, ?_⟩, ?_⟩
  ·exact (Below.heap_alloc _ _ _ (by omega)).trans (heap_self9 w _)
  ·exact hs1 ▸ heap_self9 (w.alloc (.cells #[.slice sa n sc,.slice ca m cc] 110)) _
  ·show (World.alloc _ _).heap.size=_
   rw [World.size_alloc,hs1]
 obtain ⟨hS0,hC0⟩:=hS0
 rw [hV,hb1,hb2]
 clear hV
 refine wp_region_held_drew (S:=CopyS w sa n sc ca m cc b1 b2) (by kernel_rfl) hS0 (fun hHeld=>?_)
 clear hS0
 obtain ⟨V0,hV0⟩:∃ V0,V.drew=V0:=⟨_,rfl⟩
 rw [hV0] at hHeld hC0 ⊢
 clear hV0
 obtain ⟨C,hC,hC1⟩:∃ C,b2<C∧C≤V0.heap.size:=⟨b2+1,by omega,by omega⟩
 clear hC0
 refine wpAnyH_take (i:=1) (v:=?_) rfl (by kernel_rfl) (by kernel_rfl) (by kernel_rfl) (fun _ _ _ h=>h) (Or.inl ⟨by rfl, ?_⟩) (by assumption) ?_
 rotate_left
 ·intro w hSw;obtain ⟨_,hx1,_⟩:=hSw;have hx2:=two_cells hx1;go_simp;(try with_reducible rfl)
 (try simp only [Act.put,List.setIfInBounds_toArray,List.set_cons_zero,List.set_cons_succ])
 refine wpAnyH_take (i:=2) (v:=?_) rfl (by kernel_rfl) (by kernel_rfl) (by kernel_rfl) (fun _ _ _ h=>h) (Or.inl ⟨by rfl, ?_⟩) (by assumption) ?_
 rotate_left
 ·intro w hSw;obtain ⟨_,hx1,_⟩:=hSw;have hx2:=two_cells hx1;go_simp;(try with_reducible rfl)
 (try simp only [Act.put,List.setIfInBounds_toArray,List.set_cons_zero,List.set_cons_succ])
 refine wpAnyH_take (i:=5) (v:=?_) rfl (by kernel_rfl) (by kernel_rfl) (by kernel_rfl) (fun _ _ _ h=>h) (Or.inl ⟨by rfl, ?_⟩) (by assumption) ?_
 rotate_left
 ·intro w hSw;obtain ⟨_,hx1,_⟩:=hSw;have hx2:=two_cells hx1;go_simp;(try with_reducible rfl)
 (try simp only [Act.put,List.setIfInBounds_toArray,List.set_cons_zero,List.set_cons_succ])
 refine wpAnyH_take (i:=6) (v:=?_) rfl (by kernel_rfl) (by kernel_rfl) (by kernel_rfl) (fun _ _ _ h=>h) (Or.inl ⟨by rfl, ?_⟩) (by assumption) ?_
 rotate_left
 ·intro w hSw;obtain ⟨_,hx1,_⟩:=hSw;have hx2:=two_cells hx1;go_simp;(try with_reducible rfl)
 (try simp only [Act.put,List.setIfInBounds_toArray,List.set_cons_zero,List.set_cons_succ])
 refine wpAnyH_ready (rs:=[0,4]) (by kernel_rfl) (by simp) (AllReadyH.cons rfl (fun K hK=>?_) (AllReadyH.cons rfl (fun K hK=>?_) AllReadyH.nil))
 ·go_simp
  have hg:V0.grownBy (V0.alloc (.cells #[] 57)) none:=World.grownBy_alloc _ _ none
  have o0:=own_empty V0 C 57 7 (by omega)
  have hz:V0.heap.size+1≤(V0.alloc (.cells #[] 57)).heap.size:=Nat.le_of_eq (World.size_alloc _ _).symm
  obtain ⟨V1,hU⟩:∃ U,V0.alloc (.cells #[] 57)=U:=⟨_,rfl⟩
  rw [hU] at hg o0 hz ⊢
  obtain ⟨g0,hg0⟩:∃ g,V0.heap.size=g:=⟨_,rfl⟩
  rw [hg0] at o0 ⊢
  clear hU
  refine hK.out _ _ (copyS_kept hHeld hg (fun b e=>by cases e) (by omega)) (fun hHeld=>?_)
  clear hK K hg
  refine wpAnyH_ready (rs:=[3,4]) (by kernel_rfl) (by simp) (AllReadyH.cons rfl (fun K hK=>?_) (AllReadyH.cons rfl (fun K hK=>?_) AllReadyH.nil))
  ·refine step_append_at _ rfl _ _ 42 rfl C 57 i0 _ 7 88 Tryz.underlying42 hi hi0 hi1 hi2 rfl (by decide) (.slice (some ⟨g0,0,none⟩) 0 0) 0 [] (by first | rfl | simp [Act.eval]) o0 sa n sc cs (by first | rfl | simp [Act.eval]) (cells_below9 hcs hHeld.1) hc1 (by unfold maxLen;omega) (by omega) (by omega) ?_
   intro v6 V2 o3 hg at6
   replace hg:V1.grownBy V2 (some g0):=hg
   replace at6:v6.ownBlock=some g0∨v6.ownBlock=some V1.heap.size:=at6
   rw [Nat.zero_add,List.nil_append] at o3
   have hz3:=hg.size
   have h6l:=fun b e=>(own_blk9 o3 b e).1
   skip
   refine hK.out _ _ (copyS_kept hHeld hg (fun b e=>by cases e;omega) (by omega)) (fun hHeld=>?_)
   clear hK K hg
   refine wpAnyH_ready (rs:=[4]) (by kernel_rfl) (by simp) (AllReadyH.cons rfl (fun K hK=>?_) AllReadyH.nil)
   ·go_simp
    have hg:V2.grownBy (V2.alloc (.cells #[] 3)) none:=World.grownBy_alloc _ _ none
    have o4:=own_empty V2 C 3 1 (by omega)
    have hz:V2.heap.size+1≤(V2.alloc (.cells #[] 3)).heap.size:=Nat.le_of_eq (World.size_alloc _ _).symm
    obtain ⟨V3,hU⟩:∃ U,V2.alloc (.cells #[] 3)=U:=⟨_,rfl⟩
    rw [hU] at hg o4 hz ⊢
    obtain ⟨g4,hg4⟩:∃ g,V2.heap.size=g:=⟨_,rfl⟩
    rw [hg4] at o4 ⊢
    clear hU
    have o3:=own_kept9 o3 hg (fun b e=>by cases e)
    refine hK.out _ _ (copyS_kept hHeld hg (fun b e=>by cases e) (by omega)) (fun hHeld=>?_)
    clear hK K hg
    refine wpAnyH_ready (rs:=[7]) (by kernel_rfl) (by simp) (AllReadyH.cons rfl (fun K hK=>?_) AllReadyH.nil)
    ·refine step_append_at _ rfl _ _ 58 rfl C 3 j0 _ 1 8 Tryz.underlying58 hj hj0 hj1 hj2 rfl (by decide) (.slice (some ⟨g4,0,none⟩) 0 0) 0 [] (by first | rfl | simp [Act.eval]) o4 ca m cc ds (by first | rfl | simp [Act.eval]) (cells_below9 hci hHeld.1) hd1 (by unfold maxLen;omega) (by omega) (by omega) ?_
     intro v10 V4 o7 hg at10
     replace hg:V3.grownBy V4 (some g4):=hg
     replace at10:v10.ownBlock=some g4∨v10.ownBlock=some V3.heap.size:=at10
     rw [Nat.zero_add,List.nil_append] at o7
     have hz7:=hg.size
     have hne:∀ b,v6.ownBlock=some b→v10.ownBlock=some b→False:=fun b e1 e2=>by have hb6:=own_blk9 o3 b e1;have hb7:=h6l b e1;rcases at6 with q | q<;>rw [q] at e1<;>rcases at10 with r | r<;>rw [r] at e2<;>injection e1 with e1<;>injection e2 with e2<;>omega
     have o3:=own_kept9 o3 hg (fun b e1 e2=>by have hb6:=own_blk9 o3 b e2;have hb7:=h6l b e2;rcases at6 with q | q<;>rw [q] at e2<;>injection e1 with e1<;>injection e2 with e2<;>omega)
     skip
     refine hK.out _ _ (copyS_kept hHeld hg (fun b e=>by cases e;omega) (by omega)) (fun hHeld=>?_)
     clear hK K hg
     obtain ⟨a6,c6,rfl⟩:=own_form9 o3
     obtain ⟨a10,c10,rfl⟩:=own_form9 o7
     refine wpAnyH_take (i:=8) (v:=?_) rfl (by kernel_rfl) (by kernel_rfl) (by kernel_rfl) (fun _ _ _ h=>h) (Or.inl ⟨by rfl, ?_⟩) (by assumption) ?_
     rotate_left
     ·intro w hSw;obtain ⟨_,hx1,_⟩:=hSw;have hx2:=two_cells hx1;go_simp;(try with_reducible rfl)
     (try simp only [Act.put,List.setIfInBounds_toArray,List.set_cons_zero,List.set_cons_succ])
     refine wpAnyH_ready (rs:=[9]) (by kernel_rfl) (by simp) (AllReadyH.cons rfl (fun K hK=>?_) AllReadyH.nil)
     ·obtain ⟨hBW,hbx,u0,u1,hrv⟩:=id hHeld
      obtain ⟨y0,y1,f0,f1⟩:=two_all hrv
      go_simp
      have hk1:=grown_set9 V4 b2 0 (.slice a6 n c6)
      have hk2:=grown_set9 (V4.setCell ⟨b2,0,none⟩ (.slice a6 n c6)) b2 1 (.slice a10 m c10)
      have hrw:=set_two9 hrv (.slice a6 n c6) (.slice a10 m c10)
      have hzz:(V4.setCell ⟨b2,0,none⟩ (.slice a6 n c6)).heap.size=V4.heap.size:=by simp
      have o3:=own_kept9 (own_kept9 o3 hk1 (fun b e1 e2=>by have:=own_blk9 o3 b e2;cases e1;omega)) hk2 (fun b e1 e2=>by have:=own_blk9 o3 b e2;cases e1;omega)
      have o7:=own_kept9 (own_kept9 o7 hk1 (fun b e1 e2=>by have:=own_blk9 o7 b e2;cases e1;omega)) hk2 (fun b e1 e2=>by have:=own_blk9 o7 b e2;cases e1;omega)
      have hBF:=below_grown9 (below_grown9 hBW hk1 (fun b e=>by cases e;omega) (by omega)) hk2 (fun b e=>by cases e;omega) (by omega)
      obtain ⟨p0,p1⟩:=two_cells hrw
      refine hK.out _ _ ⟨hBF,((hk2.block b1 (by have:=(Array.getElem?_eq_some_iff.1 hbx).1;omega) (by simp;omega)).trans (hk1.block b1 (Array.getElem?_eq_some_iff.1 hbx).1 (by simp;omega))).trans hbx,_,_,hrw⟩ (fun hHeld=>?_)
      clear hK K
      refine wpAnyH_done (by kernel_rfl) ?_ _
      go_wp2
      refine bodyPost_ret (results_cell_row Tryz.results113 _ _ b2 _ _ _ _ rfl hrw Tryz.underlying110 rfl (by kernel_rfl)) rfl ?_
      exact ⟨⟨_,_,rfl,cs,ownsRow_mono o3 (by omega),HSC.out,ownsRow_mono o7 (by omega),hne⟩,hBF⟩
  ·go_simp
   have hg:V1.grownBy (V1.alloc (.cells #[] 3)) none:=World.grownBy_alloc _ _ none
   have o4:=own_empty V1 C 3 1 (by omega)
   have hz:V1.heap.size+1≤(V1.alloc (.cells #[] 3)).heap.size:=Nat.le_of_eq (World.size_alloc _ _).symm
   obtain ⟨V2,hU⟩:∃ U,V1.alloc (.cells #[] 3)=U:=⟨_,rfl⟩
   rw [hU] at hg o4 hz ⊢
   obtain ⟨g4,hg4⟩:∃ g,V1.heap.size=g:=⟨_,rfl⟩
   rw [hg4] at o4 ⊢
   clear hU
   have o0:=own_kept9 o0 hg (fun b e=>by cases e)
   refine hK.out _ _ (copyS_kept hHeld hg (fun b e=>by cases e) (by omega)) (fun hHeld=>?_)
   clear hK K hg
   refine wpAnyH_ready (rs:=[3]) (by kernel_rfl) (by simp) (AllReadyH.cons rfl (fun K hK=>?_) AllReadyH.nil)
   ·refine step_append_at _ rfl _ _ 42 rfl C 57 i0 _ 7 88 Tryz.underlying42 hi hi0 hi1 hi2 rfl (by decide) (.slice (some ⟨g0,0,none⟩) 0 0) 0 [] (by first | rfl | simp [Act.eval]) o0 sa n sc cs (by first | rfl | simp [Act.eval]) (cells_below9 hcs hHeld.1) hc1 (by unfold maxLen;omega) (by omega) (by omega) ?_
    intro v6 V3 o3 hg at6
    replace hg:V2.grownBy V3 (some g0):=hg
    replace at6:v6.ownBlock=some g0∨v6.ownBlock=some V2.heap.size:=at6
    rw [Nat.zero_add,List.nil_append] at o3
    have hz3:=hg.size
    have h6l:=fun b e=>(own_blk9 o3 b e).1
    have o4:=own_kept9 o4 hg (fun b e1 e2=>by have:some g4=some b:=e2;injection e1 with e1;injection this with this;omega)
    skip
    refine hK.out _ _ (copyS_kept hHeld hg (fun b e=>by cases e;omega) (by omega)) (fun hHeld=>?_)
    clear hK K hg
    refine wpAnyH_ready (rs:=[7]) (by kernel_rfl) (by simp) (AllReadyH.cons rfl (fun K hK=>?_) AllReadyH.nil)
    ·refine step_append_at _ rfl _ _ 58 rfl C 3 j0 _ 1 8 Tryz.underlying58 hj hj0 hj1 hj2 rfl (by decide) (.slice (some ⟨g4,0,none⟩) 0 0) 0 [] (by first | rfl | simp [Act.eval]) o4 ca m cc ds (by first | rfl | simp [Act.eval]) (cells_below9 hci hHeld.1) hd1 (by unfold maxLen;omega) (by omega) (by omega) ?_
     intro v10 V4 o7 hg at10
     replace hg:V3.grownBy V4 (some g4):=hg
     replace at10:v10.ownBlock=some g4∨v10.ownBlock=some V3.heap.size:=at10
     rw [Nat.zero_add,List.nil_append] at o7
     have hz7:=hg.size
     have hne:∀ b,v6.ownBlock=some b→v10.ownBlock=some b→False:=fun b e1 e2=>by have hb6:=own_blk9 o3 b e1;have hb7:=h6l b e1;rcases at6 with q | q<;>rw [q] at e1<;>rcases at10 with r | r<;>rw [r] at e2<;>injection e1 with e1<;>injection e2 with e2<;>omega
     have o3:=own_kept9 o3 hg (fun b e1 e2=>by have hb6:=own_blk9 o3 b e2;have hb7:=h6l b e2;rcases at6 with q | q<;>rw [q] at e2<;>injection e1 with e1<;>injection e2 with e2<;>omega)
     skip
     refine hK.out _ _ (copyS_kept hHeld hg (fun b e=>by cases e;omega) (by omega)) (fun hHeld=>?_)
     clear hK K hg
     obtain ⟨a6,c6,rfl⟩:=own_form9 o3
     obtain ⟨a10,c10,rfl⟩:=own_form9 o7
     refine wpAnyH_take (i:=8) (v:=?_) rfl (by kernel_rfl) (by kernel_rfl) (by kernel_rfl) (fun _ _ _ h=>h) (Or.inl ⟨by rfl, ?_⟩) (by assumption) ?_
     rotate_left
     ·intro w hSw;obtain ⟨_,hx1,_⟩:=hSw;have hx2:=two_cells hx1;go_simp;(try with_reducible rfl)
     (try simp only [Act.put,List.setIfInBounds_toArray,List.set_cons_zero,List.set_cons_succ])
     refine wpAnyH_ready (rs:=[9]) (by kernel_rfl) (by simp) (AllReadyH.cons rfl (fun K hK=>?_) AllReadyH.nil)
     ·obtain ⟨hBW,hbx,u0,u1,hrv⟩:=id hHeld
      obtain ⟨y0,y1,f0,f1⟩:=two_all hrv
      go_simp
      have hk1:=grown_set9 V4 b2 0 (.slice a6 n c6)
      have hk2:=grown_set9 (V4.setCell ⟨b2,0,none⟩ (.slice a6 n c6)) b2 1 (.slice a10 m c10)
      have hrw:=set_two9 hrv (.slice a6 n c6) (.slice a10 m c10)
      have hzz:(V4.setCell ⟨b2,0,none⟩ (.slice a6 n c6)).heap.size=V4.heap.size:=by simp
      have o3:=own_kept9 (own_kept9 o3 hk1 (fun b e1 e2=>by have:=own_blk9 o3 b e2;cases e1;omega)) hk2 (fun b e1 e2=>by have:=own_blk9 o3 b e2;cases e1;omega)
      have o7:=own_kept9 (own_kept9 o7 hk1 (fun b e1 e2=>by have:=own_blk9 o7 b e2;cases e1;omega)) hk2 (fun b e1 e2=>by have:=own_blk9 o7 b e2;cases e1;omega)
      have hBF:=below_grown9 (below_grown9 hBW hk1 (fun b e=>by cases e;omega) (by omega)) hk2 (fun b e=>by cases e;omega) (by omega)
      obtain ⟨p0,p1⟩:=two_cells hrw
      refine hK.out _ _ ⟨hBF,((hk2.block b1 (by have:=(Array.getElem?_eq_some_iff.1 hbx).1;omega) (by simp;omega)).trans (hk1.block b1 (Array.getElem?_eq_some_iff.1 hbx).1 (by simp;omega))).trans hbx,_,_,hrw⟩ (fun hHeld=>?_)
      clear hK K
      refine wpAnyH_done (by kernel_rfl) ?_ _
      go_wp2
      refine bodyPost_ret (results_cell_row Tryz.results113 _ _ b2 _ _ _ _ rfl hrw Tryz.underlying110 rfl (by kernel_rfl)) rfl ?_
      exact ⟨⟨_,_,rfl,cs,ownsRow_mono o3 (by omega),HSC.out,ownsRow_mono o7 (by omega),hne⟩,hBF⟩
 ·go_simp
  have hg:V0.grownBy (V0.alloc (.cells #[] 3)) none:=World.grownBy_alloc _ _ none
  have o4:=own_empty V0 C 3 1 (by omega)
  have hz:V0.heap.size+1≤(V0.alloc (.cells #[] 3)).heap.size:=Nat.le_of_eq (World.size_alloc _ _).symm
  obtain ⟨V1,hU⟩:∃ U,V0.alloc (.cells #[] 3)=U:=⟨_,rfl⟩
  rw [hU] at hg o4 hz ⊢
  obtain ⟨g4,hg4⟩:∃ g,V0.heap.size=g:=⟨_,rfl⟩
  rw [hg4] at o4 ⊢
  clear hU
  refine hK.out _ _ (copyS_kept hHeld hg (fun b e=>by cases e) (by omega)) (fun hHeld=>?_)
  clear hK K hg
  refine wpAnyH_ready (rs:=[0]) (by kernel_rfl) (by simp) (AllReadyH.cons rfl (fun K hK=>?_) AllReadyH.nil)
  ·go_simp
   have hg:V1.grownBy (V1.alloc (.cells #[] 57)) none:=World.grownBy_alloc _ _ none
   have o0:=own_empty V1 C 57 7 (by omega)
   have hz:V1.heap.size+1≤(V1.alloc (.cells #[] 57)).heap.size:=Nat.le_of_eq (World.size_alloc _ _).symm
   obtain ⟨V2,hU⟩:∃ U,V1.alloc (.cells #[] 57)=U:=⟨_,rfl⟩
   rw [hU] at hg o0 hz ⊢
   obtain ⟨g0,hg0⟩:∃ g,V1.heap.size=g:=⟨_,rfl⟩
   rw [hg0] at o0 ⊢
   clear hU
   have o4:=own_kept9 o4 hg (fun b e=>by cases e)
   refine hK.out _ _ (copyS_kept hHeld hg (fun b e=>by cases e) (by omega)) (fun hHeld=>?_)
   clear hK K hg
   refine wpAnyH_ready (rs:=[3]) (by kernel_rfl) (by simp) (AllReadyH.cons rfl (fun K hK=>?_) AllReadyH.nil)
   ·refine step_append_at _ rfl _ _ 42 rfl C 57 i0 _ 7 88 Tryz.underlying42 hi hi0 hi1 hi2 rfl (by decide) (.slice (some ⟨g0,0,none⟩) 0 0) 0 [] (by first | rfl | simp [Act.eval]) o0 sa n sc cs (by first | rfl | simp [Act.eval]) (cells_below9 hcs hHeld.1) hc1 (by unfold maxLen;omega) (by omega) (by omega) ?_
    intro v6 V3 o3 hg at6
    replace hg:V2.grownBy V3 (some g0):=hg
    replace at6:v6.ownBlock=some g0∨v6.ownBlock=some V2.heap.size:=at6
    rw [Nat.zero_add,List.nil_append] at o3
    have hz3:=hg.size
    have h6l:=fun b e=>(own_blk9 o3 b e).1
    have o4:=own_kept9 o4 hg (fun b e1 e2=>by have:some g4=some b:=e2;injection e1 with e1;injection this with this;omega)
    skip
    refine hK.out _ _ (copyS_kept hHeld hg (fun b e=>by cases e;omega) (by omega)) (fun hHeld=>?_)
    clear hK K hg
    refine wpAnyH_ready (rs:=[7]) (by kernel_rfl) (by simp) (AllReadyH.cons rfl (fun K hK=>?_) AllReadyH.nil)
    ·refine step_append_at _ rfl _ _ 58 rfl C 3 j0 _ 1 8 Tryz.underlying58 hj hj0 hj1 hj2 rfl (by decide) (.slice (some ⟨g4,0,none⟩) 0 0) 0 [] (by first | rfl | simp [Act.eval]) o4 ca m cc ds (by first | rfl | simp [Act.eval]) (cells_below9 hci hHeld.1) hd1 (by unfold maxLen;omega) (by omega) (by omega) ?_
     intro v10 V4 o7 hg at10
     replace hg:V3.grownBy V4 (some g4):=hg
     replace at10:v10.ownBlock=some g4∨v10.ownBlock=some V3.heap.size:=at10
     rw [Nat.zero_add,List.nil_append] at o7
     have hz7:=hg.size
     have hne:∀ b,v6.ownBlock=some b→v10.ownBlock=some b→False:=fun b e1 e2=>by have hb6:=own_blk9 o3 b e1;have hb7:=h6l b e1;rcases at6 with q | q<;>rw [q] at e1<;>rcases at10 with r | r<;>rw [r] at e2<;>injection e1 with e1<;>injection e2 with e2<;>omega
     have o3:=own_kept9 o3 hg (fun b e1 e2=>by have hb6:=own_blk9 o3 b e2;have hb7:=h6l b e2;rcases at6 with q | q<;>rw [q] at e2<;>injection e1 with e1<;>injection e2 with e2<;>omega)
     skip
     refine hK.out _ _ (copyS_kept hHeld hg (fun b e=>by cases e;omega) (by omega)) (fun hHeld=>?_)
     clear hK K hg
     obtain ⟨a6,c6,rfl⟩:=own_form9 o3
     obtain ⟨a10,c10,rfl⟩:=own_form9 o7
     refine wpAnyH_take (i:=8) (v:=?_) rfl (by kernel_rfl) (by kernel_rfl) (by kernel_rfl) (fun _ _ _ h=>h) (Or.inl ⟨by rfl, ?_⟩) (by assumption) ?_
     rotate_left
     ·intro w hSw;obtain ⟨_,hx1,_⟩:=hSw;have hx2:=two_cells hx1;go_simp;(try with_reducible rfl)
     (try simp only [Act.put,List.setIfInBounds_toArray,List.set_cons_zero,List.set_cons_succ])
     refine wpAnyH_ready (rs:=[9]) (by kernel_rfl) (by simp) (AllReadyH.cons rfl (fun K hK=>?_) AllReadyH.nil)
     ·obtain ⟨hBW,hbx,u0,u1,hrv⟩:=id hHeld
      obtain ⟨y0,y1,f0,f1⟩:=two_all hrv
      go_simp
      have hk1:=grown_set9 V4 b2 0 (.slice a6 n c6)
      have hk2:=grown_set9 (V4.setCell ⟨b2,0,none⟩ (.slice a6 n c6)) b2 1 (.slice a10 m c10)
      have hrw:=set_two9 hrv (.slice a6 n c6) (.slice a10 m c10)
      have hzz:(V4.setCell ⟨b2,0,none⟩ (.slice a6 n c6)).heap.size=V4.heap.size:=by simp
      have o3:=own_kept9 (own_kept9 o3 hk1 (fun b e1 e2=>by have:=own_blk9 o3 b e2;cases e1;omega)) hk2 (fun b e1 e2=>by have:=own_blk9 o3 b e2;cases e1;omega)
      have o7:=own_kept9 (own_kept9 o7 hk1 (fun b e1 e2=>by have:=own_blk9 o7 b e2;cases e1;omega)) hk2 (fun b e1 e2=>by have:=own_blk9 o7 b e2;cases e1;omega)
      have hBF:=below_grown9 (below_grown9 hBW hk1 (fun b e=>by cases e;omega) (by omega)) hk2 (fun b e=>by cases e;omega) (by omega)
      obtain ⟨p0,p1⟩:=two_cells hrw
      refine hK.out _ _ ⟨hBF,((hk2.block b1 (by have:=(Array.getElem?_eq_some_iff.1 hbx).1;omega) (by simp;omega)).trans (hk1.block b1 (Array.getElem?_eq_some_iff.1 hbx).1 (by simp;omega))).trans hbx,_,_,hrw⟩ (fun hHeld=>?_)
      clear hK K
      refine wpAnyH_done (by kernel_rfl) ?_ _
      go_wp2
      refine bodyPost_ret (results_cell_row Tryz.results113 _ _ b2 _ _ _ _ rfl hrw Tryz.underlying110 rfl (by kernel_rfl)) rfl ?_
      exact ⟨⟨_,_,rfl,cs,ownsRow_mono o3 (by omega),HSC.out,ownsRow_mono o7 (by omega),hne⟩,hBF⟩
open Go.RowKit Go.Shelf
def RStepC (w0 w:World) (x:Sc.Ver) (s:StepM) (e:Ending) (w':World):Prop:=(match Sc.step x s with
 |none=>∃ a n c a' n' c',e=.returned (.tuple #[.agg #[.slice a n c,.slice a' n' c'],.bool false])
 |some y=>∃ sv cv,e=.returned (.tuple #[.agg #[sv,cv],.bool true])∧VerOwn w.heap.size w0 w' y sv cv)∧Below w.heap.size w w'
def StepS (w0 w V:World) (x:Sc.Ver) (b6:Nat) (o0 o1:Value) (st:Array Value) (s6 c6:Value):Prop:=
 V.heap[w.heap.size]? = some (.cells #[o0,o1] 110 (0,0))∧V.heap[w.heap.size+1]? = some (.cells st 60 (0,0))∧V.heap[w.heap.size+1+1]? = some (.cells #[.slice none 0 0,.slice none 0 0] 110 (0,0)) ∧
 V.heap[b6]? = some (.cells #[s6,c6] 110 (0,0))∧Below w.heap.size w V∧VerOwn (w.heap.size+1+1+1) w0 V x s6 c6∧w.heap.size+1+1<b6∧(∀ b,s6.ownBlock=some b→b<b6)∧(∀ b,c6.ownBlock=some b→b<b6)
theorem step_pre (w0 w w1:World) (x:Sc.Ver) (sa:Option Addr) (sc:Nat) (ca:Option Addr) (cc:Nat) (o0 o1:Value) (st:Array Value) (s6 c6:Value)
  (hb:Below (((w.alloc (.cells #[o0,o1] 110)).alloc (.cells st 60)).alloc (.cells #[.slice none 0 0,.slice none 0 0] 110)).heap.size (((w.alloc (.cells #[o0,o1] 110)).alloc (.cells st 60)).alloc (.cells #[.slice none 0 0,.slice none 0 0] 110)) w1)
  (hvo:VerOwn (((w.alloc (.cells #[o0,o1] 110)).alloc (.cells st 60)).alloc (.cells #[.slice none 0 0,.slice none 0 0] 110)).heap.size w0 w1 x s6 c6) :
  StepS w0 w (w1.alloc (.cells #[s6,c6] 110)) x w1.heap.size o0 o1 st s6 c6∧w1.heap[w.heap.size+1+1]? = some (.cells #[.slice none 0 0,.slice none 0 0] 110 (0,0))∧Below w.heap.size w w1:=by
 have e1:(w.alloc (.cells #[o0,o1] 110)).heap.size=w.heap.size+1:=World.size_alloc _ _
 have e2:((w.alloc (.cells #[o0,o1] 110)).alloc (.cells st 60)).heap.size=w.heap.size+1+1:=by rw [World.size_alloc,e1]
 have e3:(((w.alloc (.cells #[o0,o1] 110)).alloc (.cells st 60)).alloc (.cells #[.slice none 0 0,.slice none 0 0] 110)).heap.size=w.heap.size+1+1+1:=by rw [World.size_alloc,e2]
 rw [e3] at hb hvo
 have hB3:Below w.heap.size w (((w.alloc (.cells #[o0,o1] 110)).alloc (.cells st 60)).alloc (.cells #[.slice none 0 0,.slice none 0 0] 110)):=(((Below.refl _ w).alloc (Nat.le_refl _) _).alloc (by omega) _).alloc (by omega) _
 have hB1:Below w.heap.size w w1:=hB3.trans (hb.mono (by omega))
 have hz:w.heap.size+1+1+1≤w1.heap.size:=by have:=hb.size;omega
 have g0:w1.heap[w.heap.size]? = some (.cells #[o0,o1] 110 (0,0)):=(hb.block _ (by omega)).trans ((Below.heap_alloc _ _ _ (by omega)).trans ((Below.heap_alloc _ _ _ (by omega)).trans (heap_self9 w _)))
 have g1:w1.heap[w.heap.size+1]? = some (.cells st 60 (0,0)):=(hb.block _ (by omega)).trans ((Below.heap_alloc _ _ _ (by omega)).trans (e1 ▸ heap_self9 (w.alloc (.cells #[o0,o1] 110)) _))
 have g2:w1.heap[w.heap.size+1+1]? = some (.cells #[.slice none 0 0,.slice none 0 0] 110 (0,0)):=(hb.block _ (by omega)).trans (e2 ▸ heap_self9 ((w.alloc (.cells #[o0,o1] 110)).alloc (.cells st 60)) _)
 have k0:=World.grownBy_alloc w1 (.cells #[s6,c6] 110) none
 have far:∀ b o,b<w1.heap.size→w1.heap[b]? = some o→(w1.alloc (.cells #[s6,c6] 110)).heap[b]? = some o:=fun b o hlt h=>(k0.block b hlt (by simp)).trans h
 obtain ⟨cs,p1,p2,p3,p4⟩:=hvo
 have q1:=fun b e=>(own_blk9 p1 b e).1
 have q3:=fun b e=>(own_blk9 p3 b e).1
 exact ⟨⟨far _ _ (by omega) g0,far _ _ (by omega) g1,far _ _ (by omega) g2,heap_self9 w1 _,below_grown9 hB1 k0 (fun b e=>by cases e) (by omega),⟨cs,own_kept9 p1 k0 (fun b e=>by cases e),p2,own_kept9 p3 k0 (fun b e=>by cases e),p4⟩,by omega,q1,q3⟩,g2,hB1⟩
theorem step_end (w w1:World) (b6:Nat) (u0 u1 s6 c6:Value) (o:Obj) (h:w1.heap[b6]? = some (.cells #[u0,u1] 110 (0,0))) (hb:Below w.heap.size w w1) (hlt:w.heap.size≤b6) :
  (((w1.setCell ⟨b6,0,none⟩ s6).setCell ⟨b6,1,none⟩ c6).alloc o).heap[b6]? = some (.cells #[s6,c6] 110 (0,0))∧Below w.heap.size w (((w1.setCell ⟨b6,0,none⟩ s6).setCell ⟨b6,1,none⟩ c6).alloc o):=by
 have k1:=grown_set9 w1 b6 0 s6
 have k2:=grown_set9 (w1.setCell ⟨b6,0,none⟩ s6) b6 1 c6
 have z1:=k1.size
 have z2:=k2.size
 have hs:=hb.size
 have h2:=set_two9 h s6 c6
 have hB:=below_grown9 (below_grown9 hb k1 (fun b e=>by injection e with e;omega) hs) k2 (fun b e=>by injection e with e;omega) (by omega)
 exact ⟨(Below.heap_alloc _ _ _ (Array.getElem?_eq_some_iff.1 h2).1).trans h2,hB.alloc (by omega) o⟩
theorem results_cell_tmp_row9 {P:Program} {fn:Func} {p u:Tmp} {ty:TypeId} (h:fn.results=#[.cell p ty,.tmp u]) (tmps:Array Value) (w:World) (g:Nat) (t:TypeId) (cs:Array Value) (fr:Nat × Nat) (d:TypeDesc)
  (hp:tmps.getD p undef=.pointer (some ⟨g,0,none⟩)) (hg:w.heap[g]? = some (.cells cs t fr))
  (hu:P.underlying ty=some d) (hd:(match d with | .struct _ | .array _ _=>true | _=>false)=true) (hi:(P.info? ty).map (·.size)=some cs.size) :
  (results fn tmps).run P w=.ok (.tuple #[.agg cs,tmps.getD u undef]) w:=by
 rw [results_cell_tmp h,hp]
 simp [asAddr,run_loadVar_row w g t ty cs fr d hg hu hd hi,Result.andThen]
theorem ver_form {B:Nat} {w0 W:World} {x:Sc.Ver} {sv cv:Value} (h:VerOwn B w0 W x sv cv):∃ a c a' c',sv=.slice a x.slots.length c∧cv=.slice a' x.cols.length c':=by
 obtain ⟨cs,p1,_,p3,_⟩:=h
 obtain ⟨a,c,rfl⟩:=own_form9 p1
 obtain ⟨a',c',rfl⟩:=own_form9 p3
 exact ⟨a,c,a',c',rfl,rfl⟩
theorem ten_cells {W:World} {b:Nat} {c0 c1 c2 c3 c4 c5 c6 c7 c8 c9:Value} {t:TypeId} (h:W.heap[b]? = some (.cells #[c0,c1,c2,c3,c4,c5,c6,c7,c8,c9] t (0,0))) :
  (W.cell? ⟨b,0,none⟩=some c0∧W.cell? ⟨b,1,none⟩=some c1∧W.cell? ⟨b,2,none⟩=some c2∧W.cell? ⟨b,3,none⟩=some c3∧W.cell? ⟨b,4,none⟩=some c4)∧(W.cell? ⟨b,5,none⟩=some c5∧W.cell? ⟨b,6,none⟩=some c6∧W.cell? ⟨b,7,none⟩=some c7∧W.cell? ⟨b,8,none⟩=some c8∧W.cell? ⟨b,9,none⟩=some c9):=by
 refine ⟨⟨?_, ?_, ?_, ?_, ?_⟩, ?_, ?_, ?_, ?_, ?_⟩<;>simp [World.cell?,h]
set_option maxRecDepth 100000 in
set_option maxHeartbeats 4000000 in
theorem refStep_kind (x:Sc.Ver) (s:StepM) (sa:Option Addr) (sc:Nat) (ca:Option Addr) (cc:Nat) (w0 w:World) (T:Value) (hsl:x.slots.length≤100000) (hcl:x.cols.length≤100000) (hv:VerInA w0 w x sa sc ca cc) (hs0:RIsStep w0 s T) (h0:Below w0.heap.size w0 w) (hk:s.kd<1) :
  Calls Tryz.prog 88 #[.agg #[.slice sa x.slots.length sc,.slice ca x.cols.length cc],T] w (RStepC w0 w x s):=by
 have hs:=rIsStep_below h0 hs0
 have hC:=fun W (hb:Below w.heap.size w W)=>refCopy_in x sa sc ca cc w0 w W hsl hcl hv hb
 obtain ⟨kd,col,sl,od⟩:=s
 obtain ⟨c2,c3,c4,c5,c6,c7,c8,oa,oc,rfl,hi1,hi2,h7,hod,_⟩:=hs
 simp only at hk hi1 hi2 ⊢
 have hno:Sc.step x ⟨kd,col,sl,od⟩=none:=by
  unfold Sc.step
  simp only
  split
  ·rfl
  ·rw [if_neg (by omega),if_neg (by omega),if_pos (by omega)]
 obtain ⟨Q,hQ⟩:∃ Q,RStepC w0 w x ⟨kd,col,sl,od⟩=Q:=⟨_,rfl⟩
 have hq:∀ (a:Option Addr) (n c:Nat) (a':Option Addr) (n' c':Nat) (w':World),Below w.heap.size w w'→Q (.returned (.tuple #[.agg #[.slice a n c,.slice a' n' c'],.bool false])) w':=by
  intro a n c a' n' c' w' hb
  rw [←hQ];unfold RStepC;rw [hno];exact ⟨⟨a,n,c,a',n',c',rfl⟩,hb⟩
 have HQ:=Lib.hid hq
 clear hq
 rw [hQ]
 clear hQ hno h7 hod
 have d0:decide (kd<1)=true:=by simpa using hk
 have HV:=Lib.hid hv
 clear hv hk
 go_enter Tryz.func88,Tryz.ntmps88
 go_wp2_with (first | (go_at_call 113;(with_reducible refine (hC _ ?_).mono ?_);rotate_left;rintro e w1 ⟨⟨sv,cv,rfl,hvo⟩,hb1⟩;obtain ⟨a6,c6,a7,c7',rfl,rfl⟩:=ver_form hvo;obtain ⟨hP,hq2,hq3⟩:=step_pre w0 w w1 x sa sc ca cc _ _ _ _ _ hb1 hvo;obtain ⟨t0,t1,t2,t3⟩:=two_all hq2;have hE:=step_end w w1 (w.heap.size+1+1) _ _ (.slice a6 x.slots.length c6) (.slice a7 x.cols.length c7') (.cells #[.slice a6 x.slots.length c6,.slice a7 x.cols.length c7'] 110) hq2 hq3 (by omega);have HE:=Lib.hid hE;clear hq2 hq3 hE hb1;have HP:=Lib.hid hP;obtain ⟨_,p2,p3,p4,_⟩:=hP;obtain ⟨⟨y0,y1,_⟩,_⟩:=ten_cells p2;obtain ⟨r0,r1,r2,r3⟩:=two_all p3;obtain ⟨x0,x1,x2,x3⟩:=two_all p4))
 ·refine bodyPost_ret (results_cell_tmp_row9 Tryz.results88 _ _ (w.heap.size+1+1) _ _ _ _ rfl HE.out.1 Tryz.underlying110 rfl (by kernel_rfl)) rfl ?_
  exact HQ.out _ _ _ _ _ _ _ HE.out.2
 ·exact (((Below.refl _ w).alloc (Nat.le_refl _) _).alloc (by simp) _).alloc (by simp;omega) _
open Go.RowKit Go.Shelf
theorem stepS_below {w0 w V V':World} {x:Sc.Ver} {b6:Nat} {o0 o1 s6 c6:Value} {st:Array Value} (h:StepS w0 w V x b6 o0 o1 st s6 c6) (hb:Below V.heap.size V V'):StepS w0 w V' x b6 o0 o1 st s6 c6:=by
 obtain ⟨g0,g1,g2,g3,g4,⟨cs,p1,p2,p3,p4⟩,h1,h2,h3⟩:=h
 have k:=fun b o (hb0:V.heap[b]? = some o)=>(hb.block b (Array.getElem?_eq_some_iff.1 hb0).1).trans hb0
 have kg:V.grownBy V' none:=by
  obtain ⟨a1,a2,a3,a4,a5⟩:=hb
  exact ⟨a1,a2,a3,a4,fun j hj _=>a5 j hj⟩
 exact ⟨k _ _ g0,k _ _ g1,k _ _ g2,k _ _ g3,below_grown9 g4 kg (fun b e=>by cases e) g4.size,⟨cs,own_kept9 p1 kg (fun b e=>by cases e),p2,own_kept9 p3 kg (fun b e=>by cases e),p4⟩,h1,h2,h3⟩
theorem stepS_bel {w0 w V:World} {x:Sc.Ver} {b6:Nat} {o0 o1 s6 c6:Value} {st:Array Value} (h:StepS w0 w V x b6 o0 o1 st s6 c6):Below w.heap.size w V:=h.2.2.2.2.1
theorem stepS_res {w0 w V:World} {x:Sc.Ver} {b6:Nat} {o0 o1 s6 c6:Value} {st:Array Value} (h:StepS w0 w V x b6 o0 o1 st s6 c6):V.heap[w.heap.size+1+1]? = some (.cells #[.slice none 0 0,.slice none 0 0] 110 (0,0)):=h.2.2.1
theorem step_end2 (w w1:World) (b6:Nat) (u0 u1 s6 c6:Value) (h:w1.heap[b6]? = some (.cells #[u0,u1] 110 (0,0))) (hb:Below w.heap.size w w1) (hlt:w.heap.size≤b6) :
  ((w1.setCell ⟨b6,0,none⟩ s6).setCell ⟨b6,1,none⟩ c6).heap[b6]? = some (.cells #[s6,c6] 110 (0,0))∧Below w.heap.size w ((w1.setCell ⟨b6,0,none⟩ s6).setCell ⟨b6,1,none⟩ c6):=by
 have k1:=grown_set9 w1 b6 0 s6
 have k2:=grown_set9 (w1.setCell ⟨b6,0,none⟩ s6) b6 1 c6
 have z1:=k1.size
 have hs:=hb.size
 exact ⟨set_two9 h s6 c6,below_grown9 (below_grown9 hb k1 (fun b e=>by injection e with e;omega) hs) k2 (fun b e=>by injection e with e;omega) (by omega)⟩
set_option maxRecDepth 100000 in
set_option maxHeartbeats 4000000 in
theorem refStep_kind5 (x:Sc.Ver) (s:StepM) (sa:Option Addr) (sc:Nat) (ca:Option Addr) (cc:Nat) (w0 w:World) (T:Value) (hsl:x.slots.length≤100000) (hcl:x.cols.length≤100000) (hv:VerInA w0 w x sa sc ca cc) (hs0:RIsStep w0 s T) (h0:Below w0.heap.size w0 w) (hk:5<s.kd) :
  Calls Tryz.prog 88 #[.agg #[.slice sa x.slots.length sc,.slice ca x.cols.length cc],T] w (RStepC w0 w x s):=by
 have hs:=rIsStep_below h0 hs0
 have hC:=fun W (hb:Below w.heap.size w W)=>refCopy_in x sa sc ca cc w0 w W hsl hcl hv hb
 obtain ⟨kd,col,sl,od⟩:=s
 obtain ⟨c2,c3,c4,c5,c6,c7,c8,oa,oc,rfl,hi1,hi2,h7,hod,_⟩:=hs
 simp only at hk hi1 hi2 ⊢
 have hno:Sc.step x ⟨kd,col,sl,od⟩=none:=by
  unfold Sc.step
  simp only
  split
  ·rfl
  ·rw [if_neg (by omega),if_neg (by omega),if_pos (by omega)]
 obtain ⟨Q,hQ⟩:∃ Q,RStepC w0 w x ⟨kd,col,sl,od⟩=Q:=⟨_,rfl⟩
 have hq:∀ (a:Option Addr) (n c:Nat) (a':Option Addr) (n' c':Nat) (w':World),Below w.heap.size w w'→Q (.returned (.tuple #[.agg #[.slice a n c,.slice a' n' c'],.bool false])) w':=by
  intro a n c a' n' c' w' hb
  rw [←hQ];unfold RStepC;rw [hno];exact ⟨⟨a,n,c,a',n',c',rfl⟩,hb⟩
 have HQ:=Lib.hid hq
 clear hq
 rw [hQ]
 clear hQ hno h7 hod
 have d0:decide (kd<1)=false:=by simp;omega
 have d1:decide (5<kd)=true:=by simpa using hk
 have HV:=Lib.hid hv
 clear hv hk
 go_enter Tryz.func88,Tryz.ntmps88
 go_wp2_with (first | (go_at_call 113;(with_reducible refine (hC _ ?_).mono ?_);rotate_left;rintro e w1 ⟨⟨sv,cv,rfl,hvo⟩,hb1⟩;obtain ⟨a6,c6,a7,c7',rfl,rfl⟩:=ver_form hvo;obtain ⟨hP,hq2,hq3⟩:=step_pre w0 w w1 x sa sc ca cc _ _ _ _ _ hb1 hvo;obtain ⟨t0,t1,t2,t3⟩:=two_all hq2;have hE:=step_end w w1 (w.heap.size+1+1) _ _ (.slice a6 x.slots.length c6) (.slice a7 x.cols.length c7') (.cells #[.slice a6 x.slots.length c6,.slice a7 x.cols.length c7'] 110) hq2 hq3 (by omega);have HE:=Lib.hid hE;clear hq2 hq3 hE hb1;have HP:=Lib.hid hP;obtain ⟨_,p2,p3,p4,_⟩:=hP;obtain ⟨⟨y0,y1,_⟩,_⟩:=ten_cells p2;obtain ⟨r0,r1,r2,r3⟩:=two_all p3;obtain ⟨x0,x1,x2,x3⟩:=two_all p4))
 ·refine bodyPost_ret (results_cell_tmp_row9 Tryz.results88 _ _ (w.heap.size+1+1) _ _ _ _ rfl HE.out.1 Tryz.underlying110 rfl (by kernel_rfl)) rfl ?_
  exact HQ.out _ _ _ _ _ _ _ HE.out.2
 ·exact (((Below.refl _ w).alloc (Nat.le_refl _) _).alloc (by simp) _).alloc (by simp;omega) _
set_option maxRecDepth 100000 in
set_option maxHeartbeats 4000000 in
theorem refStep_rest (x:Sc.Ver) (s:StepM) (sa:Option Addr) (sc:Nat) (ca:Option Addr) (cc:Nat) (w0 w:World) (T:Value) (hsl:x.slots.length≤100000) (hcl:x.cols.length≤100000) (hv:VerInA w0 w x sa sc ca cc) (hs0:RIsStep w0 s T) (h0:Below w0.heap.size w0 w) (hk:1≤s.kd∧s.kd≤5) (hre:Sc.rest s=false) :
  Calls Tryz.prog 88 #[.agg #[.slice sa x.slots.length sc,.slice ca x.cols.length cc],T] w (RStepC w0 w x s):=by
 have hs:=rIsStep_below h0 hs0
 have hC:=fun W (hb:Below w.heap.size w W)=>refCopy_in x sa sc ca cc w0 w W hsl hcl hv hb
 have hR:=fun W (hb:Below w.heap.size w W)=>refRest_any s W T (rIsStep_below hb hs)
 rw [hre] at hR
 obtain ⟨kd,col,sl,od⟩:=s
 obtain ⟨c2,c3,c4,c5,c6,c7,c8,oa,oc,rfl,hi1,hi2,h7,hod,_⟩:=hs
 simp only at hk hi1 hi2 hre ⊢
 have hno:Sc.step x ⟨kd,col,sl,od⟩=none:=by
  unfold Sc.step
  simp only
  rw [if_pos hre]
 obtain ⟨Q,hQ⟩:∃ Q,RStepC w0 w x ⟨kd,col,sl,od⟩=Q:=⟨_,rfl⟩
 have hq:∀ (a:Option Addr) (n c:Nat) (a':Option Addr) (n' c':Nat) (w':World),Below w.heap.size w w'→Q (.returned (.tuple #[.agg #[.slice a n c,.slice a' n' c'],.bool false])) w':=by
  intro a n c a' n' c' w' hb
  rw [←hQ];unfold RStepC;rw [hno];exact ⟨⟨a,n,c,a',n',c',rfl⟩,hb⟩
 have HQ:=Lib.hid hq
 clear hq
 rw [hQ]
 clear hQ hno h7 hod
 have d0:decide (kd<1)=false:=by simp;omega
 have d1:decide (5<kd)=false:=by simp;omega
 clear hre
 have HV:=Lib.hid hv
 clear hv hk
 go_enter Tryz.func88,Tryz.ntmps88
 go_wp2_with (first
  |(go_at_call 113;(with_reducible refine (hC _ ?_).mono ?_);rotate_left;rintro e w1 ⟨⟨sv,cv,rfl,hvo⟩,hb1⟩;obtain ⟨a6,c6,a7,c7',rfl,rfl⟩:=ver_form hvo;obtain ⟨hP,hq2,hq3⟩:=step_pre w0 w w1 x sa sc ca cc _ _ _ _ _ hb1 hvo;have HP:=Lib.hid hP;clear hq2 hq3 hb1;obtain ⟨_,p2,_,p4,_⟩:=hP;obtain ⟨⟨y0,y1,y2,y3,y4⟩,y5,y6,y7,y8,y9⟩:=ten_cells p2)
  |(go_at_call 114;(with_reducible refine (hR _ (stepS_bel HP.out)).mono ?_);rintro e w2 ⟨rfl,hb2⟩;have hP2:=stepS_below HP.out hb2;have hE:=step_end2 w w2 (w.heap.size+1+1) _ _ (.slice a6 x.slots.length c6) (.slice a7 x.cols.length c7') (stepS_res hP2) (stepS_bel hP2) (by omega);have HE:=Lib.hid hE;clear hE hb2;obtain ⟨_,_,p3,p4',_⟩:=hP2;obtain ⟨r0,r1,r2,r3⟩:=two_all p3;obtain ⟨x0,x1,x2,x3⟩:=two_all p4'))
 ·refine bodyPost_ret (results_cell_tmp_row9 Tryz.results88 _ _ (w.heap.size+1+1) _ _ _ _ rfl HE.out.1 Tryz.underlying110 rfl (by kernel_rfl)) rfl ?_
  exact HQ.out _ _ _ _ _ _ _ HE.out.2
 ·exact (((Below.refl _ w).alloc (Nat.le_refl _) _).alloc (by simp) _).alloc (by simp;omega) _
open Go.RowKit Go.Shelf
set_option maxRecDepth 100000 in
set_option maxHeartbeats 4000000 in
theorem refStep_low (x:Sc.Ver) (s:StepM) (sa:Option Addr) (sc:Nat) (ca:Option Addr) (cc:Nat) (w0 w:World) (T:Value) (hsl:x.slots.length≤100000) (hcl:x.cols.length≤100000) (hv:VerInA w0 w x sa sc ca cc) (hs0:RIsStep w0 s T) (h0:Below w0.heap.size w0 w) (hk:2≤s.kd∧s.kd≤4) (hre:Sc.rest s=true) (hco:s.col<0) :
  Calls Tryz.prog 88 #[.agg #[.slice sa x.slots.length sc,.slice ca x.cols.length cc],T] w (RStepC w0 w x s):=by
 have hs:=rIsStep_below h0 hs0
 have hC:=fun W (hb:Below w.heap.size w W)=>refCopy_in x sa sc ca cc w0 w W hsl hcl hv hb
 have hR:=fun W (hb:Below w.heap.size w W)=>refRest_any s W T (rIsStep_below hb hs)
 rw [hre] at hR
 obtain ⟨kd,col,sl,od⟩:=s
 obtain ⟨c2,c3,c4,c5,c6,c7,c8,oa,oc,rfl,hi1,hi2,h7,hod,_⟩:=hs
 simp only at hk hi1 hi2 hre hco ⊢
 have hno:Sc.step x ⟨kd,col,sl,od⟩=none:=by
  unfold Sc.step
  simp only
  rw [if_neg (by rw [hre];simp),if_neg (by omega),if_neg (by omega),if_pos (by omega)]
 obtain ⟨Q,hQ⟩:∃ Q,RStepC w0 w x ⟨kd,col,sl,od⟩=Q:=⟨_,rfl⟩
 have hq:∀ (a:Option Addr) (n c:Nat) (a':Option Addr) (n' c':Nat) (w':World),Below w.heap.size w w'→Q (.returned (.tuple #[.agg #[.slice a n c,.slice a' n' c'],.bool false])) w':=by
  intro a n c a' n' c' w' hb
  rw [←hQ];unfold RStepC;rw [hno];exact ⟨⟨a,n,c,a',n',c',rfl⟩,hb⟩
 have HQ:=Lib.hid hq
 clear hq
 rw [hQ]
 clear hQ hno h7 hod
 have d0:decide (kd<1)=false:=by simp;omega
 have d1:decide (5<kd)=false:=by simp;omega
 have d2:decide (1<kd)=true:=by simp;omega
 have d3:decide (kd<5)=true:=by simp;omega
 have d4:decide (col<0)=true:=by simpa using hco
 clear hre hco
 have HV:=Lib.hid hv
 clear hv hk
 go_enter Tryz.func88,Tryz.ntmps88
 go_wp2_with (first
  |(go_at_call 113;(with_reducible refine (hC _ ?_).mono ?_);rotate_left;rintro e w1 ⟨⟨sv,cv,rfl,hvo⟩,hb1⟩;obtain ⟨a6,c6,a7,c7',rfl,rfl⟩:=ver_form hvo;obtain ⟨hP,hq2,hq3⟩:=step_pre w0 w w1 x sa sc ca cc _ _ _ _ _ hb1 hvo;have HP:=Lib.hid hP;clear hq2 hq3 hb1;obtain ⟨_,p2,_,p4,_⟩:=hP;obtain ⟨⟨y0,y1,y2,y3,y4⟩,y5,y6,y7,y8,y9⟩:=ten_cells p2)
  |(go_at_call 114;(with_reducible refine (hR _ (stepS_bel HP.out)).mono ?_);rintro e w2 ⟨rfl,hb2⟩;have hP2:=stepS_below HP.out hb2;have hE:=step_end2 w w2 (w.heap.size+1+1) _ _ (.slice a6 x.slots.length c6) (.slice a7 x.cols.length c7') (stepS_res hP2) (stepS_bel hP2) (by omega);have HE:=Lib.hid hE;clear hE hb2;obtain ⟨_,p2',p3,p4',_⟩:=hP2;obtain ⟨⟨z0,z1,z2,z3,z4⟩,z5,z6,z7,z8,z9⟩:=ten_cells p2';obtain ⟨r0,r1,r2,r3⟩:=two_all p3;obtain ⟨x0,x1,x2,x3⟩:=two_all p4'))
 ·refine bodyPost_ret (results_cell_tmp_row9 Tryz.results88 _ _ (w.heap.size+1+1) _ _ _ _ rfl HE.out.1 Tryz.underlying110 rfl (by kernel_rfl)) rfl ?_
  exact HQ.out _ _ _ _ _ _ _ HE.out.2
 ·exact (((Below.refl _ w).alloc (Nat.le_refl _) _).alloc (by simp) _).alloc (by simp;omega) _
set_option maxRecDepth 100000 in
set_option maxHeartbeats 4000000 in
theorem refStep_high (x:Sc.Ver) (s:StepM) (sa:Option Addr) (sc:Nat) (ca:Option Addr) (cc:Nat) (w0 w:World) (T:Value) (hsl:x.slots.length≤100000) (hcl:x.cols.length≤100000) (hv:VerInA w0 w x sa sc ca cc) (hs0:RIsStep w0 s T) (h0:Below w0.heap.size w0 w) (hk:2≤s.kd∧s.kd≤4) (hre:Sc.rest s=true) (hco:(x.cols.length:Int)≤s.col) :
  Calls Tryz.prog 88 #[.agg #[.slice sa x.slots.length sc,.slice ca x.cols.length cc],T] w (RStepC w0 w x s):=by
 have hs:=rIsStep_below h0 hs0
 have hC:=fun W (hb:Below w.heap.size w W)=>refCopy_in x sa sc ca cc w0 w W hsl hcl hv hb
 have hR:=fun W (hb:Below w.heap.size w W)=>refRest_any s W T (rIsStep_below hb hs)
 rw [hre] at hR
 obtain ⟨kd,col,sl,od⟩:=s
 obtain ⟨c2,c3,c4,c5,c6,c7,c8,oa,oc,rfl,hi1,hi2,h7,hod,_⟩:=hs
 simp only at hk hi1 hi2 hre hco ⊢
 have hno:Sc.step x ⟨kd,col,sl,od⟩=none:=by
  unfold Sc.step
  simp only
  rw [if_neg (by rw [hre];simp),if_neg (by omega),if_neg (by omega),if_pos (by omega)]
 obtain ⟨Q,hQ⟩:∃ Q,RStepC w0 w x ⟨kd,col,sl,od⟩=Q:=⟨_,rfl⟩
 have hq:∀ (a:Option Addr) (n c:Nat) (a':Option Addr) (n' c':Nat) (w':World),Below w.heap.size w w'→Q (.returned (.tuple #[.agg #[.slice a n c,.slice a' n' c'],.bool false])) w':=by
  intro a n c a' n' c' w' hb
  rw [←hQ];unfold RStepC;rw [hno];exact ⟨⟨a,n,c,a',n',c',rfl⟩,hb⟩
 have HQ:=Lib.hid hq
 clear hq
 rw [hQ]
 clear hQ hno h7 hod
 have d0:decide (kd<1)=false:=by simp;omega
 have d1:decide (5<kd)=false:=by simp;omega
 have d2:decide (1<kd)=true:=by simp;omega
 have d3:decide (kd<5)=true:=by simp;omega
 have d4:decide (col<0)=false:=by simp;omega
 have d5:decide ((x.cols.length:Int)≤col)=true:=by simpa using hco
 clear hre hco
 have HV:=Lib.hid hv
 clear hv hk
 go_enter Tryz.func88,Tryz.ntmps88
 go_wp2_with (first
  |(go_at_call 113;(with_reducible refine (hC _ ?_).mono ?_);rotate_left;rintro e w1 ⟨⟨sv,cv,rfl,hvo⟩,hb1⟩;obtain ⟨a6,c6,a7,c7',rfl,rfl⟩:=ver_form hvo;obtain ⟨hP,hq2,hq3⟩:=step_pre w0 w w1 x sa sc ca cc _ _ _ _ _ hb1 hvo;have HP:=Lib.hid hP;clear hq2 hq3 hb1;obtain ⟨_,p2,_,p4,_⟩:=hP;obtain ⟨⟨y0,y1,y2,y3,y4⟩,y5,y6,y7,y8,y9⟩:=ten_cells p2)
  |(go_at_call 114;(with_reducible refine (hR _ (stepS_bel HP.out)).mono ?_);rintro e w2 ⟨rfl,hb2⟩;have hP2:=stepS_below HP.out hb2;have hE:=step_end2 w w2 (w.heap.size+1+1) _ _ (.slice a6 x.slots.length c6) (.slice a7 x.cols.length c7') (stepS_res hP2) (stepS_bel hP2) (by omega);have HE:=Lib.hid hE;clear hE hb2;obtain ⟨_,p2',p3,p4',_⟩:=hP2;obtain ⟨⟨z0,z1,z2,z3,z4⟩,z5,z6,z7,z8,z9⟩:=ten_cells p2';obtain ⟨r0,r1,r2,r3⟩:=two_all p3;obtain ⟨x0,x1,x2,x3⟩:=two_all p4'))
 ·refine bodyPost_ret (results_cell_tmp_row9 Tryz.results88 _ _ (w.heap.size+1+1) _ _ _ _ rfl HE.out.1 Tryz.underlying110 rfl (by kernel_rfl)) rfl ?_
  exact HQ.out _ _ _ _ _ _ _ HE.out.2
 ·exact (((Below.refl _ w).alloc (Nat.le_refl _) _).alloc (by simp) _).alloc (by simp;omega) _
