/- Joined: XLatM XLat6 XLat9. -/
import Derived.Test.YtfaljekgpnbmiaaJ22
set_option linter.unusedVariables false
set_option linter.unusedSimpArgs false
set_option maxRecDepth 100000
namespace Go.Proofs.Ytfaljekgpnbmiaa
open Go.RowKit Go.Sort
def latLen (n r:Nat):Nat:=if r=3*n then n+1 else n
def latF (n:Nat) (St G Ov:Nat→Nat→Int) (V:Nat→Int) (r i:Nat):Int:=if r<n then St r i else if r<2*n then G (r - n) i else if r<3*n then Ov (r - 2*n) i else V i
structure LatMem (P:Nat→Prop) (B:Nat) (w:World) (n b gs gp go cs cp co:Nat) (R:Nat→Nat) (St G Ov:Nat→Nat→Int) (V:Nat→Int):Prop where
 own:w.heap[b]?=some (.cells #[.slice (some ⟨gs,0,none⟩) n cs,.slice (some ⟨gp,0,none⟩) n cp,.slice (some ⟨R (3*n),0,none⟩) (n+1) (n+1),.slice (some ⟨go,0,none⟩) n co] 176 (0,0))
 fam:Fam P w (3*n+1) R (latLen n) (latF n St G Ov V)
 steps:HeadAt w gs n R 0 n
 prods:HeadAt w gp n R n n
 over:HeadAt w go n R (2*n) n
 apart:gs≠gp∧gp≠go∧gs≠go
 base:B≤b∧B≤gs∧B≤gp∧B≤go∧∀ r,r<3*n+1→B≤R r
 caps:n≤cs∧n≤cp∧n≤co
section
variable {P:Nat→Prop} {B:Nat} {w w':World} {n b gs gp go cs cp co:Nat} {R:Nat→Nat} {St G Ov:Nat→Nat→Int} {V:Nat→Int}
theorem LatMem.grow (h:LatMem P B w n b gs gp go cs cp co R St G Ov V) (hg:Grows w w'):LatMem P B w' n b gs gp go cs cp co R St G Ov V :=
 ⟨Below.same hg _ _ h.own,h.fam.grow hg,h.steps.grow hg,h.prods.grow hg,h.over.grow hg,h.apart,h.base,h.caps⟩
theorem LatMem.congr (h:LatMem P B w n b gs gp go cs cp co R St G Ov V) {St' G' Ov':Nat→Nat→Int} {V':Nat→Int} (e1:∀ r i,r<n→i<n→St r i=St' r i) (e2:∀ r i,r<n→i<n→G r i=G' r i) (e3:∀ r i,r<n→i<n→Ov r i=Ov' r i) (e4:∀ i,i<n+1→V i=V' i):LatMem P B w n b gs gp go cs cp co R St' G' Ov' V':=by
 refine ⟨h.own,h.fam.congr fun r i hr hi=>?_,h.steps,h.prods,h.over,h.apart,h.base,h.caps⟩
 unfold latLen at hi
 unfold latF
 by_cases h1:r<n
 ·rw [if_pos h1,if_pos h1];rw [if_neg (by omega)] at hi;exact e1 _ _ h1 hi
 ·rw [if_neg h1,if_neg h1]
  by_cases h2:r<2*n
  ·rw [if_pos h2,if_pos h2];rw [if_neg (by omega)] at hi;exact e2 _ _ (by omega) hi
  ·rw [if_neg h2,if_neg h2]
   by_cases h3:r<3*n
   ·rw [if_pos h3,if_pos h3];rw [if_neg (by omega)] at hi;exact e3 _ _ (by omega) hi
   ·rw [if_neg h3,if_neg h3];rw [if_pos (by omega)] at hi;exact e4 _ hi
theorem LatMem.cells (h:LatMem P B w n b gs gp go cs cp co R St G Ov V):w.cell? ⟨b,0,none⟩=some (.slice (some ⟨gs,0,none⟩) n cs)∧w.cell? ⟨b,1,none⟩=some (.slice (some ⟨gp,0,none⟩) n cp)∧w.cell? ⟨b,2,none⟩=some (.slice (some ⟨R (3*n),0,none⟩) (n+1) (n+1))∧w.cell? ⟨b,3,none⟩=some (.slice (some ⟨go,0,none⟩) n co):=by
 refine ⟨?_,?_,?_,?_⟩ <;> (rw [cellsOf h.own];rfl)
theorem LatMem.getS (h:LatMem P B w n b gs gp go cs cp co R St G Ov V) {r i:Nat} (hr:r<n) (hi:i<n):w.cell? ⟨gs,r,none⟩=some (.slice (some ⟨R r,0,none⟩) n n)∧∃ x a m c,w.cell? ⟨R r,i*2,none⟩=some (.int .i64 x)∧w.cell? ⟨R r,i*2+1,none⟩=some (.slice a m c)∧WhAt P w (.agg #[.int .i64 x,.slice a m c]) (St r i):=by
 have h1:=h.steps.cell hr
 rw [Nat.zero_add] at h1
 obtain ⟨x,a,m,c,d1,d2,d3,_⟩:=(h.fam.rows r (by omega)).get (i:=i) (by unfold latLen;rw [if_neg (by omega)];exact hi)
 refine ⟨h1,x,a,m,c,d1,d2,?_⟩
 unfold latF at d3;rwa [if_pos hr] at d3
theorem LatMem.getP (h:LatMem P B w n b gs gp go cs cp co R St G Ov V) {r i:Nat} (hr:r<n) (hi:i<n):w.cell? ⟨gp,r,none⟩=some (.slice (some ⟨R (n+r),0,none⟩) n n)∧∃ x a m c,w.cell? ⟨R (n+r),i*2,none⟩=some (.int .i64 x)∧w.cell? ⟨R (n+r),i*2+1,none⟩=some (.slice a m c)∧WhAt P w (.agg #[.int .i64 x,.slice a m c]) (G r i):=by
 obtain ⟨x,a,m,c,d1,d2,d3,_⟩:=(h.fam.rows (n+r) (by omega)).get (i:=i) (by unfold latLen;rw [if_neg (by omega)];exact hi)
 refine ⟨h.prods.cell hr,x,a,m,c,d1,d2,?_⟩
 unfold latF at d3;rwa [if_neg (by omega),if_pos (by omega),Nat.add_sub_cancel_left] at d3
theorem LatMem.getO (h:LatMem P B w n b gs gp go cs cp co R St G Ov V) {r i:Nat} (hr:r<n) (hi:i<n):w.cell? ⟨go,r,none⟩=some (.slice (some ⟨R (2*n+r),0,none⟩) n n)∧∃ x a m c,w.cell? ⟨R (2*n+r),i*2,none⟩=some (.int .i64 x)∧w.cell? ⟨R (2*n+r),i*2+1,none⟩=some (.slice a m c)∧WhAt P w (.agg #[.int .i64 x,.slice a m c]) (Ov r i):=by
 obtain ⟨x,a,m,c,d1,d2,d3,_⟩:=(h.fam.rows (2*n+r) (by omega)).get (i:=i) (by unfold latLen;rw [if_neg (by omega)];exact hi)
 refine ⟨h.over.cell hr,x,a,m,c,d1,d2,?_⟩
 unfold latF at d3;rwa [if_neg (by omega),if_neg (by omega),if_pos (by omega),Nat.add_sub_cancel_left] at d3
theorem LatMem.getV (h:LatMem P B w n b gs gp go cs cp co R St G Ov V) {i:Nat} (hi:i<n+1):∃ x a m c,w.cell? ⟨R (3*n),i*2,none⟩=some (.int .i64 x)∧w.cell? ⟨R (3*n),i*2+1,none⟩=some (.slice a m c)∧WhAt P w (.agg #[.int .i64 x,.slice a m c]) (V i):=by
 obtain ⟨x,a,m,c,d1,d2,d3,_⟩:=(h.fam.rows (3*n) (by omega)).get (i:=i) (by unfold latLen;rw [if_pos rfl];exact hi)
 refine ⟨x,a,m,c,d1,d2,?_⟩
 unfold latF at d3;rwa [if_neg (by omega),if_neg (by omega),if_neg (by omega)] at d3
theorem LatMem.free (h:LatMem P B w n b gs gp go cs cp co R St G Ov V) {r:Nat} (hr:r<3*n+1) (o:Nat):w.frozen? ⟨R r,o,none⟩=false:=by
 obtain ⟨cs,hcs⟩:=(h.fam.rows r hr).block
 exact freeOf hcs o
theorem LatMem.put (h:LatMem P B w n b gs gp go cs cp co R St G Ov V) {r i:Nat} (hr:r<3*n+1) (hi:i<latLen n r) {x:Int} {a:Option Addr} {m c:Nat} {v:Int} (hv:WhAt P w (.agg #[.int .i64 x,.slice a m c]) v) {St' G' Ov':Nat→Nat→Int} {V':Nat→Int} (he:∀ s k,s<3*n+1→k<latLen n s→upd2 (latF n St G Ov V) r i v s k=latF n St' G' Ov' V' s k) :
  LatMem P B ((w.setCell ⟨R r,i*2,none⟩ (.int .i64 x)).setCell ⟨R r,i*2+1,none⟩ (.slice a m c)) n b gs gp go cs cp co R St' G' Ov' V'∧Below B w ((w.setCell ⟨R r,i*2,none⟩ (.int .i64 x)).setCell ⟨R r,i*2+1,none⟩ (.slice a m c)):=by
 obtain ⟨k,hk⟩:=(h.fam.rows r hr).block
 have hb:b≠R r:=fun e=>by have:=h.own;rw [e,hk] at this;simp at this
 have n1:=fam_head_ne h.fam h.steps r hr
 have n2:=fam_head_ne h.fam h.prods r hr
 have n3:=fam_head_ne h.fam h.over r hr
 refine ⟨⟨?_,(h.fam.set hr hi hv).congr he,(h.steps.far (Ne.symm n1) _ _).far (Ne.symm n1) _ _,(h.prods.far (Ne.symm n2) _ _).far (Ne.symm n2) _ _,(h.over.far (Ne.symm n3) _ _).far (Ne.symm n3) _ _,h.apart,h.base,h.caps⟩,?_⟩
 ·exact (Below.heap_setCell _ _ _ _ hb).trans ((Below.heap_setCell _ _ _ _ hb).trans h.own)
 ·have:=h.base.2.2.2.2 r hr
  exact (Below.setCell (p:=⟨R r,i*2,none⟩) (Below.refl _ _) this _).setCell (p:=⟨R r,i*2+1,none⟩) this _
theorem LatMem.putS (h:LatMem P B w n b gs gp go cs cp co R St G Ov V) {r i:Nat} (hr:r<n) (hi:i<n) {x:Int} {a:Option Addr} {m c:Nat} {v:Int} (hv:WhAt P w (.agg #[.int .i64 x,.slice a m c]) v) :
  LatMem P B ((w.setCell ⟨R r,i*2,none⟩ (.int .i64 x)).setCell ⟨R r,i*2+1,none⟩ (.slice a m c)) n b gs gp go cs cp co R (upd2 St r i v) G Ov V∧Below B w ((w.setCell ⟨R r,i*2,none⟩ (.int .i64 x)).setCell ⟨R r,i*2+1,none⟩ (.slice a m c)) :=
 h.put (by omega) (by unfold latLen;rw [if_neg (by omega)];exact hi) hv (fun s k hs hk=>by
  unfold upd2 latF
  try dsimp only
  by_cases h1:s<n
  ·rw [if_pos h1,if_pos h1]
  ·rw [if_neg h1,if_neg h1,if_neg (by omega)])
theorem LatMem.putP (h:LatMem P B w n b gs gp go cs cp co R St G Ov V) {r i:Nat} (hr:r<n) (hi:i<n) {x:Int} {a:Option Addr} {m c:Nat} {v:Int} (hv:WhAt P w (.agg #[.int .i64 x,.slice a m c]) v) :
  LatMem P B ((w.setCell ⟨R (n+r),i*2,none⟩ (.int .i64 x)).setCell ⟨R (n+r),i*2+1,none⟩ (.slice a m c)) n b gs gp go cs cp co R St (upd2 G r i v) Ov V∧Below B w ((w.setCell ⟨R (n+r),i*2,none⟩ (.int .i64 x)).setCell ⟨R (n+r),i*2+1,none⟩ (.slice a m c)) :=
 h.put (by omega) (by unfold latLen;rw [if_neg (by omega)];exact hi) hv (fun s k hs hk=>by
  unfold upd2 latF
  try dsimp only
  by_cases h1:s<n
  ·rw [if_pos h1,if_pos h1,if_neg (by omega)]
  ·rw [if_neg h1,if_neg h1]
   by_cases h2:s<2*n
   ·rw [if_pos h2,if_pos h2]
    by_cases h3:s=n+r∧k=i
    ·rw [if_pos h3,if_pos ⟨by omega,h3.2⟩]
    ·rw [if_neg h3,if_neg (by omega)]
   ·rw [if_neg h2,if_neg h2,if_neg (by omega)])
theorem LatMem.putO (h:LatMem P B w n b gs gp go cs cp co R St G Ov V) {r i:Nat} (hr:r<n) (hi:i<n) {x:Int} {a:Option Addr} {m c:Nat} {v:Int} (hv:WhAt P w (.agg #[.int .i64 x,.slice a m c]) v) :
  LatMem P B ((w.setCell ⟨R (2*n+r),i*2,none⟩ (.int .i64 x)).setCell ⟨R (2*n+r),i*2+1,none⟩ (.slice a m c)) n b gs gp go cs cp co R St G (upd2 Ov r i v) V∧Below B w ((w.setCell ⟨R (2*n+r),i*2,none⟩ (.int .i64 x)).setCell ⟨R (2*n+r),i*2+1,none⟩ (.slice a m c)) :=
 h.put (by omega) (by unfold latLen;rw [if_neg (by omega)];exact hi) hv (fun s k hs hk=>by
  unfold upd2 latF
  try dsimp only
  by_cases h1:s<n
  ·rw [if_pos h1,if_pos h1,if_neg (by omega)]
  ·rw [if_neg h1,if_neg h1]
   by_cases h2:s<2*n
   ·rw [if_pos h2,if_pos h2,if_neg (by omega)]
   ·rw [if_neg h2,if_neg h2]
    by_cases h4:s<3*n
    ·rw [if_pos h4,if_pos h4]
     by_cases h3:s=2*n+r∧k=i
     ·rw [if_pos h3,if_pos ⟨by omega,h3.2⟩]
     ·rw [if_neg h3,if_neg (by omega)]
    ·rw [if_neg h4,if_neg h4,if_neg (by omega)])
theorem LatMem.putV (h:LatMem P B w n b gs gp go cs cp co R St G Ov V) {i:Nat} (hi:i<n+1) {x:Int} {a:Option Addr} {m c:Nat} {v:Int} (hv:WhAt P w (.agg #[.int .i64 x,.slice a m c]) v) :
  LatMem P B ((w.setCell ⟨R (3*n),i*2,none⟩ (.int .i64 x)).setCell ⟨R (3*n),i*2+1,none⟩ (.slice a m c)) n b gs gp go cs cp co R St G Ov (updF V i v)∧Below B w ((w.setCell ⟨R (3*n),i*2,none⟩ (.int .i64 x)).setCell ⟨R (3*n),i*2+1,none⟩ (.slice a m c)) :=
 h.put (by omega) (by unfold latLen;rw [if_pos rfl];exact hi) hv (fun s k hs hk=>by
  unfold upd2 latF updF
  try dsimp only
  by_cases h1:s<n
  ·rw [if_pos h1,if_pos h1,if_neg (by omega)]
  ·rw [if_neg h1,if_neg h1]
   by_cases h2:s<2*n
   ·rw [if_pos h2,if_pos h2,if_neg (by omega)]
   ·rw [if_neg h2,if_neg h2]
    by_cases h4:s<3*n
    ·rw [if_pos h4,if_pos h4,if_neg (by omega)]
    ·rw [if_neg h4,if_neg h4]
     by_cases h3:k=i
     ·rw [if_pos ⟨by omega,h3⟩,if_pos h3]
     ·rw [if_neg (fun h=>h3 h.2),if_neg h3])
end
section
attribute [local go_sem] valUpon
set_option maxHeartbeats 1000000 in
theorem less_any (P:Nat→Prop) (K:Nat) (a t b:Int) (va vt vb:Value) (w:World) (hP:∀ b,w.heap.size≤b→P b) (ha:WhAt P w va a) (ht:WhAt P w vt t) (hb:WhAt P w vb b) (hK:K≤1500000000000) (la:Pl.Lt K a) (lt:Pl.Lt K t) (lb:Pl.Lt K b) (ltb:Pl.Lt K (t*b)) :
  Calls Try.prog 180 #[va,vt,vb] w fun e w'=>∃ v',e=.returned v'∧WhAt P w' v' (a - t*b)∧Below w.heap.size w w':=by
 obtain ⟨ax,aa,am,ac,rfl⟩:=ha.shape
 obtain ⟨tx,ta,tm,tc,rfl⟩:=ht.shape
 obtain ⟨bx,ba,bm,bc,rfl⟩:=hb.shape
 obtain ⟨W,hW⟩:∃ W,(((w.alloc (.cells #[.int .i64 ax,.slice aa am ac] 82)).alloc (.cells #[.int .i64 tx,.slice ta tm tc] 82)).alloc (.cells #[.int .i64 bx,.slice ba bm bc] 82)).alloc (.cells #[.int .i64 0,.slice none 0 0] 82)=W:=⟨_,rfl⟩
 have HG:Hid (Grows w W):=by unfold Hid;rw [←hW];exact Grows.trans (Grows.trans (Grows.trans (Grows.alloc _ _) (Grows.alloc _ _)) (Grows.alloc _ _)) (Grows.alloc _ _)
 have b0:W.heap[w.heap.size]?=some (.cells #[.int .i64 ax,.slice aa am ac] 82):=by rw [←hW];exact Below.same (Grows.trans (Grows.trans (Grows.alloc _ _) (Grows.alloc _ _)) (Grows.alloc _ _)) _ _ (slot_one _ _)
 have b1:W.heap[w.heap.size+1]?=some (.cells #[.int .i64 tx,.slice ta tm tc] 82):=by
  have:=Below.same (Grows.trans (Grows.alloc ((w.alloc (.cells #[.int .i64 ax,.slice aa am ac] 82)).alloc (.cells #[.int .i64 tx,.slice ta tm tc] 82)) (.cells #[.int .i64 bx,.slice ba bm bc] 82)) (Grows.alloc _ (.cells #[.int .i64 0,.slice none 0 0] 82))) _ _ (slot_one (w.alloc (.cells #[.int .i64 ax,.slice aa am ac] 82)) (.cells #[.int .i64 tx,.slice ta tm tc] 82))
  rw [←hW];rwa [World.size_alloc] at this
 have b2:W.heap[w.heap.size+1+1]?=some (.cells #[.int .i64 bx,.slice ba bm bc] 82):=by
  have:=Below.same (Grows.alloc (((w.alloc (.cells #[.int .i64 ax,.slice aa am ac] 82)).alloc (.cells #[.int .i64 tx,.slice ta tm tc] 82)).alloc (.cells #[.int .i64 bx,.slice ba bm bc] 82)) (.cells #[.int .i64 0,.slice none 0 0] 82)) _ _ (slot_one ((w.alloc (.cells #[.int .i64 ax,.slice aa am ac] 82)).alloc (.cells #[.int .i64 tx,.slice ta tm tc] 82)) (.cells #[.int .i64 bx,.slice ba bm bc] 82))
  rw [←hW];rwa [World.size_alloc,World.size_alloc] at this
 have b3:W.heap[w.heap.size+1+1+1]?=some (.cells #[.int .i64 0,.slice none 0 0] 82):=by
  have:=slot_one (((w.alloc (.cells #[.int .i64 ax,.slice aa am ac] 82)).alloc (.cells #[.int .i64 tx,.slice ta tm tc] 82)).alloc (.cells #[.int .i64 bx,.slice ba bm bc] 82)) (.cells #[.int .i64 0,.slice none 0 0] 82)
  rw [←hW];rwa [World.size_alloc,World.size_alloc,World.size_alloc] at this
 have HZ:=hide b3
 have y1:=fun d os=>cell_regrown (int_cells b0).1 d os
 have y2:=fun d os=>cell_regrown (int_cells b0).2.1 d os
 have y3:=fun d os=>cell_regrown (int_cells b1).1 d os
 have y4:=fun d os=>cell_regrown (int_cells b1).2.1 d os
 have y5:=fun d os=>cell_regrown (int_cells b2).1 d os
 have y6:=fun d os=>cell_regrown (int_cells b2).2.1 d os
 have HA:=hide (ha.below (uh HG))
 have HT:=hide (ht.below (uh HG))
 have HB:=hide (hb.below (uh HG))
 clear ha ht hb b0 b1 b2 b3
 go_enter Try.func180,Try.ntmps180
 go_wp2_with fail
 try rw [hW]
 clear hW
 refine wp_region_grown (phiL [(10,fun v w=>WhAt P w v (t*b)),(11,fun v w=>WhAt P w v (a - t*b))]) (gL [(10,ShapeI),(11,ShapeI)]) 12 5 (by kernel_rfl) (by rfl) (by kernel_rfl) (phi_c (fun _ _ _=>WhAt.below) (phi_c (fun _ _ _=>WhAt.below) phi_n)) ?_
 iterate 3 (refine lex_s fun K hK=>?_;go_simp;refine hK _ ?_;clear hK K)
 refine lex_call ShapeI 93 #[.agg #[.int .i64 tx,.slice ta tm tc],.agg #[.int .i64 bx,.slice ba bm bc]] (by rfl) (by rfl) ShapeI.some (fun w=>by go_simp) (fun wq hg hf=>(Mul_any P K t b _ _ wq (fun b' hb'=>hP b' (by have:=(Grows.trans (uh HG) hg).size;omega)) ((uh HT).below hg) ((uh HB).below hg) hK lt lb).mono (by rintro e w' ⟨v',rfl,hv,hb⟩;exact ⟨_,rfl,hb,hv.shapeI,fun t ht=>by cases ht;exact hv⟩)) ?_
 rintro _ ⟨px,pa,pm,pc,rfl⟩
 refine lex_call ShapeI 92 #[.agg #[.int .i64 ax,.slice aa am ac],.agg #[.int .i64 px,.slice pa pm pc]] (by rfl) (by rfl) ShapeI.some (fun w=>by go_simp) (fun wq hg hf=>(Sub_any P K a (t*b) _ _ wq (fun b' hb'=>hP b' (by have:=(Grows.trans (uh HG) hg).size;omega)) ((uh HA).below hg) (hf 3 (by kernel_rfl) _ 10 rfl rfl) hK la ltb).mono (by rintro e w' ⟨v',rfl,hv,hb⟩;exact ⟨_,rfl,hb,hv.shapeI,fun t ht=>by cases ht;exact hv⟩)) ?_
 rintro _ ⟨qx,qa,qm,qc,rfl⟩
 refine lex_last ?_
 intro w2 hw2 hphi
 have hv2:WhAt P w2 (.agg #[.int .i64 qx,.slice qa qm qc]) (a - t*b):=hphi 4 _ 11 (by decide) rfl rfl
 clear hphi y1 y2 y3 y4 y5 y6
 have hblk:=Below.same hw2 _ _ (uh HZ)
 obtain ⟨z0,z1,z2,z3⟩:=int_cells hblk
 have HVF:=hide (hv2.sets hblk (.int .i64 qx) (.slice qa qm qc))
 have HGF:Hid (Grows w ((w2.setCell ⟨w.heap.size+1+1+1,0,none⟩ (.int .i64 qx)).setCell ⟨w.heap.size+1+1+1,1,none⟩ (.slice qa qm qc))):=(Below.setCell (p:=⟨w.heap.size+1+1+1,0,none⟩) (Grows.trans (uh HG) hw2) (by show w.heap.size≤w.heap.size+1+1+1;omega) _).setCell (p:=⟨w.heap.size+1+1+1,1,none⟩) (by show w.heap.size≤w.heap.size+1+1+1;omega) _
 clear hv2 hw2 hblk
 go_wp2
 exact bodyPost_ret (v:=.agg #[.int .i64 qx,.slice qa qm qc]) (by simp [results,Try.results180,go_sem,z0,z1]) rfl ⟨_,rfl,uh HVF,uh HGF⟩
end
def measO (n:Nat) (G Ov:Nat→Nat→Int) (i j a b:Nat):Int:=if a<i∧b<a∨a=i∧b<j∧b<a then Pl.gm n G b a b else Ov a b
def measV (n:Nat) (G:Nat→Nat→Int) (V:Nat→Int) (i l:Nat):Int:=if l≤i then Pl.vol n G l else V l
theorem measO_at {n:Nat} {G Ov:Nat→Nat→Int} {i j a b:Nat} (h:a<i∧b<a∨a=i∧b<j∧b<a):measO n G Ov i j a b=Pl.gm n G b a b:=if_pos h
theorem measV_at {n:Nat} {G:Nat→Nat→Int} {V:Nat→Int} {i l:Nat} (h:l≤i):measV n G V i l=Pl.vol n G l:=if_pos h
theorem measO_set {n:Nat} {G Ov:Nat→Nat→Int} {i j:Nat} (hj:j<i) (a b:Nat):upd2 (measO n G Ov i j) i j (Pl.gm n G j i j) a b=measO n G Ov i (j+1) a b:=by
 unfold upd2 measO
 by_cases h1:a=i∧b=j
 ·rw [if_pos h1,if_pos (by omega),h1.1,h1.2]
 ·rw [if_neg h1]
  by_cases h2:a<i∧b<a∨a=i∧b<j∧b<a
  ·rw [if_pos h2,if_pos (by omega)]
  ·rw [if_neg h2,if_neg (by omega)]
theorem measO_next {n:Nat} {G Ov:Nat→Nat→Int} {i j:Nat} (hj:i≤j) (a b:Nat):measO n G Ov i j a b=measO n G Ov (i+1) 0 a b:=by
 unfold measO
 by_cases h2:a<i∧b<a∨a=i∧b<j∧b<a
 ·rw [if_pos h2,if_pos (by omega)]
 ·rw [if_neg h2,if_neg (by omega)]
theorem measV_set {n:Nat} {G:Nat→Nat→Int} {V:Nat→Int} (hP:Pl.Posi n G) {i:Nat} (hi:i<n) (l:Nat):updF (measV n G V i) (i+1) (Pl.gm n G i i i) l=measV n G V (i+1) l:=by
 unfold updF measV
 by_cases h:l=i+1
 ·rw [if_pos h,if_pos (by omega),h,Pl.vol_succ hP hi]
 ·rw [if_neg h]
  by_cases h2:l≤i
  ·rw [if_pos h2,if_pos (by omega)]
  ·rw [if_neg h2,if_neg (by omega)]
attribute [local go_sem] valUpon
set_option maxHeartbeats 2000000 in
theorem measure_any (P:Nat→Prop) (B K n b gs gp go cs cp co:Nat) (R:Nat→Nat) (St G Ov:Nat→Nat→Int) (V:Nat→Int) (w:World) (hP:∀ b,w.heap.size≤b→P b) (h:LatMem P B w n b gs gp go cs cp co R St G Ov V) (hn0:0<n) (hn:n≤100) (hpos:Pl.Posi n G) (hsym:∀ i j,G i j=G j i) (hV:V 0=1) (hlt:∀ l i j,l≤n→i<n→j<n→Pl.Lt K (Pl.gm n G l i j)) (hvl:∀ l,l≤n→Pl.Lt K (Pl.vol n G l)) (hK:2*K+1≤1500000000000) :
  Calls Try.prog 159 #[.pointer (some ⟨b,0,none⟩)] w fun e w'=>∃ (Ov':Nat→Nat→Int) (V':Nat→Int),e=.returned (.tuple #[])∧LatMem P B w' n b gs gp go cs cp co R St G Ov' V'∧Below B w w'∧(∀ i l,l<i→i<n→Ov' i l=Pl.gm n G l i l)∧∀ l,l≤n→V' l=Pl.vol n G l:=by
 have HM:=hide h
 have HPS:=hide hpos
 have HSY:=hide hsym
 have HV0:=hide hV
 have HLT:=hide hlt
 have HVL:=hide hvl
 clear h hpos hsym hV hlt hvl
 go_enter Try.func159,Try.ntmps159
 go_wp2_with fail
 go_loopg [2] n (fun k iv wr=>∃ (i:Nat),iv=.int .i64 i∧i+k=n∧Hid (LatMem P B wr n b gs gp go cs cp co R St G (measO n G Ov i 0) (measV n G V i)∧Below B w wr))
 case atStart =>
  refine ⟨0,rfl,by omega,(uh HM).congr (fun _ _ _ _=>rfl) (fun _ _ _ _=>rfl) (fun r i _ _=>?_) (fun i _=>?_),Below.refl _ _⟩
  ·unfold measO;rw [if_neg (by omega)]
  ·unfold measV
   by_cases h:i≤0
   ·rw [if_pos h,show i=0 by omega,uh HV0,Pl.vol_zero]
   ·rw [if_neg h]
 case round =>
  rename Nat=>gi
  rename World=>wi
  obtain ⟨i,rfl,hik,HR⟩:=hrel
  obtain ⟨k0,k1,k2,k3⟩:=(uh HR).1.cells
  by_cases hin:i<n
  ·go_wp2_with fail
   go_loopg [3] (i+1) (fun k jv wr=>∃ (j:Nat),jv=.int .i64 j∧j+k=i+1∧Hid (LatMem P B wr n b gs gp go cs cp co R St G (measO n G Ov i j) (measV n G V (if j=i+1 then i+1 else i))∧Below B w wr))
   case atStart=>exact ⟨0,rfl,by omega,by rw [if_neg (by omega)];exact (uh HR).1,(uh HR).2⟩
   case round =>
    rename Nat=>gj
    rename World=>wo
    obtain ⟨j,rfl,hjk,HJ⟩:=hrel
    clear k0 k1 k2 k3
    by_cases hji:j≤i
    ·have hjv:(if j=i+1 then i+1 else i)=i:=if_neg (by omega)
     rw [hjv] at HJ
     obtain ⟨k0,k1,k2,k3⟩:=(uh HJ).1.cells
     obtain ⟨e0,ux,ua,um,uc,e1,e2,hu⟩:=(uh HJ).1.getP (r:=i) (i:=j) hin (by omega)
     have hjn:j<n:=by omega
     rw [←Pl.gm_zero (G:=G) hin hjn] at hu
     have HU0:=hide (var_new hu)
     have HG5:=hide (Grows.alloc wo (.cells #[.int .i64 ux,.slice ua um uc] 82))
     have hsz:w.heap.size≤wo.heap.size:=(uh HJ).2.size
     have HSB:Hid (B≤wo.heap.size):=by have h1:=(uh HJ).1.base.1;have h2:=lt_of_block (uh HJ).1.own;unfold Hid;omega
     clear hu
     go_wp2_with fail
     go_loopg [5] j (fun k lv wr=>∃ (l:Nat) (ux:Int) (ua:Option Addr) (um uc:Nat),lv=.int .i64 l∧l+k=j∧Hid (Grows wo wr∧VarAt P wr wo.heap.size ux ua um uc (Pl.gm n G l i j)))
     case atStart=>exact ⟨0,ux,ua,um,uc,rfl,by omega,uh HG5,uh HU0⟩
     case round =>
      clear HU0 HG5 k0 k1 k2 k3 e0 e1 e2
      obtain ⟨l,ux,ua,um,uc,rfl,hlk,HL⟩:=hrel
      have HM5:=hide ((uh HJ).1.grow (uh HL).1)
      have HB5:Hid (w.heap.size≤wr.heap.size):=Nat.le_trans hsz (uh HL).1.size
      obtain ⟨k0,k1,k2,k3⟩:=(uh HM5).cells
      by_cases hlj:l<j
      ·have hln:l<n:=by omega
       have hwl:IntKind.i64.wrap ((l:Int)+1)=(l:Int)+1:=by rw [IntKind.wrap_i64];omega
       have htl:((l:Int)+1).toNat=l+1:=by omega
       have hll:(l:Int)+1<(n:Int)+1:=by omega
       have hl0:0≤(l:Int)+1:=by omega
       have hln1:(l:Int)<(n:Int)+1:=by omega
       obtain ⟨o0,px,pa,pm,pc,p0,p1,hp⟩:=(uh HM5).getO (r:=i) (i:=l) hin hln
       rw [measO_at (by omega)] at hp
       obtain ⟨o1,qx,qa,qm,qc,q0,q1,hq⟩:=(uh HM5).getO (r:=j) (i:=l) hjn hln
       rw [measO_at (by omega)] at hq
       have HP:=hide hp
       have HQ:=hide hq
       clear hp hq k0 k1 k2
       go_wp2_with fail
       have y0:=cell_regrown k3
       have y1:=cell_regrown o0
       have y2:=cell_regrown p0
       have y3:=cell_regrown p1
       have y4:=cell_regrown o1
       have y5:=cell_regrown q0
       have y6:=cell_regrown q1
       clear k3 o0 p0 p1 o1 q0 q1
       refine wp_region_grown (phiL [(56,fun v w=>WhAt P w v (Pl.gm n G l i l*Pl.gm n G l j l)),(6,FreshV wr)]) (gL [(56,ShapeI),(6,ShapeP)]) 99 22 (by kernel_rfl) (by rfl) (by kernel_rfl) (phi_c (fun _ _ _=>WhAt.below) (phi_c (fun _ _ _=>FreshV.grow) phi_n)) ?_
       iterate 20 (refine lex_s fun K hK=>?_;go_simp;refine hK _ ?_;clear hK K)
       refine lex_call ShapeI 93 #[.agg #[.int .i64 px,.slice pa pm pc],.agg #[.int .i64 qx,.slice qa qm qc]] (by rfl) (by rfl) ShapeI.some (fun w=>by go_simp) (fun wq hg hf=>(Mul_any P K (Pl.gm n G l i l) (Pl.gm n G l j l) _ _ wq (fun b' hb'=>hP b' (by have h1:=uh HB5;have h2:=hg.size;omega)) ((uh HP).below hg) ((uh HQ).below hg) (by omega) (uh HLT l i l (by omega) (by omega) (by omega)) (uh HLT l j l (by omega) (by omega) (by omega))).mono (by rintro e w' ⟨v',rfl,hv,hb⟩;exact ⟨_,rfl,hb,hv.shapeI,fun t ht=>by cases ht;exact hv⟩)) ?_
       rintro _ ⟨mx,ma,mm,mc,rfl⟩
       refine lex_grow ShapeP (by rfl) (by rfl) ShapeP.some (fun wq hg hf=>⟨.pointer (some ⟨wq.heap.size,0,none⟩),wq.alloc (.cells #[.int .i64 0,.slice none 0 0] 82),by go_simp,Grows.alloc _ _,⟨_,rfl⟩,fun t ht=>by cases ht;exact FreshV.new hg⟩) ?_
       rintro _ ⟨g6,rfl⟩
       refine lex_last ?_
       intro w6 hw6 hphi
       have hv6:WhAt P w6 (.agg #[.int .i64 mx,.slice ma mm mc]) (Pl.gm n G l i l*Pl.gm n G l j l):=hphi 20 _ 56 (by decide) rfl rfl
       obtain ⟨g6',e6,f6⟩:FreshV wr (.pointer (some ⟨g6,0,none⟩)) w6:=hphi 21 _ 6 (by decide) rfl rfl
       cases e6
       clear hphi y0 y1 y2 y3 y4 y5 y6
       obtain ⟨z0,z1,z2,z3⟩:=slot_of f6.2
       have hst:=store_new (P:=P) hw6 f6.1 f6.2 hv6
       obtain ⟨W6,hW6⟩:∃ W6,(w6.setCell ⟨g6,0,none⟩ (.int .i64 mx)).setCell ⟨g6,1,none⟩ (.slice ma mm mc)=W6:=⟨_,rfl⟩
       have HV6:Hid (VarAt P W6 g6 mx ma mm mc (Pl.gm n G l i l*Pl.gm n G l j l)):=by unfold Hid;rw [←hW6];exact hst.1
       have HG6:Hid (Grows wr W6):=by unfold Hid;rw [←hW6];exact hst.2
       clear hst hv6 f6 hw6
       go_wp2_with fail
       try rw [hW6]
       clear hW6 z0 z1 z2 z3
       have HU7:=hide ((uh HL).2.grow (uh HG6))
       have HG7:Hid (Grows wo W6):=(uh HL).1.trans (uh HG6)
       have HB7:Hid (w.heap.size≤W6.heap.size):=Nat.le_trans (uh HB5) (uh HG6).size
       have HL7:=hide ((uh HM5).grow (uh HG6))
       obtain ⟨vx,va,vm,vc,v0,v1,hv⟩:=(uh HL7).getV (i:=l+1) (by omega)
       rw [measV_at (by omega)] at hv
       have HV7:=hide hv
       have k2:=(uh HL7).cells.2.2.1
       have u0:=(uh HU7).cells.1
       have u1:=(uh HU7).cells.2.1
       have m0:=(uh HV6).cells.1
       have m1:=(uh HV6).cells.2.1
       clear hv
       go_wp2_with fail
       have y0:=cell_regrown k2
       have y1:=cell_regrown v0
       have y2:=cell_regrown v1
       have y3:=cell_regrown u0
       have y4:=cell_regrown u1
       have y5:=cell_regrown m0
       have y6:=cell_regrown m1
       clear k2 v0 v1 u0 u1 m0 m1
       refine wp_region_grown (phiL [(66,fun v w=>WhAt P w v (Pl.vol n G (l+1)*Pl.gm n G l i j)),(68,fun v w=>WhAt P w v (Pl.vol n G (l+1)*Pl.gm n G l i j - Pl.gm n G l i l*Pl.gm n G l j l))]) (gL [(66,ShapeI),(68,ShapeI)]) 99 12 (by kernel_rfl) (by rfl) (by kernel_rfl) (phi_c (fun _ _ _=>WhAt.below) (phi_c (fun _ _ _=>WhAt.below) phi_n)) ?_
       iterate 9 (refine lex_s fun K hK=>?_;go_simp;refine hK _ ?_;clear hK K)
       refine lex_call ShapeI 93 #[.agg #[.int .i64 vx,.slice va vm vc],.agg #[.int .i64 ux,.slice ua um uc]] (by rfl) (by rfl) ShapeI.some (fun w=>by go_simp) (fun wq hg hf=>(Mul_any P K (Pl.vol n G (l+1)) (Pl.gm n G l i j) _ _ wq (fun b' hb'=>hP b' (by have h1:=uh HB7;have h2:=hg.size;omega)) ((uh HV7).below hg) ((uh HU7).val.below hg) (by omega) (uh HVL (l+1) (by omega)) (uh HLT l i j (by omega) (by omega) (by omega))).mono (by rintro e w' ⟨v',rfl,hv,hb⟩;exact ⟨_,rfl,hb,hv.shapeI,fun t ht=>by cases ht;exact hv⟩)) ?_
       rintro _ ⟨sx,sa,sm,sc,rfl⟩
       (refine lex_s fun K hK=>?_;go_simp;refine hK _ ?_;clear hK K)
       refine lex_call ShapeI 92 #[.agg #[.int .i64 sx,.slice sa sm sc],.agg #[.int .i64 mx,.slice ma mm mc]] (by rfl) (by rfl) ShapeI.some (fun w=>by go_simp) (fun wq hg hf=>(Sub_any P (2*K+1) _ _ _ _ wq (fun b' hb'=>hP b' (by have h1:=uh HB7;have h2:=hg.size;omega)) (hf 9 (by kernel_rfl) _ 66 rfl rfl) ((uh HV6).val.below hg) (by omega) (((uh HVL (l+1) (by omega)).mul (uh HLT l i j (by omega) (by omega) (by omega))).mono (by omega)) (((uh HLT l i l (by omega) (by omega) (by omega)).mul (uh HLT l j l (by omega) (by omega) (by omega))).mono (by omega))).mono (by rintro e w' ⟨v',rfl,hv,hb⟩;exact ⟨_,rfl,hb,hv.shapeI,fun t ht=>by cases ht;exact hv⟩)) ?_
       rintro _ ⟨tx,ta,tm,tc,rfl⟩
       refine lex_last ?_
       intro w8 hw8 hphi
       have hv8:WhAt P w8 (.agg #[.int .i64 tx,.slice ta tm tc]) (Pl.vol n G (l+1)*Pl.gm n G l i j - Pl.gm n G l i l*Pl.gm n G l j l):=hphi 11 _ 68 (by decide) rfl rfl
       clear hphi
       have hu8:=(uh HU7).grow hw8
       obtain ⟨c0,c1,c2,c3⟩:=hu8.cells
       obtain ⟨W8,hW8⟩:∃ W8,(w8.setCell ⟨wo.heap.size,0,none⟩ (.int .i64 tx)).setCell ⟨wo.heap.size,1,none⟩ (.slice ta tm tc)=W8:=⟨_,rfl⟩
       have HU8:Hid (VarAt P W8 wo.heap.size tx ta tm tc (Pl.vol n G (l+1)*Pl.gm n G l i j - Pl.gm n G l i l*Pl.gm n G l j l)):=by unfold Hid;rw [←hW8];exact ⟨int_sets hu8.heap _ _,hv8.sets hu8.heap _ _⟩
       have HG8:Hid (Grows wo W8):=by unfold Hid;rw [←hW8];exact (Below.setCell (p:=⟨wo.heap.size,0,none⟩) ((uh HG7).trans hw8) (Nat.le_refl _) _).setCell (p:=⟨wo.heap.size,1,none⟩) (Nat.le_refl _) _
       have HB8:Hid (w.heap.size≤W8.heap.size):=Nat.le_trans hsz (uh HG8).size
       clear hu8 hv8 hw8 y0 y1 y2 y3 y4 y5 y6
       go_wp2_with fail
       try rw [hW8]
       clear hW8 c0 c1 c2 c3
       have HL8:=hide ((uh HJ).1.grow (uh HG8))
       obtain ⟨kx,ka,km,kc,v0,v1,hv⟩:=(uh HL8).getV (i:=l) (by omega)
       rw [measV_at (by omega)] at hv
       have HK8:=hide hv
       have k2:=(uh HL8).cells.2.2.1
       have u0:=(uh HU8).cells.1
       have u1:=(uh HU8).cells.2.1
       have HDV:Hid (∀ wq,Grows W8 wq→Calls Try.prog 91 #[.agg #[.int .i64 tx,.slice ta tm tc],.agg #[.int .i64 kx,.slice ka km kc]] wq fun e w'=>∃ v',e=.returned v'∧WhAt P w' v' (Pl.gm n G (l+1) i j)∧Below wq.heap.size wq w'):=fun wq hg=>by
        have hs:=Pl.gm_succ (uh HPS) (l:=l) (i:=i) (j:=j) hln hin hjn (by omega) (by omega)
        rw [←Pl.vol_succ (uh HPS) hln,←Pl.gm_symm (uh HPS) (uh HSY) l (by omega) j l (by omega) (Nat.le_refl _) hjn hln] at hs
        rw [hs.1]
        exact Div_any P (2*K+1) _ _ _ _ wq (fun b' hb'=>hP b' (by have h1:=uh HB8;have h2:=hg.size;omega)) ((uh HU8).val.below hg) ((uh HK8).below hg) (by omega) (by rw [←hs.2];exact ((uh HVL l (by omega)).mul (uh HLT (l+1) i j (by omega) hin hjn)).mono (by omega)) ((uh HVL l (by omega)).mono (by omega))
       clear hv
       go_wp2_with fail
       have y0:=cell_regrown k2
       have y1:=cell_regrown v0
       have y2:=cell_regrown v1
       have y3:=cell_regrown u0
       have y4:=cell_regrown u1
       clear k2 v0 v1 u0 u1
       refine wp_region_grown (phiL [(77,fun v w=>WhAt P w v (Pl.gm n G (l+1) i j))]) (gL [(77,ShapeI)]) 99 9 (by kernel_rfl) (by rfl) (by kernel_rfl) (phi_c (fun _ _ _=>WhAt.below) phi_n) ?_
       iterate 8 (refine lex_s fun K hK=>?_;go_simp;refine hK _ ?_;clear hK K)
       refine lex_call ShapeI 91 #[.agg #[.int .i64 tx,.slice ta tm tc],.agg #[.int .i64 kx,.slice ka km kc]] (by rfl) (by rfl) ShapeI.some (fun w=>by go_simp) (fun wq hg hf=>(uh HDV wq hg).mono (by rintro e w' ⟨v',rfl,hv,hb⟩;exact ⟨_,rfl,hb,hv.shapeI,fun t ht=>by cases ht;exact hv⟩)) ?_
       rintro _ ⟨dx,da,dm,dc,rfl⟩
       refine lex_last ?_
       intro w10 hw10 hphi
       have hv10:WhAt P w10 (.agg #[.int .i64 dx,.slice da dm dc]) (Pl.gm n G (l+1) i j):=hphi 8 _ 77 (by decide) rfl rfl
       clear hphi
       have hu10:=(uh HU8).grow hw10
       obtain ⟨c0,c1,c2,c3⟩:=hu10.cells
       obtain ⟨W10,hW10⟩:∃ W10,(w10.setCell ⟨wo.heap.size,0,none⟩ (.int .i64 dx)).setCell ⟨wo.heap.size,1,none⟩ (.slice da dm dc)=W10:=⟨_,rfl⟩
       have HU10:Hid (VarAt P W10 wo.heap.size dx da dm dc (Pl.gm n G (l+1) i j)):=by unfold Hid;rw [←hW10];exact ⟨int_sets hu10.heap _ _,hv10.sets hu10.heap _ _⟩
       have HG10:Hid (Grows wo W10):=by unfold Hid;rw [←hW10];exact (Below.setCell (p:=⟨wo.heap.size,0,none⟩) ((uh HG8).trans hw10) (Nat.le_refl _) _).setCell (p:=⟨wo.heap.size,1,none⟩) (Nat.le_refl _) _
       clear hu10 hv10 hw10 y0 y1 y2 y3 y4
       go_wp2_with fail
       try rw [hW10]
       clear hW10 c0 c1 c2 c3
       go_wp2
       go_roundg (gk - 1)
       case measure=>omega
       case rel=>exact ⟨l+1,_,_,_,_,by simp,by omega,uh HG10,uh HU10⟩
      ·have hlj':l=j:=by omega
       subst hlj'
       obtain ⟨o0,px,pa,pm,pc,p0,p1,_⟩:=(uh HM5).getO (r:=i) (i:=l) hin hjn
       obtain ⟨v0,v1,v2,v3⟩:=(uh HL).2.cells
       by_cases hlt:l<i
       ·have f0:=(uh HM5).free (r:=2*n+i) (by omega) (l*2)
        have f1:=(uh HM5).free (r:=2*n+i) (by omega) (l*2+1)
        have HS:=hide ((uh HM5).putO hin hjn (uh HL).2.val)
        clear k0 k1 k2
        go_wp2_with fail
        go_region
        all_goals
         go_wp2
         go_roundg (gj - 1)
         case measure=>omega
         case rel=>exact ⟨l+1,by simp,by omega,by rw [if_neg (by omega)];exact ((uh HS).1.congr (fun _ _ _ _=>rfl) (fun _ _ _ _=>rfl) (fun _ _ _ _=>measO_set hlt _ _) (fun _ _=>rfl)).grow (Below.drew (Below.refl _ _)),Below.drew (((uh HJ).2.trans (Below.mono (uh HL).1 (uh HSB))).trans (uh HS).2)⟩
       ·have hli:l=i:=by omega
        subst hli
        have hwl:IntKind.i64.wrap ((l:Int)+1)=(l:Int)+1:=by rw [IntKind.wrap_i64];omega
        have htl:((l:Int)+1).toNat=l+1:=by omega
        have hll:(l:Int)+1<(n:Int)+1:=by omega
        have hl0:0≤(l:Int)+1:=by omega
        obtain ⟨tx,ta,tm,tc,t0,t1,_⟩:=(uh HM5).getV (i:=l+1) (by omega)
        have f0:=(uh HM5).free (r:=3*n) (by omega) ((l+1)*2)
        have f1:=(uh HM5).free (r:=3*n) (by omega) ((l+1)*2+1)
        have HS:=hide ((uh HM5).putV (i:=l+1) (by omega) (uh HL).2.val)
        clear k0 k1 k3 o0 p0 p1
        go_wp2_with fail
        go_region
        all_goals
         go_wp2
         go_roundg (gj - 1)
         case measure=>omega
         case rel=>exact ⟨l+1,by simp,by omega,by rw [if_pos rfl];exact ((uh HS).1.congr (fun _ _ _ _=>rfl) (fun _ _ _ _=>rfl) (fun _ _ _ _=>(measO_next (Nat.le_refl _) _ _).trans (measO_next (by omega) _ _).symm) (fun _ _=>measV_set (uh HPS) hin _)).grow (Below.drew (Below.refl _ _)),Below.drew (((uh HJ).2.trans (Below.mono (uh HL).1 (uh HSB))).trans (uh HS).2)⟩
    ·have hji':j=i+1:=by omega
     have HF:Hid (LatMem P B wo n b gs gp go cs cp co R St G (measO n G Ov (i+1) 0) (measV n G V (i+1))):=by
      have h1:=(uh HJ).1
      rw [if_pos hji'] at h1
      exact h1.congr (fun _ _ _ _=>rfl) (fun _ _ _ _=>rfl) (fun _ _ _ _=>measO_next (by omega) _ _) (fun _ _=>rfl)
     go_wp2
     go_roundg (gi - 1)
     case measure=>omega
     case rel=>exact ⟨i+1,by simp,by omega,uh HF,(uh HJ).2⟩
  ·have hin':i=n:=by omega
   have HF:Hid ((∀ i' l,l<i'→i'<n→measO n G Ov i 0 i' l=Pl.gm n G l i' l)∧∀ l,l≤n→measV n G V i l=Pl.vol n G l):=⟨fun i' l h1 h2=>measO_at (by omega),fun l hl=>measV_at (by omega)⟩
   go_wp2
   go_end0
   exact ⟨_,_,rfl,(uh HR).1,(uh HR).2,(uh HF).1,(uh HF).2⟩
end Go.Proofs.Ytfaljekgpnbmiaa
