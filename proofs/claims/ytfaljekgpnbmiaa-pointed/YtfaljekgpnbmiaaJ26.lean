/- Joined: XLat12 XLat13 XGrow2 XApp. -/
import Derived.Test.YtfaljekgpnbmiaaJ25
set_option linter.unusedVariables false
set_option linter.unusedSimpArgs false
set_option maxRecDepth 100000
namespace Go.Proofs.Ytfaljekgpnbmiaa
open Go.RowKit Go.Sort
def swR (R:Nat→Nat) (off m r:Nat):Nat:=if r=off+(m+1) then R (off+m) else if r=off+m then R (off+(m+1)) else R r
theorem HeadAt.swap {w w1 w2:World} {g n:Nat} {R:Nat→Nat} {off l m:Nat} (h:HeadAt w g n R off l) (hm:m+1<n) (e1:w1=w.setCell ⟨g,m+1,none⟩ (.slice (some ⟨R (off+m),0,none⟩) l l)) {w1':World} (hg:Grows w1 w1') (e2:w2=w1'.setCell ⟨g,m,none⟩ (.slice (some ⟨R (off+(m+1)),0,none⟩) l l)):HeadAt w2 g n (swR R off m) off l:=by
 obtain ⟨cs,h1,h2⟩:=h
 have b1:=heap_setCell_same w g (m+1) _ _ (.slice (some ⟨R (off+m),0,none⟩) l l) h1
 rw [←e1] at b1
 have b2:=heap_setCell_same w1' g m _ _ (.slice (some ⟨R (off+(m+1)),0,none⟩) l l) (Below.same hg _ _ b1)
 rw [←e2] at b2
 refine ⟨_,b2,fun i hi=>?_⟩
 have hsz:∀ i,i<n→i<cs.size:=fun i hi=>(Array.getElem?_eq_some_iff.1 (h2 i hi)).1
 have hs1:=hsz (m+1) hm
 unfold swR
 by_cases c1:i=m
 ·rw [if_neg (by omega),if_pos (by omega),c1]
  exact Array.getElem?_setIfInBounds_self_of_lt (by simp;omega)
 ·rw [Array.getElem?_setIfInBounds_ne (by omega)]
  by_cases c2:i=m+1
  ·rw [if_pos (by omega),c2]
   exact Array.getElem?_setIfInBounds_self_of_lt hs1
  ·rw [Array.getElem?_setIfInBounds_ne (by omega),if_neg (by omega),if_neg (by omega)]
   exact h2 i hi
theorem HeadAt.congr {w:World} {g n:Nat} {R R':Nat→Nat} {off l:Nat} (h:HeadAt w g n R off l) (he:∀ i,i<n→R (off+i)=R' (off+i)):HeadAt w g n R' off l:=by
 obtain ⟨cs,h1,h2⟩:=h
 exact ⟨cs,h1,fun i hi=>by rw [←he i hi];exact h2 i hi⟩
theorem swR_inj {R:Nat→Nat} {N off m:Nat} (h:∀ r s,r<N→s<N→R r=R s→r=s) (hN:off+(m+1)<N):∀ r s,r<N→s<N→swR R off m r=swR R off m s→r=s:=by
 intro r s hr hs e
 unfold swR at e
 by_cases a1:r=off+(m+1) <;> by_cases a2:r=off+m <;> by_cases b1:s=off+(m+1) <;> by_cases b2:s=off+m
 all_goals
  simp only [a1,a2,b1,b2,if_true,if_false] at e
  first
   | omega
   | ((try rw [if_neg (by omega)] at e);(try rw [if_neg (by omega)] at e);have:=h _ _ (by omega) (by omega) e;omega)
section
variable {P:Nat→Prop} {B:Nat} {w w1 w1' w2:World} {n b gs gp go cs cp co:Nat} {R:Nat→Nat} {St G Ov:Nat→Nat→Int} {V:Nat→Int}
theorem LatMem.list_fam (h:LatMem P B w n b gs gp go cs cp co R St G Ov V) {g:Nat} (hg:∃ c,w.heap[g]?=some (.cells c 73 (0,0))) (o:Nat) (u:Value):Fam P (w.setCell ⟨g,o,none⟩ u) (3*n+1) R (latLen n) (latF n St G Ov V)∧(w.setCell ⟨g,o,none⟩ u).heap[b]?=w.heap[b]?:=by
 obtain ⟨c,hc⟩:=hg
 refine ⟨h.fam.far hc (by decide) (fun r hr e=>?_) o u,Below.heap_setCell _ _ _ _ (fun e=>?_)⟩
 ·obtain ⟨c2,h2⟩:=(h.fam.rows r hr).block
  rw [e,hc] at h2;simp at h2
 ·have:=h.own;rw [e,hc] at this;simp at this
theorem LatMem.swapS (h:LatMem P B w n b gs gp go cs cp co R St G Ov V) {m:Nat} (hm:m+1<n) (e1:w1=w.setCell ⟨gs,m+1,none⟩ (.slice (some ⟨R m,0,none⟩) n n)) (hg:Grows w1 w1') (e2:w2=w1'.setCell ⟨gs,m,none⟩ (.slice (some ⟨R (m+1),0,none⟩) n n)):LatMem P B w2 n b gs gp go cs cp co (swR R 0 m) (fun a=>St (Pl.sw (m+1) a)) G Ov V∧Below B w w2:=by
 have hh:=h.steps.swap (w1:=w1) (w2:=w2) hm (by rw [Nat.zero_add];exact e1) hg (by rw [Nat.zero_add];exact e2)
 obtain ⟨f1,o1⟩:=h.list_fam h.steps.block (m+1) (.slice (some ⟨R m,0,none⟩) n n)
 rw [←e1] at f1 o1
 have p1:HeadAt w1 gp n R n n:=by rw [e1];exact h.prods.far (Ne.symm h.apart.1) _ _
 have q1:HeadAt w1 go n R (2*n) n:=by rw [e1];exact h.over.far (Ne.symm h.apart.2.2) _ _
 obtain ⟨c,hc⟩:=h.steps.block
 have hc1:w1.heap[gs]?=some (.cells (c.setIfInBounds (m+1) (.slice (some ⟨R m,0,none⟩) n n)) 73 (0,0)):=by rw [e1];exact heap_setCell_same w gs (m+1) _ _ _ hc
 have hc3:=Below.same hg _ _ hc1
 have hown:w1'.heap[b]?=some (.cells #[.slice (some ⟨gs,0,none⟩) n cs,.slice (some ⟨gp,0,none⟩) n cp,.slice (some ⟨R (3*n),0,none⟩) (n+1) (n+1),.slice (some ⟨go,0,none⟩) n co] 176 (0,0)):=Below.same hg _ _ (o1.trans h.own)
 have f2:Fam P w2 (3*n+1) R (latLen n) (latF n St G Ov V):=by
  rw [e2]
  refine (f1.grow hg).far hc3 (by decide) (fun r hr e=>?_) _ _
  obtain ⟨c2,h2⟩:=((f1.grow hg).rows r hr).block
  rw [e,hc3] at h2;simp at h2
 have hnb:b≠gs:=fun e=>by rw [e,hc3] at hown;simp at hown
 refine ⟨⟨?_,⟨fun r hr=>?_,swR_inj h.fam.inj (by omega)⟩,hh,?_,?_,h.apart,⟨h.base.1,h.base.2.1,h.base.2.2.1,h.base.2.2.2.1,fun r hr=>?_⟩,h.caps⟩,?_⟩
 ·rw [e2,show swR R 0 m (3*n)=R (3*n) by unfold swR;rw [if_neg (by omega),if_neg (by omega)]]
  exact (Below.heap_setCell _ _ _ _ hnb).trans hown
 ·unfold swR
  by_cases a1:r=0+(m+1)
  ·rw [if_pos a1,Nat.zero_add]
   have:=f2.rows m (by omega)
   unfold latLen at this ⊢
   rw [if_neg (by omega)] at this ⊢
   refine this.congr fun i _=>?_
   unfold latF
   try dsimp only
   rw [if_pos (by omega),if_pos (by omega),a1,Nat.zero_add,Pl.sw_self,Nat.add_sub_cancel]
  ·rw [if_neg a1]
   by_cases a2:r=0+m
   ·rw [if_pos a2,Nat.zero_add]
    have:=f2.rows (m+1) (by omega)
    unfold latLen at this ⊢
    rw [if_neg (by omega)] at this ⊢
    refine this.congr fun i _=>?_
    unfold latF
    try dsimp only
    have e:Pl.sw (m+1) m=m+1:=Pl.sw_pred (k:=m+1) (by omega)
    rw [if_pos (by omega),if_pos (by omega),a2,Nat.zero_add,e]
   ·rw [if_neg a2]
    refine (f2.rows r hr).congr fun i _=>?_
    unfold latF
    try dsimp only
    by_cases h1:r<n
    ·rw [if_pos h1,if_pos h1,Pl.sw_other (by omega) (by omega)]
    ·rw [if_neg h1,if_neg h1]
 ·rw [e2];exact ((p1.grow hg).far (Ne.symm h.apart.1) _ _).congr (fun i hi=>by unfold swR;rw [if_neg (by omega),if_neg (by omega)])
 ·rw [e2];exact ((q1.grow hg).far (Ne.symm h.apart.2.2) _ _).congr (fun i hi=>by unfold swR;rw [if_neg (by omega),if_neg (by omega)])
 ·unfold swR
  split
  ·exact h.base.2.2.2.2 _ (by omega)
  ·split
   ·exact h.base.2.2.2.2 _ (by omega)
   ·exact h.base.2.2.2.2 _ hr
 ·have hB:B≤gs:=h.base.2.1
  have hBw:B≤w1.heap.size:=by have:=lt_of_block (o1.trans h.own);have:=h.base.1;omega
  rw [e2]
  refine Below.setCell (p:=⟨gs,m,none⟩) (Below.trans ?_ (Below.mono hg hBw)) hB _
  rw [e1];exact Below.setCell (p:=⟨gs,m+1,none⟩) (Below.refl _ _) hB _
theorem LatMem.swapP (h:LatMem P B w n b gs gp go cs cp co R St G Ov V) {m:Nat} (hm:m+1<n) (e1:w1=w.setCell ⟨gp,m+1,none⟩ (.slice (some ⟨R (n+m),0,none⟩) n n)) (hg:Grows w1 w1') (e2:w2=w1'.setCell ⟨gp,m,none⟩ (.slice (some ⟨R (n+(m+1)),0,none⟩) n n)):LatMem P B w2 n b gs gp go cs cp co (swR R n m) St (fun a=>G (Pl.sw (m+1) a)) Ov V∧Below B w w2:=by
 have hh:=h.prods.swap hm e1 hg e2
 obtain ⟨f1,o1⟩:=h.list_fam h.prods.block (m+1) (.slice (some ⟨R (n+m),0,none⟩) n n)
 rw [←e1] at f1 o1
 have p1:HeadAt w1 gs n R 0 n:=by rw [e1];exact h.steps.far h.apart.1 _ _
 have q1:HeadAt w1 go n R (2*n) n:=by rw [e1];exact h.over.far (Ne.symm h.apart.2.1) _ _
 obtain ⟨c,hc⟩:=h.prods.block
 have hc1:w1.heap[gp]?=some (.cells (c.setIfInBounds (m+1) (.slice (some ⟨R (n+m),0,none⟩) n n)) 73 (0,0)):=by rw [e1];exact heap_setCell_same w gp (m+1) _ _ _ hc
 have hc3:=Below.same hg _ _ hc1
 have hown:w1'.heap[b]?=some (.cells #[.slice (some ⟨gs,0,none⟩) n cs,.slice (some ⟨gp,0,none⟩) n cp,.slice (some ⟨R (3*n),0,none⟩) (n+1) (n+1),.slice (some ⟨go,0,none⟩) n co] 176 (0,0)):=Below.same hg _ _ (o1.trans h.own)
 have f2:Fam P w2 (3*n+1) R (latLen n) (latF n St G Ov V):=by
  rw [e2]
  refine (f1.grow hg).far hc3 (by decide) (fun r hr e=>?_) _ _
  obtain ⟨c2,h2⟩:=((f1.grow hg).rows r hr).block
  rw [e,hc3] at h2;simp at h2
 have hnb:b≠gp:=fun e=>by rw [e,hc3] at hown;simp at hown
 refine ⟨⟨?_,⟨fun r hr=>?_,swR_inj h.fam.inj (by omega)⟩,?_,hh,?_,h.apart,⟨h.base.1,h.base.2.1,h.base.2.2.1,h.base.2.2.2.1,fun r hr=>?_⟩,h.caps⟩,?_⟩
 ·rw [e2,show swR R n m (3*n)=R (3*n) by unfold swR;rw [if_neg (by omega),if_neg (by omega)]]
  exact (Below.heap_setCell _ _ _ _ hnb).trans hown
 ·unfold swR
  by_cases a1:r=n+(m+1)
  ·rw [if_pos a1]
   have:=f2.rows (n+m) (by omega)
   unfold latLen at this ⊢
   rw [if_neg (by omega)] at this ⊢
   refine this.congr fun i _=>?_
   unfold latF
   try dsimp only
   have e:r - n=m+1:=by omega
   rw [if_neg (by omega),if_pos (by omega),if_neg (by omega),if_pos (by omega),e,Pl.sw_self,Nat.add_sub_cancel,show n+m - n=m by omega]
  ·rw [if_neg a1]
   by_cases a2:r=n+m
   ·rw [if_pos a2]
    have:=f2.rows (n+(m+1)) (by omega)
    unfold latLen at this ⊢
    rw [if_neg (by omega)] at this ⊢
    refine this.congr fun i _=>?_
    unfold latF
    try dsimp only
    have e:Pl.sw (m+1) m=m+1:=Pl.sw_pred (k:=m+1) (by omega)
    have e':r - n=m:=by omega
    rw [if_neg (by omega),if_pos (by omega),if_neg (by omega),if_pos (by omega),e',e,show n+(m+1) - n=m+1 by omega]
   ·rw [if_neg a2]
    refine (f2.rows r hr).congr fun i _=>?_
    unfold latF
    try dsimp only
    by_cases h1:r<n
    ·rw [if_pos h1,if_pos h1]
    ·rw [if_neg h1,if_neg h1]
     by_cases h2:r<2*n
     ·rw [if_pos h2,if_pos h2,Pl.sw_other (by omega) (by omega)]
     ·rw [if_neg h2,if_neg h2]
 ·rw [e2];exact ((p1.grow hg).far h.apart.1 _ _).congr (fun i hi=>by unfold swR;rw [if_neg (by omega),if_neg (by omega)])
 ·rw [e2];exact ((q1.grow hg).far (Ne.symm h.apart.2.1) _ _).congr (fun i hi=>by unfold swR;rw [if_neg (by omega),if_neg (by omega)])
 ·unfold swR
  split
  ·exact h.base.2.2.2.2 _ (by omega)
  ·split
   ·exact h.base.2.2.2.2 _ (by omega)
   ·exact h.base.2.2.2.2 _ hr
 ·have hB:B≤gp:=h.base.2.2.1
  have hBw:B≤w1.heap.size:=by have:=lt_of_block (o1.trans h.own);have:=h.base.1;omega
  rw [e2]
  refine Below.setCell (p:=⟨gp,m,none⟩) (Below.trans ?_ (Below.mono hg hBw)) hB _
  rw [e1];exact Below.setCell (p:=⟨gp,m+1,none⟩) (Below.refl _ _) hB _
end
def colSw (G:Nat→Nat→Int) (m i a b:Nat):Int:=if a<i then G a (Pl.sw (m+1) b) else G a b
theorem colSw_two (G:Nat→Nat→Int) (m i a b:Nat):upd2 (upd2 (colSw G m i) i (m+1) (G i m)) i m (G i (m+1)) a b=colSw G m (i+1) a b:=by
 unfold upd2 colSw
 have e1:Pl.sw (m+1) m=m+1:=Pl.sw_pred (k:=m+1) (by omega)
 have e2:Pl.sw (m+1) (m+1)=m:=by rw [Pl.sw_self];rfl
 by_cases h1:a=i∧b=m
 ·rw [if_pos h1,if_pos (by omega),h1.1,h1.2,e1]
 ·rw [if_neg h1]
  by_cases h2:a=i∧b=m+1
  ·rw [if_pos h2,if_pos (by omega),h2.1,h2.2,e2]
  ·rw [if_neg h2]
   by_cases h3:a<i
   ·rw [if_pos h3,if_pos (by omega)]
   ·rw [if_neg h3]
    by_cases h4:a=i
    ·rw [if_pos (by omega),Pl.sw_other (by omega) (by omega)]
    ·rw [if_neg (by omega)]
set_option maxHeartbeats 2000000 in
theorem exchange_any (P:Nat→Prop) (B n m b gs gp go cs cp co:Nat) (R:Nat→Nat) (St G Ov:Nat→Nat→Int) (V:Nat→Int) (w:World) (h:LatMem P B w n b gs gp go cs cp co R St G Ov V) (hm:m+1<n) (hn:n≤100) :
  Calls Try.prog 162 #[.pointer (some ⟨b,0,none⟩),.int .i64 ((m:Int)+1)] w fun e w'=>∃ R':Nat→Nat,e=.returned (.tuple #[])∧LatMem P B w' n b gs gp go cs cp co R' (fun a=>St (Pl.sw (m+1) a)) (Pl.exG G (m+1)) Ov V∧Below B w w':=by
 have hm0:m<n:=by omega
 obtain ⟨k0,k1,k2,k3⟩:=h.cells
 obtain ⟨s0,_⟩:=h.getS (r:=m+1) (i:=0) hm (by omega)
 obtain ⟨s1,_⟩:=h.getS (r:=m) (i:=0) hm0 (by omega)
 have fz:∀ o,w.frozen? ⟨gs,o,none⟩=false:=fun o=>by obtain ⟨c,hc⟩:=h.steps.block;exact freeOf hc o
 have f0:=fz (m+1)
 have f1:=fz m
 have w1':IntKind.i64.wrap ((m:Int)+1 - 1)=(m:Int):=by rw [IntKind.wrap_i64];omega
 have w2':IntKind.i64.wrap (m:Int)=(m:Int):=by rw [IntKind.wrap_i64];omega
 have w3':(m:Int)+1 - 1=(m:Int):=by omega
 have t1':((m:Int)+1).toNat=m+1:=by omega
 have l1:(m:Int)+1<(n:Int):=by omega
 have l4:(m:Int)<(n:Int):=by omega
 have l6:0≤(m:Int)+1:=by omega
 have hbp:b≠gp:=fun e=>by have h1:=h.own;obtain ⟨c,hc⟩:=h.prods.block;rw [e,hc] at h1;simp at h1
 have hpb:gp≠b:=Ne.symm hbp
 obtain ⟨W1,hW1⟩:∃ W,((w.setCell ⟨gs,m+1,none⟩ (.slice (some ⟨R m,0,none⟩) n n)).setCell ⟨gs,m,none⟩ (.slice (some ⟨R (m+1),0,none⟩) n n)).drew=W:=⟨_,rfl⟩
 have hS:=h.swapS hm rfl (Grows.refl _) rfl
 have HM1:Hid (LatMem P B W1 n b gs gp go cs cp co (swR R 0 m) (fun a=>St (Pl.sw (m+1) a)) G Ov V∧Below B w W1):=by
  unfold Hid
  rw [←hW1]
  exact ⟨hS.1.grow (Below.drew (Below.refl _ _)),Below.drew hS.2⟩
 obtain ⟨j0,j1,_,_⟩:=(uh HM1).1.cells
 obtain ⟨q0,_⟩:=(uh HM1).1.getP (r:=m+1) (i:=0) hm (by omega)
 obtain ⟨q1,_⟩:=(uh HM1).1.getP (r:=m) (i:=0) hm0 (by omega)
 have fz1:∀ o,W1.frozen? ⟨gp,o,none⟩=false:=fun o=>by obtain ⟨c,hc⟩:=(uh HM1).1.prods.block;exact freeOf hc o
 have e0:=fz1 (m+1)
 have e1:=fz1 m
 obtain ⟨RR,hRR⟩:∃ RR,swR R 0 m=RR:=⟨_,rfl⟩
 rw [hRR] at HM1 q0 q1
 obtain ⟨W2,hW2⟩:∃ W,((W1.setCell ⟨gp,m+1,none⟩ (.slice (some ⟨RR (n+m),0,none⟩) n n)).setCell ⟨gp,m,none⟩ (.slice (some ⟨RR (n+(m+1)),0,none⟩) n n)).drew=W:=⟨_,rfl⟩
 have hS2:=(uh HM1).1.swapP hm rfl (Grows.refl _) rfl
 have HM2:Hid (LatMem P B W2 n b gs gp go cs cp co (swR RR n m) (fun a=>St (Pl.sw (m+1) a)) (fun a=>G (Pl.sw (m+1) a)) Ov V∧Below B w W2):=by
  unfold Hid
  rw [←hW2]
  exact ⟨hS2.1.grow (Below.drew (Below.refl _ _)),Below.drew ((uh HM1).2.trans hS2.2)⟩
 obtain ⟨R2,hR2⟩:∃ R2,swR RR n m=R2:=⟨_,rfl⟩
 rw [hR2] at HM2
 obtain ⟨i0,i1,_,_⟩:=(uh HM2).1.cells
 clear h fz fz1 k2 k3 hS hS2 hRR hR2
 go_enter Try.func162,Try.ntmps162
 go_wp2_with fail
 go_region
 go_wp2_with fail
 try rw [hW1]
 go_region
 go_wp2_with fail
 try rw [hW2]
 clear hW1 hW2 k0 k1 s0 s1 f0 f1 j0 j1 q0 q1 e0 e1
 go_loopg [6] n (fun k iv wr=>∃ (i:Nat),iv=.int .i64 i∧i+k=n∧Hid (LatMem P B wr n b gs gp go cs cp co R2 (fun a=>St (Pl.sw (m+1) a)) (colSw (fun a=>G (Pl.sw (m+1) a)) m i) Ov V∧Below B w wr))
 case atStart=>exact ⟨0,rfl,by omega,(uh HM2).1.congr (fun _ _ _ _=>rfl) (fun a b _ _=>by unfold colSw;rw [if_neg (by omega)]) (fun _ _ _ _=>rfl) (fun _ _=>rfl),(uh HM2).2⟩
 case round =>
  clear i0 i1 HM1 HM2
  obtain ⟨i,rfl,hik,HR⟩:=hrel
  obtain ⟨k0,k1,_,_⟩:=(uh HR).1.cells
  by_cases hin:i<n
  ·obtain ⟨s0,px,pa,pm,pc,p0,p1,hp⟩:=(uh HR).1.getP (r:=i) (i:=m+1) hin hm
   obtain ⟨_,qx,qa,qm,qc,q0,q1,hq⟩:=(uh HR).1.getP (r:=i) (i:=m) hin hm0
   unfold colSw at hp hq
   rw [if_neg (by omega)] at hp hq
   have HV:=hide (var_new hp)
   have hg:=Grows.alloc wr (.cells #[.int .i64 px,.slice pa pm pc] 82)
   have hBw:B≤wr.heap.size:=by have h1:=(uh HR).1.base.1;have h2:=lt_of_block (uh HR).1.own;omega
   obtain ⟨W3,hW3⟩:∃ W,wr.alloc (.cells #[.int .i64 px,.slice pa pm pc] 82)=W:=⟨_,rfl⟩
   rw [hW3] at HV hg
   have HM3:=hide ((uh HR).1.grow hg)
   have hS:=(uh HM3).putP (r:=i) (i:=m+1) hin hm (hq.below hg)
   obtain ⟨W4,hW4⟩:∃ W,((W3.setCell ⟨R2 (n+i),(m+1)*2,none⟩ (.int .i64 qx)).setCell ⟨R2 (n+i),(m+1)*2+1,none⟩ (.slice qa qm qc)).drew=W:=⟨_,rfl⟩
   have HM4:Hid (LatMem P B W4 n b gs gp go cs cp co R2 (fun a=>St (Pl.sw (m+1) a)) (upd2 (colSw (fun a=>G (Pl.sw (m+1) a)) m i) i (m+1) (G (Pl.sw (m+1) i) m)) Ov V∧Below B w W4):=by
    unfold Hid
    rw [←hW4]
    exact ⟨hS.1.grow (Below.drew (Below.refl _ _)),Below.drew (((uh HR).2.trans (Below.mono hg hBw)).trans hS.2)⟩
   have hrow:=((uh HM3).fam.rows (n+i) (by omega)).block
   have hRl:=((uh HR).1.fam.rows (n+i) (by omega)).lt
   have HV4:Hid (VarAt P W4 wr.heap.size px pa pm pc (G (Pl.sw (m+1) i) (m+1))):=by
    unfold Hid
    rw [←hW4]
    exact ((uh HV).put hrow (by omega) _ _ _ _).grow (Below.drew (Below.refl _ _))
   have hS4:=(uh HM4).1.putP (r:=i) (i:=m) hin hm0 (uh HV4).val
   have HM5:Hid (LatMem P B ((W4.setCell ⟨R2 (n+i),m*2,none⟩ (.int .i64 px)).setCell ⟨R2 (n+i),m*2+1,none⟩ (.slice pa pm pc)).drew n b gs gp go cs cp co R2 (fun a=>St (Pl.sw (m+1) a)) (colSw (fun a=>G (Pl.sw (m+1) a)) m (i+1)) Ov V∧Below B w ((W4.setCell ⟨R2 (n+i),m*2,none⟩ (.int .i64 px)).setCell ⟨R2 (n+i),m*2+1,none⟩ (.slice pa pm pc)).drew) :=
    ⟨(hS4.1.congr (fun _ _ _ _=>rfl) (fun a b _ _=>colSw_two _ m i a b) (fun _ _ _ _=>rfl) (fun _ _=>rfl)).grow (Below.drew (Below.refl _ _)),Below.drew ((uh HM4).2.trans hS4.2)⟩
   have fz3:∀ o,W3.frozen? ⟨R2 (n+i),o,none⟩=false:=(uh HM3).free (by omega)
   have fz4:∀ o,W4.frozen? ⟨R2 (n+i),o,none⟩=false:=(uh HM4).1.free (by omega)
   have a0:=fz3 ((m+1)*2)
   have a1:=fz3 ((m+1)*2+1)
   have a2:=fz4 (m*2)
   have a3:=fz4 (m*2+1)
   have c0:=hg.cell k1
   have c1:=hg.cell s0
   have c2:=hg.cell q0
   have c3:=hg.cell q1
   have c4:=hg.cell p0
   have c5:=hg.cell p1
   obtain ⟨d0,d1,_,_⟩:=(uh HM4).1.cells
   obtain ⟨d2,dx,da,dm,dc,d3,d4,_⟩:=(uh HM4).1.getP (r:=i) (i:=m) hin hm0
   have d5:=(uh HV4).cells.1
   have d6:=(uh HV4).cells.2.1
   clear hp hq hg hBw hS hrow hRl hS4 fz3 fz4 HV HM3 HM4 HV4
   go_wp2_with fail
   try rw [hW3]
   go_region
   go_wp2_with fail
   try rw [hW4]
   go_region
   go_wp2
   go_roundg (gk - 1)
   case measure=>omega
   case rel=>exact ⟨i+1,by simp,by omega,uh HM5⟩
  ·have hin':i=n:=by omega
   have HF:Hid (LatMem P B wr n b gs gp go cs cp co R2 (fun a=>St (Pl.sw (m+1) a)) (Pl.exG G (m+1)) Ov V):=(uh HR).1.congr (fun _ _ _ _=>rfl) (fun a b ha _=>by unfold colSw;rw [if_pos (by omega)];rfl) (fun _ _ _ _=>rfl) (fun _ _=>rfl)
   go_wp2
   go_end0
   exact ⟨R2,rfl,uh HF,(uh HR).2⟩
section
variable {P:Program} {ops:Array Oper} {md:Region.Mode} {w0:World} {Φ:Tmp→Value→World→Prop} {G:Tmp→Option (Value→Prop)}
def Waits (md:Region.Mode) (ops:Array Oper) (p:Nat):Prop:=∀ listed,Down md ops listed→∀ j,j∈Region.ready md ops listed→p≤j→∀ k,k<p→listed.getD k false=true
def waited2B (md:Region.Mode) (ops:Array Oper) (p:Nat):Bool :=
 decide (ops.size≤p+2)&&((List.range p).all fun k=>(List.range (p+1)).any fun j=>decide (k<j)&&match ops[j]? with
  | none=>false
  | some o=>o.after.any fun e=>e.on == k&&Region.binds md e)&&match ops[p+1]? with
  | none=>true
  | some o=>o.after.any fun e=>e.on == p&&Region.binds md e
theorem chain_listed {p:Nat} (h:((List.range p).all fun k=>(List.range (p+1)).any fun j=>decide (k<j)&&match ops[j]? with
  | none=>false
  | some o=>o.after.any fun e=>e.on == k&&Region.binds md e)=true) {listed:Array Bool} (hD:Down md ops listed) (hpl:∀ o,ops[p]?=some o→∀ e∈o.after,Region.binds md e=true→listed.getD e.on false=true):∀ d k,k<p→p≤k+d→listed.getD k false=true:=by
 intro d
 induction d with
 | zero=>intro k hk hd;omega
 | succ d ih =>
  intro k hk hd
  obtain ⟨j',hj'1,hj'2⟩:=List.any_eq_true.1 (List.all_eq_true.1 h k (List.mem_range.2 hk))
  simp only [Bool.and_eq_true] at hj'2
  have hlt:=of_decide_eq_true hj'2.1
  have hj's:=List.mem_range.1 hj'1
  have h3:=hj'2.2
  cases ho:ops[j']? with
  | none=>simp [ho] at h3
  | some o =>
   simp only [ho] at h3
   obtain ⟨e,he1,he2⟩:=Array.any_eq_true'.1 h3
   simp only [Bool.and_eq_true,beq_iff_eq] at he2
   rcases Nat.lt_or_ge j' p with hp' | hp'
   ·have:=hD j' (ih j' hp' (by omega)) o ho e he1 he2.2
    rw [he2.1] at this;exact this
   ·have ejj:j'=p:=by omega
    subst ejj
    have:=hpl o ho e he1 he2.2
    rw [he2.1] at this;exact this
theorem waited2B.waits {p:Nat} (h:waited2B md ops p=true):Waits md ops p:=by
 intro listed hD j hj hp k hk
 simp only [waited2B,Bool.and_eq_true] at h
 obtain ⟨⟨h1,h2⟩,h3⟩:=h
 obtain ⟨_,oj,hoj,hall⟩:=mem_ready.1 hj
 have hjs:=(Array.getElem?_eq_some_iff.1 hoj).1
 have hsz:=of_decide_eq_true h1
 rcases (show j=p∨j=p+1 by omega) with e|e
 ·subst e
  exact chain_listed h2 hD (fun o ho e he hb=>by rw [hoj] at ho;cases ho;exact hall e he hb) (j - k) k hk (by omega)
 ·subst e
  simp only [hoj] at h3
  obtain ⟨e,he1,he2⟩:=Array.any_eq_true'.1 h3
  simp only [Bool.and_eq_true,beq_iff_eq] at he2
  have hpl:=hall e he1 he2.2
  rw [he2.1] at hpl
  exact chain_listed h2 hD (fun o ho e he hb=>hD p hpl o ho e he hb) (p - k) k hk (by omega)
theorem wpAnyG_first2 {Q:Exit→Act→World→Prop} {p m n:Nat} (hd:dstsB ops n=true) (hw:Waits md ops p) {i:Nat} {oi:Oper} {S:Value→Prop} (hi:ops[i]?=some oi) (hip:i<p) (hsel:∀ (j:Nat) (o:Oper) cs b,ops[j]?=some o→o.op≠.select cs b) :
  ∀ (fuel:Nat) (listed:Array Bool) (a:Act),Down md ops listed →
   (∀ j oj,ops[j]?=some oj→j≠i→listed.getD j true=false→(∀ e∈oj.after,Region.binds md e=true→e.on≠i)→oi.apart ops oj=true) →
   i∈Region.ready md ops listed→Step P md ops w0 Φ G oi a S →
   (∀ v,S v→wpAnyG P md ops w0 Φ G Q p m fuel (listed.setIfInBounds i true) (a.put oi.dst v))→wpAnyG P md ops w0 Φ G Q p m (fuel+1) listed a:=by
 have own:∀ (listed:Array Bool),i∈Region.ready md ops listed→listed.getD i false=true→False:=fun listed hr hl=>by
  have h0:=(mem_ready.1 hr).1
  rcases Nat.lt_or_ge i listed.size with h' | h'
  ·simp [h'] at h0 hl;rw [h0] at hl;cases hl
  ·simp [Array.getElem?_eq_none h'] at hl
 intro fuel
 induction fuel with
 | zero =>
  intro listed a hD _ hr hy H
  refine ⟨fun h=>(by rw [h] at hr;cases hr),fun j hj=>?_⟩
  by_cases hji:j=i
  ·subst hji
   exact ⟨hip,fun o ho=>by rw [hi] at ho;cases ho;exact ⟨S,hy,H⟩⟩
  ·obtain ⟨v0,hv0⟩:=hy.some
   have:=(H v0 hv0).1 j (ready_mono hj hji)
   exact (own listed hr (hw listed hD _ hj this i hip)).elim
 | succ fuel ih =>
  intro listed a hD hfree hr hy H
  refine ⟨fun h=>(by rw [h] at hr;cases hr),fun j hj=>?_⟩
  by_cases hji:j=i
  ·subst hji
   exact ⟨hip,fun o ho=>by rw [hi] at ho;cases ho;exact ⟨S,hy,H⟩⟩
  ·obtain ⟨v0,hv0⟩:=hy.some
   have hrj:=ready_mono hj hji
   refine ⟨((H v0 hv0).2 j hrj).1,fun oj hoj=>?_⟩
   obtain ⟨hjun,oj',hoj',hall⟩:=mem_ready.1 hj
   rw [hoj] at hoj';cases hoj'
   have hnot:∀ e∈oj.after,Region.binds md e=true→e.on≠i:=fun e he hb heq=>by
    have h1:=hall e he hb
    rw [heq] at h1
    exact own listed hr h1
   have hnot':∀ e∈oi.after,Region.binds md e=true→e.on≠j:=fun e he hb heq=>by
    obtain ⟨_,oi',hoi',hall'⟩:=mem_ready.1 hr
    rw [hi] at hoi';cases hoi'
    have h1:=hall' e he hb
    rw [heq] at h1
    rcases Nat.lt_or_ge j listed.size with h' | h'
    ·simp [h'] at hjun h1;rw [hjun] at h1;cases h1
    ·simp [Array.getElem?_eq_none h'] at h1
   have hap:=hfree j oj hoj hji hjun hnot
   obtain ⟨h1,h2,h3⟩:=Oper.apart_spec hap
   have hsi:=fun cs b=>hsel i oi cs b hi
   have hsj:=fun cs b=>hsel j oj cs b hoj
   have back:∀ v S',Step P md ops w0 Φ G oj (a.put oi.dst v) S'→Step P md ops w0 Φ G oj a S':=fun v S' h =>
    h.same (execOp_put oj hsj a oi.dst v h1).symm (wanted_put oj a oi.dst v h1).symm (fun w hf=>(facts_put hd hi hnot).2 hf)
   obtain ⟨Sj,hSj,_⟩:=((H v0 hv0).2 j hrj).2 oj hoj
   refine ⟨Sj,back v0 Sj hSj,fun u hu=>?_⟩
   refine ih (listed.setIfInBounds j true) (a.put oj.dst u) (hD.step hj) ?_ (ready_mono hr (Ne.symm hji)) ?_ ?_
   ·intro k ok hk hki hun hno
    refine hfree k ok hk hki ?_ hno
    by_cases hjk:j=k
    ·subst hjk;exact hjun
    ·rw [getD_set_ne true hjk] at hun;exact hun
   ·exact hy.same (execOp_put oi hsi a oj.dst u h3) (wanted_put oi a oj.dst u h3) (fun w hf=>(facts_put hd hoj hnot').1 hf)
   ·intro v hv
    obtain ⟨Sj',hSj',hK⟩:=((H v hv).2 j hrj).2 oj hoj
    have e:Sj'=Sj:=(back v Sj' hSj').one (back v0 Sj hSj)
    rw [←Act.put_comm a v u h2,Array.setIfInBounds_comm _ _ hji]
    exact hK u (by rw [e];exact hu)
theorem wpAnyG_lex2 {Q:Exit→Act→World→Prop} {p m n:Nat} (hd:dstsB ops n=true) (hw:Waits md ops p) (hs:Region.noSelect ops=true):∀ (l:List Oper) (k:Nat) (a:Act),(∀ j,j<l.length→l[j]?=ops[k+j]?)→k+l.length=p→Down md ops (listedTo ops.size k) →
  lexGB md ops p l.length k (listedTo ops.size k)=true→wpLexG P md ops w0 Φ G (fun a'=>∀ w,Known ops w0 Φ (listedTo ops.size p) a' w→wpAny P md ops Q m (listedTo ops.size p) a' w) l a→wpAnyG P md ops w0 Φ G Q p m l.length (listedTo ops.size k) a
 | [],k,a,_,hkp,_,hB,h=>by
  have:k=p:=by simpa using hkp
  subst this
  exact ⟨fun j hj=>of_decide_eq_true (List.all_eq_true.1 hB j hj),h⟩
 | o::l,k,a,hl,hkp,hD,hB,h=>by
  have h0:ops[k]?=some o:=by simpa using (hl 0 (by simp)).symm
  simp only [List.length_cons,lexGB,Bool.and_eq_true] at hB
  obtain ⟨⟨⟨hr,hf⟩,hp⟩,hB'⟩:=hB
  obtain ⟨S,hy,hK⟩:=h
  have hr':k∈Region.ready md ops (listedTo ops.size k):=by simpa using hr
  refine wpAnyG_first2 hd hw h0 (of_decide_eq_true hp) (Region.noSelect_spec hs) l.length _ a hD (Region.free_spec h0 hf) hr' hy fun v hv=>?_
  exact wpAnyG_lex2 hd hw hs l (k+1) _ (fun j hj=>by have:=hl (j+1) (by simp;omega);simpa [Nat.add_assoc,Nat.add_comm 1 j] using this) (by simp at hkp ⊢;omega) (hD.step hr') hB' (hK v hv)
def tailWp (P:Program) (Q:Exit→Act→World→Prop):List Oper→Act→World→Prop
 | [],a,w=>Q .normal a w
 | o::rest,a,w=>o.wp P a w (fun a w=>tailWp P Q rest a w) Q
def grown2B (ops:Array Oper) (n p:Nat):Bool :=
 Region.noSelect ops&&dstsB ops n&&waited2B .any ops p&&lexGB .any ops p p 0 (listedTo ops.size 0)&&(ops.size == p+2)&&(Region.ready .any ops (listedTo ops.size p) == [p])&&(Region.ready .any ops ((listedTo ops.size p).setIfInBounds p true) == [p+1])&&((ops[p]?).all fun o=>o.guard.isNone)&&((ops[p+1]?).all fun o=>o.guard.isNone)&&(Region.ready .any ops (((listedTo ops.size p).setIfInBounds p true).setIfInBounds (p+1) true)).isEmpty
theorem wp_region_grown2 {id:Nat} {Q:Exit→Act→World→Prop} {a:Act} {l:List Oper} (Φ:Tmp→Value→World→Prop) (G:Tmp→Option (Value→Prop)) (n p:Nat) (hm:P.follows .mixedOrders=true) (hn:a.tmps.size=n)
  (hB:grown2B l.toArray n p=true) (hΦ:∀ t v w w',Φ t v w→Grows w w'→Φ t v w')
  (h:wpLexS P .any l.toArray w0 Φ G (fun last a'=>∀ w,Grows w0 w→(∀ (i:Nat) (o:Oper) (t:Tmp),i<p→l[i]?=some o→o.dst=some t→Φ t (a'.eval (.tmp t)) w)→tailWp P Q (last::l.drop (p+1)) a' w) (l.take (p+1)) a):(Code.region id l.toArray true).wp P Q a w0:=by
 simp only [grown2B,Bool.and_eq_true] at hB
 obtain ⟨⟨⟨⟨⟨⟨⟨⟨⟨hs,hd⟩,hw⟩,hL⟩,hp⟩,hR⟩,hR2⟩,hg⟩,hg2⟩,hE⟩:=hB
 have hsz:l.toArray.size=p+2:=by simpa using hp
 have hlp:l.length=p+2:=by simpa using hsz
 obtain ⟨last,el,h⟩:=h.split
 have htl:(l.take (p+1)).length=p+1:=by simp [hlp]
 have hdl:(l.take (p+1)).dropLast.length=p:=by simp [hlp]
 have hlast:l.toArray[p]?=some last:=by
  have h1:(l.take (p+1))[p]?=some last:=by rw [el,List.getElem?_append_right (by omega)];simp [hlp]
  rw [List.getElem?_take_of_lt (by omega)] at h1
  simpa using h1
 have hpre:∀ j,j<p→(l.take (p+1)).dropLast[j]?=l[j]?:=fun j hj=>by
  rw [List.getElem?_dropLast,if_pos (by omega),List.getElem?_take_of_lt (by omega)]
 obtain ⟨fin,hfin⟩:∃ fin,l.drop (p+1)=[fin]:=by
  have:(l.drop (p+1)).length=1:=by simp [hlp]
  exact List.length_eq_one_iff.1 this
 have hfin2:l.toArray[p+1]?=some fin:=by
  have:(l.drop (p+1))[0]?=some fin:=by rw [hfin];rfl
  rw [List.getElem?_drop] at this
  simpa using this
 refine wp_region_any hm ?_
 rw [hsz]
 refine wpAny_of_grown (G:=G) (m:=2) (p:=p) (n:=n) hd hΦ p (listedTo (p+2) 0) a _ hn ⟨Grows.draw w0,fun i hi=>?_⟩ ?_
 ·by_cases h:i<p+2 <;> simp [h,listedTo] at hi
 ·have:=wpAnyG_lex2 (P:=P) (Q:=Q) (m:=2) (w0:=w0) (Φ:=Φ) (G:=G) (md:=.any) (ops:=l.toArray) (p:=p) hd (waited2B.waits hw) hs (l.take (p+1)).dropLast 0 a (fun j hj=>by rw [Nat.zero_add,List.getElem?_toArray];exact hpre j (by omega)) (by omega) (by rw [hsz];exact down_none _) (by rw [hdl];exact hL) ?_
  ·rw [hsz,hdl] at this;exact this
  ·refine wpLexG.mono (n:=n) (fun a' hn' hb w hk=>?_) hn h
   have h1:=hb w hk.grows (fun i o t hi ho ht=>hk.phi i (listedTo_true _ p i hi (by omega)).1 o t (by simpa using ho) ht)
   have hR':Region.ready .any l.toArray (listedTo l.toArray.size p)=[p]:=by simpa using hR
   have hR2':Region.ready .any l.toArray ((listedTo l.toArray.size p).setIfInBounds p true)=[p+1]:=by simpa using hR2
   rw [hfin] at h1
   refine ⟨fun h0=>(by rw [hR'] at h0;cases h0),fun i hi=>?_⟩
   rw [hR',List.mem_singleton] at hi
   subst hi
   unfold wpOp
   simp only [hlast]
   have hgn:last.guard=none:=by
    have:=hg;simp only [hlast,Option.all_some] at this;simpa using this
   have hwn:Region.wanted last (yielded l.toArray a'.tmps)=true:=by simp [Region.wanted,hgn]
   simp only [hwn,if_true]
   refine .inl (Oper.wp_mono (fun a'' w'' hq=>?_) h1)
   refine ⟨fun h0=>(by rw [hR2'] at h0;cases h0),fun i hi=>?_⟩
   rw [hR2',List.mem_singleton] at hi
   subst hi
   unfold wpOp
   simp only [hfin2]
   have hgn2:fin.guard=none:=by
    have:=hg2;simp only [hfin2,Option.all_some] at this;simpa using this
   have hwn2:Region.wanted fin (yielded l.toArray a''.tmps)=true:=by simp [Region.wanted,hgn2]
   simp only [hwn2,if_true]
   refine .inl (Oper.wp_mono (fun a3 w3 hq=>⟨?_,hq⟩) hq)
   exact List.isEmpty_iff.1 hE
end
theorem RowAt.keepT {P:Nat→Prop} {w w':World} {v:Value} {l:List Int} (h:RowAt P w v l) (h1:KeepT 82 w w') (h2:KeepT 3 w w'):RowAt P w' v l:=by
 obtain ⟨ad,cap,rfl,hc,h⟩:=h
 refine ⟨ad,cap,rfl,hc,fun i hi=>?_⟩
 obtain ⟨g,off,x,a,m,c,e,c1,c2,hw,hp,cs',hcs⟩:=h i hi
 have hs:=h1 g cs' hcs
 exact ⟨g,off,x,a,m,c,e,by rw [cellsOf (hs.trans hcs),←cellsOf hcs];exact c1,by rw [cellsOf (hs.trans hcs),←cellsOf hcs];exact c2,hw.keep h2,hp,cs',hs.trans hcs⟩
def RowsOwn (P:Nat→Prop) (B:Nat) (w:World) (v:Value) (ls:List (List Int)):Prop:=∃ xs,w.ownsRow B 73 1 v ls.length xs∧RowsX P w xs ls
theorem RowsOwn.rows {P:Nat→Prop} {B:Nat} {w:World} {v:Value} {ls:List (List Int)} (h:RowsOwn P B w v ls) (hP:∀ g,B≤g→P g):RowsAt P w v ls:=by
 obtain ⟨xs,h1,h2⟩:=h
 exact h2.rows h1 hP
theorem RowsOwn.grow {P:Nat→Prop} {B:Nat} {w w':World} {v:Value} {ls:List (List Int)} (h:RowsOwn P B w v ls) (hg:Grows w w'):RowsOwn P B w' v ls:=by
 obtain ⟨xs,h1,h2⟩:=h
 exact ⟨xs,own_keep h1 (.of_below hg),h2.grow (.of_below hg)⟩
theorem RowsOwn.nil (P:Nat→Prop) (B:Nat) (w:World):RowsOwn P B w (.slice none 0 0) []:=⟨[],⟨rfl,.inl ⟨rfl,rfl⟩⟩,.nil P w⟩
theorem RowsOwn.len {P:Nat→Prop} {B:Nat} {w:World} {a:Option Addr} {n c:Nat} {ls:List (List Int)} (h:RowsOwn P B w (.slice a n c) ls):n=ls.length:=by
 obtain ⟨xs,h1,_⟩:=h
 rcases h1.2 with ⟨e,h0⟩|⟨g,cap,cur,e,_⟩
 ·cases e;exact h0.symm
 ·cases e;rfl
theorem RowsX.keepT {P:Nat→Prop} {w w':World} {xs:List Value} {ls:List (List Int)} (h:RowsX P w xs ls) (h1:KeepT 82 w w') (h2:KeepT 3 w w'):RowsX P w' xs ls :=
 ⟨h.len,fun i hi=>by obtain ⟨u,d1,d3⟩:=h.at_ i hi;exact ⟨u,d1,d3.keepT h1 h2⟩⟩
theorem RowsOwn.keepT {P:Nat→Prop} {B:Nat} {w w':World} {v:Value} {ls:List (List Int)} (h:RowsOwn P B w v ls) (h0:KeepT 73 w w') (h1:KeepT 82 w w') (h2:KeepT 3 w w'):RowsOwn P B w' v ls:=by
 obtain ⟨xs,d1,d2⟩:=h
 exact ⟨xs,own_keep d1 h0,d2.keepT h1 h2⟩
theorem wp_append_row {P:Nat→Prop} {o:Oper} {a:Act} {w:World} {K:Act→World→Prop} {Q:Exit→Act→World→Prop} (s x:Operand)
  (ho:o.op=.call { callee:=.builtin .append,args:=#[s,x],argTypes:=#[76,76] })
  (B:Nat) (v:Value) (ls:List (List Int)) (row:List Int) (u:Value) (hs:a.eval s=v) (h:RowsOwn P B w v ls) (gx c:Nat) (hx:a.eval x=.slice (some ⟨gx,0,none⟩) 1 c) (hblk:w.heap[gx]?=some (.cells #[u] 73 (0,0))) (hu:RowAt P w u row) (hn:ls.length≤1000000) (hB:B≤w.heap.size)
  (hK:∀ g cap w',RowsOwn P B w' (.slice (some ⟨g,0,none⟩) (ls.length+1) cap) (ls++[row])→Below B w w'→(∀ e:TypeId,73≠e→KeepT e w w')→K (a.put o.dst (.slice (some ⟨g,0,none⟩) (ls.length+1) cap)) w'):o.wp Try.prog a w K Q:=by
 obtain ⟨i0,hi0,hz0,hz1,hz2⟩:=info_parts Try.infoRow
 obtain ⟨xs,h1,h2⟩:=h
 obtain ⟨ua,un,uc,rfl⟩:=hu.shapeS
 refine wp_append_lies w s x 76 ho B 73 i0 (.slice none 0 0) 1 24 Try.underlying76 hi0 hz0 hz1 hz2 rfl (by decide) v ls.length xs hs h1 ⟨gx,0,none⟩ 1 c [.slice ua un uc] hx rfl (fun j u hu=>World.news_of_block hblk j u hu) (by simp [Value.oneCell']) (by decide) (by unfold maxLen;omega) (by omega) hB _ rfl fun g cap w' d1 d2 _ _=>?_
 have kt:∀ e:TypeId,73≠e→KeepT e w w':=fun e he=>KeepT.grown h1 d2 he
 refine hK g cap w' ⟨xs++[.slice ua un uc],by rw [List.length_append];exact d1,?_⟩ (Below.grown (Below.refl _ _) d2 hB (own_base h1)) kt
 exact (h2.keepT (kt _ (by decide)) (kt _ (by decide))).snoc (hu.keepT (kt _ (by decide)) (kt _ (by decide)))
def FreshRow (P:Nat→Prop) (row:List Int) (v:Value) (w:World):Prop:=∃ g u,v=.slice (some ⟨g,0,none⟩) 1 1∧w.heap[g]?=some (.cells #[u] 73 (0,0))∧RowAt P w u row
theorem FreshRow.grow {P:Nat→Prop} {row:List Int} {v:Value} {w w':World} (h:FreshRow P row v w) (hg:Grows w w'):FreshRow P row v w':=by
 obtain ⟨g,u,e,h1,h2⟩:=h
 exact ⟨g,u,e,Below.same hg _ _ h1,h2.below hg⟩
def Shape1 (v:Value):Prop:=∃ g,v=.slice (some ⟨g,0,none⟩) 1 1
theorem Shape1.some:∃ v,Shape1 v:=⟨_,0,rfl⟩
theorem FreshRow.new {P:Nat→Prop} {row:List Int} {u:Value} {w:World} (h:RowAt P w u row):FreshRow P row (.slice (some ⟨w.heap.size,0,none⟩) 1 1) (w.alloc (.cells #[u] 73)):=⟨_,u,rfl,slot_one _ _,h.below (Grows.alloc _ _)⟩
def NumsOwn (P:Nat→Prop) (B:Nat) (w:World) (v:Value) (l:List Int):Prop:=∃ xs,w.ownsRow B 82 2 v l.length xs∧RowX P w xs l
theorem NumsOwn.row {P:Nat→Prop} {B:Nat} {w:World} {v:Value} {l:List Int} (h:NumsOwn P B w v l) (hP:∀ g,B≤g→P g):RowAt P w v l:=by
 obtain ⟨xs,h1,h2⟩:=h
 exact h2.row h1 hP
theorem NumsOwn.grow {P:Nat→Prop} {B:Nat} {w w':World} {v:Value} {l:List Int} (h:NumsOwn P B w v l) (hg:Grows w w'):NumsOwn P B w' v l:=by
 obtain ⟨xs,h1,h2⟩:=h
 exact ⟨xs,own_keep h1 (.of_below hg),h2.grow hg⟩
theorem NumsOwn.nil (P:Nat→Prop) (B:Nat) (w:World):NumsOwn P B w (.slice none 0 0) []:=⟨[],⟨rfl,.inl ⟨rfl,rfl⟩⟩,.nil P w⟩
theorem RowX.keepT {P:Nat→Prop} {w w':World} {xs:List Value} {l:List Int} (h:RowX P w xs l) (h2:KeepT 3 w w'):RowX P w' xs l :=
 ⟨h.len,fun i hi=>by obtain ⟨x,a,m,c,d1,d2,d3⟩:=h.at_ i hi;exact ⟨x,a,m,c,d1,d2,d3.keep h2⟩⟩
end Go.Proofs.Ytfaljekgpnbmiaa
