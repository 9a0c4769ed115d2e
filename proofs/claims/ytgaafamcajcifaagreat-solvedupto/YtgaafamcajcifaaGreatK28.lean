/- Joined: XLat12 XLat13 XApp XLat14. -/
import Derived.Test.YtgaafamcajcifaaGreatK07
import Derived.Test.YtgaafamcajcifaaGreatK24
import Derived.Test.YtgaafamcajcifaaGreatK27
set_option linter.unusedVariables false
set_option linter.unusedSimpArgs false
set_option maxRecDepth 100000
namespace Go.Proofs.YtgaafamcajcifaaGreat
open Go.RowKit Go.Sort
def Cv (R:Nat->Nat) (off m r:Nat):Nat:=if r=off+(m+1) then R (off+m) else if r=off+m then R (off+(m+1)) else R r
theorem dM.swap {w w1 w2:World} {g n:Nat} {R:Nat->Nat} {off l m:Nat} (h:dM w g n R off l) (hm:m+1<n) (e1:w1=w.setCell ⟨g,m+1,none⟩ (.slice (some ⟨R (off+m),0,none⟩) l l)) {w1':World} (hg:ae w1 w1') (e2:w2=w1'.setCell ⟨g,m,none⟩ (.slice (some ⟨R (off+(m+1)),0,none⟩) l l)):dM w2 g n (Cv R off m) off l:=by
 obtain ⟨cs,h1,h2⟩:=h;have b1:=j_ w g (m+1) _ _ (.slice (some ⟨R (off+m),0,none⟩) l l) h1;rw [<-e1] at b1;have b2:=j_ w1' g m _ _ (.slice (some ⟨R (off+(m+1)),0,none⟩) l l) (Below.same hg _ _ b1);rw [<-e2] at b2;refine ⟨_,b2,λi hi=>?_⟩;have hsz:∀ i,i<n->i<cs.size:=λi hi=>(aaY.1 (h2 i hi)).1;have hs1:=hsz (m+1) hm;unfold Cv;by_cases c1:i=m
 ·rw [g_ (by omega),h_ (by omega),c1];exact P_ (by simp;omega)
 ·rw [K_ (by omega)];by_cases c2:i=m+1
  ·rw [h_ (by omega),c2];exact P_ hs1
  ·rw [K_ (by omega),g_ (by omega),g_ (by omega)];exact h2 i hi
theorem dM.congr {w:World} {g n:Nat} {R R':Nat->Nat} {off l:Nat} (h:dM w g n R off l) (he:∀ i,i<n->R (off+i)=R' (off+i)):dM w g n R' off l:=by
 obtain ⟨cs,h1,h2⟩:=h;exact ⟨cs,h1,λi hi=>by rw [<-he i hi];exact h2 i hi⟩
theorem K4 {R:Nat->Nat} {N off m:Nat} (h:∀ r s,r<N->s<N->R r=R s->r=s) (hN:off+(m+1)<N):∀ r s,r<N->s<N->Cv R off m r=Cv R off m s->r=s:=by
 intro r s hr hs e;unfold Cv at e;by_cases a1:r=off+(m+1) <;> by_cases a2:r=off+m <;> by_cases b1:s=off+(m+1) <;> by_cases b2:s=off+m
 all_goals
  simp only [a1,a2,b1,b2,if_true,if_false] at e
  first
   | omega
   | ((try rw [g_ (by omega)] at e);(try rw [g_ (by omega)] at e);have:=h _ _ (by omega) (by omega) e;omega)
section
variable {P:Nat->Prop} {B:Nat} {w w1 w1' w2:World} {n b gs gp go cs cp co:Nat} {R:Nat->Nat} {St G Ov:Nat->Nat->Int} {V:Nat->Int}
theorem bf.G8 (h:bf P B w n b gs gp go cs cp co R St G Ov V) {g:Nat} (hg:∃ c,w.heap[g]?=some (.cells c 69 (0,0))) (o:Nat) (u:Value):sF P (w.setCell ⟨g,o,none⟩ u) (3*n+1) R (iN n) (pq n St G Ov V)∧(w.setCell ⟨g,o,none⟩ u).heap[b]?=w.heap[b]?:=by
 obtain ⟨c,hc⟩:=hg;refine ⟨h.oL.uq hc (by decide) (λr hr e=>?_) o u,l_ _ _ _ _ (λe=>?_)⟩
 ·obtain ⟨c2,h2⟩:=(h.oL.rows r hr).block;rw [e,hc] at h2;simp at h2
 ·have:=h.own;rw [e,hc] at this;simp at this
theorem bf.Yx (h:bf P B w n b gs gp go cs cp co R St G Ov V) {m:Nat} (hm:m+1<n) (e1:w1=w.setCell ⟨gs,m+1,none⟩ (.slice (some ⟨R m,0,none⟩) n n)) (hg:ae w1 w1') (e2:w2=w1'.setCell ⟨gs,m,none⟩ (.slice (some ⟨R (m+1),0,none⟩) n n)):bf P B w2 n b gs gp go cs cp co (Cv R 0 m) (λa=>St (Pl.sw (m+1) a)) G Ov V∧Below B w w2:=by
 have hh:=h.steps.swap (w1:=w1) (w2:=w2) hm (by rw [M_];exact e1) hg (by rw [M_];exact e2);obtain ⟨f1,o1⟩:=h.G8 h.steps.block (m+1) (.slice (some ⟨R m,0,none⟩) n n);rw [<-e1] at f1 o1;have p1:dM w1 gp n R n n:=by rw [e1];exact h.uY.uq (aaQ h.apart.1) _ _
 have q1:dM w1 go n R (2*n) n:=by rw [e1];exact h.over.uq (aaQ h.apart.2.2) _ _
 obtain ⟨c,hc⟩:=h.steps.block;have hc1:w1.heap[gs]?=some (.cells (c.setIfInBounds (m+1) (.slice (some ⟨R m,0,none⟩) n n)) 69 (0,0)):=by rw [e1];exact j_ w gs (m+1) _ _ _ hc
 have hc3:=Below.same hg _ _ hc1;have hown:w1'.heap[b]?=some (.cells #[.slice (some ⟨gs,0,none⟩) n cs,.slice (some ⟨gp,0,none⟩) n cp,.slice (some ⟨R (3*n),0,none⟩) (n+1) (n+1),.slice (some ⟨go,0,none⟩) n co] 134 (0,0)):=Below.same hg _ _ (o1.trans h.own);have f2:sF P w2 (3*n+1) R (iN n) (pq n St G Ov V):=by
  rw [e2];refine (f1.grow hg).uq hc3 (by decide) (λr hr e=>?_) _ _;obtain ⟨c2,h2⟩:=((f1.grow hg).rows r hr).block;rw [e,hc3] at h2;simp at h2
 have hnb:b≠gs:=λe=>by rw [e,hc3] at hown;simp at hown
 refine ⟨⟨?_,⟨λr hr=>?_,K4 h.oL.inj (by omega)⟩,hh,?_,?_,h.apart,⟨h.base.1,h.base.2.1,h.base.2.2.1,h.base.2.2.2.1,λr hr=>?_⟩,h.MW⟩,?_⟩
 ·rw [e2,show Cv R 0 m (3*n)=R (3*n) by unfold Cv;rw [g_ (by omega),g_ (by omega)]];exact (l_ _ _ _ _ hnb).trans hown
 ·unfold Cv;by_cases a1:r=0+(m+1)
  ·rw [h_ a1,M_];have:=f2.rows m (by omega);unfold iN at this ⊢;rw [g_ (by omega)] at this ⊢;refine this.congr λi _=>?_;unfold pq
   try dsimp only
   rw [h_ (by omega),h_ (by omega),a1,M_,Pl.qN,Nat.add_sub_cancel]
  ·rw [g_ a1];by_cases a2:r=0+m
   ·rw [h_ a2,M_];have:=f2.rows (m+1) (by omega);unfold iN at this ⊢;rw [g_ (by omega)] at this ⊢;refine this.congr λi _=>?_;unfold pq
    try dsimp only
    have e:Pl.sw (m+1) m=m+1:=Pl.pz (k:=m+1) (by omega);rw [h_ (by omega),h_ (by omega),a2,M_,e]
   ·rw [g_ a2];refine (f2.rows r hr).congr λi _=>?_;unfold pq
    try dsimp only
    by_cases h1:r<n
    ·rw [h_ h1,h_ h1,Pl.mo (by omega) (by omega)]
    ·rw [g_ h1,g_ h1]
 ·rw [e2];exact ((p1.grow hg).uq (aaQ h.apart.1) _ _).congr (λi hi=>by unfold Cv;rw [g_ (by omega),g_ (by omega)])
 ·rw [e2];exact ((q1.grow hg).uq (aaQ h.apart.2.2) _ _).congr (λi hi=>by unfold Cv;rw [g_ (by omega),g_ (by omega)])
 ·unfold Cv
  split
  ·exact h.base.2.2.2.2 _ (by omega)
  ·split
   ·exact h.base.2.2.2.2 _ (by omega)
   ·exact h.base.2.2.2.2 _ hr
 ·have hB:B<=gs:=h.base.2.1;have hBw:B<=w1.heap.size:=by have:=z_ (o1.trans h.own);have:=h.base.1;omega
  rw [e2];refine B_ (p:=⟨gs,m,none⟩) (aa2 ?_ (aam hg hBw)) hB _;rw [e1];exact B_ (p:=⟨gs,m+1,none⟩) (n_ _ _) hB _
theorem bf.Yy (h:bf P B w n b gs gp go cs cp co R St G Ov V) {m:Nat} (hm:m+1<n) (e1:w1=w.setCell ⟨gp,m+1,none⟩ (.slice (some ⟨R (n+m),0,none⟩) n n)) (hg:ae w1 w1') (e2:w2=w1'.setCell ⟨gp,m,none⟩ (.slice (some ⟨R (n+(m+1)),0,none⟩) n n)):bf P B w2 n b gs gp go cs cp co (Cv R n m) St (λa=>G (Pl.sw (m+1) a)) Ov V∧Below B w w2:=by
 have hh:=h.uY.swap hm e1 hg e2;obtain ⟨f1,o1⟩:=h.G8 h.uY.block (m+1) (.slice (some ⟨R (n+m),0,none⟩) n n);rw [<-e1] at f1 o1;have p1:dM w1 gs n R 0 n:=by rw [e1];exact h.steps.uq h.apart.1 _ _
 have q1:dM w1 go n R (2*n) n:=by rw [e1];exact h.over.uq (aaQ h.apart.2.1) _ _
 obtain ⟨c,hc⟩:=h.uY.block;have hc1:w1.heap[gp]?=some (.cells (c.setIfInBounds (m+1) (.slice (some ⟨R (n+m),0,none⟩) n n)) 69 (0,0)):=by rw [e1];exact j_ w gp (m+1) _ _ _ hc
 have hc3:=Below.same hg _ _ hc1;have hown:w1'.heap[b]?=some (.cells #[.slice (some ⟨gs,0,none⟩) n cs,.slice (some ⟨gp,0,none⟩) n cp,.slice (some ⟨R (3*n),0,none⟩) (n+1) (n+1),.slice (some ⟨go,0,none⟩) n co] 134 (0,0)):=Below.same hg _ _ (o1.trans h.own);have f2:sF P w2 (3*n+1) R (iN n) (pq n St G Ov V):=by
  rw [e2];refine (f1.grow hg).uq hc3 (by decide) (λr hr e=>?_) _ _;obtain ⟨c2,h2⟩:=((f1.grow hg).rows r hr).block;rw [e,hc3] at h2;simp at h2
 have hnb:b≠gp:=λe=>by rw [e,hc3] at hown;simp at hown
 refine ⟨⟨?_,⟨λr hr=>?_,K4 h.oL.inj (by omega)⟩,?_,hh,?_,h.apart,⟨h.base.1,h.base.2.1,h.base.2.2.1,h.base.2.2.2.1,λr hr=>?_⟩,h.MW⟩,?_⟩
 ·rw [e2,show Cv R n m (3*n)=R (3*n) by unfold Cv;rw [g_ (by omega),g_ (by omega)]];exact (l_ _ _ _ _ hnb).trans hown
 ·unfold Cv;by_cases a1:r=n+(m+1)
  ·rw [h_ a1];have:=f2.rows (n+m) (by omega);unfold iN at this ⊢;rw [g_ (by omega)] at this ⊢;refine this.congr λi _=>?_;unfold pq
   try dsimp only
   have e:r - n=m+1:=by omega
   rw [g_ (by omega),h_ (by omega),g_ (by omega),h_ (by omega),e,Pl.qN,Nat.add_sub_cancel,show n+m - n=m by omega]
  ·rw [g_ a1];by_cases a2:r=n+m
   ·rw [h_ a2];have:=f2.rows (n+(m+1)) (by omega);unfold iN at this ⊢;rw [g_ (by omega)] at this ⊢;refine this.congr λi _=>?_;unfold pq
    try dsimp only
    have e:Pl.sw (m+1) m=m+1:=Pl.pz (k:=m+1) (by omega);have e':r - n=m:=by omega
    rw [g_ (by omega),h_ (by omega),g_ (by omega),h_ (by omega),e',e,show n+(m+1) - n=m+1 by omega]
   ·rw [g_ a2];refine (f2.rows r hr).congr λi _=>?_;unfold pq
    try dsimp only
    by_cases h1:r<n
    ·rw [h_ h1,h_ h1]
    ·rw [g_ h1,g_ h1];by_cases h2:r<2*n
     ·rw [h_ h2,h_ h2,Pl.mo (by omega) (by omega)]
     ·rw [g_ h2,g_ h2]
 ·rw [e2];exact ((p1.grow hg).uq h.apart.1 _ _).congr (λi hi=>by unfold Cv;rw [g_ (by omega),g_ (by omega)])
 ·rw [e2];exact ((q1.grow hg).uq (aaQ h.apart.2.1) _ _).congr (λi hi=>by unfold Cv;rw [g_ (by omega),g_ (by omega)])
 ·unfold Cv
  split
  ·exact h.base.2.2.2.2 _ (by omega)
  ·split
   ·exact h.base.2.2.2.2 _ (by omega)
   ·exact h.base.2.2.2.2 _ hr
 ·have hB:B<=gp:=h.base.2.2.1;have hBw:B<=w1.heap.size:=by have:=z_ (o1.trans h.own);have:=h.base.1;omega
  rw [e2];refine B_ (p:=⟨gp,m,none⟩) (aa2 ?_ (aam hg hBw)) hB _;rw [e1];exact B_ (p:=⟨gp,m+1,none⟩) (n_ _ _) hB _
end
def yN (G:Nat->Nat->Int) (m i a b:Nat):Int:=if a<i then G a (Pl.sw (m+1) b) else G a b
theorem MX (G:Nat->Nat->Int) (m i a b:Nat):lK (lK (yN G m i) i (m+1) (G i m)) i m (G i (m+1)) a b=yN G m (i+1) a b:=by
 unfold lK yN;have e1:Pl.sw (m+1) m=m+1:=Pl.pz (k:=m+1) (by omega);have e2:Pl.sw (m+1) (m+1)=m:=by rw [Pl.qN];rfl
 by_cases h1:a=i∧b=m
 ·rw [h_ h1,h_ (by omega),h1.1,h1.2,e1]
 ·rw [g_ h1];by_cases h2:a=i∧b=m+1
  ·rw [h_ h2,h_ (by omega),h2.1,h2.2,e2]
  ·rw [g_ h2];by_cases h3:a<i
   ·rw [h_ h3,h_ (by omega)]
   ·rw [g_ h3];by_cases h4:a=i
    ·rw [h_ (by omega),Pl.mo (by omega) (by omega)]
    ·rw [g_ (by omega)]
set_option maxHeartbeats 2000000 in
theorem FI (P:Nat->Prop) (B n m b gs gp go cs cp co:Nat) (R:Nat->Nat) (St G Ov:Nat->Nat->Int) (V:Nat->Int) (w:World) (h:bf P B w n b gs gp go cs cp co R St G Ov V) (hm:m+1<n) (hn:n<=100) :
  Calls Tryz.prog 96 #[.pointer (some ⟨b,0,none⟩),.int .i64 ((m:Int)+1)] w λe w'=>∃ R':Nat->Nat,e=.returned (.tuple #[])∧bf P B w' n b gs gp go cs cp co R' (λa=>St (Pl.sw (m+1) a)) (Pl.zw G (m+1)) Ov V∧Below B w w':=by
 have hm0:m<n:=by omega
 obtain ⟨k0,k1,k2,k3⟩:=h.cells;obtain ⟨s0,_⟩:=h.R9 (r:=m+1) (i:=0) hm (by omega);obtain ⟨s1,_⟩:=h.R9 (r:=m) (i:=0) hm0 (by omega);have fz:∀ o,w.frozen? ⟨gs,o,none⟩=false:=λo=>by obtain ⟨c,hc⟩:=h.steps.block;exact aH hc o
 have f0:=fz (m+1);have f1:=fz m;have w1':IntKind.i64.wrap ((m:Int)+1 - 1)=(m:Int):=by rw [aaA];omega
 have w2':IntKind.i64.wrap (m:Int)=(m:Int):=by rw [aaA];omega
 have w3':(m:Int)+1 - 1=(m:Int):=by omega
 have t1':((m:Int)+1).toNat=m+1:=by omega
 have l1:(m:Int)+1<(n:Int):=by omega
 have l4:(m:Int)<(n:Int):=by omega
 have l6:0<=(m:Int)+1:=by omega
 have hbp:b≠gp:=λe=>by have h1:=h.own;obtain ⟨c,hc⟩:=h.uY.block;rw [e,hc] at h1;simp at h1
 have hpb:gp≠b:=aaQ hbp;obtain ⟨W1,hW1⟩:∃ W,((w.setCell ⟨gs,m+1,none⟩ (.slice (some ⟨R m,0,none⟩) n n)).setCell ⟨gs,m,none⟩ (.slice (some ⟨R (m+1),0,none⟩) n n)).drew=W:=⟨_,rfl⟩;have hS:=h.Yx hm rfl (ae.refl _) rfl;have KP:Hid (bf P B W1 n b gs gp go cs cp co (Cv R 0 m) (λa=>St (Pl.sw (m+1) a)) G Ov V∧Below B w W1):=by
  unfold Hid;rw [<-hW1];exact ⟨hS.1.grow (aaF (n_ _ _)),aaF hS.2⟩
 obtain ⟨j0,j1,_,_⟩:=(uh KP).1.cells;obtain ⟨q0,_⟩:=(uh KP).1.DV (r:=m+1) (i:=0) hm (by omega);obtain ⟨q1,_⟩:=(uh KP).1.DV (r:=m) (i:=0) hm0 (by omega);have fz1:∀ o,W1.frozen? ⟨gp,o,none⟩=false:=λo=>by obtain ⟨c,hc⟩:=(uh KP).1.uY.block;exact aH hc o
 have e0:=fz1 (m+1);have e1:=fz1 m;obtain ⟨RR,hRR⟩:∃ RR,Cv R 0 m=RR:=⟨_,rfl⟩;rw [hRR] at KP q0 q1;obtain ⟨W2,hW2⟩:∃ W,((W1.setCell ⟨gp,m+1,none⟩ (.slice (some ⟨RR (n+m),0,none⟩) n n)).setCell ⟨gp,m,none⟩ (.slice (some ⟨RR (n+(m+1)),0,none⟩) n n)).drew=W:=⟨_,rfl⟩;have hS2:=(uh KP).1.Yy hm rfl (ae.refl _) rfl;have Fb:Hid (bf P B W2 n b gs gp go cs cp co (Cv RR n m) (λa=>St (Pl.sw (m+1) a)) (λa=>G (Pl.sw (m+1) a)) Ov V∧Below B w W2):=by
  unfold Hid;rw [<-hW2];exact ⟨hS2.1.grow (aaF (n_ _ _)),aaF ((uh KP).2.trans hS2.2)⟩
 obtain ⟨R2,hR2⟩:∃ R2,Cv RR n m=R2:=⟨_,rfl⟩;rw [hR2] at Fb;obtain ⟨i0,i1,_,_⟩:=(uh Fb).1.cells;clear h fz fz1 k2 k3 hS hS2 hRR hR2;go_enter Tryz.func96,Tryz.ntmps96;go_wp2_with fail;go_region;go_wp2_with fail
 try rw [hW1]
 go_region;go_wp2_with fail
 try rw [hW2]
 clear hW1 hW2 k0 k1 s0 s1 f0 f1 j0 j1 q0 q1 e0 e1;go_loopg [6] n (λk iv wr=>∃ (i:Nat),iv=.int .i64 i∧i+k=n∧Hid (bf P B wr n b gs gp go cs cp co R2 (λa=>St (Pl.sw (m+1) a)) (yN (λa=>G (Pl.sw (m+1) a)) m i) Ov V∧Below B w wr))
 case atStart=>exact ⟨0,rfl,by omega,(uh Fb).1.congr (λ_ _ _ _=>rfl) (λa b _ _=>by unfold yN;rw [g_ (by omega)]) (λ_ _ _ _=>rfl) (λ_ _=>rfl),(uh Fb).2⟩
 case round =>
  clear i0 i1 KP Fb;obtain ⟨i,rfl,hik,HR⟩:=hrel;obtain ⟨k0,k1,_,_⟩:=(uh HR).1.cells;by_cases hin:i<n
  ·obtain ⟨s0,px,pa,pm,pc,p0,p1,hp⟩:=(uh HR).1.DV (r:=i) (i:=m+1) hin hm;obtain ⟨_,qx,qa,qm,qc,q0,q1,hq⟩:=(uh HR).1.DV (r:=i) (i:=m) hin hm0;unfold yN at hp hq;rw [g_ (by omega)] at hp hq;have HV:=af (dC hp);have hg:=ae.alloc wr (.cells #[.int .i64 px,.slice pa pm pc] 78);have hBw:B<=wr.heap.size:=by have h1:=(uh HR).1.base.1;have h2:=z_ (uh HR).1.own;omega
   obtain ⟨W3,hW3⟩:∃ W,wr.alloc (.cells #[.int .i64 px,.slice pa pm pc] 78)=W:=⟨_,rfl⟩;rw [hW3] at HV hg;have I5:=af ((uh HR).1.grow hg);have hS:=(uh I5).Sa (r:=i) (i:=m+1) hin hm (hq.below hg);obtain ⟨W4,xX⟩:∃ W,((W3.setCell ⟨R2 (n+i),(m+1)*2,none⟩ (.int .i64 qx)).setCell ⟨R2 (n+i),(m+1)*2+1,none⟩ (.slice qa qm qc)).drew=W:=⟨_,rfl⟩;have K5:Hid (bf P B W4 n b gs gp go cs cp co R2 (λa=>St (Pl.sw (m+1) a)) (lK (yN (λa=>G (Pl.sw (m+1) a)) m i) i (m+1) (G (Pl.sw (m+1) i) m)) Ov V∧Below B w W4):=by
    unfold Hid;rw [<-xX];exact ⟨hS.1.grow (aaF (n_ _ _)),aaF (((uh HR).2.trans (aam hg hBw)).trans hS.2)⟩
   have hrow:=((uh I5).oL.rows (n+i) (by omega)).block;have hRl:=((uh HR).1.oL.rows (n+i) (by omega)).lt;have DR:Hid (bB P W4 wr.heap.size px pa pm pc (G (Pl.sw (m+1) i) (m+1))):=by
    unfold Hid;rw [<-xX];exact ((uh HV).put hrow (by omega) _ _ _ _).grow (aaF (n_ _ _))
   have hS4:=(uh K5).1.Sa (r:=i) (i:=m) hin hm0 (uh DR).val;have G9:Hid (bf P B ((W4.setCell ⟨R2 (n+i),m*2,none⟩ (.int .i64 px)).setCell ⟨R2 (n+i),m*2+1,none⟩ (.slice pa pm pc)).drew n b gs gp go cs cp co R2 (λa=>St (Pl.sw (m+1) a)) (yN (λa=>G (Pl.sw (m+1) a)) m (i+1)) Ov V∧Below B w ((W4.setCell ⟨R2 (n+i),m*2,none⟩ (.int .i64 px)).setCell ⟨R2 (n+i),m*2+1,none⟩ (.slice pa pm pc)).drew) :=
    ⟨(hS4.1.congr (λ_ _ _ _=>rfl) (λa b _ _=>MX _ m i a b) (λ_ _ _ _=>rfl) (λ_ _=>rfl)).grow (aaF (n_ _ _)),aaF ((uh K5).2.trans hS4.2)⟩
   have fz3:∀ o,W3.frozen? ⟨R2 (n+i),o,none⟩=false:=(uh I5).free (by omega);have fz4:∀ o,W4.frozen? ⟨R2 (n+i),o,none⟩=false:=(uh K5).1.free (by omega);have a0:=fz3 ((m+1)*2);have a1:=fz3 ((m+1)*2+1);have a2:=fz4 (m*2);have a3:=fz4 (m*2+1);have c0:=hg.cell k1;have c1:=hg.cell s0;have c2:=hg.cell q0;have c3:=hg.cell q1;have c4:=hg.cell p0;have c5:=hg.cell p1;obtain ⟨d0,d1,_,_⟩:=(uh K5).1.cells;obtain ⟨d2,dx,da,dm,dc,d3,d4,_⟩:=(uh K5).1.DV (r:=i) (i:=m) hin hm0;have d5:=(uh DR).cells.1;have d6:=(uh DR).cells.2.1;clear hp hq hg hBw hS hrow hRl hS4 fz3 fz4 HV I5 K5 DR;go_wp2_with fail
   try rw [hW3]
   go_region;go_wp2_with fail
   try rw [xX]
   go_region;go_wp2;go_roundg (gk - 1)
   case measure=>omega
   case rel=>exact ⟨i+1,by simp,by omega,uh G9⟩
  ·have hin':i=n:=by omega
   have HF:Hid (bf P B wr n b gs gp go cs cp co R2 (λa=>St (Pl.sw (m+1) a)) (Pl.zw G (m+1)) Ov V):=(uh HR).1.congr (λ_ _ _ _=>rfl) (λa b ha _=>by unfold yN;rw [h_ (by omega)];rfl) (λ_ _ _ _=>rfl) (λ_ _=>rfl);go_wp2;go_end0;exact ⟨R2,rfl,uh HF,(uh HR).2⟩
theorem aD.dY {P:Nat->Prop} {w w':World} {v:Value} {l:List Int} (h:aD P w v l) (h1:aA 78 w w') (h2:aA 3 w w'):aD P w' v l:=by
 obtain ⟨ad,cap,rfl,hc,h⟩:=h;refine ⟨ad,cap,rfl,hc,λi hi=>?_⟩;obtain ⟨g,off,x,a,m,c,e,c1,c2,hw,hp,cs',hcs⟩:=h i hi;have hs:=h1 g cs' hcs;exact ⟨g,off,x,a,m,c,e,by rw [cellsOf (hs.trans hcs),<-cellsOf hcs];exact c1,by rw [cellsOf (hs.trans hcs),<-cellsOf hcs];exact c2,hw.bW h2,hp,cs',hs.trans hcs⟩
def dB (P:Nat->Prop) (B:Nat) (w:World) (v:Value) (ls:List (List Int)):Prop:=∃ xs,w.ownsRow B 69 1 v ls.length xs∧jM P w xs ls
theorem dB.rows {P:Nat->Prop} {B:Nat} {w:World} {v:Value} {ls:List (List Int)} (h:dB P B w v ls) (hP:∀ g,B<=g->P g):aM P w v ls:=by
 obtain ⟨xs,h1,h2⟩:=h;exact h2.rows h1 hP
theorem dB.grow {P:Nat->Prop} {B:Nat} {w w':World} {v:Value} {ls:List (List Int)} (h:dB P B w v ls) (hg:ae w w'):dB P B w' v ls:=by
 obtain ⟨xs,h1,h2⟩:=h;exact ⟨xs,aW h1 (.aX hg),h2.grow (.aX hg)⟩
theorem dB.nil (P:Nat->Prop) (B:Nat) (w:World):dB P B w (.slice none 0 0) []:=⟨[],⟨rfl,.inl ⟨rfl,rfl⟩⟩,.nil P w⟩
theorem dB.len {P:Nat->Prop} {B:Nat} {w:World} {a:Option Addr} {n c:Nat} {ls:List (List Int)} (h:dB P B w (.slice a n c) ls):n=ls.length:=by
 obtain ⟨xs,h1,_⟩:=h;rcases h1.2 with ⟨e,h0⟩|⟨g,cap,cur,e,_⟩
 ·cases e;exact h0.symm
 ·cases e;rfl
theorem jM.dY {P:Nat->Prop} {w w':World} {xs:List Value} {ls:List (List Int)} (h:jM P w xs ls) (h1:aA 78 w w') (h2:aA 3 w w'):jM P w' xs ls :=
 ⟨h.len,λi hi=>by obtain ⟨u,d1,d3⟩:=h.at_ i hi;exact ⟨u,d1,d3.dY h1 h2⟩⟩
theorem dB.dY {P:Nat->Prop} {B:Nat} {w w':World} {v:Value} {ls:List (List Int)} (h:dB P B w v ls) (h0:aA 69 w w') (h1:aA 78 w w') (h2:aA 3 w w'):dB P B w' v ls:=by
 obtain ⟨xs,d1,d2⟩:=h;exact ⟨xs,aW d1 h0,d2.dY h1 h2⟩
theorem DC {P:Nat->Prop} {o:Oper} {a:Act} {w:World} {K:Act->World->Prop} {Q:Exit->Act->World->Prop} (s x:Operand)
  (ho:o.op=.call { callee:=.builtin .append,args:=#[s,x],argTypes:=#[72,72] })
  (B:Nat) (v:Value) (ls:List (List Int)) (row:List Int) (u:Value) (hs:a.eval s=v) (h:dB P B w v ls) (gx c:Nat) (hx:a.eval x=.slice (some ⟨gx,0,none⟩) 1 c) (hblk:w.heap[gx]?=some (.cells #[u] 69 (0,0))) (hu:aD P w u row) (hn:ls.length<=1000000) (hB:B<=w.heap.size)
  (hK:∀ g cap w',dB P B w' (.slice (some ⟨g,0,none⟩) (ls.length+1) cap) (ls++[row])->Below B w w'->(∀ e:TypeId,69≠e->aA e w w')->K (a.put o.dst (.slice (some ⟨g,0,none⟩) (ls.length+1) cap)) w'):o.wp Tryz.prog a w K Q:=by
 obtain ⟨i0,hi0,hz0,hz1,hz2⟩:=U_ Tryz.oQ;obtain ⟨xs,h1,h2⟩:=h;obtain ⟨ua,un,uc,rfl⟩:=hu.aB;refine wp_append_lies w s x 72 ho B 69 i0 (.slice none 0 0) 1 24 Tryz.underlying72 hi0 hz0 hz1 hz2 rfl (by decide) v ls.length xs hs h1 ⟨gx,0,none⟩ 1 c [.slice ua un uc] hx rfl (λj u hu=>World.news_of_block hblk j u hu) (by simp [Value.oneCell']) (by decide) (by unfold maxLen;omega) (by omega) hB _ rfl λg cap w' d1 d2 _ _=>?_;have kt:∀ e:TypeId,69≠e->aA e w w':=λe he=>aA.grown h1 d2 he;refine hK g cap w' ⟨xs++[.slice ua un uc],by rw [C_];exact d1,?_⟩ (Below.grown (n_ _ _) d2 hB (bR h1)) kt;exact (h2.dY (kt _ (by decide)) (kt _ (by decide))).snoc (hu.dY (kt _ (by decide)) (kt _ (by decide)))
def fJ (P:Nat->Prop) (row:List Int) (v:Value) (w:World):Prop:=∃ g u,v=.slice (some ⟨g,0,none⟩) 1 1∧w.heap[g]?=some (.cells #[u] 69 (0,0))∧aD P w u row
theorem fJ.grow {P:Nat->Prop} {row:List Int} {v:Value} {w w':World} (h:fJ P row v w) (hg:ae w w'):fJ P row v w':=by
 obtain ⟨g,u,e,h1,h2⟩:=h;exact ⟨g,u,e,Below.same hg _ _ h1,h2.below hg⟩
def pV (v:Value):Prop:=∃ g,v=.slice (some ⟨g,0,none⟩) 1 1
theorem pV.some:∃ v,pV v:=⟨_,0,rfl⟩
theorem fJ.new {P:Nat->Prop} {row:List Int} {u:Value} {w:World} (h:aD P w u row):fJ P row (.slice (some ⟨w.heap.size,0,none⟩) 1 1) (w.alloc (.cells #[u] 69)):=⟨_,u,rfl,aG _ _,h.below (ae.alloc _ _)⟩
def jh (P:Nat->Prop) (B:Nat) (w:World) (v:Value) (l:List Int):Prop:=∃ xs,w.ownsRow B 78 2 v l.length xs∧pW P w xs l
theorem jh.row {P:Nat->Prop} {B:Nat} {w:World} {v:Value} {l:List Int} (h:jh P B w v l) (hP:∀ g,B<=g->P g):aD P w v l:=by
 obtain ⟨xs,h1,h2⟩:=h;exact h2.row h1 hP
theorem jh.grow {P:Nat->Prop} {B:Nat} {w w':World} {v:Value} {l:List Int} (h:jh P B w v l) (hg:ae w w'):jh P B w' v l:=by
 obtain ⟨xs,h1,h2⟩:=h;exact ⟨xs,aW h1 (.aX hg),h2.grow hg⟩
theorem jh.nil (P:Nat->Prop) (B:Nat) (w:World):jh P B w (.slice none 0 0) []:=⟨[],⟨rfl,.inl ⟨rfl,rfl⟩⟩,.nil P w⟩
theorem pW.dY {P:Nat->Prop} {w w':World} {xs:List Value} {l:List Int} (h:pW P w xs l) (h2:aA 3 w w'):pW P w' xs l :=
 ⟨h.len,λi hi=>by obtain ⟨x,a,m,c,d1,d2,d3⟩:=h.at_ i hi;exact ⟨x,a,m,c,d1,d2,d3.bW h2⟩⟩
theorem bz.dY {P:Nat->Prop} {w w':World} {g n:Nat} {f:Nat->Int} (h:bz P w g n f) (h1:aA 78 w w') (h2:aA 3 w w'):bz P w' g n f:=by
 obtain ⟨cs,d1,d2,d3⟩:=h;refine ⟨cs,(h1 g cs d1).trans d1,d2,λi hi=>?_⟩;obtain ⟨x,a,m,c,e1,e2,e3⟩:=d3 i hi;exact ⟨x,a,m,c,e1,e2,e3.bW h2⟩
theorem sF.dY {P:Nat->Prop} {w w':World} {N:Nat} {R len:Nat->Nat} {f:Nat->Nat->Int} (h:sF P w N R len f) (h1:aA 78 w w') (h2:aA 3 w w'):sF P w' N R len f:=⟨λr hr=>(h.rows r hr).dY h1 h2,h.inj⟩
theorem sF.snoc {P:Nat->Prop} {w:World} {N:Nat} {R len:Nat->Nat} {f:Nat->Nat->Int} (h:sF P w N R len f) {g:Nat} {fr:Nat->Int} (hr:bz P w g (len N) fr) (hne:∀ r,r<N->R r≠g) (hf:∀ i,i<len N->f N i=fr i):sF P w (N+1) (λr=>if r=N then g else R r) len f:=by
 refine ⟨λr hr'=>?_,λr s hr' hs e=>?_⟩
 ·by_cases e:r=N
  ·rw [h_ e,e];exact hr.congr (λi hi=>(hf i hi).symm)
  ·rw [g_ e];exact h.rows r (by omega)
 ·by_cases e1:r=N <;> by_cases e2:s=N
  ·omega
  ·rw [h_ e1,g_ e2] at e;exact absurd e.symm (hne s (by omega))
  ·rw [g_ e1,h_ e2] at e;exact absurd e (hne r (by omega))
  ·rw [g_ e1,g_ e2] at e;exact h.inj r s (by omega) (by omega) e
def Am (v u:Value):Prop:=∀ g,v.ownBlock=some g->u.ownBlock≠some g
theorem Am.symm {v u:Value} (h:Am v u):Am u v:=λg e1 e2=>h g e2 e1
theorem nu {w w':World} {B:Nat} {e:TypeId} {s n:Nat} {v u:Value} {xs:List Value} (h:w.ownsRow B e s u n xs) (hg:w.grownBy w' v.ownBlock) (ha:Am v u) {g k cap:Nat} (hat:v.ownBlock=some g∨g=w.heap.size):w'.ownsRow B e s u n xs∧Am (.slice (some ⟨g,0,none⟩) k cap) u:=by
 refine ⟨h.kept hg ?_,λg' e1 e2=>?_⟩
 ·rcases hu:u.ownBlock with _ | k
  ·exact .inl rfl
  ·refine .inr λe3=>?_;exact ha k e3.symm hu
 ·have e4:g=g':=by simpa [Value.ownBlock] using e1
  subst e4;rcases hat with h1|h1
  ·exact ha g h1 e2
  ·have:=(h.lt g e2).2;omega
structure Laid (P:Nat->Prop) (B:Nat) (w:World) (n N b:Nat) (vs vp vo:Value) (ks kp ko:Nat) (R:Nat->Nat) (f:Nat->Nat->Int):Prop where
 own:w.heap[b]?=some (.cells #[vs,vp,.slice (some ⟨R 0,0,none⟩) (n+1) (n+1),vo] 134 (0,0))
 oL:sF P w N R (λr=>if r=0 then n+1 else n) f
 s:w.ownsRow B 69 1 vs ks ((List.range ks).map λa=>.slice (some ⟨R (3*a+1),0,none⟩) n n)
 p:w.ownsRow B 69 1 vp kp ((List.range kp).map λa=>.slice (some ⟨R (3*a+2),0,none⟩) n n)
 o:w.ownsRow B 69 1 vo ko ((List.range ko).map λa=>.slice (some ⟨R (3*a+3),0,none⟩) n n)
 sp:Am vs vp
 so:Am vs vo
 po:Am vp vo
 base:B<=b∧∀ r,r<N->B<=R r
 lim:0<N∧(∀ a,a<ks->3*a+1<N)∧(∀ a,a<kp->3*a+2<N)∧∀ a,a<ko->3*a+3<N
section
variable {P:Nat->Prop} {B:Nat} {w w':World} {n N b ks kp ko:Nat} {vs vp vo:Value} {R:Nat->Nat} {f:Nat->Nat->Int}
theorem Laid.grow (h:Laid P B w n N b vs vp vo ks kp ko R f) (hg:ae w w'):Laid P B w' n N b vs vp vo ks kp ko R f :=
 ⟨Below.same hg _ _ h.own,h.oL.grow hg,aW h.s (.aX hg),aW h.p (.aX hg),aW h.o (.aX hg),h.sp,h.so,h.po,h.base,h.lim⟩
theorem pE {w:World} {B:Nat} {n b o:Nat} {v u:Value} {xs:List Value} {cs:Array Value} (h:w.ownsRow B 69 1 v n xs) (hb:w.heap[b]?=some (.cells cs 134 (0,0))):(w.setCell ⟨b,o,none⟩ u).ownsRow B 69 1 v n xs:=aW h (aA.setCell hb (by decide) _ _)
theorem Laid.acJ (h:Laid P B w n N b vs vp vo ks kp ko R f) {g cap:Nat} (hN:3*ks+1<N) (hg:w.grownBy w' vs.ownBlock) (hat:vs.ownBlock=some g∨g=w.heap.size) (ho:w'.ownsRow B 69 1 (.slice (some ⟨g,0,none⟩) (ks+1) cap) (ks+1) ((List.range ks).map (λa=>.slice (some ⟨R (3*a+1),0,none⟩) n n)++[.slice (some ⟨R (3*ks+1),0,none⟩) n n])) :
  Laid P B (w'.setCell ⟨b,0,none⟩ (.slice (some ⟨g,0,none⟩) (ks+1) cap)) n N b (.slice (some ⟨g,0,none⟩) (ks+1) cap) vp vo (ks+1) kp ko R f∧Below B w (w'.setCell ⟨b,0,none⟩ (.slice (some ⟨g,0,none⟩) (ks+1) cap))∧w'.heap[b]?=w.heap[b]?:=by
 have kt:∀ e:TypeId,69≠e->aA e w w':=λe he=>aA.grown h.s hg he;have hb:w'.heap[b]?=w.heap[b]?:=kt _ (by decide) b _ h.own;have hb':=hb.trans h.own;obtain ⟨p1,a1⟩:=nu (k:=ks+1) (cap:=cap) h.p hg h.sp hat;obtain ⟨o1,a2⟩:=nu (k:=ks+1) (cap:=cap) h.o hg h.so hat;refine ⟨⟨j_ w' b 0 _ _ _ hb',?_,?_,pE p1 hb',pE o1 hb',a1,a2,h.po,h.base,h.lim.1,λa ha=>(show 3*a+1<N by omega),h.lim.2.2⟩,?_,hb⟩
 ·exact (h.oL.dY (kt _ (by decide)) (kt _ (by decide))).dY (aA.setCell hb' (by decide) _ _) (aA.setCell hb' (by decide) _ _)
 ·rw [abD,aa4];exact pE ho hb'
 ·refine B_ (p:=⟨b,0,none⟩) (Below.grown (n_ _ _) hg ?_ (bR h.s)) h.base.1 _;have:=z_ h.own;have:=h.base.1;omega
theorem Laid.acK (h:Laid P B w n N b vs vp vo ks kp ko R f) {g cap:Nat} (hN:3*kp+2<N) (hg:w.grownBy w' vp.ownBlock) (hat:vp.ownBlock=some g∨g=w.heap.size) (ho:w'.ownsRow B 69 1 (.slice (some ⟨g,0,none⟩) (kp+1) cap) (kp+1) ((List.range kp).map (λa=>.slice (some ⟨R (3*a+2),0,none⟩) n n)++[.slice (some ⟨R (3*kp+2),0,none⟩) n n])) :
  Laid P B (w'.setCell ⟨b,1,none⟩ (.slice (some ⟨g,0,none⟩) (kp+1) cap)) n N b vs (.slice (some ⟨g,0,none⟩) (kp+1) cap) vo ks (kp+1) ko R f∧Below B w (w'.setCell ⟨b,1,none⟩ (.slice (some ⟨g,0,none⟩) (kp+1) cap))∧w'.heap[b]?=w.heap[b]?:=by
 have kt:∀ e:TypeId,69≠e->aA e w w':=λe he=>aA.grown h.p hg he;have hb:w'.heap[b]?=w.heap[b]?:=kt _ (by decide) b _ h.own;have hb':=hb.trans h.own;obtain ⟨p1,a1⟩:=nu (k:=kp+1) (cap:=cap) h.s hg h.sp.symm hat;obtain ⟨o1,a2⟩:=nu (k:=kp+1) (cap:=cap) h.o hg h.po hat;refine ⟨⟨j_ w' b 1 _ _ _ hb',?_,pE p1 hb',?_,pE o1 hb',a1.symm,h.so,a2,h.base,h.lim.1,h.lim.2.1,λa ha=>(show 3*a+2<N by omega),h.lim.2.2.2⟩,?_,hb⟩
 ·exact (h.oL.dY (kt _ (by decide)) (kt _ (by decide))).dY (aA.setCell hb' (by decide) _ _) (aA.setCell hb' (by decide) _ _)
 ·rw [abD,aa4];exact pE ho hb'
 ·refine B_ (p:=⟨b,1,none⟩) (Below.grown (n_ _ _) hg ?_ (bR h.p)) h.base.1 _;have:=z_ h.own;have:=h.base.1;omega
theorem Laid.Yz (h:Laid P B w n N b vs vp vo ks kp ko R f) {g cap:Nat} (hN:3*ko+3<N) (hg:w.grownBy w' vo.ownBlock) (hat:vo.ownBlock=some g∨g=w.heap.size) (ho:w'.ownsRow B 69 1 (.slice (some ⟨g,0,none⟩) (ko+1) cap) (ko+1) ((List.range ko).map (λa=>.slice (some ⟨R (3*a+3),0,none⟩) n n)++[.slice (some ⟨R (3*ko+3),0,none⟩) n n])) :
  Laid P B (w'.setCell ⟨b,3,none⟩ (.slice (some ⟨g,0,none⟩) (ko+1) cap)) n N b vs vp (.slice (some ⟨g,0,none⟩) (ko+1) cap) ks kp (ko+1) R f∧Below B w (w'.setCell ⟨b,3,none⟩ (.slice (some ⟨g,0,none⟩) (ko+1) cap))∧w'.heap[b]?=w.heap[b]?:=by
 have kt:∀ e:TypeId,69≠e->aA e w w':=λe he=>aA.grown h.o hg he;have hb:w'.heap[b]?=w.heap[b]?:=kt _ (by decide) b _ h.own;have hb':=hb.trans h.own;obtain ⟨p1,a1⟩:=nu (k:=ko+1) (cap:=cap) h.s hg h.so.symm hat;obtain ⟨o1,a2⟩:=nu (k:=ko+1) (cap:=cap) h.p hg h.po.symm hat;refine ⟨⟨j_ w' b 3 _ _ _ hb',?_,pE p1 hb',pE o1 hb',?_,h.sp,a1.symm,a2.symm,h.base,h.lim.1,h.lim.2.1,h.lim.2.2.1,λa ha=>(show 3*a+3<N by omega)⟩,?_,hb⟩
 ·exact (h.oL.dY (kt _ (by decide)) (kt _ (by decide))).dY (aA.setCell hb' (by decide) _ _) (aA.setCell hb' (by decide) _ _)
 ·rw [abD,aa4];exact pE ho hb'
 ·refine B_ (p:=⟨b,3,none⟩) (Below.grown (n_ _ _) hg ?_ (bR h.o)) h.base.1 _;have:=z_ h.own;have:=h.base.1;omega
theorem Laid.row (h:Laid P B w n N b vs vp vo ks kp ko R f) {g:Nat} {fr:Nat->Int} (h1:bz P w g n fr) (hne:∀ r,r<N->R r≠g) (e1:∀ k,k<n->f N k=fr k) (hB:B<=g) :
  ∃ R',Laid P B w n (N+1) b vs vp vo ks kp ko R' f∧R' N=g∧∀ r,r<N->R' r=R r:=by
 obtain ⟨l0,l1,l2,l3⟩:=h.lim;have F1:=h.oL.snoc (g:=g) (fr:=fr) (by rw [g_ (by omega)];exact h1) hne (λk hk=>e1 k (by rwa [g_ (by omega)] at hk));obtain ⟨R',hR'⟩:∃ R',R'=(λr=>if r=N then g else R r):=⟨_,rfl⟩;rw [<-hR'] at F1;have eR:∀ r,r<N->R' r=R r:=λr hr=>by rw [hR'];show (if _ then _ else _)=_;rw [g_ (by omega)]
 have g1':R' N=g:=by rw [hR'];show (if _ then _ else _)=_;rw [h_ rfl]
 have em:∀ c k,(∀ a,a<k->3*a+c<N)->(List.range k).map (λa=>Value.slice (some ⟨R (3*a+c),0,none⟩) n n)=(List.range k).map (λa=>Value.slice (some ⟨R' (3*a+c),0,none⟩) n n):=λc k hc=>aa1 λa ha=>by rw [eR _ (hc a (V_.1 ha))]
 refine ⟨R',⟨by rw [eR 0 l0];exact h.own,F1,by rw [<-em 1 ks l1];exact h.s,by rw [<-em 2 kp l2];exact h.p,by rw [<-em 3 ko l3];exact h.o,h.sp,h.so,h.po,⟨h.base.1,λr hr=>?_⟩,by omega,λa ha=>by have:=l1 a ha;omega,λa ha=>by have:=l2 a ha;omega,λa ha=>by have:=l3 a ha;omega⟩,g1',eR⟩;rcases (show r<N∨r=N by omega) with h4|h4
 ·rw [eR r h4];exact h.base.2 r h4
 ·rw [h4,g1'];exact hB
def A7 (n:Nat) (R:Nat->Nat) (r:Nat):Nat:=if r<n then R (3*r+1) else if r<2*n then R (3*(r - n)+2) else if r<3*n then R (3*(r - 2*n)+3) else R 0
theorem FJ {w:World} {B n k c g cap off:Nat} {R R':Nat->Nat} (h:w.ownsRow B 69 1 (.slice (some ⟨g,0,none⟩) k cap) k ((List.range k).map λa=>.slice (some ⟨R (3*a+c),0,none⟩) n n)) (hk:0<k) (he:∀ a,a<k->R' (off+a)=R (3*a+c)):dM w g k R' off n∧k<=cap∧B<=g:=by
 rcases h.2 with ⟨e,h0⟩|⟨g',cap',cur,e,hb,jS,hle,_,hsz,htk⟩
 ·omega
 ·cases e;refine ⟨⟨cur,jS,λi hi=>?_⟩,hle,hb⟩;have:(cur.toList.take (k*1))[i]?=some (.slice (some ⟨R (3*i+c),0,none⟩) n n):=by
   rw [htk,aal,abg hi];rfl
  rw [aac (by omega)] at this;rw [he i hi]
  simpa using this
theorem Laid.done (h:Laid P B w n (3*n+1) b vs vp vo n n n R f) (hn:0<n):∃ gs gp go cs cp co,bf P B w n b gs gp go cs cp co (A7 n R) (λa=>f (3*a+1)) (λa=>f (3*a+2)) (λa=>f (3*a+3)) (f 0):=by
 obtain ⟨gs,cs,rfl,_⟩:=h.s.form hn;obtain ⟨gp,cp,rfl,_⟩:=h.p.form hn;obtain ⟨go,co,rfl,_⟩:=h.o.form hn;have e0:A7 n R (3*n)=R 0:=by unfold A7;rw [g_ (by omega),g_ (by omega),g_ (by omega)]
 have r1:∀ a,a<n->A7 n R (0+a)=R (3*a+1):=λa ha=>by unfold A7;rw [h_ (by omega),M_]
 have r2:∀ a,a<n->A7 n R (n+a)=R (3*a+2):=λa ha=>by unfold A7;rw [g_ (by omega),h_ (by omega),abN]
 have r3:∀ a,a<n->A7 n R (2*n+a)=R (3*a+3):=λa ha=>by unfold A7;rw [g_ (by omega),g_ (by omega),h_ (by omega),abN]
 obtain ⟨s1,s2,s3⟩:=FJ h.s hn r1;obtain ⟨p1,p2,p3⟩:=FJ h.p hn r2;obtain ⟨o1,o2,o3⟩:=FJ h.o hn r3;have idx:∀ r,r<3*n+1->∃ q,q<3*n+1∧A7 n R r=R q∧q=(if r<n then 3*r+1 else if r<2*n then 3*(r - n)+2 else if r<3*n then 3*(r - 2*n)+3 else 0):=λr hr=>by
  unfold A7;by_cases c1:r<n
  ·exact ⟨3*r+1,by omega,by rw [h_ c1],by rw [h_ c1]⟩
  ·by_cases c2:r<2*n
   ·exact ⟨3*(r - n)+2,by omega,by rw [g_ c1,h_ c2],by rw [g_ c1,h_ c2]⟩
   ·by_cases c3:r<3*n
    ·exact ⟨3*(r - 2*n)+3,by omega,by rw [g_ c1,g_ c2,h_ c3],by rw [g_ c1,g_ c2,h_ c3]⟩
    ·exact ⟨0,by omega,by rw [g_ c1,g_ c2,g_ c3],by rw [g_ c1,g_ c2,g_ c3]⟩
 refine ⟨gs,gp,go,cs,cp,co,by rw [e0];exact h.own,⟨λr hr=>?_,λr s hr hs e=>?_⟩,s1,p1,o1,⟨λe=>h.sp gs rfl (by rw [e];rfl),λe=>h.po gp rfl (by rw [e];rfl),λe=>h.so gs rfl (by rw [e];rfl)⟩,⟨h.base.1,s3,p3,o3,λr hr=>?_⟩,s2,p2,o2⟩
 ·obtain ⟨q,hq,YA,K6⟩:=idx r hr;rw [YA];have h1:=h.oL.rows q hq;unfold pq iN;by_cases c1:r<n
  ·rw [h_ c1] at K6;rw [g_ (by omega)];rw [g_ (by omega)] at h1;exact h1.congr λi _=>by rw [h_ c1,K6]
  ·rw [g_ c1] at K6;by_cases c2:r<2*n
   ·rw [h_ c2] at K6;rw [g_ (by omega)];rw [g_ (by omega)] at h1;exact h1.congr λi _=>by rw [g_ c1,h_ c2,K6]
   ·rw [g_ c2] at K6;by_cases c3:r<3*n
    ·rw [h_ c3] at K6;rw [g_ (by omega)];rw [g_ (by omega)] at h1;exact h1.congr λi _=>by rw [g_ c1,g_ c2,h_ c3,K6]
    ·rw [g_ c3] at K6;rw [h_ (by omega)];rw [h_ (by omega)] at h1;exact h1.congr λi _=>by rw [g_ c1,g_ c2,g_ c3,K6]
 ·obtain ⟨q,hq,YA,K6⟩:=idx r hr;obtain ⟨q',hq',acL,VF⟩:=idx s hs;rw [YA,acL] at e;have:=h.oL.inj q q' hq hq' e
  split at K6 <;> split at VF <;> (try split at K6) <;> (try split at VF) <;> (try split at K6) <;> (try split at VF) <;> omega
 ·obtain ⟨q,hq,YA,_⟩:=idx r hr;rw [YA];exact h.base.2 q hq
end
end Go.Proofs.YtgaafamcajcifaaGreat
