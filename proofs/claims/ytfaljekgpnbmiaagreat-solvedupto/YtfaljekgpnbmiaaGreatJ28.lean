/- Joined: XLat12 XLat13 XApp XLat14. -/
import Derived.Test.YtfaljekgpnbmiaaGreatJ07
import Derived.Test.YtfaljekgpnbmiaaGreatJ24
import Derived.Test.YtfaljekgpnbmiaaGreatJ27
set_option linter.unusedVariables false
set_option linter.unusedSimpArgs false
set_option maxRecDepth 100000
namespace Go.Proofs.YtfaljekgpnbmiaaGreat
open Go.RowKit Go.Sort
def Cx (R:Nat->Nat) (off m r:Nat):Nat:=if r=off+(m+1) then R (off+m) else if r=off+m then R (off+(m+1)) else R r
theorem dO.swap {w w1 w2:World} {g n:Nat} {R:Nat->Nat} {off l m:Nat} (h:dO w g n R off l) (hm:m+1<n) (e1:w1=w.setCell ⟨g,m+1,none⟩ (.slice (some ⟨R (off+m),0,none⟩) l l)) {w1':World} (hg:ae w1 w1') (e2:w2=w1'.setCell ⟨g,m,none⟩ (.slice (some ⟨R (off+(m+1)),0,none⟩) l l)):dO w2 g n (Cx R off m) off l:=by
 obtain ⟨cs,h1,h2⟩:=h;have b1:=j_ w g (m+1) _ _ (.slice (some ⟨R (off+m),0,none⟩) l l) h1;rw [<-e1] at b1;have b2:=j_ w1' g m _ _ (.slice (some ⟨R (off+(m+1)),0,none⟩) l l) (Below.same hg _ _ b1);rw [<-e2] at b2;refine ⟨_,b2,λi hi=>?_⟩;have hsz:∀ i,i<n->i<cs.size:=λi hi=>(abn.1 (h2 i hi)).1;have hs1:=hsz (m+1) hm;unfold Cx;by_cases c1:i=m
 ·rw [g_ (by omega),h_ (by omega),c1];exact Q_ (by simp;omega)
 ·rw [K_ (by omega)];by_cases c2:i=m+1
  ·rw [h_ (by omega),c2];exact Q_ hs1
  ·rw [K_ (by omega),g_ (by omega),g_ (by omega)];exact h2 i hi
theorem dO.congr {w:World} {g n:Nat} {R R':Nat->Nat} {off l:Nat} (h:dO w g n R off l) (he:∀ i,i<n->R (off+i)=R' (off+i)):dO w g n R' off l:=by
 obtain ⟨cs,h1,h2⟩:=h;exact ⟨cs,h1,λi hi=>by rw [<-he i hi];exact h2 i hi⟩
theorem LF {R:Nat->Nat} {N off m:Nat} (h:∀ r s,r<N->s<N->R r=R s->r=s) (hN:off+(m+1)<N):∀ r s,r<N->s<N->Cx R off m r=Cx R off m s->r=s:=by
 intro r s hr hs e;unfold Cx at e;by_cases a1:r=off+(m+1) <;> by_cases a2:r=off+m <;> by_cases b1:s=off+(m+1) <;> by_cases b2:s=off+m
 all_goals
  simp only [a1,a2,b1,b2,if_true,if_false] at e
  first
   | omega
   | ((try rw [g_ (by omega)] at e);(try rw [g_ (by omega)] at e);have:=h _ _ (by omega) (by omega) e;omega)
section
variable {P:Nat->Prop} {B:Nat} {w w1 w1' w2:World} {n b gs gp go cs cp co:Nat} {R:Nat->Nat} {St G Ov:Nat->Nat->Int} {V:Nat->Int}
theorem bg.Hf (h:bg P B w n b gs gp go cs cp co R St G Ov V) {g:Nat} (hg:∃ c,w.heap[g]?=some (.cells c 159 (0,0))) (o:Nat) (u:Value):sH P (w.setCell ⟨g,o,none⟩ u) (3*n+1) R (iP n) (pE n St G Ov V)∧(w.setCell ⟨g,o,none⟩ u).heap[b]?=w.heap[b]?:=by
 obtain ⟨c,hc⟩:=hg;refine ⟨h.oO.uy hc (by decide) (λr hr e=>?_) o u,l_ _ _ _ _ (λe=>?_)⟩
 ·obtain ⟨c2,h2⟩:=(h.oO.rows r hr).block;rw [e,hc] at h2;simp at h2
 ·have:=h.own;rw [e,hc] at this;simp at this
theorem bg.Zb (h:bg P B w n b gs gp go cs cp co R St G Ov V) {m:Nat} (hm:m+1<n) (e1:w1=w.setCell ⟨gs,m+1,none⟩ (.slice (some ⟨R m,0,none⟩) n n)) (hg:ae w1 w1') (e2:w2=w1'.setCell ⟨gs,m,none⟩ (.slice (some ⟨R (m+1),0,none⟩) n n)):bg P B w2 n b gs gp go cs cp co (Cx R 0 m) (λa=>St (Pl.sw (m+1) a)) G Ov V∧Below B w w2:=by
 have hh:=h.steps.swap (w1:=w1) (w2:=w2) hm (by rw [M_];exact e1) hg (by rw [M_];exact e2);obtain ⟨f1,o1⟩:=h.Hf h.steps.block (m+1) (.slice (some ⟨R m,0,none⟩) n n);rw [<-e1] at f1 o1;have p1:dO w1 gp n R n n:=by rw [e1];exact h.ve.uy (abf h.apart.1) _ _
 have q1:dO w1 go n R (2*n) n:=by rw [e1];exact h.over.uy (abf h.apart.2.2) _ _
 obtain ⟨c,hc⟩:=h.steps.block;have hc1:w1.heap[gs]?=some (.cells (c.setIfInBounds (m+1) (.slice (some ⟨R m,0,none⟩) n n)) 159 (0,0)):=by rw [e1];exact j_ w gs (m+1) _ _ _ hc
 have hc3:=Below.same hg _ _ hc1;have hown:w1'.heap[b]?=some (.cells #[.slice (some ⟨gs,0,none⟩) n cs,.slice (some ⟨gp,0,none⟩) n cp,.slice (some ⟨R (3*n),0,none⟩) (n+1) (n+1),.slice (some ⟨go,0,none⟩) n co] 386 (0,0)):=Below.same hg _ _ (o1.trans h.own);have f2:sH P w2 (3*n+1) R (iP n) (pE n St G Ov V):=by
  rw [e2];refine (f1.grow hg).uy hc3 (by decide) (λr hr e=>?_) _ _;obtain ⟨c2,h2⟩:=((f1.grow hg).rows r hr).block;rw [e,hc3] at h2;simp at h2
 have hnb:b≠gs:=λe=>by rw [e,hc3] at hown;simp at hown
 refine ⟨⟨?_,⟨λr hr=>?_,LF h.oO.inj (by omega)⟩,hh,?_,?_,h.apart,⟨h.base.1,h.base.2.1,h.base.2.2.1,h.base.2.2.2.1,λr hr=>?_⟩,h.NH⟩,?_⟩
 ·rw [e2,show Cx R 0 m (3*n)=R (3*n) by unfold Cx;rw [g_ (by omega),g_ (by omega)]];exact (l_ _ _ _ _ hnb).trans hown
 ·unfold Cx;by_cases a1:r=0+(m+1)
  ·rw [h_ a1,M_];have:=f2.rows m (by omega);unfold iP at this ⊢;rw [g_ (by omega)] at this ⊢;refine this.congr λi _=>?_;unfold pE
   try dsimp only
   rw [h_ (by omega),h_ (by omega),a1,M_,Pl.qP,Nat.add_sub_cancel]
  ·rw [g_ a1];by_cases a2:r=0+m
   ·rw [h_ a2,M_];have:=f2.rows (m+1) (by omega);unfold iP at this ⊢;rw [g_ (by omega)] at this ⊢;refine this.congr λi _=>?_;unfold pE
    try dsimp only
    have e:Pl.sw (m+1) m=m+1:=Pl.pF (k:=m+1) (by omega);rw [h_ (by omega),h_ (by omega),a2,M_,e]
   ·rw [g_ a2];refine (f2.rows r hr).congr λi _=>?_;unfold pE
    try dsimp only
    by_cases h1:r<n
    ·rw [h_ h1,h_ h1,Pl.mF (by omega) (by omega)]
    ·rw [g_ h1,g_ h1]
 ·rw [e2];exact ((p1.grow hg).uy (abf h.apart.1) _ _).congr (λi hi=>by unfold Cx;rw [g_ (by omega),g_ (by omega)])
 ·rw [e2];exact ((q1.grow hg).uy (abf h.apart.2.2) _ _).congr (λi hi=>by unfold Cx;rw [g_ (by omega),g_ (by omega)])
 ·unfold Cx
  split
  ·exact h.base.2.2.2.2 _ (by omega)
  ·split
   ·exact h.base.2.2.2.2 _ (by omega)
   ·exact h.base.2.2.2.2 _ hr
 ·have hB:B<=gs:=h.base.2.1;have hBw:B<=w1.heap.size:=by have:=z_ (o1.trans h.own);have:=h.base.1;omega
  rw [e2];refine B_ (p:=⟨gs,m,none⟩) (abt ?_ (aaw hg hBw)) hB _;rw [e1];exact B_ (p:=⟨gs,m+1,none⟩) (n_ _ _) hB _
theorem bg.Zc (h:bg P B w n b gs gp go cs cp co R St G Ov V) {m:Nat} (hm:m+1<n) (e1:w1=w.setCell ⟨gp,m+1,none⟩ (.slice (some ⟨R (n+m),0,none⟩) n n)) (hg:ae w1 w1') (e2:w2=w1'.setCell ⟨gp,m,none⟩ (.slice (some ⟨R (n+(m+1)),0,none⟩) n n)):bg P B w2 n b gs gp go cs cp co (Cx R n m) St (λa=>G (Pl.sw (m+1) a)) Ov V∧Below B w w2:=by
 have hh:=h.ve.swap hm e1 hg e2;obtain ⟨f1,o1⟩:=h.Hf h.ve.block (m+1) (.slice (some ⟨R (n+m),0,none⟩) n n);rw [<-e1] at f1 o1;have p1:dO w1 gs n R 0 n:=by rw [e1];exact h.steps.uy h.apart.1 _ _
 have q1:dO w1 go n R (2*n) n:=by rw [e1];exact h.over.uy (abf h.apart.2.1) _ _
 obtain ⟨c,hc⟩:=h.ve.block;have hc1:w1.heap[gp]?=some (.cells (c.setIfInBounds (m+1) (.slice (some ⟨R (n+m),0,none⟩) n n)) 159 (0,0)):=by rw [e1];exact j_ w gp (m+1) _ _ _ hc
 have hc3:=Below.same hg _ _ hc1;have hown:w1'.heap[b]?=some (.cells #[.slice (some ⟨gs,0,none⟩) n cs,.slice (some ⟨gp,0,none⟩) n cp,.slice (some ⟨R (3*n),0,none⟩) (n+1) (n+1),.slice (some ⟨go,0,none⟩) n co] 386 (0,0)):=Below.same hg _ _ (o1.trans h.own);have f2:sH P w2 (3*n+1) R (iP n) (pE n St G Ov V):=by
  rw [e2];refine (f1.grow hg).uy hc3 (by decide) (λr hr e=>?_) _ _;obtain ⟨c2,h2⟩:=((f1.grow hg).rows r hr).block;rw [e,hc3] at h2;simp at h2
 have hnb:b≠gp:=λe=>by rw [e,hc3] at hown;simp at hown
 refine ⟨⟨?_,⟨λr hr=>?_,LF h.oO.inj (by omega)⟩,?_,hh,?_,h.apart,⟨h.base.1,h.base.2.1,h.base.2.2.1,h.base.2.2.2.1,λr hr=>?_⟩,h.NH⟩,?_⟩
 ·rw [e2,show Cx R n m (3*n)=R (3*n) by unfold Cx;rw [g_ (by omega),g_ (by omega)]];exact (l_ _ _ _ _ hnb).trans hown
 ·unfold Cx;by_cases a1:r=n+(m+1)
  ·rw [h_ a1];have:=f2.rows (n+m) (by omega);unfold iP at this ⊢;rw [g_ (by omega)] at this ⊢;refine this.congr λi _=>?_;unfold pE
   try dsimp only
   have e:r - n=m+1:=by omega
   rw [g_ (by omega),h_ (by omega),g_ (by omega),h_ (by omega),e,Pl.qP,Nat.add_sub_cancel,show n+m - n=m by omega]
  ·rw [g_ a1];by_cases a2:r=n+m
   ·rw [h_ a2];have:=f2.rows (n+(m+1)) (by omega);unfold iP at this ⊢;rw [g_ (by omega)] at this ⊢;refine this.congr λi _=>?_;unfold pE
    try dsimp only
    have e:Pl.sw (m+1) m=m+1:=Pl.pF (k:=m+1) (by omega);have e':r - n=m:=by omega
    rw [g_ (by omega),h_ (by omega),g_ (by omega),h_ (by omega),e',e,show n+(m+1) - n=m+1 by omega]
   ·rw [g_ a2];refine (f2.rows r hr).congr λi _=>?_;unfold pE
    try dsimp only
    by_cases h1:r<n
    ·rw [h_ h1,h_ h1]
    ·rw [g_ h1,g_ h1];by_cases h2:r<2*n
     ·rw [h_ h2,h_ h2,Pl.mF (by omega) (by omega)]
     ·rw [g_ h2,g_ h2]
 ·rw [e2];exact ((p1.grow hg).uy h.apart.1 _ _).congr (λi hi=>by unfold Cx;rw [g_ (by omega),g_ (by omega)])
 ·rw [e2];exact ((q1.grow hg).uy (abf h.apart.2.1) _ _).congr (λi hi=>by unfold Cx;rw [g_ (by omega),g_ (by omega)])
 ·unfold Cx
  split
  ·exact h.base.2.2.2.2 _ (by omega)
  ·split
   ·exact h.base.2.2.2.2 _ (by omega)
   ·exact h.base.2.2.2.2 _ hr
 ·have hB:B<=gp:=h.base.2.2.1;have hBw:B<=w1.heap.size:=by have:=z_ (o1.trans h.own);have:=h.base.1;omega
  rw [e2];refine B_ (p:=⟨gp,m,none⟩) (abt ?_ (aaw hg hBw)) hB _;rw [e1];exact B_ (p:=⟨gp,m+1,none⟩) (n_ _ _) hB _
end
def yP (G:Nat->Nat->Int) (m i a b:Nat):Int:=if a<i then G a (Pl.sw (m+1) b) else G a b
theorem NI (G:Nat->Nat->Int) (m i a b:Nat):lM (lM (yP G m i) i (m+1) (G i m)) i m (G i (m+1)) a b=yP G m (i+1) a b:=by
 unfold lM yP;have e1:Pl.sw (m+1) m=m+1:=Pl.pF (k:=m+1) (by omega);have e2:Pl.sw (m+1) (m+1)=m:=by rw [Pl.qP];rfl
 by_cases h1:a=i∧b=m
 ·rw [h_ h1,h_ (by omega),h1.1,h1.2,e1]
 ·rw [g_ h1];by_cases h2:a=i∧b=m+1
  ·rw [h_ h2,h_ (by omega),h2.1,h2.2,e2]
  ·rw [g_ h2];by_cases h3:a<i
   ·rw [h_ h3,h_ (by omega)]
   ·rw [g_ h3];by_cases h4:a=i
    ·rw [h_ (by omega),Pl.mF (by omega) (by omega)]
    ·rw [g_ (by omega)]
set_option maxHeartbeats 2000000 in
theorem FN (P:Nat->Prop) (B n m b gs gp go cs cp co:Nat) (R:Nat->Nat) (St G Ov:Nat->Nat->Int) (V:Nat->Int) (w:World) (h:bg P B w n b gs gp go cs cp co R St G Ov V) (hm:m+1<n) (hn:n<=100) :
  Calls Tryz.prog 349 #[.pointer (some ⟨b,0,none⟩),.int .i64 ((m:Int)+1)] w λe w'=>∃ R':Nat->Nat,e=.returned (.tuple #[])∧bg P B w' n b gs gp go cs cp co R' (λa=>St (Pl.sw (m+1) a)) (Pl.zz G (m+1)) Ov V∧Below B w w':=by
 have hm0:m<n:=by omega
 obtain ⟨k0,k1,k2,k3⟩:=h.cells;obtain ⟨s0,_⟩:=h.Tf (r:=m+1) (i:=0) hm (by omega);obtain ⟨s1,_⟩:=h.Tf (r:=m) (i:=0) hm0 (by omega);have fz:∀ o,w.frozen? ⟨gs,o,none⟩=false:=λo=>by obtain ⟨c,hc⟩:=h.steps.block;exact aH hc o
 have f0:=fz (m+1);have f1:=fz m;have w1':IntKind.i64.wrap ((m:Int)+1 - 1)=(m:Int):=by rw [aaE];omega
 have w2':IntKind.i64.wrap (m:Int)=(m:Int):=by rw [aaE];omega
 have w3':(m:Int)+1 - 1=(m:Int):=by omega
 have t1':((m:Int)+1).toNat=m+1:=by omega
 have l1:(m:Int)+1<(n:Int):=by omega
 have l4:(m:Int)<(n:Int):=by omega
 have l6:0<=(m:Int)+1:=by omega
 have hbp:b≠gp:=λe=>by have h1:=h.own;obtain ⟨c,hc⟩:=h.ve.block;rw [e,hc] at h1;simp at h1
 have hpb:gp≠b:=abf hbp;obtain ⟨W1,hW1⟩:∃ W,((w.setCell ⟨gs,m+1,none⟩ (.slice (some ⟨R m,0,none⟩) n n)).setCell ⟨gs,m,none⟩ (.slice (some ⟨R (m+1),0,none⟩) n n)).drew=W:=⟨_,rfl⟩;have hS:=h.Zb hm rfl (ae.refl _) rfl;have Ll:Hid (bg P B W1 n b gs gp go cs cp co (Cx R 0 m) (λa=>St (Pl.sw (m+1) a)) G Ov V∧Below B w W1):=by
  unfold Hid;rw [<-hW1];exact ⟨hS.1.grow (aaQ (n_ _ _)),aaQ hS.2⟩
 obtain ⟨j0,j1,_,_⟩:=(uh Ll).1.cells;obtain ⟨q0,_⟩:=(uh Ll).1.DY (r:=m+1) (i:=0) hm (by omega);obtain ⟨q1,_⟩:=(uh Ll).1.DY (r:=m) (i:=0) hm0 (by omega);have fz1:∀ o,W1.frozen? ⟨gp,o,none⟩=false:=λo=>by obtain ⟨c,hc⟩:=(uh Ll).1.ve.block;exact aH hc o
 have e0:=fz1 (m+1);have e1:=fz1 m;obtain ⟨RR,hRR⟩:∃ RR,Cx R 0 m=RR:=⟨_,rfl⟩;rw [hRR] at Ll q0 q1;obtain ⟨W2,hW2⟩:∃ W,((W1.setCell ⟨gp,m+1,none⟩ (.slice (some ⟨RR (n+m),0,none⟩) n n)).setCell ⟨gp,m,none⟩ (.slice (some ⟨RR (n+(m+1)),0,none⟩) n n)).drew=W:=⟨_,rfl⟩;have hS2:=(uh Ll).1.Zc hm rfl (ae.refl _) rfl;have Fh:Hid (bg P B W2 n b gs gp go cs cp co (Cx RR n m) (λa=>St (Pl.sw (m+1) a)) (λa=>G (Pl.sw (m+1) a)) Ov V∧Below B w W2):=by
  unfold Hid;rw [<-hW2];exact ⟨hS2.1.grow (aaQ (n_ _ _)),aaQ ((uh Ll).2.trans hS2.2)⟩
 obtain ⟨R2,hR2⟩:∃ R2,Cx RR n m=R2:=⟨_,rfl⟩;rw [hR2] at Fh;obtain ⟨i0,i1,_,_⟩:=(uh Fh).1.cells;clear h fz fz1 k2 k3 hS hS2 hRR hR2;go_enter Tryz.func349,Tryz.ntmps349;go_wp2_with fail;go_region;go_wp2_with fail
 try rw [hW1]
 go_region;go_wp2_with fail
 try rw [hW2]
 clear hW1 hW2 k0 k1 s0 s1 f0 f1 j0 j1 q0 q1 e0 e1;go_loopg [6] n (λk iv wr=>∃ (i:Nat),iv=.int .i64 i∧i+k=n∧Hid (bg P B wr n b gs gp go cs cp co R2 (λa=>St (Pl.sw (m+1) a)) (yP (λa=>G (Pl.sw (m+1) a)) m i) Ov V∧Below B w wr))
 case atStart=>exact ⟨0,rfl,by omega,(uh Fh).1.congr (λ_ _ _ _=>rfl) (λa b _ _=>by unfold yP;rw [g_ (by omega)]) (λ_ _ _ _=>rfl) (λ_ _=>rfl),(uh Fh).2⟩
 case round =>
  clear i0 i1 Ll Fh;obtain ⟨i,rfl,hik,HR⟩:=hrel;obtain ⟨k0,k1,_,_⟩:=(uh HR).1.cells;by_cases hin:i<n
  ·obtain ⟨s0,px,pa,pm,pc,p0,p1,hp⟩:=(uh HR).1.DY (r:=i) (i:=m+1) hin hm;obtain ⟨_,qx,qa,qm,qc,q0,q1,hq⟩:=(uh HR).1.DY (r:=i) (i:=m) hin hm0;unfold yP at hp hq;rw [g_ (by omega)] at hp hq;have HV:=af (dD hp);have hg:=ae.alloc wr (.cells #[.int .i64 px,.slice pa pm pc] 168);have hBw:B<=wr.heap.size:=by have h1:=(uh HR).1.base.1;have h2:=z_ (uh HR).1.own;omega
   obtain ⟨W3,hW3⟩:∃ W,wr.alloc (.cells #[.int .i64 px,.slice pa pm pc] 168)=W:=⟨_,rfl⟩;rw [hW3] at HV hg;have Ja:=af ((uh HR).1.grow hg);have hS:=(uh Ja).Tg (r:=i) (i:=m+1) hin hm (hq.below hg);obtain ⟨W4,xZ⟩:∃ W,((W3.setCell ⟨R2 (n+i),(m+1)*2,none⟩ (.int .i64 qx)).setCell ⟨R2 (n+i),(m+1)*2+1,none⟩ (.slice qa qm qc)).drew=W:=⟨_,rfl⟩;have LG:Hid (bg P B W4 n b gs gp go cs cp co R2 (λa=>St (Pl.sw (m+1) a)) (lM (yP (λa=>G (Pl.sw (m+1) a)) m i) i (m+1) (G (Pl.sw (m+1) i) m)) Ov V∧Below B w W4):=by
    unfold Hid;rw [<-xZ];exact ⟨hS.1.grow (aaQ (n_ _ _)),aaQ (((uh HR).2.trans (aaw hg hBw)).trans hS.2)⟩
   have hrow:=((uh Ja).oO.rows (n+i) (by omega)).block;have hRl:=((uh HR).1.oO.rows (n+i) (by omega)).lt;have DV:Hid (bC P W4 wr.heap.size px pa pm pc (G (Pl.sw (m+1) i) (m+1))):=by
    unfold Hid;rw [<-xZ];exact ((uh HV).put hrow (by omega) _ _ _ _).grow (aaQ (n_ _ _))
   have hS4:=(uh LG).1.Tg (r:=i) (i:=m) hin hm0 (uh DV).val;have Hg:Hid (bg P B ((W4.setCell ⟨R2 (n+i),m*2,none⟩ (.int .i64 px)).setCell ⟨R2 (n+i),m*2+1,none⟩ (.slice pa pm pc)).drew n b gs gp go cs cp co R2 (λa=>St (Pl.sw (m+1) a)) (yP (λa=>G (Pl.sw (m+1) a)) m (i+1)) Ov V∧Below B w ((W4.setCell ⟨R2 (n+i),m*2,none⟩ (.int .i64 px)).setCell ⟨R2 (n+i),m*2+1,none⟩ (.slice pa pm pc)).drew) :=
    ⟨(hS4.1.congr (λ_ _ _ _=>rfl) (λa b _ _=>NI _ m i a b) (λ_ _ _ _=>rfl) (λ_ _=>rfl)).grow (aaQ (n_ _ _)),aaQ ((uh LG).2.trans hS4.2)⟩
   have fz3:∀ o,W3.frozen? ⟨R2 (n+i),o,none⟩=false:=(uh Ja).free (by omega);have fz4:∀ o,W4.frozen? ⟨R2 (n+i),o,none⟩=false:=(uh LG).1.free (by omega);have a0:=fz3 ((m+1)*2);have a1:=fz3 ((m+1)*2+1);have a2:=fz4 (m*2);have a3:=fz4 (m*2+1);have c0:=hg.cell k1;have c1:=hg.cell s0;have c2:=hg.cell q0;have c3:=hg.cell q1;have c4:=hg.cell p0;have c5:=hg.cell p1;obtain ⟨d0,d1,_,_⟩:=(uh LG).1.cells;obtain ⟨d2,dx,da,dm,dc,d3,d4,_⟩:=(uh LG).1.DY (r:=i) (i:=m) hin hm0;have d5:=(uh DV).cells.1;have d6:=(uh DV).cells.2.1;clear hp hq hg hBw hS hrow hRl hS4 fz3 fz4 HV Ja LG DV;go_wp2_with fail
   try rw [hW3]
   go_region;go_wp2_with fail
   try rw [xZ]
   go_region;go_wp2;go_roundg (gk - 1)
   case measure=>omega
   case rel=>exact ⟨i+1,by simp,by omega,uh Hg⟩
  ·have hin':i=n:=by omega
   have HF:Hid (bg P B wr n b gs gp go cs cp co R2 (λa=>St (Pl.sw (m+1) a)) (Pl.zz G (m+1)) Ov V):=(uh HR).1.congr (λ_ _ _ _=>rfl) (λa b ha _=>by unfold yP;rw [h_ (by omega)];rfl) (λ_ _ _ _=>rfl) (λ_ _=>rfl);go_wp2;go_end0;exact ⟨R2,rfl,uh HF,(uh HR).2⟩
theorem aD.ed {P:Nat->Prop} {w w':World} {v:Value} {l:List Int} (h:aD P w v l) (h1:aA 168 w w') (h2:aA 3 w w'):aD P w' v l:=by
 obtain ⟨ad,cap,rfl,hc,h⟩:=h;refine ⟨ad,cap,rfl,hc,λi hi=>?_⟩;obtain ⟨g,off,x,a,m,c,e,c1,c2,hw,hp,cs',hcs⟩:=h i hi;have hs:=h1 g cs' hcs;exact ⟨g,off,x,a,m,c,e,by rw [cellsOf (hs.trans hcs),<-cellsOf hcs];exact c1,by rw [cellsOf (hs.trans hcs),<-cellsOf hcs];exact c2,hw.bX h2,hp,cs',hs.trans hcs⟩
def dC (P:Nat->Prop) (B:Nat) (w:World) (v:Value) (ls:List (List Int)):Prop:=∃ xs,w.ownsRow B 159 1 v ls.length xs∧jO P w xs ls
theorem dC.rows {P:Nat->Prop} {B:Nat} {w:World} {v:Value} {ls:List (List Int)} (h:dC P B w v ls) (hP:∀ g,B<=g->P g):aM P w v ls:=by
 obtain ⟨xs,h1,h2⟩:=h;exact h2.rows h1 hP
theorem dC.grow {P:Nat->Prop} {B:Nat} {w w':World} {v:Value} {ls:List (List Int)} (h:dC P B w v ls) (hg:ae w w'):dC P B w' v ls:=by
 obtain ⟨xs,h1,h2⟩:=h;exact ⟨xs,aW h1 (.aX hg),h2.grow (.aX hg)⟩
theorem dC.nil (P:Nat->Prop) (B:Nat) (w:World):dC P B w (.slice none 0 0) []:=⟨[],⟨rfl,.inl ⟨rfl,rfl⟩⟩,.nil P w⟩
theorem dC.len {P:Nat->Prop} {B:Nat} {w:World} {a:Option Addr} {n c:Nat} {ls:List (List Int)} (h:dC P B w (.slice a n c) ls):n=ls.length:=by
 obtain ⟨xs,h1,_⟩:=h;rcases h1.2 with ⟨e,h0⟩|⟨g,cap,cur,e,_⟩
 ·cases e;exact h0.symm
 ·cases e;rfl
theorem jO.ed {P:Nat->Prop} {w w':World} {xs:List Value} {ls:List (List Int)} (h:jO P w xs ls) (h1:aA 168 w w') (h2:aA 3 w w'):jO P w' xs ls :=
 ⟨h.len,λi hi=>by obtain ⟨u,d1,d3⟩:=h.at_ i hi;exact ⟨u,d1,d3.ed h1 h2⟩⟩
theorem dC.ed {P:Nat->Prop} {B:Nat} {w w':World} {v:Value} {ls:List (List Int)} (h:dC P B w v ls) (h0:aA 159 w w') (h1:aA 168 w w') (h2:aA 3 w w'):dC P B w' v ls:=by
 obtain ⟨xs,d1,d2⟩:=h;exact ⟨xs,aW d1 h0,d2.ed h1 h2⟩
theorem DI {P:Nat->Prop} {o:Oper} {a:Act} {w:World} {K:Act->World->Prop} {Q:Exit->Act->World->Prop} (s x:Operand)
  (ho:o.op=.call { callee:=.builtin .append,args:=#[s,x],argTypes:=#[162,162] })
  (B:Nat) (v:Value) (ls:List (List Int)) (row:List Int) (u:Value) (hs:a.eval s=v) (h:dC P B w v ls) (gx c:Nat) (hx:a.eval x=.slice (some ⟨gx,0,none⟩) 1 c) (hblk:w.heap[gx]?=some (.cells #[u] 159 (0,0))) (hu:aD P w u row) (hn:ls.length<=1000000) (hB:B<=w.heap.size)
  (hK:∀ g cap w',dC P B w' (.slice (some ⟨g,0,none⟩) (ls.length+1) cap) (ls++[row])->Below B w w'->(∀ e:TypeId,159≠e->aA e w w')->K (a.put o.dst (.slice (some ⟨g,0,none⟩) (ls.length+1) cap)) w'):o.wp Tryz.prog a w K Q:=by
 obtain ⟨i0,hi0,hz0,hz1,hz2⟩:=V_ Tryz.l9;obtain ⟨xs,h1,h2⟩:=h;obtain ⟨ua,un,uc,rfl⟩:=hu.aB;refine wp_append_lies w s x 162 ho B 159 i0 (.slice none 0 0) 1 24 Tryz.underlying162 hi0 hz0 hz1 hz2 rfl (by decide) v ls.length xs hs h1 ⟨gx,0,none⟩ 1 c [.slice ua un uc] hx rfl (λj u hu=>aav hblk j u hu) (by simp [Value.oneCell']) (by decide) (by unfold maxLen;omega) (by omega) hB _ rfl λg cap w' d1 d2 _ _=>?_;have kt:∀ e:TypeId,159≠e->aA e w w':=λe he=>aA.grown h1 d2 he;refine hK g cap w' ⟨xs++[.slice ua un uc],by rw [C_];exact d1,?_⟩ (abS (n_ _ _) d2 hB (bT h1)) kt;exact (h2.ed (kt _ (by decide)) (kt _ (by decide))).snoc (hu.ed (kt _ (by decide)) (kt _ (by decide)))
def fM (P:Nat->Prop) (row:List Int) (v:Value) (w:World):Prop:=∃ g u,v=.slice (some ⟨g,0,none⟩) 1 1∧w.heap[g]?=some (.cells #[u] 159 (0,0))∧aD P w u row
theorem fM.grow {P:Nat->Prop} {row:List Int} {v:Value} {w w':World} (h:fM P row v w) (hg:ae w w'):fM P row v w':=by
 obtain ⟨g,u,e,h1,h2⟩:=h;exact ⟨g,u,e,Below.same hg _ _ h1,h2.below hg⟩
def pX (v:Value):Prop:=∃ g,v=.slice (some ⟨g,0,none⟩) 1 1
theorem pX.some:∃ v,pX v:=⟨_,0,rfl⟩
theorem fM.new {P:Nat->Prop} {row:List Int} {u:Value} {w:World} (h:aD P w u row):fM P row (.slice (some ⟨w.heap.size,0,none⟩) 1 1) (w.alloc (.cells #[u] 159)):=⟨_,u,rfl,aG _ _,h.below (ae.alloc _ _)⟩
def jk (P:Nat->Prop) (B:Nat) (w:World) (v:Value) (l:List Int):Prop:=∃ xs,w.ownsRow B 168 2 v l.length xs∧pY P w xs l
theorem jk.row {P:Nat->Prop} {B:Nat} {w:World} {v:Value} {l:List Int} (h:jk P B w v l) (hP:∀ g,B<=g->P g):aD P w v l:=by
 obtain ⟨xs,h1,h2⟩:=h;exact h2.row h1 hP
theorem jk.grow {P:Nat->Prop} {B:Nat} {w w':World} {v:Value} {l:List Int} (h:jk P B w v l) (hg:ae w w'):jk P B w' v l:=by
 obtain ⟨xs,h1,h2⟩:=h;exact ⟨xs,aW h1 (.aX hg),h2.grow hg⟩
theorem jk.nil (P:Nat->Prop) (B:Nat) (w:World):jk P B w (.slice none 0 0) []:=⟨[],⟨rfl,.inl ⟨rfl,rfl⟩⟩,.nil P w⟩
theorem pY.ed {P:Nat->Prop} {w w':World} {xs:List Value} {l:List Int} (h:pY P w xs l) (h2:aA 3 w w'):pY P w' xs l :=
 ⟨h.len,λi hi=>by obtain ⟨x,a,m,c,d1,d2,d3⟩:=h.at_ i hi;exact ⟨x,a,m,c,d1,d2,d3.bX h2⟩⟩
theorem bA.ed {P:Nat->Prop} {w w':World} {g n:Nat} {f:Nat->Int} (h:bA P w g n f) (h1:aA 168 w w') (h2:aA 3 w w'):bA P w' g n f:=by
 obtain ⟨cs,d1,d2,d3⟩:=h;refine ⟨cs,(h1 g cs d1).trans d1,d2,λi hi=>?_⟩;obtain ⟨x,a,m,c,e1,e2,e3⟩:=d3 i hi;exact ⟨x,a,m,c,e1,e2,e3.bX h2⟩
theorem sH.ed {P:Nat->Prop} {w w':World} {N:Nat} {R len:Nat->Nat} {f:Nat->Nat->Int} (h:sH P w N R len f) (h1:aA 168 w w') (h2:aA 3 w w'):sH P w' N R len f:=⟨λr hr=>(h.rows r hr).ed h1 h2,h.inj⟩
theorem sH.snoc {P:Nat->Prop} {w:World} {N:Nat} {R len:Nat->Nat} {f:Nat->Nat->Int} (h:sH P w N R len f) {g:Nat} {fr:Nat->Int} (hr:bA P w g (len N) fr) (hne:∀ r,r<N->R r≠g) (hf:∀ i,i<len N->f N i=fr i):sH P w (N+1) (λr=>if r=N then g else R r) len f:=by
 refine ⟨λr hr'=>?_,λr s hr' hs e=>?_⟩
 ·by_cases e:r=N
  ·rw [h_ e,e];exact hr.congr (λi hi=>(hf i hi).symm)
  ·rw [g_ e];exact h.rows r (by omega)
 ·by_cases e1:r=N <;> by_cases e2:s=N
  ·omega
  ·rw [h_ e1,g_ e2] at e;exact absurd e.symm (hne s (by omega))
  ·rw [g_ e1,h_ e2] at e;exact absurd e (hne r (by omega))
  ·rw [g_ e1,g_ e2] at e;exact h.inj r s (by omega) (by omega) e
def Ap (v u:Value):Prop:=∀ g,v.ownBlock=some g->u.ownBlock≠some g
theorem Ap.symm {v u:Value} (h:Ap v u):Ap u v:=λg e1 e2=>h g e2 e1
theorem nC {w w':World} {B:Nat} {e:TypeId} {s n:Nat} {v u:Value} {xs:List Value} (h:w.ownsRow B e s u n xs) (hg:w.grownBy w' v.ownBlock) (ha:Ap v u) {g k cap:Nat} (hat:v.ownBlock=some g∨g=w.heap.size):w'.ownsRow B e s u n xs∧Ap (.slice (some ⟨g,0,none⟩) k cap) u:=by
 refine ⟨h.kept hg ?_,λg' e1 e2=>?_⟩
 ·rcases hu:u.ownBlock with _ | k
  ·exact .inl rfl
  ·refine .inr λe3=>?_;exact ha k e3.symm hu
 ·have e4:g=g':=by simpa [Value.ownBlock] using e1
  subst e4;rcases hat with h1|h1
  ·exact ha g h1 e2
  ·have:=(h.lt g e2).2;omega
structure Laid (P:Nat->Prop) (B:Nat) (w:World) (n N b:Nat) (vs vp vo:Value) (ks kp ko:Nat) (R:Nat->Nat) (f:Nat->Nat->Int):Prop where
 own:w.heap[b]?=some (.cells #[vs,vp,.slice (some ⟨R 0,0,none⟩) (n+1) (n+1),vo] 386 (0,0))
 oO:sH P w N R (λr=>if r=0 then n+1 else n) f
 s:w.ownsRow B 159 1 vs ks ((List.range ks).map λa=>.slice (some ⟨R (3*a+1),0,none⟩) n n)
 p:w.ownsRow B 159 1 vp kp ((List.range kp).map λa=>.slice (some ⟨R (3*a+2),0,none⟩) n n)
 o:w.ownsRow B 159 1 vo ko ((List.range ko).map λa=>.slice (some ⟨R (3*a+3),0,none⟩) n n)
 sp:Ap vs vp
 so:Ap vs vo
 po:Ap vp vo
 base:B<=b∧∀ r,r<N->B<=R r
 lim:0<N∧(∀ a,a<ks->3*a+1<N)∧(∀ a,a<kp->3*a+2<N)∧∀ a,a<ko->3*a+3<N
section
variable {P:Nat->Prop} {B:Nat} {w w':World} {n N b ks kp ko:Nat} {vs vp vo:Value} {R:Nat->Nat} {f:Nat->Nat->Int}
theorem Laid.grow (h:Laid P B w n N b vs vp vo ks kp ko R f) (hg:ae w w'):Laid P B w' n N b vs vp vo ks kp ko R f :=
 ⟨Below.same hg _ _ h.own,h.oO.grow hg,aW h.s (.aX hg),aW h.p (.aX hg),aW h.o (.aX hg),h.sp,h.so,h.po,h.base,h.lim⟩
theorem pG {w:World} {B:Nat} {n b o:Nat} {v u:Value} {xs:List Value} {cs:Array Value} (h:w.ownsRow B 159 1 v n xs) (hb:w.heap[b]?=some (.cells cs 386 (0,0))):(w.setCell ⟨b,o,none⟩ u).ownsRow B 159 1 v n xs:=aW h (aA.setCell hb (by decide) _ _)
theorem Laid.adv (h:Laid P B w n N b vs vp vo ks kp ko R f) {g cap:Nat} (hN:3*ks+1<N) (hg:w.grownBy w' vs.ownBlock) (hat:vs.ownBlock=some g∨g=w.heap.size) (ho:w'.ownsRow B 159 1 (.slice (some ⟨g,0,none⟩) (ks+1) cap) (ks+1) ((List.range ks).map (λa=>.slice (some ⟨R (3*a+1),0,none⟩) n n)++[.slice (some ⟨R (3*ks+1),0,none⟩) n n])) :
  Laid P B (w'.setCell ⟨b,0,none⟩ (.slice (some ⟨g,0,none⟩) (ks+1) cap)) n N b (.slice (some ⟨g,0,none⟩) (ks+1) cap) vp vo (ks+1) kp ko R f∧Below B w (w'.setCell ⟨b,0,none⟩ (.slice (some ⟨g,0,none⟩) (ks+1) cap))∧w'.heap[b]?=w.heap[b]?:=by
 have kt:∀ e:TypeId,159≠e->aA e w w':=λe he=>aA.grown h.s hg he;have hb:w'.heap[b]?=w.heap[b]?:=kt _ (by decide) b _ h.own;have hb':=hb.trans h.own;obtain ⟨p1,a1⟩:=nC (k:=ks+1) (cap:=cap) h.p hg h.sp hat;obtain ⟨o1,a2⟩:=nC (k:=ks+1) (cap:=cap) h.o hg h.so hat;refine ⟨⟨j_ w' b 0 _ _ _ hb',?_,?_,pG p1 hb',pG o1 hb',a1,a2,h.po,h.base,h.lim.1,λa ha=>(show 3*a+1<N by omega),h.lim.2.2⟩,?_,hb⟩
 ·exact (h.oO.ed (kt _ (by decide)) (kt _ (by decide))).ed (aA.setCell hb' (by decide) _ _) (aA.setCell hb' (by decide) _ _)
 ·rw [ab9,abv];exact pG ho hb'
 ·refine B_ (p:=⟨b,0,none⟩) (abS (n_ _ _) hg ?_ (bT h.s)) h.base.1 _;have:=z_ h.own;have:=h.base.1;omega
theorem Laid.adw (h:Laid P B w n N b vs vp vo ks kp ko R f) {g cap:Nat} (hN:3*kp+2<N) (hg:w.grownBy w' vp.ownBlock) (hat:vp.ownBlock=some g∨g=w.heap.size) (ho:w'.ownsRow B 159 1 (.slice (some ⟨g,0,none⟩) (kp+1) cap) (kp+1) ((List.range kp).map (λa=>.slice (some ⟨R (3*a+2),0,none⟩) n n)++[.slice (some ⟨R (3*kp+2),0,none⟩) n n])) :
  Laid P B (w'.setCell ⟨b,1,none⟩ (.slice (some ⟨g,0,none⟩) (kp+1) cap)) n N b vs (.slice (some ⟨g,0,none⟩) (kp+1) cap) vo ks (kp+1) ko R f∧Below B w (w'.setCell ⟨b,1,none⟩ (.slice (some ⟨g,0,none⟩) (kp+1) cap))∧w'.heap[b]?=w.heap[b]?:=by
 have kt:∀ e:TypeId,159≠e->aA e w w':=λe he=>aA.grown h.p hg he;have hb:w'.heap[b]?=w.heap[b]?:=kt _ (by decide) b _ h.own;have hb':=hb.trans h.own;obtain ⟨p1,a1⟩:=nC (k:=kp+1) (cap:=cap) h.s hg h.sp.symm hat;obtain ⟨o1,a2⟩:=nC (k:=kp+1) (cap:=cap) h.o hg h.po hat;refine ⟨⟨j_ w' b 1 _ _ _ hb',?_,pG p1 hb',?_,pG o1 hb',a1.symm,h.so,a2,h.base,h.lim.1,h.lim.2.1,λa ha=>(show 3*a+2<N by omega),h.lim.2.2.2⟩,?_,hb⟩
 ·exact (h.oO.ed (kt _ (by decide)) (kt _ (by decide))).ed (aA.setCell hb' (by decide) _ _) (aA.setCell hb' (by decide) _ _)
 ·rw [ab9,abv];exact pG ho hb'
 ·refine B_ (p:=⟨b,1,none⟩) (abS (n_ _ _) hg ?_ (bT h.p)) h.base.1 _;have:=z_ h.own;have:=h.base.1;omega
theorem Laid.Zd (h:Laid P B w n N b vs vp vo ks kp ko R f) {g cap:Nat} (hN:3*ko+3<N) (hg:w.grownBy w' vo.ownBlock) (hat:vo.ownBlock=some g∨g=w.heap.size) (ho:w'.ownsRow B 159 1 (.slice (some ⟨g,0,none⟩) (ko+1) cap) (ko+1) ((List.range ko).map (λa=>.slice (some ⟨R (3*a+3),0,none⟩) n n)++[.slice (some ⟨R (3*ko+3),0,none⟩) n n])) :
  Laid P B (w'.setCell ⟨b,3,none⟩ (.slice (some ⟨g,0,none⟩) (ko+1) cap)) n N b vs vp (.slice (some ⟨g,0,none⟩) (ko+1) cap) ks kp (ko+1) R f∧Below B w (w'.setCell ⟨b,3,none⟩ (.slice (some ⟨g,0,none⟩) (ko+1) cap))∧w'.heap[b]?=w.heap[b]?:=by
 have kt:∀ e:TypeId,159≠e->aA e w w':=λe he=>aA.grown h.o hg he;have hb:w'.heap[b]?=w.heap[b]?:=kt _ (by decide) b _ h.own;have hb':=hb.trans h.own;obtain ⟨p1,a1⟩:=nC (k:=ko+1) (cap:=cap) h.s hg h.so.symm hat;obtain ⟨o1,a2⟩:=nC (k:=ko+1) (cap:=cap) h.p hg h.po.symm hat;refine ⟨⟨j_ w' b 3 _ _ _ hb',?_,pG p1 hb',pG o1 hb',?_,h.sp,a1.symm,a2.symm,h.base,h.lim.1,h.lim.2.1,h.lim.2.2.1,λa ha=>(show 3*a+3<N by omega)⟩,?_,hb⟩
 ·exact (h.oO.ed (kt _ (by decide)) (kt _ (by decide))).ed (aA.setCell hb' (by decide) _ _) (aA.setCell hb' (by decide) _ _)
 ·rw [ab9,abv];exact pG ho hb'
 ·refine B_ (p:=⟨b,3,none⟩) (abS (n_ _ _) hg ?_ (bT h.o)) h.base.1 _;have:=z_ h.own;have:=h.base.1;omega
theorem Laid.row (h:Laid P B w n N b vs vp vo ks kp ko R f) {g:Nat} {fr:Nat->Int} (h1:bA P w g n fr) (hne:∀ r,r<N->R r≠g) (e1:∀ k,k<n->f N k=fr k) (hB:B<=g) :
  ∃ R',Laid P B w n (N+1) b vs vp vo ks kp ko R' f∧R' N=g∧∀ r,r<N->R' r=R r:=by
 obtain ⟨l0,l1,l2,l3⟩:=h.lim;have F1:=h.oO.snoc (g:=g) (fr:=fr) (by rw [g_ (by omega)];exact h1) hne (λk hk=>e1 k (by rwa [g_ (by omega)] at hk));obtain ⟨R',hR'⟩:∃ R',R'=(λr=>if r=N then g else R r):=⟨_,rfl⟩;rw [<-hR'] at F1;have eR:∀ r,r<N->R' r=R r:=λr hr=>by rw [hR'];show (if _ then _ else _)=_;rw [g_ (by omega)]
 have g1':R' N=g:=by rw [hR'];show (if _ then _ else _)=_;rw [h_ rfl]
 have em:∀ c k,(∀ a,a<k->3*a+c<N)->(List.range k).map (λa=>Value.slice (some ⟨R (3*a+c),0,none⟩) n n)=(List.range k).map (λa=>Value.slice (some ⟨R' (3*a+c),0,none⟩) n n):=λc k hc=>abr λa ha=>by rw [eR _ (hc a (W_.1 ha))]
 refine ⟨R',⟨by rw [eR 0 l0];exact h.own,F1,by rw [<-em 1 ks l1];exact h.s,by rw [<-em 2 kp l2];exact h.p,by rw [<-em 3 ko l3];exact h.o,h.sp,h.so,h.po,⟨h.base.1,λr hr=>?_⟩,by omega,λa ha=>by have:=l1 a ha;omega,λa ha=>by have:=l2 a ha;omega,λa ha=>by have:=l3 a ha;omega⟩,g1',eR⟩;rcases (show r<N∨r=N by omega) with h4|h4
 ·rw [eR r h4];exact h.base.2 r h4
 ·rw [h4,g1'];exact hB
def A9 (n:Nat) (R:Nat->Nat) (r:Nat):Nat:=if r<n then R (3*r+1) else if r<2*n then R (3*(r - n)+2) else if r<3*n then R (3*(r - 2*n)+3) else R 0
theorem FO {w:World} {B n k c g cap off:Nat} {R R':Nat->Nat} (h:w.ownsRow B 159 1 (.slice (some ⟨g,0,none⟩) k cap) k ((List.range k).map λa=>.slice (some ⟨R (3*a+c),0,none⟩) n n)) (hk:0<k) (he:∀ a,a<k->R' (off+a)=R (3*a+c)):dO w g k R' off n∧k<=cap∧B<=g:=by
 rcases h.2 with ⟨e,h0⟩|⟨g',cap',cur,e,hb,jU,hle,_,hsz,htk⟩
 ·omega
 ·cases e;refine ⟨⟨cur,jU,λi hi=>?_⟩,hle,hb⟩;have:(cur.toList.take (k*1))[i]?=some (.slice (some ⟨R (3*i+c),0,none⟩) n n):=by
   rw [htk,aas,abK hi];rfl
  rw [aak (by omega)] at this;rw [he i hi]
  simpa using this
theorem Laid.done (h:Laid P B w n (3*n+1) b vs vp vo n n n R f) (hn:0<n):∃ gs gp go cs cp co,bg P B w n b gs gp go cs cp co (A9 n R) (λa=>f (3*a+1)) (λa=>f (3*a+2)) (λa=>f (3*a+3)) (f 0):=by
 obtain ⟨gs,cs,rfl,_⟩:=h.s.form hn;obtain ⟨gp,cp,rfl,_⟩:=h.p.form hn;obtain ⟨go,co,rfl,_⟩:=h.o.form hn;have e0:A9 n R (3*n)=R 0:=by unfold A9;rw [g_ (by omega),g_ (by omega),g_ (by omega)]
 have r1:∀ a,a<n->A9 n R (0+a)=R (3*a+1):=λa ha=>by unfold A9;rw [h_ (by omega),M_]
 have r2:∀ a,a<n->A9 n R (n+a)=R (3*a+2):=λa ha=>by unfold A9;rw [g_ (by omega),h_ (by omega),acs]
 have r3:∀ a,a<n->A9 n R (2*n+a)=R (3*a+3):=λa ha=>by unfold A9;rw [g_ (by omega),g_ (by omega),h_ (by omega),acs]
 obtain ⟨s1,s2,s3⟩:=FO h.s hn r1;obtain ⟨p1,p2,p3⟩:=FO h.p hn r2;obtain ⟨o1,o2,o3⟩:=FO h.o hn r3;have idx:∀ r,r<3*n+1->∃ q,q<3*n+1∧A9 n R r=R q∧q=(if r<n then 3*r+1 else if r<2*n then 3*(r - n)+2 else if r<3*n then 3*(r - 2*n)+3 else 0):=λr hr=>by
  unfold A9;by_cases c1:r<n
  ·exact ⟨3*r+1,by omega,by rw [h_ c1],by rw [h_ c1]⟩
  ·by_cases c2:r<2*n
   ·exact ⟨3*(r - n)+2,by omega,by rw [g_ c1,h_ c2],by rw [g_ c1,h_ c2]⟩
   ·by_cases c3:r<3*n
    ·exact ⟨3*(r - 2*n)+3,by omega,by rw [g_ c1,g_ c2,h_ c3],by rw [g_ c1,g_ c2,h_ c3]⟩
    ·exact ⟨0,by omega,by rw [g_ c1,g_ c2,g_ c3],by rw [g_ c1,g_ c2,g_ c3]⟩
 refine ⟨gs,gp,go,cs,cp,co,by rw [e0];exact h.own,⟨λr hr=>?_,λr s hr hs e=>?_⟩,s1,p1,o1,⟨λe=>h.sp gs rfl (by rw [e];rfl),λe=>h.po gp rfl (by rw [e];rfl),λe=>h.so gs rfl (by rw [e];rfl)⟩,⟨h.base.1,s3,p3,o3,λr hr=>?_⟩,s2,p2,o2⟩
 ·obtain ⟨q,hq,Ze,LH⟩:=idx r hr;rw [Ze];have h1:=h.oO.rows q hq;unfold pE iP;by_cases c1:r<n
  ·rw [h_ c1] at LH;rw [g_ (by omega)];rw [g_ (by omega)] at h1;exact h1.congr λi _=>by rw [h_ c1,LH]
  ·rw [g_ c1] at LH;by_cases c2:r<2*n
   ·rw [h_ c2] at LH;rw [g_ (by omega)];rw [g_ (by omega)] at h1;exact h1.congr λi _=>by rw [g_ c1,h_ c2,LH]
   ·rw [g_ c2] at LH;by_cases c3:r<3*n
    ·rw [h_ c3] at LH;rw [g_ (by omega)];rw [g_ (by omega)] at h1;exact h1.congr λi _=>by rw [g_ c1,g_ c2,h_ c3,LH]
    ·rw [g_ c3] at LH;rw [h_ (by omega)];rw [h_ (by omega)] at h1;exact h1.congr λi _=>by rw [g_ c1,g_ c2,g_ c3,LH]
 ·obtain ⟨q,hq,Ze,LH⟩:=idx r hr;obtain ⟨q',hq',adx,Wv⟩:=idx s hs;rw [Ze,adx] at e;have:=h.oO.inj q q' hq hq' e
  split at LH <;> split at Wv <;> (try split at LH) <;> (try split at Wv) <;> (try split at LH) <;> (try split at Wv) <;> omega
 ·obtain ⟨q,hq,Ze,_⟩:=idx r hr;rw [Ze];exact h.base.2 q hq
end
end Go.Proofs.YtfaljekgpnbmiaaGreat
