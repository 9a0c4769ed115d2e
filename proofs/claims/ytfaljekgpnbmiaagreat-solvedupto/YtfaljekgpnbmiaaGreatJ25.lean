/- Joined: XMat XLatM XLat6. -/
import Derived.Test.YtfaljekgpnbmiaaGreatJ06
import Derived.Test.YtfaljekgpnbmiaaGreatJ24
set_option linter.unusedVariables false
set_option linter.unusedSimpArgs false
set_option maxRecDepth 100000
namespace Go.Proofs.YtfaljekgpnbmiaaGreat
open Go.RowKit Go.Sort
structure sH (P:Nat->Prop) (w:World) (N:Nat) (R len:Nat->Nat) (f:Nat->Nat->Int):Prop where
 rows:∀ r,r<N->bA P w (R r) (len r) (f r)
 inj:∀ r s,r<N->s<N->R r=R s->r=s
theorem sH.grow {P:Nat->Prop} {w w':World} {N:Nat} {R len:Nat->Nat} {f:Nat->Nat->Int} (h:sH P w N R len f) (hg:ae w w'):sH P w' N R len f:=⟨λr hr=>(h.rows r hr).grow hg,h.inj⟩
theorem sH.congr {P:Nat->Prop} {w:World} {N:Nat} {R len:Nat->Nat} {f f':Nat->Nat->Int} (h:sH P w N R len f) (e:∀ r i,r<N->i<len r->f r i=f' r i):sH P w N R len f':=⟨λr hr=>(h.rows r hr).congr (λi hi=>e r i hr hi),h.inj⟩
def lM (f:Nat->Nat->Int) (r i:Nat) (v:Int) (a b:Nat):Int:=if a=r∧b=i then v else f a b
theorem bA.uy {P:Nat->Prop} {w:World} {g n:Nat} {f:Nat->Int} (h:bA P w g n f) {k:Nat} {cs:Array Value} {T:TypeId} (hk:w.heap[k]?=some (.cells cs T (0,0))) (hT:T≠3) (hne:g≠k) (o:Nat) (u:Value):bA P (w.setCell ⟨k,o,none⟩ u) g n f:=by
 obtain ⟨cs',h1,h2,h4⟩:=h;refine ⟨cs',(l_ _ _ _ _ hne).trans h1,h2,λi hi=>?_⟩;obtain ⟨x,a,m,c,d1,d2,d3⟩:=h4 i hi;exact ⟨x,a,m,c,d1,d2,d3.bX (aA.setCell hk hT o u)⟩
theorem sH.set {P:Nat->Prop} {w:World} {N:Nat} {R len:Nat->Nat} {f:Nat->Nat->Int} (h:sH P w N R len f) {r i:Nat} (hr:r<N) (hi:i<len r) {x:Int} {a:Option Addr} {m c:Nat} {v:Int} (hv:aj P w (.agg #[.int .i64 x,.slice a m c]) v) :
  sH P ((w.setCell ⟨R r,i*2,none⟩ (.int .i64 x)).setCell ⟨R r,i*2+1,none⟩ (.slice a m c)) N R len (lM f r i v):=by
 refine ⟨λs hs=>?_,h.inj⟩;by_cases e:s=r
 ·subst e;refine ((h.rows s hs).set hi hv).congr (λk hk=>?_);unfold ql lM;by_cases e2:k=i
  ·rw [h_ e2,h_ ⟨rfl,e2⟩]
  ·rw [g_ e2,g_ (λh=>e2 h.2)]
 ·have hne:R s≠R r:=λhe=>e (h.inj s r hs hr he);obtain ⟨cs,hcs⟩:=(h.rows r hr).block;refine (((h.rows s hs).uy hcs (by decide) hne _ _).uy (j_ w (R r) (i*2) _ _ (.int .i64 x) hcs) (by decide) hne _ _).congr (λk _=>?_);unfold lM;rw [g_ (λh=>e h.1)]
theorem sH.uy {P:Nat->Prop} {w:World} {N:Nat} {R len:Nat->Nat} {f:Nat->Nat->Int} (h:sH P w N R len f) {k:Nat} {cs:Array Value} {T:TypeId} (hk:w.heap[k]?=some (.cells cs T (0,0))) (hT:T≠3) (hne:∀ r,r<N->R r≠k) (o:Nat) (u:Value):sH P (w.setCell ⟨k,o,none⟩ u) N R len f:=⟨λr hr=>(h.rows r hr).uy hk hT (hne r hr) o u,h.inj⟩
def dO (w:World) (g n:Nat) (R:Nat->Nat) (off l:Nat):Prop:=∃ cs,w.heap[g]?=some (.cells cs 159 (0,0))∧∀ i,i<n->cs[i]?=some (.slice (some ⟨R (off+i),0,none⟩) l l)
theorem dO.grow {w w':World} {g n:Nat} {R:Nat->Nat} {off l:Nat} (h:dO w g n R off l) (hg:ae w w'):dO w' g n R off l:=by
 obtain ⟨cs,h1,h2⟩:=h;exact ⟨cs,Below.same hg _ _ h1,h2⟩
theorem dO.block {w:World} {g n:Nat} {R:Nat->Nat} {off l:Nat} (h:dO w g n R off l):∃ cs,w.heap[g]?=some (.cells cs 159 (0,0)):=by
 obtain ⟨cs,h1,_⟩:=h;exact ⟨cs,h1⟩
theorem dO.cell {w:World} {g n:Nat} {R:Nat->Nat} {off l:Nat} (h:dO w g n R off l) {i:Nat} (hi:i<n):w.cell? ⟨g,i,none⟩=some (.slice (some ⟨R (off+i),0,none⟩) l l):=by
 obtain ⟨cs,h1,h2⟩:=h;rw [cellsOf h1];exact h2 i hi
theorem dO.uy {w:World} {g n:Nat} {R:Nat->Nat} {off l:Nat} (h:dO w g n R off l) {k:Nat} (hne:g≠k) (o:Nat) (u:Value):dO (w.setCell ⟨k,o,none⟩ u) g n R off l:=by
 obtain ⟨cs,h1,h2⟩:=h;exact ⟨cs,(l_ _ _ _ _ hne).trans h1,h2⟩
theorem j6 {P:Nat->Prop} {w:World} {N:Nat} {R len:Nat->Nat} {f:Nat->Nat->Int} (h:sH P w N R len f) {g n:Nat} {R':Nat->Nat} {off l:Nat} (hh:dO w g n R' off l):∀ r,r<N->R r≠g:=λr hr e=>by
 obtain ⟨cs,h1⟩:=(h.rows r hr).block;obtain ⟨cs',h2,_⟩:=hh;rw [e,h2] at h1;simp at h1
theorem zR {P:Nat->Prop} {w:World} {N:Nat} {R len:Nat->Nat} {f:Nat->Nat->Int} (h:sH P w N R len f) {g n off l:Nat} (hh:dO w g n R off l) (hoff:off+n<=N) (hl:∀ i,i<n->len (off+i)=l) (cap:Nat) (hcap:n<=cap) (hp:∀ k,k=g∨(∃ i,i<n∧k=R (off+i))->P k):aM P w (.slice (some ⟨g,0,none⟩) n cap) ((List.range n).map λi=>(List.range l).map (f (off+i))):=by
 obtain ⟨cs,h1,h2⟩:=hh;refine ⟨some ⟨g,0,none⟩,cap,by simp,by simpa using hcap,λi hi=>?_⟩;have hi':i<n:=by simpa using hi
 refine ⟨g,0,_,rfl,by rw [cellsOf h1,M_];exact h2 i hi',?_,hp g (.inl rfl),cs,h1⟩;have h3:=h.rows (off+i) (by omega);rw [hl i hi'] at h3
 simpa using h3.row (hp _ (.inr ⟨i,hi',rfl⟩))
set_option maxHeartbeats 20000000 in
theorem EK (P:Nat->Prop) (n:Nat) (w:World) (hP:∀ b,w.heap.size<=b->P b) (hn:n<=100) :
  Calls Tryz.prog 335 #[.int .i64 n] w λe w'=>∃ (g:Nat) (R:Nat->Nat),e=.returned (.slice (some ⟨g,0,none⟩) n n)∧w.heap.size<=g∧(∀ r,r<n->w.heap.size<=R r)∧sH P w' n R (λ_=>n) Pl.unit∧dO w' g n R 0 n∧Below w.heap.size w w':=by
 obtain ⟨i0,hi0,hz0,hz1,hz2⟩:=V_ Tryz.dR;obtain ⟨i1,hi1,hy0,hy1,hy2⟩:=V_ Tryz.l9;go_enter Tryz.func335,Tryz.ntmps335;go_wp2_with (at_make;refine O_ _ rfl _ _ 162 rfl w.heap.size 159 i1 (.slice none 0 0) 1 Tryz.underlying162 hi1 hy0 hy1 .i64 .i64 _ _ n rfl rfl ?e1 ?e2 ?c1 ?c2 ?c3 ?_)
 case e1=>first | rfl | omega | simp
 case e2=>first | rfl | omega | simp
 case c1=>rw [hy2];omega
 case c2=>unfold maxLen;omega
 case c3=>first | omega | simp
 ·intro w1 hown hgrow;have hG1:ae w w1:=(n_ _ _).grown hgrow (d_ _) (by intro k hk;cases hk);have LJ:Hid (∃ cs,w1.heap[w.heap.size]?=some (.cells cs 159 (0,0))∧cs.size=n):=by
   obtain ⟨cs,h1,h2,_⟩:=fq.made (P:=P) hown;exact ⟨cs,h1,h2⟩
  have dP:=af hG1;clear hown hgrow hG1;go_wp2_with fail;go_loopg [4] n (λk iv wr=>∃ (i:Nat) (R:Nat->Nat),iv=.int .i64 i∧i+k=n∧Hid ((∀ r,r<i->w.heap.size<R r∧R r<wr.heap.size)∧sH P wr i R (λ_=>n) Pl.unit∧(∃ cs,wr.heap[w.heap.size]?=some (.cells cs 159 (0,0))∧cs.size=n∧∀ j,j<i->cs[j]?=some (.slice (some ⟨R j,0,none⟩) n n))∧ae w wr))
  case atStart =>
   obtain ⟨cs,h1,h2⟩:=uh LJ;exact ⟨0,λ_=>0,rfl,by omega,λr hr=>by omega,⟨λr hr=>by omega,λr s hr=>by omega⟩,⟨cs,h1,h2,λj hj=>by omega⟩,uh dP⟩
  case round =>
   obtain ⟨i,R,rfl,hik,HR⟩:=hrel;by_cases hlt:i<n
   ·go_wp2_with (at_make;refine O_ _ rfl _ _ 159 rfl wr.heap.size 168 i0 (.agg #[.int .i64 0,.slice none 0 0]) 2 Tryz.underlying159 hi0 hz0 hz1 .i64 .i64 _ _ n rfl rfl ?e1 ?e2 ?c1 ?c2 ?c3 ?_)
    case e1=>first | rfl | omega | simp
    case e2=>first | rfl | omega | simp
    case c1=>rw [hz2];omega
    case c2=>unfold maxLen;omega
    case c3=>first | omega | simp
    ·intro w2 hown hgrow;have hG2:ae wr w2:=(n_ _ _).grown hgrow (d_ _) (by intro k hk;cases hk);have He:Hid (bA P w2 wr.heap.size n (λ_=>0)):=bA.made hown;have HG2:=af hG2;clear hown hgrow hG2;go_wp2_with fail;refine (fP P 1 w2 (λb' hb'=>hP b' (by have:=((uh HR).2.2.2.trans (uh HG2)).size;omega)) (by decide) (by decide)).mono ?_;rintro e w3 ⟨v3,rfl,hv3,hw3⟩;obtain ⟨ox,oa,om,oc,rfl⟩:=hv3.shape;have SS:=(uh He).grow hw3;obtain ⟨qx,qa,qm,qc,r0,r1,_,f0,f1⟩:=SS.get hlt;have HR4:=af ((SS.set hlt hv3).congr (f':=Pl.unit i) (λk _=>by
      unfold ql Pl.unit;by_cases h:k=i
      ·rw [h_ h,h_ h.symm]
      ·rw [g_ h,g_ (λe=>h e.symm)]))
     have kE:Hid (ae wr ((w3.setCell ⟨wr.heap.size,i*2,none⟩ (.int .i64 ox)).setCell ⟨wr.heap.size,i*2+1,none⟩ (.slice oa om oc))):=(B_ (p:=⟨wr.heap.size,i*2,none⟩) (ae.trans (uh HG2) hw3) (d_ _) _).setCell (p:=⟨wr.heap.size,i*2+1,none⟩) (d_ _) _;have UX:Hid (∃ cs,((w3.setCell ⟨wr.heap.size,i*2,none⟩ (.int .i64 ox)).setCell ⟨wr.heap.size,i*2+1,none⟩ (.slice oa om oc)).heap[w.heap.size]?=some (.cells cs 159 (0,0))∧cs.size=n∧∀ j,j<i->cs[j]?=some (.slice (some ⟨R j,0,none⟩) n n)):=by
      obtain ⟨cs,h1,h2,h3⟩:=(uh HR).2.2.1;exact ⟨cs,Below.same (uh kE) _ _ h1,h2,h3⟩
     clear hv3 hw3 SS He HG2;obtain ⟨W4,xZ⟩:∃ W4,(w3.setCell ⟨wr.heap.size,i*2,none⟩ (.int .i64 ox)).setCell ⟨wr.heap.size,i*2+1,none⟩ (.slice oa om oc)=W4:=⟨_,rfl⟩;rw [xZ] at HR4 kE UX;obtain ⟨cs,hcs,hcz,hcj⟩:=uh UX;obtain ⟨u0,l0⟩:∃ u0,W4.cell? ⟨w.heap.size,i,none⟩=some u0:=⟨cs[i],by rw [cellsOf hcs];exact acf (by omega)⟩;have l1:W4.frozen? ⟨w.heap.size,i,none⟩=false:=aH hcs i;rw [<-xZ] at l0 l1;have HF:Hid (∃ R':Nat->Nat,(∀ r,r<i+1->w.heap.size<R' r∧R' r<(W4.setCell ⟨w.heap.size,i,none⟩ (.slice (some ⟨wr.heap.size,0,none⟩) n n)).heap.size)∧sH P (W4.setCell ⟨w.heap.size,i,none⟩ (.slice (some ⟨wr.heap.size,0,none⟩) n n)) (i+1) R' (λ_=>n) Pl.unit∧(∃ cs,(W4.setCell ⟨w.heap.size,i,none⟩ (.slice (some ⟨wr.heap.size,0,none⟩) n n)).heap[w.heap.size]?=some (.cells cs 159 (0,0))∧cs.size=n∧∀ j,j<i+1->cs[j]?=some (.slice (some ⟨R' j,0,none⟩) n n))∧ae w (W4.setCell ⟨w.heap.size,i,none⟩ (.slice (some ⟨wr.heap.size,0,none⟩) n n))):=by
      have hold:=uh HR;have hlw:w.heap.size<wr.heap.size:=by obtain ⟨cs0,h0,_⟩:=hold.2.2.1;exact z_ h0
      have hws:wr.heap.size<W4.heap.size:=(uh HR4).lt;refine ⟨λr=>if r=i then wr.heap.size else R r,λr hr=>?_,⟨λr hr=>?_,λr s hr hs e=>?_⟩,⟨_,j_ W4 w.heap.size i _ _ _ hcs,by simp [hcz],λj hj=>?_⟩,B_ (p:=⟨w.heap.size,i,none⟩) (hold.2.2.2.trans (uh kE)) (d_ _) _⟩
      ·by_cases e:r=i
       ·simp [e];omega
       ·have:=hold.1 r (by omega);simp [e];omega
      ·by_cases e:r=i
       ·subst e;simp only [h_];exact (uh HR4).uy hcs (by decide) (by omega) _ _
       ·have h1:=hold.1 r (by omega);simp only [g_ e];exact ((hold.2.1.rows r (by omega)).grow (uh kE)).uy hcs (by decide) (by omega) _ _
      ·by_cases e1:r=i <;> by_cases e2:s=i
       ·omega
       ·have:=hold.1 s (by omega);simp [e1,e2] at e;omega
       ·have:=hold.1 r (by omega);simp [e1,e2] at e;omega
       ·simp [e1,e2] at e;exact hold.2.1.inj r s (by omega) (by omega) e
      ·by_cases e:j=i
       ·subst e;rw [Q_ (by omega)];simp
       ·rw [K_ (by omega),hcj j (by omega)];simp [e]
     rw [<-xZ] at HF;clear hcs hcz hcj UX kE HR4 xZ;go_wp2;go_roundg (gk - 1)
     case measure=>omega
     case rel =>
      obtain ⟨R',a1,a2,a3,a4⟩:=uh HF;exact ⟨i+1,R',by simp,by omega,a1,a2,a3,a4⟩
   ·have hin:i=n:=by omega
    subst hin;have HF:Hid (dO wr w.heap.size i R 0 i):=by
     obtain ⟨cs,h1,_,h3⟩:=(uh HR).2.2.1;exact ⟨cs,h1,λj hj=>by rw [M_];exact h3 j hj⟩
    go_wp2;go_ret;exact ⟨w.heap.size,R,rfl,d_ _,λr hr=>ab0 ((uh HR).1 r hr).1,(uh HR).2.1,uh HF,(uh HR).2.2.2⟩
def iP (n r:Nat):Nat:=if r=3*n then n+1 else n
def pE (n:Nat) (St G Ov:Nat->Nat->Int) (V:Nat->Int) (r i:Nat):Int:=if r<n then St r i else if r<2*n then G (r - n) i else if r<3*n then Ov (r - 2*n) i else V i
structure bg (P:Nat->Prop) (B:Nat) (w:World) (n b gs gp go cs cp co:Nat) (R:Nat->Nat) (St G Ov:Nat->Nat->Int) (V:Nat->Int):Prop where
 own:w.heap[b]?=some (.cells #[.slice (some ⟨gs,0,none⟩) n cs,.slice (some ⟨gp,0,none⟩) n cp,.slice (some ⟨R (3*n),0,none⟩) (n+1) (n+1),.slice (some ⟨go,0,none⟩) n co] 386 (0,0))
 oO:sH P w (3*n+1) R (iP n) (pE n St G Ov V)
 steps:dO w gs n R 0 n
 ve:dO w gp n R n n
 over:dO w go n R (2*n) n
 apart:gs≠gp∧gp≠go∧gs≠go
 base:B<=b∧B<=gs∧B<=gp∧B<=go∧∀ r,r<3*n+1->B<=R r
 NH:n<=cs∧n<=cp∧n<=co
section
variable {P:Nat->Prop} {B:Nat} {w w':World} {n b gs gp go cs cp co:Nat} {R:Nat->Nat} {St G Ov:Nat->Nat->Int} {V:Nat->Int}
theorem bg.grow (h:bg P B w n b gs gp go cs cp co R St G Ov V) (hg:ae w w'):bg P B w' n b gs gp go cs cp co R St G Ov V :=
 ⟨Below.same hg _ _ h.own,h.oO.grow hg,h.steps.grow hg,h.ve.grow hg,h.over.grow hg,h.apart,h.base,h.NH⟩
theorem bg.congr (h:bg P B w n b gs gp go cs cp co R St G Ov V) {Hy G' Bt:Nat->Nat->Int} {V':Nat->Int} (e1:∀ r i,r<n->i<n->St r i=Hy r i) (e2:∀ r i,r<n->i<n->G r i=G' r i) (e3:∀ r i,r<n->i<n->Ov r i=Bt r i) (e4:∀ i,i<n+1->V i=V' i):bg P B w n b gs gp go cs cp co R Hy G' Bt V':=by
 refine ⟨h.own,h.oO.congr λr i hr hi=>?_,h.steps,h.ve,h.over,h.apart,h.base,h.NH⟩;unfold iP at hi;unfold pE;by_cases h1:r<n
 ·rw [h_ h1,h_ h1];rw [g_ (by omega)] at hi;exact e1 _ _ h1 hi
 ·rw [g_ h1,g_ h1];by_cases h2:r<2*n
  ·rw [h_ h2,h_ h2];rw [g_ (by omega)] at hi;exact e2 _ _ (by omega) hi
  ·rw [g_ h2,g_ h2];by_cases h3:r<3*n
   ·rw [h_ h3,h_ h3];rw [g_ (by omega)] at hi;exact e3 _ _ (by omega) hi
   ·rw [g_ h3,g_ h3];rw [h_ (by omega)] at hi;exact e4 _ hi
theorem bg.cells (h:bg P B w n b gs gp go cs cp co R St G Ov V):w.cell? ⟨b,0,none⟩=some (.slice (some ⟨gs,0,none⟩) n cs)∧w.cell? ⟨b,1,none⟩=some (.slice (some ⟨gp,0,none⟩) n cp)∧w.cell? ⟨b,2,none⟩=some (.slice (some ⟨R (3*n),0,none⟩) (n+1) (n+1))∧w.cell? ⟨b,3,none⟩=some (.slice (some ⟨go,0,none⟩) n co):=by
 refine ⟨?_,?_,?_,?_⟩ <;> (rw [cellsOf h.own];rfl)
theorem bg.Tf (h:bg P B w n b gs gp go cs cp co R St G Ov V) {r i:Nat} (hr:r<n) (hi:i<n):w.cell? ⟨gs,r,none⟩=some (.slice (some ⟨R r,0,none⟩) n n)∧∃ x a m c,w.cell? ⟨R r,i*2,none⟩=some (.int .i64 x)∧w.cell? ⟨R r,i*2+1,none⟩=some (.slice a m c)∧aj P w (.agg #[.int .i64 x,.slice a m c]) (St r i):=by
 have h1:=h.steps.cell hr;rw [M_] at h1;obtain ⟨x,a,m,c,d1,d2,d3,_⟩:=(h.oO.rows r (by omega)).get (i:=i) (by unfold iP;rw [g_ (by omega)];exact hi);refine ⟨h1,x,a,m,c,d1,d2,?_⟩;unfold pE at d3;rwa [h_ hr] at d3
theorem bg.DY (h:bg P B w n b gs gp go cs cp co R St G Ov V) {r i:Nat} (hr:r<n) (hi:i<n):w.cell? ⟨gp,r,none⟩=some (.slice (some ⟨R (n+r),0,none⟩) n n)∧∃ x a m c,w.cell? ⟨R (n+r),i*2,none⟩=some (.int .i64 x)∧w.cell? ⟨R (n+r),i*2+1,none⟩=some (.slice a m c)∧aj P w (.agg #[.int .i64 x,.slice a m c]) (G r i):=by
 obtain ⟨x,a,m,c,d1,d2,d3,_⟩:=(h.oO.rows (n+r) (by omega)).get (i:=i) (by unfold iP;rw [g_ (by omega)];exact hi);refine ⟨h.ve.cell hr,x,a,m,c,d1,d2,?_⟩;unfold pE at d3;rwa [g_ (by omega),h_ (by omega),acs] at d3
theorem bg.G8 (h:bg P B w n b gs gp go cs cp co R St G Ov V) {r i:Nat} (hr:r<n) (hi:i<n):w.cell? ⟨go,r,none⟩=some (.slice (some ⟨R (2*n+r),0,none⟩) n n)∧∃ x a m c,w.cell? ⟨R (2*n+r),i*2,none⟩=some (.int .i64 x)∧w.cell? ⟨R (2*n+r),i*2+1,none⟩=some (.slice a m c)∧aj P w (.agg #[.int .i64 x,.slice a m c]) (Ov r i):=by
 obtain ⟨x,a,m,c,d1,d2,d3,_⟩:=(h.oO.rows (2*n+r) (by omega)).get (i:=i) (by unfold iP;rw [g_ (by omega)];exact hi);refine ⟨h.over.cell hr,x,a,m,c,d1,d2,?_⟩;unfold pE at d3;rwa [g_ (by omega),g_ (by omega),h_ (by omega),acs] at d3
theorem bg.Kl (h:bg P B w n b gs gp go cs cp co R St G Ov V) {i:Nat} (hi:i<n+1):∃ x a m c,w.cell? ⟨R (3*n),i*2,none⟩=some (.int .i64 x)∧w.cell? ⟨R (3*n),i*2+1,none⟩=some (.slice a m c)∧aj P w (.agg #[.int .i64 x,.slice a m c]) (V i):=by
 obtain ⟨x,a,m,c,d1,d2,d3,_⟩:=(h.oO.rows (3*n) (by omega)).get (i:=i) (by unfold iP;rw [h_ rfl];exact hi);refine ⟨x,a,m,c,d1,d2,?_⟩;unfold pE at d3;rwa [g_ (by omega),g_ (by omega),g_ (by omega)] at d3
theorem bg.free (h:bg P B w n b gs gp go cs cp co R St G Ov V) {r:Nat} (hr:r<3*n+1) (o:Nat):w.frozen? ⟨R r,o,none⟩=false:=by
 obtain ⟨cs,hcs⟩:=(h.oO.rows r hr).block;exact aH hcs o
theorem bg.put (h:bg P B w n b gs gp go cs cp co R St G Ov V) {r i:Nat} (hr:r<3*n+1) (hi:i<iP n r) {x:Int} {a:Option Addr} {m c:Nat} {v:Int} (hv:aj P w (.agg #[.int .i64 x,.slice a m c]) v) {Hy G' Bt:Nat->Nat->Int} {V':Nat->Int} (he:∀ s k,s<3*n+1->k<iP n s->lM (pE n St G Ov V) r i v s k=pE n Hy G' Bt V' s k) :
  bg P B ((w.setCell ⟨R r,i*2,none⟩ (.int .i64 x)).setCell ⟨R r,i*2+1,none⟩ (.slice a m c)) n b gs gp go cs cp co R Hy G' Bt V'∧Below B w ((w.setCell ⟨R r,i*2,none⟩ (.int .i64 x)).setCell ⟨R r,i*2+1,none⟩ (.slice a m c)):=by
 obtain ⟨k,hk⟩:=(h.oO.rows r hr).block;have hb:b≠R r:=λe=>by have:=h.own;rw [e,hk] at this;simp at this
 have n1:=j6 h.oO h.steps r hr;have n2:=j6 h.oO h.ve r hr;have n3:=j6 h.oO h.over r hr;refine ⟨⟨?_,(h.oO.set hr hi hv).congr he,(h.steps.uy (abf n1) _ _).uy (abf n1) _ _,(h.ve.uy (abf n2) _ _).uy (abf n2) _ _,(h.over.uy (abf n3) _ _).uy (abf n3) _ _,h.apart,h.base,h.NH⟩,?_⟩
 ·exact (l_ _ _ _ _ hb).trans ((l_ _ _ _ _ hb).trans h.own)
 ·have:=h.base.2.2.2.2 r hr;exact (B_ (p:=⟨R r,i*2,none⟩) (n_ _ _) this _).setCell (p:=⟨R r,i*2+1,none⟩) this _
theorem bg.adm (h:bg P B w n b gs gp go cs cp co R St G Ov V) {r i:Nat} (hr:r<n) (hi:i<n) {x:Int} {a:Option Addr} {m c:Nat} {v:Int} (hv:aj P w (.agg #[.int .i64 x,.slice a m c]) v) :
  bg P B ((w.setCell ⟨R r,i*2,none⟩ (.int .i64 x)).setCell ⟨R r,i*2+1,none⟩ (.slice a m c)) n b gs gp go cs cp co R (lM St r i v) G Ov V∧Below B w ((w.setCell ⟨R r,i*2,none⟩ (.int .i64 x)).setCell ⟨R r,i*2+1,none⟩ (.slice a m c)) :=
 h.put (by omega) (by unfold iP;rw [g_ (by omega)];exact hi) hv (λs k hs hk=>by
  unfold lM pE
  try dsimp only
  by_cases h1:s<n
  ·rw [h_ h1,h_ h1]
  ·rw [g_ h1,g_ h1,g_ (by omega)])
theorem bg.Tg (h:bg P B w n b gs gp go cs cp co R St G Ov V) {r i:Nat} (hr:r<n) (hi:i<n) {x:Int} {a:Option Addr} {m c:Nat} {v:Int} (hv:aj P w (.agg #[.int .i64 x,.slice a m c]) v) :
  bg P B ((w.setCell ⟨R (n+r),i*2,none⟩ (.int .i64 x)).setCell ⟨R (n+r),i*2+1,none⟩ (.slice a m c)) n b gs gp go cs cp co R St (lM G r i v) Ov V∧Below B w ((w.setCell ⟨R (n+r),i*2,none⟩ (.int .i64 x)).setCell ⟨R (n+r),i*2+1,none⟩ (.slice a m c)) :=
 h.put (by omega) (by unfold iP;rw [g_ (by omega)];exact hi) hv (λs k hs hk=>by
  unfold lM pE
  try dsimp only
  by_cases h1:s<n
  ·rw [h_ h1,h_ h1,g_ (by omega)]
  ·rw [g_ h1,g_ h1];by_cases h2:s<2*n
   ·rw [h_ h2,h_ h2];by_cases h3:s=n+r∧k=i
    ·rw [h_ h3,h_ ⟨by omega,h3.2⟩]
    ·rw [g_ h3,g_ (by omega)]
   ·rw [g_ h2,g_ h2,g_ (by omega)])
theorem bg.Ws (h:bg P B w n b gs gp go cs cp co R St G Ov V) {r i:Nat} (hr:r<n) (hi:i<n) {x:Int} {a:Option Addr} {m c:Nat} {v:Int} (hv:aj P w (.agg #[.int .i64 x,.slice a m c]) v) :
  bg P B ((w.setCell ⟨R (2*n+r),i*2,none⟩ (.int .i64 x)).setCell ⟨R (2*n+r),i*2+1,none⟩ (.slice a m c)) n b gs gp go cs cp co R St G (lM Ov r i v) V∧Below B w ((w.setCell ⟨R (2*n+r),i*2,none⟩ (.int .i64 x)).setCell ⟨R (2*n+r),i*2+1,none⟩ (.slice a m c)) :=
 h.put (by omega) (by unfold iP;rw [g_ (by omega)];exact hi) hv (λs k hs hk=>by
  unfold lM pE
  try dsimp only
  by_cases h1:s<n
  ·rw [h_ h1,h_ h1,g_ (by omega)]
  ·rw [g_ h1,g_ h1];by_cases h2:s<2*n
   ·rw [h_ h2,h_ h2,g_ (by omega)]
   ·rw [g_ h2,g_ h2];by_cases h4:s<3*n
    ·rw [h_ h4,h_ h4];by_cases h3:s=2*n+r∧k=i
     ·rw [h_ h3,h_ ⟨by omega,h3.2⟩]
     ·rw [g_ h3,g_ (by omega)]
    ·rw [g_ h4,g_ h4,g_ (by omega)])
theorem bg.adJ (h:bg P B w n b gs gp go cs cp co R St G Ov V) {i:Nat} (hi:i<n+1) {x:Int} {a:Option Addr} {m c:Nat} {v:Int} (hv:aj P w (.agg #[.int .i64 x,.slice a m c]) v) :
  bg P B ((w.setCell ⟨R (3*n),i*2,none⟩ (.int .i64 x)).setCell ⟨R (3*n),i*2+1,none⟩ (.slice a m c)) n b gs gp go cs cp co R St G Ov (ql V i v)∧Below B w ((w.setCell ⟨R (3*n),i*2,none⟩ (.int .i64 x)).setCell ⟨R (3*n),i*2+1,none⟩ (.slice a m c)) :=
 h.put (by omega) (by unfold iP;rw [h_ rfl];exact hi) hv (λs k hs hk=>by
  unfold lM pE ql
  try dsimp only
  by_cases h1:s<n
  ·rw [h_ h1,h_ h1,g_ (by omega)]
  ·rw [g_ h1,g_ h1];by_cases h2:s<2*n
   ·rw [h_ h2,h_ h2,g_ (by omega)]
   ·rw [g_ h2,g_ h2];by_cases h4:s<3*n
    ·rw [h_ h4,h_ h4,g_ (by omega)]
    ·rw [g_ h4,g_ h4];by_cases h3:k=i
     ·rw [h_ ⟨by omega,h3⟩,h_ h3]
     ·rw [g_ (λh=>h3 h.2),g_ h3])
end
attribute [local go_sem] bE
set_option maxHeartbeats 1000000 in
theorem uZ (P:Nat->Prop) (K:Nat) (a t b:Int) (va vt vb:Value) (w:World) (hP:∀ b,w.heap.size<=b->P b) (ha:aj P w va a) (ht:aj P w vt t) (hb:aj P w vb b) (hK:K<=1500000000000) (la:Pl.Lt K a) (lt:Pl.Lt K t) (lb:Pl.Lt K b) (ltb:Pl.Lt K (t*b)) :
  Calls Tryz.prog 399 #[va,vt,vb] w λe w'=>∃ v',e=.returned v'∧aj P w' v' (a - t*b)∧Below w.heap.size w w':=by
 obtain ⟨ax,aa,am,ac,rfl⟩:=ha.shape;obtain ⟨tx,ta,tm,tc,rfl⟩:=ht.shape;obtain ⟨bx,ba,bm,bc,rfl⟩:=hb.shape;obtain ⟨W,hW⟩:∃ W,(((w.alloc (.cells #[.int .i64 ax,.slice aa am ac] 168)).alloc (.cells #[.int .i64 tx,.slice ta tm tc] 168)).alloc (.cells #[.int .i64 bx,.slice ba bm bc] 168)).alloc (.cells #[.int .i64 0,.slice none 0 0] 168)=W:=⟨_,rfl⟩;have HG:Hid (ae w W):=by unfold Hid;rw [<-hW];exact ae.trans (ae.trans (ae.trans (ae.alloc _ _) (ae.alloc _ _)) (ae.alloc _ _)) (ae.alloc _ _)
 have b0:W.heap[w.heap.size]?=some (.cells #[.int .i64 ax,.slice aa am ac] 168):=by rw [<-hW];exact Below.same (ae.trans (ae.trans (ae.alloc _ _) (ae.alloc _ _)) (ae.alloc _ _)) _ _ (aG _ _)
 have b1:W.heap[w.heap.size+1]?=some (.cells #[.int .i64 tx,.slice ta tm tc] 168):=by
  have:=Below.same (ae.trans (ae.alloc ((w.alloc (.cells #[.int .i64 ax,.slice aa am ac] 168)).alloc (.cells #[.int .i64 tx,.slice ta tm tc] 168)) (.cells #[.int .i64 bx,.slice ba bm bc] 168)) (ae.alloc _ (.cells #[.int .i64 0,.slice none 0 0] 168))) _ _ (aG (w.alloc (.cells #[.int .i64 ax,.slice aa am ac] 168)) (.cells #[.int .i64 tx,.slice ta tm tc] 168));rw [<-hW];rwa [H_] at this
 have b2:W.heap[w.heap.size+1+1]?=some (.cells #[.int .i64 bx,.slice ba bm bc] 168):=by
  have:=Below.same (ae.alloc (((w.alloc (.cells #[.int .i64 ax,.slice aa am ac] 168)).alloc (.cells #[.int .i64 tx,.slice ta tm tc] 168)).alloc (.cells #[.int .i64 bx,.slice ba bm bc] 168)) (.cells #[.int .i64 0,.slice none 0 0] 168)) _ _ (aG ((w.alloc (.cells #[.int .i64 ax,.slice aa am ac] 168)).alloc (.cells #[.int .i64 tx,.slice ta tm tc] 168)) (.cells #[.int .i64 bx,.slice ba bm bc] 168));rw [<-hW];rwa [H_,H_] at this
 have b3:W.heap[w.heap.size+1+1+1]?=some (.cells #[.int .i64 0,.slice none 0 0] 168):=by
  have:=aG (((w.alloc (.cells #[.int .i64 ax,.slice aa am ac] 168)).alloc (.cells #[.int .i64 tx,.slice ta tm tc] 168)).alloc (.cells #[.int .i64 bx,.slice ba bm bc] 168)) (.cells #[.int .i64 0,.slice none 0 0] 168);rw [<-hW];rwa [H_,H_,H_] at this
 have HZ:=af b3;have y1:=λd os=>b_ (au b0).1 d os;have y2:=λd os=>b_ (au b0).2.1 d os;have y3:=λd os=>b_ (au b1).1 d os;have y4:=λd os=>b_ (au b1).2.1 d os;have y5:=λd os=>b_ (au b2).1 d os;have y6:=λd os=>b_ (au b2).2.1 d os;have HA:=af (ha.below (uh HG));have HT:=af (ht.below (uh HG));have HB:=af (hb.below (uh HG));clear ha ht hb b0 b1 b2 b3;go_enter Tryz.func399,Tryz.ntmps399;go_wp2_with fail
 try rw [hW]
 clear hW;refine ah (cK [(10,λv w=>aj P w v (t*b)),(11,λv w=>aj P w v (a - t*b))]) (gL [(10,ag),(11,ag)]) 12 5 (by kernel_rfl) (by rfl) (by kernel_rfl) (aN (λ_ _ _=>aj.below) (aN (λ_ _ _=>aj.below) cO)) ?_
 iterate 3 (refine aO λK hK=>?_;go_simp;refine hK _ ?_;clear hK K)
 refine ai ag 226 #[.agg #[.int .i64 tx,.slice ta tm tc],.agg #[.int .i64 bx,.slice ba bm bc]] (by rfl) (by rfl) ag.some (λw=>by go_simp) (λwq hg hf=>(eG P K t b _ _ wq (λb' hb'=>hP b' (by have:=(ae.trans (uh HG) hg).size;omega)) ((uh HT).below hg) ((uh HB).below hg) hK lt lb).mono (by rintro e w' ⟨v',rfl,hv,hb⟩;exact ⟨_,rfl,hb,hv.aU,λt ht=>by cases ht;exact hv⟩)) ?_;rintro _ ⟨px,pa,pm,pc,rfl⟩;refine ai ag 225 #[.agg #[.int .i64 ax,.slice aa am ac],.agg #[.int .i64 px,.slice pa pm pc]] (by rfl) (by rfl) ag.some (λw=>by go_simp) (λwq hg hf=>(kH P K a (t*b) _ _ wq (λb' hb'=>hP b' (by have:=(ae.trans (uh HG) hg).size;omega)) ((uh HA).below hg) (hf 3 (by kernel_rfl) _ 10 rfl rfl) hK la ltb).mono (by rintro e w' ⟨v',rfl,hv,hb⟩;exact ⟨_,rfl,hb,hv.aU,λt ht=>by cases ht;exact hv⟩)) ?_;rintro _ ⟨qx,qa,qm,qc,rfl⟩;refine aF ?_;intro w2 hw2 aK;have hv2:aj P w2 (.agg #[.int .i64 qx,.slice qa qm qc]) (a - t*b):=aK 4 _ 11 (by decide) rfl rfl;clear aK y1 y2 y3 y4 y5 y6;have hblk:=Below.same hw2 _ _ (uh HZ);obtain ⟨z0,z1,z2,z3⟩:=au hblk;have Zw:=af (hv2.kG hblk (.int .i64 qx) (.slice qa qm qc));have EB:Hid (ae w ((w2.setCell ⟨w.heap.size+1+1+1,0,none⟩ (.int .i64 qx)).setCell ⟨w.heap.size+1+1+1,1,none⟩ (.slice qa qm qc))):=(B_ (p:=⟨w.heap.size+1+1+1,0,none⟩) (ae.trans (uh HG) hw2) (by show w.heap.size<=w.heap.size+1+1+1;omega) _).setCell (p:=⟨w.heap.size+1+1+1,1,none⟩) (by show w.heap.size<=w.heap.size+1+1+1;omega) _;clear hv2 hw2 hblk;go_wp2;exact t_ (v:=.agg #[.int .i64 qx,.slice qa qm qc]) (by simp [results,Tryz.results399,go_sem,z0,z1]) rfl ⟨_,rfl,uh Zw,uh EB⟩
end Go.Proofs.YtfaljekgpnbmiaaGreat
