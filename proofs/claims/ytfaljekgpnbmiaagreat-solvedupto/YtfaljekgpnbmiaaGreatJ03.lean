/- Joined: XTab2 XTab3 XTab4. -/
import Derived.Test.YtfaljekgpnbmiaaGreatJ02
set_option linter.unusedVariables false
set_option linter.unusedSimpArgs false
set_option maxRecDepth 100000
namespace Go.Proofs.YtfaljekgpnbmiaaGreat.Pl
def ev (n:Nat) (f P:Nat->Int):Int:=sm (n+1) (λk=>f k*P k)
theorem kJ (n:Nat) (P:Nat->Int) (i:Nat) (hi:i<n+1):ev n (unit i) P=P i:=by
 unfold ev;rw [iM i hi λk _ hk=>by unfold unit;rw [g_ (λe=>hk e.symm)];omega];unfold unit;rw [h_ rfl];omega
section
variable {F:Int->Nat->Int} {n:Nat} {t:aR}
theorem bN.eval (h:bN F n t) {r:Nat} (hr:r<t.lines.length) (P:Nat->Int):t.scale*ev n (F (t.name r)) P=sm (n+1) (λj=>t.cell r j*ev n (t.base F j) P):=by
 have e1:t.scale*ev n (F (t.name r)) P=sm (n+1) (λk=>sm (n+1) (λj=>t.cell r j*(t.base F j k*P k))):=by
  unfold ev;rw [<-dA];refine aC λk hk=>?_;rw [<-y_,h.fD r hr k hk,u_,<-dA];refine aC λj _=>?_;simp only [y_,r_,u_]
 rw [e1,oW];refine aC λj _=>?_;unfold ev;rw [<-dA]
theorem bN.wT (h:bN F n t) (j:Nat) (hj:j<n+1):∃ Q:Nat->Int,(∀ i,i<n+1->ev n (t.base F i) Q=if i=j then t.scale else 0)∧∀ r,r<t.lines.length->ev n (F (t.name r)) Q=t.cell r j:=by
 obtain ⟨e,ee,he⟩:=h.Gd;refine ⟨λk=>e*ng (n+1) (l8 (t.base F) j (unit k)),?_⟩;have hb:∀ i,i<n+1->ev n (t.base F i) (λk=>e*ng (n+1) (l8 (t.base F) j (unit k)))=if i=j then t.scale else 0:=by
  intro i hi;unfold ev;have e1:sm (n+1) (λk=>t.base F i k*(e*ng (n+1) (l8 (t.base F) j (unit k))))=e*sm (n+1) (λk=>t.base F i k*ng (n+1) (l8 (t.base F) j (unit k))):=by
   rw [<-dA];refine aC λk _=>?_;rw [r_]
  rw [e1,<-Fv (n+1) (t.base F) j hj (λk=>t.base F i k) unit (n+1)];have e2:ng (n+1) (l8 (t.base F) j (λx=>sm (n+1) (λk=>t.base F i k*unit k x)))=ng (n+1) (l8 (t.base F) j (t.base F i)):=by
   refine ni (n+1) λa b _ hb=>?_;unfold l8
   split
   ·show sm (n+1) (λk=>t.base F i k*unit k b)=_;rw [iM b hb λk _ hk=>by unfold unit;rw [g_ hk];omega];unfold unit;rw [h_ rfl];omega
   ·rfl
  rw [e2];by_cases hij:i=j
  ·rw [h_ hij,hij,yw,he,<-y_,ee,aaY]
  ·rw [g_ hij,Ls (p:=j) (q:=i) (λe=>hij e.symm) hj hi (by rw [iF,jl _ _ hij]),Y_]
 refine ⟨hb,λr hr=>?_⟩;have hs:=h.pos;refine abJ (a:=t.scale) (by omega) ?_;rw [h.eval hr,iM j hj λi hi hij=>by rw [hb i hi,g_ hij,Y_],hb j hj,h_ rfl,u_]
theorem gB (F:Int->Nat->Int) (t:aR) (c:Nat):t.base F (c+1)=F (t.fu c):=by unfold aR.base;rw [g_ (by omega)];rfl
theorem jK (F:Int->Nat->Int) (t:aR):t.base F 0=unit 0:=by unfold aR.base;rw [h_ rfl]
theorem yI (n:Nat) (f:Nat->Int):sm (n+1) f=f 0+sm n (λc=>f (c+1)):=by
 induction n with
 | zero=>simp [sm]
 | succ n ih=>rw [sm,ih,sm];omega
theorem bN.Av (h:bN F n t) {r:Nat} (hr:r<t.lines.length) (P:Nat->Int):t.scale*ev n (F (t.name r)) P=t.cell r 0*P 0+sm n (λc=>t.cell r (c+1)*ev n (F (t.fu c)) P):=by
 rw [h.eval hr,yI,jK,kJ n P 0 (by omega)];simp only [gB]
end
structure ik (n:Nat) (t:aR):Prop where
 lines:∀ i j,i<t.lines.length->j<t.lines.length->t.name i=t.name j->i=j
 aS:∀ i j,i<n->j<n->t.fu i=t.fu j->i=j
 apart:∀ i j,i<t.lines.length->j<n->t.name i≠t.fu j
theorem ik.swap {n:Nat} {t:aR} (h:ik n t) (hn:t.aS.length=n) {r c:Nat} (hr:r<t.lines.length) (hc:c<n):ik n (t.swap r c):=by
 refine ⟨?_,?_,?_⟩
 ·intro i j hi hj e;rw [aR.iI] at hi hj;rw [aR.jI t r c i hi,aR.jI t r c j hj] at e;by_cases h1:i=r
  ·by_cases h2:j=r
   ·omega
   ·rw [h_ h1,g_ h2] at e;exact absurd e.symm (h.apart j c hj hc)
  ·by_cases h2:j=r
   ·rw [g_ h1,h_ h2] at e;exact absurd e (h.apart i c hi hc)
   ·rw [g_ h1,g_ h2] at e;exact h.lines i j hi hj e
 ·intro i j hi hj e;rw [aR.j5 t r c i (by omega),aR.j5 t r c j (by omega)] at e;by_cases h1:i=c
  ·by_cases h2:j=c
   ·omega
   ·rw [h_ h1,g_ h2] at e;exact absurd e (h.apart r j hr hj)
  ·by_cases h2:j=c
   ·rw [g_ h1,h_ h2] at e;exact absurd e.symm (h.apart r i hr hi)
   ·rw [g_ h1,g_ h2] at e;exact h.aS i j hi hj e
 ·intro i j hi hj e;rw [aR.iI] at hi;rw [aR.jI t r c i hi,aR.j5 t r c j (by omega)] at e;by_cases h1:i=r
  ·by_cases h2:j=c
   ·rw [h_ h1,h_ h2] at e;exact absurd e.symm (h.apart r c hr hc)
   ·rw [h_ h1,g_ h2] at e;exact absurd (h.aS c j hc hj e).symm h2
  ·by_cases h2:j=c
   ·rw [g_ h1,h_ h2] at e;exact absurd (h.lines i r hi hr e) h1
   ·rw [g_ h1,g_ h2] at e;exact h.apart i j hi hj e
def dH (n:Nat) (t:aR) (x:Int):Prop:=∃ c,c<n∧t.fu c=x
def nJ (t:aR) (x:Int):Prop:=∃ r,r<t.lines.length∧t.name r=x
theorem iQ {n:Nat} {t:aR} (h:ik n t) (hn:t.aS.length=n) {r c:Nat} (hc:c<n) (x:Int):dH n (t.swap r c) x↔(dH n t x∧x≠t.fu c)∨x=t.name r:=by
 constructor
 ·rintro ⟨k,hk,e⟩;rw [aR.j5 t r c k (by omega)] at e;by_cases h1:k=c
  ·rw [h_ h1] at e;exact .inr e.symm
  ·rw [g_ h1] at e;exact .inl ⟨⟨k,hk,e⟩,λhx=>h1 (h.aS k c hk hc (e.trans hx))⟩
 ·rintro (⟨⟨k,hk,e⟩,hx⟩ | e)
  ·refine ⟨k,hk,?_⟩;rw [aR.j5 t r c k (by omega),g_ (λhkc=>hx (by rw [<-e,hkc]))];exact e
  ·exact ⟨c,hc,by rw [aR.j5 t r c c (by omega),h_ rfl,e]⟩
theorem vL {n:Nat} {t:aR} (h:ik n t) {r c:Nat} (hr:r<t.lines.length) (x:Int):nJ (t.swap r c) x↔(nJ t x∧x≠t.name r)∨x=t.fu c:=by
 constructor
 ·rintro ⟨k,hk,e⟩;rw [aR.iI] at hk;rw [aR.jI t r c k hk] at e;by_cases h1:k=r
  ·rw [h_ h1] at e;exact .inr e.symm
  ·rw [g_ h1] at e;exact .inl ⟨⟨k,hk,e⟩,λhx=>h1 (h.lines k r hk hr (e.trans hx))⟩
 ·rintro (⟨⟨k,hk,e⟩,hx⟩ | e)
  ·refine ⟨k,by rw [aR.iI];exact hk,?_⟩;rw [aR.jI t r c k hk,g_ (λhkr=>hx (by rw [<-e,hkr]))];exact e
  ·exact ⟨r,by rw [aR.iI];exact hr,by rw [aR.jI t r c r hr,h_ rfl,e]⟩
theorem ik.Di {n:Nat} {t:aR} (h:ik n t) {x:Int} (h1:dH n t x) (h2:nJ t x):False:=by
 obtain ⟨c,hc,e1⟩:=h1;obtain ⟨r,hr,e2⟩:=h2;exact h.apart r c hr hc (e2.trans e1.symm)
theorem leaves {p:Nat->Prop} {a b:Nat} (hab:a<=b) (ha:p a) (hb:¬ p b):∃ i,a<=i∧i<b∧p i∧¬ p (i+1):=by
 induction b with
 | zero=>exact absurd (show p 0 by have:a=0:=(by omega);rw [<-this];exact ha) hb
 | succ b ih =>
  by_cases hp:p b
  ·by_cases hlt:a<=b
   ·exact ⟨b,hlt,by omega,hp,hb⟩
   ·have:a=b+1:=by omega
    rw [this] at ha;exact absurd ha hb
  ·by_cases hlt:a<=b
   ·obtain ⟨i,h1,h2,h3,h4⟩:=ih hlt hp;exact ⟨i,h1,by omega,h3,h4⟩
   ·have:a=b+1:=by omega
    rw [this] at ha;exact absurd ha hb
theorem IZ {p:Int->Prop} {M:Int} (hM:∀ x,p x->x<=M) {x0:Int} (h0:p x0):∃ x,p x∧∀ y,p y->y<=x:=by
 have key:∀ (d:Nat) (x:Int),p x->M - x<=d->∃ x,p x∧∀ y,p y->y<=x:=by
  intro d
  induction d with
  | zero=>intro x hx hd;exact ⟨x,hx,λy hy=>by have:=hM y hy;omega⟩
  | succ d ih =>
   intro x hx hd;by_cases hc:∃ y,p y∧x<y
   ·obtain ⟨y,hy,hlt⟩:=hc;exact ih y hy (by omega)
   ·exact ⟨x,hx,λy hy=>by
     apply v_;intro h;exact hc ⟨y,hy,by omega⟩⟩
 exact key (M - x0).toNat x0 h0 (by have:=hM x0 h0;omega)
structure kQ (F:Int->Nat->Int) (n:Nat) (T:Nat->aR) (R C:Nat->Nat) (a b:Nat):Prop where
 ok:∀ i,a<=i->i<=b->bN F n (T i)
 names:∀ i,a<=i->i<=b->ik n (T i)
 row:∀ i,a<=i->i<b->R i<(T i).lines.length
 fu:∀ i,a<=i->i<b->C i<n
 next:∀ i,a<=i->i<b->T (i+1)=(T i).swap (R i) (C i)
section
variable {F:Int->Nat->Int} {n:Nat} {T:Nat->aR} {R C:Nat->Nat} {a b:Nat}
theorem kQ.gone (W:kQ F n T R C a b) {i:Nat} (h1:a<=i) (h2:i<b) {x:Int} (hx:dH n (T i) x) (hy:¬ dH n (T (i+1)) x):x=(T i).fu (C i):=by
 apply v_;intro h;rw [W.next i h1 h2] at hy;exact hy ((iQ (W.names i h1 (by omega)) (W.ok i h1 (by omega)).aS (W.fu i h1 h2) x).2 (.inl ⟨hx,h⟩))
theorem kQ.afB (W:kQ F n T R C a b) {i:Nat} (h1:a<=i) (h2:i<b) {x:Int} (hx:¬ dH n (T i) x) (hy:dH n (T (i+1)) x):x=(T i).name (R i):=by
 rw [W.next i h1 h2] at hy;rcases (iQ (W.names i h1 (by omega)) (W.ok i h1 (by omega)).aS (W.fu i h1 h2) x).1 hy with ⟨h,_⟩|h
 ·exact absurd h hx
 ·exact h
def nK (n:Nat) (T:Nat->aR) (a b:Nat) (x:Int):Prop:=∃ i j,a<=i∧i<=b∧a<=j∧j<=b∧dH n (T i) x∧¬ dH n (T j) x
theorem kQ.both (W:kQ F n T R C a b) (hab:∀ x,dH n (T a) x↔dH n (T b) x) {x:Int} (h:nK n T a b x) :
  (∃ i,a<=i∧i<b∧dH n (T i) x∧x=(T i).fu (C i))∧(∃ i,a<=i∧i<b∧¬ dH n (T i) x∧x=(T i).name (R i)):=by
 obtain ⟨i,j,hi1,hi2,hj1,hj2,hx,hy⟩:=h;have lv:∀ u v,a<=u->u<=v->v<=b->dH n (T u) x->¬ dH n (T v) x->∃ i,a<=i∧i<b∧dH n (T i) x∧x=(T i).fu (C i):=by
  intro u v h1 h2 h3 h4 h5;obtain ⟨k,k1,k2,k3,k4⟩:=leaves (p:=λi=>dH n (T i) x) h2 h4 h5;exact ⟨k,by omega,by omega,k3,W.gone (by omega) (by omega) k3 k4⟩
 have en:∀ u v,a<=u->u<=v->v<=b->¬ dH n (T u) x->dH n (T v) x->∃ i,a<=i∧i<b∧¬ dH n (T i) x∧x=(T i).name (R i):=by
  intro u v h1 h2 h3 h4 h5;obtain ⟨k,k1,k2,k3,k4⟩:=leaves (p:=λi=>¬ dH n (T i) x) h2 h4 (λh=>h h5);exact ⟨k,by omega,by omega,k3,W.afB (by omega) (by omega) k3 (v_ k4)⟩
 by_cases ha:dH n (T a) x
 ·exact ⟨lv a j (by omega) hj1 hj2 ha hy,en j b hj1 hj2 (by omega) hy ((hab x).1 ha)⟩
 ·exact ⟨lv i b hi1 hi2 (by omega) hx (λh=>ha ((hab x).2 h)),en a i (by omega) hi1 hi2 ha hx⟩
structure OH (n:Nat) (T:Nat->aR) (R C:Nat->Nat) (a b:Nat):Prop where
 jS:∀ i,a<=i->i<b->0<=(T i).name (R i)
 lQ:∀ i,a<=i->i<b->(T i).cell (R i) 0<0
 vM:∀ i,a<=i->i<b->∀ k,k<(T i).lines.length->0<=(T i).name k->(T i).cell k 0<0->(T i).name (R i)<=(T i).name k
 lJ:∀ i,a<=i->i<b->0<=(T i).fu (C i)
 nM:∀ i,a<=i->i<b->0<(T i).cell (R i) (C i+1)
 jF:∀ i,a<=i->i<b->∀ k,k<n->0<=(T i).fu k->0<(T i).cell (R i) (k+1)->(T i).fu (C i)<=(T i).fu k
theorem kQ.RF (W:kQ F n T R C a b) (S:OH n T R C a b) (hlt:a<b) {M:Int} (hM:∀ i,a<=i->i<=b->∀ x,dH n (T i) x->x<=M)
  (lines:∀ i j,a<=i->i<=b->a<=j->j<=b->∀ x,dH n (T i) x->¬ dH n (T j) x->nJ (T j) x) (hab:∀ x,dH n (T a) x↔dH n (T b) x):False:=by
 have hf0:nK n T a b ((T a).name (R a)):=by
  refine ⟨a+1,a,by omega,by omega,by omega,by omega,?_,?_⟩
  ·rw [W.next a (d_ _) hlt];exact (iQ (W.names a (d_ _) (by omega)) (W.ok a (d_ _) (by omega)).aS (W.fu a (d_ _) hlt) _).2 (.inr rfl)
  ·intro h;exact (W.names a (d_ _) (by omega)).Di h ⟨_,W.row a (d_ _) hlt,rfl⟩
 obtain ⟨x,hx,hmax⟩:=IZ (p:=nK n T a b) (M:=M) (λy ⟨i,_,h1,h2,_,_,h3,_⟩=>hM i h1 h2 y h3) hf0;obtain ⟨⟨B,b1,b2,b3,b4⟩,⟨A,a1,a2,a3,a4⟩⟩:=W.both hab hx;have Mq:∀ y,nK n T a b y->0<=y:=λy hy=>by
  obtain ⟨⟨i,h1,h2,_,h4⟩,_⟩:=W.both hab hy;rw [h4];exact S.lJ i h1 h2
 obtain ⟨Q,q1,q2⟩:=(W.ok A a1 (by omega)).wT 0 (by omega);have hs:=(W.ok A a1 (by omega)).pos;have q0:Q 0=(T A).scale:=by
  have:=q1 0 (by omega);rw [jK,kJ n Q 0 (by omega),h_ rfl] at this;exact this
 -- the value of a column of the table A is 0
 have aaS:∀ y,dH n (T A) y->ev n (F y) Q=0:=λy ⟨c,hc,e⟩=>by
  have:=q1 (c+1) (by omega);rw [gB,g_ (by omega),e] at this;exact this
 -- a RG name below x is at least 0 there
 have aaT:∀ y,0<=y->y<x->(dH n (T A) y∨nJ (T A) y)->0<=ev n (F y) Q:=λy h0 hlt h=>by
  rcases h with h|⟨r,hr,e⟩
  ·rw [aaS y h];exact abk 0
  ·have e2:=q2 r hr;rw [e] at e2;rw [e2];apply v_;intro hneg;have:=S.vM A a1 a2 r hr (by rw [e];exact h0) (by omega);rw [e,<-a4] at this;omega
 have hrB:=W.row B b1 b2;have hz:=(W.ok B b1 (by omega)).Av hrB Q;have hsB:=(W.ok B b1 (by omega)).pos
 -- the row of B is a RG name below x
 have hyf:nK n T a b ((T B).name (R B)):=by
  refine ⟨B+1,B,by omega,by omega,by omega,by omega,?_,?_⟩
  ·rw [W.next B b1 b2];exact (iQ (W.names B b1 (by omega)) (W.ok B b1 (by omega)).aS (W.fu B b1 b2) _).2 (.inr rfl)
  ·intro h;exact (W.names B b1 (by omega)).Di h ⟨_,hrB,rfl⟩
 have hyx:(T B).name (R B)<x:=by
  have h1:=hmax _ hyf;have h2:(T B).name (R B)≠x:=by rw [b4];exact (W.names B b1 (by omega)).apart _ _ hrB (W.fu B b1 b2)
  omega
 have stat:∀ y,nK n T a b y->dH n (T A) y∨nJ (T A) y:=λy ⟨i,_,h1,h2,_,_,h3,_⟩=>by
  by_cases h:dH n (T A) y
  ·exact .inl h
  ·exact .inr (lines i A h1 h2 a1 (by omega) y h3 h)
 have hL:0<=(T B).scale*ev n (F ((T B).name (R B))) Q:=Z_ (by omega) (aaT _ (S.jS B b1 b2) hyx (stat _ hyf));have hneg:(T B).cell (R B) 0*Q 0<0:=by
  rw [q0];exact adg (S.lQ B b1 b2) hs
 have hsum:sm n (λc=>(T B).cell (R B) (c+1)*ev n (F ((T B).fu c)) Q)<=0:=by
  refine vU λc hc=>?_;by_cases hA:dH n (T A) ((T B).fu c)
  ·rw [aaS _ hA,Y_];exact abk 0
  ·have Yi:nK n T a b ((T B).fu c):=⟨B,A,b1,by omega,a1,by omega,⟨c,hc,rfl⟩,hA⟩;have hle:=hmax _ Yi;by_cases hx2:(T B).fu c=x
   ·have hcB:c=C B:=(W.names B b1 (by omega)).aS _ _ hc (W.fu B b1 b2) (by rw [hx2,b4]);have hp:=S.nM B b1 b2;rw [<-hcB] at hp;have hv:ev n (F ((T B).fu c)) Q<0:=by
     rw [hx2,a4,q2 _ (W.row A a1 a2)];exact S.lQ A a1 a2
    have:=Int.mul_neg_of_pos_of_neg hp hv;omega
   ·have hcell:(T B).cell (R B) (c+1)<=0:=by
     apply v_;intro h;have:=S.jF B b1 b2 c hc (Mq _ Yi) (by omega);rw [<-b4] at this;omega
    have hv:=aaT _ (Mq _ Yi) (by omega) (stat _ Yi);exact Int.mul_nonpos_of_nonpos_of_nonneg hcell hv
 omega
end
theorem xV {a b c:Int} (h:a<=b) (hc:0<c):a*c<=b*c:=A_ h (by omega)
theorem I1 {x p y q z r:Int} (hp:0<p) (hq:0<q) (hr:0<r) (h1:x*q<=y*p) (h2:y*r<=z*q):x*r<=z*p:=by
 have e1:=xV h1 hr;have e2:=xV h2 hp;have e3:y*p*r=y*r*p:=by simp only [y_,u_,r_]
 have e4:x*q*r=(x*r)*q:=by simp only [y_,u_,r_]
 have e5:z*q*p=(z*p)*q:=by simp only [y_,u_,r_]
 rw [e4,e3] at e1;rw [e5] at e2;have:(x*r)*q<=(z*p)*q:=acW e1 e2;exact Int.le_of_mul_le_mul_right this hq
theorem I4 {x p y q z r:Int} (hp:0<p) (hq:0<q) (hr:0<r) (h1:x*q<y*p) (h2:y*r<=z*q):x*r<z*p:=by
 have e1:x*q*r<y*p*r:=Int.mul_lt_mul_of_pos_right h1 hr;have e2:=xV h2 hp;have e3:y*p*r=y*r*p:=by simp only [y_,u_,r_]
 have e4:x*q*r=(x*r)*q:=by simp only [y_,u_,r_]
 have e5:z*q*p=(z*p)*q:=by simp only [y_,u_,r_]
 rw [e4,e3] at e1;rw [e5] at e2;have:(x*r)*q<(z*p)*q:=Int.lt_of_lt_of_le e1 e2;exact Int.lt_of_mul_lt_mul_right this (by omega)
theorem nR {a b:Int} (h:0<a*b):(0<a∧0<b)∨(a<0∧b<0):=by
 rcases (show a<0∨a=0∨0<a by omega) with h1|h1|h1
 ·rcases (show b<0∨b=0∨0<b by omega) with h2 | h2 | h2
  ·exact .inr ⟨h1,h2⟩
  ·rw [h2,Y_] at h;omega
  ·have:=adg h1 h2;omega
 ·rw [h1,aa_] at h;omega
 ·rcases (show b<0∨b=0∨0<b by omega) with h2 | h2 | h2
  ·have:=Int.mul_neg_of_pos_of_neg h1 h2;omega
  ·rw [h2,Y_] at h;omega
  ·exact .inl ⟨h1,h2⟩
theorem bN.Dj {F:Int->Nat->Int} {n:Nat} {t:aR} (h:bN F n t) {r c k:Nat} (hr:r<t.lines.length) (hk:k<t.lines.length) (hkr:k≠r) (hc:c<n) (hp:t.cell r (c+1)<0) :
  t.scale*(t.swap r c).cell k 0=t.cell k 0*(-t.cell r (c+1))+t.cell k (c+1)*t.cell r 0:=by
 obtain ⟨x,hx⟩:=h.exact hr hk hc (by omega) 0 (by omega) (by omega);rw [aR.wu t r c k 0 hk (by omega),g_ hkr,g_ (by omega),hx,xE h.pos rfl,E_ hp,abe,aaY,ab5,<-hx,ab5,u_ (t.cell r (c+1))];omega
theorem La {t:aR} {r c:Nat} (hp:t.cell r (c+1)<0):(t.swap r c).scale=-t.cell r (c+1):=by
 show ((t.cell r (c+1)).natAbs:Int)=_;omega
structure Prim (n:Nat) (T:Nat->aR) (R C:Nat->Nat) (wr:Nat) (a b:Nat):Prop where
 there:∀ i,a<=i->i<=b->wr<(T i).lines.length
 Mr:∀ i,a<=i->i<=b->(T i).name wr<0
 same:∀ i,a<=i->i<b->(T (i+1)).name wr=(T i).name wr
 Dk:∀ i,a<=i->i<=b->∀ k,k<(T i).lines.length->0<=(T i).name k->0<=(T i).cell k 0
 lJ:∀ i,a<=i->i<b->0<=(T i).fu (C i)
 nM:∀ i,a<=i->i<b->0<(T i).cell wr (C i+1)
 jF:∀ i,a<=i->i<b->∀ k,k<n->0<=(T i).fu k->0<(T i).cell wr (k+1)->(T i).fu (C i)<=(T i).fu k
 jS:∀ i,a<=i->i<b->0<=(T i).name (R i)
 lQ:∀ i,a<=i->i<b->(T i).cell (R i) (C i+1)<0
 tie:∀ i,a<=i->i<b->∀ k,k<(T i).lines.length->0<=(T i).name k->(T i).cell k (C i+1)<0->(T i).cell k 0=0->(T i).cell (R i) 0=0->(T i).name (R i)<=(T i).name k
section
variable {F:Int->Nat->Int} {n:Nat} {T:Nat->aR} {R C:Nat->Nat} {wr a b:Nat}
theorem Prim.XB (S:Prim n T R C wr a b) {i:Nat} (h1:a<=i) (h2:i<b):wr≠R i:=by
 intro h;have h3:=S.Mr i h1 (by omega);have h4:=S.jS i h1 h2;rw [h] at h3;omega
theorem kQ.aQ (W:kQ F n T R C a b) (S:Prim n T R C wr a b) {i:Nat} (h1:a<=i) (h2:i<b) :
  (T i).cell wr 0*(T (i+1)).scale<=(T (i+1)).cell wr 0*(T i).scale∧(0<(T i).cell (R i) 0->(T i).cell wr 0*(T (i+1)).scale<(T (i+1)).cell wr 0*(T i).scale):=by
 have e:=(W.ok i h1 (by omega)).Dj (W.row i h1 h2) (S.there i h1 (by omega)) (S.XB h1 h2) (W.fu i h1 h2) (S.lQ i h1 h2);rw [W.next i h1 h2,La (S.lQ i h1 h2)];rw [u_] at e;have h3:=S.nM i h1 h2;have h4:=S.Dk i h1 (by omega) _ (W.row i h1 h2) (S.jS i h1 h2);have h5:0<=(T i).cell wr (C i+1)*(T i).cell (R i) 0:=Z_ (by omega) h4;refine ⟨by omega,λh6=>?_⟩;have h7:0<(T i).cell wr (C i+1)*(T i).cell (R i) 0:=adO h3 h6;omega
theorem kQ.RH (W:kQ F n T R C a b) (S:Prim n T R C wr a b) {u:Nat} (hu:a<=u):∀ (d:Nat),u+d<=b->(T u).cell wr 0*(T (u+d)).scale<=(T (u+d)).cell wr 0*(T u).scale
 | 0,_=>abk _
 | d+1,h=>I1 (W.ok u hu (by omega)).pos (W.ok (u+d) (by omega) (by omega)).pos (W.ok (u+d+1) (by omega) (by omega)).pos (kQ.RH W S hu d (by omega)) (W.aQ S (by omega) (by omega)).1
theorem bN.I5 {F:Int->Nat->Int} {n:Nat} {t t':aR} (h:bN F n t) (h':bN F n t') (hc:∀ x,dH n t x↔dH n t' x) {w w':Nat} (hw:w<t.lines.length) (hw':w'<t'.lines.length) (he:t.name w=t'.name w') :
  t'.scale*t.cell w 0=t'.cell w' 0*t.scale:=by
 obtain ⟨Q,q1,q2⟩:=h.wT 0 (by omega);have q0:Q 0=t.scale:=by
  have:=q1 0 (by omega);rw [jK,kJ n Q 0 (by omega),h_ rfl] at this;exact this
 have e:=h'.Av hw' Q;rw [<-he,q2 w hw,q0,kF λc hcn=>?_] at e
 ·omega
 ·obtain ⟨c2,hc2,e2⟩:=(hc (t'.fu c)).2 ⟨c,hcn,rfl⟩;have:=q1 (c2+1) (by omega);rw [gB,g_ (by omega),e2] at this;rw [this,Y_]
theorem Prim.sG (S:Prim n T R C wr a b):∀ d,a+d<=b->(T (a+d)).name wr=(T a).name wr
 | 0,_=>rfl
 | d+1,h=>(S.same (a+d) (by omega) (by omega)).trans (Prim.sG S d (by omega))
theorem kQ.RI (W:kQ F n T R C a b) (S:Prim n T R C wr a b) (hab:∀ x,dH n (T a) x↔dH n (T b) x) {i:Nat} (h1:a<=i) (h2:i<b):(T i).cell (R i) 0=0:=by
 apply v_;intro hne;have h3:=S.Dk i h1 (by omega) _ (W.row i h1 h2) (S.jS i h1 h2);have hlt:=(W.aQ S h1 h2).2 (by omega);have r1:=W.RH S (d_ a) (i - a) (by omega);rw [show a+(i - a)=i by omega] at r1;have r2:=W.RH S (show a<=i+1 by omega) (b - (i+1)) (by omega);rw [show i+1+(b - (i+1))=b by omega] at r2;have pa:=(W.ok a (d_ _) (by omega)).pos;have pi:=(W.ok i h1 (by omega)).pos;have pj:=(W.ok (i+1) (by omega) (by omega)).pos;have pb:=(W.ok b (by omega) (d_ _)).pos;have s1:(T i).cell wr 0*(T b).scale<(T b).cell wr 0*(T i).scale:=I4 pi pj pb hlt r2;have e:=(W.ok a (d_ _) (by omega)).I5 (W.ok b (by omega) (d_ _)) hab (S.there a (d_ _) (by omega)) (S.there b (by omega) (d_ _)) (by
  have:=S.sG (b - a) (by omega);rw [show a+(b - a)=b by omega] at this;exact this.symm)
 have s2:=I1 pb pa pi (show (T b).cell wr 0*(T a).scale<=(T a).cell wr 0*(T b).scale by rw [<-e,u_];exact abk _) r1;omega
theorem kQ.Dl (W:kQ F n T R C a b) (S:Prim n T R C wr a b) (hab:∀ x,dH n (T a) x↔dH n (T b) x) {Q:Nat->Int} (hQ:∀ x,dH n (T a) x->ev n (F x) Q=0):∀ d,a+d<=b->∀ x,dH n (T (a+d)) x->ev n (F x) Q=0
 | 0,_,x,hx=>hQ x hx
 | d+1,h,x,hx=>by
  have ih:=kQ.Dl W S hab hQ d (by omega);rw [show a+(d+1)=a+d+1 by omega,W.next (a+d) (by omega) (by omega)] at hx;rcases (iQ (W.names (a+d) (by omega) (by omega)) (W.ok (a+d) (by omega) (by omega)).aS (W.fu (a+d) (by omega) (by omega)) x).1 hx with ⟨h1,_⟩|h1
  ·exact ih x h1
  ·have e:=(W.ok (a+d) (by omega) (by omega)).Av (W.row (a+d) (by omega) (by omega)) Q;rw [W.RI S hab (by omega) (by omega),aa_,kF λc hc=>by rw [ih _ ⟨c,hc,rfl⟩,Y_]] at e;have hs:=(W.ok (a+d) (by omega) (by omega)).pos;rw [h1];rcases aci.1 (show (T (a+d)).scale*ev n (F ((T (a+d)).name (R (a+d)))) Q=0 by omega) with h2|h2
   ·omega
   ·exact h2
theorem kQ.OI (W:kQ F n T R C a b) (S:Prim n T R C wr a b) (hlt:a<b) {M:Int} (hM:∀ i,a<=i->i<=b->∀ x,dH n (T i) x->x<=M)
  (lines:∀ i j,a<=i->i<=b->a<=j->j<=b->∀ x,dH n (T i) x->¬ dH n (T j) x->nJ (T j) x) (hab:∀ x,dH n (T a) x↔dH n (T b) x):False:=by
 have hf0:nK n T a b ((T a).name (R a)):=by
  refine ⟨a+1,a,by omega,by omega,by omega,by omega,?_,?_⟩
  ·rw [W.next a (d_ _) hlt];exact (iQ (W.names a (d_ _) (by omega)) (W.ok a (d_ _) (by omega)).aS (W.fu a (d_ _) hlt) _).2 (.inr rfl)
  ·intro h;exact (W.names a (d_ _) (by omega)).Di h ⟨_,W.row a (d_ _) hlt,rfl⟩
 obtain ⟨x,hx,hmax⟩:=IZ (p:=nK n T a b) (M:=M) (λy ⟨i,_,h1,h2,_,_,h3,_⟩=>hM i h1 h2 y h3) hf0;obtain ⟨⟨A,a1,a2,a3,a4⟩,⟨B,b1,b2,b3,b4⟩⟩:=W.both hab hx;have Mq:∀ y,nK n T a b y->0<=y:=λy hy=>by
  obtain ⟨⟨i,h1,h2,_,h4⟩,_⟩:=W.both hab hy;rw [h4];exact S.lJ i h1 h2
 -- the Dl,at which all RG names are 0
 obtain ⟨Q,q1,q2⟩:=(W.ok a (d_ _) (by omega)).wT 0 (by omega);have q0:Q 0=(T a).scale:=by
  have:=q1 0 (by omega);rw [jK,kJ n Q 0 (by omega),h_ rfl] at this;exact this
 have pa:=(W.ok a (d_ _) (by omega)).pos;have hQ:=W.Dl S hab (Q:=Q) (λy ⟨c,hc,e⟩=>by
  have:=q1 (c+1) (by omega);rw [gB,g_ (by omega),e] at this;exact this)
 have aaU:∀ y,nK n T a b y->ev n (F y) Q=0:=λy ⟨i,_,h1,h2,_,_,h3,_⟩=>by
  have:=hQ (i - a) (by omega) y;rw [show a+(i - a)=i by omega] at this;exact this h3
 have okA:=W.ok A a1 (by omega);have okB:=W.ok B b1 (by omega);have nmB:=W.names B b1 (by omega);have pB:=okB.pos;have cB:=W.fu B b1 b2
 -- the way along the column of B
 obtain ⟨D,d1,d2⟩:=okB.wT (C B+1) (by omega);have d0:D 0=0:=by
  have:=d1 0 (by omega);rw [jK,kJ n D 0 (by omega),g_ (by omega)] at this;exact this
 have hw:(T A).name wr=(T B).name wr:=by
  have e1:=S.sG (A - a) (by omega);have e2:=S.sG (B - a) (by omega);rw [show a+(A - a)=A by omega] at e1;rw [show a+(B - a)=B by omega] at e2;rw [e1,e2]
 have e:=okA.Av (S.there A a1 (by omega)) D;rw [d0,Y_,Int.zero_add,hw,d2 wr (S.there B b1 (by omega))] at e;have hpos:0<(T A).scale*(T B).cell wr (C B+1):=adO okA.pos (S.nM B b1 b2);rw [e] at hpos;obtain ⟨c,hc,hcp⟩:=GA hpos;have hfe:nK n T a b ((T B).fu (C B)):=by
  refine ⟨B,B+1,by omega,by omega,by omega,by omega,⟨_,cB,rfl⟩,λh=>?_⟩;rw [W.next B b1 b2] at h;rcases (iQ nmB okB.aS cB _).1 h with ⟨_,h⟩|h
  ·exact h rfl
  ·exact nmB.apart _ _ (W.row B b1 b2) cB h.symm
 by_cases hyB:dH n (T B) ((T A).fu c)
 ·obtain ⟨c',hc',e'⟩:=hyB;by_cases hcc:c'=C B
  ·-- the entering column itself
   subst hcc;have hv:=d1 (C B+1) (by omega);rw [gB,h_ rfl] at hv;rw [<-e',hv] at hcp;have hcell:0<(T A).cell wr (c+1):=by
    rcases nR hcp with h|h
    ·exact h.1
    ·omega
   have hle:=S.jF A a1 a2 c hc (by rw [<-e'];exact S.lJ B b1 b2) hcell;rw [<-a4,<-e'] at hle;have hle2:=hmax _ hfe;have:(T B).fu (C B)=x:=by omega
   exact b3 ⟨_,cB,this⟩
  ·have hv:=d1 (c'+1) (by omega);rw [gB,g_ (by omega),e'] at hv;rw [hv,Y_] at hcp;omega
 ·obtain ⟨k,hk,ek⟩:=lines A B a1 (by omega) b1 (by omega) _ ⟨c,hc,rfl⟩ hyB;have hfy:nK n T a b ((T A).fu c):=⟨A,B,a1,by omega,b1,by omega,⟨c,hc,rfl⟩,hyB⟩;have hle:=hmax _ hfy;have hy0:=Mq _ hfy;have hv:=d2 k hk;rw [ek] at hv;rw [hv] at hcp;have hxy:(T A).fu c=x->(T A).cell wr (c+1) > 0∧(T B).cell k (C B+1)<0:=λh=>by
   have h1:c=C A:=(W.names A a1 (by omega)).aS _ _ hc (W.fu A a1 a2) (by rw [h,a4]);have h2:k=R B:=nmB.lines _ _ hk (W.row B b1 b2) (by rw [ek,h,b4]);exact ⟨by rw [h1];exact S.nM A a1 a2,by rw [h2];exact S.lQ B b1 b2⟩
  rcases nR hcp with ⟨p1,p2⟩|⟨p1,p2⟩
  ·have:=S.jF A a1 a2 c hc hy0 p1;rw [<-a4] at this;have:=(hxy (by omega)).2;omega
  ·have hne:(T A).fu c≠x:=λh=>by have:=(hxy h).1;omega
   have hk0:(T B).cell k 0=0:=by
    have e3:=okB.Av hk Q;rw [ek,aaU _ hfy,kF λc2 hc2=>?_,q0] at e3
    ·rcases aci.1 (show (T B).cell k 0*(T a).scale=0 by omega) with h | h
     ·exact h
     ·omega
    ·have h2:=hQ (B - a) (by omega);rw [show a+(B - a)=B by omega] at h2;rw [h2 _ ⟨c2,hc2,rfl⟩,Y_]
   have:=S.tie B b1 b2 k hk (by rw [ek];exact hy0) p2 hk0 (W.RI S hab b1 b2);rw [ek,<-b4] at this;omega
end
theorem E9:∀ (l m:List (List Int)),l.Nodup->(∀ x∈l,x∈m)->l.length<=m.length
 | [],_,_,_=>abo _
 | a::l,m,hn,hs=>by
  have ha:a∈m:=hs a (by simp);have h1:=E9 l (m.erase a) (List.nodup_cons.1 hn).2 (λx hx=>by
   have hne:x≠a:=λe=>(List.nodup_cons.1 hn).1 (e ▸ hx);exact (List.mem_erase_of_ne hne).2 (hs x (by simp [hx])))
  have h2:=List.length_erase_of_mem ha;have h3:0<m.length:=List.length_pos_of_mem ha;simp only [ab6];omega
def qU (U:List Int):Nat->List (List Int)
 | 0=>[[]]
 | n+1=>U.flatMap λx=>(qU U n).map λl=>x::l
theorem AY (U:List Int):∀ n,(qU U n).length=U.length^n
 | 0=>rfl
 | n+1=>by
  rw [qU,List.length_flatMap];have e:(U.map λx=>((qU U n).map λl=>x::l).length)=U.map λ_=>U.length^n:=by
   apply abr;intro x _;rw [L_,AY U n]
  rw [e,acm,acn];generalize U.length^n=q;clear e
  induction U with
  | nil=>simp
  | cons a U ih=>simp only [List.map_cons,List.sum_cons,ab6,ih,abC];omega
theorem AZ (U:List Int):∀ (n:Nat) (l:List Int),l.length=n->(∀ x∈l,x∈U)->l∈qU U n
 | 0,l,h,_=>by
  have:l=[]:=aaD h;subst this;simp [qU]
 | n+1,[],h,_=>by simp at h
 | n+1,x::l,h,hs=>by
  rw [qU,abT];exact ⟨x,hs x (by simp),m_.2 ⟨l,AZ U n l (by simpa using h) (λy hy=>hs y (by simp [hy])),rfl⟩⟩
theorem XC {f:Nat->List Int} {U:List Int} {n:Nat} (h:∀ i,i<=U.length^n->(f i).length=n∧∀ x∈f i,x∈U):∃ i j,i<j∧j<=U.length^n∧f i=f j:=by
 apply v_;intro hc;have hinj:∀ i j,i<j->j<=U.length^n->f i≠f j:=λi j h1 h2 h3=>hc ⟨i,j,h1,h2,h3⟩;have hnd:∀ k,k<=U.length^n+1->((List.range k).map f).Nodup:=by
  intro k
  induction k with
  | zero=>intro _;simp
  | succ k ih =>
   intro hk;rw [ab9,abv,List.nodup_append];refine ⟨ih (by omega),by simp,?_⟩;intro a ha b hb;obtain ⟨i,hi,rfl⟩:=m_.1 ha;simp at hb;subst hb;exact hinj i k (W_.1 hi) (by omega)
 have:=E9 _ (qU U n) (hnd _ (d_ _)) (λx hx=>by
  obtain ⟨i,hi,rfl⟩:=m_.1 hx;have:=h i (by have:=W_.1 hi;omega);exact AZ U n _ this.1 this.2)
 rw [L_,List.length_range,AY] at this;omega
structure Stat (U:List Int) (n:Nat) (t:aR):Prop where
 aS:∀ x,dH n t x->x∈U
 lines:∀ x,nJ t x->x∈U
 all:∀ x,x∈U->dH n t x∨nJ t x
theorem Stat.swap {U:List Int} {n:Nat} {t:aR} (h:Stat U n t) (hn:ik n t) (hl:t.aS.length=n) {r c:Nat} (hr:r<t.lines.length) (hc:c<n):Stat U n (t.swap r c):=by
 refine ⟨λx hx=>?_,λx hx=>?_,λx hx=>?_⟩
 ·rcases (iQ hn hl hc x).1 hx with ⟨h1,_⟩ | h1
  ·exact h.aS x h1
  ·rw [h1];exact h.lines _ ⟨r,hr,rfl⟩
 ·rcases (vL hn hr x).1 hx with ⟨h1,_⟩ | h1
  ·exact h.lines x h1
  ·rw [h1];exact h.aS _ ⟨c,hc,rfl⟩
 ·rcases h.all x hx with h1 | h1
  ·by_cases e:x=t.fu c
   ·exact .inr ((vL hn hr x).2 (.inr e))
   ·exact .inl ((iQ hn hl hc x).2 (.inl ⟨h1,e⟩))
  ·by_cases e:x=t.name r
   ·exact .inl ((iQ hn hl hc x).2 (.inr e))
   ·exact .inr ((vL hn hr x).2 (.inl ⟨h1,e⟩))
theorem Dm (U:List Int):∃ M:Int,∀ x∈U,x<=M:=by
 induction U with
 | nil=>exact ⟨0,λx hx=>by simp at hx⟩
 | cons a U ih =>
  obtain ⟨M,hM⟩:=ih;refine ⟨if a<=M then M else a,λx hx=>?_⟩;rcases abp.1 hx with h|h
  ·subst h;split <;> omega
  ·have:=hM x h;split <;> omega
theorem Ae {n:Nat} {t:aR} (hn:t.aS.length=n) (x:Int):dH n t x↔x∈t.aS:=by
 constructor
 ·rintro ⟨c,hc,e⟩;unfold aR.fu at e;rw [a_,f_ (by omega)] at e;rw [<-e];exact aan _
 ·intro h;obtain ⟨c,hc,e⟩:=abw.1 h;refine ⟨c,by omega,?_⟩;unfold aR.fu;rw [a_,f_ hc];exact e
section
variable {F:Int->Nat->Int} {n:Nat} {T:Nat->aR} {R C:Nat->Nat} {b:Nat} {U:List Int}
theorem kQ.part {a:Nat} (W:kQ F n T R C a b) {i j:Nat} (hi:a<=i) (hj:j<=b):kQ F n T R C i j :=
 ⟨λk h1 h2=>W.ok k (by omega) (by omega),λk h1 h2=>W.names k (by omega) (by omega),λk h1 h2=>W.row k (by omega) (by omega),λk h1 h2=>W.fu k (by omega) (by omega),λk h1 h2=>W.next k (by omega) (by omega)⟩
theorem OH.part {a:Nat} (S:OH n T R C a b) {i j:Nat} (hi:a<=i) (hj:j<=b):OH n T R C i j :=
 ⟨λk h1 h2=>S.jS k (by omega) (by omega),λk h1 h2=>S.lQ k (by omega) (by omega),λk h1 h2=>S.vM k (by omega) (by omega),λk h1 h2=>S.lJ k (by omega) (by omega),λk h1 h2=>S.nM k (by omega) (by omega),λk h1 h2=>S.jF k (by omega) (by omega)⟩
theorem Prim.part {a wr:Nat} (S:Prim n T R C wr a b) {i j:Nat} (hi:a<=i) (hj:j<=b):Prim n T R C wr i j :=
 ⟨λk h1 h2=>S.there k (by omega) (by omega),λk h1 h2=>S.Mr k (by omega) (by omega),λk h1 h2=>S.same k (by omega) (by omega),λk h1 h2=>S.Dk k (by omega) (by omega),λk h1 h2=>S.lJ k (by omega) (by omega),λk h1 h2=>S.nM k (by omega) (by omega),λk h1 h2=>S.jF k (by omega) (by omega),λk h1 h2=>S.jS k (by omega) (by omega),λk h1 h2=>S.lQ k (by omega) (by omega),λk h1 h2=>S.tie k (by omega) (by omega)⟩
theorem kQ.Ms (W:kQ F n T R C 0 b) (hU:∀ i,i<=b->Stat U n (T i)) (hb:U.length^n<b):∃ i j,i<j∧j<=b∧(∀ x,dH n (T i) x↔dH n (T j) x):=by
 obtain ⟨i,j,h1,h2,h3⟩:=XC (f:=λi=>(T i).aS) (U:=U) (n:=n) (λi hi=>⟨(W.ok i (by omega) (by omega)).aS,λx hx=>(hU i (by omega)).aS x ((Ae (W.ok i (by omega) (by omega)).aS x).2 hx)⟩);refine ⟨i,j,h1,by omega,λx=>?_⟩;rw [Ae (W.ok i (by omega) (by omega)).aS,Ae (W.ok j (by omega) (by omega)).aS,h3]
theorem kQ.short (W:kQ F n T R C 0 b) (S:OH n T R C 0 b) (hU:∀ i,i<=b->Stat U n (T i)):b<=U.length^n:=by
 apply v_;intro hlt;obtain ⟨i,j,h1,h2,h3⟩:=W.Ms hU (by omega);obtain ⟨M,hM⟩:=Dm U;exact (W.part (abo i) h2).RF (S.part (abo i) h2) h1 (M:=M) (λk k1 k2 x hx=>hM x ((hU k (by omega)).aS x hx))
  (λp q p1 p2 q1 q2 x hx hy=>((hU q (by omega)).all x ((hU p (by omega)).aS x hx)).resolve_left hy) h3
theorem kQ.XD {wr:Nat} (W:kQ F n T R C 0 b) (S:Prim n T R C wr 0 b) (hU:∀ i,i<=b->Stat U n (T i)):b<=U.length^n:=by
 apply v_;intro hlt;obtain ⟨i,j,h1,h2,h3⟩:=W.Ms hU (by omega);obtain ⟨M,hM⟩:=Dm U;exact (W.part (abo i) h2).OI (S.part (abo i) h2) h1 (M:=M) (λk k1 k2 x hx=>hM x ((hU k (by omega)).aS x hx))
  (λp q p1 p2 q1 q2 x hx hy=>((hU q (by omega)).all x ((hU p (by omega)).aS x hx)).resolve_left hy) h3
end
section
variable {F:Int->Nat->Int} {n:Nat} {t:aR}
theorem bN.none (h:bN F n t) {r:Nat} (hr:r<t.lines.length) (h0:t.cell r 0<0) (hc:∀ c,c<n->t.cell r (c+1)<=0) {P:Nat->Int} (hP:0<P 0) (wL:∀ c,c<n->0<=ev n (F (t.fu c)) P):ev n (F (t.name r)) P<0:=by
 have e:=h.Av hr P;have h1:t.cell r 0*P 0<0:=adg h0 hP;have h2:sm n (λc=>t.cell r (c+1)*ev n (F (t.fu c)) P)<=0:=vU λc hcn=>Int.mul_nonpos_of_nonpos_of_nonneg (hc c hcn) (wL c hcn);have hs:=h.pos;apply v_;intro hge;have:=Z_ (show 0<=t.scale by omega) (show 0<=ev n (F (t.name r)) P by omega);omega
theorem bN.top (h:bN F n t) {r:Nat} (hr:r<t.lines.length) (hc:∀ c,c<n->t.cell r (c+1)<=0) {P:Nat->Int} (wL:∀ c,c<n->0<=ev n (F (t.fu c)) P):t.scale*ev n (F (t.name r)) P<=t.cell r 0*P 0:=by
 have e:=h.Av hr P;have h2:sm n (λc=>t.cell r (c+1)*ev n (F (t.fu c)) P)<=0:=vU λc hcn=>Int.mul_nonpos_of_nonpos_of_nonneg (hc c hcn) (wL c hcn);omega
theorem bN.OJ (h:bN F n t) {r:Nat} (hr:r<t.lines.length) (hc:∀ c,c<n->t.cell r (c+1)<=0) {P:Nat->Int} (hP:P 0=1) (wL:∀ c,c<n->0<=ev n (F (t.fu c)) P):ev n (F (t.name r)) P<=Int.fdiv (t.cell r 0) t.scale:=by
 have:=h.top hr hc wL;rw [hP,adr] at this;rw [T_ _ (by have:=h.pos;omega)];exact Int.le_ediv_of_mul_le h.pos (by rw [u_];exact this)
theorem bN.keeps (h:bN F n t) {r c:Nat} (hr:r<t.lines.length) (hc:c<n) (hp:t.cell r (c+1)<0) (hrn:0<=t.cell r 0) (Dk:∀ k,k<t.lines.length->0<=t.name k->0<=t.cell k 0)
  (ratio:∀ k,k<t.lines.length->0<=t.name k->t.cell k (c+1)<0->t.cell r 0*(-t.cell k (c+1))<=t.cell k 0*(-t.cell r (c+1))) :
  ∀ k,k<(t.swap r c).lines.length->0<=(t.swap r c).name k->0<=(t.swap r c).cell k 0:=by
 intro k hk hn;rw [aR.iI] at hk;rw [aR.jI t r c k hk] at hn;by_cases hkr:k=r
 ·rw [aR.wu t r c k 0 hk (by omega),h_ hkr,g_ (by omega),E_ hp];omega
 ·rw [g_ hkr] at hn;have e:=h.Dj hr hk hkr hc hp;have hs:=h.pos;have h0:=Dk k hk hn;have h1:0<=t.cell k 0*(-t.cell r (c+1))+t.cell k (c+1)*t.cell r 0:=by
   by_cases hneg:t.cell k (c+1)<0
   ·have:=ratio k hk hn hneg;rw [ab5,u_ (t.cell r 0)] at this;omega
   ·have h2:=Z_ h0 (show 0<=-t.cell r (c+1) by omega);have h3:=Z_ (show 0<=t.cell k (c+1) by omega) hrn;omega
  rw [<-e] at h1;apply v_;intro hc2;have:=Int.mul_neg_of_pos_of_neg hs (show (t.swap r c).cell k 0<0 by omega);omega
def gM (F:Int->Nat->Int) (n m:Nat):Prop:=∀ D:Nat->Int,D 0=0->(∀ i:Nat,i<m->0<=ev n (F i) D)->∀ k,k<n+1->D k=0
theorem Mo {n:Nat} {f D:Nat->Int} (h:∀ k,k<n+1->D k=0):ev n f D=0:=kF λk hk=>by rw [h k hk,Y_]
theorem K5 {m:Nat} (h:bN F n t) {c:Nat} (hc:c<n) (hst:∀ i:Nat,i<m->dH n t i∨nJ t i) (hl:∀ k,k<t.lines.length->0<=t.name k->0<=t.cell k (c+1)) (hT:gM F n m):False:=by
 obtain ⟨D,d1,d2⟩:=h.wT (c+1) (by omega);have d0:D 0=0:=by
  have:=d1 0 (by omega);rw [jK,kJ n D 0 (by omega),g_ (by omega)] at this;exact this
 have hs:=h.pos;have hz:=hT D d0 (λi hi=>by
  rcases hst i hi with ⟨c2,hc2,e⟩|⟨r,hr,e⟩
  ·have:=d1 (c2+1) (by omega);rw [gB,e] at this;rw [this];split <;> omega
  ·have:=d2 r hr;rw [e] at this;rw [this];exact hl r hr (by rw [e];omega))
 have h1:=d1 (c+1) (by omega);rw [h_ rfl,Mo hz] at h1;omega
end
end Go.Proofs.YtfaljekgpnbmiaaGreat.Pl
