/- Joined: XTab2 XTab3 XTab4. -/
import Derived.Test.YtgaafamcajcifaaGreatK02
set_option linter.unusedVariables false
set_option linter.unusedSimpArgs false
set_option maxRecDepth 100000
namespace Go.Proofs.YtgaafamcajcifaaGreat.Pl
def ev (n:Nat) (f P:Nat->Int):Int:=sm (n+1) (λk=>f k*P k)
theorem kH (n:Nat) (P:Nat->Int) (i:Nat) (hi:i<n+1):ev n (unit i) P=P i:=by
 unfold ev;rw [iK i hi λk _ hk=>by unfold unit;rw [g_ (λe=>hk e.symm)];omega];unfold unit;rw [h_ rfl];omega
section
variable {F:Int->Nat->Int} {n:Nat} {t:aR}
theorem bM.eval (h:bM F n t) {r:Nat} (hr:r<t.lines.length) (P:Nat->Int):t.scale*ev n (F (t.name r)) P=sm (n+1) (λj=>t.cell r j*ev n (t.base F j) P):=by
 have e1:t.scale*ev n (F (t.name r)) P=sm (n+1) (λk=>sm (n+1) (λj=>t.cell r j*(t.base F j k*P k))):=by
  unfold ev;rw [<-dz];refine aC λk hk=>?_;rw [<-y_,h.fB r hr k hk,u_,<-dz];refine aC λj _=>?_;simp only [y_,r_,u_]
 rw [e1,oU];refine aC λj _=>?_;unfold ev;rw [<-dz]
theorem bM.wR (h:bM F n t) (j:Nat) (hj:j<n+1):∃ Q:Nat->Int,(∀ i,i<n+1->ev n (t.base F i) Q=if i=j then t.scale else 0)∧∀ r,r<t.lines.length->ev n (F (t.name r)) Q=t.cell r j:=by
 obtain ⟨e,ee,he⟩:=h.F8;refine ⟨λk=>e*mX (n+1) (lY (t.base F) j (unit k)),?_⟩;have hb:∀ i,i<n+1->ev n (t.base F i) (λk=>e*mX (n+1) (lY (t.base F) j (unit k)))=if i=j then t.scale else 0:=by
  intro i hi;unfold ev;have e1:sm (n+1) (λk=>t.base F i k*(e*mX (n+1) (lY (t.base F) j (unit k))))=e*sm (n+1) (λk=>t.base F i k*mX (n+1) (lY (t.base F) j (unit k))):=by
   rw [<-dz];refine aC λk _=>?_;rw [r_]
  rw [e1,<-Fj (n+1) (t.base F) j hj (λk=>t.base F i k) unit (n+1)];have e2:mX (n+1) (lY (t.base F) j (λx=>sm (n+1) (λk=>t.base F i k*unit k x)))=mX (n+1) (lY (t.base F) j (t.base F i)):=by
   refine mY (n+1) λa b _ hb=>?_;unfold lY
   split
   ·show sm (n+1) (λk=>t.base F i k*unit k b)=_;rw [iK b hb λk _ hk=>by unfold unit;rw [g_ hk];omega];unfold unit;rw [h_ rfl];omega
   ·rfl
  rw [e2];by_cases hij:i=j
  ·rw [h_ hij,hij,yt,he,<-y_,ee,aaH]
  ·rw [g_ hij,KT (p:=j) (q:=i) (λe=>hij e.symm) hj hi (by rw [iD,ji _ _ hij]),X_]
 refine ⟨hb,λr hr=>?_⟩;have hs:=h.pos;refine abf (a:=t.scale) (by omega) ?_;rw [h.eval hr,iK j hj λi hi hij=>by rw [hb i hi,g_ hij,X_],hb j hj,h_ rfl,u_]
theorem fV (F:Int->Nat->Int) (t:aR) (c:Nat):t.base F (c+1)=F (t.fe c):=by unfold aR.base;rw [g_ (by omega)];rfl
theorem jI (F:Int->Nat->Int) (t:aR):t.base F 0=unit 0:=by unfold aR.base;rw [h_ rfl]
theorem yG (n:Nat) (f:Nat->Int):sm (n+1) f=f 0+sm n (λc=>f (c+1)):=by
 induction n with
 | zero=>simp [sm]
 | succ n ih=>rw [sm,ih,sm];omega
theorem bM.Ar (h:bM F n t) {r:Nat} (hr:r<t.lines.length) (P:Nat->Int):t.scale*ev n (F (t.name r)) P=t.cell r 0*P 0+sm n (λc=>t.cell r (c+1)*ev n (F (t.fe c)) P):=by
 rw [h.eval hr,yG,jI,kH n P 0 (by omega)];simp only [fV]
end
structure ib (n:Nat) (t:aR):Prop where
 lines:∀ i j,i<t.lines.length->j<t.lines.length->t.name i=t.name j->i=j
 aS:∀ i j,i<n->j<n->t.fe i=t.fe j->i=j
 apart:∀ i j,i<t.lines.length->j<n->t.name i≠t.fe j
theorem ib.swap {n:Nat} {t:aR} (h:ib n t) (hn:t.aS.length=n) {r c:Nat} (hr:r<t.lines.length) (hc:c<n):ib n (t.swap r c):=by
 refine ⟨?_,?_,?_⟩
 ·intro i j hi hj e;rw [aR.iG] at hi hj;rw [aR.jG t r c i hi,aR.jG t r c j hj] at e;by_cases h1:i=r
  ·by_cases h2:j=r
   ·omega
   ·rw [h_ h1,g_ h2] at e;exact absurd e.symm (h.apart j c hj hc)
  ·by_cases h2:j=r
   ·rw [g_ h1,h_ h2] at e;exact absurd e (h.apart i c hi hc)
   ·rw [g_ h1,g_ h2] at e;exact h.lines i j hi hj e
 ·intro i j hi hj e;rw [aR.jY t r c i (by omega),aR.jY t r c j (by omega)] at e;by_cases h1:i=c
  ·by_cases h2:j=c
   ·omega
   ·rw [h_ h1,g_ h2] at e;exact absurd e (h.apart r j hr hj)
  ·by_cases h2:j=c
   ·rw [g_ h1,h_ h2] at e;exact absurd e.symm (h.apart r i hr hi)
   ·rw [g_ h1,g_ h2] at e;exact h.aS i j hi hj e
 ·intro i j hi hj e;rw [aR.iG] at hi;rw [aR.jG t r c i hi,aR.jY t r c j (by omega)] at e;by_cases h1:i=r
  ·by_cases h2:j=c
   ·rw [h_ h1,h_ h2] at e;exact absurd e.symm (h.apart r c hr hc)
   ·rw [h_ h1,g_ h2] at e;exact absurd (h.aS c j hc hj e).symm h2
  ·by_cases h2:j=c
   ·rw [g_ h1,h_ h2] at e;exact absurd (h.lines i r hi hr e) h1
   ·rw [g_ h1,g_ h2] at e;exact h.apart i j hi hj e
def dG (n:Nat) (t:aR) (x:Int):Prop:=∃ c,c<n∧t.fe c=x
def nG (t:aR) (x:Int):Prop:=∃ r,r<t.lines.length∧t.name r=x
theorem iO {n:Nat} {t:aR} (h:ib n t) (hn:t.aS.length=n) {r c:Nat} (hc:c<n) (x:Int):dG n (t.swap r c) x↔(dG n t x∧x≠t.fe c)∨x=t.name r:=by
 constructor
 ·rintro ⟨k,hk,e⟩;rw [aR.jY t r c k (by omega)] at e;by_cases h1:k=c
  ·rw [h_ h1] at e;exact .inr e.symm
  ·rw [g_ h1] at e;exact .inl ⟨⟨k,hk,e⟩,λhx=>h1 (h.aS k c hk hc (e.trans hx))⟩
 ·rintro (⟨⟨k,hk,e⟩,hx⟩ | e)
  ·refine ⟨k,hk,?_⟩;rw [aR.jY t r c k (by omega),g_ (λhkc=>hx (by rw [<-e,hkc]))];exact e
  ·exact ⟨c,hc,by rw [aR.jY t r c c (by omega),h_ rfl,e]⟩
theorem vJ {n:Nat} {t:aR} (h:ib n t) {r c:Nat} (hr:r<t.lines.length) (x:Int):nG (t.swap r c) x↔(nG t x∧x≠t.name r)∨x=t.fe c:=by
 constructor
 ·rintro ⟨k,hk,e⟩;rw [aR.iG] at hk;rw [aR.jG t r c k hk] at e;by_cases h1:k=r
  ·rw [h_ h1] at e;exact .inr e.symm
  ·rw [g_ h1] at e;exact .inl ⟨⟨k,hk,e⟩,λhx=>h1 (h.lines k r hk hr (e.trans hx))⟩
 ·rintro (⟨⟨k,hk,e⟩,hx⟩ | e)
  ·refine ⟨k,by rw [aR.iG];exact hk,?_⟩;rw [aR.jG t r c k hk,g_ (λhkr=>hx (by rw [<-e,hkr]))];exact e
  ·exact ⟨r,by rw [aR.iG];exact hr,by rw [aR.jG t r c r hr,h_ rfl,e]⟩
theorem ib.Dg {n:Nat} {t:aR} (h:ib n t) {x:Int} (h1:dG n t x) (h2:nG t x):False:=by
 obtain ⟨c,hc,e1⟩:=h1;obtain ⟨r,hr,e2⟩:=h2;exact h.apart r c hr hc (e2.trans e1.symm)
theorem leaves {p:Nat->Prop} {a b:Nat} (hab:a<=b) (ha:p a) (hb:¬ p b):∃ i,a<=i∧i<b∧p i∧¬ p (i+1):=by
 induction b with
 | zero=>exact absurd (show p 0 by have:a=0:=(by omega);rw [<-this];exact ha) hb
 | succ b ih =>
  by_cases hp:p b
  ·by_cases hlt:a<=b
   ·exact ⟨b,hlt,by omega,hp,hb⟩
   ·have:a=b+1:=by omega
    rw [this] at ha;exact absurd ha hb
  ·by_cases hlt:a<=b
   ·obtain ⟨i,h1,h2,h3,h4⟩:=ih hlt hp;exact ⟨i,h1,by omega,h3,h4⟩
   ·have:a=b+1:=by omega
    rw [this] at ha;exact absurd ha hb
theorem IU {p:Int->Prop} {M:Int} (hM:∀ x,p x->x<=M) {x0:Int} (h0:p x0):∃ x,p x∧∀ y,p y->y<=x:=by
 have key:∀ (d:Nat) (x:Int),p x->M - x<=d->∃ x,p x∧∀ y,p y->y<=x:=by
  intro d
  induction d with
  | zero=>intro x hx hd;exact ⟨x,hx,λy hy=>by have:=hM y hy;omega⟩
  | succ d ih =>
   intro x hx hd;by_cases hc:∃ y,p y∧x<y
   ·obtain ⟨y,hy,hlt⟩:=hc;exact ih y hy (by omega)
   ·exact ⟨x,hx,λy hy=>by
     apply v_;intro h;exact hc ⟨y,hy,by omega⟩⟩
 exact key (M - x0).toNat x0 h0 (by have:=hM x0 h0;omega)
structure kN (F:Int->Nat->Int) (n:Nat) (T:Nat->aR) (R C:Nat->Nat) (a b:Nat):Prop where
 ok:∀ i,a<=i->i<=b->bM F n (T i)
 names:∀ i,a<=i->i<=b->ib n (T i)
 row:∀ i,a<=i->i<b->R i<(T i).lines.length
 fe:∀ i,a<=i->i<b->C i<n
 next:∀ i,a<=i->i<b->T (i+1)=(T i).swap (R i) (C i)
section
variable {F:Int->Nat->Int} {n:Nat} {T:Nat->aR} {R C:Nat->Nat} {a b:Nat}
theorem kN.gone (W:kN F n T R C a b) {i:Nat} (h1:a<=i) (h2:i<b) {x:Int} (hx:dG n (T i) x) (hy:¬ dG n (T (i+1)) x):x=(T i).fe (C i):=by
 apply v_;intro h;rw [W.next i h1 h2] at hy;exact hy ((iO (W.names i h1 (by omega)) (W.ok i h1 (by omega)).aS (W.fe i h1 h2) x).2 (.inl ⟨hx,h⟩))
theorem kN.aeU (W:kN F n T R C a b) {i:Nat} (h1:a<=i) (h2:i<b) {x:Int} (hx:¬ dG n (T i) x) (hy:dG n (T (i+1)) x):x=(T i).name (R i):=by
 rw [W.next i h1 h2] at hy;rcases (iO (W.names i h1 (by omega)) (W.ok i h1 (by omega)).aS (W.fe i h1 h2) x).1 hy with ⟨h,_⟩|h
 ·exact absurd h hx
 ·exact h
def nH (n:Nat) (T:Nat->aR) (a b:Nat) (x:Int):Prop:=∃ i j,a<=i∧i<=b∧a<=j∧j<=b∧dG n (T i) x∧¬ dG n (T j) x
theorem kN.both (W:kN F n T R C a b) (hab:∀ x,dG n (T a) x↔dG n (T b) x) {x:Int} (h:nH n T a b x) :
  (∃ i,a<=i∧i<b∧dG n (T i) x∧x=(T i).fe (C i))∧(∃ i,a<=i∧i<b∧¬ dG n (T i) x∧x=(T i).name (R i)):=by
 obtain ⟨i,j,hi1,hi2,hj1,hj2,hx,hy⟩:=h;have lv:∀ u v,a<=u->u<=v->v<=b->dG n (T u) x->¬ dG n (T v) x->∃ i,a<=i∧i<b∧dG n (T i) x∧x=(T i).fe (C i):=by
  intro u v h1 h2 h3 h4 h5;obtain ⟨k,k1,k2,k3,k4⟩:=leaves (p:=λi=>dG n (T i) x) h2 h4 h5;exact ⟨k,by omega,by omega,k3,W.gone (by omega) (by omega) k3 k4⟩
 have en:∀ u v,a<=u->u<=v->v<=b->¬ dG n (T u) x->dG n (T v) x->∃ i,a<=i∧i<b∧¬ dG n (T i) x∧x=(T i).name (R i):=by
  intro u v h1 h2 h3 h4 h5;obtain ⟨k,k1,k2,k3,k4⟩:=leaves (p:=λi=>¬ dG n (T i) x) h2 h4 (λh=>h h5);exact ⟨k,by omega,by omega,k3,W.aeU (by omega) (by omega) k3 (v_ k4)⟩
 by_cases ha:dG n (T a) x
 ·exact ⟨lv a j (by omega) hj1 hj2 ha hy,en j b hj1 hj2 (by omega) hy ((hab x).1 ha)⟩
 ·exact ⟨lv i b hi1 hi2 (by omega) hx (λh=>ha ((hab x).2 h)),en a i (by omega) hi1 hi2 ha hx⟩
structure NP (n:Nat) (T:Nat->aR) (R C:Nat->Nat) (a b:Nat):Prop where
 jQ:∀ i,a<=i->i<b->0<=(T i).name (R i)
 lM:∀ i,a<=i->i<b->(T i).cell (R i) 0<0
 vK:∀ i,a<=i->i<b->∀ k,k<(T i).lines.length->0<=(T i).name k->(T i).cell k 0<0->(T i).name (R i)<=(T i).name k
 lH:∀ i,a<=i->i<b->0<=(T i).fe (C i)
 nI:∀ i,a<=i->i<b->0<(T i).cell (R i) (C i+1)
 jD:∀ i,a<=i->i<b->∀ k,k<n->0<=(T i).fe k->0<(T i).cell (R i) (k+1)->(T i).fe (C i)<=(T i).fe k
theorem kN.QU (W:kN F n T R C a b) (S:NP n T R C a b) (hlt:a<b) {M:Int} (hM:∀ i,a<=i->i<=b->∀ x,dG n (T i) x->x<=M)
  (lines:∀ i j,a<=i->i<=b->a<=j->j<=b->∀ x,dG n (T i) x->¬ dG n (T j) x->nG (T j) x) (hab:∀ x,dG n (T a) x↔dG n (T b) x):False:=by
 have hf0:nH n T a b ((T a).name (R a)):=by
  refine ⟨a+1,a,by omega,by omega,by omega,by omega,?_,?_⟩
  ·rw [W.next a (d_ _) hlt];exact (iO (W.names a (d_ _) (by omega)) (W.ok a (d_ _) (by omega)).aS (W.fe a (d_ _) hlt) _).2 (.inr rfl)
  ·intro h;exact (W.names a (d_ _) (by omega)).Dg h ⟨_,W.row a (d_ _) hlt,rfl⟩
 obtain ⟨x,hx,hmax⟩:=IU (p:=nH n T a b) (M:=M) (λy ⟨i,_,h1,h2,_,_,h3,_⟩=>hM i h1 h2 y h3) hf0;obtain ⟨⟨B,b1,b2,b3,b4⟩,⟨A,a1,a2,a3,a4⟩⟩:=W.both hab hx;have LF:∀ y,nH n T a b y->0<=y:=λy hy=>by
  obtain ⟨⟨i,h1,h2,_,h4⟩,_⟩:=W.both hab hy;rw [h4];exact S.lH i h1 h2
 obtain ⟨Q,q1,q2⟩:=(W.ok A a1 (by omega)).wR 0 (by omega);have hs:=(W.ok A a1 (by omega)).pos;have q0:Q 0=(T A).scale:=by
  have:=q1 0 (by omega);rw [jI,kH n Q 0 (by omega),h_ rfl] at this;exact this
 -- the value of a column of the table A is 0
 have aae:∀ y,dG n (T A) y->ev n (F y) Q=0:=λy ⟨c,hc,e⟩=>by
  have:=q1 (c+1) (by omega);rw [fV,g_ (by omega),e] at this;exact this
 -- a QV name below x is at least 0 there
 have aaf:∀ y,0<=y->y<x->(dG n (T A) y∨nG (T A) y)->0<=ev n (F y) Q:=λy h0 hlt h=>by
  rcases h with h|⟨r,hr,e⟩
  ·rw [aae y h];exact aaU 0
  ·have e2:=q2 r hr;rw [e] at e2;rw [e2];apply v_;intro hneg;have:=S.vK A a1 a2 r hr (by rw [e];exact h0) (by omega);rw [e,<-a4] at this;omega
 have hrB:=W.row B b1 b2;have hz:=(W.ok B b1 (by omega)).Ar hrB Q;have hsB:=(W.ok B b1 (by omega)).pos
 -- the row of B is a QV name below x
 have hyf:nH n T a b ((T B).name (R B)):=by
  refine ⟨B+1,B,by omega,by omega,by omega,by omega,?_,?_⟩
  ·rw [W.next B b1 b2];exact (iO (W.names B b1 (by omega)) (W.ok B b1 (by omega)).aS (W.fe B b1 b2) _).2 (.inr rfl)
  ·intro h;exact (W.names B b1 (by omega)).Dg h ⟨_,hrB,rfl⟩
 have hyx:(T B).name (R B)<x:=by
  have h1:=hmax _ hyf;have h2:(T B).name (R B)≠x:=by rw [b4];exact (W.names B b1 (by omega)).apart _ _ hrB (W.fe B b1 b2)
  omega
 have stat:∀ y,nH n T a b y->dG n (T A) y∨nG (T A) y:=λy ⟨i,_,h1,h2,_,_,h3,_⟩=>by
  by_cases h:dG n (T A) y
  ·exact .inl h
  ·exact .inr (lines i A h1 h2 a1 (by omega) y h3 h)
 have hL:0<=(T B).scale*ev n (F ((T B).name (R B))) Q:=Y_ (by omega) (aaf _ (S.jQ B b1 b2) hyx (stat _ hyf));have hneg:(T B).cell (R B) 0*Q 0<0:=by
  rw [q0];exact Int.mul_neg_of_neg_of_pos (S.lM B b1 b2) hs
 have hsum:sm n (λc=>(T B).cell (R B) (c+1)*ev n (F ((T B).fe c)) Q)<=0:=by
  refine vS λc hc=>?_;by_cases hA:dG n (T A) ((T B).fe c)
  ·rw [aae _ hA,X_];exact aaU 0
  ·have XB:nH n T a b ((T B).fe c):=⟨B,A,b1,by omega,a1,by omega,⟨c,hc,rfl⟩,hA⟩;have hle:=hmax _ XB;by_cases hx2:(T B).fe c=x
   ·have hcB:c=C B:=(W.names B b1 (by omega)).aS _ _ hc (W.fe B b1 b2) (by rw [hx2,b4]);have hp:=S.nI B b1 b2;rw [<-hcB] at hp;have hv:ev n (F ((T B).fe c)) Q<0:=by
     rw [hx2,a4,q2 _ (W.row A a1 a2)];exact S.lM A a1 a2
    have:=Int.mul_neg_of_pos_of_neg hp hv;omega
   ·have hcell:(T B).cell (R B) (c+1)<=0:=by
     apply v_;intro h;have:=S.jD B b1 b2 c hc (LF _ XB) (by omega);rw [<-b4] at this;omega
    have hv:=aaf _ (LF _ XB) (by omega) (stat _ XB);exact Int.mul_nonpos_of_nonpos_of_nonneg hcell hv
 omega
end
theorem xS {a b c:Int} (h:a<=b) (hc:0<c):a*c<=b*c:=A_ h (by omega)
theorem IV {x p y q z r:Int} (hp:0<p) (hq:0<q) (hr:0<r) (h1:x*q<=y*p) (h2:y*r<=z*q):x*r<=z*p:=by
 have e1:=xS h1 hr;have e2:=xS h2 hp;have e3:y*p*r=y*r*p:=by simp only [y_,u_,r_]
 have e4:x*q*r=(x*r)*q:=by simp only [y_,u_,r_]
 have e5:z*q*p=(z*p)*q:=by simp only [y_,u_,r_]
 rw [e4,e3] at e1;rw [e5] at e2;have:(x*r)*q<=(z*p)*q:=Int.le_trans e1 e2;exact Int.le_of_mul_le_mul_right this hq
theorem IW {x p y q z r:Int} (hp:0<p) (hq:0<q) (hr:0<r) (h1:x*q<y*p) (h2:y*r<=z*q):x*r<z*p:=by
 have e1:x*q*r<y*p*r:=Int.mul_lt_mul_of_pos_right h1 hr;have e2:=xS h2 hp;have e3:y*p*r=y*r*p:=by simp only [y_,u_,r_]
 have e4:x*q*r=(x*r)*q:=by simp only [y_,u_,r_]
 have e5:z*q*p=(z*p)*q:=by simp only [y_,u_,r_]
 rw [e4,e3] at e1;rw [e5] at e2;have:(x*r)*q<(z*p)*q:=Int.lt_of_lt_of_le e1 e2;exact Int.lt_of_mul_lt_mul_right this (by omega)
theorem nO {a b:Int} (h:0<a*b):(0<a∧0<b)∨(a<0∧b<0):=by
 rcases (show a<0∨a=0∨0<a by omega) with h1|h1|h1
 ·rcases (show b<0∨b=0∨0<b by omega) with h2 | h2 | h2
  ·exact .inr ⟨h1,h2⟩
  ·rw [h2,X_] at h;omega
  ·have:=Int.mul_neg_of_neg_of_pos h1 h2;omega
 ·rw [h1,aaM] at h;omega
 ·rcases (show b<0∨b=0∨0<b by omega) with h2 | h2 | h2
  ·have:=Int.mul_neg_of_pos_of_neg h1 h2;omega
  ·rw [h2,X_] at h;omega
  ·exact .inl ⟨h1,h2⟩
theorem bM.Dh {F:Int->Nat->Int} {n:Nat} {t:aR} (h:bM F n t) {r c k:Nat} (hr:r<t.lines.length) (hk:k<t.lines.length) (hkr:k≠r) (hc:c<n) (hp:t.cell r (c+1)<0) :
  t.scale*(t.swap r c).cell k 0=t.cell k 0*(-t.cell r (c+1))+t.cell k (c+1)*t.cell r 0:=by
 obtain ⟨x,hx⟩:=h.exact hr hk hc (by omega) 0 (by omega) (by omega);rw [aR.wh t r c k 0 hk (by omega),g_ hkr,g_ (by omega),hx,xC h.pos rfl,E_ hp,aaP,aaH,abC,<-hx,abC,u_ (t.cell r (c+1))];omega
theorem KE {t:aR} {r c:Nat} (hp:t.cell r (c+1)<0):(t.swap r c).scale=-t.cell r (c+1):=by
 show ((t.cell r (c+1)).natAbs:Int)=_;omega
structure Prim (n:Nat) (T:Nat->aR) (R C:Nat->Nat) (wr:Nat) (a b:Nat):Prop where
 there:∀ i,a<=i->i<=b->wr<(T i).lines.length
 LG:∀ i,a<=i->i<=b->(T i).name wr<0
 same:∀ i,a<=i->i<b->(T (i+1)).name wr=(T i).name wr
 Di:∀ i,a<=i->i<=b->∀ k,k<(T i).lines.length->0<=(T i).name k->0<=(T i).cell k 0
 lH:∀ i,a<=i->i<b->0<=(T i).fe (C i)
 nI:∀ i,a<=i->i<b->0<(T i).cell wr (C i+1)
 jD:∀ i,a<=i->i<b->∀ k,k<n->0<=(T i).fe k->0<(T i).cell wr (k+1)->(T i).fe (C i)<=(T i).fe k
 jQ:∀ i,a<=i->i<b->0<=(T i).name (R i)
 lM:∀ i,a<=i->i<b->(T i).cell (R i) (C i+1)<0
 tie:∀ i,a<=i->i<b->∀ k,k<(T i).lines.length->0<=(T i).name k->(T i).cell k (C i+1)<0->(T i).cell k 0=0->(T i).cell (R i) 0=0->(T i).name (R i)<=(T i).name k
section
variable {F:Int->Nat->Int} {n:Nat} {T:Nat->aR} {R C:Nat->Nat} {wr a b:Nat}
theorem Prim.WJ (S:Prim n T R C wr a b) {i:Nat} (h1:a<=i) (h2:i<b):wr≠R i:=by
 intro h;have h3:=S.LG i h1 (by omega);have h4:=S.jQ i h1 h2;rw [h] at h3;omega
theorem kN.aQ (W:kN F n T R C a b) (S:Prim n T R C wr a b) {i:Nat} (h1:a<=i) (h2:i<b) :
  (T i).cell wr 0*(T (i+1)).scale<=(T (i+1)).cell wr 0*(T i).scale∧(0<(T i).cell (R i) 0->(T i).cell wr 0*(T (i+1)).scale<(T (i+1)).cell wr 0*(T i).scale):=by
 have e:=(W.ok i h1 (by omega)).Dh (W.row i h1 h2) (S.there i h1 (by omega)) (S.WJ h1 h2) (W.fe i h1 h2) (S.lM i h1 h2);rw [W.next i h1 h2,KE (S.lM i h1 h2)];rw [u_] at e;have h3:=S.nI i h1 h2;have h4:=S.Di i h1 (by omega) _ (W.row i h1 h2) (S.jQ i h1 h2);have h5:0<=(T i).cell wr (C i+1)*(T i).cell (R i) 0:=Y_ (by omega) h4;refine ⟨by omega,λh6=>?_⟩;have h7:0<(T i).cell wr (C i+1)*(T i).cell (R i) 0:=Int.mul_pos h3 h6;omega
theorem kN.QW (W:kN F n T R C a b) (S:Prim n T R C wr a b) {u:Nat} (hu:a<=u):∀ (d:Nat),u+d<=b->(T u).cell wr 0*(T (u+d)).scale<=(T (u+d)).cell wr 0*(T u).scale
 | 0,_=>aaU _
 | d+1,h=>IV (W.ok u hu (by omega)).pos (W.ok (u+d) (by omega) (by omega)).pos (W.ok (u+d+1) (by omega) (by omega)).pos (kN.QW W S hu d (by omega)) (W.aQ S (by omega) (by omega)).1
theorem bM.IX {F:Int->Nat->Int} {n:Nat} {t t':aR} (h:bM F n t) (h':bM F n t') (hc:∀ x,dG n t x↔dG n t' x) {w w':Nat} (hw:w<t.lines.length) (hw':w'<t'.lines.length) (he:t.name w=t'.name w') :
  t'.scale*t.cell w 0=t'.cell w' 0*t.scale:=by
 obtain ⟨Q,q1,q2⟩:=h.wR 0 (by omega);have q0:Q 0=t.scale:=by
  have:=q1 0 (by omega);rw [jI,kH n Q 0 (by omega),h_ rfl] at this;exact this
 have e:=h'.Ar hw' Q;rw [<-he,q2 w hw,q0,kD λc hcn=>?_] at e
 ·omega
 ·obtain ⟨c2,hc2,e2⟩:=(hc (t'.fe c)).2 ⟨c,hcn,rfl⟩;have:=q1 (c2+1) (by omega);rw [fV,g_ (by omega),e2] at this;rw [this,X_]
theorem Prim.sD (S:Prim n T R C wr a b):∀ d,a+d<=b->(T (a+d)).name wr=(T a).name wr
 | 0,_=>rfl
 | d+1,h=>(S.same (a+d) (by omega) (by omega)).trans (Prim.sD S d (by omega))
theorem kN.QX (W:kN F n T R C a b) (S:Prim n T R C wr a b) (hab:∀ x,dG n (T a) x↔dG n (T b) x) {i:Nat} (h1:a<=i) (h2:i<b):(T i).cell (R i) 0=0:=by
 apply v_;intro hne;have h3:=S.Di i h1 (by omega) _ (W.row i h1 h2) (S.jQ i h1 h2);have hlt:=(W.aQ S h1 h2).2 (by omega);have r1:=W.QW S (d_ a) (i - a) (by omega);rw [show a+(i - a)=i by omega] at r1;have r2:=W.QW S (show a<=i+1 by omega) (b - (i+1)) (by omega);rw [show i+1+(b - (i+1))=b by omega] at r2;have pa:=(W.ok a (d_ _) (by omega)).pos;have pi:=(W.ok i h1 (by omega)).pos;have pj:=(W.ok (i+1) (by omega) (by omega)).pos;have pb:=(W.ok b (by omega) (d_ _)).pos;have s1:(T i).cell wr 0*(T b).scale<(T b).cell wr 0*(T i).scale:=IW pi pj pb hlt r2;have e:=(W.ok a (d_ _) (by omega)).IX (W.ok b (by omega) (d_ _)) hab (S.there a (d_ _) (by omega)) (S.there b (by omega) (d_ _)) (by
  have:=S.sD (b - a) (by omega);rw [show a+(b - a)=b by omega] at this;exact this.symm)
 have s2:=IV pb pa pi (show (T b).cell wr 0*(T a).scale<=(T a).cell wr 0*(T b).scale by rw [<-e,u_];exact aaU _) r1;omega
theorem kN.Dj (W:kN F n T R C a b) (S:Prim n T R C wr a b) (hab:∀ x,dG n (T a) x↔dG n (T b) x) {Q:Nat->Int} (hQ:∀ x,dG n (T a) x->ev n (F x) Q=0):∀ d,a+d<=b->∀ x,dG n (T (a+d)) x->ev n (F x) Q=0
 | 0,_,x,hx=>hQ x hx
 | d+1,h,x,hx=>by
  have ih:=kN.Dj W S hab hQ d (by omega);rw [show a+(d+1)=a+d+1 by omega,W.next (a+d) (by omega) (by omega)] at hx;rcases (iO (W.names (a+d) (by omega) (by omega)) (W.ok (a+d) (by omega) (by omega)).aS (W.fe (a+d) (by omega) (by omega)) x).1 hx with ⟨h1,_⟩|h1
  ·exact ih x h1
  ·have e:=(W.ok (a+d) (by omega) (by omega)).Ar (W.row (a+d) (by omega) (by omega)) Q;rw [W.QX S hab (by omega) (by omega),aaM,kD λc hc=>by rw [ih _ ⟨c,hc,rfl⟩,X_]] at e;have hs:=(W.ok (a+d) (by omega) (by omega)).pos;rw [h1];rcases abG.1 (show (T (a+d)).scale*ev n (F ((T (a+d)).name (R (a+d)))) Q=0 by omega) with h2|h2
   ·omega
   ·exact h2
theorem kN.NQ (W:kN F n T R C a b) (S:Prim n T R C wr a b) (hlt:a<b) {M:Int} (hM:∀ i,a<=i->i<=b->∀ x,dG n (T i) x->x<=M)
  (lines:∀ i j,a<=i->i<=b->a<=j->j<=b->∀ x,dG n (T i) x->¬ dG n (T j) x->nG (T j) x) (hab:∀ x,dG n (T a) x↔dG n (T b) x):False:=by
 have hf0:nH n T a b ((T a).name (R a)):=by
  refine ⟨a+1,a,by omega,by omega,by omega,by omega,?_,?_⟩
  ·rw [W.next a (d_ _) hlt];exact (iO (W.names a (d_ _) (by omega)) (W.ok a (d_ _) (by omega)).aS (W.fe a (d_ _) hlt) _).2 (.inr rfl)
  ·intro h;exact (W.names a (d_ _) (by omega)).Dg h ⟨_,W.row a (d_ _) hlt,rfl⟩
 obtain ⟨x,hx,hmax⟩:=IU (p:=nH n T a b) (M:=M) (λy ⟨i,_,h1,h2,_,_,h3,_⟩=>hM i h1 h2 y h3) hf0;obtain ⟨⟨A,a1,a2,a3,a4⟩,⟨B,b1,b2,b3,b4⟩⟩:=W.both hab hx;have LF:∀ y,nH n T a b y->0<=y:=λy hy=>by
  obtain ⟨⟨i,h1,h2,_,h4⟩,_⟩:=W.both hab hy;rw [h4];exact S.lH i h1 h2
 -- the Dj,at which all QV names are 0
 obtain ⟨Q,q1,q2⟩:=(W.ok a (d_ _) (by omega)).wR 0 (by omega);have q0:Q 0=(T a).scale:=by
  have:=q1 0 (by omega);rw [jI,kH n Q 0 (by omega),h_ rfl] at this;exact this
 have pa:=(W.ok a (d_ _) (by omega)).pos;have hQ:=W.Dj S hab (Q:=Q) (λy ⟨c,hc,e⟩=>by
  have:=q1 (c+1) (by omega);rw [fV,g_ (by omega),e] at this;exact this)
 have aag:∀ y,nH n T a b y->ev n (F y) Q=0:=λy ⟨i,_,h1,h2,_,_,h3,_⟩=>by
  have:=hQ (i - a) (by omega) y;rw [show a+(i - a)=i by omega] at this;exact this h3
 have okA:=W.ok A a1 (by omega);have okB:=W.ok B b1 (by omega);have nmB:=W.names B b1 (by omega);have pB:=okB.pos;have cB:=W.fe B b1 b2
 -- the way along the column of B
 obtain ⟨D,d1,d2⟩:=okB.wR (C B+1) (by omega);have d0:D 0=0:=by
  have:=d1 0 (by omega);rw [jI,kH n D 0 (by omega),g_ (by omega)] at this;exact this
 have hw:(T A).name wr=(T B).name wr:=by
  have e1:=S.sD (A - a) (by omega);have e2:=S.sD (B - a) (by omega);rw [show a+(A - a)=A by omega] at e1;rw [show a+(B - a)=B by omega] at e2;rw [e1,e2]
 have e:=okA.Ar (S.there A a1 (by omega)) D;rw [d0,X_,Int.zero_add,hw,d2 wr (S.there B b1 (by omega))] at e;have hpos:0<(T A).scale*(T B).cell wr (C B+1):=Int.mul_pos okA.pos (S.nI B b1 b2);rw [e] at hpos;obtain ⟨c,hc,hcp⟩:=Gv hpos;have hfe:nH n T a b ((T B).fe (C B)):=by
  refine ⟨B,B+1,by omega,by omega,by omega,by omega,⟨_,cB,rfl⟩,λh=>?_⟩;rw [W.next B b1 b2] at h;rcases (iO nmB okB.aS cB _).1 h with ⟨_,h⟩|h
  ·exact h rfl
  ·exact nmB.apart _ _ (W.row B b1 b2) cB h.symm
 by_cases hyB:dG n (T B) ((T A).fe c)
 ·obtain ⟨c',hc',e'⟩:=hyB;by_cases hcc:c'=C B
  ·-- the entering column itself
   subst hcc;have hv:=d1 (C B+1) (by omega);rw [fV,h_ rfl] at hv;rw [<-e',hv] at hcp;have hcell:0<(T A).cell wr (c+1):=by
    rcases nO hcp with h|h
    ·exact h.1
    ·omega
   have hle:=S.jD A a1 a2 c hc (by rw [<-e'];exact S.lH B b1 b2) hcell;rw [<-a4,<-e'] at hle;have hle2:=hmax _ hfe;have:(T B).fe (C B)=x:=by omega
   exact b3 ⟨_,cB,this⟩
  ·have hv:=d1 (c'+1) (by omega);rw [fV,g_ (by omega),e'] at hv;rw [hv,X_] at hcp;omega
 ·obtain ⟨k,hk,ek⟩:=lines A B a1 (by omega) b1 (by omega) _ ⟨c,hc,rfl⟩ hyB;have hfy:nH n T a b ((T A).fe c):=⟨A,B,a1,by omega,b1,by omega,⟨c,hc,rfl⟩,hyB⟩;have hle:=hmax _ hfy;have hy0:=LF _ hfy;have hv:=d2 k hk;rw [ek] at hv;rw [hv] at hcp;have hxy:(T A).fe c=x->(T A).cell wr (c+1) > 0∧(T B).cell k (C B+1)<0:=λh=>by
   have h1:c=C A:=(W.names A a1 (by omega)).aS _ _ hc (W.fe A a1 a2) (by rw [h,a4]);have h2:k=R B:=nmB.lines _ _ hk (W.row B b1 b2) (by rw [ek,h,b4]);exact ⟨by rw [h1];exact S.nI A a1 a2,by rw [h2];exact S.lM B b1 b2⟩
  rcases nO hcp with ⟨p1,p2⟩|⟨p1,p2⟩
  ·have:=S.jD A a1 a2 c hc hy0 p1;rw [<-a4] at this;have:=(hxy (by omega)).2;omega
  ·have hne:(T A).fe c≠x:=λh=>by have:=(hxy h).1;omega
   have hk0:(T B).cell k 0=0:=by
    have e3:=okB.Ar hk Q;rw [ek,aag _ hfy,kD λc2 hc2=>?_,q0] at e3
    ·rcases abG.1 (show (T B).cell k 0*(T a).scale=0 by omega) with h | h
     ·exact h
     ·omega
    ·have h2:=hQ (B - a) (by omega);rw [show a+(B - a)=B by omega] at h2;rw [h2 _ ⟨c2,hc2,rfl⟩,X_]
   have:=S.tie B b1 b2 k hk (by rw [ek];exact hy0) p2 hk0 (W.QX S hab b1 b2);rw [ek,<-b4] at this;omega
end
theorem EZ:∀ (l m:List (List Int)),l.Nodup->(∀ x∈l,x∈m)->l.length<=m.length
 | [],_,_,_=>aaZ _
 | a::l,m,hn,hs=>by
  have ha:a∈m:=hs a (by simp);have h1:=EZ l (m.erase a) (List.nodup_cons.1 hn).2 (λx hx=>by
   have hne:x≠a:=λe=>(List.nodup_cons.1 hn).1 (e ▸ hx);exact (List.mem_erase_of_ne hne).2 (hs x (by simp [hx])))
  have h2:=List.length_erase_of_mem ha;have h3:0<m.length:=List.length_pos_of_mem ha;simp only [List.length_cons];omega
def qQ (U:List Int):Nat->List (List Int)
 | 0=>[[]]
 | n+1=>U.flatMap λx=>(qQ U n).map λl=>x::l
theorem AV (U:List Int):∀ n,(qQ U n).length=U.length^n
 | 0=>rfl
 | n+1=>by
  rw [qQ,List.length_flatMap];have e:(U.map λx=>((qQ U n).map λl=>x::l).length)=U.map λ_=>U.length^n:=by
   apply aa1;intro x _;rw [L_,AV U n]
  rw [e,abI,abL];generalize U.length^n=q;clear e
  induction U with
  | nil=>simp
  | cons a U ih=>simp only [List.map_cons,List.sum_cons,List.length_cons,ih,aa_];omega
theorem AX (U:List Int):∀ (n:Nat) (l:List Int),l.length=n->(∀ x∈l,x∈U)->l∈qQ U n
 | 0,l,h,_=>by
  have:l=[]:=aaz h;subst this;simp [qQ]
 | n+1,[],h,_=>by simp at h
 | n+1,x::l,h,hs=>by
  rw [qQ,List.mem_flatMap];exact ⟨x,hs x (by simp),m_.2 ⟨l,AX U n l (by simpa using h) (λy hy=>hs y (by simp [hy])),rfl⟩⟩
theorem WM {f:Nat->List Int} {U:List Int} {n:Nat} (h:∀ i,i<=U.length^n->(f i).length=n∧∀ x∈f i,x∈U):∃ i j,i<j∧j<=U.length^n∧f i=f j:=by
 apply v_;intro hc;have hinj:∀ i j,i<j->j<=U.length^n->f i≠f j:=λi j h1 h2 h3=>hc ⟨i,j,h1,h2,h3⟩;have hnd:∀ k,k<=U.length^n+1->((List.range k).map f).Nodup:=by
  intro k
  induction k with
  | zero=>intro _;simp
  | succ k ih =>
   intro hk;rw [abD,aa4,List.nodup_append];refine ⟨ih (by omega),by simp,?_⟩;intro a ha b hb;obtain ⟨i,hi,rfl⟩:=m_.1 ha;simp at hb;subst hb;exact hinj i k (V_.1 hi) (by omega)
 have:=EZ _ (qQ U n) (hnd _ (d_ _)) (λx hx=>by
  obtain ⟨i,hi,rfl⟩:=m_.1 hx;have:=h i (by have:=V_.1 hi;omega);exact AX U n _ this.1 this.2)
 rw [L_,List.length_range,AV] at this;omega
structure Stat (U:List Int) (n:Nat) (t:aR):Prop where
 aS:∀ x,dG n t x->x∈U
 lines:∀ x,nG t x->x∈U
 all:∀ x,x∈U->dG n t x∨nG t x
theorem Stat.swap {U:List Int} {n:Nat} {t:aR} (h:Stat U n t) (hn:ib n t) (hl:t.aS.length=n) {r c:Nat} (hr:r<t.lines.length) (hc:c<n):Stat U n (t.swap r c):=by
 refine ⟨λx hx=>?_,λx hx=>?_,λx hx=>?_⟩
 ·rcases (iO hn hl hc x).1 hx with ⟨h1,_⟩ | h1
  ·exact h.aS x h1
  ·rw [h1];exact h.lines _ ⟨r,hr,rfl⟩
 ·rcases (vJ hn hr x).1 hx with ⟨h1,_⟩ | h1
  ·exact h.lines x h1
  ·rw [h1];exact h.aS _ ⟨c,hc,rfl⟩
 ·rcases h.all x hx with h1 | h1
  ·by_cases e:x=t.fe c
   ·exact .inr ((vJ hn hr x).2 (.inr e))
   ·exact .inl ((iO hn hl hc x).2 (.inl ⟨h1,e⟩))
  ·by_cases e:x=t.name r
   ·exact .inl ((iO hn hl hc x).2 (.inr e))
   ·exact .inr ((vJ hn hr x).2 (.inl ⟨h1,e⟩))
theorem Dk (U:List Int):∃ M:Int,∀ x∈U,x<=M:=by
 induction U with
 | nil=>exact ⟨0,λx hx=>by simp at hx⟩
 | cons a U ih =>
  obtain ⟨M,hM⟩:=ih;refine ⟨if a<=M then M else a,λx hx=>?_⟩;rcases aa0.1 hx with h|h
  ·subst h;split <;> omega
  ·have:=hM x h;split <;> omega
theorem Ac {n:Nat} {t:aR} (hn:t.aS.length=n) (x:Int):dG n t x↔x∈t.aS:=by
 constructor
 ·rintro ⟨c,hc,e⟩;unfold aR.fe at e;rw [a_,f_ (by omega)] at e;rw [<-e];exact aak _
 ·intro h;obtain ⟨c,hc,e⟩:=aa5.1 h;refine ⟨c,by omega,?_⟩;unfold aR.fe;rw [a_,f_ hc];exact e
section
variable {F:Int->Nat->Int} {n:Nat} {T:Nat->aR} {R C:Nat->Nat} {b:Nat} {U:List Int}
theorem kN.part {a:Nat} (W:kN F n T R C a b) {i j:Nat} (hi:a<=i) (hj:j<=b):kN F n T R C i j :=
 ⟨λk h1 h2=>W.ok k (by omega) (by omega),λk h1 h2=>W.names k (by omega) (by omega),λk h1 h2=>W.row k (by omega) (by omega),λk h1 h2=>W.fe k (by omega) (by omega),λk h1 h2=>W.next k (by omega) (by omega)⟩
theorem NP.part {a:Nat} (S:NP n T R C a b) {i j:Nat} (hi:a<=i) (hj:j<=b):NP n T R C i j :=
 ⟨λk h1 h2=>S.jQ k (by omega) (by omega),λk h1 h2=>S.lM k (by omega) (by omega),λk h1 h2=>S.vK k (by omega) (by omega),λk h1 h2=>S.lH k (by omega) (by omega),λk h1 h2=>S.nI k (by omega) (by omega),λk h1 h2=>S.jD k (by omega) (by omega)⟩
theorem Prim.part {a wr:Nat} (S:Prim n T R C wr a b) {i j:Nat} (hi:a<=i) (hj:j<=b):Prim n T R C wr i j :=
 ⟨λk h1 h2=>S.there k (by omega) (by omega),λk h1 h2=>S.LG k (by omega) (by omega),λk h1 h2=>S.same k (by omega) (by omega),λk h1 h2=>S.Di k (by omega) (by omega),λk h1 h2=>S.lH k (by omega) (by omega),λk h1 h2=>S.nI k (by omega) (by omega),λk h1 h2=>S.jD k (by omega) (by omega),λk h1 h2=>S.jQ k (by omega) (by omega),λk h1 h2=>S.lM k (by omega) (by omega),λk h1 h2=>S.tie k (by omega) (by omega)⟩
theorem kN.LH (W:kN F n T R C 0 b) (hU:∀ i,i<=b->Stat U n (T i)) (hb:U.length^n<b):∃ i j,i<j∧j<=b∧(∀ x,dG n (T i) x↔dG n (T j) x):=by
 obtain ⟨i,j,h1,h2,h3⟩:=WM (f:=λi=>(T i).aS) (U:=U) (n:=n) (λi hi=>⟨(W.ok i (by omega) (by omega)).aS,λx hx=>(hU i (by omega)).aS x ((Ac (W.ok i (by omega) (by omega)).aS x).2 hx)⟩);refine ⟨i,j,h1,by omega,λx=>?_⟩;rw [Ac (W.ok i (by omega) (by omega)).aS,Ac (W.ok j (by omega) (by omega)).aS,h3]
theorem kN.short (W:kN F n T R C 0 b) (S:NP n T R C 0 b) (hU:∀ i,i<=b->Stat U n (T i)):b<=U.length^n:=by
 apply v_;intro hlt;obtain ⟨i,j,h1,h2,h3⟩:=W.LH hU (by omega);obtain ⟨M,hM⟩:=Dk U;exact (W.part (aaZ i) h2).QU (S.part (aaZ i) h2) h1 (M:=M) (λk k1 k2 x hx=>hM x ((hU k (by omega)).aS x hx))
  (λp q p1 p2 q1 q2 x hx hy=>((hU q (by omega)).all x ((hU p (by omega)).aS x hx)).resolve_left hy) h3
theorem kN.WN {wr:Nat} (W:kN F n T R C 0 b) (S:Prim n T R C wr 0 b) (hU:∀ i,i<=b->Stat U n (T i)):b<=U.length^n:=by
 apply v_;intro hlt;obtain ⟨i,j,h1,h2,h3⟩:=W.LH hU (by omega);obtain ⟨M,hM⟩:=Dk U;exact (W.part (aaZ i) h2).NQ (S.part (aaZ i) h2) h1 (M:=M) (λk k1 k2 x hx=>hM x ((hU k (by omega)).aS x hx))
  (λp q p1 p2 q1 q2 x hx hy=>((hU q (by omega)).all x ((hU p (by omega)).aS x hx)).resolve_left hy) h3
end
section
variable {F:Int->Nat->Int} {n:Nat} {t:aR}
theorem bM.none (h:bM F n t) {r:Nat} (hr:r<t.lines.length) (h0:t.cell r 0<0) (hc:∀ c,c<n->t.cell r (c+1)<=0) {P:Nat->Int} (hP:0<P 0) (wJ:∀ c,c<n->0<=ev n (F (t.fe c)) P):ev n (F (t.name r)) P<0:=by
 have e:=h.Ar hr P;have h1:t.cell r 0*P 0<0:=Int.mul_neg_of_neg_of_pos h0 hP;have h2:sm n (λc=>t.cell r (c+1)*ev n (F (t.fe c)) P)<=0:=vS λc hcn=>Int.mul_nonpos_of_nonpos_of_nonneg (hc c hcn) (wJ c hcn);have hs:=h.pos;apply v_;intro hge;have:=Y_ (show 0<=t.scale by omega) (show 0<=ev n (F (t.name r)) P by omega);omega
theorem bM.top (h:bM F n t) {r:Nat} (hr:r<t.lines.length) (hc:∀ c,c<n->t.cell r (c+1)<=0) {P:Nat->Int} (wJ:∀ c,c<n->0<=ev n (F (t.fe c)) P):t.scale*ev n (F (t.name r)) P<=t.cell r 0*P 0:=by
 have e:=h.Ar hr P;have h2:sm n (λc=>t.cell r (c+1)*ev n (F (t.fe c)) P)<=0:=vS λc hcn=>Int.mul_nonpos_of_nonpos_of_nonneg (hc c hcn) (wJ c hcn);omega
theorem bM.NR (h:bM F n t) {r:Nat} (hr:r<t.lines.length) (hc:∀ c,c<n->t.cell r (c+1)<=0) {P:Nat->Int} (hP:P 0=1) (wJ:∀ c,c<n->0<=ev n (F (t.fe c)) P):ev n (F (t.name r)) P<=Int.fdiv (t.cell r 0) t.scale:=by
 have:=h.top hr hc wJ;rw [hP,Int.mul_one] at this;rw [S_ _ (by have:=h.pos;omega)];exact Int.le_ediv_of_mul_le h.pos (by rw [u_];exact this)
theorem bM.keeps (h:bM F n t) {r c:Nat} (hr:r<t.lines.length) (hc:c<n) (hp:t.cell r (c+1)<0) (hrn:0<=t.cell r 0) (Di:∀ k,k<t.lines.length->0<=t.name k->0<=t.cell k 0)
  (ratio:∀ k,k<t.lines.length->0<=t.name k->t.cell k (c+1)<0->t.cell r 0*(-t.cell k (c+1))<=t.cell k 0*(-t.cell r (c+1))) :
  ∀ k,k<(t.swap r c).lines.length->0<=(t.swap r c).name k->0<=(t.swap r c).cell k 0:=by
 intro k hk hn;rw [aR.iG] at hk;rw [aR.jG t r c k hk] at hn;by_cases hkr:k=r
 ·rw [aR.wh t r c k 0 hk (by omega),h_ hkr,g_ (by omega),E_ hp];omega
 ·rw [g_ hkr] at hn;have e:=h.Dh hr hk hkr hc hp;have hs:=h.pos;have h0:=Di k hk hn;have h1:0<=t.cell k 0*(-t.cell r (c+1))+t.cell k (c+1)*t.cell r 0:=by
   by_cases hneg:t.cell k (c+1)<0
   ·have:=ratio k hk hn hneg;rw [abC,u_ (t.cell r 0)] at this;omega
   ·have h2:=Y_ h0 (show 0<=-t.cell r (c+1) by omega);have h3:=Y_ (show 0<=t.cell k (c+1) by omega) hrn;omega
  rw [<-e] at h1;apply v_;intro hc2;have:=Int.mul_neg_of_pos_of_neg hs (show (t.swap r c).cell k 0<0 by omega);omega
def gJ (F:Int->Nat->Int) (n m:Nat):Prop:=∀ D:Nat->Int,D 0=0->(∀ i:Nat,i<m->0<=ev n (F i) D)->∀ k,k<n+1->D k=0
theorem LD {n:Nat} {f D:Nat->Int} (h:∀ k,k<n+1->D k=0):ev n f D=0:=kD λk hk=>by rw [h k hk,X_]
theorem Ky {m:Nat} (h:bM F n t) {c:Nat} (hc:c<n) (hst:∀ i:Nat,i<m->dG n t i∨nG t i) (hl:∀ k,k<t.lines.length->0<=t.name k->0<=t.cell k (c+1)) (hT:gJ F n m):False:=by
 obtain ⟨D,d1,d2⟩:=h.wR (c+1) (by omega);have d0:D 0=0:=by
  have:=d1 0 (by omega);rw [jI,kH n D 0 (by omega),g_ (by omega)] at this;exact this
 have hs:=h.pos;have hz:=hT D d0 (λi hi=>by
  rcases hst i hi with ⟨c2,hc2,e⟩|⟨r,hr,e⟩
  ·have:=d1 (c2+1) (by omega);rw [fV,e] at this;rw [this];split <;> omega
  ·have:=d2 r hr;rw [e] at this;rw [this];exact hl r hr (by rw [e];omega))
 have h1:=d1 (c+1) (by omega);rw [h_ rfl,LD hz] at h1;omega
end
end Go.Proofs.YtgaafamcajcifaaGreat.Pl
