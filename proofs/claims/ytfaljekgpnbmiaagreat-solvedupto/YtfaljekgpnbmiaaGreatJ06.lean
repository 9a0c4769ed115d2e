/- Joined: XLat4 XLat5 XReg1 XReg2 XTab8 XTab9 XTab10 XTab11 XTrim1. -/
import Derived.Test.YtfaljekgpnbmiaaGreatJ03
import Derived.Test.YtfaljekgpnbmiaaGreatJ04
import Derived.Test.YtfaljekgpnbmiaaGreatJ05
set_option linter.unusedVariables false
set_option linter.unusedSimpArgs false
set_option maxRecDepth 100000
namespace Go.Proofs.YtfaljekgpnbmiaaGreat.Pl
def comb (n:Nat) (St:Nat->Nat->Int) (y:Nat->Int) (i:Nat):Int:=sm n (λj=>y j*St j i)
structure Em (n:Nat) (St:Nat->Nat->Int):Prop where
 reach:∀ x:Nat->Int,∃ y:Nat->Int,∀ i,i<n->x i=comb n St y i
 once:∀ y:Nat->Int,(∀ i,i<n->comb n St y i=0)->∀ j,j<n->y j=0
theorem Hr (n:Nat):Em n unit:=by
 have e:∀ y i,i<n->comb n unit y i=y i:=λy i hi=>by
  unfold comb;rw [iM i hi λj _ hj=>by unfold unit;rw [g_ hj];omega];unfold unit;rw [h_ rfl];omega
 exact ⟨λx=>⟨x,λi hi=>(e x i hi).symm⟩,λy h j hj=>by rw [<-e y j hj];exact h j hj⟩
theorem HY {n:Nat} (St:Nat->Nat->Int) {k j:Nat} (hk:k<n) (hj:j<n) (hjk:j≠k) (t:Int) (y:Nat->Int) (i:Nat) :
  comb n (bF St k j t) y i=comb n St (λa=>if a=j then y j - t*y k else y a) i:=by
 unfold comb;rw [fO (f:=λa=>y a*bF St k j t a i) k hk,fO (f:=λa=>(if a=j then y j - t*y k else y a)*St a i) j hj];have e1:sm n (λa=>if a=k then 0 else y a*bF St k j t a i)=y j*St j i+sm n (λa=>if a=j then 0 else if a=k then 0 else y a*St a i):=by
  rw [fO (f:=λa=>if a=k then 0 else y a*bF St k j t a i) j hj,g_ hjk];unfold bF;rw [g_ hjk];congr 1;refine aC λa _=>?_;by_cases h1:a=j
  ·rw [h_ h1,h_ h1]
  ·rw [g_ h1,g_ h1];by_cases h2:a=k
   ·rw [h_ h2,h_ h2]
   ·rw [g_ h2,g_ h2,g_ h2]
 have e2:sm n (λa=>if a=j then 0 else (if a=j then y j - t*y k else y a)*St a i)=y k*St k i+sm n (λa=>if a=j then 0 else if a=k then 0 else y a*St a i):=by
  rw [fO (f:=λa=>if a=j then 0 else (if a=j then y j - t*y k else y a)*St a i) k hk,g_ (λe=>hjk e.symm),g_ (λe=>hjk e.symm)];congr 1;refine aC λa _=>?_;by_cases h1:a=j
  ·rw [h_ h1,h_ h1];split <;> rfl
  ·rw [g_ h1,g_ h1,g_ h1]
 rw [e1,e2,h_ rfl];unfold bF;rw [h_ rfl,aaZ,abL,r_ (y k),y_ t];omega
theorem Ex {n:Nat} {St:Nat->Nat->Int} (h:Em n St) {k j:Nat} (hk:k<n) (hj:j<n) (hjk:j≠k) (t:Int):Em n (bF St k j t):=by
 constructor
 ·intro x;obtain ⟨y,hy⟩:=h.reach x;refine ⟨λa=>if a=j then y j+t*y k else y a,λi hi=>?_⟩;rw [HY St hk hj hjk,hy i hi];unfold comb;refine aC λa _=>?_
  dsimp only
  by_cases h1:a=j
  ·rw [h_ h1,h_ rfl,g_ (λe=>hjk e.symm),h1,Int.add_sub_cancel]
  ·rw [g_ h1,g_ h1]
 ·intro y hy a ha;have h1:=h.once (λa=>if a=j then y j - t*y k else y a) (λi hi=>by rw [<-HY St hk hj hjk];exact hy i hi);have hk0:y k=0:=by have:=h1 k hk;rwa [g_ (λe=>hjk e.symm)] at this
  by_cases e:a=j
  ·have:=h1 j hj;rw [h_ rfl,hk0,Y_] at this;rw [e];omega
  ·have:=h1 a ha;rwa [g_ e] at this
theorem Qy (k a:Nat) (hk:0<k):sw k (sw k a)=a:=by
 by_cases h1:a=k
 ·rw [h1,qP,pF hk]
 ·by_cases h2:a=k - 1
  ·rw [h2,pF hk,qP]
  ·rw [mF h1 h2,mF h1 h2]
theorem Zv {n k:Nat} (hk:0<k) (hkn:k<n) (f:Nat->Int):sm n (λa=>f (sw k a))=sm n f:=by
 rw [fO (f:=λa=>f (sw k a)) k hkn,fO (f:=λa=>if a=k then 0 else f (sw k a)) (k - 1) (by omega),fO (f:=f) k hkn,fO (f:=λa=>if a=k then 0 else f a) (k - 1) (by omega),qP,pF hk,g_ (by omega)];have e:sm n (λa=>if a=k - 1 then 0 else if a=k then 0 else f (sw k a))=sm n (λa=>if a=k - 1 then 0 else if a=k then 0 else f a):=by
  refine aC λa _=>?_;by_cases h1:a=k - 1
  ·rw [h_ h1,h_ h1]
  ·rw [g_ h1,g_ h1];by_cases h2:a=k
   ·rw [h_ h2,h_ h2]
   ·rw [g_ h2,g_ h2,mF h2 h1]
 rw [e];omega
theorem LM {n k:Nat} (hk:0<k) (hkn:k<n) (St:Nat->Nat->Int) (y:Nat->Int) (i:Nat):comb n (λa=>St (sw k a)) y i=comb n St (λa=>y (sw k a)) i:=by
 unfold comb;rw [<-Zv hk hkn (λa=>y (sw k a)*St a i)];refine aC λa _=>?_;rw [Qy k a hk]
theorem Ww {n:Nat} {St:Nat->Nat->Int} (h:Em n St) {k:Nat} (hk:0<k) (hkn:k<n):Em n (λa=>St (sw k a)):=by
 constructor
 ·intro x;obtain ⟨y,hy⟩:=h.reach x;refine ⟨λa=>y (sw k a),λi hi=>?_⟩;rw [LM hk hkn,hy i hi];unfold comb;refine aC λa _=>?_
  dsimp only
  rw [Qy k a hk]
 ·intro y hy a ha;have:=h.once (λa=>y (sw k a)) (λi hi=>by rw [<-LM hk hkn];exact hy i hi) (sw k a) (Aq hkn ha);rwa [Qy k a hk] at this
def rG (n:Nat) (Q:Nat->Nat->Int) (u v:Nat->Int):Int:=sm n (λi=>u i*sm n (λj=>Q i j*v j))
theorem yQ (n:Nat) (Q:Nat->Nat->Int) (u w v:Nat->Int) (t:Int):rG n Q (λi=>u i - t*w i) v=rG n Q u v - t*rG n Q w v:=by
 unfold rG;rw [<-dA,<-zF];refine aC λi _=>?_;rw [abL,y_]
theorem wy (n:Nat) (Q:Nat->Nat->Int) (u v w:Nat->Int) (t:Int):rG n Q u (λi=>v i - t*w i)=rG n Q u v - t*rG n Q u w:=by
 unfold rG;rw [<-dA,<-zF];refine aC λi _=>?_;have e:sm n (λj=>Q i j*(v j - t*w j))=sm n (λj=>Q i j*v j) - t*sm n (λj=>Q i j*w j):=by
  rw [<-dA,<-zF];refine aC λj _=>?_;rw [aaZ,r_]
 rw [e,aaZ,r_]
def xI (n:Nat) (Q St G:Nat->Nat->Int):Prop:=∀ a b,a<n->b<n->G a b=rG n Q (St a) (St b)
theorem Ew (n:Nat) (Q:Nat->Nat->Int):xI n Q unit Q:=by
 intro a b ha hb;unfold rG;rw [iM a ha λi _ hi=>by unfold unit;rw [g_ (λe=>hi e.symm),aa_],iM b hb λj _ hj=>by unfold unit;rw [g_ (λe=>hj e.symm),Y_]];unfold unit;rw [h_ rfl,h_ rfl];omega
theorem Ko {n:Nat} {Q St G:Nat->Nat->Int} (h:xI n Q St G) {k j:Nat} (hk:k<n) (hj:j<n) (t:Int):xI n Q (bF St k j t) (dL G k j t):=by
 intro a b ha hb;have hr:∀ x,x≠k->bF St k j t x=St x:=λx hx=>by funext i;unfold bF;rw [g_ hx]
 have hkk:bF St k j t k=λi=>St k i - t*St j i:=by funext i;unfold bF;rw [h_ rfl]
 by_cases hak:a=k
 ·by_cases hbk:b=k
  ·rw [hak,hbk,nD,hkk,yQ,wy,wy,h k k hk hk,h j k hj hk,h k j hk hj,h j j hj hj,aaZ t (rG n Q (St k) (St j)),aaZ t (rG n Q (St j) (St k))];omega
  ·rw [hak,fC G t hbk,hkk,hr b hbk,yQ,h k b hk hb,h j b hj hb]
 ·by_cases hbk:b=k
  ·rw [hbk,iB G t hak,hkk,hr a hak,wy,h a k ha hk,h a j ha hj]
  ·rw [eD G t hak hbk,hr a hak,hr b hbk,h a b ha hb]
theorem Tm {n:Nat} {Q St G:Nat->Nat->Int} (h:xI n Q St G) {k:Nat} (hkn:k<n):xI n Q (λa=>St (sw k a)) (zz G k):=λa b ha hb=>h (sw k a) (sw k b) (Aq hkn ha) (Aq hkn hb)
theorem Qz {n:Nat} (Q St:Nat->Nat->Int) (v w:Nat->Int):rG n Q (comb n St v) (comb n St w)=sm n (λa=>v a*sm n (λb=>rG n Q (St a) (St b)*w b)):=by
 have l1:∀ z,rG n Q (comb n St v) z=sm n (λa=>v a*rG n Q (St a) z):=λz=>by
  unfold rG comb;have e:∀ i,i<n->sm n (λj=>v j*St j i)*sm n (λj=>Q i j*z j)=sm n (λa=>v a*(St a i*sm n (λj=>Q i j*z j))):=λi _=>by
   rw [u_,<-dA];refine aC λa _=>?_;rw [u_,y_]
  rw [aC e,oW];refine aC λa _=>?_;rw [<-dA]
 have l2:∀ u,rG n Q u (comb n St w)=sm n (λb=>rG n Q u (St b)*w b):=λu=>by
  unfold rG comb;have e:∀ i,i<n->u i*sm n (λj=>Q i j*sm n (λb=>w b*St b j))=sm n (λb=>u i*(sm n (λj=>Q i j*St b j)*w b)):=λi _=>by
   rw [<-dA,aC (f:=λj=>u i*(Q i j*sm n (λb=>w b*St b j))) (g:=λj=>sm n (λb=>u i*(Q i j*St b j*w b))) λj _=>by
    rw [<-dA,<-dA];refine aC λb _=>?_;simp only [y_,u_,r_],oW]
   refine aC λb _=>?_;rw [dA];congr 1;rw [u_,<-dA];refine aC λj _=>?_;rw [u_]
  rw [aC e,oW];refine aC λb _=>?_;rw [u_,<-dA];refine aC λi _=>?_;simp only [y_,u_,r_]
 rw [l1];refine aC λa _=>?_;rw [l2]
theorem NK {n:Nat} {Q St G:Nat->Nat->Int} (hQ:gQ n Q) (hU:Em n St) (hG:xI n Q St G):gQ n G:=by
 intro v ⟨i,hi,hv⟩;have e:sm n (λi=>v i*sm n (λj=>G i j*v j))=rG n Q (comb n St v) (comb n St v):=by
  rw [Qz];refine aC λa ha=>?_;rw [aC λb hb=>by rw [hG a b ha hb]]
 rw [e];unfold rG;refine hQ (comb n St v) ?_;apply v_;intro hc;exact hv (hU.once v (λj hj=>v_ λh=>hc ⟨j,hj,h⟩) i hi)
theorem Ez {lam v:Int} (hv:0<v):-v<=2*(lam - Int.fdiv (lam+lam+v) (v+v)*v)∧2*(lam - Int.fdiv (lam+lam+v) (v+v)*v)<=v:=by
 rw [T_ _ (by omega)];have d1:=aaz (lam+lam+v) (v+v);have d2:=abh (lam+lam+v) (show v+v≠0 by omega);have d3:=abj (lam+lam+v) (show 0<v+v by omega);generalize (lam+lam+v)/(v+v)=q at *
 generalize (lam+lam+v)%(v+v)=r at *
 rw [abb,u_ v q] at d1;omega
section
variable {n:Nat} {G:Nat->Nat->Int}
theorem WB (hP:gQ n G) {l i:Nat} (hl:l<=i) (hi:i<n):0<gm n G l i i:=by
 have h:=(qO hP l (by omega)).1;obtain ⟨D,d1,d2⟩:=h.wT (i+1) (by omega);have hs:=h.pos;have hlen:=(jE n G l).1;have c1:∀ a,a<n->a<l->sm n (λj=>G a j*D (j+1))=0:=λa ha hlt=>by
  have:=d1 (a+1) (by omega);rw [gB,(fB n G l (by omega) a ha).2,h_ hlt,g_ (by omega),uV] at this;exact this
 have c2:∀ a,a<n->¬ a<l->D (a+1)=if a=i then (dE n G l).scale else 0:=λa ha hge=>by
  have:=d1 (a+1) (by omega);rw [gB,(fB n G l (by omega) a ha).2,g_ hge,rW,kJ n D (a+1) (by omega)] at this;rw [this];by_cases e:a=i
  ·rw [h_ (by omega),h_ e]
  ·rw [g_ (by omega),g_ e]
 have c3:sm n (λj=>G i j*D (j+1))=gm n G l i i:=by
  have:=d2 i (by omega);rw [(fB n G l (by omega) i hi).1,g_ (by omega),uV] at this;exact this
 have hq:=hP (λa=>D (a+1)) ⟨i,hi,by rw [c2 i hi (by omega),h_ rfl];omega⟩;rw [iM i hi λa ha hai=>?_] at hq
 ·rw [c3,c2 i hi (by omega),h_ rfl] at hq;rcases nR hq with h5|h5 <;> omega
 ·by_cases hlt:a<l
  ·rw [c1 a ha hlt,Y_]
  ·rw [c2 a ha hlt,g_ hai,aa_]
theorem Tq (hP:gQ n G) (hG:∀ i j,G i j=G j i) {l i:Nat} (hl:l<i) (hi:i<n):gK n G (l+1)*gm n G l i i=gK n G l*gm n G (l+1) i i+gm n G l i l*gm n G l i l:=by
 have e:=(iJ hP (l:=l) (by omega) hi hi (by omega) (by omega)).2;rw [<-fw hP (by omega),Br hP hG l (by omega) l i (d_ _) (by omega) (by omega) hi] at e;omega
theorem Bu (hP:gQ n G) {l:Nat} (hl:l<=n):1<=gK n G l:=by have:=kK hP hl;omega
theorem sq_nonneg (x:Int):0<=x*x:=by
 rcases (show x<=0∨0<=x by omega) with h|h
 ·have:=Z_ (show 0<=-x by omega) (show 0<=-x by omega);rwa [Int.neg_mul_neg] at this
 ·exact Z_ h h
theorem Qv (hP:gQ n G) (hG:∀ i j,G i j=G j i) {i j:Nat} (hi:i<n) (hj:j<n):-(G i i+G j j)<=2*G i j∧2*G i j<=G i i+G j j:=by
 by_cases hij:i=j
 ·subst hij;have:=WB hP (abo i) hi;rw [pz hi hi] at this;omega
 ·have key:∀ t:Int,t≠0->0<G i i+t*G i j+t*(G j i+t*G j j):=λt ht=>by
   have h:=hP (λa=>if a=i then 1 else if a=j then t else 0) ⟨i,hi,by rw [h_ rfl];decide⟩;rw [JS i j hi hj hij λa _ h1 h2=>by rw [g_ h1,g_ h2,aa_]] at h;have r:∀ a,sm n (λb=>G a b*(if b=i then 1 else if b=j then t else 0))=G a i+t*G a j:=λa=>by
    rw [JS i j hi hj hij λb _ h1 h2=>by rw [g_ h1,g_ h2,Y_]];rw [h_ rfl,g_ (λe=>hij e.symm),h_ rfl,adr,u_]
   rw [r i,r j,h_ rfl,g_ (λe=>hij e.symm),h_ rfl,aaY] at h;exact h
  have h1:=key 1 (by decide);have h2:=key (-1) (by decide);rw [hG j i] at h1 h2;omega
end
def pt (x:Nat->Int) (k:Nat):Int:=if k=0 then 1 else x (k - 1)
theorem kT (n:Nat) (s x:Nat->Int):ev n s (pt x)=s 0+sm n (λi=>s (i+1)*x i):=by
 unfold ev;rw [yI];have e:pt x 0=1:=h_ rfl;rw [e,adr];congr 1
theorem iK {n:Nat} {s x y:Nat->Int} (h:∀ i,i<n->x i=y i):ev n s (pt x)=ev n s (pt y):=by
 rw [kT,kT,aC λi hi=>by rw [h i hi]]
structure mQ where
 size:Nat
 zero:List (Nat->Int)
 least:List (Nat->Int)
 told:List (Nat->Int)
structure mQ.Has (r:mQ) (x:Nat->Int):Prop where
 zero:∀ s∈r.zero,ev r.size s (pt x)=0
 least:∀ s∈r.least,0<=ev r.size s (pt x)
def mQ.fD (r:mQ) (x:Nat->Int):List Int:=r.told.map λs=>ev r.size s (pt x)
def mQ.kW (r:mQ) (L:List Int):Prop:=∃ x,r.Has x∧r.fD x=L
def qg (n:Nat) (St:Nat->Nat->Int) (s:Nat->Int) (k:Nat):Int:=if k=0 then s 0 else sm n (λi=>s (i+1)*St (k - 1) i)
theorem pI (n:Nat) (St:Nat->Nat->Int) (s y:Nat->Int):ev n (qg n St s) (pt y)=ev n s (pt (comb n St y)):=by
 rw [kT,kT];have e0:qg n St s 0=s 0:=h_ rfl;rw [e0];congr 1;have e1:sm n (λi=>s (i+1)*comb n St y i)=sm n (λi=>sm n (λj=>s (i+1)*(y j*St j i))):=aC λi _=>by unfold comb;rw [<-dA]
 rw [e1,oW];refine aC λj _=>?_;unfold qg;rw [g_ (by omega),u_,<-dA];refine aC λi _=>?_;rw [show j+1 - 1=j by omega,r_]
def mQ.uJ (r:mQ) (St:Nat->Nat->Int):mQ:=⟨r.size,r.zero.map (qg r.size St),r.least.map (qg r.size St),r.told.map (qg r.size St)⟩
theorem mQ.zg (r:mQ) (St:Nat->Nat->Int) (y:Nat->Int):(r.uJ St).Has y↔r.Has (comb r.size St y):=by
 constructor
 ·intro h;refine ⟨λs hs=>?_,λs hs=>?_⟩
  ·rw [<-pI];exact h.zero _ (m_.2 ⟨s,hs,rfl⟩)
  ·rw [<-pI];exact h.least _ (m_.2 ⟨s,hs,rfl⟩)
 ·intro h;refine ⟨λs hs=>?_,λs hs=>?_⟩
  ·obtain ⟨s',hs',rfl⟩:=m_.1 hs;show ev r.size _ _=0;rw [pI];exact h.zero s' hs'
  ·obtain ⟨s',hs',rfl⟩:=m_.1 hs;show 0<=ev r.size _ _;rw [pI];exact h.least s' hs'
theorem mQ.ug (r:mQ) (St:Nat->Nat->Int) (y:Nat->Int):(r.uJ St).fD y=r.fD (comb r.size St y):=by
 unfold mQ.fD mQ.uJ;rw [ab7];refine abr λs _=>?_;exact pI r.size St s y
theorem mQ.zV {r:mQ} {x y:Nat->Int} (h:∀ i,i<r.size->x i=y i):r.Has x↔r.Has y :=
 ⟨λa=>⟨λs hs=>by rw [<-iK h];exact a.zero s hs,λs hs=>by rw [<-iK h];exact a.least s hs⟩,
  λa=>⟨λs hs=>by rw [iK h];exact a.zero s hs,λs hs=>by rw [iK h];exact a.least s hs⟩⟩
theorem mQ.vH {r:mQ} {x y:Nat->Int} (h:∀ i,i<r.size->x i=y i):r.fD x=r.fD y:=by
 unfold mQ.fD;exact abr λs _=>iK h
theorem mQ.P6 {r:mQ} {St:Nat->Nat->Int} (hU:Em r.size St) (L:List Int):(r.uJ St).kW L↔r.kW L:=by
 constructor
 ·rintro ⟨y,h1,h2⟩;exact ⟨comb r.size St y,(r.zg St y).1 h1,by rw [<-r.ug];exact h2⟩
 ·rintro ⟨x,h1,h2⟩;obtain ⟨y,hy⟩:=hU.reach x;exact ⟨y,(r.zg St y).2 ((mQ.zV hy).1 h1),by rw [r.ug,<-mQ.vH hy];exact h2⟩
theorem Rh (f:Nat->Int) (t:Nat):∀ m,t<=m->sm (m+1) f=f t+sm m (λi=>f (if i<t then i else i+1))
 | 0,h=>by have:t=0:=(by omega);subst this;simp [sm]
 | m+1,h=>by
  by_cases ht:t=m+1
  ·subst ht;rw [sm,aC (f:=f) (g:=λi=>f (if i<m+1 then i else i+1)) λi hi=>by rw [h_ hi]];omega
  ·rw [sm,Rh f t m (by omega),sm,g_ (by omega)];omega
def qz (t:Nat) (v:Int) (s:Nat->Int) (k:Nat):Int:=if k=0 then s 0+s (t+1)*v else if k<=t then s k else s (k+1)
def ins (t:Nat) (v:Int) (x:Nat->Int) (i:Nat):Int:=if i<t then x i else if i=t then v else x (i - 1)
theorem Ri {m t:Nat} (ht:t<=m) (v:Int) (s x:Nat->Int):ev m (qz t v s) (pt x)=ev (m+1) s (pt (ins t v x)):=by
 rw [kT,kT,Rh _ t m ht];have e0:qz t v s 0=s 0+s (t+1)*v:=h_ rfl;have e1:ins t v x t=v:=by unfold ins;rw [g_ (by omega),h_ rfl]
 rw [e0,e1,aC (f:=λi=>qz t v s (i+1)*x i) (g:=λi=>s ((if i<t then i else i+1)+1)*ins t v x (if i<t then i else i+1)) λi hi=>?_]
 ·omega
 ·unfold qz ins;rw [g_ (by omega)];by_cases h:i<t
  ·rw [h_ (by omega),h_ h,h_ h]
  ·rw [g_ (by omega),g_ h,g_ (by omega),g_ (by omega)]
   rfl
def mQ.fix (r:mQ) (t:Nat) (v:Int):mQ:=⟨r.size - 1,r.zero.map (qz t v),r.least.map (qz t v),r.told.map (qz t v)⟩
theorem L6 {t:Nat} {v:Int} {x:Nat->Int} (h:x t=v):∀ i,ins t v (λi=>if i<t then x i else x (i+1)) i=x i:=by
 intro i;unfold ins
 dsimp only
 by_cases h1:i<t
 ·rw [h_ h1,h_ h1]
 ·rw [g_ h1];by_cases h2:i=t
  ·rw [h_ h2,h2,h]
  ·rw [g_ h2,g_ (by omega),show i - 1+1=i by omega]
theorem mQ.Bi {r:mQ} {t:Nat} (ht:t<r.size) (v:Int) (L:List Int):(r.fix t v).kW L↔∃ x,r.Has x∧r.fD x=L∧x t=v:=by
 obtain ⟨m,hm⟩:∃ m,r.size=m+1:=⟨r.size - 1,by omega⟩;have key:∀ s x,ev (r.size - 1) (qz t v s) (pt x)=ev r.size s (pt (ins t v x)):=λs x=>by
  rw [hm];exact Ri (by omega) v s x
 have hh:∀ x,(r.fix t v).Has x↔r.Has (ins t v x):=λx=>by
  constructor
  ·intro h;exact ⟨λs hs=>by rw [<-key];exact h.zero _ (m_.2 ⟨s,hs,rfl⟩),λs hs=>by rw [<-key];exact h.least _ (m_.2 ⟨s,hs,rfl⟩)⟩
  ·intro h;refine ⟨λs hs=>?_,λs hs=>?_⟩
   ·obtain ⟨s',hs',rfl⟩:=m_.1 hs;show ev (r.size - 1) _ _=0;rw [key];exact h.zero s' hs'
   ·obtain ⟨s',hs',rfl⟩:=m_.1 hs;show 0<=ev (r.size - 1) _ _;rw [key];exact h.least s' hs'
 have ht2:∀ x,(r.fix t v).fD x=r.fD (ins t v x):=λx=>by
  unfold mQ.fD mQ.fix;rw [ab7];exact abr λs _=>key s x
 constructor
 ·rintro ⟨x,h1,h2⟩;exact ⟨ins t v x,(hh x).1 h1,by rw [<-ht2];exact h2,by unfold ins;rw [g_ (by omega),h_ rfl]⟩
 ·rintro ⟨x,h1,h2,h3⟩;refine ⟨λi=>if i<t then x i else x (i+1),(hh _).2 ((mQ.zV λi _=>(L6 h3 i).symm).1 h1),?_⟩;rw [ht2,mQ.vH λi _=>L6 h3 i];exact h2
theorem Iy {n:Nat} {g:Int} (hg:0<g) {s q:Nat->Int} (h0:q 0=Int.fdiv (s 0) g) (hq:∀ i,i<n->s (i+1)=g*q (i+1)) (x:Nat->Int):0<=ev n q (pt x)↔0<=ev n s (pt x):=by
 have e:sm n (λi=>s (i+1)*x i)=g*sm n (λi=>q (i+1)*x i):=by
  rw [<-dA];exact aC λi hi=>by rw [hq i hi,y_]
 rw [kT,kT,h0,e,T_ _ (by omega)];clear e;have d1:=aaz (s 0) g;have d2:=abh (s 0) (show g≠0 by omega);have d3:=abj (s 0) hg;generalize s 0/g=a at *
 generalize s 0%g=b at *
 generalize sm n (λi=>q (i+1)*x i)=c at *
 constructor
 ·intro h;have:=Z_ (show 0<=g by omega) h;rw [R_] at this;omega
 ·intro h;apply v_;intro hc;have:g*(a+c)<=g*(-1):=o_ (by omega) (by omega);rw [R_] at this;omega
def dir (n:Nat) (s D:Nat->Int):Int:=sm n (λi=>s (i+1)*D i)
theorem El {n:Nat} {s D E:Nat->Int} (h:∀ i,i<n->D i=E i):dir n s D=dir n s E:=aC λi hi=>by rw [h i hi]
theorem yC (n:Nat) (St:Nat->Nat->Int) (s y:Nat->Int):dir n (qg n St s) y=dir n s (comb n St y):=by
 have h1:=pI n St s y;rw [kT,kT] at h1;have e0:qg n St s 0=s 0:=h_ rfl;unfold dir;omega
theorem TT {m t:Nat} (ht:t<=m) (v:Int) (s D:Nat->Int):dir m (qz t v s) D=dir (m+1) s (ins t 0 D):=by
 have h1:=Ri ht 0 s D;rw [kT,kT] at h1;have e0:qz t 0 s 0=s 0+s (t+1)*0:=h_ rfl;have e1:sm m (λi=>qz t 0 s (i+1)*D i)=dir m (qz t v s) D:=aC λi _=>by
  have h2:qz t 0 s (i+1)=qz t v s (i+1):=by
   unfold qz;rw [g_ (show ¬ i+1=0 by omega),g_ (show ¬ i+1=0 by omega)]
  rw [h2]
 rw [e0,Y_,e1] at h1;unfold dir at *
 omega
def mQ.gM (r:mQ):Prop:=∀ D:Nat->Int,(∀ s∈r.zero,dir r.size s D=0)->(∀ s∈r.least,0<=dir r.size s D)->∀ i,i<r.size->D i=0
theorem mQ.gM.uJ {r:mQ} (h:r.gM) {St:Nat->Nat->Int} (hU:Em r.size St):(r.uJ St).gM:=by
 intro D h1 h2;refine hU.once D (h (comb r.size St D) (λs hs=>?_) (λs hs=>?_))
 ·rw [<-yC];exact h1 _ (m_.2 ⟨s,hs,rfl⟩)
 ·rw [<-yC];exact h2 _ (m_.2 ⟨s,hs,rfl⟩)
theorem mQ.gM.fix {r:mQ} (h:r.gM) {t:Nat} (ht:t<r.size) (v:Int):(r.fix t v).gM:=by
 obtain ⟨m,hm⟩:∃ m,r.size=m+1:=⟨r.size - 1,by omega⟩;have key:∀ s D,dir (r.size - 1) (qz t v s) D=dir r.size s (ins t 0 D):=λs D=>by rw [hm];exact TT (by omega) v s D
 intro D h1 h2 i hi;have hi':i<r.size - 1:=hi;have h3:=h (ins t 0 D) (λs hs=>by rw [<-key];exact h1 _ (m_.2 ⟨s,hs,rfl⟩)) (λs hs=>by rw [<-key];exact h2 _ (m_.2 ⟨s,hs,rfl⟩));by_cases hlt:i<t
 ·have:=h3 i (by omega);unfold ins at this;rwa [h_ hlt] at this
 ·have:=h3 (i+1) (by omega);unfold ins at this;rwa [g_ (by omega),g_ (by omega),show i+1 - 1=i by omega] at this
theorem mQ.gM.more {r r':mQ} (h:r.gM) (hs:r'.size=r.size) (hz:∀ s∈r.zero,s∈r'.zero) (hl:∀ s∈r.least,s∈r'.least):r'.gM:=by
 intro D h1 h2 i hi;rw [hs] at h1 h2 hi;exact h D (λs h3=>h1 s (hz s h3)) (λs h3=>h2 s (hl s h3)) i hi
theorem CZ {n t:Nat} {St:Nat->Nat->Int} {s:Nat->Int} {f:Int} (ht:t<n) (hs:∀ j,j<n->qg n St s (j+1)=if j=t then f else 0) (y:Nat->Int):ev n s (pt (comb n St y))=s 0+f*y t:=by
 rw [<-pI,kT];have e0:qg n St s 0=s 0:=h_ rfl;rw [e0,iM t ht λj hj hjt=>by rw [hs j hj,g_ hjt,aa_],hs t ht,h_ rfl]
theorem Iz {r:mQ} {s:Nat->Int} {St:Nat->Nat->Int} {t:Nat} {f v:Int} (hU:Em r.size St) (ht:t<r.size) (hf:f≠0) (hs:∀ j,j<r.size->qg r.size St s (j+1)=if j=t then f else 0) (hv:s 0+f*v=0) (L:List Int) :
  ((r.uJ St).fix t v).kW L↔∃ x,r.Has x∧r.fD x=L∧ev r.size s (pt x)=0:=by
 rw [mQ.Bi (r:=r.uJ St) ht v L];constructor
 ·rintro ⟨y,h1,h2,h3⟩;refine ⟨comb r.size St y,(r.zg St y).1 h1,by rw [<-r.ug];exact h2,?_⟩;rw [CZ ht hs,h3];exact hv
 ·rintro ⟨x,h1,h2,h3⟩;obtain ⟨y,hy⟩:=hU.reach x;refine ⟨y,(r.zg St y).2 ((mQ.zV hy).1 h1),by rw [r.ug,<-mQ.vH hy];exact h2,?_⟩;rw [iK hy,CZ ht hs] at h3;refine abJ hf ?_;omega
theorem F3 {n t:Nat} {s:Nat->Int} {St:Nat->Nat->Int} {f:Int} (hU:Em n St) (ht:t<n) (hf:f≠0) (hs:∀ j,j<n->qg n St s (j+1)=if j=t then f else 0) (hv:s 0+f*Int.fdiv (-s 0) f≠0) (x:Nat->Int):ev n s (pt x)≠0:=by
 intro h;obtain ⟨y,hy⟩:=hU.reach x;rw [iK hy,CZ ht hs] at h;have e:-s 0=y t*f:=by rw [u_];omega
 rw [e,Int.mul_fdiv_cancel _ hf] at hv;omega
theorem zh {n:Nat} {s:Nat->Int} (h:∀ i,i<n->s (i+1)=0) (x:Nat->Int):ev n s (pt x)=s 0:=by
 rw [kT,kF λi hi=>by rw [h i hi,aa_]];omega
theorem KQ (n:Nat) (s P Q:Nat->Int) (a b:Int):ev n s (λk=>a*P k+b*Q k)=a*ev n s P+b*ev n s Q:=by
 unfold ev;rw [<-dA,<-dA,<-zD];refine aC λk _=>?_;rw [R_,r_,r_ (s k) b]
theorem Ol {n:Nat} {others:List (Nat->Int)} {s:Nat->Int} (h:∀ P:Nat->Int,0<P 0->(∀ u∈others,0<=ev n u P)->0<=ev n s P->0<ev n s P)
  {Q:Nat->Int} (q0:0<Q 0) (q1:∀ u∈others,0<=ev n u Q) (q2:0<=ev n s Q):∀ P:Nat->Int,0<=P 0->(∀ u∈others,0<=ev n u P)->0<=ev n s P∧(0<P 0->0<ev n s P):=by
 intro P p0 p1;have hq:=h Q q0 q1 q2;have main:0<=ev n s P:=by
  apply v_;intro hc;have h0:0<(ev n s Q)*P 0+(-ev n s P)*Q 0:=by
   have:=Z_ (show 0<=ev n s Q by omega) p0;have:=adO (show 0 < -ev n s P by omega) q0;omega
  have hR:=h (λk=>(ev n s Q)*P k+(-ev n s P)*Q k) h0 (λu hu=>by
   rw [KQ];have:=Z_ (show 0<=ev n s Q by omega) (p1 u hu);have:=Z_ (show 0<=-ev n s P by omega) (q1 u hu);omega) (by rw [KQ,abe,u_ (ev n s Q)];omega)
  rw [KQ,abe,u_ (ev n s Q)] at hR;omega
 exact ⟨main,λhp=>h P hp p1 main⟩
section
variable {n m:Nat} {S:Nat->Nat->Int} {F:Int->Nat->Int} {t:aR}
theorem Gf {x:Int} (h:x∈gX n m) (h0:0<=x):∃ i:Nat,i<m∧x=i:=by
 rcases F_.1 h with h|h
 ·obtain ⟨i,hi,e⟩:=m_.1 h;exact ⟨i,W_.1 hi,e.symm⟩
 ·obtain ⟨j,_,e⟩:=m_.1 h;omega
def oo (n m:Nat) (S:Nat->Nat->Int) (P:Nat->Int):Prop:=∀ i,i<m->0<=ev n (S i) P
theorem vN {U:List Int} (hU:∀ x∈U,0<=x->∃ i:Nat,i<m∧x=i) (hF:∀ i:Nat,i<m->F i=S i) (hst:Stat U n t) (wL:∀ c,c<n->0<=t.fu c) {P:Nat->Int} (hP:oo n m S P):∀ c,c<n->0<=ev n (F (t.fu c)) P:=by
 intro c hc;obtain ⟨i,hi,e⟩:=hU _ (hst.aS _ ⟨c,hc,rfl⟩) (wL c hc);rw [e,hF i hi];exact hP i hi
theorem QF {U:List Int} (hU:∀ x∈U,0<=x->∃ i:Nat,i<m∧x=i) (hF:∀ i:Nat,i<m->F i=S i) (h:bN F n t) (hst:Stat U n t) (wL:∀ c,c<n->0<=t.fu c) {r:Nat} (hr:r<t.lines.length) (hn:0<=t.name r) (h0:t.cell r 0<0) (hc:∀ c,c<n->t.cell r (c+1)<=0) (x:Nat->Int):¬ oo n m S (pt x):=by
 intro hP;have h1:=h.none hr h0 hc (P:=pt x) (by show 0<pt x 0;unfold pt;rw [h_ rfl];decide) (vN hU hF hst wL hP);obtain ⟨i,hi,e⟩:=hU _ (hst.lines _ ⟨r,hr,rfl⟩) hn;rw [e,hF i hi] at h1;have:=hP i hi;omega
theorem NR {U:List Int} (hU:∀ x∈U,0<=x->∃ i:Nat,i<m∧x=i) (hF:∀ i:Nat,i<m->F i=S i) (h:bN F n t) (hst:Stat U n t) (wL:∀ c,c<n->0<=t.fu c) {wr:Nat} (hr:wr<t.lines.length) (hc:∀ c,c<n->t.cell wr (c+1)<=0) {x:Nat->Int} (hP:oo n m S (pt x)):ev n (F (t.name wr)) (pt x)<=Int.fdiv (t.cell wr 0) t.scale :=
 h.OJ hr hc (by unfold pt;rw [h_ rfl]) (vN hU hF hst wL hP)
theorem OL {U:List Int} (hU:∀ x∈U,0<=x->∃ i:Nat,i<m∧x=i) (hF:∀ i:Nat,i<m->F i=S i) (h:bN F n t) (hst:Stat U n t) (wL:∀ c,c<n->0<=t.fu c) {wr:Nat} (hr:wr<t.lines.length) (hc:∀ c,c<n->t.cell wr (c+1)<=0) (hlow:Int.fdiv (t.cell wr 0) t.scale<0) {P:Nat->Int} (p0:0<P 0) (hP:oo n m S P):ev n (F (t.name wr)) P<0:=by
 have h1:=h.top hr hc (vN hU hF hst wL hP);have hs:=h.pos;have hneg:t.cell wr 0<0:=by
  apply v_;intro hc2;rw [T_ _ (by omega)] at hlow;have:=abO (show 0<=t.cell wr 0 by omega) (show 0<=t.scale by omega);omega
 have h2:=adg hneg p0;apply v_;intro hc3;have:=Z_ (show 0<=t.scale by omega) (show 0<=ev n (F (t.name wr)) P by omega);omega
end
def aR.part (t:aR) (r c:Nat) (sg:Int) (j:Nat):aR:={ t with lines:=t.lines.mapIdx λi l=>if i<j∧i≠r then (l.1,t.told i r c sg) else l }
theorem N7 (t:aR) (r c:Nat) (sg:Int):t.part r c sg 0=t:=by
 unfold aR.part;have:(t.lines.mapIdx λi l=>if i<0∧i≠r then (l.1,t.told i r c sg) else l)=t.lines:=by
  apply List.ext_getElem?;intro i;rw [abH];cases t.lines[i]? <;> simp
 rw [this]
theorem eF (t:aR) (r c:Nat) (sg:Int) (j:Nat):(t.part r c sg j).lines.length=t.lines.length:=by simp [aR.part]
theorem qw (t:aR) (r c:Nat) (sg:Int) (j:Nat) {i:Nat} (hi:i<t.lines.length):(t.part r c sg j).lines[i]'(by rw [eF];exact hi)=if i<j∧i≠r then (t.lines[i].1,t.told i r c sg) else t.lines[i]:=by
 simp [aR.part]
theorem OM (t:aR) (r c:Nat) (sg:Int) (j:Nat) {i:Nat} (hi:j<=i∨i=r):(t.part r c sg j).lines.getD i (0,[])=t.lines.getD i (0,[]):=by
 unfold aR.part;simp only;rw [a_,a_,abH];cases h:t.lines[i]? with
 | none=>rfl
 | some l =>
  simp only [Option.map_some,Option.getD_some];rw [g_ (by omega)]
theorem su (t:aR) (r c:Nat) (sg:Int) (j:Nat) {i:Nat} (hi:j<=i∨i=r) (k:Nat):(t.part r c sg j).cell i k=t.cell i k:=by
 unfold aR.cell;rw [OM t r c sg j hi]
theorem Oa (t:aR) (r c:Nat) (sg:Int) (j:Nat):(t.part r c sg j).told j r c sg=t.told j r c sg:=by
 unfold aR.told;have h1:=su t r c sg j (i:=j) (.inl (d_ _));have h2:=su t r c sg j (i:=r) (.inr rfl);simp only [h1,h2]
 rfl
theorem Il (t:aR) (r c:Nat) (sg:Int) (j:Nat):(t.part r c sg j).bL r c sg=t.bL r c sg:=by
 unfold aR.bL;have h2:=su t r c sg j (i:=r) (.inr rfl);simp only [h2]
 rfl
theorem Ob (t:aR) (r c:Nat) (sg:Int) {j:Nat} (hj:j<t.lines.length) (hjr:j≠r) :
  t.part r c sg (j+1)={ t.part r c sg j with lines:=(t.part r c sg j).lines.set j (((t.part r c sg j).lines[j]'(by rw [eF];exact hj)).1,t.told j r c sg) }:=by
 have:(t.part r c sg (j+1)).lines=(t.part r c sg j).lines.set j (((t.part r c sg j).lines[j]'(by rw [eF];exact hj)).1,t.told j r c sg):=by
  apply abU
  ·rw [eF,abM,eF]
  ·intro i h1 h2;rw [eF] at h1;rw [qw t r c sg _ h1,List.getElem_set];by_cases e:j=i
   ·subst e;rw [h_ ⟨by omega,hjr⟩,h_ rfl,qw t r c sg _ hj,g_ (by omega)]
   ·rw [g_ e,qw t r c sg _ h1];by_cases h:i<j∧i≠r
    ·rw [h_ h,h_ ⟨by omega,h.2⟩]
    ·rw [g_ h,g_ (by omega)]
 show ({ lines:=(t.part r c sg (j+1)).lines,aS:=t.aS,scale:=t.scale }:aR)=_;rw [this]
 rfl
theorem N8 (t:aR) (r c:Nat) (sg:Int):t.part r c sg (r+1)=t.part r c sg r:=by
 have:(t.part r c sg (r+1)).lines=(t.part r c sg r).lines:=by
  apply abU
  ·rw [eF,eF]
  ·intro i h1 h2;rw [eF] at h1;rw [qw t r c sg _ h1,qw t r c sg _ h1];by_cases h:i<r∧i≠r
   ·rw [h_ h,h_ ⟨by omega,h.2⟩]
   ·rw [g_ h,g_ (by omega)]
 show ({ lines:=(t.part r c sg (r+1)).lines,aS:=t.aS,scale:=t.scale }:aR)=_;rw [this]
 rfl
theorem RN (t:aR) (r c:Nat) {i:Nat} (hi:i<t.lines.length):(t.swap r c).lines[i]'(by rw [aR.iI];exact hi)=if i=r then (t.fu c,t.bL r (c+1) (Int.sign (t.cell r (c+1)))) else (t.lines[i].1,t.told i r (c+1) (Int.sign (t.cell r (c+1)))):=by
 simp [aR.swap]
theorem Oc (t:aR) {r c:Nat} (hr:r<t.lines.length) :
  ({ lines:=(t.part r (c+1) (Int.sign (t.cell r (c+1))) t.lines.length).lines.set r (t.fu c,t.bL r (c+1) (Int.sign (t.cell r (c+1)))),aS:=t.aS.set c (t.name r),scale:=(t.cell r (c+1)).natAbs }:aR)=t.swap r c:=by
 have:(t.part r (c+1) (Int.sign (t.cell r (c+1))) t.lines.length).lines.set r (t.fu c,t.bL r (c+1) (Int.sign (t.cell r (c+1))))=(t.swap r c).lines:=by
  apply abU
  ·rw [abM,eF,aR.iI]
  ·intro i h1 h2;rw [abM,eF] at h1;rw [List.getElem_set,RN t r c h1];by_cases e:r=i
   ·subst e;rw [h_ rfl,h_ rfl]
   ·rw [g_ e,g_ (abf e),qw _ _ _ _ _ h1,h_ ⟨h1,abf e⟩]
 rw [this]
 rfl
def Sl (t:aR) (c k:Nat):Prop:=0<=t.name k∧t.cell k (c+1)<0
def IY (t:aR) (c r k:Nat):Prop:=t.cell r 0*(-t.cell k (c+1))<=t.cell k 0*(-t.cell r (c+1))∧(t.cell r 0*(-t.cell k (c+1))=t.cell k 0*(-t.cell r (c+1))->t.name r<=t.name k)
def qE (t:aR) (c j:Nat) (x:Int):Prop:=(x=-1∧∀ k,k<j->¬ Sl t c k)∨∃ k:Nat,k<j∧x=k∧Sl t c k∧∀ k',k'<j->Sl t c k'->IY t c k k'
theorem IY.refl (t:aR) (c r:Nat):IY t c r r:=⟨abk _,λ_=>abk _⟩
theorem IY.trans {t:aR} {c a b d:Nat} (ha:Sl t c a) (hb:Sl t c b) (hd:Sl t c d) (h1:IY t c a b) (h2:IY t c b d):IY t c a d:=by
 have pa:0 < -t.cell a (c+1):=by have:=ha.2;omega
 have pb:0 < -t.cell b (c+1):=by have:=hb.2;omega
 have pd:0 < -t.cell d (c+1):=by have:=hd.2;omega
 unfold IY;obtain ⟨h11,h12⟩:=h1;obtain ⟨h21,h22⟩:=h2;generalize -t.cell a (c+1)=A at *
 generalize -t.cell b (c+1)=B at *
 generalize -t.cell d (c+1)=D at *
 generalize t.cell a 0=x at *
 generalize t.cell b 0=y at *
 generalize t.cell d 0=z at *
 have k1:x*B*D<=y*A*D:=A_ h11 (by omega);have k2:y*D*A<=z*B*A:=A_ h21 (by omega);have e1:y*A*D=y*D*A:=adH y A D;have e2:x*B*D=x*D*B:=adH x B D;have e3:z*B*A=z*A*B:=adH z B A;have k0:x*D*B<=z*A*B:=by rw [<-e2,<-e3];exact acW k1 (by rw [e1];exact k2)
 refine ⟨Int.le_of_mul_le_mul_right k0 pb,λe=>?_⟩;have k3:x*D*B=z*A*B:=by rw [e]
 have k4:y*A*D<=x*B*D:=by rw [e1,e2,k3,<-e3];exact k2
 have k5:z*B*A<=y*D*A:=by rw [e3,<-k3,<-e2,<-e1];exact k1
 have f1:x*B=y*A:=Int.eq_of_mul_eq_mul_right (by omega) (Int.le_antisymm k1 k4);have f2:y*D=z*B:=Int.eq_of_mul_eq_mul_right (by omega) (Int.le_antisymm k2 k5);exact acW (h12 f1) (h22 f2)
theorem qE.skip {t:aR} {c j:Nat} {x:Int} (h:qE t c j x) (hn:¬ Sl t c j):qE t c (j+1) x:=by
 rcases h with ⟨h1,h2⟩|⟨k,h1,h2,h3,h4⟩
 ·exact .inl ⟨h1,λk hk=>by rcases (show k<j∨k=j by omega) with h | h;exact h2 k h;rw [h];exact hn⟩
 ·exact .inr ⟨k,by omega,h2,h3,λk' hk' hu=>by rcases (show k'<j∨k'=j by omega) with h | h;exact h4 k' h hu;rw [h] at hu;exact absurd hu hn⟩
theorem qE.first {t:aR} {c j:Nat} (h:qE t c j (-1)) (hu:Sl t c j):qE t c (j+1) j:=by
 rcases h with ⟨_,h2⟩|⟨k,h1,h2,_⟩
 ·refine .inr ⟨j,by omega,rfl,hu,λk' hk' hu'=>?_⟩;rcases (show k'<j∨k'=j by omega) with h|h
  ·exact absurd hu' (h2 k' h)
  ·rw [h];exact IY.refl _ _ _
 ·omega
theorem qE.stay {t:aR} {c j k:Nat} (h:qE t c j k) (hle:IY t c k j):qE t c (j+1) k:=by
 rcases h with ⟨h1,_⟩|⟨k2,h1,h2,h3,h4⟩
 ·omega
 ·have e:k2=k:=by omega
  subst e;exact .inr ⟨k2,by omega,h2,h3,λk' hk' hu=>by rcases (show k'<j∨k'=j by omega) with h | h;exact h4 k' h hu;rw [h];exact hle⟩
theorem qE.take {t:aR} {c j k:Nat} (h:qE t c j k) (hu:Sl t c j) (hle:IY t c j k):qE t c (j+1) j:=by
 rcases h with ⟨h1,_⟩|⟨k2,h1,h2,h3,h4⟩
 ·omega
 ·have e:k2=k:=by omega
  subst e;refine .inr ⟨j,by omega,rfl,hu,λk' hk' hu'=>?_⟩;rcases (show k'<j∨k'=j by omega) with h|h
  ·exact IY.trans hu h3 hu' hle (h4 k' h hu')
  ·rw [h];exact IY.refl _ _ _
theorem AV {t:aR} {c j k:Nat} (h:t.cell k 0*t.cell j (c+1) - t.cell j 0*t.cell k (c+1)<0∨(t.cell k 0*t.cell j (c+1) - t.cell j 0*t.cell k (c+1)=0∧t.name j<=t.name k)):IY t c j k:=by
 unfold IY;rw [ab5,ab5];omega
theorem zq {t:aR} {c j k:Nat} (h:0<t.cell k 0*t.cell j (c+1) - t.cell j 0*t.cell k (c+1)∨(t.cell k 0*t.cell j (c+1) - t.cell j 0*t.cell k (c+1)=0∧t.name k<=t.name j)):IY t c k j:=by
 unfold IY;rw [ab5,ab5];omega
section
variable {F:Int->Nat->Int} {n:Nat} {t:aR}
def CG (F:Int->Nat->Int) (n:Nat) (U:List Int):Prop:=∀ D:Nat->Int,D 0=0->(∀ x∈U,0<=x->0<=ev n (F x) D)->∀ k,k<n+1->D k=0
theorem IQ {U:List Int} (h:bN F n t) {c:Nat} (hc:c<n) (hst:∀ x∈U,0<=x->dH n t x∨nJ t x) (hl:∀ k,k<t.lines.length->0<=t.name k->0<=t.cell k (c+1)) (hT:CG F n U):False:=by
 obtain ⟨D,d1,d2⟩:=h.wT (c+1) (by omega);have d0:D 0=0:=by
  have:=d1 0 (by omega);rw [jK,kJ n D 0 (by omega),g_ (by omega)] at this;exact this
 have hs:=h.pos;have hz:=hT D d0 (λx hx h0=>by
  rcases hst x hx h0 with ⟨c2,hc2,e⟩|⟨r,hr,e⟩
  ·have:=d1 (c2+1) (by omega);rw [gB,e] at this;rw [this];split <;> omega
  ·have:=d2 r hr;rw [e] at this;rw [this];exact hl r hr (by rw [e];omega))
 have h1:=d1 (c+1) (by omega);rw [h_ rfl,Mo hz] at h1;omega
end
section
variable {n m:Nat} {S:Nat->Nat->Int} {F:Int->Nat->Int} {t:aR}
def Ba (n m:Nat) (S:Nat->Nat->Int) (D:List Nat):Prop:=∀ P:Nat->Int,0<=P 0->(∀ j,j<m->j ∉ D->0<=ev n (S j) P)->oo n m S P
theorem Ba.start (n m:Nat) (S:Nat->Nat->Int):Ba n m S []:=λP _ h j hj=>h j hj (by simp)
def dK (n m:Nat) (D:List Nat) (U:List Int):Prop:=∀ x,x∈U↔x∈gX n m∧∀ j∈D,x≠(j:Int)
theorem dK.start (n m:Nat):dK n m [] (gX n m):=λx=>by simp
theorem dK.drop {D:List Nat} {U:List Int} (h:dK n m D U) (i:Nat):dK n m (i::D) (U.filter λx=>x != (i:Int)):=λx=>by
 rw [abg,h x];constructor
 ·rintro ⟨⟨h1,h2⟩,h3⟩;refine ⟨h1,λj hj=>?_⟩;rcases abp.1 hj with e|hj
  ·rw [e];simpa using h3
  ·exact h2 j hj
 ·rintro ⟨h1,h2⟩;exact ⟨⟨h1,λj hj=>h2 j (abl _ hj)⟩,by simpa using h2 i ab2⟩
theorem dK.nat {D:List Nat} {U:List Int} (h:dK n m D U):∀ x∈U,0<=x->∃ i:Nat,i<m∧x=i:=λx hx h0=>Gf ((h x).1 hx).1 h0
theorem dK.mem {D:List Nat} {U:List Int} (h:dK n m D U) {j:Nat} (hj:j<m) (hD:j ∉ D):(j:Int)∈U:=by
 refine (h j).2 ⟨F_.2 (.inl (m_.2 ⟨j,W_.2 hj,rfl⟩)),λk hk e=>hD ?_⟩;have:j=k:=by omega
 rw [this];exact hk
theorem Ba.mO {D:List Nat} {U:List Int} (h:Ba n m S D) (hU:dK n m D U) (hF:∀ i:Nat,i<m->F i=S i) (hT:gM F n m):CG F n U:=by
 intro P p0 hx;refine hT P p0 λi hi=>?_;rw [hF i hi];refine h P (by omega) (λj hj hD=>?_) i hi;have:=hx (j:Int) (hU.mem hj hD) (by omega);rwa [hF j hj] at this
theorem Ba.Dl {D:List Nat} {U:List Int} (h:Ba n m S D) (hU:dK n m D U) (hF:∀ i:Nat,i<m->F i=S i) (ht:bN F n t) (hst:Stat U n t) (Dk:∀ k,k<t.lines.length->0<=t.name k->0<=t.cell k 0):∃ Q:Nat->Int,0<Q 0∧oo n m S Q∧∀ c,c<n->ev n (F (t.fu c)) Q=0:=by
 obtain ⟨Q,q1,q2⟩:=ht.wT 0 (by omega);have q0:Q 0=t.scale:=by
  have:=q1 0 (by omega);rw [jK,kJ n Q 0 (by omega),h_ rfl] at this;exact this
 have qc:∀ c,c<n->ev n (F (t.fu c)) Q=0:=λc hc=>by
  have:=q1 (c+1) (by omega);rw [gB,g_ (by omega)] at this;exact this
 have hp:=ht.pos;refine ⟨Q,by rw [q0];exact hp,h Q (by rw [q0];omega) λi hi hD=>?_,qc⟩;rcases hst.all i (hU.mem hi hD) with ⟨c,hc,e⟩|⟨r,hr,e⟩
 ·have:=qc c hc;rw [e,hF i hi] at this;omega
 ·have:=q2 r hr;rw [e,hF i hi] at this;rw [this];exact Dk r hr (by rw [e];omega)
theorem Ba.drop {D:List Nat} (h:Ba n m S D) {i:Nat} (hi:i<m) {Q:Nat->Int} (q0:0<Q 0) (hQ:oo n m S Q) (hpos:∀ P:Nat->Int,0<P 0->oo n m S P->0<ev n (S i) P):Ba n m S (i::D):=by
 intro P p0 hP;have key:=Ol (n:=n) (others:=(List.range m).filterMap λj=>if j∈i::D then none else some (S j)) (s:=S i) (λP' p0' hP' hs=>?_) q0 (λu hu=>?_) (hQ i hi) P p0 (λu hu=>?_)
 ·refine h P p0 λj hj hD=>?_;by_cases e:j=i
  ·rw [e];exact key.1
  ·exact hP j hj (by rw [abp];rintro (e' | e');exact e e';exact hD e')
 ·refine hpos P' p0' (h P' (by omega) λj hj hD=>?_);by_cases e:j=i
  ·rw [e];exact hs
  ·exact hP' (S j) (List.mem_filterMap.2 ⟨j,W_.2 hj,by rw [g_ (by rw [abp];rintro (e' | e');exact e e';exact hD e')]⟩)
 ·obtain ⟨j,hj,e⟩:=List.mem_filterMap.1 hu
  split at e
  ·cases e
  ·cases e;exact hQ j (W_.1 hj)
 ·obtain ⟨j,hj,e⟩:=List.mem_filterMap.1 hu
  split at e
  ·cases e
  ·rename_i hn;cases e;exact hP j (W_.1 hj) hn
end
end Go.Proofs.YtfaljekgpnbmiaaGreat.Pl
