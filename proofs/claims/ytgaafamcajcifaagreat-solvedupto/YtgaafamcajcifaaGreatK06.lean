/- Joined: XLat3 XLat4 XLat5 XReg1 XReg2 XTab8 XTab9. -/
import Derived.Test.YtgaafamcajcifaaGreatK04
import Derived.Test.YtgaafamcajcifaaGreatK05
set_option linter.unusedVariables false
set_option linter.unusedSimpArgs false
set_option maxRecDepth 100000
namespace Go.Proofs.YtgaafamcajcifaaGreat.Pl
def sw (k a:Nat):Nat:=if a=k then k - 1 else if a=k - 1 then k else a
def zw (G:Nat->Nat->Int) (k:Nat):Nat->Nat->Int:=λa b=>G (sw k a) (sw k b)
theorem qN (k:Nat):sw k k=k - 1:=h_ rfl
theorem pz {k:Nat} (h:0<k):sw k (k - 1)=k:=by unfold sw;rw [g_ (by omega),h_ rfl]
theorem mo {k a:Nat} (h1:a≠k) (h2:a≠k - 1):sw k a=a:=by unfold sw;rw [g_ h1,g_ h2]
theorem Ao {k a n:Nat} (hk:k<n) (ha:a<n):sw k a<n:=by unfold sw;split <;> (try split) <;> omega
theorem Ub {k a l:Nat} (hk:0<k) (hl:l<k - 1) (ha:a≠l):sw k a≠l:=by unfold sw;split <;> (try split) <;> omega
theorem YP (a b b' c x y u v m:Int):(a*c - b'*b)*(a*m - x*u) - (a*y - x*b)*(a*v - b'*u)=a*(a*(c*m) - c*(x*u) - b'*(b*m) - a*(y*v)+b'*(y*u)+b*(x*v)):=by
 simp only [abh,aaI,Q_,y_,u_,r_];omega
theorem PN {s p q r w z g:Int} (h:p*g=q*r - w*z):(s*s)*(p*g)=(s*q)*(s*r) - (s*w)*(s*z):=by
 rw [h,aaI];simp only [y_,u_,r_]
section
variable {n:Nat} {G:Nat->Nat->Int}
theorem rV (hP:gN n G) {k:Nat} (hP':gN n (zw G k)) (hk:0<k) (hkn:k<n):∀ l,l<=k - 1 ->
  (∀ a b,l<=a->l<=b->a<n->b<n->gm n (zw G k) l a b=gm n G l (sw k a) (sw k b))∧gI n (zw G k) l=gI n G l
 | 0,_=>⟨λa b _ _ ha hb=>by rw [pg ha hb,pg (Ao hkn ha) (Ao hkn hb)];rfl,rfl⟩
 | l+1,hl=>by
  obtain ⟨i1,i2⟩:=rV hP hP' hk hkn l (by omega);have hll:sw k l=l:=mo (by omega) (by omega);refine ⟨λa b h1 h2 h3 h4=>?_,?_⟩
  ·refine kJ (kI hP (show l<=n by omega)) ?_;rw [(iH hP (by omega) (Ao hkn h3) (Ao hkn h4) (Ub hk (by omega) (by omega)) (Ub hk (by omega) (by omega))).2,<-i2,(iH hP' (by omega) h3 h4 (by omega) (by omega)).2,
    i1 l l (by omega) (by omega) (by omega) (by omega),i1 a b (by omega) (by omega) h3 h4,i1 a l (by omega) (by omega) h3 (by omega),i1 l b (by omega) (by omega) (by omega) h4,hll]
  ·rw [fq hP' (by omega),fq hP (by omega),i1 l l (by omega) (by omega) (by omega) (by omega),hll]
theorem Ex (hP:gN n G) {k:Nat} (hP':gN n (zw G k)) (hk:0<k) (hkn:k<n):gI n (zw G k) k=gm n G (k - 1) k k:=by
 have h:=(rV hP hP' hk hkn (k - 1) (d_ _)).1;have e:=fq hP' (show k - 1<n by omega);rw [show k - 1+1=k by omega] at e;rw [e,h (k - 1) (k - 1) (d_ _) (d_ _) (by omega) (by omega),pz hk]
theorem JY (hP:gN n G) {k:Nat} (hP':gN n (zw G k)) (hk:0<k) (hkn:k<n) {i j:Nat} (hi:k<i) (hj:k<j) (hin:i<n) (hjn:j<n) :
  gm n (zw G k) (k+1) i j=gm n G (k+1) i j:=by
 obtain ⟨h,hv⟩:=rV hP hP' hk hkn (k - 1) (d_ _);have hs:=kI hP (show k - 1<=n by omega);have va:=fq hP (show k - 1<n by omega);rw [show k - 1+1=k by omega] at va;have vc:=Ex hP hP' hk hkn;have hpa:=kI hP (show k<=n by omega);have hpc:=kI hP' (show k<=n by omega)
 -- one level: the table's own numbers
 have g:∀ x y,k - 1<x->k - 1<y->x<n->y<n->gI n G (k - 1)*gm n G k x y=gm n G (k - 1) (k - 1) (k - 1)*gm n G (k - 1) x y - gm n G (k - 1) x (k - 1)*gm n G (k - 1) (k - 1) y:=λx y h1 h2 h3 h4=>by
  have:=(iH hP (l:=k - 1) (by omega) h3 h4 (by omega) (by omega)).2;rwa [show k - 1+1=k by omega] at this
 have g':∀ x y,k - 1<x->k - 1<y->x<n->y<n->gI n G (k - 1)*gm n (zw G k) k x y=gm n G (k - 1) k k*gm n G (k - 1) (sw k x) (sw k y) - gm n G (k - 1) (sw k x) k*gm n G (k - 1) k (sw k y):=λx y h1 h2 h3 h4=>by
  have:=(iH hP' (l:=k - 1) (by omega) h3 h4 (by omega) (by omega)).2;rw [show k - 1+1=k by omega,hv,h (k - 1) (k - 1) (d_ _) (d_ _) (by omega) (by omega),h x y (by omega) (by omega) h3 h4,h x (k - 1) (by omega) (d_ _) h3 (by omega),h (k - 1) y (d_ _) (by omega) (by omega) h4,pz hk] at this;exact this
 have e1:=PN (s:=gI n G (k - 1)) (iH hP hkn hin hjn (by omega) (by omega)).2;have e2:=PN (s:=gI n G (k - 1)) (iH hP' hkn hin hjn (by omega) (by omega)).2;rw [g k k (by omega) (by omega) hkn hkn,g i j (by omega) (by omega) hin hjn,g i k (by omega) (by omega) hin hkn,g k j (by omega) (by omega) hkn hjn,va,YP] at e1;rw [g' k k (by omega) (by omega) hkn hkn,g' i j (by omega) (by omega) hin hjn,g' i k (by omega) (by omega) hin hkn,g' k j (by omega) (by omega) hkn hjn,vc,qN,mo (show i≠k by omega) (by omega),mo (show j≠k by omega) (by omega),YP] at e2;rw [va] at hpa;rw [vc] at hpc;generalize gI n G (k - 1)=s at *
 generalize gm n G (k - 1) (k - 1) (k - 1)=A at *
 generalize gm n G (k - 1) (k - 1) k=B at *
 generalize gm n G (k - 1) k (k - 1)=B' at *
 generalize gm n G (k - 1) k k=C at *
 generalize gm n G (k - 1) i (k - 1)=x at *
 generalize gm n G (k - 1) i k=y at *
 generalize gm n G (k - 1) (k - 1) j=u at *
 generalize gm n G (k - 1) k j=v at *
 generalize gm n G (k - 1) i j=m at *
 have f1:s*s*gm n G (k+1) i j=A*(C*m) - C*(x*u) - B'*(B*m) - A*(y*v)+B'*(y*u)+B*(x*v):=kJ hpa (by rw [<-e1,r_]);have f2:s*s*gm n (zw G k) (k+1) i j=C*(A*m) - A*(y*v) - B*(B'*m) - C*(x*u)+B*(x*v)+B'*(y*u):=kJ hpc (by rw [<-e2,r_]);have hss:0<s*s:=Int.mul_pos hs hs;refine kJ hss ?_;rw [f1,f2,r_ C A m,r_ B B' m];omega
theorem Cy (hP:gN n G) {k:Nat} (hP':gN n (zw G k)) (hk:0<k) (hkn:k<n):∀ d,k+1+d<=n ->
  (∀ a b,k+1+d<=a->k+1+d<=b->a<n->b<n->gm n (zw G k) (k+1+d) a b=gm n G (k+1+d) a b)∧gI n (zw G k) (k+1+d)=gI n G (k+1+d)
 | 0,hd=>by
  refine ⟨λa b h1 h2 h3 h4=>JY hP hP' hk hkn (by omega) (by omega) h3 h4,?_⟩;obtain ⟨h,hv⟩:=rV hP hP' hk hkn (k - 1) (d_ _);have hs:=kI hP (show k - 1<=n by omega);rw [show k+1+0=k+1 by omega,fq hP' hkn,fq hP hkn];have e1:=(iH hP (l:=k - 1) (by omega) hkn hkn (by omega) (by omega)).2;have e2:=(iH hP' (l:=k - 1) (by omega) hkn hkn (by omega) (by omega)).2;rw [show k - 1+1=k by omega] at e1 e2;rw [hv,h (k - 1) (k - 1) (d_ _) (d_ _) (by omega) (by omega),h k k (by omega) (by omega) hkn hkn,h k (k - 1) (by omega) (d_ _) hkn (by omega),h (k - 1) k (d_ _) (by omega) (by omega) hkn,pz hk,qN] at e2;refine kJ hs ?_;rw [e1,e2,u_ (gm n G (k - 1) k k),u_ (gm n G (k - 1) (k - 1) k)]
 | d+1,hd=>by
  obtain ⟨i1,i2⟩:=Cy hP hP' hk hkn d (by omega);refine ⟨λa b h1 h2 h3 h4=>?_,?_⟩
  ·refine kJ (kI hP (show k+1+d<=n by omega)) ?_;rw [show k+1+(d+1)=k+1+d+1 by omega,(iH hP (by omega) h3 h4 (by omega) (by omega)).2,<-i2,(iH hP' (by omega) h3 h4 (by omega) (by omega)).2,
    i1 _ _ (d_ _) (d_ _) (by omega) (by omega),i1 a b (by omega) (by omega) h3 h4,i1 a _ (by omega) (d_ _) h3 (by omega),i1 _ b (d_ _) (by omega) (by omega) h4]
  ·rw [show k+1+(d+1)=k+1+d+1 by omega,fq hP' (by omega),fq hP (by omega),i1 _ _ (d_ _) (d_ _) (by omega) (by omega)]
theorem Hr (hP:gN n G) (hG:∀ i j,G i j=G j i) {k:Nat} (hP':gN n (zw G k)) (hk:0<k) (hkn:k<n)
  (JV:100*(gI n G (k+1)*gI n G (k - 1)+gm n G (k - 1) k (k - 1)*gm n G (k - 1) k (k - 1))<99*(gI n G k*gI n G k)):gI n (zw G k) k<gI n G k:=by
 rw [Ex hP hP' hk hkn];have e1:=(iH hP (l:=k - 1) (by omega) hkn hkn (by omega) (by omega)).2;rw [show k - 1+1=k by omega,<-fq hP hkn,Bp hP hG (k - 1) (by omega) (k - 1) k (d_ _) (by omega) (by omega) hkn] at e1;have va:=fq hP (show k - 1<n by omega);rw [show k - 1+1=k by omega] at va;rw [<-va] at e1;have hv:=kI hP (show k<=n by omega);generalize gI n G k=A at *
 generalize gm n G (k - 1) k k=C at *
 apply v_;intro hc;have h1:A*A<=A*C:=o_ (by omega) (by omega);have h2:0<A*A:=Int.mul_pos hv hv;rw [u_ (gI n G (k+1))] at JV;omega
end
def comb (n:Nat) (St:Nat->Nat->Int) (y:Nat->Int) (i:Nat):Int:=sm n (λj=>y j*St j i)
structure Ei (n:Nat) (St:Nat->Nat->Int):Prop where
 reach:∀ x:Nat->Int,∃ y:Nat->Int,∀ i,i<n->x i=comb n St y i
 once:∀ y:Nat->Int,(∀ i,i<n->comb n St y i=0)->∀ j,j<n->y j=0
theorem Hg (n:Nat):Ei n unit:=by
 have e:∀ y i,i<n->comb n unit y i=y i:=λy i hi=>by
  unfold comb;rw [iK i hi λj _ hj=>by unfold unit;rw [g_ hj];omega];unfold unit;rw [h_ rfl];omega
 exact ⟨λx=>⟨x,λi hi=>(e x i hi).symm⟩,λy h j hj=>by rw [<-e y j hj];exact h j hj⟩
theorem Ht {n:Nat} (St:Nat->Nat->Int) {k j:Nat} (hk:k<n) (hj:j<n) (hjk:j≠k) (t:Int) (y:Nat->Int) (i:Nat) :
  comb n (bE St k j t) y i=comb n St (λa=>if a=j then y j - t*y k else y a) i:=by
 unfold comb;rw [fK (f:=λa=>y a*bE St k j t a i) k hk,fK (f:=λa=>(if a=j then y j - t*y k else y a)*St a i) j hj];have e1:sm n (λa=>if a=k then 0 else y a*bE St k j t a i)=y j*St j i+sm n (λa=>if a=j then 0 else if a=k then 0 else y a*St a i):=by
  rw [fK (f:=λa=>if a=k then 0 else y a*bE St k j t a i) j hj,g_ hjk];unfold bE;rw [g_ hjk];congr 1;refine aC λa _=>?_;by_cases h1:a=j
  ·rw [h_ h1,h_ h1]
  ·rw [g_ h1,g_ h1];by_cases h2:a=k
   ·rw [h_ h2,h_ h2]
   ·rw [g_ h2,g_ h2,g_ h2]
 have e2:sm n (λa=>if a=j then 0 else (if a=j then y j - t*y k else y a)*St a i)=y k*St k i+sm n (λa=>if a=j then 0 else if a=k then 0 else y a*St a i):=by
  rw [fK (f:=λa=>if a=j then 0 else (if a=j then y j - t*y k else y a)*St a i) k hk,g_ (λe=>hjk e.symm),g_ (λe=>hjk e.symm)];congr 1;refine aC λa _=>?_;by_cases h1:a=j
  ·rw [h_ h1,h_ h1];split <;> rfl
  ·rw [g_ h1,g_ h1,g_ h1]
 rw [e1,e2,h_ rfl];unfold bE;rw [h_ rfl,aaI,abh,r_ (y k),y_ t];omega
theorem Eu {n:Nat} {St:Nat->Nat->Int} (h:Ei n St) {k j:Nat} (hk:k<n) (hj:j<n) (hjk:j≠k) (t:Int):Ei n (bE St k j t):=by
 constructor
 ·intro x;obtain ⟨y,hy⟩:=h.reach x;refine ⟨λa=>if a=j then y j+t*y k else y a,λi hi=>?_⟩;rw [Ht St hk hj hjk,hy i hi];unfold comb;refine aC λa _=>?_
  dsimp only
  by_cases h1:a=j
  ·rw [h_ h1,h_ rfl,g_ (λe=>hjk e.symm),h1,Int.add_sub_cancel]
  ·rw [g_ h1,g_ h1]
 ·intro y hy a ha;have h1:=h.once (λa=>if a=j then y j - t*y k else y a) (λi hi=>by rw [<-Ht St hk hj hjk];exact hy i hi);have hk0:y k=0:=by have:=h1 k hk;rwa [g_ (λe=>hjk e.symm)] at this
  by_cases e:a=j
  ·have:=h1 j hj;rw [h_ rfl,hk0,X_] at this;rw [e];omega
  ·have:=h1 a ha;rwa [g_ e] at this
theorem PO (k a:Nat) (hk:0<k):sw k (sw k a)=a:=by
 by_cases h1:a=k
 ·rw [h1,qN,pz hk]
 ·by_cases h2:a=k - 1
  ·rw [h2,pz hk,qN]
  ·rw [mo h1 h2,mo h1 h2]
theorem YQ {n k:Nat} (hk:0<k) (hkn:k<n) (f:Nat->Int):sm n (λa=>f (sw k a))=sm n f:=by
 rw [fK (f:=λa=>f (sw k a)) k hkn,fK (f:=λa=>if a=k then 0 else f (sw k a)) (k - 1) (by omega),fK (f:=f) k hkn,fK (f:=λa=>if a=k then 0 else f a) (k - 1) (by omega),qN,pz hk,g_ (by omega)];have e:sm n (λa=>if a=k - 1 then 0 else if a=k then 0 else f (sw k a))=sm n (λa=>if a=k - 1 then 0 else if a=k then 0 else f a):=by
  refine aC λa _=>?_;by_cases h1:a=k - 1
  ·rw [h_ h1,h_ h1]
  ·rw [g_ h1,g_ h1];by_cases h2:a=k
   ·rw [h_ h2,h_ h2]
   ·rw [g_ h2,g_ h2,mo h2 h1]
 rw [e];omega
theorem K9 {n k:Nat} (hk:0<k) (hkn:k<n) (St:Nat->Nat->Int) (y:Nat->Int) (i:Nat):comb n (λa=>St (sw k a)) y i=comb n St (λa=>y (sw k a)) i:=by
 unfold comb;rw [<-YQ hk hkn (λa=>y (sw k a)*St a i)];refine aC λa _=>?_;rw [PO k a hk]
theorem VG {n:Nat} {St:Nat->Nat->Int} (h:Ei n St) {k:Nat} (hk:0<k) (hkn:k<n):Ei n (λa=>St (sw k a)):=by
 constructor
 ·intro x;obtain ⟨y,hy⟩:=h.reach x;refine ⟨λa=>y (sw k a),λi hi=>?_⟩;rw [K9 hk hkn,hy i hi];unfold comb;refine aC λa _=>?_
  dsimp only
  rw [PO k a hk]
 ·intro y hy a ha;have:=h.once (λa=>y (sw k a)) (λi hi=>by rw [<-K9 hk hkn];exact hy i hi) (sw k a) (Ao hkn ha);rwa [PO k a hk] at this
def rE (n:Nat) (Q:Nat->Nat->Int) (u v:Nat->Int):Int:=sm n (λi=>u i*sm n (λj=>Q i j*v j))
theorem yO (n:Nat) (Q:Nat->Nat->Int) (u w v:Nat->Int) (t:Int):rE n Q (λi=>u i - t*w i) v=rE n Q u v - t*rE n Q w v:=by
 unfold rE;rw [<-dz,<-zC];refine aC λi _=>?_;rw [abh,y_]
theorem wm (n:Nat) (Q:Nat->Nat->Int) (u v w:Nat->Int) (t:Int):rE n Q u (λi=>v i - t*w i)=rE n Q u v - t*rE n Q u w:=by
 unfold rE;rw [<-dz,<-zC];refine aC λi _=>?_;have e:sm n (λj=>Q i j*(v j - t*w j))=sm n (λj=>Q i j*v j) - t*sm n (λj=>Q i j*w j):=by
  rw [<-dz,<-zC];refine aC λj _=>?_;rw [aaI,r_]
 rw [e,aaI,r_]
def xG (n:Nat) (Q St G:Nat->Nat->Int):Prop:=∀ a b,a<n->b<n->G a b=rE n Q (St a) (St b)
theorem Et (n:Nat) (Q:Nat->Nat->Int):xG n Q unit Q:=by
 intro a b ha hb;unfold rE;rw [iK a ha λi _ hi=>by unfold unit;rw [g_ (λe=>hi e.symm),aaM],iK b hb λj _ hj=>by unfold unit;rw [g_ (λe=>hj e.symm),X_]];unfold unit;rw [h_ rfl,h_ rfl];omega
theorem JR {n:Nat} {Q St G:Nat->Nat->Int} (h:xG n Q St G) {k j:Nat} (hk:k<n) (hj:j<n) (t:Int):xG n Q (bE St k j t) (dK G k j t):=by
 intro a b ha hb;have hr:∀ x,x≠k->bE St k j t x=St x:=λx hx=>by funext i;unfold bE;rw [g_ hx]
 have hkk:bE St k j t k=λi=>St k i - t*St j i:=by funext i;unfold bE;rw [h_ rfl]
 by_cases hak:a=k
 ·by_cases hbk:b=k
  ·rw [hak,hbk,ny,hkk,yO,wm,wm,h k k hk hk,h j k hj hk,h k j hk hj,h j j hj hj,aaI t (rE n Q (St k) (St j)),aaI t (rE n Q (St j) (St k))];omega
  ·rw [hak,fA G t hbk,hkk,hr b hbk,yO,h k b hk hb,h j b hj hb]
 ·by_cases hbk:b=k
  ·rw [hbk,iy G t hak,hkk,hr a hak,wm,h a k ha hk,h a j ha hj]
  ·rw [ed G t hak hbk,hr a hak,hr b hbk,h a b ha hb]
theorem Sg {n:Nat} {Q St G:Nat->Nat->Int} (h:xG n Q St G) {k:Nat} (hkn:k<n):xG n Q (λa=>St (sw k a)) (zw G k):=λa b ha hb=>h (sw k a) (sw k b) (Ao hkn ha) (Ao hkn hb)
theorem PQ {n:Nat} (Q St:Nat->Nat->Int) (v w:Nat->Int):rE n Q (comb n St v) (comb n St w)=sm n (λa=>v a*sm n (λb=>rE n Q (St a) (St b)*w b)):=by
 have l1:∀ z,rE n Q (comb n St v) z=sm n (λa=>v a*rE n Q (St a) z):=λz=>by
  unfold rE comb;have e:∀ i,i<n->sm n (λj=>v j*St j i)*sm n (λj=>Q i j*z j)=sm n (λa=>v a*(St a i*sm n (λj=>Q i j*z j))):=λi _=>by
   rw [u_,<-dz];refine aC λa _=>?_;rw [u_,y_]
  rw [aC e,oU];refine aC λa _=>?_;rw [<-dz]
 have l2:∀ u,rE n Q u (comb n St w)=sm n (λb=>rE n Q u (St b)*w b):=λu=>by
  unfold rE comb;have e:∀ i,i<n->u i*sm n (λj=>Q i j*sm n (λb=>w b*St b j))=sm n (λb=>u i*(sm n (λj=>Q i j*St b j)*w b)):=λi _=>by
   rw [<-dz,aC (f:=λj=>u i*(Q i j*sm n (λb=>w b*St b j))) (g:=λj=>sm n (λb=>u i*(Q i j*St b j*w b))) λj _=>by
    rw [<-dz,<-dz];refine aC λb _=>?_;simp only [y_,u_,r_],oU]
   refine aC λb _=>?_;rw [dz];congr 1;rw [u_,<-dz];refine aC λj _=>?_;rw [u_]
  rw [aC e,oU];refine aC λb _=>?_;rw [u_,<-dz];refine aC λi _=>?_;simp only [y_,u_,r_]
 rw [l1];refine aC λa _=>?_;rw [l2]
theorem M0 {n:Nat} {Q St G:Nat->Nat->Int} (hQ:gN n Q) (hU:Ei n St) (hG:xG n Q St G):gN n G:=by
 intro v ⟨i,hi,hv⟩;have e:sm n (λi=>v i*sm n (λj=>G i j*v j))=rE n Q (comb n St v) (comb n St v):=by
  rw [PQ];refine aC λa ha=>?_;rw [aC λb hb=>by rw [hG a b ha hb]]
 rw [e];unfold rE;refine hQ (comb n St v) ?_;apply v_;intro hc;exact hv (hU.once v (λj hj=>v_ λh=>hc ⟨j,hj,h⟩) i hi)
theorem Ew {lam v:Int} (hv:0<v):-v<=2*(lam - Int.fdiv (lam+lam+v) (v+v)*v)∧2*(lam - Int.fdiv (lam+lam+v) (v+v)*v)<=v:=by
 rw [S_ _ (by omega)];have d1:=aay (lam+lam+v) (v+v);have d2:=aaS (lam+lam+v) (show v+v≠0 by omega);have d3:=aaT (lam+lam+v) (show 0<v+v by omega);generalize (lam+lam+v)/(v+v)=q at *
 generalize (lam+lam+v)%(v+v)=r at *
 rw [aaN,u_ v q] at d1;omega
section
variable {n:Nat} {G:Nat->Nat->Int}
theorem VL (hP:gN n G) {l i:Nat} (hl:l<=i) (hi:i<n):0<gm n G l i i:=by
 have h:=(qM hP l (by omega)).1;obtain ⟨D,d1,d2⟩:=h.wR (i+1) (by omega);have hs:=h.pos;have hlen:=(jC n G l).1;have c1:∀ a,a<n->a<l->sm n (λj=>G a j*D (j+1))=0:=λa ha hlt=>by
  have:=d1 (a+1) (by omega);rw [fV,(fw n G l (by omega) a ha).2,h_ hlt,g_ (by omega),uT] at this;exact this
 have c2:∀ a,a<n->¬ a<l->D (a+1)=if a=i then (dD n G l).scale else 0:=λa ha hge=>by
  have:=d1 (a+1) (by omega);rw [fV,(fw n G l (by omega) a ha).2,g_ hge,rU,kH n D (a+1) (by omega)] at this;rw [this];by_cases e:a=i
  ·rw [h_ (by omega),h_ e]
  ·rw [g_ (by omega),g_ e]
 have c3:sm n (λj=>G i j*D (j+1))=gm n G l i i:=by
  have:=d2 i (by omega);rw [(fw n G l (by omega) i hi).1,g_ (by omega),uT] at this;exact this
 have hq:=hP (λa=>D (a+1)) ⟨i,hi,by rw [c2 i hi (by omega),h_ rfl];omega⟩;rw [iK i hi λa ha hai=>?_] at hq
 ·rw [c3,c2 i hi (by omega),h_ rfl] at hq;rcases nO hq with h5|h5 <;> omega
 ·by_cases hlt:a<l
  ·rw [c1 a ha hlt,X_]
  ·rw [c2 a ha hlt,g_ hai,aaM]
theorem Sl (hP:gN n G) (hG:∀ i j,G i j=G j i) {l i:Nat} (hl:l<i) (hi:i<n):gI n G (l+1)*gm n G l i i=gI n G l*gm n G (l+1) i i+gm n G l i l*gm n G l i l:=by
 have e:=(iH hP (l:=l) (by omega) hi hi (by omega) (by omega)).2;rw [<-fq hP (by omega),Bp hP hG l (by omega) l i (d_ _) (by omega) (by omega) hi] at e;omega
theorem Br (hP:gN n G) {l:Nat} (hl:l<=n):1<=gI n G l:=by have:=kI hP hl;omega
theorem sq_nonneg (x:Int):0<=x*x:=by
 rcases (show x<=0∨0<=x by omega) with h|h
 ·have:=Y_ (show 0<=-x by omega) (show 0<=-x by omega);rwa [Int.neg_mul_neg] at this
 ·exact Y_ h h
theorem PL (hP:gN n G) (hG:∀ i j,G i j=G j i) {i j:Nat} (hi:i<n) (hj:j<n):-(G i i+G j j)<=2*G i j∧2*G i j<=G i i+G j j:=by
 by_cases hij:i=j
 ·subst hij;have:=VL hP (aaZ i) hi;rw [pg hi hi] at this;omega
 ·have key:∀ t:Int,t≠0->0<G i i+t*G i j+t*(G j i+t*G j j):=λt ht=>by
   have h:=hP (λa=>if a=i then 1 else if a=j then t else 0) ⟨i,hi,by rw [h_ rfl];decide⟩;rw [Jp i j hi hj hij λa _ h1 h2=>by rw [g_ h1,g_ h2,aaM]] at h;have r:∀ a,sm n (λb=>G a b*(if b=i then 1 else if b=j then t else 0))=G a i+t*G a j:=λa=>by
    rw [Jp i j hi hj hij λb _ h1 h2=>by rw [g_ h1,g_ h2,X_]];rw [h_ rfl,g_ (λe=>hij e.symm),h_ rfl,Int.mul_one,u_]
   rw [r i,r j,h_ rfl,g_ (λe=>hij e.symm),h_ rfl,aaH] at h;exact h
  have h1:=key 1 (by decide);have h2:=key (-1) (by decide);rw [hG j i] at h1 h2;omega
end
def pt (x:Nat->Int) (k:Nat):Int:=if k=0 then 1 else x (k - 1)
theorem kR (n:Nat) (s x:Nat->Int):ev n s (pt x)=s 0+sm n (λi=>s (i+1)*x i):=by
 unfold ev;rw [yG];have e:pt x 0=1:=h_ rfl;rw [e,Int.mul_one];congr 1
theorem iI {n:Nat} {s x y:Nat->Int} (h:∀ i,i<n->x i=y i):ev n s (pt x)=ev n s (pt y):=by
 rw [kR,kR,aC λi hi=>by rw [h i hi]]
structure mM where
 size:Nat
 zero:List (Nat->Int)
 least:List (Nat->Int)
 told:List (Nat->Int)
structure mM.Has (r:mM) (x:Nat->Int):Prop where
 zero:∀ s∈r.zero,ev r.size s (pt x)=0
 least:∀ s∈r.least,0<=ev r.size s (pt x)
def mM.fB (r:mM) (x:Nat->Int):List Int:=r.told.map λs=>ev r.size s (pt x)
def mM.kU (r:mM) (L:List Int):Prop:=∃ x,r.Has x∧r.fB x=L
def qb (n:Nat) (St:Nat->Nat->Int) (s:Nat->Int) (k:Nat):Int:=if k=0 then s 0 else sm n (λi=>s (i+1)*St (k - 1) i)
theorem pF (n:Nat) (St:Nat->Nat->Int) (s y:Nat->Int):ev n (qb n St s) (pt y)=ev n s (pt (comb n St y)):=by
 rw [kR,kR];have e0:qb n St s 0=s 0:=h_ rfl;rw [e0];congr 1;have e1:sm n (λi=>s (i+1)*comb n St y i)=sm n (λi=>sm n (λj=>s (i+1)*(y j*St j i))):=aC λi _=>by unfold comb;rw [<-dz]
 rw [e1,oU];refine aC λj _=>?_;unfold qb;rw [g_ (by omega),u_,<-dz];refine aC λi _=>?_;rw [show j+1 - 1=j by omega,r_]
def mM.uH (r:mM) (St:Nat->Nat->Int):mM:=⟨r.size,r.zero.map (qb r.size St),r.least.map (qb r.size St),r.told.map (qb r.size St)⟩
theorem mM.y9 (r:mM) (St:Nat->Nat->Int) (y:Nat->Int):(r.uH St).Has y↔r.Has (comb r.size St y):=by
 constructor
 ·intro h;refine ⟨λs hs=>?_,λs hs=>?_⟩
  ·rw [<-pF];exact h.zero _ (m_.2 ⟨s,hs,rfl⟩)
  ·rw [<-pF];exact h.least _ (m_.2 ⟨s,hs,rfl⟩)
 ·intro h;refine ⟨λs hs=>?_,λs hs=>?_⟩
  ·obtain ⟨s',hs',rfl⟩:=m_.1 hs;show ev r.size _ _=0;rw [pF];exact h.zero s' hs'
  ·obtain ⟨s',hs',rfl⟩:=m_.1 hs;show 0<=ev r.size _ _;rw [pF];exact h.least s' hs'
theorem mM.tZ (r:mM) (St:Nat->Nat->Int) (y:Nat->Int):(r.uH St).fB y=r.fB (comb r.size St y):=by
 unfold mM.fB mM.uH;rw [List.map_map];refine aa1 λs _=>?_;exact pF r.size St s y
theorem mM.zT {r:mM} {x y:Nat->Int} (h:∀ i,i<r.size->x i=y i):r.Has x↔r.Has y :=
 ⟨λa=>⟨λs hs=>by rw [<-iI h];exact a.zero s hs,λs hs=>by rw [<-iI h];exact a.least s hs⟩,
  λa=>⟨λs hs=>by rw [iI h];exact a.zero s hs,λs hs=>by rw [iI h];exact a.least s hs⟩⟩
theorem mM.vF {r:mM} {x y:Nat->Int} (h:∀ i,i<r.size->x i=y i):r.fB x=r.fB y:=by
 unfold mM.fB;exact aa1 λs _=>iI h
theorem mM.O8 {r:mM} {St:Nat->Nat->Int} (hU:Ei r.size St) (L:List Int):(r.uH St).kU L↔r.kU L:=by
 constructor
 ·rintro ⟨y,h1,h2⟩;exact ⟨comb r.size St y,(r.y9 St y).1 h1,by rw [<-r.tZ];exact h2⟩
 ·rintro ⟨x,h1,h2⟩;obtain ⟨y,hy⟩:=hU.reach x;exact ⟨y,(r.y9 St y).2 ((mM.zT hy).1 h1),by rw [r.tZ,<-mM.vF hy];exact h2⟩
theorem Qz (f:Nat->Int) (t:Nat):∀ m,t<=m->sm (m+1) f=f t+sm m (λi=>f (if i<t then i else i+1))
 | 0,h=>by have:t=0:=(by omega);subst this;simp [sm]
 | m+1,h=>by
  by_cases ht:t=m+1
  ·subst ht;rw [sm,aC (f:=f) (g:=λi=>f (if i<m+1 then i else i+1)) λi hi=>by rw [h_ hi]];omega
  ·rw [sm,Qz f t m (by omega),sm,g_ (by omega)];omega
def qw (t:Nat) (v:Int) (s:Nat->Int) (k:Nat):Int:=if k=0 then s 0+s (t+1)*v else if k<=t then s k else s (k+1)
def ins (t:Nat) (v:Int) (x:Nat->Int) (i:Nat):Int:=if i<t then x i else if i=t then v else x (i - 1)
theorem QA {m t:Nat} (ht:t<=m) (v:Int) (s x:Nat->Int):ev m (qw t v s) (pt x)=ev (m+1) s (pt (ins t v x)):=by
 rw [kR,kR,Qz _ t m ht];have e0:qw t v s 0=s 0+s (t+1)*v:=h_ rfl;have e1:ins t v x t=v:=by unfold ins;rw [g_ (by omega),h_ rfl]
 rw [e0,e1,aC (f:=λi=>qw t v s (i+1)*x i) (g:=λi=>s ((if i<t then i else i+1)+1)*ins t v x (if i<t then i else i+1)) λi hi=>?_]
 ·omega
 ·unfold qw ins;rw [g_ (by omega)];by_cases h:i<t
  ·rw [h_ (by omega),h_ h,h_ h]
  ·rw [g_ (by omega),g_ h,g_ (by omega),g_ (by omega)]
   rfl
def mM.fix (r:mM) (t:Nat) (v:Int):mM:=⟨r.size - 1,r.zero.map (qw t v),r.least.map (qw t v),r.told.map (qw t v)⟩
theorem Lh {t:Nat} {v:Int} {x:Nat->Int} (h:x t=v):∀ i,ins t v (λi=>if i<t then x i else x (i+1)) i=x i:=by
 intro i;unfold ins
 dsimp only
 by_cases h1:i<t
 ·rw [h_ h1,h_ h1]
 ·rw [g_ h1];by_cases h2:i=t
  ·rw [h_ h2,h2,h]
  ·rw [g_ h2,g_ (by omega),show i - 1+1=i by omega]
theorem mM.Bg {r:mM} {t:Nat} (ht:t<r.size) (v:Int) (L:List Int):(r.fix t v).kU L↔∃ x,r.Has x∧r.fB x=L∧x t=v:=by
 obtain ⟨m,hm⟩:∃ m,r.size=m+1:=⟨r.size - 1,by omega⟩;have key:∀ s x,ev (r.size - 1) (qw t v s) (pt x)=ev r.size s (pt (ins t v x)):=λs x=>by
  rw [hm];exact QA (by omega) v s x
 have hh:∀ x,(r.fix t v).Has x↔r.Has (ins t v x):=λx=>by
  constructor
  ·intro h;exact ⟨λs hs=>by rw [<-key];exact h.zero _ (m_.2 ⟨s,hs,rfl⟩),λs hs=>by rw [<-key];exact h.least _ (m_.2 ⟨s,hs,rfl⟩)⟩
  ·intro h;refine ⟨λs hs=>?_,λs hs=>?_⟩
   ·obtain ⟨s',hs',rfl⟩:=m_.1 hs;show ev (r.size - 1) _ _=0;rw [key];exact h.zero s' hs'
   ·obtain ⟨s',hs',rfl⟩:=m_.1 hs;show 0<=ev (r.size - 1) _ _;rw [key];exact h.least s' hs'
 have ht2:∀ x,(r.fix t v).fB x=r.fB (ins t v x):=λx=>by
  unfold mM.fB mM.fix;rw [List.map_map];exact aa1 λs _=>key s x
 constructor
 ·rintro ⟨x,h1,h2⟩;exact ⟨ins t v x,(hh x).1 h1,by rw [<-ht2];exact h2,by unfold ins;rw [g_ (by omega),h_ rfl]⟩
 ·rintro ⟨x,h1,h2,h3⟩;refine ⟨λi=>if i<t then x i else x (i+1),(hh _).2 ((mM.zT λi _=>(Lh h3 i).symm).1 h1),?_⟩;rw [ht2,mM.vF λi _=>Lh h3 i];exact h2
theorem Ip {n:Nat} {g:Int} (hg:0<g) {s q:Nat->Int} (h0:q 0=Int.fdiv (s 0) g) (hq:∀ i,i<n->s (i+1)=g*q (i+1)) (x:Nat->Int):0<=ev n q (pt x)↔0<=ev n s (pt x):=by
 have e:sm n (λi=>s (i+1)*x i)=g*sm n (λi=>q (i+1)*x i):=by
  rw [<-dz];exact aC λi hi=>by rw [hq i hi,y_]
 rw [kR,kR,h0,e,S_ _ (by omega)];clear e;have d1:=aay (s 0) g;have d2:=aaS (s 0) (show g≠0 by omega);have d3:=aaT (s 0) hg;generalize s 0/g=a at *
 generalize s 0%g=b at *
 generalize sm n (λi=>q (i+1)*x i)=c at *
 constructor
 ·intro h;have:=Y_ (show 0<=g by omega) h;rw [Q_] at this;omega
 ·intro h;apply v_;intro hc;have:g*(a+c)<=g*(-1):=o_ (by omega) (by omega);rw [Q_] at this;omega
def dir (n:Nat) (s D:Nat->Int):Int:=sm n (λi=>s (i+1)*D i)
theorem Eh {n:Nat} {s D E:Nat->Int} (h:∀ i,i<n->D i=E i):dir n s D=dir n s E:=aC λi hi=>by rw [h i hi]
theorem yA (n:Nat) (St:Nat->Nat->Int) (s y:Nat->Int):dir n (qb n St s) y=dir n s (comb n St y):=by
 have h1:=pF n St s y;rw [kR,kR] at h1;have e0:qb n St s 0=s 0:=h_ rfl;unfold dir;omega
theorem S9 {m t:Nat} (ht:t<=m) (v:Int) (s D:Nat->Int):dir m (qw t v s) D=dir (m+1) s (ins t 0 D):=by
 have h1:=QA ht 0 s D;rw [kR,kR] at h1;have e0:qw t 0 s 0=s 0+s (t+1)*0:=h_ rfl;have e1:sm m (λi=>qw t 0 s (i+1)*D i)=dir m (qw t v s) D:=aC λi _=>by
  have h2:qw t 0 s (i+1)=qw t v s (i+1):=by
   unfold qw;rw [g_ (show ¬ i+1=0 by omega),g_ (show ¬ i+1=0 by omega)]
  rw [h2]
 rw [e0,X_,e1] at h1;unfold dir at *
 omega
def mM.gJ (r:mM):Prop:=∀ D:Nat->Int,(∀ s∈r.zero,dir r.size s D=0)->(∀ s∈r.least,0<=dir r.size s D)->∀ i,i<r.size->D i=0
theorem mM.gJ.uH {r:mM} (h:r.gJ) {St:Nat->Nat->Int} (hU:Ei r.size St):(r.uH St).gJ:=by
 intro D h1 h2;refine hU.once D (h (comb r.size St D) (λs hs=>?_) (λs hs=>?_))
 ·rw [<-yA];exact h1 _ (m_.2 ⟨s,hs,rfl⟩)
 ·rw [<-yA];exact h2 _ (m_.2 ⟨s,hs,rfl⟩)
theorem mM.gJ.fix {r:mM} (h:r.gJ) {t:Nat} (ht:t<r.size) (v:Int):(r.fix t v).gJ:=by
 obtain ⟨m,hm⟩:∃ m,r.size=m+1:=⟨r.size - 1,by omega⟩;have key:∀ s D,dir (r.size - 1) (qw t v s) D=dir r.size s (ins t 0 D):=λs D=>by rw [hm];exact S9 (by omega) v s D
 intro D h1 h2 i hi;have hi':i<r.size - 1:=hi;have h3:=h (ins t 0 D) (λs hs=>by rw [<-key];exact h1 _ (m_.2 ⟨s,hs,rfl⟩)) (λs hs=>by rw [<-key];exact h2 _ (m_.2 ⟨s,hs,rfl⟩));by_cases hlt:i<t
 ·have:=h3 i (by omega);unfold ins at this;rwa [h_ hlt] at this
 ·have:=h3 (i+1) (by omega);unfold ins at this;rwa [g_ (by omega),g_ (by omega),show i+1 - 1=i by omega] at this
theorem mM.gJ.more {r r':mM} (h:r.gJ) (hs:r'.size=r.size) (hz:∀ s∈r.zero,s∈r'.zero) (hl:∀ s∈r.least,s∈r'.least):r'.gJ:=by
 intro D h1 h2 i hi;rw [hs] at h1 h2 hi;exact h D (λs h3=>h1 s (hz s h3)) (λs h3=>h2 s (hl s h3)) i hi
theorem CX {n t:Nat} {St:Nat->Nat->Int} {s:Nat->Int} {f:Int} (ht:t<n) (hs:∀ j,j<n->qb n St s (j+1)=if j=t then f else 0) (y:Nat->Int):ev n s (pt (comb n St y))=s 0+f*y t:=by
 rw [<-pF,kR];have e0:qb n St s 0=s 0:=h_ rfl;rw [e0,iK t ht λj hj hjt=>by rw [hs j hj,g_ hjt,aaM],hs t ht,h_ rfl]
theorem Iq {r:mM} {s:Nat->Int} {St:Nat->Nat->Int} {t:Nat} {f v:Int} (hU:Ei r.size St) (ht:t<r.size) (hf:f≠0) (hs:∀ j,j<r.size->qb r.size St s (j+1)=if j=t then f else 0) (hv:s 0+f*v=0) (L:List Int) :
  ((r.uH St).fix t v).kU L↔∃ x,r.Has x∧r.fB x=L∧ev r.size s (pt x)=0:=by
 rw [mM.Bg (r:=r.uH St) ht v L];constructor
 ·rintro ⟨y,h1,h2,h3⟩;refine ⟨comb r.size St y,(r.y9 St y).1 h1,by rw [<-r.tZ];exact h2,?_⟩;rw [CX ht hs,h3];exact hv
 ·rintro ⟨x,h1,h2,h3⟩;obtain ⟨y,hy⟩:=hU.reach x;refine ⟨y,(r.y9 St y).2 ((mM.zT hy).1 h1),by rw [r.tZ,<-mM.vF hy];exact h2,?_⟩;rw [iI hy,CX ht hs] at h3;refine abf hf ?_;omega
theorem FV {n t:Nat} {s:Nat->Int} {St:Nat->Nat->Int} {f:Int} (hU:Ei n St) (ht:t<n) (hf:f≠0) (hs:∀ j,j<n->qb n St s (j+1)=if j=t then f else 0) (hv:s 0+f*Int.fdiv (-s 0) f≠0) (x:Nat->Int):ev n s (pt x)≠0:=by
 intro h;obtain ⟨y,hy⟩:=hU.reach x;rw [iI hy,CX ht hs] at h;have e:-s 0=y t*f:=by rw [u_];omega
 rw [e,Int.mul_fdiv_cancel _ hf] at hv;omega
theorem ze {n:Nat} {s:Nat->Int} (h:∀ i,i<n->s (i+1)=0) (x:Nat->Int):ev n s (pt x)=s 0:=by
 rw [kR,kD λi hi=>by rw [h i hi,aaM]];omega
theorem Kj (n:Nat) (s P Q:Nat->Int) (a b:Int):ev n s (λk=>a*P k+b*Q k)=a*ev n s P+b*ev n s Q:=by
 unfold ev;rw [<-dz,<-dz,<-zB];refine aC λk _=>?_;rw [Q_,r_,r_ (s k) b]
theorem Nw {n:Nat} {others:List (Nat->Int)} {s:Nat->Int} (h:∀ P:Nat->Int,0<P 0->(∀ u∈others,0<=ev n u P)->0<=ev n s P->0<ev n s P)
  {Q:Nat->Int} (q0:0<Q 0) (q1:∀ u∈others,0<=ev n u Q) (q2:0<=ev n s Q):∀ P:Nat->Int,0<=P 0->(∀ u∈others,0<=ev n u P)->0<=ev n s P∧(0<P 0->0<ev n s P):=by
 intro P p0 p1;have hq:=h Q q0 q1 q2;have main:0<=ev n s P:=by
  apply v_;intro hc;have h0:0<(ev n s Q)*P 0+(-ev n s P)*Q 0:=by
   have:=Y_ (show 0<=ev n s Q by omega) p0;have:=Int.mul_pos (show 0 < -ev n s P by omega) q0;omega
  have hR:=h (λk=>(ev n s Q)*P k+(-ev n s P)*Q k) h0 (λu hu=>by
   rw [Kj];have:=Y_ (show 0<=ev n s Q by omega) (p1 u hu);have:=Y_ (show 0<=-ev n s P by omega) (q1 u hu);omega) (by rw [Kj,aaP,u_ (ev n s Q)];omega)
  rw [Kj,aaP,u_ (ev n s Q)] at hR;omega
 exact ⟨main,λhp=>h P hp p1 main⟩
section
variable {n m:Nat} {S:Nat->Nat->Int} {F:Int->Nat->Int} {t:aR}
theorem F9 {x:Int} (h:x∈gU n m) (h0:0<=x):∃ i:Nat,i<m∧x=i:=by
 rcases F_.1 h with h|h
 ·obtain ⟨i,hi,e⟩:=m_.1 h;exact ⟨i,V_.1 hi,e.symm⟩
 ·obtain ⟨j,_,e⟩:=m_.1 h;omega
def nY (n m:Nat) (S:Nat->Nat->Int) (P:Nat->Int):Prop:=∀ i,i<m->0<=ev n (S i) P
theorem vL {U:List Int} (hU:∀ x∈U,0<=x->∃ i:Nat,i<m∧x=i) (hF:∀ i:Nat,i<m->F i=S i) (hst:Stat U n t) (wJ:∀ c,c<n->0<=t.fe c) {P:Nat->Int} (hP:nY n m S P):∀ c,c<n->0<=ev n (F (t.fe c)) P:=by
 intro c hc;obtain ⟨i,hi,e⟩:=hU _ (hst.aS _ ⟨c,hc,rfl⟩) (wJ c hc);rw [e,hF i hi];exact hP i hi
theorem PX {U:List Int} (hU:∀ x∈U,0<=x->∃ i:Nat,i<m∧x=i) (hF:∀ i:Nat,i<m->F i=S i) (h:bM F n t) (hst:Stat U n t) (wJ:∀ c,c<n->0<=t.fe c) {r:Nat} (hr:r<t.lines.length) (hn:0<=t.name r) (h0:t.cell r 0<0) (hc:∀ c,c<n->t.cell r (c+1)<=0) (x:Nat->Int):¬ nY n m S (pt x):=by
 intro hP;have h1:=h.none hr h0 hc (P:=pt x) (by show 0<pt x 0;unfold pt;rw [h_ rfl];decide) (vL hU hF hst wJ hP);obtain ⟨i,hi,e⟩:=hU _ (hst.lines _ ⟨r,hr,rfl⟩) hn;rw [e,hF i hi] at h1;have:=hP i hi;omega
theorem M8 {U:List Int} (hU:∀ x∈U,0<=x->∃ i:Nat,i<m∧x=i) (hF:∀ i:Nat,i<m->F i=S i) (h:bM F n t) (hst:Stat U n t) (wJ:∀ c,c<n->0<=t.fe c) {wr:Nat} (hr:wr<t.lines.length) (hc:∀ c,c<n->t.cell wr (c+1)<=0) {x:Nat->Int} (hP:nY n m S (pt x)):ev n (F (t.name wr)) (pt x)<=Int.fdiv (t.cell wr 0) t.scale :=
 h.NR hr hc (by unfold pt;rw [h_ rfl]) (vL hU hF hst wJ hP)
theorem NS {U:List Int} (hU:∀ x∈U,0<=x->∃ i:Nat,i<m∧x=i) (hF:∀ i:Nat,i<m->F i=S i) (h:bM F n t) (hst:Stat U n t) (wJ:∀ c,c<n->0<=t.fe c) {wr:Nat} (hr:wr<t.lines.length) (hc:∀ c,c<n->t.cell wr (c+1)<=0) (hlow:Int.fdiv (t.cell wr 0) t.scale<0) {P:Nat->Int} (p0:0<P 0) (hP:nY n m S P):ev n (F (t.name wr)) P<0:=by
 have h1:=h.top hr hc (vL hU hF hst wJ hP);have hs:=h.pos;have hneg:t.cell wr 0<0:=by
  apply v_;intro hc2;rw [S_ _ (by omega)] at hlow;have:=abl (show 0<=t.cell wr 0 by omega) (show 0<=t.scale by omega);omega
 have h2:=Int.mul_neg_of_neg_of_pos hneg p0;apply v_;intro hc3;have:=Y_ (show 0<=t.scale by omega) (show 0<=ev n (F (t.name wr)) P by omega);omega
end
def aR.part (t:aR) (r c:Nat) (sg:Int) (j:Nat):aR:={ t with lines:=t.lines.mapIdx λi l=>if i<j∧i≠r then (l.1,t.told i r c sg) else l }
theorem Ni (t:aR) (r c:Nat) (sg:Int):t.part r c sg 0=t:=by
 unfold aR.part;have:(t.lines.mapIdx λi l=>if i<0∧i≠r then (l.1,t.told i r c sg) else l)=t.lines:=by
  apply List.ext_getElem?;intro i;rw [List.getElem?_mapIdx];cases t.lines[i]? <;> simp
 rw [this]
theorem eB (t:aR) (r c:Nat) (sg:Int) (j:Nat):(t.part r c sg j).lines.length=t.lines.length:=by simp [aR.part]
theorem qo (t:aR) (r c:Nat) (sg:Int) (j:Nat) {i:Nat} (hi:i<t.lines.length):(t.part r c sg j).lines[i]'(by rw [eB];exact hi)=if i<j∧i≠r then (t.lines[i].1,t.told i r c sg) else t.lines[i]:=by
 simp [aR.part]
theorem NT (t:aR) (r c:Nat) (sg:Int) (j:Nat) {i:Nat} (hi:j<=i∨i=r):(t.part r c sg j).lines.getD i (0,[])=t.lines.getD i (0,[]):=by
 unfold aR.part;simp only;rw [a_,a_,List.getElem?_mapIdx];cases h:t.lines[i]? with
 | none=>rfl
 | some l =>
  simp only [Option.map_some,Option.getD_some];rw [g_ (by omega)]
theorem si (t:aR) (r c:Nat) (sg:Int) (j:Nat) {i:Nat} (hi:j<=i∨i=r) (k:Nat):(t.part r c sg j).cell i k=t.cell i k:=by
 unfold aR.cell;rw [NT t r c sg j hi]
theorem Nl (t:aR) (r c:Nat) (sg:Int) (j:Nat):(t.part r c sg j).told j r c sg=t.told j r c sg:=by
 unfold aR.told;have h1:=si t r c sg j (i:=j) (.inl (d_ _));have h2:=si t r c sg j (i:=r) (.inr rfl);simp only [h1,h2]
 rfl
theorem Ig (t:aR) (r c:Nat) (sg:Int) (j:Nat):(t.part r c sg j).bK r c sg=t.bK r c sg:=by
 unfold aR.bK;have h2:=si t r c sg j (i:=r) (.inr rfl);simp only [h2]
 rfl
theorem Nn (t:aR) (r c:Nat) (sg:Int) {j:Nat} (hj:j<t.lines.length) (hjr:j≠r) :
  t.part r c sg (j+1)={ t.part r c sg j with lines:=(t.part r c sg j).lines.set j (((t.part r c sg j).lines[j]'(by rw [eB];exact hj)).1,t.told j r c sg) }:=by
 have:(t.part r c sg (j+1)).lines=(t.part r c sg j).lines.set j (((t.part r c sg j).lines[j]'(by rw [eB];exact hj)).1,t.told j r c sg):=by
  apply List.ext_getElem
  ·rw [eB,abj,eB]
  ·intro i h1 h2;rw [eB] at h1;rw [qo t r c sg _ h1,List.getElem_set];by_cases e:j=i
   ·subst e;rw [h_ ⟨by omega,hjr⟩,h_ rfl,qo t r c sg _ hj,g_ (by omega)]
   ·rw [g_ e,qo t r c sg _ h1];by_cases h:i<j∧i≠r
    ·rw [h_ h,h_ ⟨by omega,h.2⟩]
    ·rw [g_ h,g_ (by omega)]
 show ({ lines:=(t.part r c sg (j+1)).lines,aS:=t.aS,scale:=t.scale }:aR)=_;rw [this]
 rfl
theorem Nj (t:aR) (r c:Nat) (sg:Int):t.part r c sg (r+1)=t.part r c sg r:=by
 have:(t.part r c sg (r+1)).lines=(t.part r c sg r).lines:=by
  apply List.ext_getElem
  ·rw [eB,eB]
  ·intro i h1 h2;rw [eB] at h1;rw [qo t r c sg _ h1,qo t r c sg _ h1];by_cases h:i<r∧i≠r
   ·rw [h_ h,h_ ⟨by omega,h.2⟩]
   ·rw [g_ h,g_ (by omega)]
 show ({ lines:=(t.part r c sg (r+1)).lines,aS:=t.aS,scale:=t.scale }:aR)=_;rw [this]
 rfl
theorem Q3 (t:aR) (r c:Nat) {i:Nat} (hi:i<t.lines.length):(t.swap r c).lines[i]'(by rw [aR.iG];exact hi)=if i=r then (t.fe c,t.bK r (c+1) (Int.sign (t.cell r (c+1)))) else (t.lines[i].1,t.told i r (c+1) (Int.sign (t.cell r (c+1)))):=by
 simp [aR.swap]
theorem Np (t:aR) {r c:Nat} (hr:r<t.lines.length) :
  ({ lines:=(t.part r (c+1) (Int.sign (t.cell r (c+1))) t.lines.length).lines.set r (t.fe c,t.bK r (c+1) (Int.sign (t.cell r (c+1)))),aS:=t.aS.set c (t.name r),scale:=(t.cell r (c+1)).natAbs }:aR)=t.swap r c:=by
 have:(t.part r (c+1) (Int.sign (t.cell r (c+1))) t.lines.length).lines.set r (t.fe c,t.bK r (c+1) (Int.sign (t.cell r (c+1))))=(t.swap r c).lines:=by
  apply List.ext_getElem
  ·rw [abj,eB,aR.iG]
  ·intro i h1 h2;rw [abj,eB] at h1;rw [List.getElem_set,Q3 t r c h1];by_cases e:r=i
   ·subst e;rw [h_ rfl,h_ rfl]
   ·rw [g_ e,g_ (aaQ e),qo _ _ _ _ _ h1,h_ ⟨h1,aaQ e⟩]
 rw [this]
 rfl
end Go.Proofs.YtgaafamcajcifaaGreat.Pl
