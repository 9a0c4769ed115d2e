/- Joined: XReg5 XGrow3. -/
import Derived.Test.YtgaafamcajcifaaGreatJ07
set_option linter.unusedVariables false
set_option linter.unusedSimpArgs false
set_option maxRecDepth 100000
namespace Go.Proofs.YtgaafamcajcifaaGreat.Pl
section
variable {n:Nat} {s:Nat->Int} {at_:Nat} {St:Nat->Nat->Int}
def xP (n:Nat) (s:Nat->Int) (at_:Nat) (St:Nat->Nat->Int) (a:Nat):Int:=if a=at_∨aQ n St s a=0 then 0 else Int.fdiv (aQ n St s a) (aQ n St s at_)
theorem QE (j:Nat):∀ a,bO n s at_ St j a=if a<j then (λb=>St a b - xP n s at_ St a*St at_ b) else St a:=by
 induction j with
 | zero=>intro a;rw [g_ (by omega)];rfl
 | succ j ih =>
  intro a;show eT n s at_ (bO n s at_ St j) j a=_;by_cases e:a=j
  ·subst e;rw [h_ (by omega)];have hr:=nT (n:=n) (s:=s) (at_:=at_) (St:=St) a (a:=a) (d_ _);have ha:=qA (n:=n) (s:=s) (at_:=at_) (St:=St) a;have hrow:=CZ (n:=n) (s:=s) (at_:=at_) (St:=St) a (a:=a) (d_ _);have ad8:=Lm (n:=n) (s:=s) (at_:=at_) (St:=St) a;unfold eT xP;rw [hr,ha];by_cases hc:a=at_∨aQ n St s a=0
   ·rw [h_ hc,h_ hc,hrow];funext b;rw [aaR,Int.sub_zero]
   ·rw [g_ hc,g_ hc];funext b;unfold bE;rw [h_ rfl,hrow,ad8]
  ·rw [xO j e,ih a];by_cases h:a<j
   ·rw [h_ h,h_ (by omega)]
   ·rw [g_ h,g_ (by omega)]
theorem Bz (j a:Nat):aQ n (bO n s at_ St j) s a=if a<j then aQ n St s a - xP n s at_ St a*aQ n St s at_ else aQ n St s a:=by
 by_cases h:a<j
 ·rw [h_ h];unfold aQ;rw [QE j a,h_ h,<-dz,<-zD];refine aC λi _=>?_;rw [aaN,r_]
 ·rw [g_ h];exact nT j (by omega)
theorem Lp (h:fG n s St at_) {a:Nat} (ha:a<n):(aQ n St s a - xP n s at_ St a*aQ n St s at_).natAbs<=(aQ n St s at_).natAbs∧(a≠at_->(aQ n St s a - xP n s at_ St a*aQ n St s at_).natAbs<(aQ n St s at_).natAbs):=by
 have h1:0<(aQ n St s at_).natAbs:=by have:=h.2.1;omega
 unfold xP;by_cases hc:a=at_∨aQ n St s a=0
 ·rw [h_ hc,aaR,Int.sub_zero];rcases hc with e|e
  ·rw [e];exact ⟨d_ _,λh=>absurd rfl h⟩
  ·rw [e];exact ⟨by simp,λ_=>by simpa using h.2.1⟩
 ·rw [g_ hc];have:=zV (aQ n St s a) h.2.1;exact ⟨by omega,λ_=>this⟩
theorem Te (h:fG n s St at_) {M a:Nat} (hM:(aQ n St s a).natAbs<=M):(xP n s at_ St a).natAbs*(aQ n St s at_).natAbs<=M+(aQ n St s at_).natAbs:=by
 unfold xP;by_cases hc:a=at_∨aQ n St s a=0
 ·rw [h_ hc];simp
 ·rw [g_ hc];have h1:=Iz (aQ n St s a) h.2.1;have h2:(((Int.fdiv (aQ n St s a) (aQ n St s at_)).natAbs*(aQ n St s at_).natAbs:Nat):Int)<=(aQ n St s a).natAbs+(aQ n St s at_).natAbs:=by rw [Int.natCast_mul];exact h1
  omega
def vH (n:Nat) (St:Nat->Nat->Int) (N:Nat):Prop:=∀ a b,a<n->b<n->(St a b).natAbs<=N
def rz (n:Nat) (s:Nat->Int) (St:Nat->Nat->Int) (M:Nat):Prop:=∀ a,a<n->(aQ n St s a).natAbs<=M
theorem F3 (h:fG n s St at_) {N M:Nat} (hN:vH n St N) (hM:rz n s St M) (j:Nat):vH n (bO n s at_ St j) (N+(M+(aQ n St s at_).natAbs)/(aQ n St s at_).natAbs*N):=by
 intro a b ha hb;have h1:0<(aQ n St s at_).natAbs:=by have:=h.2.1;omega
 have h2:=hN a b ha hb;have h3:=hN at_ b h.1 hb;rw [QE j a];by_cases hj:a<j
 ·rw [h_ hj];have h4:(xP n s at_ St a).natAbs<=(M+(aQ n St s at_).natAbs)/(aQ n St s at_).natAbs:=(Nat.le_div_iff_mul_le h1).2 (Te h (hM a ha));have h5:(xP n s at_ St a*St at_ b).natAbs<=(M+(aQ n St s at_).natAbs)/(aQ n St s at_).natAbs*N:=by
   rw [Int.natAbs_mul];exact adN h4 h3
  show (St a b - xP n s at_ St a*St at_ b).natAbs<=_;generalize xP n s at_ St a*St at_ b=z at *
  omega
 ·rw [g_ hj];exact w_ h2 (Nat.le_add_right _ _)
theorem wD (h:fG n s St at_):rz n s (bO n s at_ St n) (aQ n St s at_).natAbs:=λa ha=>by
 rw [Bz,h_ ha];exact (Lp h ha).1
theorem Kq (h:fG n s St at_) {M:Nat} (hM:rz n s St M) (j:Nat):rz n s (bO n s at_ St j) M:=λa ha=>by
 rw [Bz]
 split
 ·exact w_ (Lp h ha).1 (hM at_ h.1)
 ·exact hM a ha
theorem zW {N M m:Nat} (hm:0<m) (Wp:m<=M):(N+(M+m)/m*N)*m<=3*(N*M):=by
 have h1:(M+m)/m*m<=M+m:=Nat.div_mul_le_self _ _;have h2:(M+m)/m*N*m=(M+m)/m*m*N:=Nat.mul_right_comm _ _ _;have h3:(M+m)/m*m*N<=(M+m)*N:=ab8 _ h1;have h4:N*m<=N*M:=abG _ Wp;rw [abg,h2];rw [abg,acm M N,acm m N] at h3;omega
def F4 (n:Nat) (s:Nat->Int) (St:Nat->Nat->Int):Prop:=(∀ a,a<n->0<=aQ n St s a)∨(∀ a,a<n->aQ n St s a<=0)
theorem Lr (h:fG n s St at_):F4 n s (bO n s at_ St n):=by
 have key:∀ a,a<n->∃ x,aQ n (bO n s at_ St n) s a=x∧(0<aQ n St s at_->0<=x)∧(aQ n St s at_<0->x<=0):=λa ha=>by
  refine ⟨_,rfl,?_,?_⟩ <;> rw [Bz,h_ ha] <;> unfold xP <;> intro hp
  ·by_cases hc:a=at_∨aQ n St s a=0
   ·rw [h_ hc];rcases hc with e | e
    ·rw [e];omega
    ·rw [e];omega
   ·rw [g_ hc,T_ _ (by omega)];have h1:=aaD (aQ n St s a) (aQ n St s at_);have h2:=aaX (aQ n St s a) h.2.1;rw [u_] at h1;omega
  ·by_cases hc:a=at_∨aQ n St s a=0
   ·rw [h_ hc];rcases hc with e | e
    ·rw [e];omega
    ·rw [e];omega
   ·rw [g_ hc,<-Int.neg_fdiv_neg,T_ _ (by omega)];have h1:=aaD (-aQ n St s a) (-aQ n St s at_);have h2:=aaX (-aQ n St s a) (show -aQ n St s at_≠0 by omega);generalize (-aQ n St s a)/(-aQ n St s at_)=q at *
    generalize (-aQ n St s a)%(-aQ n St s at_)=r at *
    rw [aaU,u_] at h1;omega
 rcases (show 0<aQ n St s at_∨aQ n St s at_<0 by have:=h.2.1;omega) with hp|hp
 ·exact .inl λa ha=>by obtain ⟨x,e,h1,_⟩:=key a ha;rw [e];exact h1 hp
 ·exact .inr λa ha=>by obtain ⟨x,e,_,h1⟩:=key a ha;rw [e];exact h1 hp
theorem NB (h:fG n s St at_) (hs:F4 n s St) {a:Nat} (ha:a<n) (hne:a≠at_):2*(aQ n St s a - xP n s at_ St a*aQ n St s at_).natAbs<=(aQ n St s a).natAbs:=by
 unfold xP;by_cases hc:a=at_∨aQ n St s a=0
 ·rcases hc with e | e
  ·exact absurd e hne
  ·rw [h_ (.inr e),e];simp
 ·rw [g_ hc];have hle:=h.2.2 a ha (λe=>hc (.inr e));have haz:aQ n St s a≠0:=λe=>hc (.inr e);have hnz:=h.2.1;have main:∀ x m:Int,0<m->m<=x->2*(x - x/m*m).natAbs<=x.natAbs:=λx m hm hx=>by
   have h1:=aaD x m;have h2:=aaX x (show m≠0 by omega);have h3:=aaY x hm;have h4:1<=x/m:=(abb hm).2 (by omega);have h5:m*1<=m*(x/m):=o_ h4 (by omega);rw [u_ (x/m) m];omega
  rcases hs with hp|hp
  ·have h1:=hp a ha;have h2:=hp at_ h.1;rw [T_ _ h2];exact main _ _ (by omega) (by omega)
  ·have h1:=hp a ha;have h2:=hp at_ h.1;rw [<-Int.neg_fdiv_neg,T_ _ (by omega)];have:=main (-aQ n St s a) (-aQ n St s at_) (by omega) (by omega);rw [abR] at this;omega
def rA (n:Nat) (s:Nat->Int) (C:Nat) (St:Nat->Nat->Int):Prop :=
 (F4 n s St∧∃ N M,vH n St N∧rz n s St M∧∀ at_,fG n s St at_->N*M*((M*(aQ n St s at_).natAbs)*(M*(aQ n St s at_).natAbs))<=C) ∨
 (vH n St (3*C)∧∀ at_,fG n s St at_->∀ a,a<n->a≠at_->aQ n St s a=0)
theorem vH.mono {N N':Nat} (h:vH n St N) (hN:N<=N'):vH n St N':=λa b ha hb=>w_ (h a b ha hb) hN
theorem Kr {N M m C:Nat} (hm:0<m) (Wp:m<=M) (hC:N*M*((M*m)*(M*m))<=C):N+(M+m)/m*N<=3*C:=by
 have h1:=zW (N:=N) hm Wp;have hM:0<M:=by omega
 have h2:1<=(M*m)*(M*m):=acK (acK hM hm) (acK hM hm);have h3:N*M*1<=N*M*((M*m)*(M*m)):=abG _ h2;have h4:(N+(M+m)/m*N)*1<=(N+(M+m)/m*N)*m:=abG _ hm;omega
theorem rA.kZ {C:Nat} (h:rA n s C St) (ha:fG n s St at_) (j:Nat) (hj:j<=n):vH n (bO n s at_ St j) (3*C):=by
 rcases h with ⟨_,N,M,hN,hM,hC⟩|⟨hN,hd⟩
 ·have h1:0<(aQ n St s at_).natAbs:=by have:=ha.2.1;omega
  exact (F3 ha hN hM j).mono (Kr h1 (hM at_ ha.1) (hC at_ ha))
 ·rw [zh j (λa ha'=>by
   by_cases e:a=at_
   ·exact .inl e
   ·exact .inr (hd at_ ha a (by omega) e))]
  exact hN
theorem Tf {N M m m' C:Nat} {N':Nat} (h1:N'*m<=3*(N*M)) (h2:2*m'<=M) (hC:N*M*((M*m)*(M*m))<=C):N'*m*((m*m')*(m*m'))<=C:=by
 have h3:N'*m*((m*m')*(m*m'))<=3*(N*M)*((m*m')*(m*m')):=ab8 _ h1;have h4:(2*m')*(2*m')<=M*M:=adN h2 h2;have e1:3*(N*M)*((m*m')*(m*m'))=N*M*(m*m)*(3*(m'*m')):=by
  simp only [Nat.mul_assoc,Nat.mul_left_comm,acm]
 have e2:N*M*((M*m)*(M*m))=N*M*(m*m)*(M*M):=by
  simp only [Nat.mul_assoc,Nat.mul_left_comm,acm]
 have e3:(2*m')*(2*m')=4*(m'*m'):=by
  simp only [Nat.mul_assoc,Nat.mul_left_comm,acm]
 have h5:N*M*(m*m)*(3*(m'*m'))<=N*M*(m*m)*(M*M):=abG _ (by omega);omega
theorem rA.round {C:Nat} (h:rA n s C St) (ha:fG n s St at_):rA n s C (bO n s at_ St n):=by
 have hmid:=h.kZ ha n (d_ _);rcases h with ⟨hs,N,M,hN,hM,hC⟩|⟨hN,hd⟩
 ·have hm:0<(aQ n St s at_).natAbs:=by have:=ha.2.1;omega
  have hat:aQ n (bO n s at_ St n) s at_=aQ n St s at_:=qA n;by_cases hex:∃ a,a<n∧a≠at_∧aQ n (bO n s at_ St n) s a≠0
  ·obtain ⟨a,ha1,ha2,ha3⟩:=hex;refine .inl ⟨Lr ha,_,_,F3 ha hN hM n,wD ha,λat2 h2=>?_⟩;have h3:=h2.2.2 a ha1 ha3;have h4:2*(aQ n (bO n s at_ St n) s a).natAbs<=M:=by
    rw [Bz,h_ ha1];exact w_ (NB ha hs ha1 ha2) (hM a ha1)
   exact Tf (zW hm (hM at_ ha.1)) (show 2*(aQ n (bO n s at_ St n) s at2).natAbs<=M by omega) (hC at_ ha)
  ·refine .inr ⟨hmid,λat2 h2 a ha1 hne=>?_⟩;have key:∀ b,b<n->b≠at_->aQ n (bO n s at_ St n) s b=0:=λb hb hbn=>by
    apply v_;intro h3;exact hex ⟨b,hb,hbn,h3⟩
   have e2:at2=at_:=by
    apply v_;intro h3;exact h2.2.1 (key at2 h2.1 h3)
   exact key a ha1 (by rw [<-e2];exact hne)
 ·have e:bO n s at_ St n=St:=zh n (λa ha'=>by
   by_cases e:a=at_
   ·exact .inl e
   ·exact .inr (hd at_ ha a ha' e))
  rw [e];exact .inr ⟨hN,hd⟩
theorem IC (n:Nat):vH n unit 1:=λa b _ _=>by unfold unit;split <;> simp
theorem rA.first {M:Nat} (hM:rz n s unit M) (ha:fG n s unit at_):rA n s (3*M*((M*M)*(M*M))) (bO n s at_ unit n)∧∀ j,vH n (bO n s at_ unit j) (3*(3*M*((M*M)*(M*M)))):=by
 have hm:0<(aQ n unit s at_).natAbs:=by have:=ha.2.1;omega
 have Wp:=hM at_ ha.1;have h1:=zW (N:=1) hm Wp;rw [abQ] at h1;refine ⟨.inl ⟨Lr ha,_,_,F3 ha (IC n) hM n,wD ha,λat2 h2=>?_⟩,λj=>(F3 ha (IC n) hM j).mono ?_⟩
 ·have h3:=wD ha at2 h2.1;refine adN h1 (adN ?_ ?_) <;> exact adN Wp (w_ h3 Wp)
 ·have hM1:1<=M:=by omega
  have h4:(1+(M+(aQ n unit s at_).natAbs)/(aQ n unit s at_).natAbs*1)*1<=(1+(M+(aQ n unit s at_).natAbs)/(aQ n unit s at_).natAbs*1)*(aQ n unit s at_).natAbs:=abG _ hm;have h5:1<=(M*M)*(M*M):=acK (acK hM1 hM1) (acK hM1 hM1);have h6:3*M*1<=3*M*((M*M)*(M*M)):=abG _ h5;omega
theorem gX.inv {M k:Nat} (hM:rz n s unit M) (h:gX n s k St):rz n s St M∧(k=0∧St=unit∨rA n s (3*M*((M*M)*(M*M))) St):=by
 obtain ⟨T,A,h0,rfl,h2⟩:=h
 induction k with
 | zero=>rw [h0];exact ⟨hM,.inl ⟨rfl,rfl⟩⟩
 | succ k ih =>
  obtain ⟨i1,i2⟩:=ih (λi hi=>h2 i (by omega));obtain ⟨h3,h4⟩:=h2 k (by omega);rw [h4];refine ⟨λa ha=>w_ (wD h3 a ha) (i1 _ h3.1),.inr ?_⟩;rcases i2 with ⟨_,e⟩|e
  ·rw [e] at h3;rw [e];exact (rA.first hM h3).1
  ·exact e.round h3
theorem gX.RL {M k:Nat} (hM:rz n s unit M) (h:gX n s k St) (ha:fG n s St at_) (j:Nat) (hj:j<=n):vH n (bO n s at_ St j) (3*(3*M*((M*M)*(M*M)))):=by
 rcases (h.inv hM).2 with ⟨_,e⟩|e
 ·subst e;exact (rA.first hM ha).2 j
 ·exact e.kZ ha j hj
end
end Go.Proofs.YtgaafamcajcifaaGreat.Pl

namespace Go.Proofs.YtgaafamcajcifaaGreat
open Go.RowKit Go.Sort
section
variable {P:Program} {ops:Array Oper} {md:Region.Mode} {w0:World} {Φ:Tmp->Value->World->Prop} {G:Tmp->Option (Value->Prop)}
def uT (md:Region.Mode) (ops:Array Oper) (p:Nat):Bool :=
 decide (ops.size<=p+3)&&((List.range p).all λk=>(List.range (p+1)).any λj=>decide (k<j)&&match ops[j]? with
  | none=>false
  | some o=>o.after.any λe=>e.on == k&&Region.binds md e)&&(match ops[p+1]? with
  | none=>true
  | some o=>o.after.any λe=>e.on == p&&Region.binds md e)&&match ops[p+2]? with
  | none=>true
  | some o=>o.after.any λe=>e.on == p&&Region.binds md e
theorem uT.waits {p:Nat} (h:uT md ops p=true):KZ md ops p:=by
 intro listed hD j hj hp k hk;simp only [uT,N_] at h;obtain ⟨⟨⟨h1,h2⟩,h3⟩,h4⟩:=h;obtain ⟨_,oj,hoj,hall⟩:=adF.1 hj;have hjs:=(aa3.1 hoj).1;have hsz:=aaP h1;rcases (show j=p∨j=p+1∨j=p+2 by omega) with e|e|e
 ·subst e;exact mh h2 hD (λo ho e he hb=>by rw [hoj] at ho;cases ho;exact hall e he hb) (j - k) k hk (by omega)
 ·subst e;simp only [hoj] at h3;obtain ⟨e,he1,he2⟩:=abZ.1 h3;simp only [N_,beq_iff_eq] at he2;have hpl:=hall e he1 he2.2;rw [he2.1] at hpl;exact mh h2 hD (λo ho e he hb=>hD p hpl o ho e he hb) (p - k) k hk (by omega)
 ·subst e;simp only [hoj] at h4;obtain ⟨e,he1,he2⟩:=abZ.1 h4;simp only [N_,beq_iff_eq] at he2;have hpl:=hall e he1 he2.2;rw [he2.1] at hpl;exact mh h2 hD (λo ho e he hb=>hD p hpl o ho e he hb) (p - k) k hk (by omega)
def K4 (ops:Array Oper) (n p:Nat):Bool :=
 Region.noSelect ops&&nZ ops n&&uT .any ops p&&Aj .any ops p p 0 (bA ops.size 0)&&(ops.size == p+3)&&(Region.ready .any ops (bA ops.size p) == [p])&&(Region.ready .any ops ((bA ops.size p).setIfInBounds p true) == [p+1])&&(Region.ready .any ops (((bA ops.size p).setIfInBounds p true).setIfInBounds (p+1) true) == [p+2])&&((ops[p]?).all λo=>o.guard.isNone)&&((ops[p+1]?).all λo=>o.guard.isNone)&&((ops[p+2]?).all λo=>o.guard.isNone)&&(Region.ready .any ops ((((bA ops.size p).setIfInBounds p true).setIfInBounds (p+1) true).setIfInBounds (p+2) true)).isEmpty
theorem rQ {id:Nat} {Q:Exit->Act->World->Prop} {a:Act} {l:List Oper} (Φ:Tmp->Value->World->Prop) (G:Tmp->Option (Value->Prop)) (n p:Nat) (hm:P.follows .mixedOrders=true) (hn:a.tmps.size=n)
  (hB:K4 l.toArray n p=true) (hΦ:∀ t v w w',Φ t v w->ae w w'->Φ t v w')
  (h:iV P .any l.toArray w0 Φ G (λlast a'=>∀ w,ae w0 w->(∀ (i:Nat) (o:Oper) (t:Tmp),i<p->l[i]?=some o->o.dst=some t->Φ t (a'.eval (.tmp t)) w)->Co P Q (last::l.drop (p+1)) a' w) (l.take (p+1)) a):(Code.region id l.toArray true).wp P Q a w0:=by
 simp only [K4,N_] at hB;obtain ⟨⟨⟨⟨⟨⟨⟨⟨⟨⟨⟨hs,hd⟩,hw⟩,hL⟩,hp⟩,hR⟩,hR2⟩,RY⟩,hg⟩,hg2⟩,hg3⟩,hE⟩:=hB;have hsz:l.toArray.size=p+3:=by simpa using hp
 have hlp:l.length=p+3:=by simpa using hsz
 obtain ⟨last,el,h⟩:=h.split;have htl:(l.take (p+1)).length=p+1:=by simp [hlp]
 have hdl:(l.take (p+1)).dropLast.length=p:=by simp [hlp]
 have hlast:l.toArray[p]?=some last:=by
  have h1:(l.take (p+1))[p]?=some last:=by rw [el,S_ (by omega)];simp [hlp]
  rw [aad (by omega)] at h1
  simpa using h1
 have hpre:∀ j,j<p->(l.take (p+1)).dropLast[j]?=l[j]?:=λj hj=>by
  rw [acx,h_ (by omega),aad (by omega)]
 obtain ⟨kZ,fin,hfin⟩:∃ kZ fin,l.drop (p+1)=[kZ,fin]:=by
  have:(l.drop (p+1)).length=2:=by simp [hlp]
  rcases hd:l.drop (p+1) with _|⟨a,_|⟨b,_|⟨c,t⟩⟩⟩
  ·rw [hd] at this;cases this
  ·rw [hd] at this;cases this
  ·exact ⟨a,b,rfl⟩
  ·rw [hd] at this;simp at this
 have TZ:l.toArray[p+1]?=some kZ:=by
  have:(l.drop (p+1))[0]?=some kZ:=by rw [hfin];rfl
  rw [acC] at this
  simpa using this
 have GR:l.toArray[p+2]?=some fin:=by
  have:(l.drop (p+1))[1]?=some fin:=by rw [hfin];rfl
  rw [acC] at this
  simpa using this
 refine wp_region_any hm ?_;rw [hsz];refine mg (G:=G) (m:=3) (p:=p) (n:=n) hd hΦ p (bA (p+3) 0) a _ hn ⟨ae.draw w0,λi hi=>?_⟩ ?_
 ·by_cases h:i<p+3 <;> simp [h,bA] at hi
 ·have:=uS (P:=P) (Q:=Q) (m:=3) (w0:=w0) (Φ:=Φ) (G:=G) (md:=.any) (ops:=l.toArray) (p:=p) hd (uT.waits hw) hs (l.take (p+1)).dropLast 0 a (λj hj=>by rw [M_,aa2];exact hpre j (by omega)) (by omega) (by rw [hsz];exact zN _) (by rw [hdl];exact hL) ?_
  ·rw [hsz,hdl] at this;exact this
  ·refine qg.mono (n:=n) (λa' hn' hb w hk=>?_) hn h;have h1:=hb w hk.cZ (λi o t hi ho ht=>hk.phi i (rf _ p i hi (by omega)).1 o t (by simpa using ho) ht);have hR':Region.ready .any l.toArray (bA l.toArray.size p)=[p]:=by simpa using hR
   have Pv:Region.ready .any l.toArray ((bA l.toArray.size p).setIfInBounds p true)=[p+1]:=by simpa using hR2
   have Yn:Region.ready .any l.toArray (((bA l.toArray.size p).setIfInBounds p true).setIfInBounds (p+1) true)=[p+2]:=by simpa using RY
   rw [hfin] at h1;refine ⟨λh0=>(by rw [hR'] at h0;cases h0),λi hi=>?_⟩;rw [hR',I_] at hi;subst hi;unfold wpOp;simp only [hlast];have hgn:last.guard=none:=by
    have:=hg;simp only [hlast,adw] at this;simpa using this
   have hwn:Region.wanted last (yielded l.toArray a'.tmps)=true:=by simp [Region.wanted,hgn]
   simp only [hwn,if_true];refine .inl (Oper.wp_mono (λa'' w'' hq=>?_) h1);refine ⟨λh0=>(by rw [Pv] at h0;cases h0),λi hi=>?_⟩;rw [Pv,I_] at hi;subst hi;unfold wpOp;simp only [TZ];have hgn2:kZ.guard=none:=by
    have:=hg2;simp only [TZ,adw] at this;simpa using this
   have hwn2:Region.wanted kZ (yielded l.toArray a''.tmps)=true:=by simp [Region.wanted,hgn2]
   simp only [hwn2,if_true];refine .inl (Oper.wp_mono (λa3 w3 hq=>?_) hq);refine ⟨λh0=>(by rw [Yn] at h0;cases h0),λi hi=>?_⟩;rw [Yn,I_] at hi;subst hi;unfold wpOp;simp only [GR];have acs:fin.guard=none:=by
    have:=hg3;simp only [GR,adw] at this;simpa using this
   have acu:Region.wanted fin (yielded l.toArray a3.tmps)=true:=by simp [Region.wanted,acs]
   simp only [acu,if_true];refine .inl (Oper.wp_mono (λa4 w4 hq=>⟨?_,hq⟩) hq);exact List.isEmpty_iff.1 hE
end
end Go.Proofs.YtgaafamcajcifaaGreat
