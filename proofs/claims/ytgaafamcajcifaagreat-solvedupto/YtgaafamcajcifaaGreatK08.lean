/- Joined: XReg5 XGrow3. -/
import Derived.Test.YtgaafamcajcifaaGreatK07
set_option linter.unusedVariables false
set_option linter.unusedSimpArgs false
set_option maxRecDepth 100000
namespace Go.Proofs.YtgaafamcajcifaaGreat.Pl
section
variable {n:Nat} {s:Nat->Int} {at_:Nat} {St:Nat->Nat->Int}
def xO (n:Nat) (s:Nat->Int) (at_:Nat) (St:Nat->Nat->Int) (a:Nat):Int:=if a=at_∨aQ n St s a=0 then 0 else Int.fdiv (aQ n St s a) (aQ n St s at_)
theorem QB (j:Nat):∀ a,bO n s at_ St j a=if a<j then (λb=>St a b - xO n s at_ St a*St at_ b) else St a:=by
 induction j with
 | zero=>intro a;rw [g_ (by omega)];rfl
 | succ j ih =>
  intro a;show eT n s at_ (bO n s at_ St j) j a=_;by_cases e:a=j
  ·subst e;rw [h_ (by omega)];have hr:=nR (n:=n) (s:=s) (at_:=at_) (St:=St) a (a:=a) (d_ _);have ha:=qz (n:=n) (s:=s) (at_:=at_) (St:=St) a;have hrow:=CY (n:=n) (s:=s) (at_:=at_) (St:=St) a (a:=a) (d_ _);have adV:=Li (n:=n) (s:=s) (at_:=at_) (St:=St) a;unfold eT xO;rw [hr,ha];by_cases hc:a=at_∨aQ n St s a=0
   ·rw [h_ hc,h_ hc,hrow];funext b;rw [aaM,Int.sub_zero]
   ·rw [g_ hc,g_ hc];funext b;unfold bE;rw [h_ rfl,hrow,adV]
  ·rw [xN j e,ih a];by_cases h:a<j
   ·rw [h_ h,h_ (by omega)]
   ·rw [g_ h,g_ (by omega)]
theorem Bw (j a:Nat):aQ n (bO n s at_ St j) s a=if a<j then aQ n St s a - xO n s at_ St a*aQ n St s at_ else aQ n St s a:=by
 by_cases h:a<j
 ·rw [h_ h];unfold aQ;rw [QB j a,h_ h,<-dz,<-zC];refine aC λi _=>?_;rw [aaI,r_]
 ·rw [g_ h];exact nR j (by omega)
theorem Lj (h:fG n s St at_) {a:Nat} (ha:a<n):(aQ n St s a - xO n s at_ St a*aQ n St s at_).natAbs<=(aQ n St s at_).natAbs∧(a≠at_->(aQ n St s a - xO n s at_ St a*aQ n St s at_).natAbs<(aQ n St s at_).natAbs):=by
 have h1:0<(aQ n St s at_).natAbs:=by have:=h.2.1;omega
 unfold xO;by_cases hc:a=at_∨aQ n St s a=0
 ·rw [h_ hc,aaM,Int.sub_zero];rcases hc with e|e
  ·rw [e];exact ⟨d_ _,λh=>absurd rfl h⟩
  ·rw [e];exact ⟨by simp,λ_=>by simpa using h.2.1⟩
 ·rw [g_ hc];have:=zU (aQ n St s a) h.2.1;exact ⟨by omega,λ_=>this⟩
theorem Ta (h:fG n s St at_) {M a:Nat} (hM:(aQ n St s a).natAbs<=M):(xO n s at_ St a).natAbs*(aQ n St s at_).natAbs<=M+(aQ n St s at_).natAbs:=by
 unfold xO;by_cases hc:a=at_∨aQ n St s a=0
 ·rw [h_ hc];simp
 ·rw [g_ hc];have h1:=Iu (aQ n St s a) h.2.1;have h2:(((Int.fdiv (aQ n St s a) (aQ n St s at_)).natAbs*(aQ n St s at_).natAbs:Nat):Int)<=(aQ n St s a).natAbs+(aQ n St s at_).natAbs:=by rw [Int.natCast_mul];exact h1
  omega
def vG (n:Nat) (St:Nat->Nat->Int) (N:Nat):Prop:=∀ a b,a<n->b<n->(St a b).natAbs<=N
def ry (n:Nat) (s:Nat->Int) (St:Nat->Nat->Int) (M:Nat):Prop:=∀ a,a<n->(aQ n St s a).natAbs<=M
theorem FX (h:fG n s St at_) {N M:Nat} (hN:vG n St N) (hM:ry n s St M) (j:Nat):vG n (bO n s at_ St j) (N+(M+(aQ n St s at_).natAbs)/(aQ n St s at_).natAbs*N):=by
 intro a b ha hb;have h1:0<(aQ n St s at_).natAbs:=by have:=h.2.1;omega
 have h2:=hN a b ha hb;have h3:=hN at_ b h.1 hb;rw [QB j a];by_cases hj:a<j
 ·rw [h_ hj];have h4:(xO n s at_ St a).natAbs<=(M+(aQ n St s at_).natAbs)/(aQ n St s at_).natAbs:=(Nat.le_div_iff_mul_le h1).2 (Ta h (hM a ha));have h5:(xO n s at_ St a*St at_ b).natAbs<=(M+(aQ n St s at_).natAbs)/(aQ n St s at_).natAbs*N:=by
   rw [Int.natAbs_mul];exact Nat.mul_le_mul h4 h3
  show (St a b - xO n s at_ St a*St at_ b).natAbs<=_;generalize xO n s at_ St a*St at_ b=z at *
  omega
 ·rw [g_ hj];exact w_ h2 (Nat.le_add_right _ _)
theorem wC (h:fG n s St at_):ry n s (bO n s at_ St n) (aQ n St s at_).natAbs:=λa ha=>by
 rw [Bw,h_ ha];exact (Lj h ha).1
theorem Km (h:fG n s St at_) {M:Nat} (hM:ry n s St M) (j:Nat):ry n s (bO n s at_ St j) M:=λa ha=>by
 rw [Bw]
 split
 ·exact w_ (Lj h ha).1 (hM at_ h.1)
 ·exact hM a ha
theorem zV {N M m:Nat} (hm:0<m) (Wj:m<=M):(N+(M+m)/m*N)*m<=3*(N*M):=by
 have h1:(M+m)/m*m<=M+m:=Nat.div_mul_le_self _ _;have h2:(M+m)/m*N*m=(M+m)/m*m*N:=Nat.mul_right_comm _ _ _;have h3:(M+m)/m*m*N<=(M+m)*N:=abE _ h1;have h4:N*m<=N*M:=abq _ Wj;rw [aa_,h2];rw [aa_,abL M N,abL m N] at h3;omega
def FY (n:Nat) (s:Nat->Int) (St:Nat->Nat->Int):Prop:=(∀ a,a<n->0<=aQ n St s a)∨(∀ a,a<n->aQ n St s a<=0)
theorem Ll (h:fG n s St at_):FY n s (bO n s at_ St n):=by
 have key:∀ a,a<n->∃ x,aQ n (bO n s at_ St n) s a=x∧(0<aQ n St s at_->0<=x)∧(aQ n St s at_<0->x<=0):=λa ha=>by
  refine ⟨_,rfl,?_,?_⟩ <;> rw [Bw,h_ ha] <;> unfold xO <;> intro hp
  ·by_cases hc:a=at_∨aQ n St s a=0
   ·rw [h_ hc];rcases hc with e | e
    ·rw [e];omega
    ·rw [e];omega
   ·rw [g_ hc,S_ _ (by omega)];have h1:=aay (aQ n St s a) (aQ n St s at_);have h2:=aaS (aQ n St s a) h.2.1;rw [u_] at h1;omega
  ·by_cases hc:a=at_∨aQ n St s a=0
   ·rw [h_ hc];rcases hc with e | e
    ·rw [e];omega
    ·rw [e];omega
   ·rw [g_ hc,<-Int.neg_fdiv_neg,S_ _ (by omega)];have h1:=aay (-aQ n St s a) (-aQ n St s at_);have h2:=aaS (-aQ n St s a) (show -aQ n St s at_≠0 by omega);generalize (-aQ n St s a)/(-aQ n St s at_)=q at *
    generalize (-aQ n St s a)%(-aQ n St s at_)=r at *
    rw [aaP,u_] at h1;omega
 rcases (show 0<aQ n St s at_∨aQ n St s at_<0 by have:=h.2.1;omega) with hp|hp
 ·exact .inl λa ha=>by obtain ⟨x,e,h1,_⟩:=key a ha;rw [e];exact h1 hp
 ·exact .inr λa ha=>by obtain ⟨x,e,_,h1⟩:=key a ha;rw [e];exact h1 hp
theorem Ny (h:fG n s St at_) (hs:FY n s St) {a:Nat} (ha:a<n) (hne:a≠at_):2*(aQ n St s a - xO n s at_ St a*aQ n St s at_).natAbs<=(aQ n St s a).natAbs:=by
 unfold xO;by_cases hc:a=at_∨aQ n St s a=0
 ·rcases hc with e | e
  ·exact absurd e hne
  ·rw [h_ (.inr e),e];simp
 ·rw [g_ hc];have hle:=h.2.2 a ha (λe=>hc (.inr e));have haz:aQ n St s a≠0:=λe=>hc (.inr e);have hnz:=h.2.1;have main:∀ x m:Int,0<m->m<=x->2*(x - x/m*m).natAbs<=x.natAbs:=λx m hm hx=>by
   have h1:=aay x m;have h2:=aaS x (show m≠0 by omega);have h3:=aaT x hm;have h4:1<=x/m:=(aa7 hm).2 (by omega);have h5:m*1<=m*(x/m):=o_ h4 (by omega);rw [u_ (x/m) m];omega
  rcases hs with hp|hp
  ·have h1:=hp a ha;have h2:=hp at_ h.1;rw [S_ _ h2];exact main _ _ (by omega) (by omega)
  ·have h1:=hp a ha;have h2:=hp at_ h.1;rw [<-Int.neg_fdiv_neg,S_ _ (by omega)];have:=main (-aQ n St s a) (-aQ n St s at_) (by omega) (by omega);rw [abC] at this;omega
def rz (n:Nat) (s:Nat->Int) (C:Nat) (St:Nat->Nat->Int):Prop :=
 (FY n s St∧∃ N M,vG n St N∧ry n s St M∧∀ at_,fG n s St at_->N*M*((M*(aQ n St s at_).natAbs)*(M*(aQ n St s at_).natAbs))<=C) ∨
 (vG n St (3*C)∧∀ at_,fG n s St at_->∀ a,a<n->a≠at_->aQ n St s a=0)
theorem vG.mono {N N':Nat} (h:vG n St N) (hN:N<=N'):vG n St N':=λa b ha hb=>w_ (h a b ha hb) hN
theorem Kn {N M m C:Nat} (hm:0<m) (Wj:m<=M) (hC:N*M*((M*m)*(M*m))<=C):N+(M+m)/m*N<=3*C:=by
 have h1:=zV (N:=N) hm Wj;have hM:0<M:=by omega
 have h2:1<=(M*m)*(M*m):=Nat.mul_pos (Nat.mul_pos hM hm) (Nat.mul_pos hM hm);have h3:N*M*1<=N*M*((M*m)*(M*m)):=abq _ h2;have h4:(N+(M+m)/m*N)*1<=(N+(M+m)/m*N)*m:=abq _ hm;omega
theorem rz.kZ {C:Nat} (h:rz n s C St) (ha:fG n s St at_) (j:Nat) (hj:j<=n):vG n (bO n s at_ St j) (3*C):=by
 rcases h with ⟨_,N,M,hN,hM,hC⟩|⟨hN,hd⟩
 ·have h1:0<(aQ n St s at_).natAbs:=by have:=ha.2.1;omega
  exact (FX ha hN hM j).mono (Kn h1 (hM at_ ha.1) (hC at_ ha))
 ·rw [zg j (λa ha'=>by
   by_cases e:a=at_
   ·exact .inl e
   ·exact .inr (hd at_ ha a (by omega) e))]
  exact hN
theorem Tc {N M m m' C:Nat} {N':Nat} (h1:N'*m<=3*(N*M)) (h2:2*m'<=M) (hC:N*M*((M*m)*(M*m))<=C):N'*m*((m*m')*(m*m'))<=C:=by
 have h3:N'*m*((m*m')*(m*m'))<=3*(N*M)*((m*m')*(m*m')):=abE _ h1;have h4:(2*m')*(2*m')<=M*M:=Nat.mul_le_mul h2 h2;have e1:3*(N*M)*((m*m')*(m*m'))=N*M*(m*m)*(3*(m'*m')):=by
  simp only [Nat.mul_assoc,Nat.mul_left_comm,abL]
 have e2:N*M*((M*m)*(M*m))=N*M*(m*m)*(M*M):=by
  simp only [Nat.mul_assoc,Nat.mul_left_comm,abL]
 have e3:(2*m')*(2*m')=4*(m'*m'):=by
  simp only [Nat.mul_assoc,Nat.mul_left_comm,abL]
 have h5:N*M*(m*m)*(3*(m'*m'))<=N*M*(m*m)*(M*M):=abq _ (by omega);omega
theorem rz.round {C:Nat} (h:rz n s C St) (ha:fG n s St at_):rz n s C (bO n s at_ St n):=by
 have hmid:=h.kZ ha n (d_ _);rcases h with ⟨hs,N,M,hN,hM,hC⟩|⟨hN,hd⟩
 ·have hm:0<(aQ n St s at_).natAbs:=by have:=ha.2.1;omega
  have hat:aQ n (bO n s at_ St n) s at_=aQ n St s at_:=qz n;by_cases hex:∃ a,a<n∧a≠at_∧aQ n (bO n s at_ St n) s a≠0
  ·obtain ⟨a,ha1,ha2,ha3⟩:=hex;refine .inl ⟨Ll ha,_,_,FX ha hN hM n,wC ha,λat2 h2=>?_⟩;have h3:=h2.2.2 a ha1 ha3;have h4:2*(aQ n (bO n s at_ St n) s a).natAbs<=M:=by
    rw [Bw,h_ ha1];exact w_ (Ny ha hs ha1 ha2) (hM a ha1)
   exact Tc (zV hm (hM at_ ha.1)) (show 2*(aQ n (bO n s at_ St n) s at2).natAbs<=M by omega) (hC at_ ha)
  ·refine .inr ⟨hmid,λat2 h2 a ha1 hne=>?_⟩;have key:∀ b,b<n->b≠at_->aQ n (bO n s at_ St n) s b=0:=λb hb hbn=>by
    apply v_;intro h3;exact hex ⟨b,hb,hbn,h3⟩
   have e2:at2=at_:=by
    apply v_;intro h3;exact h2.2.1 (key at2 h2.1 h3)
   exact key a ha1 (by rw [<-e2];exact hne)
 ·have e:bO n s at_ St n=St:=zg n (λa ha'=>by
   by_cases e:a=at_
   ·exact .inl e
   ·exact .inr (hd at_ ha a ha' e))
  rw [e];exact .inr ⟨hN,hd⟩
theorem Iz (n:Nat):vG n unit 1:=λa b _ _=>by unfold unit;split <;> simp
theorem rz.first {M:Nat} (hM:ry n s unit M) (ha:fG n s unit at_):rz n s (3*M*((M*M)*(M*M))) (bO n s at_ unit n)∧∀ j,vG n (bO n s at_ unit j) (3*(3*M*((M*M)*(M*M)))):=by
 have hm:0<(aQ n unit s at_).natAbs:=by have:=ha.2.1;omega
 have Wj:=hM at_ ha.1;have h1:=zV (N:=1) hm Wj;rw [abA] at h1;refine ⟨.inl ⟨Ll ha,_,_,FX ha (Iz n) hM n,wC ha,λat2 h2=>?_⟩,λj=>(FX ha (Iz n) hM j).mono ?_⟩
 ·have h3:=wC ha at2 h2.1;refine Nat.mul_le_mul h1 (Nat.mul_le_mul ?_ ?_) <;> exact Nat.mul_le_mul Wj (w_ h3 Wj)
 ·have hM1:1<=M:=by omega
  have h4:(1+(M+(aQ n unit s at_).natAbs)/(aQ n unit s at_).natAbs*1)*1<=(1+(M+(aQ n unit s at_).natAbs)/(aQ n unit s at_).natAbs*1)*(aQ n unit s at_).natAbs:=abq _ hm;have h5:1<=(M*M)*(M*M):=Nat.mul_pos (Nat.mul_pos hM1 hM1) (Nat.mul_pos hM1 hM1);have h6:3*M*1<=3*M*((M*M)*(M*M)):=abq _ h5;omega
theorem gX.inv {M k:Nat} (hM:ry n s unit M) (h:gX n s k St):ry n s St M∧(k=0∧St=unit∨rz n s (3*M*((M*M)*(M*M))) St):=by
 obtain ⟨T,A,h0,rfl,h2⟩:=h
 induction k with
 | zero=>rw [h0];exact ⟨hM,.inl ⟨rfl,rfl⟩⟩
 | succ k ih =>
  obtain ⟨i1,i2⟩:=ih (λi hi=>h2 i (by omega));obtain ⟨h3,h4⟩:=h2 k (by omega);rw [h4];refine ⟨λa ha=>w_ (wC h3 a ha) (i1 _ h3.1),.inr ?_⟩;rcases i2 with ⟨_,e⟩|e
  ·rw [e] at h3;rw [e];exact (rz.first hM h3).1
  ·exact e.round h3
theorem gX.RH {M k:Nat} (hM:ry n s unit M) (h:gX n s k St) (ha:fG n s St at_) (j:Nat) (hj:j<=n):vG n (bO n s at_ St j) (3*(3*M*((M*M)*(M*M)))):=by
 rcases (h.inv hM).2 with ⟨_,e⟩|e
 ·subst e;exact (rz.first hM ha).2 j
 ·exact e.kZ ha j hj
end
end Go.Proofs.YtgaafamcajcifaaGreat.Pl

namespace Go.Proofs.YtgaafamcajcifaaGreat
open Go.RowKit Go.Sort
section
variable {P:Program} {ops:Array Oper} {md:Region.Mode} {w0:World} {Φ:Tmp->Value->World->Prop} {G:Tmp->Option (Value->Prop)}
def uS (md:Region.Mode) (ops:Array Oper) (p:Nat):Bool :=
 decide (ops.size<=p+3)&&((List.range p).all λk=>(List.range (p+1)).any λj=>decide (k<j)&&match ops[j]? with
  | none=>false
  | some o=>o.after.any λe=>e.on == k&&Region.binds md e)&&(match ops[p+1]? with
  | none=>true
  | some o=>o.after.any λe=>e.on == p&&Region.binds md e)&&match ops[p+2]? with
  | none=>true
  | some o=>o.after.any λe=>e.on == p&&Region.binds md e
theorem uS.waits {p:Nat} (h:uS md ops p=true):KW md ops p:=by
 intro listed hD j hj hp k hk;simp only [uS,N_] at h;obtain ⟨⟨⟨h1,h2⟩,h3⟩,h4⟩:=h;obtain ⟨_,oj,hoj,hall⟩:=mem_ready.1 hj;have hjs:=(aaY.1 hoj).1;have hsz:=aaJ h1;rcases (show j=p∨j=p+1∨j=p+2 by omega) with e|e|e
 ·subst e;exact mg h2 hD (λo ho e he hb=>by rw [hoj] at ho;cases ho;exact hall e he hb) (j - k) k hk (by omega)
 ·subst e;simp only [hoj] at h3;obtain ⟨e,he1,he2⟩:=Array.any_eq_true'.1 h3;simp only [N_,beq_iff_eq] at he2;have hpl:=hall e he1 he2.2;rw [he2.1] at hpl;exact mg h2 hD (λo ho e he hb=>hD p hpl o ho e he hb) (p - k) k hk (by omega)
 ·subst e;simp only [hoj] at h4;obtain ⟨e,he1,he2⟩:=Array.any_eq_true'.1 h4;simp only [N_,beq_iff_eq] at he2;have hpl:=hall e he1 he2.2;rw [he2.1] at hpl;exact mg h2 hD (λo ho e he hb=>hD p hpl o ho e he hb) (p - k) k hk (by omega)
def KY (ops:Array Oper) (n p:Nat):Bool :=
 Region.noSelect ops&&nX ops n&&uS .any ops p&&Ai .any ops p p 0 (bA ops.size 0)&&(ops.size == p+3)&&(Region.ready .any ops (bA ops.size p) == [p])&&(Region.ready .any ops ((bA ops.size p).setIfInBounds p true) == [p+1])&&(Region.ready .any ops (((bA ops.size p).setIfInBounds p true).setIfInBounds (p+1) true) == [p+2])&&((ops[p]?).all λo=>o.guard.isNone)&&((ops[p+1]?).all λo=>o.guard.isNone)&&((ops[p+2]?).all λo=>o.guard.isNone)&&(Region.ready .any ops ((((bA ops.size p).setIfInBounds p true).setIfInBounds (p+1) true).setIfInBounds (p+2) true)).isEmpty
theorem rP {id:Nat} {Q:Exit->Act->World->Prop} {a:Act} {l:List Oper} (Φ:Tmp->Value->World->Prop) (G:Tmp->Option (Value->Prop)) (n p:Nat) (hm:P.follows .mixedOrders=true) (hn:a.tmps.size=n)
  (hB:KY l.toArray n p=true) (hΦ:∀ t v w w',Φ t v w->ae w w'->Φ t v w')
  (h:iV P .any l.toArray w0 Φ G (λlast a'=>∀ w,ae w0 w->(∀ (i:Nat) (o:Oper) (t:Tmp),i<p->l[i]?=some o->o.dst=some t->Φ t (a'.eval (.tmp t)) w)->Cn P Q (last::l.drop (p+1)) a' w) (l.take (p+1)) a):(Code.region id l.toArray true).wp P Q a w0:=by
 simp only [KY,N_] at hB;obtain ⟨⟨⟨⟨⟨⟨⟨⟨⟨⟨⟨hs,hd⟩,hw⟩,hL⟩,hp⟩,hR⟩,hR2⟩,RU⟩,hg⟩,hg2⟩,hg3⟩,hE⟩:=hB;have hsz:l.toArray.size=p+3:=by simpa using hp
 have hlp:l.length=p+3:=by simpa using hsz
 obtain ⟨last,el,h⟩:=h.split;have htl:(l.take (p+1)).length=p+1:=by simp [hlp]
 have hdl:(l.take (p+1)).dropLast.length=p:=by simp [hlp]
 have hlast:l.toArray[p]?=some last:=by
  have h1:(l.take (p+1))[p]?=some last:=by rw [el,R_ (by omega)];simp [hlp]
  rw [aac (by omega)] at h1
  simpa using h1
 have hpre:∀ j,j<p->(l.take (p+1)).dropLast[j]?=l[j]?:=λj hj=>by
  rw [List.getElem?_dropLast,h_ (by omega),aac (by omega)]
 obtain ⟨kZ,fin,hfin⟩:∃ kZ fin,l.drop (p+1)=[kZ,fin]:=by
  have:(l.drop (p+1)).length=2:=by simp [hlp]
  rcases hd:l.drop (p+1) with _|⟨a,_|⟨b,_|⟨c,t⟩⟩⟩
  ·rw [hd] at this;cases this
  ·rw [hd] at this;cases this
  ·exact ⟨a,b,rfl⟩
  ·rw [hd] at this;simp at this
 have TV:l.toArray[p+1]?=some kZ:=by
  have:(l.drop (p+1))[0]?=some kZ:=by rw [hfin];rfl
  rw [List.getElem?_drop] at this
  simpa using this
 have GM:l.toArray[p+2]?=some fin:=by
  have:(l.drop (p+1))[1]?=some fin:=by rw [hfin];rfl
  rw [List.getElem?_drop] at this
  simpa using this
 refine wp_region_any hm ?_;rw [hsz];refine mf (G:=G) (m:=3) (p:=p) (n:=n) hd hΦ p (bA (p+3) 0) a _ hn ⟨ae.draw w0,λi hi=>?_⟩ ?_
 ·by_cases h:i<p+3 <;> simp [h,bA] at hi
 ·have:=uR (P:=P) (Q:=Q) (m:=3) (w0:=w0) (Φ:=Φ) (G:=G) (md:=.any) (ops:=l.toArray) (p:=p) hd (uS.waits hw) hs (l.take (p+1)).dropLast 0 a (λj hj=>by rw [M_,aaX];exact hpre j (by omega)) (by omega) (by rw [hsz];exact zM _) (by rw [hdl];exact hL) ?_
  ·rw [hsz,hdl] at this;exact this
  ·refine qd.mono (n:=n) (λa' hn' hb w hk=>?_) hn h;have h1:=hb w hk.cZ (λi o t hi ho ht=>hk.phi i (qZ _ p i hi (by omega)).1 o t (by simpa using ho) ht);have hR':Region.ready .any l.toArray (bA l.toArray.size p)=[p]:=by simpa using hR
   have Pq:Region.ready .any l.toArray ((bA l.toArray.size p).setIfInBounds p true)=[p+1]:=by simpa using hR2
   have Yj:Region.ready .any l.toArray (((bA l.toArray.size p).setIfInBounds p true).setIfInBounds (p+1) true)=[p+2]:=by simpa using RU
   rw [hfin] at h1;refine ⟨λh0=>(by rw [hR'] at h0;cases h0),λi hi=>?_⟩;rw [hR',I_] at hi;subst hi;unfold wpOp;simp only [hlast];have hgn:last.guard=none:=by
    have:=hg;simp only [hlast,Option.all_some] at this;simpa using this
   have hwn:Region.wanted last (yielded l.toArray a'.tmps)=true:=by simp [Region.wanted,hgn]
   simp only [hwn,if_true];refine .inl (Oper.wp_mono (λa'' w'' hq=>?_) h1);refine ⟨λh0=>(by rw [Pq] at h0;cases h0),λi hi=>?_⟩;rw [Pq,I_] at hi;subst hi;unfold wpOp;simp only [TV];have hgn2:kZ.guard=none:=by
    have:=hg2;simp only [TV,Option.all_some] at this;simpa using this
   have hwn2:Region.wanted kZ (yielded l.toArray a''.tmps)=true:=by simp [Region.wanted,hgn2]
   simp only [hwn2,if_true];refine .inl (Oper.wp_mono (λa3 w3 hq=>?_) hq);refine ⟨λh0=>(by rw [Yj] at h0;cases h0),λi hi=>?_⟩;rw [Yj,I_] at hi;subst hi;unfold wpOp;simp only [GM];have ack:fin.guard=none:=by
    have:=hg3;simp only [GM,Option.all_some] at this;simpa using this
   have acm:Region.wanted fin (yielded l.toArray a3.tmps)=true:=by simp [Region.wanted,ack]
   simp only [acm,if_true];refine .inl (Oper.wp_mono (λa4 w4 hq=>⟨?_,hq⟩) hq);exact List.isEmpty_iff.1 hE
end
end Go.Proofs.YtgaafamcajcifaaGreat
