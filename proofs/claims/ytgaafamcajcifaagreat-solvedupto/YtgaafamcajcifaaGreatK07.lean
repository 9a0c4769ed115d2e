/- Joined: XTab10 XTab11 XTrim1 XGrow2 XLat7 XLat8 XReg3 XReg4. -/
import Derived.Test.YtgaafamcajcifaaGreatK03
import Derived.Test.YtgaafamcajcifaaGreatK05
import Derived.Test.YtgaafamcajcifaaGreatK06
set_option linter.unusedVariables false
set_option linter.unusedSimpArgs false
set_option maxRecDepth 100000
namespace Go.Proofs.YtgaafamcajcifaaGreat.Pl
def Rs (t:aR) (c k:Nat):Prop:=0<=t.name k∧t.cell k (c+1)<0
def IQ (t:aR) (c r k:Nat):Prop:=t.cell r 0*(-t.cell k (c+1))<=t.cell k 0*(-t.cell r (c+1))∧(t.cell r 0*(-t.cell k (c+1))=t.cell k 0*(-t.cell r (c+1))->t.name r<=t.name k)
def qC (t:aR) (c j:Nat) (x:Int):Prop:=(x=-1∧∀ k,k<j->¬ Rs t c k)∨∃ k:Nat,k<j∧x=k∧Rs t c k∧∀ k',k'<j->Rs t c k'->IQ t c k k'
theorem IQ.refl (t:aR) (c r:Nat):IQ t c r r:=⟨aaU _,λ_=>aaU _⟩
theorem IQ.trans {t:aR} {c a b d:Nat} (ha:Rs t c a) (hb:Rs t c b) (hd:Rs t c d) (h1:IQ t c a b) (h2:IQ t c b d):IQ t c a d:=by
 have pa:0 < -t.cell a (c+1):=by have:=ha.2;omega
 have pb:0 < -t.cell b (c+1):=by have:=hb.2;omega
 have pd:0 < -t.cell d (c+1):=by have:=hd.2;omega
 unfold IQ;obtain ⟨h11,h12⟩:=h1;obtain ⟨h21,h22⟩:=h2;generalize -t.cell a (c+1)=A at *
 generalize -t.cell b (c+1)=B at *
 generalize -t.cell d (c+1)=D at *
 generalize t.cell a 0=x at *
 generalize t.cell b 0=y at *
 generalize t.cell d 0=z at *
 have k1:x*B*D<=y*A*D:=A_ h11 (by omega);have k2:y*D*A<=z*B*A:=A_ h21 (by omega);have e1:y*A*D=y*D*A:=Int.mul_right_comm y A D;have e2:x*B*D=x*D*B:=Int.mul_right_comm x B D;have e3:z*B*A=z*A*B:=Int.mul_right_comm z B A;have k0:x*D*B<=z*A*B:=by rw [<-e2,<-e3];exact Int.le_trans k1 (by rw [e1];exact k2)
 refine ⟨Int.le_of_mul_le_mul_right k0 pb,λe=>?_⟩;have k3:x*D*B=z*A*B:=by rw [e]
 have k4:y*A*D<=x*B*D:=by rw [e1,e2,k3,<-e3];exact k2
 have k5:z*B*A<=y*D*A:=by rw [e3,<-k3,<-e2,<-e1];exact k1
 have f1:x*B=y*A:=Int.eq_of_mul_eq_mul_right (by omega) (Int.le_antisymm k1 k4);have f2:y*D=z*B:=Int.eq_of_mul_eq_mul_right (by omega) (Int.le_antisymm k2 k5);exact Int.le_trans (h12 f1) (h22 f2)
theorem qC.skip {t:aR} {c j:Nat} {x:Int} (h:qC t c j x) (hn:¬ Rs t c j):qC t c (j+1) x:=by
 rcases h with ⟨h1,h2⟩|⟨k,h1,h2,h3,h4⟩
 ·exact .inl ⟨h1,λk hk=>by rcases (show k<j∨k=j by omega) with h | h;exact h2 k h;rw [h];exact hn⟩
 ·exact .inr ⟨k,by omega,h2,h3,λk' hk' hu=>by rcases (show k'<j∨k'=j by omega) with h | h;exact h4 k' h hu;rw [h] at hu;exact absurd hu hn⟩
theorem qC.first {t:aR} {c j:Nat} (h:qC t c j (-1)) (hu:Rs t c j):qC t c (j+1) j:=by
 rcases h with ⟨_,h2⟩|⟨k,h1,h2,_⟩
 ·refine .inr ⟨j,by omega,rfl,hu,λk' hk' hu'=>?_⟩;rcases (show k'<j∨k'=j by omega) with h|h
  ·exact absurd hu' (h2 k' h)
  ·rw [h];exact IQ.refl _ _ _
 ·omega
theorem qC.stay {t:aR} {c j k:Nat} (h:qC t c j k) (hle:IQ t c k j):qC t c (j+1) k:=by
 rcases h with ⟨h1,_⟩|⟨k2,h1,h2,h3,h4⟩
 ·omega
 ·have e:k2=k:=by omega
  subst e;exact .inr ⟨k2,by omega,h2,h3,λk' hk' hu=>by rcases (show k'<j∨k'=j by omega) with h | h;exact h4 k' h hu;rw [h];exact hle⟩
theorem qC.take {t:aR} {c j k:Nat} (h:qC t c j k) (hu:Rs t c j) (hle:IQ t c j k):qC t c (j+1) j:=by
 rcases h with ⟨h1,_⟩|⟨k2,h1,h2,h3,h4⟩
 ·omega
 ·have e:k2=k:=by omega
  subst e;refine .inr ⟨j,by omega,rfl,hu,λk' hk' hu'=>?_⟩;rcases (show k'<j∨k'=j by omega) with h|h
  ·exact IQ.trans hu h3 hu' hle (h4 k' h hu')
  ·rw [h];exact IQ.refl _ _ _
theorem AR {t:aR} {c j k:Nat} (h:t.cell k 0*t.cell j (c+1) - t.cell j 0*t.cell k (c+1)<0∨(t.cell k 0*t.cell j (c+1) - t.cell j 0*t.cell k (c+1)=0∧t.name j<=t.name k)):IQ t c j k:=by
 unfold IQ;rw [abC,abC];omega
theorem zk {t:aR} {c j k:Nat} (h:0<t.cell k 0*t.cell j (c+1) - t.cell j 0*t.cell k (c+1)∨(t.cell k 0*t.cell j (c+1) - t.cell j 0*t.cell k (c+1)=0∧t.name k<=t.name j)):IQ t c k j:=by
 unfold IQ;rw [abC,abC];omega
section
variable {F:Int->Nat->Int} {n:Nat} {t:aR}
def CE (F:Int->Nat->Int) (n:Nat) (U:List Int):Prop:=∀ D:Nat->Int,D 0=0->(∀ x∈U,0<=x->0<=ev n (F x) D)->∀ k,k<n+1->D k=0
theorem IJ {U:List Int} (h:bM F n t) {c:Nat} (hc:c<n) (hst:∀ x∈U,0<=x->dG n t x∨nG t x) (hl:∀ k,k<t.lines.length->0<=t.name k->0<=t.cell k (c+1)) (hT:CE F n U):False:=by
 obtain ⟨D,d1,d2⟩:=h.wR (c+1) (by omega);have d0:D 0=0:=by
  have:=d1 0 (by omega);rw [jI,kH n D 0 (by omega),g_ (by omega)] at this;exact this
 have hs:=h.pos;have hz:=hT D d0 (λx hx h0=>by
  rcases hst x hx h0 with ⟨c2,hc2,e⟩|⟨r,hr,e⟩
  ·have:=d1 (c2+1) (by omega);rw [fV,e] at this;rw [this];split <;> omega
  ·have:=d2 r hr;rw [e] at this;rw [this];exact hl r hr (by rw [e];omega))
 have h1:=d1 (c+1) (by omega);rw [h_ rfl,LD hz] at h1;omega
end
section
variable {n m:Nat} {S:Nat->Nat->Int} {F:Int->Nat->Int} {t:aR}
def A8 (n m:Nat) (S:Nat->Nat->Int) (D:List Nat):Prop:=∀ P:Nat->Int,0<=P 0->(∀ j,j<m->j ∉ D->0<=ev n (S j) P)->nY n m S P
theorem A8.start (n m:Nat) (S:Nat->Nat->Int):A8 n m S []:=λP _ h j hj=>h j hj (by simp)
def dJ (n m:Nat) (D:List Nat) (U:List Int):Prop:=∀ x,x∈U↔x∈gU n m∧∀ j∈D,x≠(j:Int)
theorem dJ.start (n m:Nat):dJ n m [] (gU n m):=λx=>by simp
theorem dJ.drop {D:List Nat} {U:List Int} (h:dJ n m D U) (i:Nat):dJ n m (i::D) (U.filter λx=>x != (i:Int)):=λx=>by
 rw [aaR,h x];constructor
 ·rintro ⟨⟨h1,h2⟩,h3⟩;refine ⟨h1,λj hj=>?_⟩;rcases aa0.1 hj with e|hj
  ·rw [e];simpa using h3
  ·exact h2 j hj
 ·rintro ⟨h1,h2⟩;exact ⟨⟨h1,λj hj=>h2 j (aaV _ hj)⟩,by simpa using h2 i abz⟩
theorem dJ.nat {D:List Nat} {U:List Int} (h:dJ n m D U):∀ x∈U,0<=x->∃ i:Nat,i<m∧x=i:=λx hx h0=>F9 ((h x).1 hx).1 h0
theorem dJ.mem {D:List Nat} {U:List Int} (h:dJ n m D U) {j:Nat} (hj:j<m) (hD:j ∉ D):(j:Int)∈U:=by
 refine (h j).2 ⟨F_.2 (.inl (m_.2 ⟨j,V_.2 hj,rfl⟩)),λk hk e=>hD ?_⟩;have:j=k:=by omega
 rw [this];exact hk
theorem A8.mJ {D:List Nat} {U:List Int} (h:A8 n m S D) (hU:dJ n m D U) (hF:∀ i:Nat,i<m->F i=S i) (hT:gJ F n m):CE F n U:=by
 intro P p0 hx;refine hT P p0 λi hi=>?_;rw [hF i hi];refine h P (by omega) (λj hj hD=>?_) i hi;have:=hx (j:Int) (hU.mem hj hD) (by omega);rwa [hF j hj] at this
theorem A8.Dj {D:List Nat} {U:List Int} (h:A8 n m S D) (hU:dJ n m D U) (hF:∀ i:Nat,i<m->F i=S i) (ht:bM F n t) (hst:Stat U n t) (Di:∀ k,k<t.lines.length->0<=t.name k->0<=t.cell k 0):∃ Q:Nat->Int,0<Q 0∧nY n m S Q∧∀ c,c<n->ev n (F (t.fe c)) Q=0:=by
 obtain ⟨Q,q1,q2⟩:=ht.wR 0 (by omega);have q0:Q 0=t.scale:=by
  have:=q1 0 (by omega);rw [jI,kH n Q 0 (by omega),h_ rfl] at this;exact this
 have qc:∀ c,c<n->ev n (F (t.fe c)) Q=0:=λc hc=>by
  have:=q1 (c+1) (by omega);rw [fV,g_ (by omega)] at this;exact this
 have hp:=ht.pos;refine ⟨Q,by rw [q0];exact hp,h Q (by rw [q0];omega) λi hi hD=>?_,qc⟩;rcases hst.all i (hU.mem hi hD) with ⟨c,hc,e⟩|⟨r,hr,e⟩
 ·have:=qc c hc;rw [e,hF i hi] at this;omega
 ·have:=q2 r hr;rw [e,hF i hi] at this;rw [this];exact Di r hr (by rw [e];omega)
theorem A8.drop {D:List Nat} (h:A8 n m S D) {i:Nat} (hi:i<m) {Q:Nat->Int} (q0:0<Q 0) (hQ:nY n m S Q) (hpos:∀ P:Nat->Int,0<P 0->nY n m S P->0<ev n (S i) P):A8 n m S (i::D):=by
 intro P p0 hP;have key:=Nw (n:=n) (others:=(List.range m).filterMap λj=>if j∈i::D then none else some (S j)) (s:=S i) (λP' p0' hP' hs=>?_) q0 (λu hu=>?_) (hQ i hi) P p0 (λu hu=>?_)
 ·refine h P p0 λj hj hD=>?_;by_cases e:j=i
  ·rw [e];exact key.1
  ·exact hP j hj (by rw [aa0];rintro (e' | e');exact e e';exact hD e')
 ·refine hpos P' p0' (h P' (by omega) λj hj hD=>?_);by_cases e:j=i
  ·rw [e];exact hs
  ·exact hP' (S j) (List.mem_filterMap.2 ⟨j,V_.2 hj,by rw [g_ (by rw [aa0];rintro (e' | e');exact e e';exact hD e')]⟩)
 ·obtain ⟨j,hj,e⟩:=List.mem_filterMap.1 hu
  split at e
  ·cases e
  ·cases e;exact hQ j (V_.1 hj)
 ·obtain ⟨j,hj,e⟩:=List.mem_filterMap.1 hu
  split at e
  ·cases e
  ·rename_i hn;cases e;exact hP j (V_.1 hj) hn
end
end Go.Proofs.YtgaafamcajcifaaGreat.Pl

namespace Go.Proofs.YtgaafamcajcifaaGreat
open Go.RowKit Go.Sort
section
variable {P:Program} {ops:Array Oper} {md:Region.Mode} {w0:World} {Φ:Tmp->Value->World->Prop} {G:Tmp->Option (Value->Prop)}
def KW (md:Region.Mode) (ops:Array Oper) (p:Nat):Prop:=∀ listed,Down md ops listed->∀ j,j∈Region.ready md ops listed->p<=j->∀ k,k<p->listed.getD k false=true
def uQ (md:Region.Mode) (ops:Array Oper) (p:Nat):Bool :=
 decide (ops.size<=p+2)&&((List.range p).all λk=>(List.range (p+1)).any λj=>decide (k<j)&&match ops[j]? with
  | none=>false
  | some o=>o.after.any λe=>e.on == k&&Region.binds md e)&&match ops[p+1]? with
  | none=>true
  | some o=>o.after.any λe=>e.on == p&&Region.binds md e
theorem mg {p:Nat} (h:((List.range p).all λk=>(List.range (p+1)).any λj=>decide (k<j)&&match ops[j]? with
  | none=>false
  | some o=>o.after.any λe=>e.on == k&&Region.binds md e)=true) {listed:Array Bool} (hD:Down md ops listed) (hpl:∀ o,ops[p]?=some o->∀ e∈o.after,Region.binds md e=true->listed.getD e.on false=true):∀ d k,k<p->p<=k+d->listed.getD k false=true:=by
 intro d
 induction d with
 | zero=>intro k hk hd;omega
 | succ d ih =>
  intro k hk hd;obtain ⟨j',Vm,JK⟩:=List.any_eq_true.1 (aaL.1 h k (V_.2 hk));simp only [N_] at JK;have hlt:=aaJ JK.1;have aci:=V_.1 Vm;have h3:=JK.2;cases ho:ops[j']? with
  | none=>simp [ho] at h3
  | some o =>
   simp only [ho] at h3;obtain ⟨e,he1,he2⟩:=Array.any_eq_true'.1 h3;simp only [N_,beq_iff_eq] at he2;rcases Nat.lt_or_ge j' p with hp' | hp'
   ·have:=hD j' (ih j' hp' (by omega)) o ho e he1 he2.2;rw [he2.1] at this;exact this
   ·have ejj:j'=p:=by omega
    subst ejj;have:=hpl o ho e he1 he2.2;rw [he2.1] at this;exact this
theorem uQ.waits {p:Nat} (h:uQ md ops p=true):KW md ops p:=by
 intro listed hD j hj hp k hk;simp only [uQ,N_] at h;obtain ⟨⟨h1,h2⟩,h3⟩:=h;obtain ⟨_,oj,hoj,hall⟩:=mem_ready.1 hj;have hjs:=(aaY.1 hoj).1;have hsz:=aaJ h1;rcases (show j=p∨j=p+1 by omega) with e|e
 ·subst e;exact mg h2 hD (λo ho e he hb=>by rw [hoj] at ho;cases ho;exact hall e he hb) (j - k) k hk (by omega)
 ·subst e;simp only [hoj] at h3;obtain ⟨e,he1,he2⟩:=Array.any_eq_true'.1 h3;simp only [N_,beq_iff_eq] at he2;have hpl:=hall e he1 he2.2;rw [he2.1] at hpl;exact mg h2 hD (λo ho e he hb=>hD p hpl o ho e he hb) (p - k) k hk (by omega)
theorem DK {Q:Exit->Act->World->Prop} {p m n:Nat} (hd:nX ops n=true) (hw:KW md ops p) {i:Nat} {oi:Oper} {S:Value->Prop} (hi:ops[i]?=some oi) (TN:i<p) (hsel:∀ (j:Nat) (o:Oper) cs b,ops[j]?=some o->o.op≠.select cs b) :
  ∀ (fuel:Nat) (listed:Array Bool) (a:Act),Down md ops listed ->
   (∀ j oj,ops[j]?=some oj->j≠i->listed.getD j true=false->(∀ e∈oj.after,Region.binds md e=true->e.on≠i)->oi.apart ops oj=true) ->
   i∈Region.ready md ops listed->Step P md ops w0 Φ G oi a S ->
   (∀ v,S v->uP P md ops w0 Φ G Q p m fuel (listed.setIfInBounds i true) (a.put oi.dst v))->uP P md ops w0 Φ G Q p m (fuel+1) listed a:=by
 have own:∀ (listed:Array Bool),i∈Region.ready md ops listed->listed.getD i false=true->False:=λlisted hr hl=>by
  have h0:=(mem_ready.1 hr).1;rcases Nat.lt_or_ge i listed.size with h' | h'
  ·simp [h'] at h0 hl;rw [h0] at hl;cases hl
  ·simp [Array.getElem?_eq_none h'] at hl
 intro fuel
 induction fuel with
 | zero =>
  intro listed a hD _ hr hy H;refine ⟨λh=>(by rw [h] at hr;cases hr),λj hj=>?_⟩;by_cases hji:j=i
  ·subst hji;exact ⟨TN,λo ho=>by rw [hi] at ho;cases ho;exact ⟨S,hy,H⟩⟩
  ·obtain ⟨v0,hv0⟩:=hy.some;have:=(H v0 hv0).1 j (ready_mono hj hji);exact (own listed hr (hw listed hD _ hj this i TN)).elim
 | succ fuel ih =>
  intro listed a hD hfree hr hy H;refine ⟨λh=>(by rw [h] at hr;cases hr),λj hj=>?_⟩;by_cases hji:j=i
  ·subst hji;exact ⟨TN,λo ho=>by rw [hi] at ho;cases ho;exact ⟨S,hy,H⟩⟩
  ·obtain ⟨v0,hv0⟩:=hy.some;have Oh:=ready_mono hj hji;refine ⟨((H v0 hv0).2 j Oh).1,λoj hoj=>?_⟩;obtain ⟨hjun,oj',Pk,hall⟩:=mem_ready.1 hj;rw [hoj] at Pk;cases Pk;have hnot:∀ e∈oj.after,Region.binds md e=true->e.on≠i:=λe he hb heq=>by
    have h1:=hall e he hb;rw [heq] at h1;exact own listed hr h1
   have Pm:∀ e∈oi.after,Region.binds md e=true->e.on≠j:=λe he hb heq=>by
    obtain ⟨_,oi',Pn,Po⟩:=mem_ready.1 hr;rw [hi] at Pn;cases Pn;have h1:=Po e he hb;rw [heq] at h1;rcases Nat.lt_or_ge j listed.size with h' | h'
    ·simp [h'] at hjun h1;rw [hjun] at h1;cases h1
    ·simp [Array.getElem?_eq_none h'] at h1
   have hap:=hfree j oj hoj hji hjun hnot;obtain ⟨h1,h2,h3⟩:=Oper.apart_spec hap;have hsi:=λcs b=>hsel i oi cs b hi;have hsj:=λcs b=>hsel j oj cs b hoj;have back:∀ v S',Step P md ops w0 Φ G oj (a.put oi.dst v) S'->Step P md ops w0 Φ G oj a S':=λv S' h =>
    h.same (execOp_put oj hsj a oi.dst v h1).symm (wanted_put oj a oi.dst v h1).symm (λw hf=>(vV hd hi hnot).2 hf)
   obtain ⟨Sj,hSj,_⟩:=((H v0 hv0).2 j Oh).2 oj hoj;refine ⟨Sj,back v0 Sj hSj,λu hu=>?_⟩;refine ih (listed.setIfInBounds j true) (a.put oj.dst u) (hD.step hj) ?_ (ready_mono hr (aaQ hji)) ?_ ?_
   ·intro k ok hk hki hun hno;refine hfree k ok hk hki ?_ hno;by_cases hjk:j=k
    ·subst hjk;exact hjun
    ·rw [getD_set_ne true hjk] at hun;exact hun
   ·exact hy.same (execOp_put oi hsi a oj.dst u h3) (wanted_put oi a oj.dst u h3) (λw hf=>(vV hd hoj Pm).1 hf)
   ·intro v hv;obtain ⟨Yh,hSj',hK⟩:=((H v hv).2 j Oh).2 oj hoj;have e:Yh=Sj:=(back v Yh hSj').one (back v0 Sj hSj);rw [<-Act.put_comm a v u h2,Array.setIfInBounds_comm _ _ hji];exact hK u (by rw [e];exact hu)
theorem uR {Q:Exit->Act->World->Prop} {p m n:Nat} (hd:nX ops n=true) (hw:KW md ops p) (hs:Region.noSelect ops=true):∀ (l:List Oper) (k:Nat) (a:Act),(∀ j,j<l.length->l[j]?=ops[k+j]?)->k+l.length=p->Down md ops (bA ops.size k) ->
  Ai md ops p l.length k (bA ops.size k)=true->qd P md ops w0 Φ G (λa'=>∀ w,yF ops w0 Φ (bA ops.size p) a' w->wpAny P md ops Q m (bA ops.size p) a' w) l a->uP P md ops w0 Φ G Q p m l.length (bA ops.size k) a
 | [],k,a,_,hkp,_,hB,h=>by
  have:k=p:=by simpa using hkp
  subst this;exact ⟨λj hj=>aaJ (aaL.1 hB j hj),h⟩
 | o::l,k,a,hl,hkp,hD,hB,h=>by
  have h0:ops[k]?=some o:=by simpa using (hl 0 (by simp)).symm
  simp only [List.length_cons,Ai,N_] at hB;obtain ⟨⟨⟨hr,hf⟩,hp⟩,hB'⟩:=hB;obtain ⟨S,hy,hK⟩:=h;have hr':k∈Region.ready md ops (bA ops.size k):=by simpa using hr
  refine DK hd hw h0 (aaJ hp) (Region.noSelect_spec hs) l.length _ a hD (Region.free_spec h0 hf) hr' hy λv hv=>?_;exact uR hd hw hs l (k+1) _ (λj hj=>by have:=hl (j+1) (by simp;omega);simpa [abr,Nat.add_comm 1 j] using this) (by simp at hkp ⊢;omega) (hD.step hr') hB' (hK v hv)
def Cn (P:Program) (Q:Exit->Act->World->Prop):List Oper->Act->World->Prop
 | [],a,w=>Q .normal a w
 | o::rest,a,w=>o.wp P a w (λa w=>Cn P Q rest a w) Q
def KX (ops:Array Oper) (n p:Nat):Bool :=
 Region.noSelect ops&&nX ops n&&uQ .any ops p&&Ai .any ops p p 0 (bA ops.size 0)&&(ops.size == p+2)&&(Region.ready .any ops (bA ops.size p) == [p])&&(Region.ready .any ops ((bA ops.size p).setIfInBounds p true) == [p+1])&&((ops[p]?).all λo=>o.guard.isNone)&&((ops[p+1]?).all λo=>o.guard.isNone)&&(Region.ready .any ops (((bA ops.size p).setIfInBounds p true).setIfInBounds (p+1) true)).isEmpty
theorem zN {id:Nat} {Q:Exit->Act->World->Prop} {a:Act} {l:List Oper} (Φ:Tmp->Value->World->Prop) (G:Tmp->Option (Value->Prop)) (n p:Nat) (hm:P.follows .mixedOrders=true) (hn:a.tmps.size=n)
  (hB:KX l.toArray n p=true) (hΦ:∀ t v w w',Φ t v w->ae w w'->Φ t v w')
  (h:iV P .any l.toArray w0 Φ G (λlast a'=>∀ w,ae w0 w->(∀ (i:Nat) (o:Oper) (t:Tmp),i<p->l[i]?=some o->o.dst=some t->Φ t (a'.eval (.tmp t)) w)->Cn P Q (last::l.drop (p+1)) a' w) (l.take (p+1)) a):(Code.region id l.toArray true).wp P Q a w0:=by
 simp only [KX,N_] at hB;obtain ⟨⟨⟨⟨⟨⟨⟨⟨⟨hs,hd⟩,hw⟩,hL⟩,hp⟩,hR⟩,hR2⟩,hg⟩,hg2⟩,hE⟩:=hB;have hsz:l.toArray.size=p+2:=by simpa using hp
 have hlp:l.length=p+2:=by simpa using hsz
 obtain ⟨last,el,h⟩:=h.split;have htl:(l.take (p+1)).length=p+1:=by simp [hlp]
 have hdl:(l.take (p+1)).dropLast.length=p:=by simp [hlp]
 have hlast:l.toArray[p]?=some last:=by
  have h1:(l.take (p+1))[p]?=some last:=by rw [el,R_ (by omega)];simp [hlp]
  rw [aac (by omega)] at h1
  simpa using h1
 have hpre:∀ j,j<p->(l.take (p+1)).dropLast[j]?=l[j]?:=λj hj=>by
  rw [List.getElem?_dropLast,h_ (by omega),aac (by omega)]
 obtain ⟨fin,hfin⟩:∃ fin,l.drop (p+1)=[fin]:=by
  have:(l.drop (p+1)).length=1:=by simp [hlp]
  exact List.length_eq_one_iff.1 this
 have GM:l.toArray[p+1]?=some fin:=by
  have:(l.drop (p+1))[0]?=some fin:=by rw [hfin];rfl
  rw [List.getElem?_drop] at this
  simpa using this
 refine wp_region_any hm ?_;rw [hsz];refine mf (G:=G) (m:=2) (p:=p) (n:=n) hd hΦ p (bA (p+2) 0) a _ hn ⟨ae.draw w0,λi hi=>?_⟩ ?_
 ·by_cases h:i<p+2 <;> simp [h,bA] at hi
 ·have:=uR (P:=P) (Q:=Q) (m:=2) (w0:=w0) (Φ:=Φ) (G:=G) (md:=.any) (ops:=l.toArray) (p:=p) hd (uQ.waits hw) hs (l.take (p+1)).dropLast 0 a (λj hj=>by rw [M_,aaX];exact hpre j (by omega)) (by omega) (by rw [hsz];exact zM _) (by rw [hdl];exact hL) ?_
  ·rw [hsz,hdl] at this;exact this
  ·refine qd.mono (n:=n) (λa' hn' hb w hk=>?_) hn h;have h1:=hb w hk.cZ (λi o t hi ho ht=>hk.phi i (qZ _ p i hi (by omega)).1 o t (by simpa using ho) ht);have hR':Region.ready .any l.toArray (bA l.toArray.size p)=[p]:=by simpa using hR
   have Pq:Region.ready .any l.toArray ((bA l.toArray.size p).setIfInBounds p true)=[p+1]:=by simpa using hR2
   rw [hfin] at h1;refine ⟨λh0=>(by rw [hR'] at h0;cases h0),λi hi=>?_⟩;rw [hR',I_] at hi;subst hi;unfold wpOp;simp only [hlast];have hgn:last.guard=none:=by
    have:=hg;simp only [hlast,Option.all_some] at this;simpa using this
   have hwn:Region.wanted last (yielded l.toArray a'.tmps)=true:=by simp [Region.wanted,hgn]
   simp only [hwn,if_true];refine .inl (Oper.wp_mono (λa'' w'' hq=>?_) h1);refine ⟨λh0=>(by rw [Pq] at h0;cases h0),λi hi=>?_⟩;rw [Pq,I_] at hi;subst hi;unfold wpOp;simp only [GM];have hgn2:fin.guard=none:=by
    have:=hg2;simp only [GM,Option.all_some] at this;simpa using this
   have hwn2:Region.wanted fin (yielded l.toArray a''.tmps)=true:=by simp [Region.wanted,hgn2]
   simp only [hwn2,if_true];refine .inl (Oper.wp_mono (λa3 w3 hq=>⟨?_,hq⟩) hq);exact List.isEmpty_iff.1 hE
end
end Go.Proofs.YtgaafamcajcifaaGreat

namespace Go.Proofs.YtgaafamcajcifaaGreat.Pl
section
variable {n:Nat} {G Q St:Nat->Nat->Int}
theorem Aq (hP:gN n G) (hG:∀ i j,G i j=G j i) {D:Int} (hD:∀ l,l<=n->gI n G l<=D) {i:Nat} (hi:i<n) (hr:∀ l,l<i->-gI n G (l+1)<=2*gm n G l i l∧2*gm n G l i l<=gI n G (l+1)):∀ m l,l+m=i->4*gm n G l i i<=gI n G l*(((m+4:Nat):Int)*D)
 | 0,l,h=>by
  have e:l=i:=by omega
  subst e;have h1:=Br hP (show l<=n by omega);have h2:=hD (l+1) (by omega);have h3:=Br hP (show l+1<=n by omega);rw [fq hP hi] at h2 h3;have h4:1*(4*D)<=gI n G l*(4*D):=A_ h1 (by omega);have e4:(((0+4:Nat):Int)*D)=4*D:=rfl;rw [e4];omega
 | m+1,l,h=>by
  have ih:=Aq hP hG hD hi hr m (l+1) (by omega);have hn:=Sl hP hG (l:=l) (i:=i) (by omega) hi;have hv:=Br hP (show l+1<=n by omega);have hv0:=Br hP (show l<=n by omega);have hr1:=hr l (by omega);have hd:=hD (l+1) (by omega);generalize hA:gI n G (l+1)=A at *
  generalize hB:gI n G l=B at *
  generalize gm n G l i i=X at *
  generalize gm n G (l+1) i i=Y at *
  generalize gm n G l i l=Z at *
  have hz:(2*Z)*(2*Z)<=A*A:=(xh hr1 hr1).2;have e1:(((m+1+4:Nat):Int)*D)=((m+4:Nat):Int)*D+D:=by
   have:((m+1+4:Nat):Int)=((m+4:Nat):Int)+1:=by omega
   rw [this,aaN,aaH]
  generalize hC:(((m+4:Nat):Int)*D)=C at *
  rw [e1]
  -- A*(4 X)=4 B Y+(2 Z)^2<=B (A C)+A A=A (B C+A)
  have h5:A*(4*X)<=A*(B*C+A):=by
   have t1:A*(4*X)=4*(A*X):=by rw [r_]
   have t2:B*(4*Y)<=B*(A*C):=o_ ih (by omega);have t3:B*(4*Y)=4*(B*Y):=by rw [r_]
   have t4:B*(A*C)=A*(B*C):=by rw [r_]
   have t5:(2*Z)*(2*Z)=4*(Z*Z):=by rw [y_,r_ Z 2 Z,<-y_];rfl
   rw [t1,hn,Q_ A];omega
  have h6:4*X<=B*C+A:=Int.le_of_mul_le_mul_left h5 (by omega);have h7:1*D<=B*D:=A_ hv0 (by omega);rw [Q_];omega
theorem JU (hP:gN n G) (hG:∀ i j,G i j=G j i) {D:Int} (hD:∀ l,l<=n->gI n G l<=D) {i:Nat} (hi:i<n) (hr:∀ l,l<i->-gI n G (l+1)<=2*gm n G l i l∧2*gm n G l i l<=gI n G (l+1)):4*G i i<=((i+4:Nat):Int)*D:=by
 have:=Aq hP hG hD hi hr i 0 (by omega);rwa [pg hi hi,Ct,aaH] at this
theorem Sm (hQ:gN n Q) (u:Nat->Int):0<=rE n Q u u:=by
 by_cases h:∃ i,i<n∧u i≠0
 ·exact aaO (hQ u h)
 ·have hz:∀ i,i<n->u i=0:=λi hi=>v_ λhc=>h ⟨i,hi,hc⟩;have:rE n Q u u=0:=kD λi hi=>by rw [hz i hi,aaM]
  omega
theorem PR (hS:∀ i j,Q i j=Q j i) (u v:Nat->Int):rE n Q u v=rE n Q v u:=by
 unfold rE;have e1:sm n (λi=>u i*sm n (λj=>Q i j*v j))=sm n (λi=>sm n (λj=>u i*(Q i j*v j))):=aC λi _=>by rw [dz]
 have e2:sm n (λi=>v i*sm n (λj=>Q i j*u j))=sm n (λi=>sm n (λj=>v i*(Q i j*u j))):=aC λi _=>by rw [dz]
 rw [e1,e2,oU];refine aC λj _=>aC λi _=>?_;rw [hS i j,r_,u_ (u i),r_ (Q j i)]
theorem M4 (hQ:gN n Q) (hS:∀ i j,Q i j=Q j i) (u v:Nat->Int):-(rE n Q u u+rE n Q v v)<=2*rE n Q u v∧2*rE n Q u v<=rE n Q u u+rE n Q v v:=by
 have key:∀ t:Int,0<=(rE n Q u u - t*rE n Q v u) - t*(rE n Q u v - t*rE n Q v v):=λt=>by
  have:=Sm hQ (λi=>u i - t*v i);rw [wm,yO,yO] at this;exact this
 have h1:=key 1;have h2:=key (-1);rw [PR hS v u] at h1 h2;omega
theorem PS (Q:Nat->Nat->Int) {c:Nat} (hc:c<n) (x:Nat->Int):rE n Q (unit c) x=sm n (λj=>Q c j*x j):=by
 unfold rE;rw [iK c hc λi _ hi=>by unfold unit;rw [g_ (λe=>hi e.symm),aaM]];unfold unit;rw [h_ rfl,aaH]
theorem Sk (hQ:gN n Q) (hS:∀ i j,Q i j=Q j i) {D T:Int} (hD:∀ i j,i<n->j<n->-D<=gm n Q n i j∧gm n Q n i j<=D) {x:Nat->Int} (hx:rE n Q x x<=T) (hq:∀ c,c<n->Q c c<=T) {i:Nat} (hi:i<n):-(n*(D*T))<=x i∧x i<=n*(D*T):=by
 have h:=(qM hQ n (d_ n)).1;have hs:=h.pos;have hlen:=(jC n Q n).1
 let P:Nat->Int:=λk=>if k=0 then 0 else x (k - 1)
 have e:=h.Ar (r:=i) (by omega) P;rw [(fw n Q n (d_ n) i hi).1,h_ hi,rU,kH n P (i+1) (by omega)] at e;have p0:P 0=0:=h_ rfl;have pi:∀ j,P (j+1)=x j:=λj=>by show (if j+1=0 then 0 else x (j+1 - 1))=_;rw [g_ (by omega)];rfl
 rw [p0,X_,Int.zero_add,pi i] at e;have VM:∀ c,c<n->-(D*T)<=(dD n Q n).cell i (c+1)*ev n (mQ Q ((dD n Q n).fe c)) P∧(dD n Q n).cell i (c+1)*ev n (mQ Q ((dD n Q n).fe c)) P<=D*T:=λc hc=>by
  rw [(fw n Q n (d_ n) c hc).2,h_ hc,uT];have e2:sm n (λj=>Q c j*P (j+1))=rE n Q (unit c) x:=by
   rw [PS Q hc];exact aC λj _=>by rw [pi]
  rw [e2];have h1:=M4 hQ hS (unit c) x;have h2:rE n Q (unit c) (unit c)=Q c c:=(Et n Q c c hc hc).symm;have h3:=hq c hc;exact xh (hD i c hi hc) (by omega)
 have hb:=O3 VM;rw [<-e] at hb;have hone:1<=(dD n Q n).scale:=by omega
 generalize (dD n Q n).scale=s at *
 generalize hM:(n:Int)*(D*T)=M at *
 have hM0:0<=M:=by omega
 constructor
 ·apply v_;intro hc;have:s*x i<=1*x i:=by
   have:=Int.mul_le_mul_of_nonpos_right hone (show x i<=0 by omega);exact this
  omega
 ·apply v_;intro hc;have:1*x i<=s*x i:=A_ hone (by omega);omega
end
def ig (m:Nat) (a:Nat->Nat->Int) (wt:Nat->Int) (i j:Nat):Int:=sm m (λk=>(wt k*a k (i+1))*a k (j+1))
theorem JH (m:Nat) (a:Nat->Nat->Int) (wt:Nat->Int) (i j:Nat):ig m a wt i j=ig m a wt j i:=by
 unfold ig;refine aC λk _=>?_;rw [y_,u_ (a k (i+1)),<-y_]
theorem JZ (n m:Nat) (a:Nat->Nat->Int) (wt:Nat->Int) (v:Nat->Int):sm n (λi=>v i*sm n (λj=>ig m a wt i j*v j))=sm m (λk=>wt k*(dir n (a k) v*dir n (a k) v)):=by
 have e1:∀ i,sm n (λj=>ig m a wt i j*v j)=sm m (λk=>(wt k*a k (i+1))*dir n (a k) v):=λi=>by
  have:sm n (λj=>ig m a wt i j*v j)=sm n (λj=>sm m (λk=>(wt k*a k (i+1))*(a k (j+1)*v j))):=aC λj _=>by
   unfold ig;rw [u_,<-dz];exact aC λk _=>by rw [u_ (v j),y_]
  rw [this,oU];exact aC λk _=>by unfold dir;rw [<-dz]
 have e2:sm n (λi=>v i*sm n (λj=>ig m a wt i j*v j))=sm n (λi=>sm m (λk=>(wt k*dir n (a k) v)*(a k (i+1)*v i))):=aC λi _=>by
  rw [e1 i,<-dz];refine aC λk _=>?_;generalize wt k=p;generalize a k (i+1)=q;generalize dir n (a k) v=u;generalize v i=x;rw [r_ x,y_ p q,r_ p q,u_ x u];rw [r_ (p*u) q x,y_ p u x]
 rw [e2,oU];refine aC λk _=>?_;rw [dz];unfold dir;rw [y_]
theorem Jy {n m:Nat} {a:Nat->Nat->Int} {wt:Nat->Int} (hw:∀ k,k<m->0<wt k) (ht:∀ v:Nat->Int,(∀ k,k<m->dir n (a k) v=0)->∀ i,i<n->v i=0):gN n (ig m a wt):=by
 intro v ⟨i,hi,hv⟩;rw [JZ];have h0:∀ k,k<m->0<=wt k*(dir n (a k) v*dir n (a k) v):=λk hk=>Y_ (aaO (hw k hk)) (sq_nonneg _);have h1:=vT h0;rcases Int.lt_or_eq_of_le h1 with h2|h2
 ·exact h2
 ·exfalso;refine hv (ht v (λk hk=>?_) i hi);apply v_;intro hc;have hpos:0<wt k*(dir n (a k) v*dir n (a k) v):=by
   refine Int.mul_pos (hw k hk) ?_;rcases Int.lt_or_gt_of_ne hc with h|h
   ·exact Int.mul_pos_of_neg_of_neg h h
   ·exact Int.mul_pos h h
  rw [fK k hk] at h2;have h3:=vT (n:=m) (f:=λi=>if i=k then 0 else wt i*(dir n (a i) v*dir n (a i) v)) (λi hi=>by split;omega;exact h0 i hi);omega
def aQ (n:Nat) (St:Nat->Nat->Int) (s:Nat->Int) (j:Nat):Int:=sm n (λi=>s (i+1)*St j i)
theorem lS (n:Nat) (St:Nat->Nat->Int) (s:Nat->Int) (j:Nat):qb n St s (j+1)=aQ n St s j:=by
 unfold qb aQ;rw [g_ (by omega)];rfl
theorem EK {n:Nat} (s:Nat->Int) {j:Nat} (hj:j<n):aQ n unit s j=s (j+1):=by
 unfold aQ;rw [iK j hj λi _ hi=>by unfold unit;rw [g_ (λe=>hi e.symm),X_]];unfold unit;rw [h_ rfl,Int.mul_one]
theorem EL (n:Nat) (St:Nat->Nat->Int) (s:Nat->Int) {k j a:Nat} (t:Int) (h:a≠k):aQ n (bE St k j t) s a=aQ n St s a:=by
 unfold aQ;refine aC λi _=>?_;unfold bE;rw [g_ h]
theorem Ir (n:Nat) (St:Nat->Nat->Int) (s:Nat->Int) (k j:Nat) (t:Int):aQ n (bE St k j t) s k=aQ n St s k - t*aQ n St s j:=by
 unfold aQ;rw [<-dz,<-zC];refine aC λi _=>?_;unfold bE;rw [h_ rfl,aaI,r_]
theorem zU (a:Int) {b:Int} (hb:b≠0):(a - Int.fdiv a b*b).natAbs<b.natAbs:=by
 rcases (show b<0∨0<b by omega) with h|h
 ·rw [<-Int.neg_fdiv_neg,S_ _ (by omega)];have d1:=aay (-a) (-b);have d2:=aaS (-a) (show -b≠0 by omega);have d3:=aaT (-a) (show 0 < -b by omega);generalize (-a)/(-b)=q at *
  generalize (-a)%(-b)=r at *
  rw [aaP,u_ b q] at d1;omega
 ·rw [S_ _ (by omega)];have d1:=aay a b;have d2:=aaS a (show b≠0 by omega);have d3:=aaT a h;generalize a/b=q at *
  generalize a%b=r at *
  rw [u_ b q] at d1;omega
theorem Iu (a:Int) {b:Int} (hb:b≠0):((Int.fdiv a b).natAbs:Int)*b.natAbs<=a.natAbs+b.natAbs:=by
 have h:=zU a hb;have e:((Int.fdiv a b).natAbs:Int)*b.natAbs=((Int.fdiv a b*b).natAbs:Int):=by rw [Int.natAbs_mul];simp
 rw [e];omega
def qy (n:Nat) (r:Nat->Int):Int:=sm n (λj=>(r j).natAbs)
theorem FW (n:Nat) (r:Nat->Int):0<=qy n r:=vT λ_ _=>by omega
theorem Kk {n:Nat} {r r':Nat->Int} {k:Nat} (hk:k<n) (h:∀ j,j<n->j≠k->r' j=r j) (hlt:(r' k).natAbs<(r k).natAbs):qy n r'<qy n r:=by
 unfold qy;rw [fK (f:=λj=>((r' j).natAbs:Int)) k hk,fK (f:=λj=>((r j).natAbs:Int)) k hk,aC (f:=λj=>if j=k then 0 else ((r' j).natAbs:Int)) (g:=λj=>if j=k then 0 else ((r j).natAbs:Int)) λj hj=>?_]
 ·omega
 ·by_cases e:j=k
  ·rw [h_ e,h_ e]
  ·rw [g_ e,g_ e,h j hj e]
theorem D5 {n:Nat} {St:Nat->Nat->Int} {s:Nat->Int} {k j:Nat} (hk:k<n) (hjk:j≠k) (hj:aQ n St s j≠0) (hle:(aQ n St s j).natAbs<=(aQ n St s k).natAbs) :
  qy n (aQ n (bE St k j (Int.fdiv (aQ n St s k) (aQ n St s j))) s)<qy n (aQ n St s):=by
 refine Kk hk (λa _ ha=>EL n St s _ ha) ?_;rw [Ir];have:=zU (aQ n St s k) hj;omega
def eT (n:Nat) (s:Nat->Int) (at_:Nat) (St:Nat->Nat->Int) (j:Nat):Nat->Nat->Int :=
 if j=at_∨aQ n St s j=0 then St else bE St j at_ (Int.fdiv (aQ n St s j) (aQ n St s at_))
def bO (n:Nat) (s:Nat->Int) (at_:Nat) (St:Nat->Nat->Int):Nat->Nat->Nat->Int
 | 0=>St
 | j+1=>eT n s at_ (bO n s at_ St j) j
def fG (n:Nat) (s:Nat->Int) (St:Nat->Nat->Int) (at_:Nat):Prop:=at_<n∧aQ n St s at_≠0∧∀ j,j<n->aQ n St s j≠0->(aQ n St s at_).natAbs<=(aQ n St s j).natAbs
def gX (n:Nat) (s:Nat->Int) (k:Nat) (St:Nat->Nat->Int):Prop:=∃ (T:Nat->Nat->Nat->Int) (A:Nat->Nat),T 0=unit∧T k=St∧∀ i,i<k->fG n s (T i) (A i)∧T (i+1)=bO n s (A i) (T i) n
section
variable {n:Nat} {s:Nat->Int} {at_:Nat} {St:Nat->Nat->Int}
theorem xN (j:Nat) {a:Nat} (h:a≠j):eT n s at_ St j a=St a:=by
 unfold eT
 split
 ·rfl
 ·funext i;unfold bE;rw [g_ h]
theorem CY:∀ (j:Nat) {a:Nat},j<=a->bO n s at_ St j a=St a
 | 0,_,_=>rfl
 | j+1,a,h=>by
  show eT n s at_ (bO n s at_ St j) j a=St a;rw [xN j (by omega),CY j (by omega)]
theorem Li:∀ (j:Nat),bO n s at_ St j at_=St at_
 | 0=>rfl
 | j+1=>by
  show eT n s at_ (bO n s at_ St j) j at_=St at_;by_cases e:at_=j
  ·unfold eT;rw [h_ (.inl e.symm),Li j]
  ·rw [xN j e,Li j]
theorem Iw {Hq:Nat->Nat->Int} {a:Nat} (h:Hq a=St a):aQ n Hq s a=aQ n St s a:=by unfold aQ;rw [h]
theorem nR (j:Nat) {a:Nat} (h:j<=a):aQ n (bO n s at_ St j) s a=aQ n St s a:=Iw (CY j h)
theorem qz (j:Nat):aQ n (bO n s at_ St j) s at_=aQ n St s at_:=Iw (Li j)
theorem Kl (h:Ei n St) (ha:at_<n):∀ j,j<=n->Ei n (bO n s at_ St j)
 | 0,_=>h
 | j+1,hj=>by
  show Ei n (eT n s at_ (bO n s at_ St j) j);unfold eT
  split
  ·exact Kl h ha j (by omega)
  ·rename_i hne;exact Eu (Kl h ha j (by omega)) (by omega) ha (λe=>hne (.inl e.symm)) _
theorem Iy (h:fG n s St at_):∀ j,j<=n->qy n (aQ n (bO n s at_ St j) s)<=qy n (aQ n St s)∧((∃ a,a<j∧a≠at_∧aQ n St s a≠0)->qy n (aQ n (bO n s at_ St j) s)<qy n (aQ n St s))
 | 0,_=>⟨aaU _,λ⟨a,h1,_⟩=>by omega⟩
 | j+1,hj=>by
  have ih:=Iy h j (by omega);show qy n (aQ n (eT n s at_ (bO n s at_ St j) j) s)<=_∧_;have er:=nR (n:=n) (s:=s) (at_:=at_) (St:=St) j (a:=j) (d_ _);by_cases hc:j=at_∨aQ n (bO n s at_ St j) s j=0
  ·have e:eT n s at_ (bO n s at_ St j) j=bO n s at_ St j:=by unfold eT;rw [h_ hc]
   have e2:bO n s at_ St (j+1)=bO n s at_ St j:=e;rw [e,e2];refine ⟨ih.1,λ⟨a,h1,h2,h3⟩=>ih.2 ⟨a,?_,h2,h3⟩⟩;rcases (show a<j∨a=j by omega) with h4|h4
   ·exact h4
   ·subst h4;rcases hc with h5|h5
    ·exact absurd h5 h2
    ·rw [er] at h5;exact absurd h5 h3
  ·have e:eT n s at_ (bO n s at_ St j) j=bE (bO n s at_ St j) j at_ (Int.fdiv (aQ n (bO n s at_ St j) s j) (aQ n (bO n s at_ St j) s at_)):=by unfold eT;rw [g_ hc]
   have e2:bO n s at_ St (j+1)=eT n s at_ (bO n s at_ St j) j:=rfl;have hnz:aQ n (bO n s at_ St j) s j≠0:=λh0=>hc (.inr h0);have hlt:=D5 (n:=n) (St:=bO n s at_ St j) (s:=s) (k:=j) (j:=at_) (by omega) (λe=>hc (.inl e.symm)) (by rw [qz];exact h.2.1) (by
    rw [qz,er];rw [er] at hnz;exact h.2.2 j (by omega) hnz)
   rw [e2,e];exact ⟨by omega,λ_=>by omega⟩
theorem gX.start (n:Nat) (s:Nat->Int):gX n s 0 unit:=⟨λ_=>unit,λ_=>0,rfl,rfl,λi hi=>by omega⟩
theorem gX.snoc {k:Nat} (h:gX n s k St) (ha:fG n s St at_):gX n s (k+1) (bO n s at_ St n):=by
 obtain ⟨T,A,h0,rfl,h2⟩:=h;refine ⟨λi=>if i<=k then T i else bO n s at_ (T k) n,λi=>if i<k then A i else at_,?_,?_,λi hi=>?_⟩
 ·simp [h0]
 ·show (if k+1<=k then _ else _)=_;rw [g_ (by omega)]
 ·by_cases e:i<k
  ·have:=h2 i e;simp only [h_ (show i<=k by omega),h_ e,h_ (show i+1<=k by omega)];exact this
  ·have:i=k:=by omega
   subst this;simp only [h_ (d_ i),g_ e,g_ (show ¬ i+1<=i by omega)];exact ⟨ha,trivial⟩
theorem gX.N9 {k:Nat} (h:gX n s k St):Ei n St:=by
 obtain ⟨T,A,h0,rfl,h2⟩:=h
 induction k with
 | zero=>rw [h0];exact Hg n
 | succ k ih =>
  have h3:=h2 k (by omega);rw [h3.2];exact Kl (ih (λi hi=>h2 i (by omega))) h3.1.1 n (d_ _)
theorem zg:∀ j,(∀ a,a<j->a=at_∨aQ n St s a=0)->bO n s at_ St j=St
 | 0,_=>rfl
 | j+1,h=>by
  show eT n s at_ (bO n s at_ St j) j=St;rw [zg j (λa ha=>h a (by omega))];unfold eT;rw [h_ (h j (by omega))]
end
end Go.Proofs.YtgaafamcajcifaaGreat.Pl
