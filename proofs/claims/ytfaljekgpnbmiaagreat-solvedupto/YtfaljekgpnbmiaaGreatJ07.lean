/- Joined: XGrow2 XLat7 XLat8 XReg3 XReg4 XReg5. -/
import Derived.Test.YtfaljekgpnbmiaaGreatJ05
import Derived.Test.YtfaljekgpnbmiaaGreatJ06
set_option linter.unusedVariables false
set_option linter.unusedSimpArgs false
set_option maxRecDepth 100000
namespace Go.Proofs.YtfaljekgpnbmiaaGreat
open Go.RowKit Go.Sort
section
variable {P:Program} {ops:Array Oper} {md:Region.Mode} {w0:World} {Φ:Tmp->Value->World->Prop} {G:Tmp->Option (Value->Prop)}
def Lx (md:Region.Mode) (ops:Array Oper) (p:Nat):Prop:=∀ listed,Down md ops listed->∀ j,j∈Region.ready md ops listed->p<=j->∀ k,k<p->listed.getD k false=true
def uS (md:Region.Mode) (ops:Array Oper) (p:Nat):Bool :=
 decide (ops.size<=p+2)&&((List.range p).all λk=>(List.range (p+1)).any λj=>decide (k<j)&&match ops[j]? with
  | none=>false
  | some o=>o.after.any λe=>e.on == k&&Region.binds md e)&&match ops[p+1]? with
  | none=>true
  | some o=>o.after.any λe=>e.on == p&&Region.binds md e
theorem mo {p:Nat} (h:((List.range p).all λk=>(List.range (p+1)).any λj=>decide (k<j)&&match ops[j]? with
  | none=>false
  | some o=>o.after.any λe=>e.on == k&&Region.binds md e)=true) {listed:Array Bool} (hD:Down md ops listed) (hpl:∀ o,ops[p]?=some o->∀ e∈o.after,Region.binds md e=true->listed.getD e.on false=true):∀ d k,k<p->p<=k+d->listed.getD k false=true:=by
 intro d
 induction d with
 | zero=>intro k hk hd;omega
 | succ d ih =>
  intro k hk hd;obtain ⟨j',V3,Kh⟩:=List.any_eq_true.1 (aa9.1 h k (W_.2 hk));simp only [N_] at Kh;have hlt:=aa0 Kh.1;have ac2:=W_.1 V3;have h3:=Kh.2;cases ho:ops[j']? with
  | none=>simp [ho] at h3
  | some o =>
   simp only [ho] at h3;obtain ⟨e,he1,he2⟩:=aca.1 h3;simp only [N_,beq_iff_eq] at he2;rcases acO j' p with hp' | hp'
   ·have:=hD j' (ih j' hp' (by omega)) o ho e he1 he2.2;rw [he2.1] at this;exact this
   ·have ejj:j'=p:=by omega
    subst ejj;have:=hpl o ho e he1 he2.2;rw [he2.1] at this;exact this
theorem uS.waits {p:Nat} (h:uS md ops p=true):Lx md ops p:=by
 intro listed hD j hj hp k hk;simp only [uS,N_] at h;obtain ⟨⟨h1,h2⟩,h3⟩:=h;obtain ⟨_,oj,hoj,hall⟩:=adN.1 hj;have hjs:=(abn.1 hoj).1;have hsz:=aa0 h1;rcases (show j=p∨j=p+1 by omega) with e|e
 ·subst e;exact mo h2 hD (λo ho e he hb=>by rw [hoj] at ho;cases ho;exact hall e he hb) (j - k) k hk (by omega)
 ·subst e;simp only [hoj] at h3;obtain ⟨e,he1,he2⟩:=aca.1 h3;simp only [N_,beq_iff_eq] at he2;have hpl:=hall e he1 he2.2;rw [he2.1] at hpl;exact mo h2 hD (λo ho e he hb=>hD p hpl o ho e he hb) (p - k) k hk (by omega)
theorem DR {Q:Exit->Act->World->Prop} {p m n:Nat} (hd:og ops n=true) (hw:Lx md ops p) {i:Nat} {oi:Oper} {S:Value->Prop} (hi:ops[i]?=some oi) (UB:i<p) (hsel:∀ (j:Nat) (o:Oper) cs b,ops[j]?=some o->o.op≠.select cs b) :
  ∀ (fuel:Nat) (listed:Array Bool) (a:Act),Down md ops listed ->
   (∀ j oj,ops[j]?=some oj->j≠i->listed.getD j true=false->(∀ e∈oj.after,Region.binds md e=true->e.on≠i)->oi.apart ops oj=true) ->
   i∈Region.ready md ops listed->Step P md ops w0 Φ G oi a S ->
   (∀ v,S v->uR P md ops w0 Φ G Q p m fuel (listed.setIfInBounds i true) (a.put oi.dst v))->uR P md ops w0 Φ G Q p m (fuel+1) listed a:=by
 have own:∀ (listed:Array Bool),i∈Region.ready md ops listed->listed.getD i false=true->False:=λlisted hr hl=>by
  have h0:=(adN.1 hr).1;rcases acO i listed.size with h' | h'
  ·simp [h'] at h0 hl;rw [h0] at hl;cases hl
  ·simp [acv h'] at hl
 intro fuel
 induction fuel with
 | zero =>
  intro listed a hD _ hr hy H;refine ⟨λh=>(by rw [h] at hr;cases hr),λj hj=>?_⟩;by_cases hji:j=i
  ·subst hji;exact ⟨UB,λo ho=>by rw [hi] at ho;cases ho;exact ⟨S,hy,H⟩⟩
  ·obtain ⟨v0,hv0⟩:=hy.some;have:=(H v0 hv0).1 j (ready_mono hj hji);exact (own listed hr (hw listed hD _ hj this i UB)).elim
 | succ fuel ih =>
  intro listed a hD hfree hr hy H;refine ⟨λh=>(by rw [h] at hr;cases hr),λj hj=>?_⟩;by_cases hji:j=i
  ·subst hji;exact ⟨UB,λo ho=>by rw [hi] at ho;cases ho;exact ⟨S,hy,H⟩⟩
  ·obtain ⟨v0,hv0⟩:=hy.some;have O5:=ready_mono hj hji;refine ⟨((H v0 hv0).2 j O5).1,λoj hoj=>?_⟩;obtain ⟨hjun,oj',Qe,hall⟩:=adN.1 hj;rw [hoj] at Qe;cases Qe;have hnot:∀ e∈oj.after,Region.binds md e=true->e.on≠i:=λe he hb heq=>by
    have h1:=hall e he hb;rw [heq] at h1;exact own listed hr h1
   have Qf:∀ e∈oi.after,Region.binds md e=true->e.on≠j:=λe he hb heq=>by
    obtain ⟨_,oi',Qg,Qh⟩:=adN.1 hr;rw [hi] at Qg;cases Qg;have h1:=Qh e he hb;rw [heq] at h1;rcases acO j listed.size with h' | h'
    ·simp [h'] at hjun h1;rw [hjun] at h1;cases h1
    ·simp [acv h'] at h1
   have hap:=hfree j oj hoj hji hjun hnot;obtain ⟨h1,h2,h3⟩:=Oper.apart_spec hap;have hsi:=λcs b=>hsel i oi cs b hi;have hsj:=λcs b=>hsel j oj cs b hoj;have back:∀ v S',Step P md ops w0 Φ G oj (a.put oi.dst v) S'->Step P md ops w0 Φ G oj a S':=λv S' h =>
    h.same (execOp_put oj hsj a oi.dst v h1).symm (wanted_put oj a oi.dst v h1).symm (λw hf=>(vX hd hi hnot).2 hf)
   obtain ⟨Sj,hSj,_⟩:=((H v0 hv0).2 j O5).2 oj hoj;refine ⟨Sj,back v0 Sj hSj,λu hu=>?_⟩;refine ih (listed.setIfInBounds j true) (a.put oj.dst u) (hD.step hj) ?_ (ready_mono hr (abf hji)) ?_ ?_
   ·intro k ok hk hki hun hno;refine hfree k ok hk hki ?_ hno;by_cases hjk:j=k
    ·subst hjk;exact hjun
    ·rw [getD_set_ne true hjk] at hun;exact hun
   ·exact hy.same (execOp_put oi hsi a oj.dst u h3) (wanted_put oi a oj.dst u h3) (λw hf=>(vX hd hoj Qf).1 hf)
   ·intro v hv;obtain ⟨YW,hSj',hK⟩:=((H v hv).2 j O5).2 oj hoj;have e:YW=Sj:=(back v YW hSj').one (back v0 Sj hSj);rw [<-Act.put_comm a v u h2,Array.setIfInBounds_comm _ _ hji];exact hK u (by rw [e];exact hu)
theorem uT {Q:Exit->Act->World->Prop} {p m n:Nat} (hd:og ops n=true) (hw:Lx md ops p) (hs:Region.noSelect ops=true):∀ (l:List Oper) (k:Nat) (a:Act),(∀ j,j<l.length->l[j]?=ops[k+j]?)->k+l.length=p->Down md ops (bB ops.size k) ->
  Ak md ops p l.length k (bB ops.size k)=true->qh P md ops w0 Φ G (λa'=>∀ w,yH ops w0 Φ (bB ops.size p) a' w->wpAny P md ops Q m (bB ops.size p) a' w) l a->uR P md ops w0 Φ G Q p m l.length (bB ops.size k) a
 | [],k,a,_,hkp,_,hB,h=>by
  have:k=p:=by simpa using hkp
  subst this;exact ⟨λj hj=>aa0 (aa9.1 hB j hj),h⟩
 | o::l,k,a,hl,hkp,hD,hB,h=>by
  have h0:ops[k]?=some o:=by simpa using (hl 0 (by simp)).symm
  simp only [ab6,Ak,N_] at hB;obtain ⟨⟨⟨hr,hf⟩,hp⟩,hB'⟩:=hB;obtain ⟨S,hy,hK⟩:=h;have hr':k∈Region.ready md ops (bB ops.size k):=by simpa using hr
  refine DR hd hw h0 (aa0 hp) (Region.noSelect_spec hs) l.length _ a hD (Region.free_spec h0 hf) hr' hy λv hv=>?_;exact uT hd hw hs l (k+1) _ (λj hj=>by have:=hl (j+1) (by simp;omega);simpa [abY,Nat.add_comm 1 j] using this) (by simp at hkp ⊢;omega) (hD.step hr') hB' (hK v hv)
def Cq (P:Program) (Q:Exit->Act->World->Prop):List Oper->Act->World->Prop
 | [],a,w=>Q .normal a w
 | o::rest,a,w=>o.wp P a w (λa w=>Cq P Q rest a w) Q
def LA (ops:Array Oper) (n p:Nat):Bool :=
 Region.noSelect ops&&og ops n&&uS .any ops p&&Ak .any ops p p 0 (bB ops.size 0)&&(ops.size == p+2)&&(Region.ready .any ops (bB ops.size p) == [p])&&(Region.ready .any ops ((bB ops.size p).setIfInBounds p true) == [p+1])&&((ops[p]?).all λo=>o.guard.isNone)&&((ops[p+1]?).all λo=>o.guard.isNone)&&(Region.ready .any ops (((bB ops.size p).setIfInBounds p true).setIfInBounds (p+1) true)).isEmpty
theorem zP {id:Nat} {Q:Exit->Act->World->Prop} {a:Act} {l:List Oper} (Φ:Tmp->Value->World->Prop) (G:Tmp->Option (Value->Prop)) (n p:Nat) (hm:P.follows .mixedOrders=true) (hn:a.tmps.size=n)
  (hB:LA l.toArray n p=true) (hΦ:∀ t v w w',Φ t v w->ae w w'->Φ t v w')
  (h:iX P .any l.toArray w0 Φ G (λlast a'=>∀ w,ae w0 w->(∀ (i:Nat) (o:Oper) (t:Tmp),i<p->l[i]?=some o->o.dst=some t->Φ t (a'.eval (.tmp t)) w)->Cq P Q (last::l.drop (p+1)) a' w) (l.take (p+1)) a):(Code.region id l.toArray true).wp P Q a w0:=by
 simp only [LA,N_] at hB;obtain ⟨⟨⟨⟨⟨⟨⟨⟨⟨hs,hd⟩,hw⟩,hL⟩,hp⟩,hR⟩,hR2⟩,hg⟩,hg2⟩,hE⟩:=hB;have hsz:l.toArray.size=p+2:=by simpa using hp
 have hlp:l.length=p+2:=by simpa using hsz
 obtain ⟨last,el,h⟩:=h.split;have htl:(l.take (p+1)).length=p+1:=by simp [hlp]
 have hdl:(l.take (p+1)).dropLast.length=p:=by simp [hlp]
 have hlast:l.toArray[p]?=some last:=by
  have h1:(l.take (p+1))[p]?=some last:=by rw [el,S_ (by omega)];simp [hlp]
  rw [aak (by omega)] at h1
  simpa using h1
 have hpre:∀ j,j<p->(l.take (p+1)).dropLast[j]?=l[j]?:=λj hj=>by
  rw [acu,h_ (by omega),aak (by omega)]
 obtain ⟨fin,hfin⟩:∃ fin,l.drop (p+1)=[fin]:=by
  have:(l.drop (p+1)).length=1:=by simp [hlp]
  exact List.length_eq_one_iff.1 this
 have GV:l.toArray[p+1]?=some fin:=by
  have:(l.drop (p+1))[0]?=some fin:=by rw [hfin];rfl
  rw [acx] at this
  simpa using this
 refine wp_region_any hm ?_;rw [hsz];refine mi (G:=G) (m:=2) (p:=p) (n:=n) hd hΦ p (bB (p+2) 0) a _ hn ⟨ae.draw w0,λi hi=>?_⟩ ?_
 ·by_cases h:i<p+2 <;> simp [h,bB] at hi
 ·have:=uT (P:=P) (Q:=Q) (m:=2) (w0:=w0) (Φ:=Φ) (G:=G) (md:=.any) (ops:=l.toArray) (p:=p) hd (uS.waits hw) hs (l.take (p+1)).dropLast 0 a (λj hj=>by rw [M_,abm];exact hpre j (by omega)) (by omega) (by rw [hsz];exact zO _) (by rw [hdl];exact hL) ?_
  ·rw [hsz,hdl] at this;exact this
  ·refine qh.mono (n:=n) (λa' hn' hb w hk=>?_) hn h;have h1:=hb w hk.dh (λi o t hi ho ht=>hk.phi i (rq _ p i hi (by omega)).1 o t (by simpa using ho) ht);have hR':Region.ready .any l.toArray (bB l.toArray.size p)=[p]:=by simpa using hR
   have Qj:Region.ready .any l.toArray ((bB l.toArray.size p).setIfInBounds p true)=[p+1]:=by simpa using hR2
   rw [hfin] at h1;refine ⟨λh0=>(by rw [hR'] at h0;cases h0),λi hi=>?_⟩;rw [hR',I_] at hi;subst hi;unfold wpOp;simp only [hlast];have hgn:last.guard=none:=by
    have:=hg;simp only [hlast,adD] at this;simpa using this
   have hwn:Region.wanted last (yielded l.toArray a'.tmps)=true:=by simp [Region.wanted,hgn]
   simp only [hwn,if_true];refine .inl (Oper.wp_mono (λa'' w'' hq=>?_) h1);refine ⟨λh0=>(by rw [Qj] at h0;cases h0),λi hi=>?_⟩;rw [Qj,I_] at hi;subst hi;unfold wpOp;simp only [GV];have hgn2:fin.guard=none:=by
    have:=hg2;simp only [GV,adD] at this;simpa using this
   have hwn2:Region.wanted fin (yielded l.toArray a''.tmps)=true:=by simp [Region.wanted,hgn2]
   simp only [hwn2,if_true];refine .inl (Oper.wp_mono (λa3 w3 hq=>⟨?_,hq⟩) hq);exact List.isEmpty_iff.1 hE
end
end Go.Proofs.YtfaljekgpnbmiaaGreat

namespace Go.Proofs.YtfaljekgpnbmiaaGreat.Pl
section
variable {n:Nat} {G Q St:Nat->Nat->Int}
theorem Au (hP:gQ n G) (hG:∀ i j,G i j=G j i) {D:Int} (hD:∀ l,l<=n->gK n G l<=D) {i:Nat} (hi:i<n) (hr:∀ l,l<i->-gK n G (l+1)<=2*gm n G l i l∧2*gm n G l i l<=gK n G (l+1)):∀ m l,l+m=i->4*gm n G l i i<=gK n G l*(((m+4:Nat):Int)*D)
 | 0,l,h=>by
  have e:l=i:=by omega
  subst e;have h1:=Bu hP (show l<=n by omega);have h2:=hD (l+1) (by omega);have h3:=Bu hP (show l+1<=n by omega);rw [fw hP hi] at h2 h3;have h4:1*(4*D)<=gK n G l*(4*D):=A_ h1 (by omega);have e4:(((0+4:Nat):Int)*D)=4*D:=rfl;rw [e4];omega
 | m+1,l,h=>by
  have ih:=Au hP hG hD hi hr m (l+1) (by omega);have hn:=Tq hP hG (l:=l) (i:=i) (by omega) hi;have hv:=Bu hP (show l+1<=n by omega);have hv0:=Bu hP (show l<=n by omega);have hr1:=hr l (by omega);have hd:=hD (l+1) (by omega);generalize hA:gK n G (l+1)=A at *
  generalize hB:gK n G l=B at *
  generalize gm n G l i i=X at *
  generalize gm n G (l+1) i i=Y at *
  generalize gm n G l i l=Z at *
  have hz:(2*Z)*(2*Z)<=A*A:=(xq hr1 hr1).2;have e1:(((m+1+4:Nat):Int)*D)=((m+4:Nat):Int)*D+D:=by
   have:((m+1+4:Nat):Int)=((m+4:Nat):Int)+1:=by omega
   rw [this,abb,aaY]
  generalize hC:(((m+4:Nat):Int)*D)=C at *
  rw [e1]
  -- A*(4 X)=4 B Y+(2 Z)^2<=B (A C)+A A=A (B C+A)
  have h5:A*(4*X)<=A*(B*C+A):=by
   have t1:A*(4*X)=4*(A*X):=by rw [r_]
   have t2:B*(4*Y)<=B*(A*C):=o_ ih (by omega);have t3:B*(4*Y)=4*(B*Y):=by rw [r_]
   have t4:B*(A*C)=A*(B*C):=by rw [r_]
   have t5:(2*Z)*(2*Z)=4*(Z*Z):=by rw [y_,r_ Z 2 Z,<-y_];rfl
   rw [t1,hn,R_ A];omega
  have h6:4*X<=B*C+A:=Int.le_of_mul_le_mul_left h5 (by omega);have h7:1*D<=B*D:=A_ hv0 (by omega);rw [R_];omega
theorem Kr (hP:gQ n G) (hG:∀ i j,G i j=G j i) {D:Int} (hD:∀ l,l<=n->gK n G l<=D) {i:Nat} (hi:i<n) (hr:∀ l,l<i->-gK n G (l+1)<=2*gm n G l i l∧2*gm n G l i l<=gK n G (l+1)):4*G i i<=((i+4:Nat):Int)*D:=by
 have:=Au hP hG hD hi hr i 0 (by omega);rwa [pz hi hi,Cv,aaY] at this
theorem Tt (hQ:gQ n Q) (u:Nat->Int):0<=rG n Q u u:=by
 by_cases h:∃ i,i<n∧u i≠0
 ·exact abd (hQ u h)
 ·have hz:∀ i,i<n->u i=0:=λi hi=>v_ λhc=>h ⟨i,hi,hc⟩;have:rG n Q u u=0:=kF λi hi=>by rw [hz i hi,aa_]
  omega
theorem QA (hS:∀ i j,Q i j=Q j i) (u v:Nat->Int):rG n Q u v=rG n Q v u:=by
 unfold rG;have e1:sm n (λi=>u i*sm n (λj=>Q i j*v j))=sm n (λi=>sm n (λj=>u i*(Q i j*v j))):=aC λi _=>by rw [dA]
 have e2:sm n (λi=>v i*sm n (λj=>Q i j*u j))=sm n (λi=>sm n (λj=>v i*(Q i j*u j))):=aC λi _=>by rw [dA]
 rw [e1,e2,oW];refine aC λj _=>aC λi _=>?_;rw [hS i j,r_,u_ (u i),r_ (Q j i)]
theorem NM (hQ:gQ n Q) (hS:∀ i j,Q i j=Q j i) (u v:Nat->Int):-(rG n Q u u+rG n Q v v)<=2*rG n Q u v∧2*rG n Q u v<=rG n Q u u+rG n Q v v:=by
 have key:∀ t:Int,0<=(rG n Q u u - t*rG n Q v u) - t*(rG n Q u v - t*rG n Q v v):=λt=>by
  have:=Tt hQ (λi=>u i - t*v i);rw [wy,yQ,yQ] at this;exact this
 have h1:=key 1;have h2:=key (-1);rw [QA hS v u] at h1 h2;omega
theorem QB (Q:Nat->Nat->Int) {c:Nat} (hc:c<n) (x:Nat->Int):rG n Q (unit c) x=sm n (λj=>Q c j*x j):=by
 unfold rG;rw [iM c hc λi _ hi=>by unfold unit;rw [g_ (λe=>hi e.symm),aa_]];unfold unit;rw [h_ rfl,aaY]
theorem Tp (hQ:gQ n Q) (hS:∀ i j,Q i j=Q j i) {D T:Int} (hD:∀ i j,i<n->j<n->-D<=gm n Q n i j∧gm n Q n i j<=D) {x:Nat->Int} (hx:rG n Q x x<=T) (hq:∀ c,c<n->Q c c<=T) {i:Nat} (hi:i<n):-(n*(D*T))<=x i∧x i<=n*(D*T):=by
 have h:=(qO hQ n (d_ n)).1;have hs:=h.pos;have hlen:=(jE n Q n).1
 let P:Nat->Int:=λk=>if k=0 then 0 else x (k - 1)
 have e:=h.Av (r:=i) (by omega) P;rw [(fB n Q n (d_ n) i hi).1,h_ hi,rW,kJ n P (i+1) (by omega)] at e;have p0:P 0=0:=h_ rfl;have pi:∀ j,P (j+1)=x j:=λj=>by show (if j+1=0 then 0 else x (j+1 - 1))=_;rw [g_ (by omega)];rfl
 rw [p0,Y_,Int.zero_add,pi i] at e;have WC:∀ c,c<n->-(D*T)<=(dE n Q n).cell i (c+1)*ev n (mV Q ((dE n Q n).fu c)) P∧(dE n Q n).cell i (c+1)*ev n (mV Q ((dE n Q n).fu c)) P<=D*T:=λc hc=>by
  rw [(fB n Q n (d_ n) c hc).2,h_ hc,uV];have e2:sm n (λj=>Q c j*P (j+1))=rG n Q (unit c) x:=by
   rw [QB Q hc];exact aC λj _=>by rw [pi]
  rw [e2];have h1:=NM hQ hS (unit c) x;have h2:rG n Q (unit c) (unit c)=Q c c:=(Ew n Q c c hc hc).symm;have h3:=hq c hc;exact xq (hD i c hi hc) (by omega)
 have hb:=PW WC;rw [<-e] at hb;have hone:1<=(dE n Q n).scale:=by omega
 generalize (dE n Q n).scale=s at *
 generalize hM:(n:Int)*(D*T)=M at *
 have hM0:0<=M:=by omega
 constructor
 ·apply v_;intro hc;have:s*x i<=1*x i:=by
   have:=Int.mul_le_mul_of_nonpos_right hone (show x i<=0 by omega);exact this
  omega
 ·apply v_;intro hc;have:1*x i<=s*x i:=A_ hone (by omega);omega
end
def il (m:Nat) (a:Nat->Nat->Int) (wt:Nat->Int) (i j:Nat):Int:=sm m (λk=>(wt k*a k (i+1))*a k (j+1))
theorem Kc (m:Nat) (a:Nat->Nat->Int) (wt:Nat->Int) (i j:Nat):il m a wt i j=il m a wt j i:=by
 unfold il;refine aC λk _=>?_;rw [y_,u_ (a k (i+1)),<-y_]
theorem Ky (n m:Nat) (a:Nat->Nat->Int) (wt:Nat->Int) (v:Nat->Int):sm n (λi=>v i*sm n (λj=>il m a wt i j*v j))=sm m (λk=>wt k*(dir n (a k) v*dir n (a k) v)):=by
 have e1:∀ i,sm n (λj=>il m a wt i j*v j)=sm m (λk=>(wt k*a k (i+1))*dir n (a k) v):=λi=>by
  have:sm n (λj=>il m a wt i j*v j)=sm n (λj=>sm m (λk=>(wt k*a k (i+1))*(a k (j+1)*v j))):=aC λj _=>by
   unfold il;rw [u_,<-dA];exact aC λk _=>by rw [u_ (v j),y_]
  rw [this,oW];exact aC λk _=>by unfold dir;rw [<-dA]
 have e2:sm n (λi=>v i*sm n (λj=>il m a wt i j*v j))=sm n (λi=>sm m (λk=>(wt k*dir n (a k) v)*(a k (i+1)*v i))):=aC λi _=>by
  rw [e1 i,<-dA];refine aC λk _=>?_;generalize wt k=p;generalize a k (i+1)=q;generalize dir n (a k) v=u;generalize v i=x;rw [r_ x,y_ p q,r_ p q,u_ x u];rw [r_ (p*u) q x,y_ p u x]
 rw [e2,oW];refine aC λk _=>?_;rw [dA];unfold dir;rw [y_]
theorem J3 {n m:Nat} {a:Nat->Nat->Int} {wt:Nat->Int} (hw:∀ k,k<m->0<wt k) (ht:∀ v:Nat->Int,(∀ k,k<m->dir n (a k) v=0)->∀ i,i<n->v i=0):gQ n (il m a wt):=by
 intro v ⟨i,hi,hv⟩;rw [Ky];have h0:∀ k,k<m->0<=wt k*(dir n (a k) v*dir n (a k) v):=λk hk=>Z_ (abd (hw k hk)) (sq_nonneg _);have h1:=vV h0;rcases adM h1 with h2|h2
 ·exact h2
 ·exfalso;refine hv (ht v (λk hk=>?_) i hi);apply v_;intro hc;have hpos:0<wt k*(dir n (a k) v*dir n (a k) v):=by
   refine adO (hw k hk) ?_;rcases Int.lt_or_gt_of_ne hc with h|h
   ·exact Int.mul_pos_of_neg_of_neg h h
   ·exact adO h h
  rw [fO k hk] at h2;have h3:=vV (n:=m) (f:=λi=>if i=k then 0 else wt i*(dir n (a i) v*dir n (a i) v)) (λi hi=>by split;omega;exact h0 i hi);omega
def aQ (n:Nat) (St:Nat->Nat->Int) (s:Nat->Int) (j:Nat):Int:=sm n (λi=>s (i+1)*St j i)
theorem lU (n:Nat) (St:Nat->Nat->Int) (s:Nat->Int) (j:Nat):qg n St s (j+1)=aQ n St s j:=by
 unfold qg aQ;rw [g_ (by omega)];rfl
theorem EN {n:Nat} (s:Nat->Int) {j:Nat} (hj:j<n):aQ n unit s j=s (j+1):=by
 unfold aQ;rw [iM j hj λi _ hi=>by unfold unit;rw [g_ (λe=>hi e.symm),Y_]];unfold unit;rw [h_ rfl,adr]
theorem EO (n:Nat) (St:Nat->Nat->Int) (s:Nat->Int) {k j a:Nat} (t:Int) (h:a≠k):aQ n (bF St k j t) s a=aQ n St s a:=by
 unfold aQ;refine aC λi _=>?_;unfold bF;rw [g_ h]
theorem IA (n:Nat) (St:Nat->Nat->Int) (s:Nat->Int) (k j:Nat) (t:Int):aQ n (bF St k j t) s k=aQ n St s k - t*aQ n St s j:=by
 unfold aQ;rw [<-dA,<-zF];refine aC λi _=>?_;unfold bF;rw [h_ rfl,aaZ,r_]
theorem zW (a:Int) {b:Int} (hb:b≠0):(a - Int.fdiv a b*b).natAbs<b.natAbs:=by
 rcases (show b<0∨0<b by omega) with h|h
 ·rw [<-Int.neg_fdiv_neg,T_ _ (by omega)];have d1:=aaz (-a) (-b);have d2:=abh (-a) (show -b≠0 by omega);have d3:=abj (-a) (show 0 < -b by omega);generalize (-a)/(-b)=q at *
  generalize (-a)%(-b)=r at *
  rw [abe,u_ b q] at d1;omega
 ·rw [T_ _ (by omega)];have d1:=aaz a b;have d2:=abh a (show b≠0 by omega);have d3:=abj a h;generalize a/b=q at *
  generalize a%b=r at *
  rw [u_ b q] at d1;omega
theorem IB (a:Int) {b:Int} (hb:b≠0):((Int.fdiv a b).natAbs:Int)*b.natAbs<=a.natAbs+b.natAbs:=by
 have h:=zW a hb;have e:((Int.fdiv a b).natAbs:Int)*b.natAbs=((Int.fdiv a b*b).natAbs:Int):=by rw [Int.natAbs_mul];simp
 rw [e];omega
def qA (n:Nat) (r:Nat->Int):Int:=sm n (λj=>(r j).natAbs)
theorem F4 (n:Nat) (r:Nat->Int):0<=qA n r:=vV λ_ _=>by omega
theorem KR {n:Nat} {r r':Nat->Int} {k:Nat} (hk:k<n) (h:∀ j,j<n->j≠k->r' j=r j) (hlt:(r' k).natAbs<(r k).natAbs):qA n r'<qA n r:=by
 unfold qA;rw [fO (f:=λj=>((r' j).natAbs:Int)) k hk,fO (f:=λj=>((r j).natAbs:Int)) k hk,aC (f:=λj=>if j=k then 0 else ((r' j).natAbs:Int)) (g:=λj=>if j=k then 0 else ((r j).natAbs:Int)) λj hj=>?_]
 ·omega
 ·by_cases e:j=k
  ·rw [h_ e,h_ e]
  ·rw [g_ e,g_ e,h j hj e]
theorem D8 {n:Nat} {St:Nat->Nat->Int} {s:Nat->Int} {k j:Nat} (hk:k<n) (hjk:j≠k) (hj:aQ n St s j≠0) (hle:(aQ n St s j).natAbs<=(aQ n St s k).natAbs) :
  qA n (aQ n (bF St k j (Int.fdiv (aQ n St s k) (aQ n St s j))) s)<qA n (aQ n St s):=by
 refine KR hk (λa _ ha=>EO n St s _ ha) ?_;rw [IA];have:=zW (aQ n St s k) hj;omega
def eX (n:Nat) (s:Nat->Int) (at_:Nat) (St:Nat->Nat->Int) (j:Nat):Nat->Nat->Int :=
 if j=at_∨aQ n St s j=0 then St else bF St j at_ (Int.fdiv (aQ n St s j) (aQ n St s at_))
def bP (n:Nat) (s:Nat->Int) (at_:Nat) (St:Nat->Nat->Int):Nat->Nat->Nat->Int
 | 0=>St
 | j+1=>eX n s at_ (bP n s at_ St j) j
def fI (n:Nat) (s:Nat->Int) (St:Nat->Nat->Int) (at_:Nat):Prop:=at_<n∧aQ n St s at_≠0∧∀ j,j<n->aQ n St s j≠0->(aQ n St s at_).natAbs<=(aQ n St s j).natAbs
def gZ (n:Nat) (s:Nat->Int) (k:Nat) (St:Nat->Nat->Int):Prop:=∃ (T:Nat->Nat->Nat->Int) (A:Nat->Nat),T 0=unit∧T k=St∧∀ i,i<k->fI n s (T i) (A i)∧T (i+1)=bP n s (A i) (T i) n
section
variable {n:Nat} {s:Nat->Int} {at_:Nat} {St:Nat->Nat->Int}
theorem xP (j:Nat) {a:Nat} (h:a≠j):eX n s at_ St j a=St a:=by
 unfold eX
 split
 ·rfl
 ·funext i;unfold bF;rw [g_ h]
theorem C8:∀ (j:Nat) {a:Nat},j<=a->bP n s at_ St j a=St a
 | 0,_,_=>rfl
 | j+1,a,h=>by
  show eX n s at_ (bP n s at_ St j) j a=St a;rw [xP j (by omega),C8 j (by omega)]
theorem L9:∀ (j:Nat),bP n s at_ St j at_=St at_
 | 0=>rfl
 | j+1=>by
  show eX n s at_ (bP n s at_ St j) j at_=St at_;by_cases e:at_=j
  ·unfold eX;rw [h_ (.inl e.symm),L9 j]
  ·rw [xP j e,L9 j]
theorem IC {Hy:Nat->Nat->Int} {a:Nat} (h:Hy a=St a):aQ n Hy s a=aQ n St s a:=by unfold aQ;rw [h]
theorem nU (j:Nat) {a:Nat} (h:j<=a):aQ n (bP n s at_ St j) s a=aQ n St s a:=IC (C8 j h)
theorem qB (j:Nat):aQ n (bP n s at_ St j) s at_=aQ n St s at_:=IC (L9 j)
theorem KS (h:Em n St) (ha:at_<n):∀ j,j<=n->Em n (bP n s at_ St j)
 | 0,_=>h
 | j+1,hj=>by
  show Em n (eX n s at_ (bP n s at_ St j) j);unfold eX
  split
  ·exact KS h ha j (by omega)
  ·rename_i hne;exact Ex (KS h ha j (by omega)) (by omega) ha (λe=>hne (.inl e.symm)) _
theorem IE (h:fI n s St at_):∀ j,j<=n->qA n (aQ n (bP n s at_ St j) s)<=qA n (aQ n St s)∧((∃ a,a<j∧a≠at_∧aQ n St s a≠0)->qA n (aQ n (bP n s at_ St j) s)<qA n (aQ n St s))
 | 0,_=>⟨abk _,λ⟨a,h1,_⟩=>by omega⟩
 | j+1,hj=>by
  have ih:=IE h j (by omega);show qA n (aQ n (eX n s at_ (bP n s at_ St j) j) s)<=_∧_;have er:=nU (n:=n) (s:=s) (at_:=at_) (St:=St) j (a:=j) (d_ _);by_cases hc:j=at_∨aQ n (bP n s at_ St j) s j=0
  ·have e:eX n s at_ (bP n s at_ St j) j=bP n s at_ St j:=by unfold eX;rw [h_ hc]
   have e2:bP n s at_ St (j+1)=bP n s at_ St j:=e;rw [e,e2];refine ⟨ih.1,λ⟨a,h1,h2,h3⟩=>ih.2 ⟨a,?_,h2,h3⟩⟩;rcases (show a<j∨a=j by omega) with h4|h4
   ·exact h4
   ·subst h4;rcases hc with h5|h5
    ·exact absurd h5 h2
    ·rw [er] at h5;exact absurd h5 h3
  ·have e:eX n s at_ (bP n s at_ St j) j=bF (bP n s at_ St j) j at_ (Int.fdiv (aQ n (bP n s at_ St j) s j) (aQ n (bP n s at_ St j) s at_)):=by unfold eX;rw [g_ hc]
   have e2:bP n s at_ St (j+1)=eX n s at_ (bP n s at_ St j) j:=rfl;have hnz:aQ n (bP n s at_ St j) s j≠0:=λh0=>hc (.inr h0);have hlt:=D8 (n:=n) (St:=bP n s at_ St j) (s:=s) (k:=j) (j:=at_) (by omega) (λe=>hc (.inl e.symm)) (by rw [qB];exact h.2.1) (by
    rw [qB,er];rw [er] at hnz;exact h.2.2 j (by omega) hnz)
   rw [e2,e];exact ⟨by omega,λ_=>by omega⟩
theorem gZ.start (n:Nat) (s:Nat->Int):gZ n s 0 unit:=⟨λ_=>unit,λ_=>0,rfl,rfl,λi hi=>by omega⟩
theorem gZ.snoc {k:Nat} (h:gZ n s k St) (ha:fI n s St at_):gZ n s (k+1) (bP n s at_ St n):=by
 obtain ⟨T,A,h0,rfl,h2⟩:=h;refine ⟨λi=>if i<=k then T i else bP n s at_ (T k) n,λi=>if i<k then A i else at_,?_,?_,λi hi=>?_⟩
 ·simp [h0]
 ·show (if k+1<=k then _ else _)=_;rw [g_ (by omega)]
 ·by_cases e:i<k
  ·have:=h2 i e;simp only [h_ (show i<=k by omega),h_ e,h_ (show i+1<=k by omega)];exact this
  ·have:i=k:=by omega
   subst this;simp only [h_ (d_ i),g_ e,g_ (show ¬ i+1<=i by omega)];exact ⟨ha,trivial⟩
theorem gZ.OX {k:Nat} (h:gZ n s k St):Em n St:=by
 obtain ⟨T,A,h0,rfl,h2⟩:=h
 induction k with
 | zero=>rw [h0];exact Hr n
 | succ k ih =>
  have h3:=h2 k (by omega);rw [h3.2];exact KS (ih (λi hi=>h2 i (by omega))) h3.1.1 n (d_ _)
theorem zi:∀ j,(∀ a,a<j->a=at_∨aQ n St s a=0)->bP n s at_ St j=St
 | 0,_=>rfl
 | j+1,h=>by
  show eX n s at_ (bP n s at_ St j) j=St;rw [zi j (λa ha=>h a (by omega))];unfold eX;rw [h_ (h j (by omega))]
end
section
variable {n:Nat} {s:Nat->Int} {at_:Nat} {St:Nat->Nat->Int}
def xQ (n:Nat) (s:Nat->Int) (at_:Nat) (St:Nat->Nat->Int) (a:Nat):Int:=if a=at_∨aQ n St s a=0 then 0 else Int.fdiv (aQ n St s a) (aQ n St s at_)
theorem Rj (j:Nat):∀ a,bP n s at_ St j a=if a<j then (λb=>St a b - xQ n s at_ St a*St at_ b) else St a:=by
 induction j with
 | zero=>intro a;rw [g_ (by omega)];rfl
 | succ j ih =>
  intro a;show eX n s at_ (bP n s at_ St j) j a=_;by_cases e:a=j
  ·subst e;rw [h_ (by omega)];have hr:=nU (n:=n) (s:=s) (at_:=at_) (St:=St) a (a:=a) (d_ _);have ha:=qB (n:=n) (s:=s) (at_:=at_) (St:=St) a;have hrow:=C8 (n:=n) (s:=s) (at_:=at_) (St:=St) a (a:=a) (d_ _);have aeJ:=L9 (n:=n) (s:=s) (at_:=at_) (St:=St) a;unfold eX xQ;rw [hr,ha];by_cases hc:a=at_∨aQ n St s a=0
   ·rw [h_ hc,h_ hc,hrow];funext b;rw [aa_,Int.sub_zero]
   ·rw [g_ hc,g_ hc];funext b;unfold bF;rw [h_ rfl,hrow,aeJ]
  ·rw [xP j e,ih a];by_cases h:a<j
   ·rw [h_ h,h_ (by omega)]
   ·rw [g_ h,g_ (by omega)]
theorem BA (j a:Nat):aQ n (bP n s at_ St j) s a=if a<j then aQ n St s a - xQ n s at_ St a*aQ n St s at_ else aQ n St s a:=by
 by_cases h:a<j
 ·rw [h_ h];unfold aQ;rw [Rj j a,h_ h,<-dA,<-zF];refine aC λi _=>?_;rw [aaZ,r_]
 ·rw [g_ h];exact nU j (by omega)
theorem Ma (h:fI n s St at_) {a:Nat} (ha:a<n):(aQ n St s a - xQ n s at_ St a*aQ n St s at_).natAbs<=(aQ n St s at_).natAbs∧(a≠at_->(aQ n St s a - xQ n s at_ St a*aQ n St s at_).natAbs<(aQ n St s at_).natAbs):=by
 have h1:0<(aQ n St s at_).natAbs:=by have:=h.2.1;omega
 unfold xQ;by_cases hc:a=at_∨aQ n St s a=0
 ·rw [h_ hc,aa_,Int.sub_zero];rcases hc with e|e
  ·rw [e];exact ⟨d_ _,λh=>absurd rfl h⟩
  ·rw [e];exact ⟨by simp,λ_=>by simpa using h.2.1⟩
 ·rw [g_ hc];have:=zW (aQ n St s a) h.2.1;exact ⟨by omega,λ_=>this⟩
theorem TU (h:fI n s St at_) {M a:Nat} (hM:(aQ n St s a).natAbs<=M):(xQ n s at_ St a).natAbs*(aQ n St s at_).natAbs<=M+(aQ n St s at_).natAbs:=by
 unfold xQ;by_cases hc:a=at_∨aQ n St s a=0
 ·rw [h_ hc];simp
 ·rw [g_ hc];have h1:=IB (aQ n St s a) h.2.1;have h2:(((Int.fdiv (aQ n St s a) (aQ n St s at_)).natAbs*(aQ n St s at_).natAbs:Nat):Int)<=(aQ n St s a).natAbs+(aQ n St s at_).natAbs:=by rw [Int.natCast_mul];exact h1
  omega
def vI (n:Nat) (St:Nat->Nat->Int) (N:Nat):Prop:=∀ a b,a<n->b<n->(St a b).natAbs<=N
def rA (n:Nat) (s:Nat->Int) (St:Nat->Nat->Int) (M:Nat):Prop:=∀ a,a<n->(aQ n St s a).natAbs<=M
theorem F5 (h:fI n s St at_) {N M:Nat} (hN:vI n St N) (hM:rA n s St M) (j:Nat):vI n (bP n s at_ St j) (N+(M+(aQ n St s at_).natAbs)/(aQ n St s at_).natAbs*N):=by
 intro a b ha hb;have h1:0<(aQ n St s at_).natAbs:=by have:=h.2.1;omega
 have h2:=hN a b ha hb;have h3:=hN at_ b h.1 hb;rw [Rj j a];by_cases hj:a<j
 ·rw [h_ hj];have h4:(xQ n s at_ St a).natAbs<=(M+(aQ n St s at_).natAbs)/(aQ n St s at_).natAbs:=(Nat.le_div_iff_mul_le h1).2 (TU h (hM a ha));have h5:(xQ n s at_ St a*St at_ b).natAbs<=(M+(aQ n St s at_).natAbs)/(aQ n St s at_).natAbs*N:=by
   rw [Int.natAbs_mul];exact adW h4 h3
  show (St a b - xQ n s at_ St a*St at_ b).natAbs<=_;generalize xQ n s at_ St a*St at_ b=z at *
  omega
 ·rw [g_ hj];exact w_ h2 (Nat.le_add_right _ _)
theorem wE (h:fI n s St at_):rA n s (bP n s at_ St n) (aQ n St s at_).natAbs:=λa ha=>by
 rw [BA,h_ ha];exact (Ma h ha).1
theorem KT (h:fI n s St at_) {M:Nat} (hM:rA n s St M) (j:Nat):rA n s (bP n s at_ St j) M:=λa ha=>by
 rw [BA]
 split
 ·exact w_ (Ma h ha).1 (hM at_ h.1)
 ·exact hM a ha
theorem zX {N M m:Nat} (hm:0<m) (Xh:m<=M):(N+(M+m)/m*N)*m<=3*(N*M):=by
 have h1:(M+m)/m*m<=M+m:=Nat.div_mul_le_self _ _;have h2:(M+m)/m*N*m=(M+m)/m*m*N:=Nat.mul_right_comm _ _ _;have h3:(M+m)/m*m*N<=(M+m)*N:=ach _ h1;have h4:N*m<=N*M:=abX _ Xh;rw [abC,h2];rw [abC,acn M N,acn m N] at h3;omega
def F6 (n:Nat) (s:Nat->Int) (St:Nat->Nat->Int):Prop:=(∀ a,a<n->0<=aQ n St s a)∨(∀ a,a<n->aQ n St s a<=0)
theorem Mc (h:fI n s St at_):F6 n s (bP n s at_ St n):=by
 have key:∀ a,a<n->∃ x,aQ n (bP n s at_ St n) s a=x∧(0<aQ n St s at_->0<=x)∧(aQ n St s at_<0->x<=0):=λa ha=>by
  refine ⟨_,rfl,?_,?_⟩ <;> rw [BA,h_ ha] <;> unfold xQ <;> intro hp
  ·by_cases hc:a=at_∨aQ n St s a=0
   ·rw [h_ hc];rcases hc with e | e
    ·rw [e];omega
    ·rw [e];omega
   ·rw [g_ hc,T_ _ (by omega)];have h1:=aaz (aQ n St s a) (aQ n St s at_);have h2:=abh (aQ n St s a) h.2.1;rw [u_] at h1;omega
  ·by_cases hc:a=at_∨aQ n St s a=0
   ·rw [h_ hc];rcases hc with e | e
    ·rw [e];omega
    ·rw [e];omega
   ·rw [g_ hc,<-Int.neg_fdiv_neg,T_ _ (by omega)];have h1:=aaz (-aQ n St s a) (-aQ n St s at_);have h2:=abh (-aQ n St s a) (show -aQ n St s at_≠0 by omega);generalize (-aQ n St s a)/(-aQ n St s at_)=q at *
    generalize (-aQ n St s a)%(-aQ n St s at_)=r at *
    rw [abe,u_] at h1;omega
 rcases (show 0<aQ n St s at_∨aQ n St s at_<0 by have:=h.2.1;omega) with hp|hp
 ·exact .inl λa ha=>by obtain ⟨x,e,h1,_⟩:=key a ha;rw [e];exact h1 hp
 ·exact .inr λa ha=>by obtain ⟨x,e,_,h1⟩:=key a ha;rw [e];exact h1 hp
theorem Om (h:fI n s St at_) (hs:F6 n s St) {a:Nat} (ha:a<n) (hne:a≠at_):2*(aQ n St s a - xQ n s at_ St a*aQ n St s at_).natAbs<=(aQ n St s a).natAbs:=by
 unfold xQ;by_cases hc:a=at_∨aQ n St s a=0
 ·rcases hc with e | e
  ·exact absurd e hne
  ·rw [h_ (.inr e),e];simp
 ·rw [g_ hc];have hle:=h.2.2 a ha (λe=>hc (.inr e));have haz:aQ n St s a≠0:=λe=>hc (.inr e);have hnz:=h.2.1;have main:∀ x m:Int,0<m->m<=x->2*(x - x/m*m).natAbs<=x.natAbs:=λx m hm hx=>by
   have h1:=aaz x m;have h2:=abh x (show m≠0 by omega);have h3:=abj x hm;have h4:1<=x/m:=(aby hm).2 (by omega);have h5:m*1<=m*(x/m):=o_ h4 (by omega);rw [u_ (x/m) m];omega
  rcases hs with hp|hp
  ·have h1:=hp a ha;have h2:=hp at_ h.1;rw [T_ _ h2];exact main _ _ (by omega) (by omega)
  ·have h1:=hp a ha;have h2:=hp at_ h.1;rw [<-Int.neg_fdiv_neg,T_ _ (by omega)];have:=main (-aQ n St s a) (-aQ n St s at_) (by omega) (by omega);rw [ab5] at this;omega
def rC (n:Nat) (s:Nat->Int) (C:Nat) (St:Nat->Nat->Int):Prop :=
 (F6 n s St∧∃ N M,vI n St N∧rA n s St M∧∀ at_,fI n s St at_->N*M*((M*(aQ n St s at_).natAbs)*(M*(aQ n St s at_).natAbs))<=C) ∨
 (vI n St (3*C)∧∀ at_,fI n s St at_->∀ a,a<n->a≠at_->aQ n St s a=0)
theorem vI.mono {N N':Nat} (h:vI n St N) (hN:N<=N'):vI n St N':=λa b ha hb=>w_ (h a b ha hb) hN
theorem KU {N M m C:Nat} (hm:0<m) (Xh:m<=M) (hC:N*M*((M*m)*(M*m))<=C):N+(M+m)/m*N<=3*C:=by
 have h1:=zX (N:=N) hm Xh;have hM:0<M:=by omega
 have h2:1<=(M*m)*(M*m):=acD (acD hM hm) (acD hM hm);have h3:N*M*1<=N*M*((M*m)*(M*m)):=abX _ h2;have h4:(N+(M+m)/m*N)*1<=(N+(M+m)/m*N)*m:=abX _ hm;omega
theorem rC.lq {C:Nat} (h:rC n s C St) (ha:fI n s St at_) (j:Nat) (hj:j<=n):vI n (bP n s at_ St j) (3*C):=by
 rcases h with ⟨_,N,M,hN,hM,hC⟩|⟨hN,hd⟩
 ·have h1:0<(aQ n St s at_).natAbs:=by have:=ha.2.1;omega
  exact (F5 ha hN hM j).mono (KU h1 (hM at_ ha.1) (hC at_ ha))
 ·rw [zi j (λa ha'=>by
   by_cases e:a=at_
   ·exact .inl e
   ·exact .inr (hd at_ ha a (by omega) e))]
  exact hN
theorem TV {N M m m' C:Nat} {N':Nat} (h1:N'*m<=3*(N*M)) (h2:2*m'<=M) (hC:N*M*((M*m)*(M*m))<=C):N'*m*((m*m')*(m*m'))<=C:=by
 have h3:N'*m*((m*m')*(m*m'))<=3*(N*M)*((m*m')*(m*m')):=ach _ h1;have h4:(2*m')*(2*m')<=M*M:=adW h2 h2;have e1:3*(N*M)*((m*m')*(m*m'))=N*M*(m*m)*(3*(m'*m')):=by
  simp only [Nat.mul_assoc,Nat.mul_left_comm,acn]
 have e2:N*M*((M*m)*(M*m))=N*M*(m*m)*(M*M):=by
  simp only [Nat.mul_assoc,Nat.mul_left_comm,acn]
 have e3:(2*m')*(2*m')=4*(m'*m'):=by
  simp only [Nat.mul_assoc,Nat.mul_left_comm,acn]
 have h5:N*M*(m*m)*(3*(m'*m'))<=N*M*(m*m)*(M*M):=abX _ (by omega);omega
theorem rC.round {C:Nat} (h:rC n s C St) (ha:fI n s St at_):rC n s C (bP n s at_ St n):=by
 have hmid:=h.lq ha n (d_ _);rcases h with ⟨hs,N,M,hN,hM,hC⟩|⟨hN,hd⟩
 ·have hm:0<(aQ n St s at_).natAbs:=by have:=ha.2.1;omega
  have hat:aQ n (bP n s at_ St n) s at_=aQ n St s at_:=qB n;by_cases hex:∃ a,a<n∧a≠at_∧aQ n (bP n s at_ St n) s a≠0
  ·obtain ⟨a,ha1,ha2,ha3⟩:=hex;refine .inl ⟨Mc ha,_,_,F5 ha hN hM n,wE ha,λat2 h2=>?_⟩;have h3:=h2.2.2 a ha1 ha3;have h4:2*(aQ n (bP n s at_ St n) s a).natAbs<=M:=by
    rw [BA,h_ ha1];exact w_ (Om ha hs ha1 ha2) (hM a ha1)
   exact TV (zX hm (hM at_ ha.1)) (show 2*(aQ n (bP n s at_ St n) s at2).natAbs<=M by omega) (hC at_ ha)
  ·refine .inr ⟨hmid,λat2 h2 a ha1 hne=>?_⟩;have key:∀ b,b<n->b≠at_->aQ n (bP n s at_ St n) s b=0:=λb hb hbn=>by
    apply v_;intro h3;exact hex ⟨b,hb,hbn,h3⟩
   have e2:at2=at_:=by
    apply v_;intro h3;exact h2.2.1 (key at2 h2.1 h3)
   exact key a ha1 (by rw [<-e2];exact hne)
 ·have e:bP n s at_ St n=St:=zi n (λa ha'=>by
   by_cases e:a=at_
   ·exact .inl e
   ·exact .inr (hd at_ ha a ha' e))
  rw [e];exact .inr ⟨hN,hd⟩
theorem IG (n:Nat):vI n unit 1:=λa b _ _=>by unfold unit;split <;> simp
theorem rC.first {M:Nat} (hM:rA n s unit M) (ha:fI n s unit at_):rC n s (3*M*((M*M)*(M*M))) (bP n s at_ unit n)∧∀ j,vI n (bP n s at_ unit j) (3*(3*M*((M*M)*(M*M)))):=by
 have hm:0<(aQ n unit s at_).natAbs:=by have:=ha.2.1;omega
 have Xh:=hM at_ ha.1;have h1:=zX (N:=1) hm Xh;rw [ab4] at h1;refine ⟨.inl ⟨Mc ha,_,_,F5 ha (IG n) hM n,wE ha,λat2 h2=>?_⟩,λj=>(F5 ha (IG n) hM j).mono ?_⟩
 ·have h3:=wE ha at2 h2.1;refine adW h1 (adW ?_ ?_) <;> exact adW Xh (w_ h3 Xh)
 ·have hM1:1<=M:=by omega
  have h4:(1+(M+(aQ n unit s at_).natAbs)/(aQ n unit s at_).natAbs*1)*1<=(1+(M+(aQ n unit s at_).natAbs)/(aQ n unit s at_).natAbs*1)*(aQ n unit s at_).natAbs:=abX _ hm;have h5:1<=(M*M)*(M*M):=acD (acD hM1 hM1) (acD hM1 hM1);have h6:3*M*1<=3*M*((M*M)*(M*M)):=abX _ h5;omega
theorem gZ.inv {M k:Nat} (hM:rA n s unit M) (h:gZ n s k St):rA n s St M∧(k=0∧St=unit∨rC n s (3*M*((M*M)*(M*M))) St):=by
 obtain ⟨T,A,h0,rfl,h2⟩:=h
 induction k with
 | zero=>rw [h0];exact ⟨hM,.inl ⟨rfl,rfl⟩⟩
 | succ k ih =>
  obtain ⟨i1,i2⟩:=ih (λi hi=>h2 i (by omega));obtain ⟨h3,h4⟩:=h2 k (by omega);rw [h4];refine ⟨λa ha=>w_ (wE h3 a ha) (i1 _ h3.1),.inr ?_⟩;rcases i2 with ⟨_,e⟩|e
  ·rw [e] at h3;rw [e];exact (rC.first hM h3).1
  ·exact e.round h3
theorem gZ.SE {M k:Nat} (hM:rA n s unit M) (h:gZ n s k St) (ha:fI n s St at_) (j:Nat) (hj:j<=n):vI n (bP n s at_ St j) (3*(3*M*((M*M)*(M*M)))):=by
 rcases (h.inv hM).2 with ⟨_,e⟩|e
 ·subst e;exact (rC.first hM ha).2 j
 ·exact e.lq ha j hj
end
end Go.Proofs.YtfaljekgpnbmiaaGreat.Pl
