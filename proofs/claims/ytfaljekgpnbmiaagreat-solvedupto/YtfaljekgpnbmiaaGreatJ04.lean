/- Joined: XTab5 XTab6 XLat1 XTab7. -/
import Derived.Test.YtfaljekgpnbmiaaGreatJ03
set_option linter.unusedVariables false
set_option linter.unusedSimpArgs false
set_option maxRecDepth 100000
namespace Go.Proofs.YtfaljekgpnbmiaaGreat.Pl
section
variable {F:Int->Nat->Int} {n:Nat} {t:aR}
theorem bN.RJ (h:bN F n t) {r:Nat} (hr:r<t.lines.length) {j:Nat} (hj:j<n+1):∃ e:Int,e*e=1∧t.cell r j=e*ng (n+1) (l8 (t.base F) j (F (t.name r))):=by
 obtain ⟨e,ee,he⟩:=h.Gd;refine ⟨e,ee,?_⟩;have h1:=JX (R:=t.base F) (s:=t.scale) (v:=F (t.name r)) (c:=λj=>t.cell r j) (λk hk=>h.fD r hr k hk) (r:=j) hj;rw [he] at h1;have hs:=h.pos;refine abJ (a:=t.scale*e) ?_ ?_
 ·intro h0;rcases aci.1 h0 with h0|h0
  ·omega
  ·rw [h0] at ee;simp at ee
 ·have e1:t.scale*e*(e*ng (n+1) (l8 (t.base F) j (F (t.name r))))=(e*e)*(t.scale*ng (n+1) (l8 (t.base F) j (F (t.name r)))):=by simp only [y_,r_,u_]
  rw [e1,ee,aaY,h1];simp only [y_,r_,u_]
theorem RL {e:Int} (h:e*e=1):e=1∨e=-1:=by
 rcases (show e<=-2∨e=-1∨e=0∨e=1∨2<=e by omega) with h1|h1|h1|h1|h1
 ·have:=o_ (show (2:Int)<=-e by omega) (show 0<=-e by omega);rw [Int.neg_mul_neg,h] at this;omega
 ·exact .inr h1
 ·rw [h1] at h;simp at h
 ·exact .inl h1
 ·have:=o_ h1 (show 0<=e by omega);rw [h] at this;omega
structure Small (F:Int->Nat->Int) (n:Nat) (t:aR) (B:Int):Prop where
 one:1<=B
 aS:∀ c,c<n->∀ k,k<n+1->-B<=F (t.fu c) k∧F (t.fu c) k<=B
 lines:∀ r,r<t.lines.length->∀ k,k<n+1->-B<=F (t.name r) k∧F (t.name r) k<=B
theorem Small.base {B:Int} (h:Small F n t B):∀ i k,i<n+1->k<n+1->-B<=t.base F i k∧t.base F i k<=B:=by
 intro i k hi hk;have h1:=h.one;unfold aR.base
 split
 ·unfold unit;split <;> omega
 ·exact h.aS (i - 1) (by omega) k hk
theorem bN.LC {B:Int} (h:bN F n t) (hB:Small F n t B) {r:Nat} (hr:r<t.lines.length) {j:Nat} (hj:j<n+1):-(Lu (n+1)*B^(n+1))<=t.cell r j∧t.cell r j<=Lu (n+1)*B^(n+1):=by
 obtain ⟨e,ee,he⟩:=h.RJ hr hj;have h1:=hB.one;have hb:=zG (n+1) (l8 (t.base F) j (F (t.name r))) B (by omega) (λi k hi hk=>by
  unfold l8
  split
  ·exact hB.lines r hr k hk
  ·exact hB.base i k hi hk)
 rw [he];rcases RL ee with h|h <;> rw [h] <;> omega
theorem bN.GX {B:Int} (h:bN F n t) (hB:Small F n t B):t.scale<=Lu (n+1)*B^(n+1):=by
 obtain ⟨e,ee,he⟩:=h.Gd;have h1:=hB.one;have hb:=zG (n+1) (t.base F) B (by omega) (λi k hi hk=>hB.base i k hi hk);rw [he] at hb;rcases RL ee with h|h <;> rw [h] at hb <;> omega
def aR.drop (t:aR) (x:Int):aR:={ t with lines:=t.lines.filter λl=>l.1 != x }
theorem aR.wH (t:aR) (x:Int) {r:Nat} (hr:r<(t.drop x).lines.length):∃ r',r'<t.lines.length∧(t.drop x).lines.getD r (0,[])=t.lines.getD r' (0,[])∧(t.drop x).name r≠x:=by
 have hm:(t.drop x).lines[r]∈t.lines.filter λl=>l.1 != x:=aan hr;have h1:=abg.1 hm;obtain ⟨r',hr',e⟩:=abw.1 h1.1;refine ⟨r',hr',?_,?_⟩
 ·rw [a_,f_ hr,a_,f_ hr',e]
 ·unfold aR.name;rw [a_,f_ hr];have:=h1.2
  simpa using this
theorem bN.drop (h:bN F n t) (x:Int):bN F n (t.drop x):=by
 refine ⟨h.aS,λl hl=>h.cells l (abg.1 hl).1,h.pos,h.Gd,λr hr k hk=>?_⟩;obtain ⟨r',hr',e,_⟩:=t.wH x hr;have:=h.fD r' hr' k hk;unfold aR.name aR.cell at *
 rw [e];exact this
def aR.expr (t:aR) (s:Nat->Int) (c:Nat->Int) (j:Nat):Int:=(if j=0 then s 0*t.scale else 0)+sm t.lines.length (λr=>c r*t.cell r j)
theorem bN.Ua (h:bN F n t) (s c:Nat->Int) (hs:∀ k,k<n+1->s k=s 0*unit 0 k+sm t.lines.length (λr=>c r*F (t.name r) k)):∀ k,k<n+1->t.scale*s k=sm (n+1) (λj=>t.expr s c j*t.base F j k):=by
 intro k hk;have e1:sm (n+1) (λj=>t.expr s c j*t.base F j k)=sm (n+1) (λj=>(if j=0 then s 0*t.scale else 0)*t.base F j k)+sm (n+1) (λj=>sm t.lines.length (λr=>c r*(t.cell r j*t.base F j k))):=by
  rw [<-zD];refine aC λj _=>?_;unfold aR.expr;rw [abb,u_ (sm _ _),<-dA];congr 1;refine aC λr _=>?_;simp only [y_,r_,u_]
 rw [e1,iM 0 (by omega) λj _ hj=>by rw [g_ hj,aa_],h_ rfl,jK,oW];have e2:sm t.lines.length (λr=>sm (n+1) (λj=>c r*(t.cell r j*t.base F j k)))=t.scale*sm t.lines.length (λr=>c r*F (t.name r) k):=by
  rw [<-dA];refine aC λr hr=>?_;rw [dA,<-h.fD r hr k hk,r_]
 rw [e2,hs k hk,R_];congr 1;simp only [y_,r_,u_]
theorem OB {n:Nat} {t:aR} (hn:ik n t) (hF:∀ k,1<=k->k<n+1->F (-(k:Int))=unit k) (hl:∀ k:Nat,1<=k->k<n+1->nJ t (-(k:Int))) (s:Nat->Int) :
  ∀ k,k<n+1->s k=s 0*unit 0 k+sm t.lines.length (λr=>(if t.name r<0∧-t.name r<n+1 then s (-t.name r).toNat else 0)*F (t.name r) k):=by
 intro k hk;by_cases h0:k=0
 ·subst h0;rw [kF λr _=>?_]
  ·unfold unit;rw [h_ rfl];omega
  ·split
   ·rename_i hc;obtain ⟨m,hm⟩:∃ m:Nat,-t.name r=m:=⟨(-t.name r).toNat,by omega⟩;have e:t.name r=-(m:Int):=by omega
    rw [e,hF m (by omega) (by omega)];unfold unit;rw [g_ (by omega)];omega
   ·omega
 ·obtain ⟨r,hr,er⟩:=hl k (by omega) hk;rw [iM r hr λr2 hr2 hne=>?_]
  ·rw [er,h_ (by omega),hF k (by omega) hk];unfold unit;rw [g_ (by omega),h_ rfl,aco,Int.toNat_natCast];omega
  ·split
   ·rename_i hc;obtain ⟨m,hm⟩:∃ m:Nat,-t.name r2=m:=⟨(-t.name r2).toNat,by omega⟩;have e:t.name r2=-(m:Int):=by omega
    have hmk:m≠k:=λe2=>hne (hn.lines r2 r hr2 hr (by rw [e,er,e2]));rw [e,hF m (by omega) (by omega)];unfold unit;rw [g_ hmk];omega
   ·omega
end
def XE {α:Type} (T:Nat->α) (b:Nat) (t:α):Nat->α:=λi=>if i<=b then T i else t
theorem kX {α:Type} {T:Nat->α} {b:Nat} {t:α} {i:Nat} (h:i<=b):XE T b t i=T i:=h_ h
theorem qG {α:Type} {T:Nat->α} {b:Nat} {t:α} {i:Nat} (h:b<i):XE T b t i=t:=g_ (by omega)
def Uk (R:Nat->Nat) (b r:Nat):Nat->Nat:=λi=>if i<b then R i else r
theorem gD {R:Nat->Nat} {b r i:Nat} (h:i<b):Uk R b r i=R i:=h_ h
theorem gF {R:Nat->Nat} {b r:Nat}:Uk R b r b=r:=g_ (by omega)
section
variable {F:Int->Nat->Int} {n:Nat} {U:List Int}
theorem kQ.snoc {T:Nat->aR} {R C:Nat->Nat} {b:Nat} (W:kQ F n T R C 0 b) {r c:Nat} (hr:r<(T b).lines.length) (hc:c<n) (hp:(T b).cell r (c+1)≠0) :
  kQ F n (XE T b ((T b).swap r c)) (Uk R b r) (Uk C b c) 0 (b+1):=by
 have XF:=W.ok b (by omega) (d_ _);have nmb:=W.names b (by omega) (d_ _);refine ⟨λi _ hi=>?_,λi _ hi=>?_,λi _ hi=>?_,λi _ hi=>?_,λi _ hi=>?_⟩
 ·by_cases h:i<=b
  ·rw [kX h];exact W.ok i (by omega) h
  ·rw [qG (by omega)];exact XF.swap hr hc hp
 ·by_cases h:i<=b
  ·rw [kX h];exact W.names i (by omega) h
  ·rw [qG (by omega)];exact nmb.swap XF.aS hr hc
 ·rw [kX (by omega)];by_cases h:i<b
  ·rw [gD h];exact W.row i (by omega) h
  ·have:i=b:=by omega
   subst this;rw [gF];exact hr
 ·by_cases h:i<b
  ·rw [gD h];exact W.fu i (by omega) h
  ·have:i=b:=by omega
   subst this;rw [gF];exact hc
 ·rw [kX (show i<=b by omega)];by_cases h:i<b
  ·rw [kX (by omega),gD h,gD h];exact W.next i (by omega) h
  ·have:i=b:=by omega
   subst this;rw [qG (by omega),gF,gF]
def Trail (F:Int->Nat->Int) (n:Nat) (U:List Int) (t0 t:aR) (b:Nat):Prop:=∃ T R C,T 0=t0∧T b=t∧kQ F n T R C 0 b∧OH n T R C 0 b∧∀ i,i<=b->Stat U n (T i)
theorem Trail.start {t:aR} (h:bN F n t) (hn:ik n t) (hs:Stat U n t):Trail F n U t t 0 :=
 ⟨λ_=>t,λ_=>0,λ_=>0,rfl,rfl,⟨λ_ _ _=>h,λ_ _ _=>hn,λi _ hi=>by omega,λi _ hi=>by omega,λi _ hi=>by omega⟩,
  ⟨λi _ hi=>by omega,λi _ hi=>by omega,λi _ hi=>by omega,λi _ hi=>by omega,λi _ hi=>by omega,λi _ hi=>by omega⟩,λ_ _=>hs⟩
theorem Trail.last {t0 t:aR} {b:Nat} (h:Trail F n U t0 t b):bN F n t∧ik n t∧Stat U n t∧b<=U.length^n:=by
 obtain ⟨T,R,C,_,rfl,W,S,hU⟩:=h;exact ⟨W.ok b (by omega) (d_ _),W.names b (by omega) (d_ _),hU b (d_ _),W.short S hU⟩
theorem Trail.snoc {t0 t:aR} {b:Nat} (h:Trail F n U t0 t b) {r c:Nat} (hr:r<t.lines.length) (hc:c<n) (jS:0<=t.name r) (lQ:t.cell r 0<0)
  (vM:∀ k,k<t.lines.length->0<=t.name k->t.cell k 0<0->t.name r<=t.name k) (lJ:0<=t.fu c) (nM:0<t.cell r (c+1)) (jF:∀ k,k<n->0<=t.fu k->0<t.cell r (k+1)->t.fu c<=t.fu k) :
  Trail F n U t0 (t.swap r c) (b+1):=by
 obtain ⟨T,R,C,h0,rfl,W,S,hU⟩:=h;have XF:=W.ok b (by omega) (d_ _);have nmb:=W.names b (by omega) (d_ _);refine ⟨_,_,_,by rw [kX (by omega)];exact h0,qG (by omega),W.snoc hr hc (by omega),?_,λi hi=>?_⟩
 ·have cut:∀ i,i<b+1->i<b∨i=b:=λi hi=>by omega
  refine ⟨λi _ hi=>?_,λi _ hi=>?_,λi _ hi=>?_,λi _ hi=>?_,λi _ hi=>?_,λi _ hi=>?_⟩
  all_goals
   rw [kX (show i<=b by omega)];rcases cut i hi with h|h
  ·rw [gD h];exact S.jS i (by omega) h
  ·subst h;rw [gF];exact jS
  ·rw [gD h];exact S.lQ i (by omega) h
  ·subst h;rw [gF];exact lQ
  ·rw [gD h];exact S.vM i (by omega) h
  ·subst h;rw [gF];exact vM
  ·rw [gD h];exact S.lJ i (by omega) h
  ·subst h;rw [gF];exact lJ
  ·rw [gD h,gD h];exact S.nM i (by omega) h
  ·subst h;rw [gF,gF];exact nM
  ·rw [gD h,gD h];exact S.jF i (by omega) h
  ·subst h;rw [gF,gF];exact jF
 ·by_cases h:i<=b
  ·rw [kX h];exact hU i h
  ·rw [qG (by omega)];exact (hU b (d_ _)).swap nmb XF.aS hr hc
def AX (F:Int->Nat->Int) (n:Nat) (U:List Int) (wr:Nat) (t0 t:aR) (b:Nat):Prop:=∃ T R C,T 0=t0∧T b=t∧kQ F n T R C 0 b∧Prim n T R C wr 0 b∧∀ i,i<=b->Stat U n (T i)
theorem AX.start {wr:Nat} {t:aR} (h:bN F n t) (hn:ik n t) (hs:Stat U n t) (hw:wr<t.lines.length) (hw2:t.name wr<0) (Dk:∀ k,k<t.lines.length->0<=t.name k->0<=t.cell k 0):AX F n U wr t t 0 :=
 ⟨λ_=>t,λ_=>0,λ_=>0,rfl,rfl,⟨λ_ _ _=>h,λ_ _ _=>hn,λi _ hi=>by omega,λi _ hi=>by omega,λi _ hi=>by omega⟩,
  ⟨λ_ _ _=>hw,λ_ _ _=>hw2,λi _ hi=>by omega,λ_ _ _=>Dk,λi _ hi=>by omega,λi _ hi=>by omega,λi _ hi=>by omega,λi _ hi=>by omega,λi _ hi=>by omega,λi _ hi=>by omega⟩,λ_ _=>hs⟩
theorem AX.last {wr:Nat} {t0 t:aR} {b:Nat} (h:AX F n U wr t0 t b):bN F n t∧ik n t∧Stat U n t∧b<=U.length^n∧wr<t.lines.length∧t.name wr<0∧(∀ k,k<t.lines.length->0<=t.name k->0<=t.cell k 0)∧t.name wr=t0.name wr:=by
 obtain ⟨T,R,C,rfl,rfl,W,S,hU⟩:=h;refine ⟨W.ok b (by omega) (d_ _),W.names b (by omega) (d_ _),hU b (d_ _),W.XD S hU,S.there b (by omega) (d_ _),S.Mr b (by omega) (d_ _),S.Dk b (by omega) (d_ _),?_⟩;have:=S.sG b (by omega);rwa [M_] at this
theorem AX.snoc {wr:Nat} {t0 t:aR} {b:Nat} (h:AX F n U wr t0 t b) {r c:Nat} (hr:r<t.lines.length) (hc:c<n) (jS:0<=t.name r) (lQ:t.cell r (c+1)<0)
  (ratio:∀ k,k<t.lines.length->0<=t.name k->t.cell k (c+1)<0->t.cell r 0*(-t.cell k (c+1))<=t.cell k 0*(-t.cell r (c+1))∧(t.cell r 0*(-t.cell k (c+1))=t.cell k 0*(-t.cell r (c+1))->t.name r<=t.name k))
  (lJ:0<=t.fu c) (nM:0<t.cell wr (c+1)) (jF:∀ k,k<n->0<=t.fu k->0<t.cell wr (k+1)->t.fu c<=t.fu k) :
  AX F n U wr t0 (t.swap r c) (b+1):=by
 have hl:=h.last;obtain ⟨T,R,C,h0,rfl,W,S,hU⟩:=h;have XF:=hl.1;have nmb:=hl.2.1;have hne:wr≠r:=λe=>by have:=hl.2.2.2.2.2.1;rw [e] at this;omega
 have aaW:=XF.keeps hr hc lQ (hl.2.2.2.2.2.2.1 r hr jS) hl.2.2.2.2.2.2.1 (λk h1 h2 h3=>(ratio k h1 h2 h3).1);have hwn:((T b).swap r c).name wr=(T b).name wr:=by rw [aR.jI _ r c wr hl.2.2.2.2.1,g_ hne]
 refine ⟨_,_,_,by rw [kX (by omega)];exact h0,qG (by omega),W.snoc hr hc (by omega),?_,λi hi=>?_⟩
 ·have cut:∀ i,i<b+1->i<b∨i=b:=λi hi=>by omega
  refine ⟨λi _ hi=>?_,λi _ hi=>?_,λi _ hi=>?_,λi _ hi=>?_,λi _ hi=>?_,λi _ hi=>?_,λi _ hi=>?_,λi _ hi=>?_,λi _ hi=>?_,λi _ hi=>?_⟩
  ·by_cases h:i<=b
   ·rw [kX h];exact S.there i (by omega) h
   ·rw [qG (by omega),aR.iI];exact hl.2.2.2.2.1
  ·by_cases h:i<=b
   ·rw [kX h];exact S.Mr i (by omega) h
   ·rw [qG (by omega),hwn];exact hl.2.2.2.2.2.1
  ·rw [kX (show i<=b by omega)];rcases cut i hi with h|h
   ·rw [kX (by omega)];exact S.same i (by omega) h
   ·subst h;rw [qG (by omega)];exact hwn
  ·by_cases h:i<=b
   ·rw [kX h];exact S.Dk i (by omega) h
   ·rw [qG (by omega)];exact aaW
  all_goals
   rw [kX (show i<=b by omega)];rcases cut i hi with h|h
  ·rw [gD h];exact S.lJ i (by omega) h
  ·subst h;rw [gF];exact lJ
  ·rw [gD h];exact S.nM i (by omega) h
  ·subst h;rw [gF];exact nM
  ·rw [gD h];exact S.jF i (by omega) h
  ·subst h;rw [gF];exact jF
  ·rw [gD h];exact S.jS i (by omega) h
  ·subst h;rw [gF];exact jS
  ·rw [gD h,gD h];exact S.lQ i (by omega) h
  ·subst h;rw [gF,gF];exact lQ
  ·rw [gD h,gD h];exact S.tie i (by omega) h
  ·subst h;rw [gF,gF];intro k h1 h2 h3 h4 h5;exact (ratio k h1 h2 h3).2 (by rw [h4,h5,aa_,aa_])
 ·by_cases h:i<=b
  ·rw [kX h];exact hU i h
  ·rw [qG (by omega)];exact (hU b (d_ _)).swap nmb XF.aS hr hc
end
def dE (n:Nat) (G:Nat->Nat->Int):Nat->aR
 | 0=>{ lines:=(List.range n).map λi:Nat=>((i:Int),(List.range (n+1)).map λj=>if j=0 then 0 else G i (j - 1)),aS:=(List.range n).map λj:Nat=>-1 - (j:Int),scale:=1 }
 | l+1=>(dE n G l).swap l l
def mV (G:Nat->Nat->Int) (x:Int) (k:Nat):Int:=if 0<=x then (if k=0 then 0 else G x.toNat (k - 1)) else unit (-x).toNat k
def gm (n:Nat) (G:Nat->Nat->Int) (l i j:Nat):Int:=(dE n G l).cell i (j+1)
def gK (n:Nat) (G:Nat->Nat->Int) (l:Nat):Int:=(dE n G l).scale
def gQ (n:Nat) (G:Nat->Nat->Int):Prop:=∀ v:Nat->Int,(∃ i,i<n∧v i≠0)->0<sm n (λi=>v i*sm n (λj=>G i j*v j))
theorem fH {α:Type} (n:Nat) (f:Nat->α) (d:α) (j:Nat) (h:j<n):((List.range n).map f).getD j d=f j:=by
 rw [a_,aas,abK h];rfl
section
variable {n:Nat} {G:Nat->Nat->Int}
theorem jE (n:Nat) (G:Nat->Nat->Int):∀ l,(dE n G l).lines.length=n∧(dE n G l).aS.length=n
 | 0=>by simp [dE]
 | l+1=>by rw [dE,aR.iI,aR.Ev];exact jE n G l
theorem fB (n:Nat) (G:Nat->Nat->Int):∀ l,l<=n->∀ i,i<n->(dE n G l).name i=(if i<l then -1 - (i:Int) else i)∧(dE n G l).fu i=(if i<l then (i:Int) else -1 - i)
 | 0,_,i,hi=>by
  rw [g_ (by omega),g_ (by omega)];unfold dE aR.name aR.fu;simp only;rw [fH n _ _ i hi,fH n _ _ i hi];exact ⟨rfl,rfl⟩
 | l+1,hl,i,hi=>by
  obtain ⟨h1,h2⟩:=jE n G l;have ih:=fB n G l (by omega);rw [dE,aR.jI _ l l i (by omega),aR.j5 _ l l i (by omega),(ih l (by omega)).1,(ih l (by omega)).2,(ih i hi).1,(ih i hi).2];by_cases h:i=l
  ·subst h;simp
  ·rw [g_ h,g_ h];by_cases h3:i<l
   ·rw [h_ h3,h_ h3,h_ (by omega),h_ (by omega)];exact ⟨rfl,rfl⟩
   ·rw [g_ h3,g_ h3,g_ (by omega),g_ (by omega)];exact ⟨rfl,rfl⟩
theorem rW (G:Nat->Nat->Int) (j:Nat):mV G (-1 - (j:Int))=unit (j+1):=by
 funext k;unfold mV;rw [g_ (by omega),show (-(-1 - (j:Int))).toNat=j+1 by omega]
theorem uV (G:Nat->Nat->Int) (i:Nat) (D:Nat->Int) (n:Nat):ev n (mV G i) D=sm n (λj=>G i j*D (j+1)):=by
 unfold ev;rw [yI];have e:mV G i 0=0:=by unfold mV;rw [h_ (by omega),h_ rfl]
 rw [e,aa_,Int.zero_add];refine aC λj _=>?_;unfold mV;rw [h_ (by omega),g_ (by omega)];simp
theorem Cu (n:Nat) (G:Nat->Nat->Int):bN (mV G) n (dE n G 0):=by
 have hb:∀ i,i<n+1->(dE n G 0).base (mV G) i=unit i:=by
  intro i hi;unfold aR.base
  split
  ·rename_i h;rw [h]
  ·rw [(fB n G 0 (by omega) (i - 1) (by omega)).2,g_ (by omega),rW,show i - 1+1=i by omega]
 refine ⟨(jE n G 0).2,λl hl=>?_,by simp [dE],⟨1,rfl,?_⟩,λr hr k hk=>?_⟩
 ·obtain ⟨i,_,rfl⟩:=m_.1 hl;simp
 ·rw [ni (n+1) (S:=unit) (λi j hi _=>by rw [hb i hi]),Cb];rfl
 ·rw [(jE n G 0).1] at hr;rw [(fB n G 0 (by omega) r hr).1,g_ (by omega)];rw [iM k hk λj hj hjk=>by rw [hb j hj];unfold unit;rw [g_ hjk,Y_],hb k hk];have e1:unit k k=1:=by unfold unit;rw [h_ rfl]
  have e2:(dE n G 0).scale=1:=rfl;rw [e1,e2,aaY,adr];unfold dE aR.cell mV;simp only;rw [fH n _ _ r hr,fH (n+1) _ _ k hk,h_ (by omega),Int.toNat_natCast]
theorem qO (hP:gQ n G):∀ l,l<=n->bN (mV G) n (dE n G l)∧(l<n->0<gm n G l l l)
 | 0,hl=>⟨Cu n G,λh=>G7 hP (Cu n G) (by omega)⟩
 | l+1,hl=>by
  obtain ⟨h1,h2⟩:=qO hP l (by omega);have h3:=h2 (by omega);have h4:bN (mV G) n (dE n G (l+1)):=by
   rw [dE];exact h1.swap (by rw [(jE n G l).1];omega) (by omega) (by unfold gm at h3;omega)
  exact ⟨h4,λh=>G7 hP h4 h⟩
 where
 G7 {l:Nat} (hP:gQ n G) (h:bN (mV G) n (dE n G l)) (hl:l<n):0<gm n G l l l:=by
  obtain ⟨D,d1,d2⟩:=h.wT (l+1) (by omega);have hs:=h.pos;have hlen:=(jE n G l).1;have c1:∀ i,i<n->i<l->sm n (λj=>G i j*D (j+1))=0:=λi hi hlt=>by
   have:=d1 (i+1) (by omega);rw [gB,(fB n G l (by omega) i hi).2,h_ hlt,g_ (by omega),uV] at this;exact this
  have c2:∀ i,i<n->¬ i<l->D (i+1)=if i=l then (dE n G l).scale else 0:=λi hi hge=>by
   have:=d1 (i+1) (by omega);rw [gB,(fB n G l (by omega) i hi).2,g_ hge,rW,kJ n D (i+1) (by omega)] at this;rw [this];by_cases e:i=l
   ·rw [h_ (by omega),h_ e]
   ·rw [g_ (by omega),g_ e]
  have c3:sm n (λj=>G l j*D (j+1))=gm n G l l l:=by
   have:=d2 l (by omega);rw [(fB n G l (by omega) l hl).1,g_ (by omega),uV] at this;exact this
  have hq:=hP (λi=>D (i+1)) ⟨l,hl,by rw [c2 l hl (by omega),h_ rfl];omega⟩;rw [iM l hl λi hi hil=>?_] at hq
  ·rw [c3,c2 l hl (by omega),h_ rfl] at hq;rcases nR hq with h5|h5 <;> omega
  ·by_cases hlt:i<l
   ·rw [c1 i hi hlt,Y_]
   ·rw [c2 i hi hlt,g_ hil,aa_]
theorem Cv (n:Nat) (G:Nat->Nat->Int):gK n G 0=1:=rfl
theorem fw (hP:gQ n G) {l:Nat} (hl:l<n):gK n G (l+1)=gm n G l l l:=by
 have h:=(qO hP l (by omega)).2 hl;unfold gK gm at *
 rw [dE];show ((aR.cell _ l (l+1)).natAbs:Int)=_;omega
theorem kK (hP:gQ n G) {l:Nat} (hl:l<=n):0<gK n G l:=(qO hP l hl).1.pos
theorem pz {i j:Nat} (hi:i<n) (hj:j<n):gm n G 0 i j=G i j:=by
 unfold gm dE aR.cell;simp only;rw [fH n _ _ i hi,fH (n+1) _ _ (j+1) (by omega),g_ (by omega)];simp
theorem iJ (hP:gQ n G) {l i j:Nat} (hl:l<n) (hi:i<n) (hj:j<n) (hil:i≠l) (hjl:j≠l) :
  gm n G (l+1) i j=Int.fdiv (gm n G l l l*gm n G l i j - gm n G l i l*gm n G l l j) (gK n G l)∧gK n G l*gm n G (l+1) i j=gm n G l l l*gm n G l i j - gm n G l i l*gm n G l l j:=by
 obtain ⟨h1,h2⟩:=qO hP l (by omega);have h3:=h2 hl;have hlen:=(jE n G l).1;have wL:=(jE n G l).2;obtain ⟨x,hx⟩:=h1.exact (r:=l) (c:=l) (i:=i) (by omega) (by omega) hl (by unfold gm at h3;omega) (j+1) (by omega) (by omega);have e:gm n G (l+1) i j=Int.fdiv (gm n G l l l*gm n G l i j - gm n G l i l*gm n G l l j) (gK n G l):=by
  unfold gm gK at *
  rw [dE,aR.wu _ l l i (j+1) (by omega) (by omega),g_ hil,g_ (by omega),J_ h3,aaY]
 refine ⟨e,?_⟩;rw [e];unfold gm gK;rw [hx,xE h1.pos rfl]
theorem Br (hP:gQ n G) (hG:∀ i j,G i j=G j i):∀ l,l<=n->∀ i j,l<=i->l<=j->i<n->j<n->gm n G l i j=gm n G l j i
 | 0,_,i,j,_,_,hi,hj=>by rw [pz hi hj,pz hj hi,hG]
 | l+1,hl,i,j,h1,h2,hi,hj=>by
  have ih:=Br hP hG l (by omega);rw [(iJ hP (by omega) hi hj (by omega) (by omega)).1,(iJ hP (by omega) hj hi (by omega) (by omega)).1,ih i j (by omega) (by omega) hi hj,ih i l (by omega) (by omega) hi (by omega),ih l j (by omega) (by omega) (by omega) hj,u_ (gm n G l l i)]
end
def eU (n m:Nat) (S:Nat->Nat->Int):aR:={ lines:=(List.range m).map λi:Nat=>((i:Int),(List.range (n+1)).map (S i)),aS:=(List.range n).map λj:Nat=>-1 - (j:Int),scale:=1 }
def gJ (S:Nat->Nat->Int) (x:Int) (k:Nat):Int:=if 0<=x then S x.toNat k else unit (-x).toNat k
theorem xy (S:Nat->Nat->Int) (j:Nat):gJ S (-1 - (j:Int))=unit (j+1):=by
 funext k;unfold gJ;rw [g_ (by omega),show (-(-1 - (j:Int))).toNat=j+1 by omega]
theorem iY (S:Nat->Nat->Int) (i:Nat):gJ S (i:Int)=S i:=by
 funext k;unfold gJ;rw [h_ (by omega),Int.toNat_natCast]
section
variable {n m:Nat} {S:Nat->Nat->Int}
theorem kN (n m:Nat) (S:Nat->Nat->Int):(eU n m S).lines.length=m∧(eU n m S).aS.length=n:=by simp [eU]
theorem nN {r:Nat} (hr:r<m):(eU n m S).name r=r:=by
 unfold eU aR.name;simp only;rw [fH m _ _ r hr]
theorem pU {c:Nat} (hc:c<n):(eU n m S).fu c=-1 - (c:Int):=by
 unfold eU aR.fu;simp only;rw [fH n _ _ c hc]
theorem Lb {r j:Nat} (hr:r<m) (hj:j<n+1):(eU n m S).cell r j=S r j:=by
 unfold eU aR.cell;simp only;rw [fH m _ _ r hr,fH (n+1) _ _ j hj]
theorem Rn (n m:Nat) (S:Nat->Nat->Int):bN (gJ S) n (eU n m S):=by
 have hb:∀ i,i<n+1->(eU n m S).base (gJ S) i=unit i:=by
  intro i hi;unfold aR.base
  split
  ·rename_i h;rw [h]
  ·rw [pU (by omega),xy,show i - 1+1=i by omega]
 refine ⟨(kN n m S).2,λl hl=>?_,by simp [eU],⟨1,rfl,?_⟩,λr hr k hk=>?_⟩
 ·obtain ⟨i,_,rfl⟩:=m_.1 hl;simp
 ·rw [ni (n+1) (S:=unit) (λi j hi _=>by rw [hb i hi]),Cb];rfl
 ·rw [(kN n m S).1] at hr;rw [nN hr,iY];rw [iM k hk λj hj hjk=>by rw [hb j hj];unfold unit;rw [g_ hjk,Y_],hb k hk,Lb hr hk];have e1:unit k k=1:=by unfold unit;rw [h_ rfl]
  have e2:(eU n m S).scale=1:=rfl;rw [e1,e2,aaY,adr]
theorem IL (n m:Nat) (S:Nat->Nat->Int):ik n (eU n m S):=by
 refine ⟨λi j hi hj e=>?_,λi j hi hj e=>?_,λi j hi hj e=>?_⟩
 ·rw [(kN n m S).1] at hi hj;rw [nN hi,nN hj] at e;omega
 ·rw [pU hi,pU hj] at e;omega
 ·rw [(kN n m S).1] at hi;rw [nN hi,pU hj] at e;omega
def gX (n m:Nat):List Int:=((List.range m).map λi:Nat=>(i:Int))++((List.range n).map λj:Nat=>-1 - (j:Int))
theorem K6 (n m:Nat) (S:Nat->Nat->Int):Stat (gX n m) n (eU n m S):=by
 refine ⟨λx ⟨c,hc,e⟩=>?_,λx ⟨r,hr,e⟩=>?_,λx hx=>?_⟩
 ·rw [pU hc] at e;exact F_.2 (.inr (m_.2 ⟨c,W_.2 hc,e⟩))
 ·rw [(kN n m S).1] at hr;rw [nN hr] at e;exact F_.2 (.inl (m_.2 ⟨r,W_.2 hr,e⟩))
 ·rcases F_.1 hx with h | h
  ·obtain ⟨r,hr,e⟩:=m_.1 h;have hr':=W_.1 hr;exact .inr ⟨r,by rw [(kN n m S).1];exact hr',by rw [nN hr'];exact e⟩
  ·obtain ⟨c,hc,e⟩:=m_.1 h;have hc':=W_.1 hc;exact .inl ⟨c,hc',by rw [pU hc'];exact e⟩
end
section
variable {F F':Int->Nat->Int} {n:Nat} {t:aR}
theorem bN.congr (h:bN F n t) (hc:∀ c,c<n->F' (t.fu c)=F (t.fu c)) (hl:∀ r,r<t.lines.length->F' (t.name r)=F (t.name r)):bN F' n t:=by
 have hb:∀ i,i<n+1->t.base F' i=t.base F i:=λi hi=>by
  unfold aR.base
  split
  ·rfl
  ·exact hc (i - 1) (by omega)
 obtain ⟨e,ee,he⟩:=h.Gd;refine ⟨h.aS,h.cells,h.pos,⟨e,ee,?_⟩,λr hr k hk=>?_⟩
 ·rw [ni (n+1) (S:=t.base F) (λi j hi _=>by rw [hb i hi])];exact he
 ·rw [hl r hr,h.fD r hr k hk];exact aC λj hj=>by rw [hb j hj]
def aR.add (t:aR) (x:Int) (cs:List Int):aR:={ t with lines:=t.lines++[(x,cs)] }
theorem kP (t:aR) (x:Int) (cs:List Int):(t.add x cs).lines.length=t.lines.length+1:=by simp [aR.add]
theorem De (t:aR) (x:Int) (cs:List Int) {r:Nat} (hr:r<t.lines.length):(t.add x cs).lines.getD r (0,[])=t.lines.getD r (0,[]):=by
 unfold aR.add;simp only;rw [a_,a_,aam hr]
theorem IM (t:aR) (x:Int) (cs:List Int):(t.add x cs).lines.getD t.lines.length (0,[])=(x,cs):=by
 unfold aR.add;simp
theorem bN.add (h:bN F n t) {x:Int} {cs:List Int} (hlen:cs.length=n+1) (ht:∀ k,k<n+1->t.scale*F x k=sm (n+1) (λj=>cs.getD j 0*t.base F j k)):bN F n (t.add x cs):=by
 have hb:(t.add x cs).base F=t.base F:=rfl;refine ⟨h.aS,λl hl=>?_,h.pos,h.Gd,λr hr k hk=>?_⟩
 ·rcases F_.1 hl with h1 | h1
  ·exact h.cells l h1
  ·simp at h1;rw [h1];exact hlen
 ·rw [kP] at hr;rw [hb];by_cases hlt:r<t.lines.length
  ·have:=h.fD r hlt k hk;unfold aR.name aR.cell at *
   rw [De t x cs hlt];exact this
  ·have e:r=t.lines.length:=by omega
   subst e;unfold aR.name aR.cell;rw [IM];exact ht k hk
def aR.cut (t:aR):aR:={ t with lines:=t.lines.take (t.lines.length - 1) }
theorem Df (t:aR) {r:Nat} (hr:r<t.lines.length - 1):t.cut.lines.getD r (0,[])=t.lines.getD r (0,[]):=by
 unfold aR.cut;simp only;rw [a_,a_,ab3,h_ hr]
theorem Bv (t:aR):t.cut.lines.length=t.lines.length - 1:=by simp [aR.cut]
theorem bN.cut (h:bN F n t):bN F n t.cut:=by
 refine ⟨h.aS,λl hl=>h.cells l (List.mem_of_mem_take hl),h.pos,h.Gd,λr hr k hk=>?_⟩;rw [Bv] at hr;have:=h.fD r (by omega) k hk;unfold aR.name aR.cell at *
 rw [Df t hr];exact this
end
end Go.Proofs.YtfaljekgpnbmiaaGreat.Pl
