/- Joined: XTab5 XTab6 XLat1 XTab7. -/
import Derived.Test.YtgaafamcajcifaaGreatK03
set_option linter.unusedVariables false
set_option linter.unusedSimpArgs false
set_option maxRecDepth 100000
namespace Go.Proofs.YtgaafamcajcifaaGreat.Pl
section
variable {F:Int->Nat->Int} {n:Nat} {t:aR}
theorem bM.QY (h:bM F n t) {r:Nat} (hr:r<t.lines.length) {j:Nat} (hj:j<n+1):∃ e:Int,e*e=1∧t.cell r j=e*mX (n+1) (lY (t.base F) j (F (t.name r))):=by
 obtain ⟨e,ee,he⟩:=h.F8;refine ⟨e,ee,?_⟩;have h1:=Jt (R:=t.base F) (s:=t.scale) (v:=F (t.name r)) (c:=λj=>t.cell r j) (λk hk=>h.fB r hr k hk) (r:=j) hj;rw [he] at h1;have hs:=h.pos;refine abf (a:=t.scale*e) ?_ ?_
 ·intro h0;rcases abG.1 h0 with h0|h0
  ·omega
  ·rw [h0] at ee;simp at ee
 ·have e1:t.scale*e*(e*mX (n+1) (lY (t.base F) j (F (t.name r))))=(e*e)*(t.scale*mX (n+1) (lY (t.base F) j (F (t.name r)))):=by simp only [y_,r_,u_]
  rw [e1,ee,aaH,h1];simp only [y_,r_,u_]
theorem QZ {e:Int} (h:e*e=1):e=1∨e=-1:=by
 rcases (show e<=-2∨e=-1∨e=0∨e=1∨2<=e by omega) with h1|h1|h1|h1|h1
 ·have:=o_ (show (2:Int)<=-e by omega) (show 0<=-e by omega);rw [Int.neg_mul_neg,h] at this;omega
 ·exact .inr h1
 ·rw [h1] at h;simp at h
 ·exact .inl h1
 ·have:=o_ h1 (show 0<=e by omega);rw [h] at this;omega
structure Small (F:Int->Nat->Int) (n:Nat) (t:aR) (B:Int):Prop where
 one:1<=B
 aS:∀ c,c<n->∀ k,k<n+1->-B<=F (t.fe c) k∧F (t.fe c) k<=B
 lines:∀ r,r<t.lines.length->∀ k,k<n+1->-B<=F (t.name r) k∧F (t.name r) k<=B
theorem Small.base {B:Int} (h:Small F n t B):∀ i k,i<n+1->k<n+1->-B<=t.base F i k∧t.base F i k<=B:=by
 intro i k hi hk;have h1:=h.one;unfold aR.base
 split
 ·unfold unit;split <;> omega
 ·exact h.aS (i - 1) (by omega) k hk
theorem bM.KZ {B:Int} (h:bM F n t) (hB:Small F n t B) {r:Nat} (hr:r<t.lines.length) {j:Nat} (hj:j<n+1):-(KU (n+1)*B^(n+1))<=t.cell r j∧t.cell r j<=KU (n+1)*B^(n+1):=by
 obtain ⟨e,ee,he⟩:=h.QY hr hj;have h1:=hB.one;have hb:=zD (n+1) (lY (t.base F) j (F (t.name r))) B (by omega) (λi k hi hk=>by
  unfold lY
  split
  ·exact hB.lines r hr k hk
  ·exact hB.base i k hi hk)
 rw [he];rcases QZ ee with h|h <;> rw [h] <;> omega
theorem bM.GN {B:Int} (h:bM F n t) (hB:Small F n t B):t.scale<=KU (n+1)*B^(n+1):=by
 obtain ⟨e,ee,he⟩:=h.F8;have h1:=hB.one;have hb:=zD (n+1) (t.base F) B (by omega) (λi k hi hk=>hB.base i k hi hk);rw [he] at hb;rcases QZ ee with h|h <;> rw [h] at hb <;> omega
def aR.drop (t:aR) (x:Int):aR:={ t with lines:=t.lines.filter λl=>l.1 != x }
theorem aR.wF (t:aR) (x:Int) {r:Nat} (hr:r<(t.drop x).lines.length):∃ r',r'<t.lines.length∧(t.drop x).lines.getD r (0,[])=t.lines.getD r' (0,[])∧(t.drop x).name r≠x:=by
 have hm:(t.drop x).lines[r]∈t.lines.filter λl=>l.1 != x:=aak hr;have h1:=aaR.1 hm;obtain ⟨r',hr',e⟩:=aa5.1 h1.1;refine ⟨r',hr',?_,?_⟩
 ·rw [a_,f_ hr,a_,f_ hr',e]
 ·unfold aR.name;rw [a_,f_ hr];have:=h1.2
  simpa using this
theorem bM.drop (h:bM F n t) (x:Int):bM F n (t.drop x):=by
 refine ⟨h.aS,λl hl=>h.cells l (aaR.1 hl).1,h.pos,h.F8,λr hr k hk=>?_⟩;obtain ⟨r',hr',e,_⟩:=t.wF x hr;have:=h.fB r' hr' k hk;unfold aR.name aR.cell at *
 rw [e];exact this
def aR.expr (t:aR) (s:Nat->Int) (c:Nat->Int) (j:Nat):Int:=(if j=0 then s 0*t.scale else 0)+sm t.lines.length (λr=>c r*t.cell r j)
theorem bM.Ti (h:bM F n t) (s c:Nat->Int) (hs:∀ k,k<n+1->s k=s 0*unit 0 k+sm t.lines.length (λr=>c r*F (t.name r) k)):∀ k,k<n+1->t.scale*s k=sm (n+1) (λj=>t.expr s c j*t.base F j k):=by
 intro k hk;have e1:sm (n+1) (λj=>t.expr s c j*t.base F j k)=sm (n+1) (λj=>(if j=0 then s 0*t.scale else 0)*t.base F j k)+sm (n+1) (λj=>sm t.lines.length (λr=>c r*(t.cell r j*t.base F j k))):=by
  rw [<-zB];refine aC λj _=>?_;unfold aR.expr;rw [aaN,u_ (sm _ _),<-dz];congr 1;refine aC λr _=>?_;simp only [y_,r_,u_]
 rw [e1,iK 0 (by omega) λj _ hj=>by rw [g_ hj,aaM],h_ rfl,jI,oU];have e2:sm t.lines.length (λr=>sm (n+1) (λj=>c r*(t.cell r j*t.base F j k)))=t.scale*sm t.lines.length (λr=>c r*F (t.name r) k):=by
  rw [<-dz];refine aC λr hr=>?_;rw [dz,<-h.fB r hr k hk,r_]
 rw [e2,hs k hk,Q_];congr 1;simp only [y_,r_,u_]
theorem NJ {n:Nat} {t:aR} (hn:ib n t) (hF:∀ k,1<=k->k<n+1->F (-(k:Int))=unit k) (hl:∀ k:Nat,1<=k->k<n+1->nG t (-(k:Int))) (s:Nat->Int) :
  ∀ k,k<n+1->s k=s 0*unit 0 k+sm t.lines.length (λr=>(if t.name r<0∧-t.name r<n+1 then s (-t.name r).toNat else 0)*F (t.name r) k):=by
 intro k hk;by_cases h0:k=0
 ·subst h0;rw [kD λr _=>?_]
  ·unfold unit;rw [h_ rfl];omega
  ·split
   ·rename_i hc;obtain ⟨m,hm⟩:∃ m:Nat,-t.name r=m:=⟨(-t.name r).toNat,by omega⟩;have e:t.name r=-(m:Int):=by omega
    rw [e,hF m (by omega) (by omega)];unfold unit;rw [g_ (by omega)];omega
   ·omega
 ·obtain ⟨r,hr,er⟩:=hl k (by omega) hk;rw [iK r hr λr2 hr2 hne=>?_]
  ·rw [er,h_ (by omega),hF k (by omega) hk];unfold unit;rw [g_ (by omega),h_ rfl,abM,Int.toNat_natCast];omega
  ·split
   ·rename_i hc;obtain ⟨m,hm⟩:∃ m:Nat,-t.name r2=m:=⟨(-t.name r2).toNat,by omega⟩;have e:t.name r2=-(m:Int):=by omega
    have hmk:m≠k:=λe2=>hne (hn.lines r2 r hr2 hr (by rw [e,er,e2]));rw [e,hF m (by omega) (by omega)];unfold unit;rw [g_ hmk];omega
   ·omega
end
def WO {α:Type} (T:Nat->α) (b:Nat) (t:α):Nat->α:=λi=>if i<=b then T i else t
theorem kV {α:Type} {T:Nat->α} {b:Nat} {t:α} {i:Nat} (h:i<=b):WO T b t i=T i:=h_ h
theorem qE {α:Type} {T:Nat->α} {b:Nat} {t:α} {i:Nat} (h:b<i):WO T b t i=t:=g_ (by omega)
def Tw (R:Nat->Nat) (b r:Nat):Nat->Nat:=λi=>if i<b then R i else r
theorem fZ {R:Nat->Nat} {b r i:Nat} (h:i<b):Tw R b r i=R i:=h_ h
theorem gB {R:Nat->Nat} {b r:Nat}:Tw R b r b=r:=g_ (by omega)
section
variable {F:Int->Nat->Int} {n:Nat} {U:List Int}
theorem kN.snoc {T:Nat->aR} {R C:Nat->Nat} {b:Nat} (W:kN F n T R C 0 b) {r c:Nat} (hr:r<(T b).lines.length) (hc:c<n) (hp:(T b).cell r (c+1)≠0) :
  kN F n (WO T b ((T b).swap r c)) (Tw R b r) (Tw C b c) 0 (b+1):=by
 have WQ:=W.ok b (by omega) (d_ _);have nmb:=W.names b (by omega) (d_ _);refine ⟨λi _ hi=>?_,λi _ hi=>?_,λi _ hi=>?_,λi _ hi=>?_,λi _ hi=>?_⟩
 ·by_cases h:i<=b
  ·rw [kV h];exact W.ok i (by omega) h
  ·rw [qE (by omega)];exact WQ.swap hr hc hp
 ·by_cases h:i<=b
  ·rw [kV h];exact W.names i (by omega) h
  ·rw [qE (by omega)];exact nmb.swap WQ.aS hr hc
 ·rw [kV (by omega)];by_cases h:i<b
  ·rw [fZ h];exact W.row i (by omega) h
  ·have:i=b:=by omega
   subst this;rw [gB];exact hr
 ·by_cases h:i<b
  ·rw [fZ h];exact W.fe i (by omega) h
  ·have:i=b:=by omega
   subst this;rw [gB];exact hc
 ·rw [kV (show i<=b by omega)];by_cases h:i<b
  ·rw [kV (by omega),fZ h,fZ h];exact W.next i (by omega) h
  ·have:i=b:=by omega
   subst this;rw [qE (by omega),gB,gB]
def Trail (F:Int->Nat->Int) (n:Nat) (U:List Int) (t0 t:aR) (b:Nat):Prop:=∃ T R C,T 0=t0∧T b=t∧kN F n T R C 0 b∧NP n T R C 0 b∧∀ i,i<=b->Stat U n (T i)
theorem Trail.start {t:aR} (h:bM F n t) (hn:ib n t) (hs:Stat U n t):Trail F n U t t 0 :=
 ⟨λ_=>t,λ_=>0,λ_=>0,rfl,rfl,⟨λ_ _ _=>h,λ_ _ _=>hn,λi _ hi=>by omega,λi _ hi=>by omega,λi _ hi=>by omega⟩,
  ⟨λi _ hi=>by omega,λi _ hi=>by omega,λi _ hi=>by omega,λi _ hi=>by omega,λi _ hi=>by omega,λi _ hi=>by omega⟩,λ_ _=>hs⟩
theorem Trail.last {t0 t:aR} {b:Nat} (h:Trail F n U t0 t b):bM F n t∧ib n t∧Stat U n t∧b<=U.length^n:=by
 obtain ⟨T,R,C,_,rfl,W,S,hU⟩:=h;exact ⟨W.ok b (by omega) (d_ _),W.names b (by omega) (d_ _),hU b (d_ _),W.short S hU⟩
theorem Trail.snoc {t0 t:aR} {b:Nat} (h:Trail F n U t0 t b) {r c:Nat} (hr:r<t.lines.length) (hc:c<n) (jQ:0<=t.name r) (lM:t.cell r 0<0)
  (vK:∀ k,k<t.lines.length->0<=t.name k->t.cell k 0<0->t.name r<=t.name k) (lH:0<=t.fe c) (nI:0<t.cell r (c+1)) (jD:∀ k,k<n->0<=t.fe k->0<t.cell r (k+1)->t.fe c<=t.fe k) :
  Trail F n U t0 (t.swap r c) (b+1):=by
 obtain ⟨T,R,C,h0,rfl,W,S,hU⟩:=h;have WQ:=W.ok b (by omega) (d_ _);have nmb:=W.names b (by omega) (d_ _);refine ⟨_,_,_,by rw [kV (by omega)];exact h0,qE (by omega),W.snoc hr hc (by omega),?_,λi hi=>?_⟩
 ·have cut:∀ i,i<b+1->i<b∨i=b:=λi hi=>by omega
  refine ⟨λi _ hi=>?_,λi _ hi=>?_,λi _ hi=>?_,λi _ hi=>?_,λi _ hi=>?_,λi _ hi=>?_⟩
  all_goals
   rw [kV (show i<=b by omega)];rcases cut i hi with h|h
  ·rw [fZ h];exact S.jQ i (by omega) h
  ·subst h;rw [gB];exact jQ
  ·rw [fZ h];exact S.lM i (by omega) h
  ·subst h;rw [gB];exact lM
  ·rw [fZ h];exact S.vK i (by omega) h
  ·subst h;rw [gB];exact vK
  ·rw [fZ h];exact S.lH i (by omega) h
  ·subst h;rw [gB];exact lH
  ·rw [fZ h,fZ h];exact S.nI i (by omega) h
  ·subst h;rw [gB,gB];exact nI
  ·rw [fZ h,fZ h];exact S.jD i (by omega) h
  ·subst h;rw [gB,gB];exact jD
 ·by_cases h:i<=b
  ·rw [kV h];exact hU i h
  ·rw [qE (by omega)];exact (hU b (d_ _)).swap nmb WQ.aS hr hc
def AU (F:Int->Nat->Int) (n:Nat) (U:List Int) (wr:Nat) (t0 t:aR) (b:Nat):Prop:=∃ T R C,T 0=t0∧T b=t∧kN F n T R C 0 b∧Prim n T R C wr 0 b∧∀ i,i<=b->Stat U n (T i)
theorem AU.start {wr:Nat} {t:aR} (h:bM F n t) (hn:ib n t) (hs:Stat U n t) (hw:wr<t.lines.length) (hw2:t.name wr<0) (Di:∀ k,k<t.lines.length->0<=t.name k->0<=t.cell k 0):AU F n U wr t t 0 :=
 ⟨λ_=>t,λ_=>0,λ_=>0,rfl,rfl,⟨λ_ _ _=>h,λ_ _ _=>hn,λi _ hi=>by omega,λi _ hi=>by omega,λi _ hi=>by omega⟩,
  ⟨λ_ _ _=>hw,λ_ _ _=>hw2,λi _ hi=>by omega,λ_ _ _=>Di,λi _ hi=>by omega,λi _ hi=>by omega,λi _ hi=>by omega,λi _ hi=>by omega,λi _ hi=>by omega,λi _ hi=>by omega⟩,λ_ _=>hs⟩
theorem AU.last {wr:Nat} {t0 t:aR} {b:Nat} (h:AU F n U wr t0 t b):bM F n t∧ib n t∧Stat U n t∧b<=U.length^n∧wr<t.lines.length∧t.name wr<0∧(∀ k,k<t.lines.length->0<=t.name k->0<=t.cell k 0)∧t.name wr=t0.name wr:=by
 obtain ⟨T,R,C,rfl,rfl,W,S,hU⟩:=h;refine ⟨W.ok b (by omega) (d_ _),W.names b (by omega) (d_ _),hU b (d_ _),W.WN S hU,S.there b (by omega) (d_ _),S.LG b (by omega) (d_ _),S.Di b (by omega) (d_ _),?_⟩;have:=S.sD b (by omega);rwa [M_] at this
theorem AU.snoc {wr:Nat} {t0 t:aR} {b:Nat} (h:AU F n U wr t0 t b) {r c:Nat} (hr:r<t.lines.length) (hc:c<n) (jQ:0<=t.name r) (lM:t.cell r (c+1)<0)
  (ratio:∀ k,k<t.lines.length->0<=t.name k->t.cell k (c+1)<0->t.cell r 0*(-t.cell k (c+1))<=t.cell k 0*(-t.cell r (c+1))∧(t.cell r 0*(-t.cell k (c+1))=t.cell k 0*(-t.cell r (c+1))->t.name r<=t.name k))
  (lH:0<=t.fe c) (nI:0<t.cell wr (c+1)) (jD:∀ k,k<n->0<=t.fe k->0<t.cell wr (k+1)->t.fe c<=t.fe k) :
  AU F n U wr t0 (t.swap r c) (b+1):=by
 have hl:=h.last;obtain ⟨T,R,C,h0,rfl,W,S,hU⟩:=h;have WQ:=hl.1;have nmb:=hl.2.1;have hne:wr≠r:=λe=>by have:=hl.2.2.2.2.2.1;rw [e] at this;omega
 have aai:=WQ.keeps hr hc lM (hl.2.2.2.2.2.2.1 r hr jQ) hl.2.2.2.2.2.2.1 (λk h1 h2 h3=>(ratio k h1 h2 h3).1);have hwn:((T b).swap r c).name wr=(T b).name wr:=by rw [aR.jG _ r c wr hl.2.2.2.2.1,g_ hne]
 refine ⟨_,_,_,by rw [kV (by omega)];exact h0,qE (by omega),W.snoc hr hc (by omega),?_,λi hi=>?_⟩
 ·have cut:∀ i,i<b+1->i<b∨i=b:=λi hi=>by omega
  refine ⟨λi _ hi=>?_,λi _ hi=>?_,λi _ hi=>?_,λi _ hi=>?_,λi _ hi=>?_,λi _ hi=>?_,λi _ hi=>?_,λi _ hi=>?_,λi _ hi=>?_,λi _ hi=>?_⟩
  ·by_cases h:i<=b
   ·rw [kV h];exact S.there i (by omega) h
   ·rw [qE (by omega),aR.iG];exact hl.2.2.2.2.1
  ·by_cases h:i<=b
   ·rw [kV h];exact S.LG i (by omega) h
   ·rw [qE (by omega),hwn];exact hl.2.2.2.2.2.1
  ·rw [kV (show i<=b by omega)];rcases cut i hi with h|h
   ·rw [kV (by omega)];exact S.same i (by omega) h
   ·subst h;rw [qE (by omega)];exact hwn
  ·by_cases h:i<=b
   ·rw [kV h];exact S.Di i (by omega) h
   ·rw [qE (by omega)];exact aai
  all_goals
   rw [kV (show i<=b by omega)];rcases cut i hi with h|h
  ·rw [fZ h];exact S.lH i (by omega) h
  ·subst h;rw [gB];exact lH
  ·rw [fZ h];exact S.nI i (by omega) h
  ·subst h;rw [gB];exact nI
  ·rw [fZ h];exact S.jD i (by omega) h
  ·subst h;rw [gB];exact jD
  ·rw [fZ h];exact S.jQ i (by omega) h
  ·subst h;rw [gB];exact jQ
  ·rw [fZ h,fZ h];exact S.lM i (by omega) h
  ·subst h;rw [gB,gB];exact lM
  ·rw [fZ h,fZ h];exact S.tie i (by omega) h
  ·subst h;rw [gB,gB];intro k h1 h2 h3 h4 h5;exact (ratio k h1 h2 h3).2 (by rw [h4,h5,aaM,aaM])
 ·by_cases h:i<=b
  ·rw [kV h];exact hU i h
  ·rw [qE (by omega)];exact (hU b (d_ _)).swap nmb WQ.aS hr hc
end
def dD (n:Nat) (G:Nat->Nat->Int):Nat->aR
 | 0=>{ lines:=(List.range n).map λi:Nat=>((i:Int),(List.range (n+1)).map λj=>if j=0 then 0 else G i (j - 1)),aS:=(List.range n).map λj:Nat=>-1 - (j:Int),scale:=1 }
 | l+1=>(dD n G l).swap l l
def mQ (G:Nat->Nat->Int) (x:Int) (k:Nat):Int:=if 0<=x then (if k=0 then 0 else G x.toNat (k - 1)) else unit (-x).toNat k
def gm (n:Nat) (G:Nat->Nat->Int) (l i j:Nat):Int:=(dD n G l).cell i (j+1)
def gI (n:Nat) (G:Nat->Nat->Int) (l:Nat):Int:=(dD n G l).scale
def gN (n:Nat) (G:Nat->Nat->Int):Prop:=∀ v:Nat->Int,(∃ i,i<n∧v i≠0)->0<sm n (λi=>v i*sm n (λj=>G i j*v j))
theorem fF {α:Type} (n:Nat) (f:Nat->α) (d:α) (j:Nat) (h:j<n):((List.range n).map f).getD j d=f j:=by
 rw [a_,aal,abg h];rfl
section
variable {n:Nat} {G:Nat->Nat->Int}
theorem jC (n:Nat) (G:Nat->Nat->Int):∀ l,(dD n G l).lines.length=n∧(dD n G l).aS.length=n
 | 0=>by simp [dD]
 | l+1=>by rw [dD,aR.iG,aR.Es];exact jC n G l
theorem fw (n:Nat) (G:Nat->Nat->Int):∀ l,l<=n->∀ i,i<n->(dD n G l).name i=(if i<l then -1 - (i:Int) else i)∧(dD n G l).fe i=(if i<l then (i:Int) else -1 - i)
 | 0,_,i,hi=>by
  rw [g_ (by omega),g_ (by omega)];unfold dD aR.name aR.fe;simp only;rw [fF n _ _ i hi,fF n _ _ i hi];exact ⟨rfl,rfl⟩
 | l+1,hl,i,hi=>by
  obtain ⟨h1,h2⟩:=jC n G l;have ih:=fw n G l (by omega);rw [dD,aR.jG _ l l i (by omega),aR.jY _ l l i (by omega),(ih l (by omega)).1,(ih l (by omega)).2,(ih i hi).1,(ih i hi).2];by_cases h:i=l
  ·subst h;simp
  ·rw [g_ h,g_ h];by_cases h3:i<l
   ·rw [h_ h3,h_ h3,h_ (by omega),h_ (by omega)];exact ⟨rfl,rfl⟩
   ·rw [g_ h3,g_ h3,g_ (by omega),g_ (by omega)];exact ⟨rfl,rfl⟩
theorem rU (G:Nat->Nat->Int) (j:Nat):mQ G (-1 - (j:Int))=unit (j+1):=by
 funext k;unfold mQ;rw [g_ (by omega),show (-(-1 - (j:Int))).toNat=j+1 by omega]
theorem uT (G:Nat->Nat->Int) (i:Nat) (D:Nat->Int) (n:Nat):ev n (mQ G i) D=sm n (λj=>G i j*D (j+1)):=by
 unfold ev;rw [yG];have e:mQ G i 0=0:=by unfold mQ;rw [h_ (by omega),h_ rfl]
 rw [e,aaM,Int.zero_add];refine aC λj _=>?_;unfold mQ;rw [h_ (by omega),g_ (by omega)];simp
theorem Cs (n:Nat) (G:Nat->Nat->Int):bM (mQ G) n (dD n G 0):=by
 have hb:∀ i,i<n+1->(dD n G 0).base (mQ G) i=unit i:=by
  intro i hi;unfold aR.base
  split
  ·rename_i h;rw [h]
  ·rw [(fw n G 0 (by omega) (i - 1) (by omega)).2,g_ (by omega),rU,show i - 1+1=i by omega]
 refine ⟨(jC n G 0).2,λl hl=>?_,by simp [dD],⟨1,rfl,?_⟩,λr hr k hk=>?_⟩
 ·obtain ⟨i,_,rfl⟩:=m_.1 hl;simp
 ·rw [mY (n+1) (S:=unit) (λi j hi _=>by rw [hb i hi]),BZ];rfl
 ·rw [(jC n G 0).1] at hr;rw [(fw n G 0 (by omega) r hr).1,g_ (by omega)];rw [iK k hk λj hj hjk=>by rw [hb j hj];unfold unit;rw [g_ hjk,X_],hb k hk];have e1:unit k k=1:=by unfold unit;rw [h_ rfl]
  have e2:(dD n G 0).scale=1:=rfl;rw [e1,e2,aaH,Int.mul_one];unfold dD aR.cell mQ;simp only;rw [fF n _ _ r hr,fF (n+1) _ _ k hk,h_ (by omega),Int.toNat_natCast]
theorem qM (hP:gN n G):∀ l,l<=n->bM (mQ G) n (dD n G l)∧(l<n->0<gm n G l l l)
 | 0,hl=>⟨Cs n G,λh=>GX hP (Cs n G) (by omega)⟩
 | l+1,hl=>by
  obtain ⟨h1,h2⟩:=qM hP l (by omega);have h3:=h2 (by omega);have h4:bM (mQ G) n (dD n G (l+1)):=by
   rw [dD];exact h1.swap (by rw [(jC n G l).1];omega) (by omega) (by unfold gm at h3;omega)
  exact ⟨h4,λh=>GX hP h4 h⟩
 where
 GX {l:Nat} (hP:gN n G) (h:bM (mQ G) n (dD n G l)) (hl:l<n):0<gm n G l l l:=by
  obtain ⟨D,d1,d2⟩:=h.wR (l+1) (by omega);have hs:=h.pos;have hlen:=(jC n G l).1;have c1:∀ i,i<n->i<l->sm n (λj=>G i j*D (j+1))=0:=λi hi hlt=>by
   have:=d1 (i+1) (by omega);rw [fV,(fw n G l (by omega) i hi).2,h_ hlt,g_ (by omega),uT] at this;exact this
  have c2:∀ i,i<n->¬ i<l->D (i+1)=if i=l then (dD n G l).scale else 0:=λi hi hge=>by
   have:=d1 (i+1) (by omega);rw [fV,(fw n G l (by omega) i hi).2,g_ hge,rU,kH n D (i+1) (by omega)] at this;rw [this];by_cases e:i=l
   ·rw [h_ (by omega),h_ e]
   ·rw [g_ (by omega),g_ e]
  have c3:sm n (λj=>G l j*D (j+1))=gm n G l l l:=by
   have:=d2 l (by omega);rw [(fw n G l (by omega) l hl).1,g_ (by omega),uT] at this;exact this
  have hq:=hP (λi=>D (i+1)) ⟨l,hl,by rw [c2 l hl (by omega),h_ rfl];omega⟩;rw [iK l hl λi hi hil=>?_] at hq
  ·rw [c3,c2 l hl (by omega),h_ rfl] at hq;rcases nO hq with h5|h5 <;> omega
  ·by_cases hlt:i<l
   ·rw [c1 i hi hlt,X_]
   ·rw [c2 i hi hlt,g_ hil,aaM]
theorem Ct (n:Nat) (G:Nat->Nat->Int):gI n G 0=1:=rfl
theorem fq (hP:gN n G) {l:Nat} (hl:l<n):gI n G (l+1)=gm n G l l l:=by
 have h:=(qM hP l (by omega)).2 hl;unfold gI gm at *
 rw [dD];show ((aR.cell _ l (l+1)).natAbs:Int)=_;omega
theorem kI (hP:gN n G) {l:Nat} (hl:l<=n):0<gI n G l:=(qM hP l hl).1.pos
theorem pg {i j:Nat} (hi:i<n) (hj:j<n):gm n G 0 i j=G i j:=by
 unfold gm dD aR.cell;simp only;rw [fF n _ _ i hi,fF (n+1) _ _ (j+1) (by omega),g_ (by omega)];simp
theorem iH (hP:gN n G) {l i j:Nat} (hl:l<n) (hi:i<n) (hj:j<n) (hil:i≠l) (hjl:j≠l) :
  gm n G (l+1) i j=Int.fdiv (gm n G l l l*gm n G l i j - gm n G l i l*gm n G l l j) (gI n G l)∧gI n G l*gm n G (l+1) i j=gm n G l l l*gm n G l i j - gm n G l i l*gm n G l l j:=by
 obtain ⟨h1,h2⟩:=qM hP l (by omega);have h3:=h2 hl;have hlen:=(jC n G l).1;have wJ:=(jC n G l).2;obtain ⟨x,hx⟩:=h1.exact (r:=l) (c:=l) (i:=i) (by omega) (by omega) hl (by unfold gm at h3;omega) (j+1) (by omega) (by omega);have e:gm n G (l+1) i j=Int.fdiv (gm n G l l l*gm n G l i j - gm n G l i l*gm n G l l j) (gI n G l):=by
  unfold gm gI at *
  rw [dD,aR.wh _ l l i (j+1) (by omega) (by omega),g_ hil,g_ (by omega),J_ h3,aaH]
 refine ⟨e,?_⟩;rw [e];unfold gm gI;rw [hx,xC h1.pos rfl]
theorem Bp (hP:gN n G) (hG:∀ i j,G i j=G j i):∀ l,l<=n->∀ i j,l<=i->l<=j->i<n->j<n->gm n G l i j=gm n G l j i
 | 0,_,i,j,_,_,hi,hj=>by rw [pg hi hj,pg hj hi,hG]
 | l+1,hl,i,j,h1,h2,hi,hj=>by
  have ih:=Bp hP hG l (by omega);rw [(iH hP (by omega) hi hj (by omega) (by omega)).1,(iH hP (by omega) hj hi (by omega) (by omega)).1,ih i j (by omega) (by omega) hi hj,ih i l (by omega) (by omega) hi (by omega),ih l j (by omega) (by omega) (by omega) hj,u_ (gm n G l l i)]
end
def eP (n m:Nat) (S:Nat->Nat->Int):aR:={ lines:=(List.range m).map λi:Nat=>((i:Int),(List.range (n+1)).map (S i)),aS:=(List.range n).map λj:Nat=>-1 - (j:Int),scale:=1 }
def gH (S:Nat->Nat->Int) (x:Int) (k:Nat):Int:=if 0<=x then S x.toNat k else unit (-x).toNat k
theorem xu (S:Nat->Nat->Int) (j:Nat):gH S (-1 - (j:Int))=unit (j+1):=by
 funext k;unfold gH;rw [g_ (by omega),show (-(-1 - (j:Int))).toNat=j+1 by omega]
theorem iW (S:Nat->Nat->Int) (i:Nat):gH S (i:Int)=S i:=by
 funext k;unfold gH;rw [h_ (by omega),Int.toNat_natCast]
section
variable {n m:Nat} {S:Nat->Nat->Int}
theorem kL (n m:Nat) (S:Nat->Nat->Int):(eP n m S).lines.length=m∧(eP n m S).aS.length=n:=by simp [eP]
theorem nJ {r:Nat} (hr:r<m):(eP n m S).name r=r:=by
 unfold eP aR.name;simp only;rw [fF m _ _ r hr]
theorem pQ {c:Nat} (hc:c<n):(eP n m S).fe c=-1 - (c:Int):=by
 unfold eP aR.fe;simp only;rw [fF n _ _ c hc]
theorem KF {r j:Nat} (hr:r<m) (hj:j<n+1):(eP n m S).cell r j=S r j:=by
 unfold eP aR.cell;simp only;rw [fF m _ _ r hr,fF (n+1) _ _ j hj]
theorem QF (n m:Nat) (S:Nat->Nat->Int):bM (gH S) n (eP n m S):=by
 have hb:∀ i,i<n+1->(eP n m S).base (gH S) i=unit i:=by
  intro i hi;unfold aR.base
  split
  ·rename_i h;rw [h]
  ·rw [pQ (by omega),xu,show i - 1+1=i by omega]
 refine ⟨(kL n m S).2,λl hl=>?_,by simp [eP],⟨1,rfl,?_⟩,λr hr k hk=>?_⟩
 ·obtain ⟨i,_,rfl⟩:=m_.1 hl;simp
 ·rw [mY (n+1) (S:=unit) (λi j hi _=>by rw [hb i hi]),BZ];rfl
 ·rw [(kL n m S).1] at hr;rw [nJ hr,iW];rw [iK k hk λj hj hjk=>by rw [hb j hj];unfold unit;rw [g_ hjk,X_],hb k hk,KF hr hk];have e1:unit k k=1:=by unfold unit;rw [h_ rfl]
  have e2:(eP n m S).scale=1:=rfl;rw [e1,e2,aaH,Int.mul_one]
theorem IE (n m:Nat) (S:Nat->Nat->Int):ib n (eP n m S):=by
 refine ⟨λi j hi hj e=>?_,λi j hi hj e=>?_,λi j hi hj e=>?_⟩
 ·rw [(kL n m S).1] at hi hj;rw [nJ hi,nJ hj] at e;omega
 ·rw [pQ hi,pQ hj] at e;omega
 ·rw [(kL n m S).1] at hi;rw [nJ hi,pQ hj] at e;omega
def gU (n m:Nat):List Int:=((List.range m).map λi:Nat=>(i:Int))++((List.range n).map λj:Nat=>-1 - (j:Int))
theorem Kz (n m:Nat) (S:Nat->Nat->Int):Stat (gU n m) n (eP n m S):=by
 refine ⟨λx ⟨c,hc,e⟩=>?_,λx ⟨r,hr,e⟩=>?_,λx hx=>?_⟩
 ·rw [pQ hc] at e;exact F_.2 (.inr (m_.2 ⟨c,V_.2 hc,e⟩))
 ·rw [(kL n m S).1] at hr;rw [nJ hr] at e;exact F_.2 (.inl (m_.2 ⟨r,V_.2 hr,e⟩))
 ·rcases F_.1 hx with h | h
  ·obtain ⟨r,hr,e⟩:=m_.1 h;have hr':=V_.1 hr;exact .inr ⟨r,by rw [(kL n m S).1];exact hr',by rw [nJ hr'];exact e⟩
  ·obtain ⟨c,hc,e⟩:=m_.1 h;have hc':=V_.1 hc;exact .inl ⟨c,hc',by rw [pQ hc'];exact e⟩
end
section
variable {F F':Int->Nat->Int} {n:Nat} {t:aR}
theorem bM.congr (h:bM F n t) (hc:∀ c,c<n->F' (t.fe c)=F (t.fe c)) (hl:∀ r,r<t.lines.length->F' (t.name r)=F (t.name r)):bM F' n t:=by
 have hb:∀ i,i<n+1->t.base F' i=t.base F i:=λi hi=>by
  unfold aR.base
  split
  ·rfl
  ·exact hc (i - 1) (by omega)
 obtain ⟨e,ee,he⟩:=h.F8;refine ⟨h.aS,h.cells,h.pos,⟨e,ee,?_⟩,λr hr k hk=>?_⟩
 ·rw [mY (n+1) (S:=t.base F) (λi j hi _=>by rw [hb i hi])];exact he
 ·rw [hl r hr,h.fB r hr k hk];exact aC λj hj=>by rw [hb j hj]
def aR.add (t:aR) (x:Int) (cs:List Int):aR:={ t with lines:=t.lines++[(x,cs)] }
theorem kM (t:aR) (x:Int) (cs:List Int):(t.add x cs).lines.length=t.lines.length+1:=by simp [aR.add]
theorem Db (t:aR) (x:Int) (cs:List Int) {r:Nat} (hr:r<t.lines.length):(t.add x cs).lines.getD r (0,[])=t.lines.getD r (0,[]):=by
 unfold aR.add;simp only;rw [a_,a_,aah hr]
theorem IG (t:aR) (x:Int) (cs:List Int):(t.add x cs).lines.getD t.lines.length (0,[])=(x,cs):=by
 unfold aR.add;simp
theorem bM.add (h:bM F n t) {x:Int} {cs:List Int} (hlen:cs.length=n+1) (ht:∀ k,k<n+1->t.scale*F x k=sm (n+1) (λj=>cs.getD j 0*t.base F j k)):bM F n (t.add x cs):=by
 have hb:(t.add x cs).base F=t.base F:=rfl;refine ⟨h.aS,λl hl=>?_,h.pos,h.F8,λr hr k hk=>?_⟩
 ·rcases F_.1 hl with h1 | h1
  ·exact h.cells l h1
  ·simp at h1;rw [h1];exact hlen
 ·rw [kM] at hr;rw [hb];by_cases hlt:r<t.lines.length
  ·have:=h.fB r hlt k hk;unfold aR.name aR.cell at *
   rw [Db t x cs hlt];exact this
  ·have e:r=t.lines.length:=by omega
   subst e;unfold aR.name aR.cell;rw [IG];exact ht k hk
def aR.cut (t:aR):aR:={ t with lines:=t.lines.take (t.lines.length - 1) }
theorem Dc (t:aR) {r:Nat} (hr:r<t.lines.length - 1):t.cut.lines.getD r (0,[])=t.lines.getD r (0,[]):=by
 unfold aR.cut;simp only;rw [a_,a_,List.getElem?_take,h_ hr]
theorem Bt (t:aR):t.cut.lines.length=t.lines.length - 1:=by simp [aR.cut]
theorem bM.cut (h:bM F n t):bM F n t.cut:=by
 refine ⟨h.aS,λl hl=>h.cells l (List.mem_of_mem_take hl),h.pos,h.F8,λr hr k hk=>?_⟩;rw [Bt] at hr;have:=h.fB r (by omega) k hk;unfold aR.name aR.cell at *
 rw [Dc t hr];exact this
end
end Go.Proofs.YtgaafamcajcifaaGreat.Pl
