/- Joined: XSol8 XMat XLatM XLat6. -/
import Derived.Test.YtgaafamcajcifaaGreatK06
import Derived.Test.YtgaafamcajcifaaGreatK24
set_option linter.unusedVariables false
set_option linter.unusedSimpArgs false
set_option maxRecDepth 100000
namespace Go.Proofs.YtgaafamcajcifaaGreat
open Go.RowKit Go.Sort
def qJ (n:Int):Int:=if n<0 then -n else n
theorem zo (n:Int):qJ n=n.natAbs:=by unfold qJ;split <;> omega
section
section
section
attribute [local go_sem] bD
set_option maxHeartbeats 20000000 in
theorem rC (P:Nat->Prop) (K n:Nat) (l:List Int) (v:Value) (w:World) (hP:∀ b,w.heap.size<=b->P b) (h:aD P w v l) (hln:l.length=n) (hn:n<=1000) (hl:∀ k,Pl.Lt K (l.getD k 0)) (hK:K<=1500000000000) :
  Calls Tryz.prog 83 #[v] w λe w'=>∃ c:Int,e=.returned (.int .i64 c)∧mF (λk=>l.getD k 0≠0) (λk=>qJ (l.getD k 0)) n c∧Below w.heap.size w w':=by
 have zy:=af h;have oI:=af hln;obtain ⟨aa,ac,rfl⟩:∃ ad cap,v=.slice ad n cap:=by obtain ⟨ad,cap,e,_⟩:=h;rw [hln] at e;exact ⟨ad,cap,e⟩
 clear h hln;go_enter Tryz.func83,Tryz.ntmps83;go_wp2_with fail;go_loopg [3,4] n (λk bv jv wr=>∃ (j:Nat) (c:Int),jv=.int .i64 j∧bv=.int .i64 c∧j+k=n∧Hid (mF (λk=>l.getD k 0≠0) (λk=>qJ (l.getD k 0)) j c∧ae w wr))
 case atStart=>exact ⟨0,-1,rfl,rfl,by omega,.inl ⟨rfl,λk hk=>by omega⟩,ae.refl _⟩
 case round =>
  obtain ⟨j,c,rfl,rfl,hjk,HR⟩:=hrel;by_cases hlt:j<n
  ·obtain ⟨ga,oa,ca,px,pa,pm,pc,ea,p0,p1,hpv⟩:=eU ((uh zy).below (uh HR).2) (i:=j) (by rw [uh oI];exact hlt);rw [uh oI] at ea;cases ea;have wy:=af hpv;have Ib:=af (λw1 (hg:ae wr w1)=>bY P _ (l.getD j 0) w1 (hpv.below hg));obtain ⟨sg,hsg⟩:∃ sg,Int.sign (l.getD j 0)=sg:=⟨_,rfl⟩;rw [hsg] at Ib;have y1:=b_ p0;have y2:=b_ p1;clear hpv;by_cases hz:l.getD j 0=0
   ·have hs0:sg=0:=by rw [<-hsg,hz];rfl
    subst hs0;have HF:=af ((uh HR).1.skip (λh=>h hz));clear hsg hz;go_wp2_with fail;clear p0 p1;refine ah (bZ []) (gL [(15,(·=.int .i64 0))]) 37 23 (by kernel_rfl) (by rfl) (by kernel_rfl) (dw (by simp)) ?_
    iterate 4 (refine aO λK hK=>?_;go_simp;refine hK _ ?_;clear hK K)
    refine ai (·=.int .i64 0) 46 #[.agg #[.int .i64 px,.slice pa pm pc]] (by rfl) (by rfl) ⟨_,rfl⟩ (λw=>by go_simp) (λw1 hg hf=>(uh Ib w1 hg).mono (by rintro e w' ⟨rfl,hb⟩;exact ⟨_,rfl,hb,rfl,λt ht=>by cases ht;exact True.intro⟩)) ?_;rintro _ rfl
    iterate 9 (refine aO λK hK=>?_;go_simp;refine hK _ ?_;clear hK K)
    refine Bl (by rfl) (λ_ _ _ t ht=>by cases ht;exact True.intro) ?_
    iterate 4 (refine aO λK hK=>?_;go_simp;refine hK _ ?_;clear hK K)
    refine Bl (by rfl) (λ_ _ _ t ht=>by cases ht;exact True.intro) ?_;refine Bl (by rfl) (λ_ _ _ t ht=>by cases ht;exact True.intro) ?_
    repeat (refine aO λK hK=>?_;go_simp;refine hK _ ?_;clear hK K)
    refine aF ?_;intro w5 hg5 _;have jy:Hid (ae w w5):=(uh HR).2.trans hg5;clear hg5;go_wp2;go_roundg (gk - 1)
    case measure=>omega
    case rel=>exact ⟨j+1,c,by simp,rfl,by omega,uh HF,uh jy⟩
   ·have hs1:sg≠0:=by rw [<-hsg];intro h;exact hz (abe.1 h)
    have d1:(sg != 0)=true:=by simp [hs1]
    rcases (uh HR).1 with ⟨hc1,hno⟩|⟨k,hk1,hk2,hk3,hk4⟩
    ·have HF:=af ((uh HR).1.take hz (λk hk=>by omega));subst hc1;clear hsg hz hno;go_wp2_with fail;clear p0 p1;refine ah (bZ []) (gL [(15,(·=.int .i64 sg))]) 37 23 (by kernel_rfl) (by rfl) (by kernel_rfl) (dw (by simp)) ?_
     iterate 4 (refine aO λK hK=>?_;go_simp;refine hK _ ?_;clear hK K)
     refine ai (·=.int .i64 sg) 46 #[.agg #[.int .i64 px,.slice pa pm pc]] (by rfl) (by rfl) ⟨_,rfl⟩ (λw=>by go_simp) (λw1 hg hf=>(uh Ib w1 hg).mono (by rintro e w' ⟨rfl,hb⟩;exact ⟨_,rfl,hb,rfl,λt ht=>by cases ht;exact True.intro⟩)) ?_;rintro _ rfl
     repeat (refine aO λK hK=>?_;go_simp;refine hK _ ?_;clear hK K)
     refine aF ?_;intro w5 hg5 _;have jy:Hid (ae w w5):=(uh HR).2.trans hg5;clear hg5;go_wp2;go_roundg (gk - 1)
     case measure=>omega
     case rel=>exact ⟨j+1,j,by simp,rfl,by omega,uh HF,uh jy⟩
    ·subst hk2;have hkn:k<n:=by omega
     obtain ⟨gb,ob,cb,qx,qa,qm,qc,eb,q0,q1,QK⟩:=eU ((uh zy).below (uh HR).2) (i:=k) (by rw [uh oI];exact hkn);rw [uh oI] at eb;cases eb;have yM:=af QK;have y3:=b_ q0;have y4:=b_ q1;have hk0:¬ ((k:Int)<0):=by omega
     have HCM:=af (λw1 (hg:ae wr w1) va vb (ha:aj P w1 va (qJ (l.getD j 0))) (hb:aj P w1 vb (qJ (l.getD k 0)))=>jg P K _ _ va vb w1 (λb' hb'=>hP b' (by have:=((uh HR).2.trans hg).size;omega)) ha hb hK (by have:=hl j;unfold Pl.Lt at this;rw [zo];simpa using this) (by have:=hl k;unfold Pl.Lt at this;rw [zo];simpa using this));obtain ⟨cm,hcm⟩:∃ cm,Int.sign (qJ (l.getD j 0) - qJ (l.getD k 0))=cm:=⟨_,rfl⟩;rw [hcm] at HCM;by_cases hless:qJ (l.getD j 0)<qJ (l.getD k 0)
     ·have d2:decide (cm<0)=true:=by rw [<-hcm,E_ (by omega)];decide
      have hle2:∀ k':Nat,(k:Int)=k'->qJ (l.getD j 0)<qJ (l.getD k' 0):=λk' hk'=>by
       rw [show k'=k by omega];exact hless
      have HF:=af ((uh HR).1.take hz hle2);clear hsg hz hk3 hk4 hle2 hless hcm QK;go_wp2_with fail;clear p0 p1 q0 q1;refine ah (bZ [(25,λv w=>aj P w v (qJ (l.getD j 0))),(30,λv w=>aj P w v (qJ (l.getD k 0)))]) (gL [(15,(·=.int .i64 sg)),(25,ag),(30,ag),(31,(·=.int .i64 cm))]) 37 23 (by kernel_rfl) (by rfl) (by kernel_rfl) (aN (λ_ _ _=>aj.below) (aN (λ_ _ _=>aj.below) cK)) ?_
      iterate 4 (refine aO λK hK=>?_;go_simp;refine hK _ ?_;clear hK K)
      refine ai (·=.int .i64 sg) 46 #[.agg #[.int .i64 px,.slice pa pm pc]] (by rfl) (by rfl) ⟨_,rfl⟩ (λw=>by go_simp) (λw1 hg hf=>(uh Ib w1 hg).mono (by rintro e w' ⟨rfl,hb⟩;exact ⟨_,rfl,hb,rfl,λt ht=>by cases ht;exact True.intro⟩)) ?_;rintro _ rfl
      iterate 9 (refine aO λK hK=>?_;go_simp;refine hK _ ?_;clear hK K)
      refine ai ag 86 #[.agg #[.int .i64 px,.slice pa pm pc]] (by rfl) (by rfl) ag.some (λw=>by go_simp) (λw1 hg hf=>(sZ P _ _ w1 ((uh wy).below hg)).mono (by rintro e w' ⟨v',rfl,hv,hb⟩;exact ⟨_,rfl,hb,hv.aU,λt ht=>by cases ht;exact hv⟩)) ?_;rintro _ ⟨ax,aa,am,ac,rfl⟩
      iterate 4 (refine aO λK hK=>?_;go_simp;refine hK _ ?_;clear hK K)
      refine ai ag 86 #[.agg #[.int .i64 qx,.slice qa qm qc]] (by rfl) (by rfl) ag.some (λw=>by go_simp) (λw1 hg hf=>(sZ P _ _ w1 ((uh yM).below hg)).mono (by rintro e w' ⟨v',rfl,hv,hb⟩;exact ⟨_,rfl,hb,hv.aU,λt ht=>by cases ht;exact hv⟩)) ?_;rintro _ ⟨bx,ba,bm,bc,rfl⟩;refine ai (·=.int .i64 cm) 54 #[.agg #[.int .i64 ax,.slice aa am ac],.agg #[.int .i64 bx,.slice ba bm bc]] (by rfl) (by rfl) ⟨_,rfl⟩ (λw=>by go_simp) (λw1 hg hf=>(uh HCM w1 hg _ _ (hf 14 (by kernel_rfl) _ 25 rfl rfl) (hf 19 (by kernel_rfl) _ 30 rfl rfl)).mono (by rintro e w' ⟨rfl,hb⟩;exact ⟨_,rfl,hb,rfl,λt ht=>by cases ht;exact True.intro⟩)) ?_;rintro _ rfl
      repeat (refine aO λK hK=>?_;go_simp;refine hK _ ?_;clear hK K)
      refine aF ?_;intro w5 hg5 _;have jy:Hid (ae w w5):=(uh HR).2.trans hg5;clear hg5;go_wp2;go_roundg (gk - 1)
      case measure=>omega
      case rel=>exact ⟨j+1,j,by simp,rfl,by omega,uh HF,uh jy⟩
     ·have d2:decide (cm<0)=false:=by
       rw [<-hcm];rcases (show 0<qJ (l.getD j 0) - qJ (l.getD k 0)∨qJ (l.getD j 0) - qJ (l.getD k 0)=0 by omega) with h|h
       ·rw [J_ h];decide
       ·rw [h];decide
      have HF:=af ((uh HR).1.stay (show qJ (l.getD k 0)<=qJ (l.getD j 0) by omega));clear hsg hz hk3 hk4 hless hcm QK;go_wp2_with fail;clear p0 p1 q0 q1;refine ah (bZ [(25,λv w=>aj P w v (qJ (l.getD j 0))),(30,λv w=>aj P w v (qJ (l.getD k 0)))]) (gL [(15,(·=.int .i64 sg)),(25,ag),(30,ag),(31,(·=.int .i64 cm))]) 37 23 (by kernel_rfl) (by rfl) (by kernel_rfl) (aN (λ_ _ _=>aj.below) (aN (λ_ _ _=>aj.below) cK)) ?_
      iterate 4 (refine aO λK hK=>?_;go_simp;refine hK _ ?_;clear hK K)
      refine ai (·=.int .i64 sg) 46 #[.agg #[.int .i64 px,.slice pa pm pc]] (by rfl) (by rfl) ⟨_,rfl⟩ (λw=>by go_simp) (λw1 hg hf=>(uh Ib w1 hg).mono (by rintro e w' ⟨rfl,hb⟩;exact ⟨_,rfl,hb,rfl,λt ht=>by cases ht;exact True.intro⟩)) ?_;rintro _ rfl
      iterate 9 (refine aO λK hK=>?_;go_simp;refine hK _ ?_;clear hK K)
      refine ai ag 86 #[.agg #[.int .i64 px,.slice pa pm pc]] (by rfl) (by rfl) ag.some (λw=>by go_simp) (λw1 hg hf=>(sZ P _ _ w1 ((uh wy).below hg)).mono (by rintro e w' ⟨v',rfl,hv,hb⟩;exact ⟨_,rfl,hb,hv.aU,λt ht=>by cases ht;exact hv⟩)) ?_;rintro _ ⟨ax,aa,am,ac,rfl⟩
      iterate 4 (refine aO λK hK=>?_;go_simp;refine hK _ ?_;clear hK K)
      refine ai ag 86 #[.agg #[.int .i64 qx,.slice qa qm qc]] (by rfl) (by rfl) ag.some (λw=>by go_simp) (λw1 hg hf=>(sZ P _ _ w1 ((uh yM).below hg)).mono (by rintro e w' ⟨v',rfl,hv,hb⟩;exact ⟨_,rfl,hb,hv.aU,λt ht=>by cases ht;exact hv⟩)) ?_;rintro _ ⟨bx,ba,bm,bc,rfl⟩;refine ai (·=.int .i64 cm) 54 #[.agg #[.int .i64 ax,.slice aa am ac],.agg #[.int .i64 bx,.slice ba bm bc]] (by rfl) (by rfl) ⟨_,rfl⟩ (λw=>by go_simp) (λw1 hg hf=>(uh HCM w1 hg _ _ (hf 14 (by kernel_rfl) _ 25 rfl rfl) (hf 19 (by kernel_rfl) _ 30 rfl rfl)).mono (by rintro e w' ⟨rfl,hb⟩;exact ⟨_,rfl,hb,rfl,λt ht=>by cases ht;exact True.intro⟩)) ?_;rintro _ rfl
      repeat (refine aO λK hK=>?_;go_simp;refine hK _ ?_;clear hK K)
      refine aF ?_;intro w5 hg5 _;have jy:Hid (ae w w5):=(uh HR).2.trans hg5;clear hg5;go_wp2;go_roundg (gk - 1)
      case measure=>omega
      case rel=>exact ⟨j+1,k,by simp,rfl,by omega,uh HF,uh jy⟩
  ·have hjn:j=n:=by omega
   subst hjn;have HF:=af (uh HR);clear HR;go_wp2;go_ret;exact ⟨_,rfl,(uh HF).1,(uh HF).2⟩
end
structure sF (P:Nat->Prop) (w:World) (N:Nat) (R len:Nat->Nat) (f:Nat->Nat->Int):Prop where
 rows:∀ r,r<N->bz P w (R r) (len r) (f r)
 inj:∀ r s,r<N->s<N->R r=R s->r=s
theorem sF.grow {P:Nat->Prop} {w w':World} {N:Nat} {R len:Nat->Nat} {f:Nat->Nat->Int} (h:sF P w N R len f) (hg:ae w w'):sF P w' N R len f:=⟨λr hr=>(h.rows r hr).grow hg,h.inj⟩
theorem sF.congr {P:Nat->Prop} {w:World} {N:Nat} {R len:Nat->Nat} {f f':Nat->Nat->Int} (h:sF P w N R len f) (e:∀ r i,r<N->i<len r->f r i=f' r i):sF P w N R len f':=⟨λr hr=>(h.rows r hr).congr (λi hi=>e r i hr hi),h.inj⟩
def lK (f:Nat->Nat->Int) (r i:Nat) (v:Int) (a b:Nat):Int:=if a=r∧b=i then v else f a b
theorem bz.uq {P:Nat->Prop} {w:World} {g n:Nat} {f:Nat->Int} (h:bz P w g n f) {k:Nat} {cs:Array Value} {T:TypeId} (hk:w.heap[k]?=some (.cells cs T (0,0))) (hT:T≠3) (hne:g≠k) (o:Nat) (u:Value):bz P (w.setCell ⟨k,o,none⟩ u) g n f:=by
 obtain ⟨cs',h1,h2,h4⟩:=h;refine ⟨cs',(l_ _ _ _ _ hne).trans h1,h2,λi hi=>?_⟩;obtain ⟨x,a,m,c,d1,d2,d3⟩:=h4 i hi;exact ⟨x,a,m,c,d1,d2,d3.bW (aA.setCell hk hT o u)⟩
theorem sF.set {P:Nat->Prop} {w:World} {N:Nat} {R len:Nat->Nat} {f:Nat->Nat->Int} (h:sF P w N R len f) {r i:Nat} (hr:r<N) (hi:i<len r) {x:Int} {a:Option Addr} {m c:Nat} {v:Int} (hv:aj P w (.agg #[.int .i64 x,.slice a m c]) v) :
  sF P ((w.setCell ⟨R r,i*2,none⟩ (.int .i64 x)).setCell ⟨R r,i*2+1,none⟩ (.slice a m c)) N R len (lK f r i v):=by
 refine ⟨λs hs=>?_,h.inj⟩;by_cases e:s=r
 ·subst e;refine ((h.rows s hs).set hi hv).congr (λk hk=>?_);unfold qi lK;by_cases e2:k=i
  ·rw [h_ e2,h_ ⟨rfl,e2⟩]
  ·rw [g_ e2,g_ (λh=>e2 h.2)]
 ·have hne:R s≠R r:=λhe=>e (h.inj s r hs hr he);obtain ⟨cs,hcs⟩:=(h.rows r hr).block;refine (((h.rows s hs).uq hcs (by decide) hne _ _).uq (j_ w (R r) (i*2) _ _ (.int .i64 x) hcs) (by decide) hne _ _).congr (λk _=>?_);unfold lK;rw [g_ (λh=>e h.1)]
theorem sF.uq {P:Nat->Prop} {w:World} {N:Nat} {R len:Nat->Nat} {f:Nat->Nat->Int} (h:sF P w N R len f) {k:Nat} {cs:Array Value} {T:TypeId} (hk:w.heap[k]?=some (.cells cs T (0,0))) (hT:T≠3) (hne:∀ r,r<N->R r≠k) (o:Nat) (u:Value):sF P (w.setCell ⟨k,o,none⟩ u) N R len f:=⟨λr hr=>(h.rows r hr).uq hk hT (hne r hr) o u,h.inj⟩
def dM (w:World) (g n:Nat) (R:Nat->Nat) (off l:Nat):Prop:=∃ cs,w.heap[g]?=some (.cells cs 69 (0,0))∧∀ i,i<n->cs[i]?=some (.slice (some ⟨R (off+i),0,none⟩) l l)
theorem dM.grow {w w':World} {g n:Nat} {R:Nat->Nat} {off l:Nat} (h:dM w g n R off l) (hg:ae w w'):dM w' g n R off l:=by
 obtain ⟨cs,h1,h2⟩:=h;exact ⟨cs,Below.same hg _ _ h1,h2⟩
theorem dM.block {w:World} {g n:Nat} {R:Nat->Nat} {off l:Nat} (h:dM w g n R off l):∃ cs,w.heap[g]?=some (.cells cs 69 (0,0)):=by
 obtain ⟨cs,h1,_⟩:=h;exact ⟨cs,h1⟩
theorem dM.cell {w:World} {g n:Nat} {R:Nat->Nat} {off l:Nat} (h:dM w g n R off l) {i:Nat} (hi:i<n):w.cell? ⟨g,i,none⟩=some (.slice (some ⟨R (off+i),0,none⟩) l l):=by
 obtain ⟨cs,h1,h2⟩:=h;rw [cellsOf h1];exact h2 i hi
theorem dM.uq {w:World} {g n:Nat} {R:Nat->Nat} {off l:Nat} (h:dM w g n R off l) {k:Nat} (hne:g≠k) (o:Nat) (u:Value):dM (w.setCell ⟨k,o,none⟩ u) g n R off l:=by
 obtain ⟨cs,h1,h2⟩:=h;exact ⟨cs,(l_ _ _ _ _ hne).trans h1,h2⟩
theorem jZ {P:Nat->Prop} {w:World} {N:Nat} {R len:Nat->Nat} {f:Nat->Nat->Int} (h:sF P w N R len f) {g n:Nat} {R':Nat->Nat} {off l:Nat} (hh:dM w g n R' off l):∀ r,r<N->R r≠g:=λr hr e=>by
 obtain ⟨cs,h1⟩:=(h.rows r hr).block;obtain ⟨cs',h2,_⟩:=hh;rw [e,h2] at h1;simp at h1
theorem zP {P:Nat->Prop} {w:World} {N:Nat} {R len:Nat->Nat} {f:Nat->Nat->Int} (h:sF P w N R len f) {g n off l:Nat} (hh:dM w g n R off l) (hoff:off+n<=N) (hl:∀ i,i<n->len (off+i)=l) (cap:Nat) (hcap:n<=cap) (hp:∀ k,k=g∨(∃ i,i<n∧k=R (off+i))->P k):aM P w (.slice (some ⟨g,0,none⟩) n cap) ((List.range n).map λi=>(List.range l).map (f (off+i))):=by
 obtain ⟨cs,h1,h2⟩:=hh;refine ⟨some ⟨g,0,none⟩,cap,by simp,by simpa using hcap,λi hi=>?_⟩;have hi':i<n:=by simpa using hi
 refine ⟨g,0,_,rfl,by rw [cellsOf h1,M_];exact h2 i hi',?_,hp g (.inl rfl),cs,h1⟩;have h3:=h.rows (off+i) (by omega);rw [hl i hi'] at h3
 simpa using h3.row (hp _ (.inr ⟨i,hi',rfl⟩))
set_option maxHeartbeats 20000000 in
theorem EH (P:Nat->Prop) (n:Nat) (w:World) (hP:∀ b,w.heap.size<=b->P b) (hn:n<=100) :
  Calls Tryz.prog 82 #[.int .i64 n] w λe w'=>∃ (g:Nat) (R:Nat->Nat),e=.returned (.slice (some ⟨g,0,none⟩) n n)∧w.heap.size<=g∧(∀ r,r<n->w.heap.size<=R r)∧sF P w' n R (λ_=>n) Pl.unit∧dM w' g n R 0 n∧Below w.heap.size w w':=by
 obtain ⟨i0,hi0,hz0,hz1,hz2⟩:=U_ Tryz.dP;obtain ⟨i1,hi1,hy0,hy1,hy2⟩:=U_ Tryz.oQ;go_enter Tryz.func82,Tryz.ntmps82;go_wp2_with (at_make;refine wpList_make_full _ rfl _ _ 72 rfl w.heap.size 69 i1 (.slice none 0 0) 1 Tryz.underlying72 hi1 hy0 hy1 .i64 .i64 _ _ n rfl rfl ?e1 ?e2 ?c1 ?c2 ?c3 ?_)
 case e1=>first | rfl | omega | simp
 case e2=>first | rfl | omega | simp
 case c1=>rw [hy2];omega
 case c2=>unfold maxLen;omega
 case c3=>first | omega | simp
 ·intro w1 hown hgrow;have hG1:ae w w1:=(n_ _ _).grown hgrow (d_ _) (by intro k hk;cases hk);have K7:Hid (∃ cs,w1.heap[w.heap.size]?=some (.cells cs 69 (0,0))∧cs.size=n):=by
   obtain ⟨cs,h1,h2,_⟩:=eZ.made (P:=P) hown;exact ⟨cs,h1,h2⟩
  have dN:=af hG1;clear hown hgrow hG1;go_wp2_with fail;go_loopg [4] n (λk iv wr=>∃ (i:Nat) (R:Nat->Nat),iv=.int .i64 i∧i+k=n∧Hid ((∀ r,r<i->w.heap.size<R r∧R r<wr.heap.size)∧sF P wr i R (λ_=>n) Pl.unit∧(∃ cs,wr.heap[w.heap.size]?=some (.cells cs 69 (0,0))∧cs.size=n∧∀ j,j<i->cs[j]?=some (.slice (some ⟨R j,0,none⟩) n n))∧ae w wr))
  case atStart =>
   obtain ⟨cs,h1,h2⟩:=uh K7;exact ⟨0,λ_=>0,rfl,by omega,λr hr=>by omega,⟨λr hr=>by omega,λr s hr=>by omega⟩,⟨cs,h1,h2,λj hj=>by omega⟩,uh dN⟩
  case round =>
   obtain ⟨i,R,rfl,hik,HR⟩:=hrel;by_cases hlt:i<n
   ·go_wp2_with (at_make;refine wpList_make_full _ rfl _ _ 69 rfl wr.heap.size 78 i0 (.agg #[.int .i64 0,.slice none 0 0]) 2 Tryz.underlying69 hi0 hz0 hz1 .i64 .i64 _ _ n rfl rfl ?e1 ?e2 ?c1 ?c2 ?c3 ?_)
    case e1=>first | rfl | omega | simp
    case e2=>first | rfl | omega | simp
    case c1=>rw [hz2];omega
    case c2=>unfold maxLen;omega
    case c3=>first | omega | simp
    ·intro w2 hown hgrow;have hG2:ae wr w2:=(n_ _ _).grown hgrow (d_ _) (by intro k hk;cases hk);have G7:Hid (bz P w2 wr.heap.size n (λ_=>0)):=bz.made hown;have HG2:=af hG2;clear hown hgrow hG2;go_wp2_with fail;refine (fM P 1 w2 (λb' hb'=>hP b' (by have:=((uh HR).2.2.2.trans (uh HG2)).size;omega)) (by decide) (by decide)).mono ?_;rintro e w3 ⟨v3,rfl,hv3,hw3⟩;obtain ⟨ox,oa,om,oc,rfl⟩:=hv3.shape;have RU:=(uh G7).grow hw3;obtain ⟨qx,qa,qm,qc,r0,r1,_,f0,f1⟩:=RU.get hlt;have HR4:=af ((RU.set hlt hv3).congr (f':=Pl.unit i) (λk _=>by
      unfold qi Pl.unit;by_cases h:k=i
      ·rw [h_ h,h_ h.symm]
      ·rw [g_ h,g_ (λe=>h e.symm)]))
     have kC:Hid (ae wr ((w3.setCell ⟨wr.heap.size,i*2,none⟩ (.int .i64 ox)).setCell ⟨wr.heap.size,i*2+1,none⟩ (.slice oa om oc))):=(B_ (p:=⟨wr.heap.size,i*2,none⟩) (ae.trans (uh HG2) hw3) (d_ _) _).setCell (p:=⟨wr.heap.size,i*2+1,none⟩) (d_ _) _;have Uh:Hid (∃ cs,((w3.setCell ⟨wr.heap.size,i*2,none⟩ (.int .i64 ox)).setCell ⟨wr.heap.size,i*2+1,none⟩ (.slice oa om oc)).heap[w.heap.size]?=some (.cells cs 69 (0,0))∧cs.size=n∧∀ j,j<i->cs[j]?=some (.slice (some ⟨R j,0,none⟩) n n)):=by
      obtain ⟨cs,h1,h2,h3⟩:=(uh HR).2.2.1;exact ⟨cs,Below.same (uh kC) _ _ h1,h2,h3⟩
     clear hv3 hw3 RU G7 HG2;obtain ⟨W4,xX⟩:∃ W4,(w3.setCell ⟨wr.heap.size,i*2,none⟩ (.int .i64 ox)).setCell ⟨wr.heap.size,i*2+1,none⟩ (.slice oa om oc)=W4:=⟨_,rfl⟩;rw [xX] at HR4 kC Uh;obtain ⟨cs,hcs,hcz,hcj⟩:=uh Uh;obtain ⟨u0,l0⟩:∃ u0,W4.cell? ⟨w.heap.size,i,none⟩=some u0:=⟨cs[i],by rw [cellsOf hcs];exact Array.getElem?_eq_getElem (by omega)⟩;have l1:W4.frozen? ⟨w.heap.size,i,none⟩=false:=aH hcs i;rw [<-xX] at l0 l1;have HF:Hid (∃ R':Nat->Nat,(∀ r,r<i+1->w.heap.size<R' r∧R' r<(W4.setCell ⟨w.heap.size,i,none⟩ (.slice (some ⟨wr.heap.size,0,none⟩) n n)).heap.size)∧sF P (W4.setCell ⟨w.heap.size,i,none⟩ (.slice (some ⟨wr.heap.size,0,none⟩) n n)) (i+1) R' (λ_=>n) Pl.unit∧(∃ cs,(W4.setCell ⟨w.heap.size,i,none⟩ (.slice (some ⟨wr.heap.size,0,none⟩) n n)).heap[w.heap.size]?=some (.cells cs 69 (0,0))∧cs.size=n∧∀ j,j<i+1->cs[j]?=some (.slice (some ⟨R' j,0,none⟩) n n))∧ae w (W4.setCell ⟨w.heap.size,i,none⟩ (.slice (some ⟨wr.heap.size,0,none⟩) n n))):=by
      have hold:=uh HR;have hlw:w.heap.size<wr.heap.size:=by obtain ⟨cs0,h0,_⟩:=hold.2.2.1;exact z_ h0
      have hws:wr.heap.size<W4.heap.size:=(uh HR4).lt;refine ⟨λr=>if r=i then wr.heap.size else R r,λr hr=>?_,⟨λr hr=>?_,λr s hr hs e=>?_⟩,⟨_,j_ W4 w.heap.size i _ _ _ hcs,by simp [hcz],λj hj=>?_⟩,B_ (p:=⟨w.heap.size,i,none⟩) (hold.2.2.2.trans (uh kC)) (d_ _) _⟩
      ·by_cases e:r=i
       ·simp [e];omega
       ·have:=hold.1 r (by omega);simp [e];omega
      ·by_cases e:r=i
       ·subst e;simp only [h_];exact (uh HR4).uq hcs (by decide) (by omega) _ _
       ·have h1:=hold.1 r (by omega);simp only [g_ e];exact ((hold.2.1.rows r (by omega)).grow (uh kC)).uq hcs (by decide) (by omega) _ _
      ·by_cases e1:r=i <;> by_cases e2:s=i
       ·omega
       ·have:=hold.1 s (by omega);simp [e1,e2] at e;omega
       ·have:=hold.1 r (by omega);simp [e1,e2] at e;omega
       ·simp [e1,e2] at e;exact hold.2.1.inj r s (by omega) (by omega) e
      ·by_cases e:j=i
       ·subst e;rw [P_ (by omega)];simp
       ·rw [K_ (by omega),hcj j (by omega)];simp [e]
     rw [<-xX] at HF;clear hcs hcz hcj Uh kC HR4 xX;go_wp2;go_roundg (gk - 1)
     case measure=>omega
     case rel =>
      obtain ⟨R',a1,a2,a3,a4⟩:=uh HF;exact ⟨i+1,R',by simp,by omega,a1,a2,a3,a4⟩
   ·have hin:i=n:=by omega
    subst hin;have HF:Hid (dM wr w.heap.size i R 0 i):=by
     obtain ⟨cs,h1,_,h3⟩:=(uh HR).2.2.1;exact ⟨cs,h1,λj hj=>by rw [M_];exact h3 j hj⟩
    go_wp2;go_ret;exact ⟨w.heap.size,R,rfl,d_ _,λr hr=>abv ((uh HR).1 r hr).1,(uh HR).2.1,uh HF,(uh HR).2.2.2⟩
end
def iN (n r:Nat):Nat:=if r=3*n then n+1 else n
def pq (n:Nat) (St G Ov:Nat->Nat->Int) (V:Nat->Int) (r i:Nat):Int:=if r<n then St r i else if r<2*n then G (r - n) i else if r<3*n then Ov (r - 2*n) i else V i
structure bf (P:Nat->Prop) (B:Nat) (w:World) (n b gs gp go cs cp co:Nat) (R:Nat->Nat) (St G Ov:Nat->Nat->Int) (V:Nat->Int):Prop where
 own:w.heap[b]?=some (.cells #[.slice (some ⟨gs,0,none⟩) n cs,.slice (some ⟨gp,0,none⟩) n cp,.slice (some ⟨R (3*n),0,none⟩) (n+1) (n+1),.slice (some ⟨go,0,none⟩) n co] 134 (0,0))
 oL:sF P w (3*n+1) R (iN n) (pq n St G Ov V)
 steps:dM w gs n R 0 n
 uY:dM w gp n R n n
 over:dM w go n R (2*n) n
 apart:gs≠gp∧gp≠go∧gs≠go
 base:B<=b∧B<=gs∧B<=gp∧B<=go∧∀ r,r<3*n+1->B<=R r
 MW:n<=cs∧n<=cp∧n<=co
section
variable {P:Nat->Prop} {B:Nat} {w w':World} {n b gs gp go cs cp co:Nat} {R:Nat->Nat} {St G Ov:Nat->Nat->Int} {V:Nat->Int}
theorem bf.grow (h:bf P B w n b gs gp go cs cp co R St G Ov V) (hg:ae w w'):bf P B w' n b gs gp go cs cp co R St G Ov V :=
 ⟨Below.same hg _ _ h.own,h.oL.grow hg,h.steps.grow hg,h.uY.grow hg,h.over.grow hg,h.apart,h.base,h.MW⟩
theorem bf.congr (h:bf P B w n b gs gp go cs cp co R St G Ov V) {Hq G' Bq:Nat->Nat->Int} {V':Nat->Int} (e1:∀ r i,r<n->i<n->St r i=Hq r i) (e2:∀ r i,r<n->i<n->G r i=G' r i) (e3:∀ r i,r<n->i<n->Ov r i=Bq r i) (e4:∀ i,i<n+1->V i=V' i):bf P B w n b gs gp go cs cp co R Hq G' Bq V':=by
 refine ⟨h.own,h.oL.congr λr i hr hi=>?_,h.steps,h.uY,h.over,h.apart,h.base,h.MW⟩;unfold iN at hi;unfold pq;by_cases h1:r<n
 ·rw [h_ h1,h_ h1];rw [g_ (by omega)] at hi;exact e1 _ _ h1 hi
 ·rw [g_ h1,g_ h1];by_cases h2:r<2*n
  ·rw [h_ h2,h_ h2];rw [g_ (by omega)] at hi;exact e2 _ _ (by omega) hi
  ·rw [g_ h2,g_ h2];by_cases h3:r<3*n
   ·rw [h_ h3,h_ h3];rw [g_ (by omega)] at hi;exact e3 _ _ (by omega) hi
   ·rw [g_ h3,g_ h3];rw [h_ (by omega)] at hi;exact e4 _ hi
theorem bf.cells (h:bf P B w n b gs gp go cs cp co R St G Ov V):w.cell? ⟨b,0,none⟩=some (.slice (some ⟨gs,0,none⟩) n cs)∧w.cell? ⟨b,1,none⟩=some (.slice (some ⟨gp,0,none⟩) n cp)∧w.cell? ⟨b,2,none⟩=some (.slice (some ⟨R (3*n),0,none⟩) (n+1) (n+1))∧w.cell? ⟨b,3,none⟩=some (.slice (some ⟨go,0,none⟩) n co):=by
 refine ⟨?_,?_,?_,?_⟩ <;> (rw [cellsOf h.own];rfl)
theorem bf.R9 (h:bf P B w n b gs gp go cs cp co R St G Ov V) {r i:Nat} (hr:r<n) (hi:i<n):w.cell? ⟨gs,r,none⟩=some (.slice (some ⟨R r,0,none⟩) n n)∧∃ x a m c,w.cell? ⟨R r,i*2,none⟩=some (.int .i64 x)∧w.cell? ⟨R r,i*2+1,none⟩=some (.slice a m c)∧aj P w (.agg #[.int .i64 x,.slice a m c]) (St r i):=by
 have h1:=h.steps.cell hr;rw [M_] at h1;obtain ⟨x,a,m,c,d1,d2,d3,_⟩:=(h.oL.rows r (by omega)).get (i:=i) (by unfold iN;rw [g_ (by omega)];exact hi);refine ⟨h1,x,a,m,c,d1,d2,?_⟩;unfold pq at d3;rwa [h_ hr] at d3
theorem bf.DV (h:bf P B w n b gs gp go cs cp co R St G Ov V) {r i:Nat} (hr:r<n) (hi:i<n):w.cell? ⟨gp,r,none⟩=some (.slice (some ⟨R (n+r),0,none⟩) n n)∧∃ x a m c,w.cell? ⟨R (n+r),i*2,none⟩=some (.int .i64 x)∧w.cell? ⟨R (n+r),i*2+1,none⟩=some (.slice a m c)∧aj P w (.agg #[.int .i64 x,.slice a m c]) (G r i):=by
 obtain ⟨x,a,m,c,d1,d2,d3,_⟩:=(h.oL.rows (n+r) (by omega)).get (i:=i) (by unfold iN;rw [g_ (by omega)];exact hi);refine ⟨h.uY.cell hr,x,a,m,c,d1,d2,?_⟩;unfold pq at d3;rwa [g_ (by omega),h_ (by omega),abN] at d3
theorem bf.GY (h:bf P B w n b gs gp go cs cp co R St G Ov V) {r i:Nat} (hr:r<n) (hi:i<n):w.cell? ⟨go,r,none⟩=some (.slice (some ⟨R (2*n+r),0,none⟩) n n)∧∃ x a m c,w.cell? ⟨R (2*n+r),i*2,none⟩=some (.int .i64 x)∧w.cell? ⟨R (2*n+r),i*2+1,none⟩=some (.slice a m c)∧aj P w (.agg #[.int .i64 x,.slice a m c]) (Ov r i):=by
 obtain ⟨x,a,m,c,d1,d2,d3,_⟩:=(h.oL.rows (2*n+r) (by omega)).get (i:=i) (by unfold iN;rw [g_ (by omega)];exact hi);refine ⟨h.over.cell hr,x,a,m,c,d1,d2,?_⟩;unfold pq at d3;rwa [g_ (by omega),g_ (by omega),h_ (by omega),abN] at d3
theorem bf.JO (h:bf P B w n b gs gp go cs cp co R St G Ov V) {i:Nat} (hi:i<n+1):∃ x a m c,w.cell? ⟨R (3*n),i*2,none⟩=some (.int .i64 x)∧w.cell? ⟨R (3*n),i*2+1,none⟩=some (.slice a m c)∧aj P w (.agg #[.int .i64 x,.slice a m c]) (V i):=by
 obtain ⟨x,a,m,c,d1,d2,d3,_⟩:=(h.oL.rows (3*n) (by omega)).get (i:=i) (by unfold iN;rw [h_ rfl];exact hi);refine ⟨x,a,m,c,d1,d2,?_⟩;unfold pq at d3;rwa [g_ (by omega),g_ (by omega),g_ (by omega)] at d3
theorem bf.free (h:bf P B w n b gs gp go cs cp co R St G Ov V) {r:Nat} (hr:r<3*n+1) (o:Nat):w.frozen? ⟨R r,o,none⟩=false:=by
 obtain ⟨cs,hcs⟩:=(h.oL.rows r hr).block;exact aH hcs o
theorem bf.put (h:bf P B w n b gs gp go cs cp co R St G Ov V) {r i:Nat} (hr:r<3*n+1) (hi:i<iN n r) {x:Int} {a:Option Addr} {m c:Nat} {v:Int} (hv:aj P w (.agg #[.int .i64 x,.slice a m c]) v) {Hq G' Bq:Nat->Nat->Int} {V':Nat->Int} (he:∀ s k,s<3*n+1->k<iN n s->lK (pq n St G Ov V) r i v s k=pq n Hq G' Bq V' s k) :
  bf P B ((w.setCell ⟨R r,i*2,none⟩ (.int .i64 x)).setCell ⟨R r,i*2+1,none⟩ (.slice a m c)) n b gs gp go cs cp co R Hq G' Bq V'∧Below B w ((w.setCell ⟨R r,i*2,none⟩ (.int .i64 x)).setCell ⟨R r,i*2+1,none⟩ (.slice a m c)):=by
 obtain ⟨k,hk⟩:=(h.oL.rows r hr).block;have hb:b≠R r:=λe=>by have:=h.own;rw [e,hk] at this;simp at this
 have n1:=jZ h.oL h.steps r hr;have n2:=jZ h.oL h.uY r hr;have n3:=jZ h.oL h.over r hr;refine ⟨⟨?_,(h.oL.set hr hi hv).congr he,(h.steps.uq (aaQ n1) _ _).uq (aaQ n1) _ _,(h.uY.uq (aaQ n2) _ _).uq (aaQ n2) _ _,(h.over.uq (aaQ n3) _ _).uq (aaQ n3) _ _,h.apart,h.base,h.MW⟩,?_⟩
 ·exact (l_ _ _ _ _ hb).trans ((l_ _ _ _ _ hb).trans h.own)
 ·have:=h.base.2.2.2.2 r hr;exact (B_ (p:=⟨R r,i*2,none⟩) (n_ _ _) this _).setCell (p:=⟨R r,i*2+1,none⟩) this _
theorem bf.acA (h:bf P B w n b gs gp go cs cp co R St G Ov V) {r i:Nat} (hr:r<n) (hi:i<n) {x:Int} {a:Option Addr} {m c:Nat} {v:Int} (hv:aj P w (.agg #[.int .i64 x,.slice a m c]) v) :
  bf P B ((w.setCell ⟨R r,i*2,none⟩ (.int .i64 x)).setCell ⟨R r,i*2+1,none⟩ (.slice a m c)) n b gs gp go cs cp co R (lK St r i v) G Ov V∧Below B w ((w.setCell ⟨R r,i*2,none⟩ (.int .i64 x)).setCell ⟨R r,i*2+1,none⟩ (.slice a m c)) :=
 h.put (by omega) (by unfold iN;rw [g_ (by omega)];exact hi) hv (λs k hs hk=>by
  unfold lK pq
  try dsimp only
  by_cases h1:s<n
  ·rw [h_ h1,h_ h1]
  ·rw [g_ h1,g_ h1,g_ (by omega)])
theorem bf.Sa (h:bf P B w n b gs gp go cs cp co R St G Ov V) {r i:Nat} (hr:r<n) (hi:i<n) {x:Int} {a:Option Addr} {m c:Nat} {v:Int} (hv:aj P w (.agg #[.int .i64 x,.slice a m c]) v) :
  bf P B ((w.setCell ⟨R (n+r),i*2,none⟩ (.int .i64 x)).setCell ⟨R (n+r),i*2+1,none⟩ (.slice a m c)) n b gs gp go cs cp co R St (lK G r i v) Ov V∧Below B w ((w.setCell ⟨R (n+r),i*2,none⟩ (.int .i64 x)).setCell ⟨R (n+r),i*2+1,none⟩ (.slice a m c)) :=
 h.put (by omega) (by unfold iN;rw [g_ (by omega)];exact hi) hv (λs k hs hk=>by
  unfold lK pq
  try dsimp only
  by_cases h1:s<n
  ·rw [h_ h1,h_ h1,g_ (by omega)]
  ·rw [g_ h1,g_ h1];by_cases h2:s<2*n
   ·rw [h_ h2,h_ h2];by_cases h3:s=n+r∧k=i
    ·rw [h_ h3,h_ ⟨by omega,h3.2⟩]
    ·rw [g_ h3,g_ (by omega)]
   ·rw [g_ h2,g_ h2,g_ (by omega)])
theorem bf.VD (h:bf P B w n b gs gp go cs cp co R St G Ov V) {r i:Nat} (hr:r<n) (hi:i<n) {x:Int} {a:Option Addr} {m c:Nat} {v:Int} (hv:aj P w (.agg #[.int .i64 x,.slice a m c]) v) :
  bf P B ((w.setCell ⟨R (2*n+r),i*2,none⟩ (.int .i64 x)).setCell ⟨R (2*n+r),i*2+1,none⟩ (.slice a m c)) n b gs gp go cs cp co R St G (lK Ov r i v) V∧Below B w ((w.setCell ⟨R (2*n+r),i*2,none⟩ (.int .i64 x)).setCell ⟨R (2*n+r),i*2+1,none⟩ (.slice a m c)) :=
 h.put (by omega) (by unfold iN;rw [g_ (by omega)];exact hi) hv (λs k hs hk=>by
  unfold lK pq
  try dsimp only
  by_cases h1:s<n
  ·rw [h_ h1,h_ h1,g_ (by omega)]
  ·rw [g_ h1,g_ h1];by_cases h2:s<2*n
   ·rw [h_ h2,h_ h2,g_ (by omega)]
   ·rw [g_ h2,g_ h2];by_cases h4:s<3*n
    ·rw [h_ h4,h_ h4];by_cases h3:s=2*n+r∧k=i
     ·rw [h_ h3,h_ ⟨by omega,h3.2⟩]
     ·rw [g_ h3,g_ (by omega)]
    ·rw [g_ h4,g_ h4,g_ (by omega)])
theorem bf.acX (h:bf P B w n b gs gp go cs cp co R St G Ov V) {i:Nat} (hi:i<n+1) {x:Int} {a:Option Addr} {m c:Nat} {v:Int} (hv:aj P w (.agg #[.int .i64 x,.slice a m c]) v) :
  bf P B ((w.setCell ⟨R (3*n),i*2,none⟩ (.int .i64 x)).setCell ⟨R (3*n),i*2+1,none⟩ (.slice a m c)) n b gs gp go cs cp co R St G Ov (qi V i v)∧Below B w ((w.setCell ⟨R (3*n),i*2,none⟩ (.int .i64 x)).setCell ⟨R (3*n),i*2+1,none⟩ (.slice a m c)) :=
 h.put (by omega) (by unfold iN;rw [h_ rfl];exact hi) hv (λs k hs hk=>by
  unfold lK pq qi
  try dsimp only
  by_cases h1:s<n
  ·rw [h_ h1,h_ h1,g_ (by omega)]
  ·rw [g_ h1,g_ h1];by_cases h2:s<2*n
   ·rw [h_ h2,h_ h2,g_ (by omega)]
   ·rw [g_ h2,g_ h2];by_cases h4:s<3*n
    ·rw [h_ h4,h_ h4,g_ (by omega)]
    ·rw [g_ h4,g_ h4];by_cases h3:k=i
     ·rw [h_ ⟨by omega,h3⟩,h_ h3]
     ·rw [g_ (λh=>h3 h.2),g_ h3])
end
end
attribute [local go_sem] bD
set_option maxHeartbeats 1000000 in
theorem uX (P:Nat->Prop) (K:Nat) (a t b:Int) (va vt vb:Value) (w:World) (hP:∀ b,w.heap.size<=b->P b) (ha:aj P w va a) (ht:aj P w vt t) (hb:aj P w vb b) (hK:K<=1500000000000) (la:Pl.Lt K a) (lt:Pl.Lt K t) (lb:Pl.Lt K b) (ltb:Pl.Lt K (t*b)) :
  Calls Tryz.prog 107 #[va,vt,vb] w λe w'=>∃ v',e=.returned v'∧aj P w' v' (a - t*b)∧Below w.heap.size w w':=by
 obtain ⟨ax,aa,am,ac,rfl⟩:=ha.shape;obtain ⟨tx,ta,tm,tc,rfl⟩:=ht.shape;obtain ⟨bx,ba,bm,bc,rfl⟩:=hb.shape;obtain ⟨W,hW⟩:∃ W,(((w.alloc (.cells #[.int .i64 ax,.slice aa am ac] 78)).alloc (.cells #[.int .i64 tx,.slice ta tm tc] 78)).alloc (.cells #[.int .i64 bx,.slice ba bm bc] 78)).alloc (.cells #[.int .i64 0,.slice none 0 0] 78)=W:=⟨_,rfl⟩;have HG:Hid (ae w W):=by unfold Hid;rw [<-hW];exact ae.trans (ae.trans (ae.trans (ae.alloc _ _) (ae.alloc _ _)) (ae.alloc _ _)) (ae.alloc _ _)
 have b0:W.heap[w.heap.size]?=some (.cells #[.int .i64 ax,.slice aa am ac] 78):=by rw [<-hW];exact Below.same (ae.trans (ae.trans (ae.alloc _ _) (ae.alloc _ _)) (ae.alloc _ _)) _ _ (aG _ _)
 have b1:W.heap[w.heap.size+1]?=some (.cells #[.int .i64 tx,.slice ta tm tc] 78):=by
  have:=Below.same (ae.trans (ae.alloc ((w.alloc (.cells #[.int .i64 ax,.slice aa am ac] 78)).alloc (.cells #[.int .i64 tx,.slice ta tm tc] 78)) (.cells #[.int .i64 bx,.slice ba bm bc] 78)) (ae.alloc _ (.cells #[.int .i64 0,.slice none 0 0] 78))) _ _ (aG (w.alloc (.cells #[.int .i64 ax,.slice aa am ac] 78)) (.cells #[.int .i64 tx,.slice ta tm tc] 78));rw [<-hW];rwa [H_] at this
 have b2:W.heap[w.heap.size+1+1]?=some (.cells #[.int .i64 bx,.slice ba bm bc] 78):=by
  have:=Below.same (ae.alloc (((w.alloc (.cells #[.int .i64 ax,.slice aa am ac] 78)).alloc (.cells #[.int .i64 tx,.slice ta tm tc] 78)).alloc (.cells #[.int .i64 bx,.slice ba bm bc] 78)) (.cells #[.int .i64 0,.slice none 0 0] 78)) _ _ (aG ((w.alloc (.cells #[.int .i64 ax,.slice aa am ac] 78)).alloc (.cells #[.int .i64 tx,.slice ta tm tc] 78)) (.cells #[.int .i64 bx,.slice ba bm bc] 78));rw [<-hW];rwa [H_,H_] at this
 have b3:W.heap[w.heap.size+1+1+1]?=some (.cells #[.int .i64 0,.slice none 0 0] 78):=by
  have:=aG (((w.alloc (.cells #[.int .i64 ax,.slice aa am ac] 78)).alloc (.cells #[.int .i64 tx,.slice ta tm tc] 78)).alloc (.cells #[.int .i64 bx,.slice ba bm bc] 78)) (.cells #[.int .i64 0,.slice none 0 0] 78);rw [<-hW];rwa [H_,H_,H_] at this
 have HZ:=af b3;have y1:=λd os=>b_ (au b0).1 d os;have y2:=λd os=>b_ (au b0).2.1 d os;have y3:=λd os=>b_ (au b1).1 d os;have y4:=λd os=>b_ (au b1).2.1 d os;have y5:=λd os=>b_ (au b2).1 d os;have y6:=λd os=>b_ (au b2).2.1 d os;have HA:=af (ha.below (uh HG));have HT:=af (ht.below (uh HG));have HB:=af (hb.below (uh HG));clear ha ht hb b0 b1 b2 b3;go_enter Tryz.func107,Tryz.ntmps107;go_wp2_with fail
 try rw [hW]
 clear hW;refine ah (bZ [(10,λv w=>aj P w v (t*b)),(11,λv w=>aj P w v (a - t*b))]) (gL [(10,ag),(11,ag)]) 12 5 (by kernel_rfl) (by rfl) (by kernel_rfl) (aN (λ_ _ _=>aj.below) (aN (λ_ _ _=>aj.below) cK)) ?_
 iterate 3 (refine aO λK hK=>?_;go_simp;refine hK _ ?_;clear hK K)
 refine ai ag 58 #[.agg #[.int .i64 tx,.slice ta tm tc],.agg #[.int .i64 bx,.slice ba bm bc]] (by rfl) (by rfl) ag.some (λw=>by go_simp) (λwq hg hf=>(eD P K t b _ _ wq (λb' hb'=>hP b' (by have:=(ae.trans (uh HG) hg).size;omega)) ((uh HT).below hg) ((uh HB).below hg) hK lt lb).mono (by rintro e w' ⟨v',rfl,hv,hb⟩;exact ⟨_,rfl,hb,hv.aU,λt ht=>by cases ht;exact hv⟩)) ?_;rintro _ ⟨px,pa,pm,pc,rfl⟩;refine ai ag 57 #[.agg #[.int .i64 ax,.slice aa am ac],.agg #[.int .i64 px,.slice pa pm pc]] (by rfl) (by rfl) ag.some (λw=>by go_simp) (λwq hg hf=>(kF P K a (t*b) _ _ wq (λb' hb'=>hP b' (by have:=(ae.trans (uh HG) hg).size;omega)) ((uh HA).below hg) (hf 3 (by kernel_rfl) _ 10 rfl rfl) hK la ltb).mono (by rintro e w' ⟨v',rfl,hv,hb⟩;exact ⟨_,rfl,hb,hv.aU,λt ht=>by cases ht;exact hv⟩)) ?_;rintro _ ⟨qx,qa,qm,qc,rfl⟩;refine aF ?_;intro w2 hw2 aK;have hv2:aj P w2 (.agg #[.int .i64 qx,.slice qa qm qc]) (a - t*b):=aK 4 _ 11 (by decide) rfl rfl;clear aK y1 y2 y3 y4 y5 y6;have hblk:=Below.same hw2 _ _ (uh HZ);obtain ⟨z0,z1,z2,z3⟩:=au hblk;have YR:=af (hv2.kE hblk (.int .i64 qx) (.slice qa qm qc));have Ey:Hid (ae w ((w2.setCell ⟨w.heap.size+1+1+1,0,none⟩ (.int .i64 qx)).setCell ⟨w.heap.size+1+1+1,1,none⟩ (.slice qa qm qc))):=(B_ (p:=⟨w.heap.size+1+1+1,0,none⟩) (ae.trans (uh HG) hw2) (by show w.heap.size<=w.heap.size+1+1+1;omega) _).setCell (p:=⟨w.heap.size+1+1+1,1,none⟩) (by show w.heap.size<=w.heap.size+1+1+1;omega) _;clear hv2 hw2 hblk;go_wp2;exact t_ (v:=.agg #[.int .i64 qx,.slice qa qm qc]) (by simp [results,Tryz.results107,go_sem,z0,z1]) rfl ⟨_,rfl,uh YR,uh Ey⟩
end Go.Proofs.YtgaafamcajcifaaGreat
