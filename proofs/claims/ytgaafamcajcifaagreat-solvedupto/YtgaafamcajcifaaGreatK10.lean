/- Joined: XWh4 XWh5 XWh6 XDiv. -/
import Derived.Test.YtgaafamcajcifaaGreatK09
set_option linter.unusedVariables false
set_option linter.unusedSimpArgs false
set_option maxRecDepth 100000
namespace Go.Proofs.YtgaafamcajcifaaGreat
open Go.RowKit
set_option maxHeartbeats 2000000 in
theorem Dq (a:List Int) (va:Value) (times:Int) (w:World) (ha:bI w va a) (hal:a.length<=7500000000000) (oa:Pl.ak a) (ht0:0<=times) (ht1:times<1073741824) :
  Calls Tryz.prog 102 #[va,.int .i64 times] w λe w'=>∃ g s,e=.returned (.slice (some ⟨g,0,none⟩) (a.length+1) (a.length+1))∧w.heap.size<=g∧w'.heap[g]?=some (.cells (s.map bF).toArray 3 (0,0))∧Pl.ak s∧s.length=a.length+1∧Pl.lv s=Pl.lv a*times∧Below w.heap.size w w':=by
 obtain ⟨i0,hi,hz0,hz1,hz2⟩:=U_ Tryz.jL;have HA:=af (λw1 (h:Below w.heap.size w w1) k (hk:k<=30000000000000)=>gY a va k w1 (ha.below h) (by omega) hk);obtain ⟨ad,cap,rfl⟩:=az ha;clear ha;go_enter Tryz.func102,Tryz.ntmps102;go_wp2_with (at_make;refine wpList_make_full _ rfl _ _ 36 rfl w.heap.size 3 i0 (.int .i64 0) 1 Tryz.underlying36 hi hz0 hz1 .i64 .i64 _ _ (a.length+1) rfl rfl ?e1 ?e2 ?c1 ?c2 ?c3 ?_)
 case e1=>first | rfl | omega | simp
 case e2=>first | rfl | omega | simp
 case c1=>rw [hz2];omega
 case c2=>unfold maxLen;omega
 case c3=>omega
 ·intro w1 hown hgrow;have hb1:Below w.heap.size w w1:=(n_ _ _).grown hgrow (d_ _) (by intro k hk;cases hk);have hblk:w1.heap[w.heap.size]?=some (.cells (rowOf [] (a.length+1)).toArray 3 (0,0)):=by
   have:=jr hown;rw [qp] at this;exact this
  have H1:Hid (w1.heap[w.heap.size]?=some (.cells (rowOf [] (a.length+1)).toArray 3 (0,0))∧Below w.heap.size w w1):=⟨hblk,hb1⟩;clear hown hgrow hblk hb1;go_wp2_with fail;go_loopw [6,7] (λc i wr=>∃ (k:Nat) (s:List Int) (cy:Int),k<=a.length+1∧s.length=k∧i=.int .i64 k∧c=.int .i64 cy∧0<=cy∧cy<1073741824∧Hid (wr.heap[w.heap.size]?=some (.cells (rowOf s (a.length+1)).toArray 3 (0,0))∧Below w.heap.size w wr∧Pl.ak s∧Pl.lv s+1073741824^k*cy=Pl.pv a k*times)) (λ_ i _=>a.length+1 - (intOf i).toNat)
  case atStart=>exact ⟨0,[],0,by omega,rfl,rfl,rfl,by omega,by omega,(uh H1).1,(uh H1).2,Pl.ak.nil,by simp [Pl.lv,Pl.pv]⟩
  case round =>
   obtain ⟨k,s,cy,hk,hsk,rfl,rfl,hc0,hc1,hh⟩:=hrel;have HSK:=af hsk;clear H1;by_cases hlt:k<a.length+1
   ·obtain ⟨q1,q2,q3,q4⟩:=uh hh;have hA:=af (uh HA wr q2 k (by omega));have da:=oa.aT k;obtain ⟨u,WY⟩:=yZ (k:=k) q1 (by omega) hlt;have hfr:wr.frozen? ⟨w.heap.size,k,none⟩=false:=aH q1 _;have hm1:0<=Pl.aT a k*times:=Y_ da.1 ht0;have hm2:Pl.aT a k*times<=1073741823*1073741823:=Int.mul_le_mul (by omega) (by omega) ht0 (by omega);have hwx:wrap64 (Pl.aT a k*times)=Pl.aT a k*times:=by unfold wrap64;omega
    obtain ⟨XY,LJ⟩:∃ XY,XY=Pl.aT a k*times:=⟨_,rfl⟩;rw [<-LJ] at hm1 hm2;have aaw:wrap64 (Pl.aT a k*times)=XY:=by rw [hwx,LJ]
    have e1:Pl.pv a (k+1)*times=Pl.pv a k*times+1073741824^k*XY:=by rw [Pl.pv,aaN,y_,LJ]
    have hst:=Pl.ni (1073741824^k) (cy+XY);have hmk:=Pl.rW (cy+XY) (by omega) (by omega);obtain ⟨D,hD⟩:∃ D,D=(cy+XY)%1073741824:=⟨_,rfl⟩;have hD2:0<=D∧D<1073741824:=by omega
    have HN:Hid ((wr.setCell ⟨w.heap.size,k,none⟩ (.int .i64 D)).heap[w.heap.size]?=some (.cells (rowOf (s++[D]) (a.length+1)).toArray 3 (0,0))∧Below w.heap.size w (wr.setCell ⟨w.heap.size,k,none⟩ (.int .i64 D))∧Pl.ak (s++[D])∧Pl.lv (s++[D])+1073741824^(k+1)*((cy+XY)/1073741824)=Pl.pv a (k+1)*times):=by
     refine ⟨?_,q2.setCell (p:=⟨w.heap.size,k,none⟩) (d_ _) _,q3.append (.cons hD2.1 hD2.2 .nil),?_⟩
     ·rw [j_ wr _ _ _ _ _ q1];have:=wB s (a.length+1) D (by omega);rw [hsk] at this;rw [<-this];rfl
     ·rw [Pl.Bo,hsk,e1,aaC,hD];rw [Q_] at hst;omega
    rw [<-hD] at hmk;generalize Pl.aT a k=x at *
    clear q1 q2 q3 q4 hh e1 hst hD hsk hwx LJ;go_wp2_with fail;refine (uh hA).mono ?_;rintro e w2 ⟨rfl,hw2⟩;rw [hw2];clear hw2 w2 hA;go_wp2;go_roundw
    case rel=>exact ⟨k+1,s++[D],_,by omega,by have:=uh HSK;simp [this],by go_num,rfl,by omega,by omega,HN⟩
    case measure=>simp [intOf];omega
   ·obtain ⟨q1,q2,q3,q4⟩:=uh hh;have hkk:k=a.length+1:=by omega
    have HF:Hid (wr.heap[w.heap.size]?=some (.cells (s.map bF).toArray 3 (0,0))∧Pl.ak s∧s.length=a.length+1∧Pl.lv s=Pl.lv a*times∧Below w.heap.size w wr):=by
     refine ⟨?_,q3,by omega,?_,q2⟩
     ·rw [show a.length+1=s.length by omega,Dn] at q1;exact q1
     ·rw [hkk,Pl.iL a (a.length+1) (by omega)] at q4;have ba:=Pl.l8 oa;have bs:=Pl.l8 q3;have hp:=Pl.pow_pos a.length;rw [aaC] at q4;have h3:Pl.lv a*times<=Pl.lv a*1073741824:=o_ (by omega) ba.1;have h2:cy=0:=by
       rcases (show cy=0∨1<=cy by omega) with h|h
       ·exact h
       ·have:1073741824^a.length*1073741824*1<=1073741824^a.length*1073741824*cy:=o_ h (by omega);omega
      rw [h2] at q4;omega
    clear q1 q2 q3 q4 hh hsk hkk;go_wp2;go_ret;exact ⟨_,s,rfl,d_ _,uh HF⟩
theorem Pl.Q9 {P d r x L R q s:Int} (h:L*d+P*1073741824*r=R) (hq:d*q+s=r*1073741824+x):(L+P*q)*d+P*s=R+P*x:=by
 have:P*(d*q+s)=P*(r*1073741824+x):=by rw [hq]
 rw [Q_,Q_] at this;rw [aaN,y_ P q d,u_ q d];rw [y_,u_ 1073741824 r] at h;omega
set_option maxHeartbeats 2000000 in
theorem D9 (a:List Int) (va:Value) (d:Int) (w:World) (ha:bI w va a) (hal:a.length<=7500000000000) (oa:Pl.ak a) (hd0:0<d) (hd1:d<1073741824) :
  Calls Tryz.prog 101 #[va,.int .i64 d] w λe w'=>∃ v s,e=.returned (.tuple #[v,.bool (decide (Pl.lv a%d=0))])∧aI w.heap.size w' v s∧Pl.ak s∧s.length=a.length∧Pl.lv s=Pl.lv a/d∧Below w.heap.size w w':=by
 obtain ⟨i0,hi,hz0,hz1,hz2⟩:=U_ Tryz.jL;have HA:=af ha;obtain ⟨ad,cap,rfl⟩:=az ha;clear ha;go_enter Tryz.func101,Tryz.ntmps101;go_wp2_with (at_make;refine wpList_make_full _ rfl _ _ 36 rfl w.heap.size 3 i0 (.int .i64 0) 1 Tryz.underlying36 hi hz0 hz1 .i64 .i64 _ _ (a.length) rfl rfl ?e1 ?e2 ?c1 ?c2 ?c3 ?_)
 case e1=>first | rfl | omega | simp
 case e2=>first | rfl | omega | simp
 case c1=>rw [hz2];omega
 case c2=>unfold maxLen;omega
 case c3=>omega
 ·intro w1 hown hgrow;have hb1:Below w.heap.size w w1:=(n_ _ _).grown hgrow (d_ _) (by intro k hk;cases hk);have hblk:w1.heap[w.heap.size]?=some (.cells ((List.replicate a.length (0:Int)).map bF).toArray 3 (0,0)):=by
   have:=jr hown;rw [qp] at this;rw [this];simp [rowOf]
  have H1:Hid (w1.heap[w.heap.size]?=some (.cells ((List.replicate a.length (0:Int)).map bF).toArray 3 (0,0))∧Below w.heap.size w w1):=⟨hblk,hb1⟩;clear hown hgrow hblk hb1;go_wp2_with fail;go_loopw [7,8] (λr i wr=>∃ (k:Nat) (s:List Int) (rs:Int),k<=a.length∧i=.int .i64 ((k:Int) - 1)∧r=.int .i64 rs∧0<=rs∧rs<d∧Hid (s.length=a.length∧wr.heap[w.heap.size]?=some (.cells (s.map bF).toArray 3 (0,0))∧Below w.heap.size w wr∧Pl.ak s∧Pl.lv s*d+1073741824^k*rs=Pl.lv a - Pl.pv a k∧∀ t,t<k->Pl.aT s t=0)) (λ_ i _=>(intOf i+1).toNat)
  case atStart =>
   refine ⟨a.length,_,0,d_ _,rfl,rfl,by omega,hd0,by simp,(uh H1).1,(uh H1).2,λx hx=>?_,?_,λt _=>?_⟩
   ·rw [(List.mem_replicate.1 hx).2];omega
   ·have:=Pl.CF [] a.length;simp [Pl.lv] at this;rw [this,Pl.iL a _ (d_ _)];simp
   ·unfold Pl.aT;rw [a_,List.getElem?_replicate];split <;> rfl
  case round =>
   obtain ⟨k,s,rs,hk,rfl,rfl,hr0,hr1,hh⟩:=hrel;clear H1;by_cases h0:0<k
   ·obtain ⟨j,rfl⟩:∃ j,k=j+1:=⟨k - 1,by omega⟩;obtain ⟨q1,q2,q3,q4,q5,q6⟩:=uh hh;have hlt:j<a.length:=by omega
    obtain ⟨b1,o1,TY,hv1,MP⟩:=kG (uh HA) j hlt;obtain ⟨rfl,_,rfl⟩:ad=some ⟨b1,o1,none⟩∧True∧TY=cap:=by simp only [Value.slice.injEq] at hv1;exact ⟨hv1.1,trivial,hv1.2.2.symm⟩
    clear hv1;have ej:((j+1:Nat):Int) - 1=(j:Int):=by omega
    rw [ej];have da:=oa.aT j;have hca:=rG q3 MP;have hcp:=iJ q2 (k:=j) (by omega);have hfr:wr.frozen? ⟨w.heap.size,j,none⟩=false:=aH q2 _;have hdv:=aay (rs*1073741824+Pl.aT a j) d;have hq0:0<=(rs*1073741824+Pl.aT a j)/d:=abl (by omega) (by omega);have hq1:(rs*1073741824+Pl.aT a j)/d<1073741824:=Int.ediv_lt_of_lt_mul hd0 (by
     have:(rs+1)*1073741824<=d*1073741824:=A_ (by omega) (by omega);rw [aaN] at this;rw [u_];omega)
    have hs0:=aaS (rs*1073741824+Pl.aT a j) (show d≠0 by omega);have hs1:=aaT (rs*1073741824+Pl.aT a j) hd0;have hq5:Pl.lv s*d+1073741824^j*1073741824*rs=Pl.lv a - Pl.pv a (j+1):=by rw [<-aaC];exact q5
    have hst:=Pl.Q9 (P:=1073741824^j) (x:=Pl.aT a j) (q:=(rs*1073741824+Pl.aT a j)/d) (s:=(rs*1073741824+Pl.aT a j)%d) hq5 hdv;obtain ⟨Q,hQ⟩:∃ Q,Q=(rs*1073741824+Pl.aT a j)/d:=⟨_,rfl⟩;have HN:Hid ((s.set j Q).length=a.length∧(wr.setCell ⟨w.heap.size,j,none⟩ (.int .i64 Q)).heap[w.heap.size]?=some (.cells ((s.set j Q).map bF).toArray 3 (0,0))∧Below w.heap.size w (wr.setCell ⟨w.heap.size,j,none⟩ (.int .i64 Q))∧Pl.ak (s.set j Q)∧Pl.lv (s.set j Q)*d+1073741824^j*((rs*1073741824+Pl.aT a j)%d)=Pl.lv a - Pl.pv a j∧∀ t,t<j->Pl.aT (s.set j Q) t=0):=by
     rw [<-hQ] at hq0 hq1 hst;refine ⟨by simp [q1],?_,q3.setCell (p:=⟨w.heap.size,j,none⟩) (d_ _) _,q4.set _ hq0 hq1,?_,λt ht=>?_⟩
     ·rw [j_ wr _ _ _ _ _ q2];rw [<-jJ];rfl
     ·rw [Pl.Ae s j Q (by omega),q6 j (by omega),Int.sub_zero,hst,Pl.pv];omega
     ·rw [Pl.wG (by omega),g_ (by omega)];exact q6 t (by omega)
    rw [hQ] at HN;generalize Pl.aT a j=x at *
    generalize Pl.aT s j=y at *
    clear q1 q2 q3 q4 q5 q6 hq5 hh hst hdv hQ MP ej;go_wp2;go_roundw
    case rel=>exact ⟨j,_,_,by omega,rfl,rfl,hs0,hs1,HN⟩
    case measure=>simp [intOf]
   ·have hk0:k=0:=by omega
    subst hk0;obtain ⟨q1,q2,q3,q4,q5,q6⟩:=uh hh;simp only [Pl.pv,Int.pow_zero,aaH,Int.sub_zero] at q5;have hdiv:Pl.lv s=Pl.lv a/d∧rs=Pl.lv a%d:=by
     have e:=aay (Pl.lv a) d;have hs0:=aaS (Pl.lv a) (show d≠0 by omega);have hs1:=aaT (Pl.lv a) hd0;have h1:Pl.lv a/d=Pl.lv s:=Pl.Cb hd0 (by omega) (by omega);refine ⟨h1.symm,?_⟩;rw [h1,u_] at e;omega
    have HE:Hid (decide (Pl.lv a%d=0)=(rs == 0)):=by
     show decide (Pl.lv a%d=0)=(rs == 0);rw [<-hdiv.2];rfl
    have HF:Hid (aI w.heap.size wr (.slice (some ⟨w.heap.size,0,none⟩) a.length a.length) s∧Pl.ak s∧s.length=a.length∧Pl.lv s=Pl.lv a/d∧Below w.heap.size w wr) :=
     ⟨vM q2 q1 (d_ _) (by omega),q4,q1,hdiv.1,q3⟩
    clear q1 q2 q3 q4 q5 q6 hh hdiv;rw [show ((0:Nat):Int) - 1=-1 from rfl];go_wp2;go_ret2;exact ⟨.slice (some ⟨w.heap.size,0,none⟩) a.length a.length,s,by rw [uh HE];rfl,uh HF⟩
theorem Pl.E5 {P c p m L R:Int} (h:L+P*c=R):L+P*((c+(p+m))%1073741824 - p)+P*1073741824*((c+(p+m))/1073741824)=R+P*m:=by
 have:=Pl.ni P (c+(p+m));rw [Q_,Q_] at this;rw [aaI];omega
theorem ug {g:Nat} {w w':World} (h:il g w w') (n:Nat):il g w (w'.drewN n):=h.trans (.aX (abb (n_ _ _) n))
set_option maxHeartbeats 4000000 in
theorem Ra (r d:List Int) (g:Nat) (vd:Value) (q:Int) (from':Nat) (w:World) (hr:w.heap[g]?=some (.cells (r.map bF).toArray 3 (0,0))) (hd:∀ w1,il g w w1->bI w1 vd d) (hl:from'+d.length<=r.length) (hrl:r.length<=7500000000000) (or:Pl.ak r) (od:Pl.ak d) (hq0:0<=q) (hq1:q<1073741824) :
  Calls Tryz.prog 104 #[.slice (some ⟨g,0,none⟩) r.length r.length,vd,.int .i64 q,.int .i64 from'] w λe w'=>∃ (s:List Int) (cy:Int),e=.returned (.bool (decide (0<=cy)))∧cy<=0∧w'.heap[g]?=some (.cells (s.map bF).toArray 3 (0,0))∧Pl.ak s∧s.length=r.length∧il g w w'∧Pl.lv s+1073741824^(from'+d.length)*cy=Pl.lv r - 1073741824^from'*(q*Pl.lv d)∧∀ t,from'+d.length<=t->Pl.aT s t=Pl.aT r t:=by
 have HD:=af (λw1 h k (hk:k<=30000000000000)=>gY d vd k w1 (hd w1 h) (by omega) hk);obtain ⟨ad,cap,rfl⟩:=az (hd w (.aX (n_ _ _)));have HR:=af hr;clear hd hr;go_enter Tryz.func104,Tryz.ntmps104;go_wp2_with fail;go_loopw [9,10] (λc i wr=>∃ (k:Nat) (s:List Int) (cy:Int),k<=d.length∧i=.int .i64 k∧c=.int .i64 cy∧-1073741824<=cy∧cy<=0∧Hid (s.length=r.length∧wr.heap[g]?=some (.cells (s.map bF).toArray 3 (0,0))∧il g w wr∧Pl.ak s∧Pl.lv s+1073741824^(from'+k)*cy=Pl.lv r - 1073741824^from'*(q*Pl.pv d k)∧∀ t,from'+k<=t->Pl.aT s t=Pl.aT r t)) (λ_ i _=>d.length - (intOf i).toNat)
 case atStart=>exact ⟨0,r,0,by omega,rfl,rfl,by omega,by omega,rfl,uh HR,.aX (n_ _ _),or,by simp [Pl.pv],λ_ _=>rfl⟩
 case round =>
  obtain ⟨k,s,cy,hk,rfl,rfl,hc0,hc1,hh⟩:=hrel;clear HR;obtain ⟨q1,q2,q3,q4,q5,q6⟩:=uh hh;by_cases hlt:k<d.length
  ·have hA:Hid (∀ n,Calls Tryz.prog 99 #[.slice ad d.length cap,.int .i64 k] (wr.drewN n) λe w'=>e=.returned (.int .i64 (Pl.aT d k))∧w'=wr.drewN n):=λn=>uh HD _ (ug q3 n) k (by omega);have XB:from'+k<r.length:=by omega
   have hcp:=iJ q2 (k:=from'+k) (by omega);have hfr:wr.frozen? ⟨g,from'+k,none⟩=false:=aH q2 _;have dd:=od.aT k;have dp:=q4.aT (from'+k);have hm1:0<=q*Pl.aT d k:=Y_ hq0 dd.1;have hm2:q*Pl.aT d k<=1073741823*1073741823:=Int.mul_le_mul (by omega) (by omega) dd.1 (by omega);have hst:=Pl.E5 (m:=- (q*Pl.aT d k)) (p:=Pl.aT s (from'+k)) q5;have hwx:wrap64 (q*Pl.aT d k)=q*Pl.aT d k:=by unfold wrap64;omega
   obtain ⟨XY,LJ⟩:∃ XY,XY=q*Pl.aT d k:=⟨_,rfl⟩;rw [<-LJ] at hm1 hm2 hst;have aaw:wrap64 (q*Pl.aT d k)=XY:=by rw [hwx,LJ]
   rw [show cy+(Pl.aT s (from'+k)+-XY)=cy+(Pl.aT s (from'+k) - XY) by omega] at hst;have hmk:=Pl.rW (cy+(Pl.aT s (from'+k) - XY)) (by omega) (by omega);obtain ⟨D,hD⟩:∃ D,D=(cy+(Pl.aT s (from'+k) - XY))%1073741824:=⟨_,rfl⟩;have hD2:0<=D∧D<1073741824:=by omega
   have HN:Hid (∀ n,(s.set (from'+k) D).length=r.length∧((wr.drewN n).setCell ⟨g,from'+k,none⟩ (.int .i64 D)).heap[g]?=some (.cells ((s.set (from'+k) D).map bF).toArray 3 (0,0))∧il g w ((wr.drewN n).setCell ⟨g,from'+k,none⟩ (.int .i64 D))∧Pl.ak (s.set (from'+k) D)∧Pl.lv (s.set (from'+k) D)+1073741824^(from'+(k+1))*((cy+(Pl.aT s (from'+k) - XY))/1073741824)=Pl.lv r - 1073741824^from'*(q*Pl.pv d (k+1))∧∀ t,from'+(k+1)<=t->Pl.aT (s.set (from'+k) D) t=Pl.aT r t):=by
    intro n;refine ⟨by simp [q1],?_,(ug q3 n).setCell _ _,q4.set _ hD2.1 hD2.2,?_,λt ht=>?_⟩
    ·rw [j_ (wr.drewN n) _ _ _ _ _ q2];rw [<-jJ];rfl
    ·rw [Pl.Ae s (from'+k) D (by omega),hD,<-abr,aaC,hst,Pl.pv,Q_,Q_,LJ,Int.pow_add,r_ q,y_ (1073741824^from'),abC,abC];omega
    ·rw [Pl.wG (by omega),g_ (by omega)];exact q6 t (by omega)
   rw [<-hD] at hmk;generalize Pl.aT s (from'+k)=pd at *
   generalize Pl.aT d k=y at *
   clear hh q1 q2 q3 q4 q5 q6 hst hwx LJ hD;go_wp2_with fail;go_quiet ((go_at_call 99;exact Calls.quiet_of_same (uh hA _)));go_wp2;go_roundw
   case rel=>exact ⟨k+1,_,_,by omega,by go_num,rfl,by omega,by omega,uh HN _⟩
   case measure=>simp [intOf];omega
  ·have hkk:k=d.length:=by omega
   have HF:Hid (cy<=0∧wr.heap[g]?=some (.cells (s.map bF).toArray 3 (0,0))∧Pl.ak s∧s.length=r.length∧il g w wr∧Pl.lv s+1073741824^(from'+d.length)*cy=Pl.lv r - 1073741824^from'*(q*Pl.lv d)∧∀ t,from'+d.length<=t->Pl.aT s t=Pl.aT r t):=by
    subst hkk;rw [Pl.iL d _ (d_ _)] at q5;exact ⟨hc1,q2,q4,q1,q3,q5,q6⟩
   clear q1 q2 q3 q4 q5 q6 hh hkk;go_wp2;go_ret;exact ⟨s,cy,rfl,uh HF⟩
set_option maxHeartbeats 4000000 in
theorem Ga (r d:List Int) (g:Nat) (vd:Value) (from':Nat) (w:World) (hr:w.heap[g]?=some (.cells (r.map bF).toArray 3 (0,0))) (hd:∀ w1,il g w w1->bI w1 vd d) (hl:from'+d.length<=r.length) (hrl:r.length<=7500000000000) (or:Pl.ak r) (od:Pl.ak d) :
  Calls Tryz.prog 105 #[.slice (some ⟨g,0,none⟩) r.length r.length,vd,.int .i64 from'] w λe w'=>∃ (s:List Int) (cy:Int),e=.returned (.tuple #[])∧0<=cy∧cy<=1∧w'.heap[g]?=some (.cells (s.map bF).toArray 3 (0,0))∧Pl.ak s∧s.length=r.length∧il g w w'∧Pl.lv s+1073741824^(from'+d.length)*cy=Pl.lv r+1073741824^from'*Pl.lv d∧∀ t,from'+d.length<=t->Pl.aT s t=Pl.aT r t:=by
 have HD:=af (λw1 h k (hk:k<=30000000000000)=>gY d vd k w1 (hd w1 h) (by omega) hk);obtain ⟨ad,cap,rfl⟩:=az (hd w (.aX (n_ _ _)));have HR:=af hr;clear hd hr;go_enter Tryz.func105,Tryz.ntmps105;go_wp2_with fail;go_loopw [6,7] (λc i wr=>∃ (k:Nat) (s:List Int) (cy:Int),k<=d.length∧i=.int .i64 k∧c=.int .i64 cy∧0<=cy∧cy<=1∧Hid (s.length=r.length∧wr.heap[g]?=some (.cells (s.map bF).toArray 3 (0,0))∧il g w wr∧Pl.ak s∧Pl.lv s+1073741824^(from'+k)*cy=Pl.lv r+1073741824^from'*Pl.pv d k∧∀ t,from'+k<=t->Pl.aT s t=Pl.aT r t)) (λ_ i _=>d.length - (intOf i).toNat)
 case atStart=>exact ⟨0,r,0,by omega,rfl,rfl,by omega,by omega,rfl,uh HR,.aX (n_ _ _),or,by simp [Pl.pv],λ_ _=>rfl⟩
 case round =>
  obtain ⟨k,s,cy,hk,rfl,rfl,hc0,hc1,hh⟩:=hrel;clear HR;obtain ⟨q1,q2,q3,q4,q5,q6⟩:=uh hh;by_cases hlt:k<d.length
  ·have hA:Hid (∀ n,Calls Tryz.prog 99 #[.slice ad d.length cap,.int .i64 k] (wr.drewN n) λe w'=>e=.returned (.int .i64 (Pl.aT d k))∧w'=wr.drewN n):=λn=>uh HD _ (ug q3 n) k (by omega);have XB:from'+k<r.length:=by omega
   have hcp:=iJ q2 (k:=from'+k) (by omega);have hfr:wr.frozen? ⟨g,from'+k,none⟩=false:=aH q2 _;have dd:=od.aT k;have dp:=q4.aT (from'+k);have hst:=Pl.E5 (m:=Pl.aT d k) (p:=Pl.aT s (from'+k)) q5;have hmk:=Pl.rW (cy+(Pl.aT s (from'+k)+Pl.aT d k)) (by omega) (by omega);obtain ⟨D,hD⟩:∃ D,D=(cy+(Pl.aT s (from'+k)+Pl.aT d k))%1073741824:=⟨_,rfl⟩;have hD2:0<=D∧D<1073741824:=by omega
   have HN:Hid (∀ n,(s.set (from'+k) D).length=r.length∧((wr.drewN n).setCell ⟨g,from'+k,none⟩ (.int .i64 D)).heap[g]?=some (.cells ((s.set (from'+k) D).map bF).toArray 3 (0,0))∧il g w ((wr.drewN n).setCell ⟨g,from'+k,none⟩ (.int .i64 D))∧Pl.ak (s.set (from'+k) D)∧Pl.lv (s.set (from'+k) D)+1073741824^(from'+(k+1))*((cy+(Pl.aT s (from'+k)+Pl.aT d k))/1073741824)=Pl.lv r+1073741824^from'*Pl.pv d (k+1)∧∀ t,from'+(k+1)<=t->Pl.aT (s.set (from'+k) D) t=Pl.aT r t):=by
    intro n;refine ⟨by simp [q1],?_,(ug q3 n).setCell _ _,q4.set _ hD2.1 hD2.2,?_,λt ht=>?_⟩
    ·rw [j_ (wr.drewN n) _ _ _ _ _ q2];rw [<-jJ];rfl
    ·rw [Pl.Ae s (from'+k) D (by omega),hD,<-abr,aaC,hst,Pl.pv,Q_,Int.pow_add,y_ (1073741824^from')];omega
    ·rw [Pl.wG (by omega),g_ (by omega)];exact q6 t (by omega)
   rw [<-hD] at hmk;generalize Pl.aT s (from'+k)=pd at *
   generalize Pl.aT d k=y at *
   clear hh q1 q2 q3 q4 q5 q6 hst hD;go_wp2_with fail;go_quiet ((go_at_call 99;exact Calls.quiet_of_same (uh hA _)));go_wp2;go_roundw
   case rel=>exact ⟨k+1,_,_,by omega,by go_num,rfl,by omega,by omega,uh HN _⟩
   case measure=>simp [intOf];omega
  ·have hkk:k=d.length:=by omega
   have HF:Hid (0<=cy∧cy<=1∧wr.heap[g]?=some (.cells (s.map bF).toArray 3 (0,0))∧Pl.ak s∧s.length=r.length∧il g w wr∧Pl.lv s+1073741824^(from'+d.length)*cy=Pl.lv r+1073741824^from'*Pl.lv d∧∀ t,from'+d.length<=t->Pl.aT s t=Pl.aT r t):=by
    subst hkk;rw [Pl.iL d _ (d_ _)] at q5;exact ⟨hc0,hc1,q2,q4,q1,q3,q5,q6⟩
   clear q1 q2 q3 q4 q5 q6 hh hkk;go_wp2;go_end0;exact ⟨s,cy,rfl,uh HF⟩
def Pl.zq (f y x z q r:Int):Prop:=0<=q∧0<=r∧q*f+r=x∧∀ Q,Q<1073741824->Q*(f*1073741824+y)<=x*1073741824+z->Q<=q
theorem Pl.zq.start {f y x z:Int} (hf:0<f) (hx:0<=x) (hy:0<=y) (hz:z<1073741824):Pl.zq f y x z (x/f) (x%f):=by
 refine ⟨abl hx (aaO hf),aaS _ (by omega),by rw [u_];exact aay x f,λQ hQ h=>?_⟩;apply Int.le_ediv_of_mul_le hf;by_cases h0:Q<=0
 ·have:=Y_ (show 0<=-Q by omega) (aaO hf);rw [aaP] at this;omega
 ·have h1:0<=Q*y:=Y_ (by omega) hy;rw [Q_,<-y_] at h;omega
theorem Pl.zq.down {f y x z q r:Int} (h:Pl.zq f y x z q r) (hf:0<f) (hz:0<=z) (hc:q≥1073741824∨q*y > r*1073741824+z):Pl.zq f y x z (q - 1) (r+f)∧1<=q:=by
 obtain ⟨h0,h1,h2,h3⟩:=h;have hq:1<=q:=by
  rcases hc with hc|hc
  ·omega
  ·rcases Int.lt_or_eq_of_le h0 with h | h
   ·omega
   ·rw [<-h,aaM] at hc;omega
 refine ⟨⟨by omega,by omega,by rw [abh];omega,λQ hQ hl=>?_⟩,hq⟩;have hle:=h3 Q hQ hl;rcases hc with hc|hc
 ·omega
 ·rcases Int.lt_or_eq_of_le hle with h | h
  ·omega
  ·subst h;have e:(Q*f+r)*1073741824+z=Q*(f*1073741824)+r*1073741824+z:=by rw [aaN,y_]
   rw [<-h2,e,Q_] at hl;omega
theorem Pl.zq.stop {f y x z q r:Int} (h:Pl.zq f y x z q r) (hy:y<1073741824) (hy0:0<=y) (hz:0<=z) (hx:x<(f+1)*1073741824) (hf:0<f) (hc:r≥1073741824∨(q<1073741824∧q*y<=r*1073741824+z)):0<=q∧q<1073741824∧q*(f*1073741824+y)<=x*1073741824+z:=by
 obtain ⟨h0,h1,h2,h3⟩:=h;have hq:q<1073741824:=by
  rcases hc with hc|hc
  ·rcases Int.lt_or_le q 1073741824 with h | h
   ·exact h
   ·have:1073741824*f<=q*f:=A_ h (aaO hf);rw [aaN] at hx;omega
  ·exact hc.1
 refine ⟨h0,hq,?_⟩;have e:(q*f+r)*1073741824+z=q*(f*1073741824)+r*1073741824+z:=by rw [aaN,y_]
 rw [<-h2,e,Q_];rcases hc with hc|hc
 ·have h4:q*y<=1073741823*1073741823:=Int.mul_le_mul (by omega) (by omega) hy0 (by omega);omega
 ·omega
set_option maxHeartbeats 4000000 in
theorem NW (r d:List Int) (vr vd:Value) (top:Nat) (w:World) (hr:bI w vr r) (hd:bI w vd d) (hrl:r.length<=7500000000000) (hdl:d.length<=7500000000000) (or:Pl.ak r) (od:Pl.ak d) (ht:2<=top) (ht2:top<=7500000000000) (hd3:3<=d.length) (hf:536870912<=Pl.aT d (d.length - 2)) (hx:Pl.aT r top<=Pl.aT d (d.length - 2)) :
  Calls Tryz.prog 103 #[vr,vd,.int .i64 top] w λe w'=>∃ q:Int,e=.returned (.int .i64 q)∧w'=w∧0<=q∧q<1073741824∧q*(Pl.aT d (d.length - 2)*1073741824+Pl.aT d (d.length - 3))<=(Pl.aT r top*1073741824+Pl.aT r (top - 1))*1073741824+Pl.aT r (top - 2)∧∀ Q,Q<1073741824->Q*(Pl.aT d (d.length - 2)*1073741824+Pl.aT d (d.length - 3))<=(Pl.aT r top*1073741824+Pl.aT r (top - 1))*1073741824+Pl.aT r (top - 2)->Q<=q:=by
 have HD1:Hid (Calls Tryz.prog 99 #[vd,.int .i64 ((d.length:Int) - 1 - 1)] w λe w'=>e=.returned (.int .i64 (Pl.aT d (d.length - 2)))∧w'=w):=by
  rw [show (d.length:Int) - 1 - 1=((d.length - 2:Nat):Int) by omega];exact gY d vd _ w hd (by omega) (by omega)
 have HD2:Hid (Calls Tryz.prog 99 #[vd,.int .i64 ((d.length:Int) - 1 - 2)] w λe w'=>e=.returned (.int .i64 (Pl.aT d (d.length - 3)))∧w'=w):=by
  rw [show (d.length:Int) - 1 - 2=((d.length - 3:Nat):Int) by omega];exact gY d vd _ w hd (by omega) (by omega)
 have G7:Hid (Calls Tryz.prog 99 #[vr,.int .i64 (top:Int)] w λe w'=>e=.returned (.int .i64 (Pl.aT r top))∧w'=w):=gY r vr _ w hr (by omega) (by omega);have HR1:Hid (Calls Tryz.prog 99 #[vr,.int .i64 ((top:Int) - 1)] w λe w'=>e=.returned (.int .i64 (Pl.aT r (top - 1)))∧w'=w):=by
  rw [show (top:Int) - 1=((top - 1:Nat):Int) by omega];exact gY r vr _ w hr (by omega) (by omega)
 have HR2:Hid (Calls Tryz.prog 99 #[vr,.int .i64 ((top:Int) - 2)] w λe w'=>e=.returned (.int .i64 (Pl.aT r (top - 2)))∧w'=w):=by
  rw [show (top:Int) - 2=((top - 2:Nat):Int) by omega];exact gY r vr _ w hr (by omega) (by omega)
 obtain ⟨ad,cap,rfl⟩:=az hr;obtain ⟨fH,cap2,rfl⟩:=az hd;have b1:=od.aT (d.length - 2);have b2:=od.aT (d.length - 3);have b3:=or.aT top;have b4:=or.aT (top - 1);have b5:=or.aT (top - 2);clear hr hd or od;generalize Pl.aT d (d.length - 2)=f at *
 generalize Pl.aT d (d.length - 3)=y at *
 generalize Pl.aT r top=x1 at *
 generalize Pl.aT r (top - 1)=x0 at *
 generalize Pl.aT r (top - 2)=z at *
 obtain ⟨x,hx0⟩:∃ x,x=x1*1073741824+x0:=⟨_,rfl⟩;rw [<-hx0];have hG:=Pl.zq.start (f:=f) (y:=y) (x:=x) (z:=z) (by omega) (by omega) (by omega) (by omega);have Ag:x<(f+1)*1073741824:=by omega
 have hq1:x/f<2147483648:=Int.ediv_lt_of_lt_mul (by omega) (by
  have:2147483648*536870912<=2147483648*f:=o_ hf (by omega);omega)
 have hq0:=hG.1;have hr0:=hG.2.1;have hr1:=aaT x (show 0<f by omega);have HG:=af hG;clear hG;go_enter Tryz.func103,Tryz.ntmps103;go_wp2_with fail;refine (uh HD1).mono ?_;rintro e w1 ⟨rfl,hw1⟩;rw [hw1];clear hw1 w1 HD1;go_wp2_with fail;refine (uh G7).mono ?_;rintro e w1 ⟨rfl,hw1⟩;rw [hw1];clear hw1 w1 G7;go_wp2_with fail;refine (uh HR1).mono ?_;rintro e w1 ⟨rfl,hw1⟩;rw [hw1];clear hw1 w1 HR1;go_wp2_with fail;rw [<-hx0];clear hx0;go_loopw [10,11] (λqv rv wr=>∃ q rr:Int,qv=.int .i64 q∧rv=.int .i64 rr∧wr=w∧q<2147483648∧0<=q∧0<=rr∧rr<2147483648∧Hid (Pl.zq f y x z q rr)) (λqv _ _=>(intOf qv).toNat)
 case atStart=>exact ⟨_,_,rfl,rfl,rfl,hq1,hq0,hr0,by omega,HG⟩
 case round =>
  obtain ⟨q,rr,rfl,rfl,hwr,c1,c2,c3,c4,hg⟩:=hrel;rw [hwr];clear hwr wr;clear HG hq1 hq0 hr0 hr1;by_cases k1:rr<1073741824
  ·by_cases k2:1073741824<=q
   ·have HN:=af ((uh hg).down (by omega) (by omega) (.inl k2)).1;clear hg;go_wp2;go_roundw
    case rel=>exact ⟨_,_,rfl,rfl,trivial,by omega,by omega,by omega,by omega,HN⟩
    case measure=>simp [intOf];omega
   ·have m1:0<=q*y:=Y_ c2 b2.1;have m2:q*y<=1073741823*1073741823:=Int.mul_le_mul (by omega) (by omega) b2.1 (by omega);by_cases k3:rr*1073741824+z<q*y
    ·have HN:=af ((uh hg).down (by omega) (by omega) (.inr k3));have hq1:=(uh HN).2;clear hg;go_wp2_with fail;refine (uh HD2).mono ?_;rintro e w1 ⟨rfl,hw1⟩;rw [hw1];clear hw1 w1 HD2;go_wp2_with fail;refine (uh HR2).mono ?_;rintro e w1 ⟨rfl,hw1⟩;rw [hw1];clear hw1 w1 HR2;go_wp2;go_roundw
     case rel=>exact ⟨_,_,rfl,rfl,trivial,by omega,by omega,by omega,by omega,(uh HN).1⟩
     case measure=>simp [intOf];omega
    ·have HE:=af ((uh hg).stop b2.2 b2.1 b5.1 Ag (by omega) (.inr ⟨by omega,by omega⟩));have HL:=af (uh hg).2.2.2;clear hg;go_wp2_with fail;refine (uh HD2).mono ?_;rintro e w1 ⟨rfl,hw1⟩;rw [hw1];clear hw1 w1 HD2;go_wp2_with fail;refine (uh HR2).mono ?_;rintro e w1 ⟨rfl,hw1⟩;rw [hw1];clear hw1 w1 HR2;go_wp2;go_ret;exact ⟨q,rfl,rfl,(uh HE).1,(uh HE).2.1,(uh HE).2.2,uh HL⟩
  ·have HE:=af ((uh hg).stop b2.2 b2.1 b5.1 Ag (by omega) (.inl (by omega)));have HL:=af (uh hg).2.2.2;clear hg;go_wp2;go_ret;exact ⟨q,rfl,rfl,(uh HE).1,(uh HE).2.1,(uh HE).2.2,uh HL⟩
end Go.Proofs.YtgaafamcajcifaaGreat

namespace Go.Proofs.YtgaafamcajcifaaGreat.Pl
open Go.RowKit
theorem gG (l:List Int) (k:Nat):lv l=pv l k+1073741824^k*lv (l.drop k):=by
 by_cases h:k<=l.length
 ·have e:=pJ (l.take k) (l.drop k);rw [List.take_append_drop,T_,aa3 h] at e;rw [yu l k h];exact e
 ·rw [iL l k (by omega),abp (by omega)];simp [lv]
theorem jk (l:List Int) (k:Nat):lv (l.drop k)=aT l k+1073741824*lv (l.drop (k+1)):=by
 by_cases h:k<l.length
 ·rw [List.drop_eq_getElem_cons h,lv,Ju h]
 ·rw [abp (by omega),abp (by omega),qX (by omega)];rfl
theorem ak.drop {l:List Int} (h:ak l) (k:Nat):ak (l.drop k):=λx hx=>h x (List.mem_of_mem_drop hx)
theorem drop_zero {l:List Int} (o:ak l) {k:Nat} (h:lv l<1073741824^k):lv (l.drop k)=0:=by
 have e:=gG l k;have b1:=(nV o k).1;have b2:=(l8 (o.drop k)).1;have hp:=pow_pos k;rcases Int.lt_or_eq_of_le b2 with h2|h2
 ·have:1073741824^k*1<=1073741824^k*lv (l.drop k):=o_ (by omega) (by omega);omega
 ·exact h2.symm
theorem Gw {l:List Int} (o:ak l) {k t:Nat} (h:lv l<1073741824^k) (ht:k<=t):aT l t=0:=by
 have h2:lv l<1073741824^t:=Int.lt_of_lt_of_le h (nW ht);have e:=jk l t;rw [drop_zero o h2,drop_zero o (Int.lt_of_lt_of_le h2 (nW (Nat.le_succ t)))] at e;omega
theorem Ca {l:List Int} (o:ak l) {k:Nat} (h:∀ t,k<=t->aT l t=0):lv l<1073741824^k:=by
 have e:=yw (a:=l) (b:=[]) (m:=k) (λt ht=>by rw [h t ht,qX (by simp)]) (max l.length k) (by omega);rw [iL l _ (by omega),iL [] _ (by simp),iL [] k (by simp)] at e;have:=(nV o k).2;omega
theorem Jv {U U3 c1 S v V2 c2 q:Int} (hS:0<S) (hU:U=c1+S*U3) (h1:0<=c1) (hc1:c1<S) (hv:v=c2+S*V2) (h2:0<=c2) (hc2:c2<S) (hV:1073741824<=V2) (hU0:0<=U) (hUB:U<v*1073741824) (hq0:0<=q) (hq1:q<1073741824) (hq:q*V2<=U3) (hm:∀ Q,Q<1073741824->Q*V2<=U3->Q<=q) :
  (q=U/v∨q=U/v+1)∧0<=U/v∧U/v<1073741824∧U/v*v<=U∧U<U/v*v+v:=by
 have hvp:0<v:=by
  have:S*1<=S*V2:=o_ (by omega) (by omega);omega
 have hd:=aay U v;have hm0:=aaS U (show v≠0 by omega);have hm1:=aaT U hvp;have hQ0:0<=U/v:=abl hU0 (by omega);have Rk:U/v<1073741824:=Int.ediv_lt_of_lt_mul hvp (by rw [u_];exact hUB);generalize U/v=Q at *
 generalize U%v=M at *
 rw [u_] at hd;have hQv:Q*v<=U:=by omega
 have ab4:U<Q*v+v:=by omega
 refine ⟨?_,hQ0,Rk,hQv,ab4⟩;have hle:Q<=q:=by
  apply hm Q Rk;have e1:Q*v=Q*c2+S*(Q*V2):=by rw [hv,Q_,r_]
  have e2:0<=Q*c2:=Y_ hQ0 h2;rcases Int.lt_or_le U3 (Q*V2) with h|h
  ·have:S*(U3+1)<=S*(Q*V2):=o_ (by omega) (by omega);rw [Q_] at this;omega
  ·exact h
 have hge:q<=Q+1:=by
  rcases Int.lt_or_le (Q+1) q with h|h
  ·exfalso;have e1:S*(q*V2)<=S*U3:=o_ hq (by omega);have e2:(Q+1)*v<=(q - 1)*v:=A_ (by omega) (by omega);rw [aaN] at e2;have e3:(q - 1)*v=(q - 1)*c2+S*((q - 1)*V2):=by rw [hv,Q_,r_]
   have e4:(q - 1)*c2<=(q - 1)*S:=o_ (by omega) (by omega);have e5:S*((q - 1)*V2)=S*(q*V2) - S*V2:=by rw [abh,aaI,aaH]
   have e6:(q - 1)*S=q*S - S:=by rw [abh,aaH]
   have e7:q*S<=V2*S:=A_ (by omega) (by omega);rw [u_ V2 S] at e7;omega
  ·exact h
 omega
theorem wrap_zero {W c R X:Int} (hW:0<W) (h:R+W*c=X) (hR0:0<=R) (hR1:R<W) (hX0:0<=X) (hX1:X<W):R=X:=by
 have:c=0:=by
  rcases (show c<0∨c=0∨0<c by omega) with hc|hc|hc
  ·have:W*c<=W*(-1):=o_ (by omega) (by omega);omega
  ·exact hc
  ·have:W*1<=W*c:=o_ (by omega) (by omega);omega
 subst this;omega
theorem Ml {R P U c v W q cy s:Int} (hP:0<P) (hR:R=c+P*U) (hc0:0<=c) (hc1:c<P) (hq:q=U/v∨q=U/v+1) (h1:U/v*v<=U) (h2:U<U/v*v+v) (hW:0<W) (hPv:P*v<=W) (ht:s+W*cy=R - P*(q*v)) (hs0:0<=s) (hs1:s<W) (hcy:cy<=0) :
  (0<=cy->q=U/v∧s=R - P*(U/v*v))∧(cy<0->q=U/v+1∧∀ s2 c2,s2+W*c2=s+P*v->0<=s2->s2<W->s2=R - P*(U/v*v))∧0<=R - P*(U/v*v)∧R - P*(U/v*v)<P*v:=by
 generalize U/v=Q at *
 have a1:P*(Q*v)<=P*U:=o_ h1 (by omega);have a2:P*(U+1)<=P*(Q*v+v):=o_ (by omega) (by omega);rw [Q_,Q_] at a2;refine ⟨λh=>?_,λh=>?_,by omega,by omega⟩
 ·have:cy=0:=by omega
  subst this;rcases hq with rfl|rfl
  ·exact ⟨rfl,by omega⟩
  ·exfalso;rw [aaN,Q_,aaH] at ht;omega
 ·have hw:W*cy<=W*(-1):=o_ (by omega) (by omega);rcases hq with rfl|rfl
  ·exfalso;omega
  ·refine ⟨rfl,λs2 c2 e e0 e1=>?_⟩;rw [aaN,Q_,aaH] at ht;refine wrap_zero (c:=c2+cy) hW ?_ e0 e1 (by omega) (by omega);rw [Q_];omega
theorem DD {b d:List Int} {t:Int} {n:Nat} (ob:ak b) (od:ak d) (hn:b.length=n+1) (hd:lv d=lv b*t) (k:Nat) (hk:k<=29) (ht:t=2^k) (hl0:536870912<=aT b n*t) (hl1:aT b n*t<1073741824) :
  lv d<1073741824^(n+1)∧536870912<=aT d n∧1073741824^n*t<=lv d:=by
 have hp:=pow_pos n;have hb:=gG b n;have hb1:=nV ob n;have hb2:=jk b n;rw [abp (show b.length<=n+1 by omega)] at hb2;simp only [lv,X_,Int.add_zero] at hb2;rw [hb2] at hb;have ht0:0<t:=by rw [ht];exact Int.pow_pos (by omega)
 obtain ⟨m,hm⟩:∃ m:Int,1073741824=t*m:=⟨2^(30 - k),by
  rw [ht,<-Int.pow_add,show k+(30 - k)=30 by omega];rfl⟩
 have hlm:aT b n*t+t<=1073741824:=by
  have h1:t*aT b n<t*m:=by rw [<-hm,u_];exact hl1
  have h2:aT b n<m:=abt h1 (aaO ht0);have h3:t*(aT b n+1)<=t*m:=o_ (by omega) (aaO ht0);rw [Q_,<-hm,u_] at h3;omega
 have e:lv d=pv b n*t+1073741824^n*(aT b n*t):=by rw [hd,hb,aaN,y_]
 have f0:0<=pv b n*t:=Y_ hb1.1 (aaO ht0);have f1:pv b n*t<1073741824^n*t:=Int.mul_lt_mul_of_pos_right hb1.2 ht0;have f2:1073741824^n*(aT b n*t+t)<=1073741824^n*1073741824:=o_ hlm (by omega);have f3:1073741824^n*536870912<=1073741824^n*(aT b n*t):=o_ hl0 (by omega);rw [Q_] at f2;have g1:lv d<1073741824^(n+1):=by rw [aaC];omega
 refine ⟨g1,?_,?_⟩
 ·have hd1:=gG d n;have hd2:=jk d n;rw [drop_zero od g1] at hd2;have hd3:=nV od n;rw [hd2] at hd1;simp only [X_,Int.add_zero] at hd1;rcases Int.lt_or_le (aT d n) 536870912 with h|h
  ·have:1073741824^n*(aT d n+1)<=1073741824^n*536870912:=o_ (by omega) (by omega);rw [Q_] at this;omega
  ·exact h
 ·have h1:1<=aT b n:=by
   rcases Int.lt_or_le (aT b n) 1 with h|h
   ·have:=(ob.aT n).1;have h0:aT b n=0:=by omega
    rw [h0] at hl0;omega
   ·exact h
  have h2:1073741824^n*(1*t)<=1073741824^n*(aT b n*t):=o_ (A_ h1 (aaO ht0)) (by omega);omega
theorem Mm {r d:List Int} {i p:Nat} (or:ak r) (od:ak d) (hd:lv d<1073741824^(p+2)) (hf:536870912<=aT d (p+1)) (hr:lv r<lv d*1073741824^(i+1)) :
  aT r (i+p+2)<=aT d (p+1)∧∀ q,0<=q->q<1073741824->q*(aT d (p+1)*1073741824+aT d p)<=(aT r (i+p+2)*1073741824+aT r (i+p+1))*1073741824+aT r (i+p)->(∀ Q,Q<1073741824->Q*(aT d (p+1)*1073741824+aT d p)<=(aT r (i+p+2)*1073741824+aT r (i+p+1))*1073741824+aT r (i+p)->Q<=q) ->
   (q=lv (r.drop i)/lv d∨q=lv (r.drop i)/lv d+1)∧0<=lv (r.drop i)/lv d∧lv (r.drop i)/lv d<1073741824∧lv (r.drop i)/lv d*lv d<=lv (r.drop i)∧lv (r.drop i)<lv (r.drop i)/lv d*lv d+lv d:=by
 have hp1:=pow_pos (i+1);have hpi:=pow_pos i;have hpp:=pow_pos p;have hr3:lv r<1073741824^(i+p+3):=by
  have:lv d*1073741824^(i+1)<=1073741824^(p+2)*1073741824^(i+1):=A_ (by omega) (by omega);rw [<-Int.pow_add,show p+2+(i+1)=i+p+3 by omega] at this;omega
 have d0:=drop_zero or hr3;have r2:=jk r (i+p+2);have r1:lv (r.drop (i+p+1))=aT r (i+p+1)+1073741824*lv (r.drop (i+p+2)):=jk r (i+p+1);have r0:=jk r (i+p);rw [d0] at r2;have e0:=drop_zero od hd;have v1:=jk d (p+1);have v0:=jk d p;rw [e0] at v1;have bd1:=od.aT (p+1);have bd0:=od.aT p;have br2:=or.aT (i+p+2);have br1:=or.aT (i+p+1);have br0:=or.aT (i+p);refine ⟨?_,λq q0 q1 hq hm=>?_⟩
 ·rcases Int.lt_or_le (aT d (p+1)) (aT r (i+p+2)) with h | h
  ·exfalso;have h1:=gG r (i+p+2);have h2:=(nV or (i+p+2)).1;have h3:=gG d (p+1);have h4:=(nV od (p+1)).2;rw [r2] at h1;rw [v1] at h3;have h5:lv d<1073741824^(p+1)*(aT d (p+1)+1):=by rw [Q_];simp only [X_,Int.add_zero] at h3;omega
   have h6:lv d*1073741824^(i+1)<=1073741824^(p+1)*(aT d (p+1)+1)*1073741824^(i+1):=A_ (by omega) (by omega);rw [Int.mul_right_comm,<-Int.pow_add,show p+1+(i+1)=i+p+2 by omega] at h6;have h7:1073741824^(i+p+2)*(aT d (p+1)+1)<=1073741824^(i+p+2)*aT r (i+p+2):=o_ (by omega) (aaO (pow_pos _));simp only [X_,Int.add_zero] at h1;omega
  ·exact h
 ·have eU3:lv (r.drop (i+p))=(aT r (i+p+2)*1073741824+aT r (i+p+1))*1073741824+aT r (i+p):=by omega
  have eV2:lv (d.drop p)=aT d (p+1)*1073741824+aT d p:=by omega
  rw [<-eU3,<-eV2] at hq;rw [<-eU3,<-eV2] at hm;have s1:=gG (r.drop i) p;rw [List.drop_drop] at s1;have s2:=gG d p;have b1:=nV (or.drop i) p;have b2:=nV od p;have hU0:=(l8 (or.drop i)).1;have s3:=gG r i;have b3:=(nV or i).1;have hUB:lv (r.drop i)<lv d*1073741824:=by
   have h1:1073741824^i*lv (r.drop i)<1073741824^i*(lv d*1073741824):=by
    rw [aaC,<-y_,u_ (lv d),y_] at hr;omega
   exact abt h1 (aaO hpi)
  exact Jv hpp s1 b1.1 b1.2 s2 b2.1 b2.2 (by omega) hU0 hUB q0 q1 hq hm
theorem Gx {r d s:List Int} {i p:Nat} {q cy:Int} (or:ak r) (os:ak s) (hdl:d.length=p+3) (hd:lv d<1073741824^(p+2)) (hr:lv r<lv d*1073741824^(i+1))
  (hq:q=lv (r.drop i)/lv d∨q=lv (r.drop i)/lv d+1) (h1:lv (r.drop i)/lv d*lv d<=lv (r.drop i)) (h2:lv (r.drop i)<lv (r.drop i)/lv d*lv d+lv d) (hcy:cy<=0)
  (ht:lv s+1073741824^(i+d.length)*cy=lv r - 1073741824^i*(q*lv d)) (htop:∀ t,i+d.length<=t->aT s t=aT r t) :
  (0<=cy->q=lv (r.drop i)/lv d∧lv s=lv r - 1073741824^i*(lv (r.drop i)/lv d*lv d)) ∧
  (cy<0->q=lv (r.drop i)/lv d+1∧∀ s2 c2,ak s2->(∀ t,i+d.length<=t->aT s2 t=aT s t)->lv s2+1073741824^(i+d.length)*c2=lv s+1073741824^i*lv d->lv s2=lv r - 1073741824^i*(lv (r.drop i)/lv d*lv d)) ∧
  lv r - 1073741824^i*(lv (r.drop i)/lv d*lv d)<lv d*1073741824^i:=by
 have hp1:=pow_pos (i+1);have hr3:lv r<1073741824^(i+d.length):=by
  have:lv d*1073741824^(i+1)<=1073741824^(p+2)*1073741824^(i+1):=A_ (by omega) (by omega);rw [<-Int.pow_add,show p+2+(i+1)=i+d.length by omega] at this;omega
 have hs3:lv s<1073741824^(i+d.length):=Ca os λt h=>by rw [htop t h,Gw or hr3 h]
 have hPv:1073741824^i*lv d<=1073741824^(i+d.length):=by
  rw [Int.pow_add];exact o_ (by have:=nW (show p+2<=d.length by omega);omega) (aaO (pow_pos i))
 have s3:=gG r i;have b3:=nV or i;obtain ⟨t1,t2,t3,t4⟩:=Ml (pow_pos i) s3 b3.1 b3.2 hq h1 h2 (pow_pos _) hPv ht (l8 os).1 hs3 hcy;refine ⟨t1,λh=>⟨(t2 h).1,λs2 c2 o2 hz e=>(t2 h).2 _ c2 e (l8 o2).1 (Ca o2 λt h=>by rw [hz t h,htop t h,Gw or hr3 h])⟩,by rw [u_ (lv d)];exact t4⟩
theorem RL {a b t v S R:Int} (ht:0<t) (hb:0<b) (hv:v=b*t) (h:a*t=S*v+R) (h0:0<=R) (h1:R<v):S=a/b∧(decide (R=0)=decide (a%b=0)):=by
 have e1:S*v=S*b*t:=by rw [hv,y_]
 have a1:S*b<=a:=Int.le_of_mul_le_mul_right (a:=t) (by omega) ht;have a2:a<S*b+b:=Int.lt_of_mul_lt_mul_right (a:=t) (by rw [aaN];omega) (aaO ht);have a3:=Cb hb a1 a2;refine ⟨a3.symm,?_⟩;have a4:=aay a b;rw [a3,u_] at a4;have a5:R=a%b*t:=by
  rw [<-a4,aaN] at h;omega
 by_cases hz:a%b=0
 ·rw [aaB hz,aaB (by rw [a5,hz,aaM])]
 ·rw [Z_ hz,Z_ (by rw [a5];intro h;rcases abG.1 h with h | h <;> omega)]
end Go.Proofs.YtgaafamcajcifaaGreat.Pl
