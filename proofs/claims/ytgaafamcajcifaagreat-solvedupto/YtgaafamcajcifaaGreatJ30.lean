/- Joined: XSol9. -/
import Derived.Test.YtgaafamcajcifaaGreatJ07
import Derived.Test.YtgaafamcajcifaaGreatJ25
set_option linter.unusedVariables false
set_option linter.unusedSimpArgs false
set_option maxRecDepth 100000
namespace Go.Proofs.YtgaafamcajcifaaGreat
open Go.RowKit Go.Sort
def xS (n:Nat) (s:Nat->Int) (St:Nat->Nat->Int) (r i:Nat):Int:=if r=n then Pl.aQ n St s i else St r i
structure UE (K n:Nat) (s:Nat->Int):Prop where
 aQ:∀ kk St a,Pl.gX n s kk St->a<n->Pl.Lt K (Pl.aQ n St s a)
 kZ:∀ kk St at_ j a,Pl.gX n s kk St->Pl.fG n s St at_->j<=n->a<n->Pl.Lt K (Pl.aQ n (Pl.bO n s at_ St j) s a)
 RL:∀ kk St at_ j a b,Pl.gX n s kk St->Pl.fG n s St at_->j<=n->a<n->b<n->Pl.Lt K (Pl.bO n s at_ St j a b)
def Dg (n gr:Nat) (R:Nat->Nat) (r:Nat):Nat:=if r=n then gr else R r
theorem Tx {P:Nat->Prop} {w W:World} {n gr:Nat} {R:Nat->Nat} {s:Nat->Int} (hr:bz P W gr n (λi=>s (i+1))) (hg:ae W w) (hf:sG P w n R (λ_=>n) Pl.unit) (hR:∀ r,r<n->W.heap.size<=R r):sG P w (n+1) (Dg n gr R) (λ_=>n) (xS n s Pl.unit):=by
 have hgr:=hr.lt;refine ⟨λr hr'=>?_,λa b ha hb e=>?_⟩
 ·by_cases e:r=n
  ·subst e;have h1:Dg r gr R r=gr:=h_ rfl;rw [h1];exact (hr.grow hg).congr (λi hi=>by unfold xS;rw [h_ rfl];exact (Pl.EM s hi).symm)
  ·have h1:Dg n gr R r=R r:=g_ e;rw [h1];exact (hf.rows r (by omega)).congr (λi _=>by unfold xS;rw [g_ e])
 ·unfold Dg at e;by_cases e1:a=n <;> by_cases e2:b=n
  ·omega
  ·rw [h_ e1,g_ e2] at e;have:=hR b (by omega);omega
  ·rw [g_ e1,h_ e2] at e;have:=hR a (by omega);omega
  ·rw [g_ e1,g_ e2] at e;exact hf.inj a b (by omega) (by omega) e
theorem QT {w:World} {g n gr:Nat} {R:Nat->Nat} (h:dM w g n R 0 n):dM w g n (Dg n gr R) 0 n:=by
 obtain ⟨cs,h1,h2⟩:=h;refine ⟨cs,h1,λi hi=>?_⟩;rw [h2 i hi];unfold Dg;rw [g_ (by omega)]
theorem IU {P:Nat->Prop} {w:World} {n:Nat} {R:Nat->Nat} {s:Nat->Int} {St:Nat->Nat->Int} (h:sG P w (n+1) R (λ_=>n) (xS n s St)):sG P w n R (λ_=>n) St :=
 ⟨λr hr=>(h.rows r (by omega)).congr (λi _=>by unfold xS;rw [g_ (by omega)]),λa b ha hb=>h.inj a b (by omega) (by omega)⟩
def Bd (n j at_:Nat) (t v:Int) (s:Nat->Int) (Sj:Nat->Nat->Int) (i r b:Nat):Int:=if r=n then (if b=j then v else Pl.aQ n Sj s b) else if r=j∧b<i then Sj j b - t*Sj at_ b else Sj r b
theorem NR {n j at_:Nat} {t v:Int} {s:Nat->Int} {Sj:Nat->Nat->Int} {r i:Nat} (hr:r<n+1) (hi:i<n):lK (xS n s Sj) n j v r i=Bd n j at_ t v s Sj 0 r i:=by
 unfold lK xS Bd;by_cases e:r=n
 ·by_cases e2:i=j
  ·rw [h_ ⟨e,e2⟩,h_ e,h_ e2]
  ·rw [g_ (λh=>e2 h.2),h_ e,h_ e,g_ e2]
 ·rw [g_ (λh=>e h.1),g_ e,g_ e,g_ (by omega)]
theorem QU {n j at_:Nat} {t v:Int} {s:Nat->Int} {Sj:Nat->Nat->Int} (hjn:j<n) {i:Nat} (r b:Nat):lK (Bd n j at_ t v s Sj i) j i (Sj j i - t*Sj at_ i) r b=Bd n j at_ t v s Sj (i+1) r b:=by
 unfold lK Bd;by_cases e:r=j∧b=i
 ·rw [h_ e,g_ (by omega),h_ (by omega),e.2]
 ·rw [g_ e];by_cases e1:r=n
  ·rw [h_ e1,h_ e1]
  ·rw [g_ e1,g_ e1];by_cases e2:r=j∧b<i
   ·rw [h_ e2,h_ (by omega)]
   ·rw [g_ e2,g_ (by omega)]
theorem Ty {n j at_:Nat} {t rj ra:Int} {s:Nat->Int} {Sj:Nat->Nat->Int} (h1:Pl.aQ n Sj s j=rj) (h2:Pl.aQ n Sj s at_=ra) {r b:Nat} (hr:r<n+1) (hb:b<n):Bd n j at_ t (rj - t*ra) s Sj n r b=xS n s (Pl.bE Sj j at_ t) r b:=by
 unfold Bd xS;by_cases e:r=n
 ·rw [h_ e,h_ e];by_cases e2:b=j
  ·subst e2;rw [h_ rfl,Pl.Iy,h1,h2]
  ·rw [g_ e2,Pl.EN n Sj s t e2]
 ·rw [g_ e,g_ e];unfold Pl.bE;by_cases e2:r=j
  ·rw [h_ ⟨e2,hb⟩,h_ e2]
  ·rw [g_ (λh=>e2 h.1),g_ e2]
theorem Pl.Lt.times {K:Nat} {a b:Int} (ha:Pl.Lt K a) (hb:b≠0):Pl.Lt (K+1) (Int.fdiv a b):=by
 rw [Pl.dZ] at *
 have h1:=Pl.Iz a hb;have h2:(Int.fdiv a b).natAbs<=a.natAbs+1:=by
  apply v_;intro h;have hb1:1<=b.natAbs:=by omega
  have h3:(a.natAbs+2)*b.natAbs<=(Int.fdiv a b).natAbs*b.natAbs:=ab8 _ (by omega);have h4:(Int.fdiv a b).natAbs*b.natAbs<=a.natAbs+b.natAbs:=by
   have:(((Int.fdiv a b).natAbs*b.natAbs:Nat):Int)<=a.natAbs+b.natAbs:=by rw [Int.natCast_mul];exact h1
   omega
  have h5:a.natAbs*1<=a.natAbs*b.natAbs:=abG _ hb1;rw [abg] at h3;omega
 have h3:0<1073741824^K:=aba (by omega);rw [aci];omega
attribute [local go_sem] bD
set_option maxHeartbeats 20000000 in
theorem Ga (P:Nat->Prop) (K n:Nat) (s:List Int) (vs:Value) (w:World) (hP:∀ b,w.heap.size<=b->P b) (hs:aD P w vs s) (hlen:s.length=n+1) (hn0:0<n) (hn:n<=100) (hlt:UE K n (λk=>s.getD k 0)) (hK:2*K+2<=1500000000000) :
  Calls Tryz.prog 59 #[vs] w λe w'=>∃ (g:Nat) (R:Nat->Nat) (kk:Nat) (St:Nat->Nat->Int) (c:Int),e=.returned (.tuple #[.slice (some ⟨g,0,none⟩) n n,.int .i64 c])∧w.heap.size<=g∧(∀ r,r<n->w.heap.size<=R r)∧sG P w' n R (λ_=>n) St∧dM w' g n R 0 n∧Below w.heap.size w w'∧Pl.gX n (λk=>s.getD k 0) kk St ∧
   ((c=-1∧∀ j,j<n->Pl.aQ n St (λk=>s.getD k 0) j=0)∨∃ k:Nat,c=k∧k<n∧Pl.aQ n St (λk=>s.getD k 0) k≠0∧∀ j,j<n->j≠k->Pl.aQ n St (λk=>s.getD k 0) j=0):=by
 obtain ⟨i0,hi0,hz0,hz1,hz2⟩:=V_ Tryz.dP;have hsz2:(Tryz.prog.info? 78).map (·.size)=some 2:=by rw [hi0];simp [hz1]
 obtain ⟨gs,os,ac,cs,rfl,hcl,hsrc,hone,hval⟩:=Df hs (by omega);have hcap:n+1<=ac:=by have:=hs.cap;omega
 rw [hlen] at hcl hval;have HS:=af (x_ hcl (x_ hsrc (x_ hone hval)));have lC:=af hlt;rw [hlen];clear hs hcl hsrc hone hval hlen hlt;go_enter Tryz.func59,Tryz.ntmps59;go_wp2_with (at_make;refine O_ _ rfl _ _ 69 rfl w.heap.size 78 i0 (.agg #[.int .i64 0,.slice none 0 0]) 2 Tryz.underlying69 hi0 hz0 hz1 .i64 .i64 _ _ n rfl rfl ?e1 ?e2 ?c1 ?c2 ?c3 ?_)
 case e1=>first | rfl | omega | simp
 case e2=>first | rfl | omega | simp
 case c1=>rw [hz2];omega
 case c2=>unfold maxLen;omega
 case c3=>first | omega | simp
 ·intro w1 hown hgrow;have hG1:ae w w1:=(n_ _ _).grown hgrow (d_ _) (by intro k hk;cases hk);obtain ⟨cur,jS,hcz⟩:=r9 hown;have hcd:(cs.drop 2).length=n*2:=by rw [List.length_drop,(uh HS).1];omega
  have hadd:∀ j,(⟨gs,os+2,none⟩:Addr).add j=(⟨gs,os,none⟩:Addr).add (j+2):=λj=>by
   have e:∀ o k,(⟨gs,o,none⟩:Addr).add k=⟨gs,o+k,none⟩:=λo k=>by unfold Addr.add;split <;> simp_all
   rw [e,e];congr 1;omega
  have Ab:=af (kX (P:=Tryz.prog) w1 69 69 3 78 2 w.heap.size 0 n n ⟨gs,os+2,none⟩ n (ac - 1) cur 78 (cs.drop 2) Tryz.underlying69 hsz2 jS (by rw [hcd];simp) (λj u hu=>by
   rw [acC,Nat.add_comm 2 j] at hu;rw [hadd];exact (Below.cell hG1 (aaB ((uh HS).2.1 (j+2) u hu))).trans ((uh HS).2.1 (j+2) u hu)) (by rw [hcd];omega) (λv hv=>(uh HS).2.2.1 v (List.mem_of_mem_drop hv)))
  have uB:Hid (bz P (w1.setRow w.heap.size (cur.toList.take 0++cs.drop 2++cur.toList.drop (0+(cs.drop 2).length)).toArray) w.heap.size n (λi=>s.getD (i+1) 0)):=bz.copied jS hcz hcd (λi hi=>by
   obtain ⟨x,a',m,c,h1,h2,h3⟩:=(uh HS).2.2.2 (i+1) (by omega);refine ⟨x,a',m,c,?_,?_,h3.below hG1⟩
   ·rw [acC,show 2+i*2=(i+1)*2 by omega];exact h1
   ·rw [acC,show 2+(i*2+1)=(i+1)*2+1 by omega];exact h2)
  have HG2:Hid (ae w (w1.setRow w.heap.size (cur.toList.take 0++cs.drop 2++cur.toList.drop (0+(cs.drop 2).length)).toArray)):=pI hG1 (d_ _) _;obtain ⟨W1,hW1⟩:∃ W1,w1.setRow w.heap.size (cur.toList.take 0++cs.drop 2++cur.toList.drop (0+(cs.drop 2).length)).toArray=W1:=⟨_,rfl⟩;rw [hW1] at Ab uB HG2;rw [show Nat.min n n=n from Nat.min_self n] at Ab;have hac:ac≠1:=by omega
  have h1l:(1:Int)<=(n:Int)+1:=by omega
  have h1n:1<=n+1:=by omega
  clear hown hgrow jS hcz hcd hadd hW1 hG1;go_wp2_with fail;rw [uh Ab];simp only [ac7,Oper.upon];go_wp2_with fail;refine (EJ P n W1 (λb' hb'=>hP b' (by have:=(uh HG2).size;omega)) hn).mono ?_;rintro e w3 ⟨g,R,rfl,hg,hR,hF,hH,hb3⟩;have HF3:=af (Tx (s:=(λk=>s.getD k 0)) (uh uB) hb3 hF hR);have HH3:=af (QT (gr:=w.heap.size) hH);have jb:Hid (ae w w3):=(uh HG2).trans hb3;have aeJ:=(uh uB).lt;have hRr:∀ r,r<n->w.heap.size<=Dg n w.heap.size R r:=λr hr=>by unfold Dg;rw [g_ (by omega)];have:=hR r hr;omega
  have hRn:Dg n w.heap.size R n=w.heap.size:=h_ rfl;have xg:=af (x_ hRr (x_ hRn (show w.heap.size<=g by omega)));have HRW:Hid (∀ r,r<n+1->w.heap.size<=Dg n w.heap.size R r):=λr hr=>by
   rcases (show r<n∨r=n by omega) with h|h
   ·exact hRr r h
   ·rw [h,hRn];exact d_ _
  obtain ⟨RR,hRR⟩:∃ RR,Dg n w.heap.size R=RR:=⟨_,rfl⟩;rw [hRR] at HF3 HH3 xg HRW;clear hF hH hb3 Ab uB HG2 aeJ hRr hRn hR hRR hg;go_wp2_with fail;go_loopg [] ((Pl.qz n (Pl.aQ n Pl.unit (λk=>s.getD k 0))).toNat) (λk wr=>∃ (kk:Nat) (St:Nat->Nat->Int),(Pl.qz n (Pl.aQ n St (λk=>s.getD k 0))).toNat=k∧Hid (Pl.gX n (λk=>s.getD k 0) kk St∧sG P wr (n+1) RR (λ_=>n) (xS n (λk=>s.getD k 0) St)∧dM wr g n RR 0 n∧ae w wr))
  case atStart=>exact ⟨0,Pl.unit,rfl,Pl.gX.start _ _,uh HF3,uh HH3,uh jb⟩
  case round =>
   rename Nat=>go;rename World=>wo;obtain ⟨kk,St,hkr,HR⟩:=hrel;have HKR:=af hkr;clear hkr;have sN:Hid (aD P wo (.slice (some ⟨w.heap.size,0,none⟩) n n) ((List.range n).map (Pl.aQ n St (λk=>s.getD k 0)))):=by
    have h1:=(uh HR).2.1.rows n (by omega);rw [(uh xg).2.1] at h1;exact (h1.congr (f':=Pl.aQ n St (λk=>s.getD k 0)) (λi _=>by unfold xS;rw [h_ rfl])).row (hP _ (d_ _))
   have hgd:∀ k,k<n->((List.range n).map (Pl.aQ n St (λk=>s.getD k 0))).getD k 0=Pl.aQ n St (λk=>s.getD k 0) k:=λk hk=>Pl.bJ _ _ _ hk;have LA:=af hgd;have vP:=af (rD P K n _ _ wo (λb' hb'=>hP b' (by have:=(uh HR).2.2.2.size;omega)) (uh sN) (by simp) (by omega) (λk=>by
    by_cases hk:k<n
    ·rw [hgd k hk];exact (uh lC).aQ kk St k (uh HR).1 hk
    ·rw [a_,P_ (by simp;omega),Pl.dZ];exact aba (by omega)) (by omega))
   clear hgd;go_wp2_with fail;refine (uh vP).mono ?_;rintro e w4 ⟨c,rfl,mU,hw4⟩;have kC:Hid (ae wo w4):=hw4;clear hw4 vP sN;rcases mU with ⟨rfl,hno⟩|⟨at_,hat,rfl,hnz,ky⟩
   ·have aeL:Hid (∀ j,j<n->Pl.aQ n St (λk=>s.getD k 0) j=0):=λj hj=>by
     have h1:=hno j hj
     dsimp only at h1
     rw [uh LA j hj] at h1;exact Classical.not_not.1 h1
    clear hno;go_wp2_with fail;go_loopg [8,9] 0 (λk av jv wr=>av=.bool true∧jv=.int .i64 0∧Hid (ae w4 wr))
    case atStart=>exact ⟨rfl,rfl,ae.refl _⟩
    case round =>
     obtain ⟨rfl,rfl,HI⟩:=hrel;have gD:Hid (ae wo wr):=(uh kC).trans (uh HI);go_wp2;go_ret2;refine ⟨g,RR,kk,St,-1,rfl,(uh xg).2.2,(uh xg).1,?_,(uh HR).2.2.1.grow (uh gD),(uh HR).2.2.2.trans (uh gD),(uh HR).1,.inl ⟨rfl,uh aeL⟩⟩;exact IU ((uh HR).2.1.grow (uh gD))
   ·have oK:Hid (Pl.fG n (λk=>s.getD k 0) St at_):=⟨hat,by rw [<-uh LA at_ hat];exact hnz,λj hj hj0=>by
     have h1:=ky j hj (by dsimp only;rw [uh LA j hj];exact hj0)
     dsimp only at h1
     rw [uh LA j hj,uh LA at_ hat,zq,zq] at h1;omega⟩
    have aez:¬ ((at_:Int)<0):=by omega
    clear hnz ky;go_wp2_with fail;go_loopg [8,9] n (λk av jv wr=>∃ (j:Nat) (al:Bool),jv=.int .i64 j∧av=.bool al∧j+k=n∧Hid ((al=true↔∀ a,a<j->a=at_∨Pl.aQ n St (λk=>s.getD k 0) a=0)∧sG P wr (n+1) RR (λ_=>n) (xS n (λk=>s.getD k 0) (Pl.bO n (λk=>s.getD k 0) at_ St j))∧dM wr g n RR 0 n∧ae w wr))
    case atStart=>exact ⟨0,true,rfl,rfl,by omega,⟨λ_ a ha=>by omega,λ_=>rfl⟩,(uh HR).2.1.grow (uh kC),(uh HR).2.2.1.grow (uh kC),(uh HR).2.2.2.trans (uh kC)⟩
    case round =>
     rename Nat=>gj;obtain ⟨j,al,rfl,rfl,hjk,HI⟩:=hrel;by_cases hjn:j<n
     ·have HRJ:=af (Pl.nT (n:=n) (s:=(λk=>s.getD k 0)) (at_:=at_) (St:=St) j (a:=j) (d_ _));by_cases hja:j=at_
      ·subst hja;have Ut:Hid (Pl.bO n (λk=>s.getD k 0) j St (j+1)=Pl.bO n (λk=>s.getD k 0) j St j):=by
        show Pl.eT n (λk=>s.getD k 0) j (Pl.bO n (λk=>s.getD k 0) j St j) j=_;unfold Pl.eT;rw [h_ (.inl rfl)]
       have HA1:Hid (al=true↔∀ a,a<j+1->a=j∨Pl.aQ n St (λk=>s.getD k 0) a=0):=by
        unfold Hid;rw [(uh HI).1];exact ⟨λh a ha=>by rcases (show a<j∨a=j by omega) with h2 | h2;exact h a h2;exact .inl h2,λh a ha=>h a (by omega)⟩
       go_wp2;go_roundg (gj - 1)
       case measure=>omega
       case rel=>exact ⟨j+1,al,by simp,rfl,by omega,uh HA1,by rw [uh Ut];exact (uh HI).2.1,(uh HI).2.2.1,(uh HI).2.2.2⟩
      ·have tne:((j:Int) == (at_:Int))=false:=by simp;omega
       have hrow:=(uh HI).2.1.rows n (by omega);rw [(uh xg).2.1] at hrow;obtain ⟨px,pa,pm,pc,p0,p1,hpv,pf0,pf1⟩:=hrow.get hjn;have hpv2:aj P wr (.agg #[.int .i64 px,.slice pa pm pc]) (Pl.aQ n (Pl.bO n (λk=>s.getD k 0) at_ St j) (λk=>s.getD k 0) j):=by
        unfold xS at hpv;rw [h_ rfl] at hpv;exact hpv
       have wz:=af hpv2;have QV:=af hrow;clear hpv hpv2 hrow;go_wp2_with fail;refine (bY P _ _ _ (uh wz)).mono ?_;rintro e w5 ⟨rfl,pM⟩;have gD:Hid (ae wr w5):=pM;clear pM;by_cases hz:Pl.aQ n (Pl.bO n (λk=>s.getD k 0) at_ St j) (λk=>s.getD k 0) j=0
       ·have Ut:Hid (Pl.bO n (λk=>s.getD k 0) at_ St (j+1)=Pl.bO n (λk=>s.getD k 0) at_ St j):=by
         show Pl.eT n (λk=>s.getD k 0) at_ (Pl.bO n (λk=>s.getD k 0) at_ St j) j=_;unfold Pl.eT;rw [h_ (.inr hz)]
        have HA1:Hid (al=true↔∀ a,a<j+1->a=at_∨Pl.aQ n St (λk=>s.getD k 0) a=0):=by
         unfold Hid;rw [(uh HI).1];exact ⟨λh a ha=>by rcases (show a<j∨a=j by omega) with h2 | h2;exact h a h2;exact .inr (by rw [h2,<-uh HRJ];exact hz),λh a ha=>h a (by omega)⟩
        rw [hz,show Int.sign 0=0 from rfl];clear hz;go_wp2;go_roundg (gj - 1)
        case measure=>omega
        case rel=>exact ⟨j+1,al,by simp,rfl,by omega,uh HA1,by rw [uh Ut];exact (uh HI).2.1.grow (uh gD),(uh HI).2.2.1.grow (uh gD),(uh HI).2.2.2.trans (uh gD)⟩
       ·obtain ⟨sg,hsg⟩:∃ sg,Int.sign (Pl.aQ n (Pl.bO n (λk=>s.getD k 0) at_ St j) (λk=>s.getD k 0) j)=sg:=⟨_,rfl⟩;have hs1:sg≠0:=by rw [<-hsg];intro h;exact hz (abm.1 h)
        have d1:(sg == 0)=false:=by simp [hs1]
        rw [hsg];have HZ:=af hz;clear hz hsg;go_wp2_with fail;obtain ⟨Sj,hSj⟩:∃ Sj,Pl.bO n (λk=>s.getD k 0) at_ St j=Sj:=⟨_,rfl⟩;have HEJ:Hid (∀ a b,a<n->b<n->Pl.Lt K (Sj a b)):=λa b ha hb=>by rw [<-hSj];exact (uh lC).RL kk St at_ j a b (uh HR).1 (uh oK) (by omega) ha hb
        have uB:Hid (∀ a,a<n->Pl.Lt K (Pl.aQ n Sj (λk=>s.getD k 0) a)):=λa ha=>by rw [<-hSj];exact (uh lC).kZ kk St at_ j a (uh HR).1 (uh oK) (by omega) ha
        have zz:Hid (Pl.aQ n Sj (λk=>s.getD k 0) at_≠0):=by unfold Hid;rw [<-hSj,Pl.qA];exact (uh oK).2.1
        have qW:Hid (Pl.bO n (λk=>s.getD k 0) at_ St (j+1)=Pl.bE Sj j at_ (Int.fdiv (Pl.aQ n Sj (λk=>s.getD k 0) j) (Pl.aQ n Sj (λk=>s.getD k 0) at_))):=by
         show Pl.eT n (λk=>s.getD k 0) at_ (Pl.bO n (λk=>s.getD k 0) at_ St j) j=_;rw [hSj];rw [hSj] at HZ;unfold Pl.eT;rw [g_ (λh=>h.elim hja (uh HZ))]
        have HNA:Hid ((false=true)↔∀ a,a<j+1->a=at_∨Pl.aQ n St (λk=>s.getD k 0) a=0):=by
         unfold Hid;refine ⟨λh=>(by cases h),λh=>?_⟩;rcases h j (by omega) with h2|h2
         ·exact absurd h2 hja
         ·rw [<-uh HRJ] at h2;exact absurd h2 (uh HZ)
        rw [hSj] at HI wz QV;have HF5:=af ((uh HI).2.1.grow (uh gD));have HH5:=af ((uh HI).2.2.1.grow (uh gD));have aac:Hid (ae w w5):=(uh HI).2.2.2.trans (uh gD);have aeP:Hid (∀ r,r<n+1->RR r<w5.heap.size):=λr hr=>((uh HF5).rows r hr).lt;obtain ⟨qx,qa,qm,qc,q0,q1,QN,_⟩:=(uh QV).get hat;have yN:Hid (aj P w5 (.agg #[.int .i64 qx,.slice qa qm qc]) (Pl.aQ n Sj (λk=>s.getD k 0) at_)):=by
         unfold xS at QN;rw [h_ rfl] at QN;exact QN.below (uh gD)
        have KG:=af ((uh wz).below (uh gD));have p05:=(uh gD).cell p0;have p15:=(uh gD).cell p1;have q05:=(uh gD).cell q0;have q15:=(uh gD).cell q1;obtain ⟨rj,Ol⟩:∃ rj,Pl.aQ n Sj (λk=>s.getD k 0) j=rj:=⟨_,rfl⟩;obtain ⟨ra,hra⟩:∃ ra,Pl.aQ n Sj (λk=>s.getD k 0) at_=ra:=⟨_,rfl⟩;have HLJ:Hid (Pl.Lt K rj):=by rw [<-Ol];exact uh uB j hjn
        have HLa:Hid (Pl.Lt K ra):=by rw [<-hra];exact uh uB at_ hat
        rw [Ol] at KG qW;rw [hra] at yN qW zz;have HRR:=af (x_ Ol hra);clear QN Ol hra hSj p0 p1 q0 q1 QV HI;have y1:=b_ p05;have y2:=b_ p15;have y3:=b_ q05;have y4:=b_ q15;refine ah (bZ [(53,λv w=>aj P w v (Int.fdiv rj ra)),(10,bg w5)]) (gL [(53,ag),(10,bL)]) 99 10 (by kernel_rfl) (by rfl) (by kernel_rfl) (aN (λ_ _ _=>aj.below) (aN (λ_ _ _=>bg.grow) cK)) ?_
        iterate 8 (refine aO λK hK=>?_;go_simp;refine hK _ ?_;clear hK K)
        refine ai ag 56 #[.agg #[.int .i64 px,.slice pa pm pc],.agg #[.int .i64 qx,.slice qa qm qc]] (by rfl) (by rfl) ag.some (λw=>by go_simp) (λwq hg hf=>(lu P K rj ra _ _ wq (λb' hb'=>hP b' (by have:=(ae.trans (uh aac) hg).size;omega)) ((uh KG).below hg) ((uh yN).below hg) (by omega) (uh HLJ) (uh HLa)).mono (by rintro e w' ⟨v',rfl,hv,hb⟩;exact ⟨_,rfl,hb,hv.aU,λt ht=>by cases ht;exact hv⟩)) ?_;rintro _ ⟨tx,ta,tm,tc,rfl⟩;refine eO bL (by rfl) (by rfl) bL.some (λwq hg hf=>⟨.pointer (some ⟨wq.heap.size,0,none⟩),wq.alloc (.cells #[.int .i64 0,.slice none 0 0] 78),by go_simp,ae.alloc _ _,⟨_,rfl⟩,λt ht=>by cases ht;exact bg.new hg⟩) ?_;rintro _ ⟨g10,rfl⟩;refine aF ?_;intro w6 rJ aK;have qv:aj P w6 (.agg #[.int .i64 tx,.slice ta tm tc]) (Int.fdiv rj ra):=aK 8 _ 53 (by decide) rfl rfl;have qf:bg w5 (.pointer (some ⟨g10,0,none⟩)) w6:=aK 9 _ 10 (by decide) rfl rfl;clear aK y1 y2 y3 y4;have hge:=qf.own.1;have hblk:=qf.own.2;have s0:=(au hblk).1;have s1:=(au hblk).2.1;have s2:=(au hblk).2.2.1;have s3:=(au hblk).2.2.2;have HVt:=af (bH rJ hge hblk qv).1;have lT:Hid (ae w5 ((w6.setCell ⟨g10,0,none⟩ (.int .i64 tx)).setCell ⟨g10,1,none⟩ (.slice ta tm tc))):=(bH rJ hge hblk qv).2;have Xi:Hid (∀ r,r<n+1->g10≠RR r):=λr hr=>by have:=uh aeP r hr;omega
        clear qv hblk rJ qf hge;go_wp2_with fail;generalize J5:(w6.setCell ⟨g10,0,none⟩ (.int .i64 tx)).setCell ⟨g10,1,none⟩ (.slice ta tm tc)=W6 at *
        clear J5 s0 s1 s2 s3 w6;have HF6:=af ((uh HF5).grow (uh lT));have HH6:=af ((uh HH5).grow (uh lT));have WN:Hid (ae w W6):=(uh aac).trans (uh lT);have p06:=(uh lT).cell p05;have p16:=(uh lT).cell p15;have q06:=(uh lT).cell q05;have q16:=(uh lT).cell q15;have aae:=af ((uh KG).below (uh lT));have aaf:=af ((uh yN).below (uh lT));obtain ⟨v0,v1,_⟩:=(uh HVt).cells;obtain ⟨tt,htt⟩:∃ tt,Int.fdiv rj ra=tt:=⟨_,rfl⟩;have HLt:Hid (Pl.Lt (K+1) tt):=by rw [<-htt];exact (uh HLJ).times (uh zz)
        rw [htt] at HVt qW;clear htt p05 p15 q05 q15;have y1:=b_ p06;have y2:=b_ p16;have y3:=b_ q06;have y4:=b_ q16;have y5:=b_ v0;have y6:=b_ v1;refine ah (bZ [(65,λv w=>aj P w v (tt*ra)),(66,λv w=>aj P w v (rj - tt*ra))]) (gL [(65,ag),(66,ag)]) 99 14 (by kernel_rfl) (by rfl) (by kernel_rfl) (aN (λ_ _ _=>aj.below) (aN (λ_ _ _=>aj.below) cK)) ?_
        iterate 11 (refine aO λK hK=>?_;go_simp;refine hK _ ?_;clear hK K)
        refine ai ag 58 #[.agg #[.int .i64 tx,.slice ta tm tc],.agg #[.int .i64 qx,.slice qa qm qc]] (by rfl) (by rfl) ag.some (λw=>by go_simp) (λwq hg hf=>(eD P (K+1) tt ra _ _ wq (λb' hb'=>hP b' (by have:=(ae.trans (uh WN) hg).size;omega)) ((uh HVt).val.below hg) ((uh aaf).below hg) (by omega) (uh HLt) (Pl.Lt.mono (uh HLa) (by omega))).mono (by rintro e w' ⟨v',rfl,hv,hb⟩;exact ⟨_,rfl,hb,hv.aU,λt ht=>by cases ht;exact hv⟩)) ?_;rintro _ ⟨cx,ca,cm,cc,rfl⟩;refine ai ag 57 #[.agg #[.int .i64 px,.slice pa pm pc],.agg #[.int .i64 cx,.slice ca cm cc]] (by rfl) (by rfl) ag.some (λw=>by go_simp) (λwq hg hf=>(kF P (2*K+1) rj (tt*ra) _ _ wq (λb' hb'=>hP b' (by have:=(ae.trans (uh WN) hg).size;omega)) ((uh aae).below hg) (hf 11 (by kernel_rfl) _ 65 rfl rfl) (by omega) (Pl.Lt.mono (uh HLJ) (by omega)) (Pl.Lt.mono (Pl.Lt.mul (uh HLt) (uh HLa)) (by omega))).mono (by rintro e w' ⟨v',rfl,hv,hb⟩;exact ⟨_,rfl,hb,hv.aU,λt ht=>by cases ht;exact hv⟩)) ?_;rintro _ ⟨ex,ea,em,ec,rfl⟩
        (refine aO λK hK=>?_;go_simp;refine hK _ ?_;clear hK K)
        refine aF ?_;intro w7 sJ aK;have qv:aj P w7 (.agg #[.int .i64 ex,.slice ea em ec]) (rj - tt*ra):=aK 12 _ 66 (by decide) rfl rfl;clear aK y1 y2 y3 y4 y5 y6;have s0:=ae.cell sJ p06;have s1:=ae.cell sJ p16;have Oy:=(uh HF6).grow sJ;have hrw:=Oy.rows n (by omega);rw [(uh xg).2.1] at hrw;have s2:=hrw.free (j*2);have s3:=hrw.free (j*2+1);have hFs:=Oy.set (r:=n) (i:=j) (by omega) hjn qv;rw [(uh xg).2.1] at hFs;have HF7:=af (hFs.congr (f':=Bd n j at_ tt (rj - tt*ra) (λk=>s.getD k 0) Sj 0) (λr i hr hi=>NR hr hi));have HH7:=af ((((uh HH6).grow sJ).uw (k:=w.heap.size) (by rw [<-(uh xg).2.1];exact aaV (jZ Oy ((uh HH6).grow sJ) n (by omega))) (j*2) (.int .i64 ex)).uw (k:=w.heap.size) (by rw [<-(uh xg).2.1];exact aaV (jZ Oy ((uh HH6).grow sJ) n (by omega))) (j*2+1) (.slice ea em ec));have Su:=af (yY ((uh HVt).grow sJ) hrw.block.choose_spec (by decide) (by rw [<-(uh xg).2.1];exact uh Xi n (by omega)) (j*2) (j*2+1) (.int .i64 ex) (.slice ea em ec));have Dv:Hid (ae w ((w7.setCell ⟨w.heap.size,j*2,none⟩ (.int .i64 ex)).setCell ⟨w.heap.size,j*2+1,none⟩ (.slice ea em ec))):=(B_ (p:=⟨w.heap.size,j*2,none⟩) (ae.trans (uh WN) sJ) (d_ _) _).setCell (p:=⟨w.heap.size,j*2+1,none⟩) (d_ _) _;clear qv sJ Oy hrw hFs;go_wp2_with fail;generalize SN:(w7.setCell ⟨w.heap.size,j*2,none⟩ (.int .i64 ex)).setCell ⟨w.heap.size,j*2+1,none⟩ (.slice ea em ec)=W7 at *
        clear SN s0 s1 s2 s3 w7 p06 p16 q06 q16 v0 v1 HF6 HH6 HF5 HH5 KG aae yN aaf HVt;go_loopg [11] n (λk iv wr=>∃ (i:Nat),iv=.int .i64 i∧i+k=n∧Hid (sG P wr (n+1) RR (λ_=>n) (Bd n j at_ tt (rj - tt*ra) (λk=>s.getD k 0) Sj i)∧dM wr g n RR 0 n∧bB P wr g10 tx ta tm tc tt∧ae w wr))
        case atStart=>exact ⟨0,rfl,by omega,uh HF7,uh HH7,uh Su,uh Dv⟩
        case round =>
         rename Nat=>gi;obtain ⟨i,rfl,alR,HM⟩:=hrel;by_cases hin:i<n
         ·have aeY:¬ at_=j:=λe=>hja e.symm;have hl0:=(uh HM).2.1.cell hjn;have hl1:=(uh HM).2.1.cell hat;rw [M_] at hl0 hl1;obtain ⟨px',pa',pm',pc',u0,u1,huv,_⟩:=((uh HM).1.rows j (by omega)).get hin;obtain ⟨qx',qa',qm',qc',x0,x1,hxv,_⟩:=((uh HM).1.rows at_ (by omega)).get hin;obtain ⟨v0,v1,_⟩:=(uh HM).2.2.1.cells;have HUV:Hid (aj P wr (.agg #[.int .i64 px',.slice pa' pm' pc']) (Sj j i)):=by
           unfold Bd at huv;rw [g_ (by omega),g_ (by omega)] at huv;exact huv
          have UA:Hid (aj P wr (.agg #[.int .i64 qx',.slice qa' qm' qc']) (Sj at_ i)):=by
           unfold Bd at hxv;rw [g_ (by omega),g_ (λh=>aeY h.1)] at hxv;exact hxv
          clear huv hxv;have y1:=b_ hl0;have y2:=b_ hl1;have y3:=b_ u0;have y4:=b_ u1;have y5:=b_ x0;have y6:=b_ x1;have y7:=b_ v0;have y8:=b_ v1;go_wp2_with fail;clear hl0 hl1 x0 x1 v0 v1;refine ah (bZ [(93,λv w=>aj P w v (tt*Sj at_ i)),(94,λv w=>aj P w v (Sj j i - tt*Sj at_ i))]) (gL [(93,ag),(94,ag)]) 99 23 (by kernel_rfl) (by rfl) (by kernel_rfl) (aN (λ_ _ _=>aj.below) (aN (λ_ _ _=>aj.below) cK)) ?_
          iterate 20 (refine aO λK hK=>?_;go_simp;refine hK _ ?_;clear hK K)
          refine ai ag 58 #[.agg #[.int .i64 tx,.slice ta tm tc],.agg #[.int .i64 qx',.slice qa' qm' qc']] (by rfl) (by rfl) ag.some (λw=>by go_simp) (λwq hg hf=>(eD P (K+1) tt (Sj at_ i) _ _ wq (λb' hb'=>hP b' (by have:=(ae.trans (uh HM).2.2.2 hg).size;omega)) ((uh HM).2.2.1.val.below hg) ((uh UA).below hg) (by omega) (uh HLt) (Pl.Lt.mono (uh HEJ at_ i hat hin) (by omega))).mono (by rintro e w' ⟨v',rfl,hv,hb⟩;exact ⟨_,rfl,hb,hv.aU,λt ht=>by cases ht;exact hv⟩)) ?_;rintro _ ⟨cx,ca,cm,cc,rfl⟩;refine ai ag 57 #[.agg #[.int .i64 px',.slice pa' pm' pc'],.agg #[.int .i64 cx,.slice ca cm cc]] (by rfl) (by rfl) ag.some (λw=>by go_simp) (λwq hg hf=>(kF P (2*K+1) (Sj j i) (tt*Sj at_ i) _ _ wq (λb' hb'=>hP b' (by have:=(ae.trans (uh HM).2.2.2 hg).size;omega)) ((uh HUV).below hg) (hf 20 (by kernel_rfl) _ 93 rfl rfl) (by omega) (Pl.Lt.mono (uh HEJ j i hjn hin) (by omega)) (Pl.Lt.mono (Pl.Lt.mul (uh HLt) (uh HEJ at_ i hat hin)) (by omega))).mono (by rintro e w' ⟨v',rfl,hv,hb⟩;exact ⟨_,rfl,hb,hv.aU,λt ht=>by cases ht;exact hv⟩)) ?_;rintro _ ⟨ex,ea,em,ec,rfl⟩
          (refine aO λK hK=>?_;go_simp;refine hK _ ?_;clear hK K)
          refine aF ?_;intro w7 sJ aK;have qv:aj P w7 (.agg #[.int .i64 ex,.slice ea em ec]) (Sj j i - tt*Sj at_ i):=aK 21 _ 94 (by decide) rfl rfl;clear aK y1 y2 y3 y4 y5 y6 y7 y8;have s0:=ae.cell sJ u0;have s1:=ae.cell sJ u1;have Oy:=(uh HM).1.grow sJ;have s2:=(Oy.rows j (by omega)).free (i*2);have s3:=(Oy.rows j (by omega)).free (i*2+1);have HF8:=af ((Oy.set (r:=j) (i:=i) (by omega) hin qv).congr (f':=Bd n j at_ tt (rj - tt*ra) (λk=>s.getD k 0) Sj (i+1)) (λr b _ _=>QU hjn r b));have hgn:g≠RR j:=aaV (jZ Oy ((uh HM).2.1.grow sJ) j (by omega));have HH8:=af ((((uh HM).2.1.grow sJ).uw hgn (i*2) (.int .i64 ex)).uw hgn (i*2+1) (.slice ea em ec));have Og:=af (yY ((uh HM).2.2.1.grow sJ) (Oy.rows j (by omega)).block.choose_spec (by decide) (uh Xi j (by omega)) (i*2) (i*2+1) (.int .i64 ex) (.slice ea em ec));have yE:Hid (ae w ((w7.setCell ⟨RR j,i*2,none⟩ (.int .i64 ex)).setCell ⟨RR j,i*2+1,none⟩ (.slice ea em ec))):=(B_ (p:=⟨RR j,i*2,none⟩) (ae.trans (uh HM).2.2.2 sJ) (uh HRW j (by omega)) _).setCell (p:=⟨RR j,i*2+1,none⟩) (uh HRW j (by omega)) _;clear qv sJ Oy hgn u0 u1;go_wp2;go_roundg (gi - 1)
          case measure=>omega
          case rel=>exact ⟨i+1,by simp,by omega,uh HF8,uh HH8,uh Og,uh yE⟩
         ·have hin2:i=n:=by omega
          subst hin2;have HFE:Hid (sG P wr (i+1) RR (λ_=>i) (xS i (λk=>s.getD k 0) (Pl.bO i (λk=>s.getD k 0) at_ St (j+1)))):=by
           unfold Hid;rw [uh qW];exact (uh HM).1.congr (λr b hr hb=>Ty (uh HRR).1 (uh HRR).2 hr hb)
          go_wp2;go_roundg (gj - 1)
          case measure=>omega
          case rel=>exact ⟨j+1,false,by simp,rfl,by omega,uh HNA,uh HFE,(uh HM).2.1,(uh HM).2.2.2⟩
     ·have NL:j=n:=by omega
      subst NL;cases al with
      | true =>
       have XE:=af ((uh HI).1.1 rfl);have Ut:Hid (Pl.bO j (λk=>s.getD k 0) at_ St j=St):=Pl.zh j (uh XE);have HF1:Hid (sG P wr j RR (λ_=>j) St):=by
        have h1:=(uh HI).2.1;rw [uh Ut] at h1;exact IU h1
       go_wp2;go_ret2;exact ⟨g,RR,kk,St,at_,rfl,(uh xg).2.2,(uh xg).1,uh HF1,(uh HI).2.2.1,(uh HI).2.2.2,(uh HR).1,.inr ⟨at_,rfl,hat,(uh oK).2.1,λa ha hne=>((uh XE) a ha).resolve_left hne⟩⟩
      | false =>
       have HNA:Hid (∃ a,a<j∧a≠at_∧Pl.aQ j St (λk=>s.getD k 0) a≠0):=by
        apply v_;intro hno;have:(false=true):=(uh HI).1.2 (λa ha=>by
         apply v_;intro h2;exact hno ⟨a,ha,λe=>h2 (.inl e),λe=>h2 (.inr e)⟩)
        cases this
       have FK:=af ((Pl.IB (uh oK) j (d_ _)).2 (uh HNA));have hm:(Pl.qz j (Pl.aQ j (Pl.bO j (λk=>s.getD k 0) at_ St j) (λk=>s.getD k 0))).toNat<go:=by
        have h1:=uh FK;have h2:=uh HKR;have h3:=Pl.FZ j (Pl.aQ j (Pl.bO j (λk=>s.getD k 0) at_ St j) (λk=>s.getD k 0));omega
       go_wp2;go_roundg ((Pl.qz j (Pl.aQ j (Pl.bO j (λk=>s.getD k 0) at_ St j) (λk=>s.getD k 0))).toNat)
       case measure=>exact hm
       case rel=>exact ⟨kk+1,_,rfl,(uh HR).1.snoc (uh oK),(uh HI).2.1,(uh HI).2.2.1,(uh HI).2.2.2⟩
end Go.Proofs.YtgaafamcajcifaaGreat
