/- Joined: XSol9. -/
import Derived.Test.YtgaafamcajcifaaGreatK07
import Derived.Test.YtgaafamcajcifaaGreatK25
set_option linter.unusedVariables false
set_option linter.unusedSimpArgs false
set_option maxRecDepth 100000
namespace Go.Proofs.YtgaafamcajcifaaGreat
open Go.RowKit Go.Sort
def xR (n:Nat) (s:Nat->Int) (St:Nat->Nat->Int) (r i:Nat):Int:=if r=n then Pl.aQ n St s i else St r i
structure UB (K n:Nat) (s:Nat->Int):Prop where
 aQ:∀ kk St a,Pl.gX n s kk St->a<n->Pl.Lt K (Pl.aQ n St s a)
 kZ:∀ kk St at_ j a,Pl.gX n s kk St->Pl.fG n s St at_->j<=n->a<n->Pl.Lt K (Pl.aQ n (Pl.bO n s at_ St j) s a)
 RH:∀ kk St at_ j a b,Pl.gX n s kk St->Pl.fG n s St at_->j<=n->a<n->b<n->Pl.Lt K (Pl.bO n s at_ St j a b)
def Df (n gr:Nat) (R:Nat->Nat) (r:Nat):Nat:=if r=n then gr else R r
theorem Tu {P:Nat->Prop} {w W:World} {n gr:Nat} {R:Nat->Nat} {s:Nat->Int} (hr:bz P W gr n (λi=>s (i+1))) (hg:ae W w) (hf:sF P w n R (λ_=>n) Pl.unit) (hR:∀ r,r<n->W.heap.size<=R r):sF P w (n+1) (Df n gr R) (λ_=>n) (xR n s Pl.unit):=by
 have hgr:=hr.lt;refine ⟨λr hr'=>?_,λa b ha hb e=>?_⟩
 ·by_cases e:r=n
  ·subst e;have h1:Df r gr R r=gr:=h_ rfl;rw [h1];exact (hr.grow hg).congr (λi hi=>by unfold xR;rw [h_ rfl];exact (Pl.EK s hi).symm)
  ·have h1:Df n gr R r=R r:=g_ e;rw [h1];exact (hf.rows r (by omega)).congr (λi _=>by unfold xR;rw [g_ e])
 ·unfold Df at e;by_cases e1:a=n <;> by_cases e2:b=n
  ·omega
  ·rw [h_ e1,g_ e2] at e;have:=hR b (by omega);omega
  ·rw [g_ e1,h_ e2] at e;have:=hR a (by omega);omega
  ·rw [g_ e1,g_ e2] at e;exact hf.inj a b (by omega) (by omega) e
theorem QQ {w:World} {g n gr:Nat} {R:Nat->Nat} (h:dM w g n R 0 n):dM w g n (Df n gr R) 0 n:=by
 obtain ⟨cs,h1,h2⟩:=h;refine ⟨cs,h1,λi hi=>?_⟩;rw [h2 i hi];unfold Df;rw [g_ (by omega)]
theorem IM {P:Nat->Prop} {w:World} {n:Nat} {R:Nat->Nat} {s:Nat->Int} {St:Nat->Nat->Int} (h:sF P w (n+1) R (λ_=>n) (xR n s St)):sF P w n R (λ_=>n) St :=
 ⟨λr hr=>(h.rows r (by omega)).congr (λi _=>by unfold xR;rw [g_ (by omega)]),λa b ha hb=>h.inj a b (by omega) (by omega)⟩
def Bc (n j at_:Nat) (t v:Int) (s:Nat->Int) (Sj:Nat->Nat->Int) (i r b:Nat):Int:=if r=n then (if b=j then v else Pl.aQ n Sj s b) else if r=j∧b<i then Sj j b - t*Sj at_ b else Sj r b
theorem NN {n j at_:Nat} {t v:Int} {s:Nat->Int} {Sj:Nat->Nat->Int} {r i:Nat} (hr:r<n+1) (hi:i<n):lK (xR n s Sj) n j v r i=Bc n j at_ t v s Sj 0 r i:=by
 unfold lK xR Bc;by_cases e:r=n
 ·by_cases e2:i=j
  ·rw [h_ ⟨e,e2⟩,h_ e,h_ e2]
  ·rw [g_ (λh=>e2 h.2),h_ e,h_ e,g_ e2]
 ·rw [g_ (λh=>e h.1),g_ e,g_ e,g_ (by omega)]
theorem QR {n j at_:Nat} {t v:Int} {s:Nat->Int} {Sj:Nat->Nat->Int} (hjn:j<n) {i:Nat} (r b:Nat):lK (Bc n j at_ t v s Sj i) j i (Sj j i - t*Sj at_ i) r b=Bc n j at_ t v s Sj (i+1) r b:=by
 unfold lK Bc;by_cases e:r=j∧b=i
 ·rw [h_ e,g_ (by omega),h_ (by omega),e.2]
 ·rw [g_ e];by_cases e1:r=n
  ·rw [h_ e1,h_ e1]
  ·rw [g_ e1,g_ e1];by_cases e2:r=j∧b<i
   ·rw [h_ e2,h_ (by omega)]
   ·rw [g_ e2,g_ (by omega)]
theorem Tv {n j at_:Nat} {t rj ra:Int} {s:Nat->Int} {Sj:Nat->Nat->Int} (h1:Pl.aQ n Sj s j=rj) (h2:Pl.aQ n Sj s at_=ra) {r b:Nat} (hr:r<n+1) (hb:b<n):Bc n j at_ t (rj - t*ra) s Sj n r b=xR n s (Pl.bE Sj j at_ t) r b:=by
 unfold Bc xR;by_cases e:r=n
 ·rw [h_ e,h_ e];by_cases e2:b=j
  ·subst e2;rw [h_ rfl,Pl.Ir,h1,h2]
  ·rw [g_ e2,Pl.EL n Sj s t e2]
 ·rw [g_ e,g_ e];unfold Pl.bE;by_cases e2:r=j
  ·rw [h_ ⟨e2,hb⟩,h_ e2]
  ·rw [g_ (λh=>e2 h.1),g_ e2]
theorem Pl.Lt.times {K:Nat} {a b:Int} (ha:Pl.Lt K a) (hb:b≠0):Pl.Lt (K+1) (Int.fdiv a b):=by
 rw [Pl.dZ] at *
 have h1:=Pl.Iu a hb;have h2:(Int.fdiv a b).natAbs<=a.natAbs+1:=by
  apply v_;intro h;have hb1:1<=b.natAbs:=by omega
  have h3:(a.natAbs+2)*b.natAbs<=(Int.fdiv a b).natAbs*b.natAbs:=abE _ (by omega);have h4:(Int.fdiv a b).natAbs*b.natAbs<=a.natAbs+b.natAbs:=by
   have:(((Int.fdiv a b).natAbs*b.natAbs:Nat):Int)<=a.natAbs+b.natAbs:=by rw [Int.natCast_mul];exact h1
   omega
  have h5:a.natAbs*1<=a.natAbs*b.natAbs:=abq _ hb1;rw [aa_] at h3;omega
 have h3:0<1073741824^K:=aa6 (by omega);rw [abI];omega
attribute [local go_sem] bD
set_option maxHeartbeats 20000000 in
theorem F7 (P:Nat->Prop) (K n:Nat) (s:List Int) (vs:Value) (w:World) (hP:∀ b,w.heap.size<=b->P b) (hs:aD P w vs s) (hlen:s.length=n+1) (hn0:0<n) (hn:n<=100) (hlt:UB K n (λk=>s.getD k 0)) (hK:2*K+2<=1500000000000) :
  Calls Tryz.prog 59 #[vs] w λe w'=>∃ (g:Nat) (R:Nat->Nat) (kk:Nat) (St:Nat->Nat->Int) (c:Int),e=.returned (.tuple #[.slice (some ⟨g,0,none⟩) n n,.int .i64 c])∧w.heap.size<=g∧(∀ r,r<n->w.heap.size<=R r)∧sF P w' n R (λ_=>n) St∧dM w' g n R 0 n∧Below w.heap.size w w'∧Pl.gX n (λk=>s.getD k 0) kk St ∧
   ((c=-1∧∀ j,j<n->Pl.aQ n St (λk=>s.getD k 0) j=0)∨∃ k:Nat,c=k∧k<n∧Pl.aQ n St (λk=>s.getD k 0) k≠0∧∀ j,j<n->j≠k->Pl.aQ n St (λk=>s.getD k 0) j=0):=by
 obtain ⟨i0,hi0,hz0,hz1,hz2⟩:=U_ Tryz.dP;have hsz2:(Tryz.prog.info? 78).map (·.size)=some 2:=by rw [hi0];simp [hz1]
 obtain ⟨gs,os,ac,cs,rfl,hcl,hsrc,hone,hval⟩:=De hs (by omega);have hcap:n+1<=ac:=by have:=hs.cap;omega
 rw [hlen] at hcl hval;have HS:=af (x_ hcl (x_ hsrc (x_ hone hval)));have lC:=af hlt;rw [hlen];clear hs hcl hsrc hone hval hlen hlt;go_enter Tryz.func59,Tryz.ntmps59;go_wp2_with (at_make;refine wpList_make_full _ rfl _ _ 69 rfl w.heap.size 78 i0 (.agg #[.int .i64 0,.slice none 0 0]) 2 Tryz.underlying69 hi0 hz0 hz1 .i64 .i64 _ _ n rfl rfl ?e1 ?e2 ?c1 ?c2 ?c3 ?_)
 case e1=>first | rfl | omega | simp
 case e2=>first | rfl | omega | simp
 case c1=>rw [hz2];omega
 case c2=>unfold maxLen;omega
 case c3=>first | omega | simp
 ·intro w1 hown hgrow;have hG1:ae w w1:=(n_ _ _).grown hgrow (d_ _) (by intro k hk;cases hk);obtain ⟨cur,jS,hcz⟩:=rZ hown;have hcd:(cs.drop 2).length=n*2:=by rw [List.length_drop,(uh HS).1];omega
  have hadd:∀ j,(⟨gs,os+2,none⟩:Addr).add j=(⟨gs,os,none⟩:Addr).add (j+2):=λj=>by
   have e:∀ o k,(⟨gs,o,none⟩:Addr).add k=⟨gs,o+k,none⟩:=λo k=>by unfold Addr.add;split <;> simp_all
   rw [e,e];congr 1;omega
  have Aa:=af (kX (P:=Tryz.prog) w1 69 69 3 78 2 w.heap.size 0 n n ⟨gs,os+2,none⟩ n (ac - 1) cur 78 (cs.drop 2) Tryz.underlying69 hsz2 jS (by rw [hcd];simp) (λj u hu=>by
   rw [List.getElem?_drop,Nat.add_comm 2 j] at hu;rw [hadd];exact (Below.cell hG1 (aav ((uh HS).2.1 (j+2) u hu))).trans ((uh HS).2.1 (j+2) u hu)) (by rw [hcd];omega) (λv hv=>(uh HS).2.2.1 v (List.mem_of_mem_drop hv)))
  have uA:Hid (bz P (w1.setRow w.heap.size (cur.toList.take 0++cs.drop 2++cur.toList.drop (0+(cs.drop 2).length)).toArray) w.heap.size n (λi=>s.getD (i+1) 0)):=bz.copied jS hcz hcd (λi hi=>by
   obtain ⟨x,a',m,c,h1,h2,h3⟩:=(uh HS).2.2.2 (i+1) (by omega);refine ⟨x,a',m,c,?_,?_,h3.below hG1⟩
   ·rw [List.getElem?_drop,show 2+i*2=(i+1)*2 by omega];exact h1
   ·rw [List.getElem?_drop,show 2+(i*2+1)=(i+1)*2+1 by omega];exact h2)
  have HG2:Hid (ae w (w1.setRow w.heap.size (cur.toList.take 0++cs.drop 2++cur.toList.drop (0+(cs.drop 2).length)).toArray)):=pG hG1 (d_ _) _;obtain ⟨W1,hW1⟩:∃ W1,w1.setRow w.heap.size (cur.toList.take 0++cs.drop 2++cur.toList.drop (0+(cs.drop 2).length)).toArray=W1:=⟨_,rfl⟩;rw [hW1] at Aa uA HG2;rw [show Nat.min n n=n from Nat.min_self n] at Aa;have hac:ac≠1:=by omega
  have h1l:(1:Int)<=(n:Int)+1:=by omega
  have h1n:1<=n+1:=by omega
  clear hown hgrow jS hcz hcd hadd hW1 hG1;go_wp2_with fail;rw [uh Aa];simp only [Result.andThen_ok,Oper.upon];go_wp2_with fail;refine (EH P n W1 (λb' hb'=>hP b' (by have:=(uh HG2).size;omega)) hn).mono ?_;rintro e w3 ⟨g,R,rfl,hg,hR,hF,hH,hb3⟩;have HF3:=af (Tu (s:=(λk=>s.getD k 0)) (uh uA) hb3 hF hR);have HH3:=af (QQ (gr:=w.heap.size) hH);have jb:Hid (ae w w3):=(uh HG2).trans hb3;have aeD:=(uh uA).lt;have hRr:∀ r,r<n->w.heap.size<=Df n w.heap.size R r:=λr hr=>by unfold Df;rw [g_ (by omega)];have:=hR r hr;omega
  have hRn:Df n w.heap.size R n=w.heap.size:=h_ rfl;have xe:=af (x_ hRr (x_ hRn (show w.heap.size<=g by omega)));have HRW:Hid (∀ r,r<n+1->w.heap.size<=Df n w.heap.size R r):=λr hr=>by
   rcases (show r<n∨r=n by omega) with h|h
   ·exact hRr r h
   ·rw [h,hRn];exact d_ _
  obtain ⟨RR,hRR⟩:∃ RR,Df n w.heap.size R=RR:=⟨_,rfl⟩;rw [hRR] at HF3 HH3 xe HRW;clear hF hH hb3 Aa uA HG2 aeD hRr hRn hR hRR hg;go_wp2_with fail;go_loopg [] ((Pl.qy n (Pl.aQ n Pl.unit (λk=>s.getD k 0))).toNat) (λk wr=>∃ (kk:Nat) (St:Nat->Nat->Int),(Pl.qy n (Pl.aQ n St (λk=>s.getD k 0))).toNat=k∧Hid (Pl.gX n (λk=>s.getD k 0) kk St∧sF P wr (n+1) RR (λ_=>n) (xR n (λk=>s.getD k 0) St)∧dM wr g n RR 0 n∧ae w wr))
  case atStart=>exact ⟨0,Pl.unit,rfl,Pl.gX.start _ _,uh HF3,uh HH3,uh jb⟩
  case round =>
   rename Nat=>go;rename World=>wo;obtain ⟨kk,St,hkr,HR⟩:=hrel;have HKR:=af hkr;clear hkr;have sM:Hid (aD P wo (.slice (some ⟨w.heap.size,0,none⟩) n n) ((List.range n).map (Pl.aQ n St (λk=>s.getD k 0)))):=by
    have h1:=(uh HR).2.1.rows n (by omega);rw [(uh xe).2.1] at h1;exact (h1.congr (f':=Pl.aQ n St (λk=>s.getD k 0)) (λi _=>by unfold xR;rw [h_ rfl])).row (hP _ (d_ _))
   have hgd:∀ k,k<n->((List.range n).map (Pl.aQ n St (λk=>s.getD k 0))).getD k 0=Pl.aQ n St (λk=>s.getD k 0) k:=λk hk=>Pl.bJ _ _ _ hk;have Lu:=af hgd;have vO:=af (rC P K n _ _ wo (λb' hb'=>hP b' (by have:=(uh HR).2.2.2.size;omega)) (uh sM) (by simp) (by omega) (λk=>by
    by_cases hk:k<n
    ·rw [hgd k hk];exact (uh lC).aQ kk St k (uh HR).1 hk
    ·rw [a_,O_ (by simp;omega),Pl.dZ];exact aa6 (by omega)) (by omega))
   clear hgd;go_wp2_with fail;refine (uh vO).mono ?_;rintro e w4 ⟨c,rfl,mR,hw4⟩;have kC:Hid (ae wo w4):=hw4;clear hw4 vO sM;rcases mR with ⟨rfl,hno⟩|⟨at_,hat,rfl,hnz,ky⟩
   ·have aeF:Hid (∀ j,j<n->Pl.aQ n St (λk=>s.getD k 0) j=0):=λj hj=>by
     have h1:=hno j hj
     dsimp only at h1
     rw [uh Lu j hj] at h1;exact Classical.not_not.1 h1
    clear hno;go_wp2_with fail;go_loopg [8,9] 0 (λk av jv wr=>av=.bool true∧jv=.int .i64 0∧Hid (ae w4 wr))
    case atStart=>exact ⟨rfl,rfl,ae.refl _⟩
    case round =>
     obtain ⟨rfl,rfl,HI⟩:=hrel;have gD:Hid (ae wo wr):=(uh kC).trans (uh HI);go_wp2;go_ret2;refine ⟨g,RR,kk,St,-1,rfl,(uh xe).2.2,(uh xe).1,?_,(uh HR).2.2.1.grow (uh gD),(uh HR).2.2.2.trans (uh gD),(uh HR).1,.inl ⟨rfl,uh aeF⟩⟩;exact IM ((uh HR).2.1.grow (uh gD))
   ·have oI:Hid (Pl.fG n (λk=>s.getD k 0) St at_):=⟨hat,by rw [<-uh Lu at_ hat];exact hnz,λj hj hj0=>by
     have h1:=ky j hj (by dsimp only;rw [uh Lu j hj];exact hj0)
     dsimp only at h1
     rw [uh Lu j hj,uh Lu at_ hat,zo,zo] at h1;omega⟩
    have aet:¬ ((at_:Int)<0):=by omega
    clear hnz ky;go_wp2_with fail;go_loopg [8,9] n (λk av jv wr=>∃ (j:Nat) (al:Bool),jv=.int .i64 j∧av=.bool al∧j+k=n∧Hid ((al=true↔∀ a,a<j->a=at_∨Pl.aQ n St (λk=>s.getD k 0) a=0)∧sF P wr (n+1) RR (λ_=>n) (xR n (λk=>s.getD k 0) (Pl.bO n (λk=>s.getD k 0) at_ St j))∧dM wr g n RR 0 n∧ae w wr))
    case atStart=>exact ⟨0,true,rfl,rfl,by omega,⟨λ_ a ha=>by omega,λ_=>rfl⟩,(uh HR).2.1.grow (uh kC),(uh HR).2.2.1.grow (uh kC),(uh HR).2.2.2.trans (uh kC)⟩
    case round =>
     rename Nat=>gj;obtain ⟨j,al,rfl,rfl,hjk,HI⟩:=hrel;by_cases hjn:j<n
     ·have HRJ:=af (Pl.nR (n:=n) (s:=(λk=>s.getD k 0)) (at_:=at_) (St:=St) j (a:=j) (d_ _));by_cases hja:j=at_
      ·subst hja;have Uq:Hid (Pl.bO n (λk=>s.getD k 0) j St (j+1)=Pl.bO n (λk=>s.getD k 0) j St j):=by
        show Pl.eT n (λk=>s.getD k 0) j (Pl.bO n (λk=>s.getD k 0) j St j) j=_;unfold Pl.eT;rw [h_ (.inl rfl)]
       have HA1:Hid (al=true↔∀ a,a<j+1->a=j∨Pl.aQ n St (λk=>s.getD k 0) a=0):=by
        unfold Hid;rw [(uh HI).1];exact ⟨λh a ha=>by rcases (show a<j∨a=j by omega) with h2 | h2;exact h a h2;exact .inl h2,λh a ha=>h a (by omega)⟩
       go_wp2;go_roundg (gj - 1)
       case measure=>omega
       case rel=>exact ⟨j+1,al,by simp,rfl,by omega,uh HA1,by rw [uh Uq];exact (uh HI).2.1,(uh HI).2.2.1,(uh HI).2.2.2⟩
      ·have tne:((j:Int) == (at_:Int))=false:=by simp;omega
       have hrow:=(uh HI).2.1.rows n (by omega);rw [(uh xe).2.1] at hrow;obtain ⟨px,pa,pm,pc,p0,p1,hpv,pf0,pf1⟩:=hrow.get hjn;have hpv2:aj P wr (.agg #[.int .i64 px,.slice pa pm pc]) (Pl.aQ n (Pl.bO n (λk=>s.getD k 0) at_ St j) (λk=>s.getD k 0) j):=by
        unfold xR at hpv;rw [h_ rfl] at hpv;exact hpv
       have wy:=af hpv2;have QS:=af hrow;clear hpv hpv2 hrow;go_wp2_with fail;refine (bY P _ _ _ (uh wy)).mono ?_;rintro e w5 ⟨rfl,pK⟩;have gD:Hid (ae wr w5):=pK;clear pK;by_cases hz:Pl.aQ n (Pl.bO n (λk=>s.getD k 0) at_ St j) (λk=>s.getD k 0) j=0
       ·have Uq:Hid (Pl.bO n (λk=>s.getD k 0) at_ St (j+1)=Pl.bO n (λk=>s.getD k 0) at_ St j):=by
         show Pl.eT n (λk=>s.getD k 0) at_ (Pl.bO n (λk=>s.getD k 0) at_ St j) j=_;unfold Pl.eT;rw [h_ (.inr hz)]
        have HA1:Hid (al=true↔∀ a,a<j+1->a=at_∨Pl.aQ n St (λk=>s.getD k 0) a=0):=by
         unfold Hid;rw [(uh HI).1];exact ⟨λh a ha=>by rcases (show a<j∨a=j by omega) with h2 | h2;exact h a h2;exact .inr (by rw [h2,<-uh HRJ];exact hz),λh a ha=>h a (by omega)⟩
        rw [hz,show Int.sign 0=0 from rfl];clear hz;go_wp2;go_roundg (gj - 1)
        case measure=>omega
        case rel=>exact ⟨j+1,al,by simp,rfl,by omega,uh HA1,by rw [uh Uq];exact (uh HI).2.1.grow (uh gD),(uh HI).2.2.1.grow (uh gD),(uh HI).2.2.2.trans (uh gD)⟩
       ·obtain ⟨sg,hsg⟩:∃ sg,Int.sign (Pl.aQ n (Pl.bO n (λk=>s.getD k 0) at_ St j) (λk=>s.getD k 0) j)=sg:=⟨_,rfl⟩;have hs1:sg≠0:=by rw [<-hsg];intro h;exact hz (abe.1 h)
        have d1:(sg == 0)=false:=by simp [hs1]
        rw [hsg];have HZ:=af hz;clear hz hsg;go_wp2_with fail;obtain ⟨Sj,hSj⟩:∃ Sj,Pl.bO n (λk=>s.getD k 0) at_ St j=Sj:=⟨_,rfl⟩;have HEJ:Hid (∀ a b,a<n->b<n->Pl.Lt K (Sj a b)):=λa b ha hb=>by rw [<-hSj];exact (uh lC).RH kk St at_ j a b (uh HR).1 (uh oI) (by omega) ha hb
        have uA:Hid (∀ a,a<n->Pl.Lt K (Pl.aQ n Sj (λk=>s.getD k 0) a)):=λa ha=>by rw [<-hSj];exact (uh lC).kZ kk St at_ j a (uh HR).1 (uh oI) (by omega) ha
        have zy:Hid (Pl.aQ n Sj (λk=>s.getD k 0) at_≠0):=by unfold Hid;rw [<-hSj,Pl.qz];exact (uh oI).2.1
        have qV:Hid (Pl.bO n (λk=>s.getD k 0) at_ St (j+1)=Pl.bE Sj j at_ (Int.fdiv (Pl.aQ n Sj (λk=>s.getD k 0) j) (Pl.aQ n Sj (λk=>s.getD k 0) at_))):=by
         show Pl.eT n (λk=>s.getD k 0) at_ (Pl.bO n (λk=>s.getD k 0) at_ St j) j=_;rw [hSj];rw [hSj] at HZ;unfold Pl.eT;rw [g_ (λh=>h.elim hja (uh HZ))]
        have HNA:Hid ((false=true)↔∀ a,a<j+1->a=at_∨Pl.aQ n St (λk=>s.getD k 0) a=0):=by
         unfold Hid;refine ⟨λh=>(by cases h),λh=>?_⟩;rcases h j (by omega) with h2|h2
         ·exact absurd h2 hja
         ·rw [<-uh HRJ] at h2;exact absurd h2 (uh HZ)
        rw [hSj] at HI wy QS;have HF5:=af ((uh HI).2.1.grow (uh gD));have HH5:=af ((uh HI).2.2.1.grow (uh gD));have Z8:Hid (ae w w5):=(uh HI).2.2.2.trans (uh gD);have aeJ:Hid (∀ r,r<n+1->RR r<w5.heap.size):=λr hr=>((uh HF5).rows r hr).lt;obtain ⟨qx,qa,qm,qc,q0,q1,QK,_⟩:=(uh QS).get hat;have yM:Hid (aj P w5 (.agg #[.int .i64 qx,.slice qa qm qc]) (Pl.aQ n Sj (λk=>s.getD k 0) at_)):=by
         unfold xR at QK;rw [h_ rfl] at QK;exact QK.below (uh gD)
        have KD:=af ((uh wy).below (uh gD));have p05:=(uh gD).cell p0;have p15:=(uh gD).cell p1;have q05:=(uh gD).cell q0;have q15:=(uh gD).cell q1;obtain ⟨rj,Oh⟩:∃ rj,Pl.aQ n Sj (λk=>s.getD k 0) j=rj:=⟨_,rfl⟩;obtain ⟨ra,hra⟩:∃ ra,Pl.aQ n Sj (λk=>s.getD k 0) at_=ra:=⟨_,rfl⟩;have HLJ:Hid (Pl.Lt K rj):=by rw [<-Oh];exact uh uA j hjn
        have HLa:Hid (Pl.Lt K ra):=by rw [<-hra];exact uh uA at_ hat
        rw [Oh] at KD qV;rw [hra] at yM qV zy;have HRR:=af (x_ Oh hra);clear QK Oh hra hSj p0 p1 q0 q1 QS HI;have y1:=b_ p05;have y2:=b_ p15;have y3:=b_ q05;have y4:=b_ q15;refine ah (bZ [(53,λv w=>aj P w v (Int.fdiv rj ra)),(10,bg w5)]) (gL [(53,ag),(10,bL)]) 99 10 (by kernel_rfl) (by rfl) (by kernel_rfl) (aN (λ_ _ _=>aj.below) (aN (λ_ _ _=>bg.grow) cK)) ?_
        iterate 8 (refine aO λK hK=>?_;go_simp;refine hK _ ?_;clear hK K)
        refine ai ag 56 #[.agg #[.int .i64 px,.slice pa pm pc],.agg #[.int .i64 qx,.slice qa qm qc]] (by rfl) (by rfl) ag.some (λw=>by go_simp) (λwq hg hf=>(lu P K rj ra _ _ wq (λb' hb'=>hP b' (by have:=(ae.trans (uh Z8) hg).size;omega)) ((uh KD).below hg) ((uh yM).below hg) (by omega) (uh HLJ) (uh HLa)).mono (by rintro e w' ⟨v',rfl,hv,hb⟩;exact ⟨_,rfl,hb,hv.aU,λt ht=>by cases ht;exact hv⟩)) ?_;rintro _ ⟨tx,ta,tm,tc,rfl⟩;refine eO bL (by rfl) (by rfl) bL.some (λwq hg hf=>⟨.pointer (some ⟨wq.heap.size,0,none⟩),wq.alloc (.cells #[.int .i64 0,.slice none 0 0] 78),by go_simp,ae.alloc _ _,⟨_,rfl⟩,λt ht=>by cases ht;exact bg.new hg⟩) ?_;rintro _ ⟨g10,rfl⟩;refine aF ?_;intro w6 rH aK;have qv:aj P w6 (.agg #[.int .i64 tx,.slice ta tm tc]) (Int.fdiv rj ra):=aK 8 _ 53 (by decide) rfl rfl;have qf:bg w5 (.pointer (some ⟨g10,0,none⟩)) w6:=aK 9 _ 10 (by decide) rfl rfl;clear aK y1 y2 y3 y4;have hge:=qf.own.1;have hblk:=qf.own.2;have s0:=(au hblk).1;have s1:=(au hblk).2.1;have s2:=(au hblk).2.2.1;have s3:=(au hblk).2.2.2;have Z9:=af (bH rH hge hblk qv).1;have lT:Hid (ae w5 ((w6.setCell ⟨g10,0,none⟩ (.int .i64 tx)).setCell ⟨g10,1,none⟩ (.slice ta tm tc))):=(bH rH hge hblk qv).2;have Xe:Hid (∀ r,r<n+1->g10≠RR r):=λr hr=>by have:=uh aeJ r hr;omega
        clear qv hblk rH qf hge;go_wp2_with fail;generalize J2:(w6.setCell ⟨g10,0,none⟩ (.int .i64 tx)).setCell ⟨g10,1,none⟩ (.slice ta tm tc)=W6 at *
        clear J2 s0 s1 s2 s3 w6;have HF6:=af ((uh HF5).grow (uh lT));have HH6:=af ((uh HH5).grow (uh lT));have WH:Hid (ae w W6):=(uh Z8).trans (uh lT);have p06:=(uh lT).cell p05;have p16:=(uh lT).cell p15;have q06:=(uh lT).cell q05;have q16:=(uh lT).cell q15;have aaa:=af ((uh KD).below (uh lT));have aab:=af ((uh yM).below (uh lT));obtain ⟨v0,v1,_⟩:=(uh Z9).cells;obtain ⟨tt,htt⟩:∃ tt,Int.fdiv rj ra=tt:=⟨_,rfl⟩;have HLt:Hid (Pl.Lt (K+1) tt):=by rw [<-htt];exact (uh HLJ).times (uh zy)
        rw [htt] at Z9 qV;clear htt p05 p15 q05 q15;have y1:=b_ p06;have y2:=b_ p16;have y3:=b_ q06;have y4:=b_ q16;have y5:=b_ v0;have y6:=b_ v1;refine ah (bZ [(65,λv w=>aj P w v (tt*ra)),(66,λv w=>aj P w v (rj - tt*ra))]) (gL [(65,ag),(66,ag)]) 99 14 (by kernel_rfl) (by rfl) (by kernel_rfl) (aN (λ_ _ _=>aj.below) (aN (λ_ _ _=>aj.below) cK)) ?_
        iterate 11 (refine aO λK hK=>?_;go_simp;refine hK _ ?_;clear hK K)
        refine ai ag 58 #[.agg #[.int .i64 tx,.slice ta tm tc],.agg #[.int .i64 qx,.slice qa qm qc]] (by rfl) (by rfl) ag.some (λw=>by go_simp) (λwq hg hf=>(eD P (K+1) tt ra _ _ wq (λb' hb'=>hP b' (by have:=(ae.trans (uh WH) hg).size;omega)) ((uh Z9).val.below hg) ((uh aab).below hg) (by omega) (uh HLt) (Pl.Lt.mono (uh HLa) (by omega))).mono (by rintro e w' ⟨v',rfl,hv,hb⟩;exact ⟨_,rfl,hb,hv.aU,λt ht=>by cases ht;exact hv⟩)) ?_;rintro _ ⟨cx,ca,cm,cc,rfl⟩;refine ai ag 57 #[.agg #[.int .i64 px,.slice pa pm pc],.agg #[.int .i64 cx,.slice ca cm cc]] (by rfl) (by rfl) ag.some (λw=>by go_simp) (λwq hg hf=>(kF P (2*K+1) rj (tt*ra) _ _ wq (λb' hb'=>hP b' (by have:=(ae.trans (uh WH) hg).size;omega)) ((uh aaa).below hg) (hf 11 (by kernel_rfl) _ 65 rfl rfl) (by omega) (Pl.Lt.mono (uh HLJ) (by omega)) (Pl.Lt.mono (Pl.Lt.mul (uh HLt) (uh HLa)) (by omega))).mono (by rintro e w' ⟨v',rfl,hv,hb⟩;exact ⟨_,rfl,hb,hv.aU,λt ht=>by cases ht;exact hv⟩)) ?_;rintro _ ⟨ex,ea,em,ec,rfl⟩
        (refine aO λK hK=>?_;go_simp;refine hK _ ?_;clear hK K)
        refine aF ?_;intro w7 sI aK;have qv:aj P w7 (.agg #[.int .i64 ex,.slice ea em ec]) (rj - tt*ra):=aK 12 _ 66 (by decide) rfl rfl;clear aK y1 y2 y3 y4 y5 y6;have s0:=ae.cell sI p06;have s1:=ae.cell sI p16;have Ou:=(uh HF6).grow sI;have hrw:=Ou.rows n (by omega);rw [(uh xe).2.1] at hrw;have s2:=hrw.free (j*2);have s3:=hrw.free (j*2+1);have hFs:=Ou.set (r:=n) (i:=j) (by omega) hjn qv;rw [(uh xe).2.1] at hFs;have HF7:=af (hFs.congr (f':=Bc n j at_ tt (rj - tt*ra) (λk=>s.getD k 0) Sj 0) (λr i hr hi=>NN hr hi));have HH7:=af ((((uh HH6).grow sI).uq (k:=w.heap.size) (by rw [<-(uh xe).2.1];exact aaQ (jZ Ou ((uh HH6).grow sI) n (by omega))) (j*2) (.int .i64 ex)).uq (k:=w.heap.size) (by rw [<-(uh xe).2.1];exact aaQ (jZ Ou ((uh HH6).grow sI) n (by omega))) (j*2+1) (.slice ea em ec));have Sn:=af (yX ((uh Z9).grow sI) hrw.block.choose_spec (by decide) (by rw [<-(uh xe).2.1];exact uh Xe n (by omega)) (j*2) (j*2+1) (.int .i64 ex) (.slice ea em ec));have Du:Hid (ae w ((w7.setCell ⟨w.heap.size,j*2,none⟩ (.int .i64 ex)).setCell ⟨w.heap.size,j*2+1,none⟩ (.slice ea em ec))):=(B_ (p:=⟨w.heap.size,j*2,none⟩) (ae.trans (uh WH) sI) (d_ _) _).setCell (p:=⟨w.heap.size,j*2+1,none⟩) (d_ _) _;clear qv sI Ou hrw hFs;go_wp2_with fail;generalize SI:(w7.setCell ⟨w.heap.size,j*2,none⟩ (.int .i64 ex)).setCell ⟨w.heap.size,j*2+1,none⟩ (.slice ea em ec)=W7 at *
        clear SI s0 s1 s2 s3 w7 p06 p16 q06 q16 v0 v1 HF6 HH6 HF5 HH5 KD aaa yM aab Z9;go_loopg [11] n (λk iv wr=>∃ (i:Nat),iv=.int .i64 i∧i+k=n∧Hid (sF P wr (n+1) RR (λ_=>n) (Bc n j at_ tt (rj - tt*ra) (λk=>s.getD k 0) Sj i)∧dM wr g n RR 0 n∧bB P wr g10 tx ta tm tc tt∧ae w wr))
        case atStart=>exact ⟨0,rfl,by omega,uh HF7,uh HH7,uh Sn,uh Du⟩
        case round =>
         rename Nat=>gi;obtain ⟨i,rfl,alL,HM⟩:=hrel;by_cases hin:i<n
         ·have aeS:¬ at_=j:=λe=>hja e.symm;have hl0:=(uh HM).2.1.cell hjn;have hl1:=(uh HM).2.1.cell hat;rw [M_] at hl0 hl1;obtain ⟨px',pa',pm',pc',u0,u1,huv,_⟩:=((uh HM).1.rows j (by omega)).get hin;obtain ⟨qx',qa',qm',qc',x0,x1,hxv,_⟩:=((uh HM).1.rows at_ (by omega)).get hin;obtain ⟨v0,v1,_⟩:=(uh HM).2.2.1.cells;have HUV:Hid (aj P wr (.agg #[.int .i64 px',.slice pa' pm' pc']) (Sj j i)):=by
           unfold Bc at huv;rw [g_ (by omega),g_ (by omega)] at huv;exact huv
          have Ux:Hid (aj P wr (.agg #[.int .i64 qx',.slice qa' qm' qc']) (Sj at_ i)):=by
           unfold Bc at hxv;rw [g_ (by omega),g_ (λh=>aeS h.1)] at hxv;exact hxv
          clear huv hxv;have y1:=b_ hl0;have y2:=b_ hl1;have y3:=b_ u0;have y4:=b_ u1;have y5:=b_ x0;have y6:=b_ x1;have y7:=b_ v0;have y8:=b_ v1;go_wp2_with fail;clear hl0 hl1 x0 x1 v0 v1;refine ah (bZ [(93,λv w=>aj P w v (tt*Sj at_ i)),(94,λv w=>aj P w v (Sj j i - tt*Sj at_ i))]) (gL [(93,ag),(94,ag)]) 99 23 (by kernel_rfl) (by rfl) (by kernel_rfl) (aN (λ_ _ _=>aj.below) (aN (λ_ _ _=>aj.below) cK)) ?_
          iterate 20 (refine aO λK hK=>?_;go_simp;refine hK _ ?_;clear hK K)
          refine ai ag 58 #[.agg #[.int .i64 tx,.slice ta tm tc],.agg #[.int .i64 qx',.slice qa' qm' qc']] (by rfl) (by rfl) ag.some (λw=>by go_simp) (λwq hg hf=>(eD P (K+1) tt (Sj at_ i) _ _ wq (λb' hb'=>hP b' (by have:=(ae.trans (uh HM).2.2.2 hg).size;omega)) ((uh HM).2.2.1.val.below hg) ((uh Ux).below hg) (by omega) (uh HLt) (Pl.Lt.mono (uh HEJ at_ i hat hin) (by omega))).mono (by rintro e w' ⟨v',rfl,hv,hb⟩;exact ⟨_,rfl,hb,hv.aU,λt ht=>by cases ht;exact hv⟩)) ?_;rintro _ ⟨cx,ca,cm,cc,rfl⟩;refine ai ag 57 #[.agg #[.int .i64 px',.slice pa' pm' pc'],.agg #[.int .i64 cx,.slice ca cm cc]] (by rfl) (by rfl) ag.some (λw=>by go_simp) (λwq hg hf=>(kF P (2*K+1) (Sj j i) (tt*Sj at_ i) _ _ wq (λb' hb'=>hP b' (by have:=(ae.trans (uh HM).2.2.2 hg).size;omega)) ((uh HUV).below hg) (hf 20 (by kernel_rfl) _ 93 rfl rfl) (by omega) (Pl.Lt.mono (uh HEJ j i hjn hin) (by omega)) (Pl.Lt.mono (Pl.Lt.mul (uh HLt) (uh HEJ at_ i hat hin)) (by omega))).mono (by rintro e w' ⟨v',rfl,hv,hb⟩;exact ⟨_,rfl,hb,hv.aU,λt ht=>by cases ht;exact hv⟩)) ?_;rintro _ ⟨ex,ea,em,ec,rfl⟩
          (refine aO λK hK=>?_;go_simp;refine hK _ ?_;clear hK K)
          refine aF ?_;intro w7 sI aK;have qv:aj P w7 (.agg #[.int .i64 ex,.slice ea em ec]) (Sj j i - tt*Sj at_ i):=aK 21 _ 94 (by decide) rfl rfl;clear aK y1 y2 y3 y4 y5 y6 y7 y8;have s0:=ae.cell sI u0;have s1:=ae.cell sI u1;have Ou:=(uh HM).1.grow sI;have s2:=(Ou.rows j (by omega)).free (i*2);have s3:=(Ou.rows j (by omega)).free (i*2+1);have HF8:=af ((Ou.set (r:=j) (i:=i) (by omega) hin qv).congr (f':=Bc n j at_ tt (rj - tt*ra) (λk=>s.getD k 0) Sj (i+1)) (λr b _ _=>QR hjn r b));have hgn:g≠RR j:=aaQ (jZ Ou ((uh HM).2.1.grow sI) j (by omega));have HH8:=af ((((uh HM).2.1.grow sI).uq hgn (i*2) (.int .i64 ex)).uq hgn (i*2+1) (.slice ea em ec));have Oc:=af (yX ((uh HM).2.2.1.grow sI) (Ou.rows j (by omega)).block.choose_spec (by decide) (uh Xe j (by omega)) (i*2) (i*2+1) (.int .i64 ex) (.slice ea em ec));have yD:Hid (ae w ((w7.setCell ⟨RR j,i*2,none⟩ (.int .i64 ex)).setCell ⟨RR j,i*2+1,none⟩ (.slice ea em ec))):=(B_ (p:=⟨RR j,i*2,none⟩) (ae.trans (uh HM).2.2.2 sI) (uh HRW j (by omega)) _).setCell (p:=⟨RR j,i*2+1,none⟩) (uh HRW j (by omega)) _;clear qv sI Ou hgn u0 u1;go_wp2;go_roundg (gi - 1)
          case measure=>omega
          case rel=>exact ⟨i+1,by simp,by omega,uh HF8,uh HH8,uh Oc,uh yD⟩
         ·have hin2:i=n:=by omega
          subst hin2;have HFE:Hid (sF P wr (i+1) RR (λ_=>i) (xR i (λk=>s.getD k 0) (Pl.bO i (λk=>s.getD k 0) at_ St (j+1)))):=by
           unfold Hid;rw [uh qV];exact (uh HM).1.congr (λr b hr hb=>Tv (uh HRR).1 (uh HRR).2 hr hb)
          go_wp2;go_roundg (gj - 1)
          case measure=>omega
          case rel=>exact ⟨j+1,false,by simp,rfl,by omega,uh HNA,uh HFE,(uh HM).2.1,(uh HM).2.2.2⟩
     ·have NI:j=n:=by omega
      subst NI;cases al with
      | true =>
       have XA:=af ((uh HI).1.1 rfl);have Uq:Hid (Pl.bO j (λk=>s.getD k 0) at_ St j=St):=Pl.zg j (uh XA);have HF1:Hid (sF P wr j RR (λ_=>j) St):=by
        have h1:=(uh HI).2.1;rw [uh Uq] at h1;exact IM h1
       go_wp2;go_ret2;exact ⟨g,RR,kk,St,at_,rfl,(uh xe).2.2,(uh xe).1,uh HF1,(uh HI).2.2.1,(uh HI).2.2.2,(uh HR).1,.inr ⟨at_,rfl,hat,(uh oI).2.1,λa ha hne=>((uh XA) a ha).resolve_left hne⟩⟩
      | false =>
       have HNA:Hid (∃ a,a<j∧a≠at_∧Pl.aQ j St (λk=>s.getD k 0) a≠0):=by
        apply v_;intro hno;have:(false=true):=(uh HI).1.2 (λa ha=>by
         apply v_;intro h2;exact hno ⟨a,ha,λe=>h2 (.inl e),λe=>h2 (.inr e)⟩)
        cases this
       have FH:=af ((Pl.Iy (uh oI) j (d_ _)).2 (uh HNA));have hm:(Pl.qy j (Pl.aQ j (Pl.bO j (λk=>s.getD k 0) at_ St j) (λk=>s.getD k 0))).toNat<go:=by
        have h1:=uh FH;have h2:=uh HKR;have h3:=Pl.FW j (Pl.aQ j (Pl.bO j (λk=>s.getD k 0) at_ St j) (λk=>s.getD k 0));omega
       go_wp2;go_roundg ((Pl.qy j (Pl.aQ j (Pl.bO j (λk=>s.getD k 0) at_ St j) (λk=>s.getD k 0))).toNat)
       case measure=>exact hm
       case rel=>exact ⟨kk+1,_,rfl,(uh HR).1.snoc (uh oI),(uh HI).2.1,(uh HI).2.2.1,(uh HI).2.2.2⟩
end Go.Proofs.YtgaafamcajcifaaGreat
