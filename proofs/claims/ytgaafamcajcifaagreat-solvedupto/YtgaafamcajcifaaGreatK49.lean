/- Joined: SRef1 SRef4 SRef5 SLaw10. -/
import Derived.Test.YtgaafamcajcifaaGreatK45
import Derived.Test.YtgaafamcajcifaaGreatK47
import Derived.Test.YtgaafamcajcifaaGreatK48
set_option linter.unusedVariables false
set_option linter.unusedSimpArgs false
set_option maxRecDepth 100000
namespace Go.Proofs.YtgaafamcajcifaaGreat
open Go.RowKit Go.Sort
set_option maxHeartbeats 400000 in
theorem vQ (a b:Int) (w:World):Calls Tryz.prog 43 #[.int .i64 a,.int .i64 b] w λe w'=>e=.returned (.int .i64 (max a b))∧w'=w:=by
 go_enter Tryz.func43,Tryz.ntmps43;go_wp2
 all_goals go_ret
 all_goals exact ⟨Bd (by omega),rfl⟩
set_option maxHeartbeats 400000 in
theorem vR (a d:Int) (w:World) (h:-4000000000000000000<=a) (h':a<=4000000000000000000) (hd:1<=d) (hd':d<=4000000000000000000) :
  Calls Tryz.prog 42 #[.int .i64 a,.int .i64 d] w λe w'=>e=.returned (.int .i64 (a/d))∧w'=w:=by
 obtain ⟨hq,hq'⟩:=Pl.Ru a d 4000000000000000000 h h';have hf:a/d=if a.tmod d<0 then a.tdiv d - 1 else a.tdiv d:=by
  have:=Pl.Jb a d hd;rw [Pl.Ja,g_ (by omega)] at this;exact this
 have hst:a/d<=a.tdiv d∧a.tdiv d<=a/d+1:=by rw [hf];split <;> omega
 obtain ⟨p,hp⟩:∃ p,p=a/d:=⟨_,rfl⟩;have hp1:p*d<=a:=by rw [hp];exact Int.ediv_mul_le a (by omega)
 have hp2:a<p*d+d:=by rw [hp];have:=Int.lt_ediv_add_one_mul_self a (show 0<d by omega);rw [aaN,aaH] at this;exact this
 rw [<-hp] at hst ⊢;clear hf hp;have hpb:-4000000000000000000 - 1<=p∧p<=4000000000000000000:=by omega
 go_enter Tryz.func42,Tryz.ntmps42;go_wp2;go_loop [5] (λi=>∃ q:Int,i=.int .i64 q∧p<=q∧q<=p+1) (λi=>(intOf i - p).toNat)
 case atStart=>exact ⟨_,rfl,hst.1,hst.2⟩
 case round =>
  obtain ⟨q,rfl,hq1,hq2⟩:=hrel;clear hst;by_cases hc:q=p
  ·subst hc;have hno:¬ a<q*d:=by omega
   go_wp2;go_ret;exact ⟨rfl,rfl⟩
  ·obtain ⟨x,hx⟩:∃ x,x=q*d:=⟨_,rfl⟩;have hx1:x=p*d+d:=by rw [hx,show q=p+1 by omega,aaN,aaH]
   have hb1:a<q*d:=by omega
   have hb2:q*d<=a+d:=by omega
   clear hx hx1;go_wp2;go_round
   case rel=>exact ⟨q - 1,rfl,by omega,by omega⟩
   case measure=>simp [intOf];omega
theorem KO {f:Nat->Int} {b:Int} (hb:0<=b) (h:∀ j,-b<=f j∧f j<=b):∀ n:Nat,-(n*b)<=Pl.sm n f∧Pl.sm n f<=n*b
 | 0=>by simp [Pl.sm]
 | n+1=>by
  have h1:=KO hb h n;have h2:=h n;have e:((n+1:Nat):Int)*b=n*b+b:=by rw [Int.natCast_add,aaN];simp
  show -(_*b)<=Pl.sm n f+f n∧Pl.sm n f+f n<=_*b;omega
theorem OU {a b A B:Int} (h:-A<=a∧a<=A) (h':-B<=b∧b<=B):-(A*B)<=a*b∧a*b<=A*B:=by
 have h1:(a*b).natAbs<=(A*B).natAbs:=by
  rw [Int.natAbs_mul,Int.natAbs_mul];exact Nat.mul_le_mul (by omega) (by omega)
 have h2:0<=A*B:=Y_ (by omega) (by omega);omega
theorem oP {a b:Int} {q:Int × Int} (h:q=(a,b)):Ending.returned (.tuple #[.int .i64 a,.int .i64 b])=.returned (.tuple #[.int .i64 q.1,.int .i64 q.2]):=by rw [h]
set_option maxHeartbeats 1000000 in
theorem OV (C:List Int) (K:Int) (E:Bool) (X:List Int) (lo hi:Int) (n:Nat) (vc vx:Value) (w:World) (hc:bI w vc C) (hx:bI w vx X) (Ri:C.length=n+1) (hXl:X.length=n+1) (hn:n<=3)
  (hCb:∀ j,-1000<=C.getD j 0∧C.getD j 0<=1000) (hK:-1000000000000<=K∧K<=1000000000000) (N8:∀ j,j<n->-1000000000<=X.getD j 0∧X.getD j 0<=1000000000)
  (hlo:-1000000000<=lo∧lo<=1000000000) (hhi:-1000000000<=hi∧hi<=1000000000) :
  Calls Tryz.prog 32 #[.agg #[vc,.int .i64 K,.bool E],vx,.int .i64 lo,.int .i64 hi] w λe w'=>e=.returned (.tuple #[.int .i64 (kY E (oD (C,K,E) n λj=>X.getD j 0) (C.getD n 0) lo hi).1,.int .i64 (kY E (oD (C,K,E) n λj=>X.getD j 0) (C.getD n 0) lo hi).2])∧ae w w':=by
 obtain ⟨ca,cc,rfl,hcc⟩:=hc;obtain ⟨xa,xc,rfl,Ag⟩:=hx;rw [Ri] at hcc ⊢;rw [hXl] at Ag ⊢;obtain ⟨F,hF⟩:∃ F:Nat->Int,F=λj=>C.getD j 0*(if j<n then X.getD j 0 else 0):=⟨_,rfl⟩;have hFb:∀ j,-1000000000000<=F j∧F j<=1000000000000:=λj=>by
  rw [hF];show -_<=C.getD j 0*(if j<n then X.getD j 0 else 0)∧C.getD j 0*(if j<n then X.getD j 0 else 0)<=_;refine OU (A:=1000) (B:=1000000000) (hCb j) ?_
  split
  ·rename_i h;exact N8 j h
  ·omega
 have hsm:∀ m:Nat,m<=3->-3000000000000<=Pl.sm m F∧Pl.sm m F<=3000000000000:=λm hm=>by
  have:=KO (b:=1000000000000) (by omega) hFb m;omega
 have xe:Hid (oD (C,K,E) n (λj=>X.getD j 0)=K+Pl.sm n F):=by
  unfold Hid oD;congr 1;rw [hF];exact Pl.aC λj hj=>by rw [h_ hj]
 rw [uh xe];obtain ⟨S,hS⟩:∃ S,kY E (K+Pl.sm n F) (C.getD n 0) lo hi=S:=⟨_,rfl⟩;rw [hS];have HS:=af hS;have HF:Hid (∀ j,j<n->F j=C.getD j 0*X.getD j 0):=λj hj=>by rw [hF];show _*(if j<n then _ else _)=_;rw [h_ hj]
 have HC:=af hcc;have HX:=af Ag;have TL:=af hsm;have HFB:=af hFb;have RI:=af hCb;obtain ⟨lo1,lo2⟩:=hlo;obtain ⟨hi1,hi2⟩:=hhi;obtain ⟨k1,k2⟩:=hK;clear hcc Ag Ri hXl hF hFb hsm xe hCb N8 hS;have b0:(w.alloc (.cells #[.slice ca (n+1) cc,.int .i64 K,.bool E] 59)).cell? ⟨w.heap.size,0,none⟩=some (.slice ca (n+1) cc):=by rw [cellsOf (aG w _)];rfl
 have b1:(w.alloc (.cells #[.slice ca (n+1) cc,.int .i64 K,.bool E] 59)).cell? ⟨w.heap.size,1,none⟩=some (.int .i64 K):=by rw [cellsOf (aG w _)];rfl
 have b2:(w.alloc (.cells #[.slice ca (n+1) cc,.int .i64 K,.bool E] 59)).cell? ⟨w.heap.size,2,none⟩=some (.bool E):=by rw [cellsOf (aG w _)];rfl
 have HG:Hid (∀ q,ae w ((w.alloc (.cells #[.slice ca (n+1) cc,.int .i64 K,.bool E] 59)).drewN q)):=λq=>abb (ae.alloc w _) q;go_enter Tryz.func32,Tryz.ntmps32;go_wp2_with fail;go_loopw [11,12] (λkv iv wr=>∃ (i q:Nat),i<=n∧kv=.int .i64 (K+Pl.sm i F)∧iv=.int .i64 i∧wr=(w.alloc (.cells #[.slice ca (n+1) cc,.int .i64 K,.bool E] 59)).drewN q) (λ_ iv _=>n - (intOf iv).toNat)
 case atStart=>exact ⟨0,0,by omega,by simp [Pl.sm],rfl,rfl⟩
 case round =>
  obtain ⟨i,q,hin,rfl,rfl,rfl⟩:=hrel;obtain ⟨s1,s2⟩:=uh TL i (by omega);obtain ⟨s,hs⟩:∃ s,Pl.sm i F=s:=⟨_,rfl⟩;rw [hs] at s1 s2 ⊢;by_cases hlt:i<n
  ·obtain ⟨gc,oc,rfl,c0⟩:=uh HC i (by omega);obtain ⟨gx,ox,rfl,x0⟩:=uh HX i (by omega);have c0':=(ae.alloc w (.cells #[.slice (some ⟨gc,oc,none⟩) (n+1) cc,.int .i64 K,.bool E] 59)).cell c0;have x0':=(ae.alloc w (.cells #[.slice (some ⟨gc,oc,none⟩) (n+1) cc,.int .i64 K,.bool E] 59)).cell x0;have hfi:=uh HF i hlt;obtain ⟨f1,f2⟩:=uh HFB i;have qV:Hid (Pl.sm (i+1) F=s+F i):=by rw [<-hs];rfl
   rw [hfi] at f1 f2 qV;obtain ⟨c,hcv⟩:∃ c,C.getD i 0=c:=⟨_,rfl⟩;obtain ⟨x,hxv⟩:∃ x,X.getD i 0=x:=⟨_,rfl⟩;rw [hcv] at c0' f1 f2 qV;rw [hxv] at x0' f1 f2 qV;clear hfi hcv hxv c0 x0 hs;go_wp2;go_quiet (fail);go_wp2;go_roundw
   case rel=>exact ⟨i+1,_,by omega,by rw [uh qV];go_num,by go_num,rfl⟩
   case measure=>simp [intOf];omega
  ·have ein:i=n:=by omega
   subst ein;obtain ⟨gc,oc,rfl,c0⟩:=uh HC i (by omega);have c0':=(ae.alloc w (.cells #[.slice (some ⟨gc,oc,none⟩) (i+1) cc,.int .i64 K,.bool E] 59)).cell c0;obtain ⟨d1,d2⟩:=uh RI i;obtain ⟨c,hcv⟩:∃ c,C.getD i 0=c:=⟨_,rfl⟩;rw [hcv] at c0' d1 d2 HS;obtain ⟨k,hk⟩:∃ k,K+s=k:=⟨_,rfl⟩;rw [hs,hk] at HS;rw [hk];have kb1:-4000000000000<=k:=by omega
   have kb2:k<=4000000000000:=by omega
   clear c0 hcv hs s1 s2 hk k1 k2;by_cases hc0:c=0
   ·subst hc0;by_cases hbad:k<0∨E=true∧0<k
    ·have HR:Hid (S=(1,0)):=by unfold Hid;rw [<-uh HS];unfold kY;rw [h_ rfl,h_ hbad]
     cases E with
     | false =>
      have hk0:k<0:=by rcases hbad with h | ⟨h,_⟩;exact h;cases h
      clear hbad;go_wp2;go_ret2;exact ⟨oP (uh HR),uh HG _⟩
     | true =>
      by_cases hk0:k<0
      ·clear hbad;go_wp2;go_ret2;exact ⟨oP (uh HR),uh HG _⟩
      ·have hk1:0<k:=by rcases hbad with h | ⟨_,h⟩;exact absurd h hk0;exact h
       clear hbad;go_wp2;go_ret2;exact ⟨oP (uh HR),uh HG _⟩
    ·have HR:Hid (S=(lo,hi)):=by unfold Hid;rw [<-uh HS];unfold kY;rw [h_ rfl,g_ hbad]
     have hk0:¬ k<0:=λh=>hbad (.inl h);cases E with
     | false =>
      clear hbad;go_wp2;go_ret2;exact ⟨oP (uh HR),uh HG _⟩
     | true =>
      have hk1:¬ 0<k:=λh=>hbad (.inr ⟨rfl,h⟩);clear hbad;go_wp2;go_ret2;exact ⟨oP (uh HR),uh HG _⟩
   ·by_cases hcp:0<c
    ·have hb1:=Int.ediv_mul_le k (show c≠0 from hc0);have HD1:=af (λwq=>vR k c wq (by omega) (by omega) (by omega) (by omega));have HD2:=af (λwq=>vR (-k) c wq (by omega) (by omega) (by omega) (by omega));have v1:-4000000000001<=k/c∧k/c<=4000000000000:=by
      have h1:=aa7 (a:=-4000000000001) (b:=k) hcp;have h2:=abo (a:=k) c;constructor
      ·refine h1.2 ?_;have:=o_ (show 1<=c by omega) (show (0:Int)<=4000000000001 by omega);omega
      ·by_cases h0:0<=k
       ·have:=h2 h0;omega
       ·have:=Int.ediv_neg_of_neg_of_pos (a:=k) (b:=c) (by omega) hcp;omega
     have v2:-4000000000001<=-k/c∧-k/c<=4000000000000:=by
      have h1:=aa7 (a:=-4000000000001) (b:=-k) hcp;have h2:=abo (a:=-k) c;constructor
      ·refine h1.2 ?_;have:=o_ (show 1<=c by omega) (show (0:Int)<=4000000000001 by omega);omega
      ·by_cases h0:0<=-k
       ·have:=h2 h0;omega
       ·have:=Int.ediv_neg_of_neg_of_pos (a:=-k) (b:=c) (by omega) hcp;omega
     obtain ⟨u1,hu1⟩:∃ u,k/c=u:=⟨_,rfl⟩;obtain ⟨u2,hu2⟩:∃ u,-k/c=u:=⟨_,rfl⟩;have HR:Hid (S=(max lo (-u1),if E then min hi u2 else hi)):=by unfold Hid;rw [<-uh HS];unfold kY;rw [g_ hc0,h_ hcp,hu1,hu2]
     have KP:=af (λwq=>vQ lo (-u1) wq);have Fb:=af (λwq=>vQ (-hi) (-u2) wq);rw [hu1] at HD1 v1;rw [hu2] at HD2 v2;obtain ⟨v11,v12⟩:=v1;obtain ⟨v21,v22⟩:=v2;clear hu1 hu2 hb1;obtain ⟨m1,hm1⟩:∃ m,max lo (-u1)=m:=⟨_,rfl⟩;have U1:-1000000000<=m1∧m1<=5000000000000:=by omega
     obtain ⟨abR,abS⟩:=U1;rw [hm1] at KP HR;obtain ⟨m2,hm2⟩:∃ m,max (-hi) (-u2)=m:=⟨_,rfl⟩;have abT:-1000000000<=m2∧m2<=5000000000000:=by omega
     obtain ⟨ajs,ajt⟩:=abT;rw [hm2] at Fb;have zu:Hid (min hi u2=-m2):=by unfold Hid;omega
     clear hm1 hm2;go_wp2_with fail;refine (uh HD1 _).mono ?_;rintro e wd ⟨rfl,hwd⟩;rw [hwd];clear hwd wd;go_wp2_with fail;refine (uh KP _).mono ?_;rintro e wd ⟨rfl,hwd⟩;rw [hwd];clear hwd wd;cases E with
     | false =>
      go_wp2;go_ret2;exact ⟨oP (uh HR),uh HG _⟩
     | true =>
      go_wp2_with fail;refine (uh HD2 _).mono ?_;rintro e wd ⟨rfl,hwd⟩;rw [hwd];clear hwd wd;go_wp2_with fail;refine (uh Fb _).mono ?_;rintro e wd ⟨rfl,hwd⟩;rw [hwd];clear hwd wd;go_wp2;go_ret2;exact ⟨oP ((uh HR).trans (by rw [h_ True.intro,uh zu])),uh HG _⟩
    ·have hcn:0 < -c:=by omega
     obtain ⟨c2,hc2⟩:∃ c2,-c=c2:=⟨_,rfl⟩;rw [hc2] at hcn;have HD1:=af (λwq=>vR k c2 wq (by omega) (by omega) (by omega) (by omega));have HD2:=af (λwq=>vR (-k) c2 wq (by omega) (by omega) (by omega) (by omega));have v1:-4000000000001<=k/c2∧k/c2<=4000000000000:=by
      have h1:=aa7 (a:=-4000000000001) (b:=k) hcn;have h2:=abo (a:=k) c2;constructor
      ·refine h1.2 ?_;have:=o_ (show 1<=c2 by omega) (show (0:Int)<=4000000000001 by omega);omega
      ·by_cases h0:0<=k
       ·have:=h2 h0;omega
       ·have:=Int.ediv_neg_of_neg_of_pos (a:=k) (b:=c2) (by omega) hcn;omega
     have v2:-4000000000001<=-k/c2∧-k/c2<=4000000000000:=by
      have h1:=aa7 (a:=-4000000000001) (b:=-k) hcn;have h2:=abo (a:=-k) c2;constructor
      ·refine h1.2 ?_;have:=o_ (show 1<=c2 by omega) (show (0:Int)<=4000000000001 by omega);omega
      ·by_cases h0:0<=-k
       ·have:=h2 h0;omega
       ·have:=Int.ediv_neg_of_neg_of_pos (a:=-k) (b:=c2) (by omega) hcn;omega
     obtain ⟨u1,hu1⟩:∃ u,k/c2=u:=⟨_,rfl⟩;obtain ⟨u2,hu2⟩:∃ u,-k/c2=u:=⟨_,rfl⟩;have HR:Hid (S=(if E then max lo (-u2) else lo,min hi u1)):=by unfold Hid;rw [<-uh HS];unfold kY;rw [g_ hc0,g_ hcp,hc2,hu1,hu2]
     have KP:=af (λwq=>vQ (-hi) (-u1) wq);have Fb:=af (λwq=>vQ lo (-u2) wq);rw [hu1] at HD1 v1;rw [hu2] at HD2 v2;obtain ⟨v11,v12⟩:=v1;obtain ⟨v21,v22⟩:=v2;clear hu1 hu2;obtain ⟨m1,hm1⟩:∃ m,max (-hi) (-u1)=m:=⟨_,rfl⟩;have U1:-1000000000<=m1∧m1<=5000000000000:=by omega
     obtain ⟨abR,abS⟩:=U1;rw [hm1] at KP;have zu:Hid (min hi u1=-m1):=by unfold Hid;omega
     rw [uh zu] at HR;obtain ⟨m2,hm2⟩:∃ m,max lo (-u2)=m:=⟨_,rfl⟩;rw [hm2] at Fb HR;have hcv:c=-c2:=by omega
     have aju:¬ (-c2=0):=by omega
     have ajv:¬ (0 < -c2):=by omega
     clear hm1 hm2 hc2 hc0 hcp;subst hcv;go_wp2_with fail;refine (uh HD1 _).mono ?_;rintro e wd ⟨rfl,hwd⟩;rw [hwd];clear hwd wd;go_wp2_with fail;refine (uh KP _).mono ?_;rintro e wd ⟨rfl,hwd⟩;rw [hwd];clear hwd wd;cases E with
     | false =>
      go_wp2;go_ret2;exact ⟨oP (uh HR),uh HG _⟩
     | true =>
      go_wp2_with fail;refine (uh HD2 _).mono ?_;rintro e wd ⟨rfl,hwd⟩;rw [hwd];clear hwd wd;go_wp2_with fail;refine (uh Fb _).mono ?_;rintro e wd ⟨rfl,hwd⟩;rw [hwd];clear hwd wd;go_wp2;go_ret2;exact ⟨oP ((uh HR).trans (by rw [h_ True.intro])),uh HG _⟩
theorem BU (n:Nat) (x:Nat->Int) (q:dS):∀ (l:List dS) (s:Int × Int),eY n x (l++[q]) s=if (eY n x l s).1<=(eY n x l s).2 then kY q.2.2 (oD q n x) (q.1.getD n 0) (eY n x l s).1 (eY n x l s).2 else eY n x l s
 | [],s=>by
  show (if s.1<=s.2 then _ else s)=_
  split <;> rename_i h
  ·show kY _ _ _ s.1 s.2=if s.1<=s.2 then _ else _;rw [h_ h];rfl
  ·show s=if s.1<=s.2 then _ else s;rw [g_ h]
 | p::l,s=>by
  show (if s.1<=s.2 then eY n x (l++[q]) _ else s)=_;by_cases h:s.1<=s.2
  ·rw [h_ h,BU n x q l];have e:eY n x (p::l) s=eY n x l (kY p.2.2 (oD p n x) (p.1.getD n 0) s.1 s.2):=by
    show (if s.1<=s.2 then _ else s)=_;rw [h_ h]
   rw [e]
  ·have e:eY n x (p::l) s=s:=by
    show (if s.1<=s.2 then _ else s)=_;rw [g_ h]
   rw [g_ h,e,g_ h]
theorem BV (n:Nat) (x:Nat->Int):∀ (l:List dS) (s:Int × Int),¬ s.1<=s.2->eY n x l s=s
 | [],_,_=>rfl
 | p::l,s,h=>by show (if s.1<=s.2 then _ else s)=_;rw [g_ h]
theorem BX (n:Nat) (x:Nat->Int):∀ (l k:List dS) (s:Int × Int),eY n x (l++k) s=eY n x k (eY n x l s)
 | [],_,_=>rfl
 | p::l,k,s=>by
  show (if s.1<=s.2 then eY n x (l++k) _ else s)=eY n x k (if s.1<=s.2 then eY n x l _ else s);by_cases h:s.1<=s.2
  ·rw [h_ h,h_ h,BX n x l k]
  ·rw [g_ h,g_ h,BV n x k s h]
theorem OY (eq:Bool) (k c lo hi:Int) (h:(kY eq k c lo hi).1<=(kY eq k c lo hi).2):lo<=(kY eq k c lo hi).1∧(kY eq k c lo hi).2<=hi:=by
 have h1:=(zz eq k c lo hi (kY eq k c lo hi).1).1 ⟨aaU _,h⟩;have h2:=(zz eq k c lo hi (kY eq k c lo hi).2).1 ⟨h,aaU _⟩;exact ⟨h1.1.1,h2.1.2⟩
def OZ (S:Int × Int) (n:Nat) (X:List Int) (w:World) (e:Ending) (w':World):Prop :=
 ∃ (va:Option Addr) (vn vc:Nat) (b:Bool),e=.returned (.tuple #[.slice va vn vc,.bool b])∧ae w w' ∧
  ((b=true∧S.1<=S.2∧aI w.heap.size w' (.slice va vn vc) (X.take n++[S.1]))∨(b=false∧va=none∧vn=0∧vc=0∧¬ S.1<=S.2))
theorem RJ {l:List Int} {b:Int} (hb:0<=b) (h:∀ x∈l,-b<=x∧x<=b) (j:Nat):-b<=l.getD j 0∧l.getD j 0<=b:=by
 rw [a_];by_cases hj:j<l.length
 ·rw [f_ hj];exact h _ (aak _)
 ·rw [O_ (by omega)];show -b<=0∧0<=b;omega
set_option maxHeartbeats 1000000 in
theorem O0 (vs:List (Int × Int)) (rs:List dS) (X:List Int) (n:Nat) (va vb vx:Value) (w:World) (ha:jd w va vs) (hb:kP w vb rs) (hx:bI w vx X) (hvs:vs.length=n+1) (hX:X.length=n+1) (hV:fI vs) (hR:lI (n+1) rs)
  (N8:∀ j,j<n->-1000000000<=X.getD j 0∧X.getD j 0<=1000000000) :
  Calls Tryz.prog 23 #[va,vb,vx] w (OZ (eY n (λj=>X.getD j 0) rs (vs.getD n (0,0))) n X w):=by
 obtain ⟨i0,hi0,hz0,hz1,hz2⟩:=U_ Tryz.jL;obtain ⟨aa,ac,rfl⟩:=ha.aB;obtain ⟨ba,bc,rfl⟩:=hb.aB;have HXA:=af hx;obtain ⟨xa,xc,rfl,Ag⟩:=hx;have HX:=af Ag;have HA:=af ha;have HB:=af hb;have N7:=af hR;have HXB:=af N8;have Xb:=af hX;have WZ:n<=3:=by have:=hV.four;omega
 have hm8:rs.length<=8:=hR.pI;obtain ⟨m,hm⟩:∃ m,rs.length=m:=⟨_,rfl⟩;have HM:=af hm;obtain ⟨gv,ov,ev,c0,c1⟩:=ha.get (i:=n) (by omega);cases ev;obtain ⟨⟨Lo,Hi⟩,hq⟩:∃ q,vs.getD n (0,0)=q:=⟨_,rfl⟩;have hmem:(Lo,Hi)∈vs:=by rw [<-hq];exact jE (by omega)
 have bLo:=hV.lo _ hmem;have bHi:=hV.hi _ hmem;obtain ⟨bl1,bl2⟩:=bLo;obtain ⟨bh1,bh2⟩:=bHi;simp only at bl1 bl2 bh1 bh2;rw [hq];obtain ⟨S,hS⟩:∃ S,eY n (λj=>X.getD j 0) rs (Lo,Hi)=S:=⟨_,rfl⟩;have HS:=af hS;rw [hS];rw [hq] at c0 c1;simp only at c0 c1;rw [hX] at HX HXA ⊢;rw [hm] at hm8 HB ⊢;rw [hvs] at HA ⊢;have HCN:Hid (∀ q∈rs,(∀ j,-1000<=q.1.getD j 0∧q.1.getD j 0<=1000)∧(-1000000000000<=q.2.1∧q.2.1<=1000000000000)∧q.1.length=n+1):=λq hq=>⟨RJ (by omega) (hR.c q hq),hR.k q hq,hR.len q hq⟩;clear ha hb Ag hvs hX hV hR N8 hm hq hmem hS;go_enter Tryz.func23,Tryz.ntmps23;go_wp2_with fail;go_loopg [9,10,11] m (λk lv hv iv wr=>∃ (i:Nat) (lo hi:Int),lv=.int .i64 lo∧hv=.int .i64 hi∧iv=.int .i64 i∧i+k=m∧(lo<=hi->-1000000000<=lo∧hi<=1000000000)∧Hid (eY n (λj=>X.getD j 0) (rs.take i) (Lo,Hi)=(lo,hi)∧ae w wr))
 case atStart=>exact ⟨0,Lo,Hi,rfl,rfl,rfl,by omega,λ_=>⟨bl1,bh2⟩,rfl,n_ _ _⟩
 case round =>
  obtain ⟨i,lo,hi,rfl,rfl,rfl,hik,hlh,HR⟩:=hrel;by_cases hle:lo<=hi
  ·obtain ⟨l1,l2⟩:=hlh hle;by_cases hlt:i<m
   ·obtain ⟨gr,or',ua,un,uc,er,r0,hints,r1,r2⟩:=((uh HB).below (uh HR).2).get (i:=i) (by rw [uh HM];exact hlt);obtain ⟨⟨C,K,E⟩,hq⟩:∃ q,rs.getD i ([],0,false)=q:=⟨_,rfl⟩;have Be:=af (lZ (by rw [uh HM];exact hlt) hq);rw [hq] at hints r1 r2;simp only at hints r1 r2;cases er;obtain ⟨q1,q2,q3⟩:=uh HCN _ (uh Be).2;simp only at q1 q2 q3;have hun:un=n+1:=by
     rw [<-q3];obtain ⟨ad,cap,e,_⟩:=id hints;cases e;rfl
    subst hun;have Ff:=af (OV C K E X lo hi n _ _ wr hints ((uh HXA).below (uh HR).2) q3 (uh Xb) WZ q1 q2 (uh HXB) ⟨by omega,by omega⟩ ⟨by omega,by omega⟩);obtain ⟨s,hs⟩:∃ s,kY E (oD (C,K,E) n λj=>X.getD j 0) (C.getD n 0) lo hi=s:=⟨_,rfl⟩;rw [hs] at Ff;have qV:Hid (eY n (λj=>X.getD j 0) (rs.take (i+1)) (Lo,Hi)=s):=by
     unfold Hid;rw [(uh Be).1,BU,(uh HR).1];show (if lo<=hi then _ else _)=_;rw [h_ hle];exact hs
    have hsb:s.1<=s.2->-1000000000<=s.1∧s.2<=1000000000:=λh=>by
     rw [<-hs] at h ⊢;have:=OY _ _ _ _ _ h;omega
    obtain ⟨s1,s2⟩:=s;simp only at hsb Ff;have HSB:=af hsb;clear hq hints q1 q2 q3 hs hsb hlh;go_wp2_with fail;refine (uh Ff).mono ?_;rintro e w2 ⟨rfl,hg2⟩;have HG2:Hid (ae w w2):=(uh HR).2.trans hg2;clear Ff hg2;go_wp2;go_roundg (gk - 1)
    case measure=>omega
    case rel=>exact ⟨i+1,s1,s2,rfl,rfl,by simp,by omega,uh HSB,uh qV,uh HG2⟩
   ·have L6:i=m:=by omega
    have HL:Hid (S=(lo,hi)):=by
     have h1:=(uh HR).1;rw [L6,<-uh HM,aaG] at h1;unfold Hid;rw [<-uh HS];exact h1
    have HG:=af (uh HR).2;have ajC:¬ hi<lo:=by omega
    clear L6 HR hlh;go_wp2_with fail;obtain ⟨wo,rfl⟩:∃ wo,wo=wr:=⟨_,rfl⟩;obtain ⟨go',rfl⟩:∃ go',go'=gk:=⟨_,rfl⟩;go_loopg [12,13] n (λk lv jv wr=>∃ (j:Nat) (la:Option Addr) (lc:Nat),lv=.slice la j lc∧jv=.int .i64 j∧j+k=n∧Hid (aI w.heap.size wr (.slice la j lc) (X.take j)∧ae w wr))
    case atStart=>exact ⟨0,none,0,rfl,rfl,by omega,aa8 _ _ _ _,uh HG⟩
    case round =>
     obtain ⟨j,la,lc,rfl,rfl,hjk,HR⟩:=hrel;have hsz:w.heap.size<=wr.heap.size:=(uh HR).2.size;have hL:(X.take j).length=j:=by rw [T_,uh Xb];omega
     obtain ⟨L,Fe⟩:∃ L,(X.take j).map bF=L:=⟨_,rfl⟩;have hown0:wr.ownsRow w.heap.size 3 1 (.slice la j lc) j L:=by
      have:=(uh HR).1;unfold aI at this;rw [hL,Fe] at this;exact this
     have HG:=af (uh HR).2;by_cases hjl:j<n
     ·obtain ⟨gx,ox,ex,x0⟩:=uh HX j (by omega);cases ex;have x1:=(uh HG).cell x0;obtain ⟨x,hxv⟩:∃ x,X.getD j 0=x:=⟨_,rfl⟩;rw [hxv] at x1;have hown:=aW hown0 (.alloc _ wr (.cells #[.int .i64 x] 3));have Be:Hid ((X.take (j+1)).map bF=L++[bF x]∧(X.take (j+1)).length=j+1):=by
       refine ⟨by rw [<-Fe,(lZ (by rw [uh Xb];omega) hxv).1];simp,?_⟩;rw [T_,uh Xb];omega
      clear x0 hxv hL Fe HR;go_wp2_with (at_builtin;refine wpList_append_lies _ rfl _ _ 36 rfl w.heap.size 3 i0 (.int .i64 0) 1 8 Tryz.underlying36 hi0 hz0 hz1 hz2 rfl (by decide) _ _ _ rfl hown ⟨_,0,none⟩ 1 1 [bF x] rfl rfl ?d1 (λu hu=>by simp at hu;subst hu;rfl) (by decide) ?d3 ?d4 ?d5 _ rfl ?_)
      case d1=>first | exact λj u h=>h | exact oN #[bF x] _
      case d3=>unfold maxLen;omega
      case d4=>omega
      case d5=>first | omega | (simp;omega)
      ·intro g cap w2 hown2 hgrow _ _;have Fg:Hid (aI w.heap.size w2 (.slice (some ⟨g,0,none⟩) (j+1) cap) (X.take (j+1))∧ae w w2):=by
        refine ⟨?_,?_⟩
        ·unfold aI;rw [(uh Be).1,(uh Be).2];exact hown2
        ·exact Below.grown ((uh HG).trans (ae.alloc _ _)) hgrow (by simp;omega) (bR hown)
       clear hown2 hgrow hown hown0;go_wp2;go_roundg (gk - 1)
       case measure=>omega
       case rel=>exact ⟨j+1,some ⟨g,0,none⟩,cap,rfl,by simp,by omega,Fg⟩
     ·have U0:j=n:=by omega
      have hown:=aW hown0 (.alloc _ wr (.cells #[.int .i64 lo] 3));have Be:Hid ((X.take n++[lo]).map bF=L++[bF lo]∧(X.take n++[lo]).length=j+1):=by
       rw [<-U0];refine ⟨by rw [<-Fe];simp,?_⟩;rw [C_,hL];rfl
      clear hL Fe HR U0;go_wp2_with (at_builtin;refine wpList_append_lies _ rfl _ _ 36 rfl w.heap.size 3 i0 (.int .i64 0) 1 8 Tryz.underlying36 hi0 hz0 hz1 hz2 rfl (by decide) _ _ _ rfl hown ⟨_,0,none⟩ 1 1 [bF lo] rfl rfl ?d1 (λu hu=>by simp at hu;subst hu;rfl) (by decide) ?d3 ?d4 ?d5 _ rfl ?_)
      case d1=>first | exact λj u h=>h | exact oN #[bF lo] _
      case d3=>unfold maxLen;omega
      case d4=>omega
      case d5=>first | omega | (simp;omega)
      ·intro g cap w2 hown2 hgrow _ _;have Fg:Hid (aI w.heap.size w2 (.slice (some ⟨g,0,none⟩) (j+1) cap) (X.take n++[lo])∧ae w w2):=by
        refine ⟨?_,?_⟩
        ·unfold aI;rw [(uh Be).1,(uh Be).2];exact hown2
        ·exact Below.grown ((uh HG).trans (ae.alloc _ _)) hgrow (by simp;omega) (bR hown)
       clear hown2 hgrow hown hown0;go_wp2;exact t_ (v:=.tuple #[.slice (some ⟨g,0,none⟩) (j+1) cap,.bool true]) (by simp [results,Tryz.results23,go_sem]) rfl ⟨_,_,_,true,rfl,(uh Fg).2,.inl ⟨rfl,by rw [uh HL];exact hle,by rw [uh HL];exact (uh Fg).1⟩⟩
  ·have HL:Hid (S=(lo,hi)):=by
    have h1:=(uh HR).1;have h2:rs=rs.take i++rs.drop i:=(List.take_append_drop i rs).symm;unfold Hid;rw [<-uh HS,h2,BX,h1];exact BV _ _ _ _ hle
   have HG:=af (uh HR).2;have hlt':hi<lo:=by omega
   clear hlh HR;by_cases hlt:i<m
   ·go_wp2;exact t_ (v:=.tuple #[.slice none 0 0,.bool false]) (by simp [results,Tryz.results23,go_sem]) rfl ⟨_,_,_,false,rfl,uh HG,.inr ⟨rfl,rfl,rfl,rfl,by rw [uh HL];show ¬ lo<=hi;omega⟩⟩
   ·have hem:¬ ((i:Int)<(m:Int)):=by omega
    go_wp2;exact t_ (v:=.tuple #[.slice none 0 0,.bool false]) (by simp [results,Tryz.results23,go_sem]) rfl ⟨_,_,_,false,rfl,uh HG,.inr ⟨rfl,rfl,rfl,rfl,by rw [uh HL];show ¬ lo<=hi;omega⟩⟩
theorem aI.shape {B:Nat} {w:World} {v:Value} {l:List Int} (h:aI B w v l):∃ a c,v=.slice a l.length c:=by
 rcases h.2 with ⟨rfl,hn⟩|⟨g,cap,cur,rfl,_⟩
 ·exact ⟨none,0,by rw [hn]⟩
 ·exact ⟨_,_,rfl⟩
def TM (vs:List (Int × Int)) (n:Nat) (x:Nat->Int):Prop:=∀ j,j<n->(vs.getD j (0,0)).1<=x j∧x j<=(vs.getD j (0,0)).2
theorem TM.after {vs:List (Int × Int)} {n:Nat} {x y:Nat->Int} (h:TM vs n x) (hv:∀ j,j<n->(vs.getD j (0,0)).1<=(vs.getD j (0,0)).2) (ha:wM (λj=>(vs.getD j (0,0)).1) (λj=>(vs.getD j (0,0)).2) n x y):TM vs n y:=by
 obtain ⟨i,hin,h1,h2,h3,h4⟩:=ha;intro j hj;have hj':=h j hj;have hv':=hv j hj;rcases (show j<i∨j=i∨i<j by omega) with h5|h5|h5
 ·rw [h3 j h5];exact hj'
 ·subst h5;have h1':x j<(vs.getD j (0,0)).2:=h1;rw [h2];omega
 ·have h6:y j=(vs.getD j (0,0)).1:=(h4 j h5 hj).2;rw [h6];omega
theorem TM.bd {vs:List (Int × Int)} {n:Nat} {x:Nat->Int} (h:TM vs n x) (hV:fI vs) (hn:n<=vs.length):∀ j,j<n->-1000000000<=x j∧x j<=1000000000:=λj hj=>by
 have h1:=h j hj;have hm:=jE (vs:=vs) (i:=j) (by omega);have h2:=hV.lo _ hm;have h3:=hV.hi _ hm;omega
set_option maxHeartbeats 1000000 in
theorem Jg (vs:List (Int × Int)) (rs:List dS) (va vb:Value) (w:World) (ha:jd w va vs) (hb:kP w vb rs) (hmv:vs.length<=maxLen) (hmr:rs.length<=maxLen) :
  Calls Tryz.prog 9 #[va,vb] w (mU vs rs w):=by
 have HF:=af (OW vs rs va vb w ha hb hmv hmr);have HA:=af ha;have HB:=af hb;obtain ⟨aa,ac,rfl⟩:=ha.aB;obtain ⟨ba,bc,rfl⟩:=hb.aB;by_cases hok:Ee vs rs=true
 ·obtain ⟨h1,h2⟩:=Bool.and_eq_true_iff.1 hok;have HV:Hid (fI vs):=nU.1 h1;have HRW:Hid (lI vs.length rs):=rM.1 h2;rw [hok] at HF;have h4:=(uh HV).four;have h1':=(uh HV).one;obtain ⟨n,hn⟩:∃ n,vs.length=n+1:=⟨vs.length - 1,by omega⟩;have HN:=af hn;have Jm:=af (λw1 (hg:ae w w1)=>Me vs (.slice aa vs.length ac) w1 ((uh HA).below hg) h4);obtain ⟨m,hm⟩:∃ m,rs.length=m:=⟨_,rfl⟩;rw [hn] at HF HA Jm ⊢;rw [hm] at HF HB ⊢;have Jn:Hid (∀ j,j<n->(vs.getD j (0,0)).1<=(vs.getD j (0,0)).2):=λj hj=>(uh HV).le _ (jE (by omega));have WZ:n<=3:=by omega
  clear ha hb hmv hmr hok h1 h2 hn hm h4 h1';go_enter Tryz.func9,Tryz.ntmps9;go_wp2_with fail;refine (uh HF).mono ?_;rintro e w1 ⟨rfl,hg1⟩;have XX:=af (uh Jm w1 hg1);have dN:=af hg1;clear HF Jm hg1;go_wp2_with fail;refine (uh XX).mono ?_;rintro e w2 ⟨v2,rfl,hx2,hg2⟩;have hxl:(vs.map (·.1)).length=n+1:=by rw [L_];exact uh HN
  obtain ⟨xa,xc,rfl⟩:=hx2.shape;rw [hxl] at hx2 ⊢;have HST:Hid (aI w.heap.size w2 (.slice xa (n+1) xc) (vs.map (·.1))∧(vs.map (·.1)).length=n+1∧ae w w2∧TM vs n (λj=>(vs.map (·.1)).getD j 0)∧mW vs rs n (λj=>(vs.map (·.1)).getD j 0)):=by
   have e:∀ j,j<n->(vs.map (·.1)).getD j 0=(vs.getD j (0,0)).1:=λj hj=>by
    have hjl:j<vs.length:=by rw [uh HN];omega
    rw [a_,aal,f_ hjl,a_,f_ hjl];rfl
   refine ⟨rF hx2 (uh dN).size,hxl,(uh dN).trans hg2,λj hj=>?_,λB hB i hi hj=>?_⟩
   ·show _<=(vs.map (·.1)).getD j 0∧(vs.map (·.1)).getD j 0<=_;rw [e j hj];exact ⟨aaU _,uh Jn j hj⟩
   ·show (vs.map (·.1)).getD i 0<=_;rw [e i hi];exact (hB.range i (by rw [uh HN];omega)).1
  clear XX hx2 hg2 hxl dN;go_wp2_with fail;obtain ⟨T,hT⟩:∃ T:Nat,T=(leftOf (λj=>(vs.getD j (0,0)).1) (λj=>(vs.getD j (0,0)).2) n (λj=>(vs.map (·.1)).getD j 0)).toNat+1:=⟨_,rfl⟩;have HT:=af hT;clear hT;go_loopg [9] T (λk mv wr=>∃ (more:Bool),mv=.bool more∧Hid (∃ X,aI w.heap.size wr (.slice xa (n+1) xc) X∧X.length=n+1∧ae w wr∧(more=true->TM vs n (λj=>X.getD j 0)∧mW vs rs n (λj=>X.getD j 0)∧k=(leftOf (λj=>(vs.getD j (0,0)).1) (λj=>(vs.getD j (0,0)).2) n (λj=>X.getD j 0)).toNat+1)∧(more=false->∀ A,¬ kS vs rs A)))
  case atStart =>
   obtain ⟨h1,h2,h3,h4,h5⟩:=uh HST;exact ⟨true,rfl,_,h1,h2,h3,λ_=>⟨h4,h5,uh HT⟩,λh=>by cases h⟩
  case round =>
   obtain ⟨more,rfl,HR⟩:=hrel;clear HST HT;cases more with
   | false =>
    have HFN:Hid (ae w wr∧∀ A,¬ kS vs rs A):=by
     obtain ⟨X,h1,h2,h3,h4,h5⟩:=uh HR;exact ⟨h3,h5 rfl⟩
    clear HR;go_wp2;exact t_ (v:=.tuple #[.slice none 0 0,.bool false,.int .i64 0]) (by simp [results,Tryz.results9,go_sem]) rfl ⟨_,_,_,false,0,rfl,(uh HFN).1,.inr ⟨uh HV,uh HRW,rfl,.inr ⟨rfl,rfl,rfl,rfl,(uh HFN).2⟩⟩⟩
   | true =>
    obtain ⟨X,h1,h2,h3,h4,-⟩:=uh HR;obtain ⟨h5,h6,h7⟩:=h4 rfl;have N8:=h5.bd (uh HV) (by rw [uh HN];omega);have oI:=af (O0 vs rs X n (.slice aa (n+1) ac) (.slice ba m bc) (.slice xa (n+1) xc) wr ((uh HA).below h3) ((uh HB).below h3) (cO h1) (uh HN) h2 (uh HV) (by have:=uh HRW;rwa [uh HN] at this) N8);have HX:=af (x_ h1 (x_ h2 (x_ h3 (x_ h5 (x_ h6 (x_ h7 N8))))));clear HR h1 h2 h3 h4 h5 h6 h7 N8;go_wp2_with fail;refine (uh oI).mono ?_;rintro e w3 ⟨la,ln,lc,b,rfl,hg3,hpost⟩;obtain ⟨x1,x2,x3,x4,x5,x6,x7⟩:=uh HX;have jb:Hid (ae w w3):=x3.trans hg3;cases b with
    | true =>
     have HPO:Hid (∃ A,aI w.heap.size w3 (.slice la ln lc) A∧uC vs rs A):=by
      rcases hpost with ⟨_,h1,h2⟩|⟨h,_⟩
      ·refine ⟨_,rF h2 x3.size,x5.found (uh HN) ?_ ?_ x4 h1 ?_⟩
       ·rw [C_,T_,x2,aa3 (by omega)];rfl
       ·intro j hj;rw [a_,aah (by rw [T_,x2];omega),List.getElem?_take,h_ hj,a_]
       ·rw [a_,R_ (by rw [T_,x2];omega),T_,x2,aa3 (by omega),Nat.sub_self];rfl
      ·cases h
     clear hpost hg3 HX x1 x2 x3 x4 x5 x6 x7;go_wp2;exact t_ (v:=.tuple #[.slice la ln lc,.bool true,.int .i64 0]) (by simp [results,Tryz.results9,go_sem]) rfl ⟨_,_,_,true,0,rfl,uh jb,.inr ⟨uh HV,uh HRW,rfl,.inl ⟨rfl,uh HPO⟩⟩⟩
    | false =>
     have hno:¬ (eY n (λj=>X.getD j 0) rs (vs.getD n (0,0))).1<=(eY n (λj=>X.getD j 0) rs (vs.getD n (0,0))).2:=by
      rcases hpost with ⟨h,_⟩|⟨_,_,_,_,h⟩
      ·cases h
      ·exact h
     have HAF:=af (Mg vs X n (.slice aa (n+1) ac) (.slice xa (n+1) xc) w w3 (uh HA) (x3.trans hg3) (aW x1 (.aX hg3)) (by rw [uh HN];omega) (by rw [uh HN];exact x2) (by rw [uh HN];omega) x7);have HQ:Hid (∀ (b:Bool) (Y:List Int) (w4:World),aI w.heap.size w4 (.slice xa (n+1) xc) Y->Y.length=X.length->ae w w4->(b=true->wM (λj=>(vs.getD j (0,0)).1) (λj=>(vs.getD j (0,0)).2) n (λj=>X.getD j 0) (λj=>Y.getD j 0))->(b=false->yo (λj=>(vs.getD j (0,0)).2) n (λj=>X.getD j 0)) ->
       ∃ k,k<gk∧∃ Z,aI w.heap.size w4 (.slice xa (n+1) xc) Z∧Z.length=n+1∧ae w w4∧(b=true->TM vs n (λj=>Z.getD j 0)∧mW vs rs n (λj=>Z.getD j 0)∧k=(leftOf (λj=>(vs.getD j (0,0)).1) (λj=>(vs.getD j (0,0)).2) n (λj=>Z.getD j 0)).toNat+1)∧(b=false->∀ A,¬ kS vs rs A)):=by
      intro b Y w4 y1 y2 y3 y4 y5;cases b with
      | true =>
       have hA:=y4 rfl;have h1:=wM.less n (uh Jn) (λj hj=>(x4 j hj).2) hA;have h2:=x4.after (uh Jn) hA;have h3:=wN n (uh Jn) (λj hj=>(h2 j hj).2);refine ⟨(leftOf (λj=>(vs.getD j (0,0)).1) (λj=>(vs.getD j (0,0)).2) n (λj=>Y.getD j 0)).toNat+1,by omega,Y,y1,by rw [y2,x2],y3,λ_=>⟨h2,x5.next (uh HN) x4 hno hA,rfl⟩,λh=>by cases h⟩
      | false =>
       exact ⟨0,by omega,Y,y1,by rw [y2,x2],y3,(λh=>by cases h),λ_ A=>x5.done (uh HN) x4 hno (y5 rfl) A⟩
     clear hpost hg3 HX x1 x2 x3 x4 x5 x6 x7 hno;go_wp2_with fail;refine (uh HAF).mono ?_;rintro e w4 ⟨b,Y,rfl,y1,y2,y3,y4,y5⟩;obtain ⟨k,hk,hrest⟩:=uh HQ b Y w4 y1 y2 y3 y4 y5;have XZ:=af hrest;clear HAF HQ y1 y2 y3 y4 y5 hrest;go_wp2;go_roundg k
     case measure=>exact hk
     case rel=>exact ⟨b,rfl,XZ⟩
 ·have hno:Ee vs rs=false:=abH.2 hok;rw [hno] at HF;have HX:Hid (¬ (fI vs∧lI vs.length rs)):=λ⟨h1,h2⟩=>hok (Bool.and_eq_true_iff.2 ⟨nU.2 h1,rM.2 h2⟩);clear ha hb hmv hmr hok hno;go_enter Tryz.func9,Tryz.ntmps9;go_wp2_with fail;refine (uh HF).mono ?_;rintro e w1 ⟨rfl,hg1⟩;have dN:=af hg1;clear HF hg1;go_wp2;exact t_ (v:=.tuple #[.slice none 0 0,.bool false,.int .i64 6]) (by simp [results,Tryz.results9,go_sem]) rfl ⟨_,_,_,false,6,rfl,uh dN,.inl ⟨uh HX,rfl,rfl,rfl,rfl,rfl⟩⟩
def BD:Prop:=∀ (vs:List (Int × Int)) (rs:List dS) (va vb:Value) (w:World),jd w va vs->kP w vb rs->vs.length<=maxLen->rs.length<=maxLen->Calls Tryz.prog 8 #[va,vb] w (mU vs rs w)
def qR (vs:List (Int × Int)) (rs:List dS) (W:World) (v:Value) (w:World):Prop :=
 ∃ (va:Option Addr) (vn vc:Nat) (found:Bool) (errno:Int),v=.tuple #[.slice va vn vc,.bool found,.int .i64 errno] ∧
  ((¬ (fI vs∧lI vs.length rs)∧va=none∧vn=0∧vc=0∧found=false∧errno=6) ∨
   (fI vs∧lI vs.length rs∧errno=0∧((found=true∧∃ A,aI W.heap.size w (.slice va vn vc) A∧uC vs rs A)∨(found=false∧va=none∧vn=0∧vc=0∧∀ A,¬ kS vs rs A))))
def BF (v:Value):Prop:=∃ (va:Option Addr) (vn vc:Nat) (found:Bool) (errno:Int),v=.tuple #[.slice va vn vc,.bool found,.int .i64 errno]
section
variable {vs:List (Int × Int)} {rs:List dS} {W w w':World} {v:Value}
theorem qR.grow (h:qR vs rs W v w) (hg:ae w w'):qR vs rs W v w':=by
 obtain ⟨va,vn,vc,f,er,e,h⟩:=h;refine ⟨va,vn,vc,f,er,e,?_⟩;rcases h with h|⟨h1,h2,h3,⟨h4,A,h5,h6⟩|h4⟩
 ·exact .inl h
 ·exact .inr ⟨h1,h2,h3,.inl ⟨h4,A,aW h5 (.aX hg),h6⟩⟩
 ·exact .inr ⟨h1,h2,h3,.inr h4⟩
theorem qR.of {e:Ending} (h:mU vs rs w e w') (hW:W.heap.size<=w.heap.size):∃ u,e=.returned u∧ae w w'∧BF u∧qR vs rs W u w':=by
 obtain ⟨va,vn,vc,f,er,e,hg,h⟩:=h;refine ⟨_,e,hg,⟨va,vn,vc,f,er,rfl⟩,va,vn,vc,f,er,rfl,?_⟩;rcases h with h|⟨h1,h2,h3,⟨h4,A,h5,h6⟩|h4⟩
 ·exact .inl h
 ·exact .inr ⟨h1,h2,h3,.inl ⟨h4,A,rF h5 hW,h6⟩⟩
 ·exact .inr ⟨h1,h2,h3,.inr h4⟩
theorem Jc {va:Option Addr} {vn vc:Nat} {f:Bool} {er:Int} {e:Ending} {w6:World} (h:qR vs rs W (.tuple #[.slice va vn vc,.bool f,.int .i64 er]) w) (hp:mU vs rs w e w6) :
  ∃ (A:List Int) (va':Option Addr) (vc':Nat),vn=A.length∧e=.returned (.tuple #[.slice va' vn vc',.bool f,.int .i64 er])∧aI W.heap.size w6 (.slice va vn vc) A∧aI w.heap.size w6 (.slice va' vn vc') A∧A.length<=4∧ae w w6:=by
 obtain ⟨va1,vn1,vc1,f1,er1,e1,h⟩:=h;simp only [Value.tuple.injEq,Array.mk.injEq,List.cons.injEq,Value.slice.injEq,Value.bool.injEq,Value.int.injEq,true_and,and_true] at e1;obtain ⟨⟨rfl,rfl,rfl⟩,rfl,rfl⟩:=e1;obtain ⟨va2,vn2,vc2,f2,er2,rfl,hg,hp⟩:=hp;have nil:∀ (B:Nat) (u:World),aI B u (.slice none 0 0) []:=λB u=>aa8 _ _ _ _;rcases h with ⟨h1,rfl,rfl,rfl,rfl,rfl⟩|⟨h1,h2,rfl,h⟩
 ·rcases hp with ⟨_,rfl,rfl,rfl,rfl,rfl⟩ | ⟨g1,g2,_⟩
  ·exact ⟨[],none,0,rfl,rfl,nil _ _,nil _ _,by simp,hg⟩
  ·exact absurd ⟨g1,g2⟩ h1
 ·rcases hp with ⟨g1,_⟩ | ⟨g1,g2,rfl,g⟩
  ·exact absurd ⟨h1,h2⟩ g1
  ·rcases h with ⟨rfl,A,h5,h6⟩ | ⟨rfl,rfl,rfl,rfl,h5⟩
   ·rcases g with ⟨rfl,A',g5,g6⟩ | ⟨rfl,_,_,_,g5⟩
    ·have hA:=g6.one h6;subst hA;obtain ⟨a,c,e⟩:=h5.shape;injection e with e1 e2 e3;obtain ⟨a',c',e'⟩:=g5.shape;injection e' with e1' e2' e3';subst e2;subst e2';exact ⟨_,va2,vc2,rfl,rfl,aW h5 (.aX hg),g5,by rw [h6.1.len];exact h1.four,hg⟩
    ·exact absurd h6.1 (g5 A)
   ·rcases g with ⟨rfl,A',g5,g6⟩ | ⟨rfl,rfl,rfl,rfl,g5⟩
    ·exact absurd g6.1 (h5 A')
    ·exact ⟨[],none,0,rfl,rfl,nil _ _,nil _ _,by simp,hg⟩
end
theorem iP.mono {B B':Nat} {rs:List dS} {gl i:Nat} {G:List Nat} {w:World} (h:iP B rs gl i G w) (hB:B'<=B):iP B' rs gl i G w:=⟨h.len,h.blk,w_ hB h.OB,λj g hj=>⟨(h.list j g hj).1,w_ hB (h.list j g hj).2⟩,h.nodup⟩
theorem iP.rws {B:Nat} {rs:List dS} {gl:Nat} {G:List Nat} {w:World} (h:iP B rs gl (rs.length+2) G w) (cap:Nat):kP w (.slice (some ⟨gl,0,none⟩) rs.length cap) rs:=by
 refine ⟨some ⟨gl,0,none⟩,cap,rfl,λi hi=>?_⟩;obtain ⟨g,hg⟩:∃ g,G[i]?=some g:=⟨_,f_ (by rw [h.len];omega)⟩;obtain ⟨c0,c1,c2⟩:=h.row hg;have hb:=(h.list i g hg).1;unfold sH at hb;unfold pR at c0 c1 c2;rw [h_ hi] at hb c0 c1 c2;have e:rs.getD i ([],0,false)=rs[i]:=by rw [a_,f_ hi];rfl
 rw [e] at hb c0 c1 c2;exact ⟨gl,0,_,rfl,by rw [M_];exact c0,wX hb _,by rw [M_];exact c1,by rw [M_];exact c2⟩
theorem Gh {w:World} {g:Nat} {vs:List (Int × Int)} (h:eG w g (lQ vs 2)) (cap:Nat):jd w (.slice (some ⟨g,0,none⟩) vs.length cap) vs:=by
 have:=h.at (n:=vs.length) (cap:=cap) (by rw [vN vs (d_ 2)];omega);unfold lQ at this;rwa [List.take_left'] at this
 rfl
def wY (B:Nat) (w:World) (b N:Nat) (bq dA di:List (Value × Int)) (rs:List dS) (e:Ending) (w':World):Prop :=
 ∃ (TF mV OC:List (Value × Int)) (v rv qv:Value),e=.returned (.bool true)∧Rw B w' b (N+rs.length+3) TF v mV rv OC qv∧TF.length=bq.length+4*rs.length+4∧mV.length=dA.length+1∧OC.length=di.length+1∧Below B w w'
end Go.Proofs.YtgaafamcajcifaaGreat
