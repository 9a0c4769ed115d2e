/- Joined: XLow4 XOf1 XOf2. -/
import Derived.Test.YtgaafamcajcifaaGreatK37
import Derived.Test.YtgaafamcajcifaaGreatK40
set_option linter.unusedVariables false
set_option linter.unusedSimpArgs false
set_option maxRecDepth 100000
namespace Go.Proofs.YtgaafamcajcifaaGreat
open Go.RowKit Go.Sort
structure AB (N:Nat) (G Hs:Nat->Nat):Prop where
 room:Room N G
 one:∀ s,s<=N->1<=Hs s
 drop:∀ s,s<N->15*(Hs (s+1)+1)+6<=Hs s
 fit:∀ s,s<=N->(s+1)*Hs s+2<=G s
 low:∀ s,s<=N->3*((s+1)*Hs s+1)+20<=1500000000000
 settle:∀ s,s<=N->20*iE (Hs s+1) s+10<=1500000000000
theorem H7 {L L':Nat} (h:L<=L'):∀ k,iE L k<=iE L' k
 | 0=>h
 | k+1=>by show 15*iE L k+6<=15*iE L' k+6;have:=H7 h k;omega
theorem AB.iE {N:Nat} {G Hs:Nat->Nat} (h:AB N G Hs) {s:Nat} (hs:s<=N):∀ k,k<=s->iE (Hs s) k<=Hs (s - k)
 | 0,_=>d_ _
 | k+1,hk=>by
  have h1:=AB.iE h hs k (by omega);have h2:=h.drop (s - (k+1)) (by omega);rw [show s - (k+1)+1=s - k by omega] at h2;show 15*Go.Proofs.YtgaafamcajcifaaGreat.iE (Hs s) k+6<=_;omega
theorem AB.le {N:Nat} {G Hs:Nat->Nat} (h:AB N G Hs) {s:Nat} (hs:s<=N):Hs s<=G s:=by
 have h1:=h.fit s hs;rw [aa_,abA] at h1;omega
theorem DY {N:Nat} {G Hs:Nat->Nat} (h:AB N G Hs) {rc r1:aP} {row:List Int} (hN:rc.size<=N) (hz:rc.zero=[]) (hlt:dF (Hs rc.size) rc) (hrow:∀ k,Pl.Lt (Hs rc.size+1) (row.getD k 0)) (hN9:N<=9) (hZ:fD (rc.bound row) (rc.bound row).zero.length r1):dF (Hs r1.size) r1.whole:=by
 have e1:(rc.bound row).zero.length=1:=by show (rc.zero++[row]).length=1;rw [hz];rfl
 rw [e1] at hZ;obtain ⟨T,h0,h1,h2⟩:=hZ;have hs:=h2 0 (by omega);rw [h0,show 0+1=1 from rfl,h1] at hs;have el:(rc.bound row).less=rc:=by
  unfold aP.less aP.bound;rw [hz];cases rc;simp at hz ⊢
  first | exact hz | exact hz.symm
 have elast:(rc.bound row).bN=row:=by
  unfold aP.bN aP.bound;rw [hz];rfl
 obtain ⟨_,hw⟩:=hs;rw [el,elast] at hw;refine dF.whole ?_;rcases hw.lt2 (by omega) (hlt.mono (Nat.le_succ _)) hrow with e|⟨e,hl⟩
 ·rw [e];exact hlt
 ·refine hl.mono ?_;have:=h.drop r1.size (by omega);rw [e] at this;exact this
theorem H8 {g:Nat} {w:World} {r:aP} {za ea fa ha:Option Addr} {zn zc en ec fn fc hm hc:Nat} {row:List Int} (h:bU PT g w r za zn zc ea en ec fa fn fc) (hv:aM PT w (.slice ha hm hc) (r.zero++[row])):bU PT g (w.setCell ⟨g,1,none⟩ (.slice ha hm hc)) (r.bound row) ha hm hc ea en ec fa fn fc:=by
 have hh:Holds PT w (w.setCell ⟨g,1,none⟩ (.slice ha hm hc)):=bQ h.own (by decide) (λe=>absurd e (by decide)) _ _;have e:=j_ w g 1 _ _ (.slice ha hm hc) h.own;exact ⟨e,hv.holds hh,h.rows.least.holds hh,h.rows.told.holds hh⟩
def EF (r:aP) (w:World) (e:Ending) (w':World):Prop:=∃ (vs:Value) (ok:Bool),e=.returned (.tuple #[vs,.bool ok])∧aZ vs∧Below w.heap.size w w'∧(ok=true->∃ A,aD PT w' vs A∧r.dV.kU A∧∀ B,r.dV.kU B->¬ lexLt B A)∧(ok=false->∀ A,¬ r.dV.kU A)
structure J7 (S:List Int->Prop) (Hs:Nat->Nat) (N T i:Nat) (rc:aP) (A:List Int):Prop where
 fit:rf (Hs rc.size) rc
 size:rc.size<=N
 low:Ay S i A
 qG:∀ B,rc.dV.kU B↔S B∧∀ j,j<i->B.getD j 0=A.getD j 0
section
section
attribute [local go_sem] bD
set_option maxHeartbeats 2000000 in
theorem CO {N:Nat} {G Hs:Nat->Nat} (hroom:AB N G Hs) (r:aP) (vr:Value) (w:World) (h:jT PT w vr r) (hN:r.size<=N) (hok:eH r) (hlt:dF (Hs r.size) r) (htied:r.dV.gJ) (MC:r.least.length<=700) (hbd:∀ B,r.dV.kU B->∀ i,Pl.Lt 1 (B.getD i 0)) :
  Calls Tryz.prog 29 #[vr] w (EF r w):=by
 obtain ⟨vz,vl,vt,rfl,h1,h2,h3⟩:=h;obtain ⟨za,zn,zc,rfl⟩:=h1.aB;obtain ⟨ea,en,ec,rfl⟩:=h2.aB;obtain ⟨fa,fn,fc,rfl⟩:=h3.aB;have hN9:=hroom.room.size;obtain ⟨W,hW⟩:∃ W,w.alloc (.cells #[.int .i64 r.size,.slice za zn zc,.slice ea en ec,.slice fa fn fc] 74)=W:=⟨_,rfl⟩;have HB:Hid (bU PT w.heap.size W r za zn zc ea en ec fa fn fc):=by unfold Hid;rw [<-hW];exact bU.new ⟨h1,h2,h3⟩
 have HG:Hid (ae w W):=by unfold Hid;rw [<-hW];exact ae.alloc _ _
 obtain ⟨k0,k1,k2,k3,kf⟩:=(uh HB).cells;have TR:=af (uM PT (Hs r.size) r (.agg #[.int .i64 r.size,.slice za zn zc,.slice ea en ec,.slice fa fn fc]) W (λ_ _=>trivial) (uh HB).at hok (by omega) hlt (by have h1:=hroom.settle r.size hN;have h2:=H7 (show Hs r.size<=Hs r.size+1 by omega) r.size;omega));have lh:=af hroom;have EG:=af hok;have lC:=af hlt;have Ze:=af htied;have Y3:=af hbd;clear h1 h2 h3 hroom hok hlt htied hbd;go_enter Tryz.func29,Tryz.ntmps29;go_wp2_with fail
 try rw [hW]
 clear hW;refine (uh TR).mono ?_;rintro e w1 ⟨v1,ok,rfl,⟨n',a1,m1,c1,a2,m2,c2,a3,m3,c3,rfl⟩,hb1,ht,hfl⟩;have dN:Hid (ae w w1):=(uh HG).trans hb1;have HOWN:=af (Below.same hb1 _ _ (uh HB).own);obtain ⟨j0,j1,j2,j3,jf⟩:=((uh HB).grow hb1).cells;have f0:=jf 0;have f1:=jf 1;have f2:=jf 2;have f3:=jf 3;clear hb1 TR HB HG k0 k1 k2 k3 kf jf;cases ok with
 | false =>
  have Pe:=af (iU (P:=PT) (uh dN) (d_ _) (uh HOWN) n' a1 m1 c1 a2 m2 c2 a3 m3 c3).1;have Bi:=af (hfl rfl);clear ht hfl;go_wp2;exact t_ (v:=.tuple #[.slice none 0 0,.bool false]) (by simp [results,Tryz.results29,go_sem]) rfl ⟨_,false,rfl,⟨_,_,_,rfl⟩,uh Pe,λh=>(by cases h),λ_=>uh Bi⟩
 | true =>
  obtain ⟨r1,⟨vz,vl,vt,e2,g1,g2,g3⟩,hZ,hc⟩:=ht rfl;have gF:=af (uG (uh EG) (uh lC) (by omega) (uh Ze) hZ hc);obtain ⟨r2,hr2⟩:∃ r2,r1.whole=r2:=⟨_,rfl⟩;rw [hr2] at e2 g1 g2 g3 gF;have e3:=congrArg (λv=>match v with | .agg l=>l.toList | _=>[]) e2
  simp only [List.cons.injEq,and_true,Value.int.injEq,true_and] at e3;obtain ⟨rfl,rfl,rfl,rfl⟩:=e3;clear hr2 hZ hc ht hfl e2;have HST:=af (bU.store (uh dN) (d_ _) (uh HOWN) rfl ⟨g1,g2,g3⟩);generalize xX:(((w1.setCell ⟨w.heap.size,0,none⟩ (.int .i64 r2.size)).setCell ⟨w.heap.size,1,none⟩ (.slice a1 m1 c1)).setCell ⟨w.heap.size,2,none⟩ (.slice a2 m2 c2)).setCell ⟨w.heap.size,3,none⟩ (.slice a3 m3 c3)=W4 at *
  have jO:=af (uh HST).1;have kC:=af (uh HST).2.1;clear g1 g2 g3 HST dN;obtain ⟨k0,k1,k2,k3,kf⟩:=(uh jO).cells;have hsz:r2.size<=r.size:=(uh gF).size;have Ng:Hid (dF (Hs r2.size) r2):=(uh gF).lt.mono (by
   have:=(uh lh).iE (s:=r.size) hN (r.size - r2.size) (by omega);rwa [show r.size - (r.size - r2.size)=r2.size by omega] at this)
  have zJ:Hid (rf (Hs r2.size) r2):=⟨(uh gF).zero,(uh gF).mJ,(uh gF).ok,uh Ng,(uh lh).one _ (by omega),by omega,w_ (uh gF).pI MC,(uh gF).some⟩;have Jm:=af (Ci (uh lh).room r2 (by omega) ⟨(uh gF).ok,(uh Ng).mono ((uh lh).le (by omega)),(uh gF).mJ,by have:=(uh zJ).pI;omega⟩ (.agg #[.int .i64 r2.size,.slice a1 m1 c1,.slice a2 m2 c2,.slice a3 m3 c3]) W4 (uh jO).at);go_wp2_with fail
  try rw [xX]
  clear xX;refine (uh Jm).mono ?_;rintro e w5 ⟨vs,ok,rfl,⟨sa,sn,sc,rfl⟩,hb5,ht,hfl⟩;have jy:=af ((uh jO).grow hb5);have gD:Hid (ae w w5):=(uh kC).trans hb5;have Qj:=af (uh gF).told;have HI0:Hid (ok=true->∃ A,aD PT w5 (.slice sa sn sc) A∧J7 r.dV.kU Hs N r.told.length 0 r2 A):=λho=>by
   obtain ⟨_,A,hA1,hA2⟩:=ht ho;exact ⟨A,hA1,uh zJ,by omega,⟨((uh gF).qG A).1 hA2,λB _ i hi=>absurd hi (aaD i)⟩,λB=>⟨λhB=>⟨((uh gF).qG B).1 hB,λj hj=>absurd hj (aaD j)⟩,λhB=>((uh gF).qG B).2 hB.1⟩⟩
  have HN0:Hid (ok=false->∀ A,¬ r.dV.kU A):=λho A hA=>hfl ho A (((uh gF).qG A).2 hA);clear ht hfl hb5 Jm k0 k1 k2 k3 kf j0 j1 j2 j3 f0 f1 f2 f3 gF Ng zJ jO kC;obtain ⟨T,hT⟩:∃ T,r.told.length=T:=⟨_,rfl⟩;rw [hT] at Qj HI0;have Od:=af hT;clear hT;go_wp2_with fail;go_loopg [4,5,6] T (λk okv pv iv wr=>∃ (i:Nat) (rc:aP) (ok:Bool) (pa:Option Addr) (pn pc:Nat) (za:Option Addr) (zn zc:Nat) (ea:Option Addr) (en ec:Nat) (fa:Option Addr) (fn fc:Nat),okv=.bool ok∧pv=.slice pa pn pc∧iv=.int .i64 i∧i+k=T∧Hid (bU PT w.heap.size wr rc za zn zc ea en ec fa fn fc∧ae w wr∧rc.told.length=T∧(ok=true->∃ A,aD PT wr (.slice pa pn pc) A∧J7 r.dV.kU Hs N T i rc A)∧(ok=false->∀ A,¬ r.dV.kU A)))
  case atStart=>exact ⟨0,r2,ok,sa,sn,sc,_,_,_,_,_,_,_,_,_,rfl,rfl,rfl,by omega,uh jy,uh gD,uh Qj,uh HI0,uh HN0⟩
  case round =>
   clear jy gD Qj HI0 HN0;obtain ⟨i,rc,ok,VS,VT,VU,za,zn,zc,ea,en,ec,fa,fn,fc,rfl,rfl,rfl,hik,HR⟩:=hrel;obtain ⟨k0,k1,k2,k3,kf⟩:=(uh HR).1.cells;have hfn:fn=T:=by rw [<-(uh HR).2.2.1];exact (uh HR).1.rows.told.len
   have HFN:=af hfn;by_cases hend:i<T∧ok=true
   ·obtain ⟨hiT,rfl⟩:=hend;have hif:(i:Int)<(fn:Int):=by omega
    obtain ⟨A,hA,hI⟩:=(uh HR).2.2.2.1 rfl;have Ff:=af hI.fit;have HI:=af hI;have V4:=hI.size;have Qk:i<rc.told.length:=by rw [(uh HR).2.2.1];exact hiT
    have HY:=af (H6 (uh lh).room rc (Hs rc.size) ((rc.size+1)*Hs rc.size+1) i A (.agg #[.int .i64 rc.size,.slice za zn zc,.slice ea en ec,.slice fa fn fc]) (.slice VS VT VU) wr (uh HR).1.at hA ((hI.qG A).2 ⟨hI.low.mem,λ_ _=>rfl⟩) hI.fit V4 Qk (d_ _) ((uh lh).fit _ V4) (λB hB=>(uh Y3 B ((hI.qG B).1 hB).1 i).mono (by omega)) ((uh lh).low _ V4));clear hA hI hfn;go_wp2_with fail;refine (uh HY).mono ?_;rintro e w2 ⟨v2,A',rfl,⟨qa,qn,qc,rfl⟩,hA1,hA2,hA3,hb2⟩;have HB2:=af ((uh HR).1.grow hb2);have HG2:Hid (ae w w2):=(uh HR).2.1.trans hb2;have hAl:i<A'.length:=by rw [FN hA2];exact Qk
    obtain ⟨gp,op,cp,px,pa,pm,pc,ep,p0,p1,hpv⟩:=eU hA1 (i:=i) hAl;cases ep;have wy:=af hpv;have HA1:=af hA1;have HA2:=af hA2;have Za:=af hA3;have HSA:=af (((uh HI).qG A').1 hA2).1;obtain ⟨gu,ou,cu,vu,eu,u0,hu,Y5⟩:=gP (uh HB2).rows.told (i:=i) Qk;have adh:=Y5;cases eu;obtain ⟨ua,un,uc,rfl⟩:=hu.aB;have HU2:=af hu;have I6:Hid ((rc.told.getD i []).length=rc.size+1):=(uh Ff).ok.gT _ Y5;have aky:rc.size<=9:=(uh Ff).size;have hH1:=(uh lh).one rc.size V4;have agZ:=(uh lh).low rc.size V4;have akz:Hs rc.size<=(rc.size+1)*Hs rc.size:=by rw [aa_,abA];omega
    have KL:Hid (Pl.Lt (Hs rc.size) (-A'.getD i 0)):=(Pl.Lt.mono (uh Y3 A' (uh HSA) i) hH1).neg;have hiA:(i:Int)<(A'.length:Int):=by omega
    have hiU:(i:Int)<(rc.told.length:Int):=by omega
    clear k0 k1 k2 k3 kf hb2 hA1 hA2 hA3 hpv hu HY Y5 adh;obtain ⟨k0,k1,k2,k3,kf⟩:=(uh HB2).cells;have akA:=(uh HG2).size;go_wp2_with fail;have y0:=b_ k3;have y1:=b_ u0;have y2:=b_ p0;have y3:=b_ p1;clear k3 u0 p0 p1;refine ah (bZ [(44,λv w=>aD PT w v (bP (rc.told.getD i []) (-A'.getD i 0))),(43,λv w=>aj PT w v (-A'.getD i 0))]) (gL [(43,ag),(44,aZ)]) 57 11 (by kernel_rfl) (by rfl) (by kernel_rfl) (aN (λ_ _ _=>aD.below) (aN (λ_ _ _=>aj.below) cK)) ?_
    iterate 9 (refine aO λK hK=>?_;go_simp;refine hK _ ?_;clear hK K)
    refine ai ag 38 #[.agg #[.int .i64 px,.slice pa pm pc]] (by rfl) (by rfl) ag.some (λw=>by go_simp) (λwq hg hf=>(lF PT _ (A'.getD i 0) wq ((uh wy).below hg)).mono (by rintro e w' ⟨v',rfl,hv,hb⟩;exact ⟨_,rfl,hb,hv.aU,λt ht=>by cases ht;exact hv⟩)) ?_;rintro _ ⟨nx,na,nm,nc,rfl⟩;simp only [Act.put,p_,G_,D_];refine ai aZ 37 #[.slice ua un uc,.agg #[.int .i64 nx,.slice na nm nc]] (by rfl) (by rfl) aZ.some (λw=>by go_simp) (λwq hg hf=>(nC PT (Hs rc.size) (rc.size+1) (rc.told.getD i []) (-A'.getD i 0) _ _ wq (λ_ _=>trivial) ((uh HU2).below hg) (hf 9 (by kernel_rfl) _ 43 rfl rfl) (uh I6) (by omega) (by omega) (λk=>(uh Ff).lt.told i k) (uh KL) (by omega)).mono (by rintro e w' ⟨v',rfl,hv,hb⟩;exact ⟨_,rfl,hb,hv.aB,λt ht=>by cases ht;exact hv⟩)) ?_;rintro _ ⟨sa,sm,sc,rfl⟩;simp only [Act.put,p_,G_,D_];refine aF ?_;intro w3 hg3 aK;have hv3:aD PT w3 (.slice sa sm sc) (bP (rc.told.getD i []) (-A'.getD i 0)):=aK 10 _ 44 (by decide) rfl rfl;clear aK y0 y1 y2 y3 k0 k1 k2 kf;have wS:=af hv3;have HB3:=af ((uh HB2).grow hg3);have jb:Hid (ae w w3):=(uh HG2).trans hg3;have Zf:=af ((uh HA1).below hg3);have k0:=(uh HB3).cells.1;have k1:=(uh HB3).cells.2.1;have k2:=(uh HB3).cells.2.2.1;have k3:=(uh HB3).cells.2.2.2.1;clear hv3 hg3;have HWI:=af (yU PT rc.zero (bP (rc.told.getD i []) (-A'.getD i 0)) (.slice za zn zc) (.slice sa sm sc) w3 (λ_ _=>trivial) (uh HB3).rows.zero (uh wS) (by rw [(uh Ff).zero];decide));go_wp2_with fail;refine (uh HWI).mono ?_;rintro e w4 ⟨v4,rfl,hv4,hb4⟩;obtain ⟨ha,hm,hc,rfl⟩:=hv4.aB;have jO:=af ((uh HB3).grow hb4);have MO:=af (H8 (uh jO) hv4);have gD:Hid (ae w (w4.setCell ⟨w.heap.size,1,none⟩ (.slice ha hm hc))):=B_ (p:=⟨w.heap.size,1,none⟩) ((uh jb).trans hb4) (d_ _) _;have adi:Hid (aD PT (w4.setCell ⟨w.heap.size,1,none⟩ (.slice ha hm hc)) (.slice (some ⟨gp,op,none⟩) A'.length qc) A'):=((uh Zf).below hb4).holds (bQ (uh jO).own (by decide) (λe=>absurd e (by decide)) _ _);have q1:=(uh jO).cells.2.1;have qf:=(uh jO).cells.2.2.2.2 1;clear hv4 hb4 HWI k0 k1 k2 k3 HB3 jb Zf;generalize Bh:w4.setCell ⟨w.heap.size,1,none⟩ (.slice ha hm hc)=W5 at *
    obtain ⟨row,hrow⟩:∃ row,bP (rc.told.getD i []) (-A'.getD i 0)=row:=⟨_,rfl⟩;have FH:Hid (∀ k,Pl.Lt (Hs rc.size+1) (row.getD k 0)):=by unfold Hid;rw [<-hrow];exact rX (λk=>(uh Ff).lt.told i k) (uh KL)
    have HBA:Hid (∀ B,(rc.bound row).dV.kU B↔rc.dV.kU B∧B.getD i 0=A'.getD i 0):=by unfold Hid;rw [<-hrow];exact Na (uh Ff).ok Qk _
    have HBO:Hid (eH (rc.bound row)):=by unfold Hid;rw [<-hrow];exact PY (uh Ff).ok Qk _ (by rw [(uh Ff).zero];decide)
    have HBL:Hid (dF (Hs rc.size+1) (rc.bound row)):=by unfold Hid;rw [<-hrow];exact PZ (uh Ff).lt i (uh KL)
    have HBT:Hid ((rc.bound row).dV.gJ):=J6 (uh Ff).mJ row;rw [hrow] at MO;clear hrow;obtain ⟨z0,z1,z2,z3,zf⟩:=(uh MO).cells;have Le:W5.cell? ⟨w.heap.size,0,none⟩=some (.int .i64 rc.size):=z0;have TR:=af (uM PT (Hs rc.size+1) (rc.bound row) (.agg #[.int .i64 rc.size,.slice ha hm hc,.slice ea en ec,.slice (some ⟨gu,ou,none⟩) rc.told.length fc]) W5 (λ_ _=>trivial) (uh MO).at (uh HBO) (by show rc.size<=100;omega) (uh HBL) ((uh lh).settle rc.size V4));clear z0;go_wp2_with fail
    try rw [Bh]
    clear Bh q1 qf;refine (uh TR).mono ?_;rintro e w6 ⟨v6,ok,rfl,⟨n',b1,n1,d1,b2,n2,d2,b3,n3,d3,rfl⟩,hb6,ht,hfl⟩;cases ok with
    | false =>
     exfalso;exact hfl rfl A' ((uh HBA A').2 ⟨uh HA2,rfl⟩)
    | true =>
     obtain ⟨r1,⟨vz,vl,vt,e2,g1,g2,g3⟩,hZ,hcc⟩:=ht rfl;have gF:=af (uG (uh HBO) (uh HBL) (by show rc.size<=100;omega) (uh HBT) hZ hcc);have Sb:=af (DY (uh lh) V4 (uh Ff).zero (uh Ff).lt (uh FH) hN9 hZ);have hsz1:r1.whole.size=r1.size:=rfl;rw [<-hsz1] at Sb;obtain ⟨r2',hr2⟩:∃ r2,r1.whole=r2:=⟨_,rfl⟩;rw [hr2] at e2 g1 g2 g3 gF Sb;have e3:=congrArg (λv=>match v with | .agg l=>l.toList | _=>[]) e2
     simp only [List.cons.injEq,and_true,Value.int.injEq,true_and] at e3;obtain ⟨rfl,rfl,rfl,rfl⟩:=e3;clear hr2 hZ hcc ht hfl e2 hsz1;have Zg:=af (Below.same hb6 _ _ (uh MO).own);have lT:Hid (ae w w6):=(uh gD).trans hb6;have SB:=af (bU.store (uh lT) (d_ _) (uh Zg) rfl ⟨g1,g2,g3⟩);have adj:=af (((uh adi).below hb6).holds (uh SB).2.2);obtain ⟨j0,j1,j2,j3,jf⟩:=((uh MO).grow hb6).cells;have j0':w6.cell? ⟨w.heap.size,0,none⟩=some (.int .i64 rc.size):=j0;have f0:=jf 0;have f1:=jf 1;have f2:=jf 2;have f3:=jf 3;have HI2:Hid (J7 r.dV.kU Hs N T (i+1) r2' A') :=
      ⟨⟨(uh gF).zero,(uh gF).mJ,(uh gF).ok,uh Sb,(uh lh).one _ (by have h1:r2'.size<=rc.size:=(uh gF).size;omega),by have h1:r2'.size<=rc.size:=(uh gF).size;omega,w_ (uh gF).pI (uh Ff).pI,(uh gF).some⟩,
       by have h1:r2'.size<=rc.size:=(uh gF).size;omega,
       (uh HI).low.step (uh HI).qG (uh HA2) (uh Za),
       λB=>((uh gF).qG B).trans ((uh HBA B).trans (Ay.next (uh HI).qG (uh HA2) B))⟩
     have HT2:Hid (r2'.told.length=T):=(uh gF).told.trans (uh HR).2.2.1;have wU:=af (uh SB).1;have Du:=af (uh SB).2.1;have akC:i<1000:=by have:=(uh Ff).ok.uN;omega
     clear g1 g2 g3 hb6 SB jf j0 TR Le z1 z2 z3 zf;go_wp2;go_roundg (gk - 1)
     case measure=>omega
     case rel=>exact ⟨i+1,r2',true,_,_,_,_,_,_,_,_,_,_,_,_,rfl,rfl,by simp,by omega,uh wU,uh Du,uh HT2,λ_=>⟨A',uh adj,uh HI2⟩,λh=>(by cases h)⟩
   ·have Pe:=af (uh HR).2.1;have hT2:=(uh HR).2.2.1;cases ok with
    | false =>
     have Bi:=af ((uh HR).2.2.2.2 rfl);clear hend hfn;by_cases hlt:(i:Int)<(fn:Int)
     ·go_wp2;exact t_ (v:=.tuple #[.slice VS VT VU,.bool false]) (by simp [results,Tryz.results29,go_sem]) rfl ⟨_,false,rfl,⟨_,_,_,rfl⟩,uh Pe,λh=>(by cases h),λ_=>uh Bi⟩
     ·go_wp2;exact t_ (v:=.tuple #[.slice VS VT VU,.bool false]) (by simp [results,Tryz.results29,go_sem]) rfl ⟨_,false,rfl,⟨_,_,_,rfl⟩,uh Pe,λh=>(by cases h),λ_=>uh Bi⟩
    | true =>
     have hiT:¬ (i<T):=λh=>hend ⟨h,rfl⟩;have hif:¬ ((i:Int)<(fn:Int)):=by omega
     obtain ⟨A,hA,hI⟩:=(uh HR).2.2.2.1 rfl;have HA:=af hA;have SA:Hid (r.dV.kU A∧∀ B,r.dV.kU B->¬ lexLt B A):=⟨hI.low.mem,λB hB=>hI.low.least hB (by rw [FN hB];have:=uh Od;omega)⟩;clear hA hI hend hfn;go_wp2;exact t_ (v:=.tuple #[.slice VS VT VU,.bool true]) (by simp [results,Tryz.results29,go_sem]) rfl ⟨_,true,rfl,⟨_,_,_,rfl⟩,uh Pe,λ_=>⟨A,uh HA,(uh SA).1,(uh SA).2⟩,λh=>(by cases h)⟩
end
abbrev dS:=List Int × Int × Bool
def zR (q:dS):List Int:=q.2.1::q.1
def rq (n i:Nat) (v:Int × Int):List (List Int):=[bP (dh n i) (-v.1),bP ((dh n i).map λx=>-x) v.2]
def eF (n:Nat) (vs:List (Int × Int)) (k:Nat):List (List Int):=(List.range k).flatMap λi=>rq n i (vs.getD i (0,0))
def gT (n k:Nat):List (List Int):=(List.range k).map (dh n)
def iY (rs:List dS):List (List Int):=(rs.filter λq=>q.2.2).map zR
def dQ (rs:List dS):List (List Int):=(rs.filter λq=>!q.2.2).map zR
def j6 (vs:List (Int × Int)) (rs:List dS):aP:=⟨vs.length,iY rs,eF vs.length vs vs.length++dQ rs,gT vs.length vs.length⟩
theorem yY (n:Nat) (vs:List (Int × Int)) (k:Nat):eF n vs (k+1)=eF n vs k++rq n k (vs.getD k (0,0)):=by
 unfold eF;rw [abD,List.flatMap_append];simp
theorem Kb (n k:Nat):gT n (k+1)=gT n k++[dh n k]:=by unfold gT;rw [abD,aa4];rfl
structure fI (vs:List (Int × Int)):Prop where
 one:1<=vs.length
 four:vs.length<=4
 lo:∀ v∈vs,-1000000000<=v.1∧v.1<=1000000000
 hi:∀ v∈vs,-1000000000<=v.2∧v.2<=1000000000
 le:∀ v∈vs,v.1<=v.2
structure lI (n:Nat) (rs:List dS):Prop where
 pI:rs.length<=8
 len:∀ q∈rs,q.1.length=n
 c:∀ q∈rs,∀ x∈q.1,-1000<=x∧x<=1000
 k:∀ q∈rs,-1000000000000<=q.2.1∧q.2.1<=1000000000000
def rowAt (q:dS) (A:List Int):Int:=q.2.1+Pl.sm A.length (λi=>q.1.getD i 0*A.getD i 0)
structure kS (vs:List (Int × Int)) (rs:List dS) (A:List Int):Prop where
 len:A.length=vs.length
 range:∀ i,i<vs.length->(vs.getD i (0,0)).1<=A.getD i 0∧A.getD i 0<=(vs.getD i (0,0)).2
 rows:∀ q∈rs,0<=rowAt q A∧(q.2.2=true->rowAt q A=0)
section
variable {vs:List (Int × Int)} {rs:List dS}
theorem jE {i:Nat} (h:i<vs.length):vs.getD i (0,0)∈vs:=by
 rw [a_,f_ h];exact aak _
theorem vC {n k:Nat} {a:List Int} (h:a∈eF n vs k):∃ i,i<k∧a∈rq n i (vs.getD i (0,0)):=by
 obtain ⟨i,hi,ha⟩:=List.mem_flatMap.1 h;exact ⟨i,V_.1 hi,ha⟩
theorem tQ {n k i:Nat} (hi:i<k) {a:List Int} (ha:a∈rq n i (vs.getD i (0,0))):a∈eF n vs k:=List.mem_flatMap.2 ⟨i,V_.2 hi,ha⟩
theorem iA (n i:Nat):(dh n i).length=n+1:=by simp [dh]
theorem Kc {n i:Nat} {v:Int × Int} {a:List Int} (h:a∈rq n i v):a.length=n+1:=by
 unfold rq at h;rcases aa0.1 h with rfl|h
 ·rw [tK,iA]
 ·rw [I_.1 h,tK,L_,iA]
theorem lW (n:Nat) (vs:List (Int × Int)):∀ k,(eF n vs k).length=2*k
 | 0=>rfl
 | k+1=>by rw [yY,C_,lW n vs k];show _+2=_;omega
theorem Ke (n:Nat) (q:dS) (x:Nat->Int):Pl.ev n (lf (zR q)) (Pl.pt x)=q.2.1+Pl.sm n (λi=>q.1.getD i 0*x i):=by
 rw [Pl.kR];rfl
theorem Ih (x:Nat->Int):(j6 vs rs).dV.fB x=(List.range vs.length).map x:=by
 have e:(j6 vs rs).dV.fB x=(j6 vs rs).told.map λa=>Pl.ev vs.length (lf a) (Pl.pt x):=by
  show (((j6 vs rs).told.map lf).map λs=>Pl.ev vs.length s (Pl.pt x))=_;rw [List.map_map];rfl
 rw [e];show ((List.range vs.length).map (dh vs.length)).map _=_;rw [List.map_map];refine aa1 λi hi=>?_;exact nZ (V_.1 hi) x
theorem CS (q:dS) (x:Nat->Int):rowAt q ((List.range vs.length).map x)=q.2.1+Pl.sm vs.length (λi=>q.1.getD i 0*x i):=by
 unfold rowAt;rw [show ((List.range vs.length).map x).length=vs.length by simp];congr 1;exact Pl.aC λi hi=>by rw [Pl.bJ _ _ _ hi]
theorem Qs (x:Nat->Int):(j6 vs rs).dV.Has x↔kS vs rs ((List.range vs.length).map x):=by
 have hx:∀ i,i<vs.length->((List.range vs.length).map x).getD i 0=x i:=λi hi=>Pl.bJ _ _ _ hi;constructor
 ·intro h;refine ⟨by simp,λi hi=>?_,λq hq=>?_⟩
  ·rw [hx i hi];have h1:0<=Pl.ev vs.length (lf (bP (dh vs.length i) (-(vs.getD i (0,0)).1))) (Pl.pt x):=h.least _ (m_.2 ⟨_,F_.2 (.inl (tQ hi (abz ..))),rfl⟩);have h2:0<=Pl.ev vs.length (lf (bP ((dh vs.length i).map λx=>-x) (vs.getD i (0,0)).2)) (Pl.pt x):=h.least _ (m_.2 ⟨_,F_.2 (.inl (tQ hi (aaV _ (I_.2 rfl)))),rfl⟩);rw [nA _ _ _ (by rw [iA];omega),nZ hi] at h1;rw [nA _ _ _ (by rw [L_,iA];omega),tJ,zQ,nZ hi] at h2;omega
  ·rw [CS,<-Ke];by_cases hb:q.2.2=true
   ·have h1:Pl.ev vs.length (lf (zR q)) (Pl.pt x)=0:=h.zero _ (m_.2 ⟨zR q,m_.2 ⟨q,aaR.2 ⟨hq,hb⟩,rfl⟩,rfl⟩);rw [h1];exact ⟨aaU _,λ_=>rfl⟩
   ·have h1:0<=Pl.ev vs.length (lf (zR q)) (Pl.pt x):=h.least _ (m_.2 ⟨zR q,F_.2 (.inr (m_.2 ⟨q,aaR.2 ⟨hq,by simp [hb]⟩,rfl⟩)),rfl⟩);exact ⟨h1,λe=>absurd e hb⟩
 ·intro h;refine ⟨λs hs=>?_,λs hs=>?_⟩
  ·obtain ⟨a,ha,rfl⟩:=m_.1 hs;obtain ⟨q,hq,rfl⟩:=m_.1 ha;obtain ⟨hq1,hq2⟩:=aaR.1 hq;have h1:=(h.rows q hq1).2 hq2;rw [CS,<-Ke] at h1;exact h1
  ·obtain ⟨a,ha,rfl⟩:=m_.1 hs;show 0<=Pl.ev vs.length (lf a) (Pl.pt x);rcases F_.1 ha with ha|ha
   ·obtain ⟨i,hi,ha⟩:=vC ha;have h1:=h.range i hi;rw [hx i hi] at h1;unfold rq at ha;rcases aa0.1 ha with rfl|ha
    ·rw [nA _ _ _ (by rw [iA];omega),nZ hi];omega
    ·rw [I_.1 ha,nA _ _ _ (by rw [L_,iA];omega),tJ,zQ,nZ hi];omega
   ·obtain ⟨q,hq,rfl⟩:=m_.1 ha;obtain ⟨hq1,_⟩:=aaR.1 hq;have h1:=(h.rows q hq1).1;rw [CS,<-Ke] at h1;exact h1
theorem FR (A:List Int):(j6 vs rs).dV.kU A↔kS vs rs A:=by
 constructor
 ·rintro ⟨x,h1,rfl⟩;rw [Ih];exact (Qs x).1 h1
 ·intro h;have e:(List.range vs.length).map (λi=>A.getD i 0)=A:=by
   apply List.ext_getElem
   ·simp [h.len]
   ·intro i h1 h2;simp [a_,f_ h2]
  exact ⟨λi=>A.getD i 0,(Qs _).2 (by rw [e];exact h),by rw [Ih];exact e⟩
theorem SS:(j6 vs rs).dV.gJ:=by
 intro D _ h i hi;have hi':i<vs.length:=hi;have key:∀ a:List Int,a∈(j6 vs rs).least->0<=Pl.dir vs.length (lf a) D:=λa ha=>h _ (m_.2 ⟨a,ha,rfl⟩);have h1:=key _ (F_.2 (.inl (tQ hi' (abz ..))));have h2:=key _ (F_.2 (.inl (tQ hi' (aaV _ (I_.2 rfl)))));have dr:∀ (a:List Int) (v:Int),0<a.length->Pl.dir vs.length (lf (bP a v)) D=Pl.dir vs.length (lf a) D:=λa v h0=>by
  unfold Pl.dir;exact Pl.aC λk _=>by rw [wu a v h0,g_ (by omega)]
 have dc:Pl.dir vs.length (lf (dh vs.length i)) D=D i:=by
  have e1:=nZ hi' D;rw [Pl.kR] at e1;have e2:lf (dh vs.length i) 0=0:=by
   unfold lf dh;rw [Pl.bJ _ _ _ (by omega)];unfold Pl.unit;rw [g_ (by omega)]
  unfold Pl.dir;omega
 have dn:Pl.dir vs.length (lf ((dh vs.length i).map λx=>-x)) D=-D i:=by
  rw [tJ];have:Pl.dir vs.length (λk=>-lf (dh vs.length i) k) D=-Pl.dir vs.length (lf (dh vs.length i)) D:=by
   unfold Pl.dir;rw [<-Int.neg_one_mul,<-Pl.dz];exact Pl.aC λk _=>by rw [aaP,Int.neg_one_mul]
  rw [this,dc]
 rw [dr _ _ (by rw [iA];omega),dc] at h1;rw [dr _ _ (by rw [L_,iA];omega),dn] at h2;omega
theorem Zz (hv:fI vs) (hr:lI vs.length rs):eH (j6 vs rs):=by
 have h4:=hv.four;have h8:=hr.pI;have hz:(iY rs).length<=8:=by unfold iY;rw [L_];exact w_ (abw _ _) h8
 have hl:(dQ rs).length<=8:=by unfold dQ;rw [L_];exact w_ (abw _ _) h8
 have hrow:∀ q∈rs,(zR q).length=vs.length+1:=λq hq=>by show q.1.length+1=_;rw [hr.len q hq]
 refine ⟨λl h=>?_,λl h=>?_,λl h=>?_,by show (iY rs).length<=1000;omega,?_,?_⟩
 ·obtain ⟨q,hq,rfl⟩:=m_.1 h;exact hrow q (aaR.1 hq).1
 ·rcases F_.1 h with h | h
  ·obtain ⟨i,_,ha⟩:=vC h;exact Kc ha
  ·obtain ⟨q,hq,rfl⟩:=m_.1 h;exact hrow q (aaR.1 hq).1
 ·obtain ⟨i,_,rfl⟩:=m_.1 h;exact iA _ _
 ·show (eF vs.length vs vs.length++dQ rs).length<=1000;rw [C_,lW];omega
 ·show ((List.range vs.length).map _).length<=1000;rw [L_,List.length_range];omega
theorem nE {x:Int} {K:Nat} (h:x.natAbs<1073741824^K):Pl.Lt K x:=by rw [Pl.dZ];exact h
theorem of_lt (hv:fI vs) (hr:lI vs.length rs):dF 2 (j6 vs rs):=by
 have hrow:∀ q∈rs,∀ k,Pl.Lt 2 ((zR q).getD k 0):=λq hq k=>by
  cases k with
  | zero=>have:=hr.k q hq;exact nE (show q.2.1.natAbs<1152921504606846976 by omega)
  | succ k =>
   show Pl.Lt 2 (q.1.getD k 0);rw [a_];rcases hk:q.1[k]? with _|x
   ·exact lq 2
   ·have:=hr.c q hq x (abn hk);exact nE (show x.natAbs<1152921504606846976 by omega)
 have hco:∀ i k,Pl.Lt 1 ((dh vs.length i).getD k 0):=λi k=>uZ (d_ _) k;have hrange:∀ i,i<vs.length->∀ a∈rq vs.length i (vs.getD i (0,0)),∀ k,Pl.Lt 2 (a.getD k 0):=λi hi a ha k=>by
  have h1:=hv.lo _ (jE hi);have h2:=hv.hi _ (jE hi);unfold rq at ha;rcases aa0.1 ha with rfl|ha
  ·exact rX (hco i) (nE (show (-(vs.getD i (0,0)).1).natAbs<1073741824 by omega)) k
  ·rw [I_.1 ha];exact rX (CG (hco i)) (nE (show ((vs.getD i (0,0)).2).natAbs<1073741824 by omega)) k
 refine ⟨lV λa ha=>?_,lV λa ha=>?_,lV λa ha=>?_⟩
 ·obtain ⟨q,hq,rfl⟩:=m_.1 ha;exact hrow q (aaR.1 hq).1
 ·rcases F_.1 ha with ha | ha
  ·obtain ⟨i,hi,ha⟩:=vC ha;exact hrange i hi a ha
  ·obtain ⟨q,hq,rfl⟩:=m_.1 ha;exact hrow q (aaR.1 hq).1
 ·obtain ⟨i,_,rfl⟩:=m_.1 ha;exact λk=>(hco i k).mono (by omega)
theorem Ii (hv:fI vs) {A:List Int} (h:kS vs rs A) (i:Nat):Pl.Lt 1 (A.getD i 0)∧-1000000000<=A.getD i 0∧A.getD i 0<=1000000000:=by
 have key:-1000000000<=A.getD i 0∧A.getD i 0<=1000000000:=by
  by_cases hi:i<vs.length
  ·have h1:=hv.lo _ (jE hi);have h2:=hv.hi _ (jE hi);have h3:=h.range i hi;omega
  ·rw [a_,O_ (by rw [h.len];omega)];decide
 exact ⟨nE (show (A.getD i 0).natAbs<1073741824 by omega),key⟩
end
end
def ZA:Nat->Nat
 | 0=>53166996806
 | 1=>708893290
 | 2=>3616802
 | 3=>8930
 | _=>12
def Qt:Nat->Nat
 | 0=>177186
 | 1=>11811
 | 2=>786
 | 3=>51
 | _=>2
theorem kK {P:Nat->Prop} (h0:P 0) (h1:P 1) (h2:P 2) (h3:P 3) (h4:P 4) (s:Nat) (h:s<=4):P s:=by
 rcases (show s=0∨s=1∨s=2∨s=3∨s=4 by omega) with e|e|e|e|e <;> (subst e;assumption)
theorem xM {P:Nat->Prop} (h0:P 0) (h1:P 1) (h2:P 2) (h3:P 3) (s:Nat) (h:s<4):P s:=by
 rcases (show s=0∨s=1∨s=2∨s=3 by omega) with e|e|e|e <;> (subst e;assumption)
theorem Nq:AB 4 ZA Qt :=
 ⟨⟨by decide,kK (by decide) (by decide) (by decide) (by decide) (by decide),xM (by decide) (by decide) (by decide) (by decide),xM (by decide) (by decide) (by decide) (by decide),kK (by decide) (by decide) (by decide) (by decide) (by decide),kK (by decide) (by decide) (by decide) (by decide) (by decide),kK (by decide) (by decide) (by decide) (by decide) (by decide)⟩,
  kK (by decide) (by decide) (by decide) (by decide) (by decide),xM (by decide) (by decide) (by decide) (by decide),kK (by decide) (by decide) (by decide) (by decide) (by decide),kK (by decide) (by decide) (by decide) (by decide) (by decide),kK (by decide) (by decide) (by decide) (by decide) (by decide)⟩
theorem Nr {n:Nat} (h:n<=4):2<=Qt n:=kK (P:=λn=>2<=Qt n) (by decide) (by decide) (by decide) (by decide) (by decide) n h
theorem Ij {vs:List (Int × Int)} {rs:List dS} (hv:fI vs) (hr:lI vs.length rs) (vr:Value) (w:World) (h:jT PT w vr (j6 vs rs)) :
  Calls Tryz.prog 29 #[vr] w (EF (j6 vs rs) w) :=
 CO Nq (j6 vs rs) vr w h hv.four (Zz hv hr) ((of_lt hv hr).mono (Nr hv.four)) SS (by
  show (eF vs.length vs vs.length++dQ rs).length<=700;rw [C_,lW];have h1:=hv.four;have h2:(dQ rs).length<=8:=by unfold dQ;rw [L_];exact w_ (abw _ _) hr.pI
  omega) (λB hB i=>(Ii hv ((FR B).1 hB) i).1)
end Go.Proofs.YtgaafamcajcifaaGreat
