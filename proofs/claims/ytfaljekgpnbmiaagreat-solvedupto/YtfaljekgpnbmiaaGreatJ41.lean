/- Joined: XLow4 XOf1 XOf2. -/
import Derived.Test.YtfaljekgpnbmiaaGreatJ37
import Derived.Test.YtfaljekgpnbmiaaGreatJ40
set_option linter.unusedVariables false
set_option linter.unusedSimpArgs false
set_option maxRecDepth 100000
namespace Go.Proofs.YtfaljekgpnbmiaaGreat
open Go.RowKit Go.Sort
structure AL (N:Nat) (G Hs:Nat->Nat):Prop where
 room:Room N G
 one:∀ s,s<=N->1<=Hs s
 drop:∀ s,s<N->15*(Hs (s+1)+1)+6<=Hs s
 fit:∀ s,s<=N->(s+1)*Hs s+2<=G s
 low:∀ s,s<=N->3*((s+1)*Hs s+1)+20<=1500000000000
 settle:∀ s,s<=N->20*iG (Hs s+1) s+10<=1500000000000
theorem Ic {L L':Nat} (h:L<=L'):∀ k,iG L k<=iG L' k
 | 0=>h
 | k+1=>by show 15*iG L k+6<=15*iG L' k+6;have:=Ic h k;omega
theorem AL.iG {N:Nat} {G Hs:Nat->Nat} (h:AL N G Hs) {s:Nat} (hs:s<=N):∀ k,k<=s->iG (Hs s) k<=Hs (s - k)
 | 0,_=>d_ _
 | k+1,hk=>by
  have h1:=AL.iG h hs k (by omega);have h2:=h.drop (s - (k+1)) (by omega);rw [show s - (k+1)+1=s - k by omega] at h2;show 15*Go.Proofs.YtfaljekgpnbmiaaGreat.iG (Hs s) k+6<=_;omega
theorem AL.le {N:Nat} {G Hs:Nat->Nat} (h:AL N G Hs) {s:Nat} (hs:s<=N):Hs s<=G s:=by
 have h1:=h.fit s hs;rw [abC,ab4] at h1;omega
theorem D6 {N:Nat} {G Hs:Nat->Nat} (h:AL N G Hs) {rc r1:aP} {row:List Int} (hN:rc.size<=N) (hz:rc.zero=[]) (hlt:dG (Hs rc.size) rc) (hrow:∀ k,Pl.Lt (Hs rc.size+1) (row.getD k 0)) (hN9:N<=9) (hZ:fF (rc.bound row) (rc.bound row).zero.length r1):dG (Hs r1.size) r1.whole:=by
 have e1:(rc.bound row).zero.length=1:=by show (rc.zero++[row]).length=1;rw [hz];rfl
 rw [e1] at hZ;obtain ⟨T,h0,h1,h2⟩:=hZ;have hs:=h2 0 (by omega);rw [h0,show 0+1=1 from rfl,h1] at hs;have el:(rc.bound row).less=rc:=by
  unfold aP.less aP.bound;rw [hz];cases rc;simp at hz ⊢
  first | exact hz | exact hz.symm
 have elast:(rc.bound row).bO=row:=by
  unfold aP.bO aP.bound;rw [hz];rfl
 obtain ⟨_,hw⟩:=hs;rw [el,elast] at hw;refine dG.whole ?_;rcases hw.lt2 (by omega) (hlt.mono (Nat.le_succ _)) hrow with e|⟨e,hl⟩
 ·rw [e];exact hlt
 ·refine hl.mono ?_;have:=h.drop r1.size (by omega);rw [e] at this;exact this
theorem Ie {g:Nat} {w:World} {r:aP} {za ea fa ha:Option Addr} {zn zc en ec fn fc hm hc:Nat} {row:List Int} (h:bV PT g w r za zn zc ea en ec fa fn fc) (hv:aM PT w (.slice ha hm hc) (r.zero++[row])):bV PT g (w.setCell ⟨g,1,none⟩ (.slice ha hm hc)) (r.bound row) ha hm hc ea en ec fa fn fc:=by
 have hh:Holds PT w (w.setCell ⟨g,1,none⟩ (.slice ha hm hc)):=bR h.own (by decide) (λe=>absurd e (by decide)) _ _;have e:=j_ w g 1 _ _ (.slice ha hm hc) h.own;exact ⟨e,hv.holds hh,h.rows.least.holds hh,h.rows.told.holds hh⟩
def EI (r:aP) (w:World) (e:Ending) (w':World):Prop:=∃ (vs:Value) (ok:Bool),e=.returned (.tuple #[vs,.bool ok])∧bf vs∧Below w.heap.size w w'∧(ok=true->∃ A,aD PT w' vs A∧r.dX.kW A∧∀ B,r.dX.kW B->¬ lexLt B A)∧(ok=false->∀ A,¬ r.dX.kW A)
structure KF (S:List Int->Prop) (Hs:Nat->Nat) (N T i:Nat) (rc:aP) (A:List Int):Prop where
 fit:ru (Hs rc.size) rc
 size:rc.size<=N
 low:AA S i A
 qI:∀ B,rc.dX.kW B↔S B∧∀ j,j<i->B.getD j 0=A.getD j 0
section
section
attribute [local go_sem] bE
set_option maxHeartbeats 2000000 in
theorem CQ {N:Nat} {G Hs:Nat->Nat} (hroom:AL N G Hs) (r:aP) (vr:Value) (w:World) (h:jV PT w vr r) (hN:r.size<=N) (hok:eP r) (hlt:dG (Hs r.size) r) (htied:r.dX.gM) (Nl:r.least.length<=700) (hbd:∀ B,r.dX.kW B->∀ i,Pl.Lt 1 (B.getD i 0)) :
  Calls Tryz.prog 121 #[vr] w (EI r w):=by
 obtain ⟨vz,vl,vt,rfl,h1,h2,h3⟩:=h;obtain ⟨za,zn,zc,rfl⟩:=h1.aB;obtain ⟨ea,en,ec,rfl⟩:=h2.aB;obtain ⟨fa,fn,fc,rfl⟩:=h3.aB;have hN9:=hroom.room.size;obtain ⟨W,hW⟩:∃ W,w.alloc (.cells #[.int .i64 r.size,.slice za zn zc,.slice ea en ec,.slice fa fn fc] 164)=W:=⟨_,rfl⟩;have HB:Hid (bV PT w.heap.size W r za zn zc ea en ec fa fn fc):=by unfold Hid;rw [<-hW];exact bV.new ⟨h1,h2,h3⟩
 have HG:Hid (ae w W):=by unfold Hid;rw [<-hW];exact ae.alloc _ _
 obtain ⟨k0,k1,k2,k3,kf⟩:=(uh HB).cells;have UE:=af (uO PT (Hs r.size) r (.agg #[.int .i64 r.size,.slice za zn zc,.slice ea en ec,.slice fa fn fc]) W (λ_ _=>trivial) (uh HB).at hok (by omega) hlt (by have h1:=hroom.settle r.size hN;have h2:=Ic (show Hs r.size<=Hs r.size+1 by omega) r.size;omega));have lu:=af hroom;have EJ:=af hok;have lF:=af hlt;have ZV:=af htied;have ZJ:=af hbd;clear h1 h2 h3 hroom hok hlt htied hbd;go_enter Tryz.func121,Tryz.ntmps121;go_wp2_with fail
 try rw [hW]
 clear hW;refine (uh UE).mono ?_;rintro e w1 ⟨v1,ok,rfl,⟨n',a1,m1,c1,a2,m2,c2,a3,m3,c3,rfl⟩,hb1,ht,hfl⟩;have dP:Hid (ae w w1):=(uh HG).trans hb1;have HOWN:=af (Below.same hb1 _ _ (uh HB).own);obtain ⟨j0,j1,j2,j3,jf⟩:=((uh HB).grow hb1).cells;have f0:=jf 0;have f1:=jf 1;have f2:=jf 2;have f3:=jf 3;clear hb1 UE HB HG k0 k1 k2 k3 kf jf;cases ok with
 | false =>
  have Qa:=af (iW (P:=PT) (uh dP) (d_ _) (uh HOWN) n' a1 m1 c1 a2 m2 c2 a3 m3 c3).1;have Bl:=af (hfl rfl);clear ht hfl;go_wp2;exact t_ (v:=.tuple #[.slice none 0 0,.bool false]) (by simp [results,Tryz.results121,go_sem]) rfl ⟨_,false,rfl,⟨_,_,_,rfl⟩,uh Qa,λh=>(by cases h),λ_=>uh Bl⟩
 | true =>
  obtain ⟨r1,⟨vz,vl,vt,e2,g1,g2,g3⟩,hZ,hc⟩:=ht rfl;have gH:=af (uI (uh EJ) (uh lF) (by omega) (uh ZV) hZ hc);obtain ⟨r2,hr2⟩:∃ r2,r1.whole=r2:=⟨_,rfl⟩;rw [hr2] at e2 g1 g2 g3 gH;have e3:=congrArg (λv=>match v with | .agg l=>l.toList | _=>[]) e2
  simp only [List.cons.injEq,adh,Value.int.injEq,adV] at e3;obtain ⟨rfl,rfl,rfl,rfl⟩:=e3;clear hr2 hZ hc ht hfl e2;have HST:=af (bV.store (uh dP) (d_ _) (uh HOWN) rfl ⟨g1,g2,g3⟩);generalize xZ:(((w1.setCell ⟨w.heap.size,0,none⟩ (.int .i64 r2.size)).setCell ⟨w.heap.size,1,none⟩ (.slice a1 m1 c1)).setCell ⟨w.heap.size,2,none⟩ (.slice a2 m2 c2)).setCell ⟨w.heap.size,3,none⟩ (.slice a3 m3 c3)=W4 at *
  have jQ:=af (uh HST).1;have kE:=af (uh HST).2.1;clear g1 g2 g3 HST dP;obtain ⟨k0,k1,k2,k3,kf⟩:=(uh jQ).cells;have hsz:r2.size<=r.size:=(uh gH).size;have NY:Hid (dG (Hs r2.size) r2):=(uh gH).lt.mono (by
   have:=(uh lu).iG (s:=r.size) hN (r.size - r2.size) (by omega);rwa [show r.size - (r.size - r2.size)=r2.size by omega] at this)
  have zL:Hid (ru (Hs r2.size) r2):=⟨(uh gH).zero,(uh gH).mO,(uh gH).ok,uh NY,(uh lu).one _ (by omega),by omega,w_ (uh gH).pK Nl,(uh gH).some⟩;have Jr:=af (Ck (uh lu).room r2 (by omega) ⟨(uh gH).ok,(uh NY).mono ((uh lu).le (by omega)),(uh gH).mO,by have:=(uh zL).pK;omega⟩ (.agg #[.int .i64 r2.size,.slice a1 m1 c1,.slice a2 m2 c2,.slice a3 m3 c3]) W4 (uh jQ).at);go_wp2_with fail
  try rw [xZ]
  clear xZ;refine (uh Jr).mono ?_;rintro e w5 ⟨vs,ok,rfl,⟨sa,sn,sc,rfl⟩,hb5,ht,hfl⟩;have jB:=af ((uh jQ).grow hb5);have gG:Hid (ae w w5):=(uh kE).trans hb5;have QW:=af (uh gH).told;have HI0:Hid (ok=true->∃ A,aD PT w5 (.slice sa sn sc) A∧KF r.dX.kW Hs N r.told.length 0 r2 A):=λho=>by
   obtain ⟨_,A,hA1,hA2⟩:=ht ho;exact ⟨A,hA1,uh zL,by omega,⟨((uh gH).qI A).1 hA2,λB _ i hi=>absurd hi (aaL i)⟩,λB=>⟨λhB=>⟨((uh gH).qI B).1 hB,λj hj=>absurd hj (aaL j)⟩,λhB=>((uh gH).qI B).2 hB.1⟩⟩
  have HN0:Hid (ok=false->∀ A,¬ r.dX.kW A):=λho A hA=>hfl ho A (((uh gH).qI A).2 hA);clear ht hfl hb5 Jr k0 k1 k2 k3 kf j0 j1 j2 j3 f0 f1 f2 f3 gH NY zL jQ kE;obtain ⟨T,hT⟩:∃ T,r.told.length=T:=⟨_,rfl⟩;rw [hT] at QW HI0;have O1:=af hT;clear hT;go_wp2_with fail;go_loopg [4,5,6] T (λk okv pv iv wr=>∃ (i:Nat) (rc:aP) (ok:Bool) (pa:Option Addr) (pn pc:Nat) (za:Option Addr) (zn zc:Nat) (ea:Option Addr) (en ec:Nat) (fa:Option Addr) (fn fc:Nat),okv=.bool ok∧pv=.slice pa pn pc∧iv=.int .i64 i∧i+k=T∧Hid (bV PT w.heap.size wr rc za zn zc ea en ec fa fn fc∧ae w wr∧rc.told.length=T∧(ok=true->∃ A,aD PT wr (.slice pa pn pc) A∧KF r.dX.kW Hs N T i rc A)∧(ok=false->∀ A,¬ r.dX.kW A)))
  case atStart=>exact ⟨0,r2,ok,sa,sn,sc,_,_,_,_,_,_,_,_,_,rfl,rfl,rfl,by omega,uh jB,uh gG,uh QW,uh HI0,uh HN0⟩
  case round =>
   clear jB gG QW HI0 HN0;obtain ⟨i,rc,ok,WN,WO,WQ,za,zn,zc,ea,en,ec,fa,fn,fc,rfl,rfl,rfl,hik,HR⟩:=hrel;obtain ⟨k0,k1,k2,k3,kf⟩:=(uh HR).1.cells;have hfn:fn=T:=by rw [<-(uh HR).2.2.1];exact (uh HR).1.rows.told.len
   have HFN:=af hfn;by_cases hend:i<T∧ok=true
   ·obtain ⟨hiT,rfl⟩:=hend;have hif:(i:Int)<(fn:Int):=by omega
    obtain ⟨A,hA,hI⟩:=(uh HR).2.2.2.1 rfl;have Fp:=af hI.fit;have HI:=af hI;have WY:=hI.size;have QX:i<rc.told.length:=by rw [(uh HR).2.2.1];exact hiT
    have H9:=af (Ib (uh lu).room rc (Hs rc.size) ((rc.size+1)*Hs rc.size+1) i A (.agg #[.int .i64 rc.size,.slice za zn zc,.slice ea en ec,.slice fa fn fc]) (.slice WN WO WQ) wr (uh HR).1.at hA ((hI.qI A).2 ⟨hI.low.mem,λ_ _=>rfl⟩) hI.fit WY QX (d_ _) ((uh lu).fit _ WY) (λB hB=>(uh ZJ B ((hI.qI B).1 hB).1 i).mono (by omega)) ((uh lu).low _ WY));clear hA hI hfn;go_wp2_with fail;refine (uh H9).mono ?_;rintro e w2 ⟨v2,A',rfl,⟨qa,qn,qc,rfl⟩,hA1,hA2,hA3,hb2⟩;have HB2:=af ((uh HR).1.grow hb2);have HG2:Hid (ae w w2):=(uh HR).2.1.trans hb2;have hAl:i<A'.length:=by rw [FT hA2];exact QX
    obtain ⟨gp,op,cp,px,pa,pm,pc,ep,p0,p1,hpv⟩:=eY hA1 (i:=i) hAl;cases ep;have wB:=af hpv;have HA1:=af hA1;have HA2:=af hA2;have ZQ:=af hA3;have HSA:=af (((uh HI).qI A').1 hA2).1;obtain ⟨gu,ou,cu,vu,eu,u0,hu,ZL⟩:=gT (uh HB2).rows.told (i:=i) QX;have adZ:=ZL;cases eu;obtain ⟨ua,un,uc,rfl⟩:=hu.aB;have HU2:=af hu;have Jb:Hid ((rc.told.getD i []).length=rc.size+1):=(uh Fp).ok.gV _ ZL;have alj:rc.size<=9:=(uh Fp).size;have hH1:=(uh lu).one rc.size WY;have ahG:=(uh lu).low rc.size WY;have alk:Hs rc.size<=(rc.size+1)*Hs rc.size:=by rw [abC,ab4];omega
    have Lg:Hid (Pl.Lt (Hs rc.size) (-A'.getD i 0)):=(Pl.Lt.mono (uh ZJ A' (uh HSA) i) hH1).neg;have hiA:(i:Int)<(A'.length:Int):=by omega
    have hiU:(i:Int)<(rc.told.length:Int):=by omega
    clear k0 k1 k2 k3 kf hb2 hA1 hA2 hA3 hpv hu H9 ZL adZ;obtain ⟨k0,k1,k2,k3,kf⟩:=(uh HB2).cells;have alm:=(uh HG2).size;go_wp2_with fail;have y0:=b_ k3;have y1:=b_ u0;have y2:=b_ p0;have y3:=b_ p1;clear k3 u0 p0 p1;refine ah (cK [(44,λv w=>aD PT w v (bQ (rc.told.getD i []) (-A'.getD i 0))),(43,λv w=>aj PT w v (-A'.getD i 0))]) (gL [(43,ag),(44,bf)]) 57 11 (by kernel_rfl) (by rfl) (by kernel_rfl) (aN (λ_ _ _=>aD.below) (aN (λ_ _ _=>aj.below) cO)) ?_
    iterate 9 (refine aO λK hK=>?_;go_simp;refine hK _ ?_;clear hK K)
    refine ai ag 166 #[.agg #[.int .i64 px,.slice pa pm pc]] (by rfl) (by rfl) ag.some (λw=>by go_simp) (λwq hg hf=>(lH PT _ (A'.getD i 0) wq ((uh wB).below hg)).mono (by rintro e w' ⟨v',rfl,hv,hb⟩;exact ⟨_,rfl,hb,hv.aU,λt ht=>by cases ht;exact hv⟩)) ?_;rintro _ ⟨nx,na,nm,nc,rfl⟩;simp only [Act.put,p_,G_,D_];refine ai bf 165 #[.slice ua un uc,.agg #[.int .i64 nx,.slice na nm nc]] (by rfl) (by rfl) bf.some (λw=>by go_simp) (λwq hg hf=>(nG PT (Hs rc.size) (rc.size+1) (rc.told.getD i []) (-A'.getD i 0) _ _ wq (λ_ _=>trivial) ((uh HU2).below hg) (hf 9 (by kernel_rfl) _ 43 rfl rfl) (uh Jb) (by omega) (by omega) (λk=>(uh Fp).lt.told i k) (uh Lg) (by omega)).mono (by rintro e w' ⟨v',rfl,hv,hb⟩;exact ⟨_,rfl,hb,hv.aB,λt ht=>by cases ht;exact hv⟩)) ?_;rintro _ ⟨sa,sm,sc,rfl⟩;simp only [Act.put,p_,G_,D_];refine aF ?_;intro w3 hg3 aK;have hv3:aD PT w3 (.slice sa sm sc) (bQ (rc.told.getD i []) (-A'.getD i 0)):=aK 10 _ 44 (by decide) rfl rfl;clear aK y0 y1 y2 y3 k0 k1 k2 kf;have wU:=af hv3;have HB3:=af ((uh HB2).grow hg3);have je:Hid (ae w w3):=(uh HG2).trans hg3;have ZW:=af ((uh HA1).below hg3);have k0:=(uh HB3).cells.1;have k1:=(uh HB3).cells.2.1;have k2:=(uh HB3).cells.2.2.1;have k3:=(uh HB3).cells.2.2.2.1;clear hv3 hg3;have HWI:=af (yX PT rc.zero (bQ (rc.told.getD i []) (-A'.getD i 0)) (.slice za zn zc) (.slice sa sm sc) w3 (λ_ _=>trivial) (uh HB3).rows.zero (uh wU) (by rw [(uh Fp).zero];decide));go_wp2_with fail;refine (uh HWI).mono ?_;rintro e w4 ⟨v4,rfl,hv4,hb4⟩;obtain ⟨ha,hm,hc,rfl⟩:=hv4.aB;have jQ:=af ((uh HB3).grow hb4);have Nz:=af (Ie (uh jQ) hv4);have gG:Hid (ae w (w4.setCell ⟨w.heap.size,1,none⟩ (.slice ha hm hc))):=B_ (p:=⟨w.heap.size,1,none⟩) ((uh je).trans hb4) (d_ _) _;have ad7:Hid (aD PT (w4.setCell ⟨w.heap.size,1,none⟩ (.slice ha hm hc)) (.slice (some ⟨gp,op,none⟩) A'.length qc) A'):=((uh ZW).below hb4).holds (bR (uh jQ).own (by decide) (λe=>absurd e (by decide)) _ _);have q1:=(uh jQ).cells.2.1;have qf:=(uh jQ).cells.2.2.2.2 1;clear hv4 hb4 HWI k0 k1 k2 k3 HB3 je ZW;generalize Bj:w4.setCell ⟨w.heap.size,1,none⟩ (.slice ha hm hc)=W5 at *
    obtain ⟨row,hrow⟩:∃ row,bQ (rc.told.getD i []) (-A'.getD i 0)=row:=⟨_,rfl⟩;have FM:Hid (∀ k,Pl.Lt (Hs rc.size+1) (row.getD k 0)):=by unfold Hid;rw [<-hrow];exact rZ (λk=>(uh Fp).lt.told i k) (uh Lg)
    have HBA:Hid (∀ B,(rc.bound row).dX.kW B↔rc.dX.kW B∧B.getD i 0=A'.getD i 0):=by unfold Hid;rw [<-hrow];exact NT (uh Fp).ok QX _
    have HBO:Hid (eP (rc.bound row)):=by unfold Hid;rw [<-hrow];exact QG (uh Fp).ok QX _ (by rw [(uh Fp).zero];decide)
    have HBL:Hid (dG (Hs rc.size+1) (rc.bound row)):=by unfold Hid;rw [<-hrow];exact QH (uh Fp).lt i (uh Lg)
    have HBT:Hid ((rc.bound row).dX.gM):=KE (uh Fp).mO row;rw [hrow] at Nz;clear hrow;obtain ⟨z0,z1,z2,z3,zf⟩:=(uh Nz).cells;have LX:W5.cell? ⟨w.heap.size,0,none⟩=some (.int .i64 rc.size):=z0;have UE:=af (uO PT (Hs rc.size+1) (rc.bound row) (.agg #[.int .i64 rc.size,.slice ha hm hc,.slice ea en ec,.slice (some ⟨gu,ou,none⟩) rc.told.length fc]) W5 (λ_ _=>trivial) (uh Nz).at (uh HBO) (by show rc.size<=100;omega) (uh HBL) ((uh lu).settle rc.size WY));clear z0;go_wp2_with fail
    try rw [Bj]
    clear Bj q1 qf;refine (uh UE).mono ?_;rintro e w6 ⟨v6,ok,rfl,⟨n',b1,n1,d1,b2,n2,d2,b3,n3,d3,rfl⟩,hb6,ht,hfl⟩;cases ok with
    | false =>
     exfalso;exact hfl rfl A' ((uh HBA A').2 ⟨uh HA2,rfl⟩)
    | true =>
     obtain ⟨r1,⟨vz,vl,vt,e2,g1,g2,g3⟩,hZ,hcc⟩:=ht rfl;have gH:=af (uI (uh HBO) (uh HBL) (by show rc.size<=100;omega) (uh HBT) hZ hcc);have Ti:=af (D6 (uh lu) WY (uh Fp).zero (uh Fp).lt (uh FM) hN9 hZ);have hsz1:r1.whole.size=r1.size:=rfl;rw [<-hsz1] at Ti;obtain ⟨r2',hr2⟩:∃ r2,r1.whole=r2:=⟨_,rfl⟩;rw [hr2] at e2 g1 g2 g3 gH Ti;have e3:=congrArg (λv=>match v with | .agg l=>l.toList | _=>[]) e2
     simp only [List.cons.injEq,adh,Value.int.injEq,adV] at e3;obtain ⟨rfl,rfl,rfl,rfl⟩:=e3;clear hr2 hZ hcc ht hfl e2 hsz1;have ZX:=af (Below.same hb6 _ _ (uh Nz).own);have lV:Hid (ae w w6):=(uh gG).trans hb6;have TD:=af (bV.store (uh lV) (d_ _) (uh ZX) rfl ⟨g1,g2,g3⟩);have ad8:=af (((uh ad7).below hb6).holds (uh TD).2.2);obtain ⟨j0,j1,j2,j3,jf⟩:=((uh Nz).grow hb6).cells;have j0':w6.cell? ⟨w.heap.size,0,none⟩=some (.int .i64 rc.size):=j0;have f0:=jf 0;have f1:=jf 1;have f2:=jf 2;have f3:=jf 3;have HI2:Hid (KF r.dX.kW Hs N T (i+1) r2' A') :=
      ⟨⟨(uh gH).zero,(uh gH).mO,(uh gH).ok,uh Ti,(uh lu).one _ (by have h1:r2'.size<=rc.size:=(uh gH).size;omega),by have h1:r2'.size<=rc.size:=(uh gH).size;omega,w_ (uh gH).pK (uh Fp).pK,(uh gH).some⟩,
       by have h1:r2'.size<=rc.size:=(uh gH).size;omega,
       (uh HI).low.step (uh HI).qI (uh HA2) (uh ZQ),
       λB=>((uh gH).qI B).trans ((uh HBA B).trans (AA.next (uh HI).qI (uh HA2) B))⟩
     have HT2:Hid (r2'.told.length=T):=(uh gH).told.trans (uh HR).2.2.1;have wW:=af (uh TD).1;have Dw:=af (uh TD).2.1;have alo:i<1000:=by have:=(uh Fp).ok.uP;omega
     clear g1 g2 g3 hb6 TD jf j0 UE LX z1 z2 z3 zf;go_wp2;go_roundg (gk - 1)
     case measure=>omega
     case rel=>exact ⟨i+1,r2',true,_,_,_,_,_,_,_,_,_,_,_,_,rfl,rfl,by simp,by omega,uh wW,uh Dw,uh HT2,λ_=>⟨A',uh ad8,uh HI2⟩,λh=>(by cases h)⟩
   ·have Qa:=af (uh HR).2.1;have hT2:=(uh HR).2.2.1;cases ok with
    | false =>
     have Bl:=af ((uh HR).2.2.2.2 rfl);clear hend hfn;by_cases hlt:(i:Int)<(fn:Int)
     ·go_wp2;exact t_ (v:=.tuple #[.slice WN WO WQ,.bool false]) (by simp [results,Tryz.results121,go_sem]) rfl ⟨_,false,rfl,⟨_,_,_,rfl⟩,uh Qa,λh=>(by cases h),λ_=>uh Bl⟩
     ·go_wp2;exact t_ (v:=.tuple #[.slice WN WO WQ,.bool false]) (by simp [results,Tryz.results121,go_sem]) rfl ⟨_,false,rfl,⟨_,_,_,rfl⟩,uh Qa,λh=>(by cases h),λ_=>uh Bl⟩
    | true =>
     have hiT:¬ (i<T):=λh=>hend ⟨h,rfl⟩;have hif:¬ ((i:Int)<(fn:Int)):=by omega
     obtain ⟨A,hA,hI⟩:=(uh HR).2.2.2.1 rfl;have HA:=af hA;have TC:Hid (r.dX.kW A∧∀ B,r.dX.kW B->¬ lexLt B A):=⟨hI.low.mem,λB hB=>hI.low.least hB (by rw [FT hB];have:=uh O1;omega)⟩;clear hA hI hend hfn;go_wp2;exact t_ (v:=.tuple #[.slice WN WO WQ,.bool true]) (by simp [results,Tryz.results121,go_sem]) rfl ⟨_,true,rfl,⟨_,_,_,rfl⟩,uh Qa,λ_=>⟨A,uh HA,(uh TC).1,(uh TC).2⟩,λh=>(by cases h)⟩
end
abbrev dV:=List Int × Int × Bool
def zT (q:dV):List Int:=q.2.1::q.1
def ry (n i:Nat) (v:Int × Int):List (List Int):=[bQ (di n i) (-v.1),bQ ((di n i).map λx=>-x) v.2]
def eH (n:Nat) (vs:List (Int × Int)) (k:Nat):List (List Int):=(List.range k).flatMap λi=>ry n i (vs.getD i (0,0))
def gV (n k:Nat):List (List Int):=(List.range k).map (di n)
def jb (rs:List dV):List (List Int):=(rs.filter λq=>q.2.2).map zT
def dS (rs:List dV):List (List Int):=(rs.filter λq=>!q.2.2).map zT
def kz (vs:List (Int × Int)) (rs:List dV):aP:=⟨vs.length,jb rs,eH vs.length vs vs.length++dS rs,gV vs.length vs.length⟩
theorem y9 (n:Nat) (vs:List (Int × Int)) (k:Nat):eH n vs (k+1)=eH n vs k++ry n k (vs.getD k (0,0)):=by
 unfold eH;rw [ab9,List.flatMap_append];simp
theorem KJ (n k:Nat):gV n (k+1)=gV n k++[di n k]:=by unfold gV;rw [ab9,abv];rfl
structure fK (vs:List (Int × Int)):Prop where
 one:1<=vs.length
 four:vs.length<=4
 lo:∀ v∈vs,-1000000000<=v.1∧v.1<=1000000000
 hi:∀ v∈vs,-1000000000<=v.2∧v.2<=1000000000
 le:∀ v∈vs,v.1<=v.2
structure lK (n:Nat) (rs:List dV):Prop where
 pK:rs.length<=8
 len:∀ q∈rs,q.1.length=n
 c:∀ q∈rs,∀ x∈q.1,-1000<=x∧x<=1000
 k:∀ q∈rs,-1000000000000<=q.2.1∧q.2.1<=1000000000000
def rowAt (q:dV) (A:List Int):Int:=q.2.1+Pl.sm A.length (λi=>q.1.getD i 0*A.getD i 0)
structure kU (vs:List (Int × Int)) (rs:List dV) (A:List Int):Prop where
 len:A.length=vs.length
 range:∀ i,i<vs.length->(vs.getD i (0,0)).1<=A.getD i 0∧A.getD i 0<=(vs.getD i (0,0)).2
 rows:∀ q∈rs,0<=rowAt q A∧(q.2.2=true->rowAt q A=0)
section
variable {vs:List (Int × Int)} {rs:List dV}
theorem jG {i:Nat} (h:i<vs.length):vs.getD i (0,0)∈vs:=by
 rw [a_,f_ h];exact aan _
theorem vE {n k:Nat} {a:List Int} (h:a∈eH n vs k):∃ i,i<k∧a∈ry n i (vs.getD i (0,0)):=by
 obtain ⟨i,hi,ha⟩:=abT.1 h;exact ⟨i,W_.1 hi,ha⟩
theorem tV {n k i:Nat} (hi:i<k) {a:List Int} (ha:a∈ry n i (vs.getD i (0,0))):a∈eH n vs k:=abT.2 ⟨i,W_.2 hi,ha⟩
theorem iC (n i:Nat):(di n i).length=n+1:=by simp [di]
theorem KL {n i:Nat} {v:Int × Int} {a:List Int} (h:a∈ry n i v):a.length=n+1:=by
 unfold ry at h;rcases abp.1 h with rfl|h
 ·rw [tN,iC]
 ·rw [I_.1 h,tN,L_,iC]
theorem lY (n:Nat) (vs:List (Int × Int)):∀ k,(eH n vs k).length=2*k
 | 0=>rfl
 | k+1=>by rw [y9,C_,lY n vs k];show _+2=_;omega
theorem KM (n:Nat) (q:dV) (x:Nat->Int):Pl.ev n (lf (zT q)) (Pl.pt x)=q.2.1+Pl.sm n (λi=>q.1.getD i 0*x i):=by
 rw [Pl.kT];rfl
theorem Im (x:Nat->Int):(kz vs rs).dX.fD x=(List.range vs.length).map x:=by
 have e:(kz vs rs).dX.fD x=(kz vs rs).told.map λa=>Pl.ev vs.length (lf a) (Pl.pt x):=by
  show (((kz vs rs).told.map lf).map λs=>Pl.ev vs.length s (Pl.pt x))=_;rw [ab7];rfl
 rw [e];show ((List.range vs.length).map (di vs.length)).map _=_;rw [ab7];refine abr λi hi=>?_;exact ow (W_.1 hi) x
theorem CV (q:dV) (x:Nat->Int):rowAt q ((List.range vs.length).map x)=q.2.1+Pl.sm vs.length (λi=>q.1.getD i 0*x i):=by
 unfold rowAt;rw [show ((List.range vs.length).map x).length=vs.length by simp];congr 1;exact Pl.aC λi hi=>by rw [Pl.bK _ _ _ hi]
theorem Q8 (x:Nat->Int):(kz vs rs).dX.Has x↔kU vs rs ((List.range vs.length).map x):=by
 have hx:∀ i,i<vs.length->((List.range vs.length).map x).getD i 0=x i:=λi hi=>Pl.bK _ _ _ hi;constructor
 ·intro h;refine ⟨by simp,λi hi=>?_,λq hq=>?_⟩
  ·rw [hx i hi];have h1:0<=Pl.ev vs.length (lf (bQ (di vs.length i) (-(vs.getD i (0,0)).1))) (Pl.pt x):=h.least _ (m_.2 ⟨_,F_.2 (.inl (tV hi (ab2 ..))),rfl⟩);have h2:0<=Pl.ev vs.length (lf (bQ ((di vs.length i).map λx=>-x) (vs.getD i (0,0)).2)) (Pl.pt x):=h.least _ (m_.2 ⟨_,F_.2 (.inl (tV hi (abl _ (I_.2 rfl)))),rfl⟩);rw [nE _ _ _ (by rw [iC];omega),ow hi] at h1;rw [nE _ _ _ (by rw [L_,iC];omega),tL,zS,ow hi] at h2;omega
  ·rw [CV,<-KM];by_cases hb:q.2.2=true
   ·have h1:Pl.ev vs.length (lf (zT q)) (Pl.pt x)=0:=h.zero _ (m_.2 ⟨zT q,m_.2 ⟨q,abg.2 ⟨hq,hb⟩,rfl⟩,rfl⟩);rw [h1];exact ⟨abk _,λ_=>rfl⟩
   ·have h1:0<=Pl.ev vs.length (lf (zT q)) (Pl.pt x):=h.least _ (m_.2 ⟨zT q,F_.2 (.inr (m_.2 ⟨q,abg.2 ⟨hq,by simp [hb]⟩,rfl⟩)),rfl⟩);exact ⟨h1,λe=>absurd e hb⟩
 ·intro h;refine ⟨λs hs=>?_,λs hs=>?_⟩
  ·obtain ⟨a,ha,rfl⟩:=m_.1 hs;obtain ⟨q,hq,rfl⟩:=m_.1 ha;obtain ⟨hq1,hq2⟩:=abg.1 hq;have h1:=(h.rows q hq1).2 hq2;rw [CV,<-KM] at h1;exact h1
  ·obtain ⟨a,ha,rfl⟩:=m_.1 hs;show 0<=Pl.ev vs.length (lf a) (Pl.pt x);rcases F_.1 ha with ha|ha
   ·obtain ⟨i,hi,ha⟩:=vE ha;have h1:=h.range i hi;rw [hx i hi] at h1;unfold ry at ha;rcases abp.1 ha with rfl|ha
    ·rw [nE _ _ _ (by rw [iC];omega),ow hi];omega
    ·rw [I_.1 ha,nE _ _ _ (by rw [L_,iC];omega),tL,zS,ow hi];omega
   ·obtain ⟨q,hq,rfl⟩:=m_.1 ha;obtain ⟨hq1,_⟩:=abg.1 hq;have h1:=(h.rows q hq1).1;rw [CV,<-KM] at h1;exact h1
theorem FX (A:List Int):(kz vs rs).dX.kW A↔kU vs rs A:=by
 constructor
 ·rintro ⟨x,h1,rfl⟩;rw [Im];exact (Q8 x).1 h1
 ·intro h;have e:(List.range vs.length).map (λi=>A.getD i 0)=A:=by
   apply abU
   ·simp [h.len]
   ·intro i h1 h2;simp [a_,f_ h2]
  exact ⟨λi=>A.getD i 0,(Q8 _).2 (by rw [e];exact h),by rw [Im];exact e⟩
theorem TP:(kz vs rs).dX.gM:=by
 intro D _ h i hi;have hi':i<vs.length:=hi;have key:∀ a:List Int,a∈(kz vs rs).least->0<=Pl.dir vs.length (lf a) D:=λa ha=>h _ (m_.2 ⟨a,ha,rfl⟩);have h1:=key _ (F_.2 (.inl (tV hi' (ab2 ..))));have h2:=key _ (F_.2 (.inl (tV hi' (abl _ (I_.2 rfl)))));have dr:∀ (a:List Int) (v:Int),0<a.length->Pl.dir vs.length (lf (bQ a v)) D=Pl.dir vs.length (lf a) D:=λa v h0=>by
  unfold Pl.dir;exact Pl.aC λk _=>by rw [wz a v h0,g_ (by omega)]
 have dc:Pl.dir vs.length (lf (di vs.length i)) D=D i:=by
  have e1:=ow hi' D;rw [Pl.kT] at e1;have e2:lf (di vs.length i) 0=0:=by
   unfold lf di;rw [Pl.bK _ _ _ (by omega)];unfold Pl.unit;rw [g_ (by omega)]
  unfold Pl.dir;omega
 have dn:Pl.dir vs.length (lf ((di vs.length i).map λx=>-x)) D=-D i:=by
  rw [tL];have:Pl.dir vs.length (λk=>-lf (di vs.length i) k) D=-Pl.dir vs.length (lf (di vs.length i)) D:=by
   unfold Pl.dir;rw [<-Int.neg_one_mul,<-Pl.dA];exact Pl.aC λk _=>by rw [abe,Int.neg_one_mul]
  rw [this,dc]
 rw [dr _ _ (by rw [iC];omega),dc] at h1;rw [dr _ _ (by rw [L_,iC];omega),dn] at h2;omega
theorem aai (hv:fK vs) (hr:lK vs.length rs):eP (kz vs rs):=by
 have h4:=hv.four;have h8:=hr.pK;have hz:(jb rs).length<=8:=by unfold jb;rw [L_];exact w_ (ab1 _ _) h8
 have hl:(dS rs).length<=8:=by unfold dS;rw [L_];exact w_ (ab1 _ _) h8
 have hrow:∀ q∈rs,(zT q).length=vs.length+1:=λq hq=>by show q.1.length+1=_;rw [hr.len q hq]
 refine ⟨λl h=>?_,λl h=>?_,λl h=>?_,by show (jb rs).length<=1000;omega,?_,?_⟩
 ·obtain ⟨q,hq,rfl⟩:=m_.1 h;exact hrow q (abg.1 hq).1
 ·rcases F_.1 h with h | h
  ·obtain ⟨i,_,ha⟩:=vE h;exact KL ha
  ·obtain ⟨q,hq,rfl⟩:=m_.1 h;exact hrow q (abg.1 hq).1
 ·obtain ⟨i,_,rfl⟩:=m_.1 h;exact iC _ _
 ·show (eH vs.length vs vs.length++dS rs).length<=1000;rw [C_,lY];omega
 ·show ((List.range vs.length).map _).length<=1000;rw [L_,List.length_range];omega
theorem nI {x:Int} {K:Nat} (h:x.natAbs<1073741824^K):Pl.Lt K x:=by rw [Pl.eB];exact h
theorem of_lt (hv:fK vs) (hr:lK vs.length rs):dG 2 (kz vs rs):=by
 have hrow:∀ q∈rs,∀ k,Pl.Lt 2 ((zT q).getD k 0):=λq hq k=>by
  cases k with
  | zero=>have:=hr.k q hq;exact nI (show q.2.1.natAbs<1152921504606846976 by omega)
  | succ k =>
   show Pl.Lt 2 (q.1.getD k 0);rw [a_];rcases hk:q.1[k]? with _|x
   ·exact lC 2
   ·have:=hr.c q hq x (abR hk);exact nI (show x.natAbs<1152921504606846976 by omega)
 have hco:∀ i k,Pl.Lt 1 ((di vs.length i).getD k 0):=λi k=>vg (d_ _) k;have hrange:∀ i,i<vs.length->∀ a∈ry vs.length i (vs.getD i (0,0)),∀ k,Pl.Lt 2 (a.getD k 0):=λi hi a ha k=>by
  have h1:=hv.lo _ (jG hi);have h2:=hv.hi _ (jG hi);unfold ry at ha;rcases abp.1 ha with rfl|ha
  ·exact rZ (hco i) (nI (show (-(vs.getD i (0,0)).1).natAbs<1073741824 by omega)) k
  ·rw [I_.1 ha];exact rZ (CK (hco i)) (nI (show ((vs.getD i (0,0)).2).natAbs<1073741824 by omega)) k
 refine ⟨lX λa ha=>?_,lX λa ha=>?_,lX λa ha=>?_⟩
 ·obtain ⟨q,hq,rfl⟩:=m_.1 ha;exact hrow q (abg.1 hq).1
 ·rcases F_.1 ha with ha | ha
  ·obtain ⟨i,hi,ha⟩:=vE ha;exact hrange i hi a ha
  ·obtain ⟨q,hq,rfl⟩:=m_.1 ha;exact hrow q (abg.1 hq).1
 ·obtain ⟨i,_,rfl⟩:=m_.1 ha;exact λk=>(hco i k).mono (by omega)
theorem Io (hv:fK vs) {A:List Int} (h:kU vs rs A) (i:Nat):Pl.Lt 1 (A.getD i 0)∧-1000000000<=A.getD i 0∧A.getD i 0<=1000000000:=by
 have key:-1000000000<=A.getD i 0∧A.getD i 0<=1000000000:=by
  by_cases hi:i<vs.length
  ·have h1:=hv.lo _ (jG hi);have h2:=hv.hi _ (jG hi);have h3:=h.range i hi;omega
  ·rw [a_,P_ (by rw [h.len];omega)];decide
 exact ⟨nI (show (A.getD i 0).natAbs<1073741824 by omega),key⟩
end
end
def aaj:Nat->Nat
 | 0=>53166996806
 | 1=>708893290
 | 2=>3616802
 | 3=>8930
 | _=>12
def Q9:Nat->Nat
 | 0=>177186
 | 1=>11811
 | 2=>786
 | 3=>51
 | _=>2
theorem kM {P:Nat->Prop} (h0:P 0) (h1:P 1) (h2:P 2) (h3:P 3) (h4:P 4) (s:Nat) (h:s<=4):P s:=by
 rcases (show s=0∨s=1∨s=2∨s=3∨s=4 by omega) with e|e|e|e|e <;> (subst e;assumption)
theorem xO {P:Nat->Prop} (h0:P 0) (h1:P 1) (h2:P 2) (h3:P 3) (s:Nat) (h:s<4):P s:=by
 rcases (show s=0∨s=1∨s=2∨s=3 by omega) with e|e|e|e <;> (subst e;assumption)
theorem Od:AL 4 aaj Q9 :=
 ⟨⟨by decide,kM (by decide) (by decide) (by decide) (by decide) (by decide),xO (by decide) (by decide) (by decide) (by decide),xO (by decide) (by decide) (by decide) (by decide),kM (by decide) (by decide) (by decide) (by decide) (by decide),kM (by decide) (by decide) (by decide) (by decide) (by decide),kM (by decide) (by decide) (by decide) (by decide) (by decide)⟩,
  kM (by decide) (by decide) (by decide) (by decide) (by decide),xO (by decide) (by decide) (by decide) (by decide),kM (by decide) (by decide) (by decide) (by decide) (by decide),kM (by decide) (by decide) (by decide) (by decide) (by decide),kM (by decide) (by decide) (by decide) (by decide) (by decide)⟩
theorem Oe {n:Nat} (h:n<=4):2<=Q9 n:=kM (P:=λn=>2<=Q9 n) (by decide) (by decide) (by decide) (by decide) (by decide) n h
theorem Ip {vs:List (Int × Int)} {rs:List dV} (hv:fK vs) (hr:lK vs.length rs) (vr:Value) (w:World) (h:jV PT w vr (kz vs rs)) :
  Calls Tryz.prog 121 #[vr] w (EI (kz vs rs) w) :=
 CQ Od (kz vs rs) vr w h hv.four (aai hv hr) ((of_lt hv hr).mono (Oe hv.four)) TP (by
  show (eH vs.length vs vs.length++dS rs).length<=700;rw [C_,lY];have h1:=hv.four;have h2:(dS rs).length<=8:=by unfold dS;rw [L_];exact w_ (ab1 _ _) hr.pK
  omega) (λB hB i=>(Io hv ((FX B).1 hB) i).1)
end Go.Proofs.YtfaljekgpnbmiaaGreat
