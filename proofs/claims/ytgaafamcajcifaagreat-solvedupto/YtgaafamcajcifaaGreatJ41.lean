/- Joined: XLow4 XOf1 XOf2. -/
import Derived.Test.YtgaafamcajcifaaGreatJ37
import Derived.Test.YtgaafamcajcifaaGreatJ40
set_option linter.unusedVariables false
set_option linter.unusedSimpArgs false
set_option maxRecDepth 100000
namespace Go.Proofs.YtgaafamcajcifaaGreat
open Go.RowKit Go.Sort
structure AJ (N:Nat) (G Hs:Nat->Nat):Prop where
 room:Room N G
 one:∀ s,s<=N->1<=Hs s
 drop:∀ s,s<N->15*(Hs (s+1)+1)+6<=Hs s
 fit:∀ s,s<=N->(s+1)*Hs s+2<=G s
 low:∀ s,s<=N->3*((s+1)*Hs s+1)+20<=1500000000000
 settle:∀ s,s<=N->20*iE (Hs s+1) s+10<=1500000000000
theorem Ia {L L':Nat} (h:L<=L'):∀ k,iE L k<=iE L' k
 | 0=>h
 | k+1=>by show 15*iE L k+6<=15*iE L' k+6;have:=Ia h k;omega
theorem AJ.iE {N:Nat} {G Hs:Nat->Nat} (h:AJ N G Hs) {s:Nat} (hs:s<=N):∀ k,k<=s->iE (Hs s) k<=Hs (s - k)
 | 0,_=>d_ _
 | k+1,hk=>by
  have h1:=AJ.iE h hs k (by omega);have h2:=h.drop (s - (k+1)) (by omega);rw [show s - (k+1)+1=s - k by omega] at h2;show 15*Go.Proofs.YtgaafamcajcifaaGreat.iE (Hs s) k+6<=_;omega
theorem AJ.le {N:Nat} {G Hs:Nat->Nat} (h:AJ N G Hs) {s:Nat} (hs:s<=N):Hs s<=G s:=by
 have h1:=h.fit s hs;rw [abg,abQ] at h1;omega
theorem D5 {N:Nat} {G Hs:Nat->Nat} (h:AJ N G Hs) {rc r1:aP} {row:List Int} (hN:rc.size<=N) (hz:rc.zero=[]) (hlt:dF (Hs rc.size) rc) (hrow:∀ k,Pl.Lt (Hs rc.size+1) (row.getD k 0)) (hN9:N<=9) (hZ:fD (rc.bound row) (rc.bound row).zero.length r1):dF (Hs r1.size) r1.whole:=by
 have e1:(rc.bound row).zero.length=1:=by show (rc.zero++[row]).length=1;rw [hz];rfl
 rw [e1] at hZ;obtain ⟨T,h0,h1,h2⟩:=hZ;have hs:=h2 0 (by omega);rw [h0,show 0+1=1 from rfl,h1] at hs;have el:(rc.bound row).less=rc:=by
  unfold aP.less aP.bound;rw [hz];cases rc;simp at hz ⊢
  first | exact hz | exact hz.symm
 have elast:(rc.bound row).bN=row:=by
  unfold aP.bN aP.bound;rw [hz];rfl
 obtain ⟨_,hw⟩:=hs;rw [el,elast] at hw;refine dF.whole ?_;rcases hw.lt2 (by omega) (hlt.mono (Nat.le_succ _)) hrow with e|⟨e,hl⟩
 ·rw [e];exact hlt
 ·refine hl.mono ?_;have:=h.drop r1.size (by omega);rw [e] at this;exact this
theorem Ib {g:Nat} {w:World} {r:aP} {za ea fa ha:Option Addr} {zn zc en ec fn fc hm hc:Nat} {row:List Int} (h:bU PT g w r za zn zc ea en ec fa fn fc) (hv:aM PT w (.slice ha hm hc) (r.zero++[row])):bU PT g (w.setCell ⟨g,1,none⟩ (.slice ha hm hc)) (r.bound row) ha hm hc ea en ec fa fn fc:=by
 have hh:Holds PT w (w.setCell ⟨g,1,none⟩ (.slice ha hm hc)):=bQ h.own (by decide) (λe=>absurd e (by decide)) _ _;have e:=j_ w g 1 _ _ (.slice ha hm hc) h.own;exact ⟨e,hv.holds hh,h.rows.least.holds hh,h.rows.told.holds hh⟩
def EH (r:aP) (w:World) (e:Ending) (w':World):Prop:=∃ (vs:Value) (ok:Bool),e=.returned (.tuple #[vs,.bool ok])∧aZ vs∧Below w.heap.size w w'∧(ok=true->∃ A,aD PT w' vs A∧r.dV.kU A∧∀ B,r.dV.kU B->¬ lexLt B A)∧(ok=false->∀ A,¬ r.dV.kU A)
structure Ka (S:List Int->Prop) (Hs:Nat->Nat) (N T i:Nat) (rc:aP) (A:List Int):Prop where
 fit:rq (Hs rc.size) rc
 size:rc.size<=N
 low:Az S i A
 qH:∀ B,rc.dV.kU B↔S B∧∀ j,j<i->B.getD j 0=A.getD j 0
section
section
attribute [local go_sem] bD
set_option maxHeartbeats 2000000 in
theorem CP {N:Nat} {G Hs:Nat->Nat} (hroom:AJ N G Hs) (r:aP) (vr:Value) (w:World) (h:jT PT w vr r) (hN:r.size<=N) (hok:eH r) (hlt:dF (Hs r.size) r) (htied:r.dV.gJ) (MG:r.least.length<=700) (hbd:∀ B,r.dV.kU B->∀ i,Pl.Lt 1 (B.getD i 0)) :
  Calls Tryz.prog 29 #[vr] w (EH r w):=by
 obtain ⟨vz,vl,vt,rfl,h1,h2,h3⟩:=h;obtain ⟨za,zn,zc,rfl⟩:=h1.aB;obtain ⟨ea,en,ec,rfl⟩:=h2.aB;obtain ⟨fa,fn,fc,rfl⟩:=h3.aB;have hN9:=hroom.room.size;obtain ⟨W,hW⟩:∃ W,w.alloc (.cells #[.int .i64 r.size,.slice za zn zc,.slice ea en ec,.slice fa fn fc] 74)=W:=⟨_,rfl⟩;have HB:Hid (bU PT w.heap.size W r za zn zc ea en ec fa fn fc):=by unfold Hid;rw [<-hW];exact bU.new ⟨h1,h2,h3⟩
 have HG:Hid (ae w W):=by unfold Hid;rw [<-hW];exact ae.alloc _ _
 obtain ⟨k0,k1,k2,k3,kf⟩:=(uh HB).cells;have TU:=af (uN PT (Hs r.size) r (.agg #[.int .i64 r.size,.slice za zn zc,.slice ea en ec,.slice fa fn fc]) W (λ_ _=>trivial) (uh HB).at hok (by omega) hlt (by have h1:=hroom.settle r.size hN;have h2:=Ia (show Hs r.size<=Hs r.size+1 by omega) r.size;omega));have lh:=af hroom;have EI:=af hok;have lC:=af hlt;have Zi:=af htied;have Y7:=af hbd;clear h1 h2 h3 hroom hok hlt htied hbd;go_enter Tryz.func29,Tryz.ntmps29;go_wp2_with fail
 try rw [hW]
 clear hW;refine (uh TU).mono ?_;rintro e w1 ⟨v1,ok,rfl,⟨n',a1,m1,c1,a2,m2,c2,a3,m3,c3,rfl⟩,hb1,ht,hfl⟩;have dN:Hid (ae w w1):=(uh HG).trans hb1;have HOWN:=af (Below.same hb1 _ _ (uh HB).own);obtain ⟨j0,j1,j2,j3,jf⟩:=((uh HB).grow hb1).cells;have f0:=jf 0;have f1:=jf 1;have f2:=jf 2;have f3:=jf 3;clear hb1 TU HB HG k0 k1 k2 k3 kf jf;cases ok with
 | false =>
  have Pj:=af (iU (P:=PT) (uh dN) (d_ _) (uh HOWN) n' a1 m1 c1 a2 m2 c2 a3 m3 c3).1;have Bj:=af (hfl rfl);clear ht hfl;go_wp2;exact t_ (v:=.tuple #[.slice none 0 0,.bool false]) (by simp [results,Tryz.results29,go_sem]) rfl ⟨_,false,rfl,⟨_,_,_,rfl⟩,uh Pj,λh=>(by cases h),λ_=>uh Bj⟩
 | true =>
  obtain ⟨r1,⟨vz,vl,vt,e2,g1,g2,g3⟩,hZ,hc⟩:=ht rfl;have gF:=af (uH (uh EI) (uh lC) (by omega) (uh Zi) hZ hc);obtain ⟨r2,hr2⟩:∃ r2,r1.whole=r2:=⟨_,rfl⟩;rw [hr2] at e2 g1 g2 g3 gF;have e3:=congrArg (λv=>match v with | .agg l=>l.toList | _=>[]) e2
  simp only [List.cons.injEq,adj,Value.int.injEq,adM] at e3;obtain ⟨rfl,rfl,rfl,rfl⟩:=e3;clear hr2 hZ hc ht hfl e2;have HST:=af (bU.store (uh dN) (d_ _) (uh HOWN) rfl ⟨g1,g2,g3⟩);generalize xY:(((w1.setCell ⟨w.heap.size,0,none⟩ (.int .i64 r2.size)).setCell ⟨w.heap.size,1,none⟩ (.slice a1 m1 c1)).setCell ⟨w.heap.size,2,none⟩ (.slice a2 m2 c2)).setCell ⟨w.heap.size,3,none⟩ (.slice a3 m3 c3)=W4 at *
  have jO:=af (uh HST).1;have kC:=af (uh HST).2.1;clear g1 g2 g3 HST dN;obtain ⟨k0,k1,k2,k3,kf⟩:=(uh jO).cells;have hsz:r2.size<=r.size:=(uh gF).size;have Nj:Hid (dF (Hs r2.size) r2):=(uh gF).lt.mono (by
   have:=(uh lh).iE (s:=r.size) hN (r.size - r2.size) (by omega);rwa [show r.size - (r.size - r2.size)=r2.size by omega] at this)
  have zK:Hid (rq (Hs r2.size) r2):=⟨(uh gF).zero,(uh gF).mK,(uh gF).ok,uh Nj,(uh lh).one _ (by omega),by omega,w_ (uh gF).pJ MG,(uh gF).some⟩;have Jp:=af (Cj (uh lh).room r2 (by omega) ⟨(uh gF).ok,(uh Nj).mono ((uh lh).le (by omega)),(uh gF).mK,by have:=(uh zK).pJ;omega⟩ (.agg #[.int .i64 r2.size,.slice a1 m1 c1,.slice a2 m2 c2,.slice a3 m3 c3]) W4 (uh jO).at);go_wp2_with fail
  try rw [xY]
  clear xY;refine (uh Jp).mono ?_;rintro e w5 ⟨vs,ok,rfl,⟨sa,sn,sc,rfl⟩,hb5,ht,hfl⟩;have jy:=af ((uh jO).grow hb5);have gD:Hid (ae w w5):=(uh kC).trans hb5;have Qm:=af (uh gF).told;have HI0:Hid (ok=true->∃ A,aD PT w5 (.slice sa sn sc) A∧Ka r.dV.kU Hs N r.told.length 0 r2 A):=λho=>by
   obtain ⟨_,A,hA1,hA2⟩:=ht ho;exact ⟨A,hA1,uh zK,by omega,⟨((uh gF).qH A).1 hA2,λB _ i hi=>absurd hi (aaI i)⟩,λB=>⟨λhB=>⟨((uh gF).qH B).1 hB,λj hj=>absurd hj (aaI j)⟩,λhB=>((uh gF).qH B).2 hB.1⟩⟩
  have HN0:Hid (ok=false->∀ A,¬ r.dV.kU A):=λho A hA=>hfl ho A (((uh gF).qH A).2 hA);clear ht hfl hb5 Jp k0 k1 k2 k3 kf j0 j1 j2 j3 f0 f1 f2 f3 gF Nj zK jO kC;obtain ⟨T,hT⟩:∃ T,r.told.length=T:=⟨_,rfl⟩;rw [hT] at Qm HI0;have Oh:=af hT;clear hT;go_wp2_with fail;go_loopg [4,5,6] T (λk okv pv iv wr=>∃ (i:Nat) (rc:aP) (ok:Bool) (pa:Option Addr) (pn pc:Nat) (za:Option Addr) (zn zc:Nat) (ea:Option Addr) (en ec:Nat) (fa:Option Addr) (fn fc:Nat),okv=.bool ok∧pv=.slice pa pn pc∧iv=.int .i64 i∧i+k=T∧Hid (bU PT w.heap.size wr rc za zn zc ea en ec fa fn fc∧ae w wr∧rc.told.length=T∧(ok=true->∃ A,aD PT wr (.slice pa pn pc) A∧Ka r.dV.kU Hs N T i rc A)∧(ok=false->∀ A,¬ r.dV.kU A)))
  case atStart=>exact ⟨0,r2,ok,sa,sn,sc,_,_,_,_,_,_,_,_,_,rfl,rfl,rfl,by omega,uh jy,uh gD,uh Qm,uh HI0,uh HN0⟩
  case round =>
   clear jy gD Qm HI0 HN0;obtain ⟨i,rc,ok,VW,VX,VY,za,zn,zc,ea,en,ec,fa,fn,fc,rfl,rfl,rfl,hik,HR⟩:=hrel;obtain ⟨k0,k1,k2,k3,kf⟩:=(uh HR).1.cells;have hfn:fn=T:=by rw [<-(uh HR).2.2.1];exact (uh HR).1.rows.told.len
   have HFN:=af hfn;by_cases hend:i<T∧ok=true
   ·obtain ⟨hiT,rfl⟩:=hend;have hif:(i:Int)<(fn:Int):=by omega
    obtain ⟨A,hA,hI⟩:=(uh HR).2.2.2.1 rfl;have Fh:=af hI.fit;have HI:=af hI;have V8:=hI.size;have Qn:i<rc.told.length:=by rw [(uh HR).2.2.1];exact hiT
    have H7:=af (H9 (uh lh).room rc (Hs rc.size) ((rc.size+1)*Hs rc.size+1) i A (.agg #[.int .i64 rc.size,.slice za zn zc,.slice ea en ec,.slice fa fn fc]) (.slice VW VX VY) wr (uh HR).1.at hA ((hI.qH A).2 ⟨hI.low.mem,λ_ _=>rfl⟩) hI.fit V8 Qn (d_ _) ((uh lh).fit _ V8) (λB hB=>(uh Y7 B ((hI.qH B).1 hB).1 i).mono (by omega)) ((uh lh).low _ V8));clear hA hI hfn;go_wp2_with fail;refine (uh H7).mono ?_;rintro e w2 ⟨v2,A',rfl,⟨qa,qn,qc,rfl⟩,hA1,hA2,hA3,hb2⟩;have HB2:=af ((uh HR).1.grow hb2);have HG2:Hid (ae w w2):=(uh HR).2.1.trans hb2;have hAl:i<A'.length:=by rw [FQ hA2];exact Qn
    obtain ⟨gp,op,cp,px,pa,pm,pc,ep,p0,p1,hpv⟩:=eU hA1 (i:=i) hAl;cases ep;have wz:=af hpv;have HA1:=af hA1;have HA2:=af hA2;have Ze:=af hA3;have HSA:=af (((uh HI).qH A').1 hA2).1;obtain ⟨gu,ou,cu,vu,eu,u0,hu,Y9⟩:=gP (uh HB2).rows.told (i:=i) Qn;have ado:=Y9;cases eu;obtain ⟨ua,un,uc,rfl⟩:=hu.aB;have HU2:=af hu;have I9:Hid ((rc.told.getD i []).length=rc.size+1):=(uh Fh).ok.gT _ Y9;have akE:rc.size<=9:=(uh Fh).size;have hH1:=(uh lh).one rc.size V8;have ag5:=(uh lh).low rc.size V8;have akF:Hs rc.size<=(rc.size+1)*Hs rc.size:=by rw [abg,abQ];omega
    have KO:Hid (Pl.Lt (Hs rc.size) (-A'.getD i 0)):=(Pl.Lt.mono (uh Y7 A' (uh HSA) i) hH1).neg;have hiA:(i:Int)<(A'.length:Int):=by omega
    have hiU:(i:Int)<(rc.told.length:Int):=by omega
    clear k0 k1 k2 k3 kf hb2 hA1 hA2 hA3 hpv hu H7 Y9 ado;obtain ⟨k0,k1,k2,k3,kf⟩:=(uh HB2).cells;have akG:=(uh HG2).size;go_wp2_with fail;have y0:=b_ k3;have y1:=b_ u0;have y2:=b_ p0;have y3:=b_ p1;clear k3 u0 p0 p1;refine ah (bZ [(44,λv w=>aD PT w v (bP (rc.told.getD i []) (-A'.getD i 0))),(43,λv w=>aj PT w v (-A'.getD i 0))]) (gL [(43,ag),(44,aZ)]) 57 11 (by kernel_rfl) (by rfl) (by kernel_rfl) (aN (λ_ _ _=>aD.below) (aN (λ_ _ _=>aj.below) cK)) ?_
    iterate 9 (refine aO λK hK=>?_;go_simp;refine hK _ ?_;clear hK K)
    refine ai ag 38 #[.agg #[.int .i64 px,.slice pa pm pc]] (by rfl) (by rfl) ag.some (λw=>by go_simp) (λwq hg hf=>(lF PT _ (A'.getD i 0) wq ((uh wz).below hg)).mono (by rintro e w' ⟨v',rfl,hv,hb⟩;exact ⟨_,rfl,hb,hv.aU,λt ht=>by cases ht;exact hv⟩)) ?_;rintro _ ⟨nx,na,nm,nc,rfl⟩;simp only [Act.put,p_,G_,D_];refine ai aZ 37 #[.slice ua un uc,.agg #[.int .i64 nx,.slice na nm nc]] (by rfl) (by rfl) aZ.some (λw=>by go_simp) (λwq hg hf=>(nE PT (Hs rc.size) (rc.size+1) (rc.told.getD i []) (-A'.getD i 0) _ _ wq (λ_ _=>trivial) ((uh HU2).below hg) (hf 9 (by kernel_rfl) _ 43 rfl rfl) (uh I9) (by omega) (by omega) (λk=>(uh Fh).lt.told i k) (uh KO) (by omega)).mono (by rintro e w' ⟨v',rfl,hv,hb⟩;exact ⟨_,rfl,hb,hv.aB,λt ht=>by cases ht;exact hv⟩)) ?_;rintro _ ⟨sa,sm,sc,rfl⟩;simp only [Act.put,p_,G_,D_];refine aF ?_;intro w3 hg3 aK;have hv3:aD PT w3 (.slice sa sm sc) (bP (rc.told.getD i []) (-A'.getD i 0)):=aK 10 _ 44 (by decide) rfl rfl;clear aK y0 y1 y2 y3 k0 k1 k2 kf;have wT:=af hv3;have HB3:=af ((uh HB2).grow hg3);have jb:Hid (ae w w3):=(uh HG2).trans hg3;have Zj:=af ((uh HA1).below hg3);have k0:=(uh HB3).cells.1;have k1:=(uh HB3).cells.2.1;have k2:=(uh HB3).cells.2.2.1;have k3:=(uh HB3).cells.2.2.2.1;clear hv3 hg3;have HWI:=af (yV PT rc.zero (bP (rc.told.getD i []) (-A'.getD i 0)) (.slice za zn zc) (.slice sa sm sc) w3 (λ_ _=>trivial) (uh HB3).rows.zero (uh wT) (by rw [(uh Fh).zero];decide));go_wp2_with fail;refine (uh HWI).mono ?_;rintro e w4 ⟨v4,rfl,hv4,hb4⟩;obtain ⟨ha,hm,hc,rfl⟩:=hv4.aB;have jO:=af ((uh HB3).grow hb4);have MR:=af (Ib (uh jO) hv4);have gD:Hid (ae w (w4.setCell ⟨w.heap.size,1,none⟩ (.slice ha hm hc))):=B_ (p:=⟨w.heap.size,1,none⟩) ((uh jb).trans hb4) (d_ _) _;have adp:Hid (aD PT (w4.setCell ⟨w.heap.size,1,none⟩ (.slice ha hm hc)) (.slice (some ⟨gp,op,none⟩) A'.length qc) A'):=((uh Zj).below hb4).holds (bQ (uh jO).own (by decide) (λe=>absurd e (by decide)) _ _);have q1:=(uh jO).cells.2.1;have qf:=(uh jO).cells.2.2.2.2 1;clear hv4 hb4 HWI k0 k1 k2 k3 HB3 jb Zj;generalize Bi:w4.setCell ⟨w.heap.size,1,none⟩ (.slice ha hm hc)=W5 at *
    obtain ⟨row,hrow⟩:∃ row,bP (rc.told.getD i []) (-A'.getD i 0)=row:=⟨_,rfl⟩;have FK:Hid (∀ k,Pl.Lt (Hs rc.size+1) (row.getD k 0)):=by unfold Hid;rw [<-hrow];exact rY (λk=>(uh Fh).lt.told i k) (uh KO)
    have HBA:Hid (∀ B,(rc.bound row).dV.kU B↔rc.dV.kU B∧B.getD i 0=A'.getD i 0):=by unfold Hid;rw [<-hrow];exact Nf (uh Fh).ok Qn _
    have HBO:Hid (eH (rc.bound row)):=by unfold Hid;rw [<-hrow];exact P6 (uh Fh).ok Qn _ (by rw [(uh Fh).zero];decide)
    have HBL:Hid (dF (Hs rc.size+1) (rc.bound row)):=by unfold Hid;rw [<-hrow];exact P7 (uh Fh).lt i (uh KO)
    have HBT:Hid ((rc.bound row).dV.gJ):=J9 (uh Fh).mK row;rw [hrow] at MR;clear hrow;obtain ⟨z0,z1,z2,z3,zf⟩:=(uh MR).cells;have Lh:W5.cell? ⟨w.heap.size,0,none⟩=some (.int .i64 rc.size):=z0;have TU:=af (uN PT (Hs rc.size+1) (rc.bound row) (.agg #[.int .i64 rc.size,.slice ha hm hc,.slice ea en ec,.slice (some ⟨gu,ou,none⟩) rc.told.length fc]) W5 (λ_ _=>trivial) (uh MR).at (uh HBO) (by show rc.size<=100;omega) (uh HBL) ((uh lh).settle rc.size V8));clear z0;go_wp2_with fail
    try rw [Bi]
    clear Bi q1 qf;refine (uh TU).mono ?_;rintro e w6 ⟨v6,ok,rfl,⟨n',b1,n1,d1,b2,n2,d2,b3,n3,d3,rfl⟩,hb6,ht,hfl⟩;cases ok with
    | false =>
     exfalso;exact hfl rfl A' ((uh HBA A').2 ⟨uh HA2,rfl⟩)
    | true =>
     obtain ⟨r1,⟨vz,vl,vt,e2,g1,g2,g3⟩,hZ,hcc⟩:=ht rfl;have gF:=af (uH (uh HBO) (uh HBL) (by show rc.size<=100;omega) (uh HBT) hZ hcc);have Sg:=af (D5 (uh lh) V8 (uh Fh).zero (uh Fh).lt (uh FK) hN9 hZ);have hsz1:r1.whole.size=r1.size:=rfl;rw [<-hsz1] at Sg;obtain ⟨r2',hr2⟩:∃ r2,r1.whole=r2:=⟨_,rfl⟩;rw [hr2] at e2 g1 g2 g3 gF Sg;have e3:=congrArg (λv=>match v with | .agg l=>l.toList | _=>[]) e2
     simp only [List.cons.injEq,adj,Value.int.injEq,adM] at e3;obtain ⟨rfl,rfl,rfl,rfl⟩:=e3;clear hr2 hZ hcc ht hfl e2 hsz1;have Zk:=af (Below.same hb6 _ _ (uh MR).own);have lT:Hid (ae w w6):=(uh gD).trans hb6;have SF:=af (bU.store (uh lT) (d_ _) (uh Zk) rfl ⟨g1,g2,g3⟩);have adq:=af (((uh adp).below hb6).holds (uh SF).2.2);obtain ⟨j0,j1,j2,j3,jf⟩:=((uh MR).grow hb6).cells;have j0':w6.cell? ⟨w.heap.size,0,none⟩=some (.int .i64 rc.size):=j0;have f0:=jf 0;have f1:=jf 1;have f2:=jf 2;have f3:=jf 3;have HI2:Hid (Ka r.dV.kU Hs N T (i+1) r2' A') :=
      ⟨⟨(uh gF).zero,(uh gF).mK,(uh gF).ok,uh Sg,(uh lh).one _ (by have h1:r2'.size<=rc.size:=(uh gF).size;omega),by have h1:r2'.size<=rc.size:=(uh gF).size;omega,w_ (uh gF).pJ (uh Fh).pJ,(uh gF).some⟩,
       by have h1:r2'.size<=rc.size:=(uh gF).size;omega,
       (uh HI).low.step (uh HI).qH (uh HA2) (uh Ze),
       λB=>((uh gF).qH B).trans ((uh HBA B).trans (Az.next (uh HI).qH (uh HA2) B))⟩
     have HT2:Hid (r2'.told.length=T):=(uh gF).told.trans (uh HR).2.2.1;have wV:=af (uh SF).1;have Dv:=af (uh SF).2.1;have akI:i<1000:=by have:=(uh Fh).ok.uO;omega
     clear g1 g2 g3 hb6 SF jf j0 TU Lh z1 z2 z3 zf;go_wp2;go_roundg (gk - 1)
     case measure=>omega
     case rel=>exact ⟨i+1,r2',true,_,_,_,_,_,_,_,_,_,_,_,_,rfl,rfl,by simp,by omega,uh wV,uh Dv,uh HT2,λ_=>⟨A',uh adq,uh HI2⟩,λh=>(by cases h)⟩
   ·have Pj:=af (uh HR).2.1;have hT2:=(uh HR).2.2.1;cases ok with
    | false =>
     have Bj:=af ((uh HR).2.2.2.2 rfl);clear hend hfn;by_cases hlt:(i:Int)<(fn:Int)
     ·go_wp2;exact t_ (v:=.tuple #[.slice VW VX VY,.bool false]) (by simp [results,Tryz.results29,go_sem]) rfl ⟨_,false,rfl,⟨_,_,_,rfl⟩,uh Pj,λh=>(by cases h),λ_=>uh Bj⟩
     ·go_wp2;exact t_ (v:=.tuple #[.slice VW VX VY,.bool false]) (by simp [results,Tryz.results29,go_sem]) rfl ⟨_,false,rfl,⟨_,_,_,rfl⟩,uh Pj,λh=>(by cases h),λ_=>uh Bj⟩
    | true =>
     have hiT:¬ (i<T):=λh=>hend ⟨h,rfl⟩;have hif:¬ ((i:Int)<(fn:Int)):=by omega
     obtain ⟨A,hA,hI⟩:=(uh HR).2.2.2.1 rfl;have HA:=af hA;have SE:Hid (r.dV.kU A∧∀ B,r.dV.kU B->¬ lexLt B A):=⟨hI.low.mem,λB hB=>hI.low.least hB (by rw [FQ hB];have:=uh Oh;omega)⟩;clear hA hI hend hfn;go_wp2;exact t_ (v:=.tuple #[.slice VW VX VY,.bool true]) (by simp [results,Tryz.results29,go_sem]) rfl ⟨_,true,rfl,⟨_,_,_,rfl⟩,uh Pj,λ_=>⟨A,uh HA,(uh SE).1,(uh SE).2⟩,λh=>(by cases h)⟩
end
abbrev dS:=List Int × Int × Bool
def zS (q:dS):List Int:=q.2.1::q.1
def ru (n i:Nat) (v:Int × Int):List (List Int):=[bP (dh n i) (-v.1),bP ((dh n i).map λx=>-x) v.2]
def eF (n:Nat) (vs:List (Int × Int)) (k:Nat):List (List Int):=(List.range k).flatMap λi=>ru n i (vs.getD i (0,0))
def gT (n k:Nat):List (List Int):=(List.range k).map (dh n)
def iY (rs:List dS):List (List Int):=(rs.filter λq=>q.2.2).map zS
def dQ (rs:List dS):List (List Int):=(rs.filter λq=>!q.2.2).map zS
def j6 (vs:List (Int × Int)) (rs:List dS):aP:=⟨vs.length,iY rs,eF vs.length vs vs.length++dQ rs,gT vs.length vs.length⟩
theorem yZ (n:Nat) (vs:List (Int × Int)) (k:Nat):eF n vs (k+1)=eF n vs k++ru n k (vs.getD k (0,0)):=by
 unfold eF;rw [abU,List.flatMap_append];simp
theorem Kg (n k:Nat):gT n (k+1)=gT n k++[dh n k]:=by unfold gT;rw [abU,aa9];rfl
structure fI (vs:List (Int × Int)):Prop where
 one:1<=vs.length
 four:vs.length<=4
 lo:∀ v∈vs,-1000000000<=v.1∧v.1<=1000000000
 hi:∀ v∈vs,-1000000000<=v.2∧v.2<=1000000000
 le:∀ v∈vs,v.1<=v.2
structure lI (n:Nat) (rs:List dS):Prop where
 pJ:rs.length<=8
 len:∀ q∈rs,q.1.length=n
 c:∀ q∈rs,∀ x∈q.1,-1000<=x∧x<=1000
 k:∀ q∈rs,-1000000000000<=q.2.1∧q.2.1<=1000000000000
def rowAt (q:dS) (A:List Int):Int:=q.2.1+Pl.sm A.length (λi=>q.1.getD i 0*A.getD i 0)
structure kS (vs:List (Int × Int)) (rs:List dS) (A:List Int):Prop where
 len:A.length=vs.length
 range:∀ i,i<vs.length->(vs.getD i (0,0)).1<=A.getD i 0∧A.getD i 0<=(vs.getD i (0,0)).2
 rows:∀ q∈rs,0<=rowAt q A∧(q.2.2=true->rowAt q A=0)
section
variable {vs:List (Int × Int)} {rs:List dS}
theorem jE {i:Nat} (h:i<vs.length):vs.getD i (0,0)∈vs:=by
 rw [a_,f_ h];exact aal _
theorem vD {n k:Nat} {a:List Int} (h:a∈eF n vs k):∃ i,i<k∧a∈ru n i (vs.getD i (0,0)):=by
 obtain ⟨i,hi,ha⟩:=abz.1 h;exact ⟨i,W_.1 hi,ha⟩
theorem tT {n k i:Nat} (hi:i<k) {a:List Int} (ha:a∈ru n i (vs.getD i (0,0))):a∈eF n vs k:=abz.2 ⟨i,W_.2 hi,ha⟩
theorem iA (n i:Nat):(dh n i).length=n+1:=by simp [dh]
theorem Kh {n i:Nat} {v:Int × Int} {a:List Int} (h:a∈ru n i v):a.length=n+1:=by
 unfold ru at h;rcases aa5.1 h with rfl|h
 ·rw [tL,iA]
 ·rw [I_.1 h,tL,L_,iA]
theorem lW (n:Nat) (vs:List (Int × Int)):∀ k,(eF n vs k).length=2*k
 | 0=>rfl
 | k+1=>by rw [yZ,C_,lW n vs k];show _+2=_;omega
theorem Ki (n:Nat) (q:dS) (x:Nat->Int):Pl.ev n (lf (zS q)) (Pl.pt x)=q.2.1+Pl.sm n (λi=>q.1.getD i 0*x i):=by
 rw [Pl.kR];rfl
theorem Ik (x:Nat->Int):(j6 vs rs).dV.fB x=(List.range vs.length).map x:=by
 have e:(j6 vs rs).dV.fB x=(j6 vs rs).told.map λa=>Pl.ev vs.length (lf a) (Pl.pt x):=by
  show (((j6 vs rs).told.map lf).map λs=>Pl.ev vs.length s (Pl.pt x))=_;rw [abT];rfl
 rw [e];show ((List.range vs.length).map (dh vs.length)).map _=_;rw [abT];refine aa6 λi hi=>?_;exact oo (W_.1 hi) x
theorem CU (q:dS) (x:Nat->Int):rowAt q ((List.range vs.length).map x)=q.2.1+Pl.sm vs.length (λi=>q.1.getD i 0*x i):=by
 unfold rowAt;rw [show ((List.range vs.length).map x).length=vs.length by simp];congr 1;exact Pl.aC λi hi=>by rw [Pl.bJ _ _ _ hi]
theorem Qv (x:Nat->Int):(j6 vs rs).dV.Has x↔kS vs rs ((List.range vs.length).map x):=by
 have hx:∀ i,i<vs.length->((List.range vs.length).map x).getD i 0=x i:=λi hi=>Pl.bJ _ _ _ hi;constructor
 ·intro h;refine ⟨by simp,λi hi=>?_,λq hq=>?_⟩
  ·rw [hx i hi];have h1:0<=Pl.ev vs.length (lf (bP (dh vs.length i) (-(vs.getD i (0,0)).1))) (Pl.pt x):=h.least _ (m_.2 ⟨_,F_.2 (.inl (tT hi (abM ..))),rfl⟩);have h2:0<=Pl.ev vs.length (lf (bP ((dh vs.length i).map λx=>-x) (vs.getD i (0,0)).2)) (Pl.pt x):=h.least _ (m_.2 ⟨_,F_.2 (.inl (tT hi (aa1 _ (I_.2 rfl)))),rfl⟩);rw [nD _ _ _ (by rw [iA];omega),oo hi] at h1;rw [nD _ _ _ (by rw [L_,iA];omega),tK,zR,oo hi] at h2;omega
  ·rw [CU,<-Ki];by_cases hb:q.2.2=true
   ·have h1:Pl.ev vs.length (lf (zS q)) (Pl.pt x)=0:=h.zero _ (m_.2 ⟨zS q,m_.2 ⟨q,aaW.2 ⟨hq,hb⟩,rfl⟩,rfl⟩);rw [h1];exact ⟨aaZ _,λ_=>rfl⟩
   ·have h1:0<=Pl.ev vs.length (lf (zS q)) (Pl.pt x):=h.least _ (m_.2 ⟨zS q,F_.2 (.inr (m_.2 ⟨q,aaW.2 ⟨hq,by simp [hb]⟩,rfl⟩)),rfl⟩);exact ⟨h1,λe=>absurd e hb⟩
 ·intro h;refine ⟨λs hs=>?_,λs hs=>?_⟩
  ·obtain ⟨a,ha,rfl⟩:=m_.1 hs;obtain ⟨q,hq,rfl⟩:=m_.1 ha;obtain ⟨hq1,hq2⟩:=aaW.1 hq;have h1:=(h.rows q hq1).2 hq2;rw [CU,<-Ki] at h1;exact h1
  ·obtain ⟨a,ha,rfl⟩:=m_.1 hs;show 0<=Pl.ev vs.length (lf a) (Pl.pt x);rcases F_.1 ha with ha|ha
   ·obtain ⟨i,hi,ha⟩:=vD ha;have h1:=h.range i hi;rw [hx i hi] at h1;unfold ru at ha;rcases aa5.1 ha with rfl|ha
    ·rw [nD _ _ _ (by rw [iA];omega),oo hi];omega
    ·rw [I_.1 ha,nD _ _ _ (by rw [L_,iA];omega),tK,zR,oo hi];omega
   ·obtain ⟨q,hq,rfl⟩:=m_.1 ha;obtain ⟨hq1,_⟩:=aaW.1 hq;have h1:=(h.rows q hq1).1;rw [CU,<-Ki] at h1;exact h1
theorem FV (A:List Int):(j6 vs rs).dV.kU A↔kS vs rs A:=by
 constructor
 ·rintro ⟨x,h1,rfl⟩;rw [Ik];exact (Qv x).1 h1
 ·intro h;have e:(List.range vs.length).map (λi=>A.getD i 0)=A:=by
   apply abA
   ·simp [h.len]
   ·intro i h1 h2;simp [a_,f_ h2]
  exact ⟨λi=>A.getD i 0,(Qv _).2 (by rw [e];exact h),by rw [Ik];exact e⟩
theorem SY:(j6 vs rs).dV.gJ:=by
 intro D _ h i hi;have hi':i<vs.length:=hi;have key:∀ a:List Int,a∈(j6 vs rs).least->0<=Pl.dir vs.length (lf a) D:=λa ha=>h _ (m_.2 ⟨a,ha,rfl⟩);have h1:=key _ (F_.2 (.inl (tT hi' (abM ..))));have h2:=key _ (F_.2 (.inl (tT hi' (aa1 _ (I_.2 rfl)))));have dr:∀ (a:List Int) (v:Int),0<a.length->Pl.dir vs.length (lf (bP a v)) D=Pl.dir vs.length (lf a) D:=λa v h0=>by
  unfold Pl.dir;exact Pl.aC λk _=>by rw [wy a v h0,g_ (by omega)]
 have dc:Pl.dir vs.length (lf (dh vs.length i)) D=D i:=by
  have e1:=oo hi' D;rw [Pl.kR] at e1;have e2:lf (dh vs.length i) 0=0:=by
   unfold lf dh;rw [Pl.bJ _ _ _ (by omega)];unfold Pl.unit;rw [g_ (by omega)]
  unfold Pl.dir;omega
 have dn:Pl.dir vs.length (lf ((dh vs.length i).map λx=>-x)) D=-D i:=by
  rw [tK];have:Pl.dir vs.length (λk=>-lf (dh vs.length i) k) D=-Pl.dir vs.length (lf (dh vs.length i)) D:=by
   unfold Pl.dir;rw [<-Int.neg_one_mul,<-Pl.dz];exact Pl.aC λk _=>by rw [aaU,Int.neg_one_mul]
  rw [this,dc]
 rw [dr _ _ (by rw [iA];omega),dc] at h1;rw [dr _ _ (by rw [L_,iA];omega),dn] at h2;omega
theorem ZE (hv:fI vs) (hr:lI vs.length rs):eH (j6 vs rs):=by
 have h4:=hv.four;have h8:=hr.pJ;have hz:(iY rs).length<=8:=by unfold iY;rw [L_];exact w_ (abL _ _) h8
 have hl:(dQ rs).length<=8:=by unfold dQ;rw [L_];exact w_ (abL _ _) h8
 have hrow:∀ q∈rs,(zS q).length=vs.length+1:=λq hq=>by show q.1.length+1=_;rw [hr.len q hq]
 refine ⟨λl h=>?_,λl h=>?_,λl h=>?_,by show (iY rs).length<=1000;omega,?_,?_⟩
 ·obtain ⟨q,hq,rfl⟩:=m_.1 h;exact hrow q (aaW.1 hq).1
 ·rcases F_.1 h with h | h
  ·obtain ⟨i,_,ha⟩:=vD h;exact Kh ha
  ·obtain ⟨q,hq,rfl⟩:=m_.1 h;exact hrow q (aaW.1 hq).1
 ·obtain ⟨i,_,rfl⟩:=m_.1 h;exact iA _ _
 ·show (eF vs.length vs vs.length++dQ rs).length<=1000;rw [C_,lW];omega
 ·show ((List.range vs.length).map _).length<=1000;rw [L_,List.length_range];omega
theorem nH {x:Int} {K:Nat} (h:x.natAbs<1073741824^K):Pl.Lt K x:=by rw [Pl.dZ];exact h
theorem of_lt (hv:fI vs) (hr:lI vs.length rs):dF 2 (j6 vs rs):=by
 have hrow:∀ q∈rs,∀ k,Pl.Lt 2 ((zS q).getD k 0):=λq hq k=>by
  cases k with
  | zero=>have:=hr.k q hq;exact nH (show q.2.1.natAbs<1152921504606846976 by omega)
  | succ k =>
   show Pl.Lt 2 (q.1.getD k 0);rw [a_];rcases hk:q.1[k]? with _|x
   ·exact lq 2
   ·have:=hr.c q hq x (abw hk);exact nH (show x.natAbs<1152921504606846976 by omega)
 have hco:∀ i k,Pl.Lt 1 ((dh vs.length i).getD k 0):=λi k=>ve (d_ _) k;have hrange:∀ i,i<vs.length->∀ a∈ru vs.length i (vs.getD i (0,0)),∀ k,Pl.Lt 2 (a.getD k 0):=λi hi a ha k=>by
  have h1:=hv.lo _ (jE hi);have h2:=hv.hi _ (jE hi);unfold ru at ha;rcases aa5.1 ha with rfl|ha
  ·exact rY (hco i) (nH (show (-(vs.getD i (0,0)).1).natAbs<1073741824 by omega)) k
  ·rw [I_.1 ha];exact rY (CJ (hco i)) (nH (show ((vs.getD i (0,0)).2).natAbs<1073741824 by omega)) k
 refine ⟨lV λa ha=>?_,lV λa ha=>?_,lV λa ha=>?_⟩
 ·obtain ⟨q,hq,rfl⟩:=m_.1 ha;exact hrow q (aaW.1 hq).1
 ·rcases F_.1 ha with ha | ha
  ·obtain ⟨i,hi,ha⟩:=vD ha;exact hrange i hi a ha
  ·obtain ⟨q,hq,rfl⟩:=m_.1 ha;exact hrow q (aaW.1 hq).1
 ·obtain ⟨i,_,rfl⟩:=m_.1 ha;exact λk=>(hco i k).mono (by omega)
theorem Il (hv:fI vs) {A:List Int} (h:kS vs rs A) (i:Nat):Pl.Lt 1 (A.getD i 0)∧-1000000000<=A.getD i 0∧A.getD i 0<=1000000000:=by
 have key:-1000000000<=A.getD i 0∧A.getD i 0<=1000000000:=by
  by_cases hi:i<vs.length
  ·have h1:=hv.lo _ (jE hi);have h2:=hv.hi _ (jE hi);have h3:=h.range i hi;omega
  ·rw [a_,P_ (by rw [h.len];omega)];decide
 exact ⟨nH (show (A.getD i 0).natAbs<1073741824 by omega),key⟩
end
end
def ZF:Nat->Nat
 | 0=>53166996806
 | 1=>708893290
 | 2=>3616802
 | 3=>8930
 | _=>12
def Qw:Nat->Nat
 | 0=>177186
 | 1=>11811
 | 2=>786
 | 3=>51
 | _=>2
theorem kK {P:Nat->Prop} (h0:P 0) (h1:P 1) (h2:P 2) (h3:P 3) (h4:P 4) (s:Nat) (h:s<=4):P s:=by
 rcases (show s=0∨s=1∨s=2∨s=3∨s=4 by omega) with e|e|e|e|e <;> (subst e;assumption)
theorem xN {P:Nat->Prop} (h0:P 0) (h1:P 1) (h2:P 2) (h3:P 3) (s:Nat) (h:s<4):P s:=by
 rcases (show s=0∨s=1∨s=2∨s=3 by omega) with e|e|e|e <;> (subst e;assumption)
theorem Nt:AJ 4 ZF Qw :=
 ⟨⟨by decide,kK (by decide) (by decide) (by decide) (by decide) (by decide),xN (by decide) (by decide) (by decide) (by decide),xN (by decide) (by decide) (by decide) (by decide),kK (by decide) (by decide) (by decide) (by decide) (by decide),kK (by decide) (by decide) (by decide) (by decide) (by decide),kK (by decide) (by decide) (by decide) (by decide) (by decide)⟩,
  kK (by decide) (by decide) (by decide) (by decide) (by decide),xN (by decide) (by decide) (by decide) (by decide),kK (by decide) (by decide) (by decide) (by decide) (by decide),kK (by decide) (by decide) (by decide) (by decide) (by decide),kK (by decide) (by decide) (by decide) (by decide) (by decide)⟩
theorem Nu {n:Nat} (h:n<=4):2<=Qw n:=kK (P:=λn=>2<=Qw n) (by decide) (by decide) (by decide) (by decide) (by decide) n h
theorem Im {vs:List (Int × Int)} {rs:List dS} (hv:fI vs) (hr:lI vs.length rs) (vr:Value) (w:World) (h:jT PT w vr (j6 vs rs)) :
  Calls Tryz.prog 29 #[vr] w (EH (j6 vs rs) w) :=
 CP Nt (j6 vs rs) vr w h hv.four (ZE hv hr) ((of_lt hv hr).mono (Nu hv.four)) SY (by
  show (eF vs.length vs vs.length++dQ rs).length<=700;rw [C_,lW];have h1:=hv.four;have h2:(dQ rs).length<=8:=by unfold dQ;rw [L_];exact w_ (abL _ _) hr.pJ
  omega) (λB hB i=>(Il hv ((FV B).1 hB) i).1)
end Go.Proofs.YtgaafamcajcifaaGreat
