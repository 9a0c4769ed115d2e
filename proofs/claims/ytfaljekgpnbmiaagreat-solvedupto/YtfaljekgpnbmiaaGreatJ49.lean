/- Joined: SLaw11 SLaw12 SFacts SolvedF Solved1G. -/
import Derived.Test.YtfaljekgpnbmiaaGreatJ43
import Derived.Test.YtfaljekgpnbmiaaGreatJ48
set_option linter.unusedVariables false
set_option linter.unusedSimpArgs false
set_option maxRecDepth 100000
namespace Go.Proofs.YtfaljekgpnbmiaaGreat
open Go.RowKit Go.Sort
structure Ah (B S W:Nat) (w:World) (b N:Nat) (bu:List (Value × Int)) (v:Value) (dB:List (Value × Int)) (rv:Value) (dw:List (Value × Int)) (qv:Value) (vs:List (Int × Int)) (rs:List dV) (g1 gl:Nat) (G:List Nat) (vcs vl:Value) (A:List Int):Prop where
 Yn:Sr B w b N bu v dB rv dw qv
 low:(∀ e∈bu,∀ k,e.1.ownBlock=some k->k<S)∧(∀ e∈dB,BI (·<S) w e)∧(∀ e∈dw,Su (·<S) w e)
 rng:eO w g1 (lT vs 2)
 Vo:S<=g1
 Ji:iR S rs gl (rs.length+2) G w
 cs:qJ S rs (rs.length+2) G w vcs
 gW:∀ g∈G,g<W
 glW:gl<W
 own:aI W w vl A
 sW:S<=W
 bS:B<=S
 sw:S<=w.heap.size
section
variable {B S W:Nat} {w w9 zw:World} {b N:Nat} {bu dB dw:List (Value × Int)} {v rv qv:Value} {vs:List (Int × Int)} {rs:List dV} {g1 gl:Nat} {G:List Nat} {vcs vl:Value} {A:List Int}
theorem Ah.grow {w':World} (h:Ah B S W w b N bu v dB rv dw qv vs rs g1 gl G vcs vl A) (hg:ae w w'):Ah B S W w' b N bu v dB rv dw qv vs rs g1 gl G vcs vl A :=
 have k:∀ e,aA e w w':=λe=>.aX hg
 ⟨h.Yn.grow hg,⟨h.low.1,λe he=>(h.low.2.1 e he).bX (λj cur hj _=>k _ j cur hj) (λ_ _ x=>x),λe he=>(h.low.2.2 e he).bX (λj cur hj _=>k _ j cur hj) (λj cur hj _=>k _ j cur hj) (λ_ _ x=>x)⟩,h.rng.grow hg,h.Vo,h.Ji.grow hg,h.cs.bX (k _),h.gW,h.glW,aW h.own (k _),h.sW,h.bS,w_ h.sw hg.size⟩
theorem Ah.Vp (hD:Sr B w b N bu v dB rv dw qv):(∀ e∈bu,∀ k,e.1.ownBlock=some k->k<w.heap.size)∧(∀ e∈dB,BI (·<w.heap.size) w e)∧(∀ e∈dw,Su (·<w.heap.size) w e) :=
 ⟨λe he k hk=>(hD.ok e he).lt hk,λe he=>(hD.Yo e he).bX (λ_ _ _ _=>rfl) (λk hk _=>hk),λe he=>(hD.qok e he).bX (λ_ _ _ _=>rfl) (λ_ _ _ _=>rfl) (λk hk _=>hk)⟩
structure Jj (B S W:Nat) (w8 w:World) (b N:Nat) (bu:List (Value × Int)) (v:Value) (dB:List (Value × Int)) (dw:List (Value × Int)) (qv:Value) (rs:List dV) (gl:Nat) (G:List Nat) (vcs vl:Value) (A:List Int) (mY:List (Value × Int)) (rv':Value):Prop where
 held:dZ rv' qv B w b (N+1) bu v
 Jk:w.ownsRow B 80 2 rv' mY.length (bU mY)
 acb:mY.length=dB.length+1
 Yo:∀ e∈mY,BI (λ_=>True) w e
 Mx:w.ownsRow B 83 2 qv dw.length (bU dw)
 acd:∀ e∈dw,Su (·<S) w e
 eok:∀ e∈bu,kS w e∧∀ k,e.1.ownBlock=some k->k<S
 Ji:iR S rs gl (rs.length+2) G w
 cs:qJ S rs (rs.length+2) G w vcs
 gW:∀ g∈G,S<=g∧g<W
 glW:gl<W
 own:aI W w vl A
 sW:S<=W
 bS:B<=S
 sw:S<=w.heap.size
 below:Below B w8 w
theorem Ah.ranges (h:Ah B S W w b N bu v dB rv dw qv vs rs g1 gl G vcs vl A) (hv:vs.length<=1048576) (hN:N<=100000000) {e:Ending} (hp:xg B w b N bu v qv dB g1 (vs.length+2) (vs.length+2) e w9):∃ u mY rv',e=.returned u∧Jj B S W w w9 b N bu v dB dw qv rs gl G vcs vl A mY rv':=by
 obtain ⟨u,ra,rc,he,h1,h2,h3,h4,h5,h6⟩:=hp;have hr:=h4 85 (by decide) (by decide) (by decide);have hi:=h4 3 (by decide) (by decide) (by decide);refine ⟨u,dB++[(.slice (some ⟨g1,0,none⟩) (vs.length+2) (vs.length+2),1099511627783+(N+1:Int))],_,he,h1,by rw [C_];exact h2,by rw [C_];rfl,λe he=>?_,aW h.Yn.Mx (h4 _ (by decide) (by decide) (by decide)),λe he=>(h.low.2.2 e he).bX (λj cur hj _=>hr j cur hj) (λj cur hj _=>hi j cur hj) (λ_ _ x=>x),λe he=>⟨(h.Yn.ok e he).ed hi,h.low.1 e he⟩,h.Ji.bX hr hi,h.cs.bX (h4 _ (by decide) (by decide) (by decide)),λg hg=>⟨?_,h.gW g hg⟩,h.glW,aW h.own hi,h.sW,h.bS,w_ h.sw h6.size,h6⟩
 ·rcases F_.1 he with he | he
  ·refine (h.low.2.1 e he).bX (λj cur hj hl=>h5 j cur hj (λe=>?_)) (λ_ _ _=>trivial);have:=h.Vo;omega
  ·rw [I_.1 he];exact ⟨g1,_,_,rfl,h3,by omega,by show (0:Int)<=1099511627783+(N+1:Int);omega,by show 1099511627783+(N+1:Int)<=(4000000000000:Int);omega,trivial⟩
 ·obtain ⟨j,hj,e⟩:=List.getElem_of_mem hg;exact (h.Ji.list j g (by rw [f_ hj,e])).2
theorem Jj.last {mY:List (Value × Int)} {rv':Value} {la:Option Addr} {ln lc:Nat} (h:Jj B S W w w9 b N bu v dB dw qv rs gl G vcs (.slice la ln lc) A mY rv') {e:Ending} (hp:BJ rv' B w9 b (N+1) bu dw rs gl G e zw) (hW:∀ k,(Value.slice la ln lc).ownBlock=some k->k<w9.heap.size) :
  e=.returned (.bool true)∧∃ Ee v1 qv',dZ rv' qv' B zw b (N+1+rs.length+1) Ee v1∧aI B zw (.slice la ln lc) A∧(∀ e∈Ee,kS zw e∧∀ k,(Value.slice la ln lc).ownBlock=some k->e.1.ownBlock≠some k)∧Ee.length=bu.length+4*rs.length∧B<=zw.heap.size ∧
   ∀ MB new v2,dZ rv' qv' B MB b (N+1+rs.length+1+1) (Ee++new) v2->new.length=4->(∀ e∈Ee++new,kS MB e)->jT (Value.slice la ln lc).ownBlock zw MB->Below B zw MB->(∀ e,3≠e->78≠e->28≠e->aA e zw MB)->xe B w b N bu dB dw rs (.returned (.bool true)) MB:=by
 obtain ⟨new,v1,qa,qc,n,he,h1,h2,h3,h4,h5,h6,h7,h8,h9,h10⟩:=hp;have hlW:∀ k,(Value.slice la ln lc).ownBlock=some k->W<=k:=bT h.own;have hlG:∀ k,(Value.slice la ln lc).ownBlock=some k->k ∉ G:=λk hk hc=>by have:=hlW k hk;have:=(h.gW k hc).2;omega
 have hA:aI B zw (.slice la ln lc) A:=by
  have h0:=rH h.own (w_ h.bS h.sW);refine ⟨h0.1,?_⟩;rcases h0.2 with hn|⟨k,cap,cur,e,hb,hgg,rest⟩
  ·exact .inl hn
  ·exact .inr ⟨k,cap,cur,e,hb,by rw [h8 k cur hgg (hlG k (by rw [e];rfl))];exact hgg,rest⟩
 refine ⟨he,bu++new,v1,.slice qa (dw.length+1) qc,h1,hA,λe he=>⟨h4 e he,λk hk hc=>?_⟩,by rw [C_,h3],w_ (w_ h.bS h.sw) h10.size,?_⟩
 ·have hkW:=hlW k hk;have hkw:=hW k hk;rcases F_.1 he with he|he
  ·have:=(h.eok e he).2 k hc;have:=h.sW;omega
  ·rcases h5 e he k hc with h' | h'
   ·exact hlG k hk h'
   ·omega
 ·intro MB acg v2 g1 g2 g3 g4 g5 g6;have kr:=g6 85 (by decide) (by decide) (by decide);have kg:=(h7 52 (by decide) (by decide) (by decide) (by decide) (by decide)).trans (g6 _ (by decide) (by decide) (by decide));have khr:=(h7 80 (by decide) (by decide) (by decide) (by decide) (by decide)).trans (g6 _ (by decide) (by decide) (by decide));refine ⟨bu++new++acg,mY,dw++[(.slice (some ⟨gl,0,none⟩) (rs.length+2) (rs.length+2),n)],v2,rv',.slice qa (dw.length+1) qc,rfl,⟨?_,aW h.Jk khr,?_,g3,λe he=>(h.Yo e he).bX (λj cur hj _=>kg j cur hj) (λ_ _ x=>x),λe he=>?_⟩,by rw [C_,C_,h3,g2],h.acb,by rw [C_];rfl,(h.below.trans h10).trans g5⟩
  ·rw [show N+rs.length+3=N+1+rs.length+1+1 by omega];exact g1
  ·rw [C_];exact aW h2 (g6 _ (by decide) (by decide) (by decide))
  ·rcases F_.1 he with he | he
   ·have hq1:Su (·<S) zw e:=(h.acd e he).bX (λj cur hj hl=>h9 j cur hj (λe=>by have:=h.Ji.Pp;omega)) (λj cur hj hl=>h8 j cur hj (λe=>by have:=(h.gW j e).1;omega)) (λ_ _ x=>x);exact hq1.bX (λj cur hj _=>kr j cur hj) (λj cur hj hl=>g4 j cur hj (λe=>by have:=hlW j e;have:=h.sW;omega)) (λ_ _ _=>trivial)
   ·rw [I_.1 he];exact h6.bX (λj cur hj _=>kr j cur hj) (λj cur hj hl=>g4 j cur hj (λe=>by
     rcases hl with rfl|hl
     ·have:=hlW _ e;have:=h.glW;omega
     ·have:=hW j e;omega)) (λ_ _ _=>trivial)
end
section
section
attribute [local go_sem] bE
set_option maxHeartbeats 2000000 in
theorem Ef (qW:BG) {B:Nat} {w:World} {b N:Nat} {bu dB dw:List (Value × Int)} {v rv qv:Value} (vs:List (Int × Int)) (rs:List dV) (va vb:Value) (hD:Sr B w b N bu v dB rv dw qv) (ha:jg w va vs) (hb:kR w vb rs) (hv:vs.length<=1048576) (hr:rs.length<=1048576) (hC:∀ q∈rs,q.1.length<=1048576) (hB:B<=w.heap.size) (hn:bu.length<=20000000) (hn2:dB.length<=100) (XN:dw.length<=100) (hN:N<=20000000) :
  Calls Tryz.prog 18 #[.pointer (some ⟨b,0,none⟩),va,vb] w (xe B w b N bu dB dw rs):=by
 have hLR:=af (BK vs va w ha hv);have HA:=af ha;have HB:=af hb;have HC:=af hC;have HD:=af hD;obtain ⟨aa,ac,rfl⟩:=ha.aB;obtain ⟨ba,bc,rfl⟩:=hb.aB;obtain ⟨n,hnn⟩:∃ n,vs.length=n:=⟨_,rfl⟩;obtain ⟨m,hmm⟩:∃ m,rs.length=m:=⟨_,rfl⟩;have MC:=af hnn;have zy:=af hmm;rw [hnn] at HA hv hLR ⊢;rw [hmm] at HB hr ⊢;clear ha hb hC hD hnn hmm;go_enter Tryz.func18,Tryz.ntmps18;go_wp2_with fail;refine (uh hLR).mono ?_;rintro e w1 ⟨g1,rfl,hg1,hr1,hG1⟩;have hLW:=af (Fe rs (.slice ba m bc) w1 ((uh HB).below hG1) (by rw [uh zy];exact hr) (uh HC));have HR1:=af (x_ hg1 (x_ hr1 hG1));clear hLR hg1 hr1 hG1;go_wp2_with fail;refine (uh hLW).mono ?_;rintro e w2 ⟨gl,ca,cc,G,rfl,hL,hCs,hG2⟩;have HST:Hid (eO w2 g1 (lT vs 2)∧w.heap.size<=g1∧iR w.heap.size rs gl (rs.length+2) G w2∧qJ w.heap.size rs (rs.length+2) G w2 (.slice ca rs.length cc)∧ae w w2∧gl<w2.heap.size) :=
  ⟨(uh HR1).2.1.grow hG2,(uh HR1).1,hL.mono (uh HR1).2.2.size,rH hCs (uh HR1).2.2.size,(uh HR1).2.2.trans hG2,z_ hL.blk⟩
 rw [uh zy] at HST ⊢;clear hLW hL hCs hG2 HR1;have HSO:Hid (∀ wq,ae w2 wq->Calls Tryz.prog 52 #[.slice (some ⟨g1,0,none⟩) n (n+2),.slice (some ⟨gl,0,none⟩) m (m+2)] wq (mX vs rs wq)):=λwq hg=>by
  have h1:=Gp ((uh HST).1.grow hg) (n+2);have hl:=(uh HST).2.2.1;rw [<-uh zy] at hl;have h2:=(hl.grow hg).rws (m+2);have h3:=qW vs rs _ _ wq h1 h2 (by rw [uh MC];unfold maxLen;omega) (by rw [uh zy];unfold maxLen;omega);rw [uh MC,uh zy] at h3;exact h3
 have hle1:(n:Int)<=(n:Int)+2:=by omega
 have hle2:(m:Int)<=(m:Int)+2:=by omega
 go_wp2_with fail;refine ah (cK [(36,qV vs rs w2)]) (gL [(36,BH)]) 88 15 (by kernel_rfl) (by rfl) (by kernel_rfl) (aN (λ_ _ _=>qV.grow) cO) ?_
 iterate 8 (refine aO λK hK=>?_;go_simp;refine hK _ ?_;clear hK K)
 refine ai BH 52 #[.slice (some ⟨g1,0,none⟩) n (n+2),.slice (some ⟨gl,0,none⟩) m (m+2)] (by rfl) (by rfl) ⟨_,none,0,0,false,0,rfl⟩ (λw=>by go_simp) (λwq hg hf=>(uh HSO wq hg).mono (by intro e w' hp;obtain ⟨u,h1,h2,h3,h4⟩:=qV.of (W:=w2) hp hg.size;exact ⟨u,h1,h2,h3,λt ht=>by cases ht;exact h4⟩)) ?_;rintro _ ⟨la,ln,lc,fo,er,rfl⟩;simp only [Act.put,p_,G_,D_]
 iterate 6 (refine aO λK hK=>?_;go_simp;refine hK _ ?_;clear hK K)
 refine aF ?_;intro w5 hg5 aK;have HV5:Hid (qV vs rs w2 (.tuple #[.slice la ln lc,.bool fo,.int .i64 er]) w5):=aK 8 _ 36 (by decide) rfl rfl;have gG:=af hg5;clear aK hg5 HSO;have xh:=af (Jl vs rs (.slice aa n ac) (.slice ba m bc) w5 ((uh HA).below ((uh HST).2.2.2.2.1.trans (uh gG))) ((uh HB).below ((uh HST).2.2.2.2.1.trans (uh gG))) (by rw [uh MC];unfold maxLen;omega) (by rw [uh zy];unfold maxLen;omega));go_wp2_with fail;refine (uh xh).mono ?_;rintro e w6 hp;obtain ⟨A,va',vc',hln,rfl,o1,o2,hA4,rM⟩:=Jh (uh HV5) hp;have hS:Ah B w.heap.size w2.heap.size w6 b N bu v dB rv dw qv vs rs g1 gl G (.slice ca m cc) (.slice la ln lc) A:=by
  obtain ⟨s1,s2,s3,s4,s5,s6⟩:=uh HST;have Sv:ae w2 w6:=(uh gG).trans rM;have Vq:ae w w6:=s5.trans Sv;have hlo:=Ah.Vp (uh HD);have k:∀ e,aA e w w6:=λe=>.aX Vq;refine ⟨(uh HD).grow Vq,⟨hlo.1,λe he=>(hlo.2.1 e he).bX (λj cur hj _=>k _ j cur hj) (λ_ _ x=>x),λe he=>(hlo.2.2 e he).bX (λj cur hj _=>k _ j cur hj) (λj cur hj _=>k _ j cur hj) (λ_ _ x=>x)⟩,s1.grow Sv,s2,by rw [uh zy];exact s3.grow Sv,by rw [uh zy];exact s4.bX (.aX Sv),λg hg=>s3.lt hg,s6,o1,s5.size,hB,Vq.size⟩
 have Dz:Hid (ae w w6):=(uh HST).2.2.2.2.1.trans ((uh gG).trans rM);have vQ:=af (BL vs (.slice aa n ac) g1 w6 ((uh HA).below (uh Dz)) hS.rng (by rw [uh MC];exact hv));rw [uh MC] at vQ;have Lf:=af hS;have iV:=af o2;have Lg:=af hln;clear xh hp HV5 hS o1 o2 rM HST gG hln;go_wp2_with fail;refine (uh vQ).mono ?_;rintro e w7 ⟨rfl,sK⟩;have Jm:Hid (ae w w7):=(uh Dz).trans sK;have hS7:=(uh Lf).grow sK;have Vr:=hS7.cs;rw [uh zy] at Vr;have HLW:=af (Ff rs (.slice ba m bc) w.heap.size gl ca cc G w7 ((uh HB).below (uh Jm)) hS7.Ji (by rw [uh zy];exact Vr) (by rw [uh zy];exact hr) (uh HC));rw [uh zy] at HLW;have HS7:=af hS7;have Sw:=af (aW (uh iV) (.aX sK));clear vQ hS7 Vr Lf iV Dz sK;go_wp2_with fail;refine (uh HLW).mono ?_;rintro e w8 ⟨rfl,q8,hw8⟩;have Dv:ae w7 w8:=by rw [hw8];exact abF (n_ _ _) _
 have hS8:=(uh HS7).grow Dv;have hO8:=aW (uh Sw) (.aX Dv);have Yp:=af (sI A (.slice la ln lc) (.slice va' ln vc') w8 (cZ hS8.own) (cZ hO8) (by unfold maxLen;omega));have Yq:Hid (ae w w8):=(uh Jm).trans Dv;have Lh:=af hS8;clear HLW hS8 hO8 HS7 Sw Jm Dv hw8 q8;go_wp2_with fail;refine (uh Yp).mono ?_;rintro e w9 ⟨rfl,q9,rF⟩;have Vt:ae w8 w9:=by rw [rF];exact abF (n_ _ _) _
 have Vu:=(uh Lh).grow Vt;have Yr:Hid (ae w w9):=(uh Yq).trans Vt;have hll:(lT vs 2).length=n+2:=by rw [vP vs (d_ 2),uh MC]
 have zA:=af (Jn g1 (n+2) (lT vs 2) Vu.Yn.held Vu.Yn.Jk Vu.rng (w_ Vu.bS Vu.Vo) (w_ hB (uh Yr).size) (by rw [hll];omega) (by omega) (by omega));rw [hll] at zA;have HS9:=af Vu;clear Yp Vu Lh Yq Vt rF q9 hll;go_wp2_with fail;refine (uh zA).mono ?_;rintro e zw Vv;rw [<-uh MC] at Vv;obtain ⟨u10,mY,rv',rfl,h10⟩:=(uh HS9).ranges (by rw [uh MC];exact hv) (by omega) Vv;have Ps:=h10.cs;rw [uh zy] at Ps;have OV:=af (Pt rs gl ca cc G h10.held h10.Mx (h10.Ji.mono h10.bS) (by rw [uh zy];exact rH Ps h10.bS) (λe he=>⟨(h10.eok e he).1,λk hk hc=>by have:=(h10.eok e he).2 k hk;have:=(h10.gW k hc).1;omega⟩) (w_ h10.bS h10.sw) (by rw [uh zy];exact hr) (uh HC) (by omega) (by omega) (by omega));have HLB:Hid (∀ k,(Value.slice la ln lc).ownBlock=some k->k<zw.heap.size):=Vw h10.own;rw [uh zy] at OV;have H10:=af h10;clear zA Vv h10 Ps HS9;go_wp2_with fail;refine (uh OV).mono ?_;rintro e MB Yt;obtain ⟨rfl,Ee,v1,qv',t1,t2,t3,t4,t5,t6⟩:=(uh H10).last Yt (uh HLB);have Yu:rs.length<=1048576:=by rw [uh zy];exact hr
 have Yv:=af (Gq (.slice la ln lc) A t1 t2 t3 t5 (by omega) (by omega) (by omega));have HT6:=af t6;have Vx:Hid (Below B w w9):=(uh Yr).mono hB;clear OV Yt t1 t2 t3 t4 t5 t6 H10 HLB Yu;go_wp2_with fail;refine (uh Yv).mono ?_;rintro e R6 ⟨rfl,new,v2,u1,u2,u3,u4,u5,u6,u7,u8⟩;have HF:Hid (xe B w b N bu dB dw rs (.returned (.bool true)) R6):=by
  obtain ⟨a1,a2,a3,a4,a5,a6,b1,b2,b3,b4,b5,b6⟩:=uh HT6 R6 new v2 u1 u2 u3 u5 u6 u8;exact ⟨a1,a2,a3,a4,a5,a6,b1,b2,b3,b4,b5,(uh Vx).trans b6⟩
 clear Yv HT6 u1 u2 u3 u4 u5 u6 u7 u8;go_wp2_with (go_at_call 37;refine (Sq _ _).mono ?_;rintro e w' ⟨rfl,rfl⟩);exact t_ (v:=.bool true) (by simp [results,Tryz.results18,go_sem]) rfl (uh HF)
end
set_option maxHeartbeats 1000000 in
theorem Gr (qW:BG) (vs:List (Int × Int)) (rs:List dV) (va vb:Value) (w:World) (ha:jg w va vs) (hb:kR w vb rs) (hv:vs.length<=1048576) (hr:rs.length<=1048576) (hC:∀ q∈rs,q.1.length<=1048576) :
  Calls Tryz.prog 5 #[va,vb] w λe w'=>e=.returned (.bool true)∧Below w.heap.size w w':=by
 have HA:=af ha;have HB:=af hb;have hg0:=ae.alloc w (.cells #[.int .i64 0,.slice none 0 0,.slice none 0 0,.slice none 0 0] 28);have hD:Sr w.heap.size (w.alloc (.cells #[.int .i64 0,.slice none 0 0,.slice none 0 0,.slice none 0 0] 28)) w.heap.size 0 [] (.slice none 0 0) [] (.slice none 0 0) [] (.slice none 0 0) :=
  ⟨⟨d_ _,aay w _,abz _ _ _ _⟩,abz _ _ _ _,abz _ _ _ _,(λe he=>by cases he),(λe he=>by cases he),(λe he=>by cases he)⟩
 have H0:=af (Ef qW vs rs va vb hD (ha.below hg0) (hb.below hg0) hv hr hC hg0.size (by simp) (by simp) (by simp) (by omega));have xX:=af hg0;obtain ⟨aa,ac,rfl⟩:=ha.aB;obtain ⟨ba,bc,rfl⟩:=hb.aB;clear ha hb hg0 hD;obtain ⟨n,hnn⟩:∃ n,vs.length=n:=⟨_,rfl⟩;obtain ⟨m,hmm⟩:∃ m,rs.length=m:=⟨_,rfl⟩;have MC:=af hnn;have zy:=af hmm;rw [hnn,hmm] at H0 ⊢;rw [hnn] at HA;rw [hmm] at HB hr;clear hnn hmm;go_enter Tryz.func5,Tryz.ntmps5;go_wp2_with fail;refine (uh H0).mono ?_;rintro e w1 ⟨e1,r1,q1,v1,rv1,qv1,rfl,hD1,l1,l2,l3,hb1⟩;have hG1:ae w w1:=abt (uh xX) hb1;have hrm:=uh zy;have H1:=af (Ef qW vs rs (.slice aa n ac) (.slice ba m bc) hD1 ((uh HA).below hG1) ((uh HB).below hG1) hv (by rw [hrm];exact hr) hC hG1.size (by rw [l1];simp;omega) (by rw [l2];simp) (by rw [l3];simp) (by omega));have dP:=af hG1;have HL:=af (x_ l1 (x_ l2 l3));clear H0 hD1 l1 l2 l3 hb1 hG1 hrm;go_wp2_with fail;refine (uh H1).mono ?_;rintro e w2 ⟨e2,r2,q2,v2,rv2,qv2,rfl,hD2,k1,k2,k3,hb2⟩;obtain ⟨l1,l2,l3⟩:=uh HL;have hG2:ae w w2:=abt (uh dP) hb2;have hrm:=uh zy;have H2:=af (Sy hD2 (by rw [k1,l1];simp;omega) (by rw [k2,l2];simp) (by rw [k3,l3];simp));have HG2:=af hG2;clear H1 hD2 l1 l2 l3 k1 k2 k3 hb2 hG2 hrm;go_wp2_with fail;refine (uh H2).mono ?_;rintro e w3 ⟨rfl,hg3⟩;have je:Hid (ae w w3):=(uh HG2).trans hg3;clear H2 hg3;go_wp2;go_ret;exact ⟨rfl,uh je⟩
end
end Go.Proofs.YtfaljekgpnbmiaaGreat

namespace Go.Proofs.YtfaljekgpnbmiaaGreat
open Go.ChangeShapes Go.WideShapes Go.ChangeAt Go.RowKit
theorem Fb (P:Program) (f:FuncId) (fn:Func) (s:ChangeSpec) (c:OpenClaim) (k0:c.wf (OpenSpec.ofChange s)=true) (k1:laidOutB P=true) (k2:mapsRowed P=true) (k3:fn.params.all (P.readableRec ·)=true) (k4:namedTie P c.named s.vars=true) (k5:(c.stops == [])=true) (k6:(P.stops == [])=true) (k7:(c.knobs == [])=true) (k8:(P.stopKnobs == [])=true) (k9:(c.inPlace == P.inPlace f)=true) (k10:(c.unfollowed == P.unfollowed f)=true) (k11:(c.recurses == P.recurses f)=true) (k12:(c.named == P.varsNamed f)=true) (k13:(c.maps == (fn.params.toList++s.plain.varTypes P).any (P.mapsRec ·))=true) (k14:(c.ifaces == (fn.params.toList++s.plain.varTypes P).any (P.ifacesRec ·))=true) (k15:(c.mapsOut == P.mapsAmong fn.resultTypes.toList)=true) (k16:(c.loops == (fn.params.toList++s.plain.varTypes P).any (P.loopsFrom ·))=true) (k17:(c.wideKeys == (fn.params.toList++s.plain.varTypes P++fn.resultTypes.toList).any (P.wideKeysFrom ·))=true) (k18:s.vars.all (P.varReadable ·)=true) (k19:fn.resultTypes.all (λt=>P.readableRec t&&decide (t<P.types.size))=true) (k20:(c.ifacesOut == fn.resultTypes.toList.any (P.ifacesRec ·))=true) (k21:(c.loopsOut == fn.resultTypes.toList.any (P.loopsFrom ·))=true) (k22:(c.plainKeys == P.plainKeys)=true) (k23:c.shortTexts.isNone=true) (k24:P.stopsHeard=true) (k25:P.mayEnter=true) (k26:(c.lifted == P.liftsFinal)=true) (k27:(P.make == some c.make)=true) (k28:c.domain.isEmpty=true) (k29:(c.kinds == [])=true) (k30:(c.pinned == c.pinnedBy)=true) (k31:(c.veiled == (fn.params.toList++s.plain.varTypes P++fn.resultTypes.toList).any (P.veiledRec ·))=true) (k32:c.veiledFits P fn.params.toList (fn.params.toList++s.plain.varTypes P++fn.resultTypes.toList)=true):joinedFacts P f fn s c=true:=by
 unfold joinedFacts;simp only [N_];refine ⟨⟨⟨⟨⟨⟨⟨⟨⟨⟨⟨⟨⟨⟨⟨⟨⟨⟨⟨⟨⟨⟨⟨⟨⟨⟨⟨⟨⟨⟨⟨k0,k1⟩,k2⟩,k3⟩,k4⟩,k5⟩,k6⟩,k7⟩,k8⟩,k9⟩,k10⟩,k11⟩,k12⟩,k13⟩,k14⟩,k15⟩,k16⟩,k17⟩,k18⟩,k19⟩,k20⟩,k21⟩,k22⟩,k23⟩,k24⟩,k25⟩,k26⟩,k27⟩,?_⟩,k30⟩,k31⟩,k32⟩;rw [h_ k28];exact k29
theorem MS:Rows.solvedUptoRow.wf (OpenSpec.ofChange (Rows.OpenSpec.upto Rows.solvedSpec).bare)=true:=by kernel_rfl
theorem MU:laidOutB Tryz.pinned.checked.prog=true:=by kernel_rfl
theorem MV:mapsRowed Tryz.pinned.checked.prog=true:=by kernel_rfl
theorem MW:Tryz.f5.params.all (Tryz.pinned.checked.prog.readableRec ·)=true:=by kernel_rfl
theorem MX:namedTie Tryz.pinned.checked.prog Rows.solvedUptoRow.named (Rows.OpenSpec.upto Rows.solvedSpec).bare.vars=true:=by kernel_rfl
theorem MZ:(Rows.solvedUptoRow.stops == [])=true:=by kernel_rfl
theorem M0:(Tryz.pinned.checked.prog.stops == [])=true:=by kernel_rfl
theorem M3:(Rows.solvedUptoRow.knobs == [])=true:=by kernel_rfl
theorem M4:(Tryz.pinned.checked.prog.stopKnobs == [])=true:=by kernel_rfl
theorem M5:(Rows.solvedUptoRow.inPlace == Tryz.pinned.checked.prog.inPlace 5)=true:=by kernel_rfl
theorem Ju:(Rows.solvedUptoRow.unfollowed == Tryz.pinned.checked.prog.unfollowed 5)=true:=by kernel_rfl
theorem Jv:(Rows.solvedUptoRow.recurses == Tryz.pinned.checked.prog.recurses 5)=true:=by kernel_rfl
theorem Jw:(Rows.solvedUptoRow.named == Tryz.pinned.checked.prog.varsNamed 5)=true:=by kernel_rfl
theorem Jy:(Rows.solvedUptoRow.maps == (Tryz.f5.params.toList++(Rows.OpenSpec.upto Rows.solvedSpec).bare.plain.varTypes Tryz.pinned.checked.prog).any (Tryz.pinned.checked.prog.mapsRec ·))=true:=by kernel_rfl
theorem Jz:(Rows.solvedUptoRow.ifaces == (Tryz.f5.params.toList++(Rows.OpenSpec.upto Rows.solvedSpec).bare.plain.varTypes Tryz.pinned.checked.prog).any (Tryz.pinned.checked.prog.ifacesRec ·))=true:=by kernel_rfl
theorem JA:(Rows.solvedUptoRow.mapsOut == Tryz.pinned.checked.prog.mapsAmong Tryz.f5.resultTypes.toList)=true:=by kernel_rfl
theorem JB:(Rows.solvedUptoRow.loops == (Tryz.f5.params.toList++(Rows.OpenSpec.upto Rows.solvedSpec).bare.plain.varTypes Tryz.pinned.checked.prog).any (Tryz.pinned.checked.prog.loopsFrom ·))=true:=by kernel_rfl
theorem JC:(Rows.solvedUptoRow.wideKeys == (Tryz.f5.params.toList++(Rows.OpenSpec.upto Rows.solvedSpec).bare.plain.varTypes Tryz.pinned.checked.prog++Tryz.f5.resultTypes.toList).any (Tryz.pinned.checked.prog.wideKeysFrom ·))=true:=by kernel_rfl
theorem JD:(Rows.OpenSpec.upto Rows.solvedSpec).bare.vars.all (Tryz.pinned.checked.prog.varReadable ·)=true:=by kernel_rfl
theorem JE:Tryz.f5.resultTypes.all (λt=>Tryz.pinned.checked.prog.readableRec t&&decide (t<Tryz.pinned.checked.prog.types.size))=true:=by kernel_rfl
theorem JF:(Rows.solvedUptoRow.ifacesOut == Tryz.f5.resultTypes.toList.any (Tryz.pinned.checked.prog.ifacesRec ·))=true:=by kernel_rfl
theorem JG:(Rows.solvedUptoRow.loopsOut == Tryz.f5.resultTypes.toList.any (Tryz.pinned.checked.prog.loopsFrom ·))=true:=by kernel_rfl
theorem JH:(Rows.solvedUptoRow.plainKeys == Tryz.pinned.checked.prog.plainKeys)=true:=by kernel_rfl
theorem JI:Rows.solvedUptoRow.shortTexts.isNone=true:=by kernel_rfl
theorem JJ:Tryz.pinned.checked.prog.stopsHeard=true:=by kernel_rfl
theorem JK:Tryz.pinned.checked.prog.mayEnter=true:=by kernel_rfl
theorem JL:(Rows.solvedUptoRow.lifted == Tryz.pinned.checked.prog.liftsFinal)=true:=by kernel_rfl
theorem JM:(Tryz.pinned.checked.prog.make == some Rows.solvedUptoRow.make)=true:=by kernel_rfl
theorem JN:Rows.solvedUptoRow.domain.isEmpty=true:=by kernel_rfl
theorem JO:(Rows.solvedUptoRow.kinds == [])=true:=by kernel_rfl
theorem JP:(Rows.solvedUptoRow.pinned == Rows.solvedUptoRow.pinnedBy)=true:=by kernel_rfl
theorem JQ:(Rows.solvedUptoRow.veiled == (Tryz.f5.params.toList++(Rows.OpenSpec.upto Rows.solvedSpec).bare.plain.varTypes Tryz.pinned.checked.prog++Tryz.f5.resultTypes.toList).any (Tryz.pinned.checked.prog.veiledRec ·))=true:=by kernel_rfl
theorem JR:Rows.solvedUptoRow.veiledFits Tryz.pinned.checked.prog Tryz.f5.params.toList (Tryz.f5.params.toList++(Rows.OpenSpec.upto Rows.solvedSpec).bare.plain.varTypes Tryz.pinned.checked.prog++Tryz.f5.resultTypes.toList)=true:=by kernel_rfl
theorem DF:joinedFacts Tryz.pinned.checked.prog 5 Tryz.f5 (Rows.OpenSpec.upto Rows.solvedSpec).bare Rows.solvedUptoRow=true:=Fb Tryz.pinned.checked.prog 5 Tryz.f5 (Rows.OpenSpec.upto Rows.solvedSpec).bare Rows.solvedUptoRow MS MU MV MW MX MZ M0 M3 M4 M5 Ju Jv Jw Jy Jz JA JB JC JD JE JF JG JH JI JJ JK JL JM JN JO JP JQ JR
theorem Jt:ownKnob Tryz.prog.godebug=none:=by kernel_rfl
theorem uH:laidOutB Tryz.prog=true:=by kernel_rfl
theorem PU {H:Type} (d:DataW H):0<Rows.uptoBulk d:=by
 cases d with
 | lit l=>cases l <;> simp [Rows.uptoBulk]
 | _=>simp [Rows.uptoBulk]
theorem Ej {H:Type} {d:DataW H}:∀ {l:List (DataW H)},d∈l->Rows.uptoBulk d<=Rows.uptoBulkAll l
 | [],h=>by cases h
 | x::r,h=>by
  simp only [Rows.uptoBulkAll];rcases abp.1 h with rfl|h
  ·omega
  ·have:=Ej h;omega
theorem Gx {H:Type}:∀ l:List (DataW H),l.length<=Rows.uptoBulkAll l
 | []=>abo _
 | x::r=>by
  have:=Gx r;have:=PU x;simp only [Rows.uptoBulkAll,ab6];omega
theorem xk {H:Type} (l r:List (DataW H)):l.length<=Rows.uptoBulk (.slice l r):=by
 have:=Gx l;simp only [Rows.uptoBulk];omega
theorem zC {w:World} {x:Addr} {v:Value} (h:w.cell? x=some v):x.spot=none:=by
 unfold World.cell? at h
 split at h
 ·cases hs:x.spot with
  | none=>rfl
  | some s=>rw [hs] at h;simp at h
 ·cases h
theorem add_plain (b o k:Nat):(⟨b,o,none⟩:Addr).add k=⟨b,o+k,none⟩:=by unfold Addr.add;split <;> simp_all
theorem add_zero' (x:Addr):x.add 0=x:=by unfold Addr.add;rw [h_ rfl]
section
variable {H:Type} {enc:TypeId × Value->H} {w:World} {base:Nat} {spare:Nat->Bool} {held:Bool} {fuel:Nat}
theorem MQ {v:Value} {x:DataW H × List MemPlace} (h:DataW.trod enc Tryz.prog w base spare held fuel 22 [v]=some x):∃ l,bJ w v l∧l.length<=Rows.uptoBulk x.1:=by
 rcases open_ints Tryz.underlying22 Tryz.underlying3 (by kernel_rfl) h with ⟨hcs,Ai⟩|⟨a,len,cap,zs,hcs,_,hl,hm,hz,Ai,hcell,_⟩
 ·cases hcs;exact ⟨[],⟨none,0,rfl,λi hi=>absurd hi (aaL i)⟩,by simp⟩
 ·cases hcs;have hle:len<=zs.length:=by rw [hz];split <;> omega
  have hlen:(zs.take len).length=len:=by rw [U_];omega
  refine ⟨zs.take len,⟨some a,cap,by rw [hlen],λi hi=>?_⟩,by rw [Ai];have:=xk (H:=H) (lits .i64 (zs.take len)) (lits .i64 (zs.drop len));simp only [lits,L_] at this;exact this⟩;rw [hlen] at hi;have hc:=hcell i (by omega);have h0:=hcell 0 (by omega);rw [add_zero'] at h0;have hs:=zC h0;obtain ⟨ab,ao,asp⟩:=a;simp only at hs;subst hs;refine ⟨ab,ao,rfl,?_⟩;rw [<-add_plain,hc,a_,a_,ab3,h_ hi]
theorem Gy {v:Value} {x:DataW H × List MemPlace} (h:DataW.trod enc Tryz.prog w base spare held fuel 32 [v]=some x):∃ l,jg w v l∧l.length<=Rows.uptoBulk x.1:=by
 obtain ⟨f0,f1,hs,o0,o1,t0,t1⟩:∃ f0 f1:Field,Tryz.prog.underlying 52=some (.struct #[f0,f1])∧f0.offset=0∧f1.offset=1∧f0.type=3∧f1.type=3:=⟨_,_,Tryz.underlying52,rfl,rfl,rfl,rfl⟩;rcases Deep.open_slice_pairs Tryz.underlying32 hs (by kernel_rfl) o0 o1 (by rw [t0];kernel_rfl) (by rw [t1];kernel_rfl) h with ⟨hcs,Ai⟩|⟨a,len,cap,m,n,V0,V1,D0,D1,P0,P1,hcs,_,hl,hm,hmm,Ai,hx⟩
 ·cases hcs;exact ⟨[],⟨none,0,rfl,λi hi=>absurd hi (aaL i)⟩,by simp⟩
 ·cases hcs;have hle:len<=m:=by rw [hmm];split <;> omega
  rw [t0,t1] at hx;obtain ⟨f,hf⟩:=Deep.choose_lt (α:=Int × Int) (n:=len) (p:=λi q=>w.cell? (a.add (i*2))=some (.int .i64 q.1)∧w.cell? (a.add (i*2+1))=some (.int .i64 q.2)) (λi hi=>by
   obtain ⟨h1,h2,h3,h4⟩:=hx i (by omega);obtain ⟨z0,e0,_⟩:=DataW.trod_int Tryz.underlying3 h3;obtain ⟨z1,e1,_⟩:=DataW.trod_int Tryz.underlying3 h4;simp only [List.cons.injEq,adh] at e0 e1;rw [e0] at h1;rw [e1] at h2;exact ⟨(z0,z1),h1,h2⟩)
  have hlen:((List.range len).map f).length=len:=by simp
  refine ⟨(List.range len).map f,⟨some a,cap,by rw [hlen],λi hi=>?_⟩,by rw [Ai,hlen];have:=xk ((List.range len).map λi=>.agg [D0 i,D1 i]) ((List.range (m - len)).map λj=>.agg [D0 (len+j),D1 (len+j)]);rw [L_,List.length_range] at this;exact this⟩;rw [hlen] at hi;obtain ⟨h1,h2⟩:=hf i hi;have h0:=(hf 0 (by omega)).1;rw [acL,add_zero'] at h0;have hsp:=zC h0;clear h0;obtain ⟨ab,ao,asp⟩:=a;simp only at hsp;subst hsp;rw [add_plain] at h1 h2;refine ⟨ab,ao,rfl,?_,?_⟩
  ·rw [h1];simp
  ·rw [show ao+i*2+1=ao+(i*2+1) by omega,h2];simp
theorem MR {v:Value} {x:DataW H × List MemPlace} (h:DataW.trod enc Tryz.prog w base spare held fuel 33 [v]=some x):∃ l,kR w v l∧l.length<=Rows.uptoBulk x.1∧∀ q∈l,q.1.length<=Rows.uptoBulk x.1:=by
 obtain ⟨f0,f1,f2,hs,o0,o1,o2,t0,t1,t2⟩:∃ f0 f1 f2:Field,Tryz.prog.underlying 85=some (.struct #[f0,f1,f2])∧f0.offset=0∧f1.offset=1∧f2.offset=2∧f0.type=22∧f1.type=3∧f2.type=4:=⟨_,_,_,Tryz.underlying85,rfl,rfl,rfl,rfl,rfl,rfl⟩;have ce:Tryz.prog.cellsOf 85=3:=by kernel_rfl
 have c0:Tryz.prog.cellsOf 22=1:=by kernel_rfl
 have c1:Tryz.prog.cellsOf 3=1:=by kernel_rfl
 have c2:Tryz.prog.cellsOf 4=1:=by kernel_rfl
 rcases Deep.open_slice Tryz.underlying33 h with ⟨hcs,Ai⟩|⟨a,len,cap,m,n,D,Pl',hcs,_,hl,hm,hmm,Ai,hx⟩
 ·cases hcs;exact ⟨[],⟨none,0,rfl,λi hi=>absurd hi (aaL i)⟩,by simp,by simp⟩
 ·cases hcs;have hle:len<=m:=by rw [hmm];split <;> omega
  obtain ⟨f,hf⟩:=Deep.choose_lt (α:=dV) (n:=len) (p:=λi q=>∃ u,w.cell? (a.add (i*3))=some u∧bJ w u q.1∧w.cell? (a.add (i*3+1))=some (.int .i64 q.2.1)∧w.cell? (a.add (i*3+2))=some (.bool q.2.2)∧q.1.length<=Rows.uptoBulk (D i)) (λi hi=>by
   obtain ⟨cs',h1,h2⟩:=hx i (by omega);rw [ce] at h1;obtain ⟨_,hlen,hcell⟩:=World.cells?_some h1;obtain ⟨xs,k,hk,hxy,_,hxl,hff⟩:=DataW.trod_struct hs h2
   match xs,hxl,cs',hlen with
   | [y0,y1,y2],_,[v0,v1,v2],_ =>
    have g0:=hff 0 f0 rfl;have g1:=hff 1 f1 rfl;have g2:=hff 2 f2 rfl;rw [t0,c0,o0] at g0;rw [t1,c1,o1] at g1;rw [t2,c2,o2] at g2;have e0:=hcell 0 (by omega);have e1:=hcell 1 (by omega);have e2:=hcell 2 (by omega);rw [Deep.add_add] at e0 e1 e2;obtain ⟨l,hl1,hl2⟩:=MQ (v:=v0) (x:=y0) g0;obtain ⟨z1,ez1,_⟩:=DataW.trod_int (cs:=[v1]) (x:=y1) Tryz.underlying3 g1;obtain ⟨b2,eb2,_⟩:=DataW.trod_bool (cs:=[v2]) (x:=y2) Tryz.underlying4 g2;simp only [List.cons.injEq,adh] at ez1 eb2;refine ⟨(l,z1,b2),v0,?_,hl1,?_,?_,?_⟩
    ·simpa using e0
    ·rw [<-ez1];simpa using e1
    ·rw [<-eb2];simpa using e2
    ·have hD:D i=.agg [y0.1,y1.1,y2.1]:=congrArg Prod.fst hxy;rw [hD];show l.length<=_;simp only [Rows.uptoBulk,Rows.uptoBulkAll];omega)
  have hlen:((List.range len).map f).length=len:=by simp
  have hbs:=xk ((List.range len).map D) ((List.range (m - len)).map λj=>D (len+j));have hbp:∀ i,i<len->Rows.uptoBulk (D i)<=Rows.uptoBulk (.slice ((List.range len).map D) ((List.range (m - len)).map λj=>D (len+j))):=λi hi=>by
   have:=Ej (d:=D i) (l:=(List.range len).map D) (m_.2 ⟨i,W_.2 hi,rfl⟩);simp only [Rows.uptoBulk];omega
  rw [L_,List.length_range] at hbs;refine ⟨(List.range len).map f,⟨some a,cap,by rw [hlen],λi hi=>?_⟩,by rw [Ai,hlen];exact hbs,λq hq=>?_⟩;rotate_left
  ·obtain ⟨i,hi,rfl⟩:=m_.1 hq;obtain ⟨_,_,_,_,_,h5⟩:=hf i (W_.1 hi);rw [Ai];exact w_ h5 (hbp i (W_.1 hi))
  rw [hlen] at hi;obtain ⟨u,h1,h2,h3,h4,_⟩:=hf i hi;obtain ⟨u0,h0,_⟩:=hf 0 (by omega);rw [acL,add_zero'] at h0;have hsp:=zC h0;clear h0;obtain ⟨ab,ao,asp⟩:=a;simp only at hsp;subst hsp;rw [add_plain] at h1 h3 h4;have eg:((List.range len).map f)[i]'(by rw [hlen];exact hi)=f i:=by simp
  rw [eg];refine ⟨ab,ao,u,rfl,h1,h2,?_,?_⟩
  ·rw [show ao+i*3+1=ao+(i*3+1) by omega];exact h3
  ·rw [show ao+i*3+2=ao+(i*3+2) by omega];exact h4
end
theorem Fs (qW:BG) (H:Type) (enc:TypeId × Value->H) (W:World) (base:Nat) (args:Array Value) (ds gs:List (DataW H)) (before:List MemPlace)
  (hval0:∀ (j:Nat) t v,Tryz.f5.params[j]?=some t->args[j]?=some v->Value.okWide Tryz.prog W .any base t v)
  (hW:DataW.Whole enc Tryz.prog Tryz.f5.params.toList Rows.solvedSpec.vars false W args.toList ds gs before) (hk:Rows.uptoSmall H (ds++gs)=true) :
  Calls Tryz.prog 5 args W λe W'=>∃ v,e=.returned v∧Rows.solvedSpec.post enc Tryz.prog Tryz.f5 false true false false W args v W':=by
 have hval:∀ (j:Nat) t v,Tryz.f5.params[j]?=some t->args[j]?=some v->Value.okWide Tryz.prog W .any base t v:=hval0;have hW':=hW;obtain ⟨p,q,hA0,hV,rfl,hfz,hnd⟩:=hW;have hA:DataW.TrodAll enc Tryz.prog W 0 (λ_=>true) true Tryz.f5.params.toList args.toList ds p:=hA0;rw [Tryz.params5] at hA hval;obtain ⟨v0,vs0,d0,ds0,p0,q0,hargs,rfl,rfl,h0,r0⟩:=trodAll_cons hA;obtain ⟨v1,vs1,d1,ds1,p1,q1,rfl,rfl,rfl,h1,r1⟩:=trodAll_cons r0;obtain ⟨rfl,rfl,rfl⟩:=trodAll_nil r1;obtain rfl:args=#[v0,v1]:=by cases args;simp_all
 obtain ⟨rfl,rfl⟩:=trodVars_none hV;obtain ⟨a0,acG,cap0,rfl⟩:=okWide_slice Tryz.underlying32 (hval 0 32 v0 rfl rfl);obtain ⟨a1,acH,iT,rfl⟩:=okWide_slice Tryz.underlying33 (hval 1 33 v1 rfl rfl);have k0:=h0;have k1:=h1;have lt0:∀ x∈p0,x.block<W.heap.size:=by obtain ⟨m,hm⟩:=k0;exact DataW.trod_lt m _ _ _ hm
 have lt1:∀ x∈p1,x.block<W.heap.size:=by obtain ⟨m,hm⟩:=k1;exact DataW.trod_lt m _ _ _ hm
 have hbl:Rows.uptoBulkAll ([d0,d1]++[])<=1048576:=aa0 hk;simp only [abN,Rows.uptoBulkAll] at hbl;obtain ⟨l0,w0,m0⟩:∃ l,jg W (.slice a0 acG cap0) l∧l.length<=Rows.uptoBulk d0:=by
  obtain ⟨fuel,hf⟩:=h0;exact Gy hf
 obtain ⟨l1,w1,m1,m2⟩:∃ l,kR W (.slice a1 acH iT) l∧l.length<=Rows.uptoBulk d1∧∀ q∈l,q.1.length<=Rows.uptoBulk d1:=by
  obtain ⟨fuel,hf⟩:=h1;exact MR hf
 clear hA0 hval0;refine (Gr qW l0 l1 _ _ W w0 w1 (by omega) (by omega) (λq hq=>by have:=m2 q hq;omega)).mono λe W' ⟨he,VJ⟩=>?_;subst he;exact ⟨_,rfl,_,_,_,[],_,[],hW',trodAll_mk1 (shut_bool Tryz.underlying4 _),(trodAll_cons_mk (Below.trod uH (by kernel_rfl) (aa0 (by kernel_rfl)) k0 VJ lt0) (trodAll_cons_mk (Below.trod uH (by kernel_rfl) (aa0 (by kernel_rfl)) k1 VJ lt1) trodAll_mk0)),rfl,VJ.frame _,λh=>by cases h⟩
theorem DD (qW:BG) (os:Os) (started:os.Started) (H:Type) (enc:TypeId × Value->H) (F:Stop.Interp) :
  ReturnsInHanded {} Tryz.checked os 5 .any ((Rows.OpenSpec.upto Rows.solvedSpec).pre6 enc Tryz.prog Tryz.f5 Rows.solvedUptoRow.domain false) (((Rows.OpenSpec.upto Rows.solvedSpec).at F).post enc Tryz.prog Tryz.f5 false true false false):=by
 refine returnsInHanded_of_cond (C:=Tryz.checked) (s:=Rows.OpenSpec.upto Rows.solvedSpec) (k:=Rows.uptoSmall) rfl Jt started (by kernel_rfl) Tryz.func5
  (OpenSpec.witness (enc:=enc) (C:=Tryz.checked) (s:=Rows.OpenSpec.upto Rows.solvedSpec) (k:=Rows.uptoSmall) rfl false ⟨#[],#[.slice none 0 0,.slice none 0 0],[]⟩ 8 (by kernel_rfl) (by kernel_rfl) (by kernel_rfl)
   (x:=([.nil,.nil],[],[])) (by kernel_rfl) rfl (by kernel_rfl)) ?_
 intro W base args ds gs before hval hW _ hk _;exact Fs qW H enc W base args ds gs before hval hW hk
theorem Gz (qW:BG):Rows.solvedUptoRow.holds Tryz.pinned (Rows.OpenSpec.upto Rows.solvedSpec) :=
 OpenClaim.holds_of_cond 5 Tryz.f5 rfl rfl rfl rfl rfl rfl rfl ⟨rfl,rfl,rfl,rfl,rfl⟩ rfl rfl rfl rfl rfl (by kernel_rfl) Tryz.func5 DF
  (aa0 (by kernel_rfl)) (by unfold Func.isWrapper;first | (rw [h_ (by decide +kernel)];kernel_rfl) | (rw [g_ (by decide +kernel)];exact ⟨rfl,rfl⟩))
  (λos started H enc _ F=>DD qW os started H enc F)
end Go.Proofs.YtfaljekgpnbmiaaGreat
