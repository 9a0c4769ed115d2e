/- Joined: SLaw11 SLaw12 Solved1. -/
import Derived.Test.YtgaafamcajcifaaGreatJ48
set_option linter.unusedVariables false
set_option linter.unusedSimpArgs false
set_option maxRecDepth 100000
namespace Go.Proofs.YtgaafamcajcifaaGreat
open Go.RowKit Go.Sort
structure Ag (B S W:Nat) (w:World) (b N:Nat) (bq:List (Value × Int)) (v:Value) (dA:List (Value × Int)) (rv:Value) (di:List (Value × Int)) (qv:Value) (vs:List (Int × Int)) (rs:List dS) (g1 gl:Nat) (G:List Nat) (vcs vl:Value) (A:List Int):Prop where
 XK:Rz B w b N bq v dA rv di qv
 low:(∀ e∈bq,∀ k,e.1.ownBlock=some k->k<S)∧(∀ e∈dA,BH (·<S) w e)∧(∀ e∈di,RA (·<S) w e)
 rng:eG w g1 (lQ vs 2)
 UK:S<=g1
 Jg:iP S rs gl (rs.length+2) G w
 cs:qI S rs (rs.length+2) G w vcs
 gW:∀ g∈G,g<W
 glW:gl<W
 own:aI W w vl A
 sW:S<=W
 bS:B<=S
 sw:S<=w.heap.size
section
variable {B S W:Nat} {w w9 zu:World} {b N:Nat} {bq dA di:List (Value × Int)} {v rv qv:Value} {vs:List (Int × Int)} {rs:List dS} {g1 gl:Nat} {G:List Nat} {vcs vl:Value} {A:List Int}
theorem Ag.grow {w':World} (h:Ag B S W w b N bq v dA rv di qv vs rs g1 gl G vcs vl A) (hg:ae w w'):Ag B S W w' b N bq v dA rv di qv vs rs g1 gl G vcs vl A :=
 have k:∀ e,aA e w w':=λe=>.aX hg
 ⟨h.XK.grow hg,⟨h.low.1,λe he=>(h.low.2.1 e he).bW (λj cur hj _=>k _ j cur hj) (λ_ _ x=>x),λe he=>(h.low.2.2 e he).bW (λj cur hj _=>k _ j cur hj) (λj cur hj _=>k _ j cur hj) (λ_ _ x=>x)⟩,h.rng.grow hg,h.UK,h.Jg.grow hg,h.cs.bW (k _),h.gW,h.glW,aW h.own (k _),h.sW,h.bS,w_ h.sw hg.size⟩
theorem Ag.UL (hD:Rz B w b N bq v dA rv di qv):(∀ e∈bq,∀ k,e.1.ownBlock=some k->k<w.heap.size)∧(∀ e∈dA,BH (·<w.heap.size) w e)∧(∀ e∈di,RA (·<w.heap.size) w e) :=
 ⟨λe he k hk=>(hD.ok e he).lt hk,λe he=>(hD.XL e he).bW (λ_ _ _ _=>rfl) (λk hk _=>hk),λe he=>(hD.qok e he).bW (λ_ _ _ _=>rfl) (λ_ _ _ _=>rfl) (λk hk _=>hk)⟩
structure Jh (B S W:Nat) (w8 w:World) (b N:Nat) (bq:List (Value × Int)) (v:Value) (dA:List (Value × Int)) (di:List (Value × Int)) (qv:Value) (rs:List dS) (gl:Nat) (G:List Nat) (vcs vl:Value) (A:List Int) (mW:List (Value × Int)) (rv':Value):Prop where
 held:dX rv' qv B w b (N+1) bq v
 Ji:w.ownsRow B 52 2 rv' mW.length (bT mW)
 abB:mW.length=dA.length+1
 XL:∀ e∈mW,BH (λ_=>True) w e
 LW:w.ownsRow B 57 2 qv di.length (bT di)
 abC:∀ e∈di,RA (·<S) w e
 eok:∀ e∈bq,kQ w e∧∀ k,e.1.ownBlock=some k->k<S
 Jg:iP S rs gl (rs.length+2) G w
 cs:qI S rs (rs.length+2) G w vcs
 gW:∀ g∈G,S<=g∧g<W
 glW:gl<W
 own:aI W w vl A
 sW:S<=W
 bS:B<=S
 sw:S<=w.heap.size
 below:Below B w8 w
theorem Ag.ranges (h:Ag B S W w b N bq v dA rv di qv vs rs g1 gl G vcs vl A) (hv:vs.length<=1048576) (hN:N<=100000000) {e:Ending} (hp:xe B w b N bq v qv dA g1 (vs.length+2) (vs.length+2) e w9):∃ u mW rv',e=.returned u∧Jh B S W w w9 b N bq v dA di qv rs gl G vcs vl A mW rv':=by
 obtain ⟨u,ra,rc,he,h1,h2,h3,h4,h5,h6⟩:=hp;have hr:=h4 59 (by decide) (by decide) (by decide);have hi:=h4 3 (by decide) (by decide) (by decide);refine ⟨u,dA++[(.slice (some ⟨g1,0,none⟩) (vs.length+2) (vs.length+2),1099511627783+(N+1:Int))],_,he,h1,by rw [C_];exact h2,by rw [C_];rfl,λe he=>?_,aW h.XK.LW (h4 _ (by decide) (by decide) (by decide)),λe he=>(h.low.2.2 e he).bW (λj cur hj _=>hr j cur hj) (λj cur hj _=>hi j cur hj) (λ_ _ x=>x),λe he=>⟨(h.XK.ok e he).dY hi,h.low.1 e he⟩,h.Jg.bW hr hi,h.cs.bW (h4 _ (by decide) (by decide) (by decide)),λg hg=>⟨?_,h.gW g hg⟩,h.glW,aW h.own hi,h.sW,h.bS,w_ h.sw h6.size,h6⟩
 ·rcases F_.1 he with he | he
  ·refine (h.low.2.1 e he).bW (λj cur hj hl=>h5 j cur hj (λe=>?_)) (λ_ _ _=>trivial);have:=h.UK;omega
  ·rw [I_.1 he];exact ⟨g1,_,_,rfl,h3,by omega,by show (0:Int)<=1099511627783+(N+1:Int);omega,by show 1099511627783+(N+1:Int)<=(4000000000000:Int);omega,trivial⟩
 ·obtain ⟨j,hj,e⟩:=List.getElem_of_mem hg;exact (h.Jg.list j g (by rw [f_ hj,e])).2
theorem Jh.last {mW:List (Value × Int)} {rv':Value} {la:Option Addr} {ln lc:Nat} (h:Jh B S W w w9 b N bq v dA di qv rs gl G vcs (.slice la ln lc) A mW rv') {e:Ending} (hp:BI rv' B w9 b (N+1) bq di rs gl G e zu) (hW:∀ k,(Value.slice la ln lc).ownBlock=some k->k<w9.heap.size) :
  e=.returned (.bool true)∧∃ Ed v1 qv',dX rv' qv' B zu b (N+1+rs.length+1) Ed v1∧aI B zu (.slice la ln lc) A∧(∀ e∈Ed,kQ zu e∧∀ k,(Value.slice la ln lc).ownBlock=some k->e.1.ownBlock≠some k)∧Ed.length=bq.length+4*rs.length∧B<=zu.heap.size ∧
   ∀ LX new v2,dX rv' qv' B LX b (N+1+rs.length+1+1) (Ed++new) v2->new.length=4->(∀ e∈Ed++new,kQ LX e)->jR (Value.slice la ln lc).ownBlock zu LX->Below B zu LX->(∀ e,3≠e->50≠e->29≠e->aA e zu LX)->wZ B w b N bq dA di rs (.returned (.bool true)) LX:=by
 obtain ⟨new,v1,qa,qc,n,he,h1,h2,h3,h4,h5,h6,h7,h8,h9,h10⟩:=hp;have hlW:∀ k,(Value.slice la ln lc).ownBlock=some k->W<=k:=bR h.own;have hlG:∀ k,(Value.slice la ln lc).ownBlock=some k->k ∉ G:=λk hk hc=>by have:=hlW k hk;have:=(h.gW k hc).2;omega
 have hA:aI B zu (.slice la ln lc) A:=by
  have h0:=rG h.own (w_ h.bS h.sW);refine ⟨h0.1,?_⟩;rcases h0.2 with hn|⟨k,cap,cur,e,hb,hgg,rest⟩
  ·exact .inl hn
  ·exact .inr ⟨k,cap,cur,e,hb,by rw [h8 k cur hgg (hlG k (by rw [e];rfl))];exact hgg,rest⟩
 refine ⟨he,bq++new,v1,.slice qa (di.length+1) qc,h1,hA,λe he=>⟨h4 e he,λk hk hc=>?_⟩,by rw [C_,h3],w_ (w_ h.bS h.sw) h10.size,?_⟩
 ·have hkW:=hlW k hk;have hkw:=hW k hk;rcases F_.1 he with he|he
  ·have:=(h.eok e he).2 k hc;have:=h.sW;omega
  ·rcases h5 e he k hc with h' | h'
   ·exact hlG k hk h'
   ·omega
 ·intro LX abF v2 g1 g2 g3 g4 g5 g6;have kr:=g6 59 (by decide) (by decide) (by decide);have kg:=(h7 54 (by decide) (by decide) (by decide) (by decide) (by decide)).trans (g6 _ (by decide) (by decide) (by decide));have khr:=(h7 52 (by decide) (by decide) (by decide) (by decide) (by decide)).trans (g6 _ (by decide) (by decide) (by decide));refine ⟨bq++new++abF,mW,di++[(.slice (some ⟨gl,0,none⟩) (rs.length+2) (rs.length+2),n)],v2,rv',.slice qa (di.length+1) qc,rfl,⟨?_,aW h.Ji khr,?_,g3,λe he=>(h.XL e he).bW (λj cur hj _=>kg j cur hj) (λ_ _ x=>x),λe he=>?_⟩,by rw [C_,C_,h3,g2],h.abB,by rw [C_];rfl,(h.below.trans h10).trans g5⟩
  ·rw [show N+rs.length+3=N+1+rs.length+1+1 by omega];exact g1
  ·rw [C_];exact aW h2 (g6 _ (by decide) (by decide) (by decide))
  ·rcases F_.1 he with he | he
   ·have hq1:RA (·<S) zu e:=(h.abC e he).bW (λj cur hj hl=>h9 j cur hj (λe=>by have:=h.Jg.OE;omega)) (λj cur hj hl=>h8 j cur hj (λe=>by have:=(h.gW j e).1;omega)) (λ_ _ x=>x);exact hq1.bW (λj cur hj _=>kr j cur hj) (λj cur hj hl=>g4 j cur hj (λe=>by have:=hlW j e;have:=h.sW;omega)) (λ_ _ _=>trivial)
   ·rw [I_.1 he];exact h6.bW (λj cur hj _=>kr j cur hj) (λj cur hj hl=>g4 j cur hj (λe=>by
     rcases hl with rfl|hl
     ·have:=hlW _ e;have:=h.glW;omega
     ·have:=hW j e;omega)) (λ_ _ _=>trivial)
end
section
section
attribute [local go_sem] bD
set_option maxHeartbeats 2000000 in
theorem Ee (qV:BF) {B:Nat} {w:World} {b N:Nat} {bq dA di:List (Value × Int)} {v rv qv:Value} (vs:List (Int × Int)) (rs:List dS) (va vb:Value) (hD:Rz B w b N bq v dA rv di qv) (ha:jd w va vs) (hb:kP w vb rs) (hv:vs.length<=1048576) (hr:rs.length<=1048576) (hC:∀ q∈rs,q.1.length<=1048576) (hB:B<=w.heap.size) (hn:bq.length<=20000000) (hn2:dA.length<=100) (Xd:di.length<=100) (hN:N<=20000000) :
  Calls Tryz.prog 4 #[.pointer (some ⟨b,0,none⟩),va,vb] w (wZ B w b N bq dA di rs):=by
 have hLR:=af (BJ vs va w ha hv);have HA:=af ha;have HB:=af hb;have HC:=af hC;have HD:=af hD;obtain ⟨aa,ac,rfl⟩:=ha.aB;obtain ⟨ba,bc,rfl⟩:=hb.aB;obtain ⟨n,hnn⟩:∃ n,vs.length=n:=⟨_,rfl⟩;obtain ⟨m,hmm⟩:∃ m,rs.length=m:=⟨_,rfl⟩;have LY:=af hnn;have zw:=af hmm;rw [hnn] at HA hv hLR ⊢;rw [hmm] at HB hr ⊢;clear ha hb hC hD hnn hmm;go_enter Tryz.func4,Tryz.ntmps4;go_wp2_with fail;refine (uh hLR).mono ?_;rintro e w1 ⟨g1,rfl,hg1,hr1,hG1⟩;have hLW:=af (Fa rs (.slice ba m bc) w1 ((uh HB).below hG1) (by rw [uh zw];exact hr) (uh HC));have HR1:=af (x_ hg1 (x_ hr1 hG1));clear hLR hg1 hr1 hG1;go_wp2_with fail;refine (uh hLW).mono ?_;rintro e w2 ⟨gl,ca,cc,G,rfl,hL,hCs,hG2⟩;have HST:Hid (eG w2 g1 (lQ vs 2)∧w.heap.size<=g1∧iP w.heap.size rs gl (rs.length+2) G w2∧qI w.heap.size rs (rs.length+2) G w2 (.slice ca rs.length cc)∧ae w w2∧gl<w2.heap.size) :=
  ⟨(uh HR1).2.1.grow hG2,(uh HR1).1,hL.mono (uh HR1).2.2.size,rG hCs (uh HR1).2.2.size,(uh HR1).2.2.trans hG2,z_ hL.blk⟩
 rw [uh zw] at HST ⊢;clear hLW hL hCs hG2 HR1;have HSO:Hid (∀ wq,ae w2 wq->Calls Tryz.prog 8 #[.slice (some ⟨g1,0,none⟩) n (n+2),.slice (some ⟨gl,0,none⟩) m (m+2)] wq (mV vs rs wq)):=λwq hg=>by
  have h1:=Gl ((uh HST).1.grow hg) (n+2);have hl:=(uh HST).2.2.1;rw [<-uh zw] at hl;have h2:=(hl.grow hg).rws (m+2);have h3:=qV vs rs _ _ wq h1 h2 (by rw [uh LY];unfold maxLen;omega) (by rw [uh zw];unfold maxLen;omega);rw [uh LY,uh zw] at h3;exact h3
 have hle1:(n:Int)<=(n:Int)+2:=by omega
 have hle2:(m:Int)<=(m:Int)+2:=by omega
 go_wp2_with fail;refine ah (bZ [(36,qU vs rs w2)]) (gL [(36,BG)]) 88 15 (by kernel_rfl) (by rfl) (by kernel_rfl) (aN (λ_ _ _=>qU.grow) cK) ?_
 iterate 8 (refine aO λK hK=>?_;go_simp;refine hK _ ?_;clear hK K)
 refine ai BG 8 #[.slice (some ⟨g1,0,none⟩) n (n+2),.slice (some ⟨gl,0,none⟩) m (m+2)] (by rfl) (by rfl) ⟨_,none,0,0,false,0,rfl⟩ (λw=>by go_simp) (λwq hg hf=>(uh HSO wq hg).mono (by intro e w' hp;obtain ⟨u,h1,h2,h3,h4⟩:=qU.of (W:=w2) hp hg.size;exact ⟨u,h1,h2,h3,λt ht=>by cases ht;exact h4⟩)) ?_;rintro _ ⟨la,ln,lc,fo,er,rfl⟩;simp only [Act.put,p_,G_,D_]
 iterate 6 (refine aO λK hK=>?_;go_simp;refine hK _ ?_;clear hK K)
 refine aF ?_;intro w5 hg5 aK;have HV5:Hid (qU vs rs w2 (.tuple #[.slice la ln lc,.bool fo,.int .i64 er]) w5):=aK 8 _ 36 (by decide) rfl rfl;have gD:=af hg5;clear aK hg5 HSO;have xg:=af (Jj vs rs (.slice aa n ac) (.slice ba m bc) w5 ((uh HA).below ((uh HST).2.2.2.2.1.trans (uh gD))) ((uh HB).below ((uh HST).2.2.2.2.1.trans (uh gD))) (by rw [uh LY];unfold maxLen;omega) (by rw [uh zw];unfold maxLen;omega));go_wp2_with fail;refine (uh xg).mono ?_;rintro e w6 hp;obtain ⟨A,va',vc',hln,rfl,o1,o2,hA4,rJ⟩:=Jf (uh HV5) hp;have hS:Ag B w.heap.size w2.heap.size w6 b N bq v dA rv di qv vs rs g1 gl G (.slice ca m cc) (.slice la ln lc) A:=by
  obtain ⟨s1,s2,s3,s4,s5,s6⟩:=uh HST;have RB:ae w2 w6:=(uh gD).trans rJ;have UM:ae w w6:=s5.trans RB;have hlo:=Ag.UL (uh HD);have k:∀ e,aA e w w6:=λe=>.aX UM;refine ⟨(uh HD).grow UM,⟨hlo.1,λe he=>(hlo.2.1 e he).bW (λj cur hj _=>k _ j cur hj) (λ_ _ x=>x),λe he=>(hlo.2.2 e he).bW (λj cur hj _=>k _ j cur hj) (λj cur hj _=>k _ j cur hj) (λ_ _ x=>x)⟩,s1.grow RB,s2,by rw [uh zw];exact s3.grow RB,by rw [uh zw];exact s4.bW (.aX RB),λg hg=>s3.lt hg,s6,o1,s5.size,hB,UM.size⟩
 have Dy:Hid (ae w w6):=(uh HST).2.2.2.2.1.trans ((uh gD).trans rJ);have vP:=af (BK vs (.slice aa n ac) g1 w6 ((uh HA).below (uh Dy)) hS.rng (by rw [uh LY];exact hv));rw [uh LY] at vP;have KN:=af hS;have iT:=af o2;have KO:=af hln;clear xg hp HV5 hS o1 o2 rJ HST gD hln;go_wp2_with fail;refine (uh vP).mono ?_;rintro e w7 ⟨rfl,sJ⟩;have Jk:Hid (ae w w7):=(uh Dy).trans sJ;have hS7:=(uh KN).grow sJ;have UN:=hS7.cs;rw [uh zw] at UN;have HLW:=af (Fb rs (.slice ba m bc) w.heap.size gl ca cc G w7 ((uh HB).below (uh Jk)) hS7.Jg (by rw [uh zw];exact UN) (by rw [uh zw];exact hr) (uh HC));rw [uh zw] at HLW;have HS7:=af hS7;have RD:=af (aW (uh iT) (.aX sJ));clear vP hS7 UN KN iT Dy sJ;go_wp2_with fail;refine (uh HLW).mono ?_;rintro e w8 ⟨rfl,q8,hw8⟩;have Du:ae w7 w8:=by rw [hw8];exact abj (n_ _ _) _
 have hS8:=(uh HS7).grow Du;have hO8:=aW (uh RD) (.aX Du);have XM:=af (sH A (.slice la ln lc) (.slice va' ln vc') w8 (cO hS8.own) (cO hO8) (by unfold maxLen;omega));have XN:Hid (ae w w8):=(uh Jk).trans Du;have KP:=af hS8;clear HLW hS8 hO8 HS7 RD Jk Du hw8 q8;go_wp2_with fail;refine (uh XM).mono ?_;rintro e w9 ⟨rfl,q9,rE⟩;have UO:ae w8 w9:=by rw [rE];exact abj (n_ _ _) _
 have UQ:=(uh KP).grow UO;have XO:Hid (ae w w9):=(uh XN).trans UO;have hll:(lQ vs 2).length=n+2:=by rw [vO vs (d_ 2),uh LY]
 have zz:=af (Jl g1 (n+2) (lQ vs 2) UQ.XK.held UQ.XK.Ji UQ.rng (w_ UQ.bS UQ.UK) (w_ hB (uh XO).size) (by rw [hll];omega) (by omega) (by omega));rw [hll] at zz;have HS9:=af UQ;clear XM UQ KP XN UO rE q9 hll;go_wp2_with fail;refine (uh zz).mono ?_;rintro e zu UR;rw [<-uh LY] at UR;obtain ⟨u10,mW,rv',rfl,h10⟩:=(uh HS9).ranges (by rw [uh LY];exact hv) (by omega) UR;have OH:=h10.cs;rw [uh zw] at OH;have Oa:=af (OI rs gl ca cc G h10.held h10.LW (h10.Jg.mono h10.bS) (by rw [uh zw];exact rG OH h10.bS) (λe he=>⟨(h10.eok e he).1,λk hk hc=>by have:=(h10.eok e he).2 k hk;have:=(h10.gW k hc).1;omega⟩) (w_ h10.bS h10.sw) (by rw [uh zw];exact hr) (uh HC) (by omega) (by omega) (by omega));have HLB:Hid (∀ k,(Value.slice la ln lc).ownBlock=some k->k<zu.heap.size):=UT h10.own;rw [uh zw] at Oa;have H10:=af h10;clear zz UR h10 OH HS9;go_wp2_with fail;refine (uh Oa).mono ?_;rintro e LX XP;obtain ⟨rfl,Ed,v1,qv',t1,t2,t3,t4,t5,t6⟩:=(uh H10).last XP (uh HLB);have XQ:rs.length<=1048576:=by rw [uh zw];exact hr
 have XR:=af (Gm (.slice la ln lc) A t1 t2 t3 t5 (by omega) (by omega) (by omega));have HT6:=af t6;have UU:Hid (Below B w w9):=(uh XO).mono hB;clear Oa XP t1 t2 t3 t4 t5 t6 H10 HLB XQ;go_wp2_with fail;refine (uh XR).mono ?_;rintro e Rj ⟨rfl,new,v2,u1,u2,u3,u4,u5,u6,u7,u8⟩;have HF:Hid (wZ B w b N bq dA di rs (.returned (.bool true)) Rj):=by
  obtain ⟨a1,a2,a3,a4,a5,a6,b1,b2,b3,b4,b5,b6⟩:=uh HT6 Rj new v2 u1 u2 u3 u5 u6 u8;exact ⟨a1,a2,a3,a4,a5,a6,b1,b2,b3,b4,b5,(uh UU).trans b6⟩
 clear XR HT6 u1 u2 u3 u4 u5 u6 u7 u8;go_wp2_with (go_at_call 16;refine (Ry _ _).mono ?_;rintro e w' ⟨rfl,rfl⟩);exact t_ (v:=.bool true) (by simp [results,Tryz.results4,go_sem]) rfl (uh HF)
end
set_option maxHeartbeats 1000000 in
theorem Gp (qV:BF) (vs:List (Int × Int)) (rs:List dS) (va vb:Value) (w:World) (ha:jd w va vs) (hb:kP w vb rs) (hv:vs.length<=1048576) (hr:rs.length<=1048576) (hC:∀ q∈rs,q.1.length<=1048576) :
  Calls Tryz.prog 3 #[va,vb] w λe w'=>e=.returned (.bool true)∧Below w.heap.size w w':=by
 have HA:=af ha;have HB:=af hb;have hg0:=ae.alloc w (.cells #[.int .i64 0,.slice none 0 0,.slice none 0 0,.slice none 0 0] 29);have hD:Rz w.heap.size (w.alloc (.cells #[.int .i64 0,.slice none 0 0,.slice none 0 0,.slice none 0 0] 29)) w.heap.size 0 [] (.slice none 0 0) [] (.slice none 0 0) [] (.slice none 0 0) :=
  ⟨⟨d_ _,aaC w _,abd _ _ _ _⟩,abd _ _ _ _,abd _ _ _ _,(λe he=>by cases he),(λe he=>by cases he),(λe he=>by cases he)⟩
 have H0:=af (Ee qV vs rs va vb hD (ha.below hg0) (hb.below hg0) hv hr hC hg0.size (by simp) (by simp) (by simp) (by omega));have xW:=af hg0;obtain ⟨aa,ac,rfl⟩:=ha.aB;obtain ⟨ba,bc,rfl⟩:=hb.aB;clear ha hb hg0 hD;obtain ⟨n,hnn⟩:∃ n,vs.length=n:=⟨_,rfl⟩;obtain ⟨m,hmm⟩:∃ m,rs.length=m:=⟨_,rfl⟩;have LY:=af hnn;have zw:=af hmm;rw [hnn,hmm] at H0 ⊢;rw [hnn] at HA;rw [hmm] at HB hr;clear hnn hmm;go_enter Tryz.func3,Tryz.ntmps3;go_wp2_with fail;refine (uh H0).mono ?_;rintro e w1 ⟨e1,r1,q1,v1,rv1,qv1,rfl,hD1,l1,l2,l3,hb1⟩;have hG1:ae w w1:=aa7 (uh xW) hb1;have hrm:=uh zw;have H1:=af (Ee qV vs rs (.slice aa n ac) (.slice ba m bc) hD1 ((uh HA).below hG1) ((uh HB).below hG1) hv (by rw [hrm];exact hr) hC hG1.size (by rw [l1];simp;omega) (by rw [l2];simp) (by rw [l3];simp) (by omega));have dN:=af hG1;have HL:=af (x_ l1 (x_ l2 l3));clear H0 hD1 l1 l2 l3 hb1 hG1 hrm;go_wp2_with fail;refine (uh H1).mono ?_;rintro e w2 ⟨e2,r2,q2,v2,rv2,qv2,rfl,hD2,k1,k2,k3,hb2⟩;obtain ⟨l1,l2,l3⟩:=uh HL;have hG2:ae w w2:=aa7 (uh dN) hb2;have hrm:=uh zw;have H2:=af (RF hD2 (by rw [k1,l1];simp;omega) (by rw [k2,l2];simp) (by rw [k3,l3];simp));have HG2:=af hG2;clear H1 hD2 l1 l2 l3 k1 k2 k3 hb2 hG2 hrm;go_wp2_with fail;refine (uh H2).mono ?_;rintro e w3 ⟨rfl,hg3⟩;have jb:Hid (ae w w3):=(uh HG2).trans hg3;clear H2 hg3;go_wp2;go_ret;exact ⟨rfl,uh jb⟩
end
end Go.Proofs.YtgaafamcajcifaaGreat

namespace Go.Proofs.YtgaafamcajcifaaGreat
open Go.ChangeShapes Go.WideShapes Go.ChangeAt Go.RowKit
theorem Jr:ownKnob Tryz.prog.godebug=none:=by kernel_rfl
theorem uG:laidOutB Tryz.prog=true:=by kernel_rfl
theorem O4 {H:Type} (d:DataW H):0<Rows.uptoBulk d:=by
 cases d with
 | lit l=>cases l <;> simp [Rows.uptoBulk]
 | _=>simp [Rows.uptoBulk]
theorem Ei {H:Type} {d:DataW H}:∀ {l:List (DataW H)},d∈l->Rows.uptoBulk d<=Rows.uptoBulkAll l
 | [],h=>by cases h
 | x::r,h=>by
  simp only [Rows.uptoBulkAll];rcases aa5.1 h with rfl|h
  ·omega
  ·have:=Ei h;omega
theorem Gv {H:Type}:∀ l:List (DataW H),l.length<=Rows.uptoBulkAll l
 | []=>aa4 _
 | x::r=>by
  have:=Gv r;have:=O4 x;simp only [Rows.uptoBulkAll,abS];omega
theorem xh {H:Type} (l r:List (DataW H)):l.length<=Rows.uptoBulk (.slice l r):=by
 have:=Gv l;simp only [Rows.uptoBulk];omega
theorem zB {w:World} {x:Addr} {v:Value} (h:w.cell? x=some v):x.spot=none:=by
 unfold World.cell? at h
 split at h
 ·cases hs:x.spot with
  | none=>rfl
  | some s=>rw [hs] at h;simp at h
 ·cases h
theorem add_plain (b o k:Nat):(⟨b,o,none⟩:Addr).add k=⟨b,o+k,none⟩:=by unfold Addr.add;split <;> simp_all
theorem add_zero' (x:Addr):x.add 0=x:=by unfold Addr.add;rw [h_ rfl]
section
variable {H:Type} {enc:TypeId × Value->H} {w:World} {base:Nat} {spare:Nat->Bool} {held:Bool} {fuel:Nat}
theorem Mk {v:Value} {x:DataW H × List MemPlace} (h:DataW.trod enc Tryz.prog w base spare held fuel 36 [v]=some x):∃ l,bI w v l∧l.length<=Rows.uptoBulk x.1:=by
 rcases open_ints Tryz.underlying36 Tryz.underlying3 (by kernel_rfl) h with ⟨hcs,Ah⟩|⟨a,len,cap,zs,hcs,_,hl,hm,hz,Ah,hcell,_⟩
 ·cases hcs;exact ⟨[],⟨none,0,rfl,λi hi=>absurd hi (aaI i)⟩,by simp⟩
 ·cases hcs;have hle:len<=zs.length:=by rw [hz];split <;> omega
  have hlen:(zs.take len).length=len:=by rw [U_];omega
  refine ⟨zs.take len,⟨some a,cap,by rw [hlen],λi hi=>?_⟩,by rw [Ah];have:=xh (H:=H) (lits .i64 (zs.take len)) (lits .i64 (zs.drop len));simp only [lits,L_] at this;exact this⟩;rw [hlen] at hi;have hc:=hcell i (by omega);have h0:=hcell 0 (by omega);rw [add_zero'] at h0;have hs:=zB h0;obtain ⟨ab,ao,asp⟩:=a;simp only at hs;subst hs;refine ⟨ab,ao,rfl,?_⟩;rw [<-add_plain,hc,a_,a_,abP,h_ hi]
theorem Gw {v:Value} {x:DataW H × List MemPlace} (h:DataW.trod enc Tryz.prog w base spare held fuel 22 [v]=some x):∃ l,jd w v l∧l.length<=Rows.uptoBulk x.1:=by
 obtain ⟨f0,f1,hs,o0,o1,t0,t1⟩:∃ f0 f1:Field,Tryz.prog.underlying 54=some (.struct #[f0,f1])∧f0.offset=0∧f1.offset=1∧f0.type=3∧f1.type=3:=⟨_,_,Tryz.underlying54,rfl,rfl,rfl,rfl⟩;rcases Deep.open_slice_pairs Tryz.underlying22 hs (by kernel_rfl) o0 o1 (by rw [t0];kernel_rfl) (by rw [t1];kernel_rfl) h with ⟨hcs,Ah⟩|⟨a,len,cap,m,n,V0,V1,D0,D1,P0,P1,hcs,_,hl,hm,hmm,Ah,hx⟩
 ·cases hcs;exact ⟨[],⟨none,0,rfl,λi hi=>absurd hi (aaI i)⟩,by simp⟩
 ·cases hcs;have hle:len<=m:=by rw [hmm];split <;> omega
  rw [t0,t1] at hx;obtain ⟨f,hf⟩:=Deep.choose_lt (α:=Int × Int) (n:=len) (p:=λi q=>w.cell? (a.add (i*2))=some (.int .i64 q.1)∧w.cell? (a.add (i*2+1))=some (.int .i64 q.2)) (λi hi=>by
   obtain ⟨h1,h2,h3,h4⟩:=hx i (by omega);obtain ⟨z0,e0,_⟩:=DataW.trod_int Tryz.underlying3 h3;obtain ⟨z1,e1,_⟩:=DataW.trod_int Tryz.underlying3 h4;simp only [List.cons.injEq,adj] at e0 e1;rw [e0] at h1;rw [e1] at h2;exact ⟨(z0,z1),h1,h2⟩)
  have hlen:((List.range len).map f).length=len:=by simp
  refine ⟨(List.range len).map f,⟨some a,cap,by rw [hlen],λi hi=>?_⟩,by rw [Ah,hlen];have:=xh ((List.range len).map λi=>.agg [D0 i,D1 i]) ((List.range (m - len)).map λj=>.agg [D0 (len+j),D1 (len+j)]);rw [L_,List.length_range] at this;exact this⟩;rw [hlen] at hi;obtain ⟨h1,h2⟩:=hf i hi;have h0:=(hf 0 (by omega)).1;rw [acM,add_zero'] at h0;have hsp:=zB h0;clear h0;obtain ⟨ab,ao,asp⟩:=a;simp only at hsp;subst hsp;rw [add_plain] at h1 h2;refine ⟨ab,ao,rfl,?_,?_⟩
  ·rw [h1];simp
  ·rw [show ao+i*2+1=ao+(i*2+1) by omega,h2];simp
theorem Ml {v:Value} {x:DataW H × List MemPlace} (h:DataW.trod enc Tryz.prog w base spare held fuel 23 [v]=some x):∃ l,kP w v l∧l.length<=Rows.uptoBulk x.1∧∀ q∈l,q.1.length<=Rows.uptoBulk x.1:=by
 obtain ⟨f0,f1,f2,hs,o0,o1,o2,t0,t1,t2⟩:∃ f0 f1 f2:Field,Tryz.prog.underlying 59=some (.struct #[f0,f1,f2])∧f0.offset=0∧f1.offset=1∧f2.offset=2∧f0.type=36∧f1.type=3∧f2.type=4:=⟨_,_,_,Tryz.underlying59,rfl,rfl,rfl,rfl,rfl,rfl⟩;have ce:Tryz.prog.cellsOf 59=3:=by kernel_rfl
 have c0:Tryz.prog.cellsOf 36=1:=by kernel_rfl
 have c1:Tryz.prog.cellsOf 3=1:=by kernel_rfl
 have c2:Tryz.prog.cellsOf 4=1:=by kernel_rfl
 rcases Deep.open_slice Tryz.underlying23 h with ⟨hcs,Ah⟩|⟨a,len,cap,m,n,D,Pl',hcs,_,hl,hm,hmm,Ah,hx⟩
 ·cases hcs;exact ⟨[],⟨none,0,rfl,λi hi=>absurd hi (aaI i)⟩,by simp,by simp⟩
 ·cases hcs;have hle:len<=m:=by rw [hmm];split <;> omega
  obtain ⟨f,hf⟩:=Deep.choose_lt (α:=dS) (n:=len) (p:=λi q=>∃ u,w.cell? (a.add (i*3))=some u∧bI w u q.1∧w.cell? (a.add (i*3+1))=some (.int .i64 q.2.1)∧w.cell? (a.add (i*3+2))=some (.bool q.2.2)∧q.1.length<=Rows.uptoBulk (D i)) (λi hi=>by
   obtain ⟨cs',h1,h2⟩:=hx i (by omega);rw [ce] at h1;obtain ⟨_,hlen,hcell⟩:=World.cells?_some h1;obtain ⟨xs,k,hk,hxy,_,hxl,hff⟩:=DataW.trod_struct hs h2
   match xs,hxl,cs',hlen with
   | [y0,y1,y2],_,[v0,v1,v2],_ =>
    have g0:=hff 0 f0 rfl;have g1:=hff 1 f1 rfl;have g2:=hff 2 f2 rfl;rw [t0,c0,o0] at g0;rw [t1,c1,o1] at g1;rw [t2,c2,o2] at g2;have e0:=hcell 0 (by omega);have e1:=hcell 1 (by omega);have e2:=hcell 2 (by omega);rw [Deep.add_add] at e0 e1 e2;obtain ⟨l,hl1,hl2⟩:=Mk (v:=v0) (x:=y0) g0;obtain ⟨z1,ez1,_⟩:=DataW.trod_int (cs:=[v1]) (x:=y1) Tryz.underlying3 g1;obtain ⟨b2,eb2,_⟩:=DataW.trod_bool (cs:=[v2]) (x:=y2) Tryz.underlying4 g2;simp only [List.cons.injEq,adj] at ez1 eb2;refine ⟨(l,z1,b2),v0,?_,hl1,?_,?_,?_⟩
    ·simpa using e0
    ·rw [<-ez1];simpa using e1
    ·rw [<-eb2];simpa using e2
    ·have hD:D i=.agg [y0.1,y1.1,y2.1]:=congrArg Prod.fst hxy;rw [hD];show l.length<=_;simp only [Rows.uptoBulk,Rows.uptoBulkAll];omega)
  have hlen:((List.range len).map f).length=len:=by simp
  have hbs:=xh ((List.range len).map D) ((List.range (m - len)).map λj=>D (len+j));have hbp:∀ i,i<len->Rows.uptoBulk (D i)<=Rows.uptoBulk (.slice ((List.range len).map D) ((List.range (m - len)).map λj=>D (len+j))):=λi hi=>by
   have:=Ei (d:=D i) (l:=(List.range len).map D) (m_.2 ⟨i,W_.2 hi,rfl⟩);simp only [Rows.uptoBulk];omega
  rw [L_,List.length_range] at hbs;refine ⟨(List.range len).map f,⟨some a,cap,by rw [hlen],λi hi=>?_⟩,by rw [Ah,hlen];exact hbs,λq hq=>?_⟩;rotate_left
  ·obtain ⟨i,hi,rfl⟩:=m_.1 hq;obtain ⟨_,_,_,_,_,h5⟩:=hf i (W_.1 hi);rw [Ah];exact w_ h5 (hbp i (W_.1 hi))
  rw [hlen] at hi;obtain ⟨u,h1,h2,h3,h4,_⟩:=hf i hi;obtain ⟨u0,h0,_⟩:=hf 0 (by omega);rw [acM,add_zero'] at h0;have hsp:=zB h0;clear h0;obtain ⟨ab,ao,asp⟩:=a;simp only at hsp;subst hsp;rw [add_plain] at h1 h3 h4;have eg:((List.range len).map f)[i]'(by rw [hlen];exact hi)=f i:=by simp
  rw [eg];refine ⟨ab,ao,u,rfl,h1,h2,?_,?_⟩
  ·rw [show ao+i*3+1=ao+(i*3+1) by omega];exact h3
  ·rw [show ao+i*3+2=ao+(i*3+2) by omega];exact h4
end
theorem Fp (qV:BF) (H:Type) (enc:TypeId × Value->H) (W:World) (base:Nat) (args:Array Value) (ds gs:List (DataW H)) (before:List MemPlace)
  (hval0:∀ (j:Nat) t v,Tryz.f3.params[j]?=some t->args[j]?=some v->Value.okWide Tryz.prog W .any base t v)
  (hW:DataW.Whole enc Tryz.prog Tryz.f3.params.toList Rows.solvedSpec.vars false W args.toList ds gs before) (hk:Rows.uptoSmall H (ds++gs)=true) :
  Calls Tryz.prog 3 args W λe W'=>∃ v,e=.returned v∧Rows.solvedSpec.post enc Tryz.prog Tryz.f3 false true false false W args v W':=by
 have hval:∀ (j:Nat) t v,Tryz.f3.params[j]?=some t->args[j]?=some v->Value.okWide Tryz.prog W .any base t v:=hval0;have hW':=hW;obtain ⟨p,q,hA0,hV,rfl,hfz,hnd⟩:=hW;have hA:DataW.TrodAll enc Tryz.prog W 0 (λ_=>true) true Tryz.f3.params.toList args.toList ds p:=hA0;rw [Tryz.params3] at hA hval;obtain ⟨v0,vs0,d0,ds0,p0,q0,hargs,rfl,rfl,h0,r0⟩:=trodAll_cons hA;obtain ⟨v1,vs1,d1,ds1,p1,q1,rfl,rfl,rfl,h1,r1⟩:=trodAll_cons r0;obtain ⟨rfl,rfl,rfl⟩:=trodAll_nil r1;obtain rfl:args=#[v0,v1]:=by cases args;simp_all
 obtain ⟨rfl,rfl⟩:=trodVars_none hV;obtain ⟨a0,ab2,cap0,rfl⟩:=okWide_slice Tryz.underlying22 (hval 0 22 v0 rfl rfl);obtain ⟨a1,ab3,iQ,rfl⟩:=okWide_slice Tryz.underlying23 (hval 1 23 v1 rfl rfl);have k0:=h0;have k1:=h1;have lt0:∀ x∈p0,x.block<W.heap.size:=by obtain ⟨m,hm⟩:=k0;exact DataW.trod_lt m _ _ _ hm
 have lt1:∀ x∈p1,x.block<W.heap.size:=by obtain ⟨m,hm⟩:=k1;exact DataW.trod_lt m _ _ _ hm
 have hbl:Rows.uptoBulkAll ([d0,d1]++[])<=1048576:=aaP hk;simp only [abr,Rows.uptoBulkAll] at hbl;obtain ⟨l0,w0,m0⟩:∃ l,jd W (.slice a0 ab2 cap0) l∧l.length<=Rows.uptoBulk d0:=by
  obtain ⟨fuel,hf⟩:=h0;exact Gw hf
 obtain ⟨l1,w1,m1,m2⟩:∃ l,kP W (.slice a1 ab3 iQ) l∧l.length<=Rows.uptoBulk d1∧∀ q∈l,q.1.length<=Rows.uptoBulk d1:=by
  obtain ⟨fuel,hf⟩:=h1;exact Ml hf
 clear hA0 hval0;refine (Gp qV l0 l1 _ _ W w0 w1 (by omega) (by omega) (λq hq=>by have:=m2 q hq;omega)).mono λe W' ⟨he,U8⟩=>?_;subst he;exact ⟨_,rfl,_,_,_,[],_,[],hW',trodAll_mk1 (shut_bool Tryz.underlying4 _),(trodAll_cons_mk (Below.trod uG (by kernel_rfl) (aaP (by kernel_rfl)) k0 U8 lt0) (trodAll_cons_mk (Below.trod uG (by kernel_rfl) (aaP (by kernel_rfl)) k1 U8 lt1) trodAll_mk0)),rfl,U8.frame _,λh=>by cases h⟩
theorem DC (qV:BF) (os:Os) (started:os.Started) (H:Type) (enc:TypeId × Value->H) (F:Stop.Interp) :
  ReturnsInHanded {} Tryz.checked os 3 .any ((Rows.OpenSpec.upto Rows.solvedSpec).pre6 enc Tryz.prog Tryz.f3 Rows.solvedUptoRow.domain false) (((Rows.OpenSpec.upto Rows.solvedSpec).at F).post enc Tryz.prog Tryz.f3 false true false false):=by
 refine returnsInHanded_of_cond (C:=Tryz.checked) (s:=Rows.OpenSpec.upto Rows.solvedSpec) (k:=Rows.uptoSmall) rfl Jr started (by kernel_rfl) Tryz.func3
  (OpenSpec.witness (enc:=enc) (C:=Tryz.checked) (s:=Rows.OpenSpec.upto Rows.solvedSpec) (k:=Rows.uptoSmall) rfl false ⟨#[],#[.slice none 0 0,.slice none 0 0],[]⟩ 8 (by kernel_rfl) (by kernel_rfl) (by kernel_rfl)
   (x:=([.nil,.nil],[],[])) (by kernel_rfl) rfl (by kernel_rfl)) ?_
 intro W base args ds gs before hval hW _ hk _;exact Fp qV H enc W base args ds gs before hval hW hk
theorem Gx (qV:BF):Rows.solvedUptoRow.holds Tryz.pinned (Rows.OpenSpec.upto Rows.solvedSpec) :=
 OpenClaim.holds_of_cond 3 Tryz.f3 rfl rfl rfl rfl rfl rfl rfl ⟨rfl,rfl,rfl,rfl,rfl⟩ rfl rfl rfl rfl rfl (by kernel_rfl) Tryz.func3 (by kernel_rfl)
  (aaP (by kernel_rfl)) (by unfold Func.isWrapper;first | (rw [h_ (by decide +kernel)];kernel_rfl) | (rw [g_ (by decide +kernel)];exact ⟨rfl,rfl⟩))
  (λos started H enc _ F=>DC qV os started H enc F)
end Go.Proofs.YtgaafamcajcifaaGreat
