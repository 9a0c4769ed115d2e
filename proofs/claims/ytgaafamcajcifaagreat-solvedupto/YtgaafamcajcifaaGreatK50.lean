/- Joined: SLaw11 SLaw12 Solved1. -/
import Derived.Test.YtgaafamcajcifaaGreatK49
set_option linter.unusedVariables false
set_option linter.unusedSimpArgs false
set_option maxRecDepth 100000
namespace Go.Proofs.YtgaafamcajcifaaGreat
open Go.RowKit Go.Sort
structure Af (B S W:Nat) (w:World) (b N:Nat) (bq:List (Value × Int)) (v:Value) (dA:List (Value × Int)) (rv:Value) (di:List (Value × Int)) (qv:Value) (vs:List (Int × Int)) (rs:List dS) (g1 gl:Nat) (G:List Nat) (vcs vl:Value) (A:List Int):Prop where
 XG:Rw B w b N bq v dA rv di qv
 low:(∀ e∈bq,∀ k,e.1.ownBlock=some k->k<S)∧(∀ e∈dA,BG (·<S) w e)∧(∀ e∈di,Rx (·<S) w e)
 rng:eG w g1 (lQ vs 2)
 UH:S<=g1
 Jd:iP S rs gl (rs.length+2) G w
 cs:qH S rs (rs.length+2) G w vcs
 gW:∀ g∈G,g<W
 glW:gl<W
 own:aI W w vl A
 sW:S<=W
 bS:B<=S
 sw:S<=w.heap.size
section
variable {B S W:Nat} {w w9 zt:World} {b N:Nat} {bq dA di:List (Value × Int)} {v rv qv:Value} {vs:List (Int × Int)} {rs:List dS} {g1 gl:Nat} {G:List Nat} {vcs vl:Value} {A:List Int}
theorem Af.grow {w':World} (h:Af B S W w b N bq v dA rv di qv vs rs g1 gl G vcs vl A) (hg:ae w w'):Af B S W w' b N bq v dA rv di qv vs rs g1 gl G vcs vl A :=
 have k:∀ e,aA e w w':=λe=>.aX hg
 ⟨h.XG.grow hg,⟨h.low.1,λe he=>(h.low.2.1 e he).bW (λj cur hj _=>k _ j cur hj) (λ_ _ x=>x),λe he=>(h.low.2.2 e he).bW (λj cur hj _=>k _ j cur hj) (λj cur hj _=>k _ j cur hj) (λ_ _ x=>x)⟩,h.rng.grow hg,h.UH,h.Jd.grow hg,h.cs.bW (k _),h.gW,h.glW,aW h.own (k _),h.sW,h.bS,w_ h.sw hg.size⟩
theorem Af.UI (hD:Rw B w b N bq v dA rv di qv):(∀ e∈bq,∀ k,e.1.ownBlock=some k->k<w.heap.size)∧(∀ e∈dA,BG (·<w.heap.size) w e)∧(∀ e∈di,Rx (·<w.heap.size) w e) :=
 ⟨λe he k hk=>(hD.ok e he).lt hk,λe he=>(hD.XH e he).bW (λ_ _ _ _=>rfl) (λk hk _=>hk),λe he=>(hD.qok e he).bW (λ_ _ _ _=>rfl) (λ_ _ _ _=>rfl) (λk hk _=>hk)⟩
structure Je (B S W:Nat) (w8 w:World) (b N:Nat) (bq:List (Value × Int)) (v:Value) (dA:List (Value × Int)) (di:List (Value × Int)) (qv:Value) (rs:List dS) (gl:Nat) (G:List Nat) (vcs vl:Value) (A:List Int) (mV:List (Value × Int)) (rv':Value):Prop where
 held:dX rv' qv B w b (N+1) bq v
 Jf:w.ownsRow B 52 2 rv' mV.length (bT mV)
 abx:mV.length=dA.length+1
 XH:∀ e∈mV,BG (λ_=>True) w e
 LP:w.ownsRow B 57 2 qv di.length (bT di)
 aby:∀ e∈di,Rx (·<S) w e
 eok:∀ e∈bq,kQ w e∧∀ k,e.1.ownBlock=some k->k<S
 Jd:iP S rs gl (rs.length+2) G w
 cs:qH S rs (rs.length+2) G w vcs
 gW:∀ g∈G,S<=g∧g<W
 glW:gl<W
 own:aI W w vl A
 sW:S<=W
 bS:B<=S
 sw:S<=w.heap.size
 below:Below B w8 w
theorem Af.ranges (h:Af B S W w b N bq v dA rv di qv vs rs g1 gl G vcs vl A) (hv:vs.length<=1048576) (hN:N<=100000000) {e:Ending} (hp:wZ B w b N bq v qv dA g1 (vs.length+2) (vs.length+2) e w9):∃ u mV rv',e=.returned u∧Je B S W w w9 b N bq v dA di qv rs gl G vcs vl A mV rv':=by
 obtain ⟨u,ra,rc,he,h1,h2,h3,h4,h5,h6⟩:=hp;have hr:=h4 59 (by decide) (by decide) (by decide);have hi:=h4 3 (by decide) (by decide) (by decide);refine ⟨u,dA++[(.slice (some ⟨g1,0,none⟩) (vs.length+2) (vs.length+2),1099511627783+(N+1:Int))],_,he,h1,by rw [C_];exact h2,by rw [C_];rfl,λe he=>?_,aW h.XG.LP (h4 _ (by decide) (by decide) (by decide)),λe he=>(h.low.2.2 e he).bW (λj cur hj _=>hr j cur hj) (λj cur hj _=>hi j cur hj) (λ_ _ x=>x),λe he=>⟨(h.XG.ok e he).dY hi,h.low.1 e he⟩,h.Jd.bW hr hi,h.cs.bW (h4 _ (by decide) (by decide) (by decide)),λg hg=>⟨?_,h.gW g hg⟩,h.glW,aW h.own hi,h.sW,h.bS,w_ h.sw h6.size,h6⟩
 ·rcases F_.1 he with he | he
  ·refine (h.low.2.1 e he).bW (λj cur hj hl=>h5 j cur hj (λe=>?_)) (λ_ _ _=>trivial);have:=h.UH;omega
  ·rw [I_.1 he];exact ⟨g1,_,_,rfl,h3,by omega,by show (0:Int)<=1099511627783+(N+1:Int);omega,by show 1099511627783+(N+1:Int)<=(4000000000000:Int);omega,trivial⟩
 ·obtain ⟨j,hj,e⟩:=List.getElem_of_mem hg;exact (h.Jd.list j g (by rw [f_ hj,e])).2
theorem Je.last {mV:List (Value × Int)} {rv':Value} {la:Option Addr} {ln lc:Nat} (h:Je B S W w w9 b N bq v dA di qv rs gl G vcs (.slice la ln lc) A mV rv') {e:Ending} (hp:BH rv' B w9 b (N+1) bq di rs gl G e zt) (hW:∀ k,(Value.slice la ln lc).ownBlock=some k->k<w9.heap.size) :
  e=.returned (.bool true)∧∃ Eb v1 qv',dX rv' qv' B zt b (N+1+rs.length+1) Eb v1∧aI B zt (.slice la ln lc) A∧(∀ e∈Eb,kQ zt e∧∀ k,(Value.slice la ln lc).ownBlock=some k->e.1.ownBlock≠some k)∧Eb.length=bq.length+4*rs.length∧B<=zt.heap.size ∧
   ∀ LU new v2,dX rv' qv' B LU b (N+1+rs.length+1+1) (Eb++new) v2->new.length=4->(∀ e∈Eb++new,kQ LU e)->jR (Value.slice la ln lc).ownBlock zt LU->Below B zt LU->(∀ e,3≠e->50≠e->29≠e->aA e zt LU)->wY B w b N bq dA di rs (.returned (.bool true)) LU:=by
 obtain ⟨new,v1,qa,qc,n,he,h1,h2,h3,h4,h5,h6,h7,h8,h9,h10⟩:=hp;have hlW:∀ k,(Value.slice la ln lc).ownBlock=some k->W<=k:=bR h.own;have hlG:∀ k,(Value.slice la ln lc).ownBlock=some k->k ∉ G:=λk hk hc=>by have:=hlW k hk;have:=(h.gW k hc).2;omega
 have hA:aI B zt (.slice la ln lc) A:=by
  have h0:=rF h.own (w_ h.bS h.sW);refine ⟨h0.1,?_⟩;rcases h0.2 with hn|⟨k,cap,cur,e,hb,hgg,rest⟩
  ·exact .inl hn
  ·exact .inr ⟨k,cap,cur,e,hb,by rw [h8 k cur hgg (hlG k (by rw [e];rfl))];exact hgg,rest⟩
 refine ⟨he,bq++new,v1,.slice qa (di.length+1) qc,h1,hA,λe he=>⟨h4 e he,λk hk hc=>?_⟩,by rw [C_,h3],w_ (w_ h.bS h.sw) h10.size,?_⟩
 ·have hkW:=hlW k hk;have hkw:=hW k hk;rcases F_.1 he with he|he
  ·have:=(h.eok e he).2 k hc;have:=h.sW;omega
  ·rcases h5 e he k hc with h' | h'
   ·exact hlG k hk h'
   ·omega
 ·intro LU abB v2 g1 g2 g3 g4 g5 g6;have kr:=g6 59 (by decide) (by decide) (by decide);have kg:=(h7 54 (by decide) (by decide) (by decide) (by decide) (by decide)).trans (g6 _ (by decide) (by decide) (by decide));have khr:=(h7 52 (by decide) (by decide) (by decide) (by decide) (by decide)).trans (g6 _ (by decide) (by decide) (by decide));refine ⟨bq++new++abB,mV,di++[(.slice (some ⟨gl,0,none⟩) (rs.length+2) (rs.length+2),n)],v2,rv',.slice qa (di.length+1) qc,rfl,⟨?_,aW h.Jf khr,?_,g3,λe he=>(h.XH e he).bW (λj cur hj _=>kg j cur hj) (λ_ _ x=>x),λe he=>?_⟩,by rw [C_,C_,h3,g2],h.abx,by rw [C_];rfl,(h.below.trans h10).trans g5⟩
  ·rw [show N+rs.length+3=N+1+rs.length+1+1 by omega];exact g1
  ·rw [C_];exact aW h2 (g6 _ (by decide) (by decide) (by decide))
  ·rcases F_.1 he with he | he
   ·have hq1:Rx (·<S) zt e:=(h.aby e he).bW (λj cur hj hl=>h9 j cur hj (λe=>by have:=h.Jd.OB;omega)) (λj cur hj hl=>h8 j cur hj (λe=>by have:=(h.gW j e).1;omega)) (λ_ _ x=>x);exact hq1.bW (λj cur hj _=>kr j cur hj) (λj cur hj hl=>g4 j cur hj (λe=>by have:=hlW j e;have:=h.sW;omega)) (λ_ _ _=>trivial)
   ·rw [I_.1 he];exact h6.bW (λj cur hj _=>kr j cur hj) (λj cur hj hl=>g4 j cur hj (λe=>by
     rcases hl with rfl|hl
     ·have:=hlW _ e;have:=h.glW;omega
     ·have:=hW j e;omega)) (λ_ _ _=>trivial)
end
section
section
attribute [local go_sem] bD
set_option maxHeartbeats 2000000 in
theorem Ec (qU:BD) {B:Nat} {w:World} {b N:Nat} {bq dA di:List (Value × Int)} {v rv qv:Value} (vs:List (Int × Int)) (rs:List dS) (va vb:Value) (hD:Rw B w b N bq v dA rv di qv) (ha:jd w va vs) (hb:kP w vb rs) (hv:vs.length<=1048576) (hr:rs.length<=1048576) (hC:∀ q∈rs,q.1.length<=1048576) (hB:B<=w.heap.size) (hn:bq.length<=20000000) (hn2:dA.length<=100) (WZ:di.length<=100) (hN:N<=20000000) :
  Calls Tryz.prog 4 #[.pointer (some ⟨b,0,none⟩),va,vb] w (wY B w b N bq dA di rs):=by
 have hLR:=af (BI vs va w ha hv);have HA:=af ha;have HB:=af hb;have HC:=af hC;have HD:=af hD;obtain ⟨aa,ac,rfl⟩:=ha.aB;obtain ⟨ba,bc,rfl⟩:=hb.aB;obtain ⟨n,hnn⟩:∃ n,vs.length=n:=⟨_,rfl⟩;obtain ⟨m,hmm⟩:∃ m,rs.length=m:=⟨_,rfl⟩;have LV:=af hnn;have zu:=af hmm;rw [hnn] at HA hv hLR ⊢;rw [hmm] at HB hr ⊢;clear ha hb hC hD hnn hmm;go_enter Tryz.func4,Tryz.ntmps4;go_wp2_with fail;refine (uh hLR).mono ?_;rintro e w1 ⟨g1,rfl,hg1,hr1,hG1⟩;have hLW:=af (E8 rs (.slice ba m bc) w1 ((uh HB).below hG1) (by rw [uh zu];exact hr) (uh HC));have HR1:=af (x_ hg1 (x_ hr1 hG1));clear hLR hg1 hr1 hG1;go_wp2_with fail;refine (uh hLW).mono ?_;rintro e w2 ⟨gl,ca,cc,G,rfl,hL,hCs,hG2⟩;have HST:Hid (eG w2 g1 (lQ vs 2)∧w.heap.size<=g1∧iP w.heap.size rs gl (rs.length+2) G w2∧qH w.heap.size rs (rs.length+2) G w2 (.slice ca rs.length cc)∧ae w w2∧gl<w2.heap.size) :=
  ⟨(uh HR1).2.1.grow hG2,(uh HR1).1,hL.mono (uh HR1).2.2.size,rF hCs (uh HR1).2.2.size,(uh HR1).2.2.trans hG2,z_ hL.blk⟩
 rw [uh zu] at HST ⊢;clear hLW hL hCs hG2 HR1;have HSO:Hid (∀ wq,ae w2 wq->Calls Tryz.prog 8 #[.slice (some ⟨g1,0,none⟩) n (n+2),.slice (some ⟨gl,0,none⟩) m (m+2)] wq (mU vs rs wq)):=λwq hg=>by
  have h1:=Gh ((uh HST).1.grow hg) (n+2);have hl:=(uh HST).2.2.1;rw [<-uh zu] at hl;have h2:=(hl.grow hg).rws (m+2);have h3:=qU vs rs _ _ wq h1 h2 (by rw [uh LV];unfold maxLen;omega) (by rw [uh zu];unfold maxLen;omega);rw [uh LV,uh zu] at h3;exact h3
 have hle1:(n:Int)<=(n:Int)+2:=by omega
 have hle2:(m:Int)<=(m:Int)+2:=by omega
 go_wp2_with fail;refine ah (bZ [(36,qR vs rs w2)]) (gL [(36,BF)]) 88 15 (by kernel_rfl) (by rfl) (by kernel_rfl) (aN (λ_ _ _=>qR.grow) cK) ?_
 iterate 8 (refine aO λK hK=>?_;go_simp;refine hK _ ?_;clear hK K)
 refine ai BF 8 #[.slice (some ⟨g1,0,none⟩) n (n+2),.slice (some ⟨gl,0,none⟩) m (m+2)] (by rfl) (by rfl) ⟨_,none,0,0,false,0,rfl⟩ (λw=>by go_simp) (λwq hg hf=>(uh HSO wq hg).mono (by intro e w' hp;obtain ⟨u,h1,h2,h3,h4⟩:=qR.of (W:=w2) hp hg.size;exact ⟨u,h1,h2,h3,λt ht=>by cases ht;exact h4⟩)) ?_;rintro _ ⟨la,ln,lc,fo,er,rfl⟩;simp only [Act.put,p_,G_,D_]
 iterate 6 (refine aO λK hK=>?_;go_simp;refine hK _ ?_;clear hK K)
 refine aF ?_;intro w5 hg5 aK;have HV5:Hid (qR vs rs w2 (.tuple #[.slice la ln lc,.bool fo,.int .i64 er]) w5):=aK 8 _ 36 (by decide) rfl rfl;have gD:=af hg5;clear aK hg5 HSO;have xe:=af (Jg vs rs (.slice aa n ac) (.slice ba m bc) w5 ((uh HA).below ((uh HST).2.2.2.2.1.trans (uh gD))) ((uh HB).below ((uh HST).2.2.2.2.1.trans (uh gD))) (by rw [uh LV];unfold maxLen;omega) (by rw [uh zu];unfold maxLen;omega));go_wp2_with fail;refine (uh xe).mono ?_;rintro e w6 hp;obtain ⟨A,va',vc',hln,rfl,o1,o2,hA4,rH⟩:=Jc (uh HV5) hp;have hS:Af B w.heap.size w2.heap.size w6 b N bq v dA rv di qv vs rs g1 gl G (.slice ca m cc) (.slice la ln lc) A:=by
  obtain ⟨s1,s2,s3,s4,s5,s6⟩:=uh HST;have Ry:ae w2 w6:=(uh gD).trans rH;have UJ:ae w w6:=s5.trans Ry;have hlo:=Af.UI (uh HD);have k:∀ e,aA e w w6:=λe=>.aX UJ;refine ⟨(uh HD).grow UJ,⟨hlo.1,λe he=>(hlo.2.1 e he).bW (λj cur hj _=>k _ j cur hj) (λ_ _ x=>x),λe he=>(hlo.2.2 e he).bW (λj cur hj _=>k _ j cur hj) (λj cur hj _=>k _ j cur hj) (λ_ _ x=>x)⟩,s1.grow Ry,s2,by rw [uh zu];exact s3.grow Ry,by rw [uh zu];exact s4.bW (.aX Ry),λg hg=>s3.lt hg,s6,o1,s5.size,hB,UJ.size⟩
 have Dx:Hid (ae w w6):=(uh HST).2.2.2.2.1.trans ((uh gD).trans rH);have vO:=af (BJ vs (.slice aa n ac) g1 w6 ((uh HA).below (uh Dx)) hS.rng (by rw [uh LV];exact hv));rw [uh LV] at vO;have KJ:=af hS;have iT:=af o2;have KL:=af hln;clear xe hp HV5 hS o1 o2 rH HST gD hln;go_wp2_with fail;refine (uh vO).mono ?_;rintro e w7 ⟨rfl,sI⟩;have Jh:Hid (ae w w7):=(uh Dx).trans sI;have hS7:=(uh KJ).grow sI;have UK:=hS7.cs;rw [uh zu] at UK;have HLW:=af (E9 rs (.slice ba m bc) w.heap.size gl ca cc G w7 ((uh HB).below (uh Jh)) hS7.Jd (by rw [uh zu];exact UK) (by rw [uh zu];exact hr) (uh HC));rw [uh zu] at HLW;have HS7:=af hS7;have Rz:=af (aW (uh iT) (.aX sI));clear vO hS7 UK KJ iT Dx sI;go_wp2_with fail;refine (uh HLW).mono ?_;rintro e w8 ⟨rfl,q8,hw8⟩;have Dt:ae w7 w8:=by rw [hw8];exact abb (n_ _ _) _
 have hS8:=(uh HS7).grow Dt;have hO8:=aW (uh Rz) (.aX Dt);have XI:=af (sG A (.slice la ln lc) (.slice va' ln vc') w8 (cO hS8.own) (cO hO8) (by unfold maxLen;omega));have XJ:Hid (ae w w8):=(uh Jh).trans Dt;have KM:=af hS8;clear HLW hS8 hO8 HS7 Rz Jh Dt hw8 q8;go_wp2_with fail;refine (uh XI).mono ?_;rintro e w9 ⟨rfl,q9,rD⟩;have UL:ae w8 w9:=by rw [rD];exact abb (n_ _ _) _
 have UM:=(uh KM).grow UL;have XK:Hid (ae w w9):=(uh XJ).trans UL;have hll:(lQ vs 2).length=n+2:=by rw [vN vs (d_ 2),uh LV]
 have zy:=af (Ji g1 (n+2) (lQ vs 2) UM.XG.held UM.XG.Jf UM.rng (w_ UM.bS UM.UH) (w_ hB (uh XK).size) (by rw [hll];omega) (by omega) (by omega));rw [hll] at zy;have HS9:=af UM;clear XI UM KM XJ UL rD q9 hll;go_wp2_with fail;refine (uh zy).mono ?_;rintro e zt UN;rw [<-uh LV] at UN;obtain ⟨u10,mV,rv',rfl,h10⟩:=(uh HS9).ranges (by rw [uh LV];exact hv) (by omega) UN;have OD:=h10.cs;rw [uh zu] at OD;have N7:=af (OE rs gl ca cc G h10.held h10.LP (h10.Jd.mono h10.bS) (by rw [uh zu];exact rF OD h10.bS) (λe he=>⟨(h10.eok e he).1,λk hk hc=>by have:=(h10.eok e he).2 k hk;have:=(h10.gW k hc).1;omega⟩) (w_ h10.bS h10.sw) (by rw [uh zu];exact hr) (uh HC) (by omega) (by omega) (by omega));have HLB:Hid (∀ k,(Value.slice la ln lc).ownBlock=some k->k<zt.heap.size):=UO h10.own;rw [uh zu] at N7;have H10:=af h10;clear zy UN h10 OD HS9;go_wp2_with fail;refine (uh N7).mono ?_;rintro e LU XL;obtain ⟨rfl,Eb,v1,qv',t1,t2,t3,t4,t5,t6⟩:=(uh H10).last XL (uh HLB);have XM:rs.length<=1048576:=by rw [uh zu];exact hr
 have XN:=af (Gi (.slice la ln lc) A t1 t2 t3 t5 (by omega) (by omega) (by omega));have HT6:=af t6;have UQ:Hid (Below B w w9):=(uh XK).mono hB;clear N7 XL t1 t2 t3 t4 t5 t6 H10 HLB XM;go_wp2_with fail;refine (uh XN).mono ?_;rintro e Rf ⟨rfl,new,v2,u1,u2,u3,u4,u5,u6,u7,u8⟩;have HF:Hid (wY B w b N bq dA di rs (.returned (.bool true)) Rf):=by
  obtain ⟨a1,a2,a3,a4,a5,a6,b1,b2,b3,b4,b5,b6⟩:=uh HT6 Rf new v2 u1 u2 u3 u5 u6 u8;exact ⟨a1,a2,a3,a4,a5,a6,b1,b2,b3,b4,b5,(uh UQ).trans b6⟩
 clear XN HT6 u1 u2 u3 u4 u5 u6 u7 u8;go_wp2_with (go_at_call 16;refine (Rv _ _).mono ?_;rintro e w' ⟨rfl,rfl⟩);exact t_ (v:=.bool true) (by simp [results,Tryz.results4,go_sem]) rfl (uh HF)
end
set_option maxHeartbeats 1000000 in
theorem Gj (qU:BD) (vs:List (Int × Int)) (rs:List dS) (va vb:Value) (w:World) (ha:jd w va vs) (hb:kP w vb rs) (hv:vs.length<=1048576) (hr:rs.length<=1048576) (hC:∀ q∈rs,q.1.length<=1048576) :
  Calls Tryz.prog 3 #[va,vb] w λe w'=>e=.returned (.bool true)∧Below w.heap.size w w':=by
 have HA:=af ha;have HB:=af hb;have hg0:=ae.alloc w (.cells #[.int .i64 0,.slice none 0 0,.slice none 0 0,.slice none 0 0] 29);have hD:Rw w.heap.size (w.alloc (.cells #[.int .i64 0,.slice none 0 0,.slice none 0 0,.slice none 0 0] 29)) w.heap.size 0 [] (.slice none 0 0) [] (.slice none 0 0) [] (.slice none 0 0) :=
  ⟨⟨d_ _,aax w _,aa8 _ _ _ _⟩,aa8 _ _ _ _,aa8 _ _ _ _,(λe he=>by cases he),(λe he=>by cases he),(λe he=>by cases he)⟩
 have H0:=af (Ec qU vs rs va vb hD (ha.below hg0) (hb.below hg0) hv hr hC hg0.size (by simp) (by simp) (by simp) (by omega));have xV:=af hg0;obtain ⟨aa,ac,rfl⟩:=ha.aB;obtain ⟨ba,bc,rfl⟩:=hb.aB;clear ha hb hg0 hD;obtain ⟨n,hnn⟩:∃ n,vs.length=n:=⟨_,rfl⟩;obtain ⟨m,hmm⟩:∃ m,rs.length=m:=⟨_,rfl⟩;have LV:=af hnn;have zu:=af hmm;rw [hnn,hmm] at H0 ⊢;rw [hnn] at HA;rw [hmm] at HB hr;clear hnn hmm;go_enter Tryz.func3,Tryz.ntmps3;go_wp2_with fail;refine (uh H0).mono ?_;rintro e w1 ⟨e1,r1,q1,v1,rv1,qv1,rfl,hD1,l1,l2,l3,hb1⟩;have hG1:ae w w1:=aa2 (uh xV) hb1;have hrm:=uh zu;have H1:=af (Ec qU vs rs (.slice aa n ac) (.slice ba m bc) hD1 ((uh HA).below hG1) ((uh HB).below hG1) hv (by rw [hrm];exact hr) hC hG1.size (by rw [l1];simp;omega) (by rw [l2];simp) (by rw [l3];simp) (by omega));have dN:=af hG1;have HL:=af (x_ l1 (x_ l2 l3));clear H0 hD1 l1 l2 l3 hb1 hG1 hrm;go_wp2_with fail;refine (uh H1).mono ?_;rintro e w2 ⟨e2,r2,q2,v2,rv2,qv2,rfl,hD2,k1,k2,k3,hb2⟩;obtain ⟨l1,l2,l3⟩:=uh HL;have hG2:ae w w2:=aa2 (uh dN) hb2;have hrm:=uh zu;have H2:=af (RA hD2 (by rw [k1,l1];simp;omega) (by rw [k2,l2];simp) (by rw [k3,l3];simp));have HG2:=af hG2;clear H1 hD2 l1 l2 l3 k1 k2 k3 hb2 hG2 hrm;go_wp2_with fail;refine (uh H2).mono ?_;rintro e w3 ⟨rfl,hg3⟩;have jb:Hid (ae w w3):=(uh HG2).trans hg3;clear H2 hg3;go_wp2;go_ret;exact ⟨rfl,uh jb⟩
end
end Go.Proofs.YtgaafamcajcifaaGreat

namespace Go.Proofs.YtgaafamcajcifaaGreat
open Go.ChangeShapes Go.WideShapes Go.ChangeAt Go.RowKit
theorem Jo:ownKnob Tryz.prog.godebug=none:=by kernel_rfl
theorem uF:laidOutB Tryz.prog=true:=by kernel_rfl
theorem O1 {H:Type} (d:DataW H):0<Rows.uptoBulk d:=by
 cases d with
 | lit l=>cases l <;> simp [Rows.uptoBulk]
 | _=>simp [Rows.uptoBulk]
theorem Eg {H:Type} {d:DataW H}:∀ {l:List (DataW H)},d∈l->Rows.uptoBulk d<=Rows.uptoBulkAll l
 | [],h=>by cases h
 | x::r,h=>by
  simp only [Rows.uptoBulkAll];rcases aa0.1 h with rfl|h
  ·omega
  ·have:=Eg h;omega
theorem Gs {H:Type}:∀ l:List (DataW H),l.length<=Rows.uptoBulkAll l
 | []=>aaZ _
 | x::r=>by
  have:=Gs r;have:=O1 x;simp only [Rows.uptoBulkAll,List.length_cons];omega
theorem xg {H:Type} (l r:List (DataW H)):l.length<=Rows.uptoBulk (.slice l r):=by
 have:=Gs l;simp only [Rows.uptoBulk];omega
theorem zA {w:World} {x:Addr} {v:Value} (h:w.cell? x=some v):x.spot=none:=by
 unfold World.cell? at h
 split at h
 ·cases hs:x.spot with
  | none=>rfl
  | some s=>rw [hs] at h;simp at h
 ·cases h
theorem add_plain (b o k:Nat):(⟨b,o,none⟩:Addr).add k=⟨b,o+k,none⟩:=by unfold Addr.add;split <;> simp_all
theorem add_zero' (x:Addr):x.add 0=x:=by unfold Addr.add;rw [h_ rfl]
section
variable {H:Type} {enc:TypeId × Value->H} {w:World} {base:Nat} {spare:Nat->Bool} {held:Bool} {fuel:Nat}
theorem Mh {v:Value} {x:DataW H × List MemPlace} (h:DataW.trod enc Tryz.prog w base spare held fuel 36 [v]=some x):∃ l,bI w v l∧l.length<=Rows.uptoBulk x.1:=by
 rcases open_ints Tryz.underlying36 Tryz.underlying3 (by kernel_rfl) h with ⟨hcs,Ag⟩|⟨a,len,cap,zs,hcs,_,hl,hm,hz,Ag,hcell,_⟩
 ·cases hcs;exact ⟨[],⟨none,0,rfl,λi hi=>absurd hi (aaD i)⟩,by simp⟩
 ·cases hcs;have hle:len<=zs.length:=by rw [hz];split <;> omega
  have hlen:(zs.take len).length=len:=by rw [T_];omega
  refine ⟨zs.take len,⟨some a,cap,by rw [hlen],λi hi=>?_⟩,by rw [Ag];have:=xg (H:=H) (lits .i64 (zs.take len)) (lits .i64 (zs.drop len));simp only [lits,L_] at this;exact this⟩;rw [hlen] at hi;have hc:=hcell i (by omega);have h0:=hcell 0 (by omega);rw [add_zero'] at h0;have hs:=zA h0;obtain ⟨ab,ao,asp⟩:=a;simp only at hs;subst hs;refine ⟨ab,ao,rfl,?_⟩;rw [<-add_plain,hc,a_,a_,List.getElem?_take,h_ hi]
theorem Gt {v:Value} {x:DataW H × List MemPlace} (h:DataW.trod enc Tryz.prog w base spare held fuel 22 [v]=some x):∃ l,jd w v l∧l.length<=Rows.uptoBulk x.1:=by
 obtain ⟨f0,f1,hs,o0,o1,t0,t1⟩:∃ f0 f1:Field,Tryz.prog.underlying 54=some (.struct #[f0,f1])∧f0.offset=0∧f1.offset=1∧f0.type=3∧f1.type=3:=⟨_,_,Tryz.underlying54,rfl,rfl,rfl,rfl⟩;rcases Deep.open_slice_pairs Tryz.underlying22 hs (by kernel_rfl) o0 o1 (by rw [t0];kernel_rfl) (by rw [t1];kernel_rfl) h with ⟨hcs,Ag⟩|⟨a,len,cap,m,n,V0,V1,D0,D1,P0,P1,hcs,_,hl,hm,hmm,Ag,hx⟩
 ·cases hcs;exact ⟨[],⟨none,0,rfl,λi hi=>absurd hi (aaD i)⟩,by simp⟩
 ·cases hcs;have hle:len<=m:=by rw [hmm];split <;> omega
  rw [t0,t1] at hx;obtain ⟨f,hf⟩:=Deep.choose_lt (α:=Int × Int) (n:=len) (p:=λi q=>w.cell? (a.add (i*2))=some (.int .i64 q.1)∧w.cell? (a.add (i*2+1))=some (.int .i64 q.2)) (λi hi=>by
   obtain ⟨h1,h2,h3,h4⟩:=hx i (by omega);obtain ⟨z0,e0,_⟩:=DataW.trod_int Tryz.underlying3 h3;obtain ⟨z1,e1,_⟩:=DataW.trod_int Tryz.underlying3 h4;simp only [List.cons.injEq,and_true] at e0 e1;rw [e0] at h1;rw [e1] at h2;exact ⟨(z0,z1),h1,h2⟩)
  have hlen:((List.range len).map f).length=len:=by simp
  refine ⟨(List.range len).map f,⟨some a,cap,by rw [hlen],λi hi=>?_⟩,by rw [Ag,hlen];have:=xg ((List.range len).map λi=>.agg [D0 i,D1 i]) ((List.range (m - len)).map λj=>.agg [D0 (len+j),D1 (len+j)]);rw [L_,List.length_range] at this;exact this⟩;rw [hlen] at hi;obtain ⟨h1,h2⟩:=hf i hi;have h0:=(hf 0 (by omega)).1;rw [Nat.zero_mul,add_zero'] at h0;have hsp:=zA h0;clear h0;obtain ⟨ab,ao,asp⟩:=a;simp only at hsp;subst hsp;rw [add_plain] at h1 h2;refine ⟨ab,ao,rfl,?_,?_⟩
  ·rw [h1];simp
  ·rw [show ao+i*2+1=ao+(i*2+1) by omega,h2];simp
theorem Mi {v:Value} {x:DataW H × List MemPlace} (h:DataW.trod enc Tryz.prog w base spare held fuel 23 [v]=some x):∃ l,kP w v l∧l.length<=Rows.uptoBulk x.1∧∀ q∈l,q.1.length<=Rows.uptoBulk x.1:=by
 obtain ⟨f0,f1,f2,hs,o0,o1,o2,t0,t1,t2⟩:∃ f0 f1 f2:Field,Tryz.prog.underlying 59=some (.struct #[f0,f1,f2])∧f0.offset=0∧f1.offset=1∧f2.offset=2∧f0.type=36∧f1.type=3∧f2.type=4:=⟨_,_,_,Tryz.underlying59,rfl,rfl,rfl,rfl,rfl,rfl⟩;have ce:Tryz.prog.cellsOf 59=3:=by kernel_rfl
 have c0:Tryz.prog.cellsOf 36=1:=by kernel_rfl
 have c1:Tryz.prog.cellsOf 3=1:=by kernel_rfl
 have c2:Tryz.prog.cellsOf 4=1:=by kernel_rfl
 rcases Deep.open_slice Tryz.underlying23 h with ⟨hcs,Ag⟩|⟨a,len,cap,m,n,D,Pl',hcs,_,hl,hm,hmm,Ag,hx⟩
 ·cases hcs;exact ⟨[],⟨none,0,rfl,λi hi=>absurd hi (aaD i)⟩,by simp,by simp⟩
 ·cases hcs;have hle:len<=m:=by rw [hmm];split <;> omega
  obtain ⟨f,hf⟩:=Deep.choose_lt (α:=dS) (n:=len) (p:=λi q=>∃ u,w.cell? (a.add (i*3))=some u∧bI w u q.1∧w.cell? (a.add (i*3+1))=some (.int .i64 q.2.1)∧w.cell? (a.add (i*3+2))=some (.bool q.2.2)∧q.1.length<=Rows.uptoBulk (D i)) (λi hi=>by
   obtain ⟨cs',h1,h2⟩:=hx i (by omega);rw [ce] at h1;obtain ⟨_,hlen,hcell⟩:=World.cells?_some h1;obtain ⟨xs,k,hk,hxy,_,hxl,hff⟩:=DataW.trod_struct hs h2
   match xs,hxl,cs',hlen with
   | [y0,y1,y2],_,[v0,v1,v2],_ =>
    have g0:=hff 0 f0 rfl;have g1:=hff 1 f1 rfl;have g2:=hff 2 f2 rfl;rw [t0,c0,o0] at g0;rw [t1,c1,o1] at g1;rw [t2,c2,o2] at g2;have e0:=hcell 0 (by omega);have e1:=hcell 1 (by omega);have e2:=hcell 2 (by omega);rw [Deep.add_add] at e0 e1 e2;obtain ⟨l,hl1,hl2⟩:=Mh (v:=v0) (x:=y0) g0;obtain ⟨z1,ez1,_⟩:=DataW.trod_int (cs:=[v1]) (x:=y1) Tryz.underlying3 g1;obtain ⟨b2,eb2,_⟩:=DataW.trod_bool (cs:=[v2]) (x:=y2) Tryz.underlying4 g2;simp only [List.cons.injEq,and_true] at ez1 eb2;refine ⟨(l,z1,b2),v0,?_,hl1,?_,?_,?_⟩
    ·simpa using e0
    ·rw [<-ez1];simpa using e1
    ·rw [<-eb2];simpa using e2
    ·have hD:D i=.agg [y0.1,y1.1,y2.1]:=congrArg Prod.fst hxy;rw [hD];show l.length<=_;simp only [Rows.uptoBulk,Rows.uptoBulkAll];omega)
  have hlen:((List.range len).map f).length=len:=by simp
  have hbs:=xg ((List.range len).map D) ((List.range (m - len)).map λj=>D (len+j));have hbp:∀ i,i<len->Rows.uptoBulk (D i)<=Rows.uptoBulk (.slice ((List.range len).map D) ((List.range (m - len)).map λj=>D (len+j))):=λi hi=>by
   have:=Eg (d:=D i) (l:=(List.range len).map D) (m_.2 ⟨i,V_.2 hi,rfl⟩);simp only [Rows.uptoBulk];omega
  rw [L_,List.length_range] at hbs;refine ⟨(List.range len).map f,⟨some a,cap,by rw [hlen],λi hi=>?_⟩,by rw [Ag,hlen];exact hbs,λq hq=>?_⟩;rotate_left
  ·obtain ⟨i,hi,rfl⟩:=m_.1 hq;obtain ⟨_,_,_,_,_,h5⟩:=hf i (V_.1 hi);rw [Ag];exact w_ h5 (hbp i (V_.1 hi))
  rw [hlen] at hi;obtain ⟨u,h1,h2,h3,h4,_⟩:=hf i hi;obtain ⟨u0,h0,_⟩:=hf 0 (by omega);rw [Nat.zero_mul,add_zero'] at h0;have hsp:=zA h0;clear h0;obtain ⟨ab,ao,asp⟩:=a;simp only at hsp;subst hsp;rw [add_plain] at h1 h3 h4;have eg:((List.range len).map f)[i]'(by rw [hlen];exact hi)=f i:=by simp
  rw [eg];refine ⟨ab,ao,u,rfl,h1,h2,?_,?_⟩
  ·rw [show ao+i*3+1=ao+(i*3+1) by omega];exact h3
  ·rw [show ao+i*3+2=ao+(i*3+2) by omega];exact h4
end
theorem Fh (qU:BD) (H:Type) (enc:TypeId × Value->H) (W:World) (base:Nat) (args:Array Value) (ds gs:List (DataW H)) (before:List MemPlace)
  (hval0:∀ (j:Nat) t v,Tryz.f3.params[j]?=some t->args[j]?=some v->Value.okWide Tryz.prog W .any base t v)
  (hW:DataW.Whole enc Tryz.prog Tryz.f3.params.toList Rows.solvedSpec.vars false W args.toList ds gs before) (hk:Rows.uptoSmall H (ds++gs)=true) :
  Calls Tryz.prog 3 args W λe W'=>∃ v,e=.returned v∧Rows.solvedSpec.post enc Tryz.prog Tryz.f3 false true false false W args v W':=by
 have hval:∀ (j:Nat) t v,Tryz.f3.params[j]?=some t->args[j]?=some v->Value.okWide Tryz.prog W .any base t v:=hval0;have hW':=hW;obtain ⟨p,q,hA0,hV,rfl,hfz,hnd⟩:=hW;have hA:DataW.TrodAll enc Tryz.prog W 0 (λ_=>true) true Tryz.f3.params.toList args.toList ds p:=hA0;rw [Tryz.params3] at hA hval;obtain ⟨v0,vs0,d0,ds0,p0,q0,hargs,rfl,rfl,h0,r0⟩:=trodAll_cons hA;obtain ⟨v1,vs1,d1,ds1,p1,q1,rfl,rfl,rfl,h1,r1⟩:=trodAll_cons r0;obtain ⟨rfl,rfl,rfl⟩:=trodAll_nil r1;obtain rfl:args=#[v0,v1]:=by cases args;simp_all
 obtain ⟨rfl,rfl⟩:=trodVars_none hV;obtain ⟨a0,abY,cap0,rfl⟩:=okWide_slice Tryz.underlying22 (hval 0 22 v0 rfl rfl);obtain ⟨a1,abZ,iQ,rfl⟩:=okWide_slice Tryz.underlying23 (hval 1 23 v1 rfl rfl);have k0:=h0;have k1:=h1;have lt0:∀ x∈p0,x.block<W.heap.size:=by obtain ⟨m,hm⟩:=k0;exact DataW.trod_lt m _ _ _ hm
 have lt1:∀ x∈p1,x.block<W.heap.size:=by obtain ⟨m,hm⟩:=k1;exact DataW.trod_lt m _ _ _ hm
 have hbl:Rows.uptoBulkAll ([d0,d1]++[])<=1048576:=aaJ hk;simp only [abk,Rows.uptoBulkAll] at hbl;obtain ⟨l0,w0,m0⟩:∃ l,jd W (.slice a0 abY cap0) l∧l.length<=Rows.uptoBulk d0:=by
  obtain ⟨fuel,hf⟩:=h0;exact Gt hf
 obtain ⟨l1,w1,m1,m2⟩:∃ l,kP W (.slice a1 abZ iQ) l∧l.length<=Rows.uptoBulk d1∧∀ q∈l,q.1.length<=Rows.uptoBulk d1:=by
  obtain ⟨fuel,hf⟩:=h1;exact Mi hf
 clear hA0 hval0;refine (Gj qU l0 l1 _ _ W w0 w1 (by omega) (by omega) (λq hq=>by have:=m2 q hq;omega)).mono λe W' ⟨he,U5⟩=>?_;subst he;exact ⟨_,rfl,_,_,_,[],_,[],hW',trodAll_mk1 (shut_bool Tryz.underlying4 _),(trodAll_cons_mk (Below.trod uF (by kernel_rfl) (aaJ (by kernel_rfl)) k0 U5 lt0) (trodAll_cons_mk (Below.trod uF (by kernel_rfl) (aaJ (by kernel_rfl)) k1 U5 lt1) trodAll_mk0)),rfl,U5.frame _,λh=>by cases h⟩
theorem Dz (qU:BD) (os:Os) (started:os.Started) (H:Type) (enc:TypeId × Value->H) (F:Stop.Interp) :
  ReturnsInHanded {} Tryz.checked os 3 .any ((Rows.OpenSpec.upto Rows.solvedSpec).pre6 enc Tryz.prog Tryz.f3 Rows.solvedUptoRow.domain false) (((Rows.OpenSpec.upto Rows.solvedSpec).at F).post enc Tryz.prog Tryz.f3 false true false false):=by
 refine returnsInHanded_of_cond (C:=Tryz.checked) (s:=Rows.OpenSpec.upto Rows.solvedSpec) (k:=Rows.uptoSmall) rfl Jo started (by kernel_rfl) Tryz.func3
  (OpenSpec.witness (enc:=enc) (C:=Tryz.checked) (s:=Rows.OpenSpec.upto Rows.solvedSpec) (k:=Rows.uptoSmall) rfl false ⟨#[],#[.slice none 0 0,.slice none 0 0],[]⟩ 8 (by kernel_rfl) (by kernel_rfl) (by kernel_rfl)
   (x:=([.nil,.nil],[],[])) (by kernel_rfl) rfl (by kernel_rfl)) ?_
 intro W base args ds gs before hval hW _ hk _;exact Fh qU H enc W base args ds gs before hval hW hk
theorem Gu (qU:BD):Rows.solvedUptoRow.holds Tryz.pinned (Rows.OpenSpec.upto Rows.solvedSpec) :=
 OpenClaim.holds_of_cond 3 Tryz.f3 rfl rfl rfl rfl rfl rfl rfl ⟨rfl,rfl,rfl,rfl,rfl⟩ rfl rfl rfl rfl rfl (by kernel_rfl) Tryz.func3 (by kernel_rfl)
  (aaJ (by kernel_rfl)) (by unfold Func.isWrapper;first | (rw [h_ (by decide +kernel)];kernel_rfl) | (rw [g_ (by decide +kernel)];exact ⟨rfl,rfl⟩))
  (λos started H enc _ F=>Dz qU os started H enc F)
end Go.Proofs.YtgaafamcajcifaaGreat
