/- Joined: XSim7 XSim8 XSim9 XSol1. -/
import Derived.Test.YtfaljekgpnbmiaaGreatJ06
import Derived.Test.YtfaljekgpnbmiaaGreatJ21
set_option linter.unusedVariables false
set_option linter.unusedSimpArgs false
set_option maxRecDepth 100000
namespace Go.Proofs.YtfaljekgpnbmiaaGreat
open Go.RowKit Go.Sort
theorem bH.ae3 {b gl g gc:Nat} {w W wr:World} (h1:bH (mD b gl gc) w W) (h2:bH (mD b g gc) W wr) (hg:g=gl∨w.heap.size<=g):bH (mD b gl gc) w wr :=
 ⟨h2.os.trans h1.os,h2.tape.trans h1.tape,h2.output.trans h1.output,w_ h1.size h2.size,λk hk hne=>(h2.block k (abA hk h1.size) (λh=>by
  rcases h with e|e|e
  ·exact hne (.inl e)
  ·rcases hg with e2 | e2
   ·exact hne (.inr (.inl (e.trans e2)))
   ·omega
  ·exact hne (.inr (.inr e)))).trans (h1.block k hk hne)⟩
structure KA (F:Int->Nat->Int) (n:Nat) (U:List Int) (L:Nat) (s:List Int) (t:Pl.aR):Prop where
 lN:Good (mE F s) n (-1073741824::U) (L+1) t
 name:t.name L=-1073741824
 top:∀ c,c<n->t.cell L (c+1)<=0
 pt:nT t
theorem K7 {F:Int->Nat->Int} {n:Nat} {U:List Int} (h:Pl.CG F n U) (s:List Int):Pl.CG (mE F s) n U:=λD h0 h1=>h D h0 (λx hx h2=>by
 have:=h1 x hx h2;rwa [fT (by omega)] at this)
theorem sF {P:Nat->Prop} {w w':World} {b gl gc g:Nat} {t:Pl.aR} (h:aV P w b gl gc t) (ht:bH (mD b gl gc) w w') {cs:Array Value} {T:TypeId} (hg:w.heap[g]?=some (.cells cs T (0,0))) (h1:T≠322) (h2:T≠324) (h3:T≠3):w'.heap[g]?=some (.cells cs T (0,0)):=by
 obtain ⟨⟨fG,jq,sx,sa,sm,sc,e1,_,cl,e3,_⟩,⟨cc,e8,_⟩,_⟩:=h;rw [ht.block g (z_ hg) (λh=>?_)];exact hg;rcases h with e|e|e
 ·rw [e,e1] at hg;cases hg;exact h1 rfl
 ·rw [e,e3] at hg;cases hg;exact h2 rfl
 ·rw [e,e8] at hg;cases hg;exact h3 rfl
theorem Ud {P:Nat->Prop} {w:World} {b gl gc:Nat} {t:Pl.aR} (h:aV P w b gl gc t) {N fG:Nat} (hc:w.cell? ⟨b,0,none⟩=some (.slice (some ⟨gl,0,none⟩) N fG)):t.lines.length<=fG:=by
 obtain ⟨sj,xs,k1,_,hle,_⟩:=h.owns;rw [k1] at hc;simp at hc;omega
section
section
section
attribute [local go_sem] bE
set_option maxHeartbeats 20000000 in
theorem Ay (P:Nat->Prop) (K b gl gc:Nat) (F:Int->Nat->Int) (n:Nat) (U:List Int) (L:Nat) (t:Pl.aR) (s:List Int) (vs:Value) (w:World) (hP:∀ b,w.heap.size<=b->P b) (h:aV P w b gl gc t) (hs:aD P w vs s) (hgood:Good F n U L t) (hpt:nT t) (hF:xz F n U) (hn:n<=100) (hL:L<=900) (hlen:s.length=n+1) (hsl:∀ k,Pl.Lt K (s.getD k 0)) (hlt:qi K t)
  (hall:∀ t',Fair (mE F s) n (-1073741824::U) (L+1) 0 t'->qi K t') (hK:2*K+1<=1500000000000) (hT:Pl.CG F n U) :
  Calls Tryz.prog 271 #[.pointer (some ⟨b,0,none⟩),vs] w λe w'=>∃ (v':Value) (yS:Nat) (t2:Pl.aR),e=.returned v'∧aV P w' b yS gc t2.cut∧(yS=gl∨w.heap.size<=yS)∧bH (mD b gl gc) w w'∧aj P w' v' (Int.fdiv (t2.cell L 0) t2.scale)∧KA F n U L s t2:=by
 obtain ⟨i0,hi0,hz0,hz1,hz2⟩:=V_ Tryz.zo;have HAD:=af (Rp hgood hF hn hlen);have HPA:Hid (nT (t.add (-1073741824) ((List.range (n+1)).map (iq t s L)))):=λk hk h0=>by
  rw [Pl.kP] at hk;rcases (show k<t.lines.length∨k=t.lines.length by omega) with h1|h1
  ·rw [oF t _ _ h1] at h0;have:=hpt k h1 h0;unfold Pl.aR.cell at *
   rw [Pl.De t _ _ h1];exact this
  ·rw [h1,gP] at h0;omega
 obtain ⟨Q,hQ⟩:∃ Q:Nat->Prop,Q=λk=>P k∧k≠w.heap.size:=⟨_,rfl⟩;have Sa:∀ k,Q k->P k:=λk hk=>by rw [hQ] at hk;exact hk.1
 have Xq:∀ k,k<w.heap.size->P k->Q k:=λk hk hp=>by rw [hQ];exact ⟨hp,by omega⟩
 have hQ3:¬ Q w.heap.size:=λhk=>by rw [hQ] at hk;exact hk.2 rfl
 have Yf:∀ b,(w.alloc (.cells #[.int .i64 0,.slice none 0 0] 168)).heap.size<=b->Q b:=λb' hb'=>by rw [H_] at hb';rw [hQ];exact ⟨hP b' (by omega),by omega⟩
 have hT0:=h.mono (P':=Q) Xq (λh'=>h.notP (Sa _ h'));have hS0:=hs.mono (P':=Q) Xq;have hWa:ae w (w.alloc (.cells #[.int .i64 0,.slice none 0 0] 168)):=ae.alloc _ _;have Pb:=af (AU Q K b t s vs (w.alloc (.cells #[.int .i64 0,.slice none 0 0] 168)) Yf (hT0.grow hWa).wX (hS0.below hWa) (hgood.fit hn (by omega)) hlt hsl hK (by rw [hgood.ok.aS];exact hlen) (λr hr=>by have:=hF.small _ (hgood.BC (r:=r) (by rw [<-hgood.len];exact hr));omega));have HT:=af (hT0.grow hWa);have HNP:=af h.notP;have Mh:=af hgood;have X4:=af hF;have HA:=af hall;have N9:=af hT;rw [hgood.ok.aS,hgood.len] at Pb;obtain ⟨fG,jq,k0,_⟩:=(h.grow hWa).cells;rw [hgood.len] at k0;obtain ⟨sa0,sn0,sc0,rfl⟩:=hs.aB;have hbw:b<w.heap.size:=h.lt.1;have HZ0:Hid ((w.alloc (.cells #[.int .i64 0,.slice none 0 0] 168)).heap[w.heap.size]?=some (.cells #[.int .i64 0,.slice none 0 0] 168 (0,0))):=aG w (.cells #[.int .i64 0,.slice none 0 0] 168);have HQ:=af (x_ Sa hQ3);have Qo:=af Yf;clear h hs hgood hpt hF hall hlt hT hWa hQ Sa Xq hQ3 Yf hT0 hS0;go_enter Tryz.func271,Tryz.ntmps271;go_wp2_with fail;refine (uh Pb).mono ?_;rintro e w1 ⟨v1,rfl,hv1,hw1⟩;obtain ⟨ea,en,ec,rfl⟩:=hv1.aB;have wR:=af hv1;have Rq:Hid (ae (w.alloc (.cells #[.int .i64 0,.slice none 0 0] 168)) w1):=hw1;have HZ1:Hid (w1.heap[w.heap.size]?=some (.cells #[.int .i64 0,.slice none 0 0] 168 (0,0))):=Below.same hw1 _ _ (uh HZ0);have jw:=af ((uh HT).grow (uh Rq));obtain ⟨ai2,xs,k1,hown,hlc,hxs⟩:=(uh jw).owns;have hlL:=(uh Mh).len;rw [hlL] at k1;have HXS:=af hxs;have Qu:Hid (xs.length=t.lines.length*2):=hown.1;have HOWN:=af (λo=>(hown.alloc o));have Js:=af hlL;rw [hlL] at HOWN;clear hv1 hw1 hown hxs Pb k0 hlL;go_wp2_with (at_builtin;refine aau _ rfl _ _ 320 rfl 0 324 i0 (.agg #[.int .i64 0,.slice none 0 0]) 2 32 Tryz.underlying320 hi0 hz0 hz1 hz2 rfl (by decide) _ L xs rfl (uh HOWN _) ⟨_,0,none⟩ 1 1 [.int .i64 (-1073741824),.slice ea en ec] rfl rfl ?d1 (by simp [Value.oneCell']) (by decide) ?d2 ?d3 ?d4 _ rfl ?_)
 case d1=>exact λj u hu=>aav (aay _ _) j u hu
 case d2=>unfold maxLen;omega
 case d3=>omega
 case d4=>exact abo _
 ·intro g cap w2 hown1 hgrow hat hlt2;rw [<-uh Js] at hown1;have hadd:=Ub (uh jw) (ae.alloc w1 _) (uh HXS) (uh Qu) (uh wR) hown1 hgrow (by rcases hat with e | e;exact .inl e;exact .inr (by rw [e,H_]))
  rw [uh Js] at hadd;obtain ⟨⟨hA1,hA2,hA3⟩,⟨u0,hA4⟩,hA5⟩:=hadd;have iV:=af hA1;have HT2:=af ((bH.dh (uh Rq)).trans hA2);have HG2:Hid (g=gl∨(w.alloc (.cells #[.int .i64 0,.slice none 0 0] 168)).heap.size<=g):=by
   rcases hA3 with e|e
   ·exact .inl e
   ·exact .inr (w_ (uh Rq).size e)
  have HZ2:=af (sF (uh jw) hA2 (uh HZ1) (by decide) (by decide) (by decide));clear hown1 hgrow hat hlt2 hA1 hA2 hA3 HOWN HXS Qu wR HZ1 jw;go_wp2_with fail;generalize hW2:w2.setCell ⟨b,0,none⟩ (.slice (some ⟨g,0,none⟩) (L+1) cap)=W2 at *
  clear hW2 hA4 hA5 k1 w2;go_loopg [] ((-1073741824::U).length^n) (λk wr=>∃ (t':Pl.aR) (st:Nat),st+k=(-1073741824::U).length^n∧Hid (aV Q wr b g gc t'∧bH (mD b g gc) W2 wr∧Pl.AX (mE F s) n (-1073741824::U) L (t.add (-1073741824) ((List.range (n+1)).map (iq t s L))) t' st∧Good (mE F s) n (-1073741824::U) (L+1) t'))
  case atStart=>exact ⟨_,0,by omega,uh iV,bH.refl _ _,.start (uh HAD).ok (uh HAD).names (uh HAD).stat (by rw [(uh HAD).len];omega) (by rw [<-uh Js,gP];decide) (uh HPA),uh HAD⟩
  case round =>
   obtain ⟨t',st,hsk,HR⟩:=hrel;have HF:=af ((uh HR).2.2.2.fit hn (by omega));have D9:=af (x_ (uh HR).2.2.2.len (uh HR).2.2.2.ok.aS);have hLl:L<t'.lines.length:=by rw [(uh D9).1];omega
   have vR:=af (uh HR).2.2.1.last;have Yg:Hid (bH (mD b gl gc) (w.alloc (.cells #[.int .i64 0,.slice none 0 0] 168)) wr):=(uh HT2).ae3 (uh HR).2.1 (uh HG2);go_wp2_with fail;refine (oI Q b t' wr (uh HR).1.wX (uh HF).lines (uh HF).le (uh HF).aS hLl ((uh HF).row hLl)).mono ?_;rintro e w1 ⟨c,rfl,mW,hw1⟩;have dP:Hid (ae wr w1):=hw1;clear hw1;rcases mW with ⟨rfl,hno⟩|⟨c,hc,rfl,huc,kC⟩
   ·have Xr:Hid (KA F n U L s t'):=⟨(uh HR).2.2.2,by rw [(uh vR).2.2.2.2.2.2.2,<-uh Js,gP],λk hk=>by
     have h1:=hno k (by rw [(uh D9).2];exact hk);have h2:=(uh HR).2.2.2.aS k hk;rcases (show 0<t'.cell L (k+1)∨t'.cell L (k+1)<=0 by omega) with h3|h3
     ·exact absurd ⟨h2,h3⟩ h1
     ·exact h3,(uh vR).2.2.2.2.2.2.1⟩
    clear hno;have jw:=af ((uh HR).1.grow (uh dP));have Yg:=af ((uh Yg).grow (uh dP));have HC:=af (λwq (hg:ae w1 wq)=>jR Q b t' wq ((uh jw).grow hg).wX (uh HF).lines (uh HF).le hLl (j:=0) (by rw [(uh HF).row hLl];omega));obtain ⟨sj,U2,k0,k1,kf,Ik,Je,kl,xN,sx,sa,sm,sc,k2,k3,hsc⟩:=(uh jw).cells;have U0:=af hsc;rw [(uh D9).1] at k0;have hlc:L+1<=sj:=by have:=Ud (uh jw) k0;rw [(uh D9).1] at this;exact this
    have ame:sj≠0:=by omega
    have HZ3:=af (sF (uh iV) ((uh HR).2.1.grow (uh dP)) (uh HZ2) (by decide) (by decide) (by decide));clear kf Ik Je kl xN k1 hsc;have y1:=b_ k2;have y2:=b_ k3;go_wp2_with fail;refine ah (cK [(45,λv w=>aj Q w v (t'.cell L 0)),(50,λv w=>aj Q w v (Int.fdiv (t'.cell L 0) t'.scale)),(9,bn w1)]) (gL [(45,ag),(50,ag),(9,bM)]) 61 9 (by kernel_rfl) (by rfl) (by kernel_rfl) (aN (λ_ _ _=>aj.below) (aN (λ_ _ _=>aj.below) (aN (λ_ _ _=>bn.grow) cO))) ?_
    iterate 2 (refine aO λK hK=>?_;go_simp;refine hK _ ?_;clear hK K)
    refine ai ag 340 #[.pointer (some ⟨b,0,none⟩),.int .i64 L,.int .i64 0] (by rfl) (by rfl) ag.some (λw=>by go_simp) (λwq hg hf=>(uh HC wq hg).mono (by rintro e w' ⟨v',rfl,hv,hb⟩;exact ⟨_,rfl,hb,hv.aU,λt ht=>by cases ht;exact hv⟩)) ?_;rintro _ ⟨cx,ca,cm,cc,rfl⟩
    iterate 4 (refine aO λK hK=>?_;go_simp;refine hK _ ?_;clear hK K)
    refine ai ag 224 #[.agg #[.int .i64 cx,.slice ca cm cc],.agg #[.int .i64 sx,.slice sa sm sc]] (by rfl) (by rfl) ag.some (λw=>by go_simp) (λwq hg hf=>(lD Q K (t'.cell L 0) t'.scale _ _ wq (λb' hb'=>uh Qo b' (w_ (bH.grow (uh Yg) hg).size hb')) (hf 2 (by kernel_rfl) _ 45 rfl rfl) ((uh U0).below hg) (by omega) ((uh HA _ (uh HR).2.2.2.fair).cell L 0 (by rw [(uh HR).2.2.2.len];omega) (by omega)) (uh HA _ (uh HR).2.2.2.fair).scale).mono (by rintro e w' ⟨v',rfl,hv,hb⟩;exact ⟨_,rfl,hb,hv.aU,λt ht=>by cases ht;exact hv⟩)) ?_;rintro _ ⟨dx,da,dm,dc,rfl⟩;refine eT bM (by rfl) (by rfl) bM.some (λwq hg hf=>⟨.pointer (some ⟨wq.heap.size,0,none⟩),wq.alloc (.cells #[.int .i64 0,.slice none 0 0] 168),by go_simp,ae.alloc _ _,⟨_,rfl⟩,λt ht=>by cases ht;exact bn.new hg⟩) ?_;rintro _ ⟨g9,rfl⟩;refine aF ?_;intro w2 hg2 aK;have Xj:aj Q w2 (.agg #[.int .i64 dx,.slice da dm dc]) (Int.fdiv (t'.cell L 0) t'.scale):=aK 7 _ 50 (by decide) rfl rfl;have q9:bn w1 (.pointer (some ⟨g9,0,none⟩)) w2:=aK 8 _ 9 (by decide) rfl rfl;clear aK y1 y2;have hge:=q9.own.1;have hblk:=q9.own.2;have s0:=(au hblk).1;have s1:=(au hblk).2.1;have s2:=(au hblk).2.2.1;have s3:=(au hblk).2.2.2;have Pe:=af (bI hg2 hge hblk Xj).1;have Ue:Hid (ae w1 ((w2.setCell ⟨g9,0,none⟩ (.int .i64 dx)).setCell ⟨g9,1,none⟩ (.slice da dm dc))):=(bI hg2 hge hblk Xj).2;have iV:=af ((uh jw).grow (uh Ue));have hc2:=ae.cell (uh Ue) k0;have hf2:=(vD (uh iV) 0).2.2;have HZ4:=af (Below.same (uh Ue) _ _ (uh HZ3));have z0:=(au (uh HZ4)).1;have z1:=(au (uh HZ4)).2.1;have z2:=(au (uh HZ4)).2.2.1;have z3:=(au (uh HZ4)).2.2.2;have n1:g9≠b:=by have:=(uh jw).lt.1;omega
    have n2:b≠g9:=abf n1;have n3:w.heap.size≠b:=by omega
    have n4:b≠w.heap.size:=by omega
    have n5:g9≠w.heap.size:=by have:=z_ (uh HZ3);omega
    have n6:w.heap.size≠g9:=abf n5;have Uv:=(uh Pe).cells.1;have va1:=(uh Pe).cells.2.1;clear Xj hge hblk hg2 q9;go_wp2_with fail;have hgn:g≠w.heap.size:=λe=>by
     obtain ⟨cs,hcs⟩:=nH (uh jw);have h2:=uh HZ3;rw [<-e,hcs] at h2;simp at h2
    have oJ:=af (Uc (uh iV) (uh D9).1 (by rw [(uh D9).1];exact hc2));have ae5:gc≠w.heap.size:=by
     have:=(uh jw).lt;have h2:=uh HZ3;intro e;obtain ⟨cs,hcs⟩:=Ij (uh jw);rw [<-e,hcs] at h2;simp at h2
    have DV:Hid (aj Q (((w2.setCell ⟨g9,0,none⟩ (.int .i64 dx)).setCell ⟨g9,1,none⟩ (.slice da dm dc)).setCell ⟨b,0,none⟩ (.slice (some ⟨g,0,none⟩) L sj)) (.agg #[.int .i64 dx,.slice da dm dc]) (Int.fdiv (t'.cell L 0) t'.scale)):=by
     obtain ⟨⟨ai4,ai5,sxx,sax,smx,scx,hx1,_⟩,_⟩:=uh iV;exact (uh Pe).val.qp (bR hx1 (by decide) (λe=>absurd e (by decide)) _ _).xL
    have NS:Hid (bH (mD b gl gc) w (((w2.setCell ⟨g9,0,none⟩ (.int .i64 dx)).setCell ⟨g9,1,none⟩ (.slice da dm dc)).setCell ⟨b,0,none⟩ (.slice (some ⟨g,0,none⟩) L sj))):=(bH.dh (ae.alloc w (.cells #[.int .i64 0,.slice none 0 0] 168))).trans (((uh Yg).grow (uh Ue)).setCell (.inl rfl) _ _);have z8:Hid ((((w2.setCell ⟨g9,0,none⟩ (.int .i64 dx)).setCell ⟨g9,1,none⟩ (.slice da dm dc)).setCell ⟨b,0,none⟩ (.slice (some ⟨g,0,none⟩) L sj)).heap[w.heap.size]?=some (.cells #[.int .i64 0,.slice none 0 0] 168 (0,0))):=by
     unfold Hid;rw [l_ _ _ _ _ n3];exact uh HZ4
    generalize ((w2.setCell ⟨g9,0,none⟩ (.int .i64 dx)).setCell ⟨g9,1,none⟩ (.slice da dm dc)).setCell ⟨b,0,none⟩ (.slice (some ⟨g,0,none⟩) L sj)=Wd at *
    have hho:Holds Q Wd ((Wd.setCell ⟨w.heap.size,0,none⟩ (.int .i64 dx)).setCell ⟨w.heap.size,1,none⟩ (.slice da dm dc)):=(fA (uh HQ).2 _ _).trans (fA (uh HQ).2 _ _);obtain ⟨LX,z1',z2',z3'⟩:=au (uh z8);refine t_ (v:=.agg #[.int .i64 dx,.slice da dm dc]) (by simp [results,Tryz.results271,go_sem,LX,z1']) rfl ⟨_,g,t',rfl,?_,?_,?_,?_,uh Xr⟩
    ·exact ((uh oJ).holds hho (jP n4 _ _) (jP hgn _ _) (jP ae5 _ _)).mono (λk _ hk=>(uh HQ).1 k hk) (uh HNP)
    ·rcases uh HG2 with e | e
     ·exact .inl e
     ·exact .inr (w_ (ae.alloc w (.cells #[.int .i64 0,.slice none 0 0] 168)).size e)
    ·exact ((uh NS).zU (d_ _) _ _).zU (d_ _) _ _
    ·exact ((uh DV).qp hho.xL).mono (λk _ hk=>(uh HQ).1 k hk)
   ·have hc0:¬ ((c:Int)<0):=by omega
    have hcn:c<n:=by rw [<-(uh D9).2];exact hc
    have HUC:=af huc;have ae6:=af kC;clear huc kC;go_wp2_with fail;refine (Bd Q K b t' w1 (λb' hb'=>uh Qo b' (w_ ((uh Yg).grow (uh dP)).size hb')) ((uh HR).1.grow (uh dP)).wX (uh HF) (uh HA _ (uh HR).2.2.2.fair) hK hc).mono ?_;rintro e w2 ⟨x,rfl,mW,hw2⟩;have Xt:Hid (ae wr w2):=ae.trans (uh dP) hw2;clear hw2;rcases mW with ⟨rfl,hno⟩|⟨r,hr,rfl,hur,kC⟩
    ·exact (Pl.IQ (U:=U) (uh HR).2.2.2.ok hcn (λx hx _=>(uh HR).2.2.2.stat.all _ (abl _ hx)) (λk hk hnn=>by
      have h1:=hno k hk;rcases (show t'.cell k (c+1)<0∨0<=t'.cell k (c+1) by omega) with h2|h2
      ·exact absurd ⟨hnn,h2⟩ h1
      ·exact h2) (K7 (uh N9) s)).elim
    ·have hr0:¬ ((r:Int)<0):=by omega
     have SF:=af ((uh HR).2.2.1.snoc hr hcn hur.1 hur.2 (λk hk h1 h2=>kC k hk ⟨h1,h2⟩) (uh HUC).1 (uh HUC).2 (λk hk h1 h2=>uh ae6 k (by rw [(uh D9).2];exact hk) ⟨h1,h2⟩));have Xl:Hid (Good (mE F s) n (-1073741824::U) (L+1) (t'.swap r c)):=⟨(uh SF).last.1,(uh SF).last.2.1,(uh SF).last.2.2.1,sD (uh D9).2 (uh HR).2.2.2.aS hcn hur.1,by rw [Pl.aR.iI];exact (uh D9).1⟩;have hs1:=(uh SF).last.2.2.2.1;have hne:t'.cell r (c+1)≠0:=by have:=hur.2;omega
     have HSW:=af (CU Q K b g gc t' w2 (λb' hb'=>uh Qo b' (w_ ((uh Yg).grow (uh Xt)).size hb')) ((uh HR).1.grow (uh Xt)) (uh HF) (uh HA _ (uh HR).2.2.2.fair) hK hr hc hne);clear hur kC hne;go_wp2_with fail;refine (uh HSW).mono ?_;rintro e w3 ⟨rfl,hO3,Mi⟩;have oJ:=af hO3;have HT3:=af (((uh HR).2.1.grow (uh Xt)).trans Mi);clear hO3 Mi;go_wp2;go_roundg (gk - 1)
     case measure=>omega
     case rel=>exact ⟨t'.swap r c,st+1,by omega,uh oJ,uh HT3,uh SF,uh Xl⟩
end
theorem Dc (s:List Int) (k:Nat):(s.map (λx=>-x)).getD k 0=-s.getD k 0:=by
 rw [a_,a_,aas];cases s[k]? <;> simp
theorem Aa (s:List Int) (n:Nat) (h:s.length=n):(List.range n).map (λk=>-s.getD k 0)=s.map (λx=>-x):=by
 apply abU
 ·simp [h]
 ·intro i h1 h2;have h3:i<s.length:=by simpa using h2
  simp [a_,f_ h3]
set_option maxHeartbeats 20000000 in
theorem KC (P:Nat->Prop) (K b gl gc:Nat) (F:Int->Nat->Int) (n:Nat) (U:List Int) (L:Nat) (t:Pl.aR) (s:List Int) (vs:Value) (w:World) (hP:∀ b,w.heap.size<=b->P b) (h:aV P w b gl gc t) (hs:aD P w vs s) (hgood:Good F n U L t) (hpt:nT t) (hF:xz F n U) (hn:n<=100) (hL:L<=900) (hlen:s.length=n+1) (hsl:∀ k,Pl.Lt K (s.getD k 0)) (hlt:qi K t)
  (hall:∀ t',Fair (mE F (s.map λx=>-x)) n (-1073741824::U) (L+1) 0 t'->qi K t') (hK:2*K+1<=1500000000000) (hT:Pl.CG F n U) :
  Calls Tryz.prog 221 #[.pointer (some ⟨b,0,none⟩),vs] w λe w'=>∃ (v':Value) (yS:Nat) (t2:Pl.aR),e=.returned v'∧aV P w' b yS gc t2.cut∧(yS=gl∨w.heap.size<=yS)∧bH (mD b gl gc) w w'∧aj P w' v' (-Int.fdiv (t2.cell L 0) t2.scale)∧KA F n U L (s.map λx=>-x) t2:=by
 obtain ⟨i0,hi0,hz0,hz1,hz2⟩:=V_ Tryz.dR;obtain ⟨Q,hQ⟩:∃ Q:Nat->Prop,Q=λk=>P k∧k≠w.heap.size:=⟨_,rfl⟩;have Sa:∀ k,Q k->P k:=λk hk=>by rw [hQ] at hk;exact hk.1
 have Xq:∀ k,k<w.heap.size->P k->Q k:=λk hk hp=>by rw [hQ];exact ⟨hp,by omega⟩
 have hQ3:¬ Q w.heap.size:=λhk=>by rw [hQ] at hk;exact hk.2 rfl
 have Yf:∀ b,w.heap.size+1<=b->Q b:=λb' hb'=>by rw [hQ];exact ⟨hP b' (by omega),by omega⟩
 obtain ⟨gs,os,Xk,scs,rfl,TZ,hsc⟩:=(hs.mono (P':=Q) Xq).get (by omega);have Ow:=af hsc;have HT:=af (h.mono (P':=Q) Xq (λh'=>h.notP (Sa _ h')));have HNP:=af h.notP;have HQ:=af (x_ Sa (x_ hQ3 Yf));have HC:=af (x_ hgood (x_ hpt (x_ hF (x_ hlt (x_ hall hT)))));have Rf:=af hsl;have HLEN:=af hlen;have hbw:b<w.heap.size:=h.lt.1;have ae7:gc<w.heap.size:=h.lt.2.2.1;have hZ0:=aG w (.cells #[.int .i64 0,.slice none 0 0] 168);have hGa:ae w (w.alloc (.cells #[.int .i64 0,.slice none 0 0] 168)):=ae.alloc _ _;have hsa:(w.alloc (.cells #[.int .i64 0,.slice none 0 0] 168)).heap.size=w.heap.size+1:=H_ _ _;have HW:=af (x_ hZ0 (x_ hGa hsa));rw [hlen];clear h hs hgood hpt hF hall hlt hT hsc hsl hlen hQ Sa Xq hQ3 Yf hZ0 hGa hsa;go_enter Tryz.func221,Tryz.ntmps221;go_wp2_with (at_make;refine O_ _ rfl _ _ 159 rfl (w.heap.size+1) 168 i0 (.agg #[.int .i64 0,.slice none 0 0]) 2 Tryz.underlying159 hi0 hz0 hz1 .i64 .i64 _ _ (n+1) rfl rfl ?e1 ?e2 ?c1 ?c2 ?c3 ?_)
 case e1=>first | rfl | omega | simp
 case e2=>first | rfl | omega | simp
 case c1=>rw [hz2];omega
 case c2=>unfold maxLen;omega
 case c3=>first | omega | simp
 ·intro w1 hown hgrow;have hb1:ae w w1:=(uh HW).2.1.trans ((n_ _ _).grown hgrow (d_ _) (by intro k hk;cases hk));have uC:Hid (bA Q w1 (w.heap.size+1) (n+1) (λ_=>0)):=bA.made hown;have HZ1:Hid (w1.heap[w.heap.size]?=some (.cells #[.int .i64 0,.slice none 0 0] 168 (0,0))):=(hgrow.block w.heap.size (by rw [(uh HW).2.2];omega) (by intro h;cases h)).trans (uh HW).1;have dP:Hid (ae w w1):=hb1;clear hown hgrow hb1 HW;generalize hN:n+1=N at *
  go_wp2_with fail;go_loopg [6] N (λk iv wr=>∃ (i:Nat),iv=.int .i64 i∧i+k=N∧Hid (bA Q wr (w.heap.size+1) N (λk=>if k<i then -s.getD k 0 else 0)∧ae w wr∧wr.heap[w.heap.size]?=some (.cells #[.int .i64 0,.slice none 0 0] 168 (0,0))))
  case atStart=>exact ⟨0,rfl,by omega,(uh uC).congr (λi _=>by rw [g_ (by omega)]),uh dP,uh HZ1⟩
  case round =>
   obtain ⟨i,rfl,hik,HR⟩:=hrel;by_cases hlt:i<N
   ·obtain ⟨zx,za,zm,zc,z0,z1,hz⟩:=uh Ow i (by rw [uh HLEN];exact hlt);have z0:=(uh HR).2.1.cell z0;have z1:=(uh HR).2.1.cell z1;have HZ:Hid (aj Q wr (.agg #[.int .i64 zx,.slice za zm zc]) (s.getD i 0)):=by
     unfold Hid;rw [a_,f_ (by rw [uh HLEN];exact hlt)];exact hz.below (uh HR).2.1
    clear hz;go_wp2_with fail;refine (lH Q _ _ _ (uh HZ)).mono ?_;rintro e w2 ⟨v2,rfl,hv2,hw2⟩;obtain ⟨nx,na,nm,nc,rfl⟩:=hv2.shape;have hR2:=(uh HR).1.grow hw2;obtain ⟨ox,oa,om,oc,r0,r1,_,f0,f1⟩:=hR2.get hlt;have uK:Hid (bA Q ((w2.setCell ⟨w.heap.size+1,i*2,none⟩ (.int .i64 nx)).setCell ⟨w.heap.size+1,i*2+1,none⟩ (.slice na nm nc)) (w.heap.size+1) N (λk=>if k<i+1 then -s.getD k 0 else 0)):=(hR2.set hlt hv2).congr (λk _=>by
     unfold ql;by_cases h:k=i
     ·subst h;rw [h_ rfl,h_ (by omega)]
     ·rw [g_ h]
      dsimp only
      by_cases h2:k<i
      ·rw [h_ h2,h_ (by omega)]
      ·rw [g_ h2,g_ (by omega)])
    have HG2:Hid (ae w ((w2.setCell ⟨w.heap.size+1,i*2,none⟩ (.int .i64 nx)).setCell ⟨w.heap.size+1,i*2+1,none⟩ (.slice na nm nc))):=(B_ (p:=⟨w.heap.size+1,i*2,none⟩) (ae.trans (uh HR).2.1 hw2) (by show w.heap.size<=w.heap.size+1;omega) _).setCell (p:=⟨w.heap.size+1,i*2+1,none⟩) (by show w.heap.size<=w.heap.size+1;omega) _;have HZ2:Hid (((w2.setCell ⟨w.heap.size+1,i*2,none⟩ (.int .i64 nx)).setCell ⟨w.heap.size+1,i*2+1,none⟩ (.slice na nm nc)).heap[w.heap.size]?=some (.cells #[.int .i64 0,.slice none 0 0] 168 (0,0))):=by
     unfold Hid;rw [l_ _ _ _ _ (show w.heap.size≠w.heap.size+1 by omega),l_ _ _ _ _ (show w.heap.size≠w.heap.size+1 by omega)];exact Below.same hw2 _ _ (uh HR).2.2
    clear hv2 hw2 hR2;go_wp2;go_roundg (gk - 1)
    case measure=>omega
    case rel=>exact ⟨i+1,by simp,by omega,uh uK,uh HG2,uh HZ2⟩
   ·have hiN:i=N:=by omega
    obtain ⟨c1,c2,c3,c4,c5,c6⟩:=uh HC;have hrow:=((uh HR).1.congr (f':=λk=>-s.getD k 0) (λk hk=>by rw [h_ (by omega)])).row ((uh HQ).2.2 _ (d_ _));rw [Aa s N (uh HLEN)] at hrow;have DN:=af (Ay Q K b gl gc F n U L t (s.map λx=>-x) _ wr (λb' hb'=>(uh HQ).2.2 b' (by have:=(uh HR).1.lt;omega)) ((uh HT).grow (uh HR).2.1) hrow c1 c2 c3 hn hL (by rw [L_,uh HLEN,hN]) (λk=>by rw [Dc];exact (uh Rf k).neg) c4 c5 hK c6);clear c1 c2 c3 c4 c5 c6 hrow;go_wp2_with fail;refine (uh DN).mono ?_;rintro e w2 ⟨v2,gl2,t2,rfl,hO,hg,hTn,hv2,htop⟩;obtain ⟨nx,na,nm,nc,rfl⟩:=hv2.shape;have HO:=af hO;have HZ2:=af (sF ((uh HT).grow (uh HR).2.1) hTn (uh HR).2.2 (by decide) (by decide) (by decide));have HTN:=af hTn;have Xr:=af htop;have HGL:=af hg;have HV:=af (dD hv2);have HN:=af (lH Q _ _ _ (dD hv2).val);have hw2:w.heap.size<w2.heap.size:=z_ (uh HZ2);clear hO hTn htop hv2 DN hg;have v0:=(uh HV).cells.1;have v1:=(uh HV).cells.2.1;go_wp2_with fail;refine (uh HN).mono ?_;rintro e w3 ⟨v3,rfl,hv3,hw3⟩;obtain ⟨rx,ra,rm,rc,rfl⟩:=hv3.shape;have hG3:ae w2 w3:=ae.trans (ae.alloc _ _) hw3;have HZ3:=af (Below.same hG3 _ _ (uh HZ2));have oJ:=af ((uh HO).grow hG3);obtain ⟨LX,z1',z2',z3'⟩:=au (uh HZ3);have HT3:Hid (bH (mD b gl gc) w w3):=((bH.dh (uh HR).2.1).trans (uh HTN)).grow hG3;have wU:=af hv3;have hgn:gl2≠w.heap.size:=λe=>by
     obtain ⟨cs,hcs⟩:=nH (uh oJ);have h2:=uh HZ3;rw [<-e,hcs] at h2;simp at h2
    have hho:Hid (Holds Q w3 ((w3.setCell ⟨w.heap.size,0,none⟩ (.int .i64 rx)).setCell ⟨w.heap.size,1,none⟩ (.slice ra rm rc))):=(fA (uh HQ).2.1 _ _).trans (fA (uh HQ).2.1 _ _);clear hv3 hw3 hG3 HN HV;go_wp2;refine t_ (v:=.agg #[.int .i64 rx,.slice ra rm rc]) (by simp [results,Tryz.results221,go_sem,LX,z1']) rfl ⟨_,gl2,t2,rfl,?_,?_,?_,?_,uh Xr⟩
    ·exact ((uh oJ).holds (uh hho) (jP (by omega) _ _) (jP hgn _ _) (jP (by omega) _ _)).mono (λk _ hk=>(uh HQ).1 k hk) (uh HNP)
    ·rcases uh HGL with e | e
     ·exact .inl e
     ·exact .inr (w_ (uh HR).2.1.size e)
    ·exact ((uh HT3).zU (d_ _) _ _).zU (d_ _) _ _
    ·exact ((uh wU).qp (uh hho).xL).mono (λk _ hk=>(uh HQ).1 k hk)
end
structure F8 (P:Nat->Prop) (w:World) (xs:List Value) (ls:List (Int × List Int)):Prop where
 len:xs.length=ls.length*2
 at_:∀ i,(hi:i<ls.length)->∃ u,xs[i*2]?=some (.int .i64 ls[i].1)∧xs[i*2+1]?=some u∧aD P w u ls[i].2
theorem F8.snoc {P:Nat->Prop} {w:World} {xs:List Value} {ls:List (Int × List Int)} (h:F8 P w xs ls) {x:Int} {u:Value} {row:List Int} (hu:aD P w u row):F8 P w (xs++[.int .i64 x,u]) (ls++[(x,row)]):=by
 refine ⟨by simp [h.len];omega,λi hi=>?_⟩;by_cases hl:i<ls.length
 ·obtain ⟨u',h1,h2,h3⟩:=h.at_ i hl;refine ⟨u',?_,?_,?_⟩
  ·rw [aam (by rw [h.len];omega),abB hl];exact h1
  ·rw [aam (by rw [h.len];omega)];exact h2
  ·rw [abB hl];exact h3
 ·have e:i=ls.length:=by simp at hi;omega
  subst e;refine ⟨u,?_,?_,?_⟩
  ·rw [S_ (by rw [h.len];omega),h.len];simp
  ·rw [S_ (by rw [h.len];omega),h.len];simp
  ·simpa using hu
set_option maxHeartbeats 4000000 in
theorem Rs (P:Nat->Prop) (b gl gc:Nat) (t:Pl.aR) (x:Int) (w:World) (h:aV P w b gl gc t) (hlen:t.lines.length<=1000) (hne:∃ r,r<t.lines.length∧t.name r≠x) :
  Calls Tryz.prog 270 #[.pointer (some ⟨b,0,none⟩),.int .i64 x] w λe w'=>∃ yS:Nat,e=.returned (.tuple #[])∧aV P w' b yS gc (t.drop x)∧w.heap.size<=yS∧bH (mD b gl gc) w w':=by
 obtain ⟨i0,hi0,hz0,hz1,hz2⟩:=V_ Tryz.zo;have HT:=af h;have XT:=af hne;obtain ⟨fG,jq,k0,k1,kf,Ik,Je,kl,xN,_⟩:=h.cells;have hf0:=kf 0;have Wz:=af kl;clear h hne kf Ik Je kl xN k1;go_enter Tryz.func270,Tryz.ntmps270;go_wp2_with fail;go_loopg [4,5] t.lines.length (λk vl rv wr=>∃ (r:Nat) (xs:List Value) (la:Option Addr) (ln lc:Nat),rv=.int .i64 r∧vl=.slice la ln lc∧r+k=t.lines.length∧Hid (wr.ownsRow w.heap.size 324 2 (.slice la ln lc) ((t.lines.take r).filter (λl=>l.1 != x)).length xs∧F8 P w xs ((t.lines.take r).filter (λl=>l.1 != x))∧ae w wr))
 case atStart=>exact ⟨0,[],none,0,0,rfl,rfl,by omega,⟨rfl,.inl ⟨rfl,rfl⟩⟩,⟨rfl,λi hi=>by simp at hi⟩,ae.refl _⟩
 case round =>
  obtain ⟨r,xs,la,ln,lc,rfl,rfl,hrk,HR⟩:=hrel;have Xm:=(uh HR).2.2.cell k0;by_cases hlt:r<t.lines.length
  ·obtain ⟨kn,u,ku,hu⟩:=uh Wz r hlt;have kn:=(uh HR).2.2.cell kn;have ku:=(uh HR).2.2.cell ku;obtain ⟨ua,un,uc,rfl⟩:=hu.aB;have hfl:((t.lines.take (r+1)).filter (λl=>l.1 != x))=((t.lines.take r).filter (λl=>l.1 != x))++(if t.lines[r].1 != x then [t.lines[r]] else []):=by
    rw [X_ hlt,adF];congr 1;simp [List.filter_cons]
   have hk2:((t.lines.take r).filter (λl=>l.1 != x)).length<=1000:=w_ (ab1 _ _) (by rw [U_];omega);obtain ⟨nm,hnm⟩:∃ nm,t.lines[r].1=nm:=⟨_,rfl⟩;rw [hnm] at kn;by_cases hx:nm=x
   ·have HF:Hid ((t.lines.take (r+1)).filter (λl=>l.1 != x)=(t.lines.take r).filter (λl=>l.1 != x)):=by
     unfold Hid;rw [hfl,hnm,hx];simp
    have d0:(nm != x)=false:=by simp [hx]
    clear hfl hnm hx hu;go_wp2;go_roundg (gk - 1)
    case measure=>omega
    case rel=>exact ⟨r+1,xs,la,ln,lc,by simp,rfl,by omega,by rw [uh HF];exact (uh HR).1,by rw [uh HF];exact (uh HR).2.1,(uh HR).2.2⟩
   ·have HF:Hid ((t.lines.take (r+1)).filter (λl=>l.1 != x)=(t.lines.take r).filter (λl=>l.1 != x)++[t.lines[r]]):=by
     unfold Hid;rw [hfl,hnm,h_ (by simpa using hx)]
    have d0:(nm != x)=true:=by simpa using hx
    have HX:=af ((uh HR).2.1.snoc (x:=nm) hu);have HEN:Hid (t.lines[r]=(nm,t.lines[r].2)):=by rw [<-hnm];exact rfl
    have hal:=(uh HR).1.alloc (.cells #[.int .i64 nm,.slice ua un uc] 324);clear hfl hnm hx hu;obtain ⟨kk,hkk⟩:∃ kk,((t.lines.take r).filter (λl=>l.1 != x)).length=kk:=⟨_,rfl⟩;rw [hkk] at hal hk2;have HKK:=af hkk;clear hkk;go_wp2_with (at_builtin;refine aau _ rfl _ _ 320 rfl w.heap.size 324 i0 (.agg #[.int .i64 0,.slice none 0 0]) 2 32 Tryz.underlying320 hi0 hz0 hz1 hz2 rfl (by decide) _ kk xs rfl hal ⟨_,0,none⟩ 1 1 [.int .i64 nm,.slice ua un uc] rfl rfl ?d1 (by simp [Value.oneCell']) (by decide) ?d2 ?d3 ?d4 _ rfl ?_)
    case d1=>exact λj u hu=>aav (aay _ _) j u hu
    case d2=>unfold maxLen;omega
    case d3=>omega
    case d4=>exact w_ (uh HR).2.2.size (by simp)
    ·intro g cap w2 hown1 hgrow hat hlt2;have HG2:Hid (ae w w2):=abS (ae.trans (uh HR).2.2 (ae.alloc wr _)) hgrow (w_ (uh HR).2.2.size (by simp)) (bT hal);have iV:=af hown1;clear hown1 hgrow hat hlt2 hal;go_wp2;go_roundg (gk - 1)
     case measure=>omega
     case rel =>
      refine ⟨r+1,xs++[.int .i64 nm,.slice ua un uc],_,_,_,by simp,rfl,by omega,?_,?_,uh HG2⟩
      ·rw [uh HF,C_,uh HKK];exact uh iV
      ·rw [uh HF,uh HEN];exact uh HX
  ·have hrn:r=t.lines.length:=by omega
   have hdl:(t.lines.take r).filter (λl=>l.1 != x)=(t.drop x).lines:=by rw [hrn,aaV];rfl
   rw [hdl] at HR;have hpos:0<(t.drop x).lines.length:=by
    obtain ⟨q,hq,hqn⟩:=uh XT;refine List.length_pos_of_mem (a:=t.lines[q]) ?_;rw [<-hdl,hrn,aaV];refine abg.2 ⟨aan hq,?_⟩;rw [oD t hq];simpa using hqn
   obtain ⟨g,cap,hsl,hg1,hg2⟩:=(uh HR).1.form hpos;cases hsl;have hfr:wr.frozen? ⟨b,0,none⟩=false:=(vD ((uh HT).grow (uh HR).2.2) 0).2.2;have HF:Hid (aV P (wr.setCell ⟨b,0,none⟩ (.slice (some ⟨g,0,none⟩) (t.drop x).lines.length lc)) b g gc (t.drop x)):=by
    have h2:=(uh HT).grow (uh HR).2.2;have hlt2:=(uh HT).lt;obtain ⟨⟨aja,aaF,sx,sa,sm,sc,h1,h2,cs,h3,h4,h5,h6,h7⟩,⟨cc,h8,h9⟩,h10⟩:=h2;rcases (uh HR).1.2 with ⟨e,_⟩|⟨g',cap',cur,e,_,jU,hle,hmx,hsz,htk⟩
    ·cases e
    cases e;have e2:=j_ wr b 0 _ _ (.slice (some ⟨g,0,none⟩) (t.drop x).lines.length lc) h1;have hh:Holds P wr (wr.setCell ⟨b,0,none⟩ (.slice (some ⟨g,0,none⟩) (t.drop x).lines.length lc)):=bR h1 (by decide) (λe=>absurd e (by decide)) _ _;refine ⟨⟨lc,aaF,sx,sa,sm,sc,e2,h2.qp hh.xL,cur,?_,hsz,hle,hmx,λi hi=>?_⟩,⟨cc,?_,h9⟩,h10⟩
    ·rw [l_ _ _ _ _ (by have:=hlt2.1;show _≠b;omega)];exact jU
    ·obtain ⟨u,d1,d2,d3⟩:=(uh HR).2.1.at_ i hi;rw [<-htk,aak (by omega)] at d1;rw [<-htk,aak (by omega)] at d2;exact ⟨u,by simpa using d1,by simpa using d2,d3.holds ((Holds.aX (uh HR).2.2).trans hh)⟩
    ·rw [l_ _ _ _ _ (abf hlt2.2.2.2.2.1)];exact h8
   have HT2:Hid (bH (mD b gl gc) w (wr.setCell ⟨b,0,none⟩ (.slice (some ⟨g,0,none⟩) (t.drop x).lines.length lc))):=(bH.dh (uh HR).2.2).setCell (.inl rfl) _ _;clear HR hdl hpos;go_wp2;go_end0;exact ⟨g,rfl,uh HF,hg1,uh HT2⟩
end
def nu (a st:List Int) (i:Nat):Int:=Pl.sm i (λk=>a.getD (k+1) 0*st.getD k 0)
theorem IU {K:Nat} {a st:List Int} (ha:∀ k,Pl.Lt K (a.getD k 0)) (hs:∀ k,Pl.Lt K (st.getD k 0)) {i:Nat} (hi:i<=1000):Pl.Lt (2*K+1) (nu a st i) :=
 Pl.Lt.sum (λr _=>by rw [acC];exact (ha _).mul (hs _)) (by omega)
theorem eY {P:Nat->Prop} {w:World} {v:Value} {l:List Int} (h:aD P w v l) {i:Nat} (hi:i<l.length):∃ g off cap x a m c,v=.slice (some ⟨g,off,none⟩) l.length cap∧w.cell? ⟨g,off+i*2,none⟩=some (.int .i64 x)∧w.cell? ⟨g,off+i*2+1,none⟩=some (.slice a m c)∧aj P w (.agg #[.int .i64 x,.slice a m c]) (l.getD i 0):=by
 obtain ⟨g,off,cap,cs,rfl,_,hg⟩:=h.get (by omega);obtain ⟨x,a,m,c,h1,h2,h3⟩:=hg i hi;exact ⟨g,off,cap,x,a,m,c,rfl,h1,h2,by rw [a_,f_ hi];exact h3⟩
attribute [local go_sem] bE
set_option maxHeartbeats 20000000 in
theorem EZ (P:Nat->Prop) (K n:Nat) (a st:List Int) (va vs:Value) (w:World) (hP:∀ b,w.heap.size<=b->P b) (ha:aD P w va a) (hst:aD P w vs st) (hla:a.length=n+1) (hls:st.length=n) (hn:n<=100) (hal:∀ k,Pl.Lt K (a.getD k 0)) (hsl:∀ k,Pl.Lt K (st.getD k 0)) (hK:2*K+1<=1500000000000) :
  Calls Tryz.prog 262 #[va,vs] w λe w'=>∃ v',e=.returned v'∧aj P w' v' (nu a st n)∧Below w.heap.size w w':=by
 have zA:=af ha;have xh:=af hst;obtain ⟨aa,ac,rfl⟩:∃ ad cap,va=.slice ad (n+1) cap:=by obtain ⟨ad,cap,e,_⟩:=ha;rw [hla] at e;exact ⟨ad,cap,e⟩
 obtain ⟨sa,sc,rfl⟩:∃ ad cap,vs=.slice ad n cap:=by obtain ⟨ad,cap,e,_⟩:=hst;rw [hls] at e;exact ⟨ad,cap,e⟩
 have oL:=af (x_ hla hls);have HW0:=af (x_ (aG w (.cells #[.int .i64 0,.slice none 0 0] 168)) (ae.trans (ae.alloc w (.cells #[.int .i64 0,.slice none 0 0] 168)) (ae.alloc _ (.cells #[.int .i64 0,.slice none 0 0] 168))));have zQ:Hid (bC P ((w.alloc (.cells #[.int .i64 0,.slice none 0 0] 168)).alloc (.cells #[.int .i64 0,.slice none 0 0] 168)) (w.heap.size+1) 0 none 0 0 0):=⟨by have:=aG (w.alloc (.cells #[.int .i64 0,.slice none 0 0] 168)) (.cells #[.int .i64 0,.slice none 0 0] 168);rwa [H_] at this,.inl ⟨rfl,by decide,by decide⟩⟩;have HZ0:Hid (((w.alloc (.cells #[.int .i64 0,.slice none 0 0] 168)).alloc (.cells #[.int .i64 0,.slice none 0 0] 168)).heap[w.heap.size]?=some (.cells #[.int .i64 0,.slice none 0 0] 168)):=Below.same (ae.alloc (w.alloc (.cells #[.int .i64 0,.slice none 0 0] 168)) (.cells #[.int .i64 0,.slice none 0 0] 168)) _ _ (aG w (.cells #[.int .i64 0,.slice none 0 0] 168));have xX:Hid (ae w ((w.alloc (.cells #[.int .i64 0,.slice none 0 0] 168)).alloc (.cells #[.int .i64 0,.slice none 0 0] 168))):=ae.trans (ae.alloc w (.cells #[.int .i64 0,.slice none 0 0] 168)) (ae.alloc _ (.cells #[.int .i64 0,.slice none 0 0] 168));clear ha hst hla hls HW0;go_enter Tryz.func262,Tryz.ntmps262;go_wp2_with fail;go_loopg [6] n (λk iv wr=>∃ (i:Nat) (rx:Int) (ra:Option Addr) (rm rc:Nat),iv=.int .i64 i∧i+k=n∧Hid (bC P wr (w.heap.size+1) rx ra rm rc (nu a st i)∧ae w wr∧wr.heap[w.heap.size]?=some (.cells #[.int .i64 0,.slice none 0 0] 168)))
 case atStart=>exact ⟨0,0,none,0,0,rfl,by omega,uh zQ,uh xX,uh HZ0⟩
 case round =>
  obtain ⟨i,rx,ra,rm,rc,rfl,hik,HR⟩:=hrel;by_cases hlt:i<n
  ·obtain ⟨ga,oa,ca,px,pa,pm,pc,ea,p0,p1,hpv⟩:=eY ((uh zA).below (uh HR).2.1) (i:=i+1) (by rw [(uh oL).1];omega);obtain ⟨gs,os,cs,qx,qa,qm,qc,es,q0,q1,Rt⟩:=eY ((uh xh).below (uh HR).2.1) (i:=i) (by rw [(uh oL).2];omega);rw [(uh oL).1] at ea;rw [(uh oL).2] at es;cases ea;cases es;have wB:=af hpv;have yO:=af Rt;obtain ⟨r0,r1,_⟩:=(uh HR).1.cells;have hi1:i+1<n+1:=by omega
   have hI:(i:Int)+1<(n:Int)+1:=by omega
   have hI0:(0:Int)<=(i:Int)+1:=by omega
   have Zh:IntKind.i64.wrap ((i:Int)+1)=(i:Int)+1:=by rw [aaE];omega
   have htn:((i:Int)+1).toNat=i+1:=by omega
   have y1:=b_ p0;have y2:=b_ p1;have y3:=b_ q0;have y4:=b_ q1;have y5:=b_ r0;have y6:=b_ r1;clear hpv Rt;go_wp2_with fail;clear p0 p1 q0 q1 r0 r1;refine ah (cK [(30,λv w=>aj P w v (a.getD (i+1) 0*st.getD i 0)),(31,λv w=>aj P w v (nu a st i+a.getD (i+1) 0*st.getD i 0))]) (gL [(30,ag),(31,ag)]) 33 12 (by kernel_rfl) (by rfl) (by kernel_rfl) (aN (λ_ _ _=>aj.below) (aN (λ_ _ _=>aj.below) cO)) ?_
   iterate 10 (refine aO λK hK=>?_;go_simp;refine hK _ ?_;clear hK K)
   refine ai ag 226 #[.agg #[.int .i64 px,.slice pa pm pc],.agg #[.int .i64 qx,.slice qa qm qc]] (by rfl) (by rfl) ag.some (λw=>by go_simp) (λw1 hg hf=>(eG P K (a.getD (i+1) 0) (st.getD i 0) _ _ w1 (λb' hb'=>hP b' (by have:=(ae.trans (uh HR).2.1 hg).size;omega)) ((uh wB).below hg) ((uh yO).below hg) (by omega) (hal _) (hsl _)).mono (by rintro e w' ⟨v',rfl,hv,hb⟩;exact ⟨_,rfl,hb,hv.aU,λt ht=>by cases ht;exact hv⟩)) ?_;rintro _ ⟨cx,ca,cm,cc,rfl⟩;refine ai ag 223 #[.agg #[.int .i64 rx,.slice ra rm rc],.agg #[.int .i64 cx,.slice ca cm cc]] (by rfl) (by rfl) ag.some (λw=>by go_simp) (λw1 hg hf=>(ig P (2*K+1) (nu a st i) (a.getD (i+1) 0*st.getD i 0) _ _ w1 (λb' hb'=>hP b' (by have:=(ae.trans (uh HR).2.1 hg).size;omega)) ((uh HR).1.val.below hg) (hf 10 (by kernel_rfl) _ 30 rfl rfl) hK (IU hal hsl (by omega)) (Pl.Lt.mono (Pl.Lt.mul (hal _) (hsl _)) (by omega))).mono (by rintro e w' ⟨v',rfl,hv,hb⟩;exact ⟨_,rfl,hb,hv.aU,λt ht=>by cases ht;exact hv⟩)) ?_;rintro _ ⟨ex,ea,em,ec,rfl⟩;refine aF ?_;intro w2 hg2 aK;have q31:aj P w2 (.agg #[.int .i64 ex,.slice ea em ec]) (nu a st i+a.getD (i+1) 0*st.getD i 0):=aK 11 _ 31 (by decide) rfl rfl;clear aK y1 y2 y3 y4 y5 y6;have hblk:=((uh HR).1.grow hg2).heap;have s0:=(au hblk).1;have s1:=(au hblk).2.1;have s2:=(au hblk).2.2.1;have s3:=(au hblk).2.2.2;have Pe:=af (bI (ae.trans (uh HR).2.1 hg2) (show w.heap.size<=w.heap.size+1 by omega) hblk q31).1;have HG2:=af (bI (ae.trans (uh HR).2.1 hg2) (show w.heap.size<=w.heap.size+1 by omega) hblk q31).2;have HZ2:Hid (((w2.setCell ⟨w.heap.size+1,0,none⟩ (.int .i64 ex)).setCell ⟨w.heap.size+1,1,none⟩ (.slice ea em ec)).heap[w.heap.size]?=some (.cells #[.int .i64 0,.slice none 0 0] 168 (0,0))):=(jP (show w.heap.size≠w.heap.size+1 by omega) _ _).trans (Below.same hg2 _ _ (uh HR).2.2);clear q31 hblk hg2;go_wp2;go_roundg (gk - 1)
   case measure=>omega
   case rel=>exact ⟨i+1,ex,ea,em,ec,by simp,by omega,uh Pe,uh HG2,uh HZ2⟩
  ·have hin:i=n:=by omega
   subst hin;obtain ⟨r0,r1,_⟩:=(uh HR).1.cells;obtain ⟨z0,z1,z2,z3⟩:=au (uh HR).2.2;have n1:w.heap.size≠w.heap.size+1:=by omega
   have HV:=af ((uh HR).1.val.kG (uh HR).2.2 (.int .i64 rx) (.slice ra rm rc));have HG:Hid (ae w ((wr.setCell ⟨w.heap.size,0,none⟩ (.int .i64 rx)).setCell ⟨w.heap.size,1,none⟩ (.slice ra rm rc))):=(B_ (p:=⟨w.heap.size,0,none⟩) (uh HR).2.1 (d_ _) _).setCell (p:=⟨w.heap.size,1,none⟩) (d_ _) _;go_wp2;exact t_ (v:=.agg #[.int .i64 rx,.slice ra rm rc]) (by simp [results,Tryz.results262,go_sem,z0,z1]) rfl ⟨_,rfl,uh HV,uh HG⟩
end Go.Proofs.YtfaljekgpnbmiaaGreat
