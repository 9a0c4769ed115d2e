/- Joined: XSim7 XSim8 XSim9. -/
import Derived.Test.YtgaafamcajcifaaGreatK07
import Derived.Test.YtgaafamcajcifaaGreatK21
set_option linter.unusedVariables false
set_option linter.unusedSimpArgs false
set_option maxRecDepth 100000
namespace Go.Proofs.YtgaafamcajcifaaGreat
open Go.RowKit Go.Sort
theorem bG.aem {b gl g gc:Nat} {w W wr:World} (h1:bG (mh b gl gc) w W) (h2:bG (mh b g gc) W wr) (hg:g=gl∨w.heap.size<=g):bG (mh b gl gc) w wr :=
 ⟨h2.os.trans h1.os,h2.tape.trans h1.tape,h2.output.trans h1.output,w_ h1.size h2.size,λk hk hne=>(h2.block k (aa9 hk h1.size) (λh=>by
  rcases h with e|e|e
  ·exact hne (.inl e)
  ·rcases hg with e2 | e2
   ·exact hne (.inr (.inl (e.trans e2)))
   ·omega
  ·exact hne (.inr (.inr e)))).trans (h1.block k hk hne)⟩
structure J3 (F:Int->Nat->Int) (n:Nat) (U:List Int) (L:Nat) (s:List Int) (t:Pl.aR):Prop where
 lL:Good (mi F s) n (-1073741824::U) (L+1) t
 name:t.name L=-1073741824
 top:∀ c,c<n->t.cell L (c+1)<=0
 pt:nQ t
theorem KA {F:Int->Nat->Int} {n:Nat} {U:List Int} (h:Pl.CE F n U) (s:List Int):Pl.CE (mi F s) n U:=λD h0 h1=>h D h0 (λx hx h2=>by
 have:=h1 x hx h2;rwa [fP (by omega)] at this)
theorem su {P:Nat->Prop} {w w':World} {b gl gc g:Nat} {t:Pl.aR} (h:aV P w b gl gc t) (ht:bG (mh b gl gc) w w') {cs:Array Value} {T:TypeId} (hg:w.heap[g]?=some (.cells cs T (0,0))) (h1:T≠109) (h2:T≠111) (h3:T≠3):w'.heap[g]?=some (.cells cs T (0,0)):=by
 obtain ⟨⟨fE,jl,sx,sa,sm,sc,e1,_,cl,e3,_⟩,⟨cc,e8,_⟩,_⟩:=h;rw [ht.block g (z_ hg) (λh=>?_)];exact hg;rcases h with e|e|e
 ·rw [e,e1] at hg;cases hg;exact h1 rfl
 ·rw [e,e3] at hg;cases hg;exact h2 rfl
 ·rw [e,e8] at hg;cases hg;exact h3 rfl
theorem Tm {P:Nat->Prop} {w:World} {b gl gc:Nat} {t:Pl.aR} (h:aV P w b gl gc t) {N fE:Nat} (hc:w.cell? ⟨b,0,none⟩=some (.slice (some ⟨gl,0,none⟩) N fE)):t.lines.length<=fE:=by
 obtain ⟨r9,xs,k1,_,hle,_⟩:=h.owns;rw [k1] at hc;simp at hc;omega
section
section
attribute [local go_sem] bD
set_option maxHeartbeats 20000000 in
theorem Av (P:Nat->Prop) (K b gl gc:Nat) (F:Int->Nat->Int) (n:Nat) (U:List Int) (L:Nat) (t:Pl.aR) (s:List Int) (vs:Value) (w:World) (hP:∀ b,w.heap.size<=b->P b) (h:aV P w b gl gc t) (hs:aD P w vs s) (hgood:Good F n U L t) (hpt:nQ t) (hF:xw F n U) (hn:n<=100) (hL:L<=900) (hlen:s.length=n+1) (hsl:∀ k,Pl.Lt K (s.getD k 0)) (hlt:qg K t)
  (hall:∀ t',Fair (mi F s) n (-1073741824::U) (L+1) 0 t'->qg K t') (hK:2*K+1<=1500000000000) (hT:Pl.CE F n U) :
  Calls Tryz.prog 69 #[.pointer (some ⟨b,0,none⟩),vs] w λe w'=>∃ (v':Value) (yQ:Nat) (t2:Pl.aR),e=.returned v'∧aV P w' b yQ gc t2.cut∧(yQ=gl∨w.heap.size<=yQ)∧bG (mh b gl gc) w w'∧aj P w' v' (Int.fdiv (t2.cell L 0) t2.scale)∧J3 F n U L s t2:=by
 obtain ⟨i0,hi0,hz0,hz1,hz2⟩:=U_ Tryz.zi;have HAD:=af (QH hgood hF hn hlen);have HPA:Hid (nQ (t.add (-1073741824) ((List.range (n+1)).map (ik t s L)))):=λk hk h0=>by
  rw [Pl.kM] at hk;rcases (show k<t.lines.length∨k=t.lines.length by omega) with h1|h1
  ·rw [ow t _ _ h1] at h0;have:=hpt k h1 h0;unfold Pl.aR.cell at *
   rw [Pl.Db t _ _ h1];exact this
  ·rw [h1,gM] at h0;omega
 obtain ⟨Q,hQ⟩:∃ Q:Nat->Prop,Q=λk=>P k∧k≠w.heap.size:=⟨_,rfl⟩;have Rk:∀ k,Q k->P k:=λk hk=>by rw [hQ] at hk;exact hk.1
 have Ww:∀ k,k<w.heap.size->P k->Q k:=λk hk hp=>by rw [hQ];exact ⟨hp,by omega⟩
 have ZW:¬ Q w.heap.size:=λhk=>by rw [hQ] at hk;exact hk.2 rfl
 have Xy:∀ b,(w.alloc (.cells #[.int .i64 0,.slice none 0 0] 78)).heap.size<=b->Q b:=λb' hb'=>by rw [H_] at hb';rw [hQ];exact ⟨hP b' (by omega),by omega⟩
 have hT0:=h.mono (P':=Q) Ww (λh'=>h.notP (Rk _ h'));have hS0:=hs.mono (P':=Q) Ww;have hWa:ae w (w.alloc (.cells #[.int .i64 0,.slice none 0 0] 78)):=ae.alloc _ _;have Oo:=af (AQ Q K b t s vs (w.alloc (.cells #[.int .i64 0,.slice none 0 0] 78)) Xy (hT0.grow hWa).wV (hS0.below hWa) (hgood.fit hn (by omega)) hlt hsl hK (by rw [hgood.ok.aS];exact hlen) (λr hr=>by have:=hF.small _ (hgood.Bz (r:=r) (by rw [<-hgood.len];exact hr));omega));have HT:=af (hT0.grow hWa);have HNP:=af h.notP;have Lu:=af hgood;have Xm:=af hF;have HA:=af hall;have Nk:=af hT;rw [hgood.ok.aS,hgood.len] at Oo;obtain ⟨fE,jl,k0,_⟩:=(h.grow hWa).cells;rw [hgood.len] at k0;obtain ⟨sa0,sn0,sc0,rfl⟩:=hs.aB;have hbw:b<w.heap.size:=h.lt.1;have HZ0:Hid ((w.alloc (.cells #[.int .i64 0,.slice none 0 0] 78)).heap[w.heap.size]?=some (.cells #[.int .i64 0,.slice none 0 0] 78 (0,0))):=aG w (.cells #[.int .i64 0,.slice none 0 0] 78);have HQ:=af (x_ Rk ZW);have Py:=af Xy;clear h hs hgood hpt hF hall hlt hT hWa hQ Rk Ww ZW Xy hT0 hS0;go_enter Tryz.func69,Tryz.ntmps69;go_wp2_with fail;refine (uh Oo).mono ?_;rintro e w1 ⟨v1,rfl,hv1,hw1⟩;obtain ⟨ea,en,ec,rfl⟩:=hv1.aB;have wP:=af hv1;have QI:Hid (ae (w.alloc (.cells #[.int .i64 0,.slice none 0 0] 78)) w1):=hw1;have HZ1:Hid (w1.heap[w.heap.size]?=some (.cells #[.int .i64 0,.slice none 0 0] 78 (0,0))):=Below.same hw1 _ _ (uh HZ0);have jq:=af ((uh HT).grow (uh QI));obtain ⟨ail,xs,k1,hown,hlc,hxs⟩:=(uh jq).owns;have hlL:=(uh Lu).len;rw [hlL] at k1;have HXS:=af hxs;have PK:Hid (xs.length=t.lines.length*2):=hown.1;have HOWN:=af (λo=>(hown.alloc o));have Jn:=af hlL;rw [hlL] at HOWN;clear hv1 hw1 hown hxs Oo k0 hlL;go_wp2_with (at_builtin;refine wpList_append_lies _ rfl _ _ 107 rfl 0 111 i0 (.agg #[.int .i64 0,.slice none 0 0]) 2 32 Tryz.underlying107 hi0 hz0 hz1 hz2 rfl (by decide) _ L xs rfl (uh HOWN _) ⟨_,0,none⟩ 1 1 [.int .i64 (-1073741824),.slice ea en ec] rfl rfl ?d1 (by simp [Value.oneCell']) (by decide) ?d2 ?d3 ?d4 _ rfl ?_)
 case d1=>exact λj u hu=>World.news_of_block (aax _ _) j u hu
 case d2=>unfold maxLen;omega
 case d3=>omega
 case d4=>exact aaZ _
 ·intro g cap w2 hown1 hgrow hat hlt2;rw [<-uh Jn] at hown1;have hadd:=Tj (uh jq) (ae.alloc w1 _) (uh HXS) (uh PK) (uh wP) hown1 hgrow (by rcases hat with e | e;exact .inl e;exact .inr (by rw [e,H_]))
  rw [uh Jn] at hadd;obtain ⟨⟨hA1,hA2,hA3⟩,⟨u0,hA4⟩,hA5⟩:=hadd;have iT:=af hA1;have HT2:=af ((bG.cZ (uh QI)).trans hA2);have HG2:Hid (g=gl∨(w.alloc (.cells #[.int .i64 0,.slice none 0 0] 78)).heap.size<=g):=by
   rcases hA3 with e|e
   ·exact .inl e
   ·exact .inr (w_ (uh QI).size e)
  have HZ2:=af (su (uh jq) hA2 (uh HZ1) (by decide) (by decide) (by decide));clear hown1 hgrow hat hlt2 hA1 hA2 hA3 HOWN HXS PK wP HZ1 jq;go_wp2_with fail;generalize hW2:w2.setCell ⟨b,0,none⟩ (.slice (some ⟨g,0,none⟩) (L+1) cap)=W2 at *
  clear hW2 hA4 hA5 k1 w2;go_loopg [] ((-1073741824::U).length^n) (λk wr=>∃ (t':Pl.aR) (st:Nat),st+k=(-1073741824::U).length^n∧Hid (aV Q wr b g gc t'∧bG (mh b g gc) W2 wr∧Pl.AU (mi F s) n (-1073741824::U) L (t.add (-1073741824) ((List.range (n+1)).map (ik t s L))) t' st∧Good (mi F s) n (-1073741824::U) (L+1) t'))
  case atStart=>exact ⟨_,0,by omega,uh iT,bG.refl _ _,.start (uh HAD).ok (uh HAD).names (uh HAD).stat (by rw [(uh HAD).len];omega) (by rw [<-uh Jn,gM];decide) (uh HPA),uh HAD⟩
  case round =>
   obtain ⟨t',st,hsk,HR⟩:=hrel;have HF:=af ((uh HR).2.2.2.fit hn (by omega));have D6:=af (x_ (uh HR).2.2.2.len (uh HR).2.2.2.ok.aS);have hLl:L<t'.lines.length:=by rw [(uh D6).1];omega
   have vP:=af (uh HR).2.2.1.last;have Xz:Hid (bG (mh b gl gc) (w.alloc (.cells #[.int .i64 0,.slice none 0 0] 78)) wr):=(uh HT2).aem (uh HR).2.1 (uh HG2);go_wp2_with fail;refine (oF Q b t' wr (uh HR).1.wV (uh HF).lines (uh HF).le (uh HF).aS hLl ((uh HF).row hLl)).mono ?_;rintro e w1 ⟨c,rfl,mR,hw1⟩;have dN:Hid (ae wr w1):=hw1;clear hw1;rcases mR with ⟨rfl,hno⟩|⟨c,hc,rfl,huc,ky⟩
   ·have Wx:Hid (J3 F n U L s t'):=⟨(uh HR).2.2.2,by rw [(uh vP).2.2.2.2.2.2.2,<-uh Jn,gM],λk hk=>by
     have h1:=hno k (by rw [(uh D6).2];exact hk);have h2:=(uh HR).2.2.2.aS k hk;rcases (show 0<t'.cell L (k+1)∨t'.cell L (k+1)<=0 by omega) with h3|h3
     ·exact absurd ⟨h2,h3⟩ h1
     ·exact h3,(uh vP).2.2.2.2.2.2.1⟩
    clear hno;have jq:=af ((uh HR).1.grow (uh dN));have Xz:=af ((uh Xz).grow (uh dN));have HC:=af (λwq (hg:ae w1 wq)=>jP Q b t' wq ((uh jq).grow hg).wV (uh HF).lines (uh HF).le hLl (j:=0) (by rw [(uh HF).row hLl];omega));obtain ⟨r9,Um,k0,k1,kf,Ie,I9,kl,xL,sx,sa,sm,sc,k2,k3,hsc⟩:=(uh jq).cells;have Uk:=af hsc;rw [(uh D6).1] at k0;have hlc:L+1<=r9:=by have:=Tm (uh jq) k0;rw [(uh D6).1] at this;exact this
    have alr:r9≠0:=by omega
    have HZ3:=af (su (uh iT) ((uh HR).2.1.grow (uh dN)) (uh HZ2) (by decide) (by decide) (by decide));clear kf Ie I9 kl xL k1 hsc;have y1:=b_ k2;have y2:=b_ k3;go_wp2_with fail;refine ah (bZ [(45,λv w=>aj Q w v (t'.cell L 0)),(50,λv w=>aj Q w v (Int.fdiv (t'.cell L 0) t'.scale)),(9,bg w1)]) (gL [(45,ag),(50,ag),(9,bL)]) 61 9 (by kernel_rfl) (by rfl) (by kernel_rfl) (aN (λ_ _ _=>aj.below) (aN (λ_ _ _=>aj.below) (aN (λ_ _ _=>bg.grow) cK))) ?_
    iterate 2 (refine aO λK hK=>?_;go_simp;refine hK _ ?_;clear hK K)
    refine ai ag 87 #[.pointer (some ⟨b,0,none⟩),.int .i64 L,.int .i64 0] (by rfl) (by rfl) ag.some (λw=>by go_simp) (λwq hg hf=>(uh HC wq hg).mono (by rintro e w' ⟨v',rfl,hv,hb⟩;exact ⟨_,rfl,hb,hv.aU,λt ht=>by cases ht;exact hv⟩)) ?_;rintro _ ⟨cx,ca,cm,cc,rfl⟩
    iterate 4 (refine aO λK hK=>?_;go_simp;refine hK _ ?_;clear hK K)
    refine ai ag 56 #[.agg #[.int .i64 cx,.slice ca cm cc],.agg #[.int .i64 sx,.slice sa sm sc]] (by rfl) (by rfl) ag.some (λw=>by go_simp) (λwq hg hf=>(lu Q K (t'.cell L 0) t'.scale _ _ wq (λb' hb'=>uh Py b' (w_ (bG.grow (uh Xz) hg).size hb')) (hf 2 (by kernel_rfl) _ 45 rfl rfl) ((uh Uk).below hg) (by omega) ((uh HA _ (uh HR).2.2.2.fair).cell L 0 (by rw [(uh HR).2.2.2.len];omega) (by omega)) (uh HA _ (uh HR).2.2.2.fair).scale).mono (by rintro e w' ⟨v',rfl,hv,hb⟩;exact ⟨_,rfl,hb,hv.aU,λt ht=>by cases ht;exact hv⟩)) ?_;rintro _ ⟨dx,da,dm,dc,rfl⟩;refine eO bL (by rfl) (by rfl) bL.some (λwq hg hf=>⟨.pointer (some ⟨wq.heap.size,0,none⟩),wq.alloc (.cells #[.int .i64 0,.slice none 0 0] 78),by go_simp,ae.alloc _ _,⟨_,rfl⟩,λt ht=>by cases ht;exact bg.new hg⟩) ?_;rintro _ ⟨g9,rfl⟩;refine aF ?_;intro w2 hg2 aK;have Wm:aj Q w2 (.agg #[.int .i64 dx,.slice da dm dc]) (Int.fdiv (t'.cell L 0) t'.scale):=aK 7 _ 50 (by decide) rfl rfl;have q9:bg w1 (.pointer (some ⟨g9,0,none⟩)) w2:=aK 8 _ 9 (by decide) rfl rfl;clear aK y1 y2;have hge:=q9.own.1;have hblk:=q9.own.2;have s0:=(au hblk).1;have s1:=(au hblk).2.1;have s2:=(au hblk).2.2.1;have s3:=(au hblk).2.2.2;have Ot:=af (bH hg2 hge hblk Wm).1;have Tn:Hid (ae w1 ((w2.setCell ⟨g9,0,none⟩ (.int .i64 dx)).setCell ⟨g9,1,none⟩ (.slice da dm dc))):=(bH hg2 hge hblk Wm).2;have iT:=af ((uh jq).grow (uh Tn));have hc2:=ae.cell (uh Tn) k0;have hf2:=(vB (uh iT) 0).2.2;have ZX:=af (Below.same (uh Tn) _ _ (uh HZ3));have z0:=(au (uh ZX)).1;have z1:=(au (uh ZX)).2.1;have z2:=(au (uh ZX)).2.2.1;have z3:=(au (uh ZX)).2.2.2;have n1:g9≠b:=by have:=(uh jq).lt.1;omega
    have n2:b≠g9:=aaQ n1;have n3:w.heap.size≠b:=by omega
    have n4:b≠w.heap.size:=by omega
    have n5:g9≠w.heap.size:=by have:=z_ (uh HZ3);omega
    have n6:w.heap.size≠g9:=aaQ n5;have TH:=(uh Ot).cells.1;have va1:=(uh Ot).cells.2.1;clear Wm hge hblk hg2 q9;go_wp2_with fail;have hgn:g≠w.heap.size:=λe=>by
     obtain ⟨cs,hcs⟩:=nD (uh jq);have h2:=uh HZ3;rw [<-e,hcs] at h2;simp at h2
    have oG:=af (Tk (uh iT) (uh D6).1 (by rw [(uh D6).1];exact hc2));have aeo:gc≠w.heap.size:=by
     have:=(uh jq).lt;have h2:=uh HZ3;intro e;obtain ⟨cs,hcs⟩:=Ic (uh jq);rw [<-e,hcs] at h2;simp at h2
    have DR:Hid (aj Q (((w2.setCell ⟨g9,0,none⟩ (.int .i64 dx)).setCell ⟨g9,1,none⟩ (.slice da dm dc)).setCell ⟨b,0,none⟩ (.slice (some ⟨g,0,none⟩) L r9)) (.agg #[.int .i64 dx,.slice da dm dc]) (Int.fdiv (t'.cell L 0) t'.scale)):=by
     obtain ⟨⟨ain,aio,sxx,sax,smx,scx,hx1,_⟩,_⟩:=uh iT;exact (uh Ot).val.ql (bQ hx1 (by decide) (λe=>absurd e (by decide)) _ _).xJ
    have M9:Hid (bG (mh b gl gc) w (((w2.setCell ⟨g9,0,none⟩ (.int .i64 dx)).setCell ⟨g9,1,none⟩ (.slice da dm dc)).setCell ⟨b,0,none⟩ (.slice (some ⟨g,0,none⟩) L r9))):=(bG.cZ (ae.alloc w (.cells #[.int .i64 0,.slice none 0 0] 78))).trans (((uh Xz).grow (uh Tn)).setCell (.inl rfl) _ _);have zY:Hid ((((w2.setCell ⟨g9,0,none⟩ (.int .i64 dx)).setCell ⟨g9,1,none⟩ (.slice da dm dc)).setCell ⟨b,0,none⟩ (.slice (some ⟨g,0,none⟩) L r9)).heap[w.heap.size]?=some (.cells #[.int .i64 0,.slice none 0 0] 78 (0,0))):=by
     unfold Hid;rw [l_ _ _ _ _ n3];exact uh ZX
    generalize ((w2.setCell ⟨g9,0,none⟩ (.int .i64 dx)).setCell ⟨g9,1,none⟩ (.slice da dm dc)).setCell ⟨b,0,none⟩ (.slice (some ⟨g,0,none⟩) L r9)=Wd at *
    have hho:Holds Q Wd ((Wd.setCell ⟨w.heap.size,0,none⟩ (.int .i64 dx)).setCell ⟨w.heap.size,1,none⟩ (.slice da dm dc)):=(fu (uh HQ).2 _ _).trans (fu (uh HQ).2 _ _);obtain ⟨Le,z1',z2',z3'⟩:=au (uh zY);refine t_ (v:=.agg #[.int .i64 dx,.slice da dm dc]) (by simp [results,Tryz.results69,go_sem,Le,z1']) rfl ⟨_,g,t',rfl,?_,?_,?_,?_,uh Wx⟩
    ·exact ((uh oG).holds hho (jN n4 _ _) (jN hgn _ _) (jN aeo _ _)).mono (λk _ hk=>(uh HQ).1 k hk) (uh HNP)
    ·rcases uh HG2 with e | e
     ·exact .inl e
     ·exact .inr (w_ (ae.alloc w (.cells #[.int .i64 0,.slice none 0 0] 78)).size e)
    ·exact ((uh M9).zS (d_ _) _ _).zS (d_ _) _ _
    ·exact ((uh DR).ql hho.xJ).mono (λk _ hk=>(uh HQ).1 k hk)
   ·have hc0:¬ ((c:Int)<0):=by omega
    have hcn:c<n:=by rw [<-(uh D6).2];exact hc
    have HUC:=af huc;have aep:=af ky;clear huc ky;go_wp2_with fail;refine (Bb Q K b t' w1 (λb' hb'=>uh Py b' (w_ ((uh Xz).grow (uh dN)).size hb')) ((uh HR).1.grow (uh dN)).wV (uh HF) (uh HA _ (uh HR).2.2.2.fair) hK hc).mono ?_;rintro e w2 ⟨x,rfl,mR,hw2⟩;have Wy:Hid (ae wr w2):=ae.trans (uh dN) hw2;clear hw2;rcases mR with ⟨rfl,hno⟩|⟨r,hr,rfl,hur,ky⟩
    ·exact (Pl.IJ (U:=U) (uh HR).2.2.2.ok hcn (λx hx _=>(uh HR).2.2.2.stat.all _ (aaV _ hx)) (λk hk hnn=>by
      have h1:=hno k hk;rcases (show t'.cell k (c+1)<0∨0<=t'.cell k (c+1) by omega) with h2|h2
      ·exact absurd ⟨hnn,h2⟩ h1
      ·exact h2) (KA (uh Nk) s)).elim
    ·have hr0:¬ ((r:Int)<0):=by omega
     have RI:=af ((uh HR).2.2.1.snoc hr hcn hur.1 hur.2 (λk hk h1 h2=>ky k hk ⟨h1,h2⟩) (uh HUC).1 (uh HUC).2 (λk hk h1 h2=>uh aep k (by rw [(uh D6).2];exact hk) ⟨h1,h2⟩));have Wp:Hid (Good (mi F s) n (-1073741824::U) (L+1) (t'.swap r c)):=⟨(uh RI).last.1,(uh RI).last.2.1,(uh RI).last.2.2.1,sj (uh D6).2 (uh HR).2.2.2.aS hcn hur.1,by rw [Pl.aR.iG];exact (uh D6).1⟩;have hs1:=(uh RI).last.2.2.2.1;have hne:t'.cell r (c+1)≠0:=by have:=hur.2;omega
     have ZR:=af (CR Q K b g gc t' w2 (λb' hb'=>uh Py b' (w_ ((uh Xz).grow (uh Wy)).size hb')) ((uh HR).1.grow (uh Wy)) (uh HF) (uh HA _ (uh HR).2.2.2.fair) hK hr hc hne);clear hur ky hne;go_wp2_with fail;refine (uh ZR).mono ?_;rintro e w3 ⟨rfl,hO3,Lv⟩;have oG:=af hO3;have HT3:=af (((uh HR).2.1.grow (uh Wy)).trans Lv);clear hO3 Lv;go_wp2;go_roundg (gk - 1)
     case measure=>omega
     case rel=>exact ⟨t'.swap r c,st+1,by omega,uh oG,uh HT3,uh RI,uh Wp⟩
end
theorem Da (s:List Int) (k:Nat):(s.map (λx=>-x)).getD k 0=-s.getD k 0:=by
 rw [a_,a_,aal];cases s[k]? <;> simp
theorem zZ (s:List Int) (n:Nat) (h:s.length=n):(List.range n).map (λk=>-s.getD k 0)=s.map (λx=>-x):=by
 apply List.ext_getElem
 ·simp [h]
 ·intro i h1 h2;have h3:i<s.length:=by simpa using h2
  simp [a_,f_ h3]
set_option maxHeartbeats 20000000 in
theorem J4 (P:Nat->Prop) (K b gl gc:Nat) (F:Int->Nat->Int) (n:Nat) (U:List Int) (L:Nat) (t:Pl.aR) (s:List Int) (vs:Value) (w:World) (hP:∀ b,w.heap.size<=b->P b) (h:aV P w b gl gc t) (hs:aD P w vs s) (hgood:Good F n U L t) (hpt:nQ t) (hF:xw F n U) (hn:n<=100) (hL:L<=900) (hlen:s.length=n+1) (hsl:∀ k,Pl.Lt K (s.getD k 0)) (hlt:qg K t)
  (hall:∀ t',Fair (mi F (s.map λx=>-x)) n (-1073741824::U) (L+1) 0 t'->qg K t') (hK:2*K+1<=1500000000000) (hT:Pl.CE F n U) :
  Calls Tryz.prog 53 #[.pointer (some ⟨b,0,none⟩),vs] w λe w'=>∃ (v':Value) (yQ:Nat) (t2:Pl.aR),e=.returned v'∧aV P w' b yQ gc t2.cut∧(yQ=gl∨w.heap.size<=yQ)∧bG (mh b gl gc) w w'∧aj P w' v' (-Int.fdiv (t2.cell L 0) t2.scale)∧J3 F n U L (s.map λx=>-x) t2:=by
 obtain ⟨i0,hi0,hz0,hz1,hz2⟩:=U_ Tryz.dP;obtain ⟨Q,hQ⟩:∃ Q:Nat->Prop,Q=λk=>P k∧k≠w.heap.size:=⟨_,rfl⟩;have Rk:∀ k,Q k->P k:=λk hk=>by rw [hQ] at hk;exact hk.1
 have Ww:∀ k,k<w.heap.size->P k->Q k:=λk hk hp=>by rw [hQ];exact ⟨hp,by omega⟩
 have ZW:¬ Q w.heap.size:=λhk=>by rw [hQ] at hk;exact hk.2 rfl
 have Xy:∀ b,w.heap.size+1<=b->Q b:=λb' hb'=>by rw [hQ];exact ⟨hP b' (by omega),by omega⟩
 obtain ⟨gs,os,Wn,ZN,rfl,Tf,hsc⟩:=(hs.mono (P':=Q) Ww).get (by omega);have ND:=af hsc;have HT:=af (h.mono (P':=Q) Ww (λh'=>h.notP (Rk _ h')));have HNP:=af h.notP;have HQ:=af (x_ Rk (x_ ZW Xy));have HC:=af (x_ hgood (x_ hpt (x_ hF (x_ hlt (x_ hall hT)))));have Qy:=af hsl;have HLEN:=af hlen;have hbw:b<w.heap.size:=h.lt.1;have aeq:gc<w.heap.size:=h.lt.2.2.1;have ZO:=aG w (.cells #[.int .i64 0,.slice none 0 0] 78);have ZP:ae w (w.alloc (.cells #[.int .i64 0,.slice none 0 0] 78)):=ae.alloc _ _;have hsa:(w.alloc (.cells #[.int .i64 0,.slice none 0 0] 78)).heap.size=w.heap.size+1:=H_ _ _;have HW:=af (x_ ZO (x_ ZP hsa));rw [hlen];clear h hs hgood hpt hF hall hlt hT hsc hsl hlen hQ Rk Ww ZW Xy ZO ZP hsa;go_enter Tryz.func53,Tryz.ntmps53;go_wp2_with (at_make;refine wpList_make_full _ rfl _ _ 69 rfl (w.heap.size+1) 78 i0 (.agg #[.int .i64 0,.slice none 0 0]) 2 Tryz.underlying69 hi0 hz0 hz1 .i64 .i64 _ _ (n+1) rfl rfl ?e1 ?e2 ?c1 ?c2 ?c3 ?_)
 case e1=>first | rfl | omega | simp
 case e2=>first | rfl | omega | simp
 case c1=>rw [hz2];omega
 case c2=>unfold maxLen;omega
 case c3=>first | omega | simp
 ·intro w1 hown hgrow;have hb1:ae w w1:=(uh HW).2.1.trans ((n_ _ _).grown hgrow (d_ _) (by intro k hk;cases hk));have uA:Hid (bz Q w1 (w.heap.size+1) (n+1) (λ_=>0)):=bz.made hown;have HZ1:Hid (w1.heap[w.heap.size]?=some (.cells #[.int .i64 0,.slice none 0 0] 78 (0,0))):=(hgrow.block w.heap.size (by rw [(uh HW).2.2];omega) (by intro h;cases h)).trans (uh HW).1;have dN:Hid (ae w w1):=hb1;clear hown hgrow hb1 HW;generalize hN:n+1=N at *
  go_wp2_with fail;go_loopg [6] N (λk iv wr=>∃ (i:Nat),iv=.int .i64 i∧i+k=N∧Hid (bz Q wr (w.heap.size+1) N (λk=>if k<i then -s.getD k 0 else 0)∧ae w wr∧wr.heap[w.heap.size]?=some (.cells #[.int .i64 0,.slice none 0 0] 78 (0,0))))
  case atStart=>exact ⟨0,rfl,by omega,(uh uA).congr (λi _=>by rw [g_ (by omega)]),uh dN,uh HZ1⟩
  case round =>
   obtain ⟨i,rfl,hik,HR⟩:=hrel;by_cases hlt:i<N
   ·obtain ⟨zx,za,zm,zc,z0,z1,hz⟩:=uh ND i (by rw [uh HLEN];exact hlt);have z0:=(uh HR).2.1.cell z0;have z1:=(uh HR).2.1.cell z1;have HZ:Hid (aj Q wr (.agg #[.int .i64 zx,.slice za zm zc]) (s.getD i 0)):=by
     unfold Hid;rw [a_,f_ (by rw [uh HLEN];exact hlt)];exact hz.below (uh HR).2.1
    clear hz;go_wp2_with fail;refine (lF Q _ _ _ (uh HZ)).mono ?_;rintro e w2 ⟨v2,rfl,hv2,hw2⟩;obtain ⟨nx,na,nm,nc,rfl⟩:=hv2.shape;have hR2:=(uh HR).1.grow hw2;obtain ⟨ox,oa,om,oc,r0,r1,_,f0,f1⟩:=hR2.get hlt;have uI:Hid (bz Q ((w2.setCell ⟨w.heap.size+1,i*2,none⟩ (.int .i64 nx)).setCell ⟨w.heap.size+1,i*2+1,none⟩ (.slice na nm nc)) (w.heap.size+1) N (λk=>if k<i+1 then -s.getD k 0 else 0)):=(hR2.set hlt hv2).congr (λk _=>by
     unfold qi;by_cases h:k=i
     ·subst h;rw [h_ rfl,h_ (by omega)]
     ·rw [g_ h]
      dsimp only
      by_cases h2:k<i
      ·rw [h_ h2,h_ (by omega)]
      ·rw [g_ h2,g_ (by omega)])
    have HG2:Hid (ae w ((w2.setCell ⟨w.heap.size+1,i*2,none⟩ (.int .i64 nx)).setCell ⟨w.heap.size+1,i*2+1,none⟩ (.slice na nm nc))):=(B_ (p:=⟨w.heap.size+1,i*2,none⟩) (ae.trans (uh HR).2.1 hw2) (by show w.heap.size<=w.heap.size+1;omega) _).setCell (p:=⟨w.heap.size+1,i*2+1,none⟩) (by show w.heap.size<=w.heap.size+1;omega) _;have HZ2:Hid (((w2.setCell ⟨w.heap.size+1,i*2,none⟩ (.int .i64 nx)).setCell ⟨w.heap.size+1,i*2+1,none⟩ (.slice na nm nc)).heap[w.heap.size]?=some (.cells #[.int .i64 0,.slice none 0 0] 78 (0,0))):=by
     unfold Hid;rw [l_ _ _ _ _ (show w.heap.size≠w.heap.size+1 by omega),l_ _ _ _ _ (show w.heap.size≠w.heap.size+1 by omega)];exact Below.same hw2 _ _ (uh HR).2.2
    clear hv2 hw2 hR2;go_wp2;go_roundg (gk - 1)
    case measure=>omega
    case rel=>exact ⟨i+1,by simp,by omega,uh uI,uh HG2,uh HZ2⟩
   ·have hiN:i=N:=by omega
    obtain ⟨c1,c2,c3,c4,c5,c6⟩:=uh HC;have hrow:=((uh HR).1.congr (f':=λk=>-s.getD k 0) (λk hk=>by rw [h_ (by omega)])).row ((uh HQ).2.2 _ (d_ _));rw [zZ s N (uh HLEN)] at hrow;have DJ:=af (Av Q K b gl gc F n U L t (s.map λx=>-x) _ wr (λb' hb'=>(uh HQ).2.2 b' (by have:=(uh HR).1.lt;omega)) ((uh HT).grow (uh HR).2.1) hrow c1 c2 c3 hn hL (by rw [L_,uh HLEN,hN]) (λk=>by rw [Da];exact (uh Qy k).neg) c4 c5 hK c6);clear c1 c2 c3 c4 c5 c6 hrow;go_wp2_with fail;refine (uh DJ).mono ?_;rintro e w2 ⟨v2,gl2,t2,rfl,hO,hg,hTn,hv2,htop⟩;obtain ⟨nx,na,nm,nc,rfl⟩:=hv2.shape;have HO:=af hO;have HZ2:=af (su ((uh HT).grow (uh HR).2.1) hTn (uh HR).2.2 (by decide) (by decide) (by decide));have HTN:=af hTn;have Wx:=af htop;have HGL:=af hg;have HV:=af (dC hv2);have HN:=af (lF Q _ _ _ (dC hv2).val);have hw2:w.heap.size<w2.heap.size:=z_ (uh HZ2);clear hO hTn htop hv2 DJ hg;have v0:=(uh HV).cells.1;have v1:=(uh HV).cells.2.1;go_wp2_with fail;refine (uh HN).mono ?_;rintro e w3 ⟨v3,rfl,hv3,hw3⟩;obtain ⟨rx,ra,rm,rc,rfl⟩:=hv3.shape;have hG3:ae w2 w3:=ae.trans (ae.alloc _ _) hw3;have HZ3:=af (Below.same hG3 _ _ (uh HZ2));have oG:=af ((uh HO).grow hG3);obtain ⟨Le,z1',z2',z3'⟩:=au (uh HZ3);have HT3:Hid (bG (mh b gl gc) w w3):=((bG.cZ (uh HR).2.1).trans (uh HTN)).grow hG3;have wS:=af hv3;have hgn:gl2≠w.heap.size:=λe=>by
     obtain ⟨cs,hcs⟩:=nD (uh oG);have h2:=uh HZ3;rw [<-e,hcs] at h2;simp at h2
    have hho:Hid (Holds Q w3 ((w3.setCell ⟨w.heap.size,0,none⟩ (.int .i64 rx)).setCell ⟨w.heap.size,1,none⟩ (.slice ra rm rc))):=(fu (uh HQ).2.1 _ _).trans (fu (uh HQ).2.1 _ _);clear hv3 hw3 hG3 HN HV;go_wp2;refine t_ (v:=.agg #[.int .i64 rx,.slice ra rm rc]) (by simp [results,Tryz.results53,go_sem,Le,z1']) rfl ⟨_,gl2,t2,rfl,?_,?_,?_,?_,uh Wx⟩
    ·exact ((uh oG).holds (uh hho) (jN (by omega) _ _) (jN hgn _ _) (jN (by omega) _ _)).mono (λk _ hk=>(uh HQ).1 k hk) (uh HNP)
    ·rcases uh HGL with e | e
     ·exact .inl e
     ·exact .inr (w_ (uh HR).2.1.size e)
    ·exact ((uh HT3).zS (d_ _) _ _).zS (d_ _) _ _
    ·exact ((uh wS).ql (uh hho).xJ).mono (λk _ hk=>(uh HQ).1 k hk)
end
structure F3 (P:Nat->Prop) (w:World) (xs:List Value) (ls:List (Int × List Int)):Prop where
 len:xs.length=ls.length*2
 at_:∀ i,(hi:i<ls.length)->∃ u,xs[i*2]?=some (.int .i64 ls[i].1)∧xs[i*2+1]?=some u∧aD P w u ls[i].2
theorem F3.snoc {P:Nat->Prop} {w:World} {xs:List Value} {ls:List (Int × List Int)} (h:F3 P w xs ls) {x:Int} {u:Value} {row:List Int} (hu:aD P w u row):F3 P w (xs++[.int .i64 x,u]) (ls++[(x,row)]):=by
 refine ⟨by simp [h.len];omega,λi hi=>?_⟩;by_cases hl:i<ls.length
 ·obtain ⟨u',h1,h2,h3⟩:=h.at_ i hl;refine ⟨u',?_,?_,?_⟩
  ·rw [aah (by rw [h.len];omega),List.getElem_append_left hl];exact h1
  ·rw [aah (by rw [h.len];omega)];exact h2
  ·rw [List.getElem_append_left hl];exact h3
 ·have e:i=ls.length:=by simp at hi;omega
  subst e;refine ⟨u,?_,?_,?_⟩
  ·rw [R_ (by rw [h.len];omega),h.len];simp
  ·rw [R_ (by rw [h.len];omega),h.len];simp
  ·simpa using hu
set_option maxHeartbeats 4000000 in
theorem QJ (P:Nat->Prop) (b gl gc:Nat) (t:Pl.aR) (x:Int) (w:World) (h:aV P w b gl gc t) (hlen:t.lines.length<=1000) (hne:∃ r,r<t.lines.length∧t.name r≠x) :
  Calls Tryz.prog 68 #[.pointer (some ⟨b,0,none⟩),.int .i64 x] w λe w'=>∃ yQ:Nat,e=.returned (.tuple #[])∧aV P w' b yQ gc (t.drop x)∧w.heap.size<=yQ∧bG (mh b gl gc) w w':=by
 obtain ⟨i0,hi0,hz0,hz1,hz2⟩:=U_ Tryz.zi;have HT:=af h;have Xe:=af hne;obtain ⟨fE,jl,k0,k1,kf,Ie,I9,kl,xL,_⟩:=h.cells;have hf0:=kf 0;have VJ:=af kl;clear h hne kf Ie I9 kl xL k1;go_enter Tryz.func68,Tryz.ntmps68;go_wp2_with fail;go_loopg [4,5] t.lines.length (λk vl rv wr=>∃ (r:Nat) (xs:List Value) (la:Option Addr) (ln lc:Nat),rv=.int .i64 r∧vl=.slice la ln lc∧r+k=t.lines.length∧Hid (wr.ownsRow w.heap.size 111 2 (.slice la ln lc) ((t.lines.take r).filter (λl=>l.1 != x)).length xs∧F3 P w xs ((t.lines.take r).filter (λl=>l.1 != x))∧ae w wr))
 case atStart=>exact ⟨0,[],none,0,0,rfl,rfl,by omega,⟨rfl,.inl ⟨rfl,rfl⟩⟩,⟨rfl,λi hi=>by simp at hi⟩,ae.refl _⟩
 case round =>
  obtain ⟨r,xs,la,ln,lc,rfl,rfl,hrk,HR⟩:=hrel;have Wq:=(uh HR).2.2.cell k0;by_cases hlt:r<t.lines.length
  ·obtain ⟨kn,u,ku,hu⟩:=uh VJ r hlt;have kn:=(uh HR).2.2.cell kn;have ku:=(uh HR).2.2.cell ku;obtain ⟨ua,un,uc,rfl⟩:=hu.aB;have hfl:((t.lines.take (r+1)).filter (λl=>l.1 != x))=((t.lines.take r).filter (λl=>l.1 != x))++(if t.lines[r].1 != x then [t.lines[r]] else []):=by
    rw [W_ hlt,List.filter_append];congr 1;simp [List.filter_cons]
   have hk2:((t.lines.take r).filter (λl=>l.1 != x)).length<=1000:=w_ (abw _ _) (by rw [T_];omega);obtain ⟨nm,hnm⟩:∃ nm,t.lines[r].1=nm:=⟨_,rfl⟩;rw [hnm] at kn;by_cases hx:nm=x
   ·have HF:Hid ((t.lines.take (r+1)).filter (λl=>l.1 != x)=(t.lines.take r).filter (λl=>l.1 != x)):=by
     unfold Hid;rw [hfl,hnm,hx];simp
    have d0:(nm != x)=false:=by simp [hx]
    clear hfl hnm hx hu;go_wp2;go_roundg (gk - 1)
    case measure=>omega
    case rel=>exact ⟨r+1,xs,la,ln,lc,by simp,rfl,by omega,by rw [uh HF];exact (uh HR).1,by rw [uh HF];exact (uh HR).2.1,(uh HR).2.2⟩
   ·have HF:Hid ((t.lines.take (r+1)).filter (λl=>l.1 != x)=(t.lines.take r).filter (λl=>l.1 != x)++[t.lines[r]]):=by
     unfold Hid;rw [hfl,hnm,h_ (by simpa using hx)]
    have d0:(nm != x)=true:=by simpa using hx
    have HX:=af ((uh HR).2.1.snoc (x:=nm) hu);have HEN:Hid (t.lines[r]=(nm,t.lines[r].2)):=by rw [<-hnm];exact rfl
    have hal:=(uh HR).1.alloc (.cells #[.int .i64 nm,.slice ua un uc] 111);clear hfl hnm hx hu;obtain ⟨kk,hkk⟩:∃ kk,((t.lines.take r).filter (λl=>l.1 != x)).length=kk:=⟨_,rfl⟩;rw [hkk] at hal hk2;have HKK:=af hkk;clear hkk;go_wp2_with (at_builtin;refine wpList_append_lies _ rfl _ _ 107 rfl w.heap.size 111 i0 (.agg #[.int .i64 0,.slice none 0 0]) 2 32 Tryz.underlying107 hi0 hz0 hz1 hz2 rfl (by decide) _ kk xs rfl hal ⟨_,0,none⟩ 1 1 [.int .i64 nm,.slice ua un uc] rfl rfl ?d1 (by simp [Value.oneCell']) (by decide) ?d2 ?d3 ?d4 _ rfl ?_)
    case d1=>exact λj u hu=>World.news_of_block (aax _ _) j u hu
    case d2=>unfold maxLen;omega
    case d3=>omega
    case d4=>exact w_ (uh HR).2.2.size (by simp)
    ·intro g cap w2 hown1 hgrow hat hlt2;have HG2:Hid (ae w w2):=Below.grown (ae.trans (uh HR).2.2 (ae.alloc wr _)) hgrow (w_ (uh HR).2.2.size (by simp)) (bR hal);have iT:=af hown1;clear hown1 hgrow hat hlt2 hal;go_wp2;go_roundg (gk - 1)
     case measure=>omega
     case rel =>
      refine ⟨r+1,xs++[.int .i64 nm,.slice ua un uc],_,_,_,by simp,rfl,by omega,?_,?_,uh HG2⟩
      ·rw [uh HF,C_,uh HKK];exact uh iT
      ·rw [uh HF,uh HEN];exact uh HX
  ·have hrn:r=t.lines.length:=by omega
   have hdl:(t.lines.take r).filter (λl=>l.1 != x)=(t.drop x).lines:=by rw [hrn,aaG];rfl
   rw [hdl] at HR;have hpos:0<(t.drop x).lines.length:=by
    obtain ⟨q,hq,hqn⟩:=uh Xe;refine List.length_pos_of_mem (a:=t.lines[q]) ?_;rw [<-hdl,hrn,aaG];refine aaR.2 ⟨aak hq,?_⟩;rw [oo t hq];simpa using hqn
   obtain ⟨g,cap,hsl,hg1,hg2⟩:=(uh HR).1.form hpos;cases hsl;have hfr:wr.frozen? ⟨b,0,none⟩=false:=(vB ((uh HT).grow (uh HR).2.2) 0).2.2;have HF:Hid (aV P (wr.setCell ⟨b,0,none⟩ (.slice (some ⟨g,0,none⟩) (t.drop x).lines.length lc)) b g gc (t.drop x)):=by
    have h2:=(uh HT).grow (uh HR).2.2;have hlt2:=(uh HT).lt;obtain ⟨⟨ait,ZY,sx,sa,sm,sc,h1,h2,cs,h3,h4,h5,h6,h7⟩,⟨cc,h8,h9⟩,h10⟩:=h2;rcases (uh HR).1.2 with ⟨e,_⟩|⟨g',cap',cur,e,_,jS,hle,hmx,hsz,htk⟩
    ·cases e
    cases e;have e2:=j_ wr b 0 _ _ (.slice (some ⟨g,0,none⟩) (t.drop x).lines.length lc) h1;have hh:Holds P wr (wr.setCell ⟨b,0,none⟩ (.slice (some ⟨g,0,none⟩) (t.drop x).lines.length lc)):=bQ h1 (by decide) (λe=>absurd e (by decide)) _ _;refine ⟨⟨lc,ZY,sx,sa,sm,sc,e2,h2.ql hh.xJ,cur,?_,hsz,hle,hmx,λi hi=>?_⟩,⟨cc,?_,h9⟩,h10⟩
    ·rw [l_ _ _ _ _ (by have:=hlt2.1;show _≠b;omega)];exact jS
    ·obtain ⟨u,d1,d2,d3⟩:=(uh HR).2.1.at_ i hi;rw [<-htk,aac (by omega)] at d1;rw [<-htk,aac (by omega)] at d2;exact ⟨u,by simpa using d1,by simpa using d2,d3.holds ((Holds.aX (uh HR).2.2).trans hh)⟩
    ·rw [l_ _ _ _ _ (aaQ hlt2.2.2.2.2.1)];exact h8
   have HT2:Hid (bG (mh b gl gc) w (wr.setCell ⟨b,0,none⟩ (.slice (some ⟨g,0,none⟩) (t.drop x).lines.length lc))):=(bG.cZ (uh HR).2.2).setCell (.inl rfl) _ _;clear HR hdl hpos;go_wp2;go_end0;exact ⟨g,rfl,uh HF,hg1,uh HT2⟩
end Go.Proofs.YtgaafamcajcifaaGreat
