/- Joined: XMem8 XSim1 XSim2 XRows. -/
import Derived.Test.YtfaljekgpnbmiaaGreatJ06
import Derived.Test.YtfaljekgpnbmiaaGreatJ18
set_option linter.unusedVariables false
set_option linter.unusedSimpArgs false
set_option maxRecDepth 100000
namespace Go.Proofs.YtfaljekgpnbmiaaGreat
open Go.RowKit Go.Sort
theorem yY {t:Pl.aR} (h:mJ t) (r c:Nat) (sg:Int) (j:Nat):mJ (t.part r c sg j):=by
 refine ⟨by rw [Pl.eF];exact h.lines,h.aS,λl hl=>?_⟩;obtain ⟨i,hi,rfl⟩:=List.getElem_of_mem hl;rw [Pl.eF] at hi;rw [Pl.qw t r c sg j hi];by_cases e:i<j∧i≠r
 ·rw [h_ e];exact CS t i r c sg
 ·rw [g_ e];exact h.cells _ (aan hi)
theorem Q4 (l:List Int) {c:Nat} (hc:c<l.length):l.getD c 0=l[c]:=by
 rw [a_,f_ hc];rfl
theorem nH {P:Nat->Prop} {w:World} {b gl gc:Nat} {t:Pl.aR} (h:aV P w b gl gc t):∃ cs,w.heap[gl]?=some (.cells cs 324 (0,0)):=by
 obtain ⟨⟨fG,jq,sx,sa,sm,sc,h1,h2,cs,h3,_⟩,_⟩:=h;exact ⟨cs,h3⟩
theorem Ij {P:Nat->Prop} {w:World} {b gl gc:Nat} {t:Pl.aR} (h:aV P w b gl gc t):∃ cs,w.heap[gc]?=some (.cells cs 3 (0,0)):=by
 obtain ⟨_,⟨cs,h3,_⟩,_⟩:=h;exact ⟨cs,h3⟩
theorem vD {P:Nat->Prop} {w:World} {b gl gc:Nat} {t:Pl.aR} (h:aV P w b gl gc t) (o:Nat):w.frozen? ⟨gl,o,none⟩=false∧w.frozen? ⟨gc,o,none⟩=false∧w.frozen? ⟨b,o,none⟩=false:=by
 obtain ⟨fG,jq,k0,k1,kf,Ik,Je,_⟩:=h.cells;exact ⟨Ik o,Je o,kf o⟩
theorem TK {P:Nat->Prop} {w:World} {b gl gc:Nat} {t:Pl.aR} (h:aV P w b gl gc t) {i:Nat} (hi:i<t.lines.length) (x:Int) {v:Value} {row:List Int} (hv:aD P w v row) :
  aV P ((w.setCell ⟨gl,i*2,none⟩ (.int .i64 x)).setCell ⟨gl,i*2+1,none⟩ v) b gl gc { t with lines:=t.lines.set i (x,row) }:=by
 have h1:=h.setName hi x;have hh:Holds P w (w.setCell ⟨gl,i*2,none⟩ (.int .i64 x)):=bR (nH h).choose_spec (by decide) (λe=>absurd e (by decide)) _ _;have h2:=h1.setRow (i:=i) (by simpa using hi) (hv.holds hh)
 simpa [List.set_set] using h2
theorem yZ {P:Nat->Prop} {w:World} {g:Nat} {x:Int} {a:Option Addr} {m c:Nat} {n:Int} (h:bC P w g x a m c n) {k:Nat} {cs:Array Value} {T:TypeId} (hk:w.heap[k]?=some (.cells cs T (0,0))) (hT:T≠3) (hne:g≠k) (o1 o2:Nat) (u1 u2:Value):bC P ((w.setCell ⟨k,o1,none⟩ u1).setCell ⟨k,o2,none⟩ u2) g x a m c n :=
 ⟨by rw [l_ _ _ _ _ hne,l_ _ _ _ _ hne];exact h.heap,h.val.bX ((aA.setCell hk hT _ _).trans (aA.setCell (j_ w k o1 _ _ u1 hk) hT _ _))⟩
theorem KI {P:Nat->Prop} {w:World} {g:Nat} {x:Int} {a:Option Addr} {m c:Nat} {n:Int} (h:bC P w g x a m c n) {k:Nat} {cs:Array Value} (hk:w.heap[k]?=some (.cells cs 3 (0,0))) (hP:¬ P k) (o1:Nat) (u1:Value):bC P (w.setCell ⟨k,o1,none⟩ u1) g x a m c n :=
 ⟨by rw [l_ _ _ _ _ (λe=>by rw [e] at h;have:=h.heap;rw [hk] at this;simp at this)];exact h.heap,h.val.qp (bR hk (by decide) (λ_=>hP) _ _).xL⟩
theorem Q5 {P:Nat->Prop} {w:World} {b gl gc:Nat} {t:Pl.aR} (h:aV P w b gl gc t) {i:Nat} (hi:i<t.lines.length):(∃ u,w.cell? ⟨gl,i*2+1,none⟩=some u)∧w.frozen? ⟨gl,i*2+1,none⟩=false:=by
 obtain ⟨fG,jq,k0,k1,kf,Ik,Je,kl,_⟩:=h.cells;obtain ⟨_,u,k2,_⟩:=kl i hi;exact ⟨⟨u,k2⟩,Ik _⟩
section
section
section
attribute [local go_sem] bE
set_option maxHeartbeats 20000000 in
theorem CU (P:Nat->Prop) (K b gl gc:Nat) (t:Pl.aR) (w:World) (hP:∀ b,w.heap.size<=b->P b) (h:aV P w b gl gc t) (hfit:mJ t) (hlt:qi K t) (hK:2*K+1<=1500000000000) {r c:Nat} (hr:r<t.lines.length) (hc:c<t.aS.length) (hp:t.cell r (c+1)≠0) :
  Calls Tryz.prog 269 #[.pointer (some ⟨b,0,none⟩),.int .i64 r,.int .i64 c] w λe w'=>e=.returned (.tuple #[])∧aV P w' b gl gc (t.swap r c)∧bH (mD b gl gc) w w':=by
 have HT:=af h;have uM:=af hfit;have lF:=af hlt;have hn1:=hfit.lines;have hn2:=hfit.aS;have hwc:IntKind.i64.wrap ((c:Int)+1)=(c:Int)+1:=by rw [aaE];omega
 obtain ⟨sg,hsg⟩:∃ sg,Int.sign (t.cell r (c+1))=sg:=⟨_,rfl⟩;have hs:sg=1∨sg=-1:=by
  rw [<-hsg];rcases (show t.cell r (c+1)<0∨0<t.cell r (c+1) by omega) with h|h
  ·exact .inr (E_ h)
  ·exact .inl (J_ h)
 have wB:=af (jR P b t w h.wX hn1 hfit.le hr (j:=c+1) (by rw [hfit.row hr];omega));have e1:((c+1:Nat):Int)=(c:Int)+1:=by omega
 rw [e1] at wB;clear e1;obtain ⟨fG,jq,k0,k1,kf,Ik,Je,kl,xN,_⟩:=h.cells;obtain ⟨Xd,ur,Ya,hur⟩:=kl r hr;rw [oD t hr] at Xd;obtain ⟨ua,un,uc,rfl⟩:=hur.aB;clear h hfit hlt hp kl xN kf Ik Je hur;go_enter Tryz.func269,Tryz.ntmps269;go_wp2_with fail;refine (uh wB).mono ?_;rintro e w1 ⟨v1,rfl,hv1,hw1⟩;obtain ⟨px,pa,pm,pc,rfl⟩:=hv1.shape;have wR:=af (dD hv1);have dP:Hid (ae w (w1.alloc (.cells #[.int .i64 px,.slice pa pm pc] 168))):=ae.trans hw1 (ae.alloc _ _);clear hv1 hw1 wB;go_wp2_with fail;generalize hW1:w1.alloc (.cells #[.int .i64 px,.slice pa pm pc] 168)=W1 at *
 generalize hg1:w1.heap.size=g1 at *
 clear hW1 hg1 w1;refine (bZ P _ _ _ (uh wR).val).mono ?_;rintro e w2 ⟨rfl,hw2⟩;rw [hsg];have k0:=(ae.trans (uh dP) hw2).cell k0;have k1:=(ae.trans (uh dP) hw2).cell k1;have Xd:=(ae.trans (uh dP) hw2).cell Xd;have Ya:=(ae.trans (uh dP) hw2).cell Ya;have HG2:Hid (ae w w2):=ae.trans (uh dP) hw2;have G6:=af ((uh wR).grow hw2);have xu:g1<w2.heap.size:=(uh G6).lt;clear hw2 wR dP;go_wp2_with fail;have TL:Hid (ae w (w2.alloc (.cells #[.int .i64 (t.name r),.slice ua un uc] 324))):=ae.trans (uh HG2) (ae.alloc _ _);have HVo:=af ((uh G6).grow (ae.alloc _ (.cells #[.int .i64 (t.name r),.slice ua un uc] 324)));have HOl:Hid ((w2.alloc (.cells #[.int .i64 (t.name r),.slice ua un uc] 324)).heap[w2.heap.size]?=some (.cells #[.int .i64 (t.name r),.slice ua un uc] 324)):=aG _ _;have HTo:=af ((uh HT).grow (uh TL));have hgo:w.heap.size<=w2.heap.size:=(uh HG2).size;generalize hWo:w2.alloc (.cells #[.int .i64 (t.name r),.slice ua un uc] 324)=Wo at *
 generalize hg2:w2.heap.size=g2 at *
 clear hWo hg2 HG2 G6 k0 k1 Xd Ya w2;have hb1:=(uh HT).lt;have aae:g1≠gl:=λe=>by have h1:=(uh HVo).heap;rw [e,(nH (uh HTo)).choose_spec] at h1;simp at h1
 have TM:g2≠gl:=by omega
 clear hb1 xu hgo;go_loopg [9] t.lines.length (λk jv wr=>∃ (j:Nat),jv=.int .i64 j∧j+k=t.lines.length∧Hid (aV P wr b gl gc (t.part r (c+1) sg j)∧iw gl Wo wr))
 case atStart=>exact ⟨0,rfl,by omega,by rw [Pl.N7];exact uh HTo,.aX (ae.refl _)⟩
 case round =>
  obtain ⟨j,rfl,hjk,HR⟩:=hrel;have HGr:Hid (bH (mD b gl gc) w wr):=(bH.dh (uh TL)).trans ((bH.TN (uh HR).2).mono (λk _ e=>.inr (.inl e)));have HPr:Hid (∀ b,wr.heap.size<=b->P b):=λb' hb'=>hP b' (by have:=(uh HGr).size;omega);obtain ⟨sj,U2,k0,k1,kf,Ik,Je,kl,xN,_⟩:=(uh HR).1.cells;rw [Pl.eF] at k0;change wr.cell? ⟨b,1,none⟩=some (.slice (some ⟨gc,0,none⟩) t.aS.length U2) at k1;by_cases hlt:j<t.lines.length
  ·by_cases hjr:j=r
   ·subst hjr;have HF:Hid (aV P wr b gl gc (t.part j (c+1) sg (j+1))):=by unfold Hid;rw [Pl.N8];exact (uh HR).1
    clear kl xN kf Ik Je;go_wp2;go_roundg (gk - 1)
    case measure=>omega
    case rel=>exact ⟨j+1,by simp,by omega,uh HF,(uh HR).2⟩
   ·have tne:((j:Int) != (r:Int))=true:=by simp;omega
    have hjp:j<(t.part r (c+1) sg j).lines.length:=by rw [Pl.eF];exact hlt
    have hrp:r<(t.part r (c+1) sg j).lines.length:=by rw [Pl.eF];exact hr
    have N9:=af (λw1 (hg:ae wr w1)=>Q3 P K b (t.part r (c+1) sg j) w1 (λb' hb'=>uh HPr b' (by have:=hg.size;omega)) ((uh HR).1.grow hg).wX (yY (uh uM) r (c+1) sg j) (c:=c+1)
     ⟨λk hk=>by rw [Pl.su t r (c+1) sg j (.inl (d_ _))];exact (uh lF).cell j k hlt hk,λk hk=>by rw [Pl.su t r (c+1) sg j (.inr rfl)];exact (uh lF).cell r k hr hk,(uh lF).scale⟩ hK hjp hrp (show c+1<t.aS.length+1 by omega) hs)
    rw [Pl.Oa] at N9;have e1:((c+1:Nat):Int)=(c:Int)+1:=by omega
    rw [e1] at N9;obtain ⟨ael,uj,kuj,aem⟩:=kl j hjp;clear ael aem;clear e1 hjp hrp kl xN kf Ik Je;have y1:=b_ k0;go_wp2_with fail;clear k0 k1;refine ah (cK [(71,λv w=>aD P w v (t.told j r (c+1) sg))]) (gL [(71,bf)]) 107 14 (by kernel_rfl) (by rfl) (by kernel_rfl) (aN (λ_ _ _=>aD.below) cO) ?_
    iterate 11 (refine aO λK hK=>?_;go_simp;refine hK _ ?_;clear hK K)
    refine ai bf 341 #[.pointer (some ⟨b,0,none⟩),.int .i64 j,.int .i64 r,.int .i64 (c+1),.int .i64 sg] (by rfl) (by rfl) bf.some (λw=>by go_simp) (λw1 hg hf=>(uh N9 w1 hg).mono (by rintro e w' ⟨v',rfl,hv,hb⟩;exact ⟨_,rfl,hb,hv.aB,λt ht=>by cases ht;exact hv⟩)) ?_;rintro _ ⟨ta,tm,tc,rfl⟩
    iterate 2 (refine aO λK hK=>?_;go_simp;refine hK _ ?_;clear hK K)
    refine aF ?_;intro w6 rM aK;have q71:aD P w6 (.slice ta tm tc) (t.told j r (c+1) sg):=aK 11 _ 71 (by decide) rfl rfl;clear aK y1;have U4:=(uh HR).1.grow rM;have hs1:=ae.cell rM kuj;have hs2:=(Q5 U4 (i:=j) (by rw [Pl.eF];exact hlt)).2;have HF:Hid (aV P (w6.setCell ⟨gl,j*2+1,none⟩ (.slice ta tm tc)) b gl gc (t.part r (c+1) sg (j+1))):=by
     unfold Hid;rw [Pl.Ob t r (c+1) sg hlt hjr];exact U4.setRow (by rw [Pl.eF];exact hlt) q71
    have Pd:Hid (iw gl Wo (w6.setCell ⟨gl,j*2+1,none⟩ (.slice ta tm tc))):=((uh HR).2.grow rM).setCell _ _;clear U4 q71 rM N9 kuj;go_wp2;go_roundg (gk - 1)
    case measure=>omega
    case rel=>exact ⟨j+1,by simp,by omega,uh HF,uh Pd⟩
  ·have hjn:j=t.lines.length:=by omega
   subst hjn;have N9:=af (λw1 (hg:ae wr w1)=>KG P b (t.part r (c+1) sg t.lines.length) w1 (λb' hb'=>uh HPr b' (by have:=hg.size;omega)) ((uh HR).1.grow hg).wX (yY (uh uM) r (c+1) sg _).lines (yY (uh uM) r (c+1) sg _).le (uh uM).aS (c:=c+1) (by rw [Pl.eF];exact hr) ((yY (uh uM) r (c+1) sg _).row (by rw [Pl.eF];exact hr)) hs);rw [Pl.Il] at N9;have e1:((c+1:Nat):Int)=(c:Int)+1:=by omega
   rw [e1] at N9;have hrp:r<(t.part r (c+1) sg t.lines.length).lines.length:=by rw [Pl.eF];exact hr
   obtain ⟨Xd,ur',Ya,kr2⟩:=kl r hrp;clear kr2;have kc0:=xN c hc;obtain ⟨cc,hcc⟩:∃ cc,t.fu c=cc:=⟨_,rfl⟩;have ecc:(t.part r (c+1) sg t.lines.length).aS[c]=cc:=by rw [<-hcc];exact (Q4 _ hc).symm
   rw [ecc] at kc0;have HCC:=af hcc;have HOr:=af ((uh HR).2.block g2 (z_ (uh HOl)) TM);have HVr:=af ((uh HVo).only (uh HR).2 (nH (uh HTo)).choose_spec (by decide) aae);clear ecc hcc e1 kl xN kf Ik Je hjk;have y1:=b_ k0;have y2:=b_ k1;have y3:=b_ kc0;go_wp2_with fail;clear k0 k1 kc0;refine ah (cK [(91,λv w=>aD P w v (t.bL r (c+1) sg))]) (gL [(91,bf)]) 107 20 (by kernel_rfl) (by rfl) (by kernel_rfl) (aN (λ_ _ _=>aD.below) cO) ?_
   iterate 17 (refine aO λK hK=>?_;go_simp;refine hK _ ?_;clear hK K)
   refine ai bf 342 #[.pointer (some ⟨b,0,none⟩),.int .i64 r,.int .i64 (c+1),.int .i64 sg] (by rfl) (by rfl) bf.some (λw=>by go_simp) (λw1 hg hf=>(uh N9 w1 hg).mono (by rintro e w' ⟨v',rfl,hv,hb⟩;exact ⟨_,rfl,hb,hv.aB,λt ht=>by cases ht;exact hv⟩)) ?_;rintro _ ⟨ta,tm,tc,rfl⟩
   iterate 2 (refine aO λK hK=>?_;go_simp;refine hK _ ?_;clear hK K)
   refine aF ?_;intro w6 rM aK;have q91:aD P w6 (.slice ta tm tc) (t.bL r (c+1) sg):=aK 17 _ 91 (by decide) rfl rfl;clear aK y1 y2 y3;have U4:=(uh HR).1.grow rM;have hs0:=ae.cell rM Xd;have hs1:=ae.cell rM Ya;have hs2:=λo=>(vD U4 o).1;have Sw:Hid (aV P ((w6.setCell ⟨gl,r*2,none⟩ (.int .i64 cc)).setCell ⟨gl,r*2+1,none⟩ (.slice ta tm tc)) b gl gc { t.part r (c+1) sg t.lines.length with lines:=(t.part r (c+1) sg t.lines.length).lines.set r (cc,t.bL r (c+1) sg) }):=TK U4 hrp cc q91;have HT7:Hid (bH (mD b gl gc) w ((w6.setCell ⟨gl,r*2,none⟩ (.int .i64 cc)).setCell ⟨gl,r*2+1,none⟩ (.slice ta tm tc))):=(((uh HGr).grow rM).setCell (.inr (.inl rfl)) _ _).setCell (.inr (.inl rfl)) _ _;have Q6:Hid (((w6.setCell ⟨gl,r*2,none⟩ (.int .i64 cc)).setCell ⟨gl,r*2+1,none⟩ (.slice ta tm tc)).heap[g2]?=some (.cells #[.int .i64 (t.name r),.slice ua un uc] 324)):=by
    unfold Hid;rw [l_ _ _ _ _ TM,l_ _ _ _ _ TM,ab_ rM _ (z_ ((uh HOr).trans (uh HOl))),uh HOr];exact uh HOl
   have O0:=af (yZ ((uh HVr).grow rM) (nH U4).choose_spec (by decide) aae (r*2) (r*2+1) (.int .i64 cc) (.slice ta tm tc));clear U4 q91 rM N9 Xd Ya HOr HVr;go_wp2_with fail;generalize TJ:(w6.setCell ⟨gl,r*2,none⟩ (.int .i64 cc)).setCell ⟨gl,r*2+1,none⟩ (.slice ta tm tc)=W7 at *
   clear TJ hs0 hs1 hs2 w6 ur';obtain ⟨aib,aag,k0,k1,kf,Ik,Je,kl,xN,_⟩:=(uh Sw).cells;have ko:W7.cell? ⟨g2,0,none⟩=some (.int .i64 (t.name r)):=(cellsOf (uh Q6) 0).trans rfl;change W7.cell? ⟨b,1,none⟩=some (.slice (some ⟨gc,0,none⟩) t.aS.length aag) at k1;have kc7:=xN c hc;have y1:=b_ k1;have y2:=b_ ko;clear kl xN kf Ik Je k0 k1 ko;refine ah (cK []) (gL []) 107 8 (by kernel_rfl) (by rfl) (by kernel_rfl) (dz (by simp)) ?_
   iterate 8 (refine aO λK hK=>?_;go_simp;refine hK _ ?_;clear hK K)
   refine aF ?_;intro w8 Dv aK;clear aK y1 y2;have hs0:=ae.cell Dv kc7;have hs1:=λo=>(vD ((uh Sw).grow Dv) o).2.1;have Pd:=af (((uh Sw).grow Dv).Xe (i:=c) hc (t.name r));have HT9:Hid (bH (mD b gl gc) w (w8.setCell ⟨gc,c,none⟩ (.int .i64 (t.name r)))):=((uh HT7).grow Dv).setCell (.inr (.inr rfl)) _ _;have Fz:=af (KI ((uh O0).grow Dv) (Ij ((uh Sw).grow Dv)).choose_spec (uh Sw).notP c (.int .i64 (t.name r)));clear Dv Sw HT7 Q6 O0 kc7;have v0:=(uh Fz).cells.1;have v1:=(uh Fz).cells.2.1;go_wp2_with fail;refine (tu P _ _ _ (uh Fz).val).mono ?_;rintro e w9 ⟨v9,rfl,Yb,rF⟩;obtain ⟨bx,ba,bm,bc,rfl⟩:=Yb.shape;have hO9:=(uh Pd).grow rF;have hf9:=λo=>(vD hO9 o).2.2;obtain ⟨_,_,_,_,_,_,_,_,_,sx,sa,sm,sc,z0,z1,_⟩:=hO9.cells;have aah:(if t.cell r (c+1)<0 then -t.cell r (c+1) else t.cell r (c+1))=((t.cell r (c+1)).natAbs:Int):=by
    split <;> omega
   rw [aah] at Yb;have HFin:=af (hO9.Q7 Yb);have aeo:Hid (bH (mD b gl gc) w ((w9.setCell ⟨b,2,none⟩ (.int .i64 bx)).setCell ⟨b,3,none⟩ (.slice ba bm bc))):=(((uh HT9).grow rF).setCell (.inl rfl) _ _).setCell (.inl rfl) _ _;have HEQ:Hid (({ lines:=(t.part r (c+1) sg t.lines.length).lines.set r (cc,t.bL r (c+1) sg),aS:=t.aS.set c (t.name r),scale:=((t.cell r (c+1)).natAbs:Int) }:Pl.aR)=t.swap r c):=by
    unfold Hid;rw [<-uh HCC,<-hsg];exact Pl.Oc t hr
   clear aah Yb rF hO9 Pd HT9 Fz v0 v1;go_wp2;go_end0;refine ⟨rfl,?_,uh aeo⟩;rw [<-uh HEQ];exact uh HFin
end
structure Good (F:Int->Nat->Int) (n:Nat) (U:List Int) (L:Nat) (t:Pl.aR):Prop where
 ok:Pl.bN F n t
 names:Pl.ik n t
 stat:Pl.Stat U n t
 aS:∀ c,c<n->0<=t.fu c
 len:t.lines.length=L
theorem Good.fit {F:Int->Nat->Int} {n:Nat} {U:List Int} {L:Nat} {t:Pl.aR} (h:Good F n U L t) (hn:n<=100) (hL:L<=1000):mJ t :=
 ⟨by rw [h.len];exact hL,by rw [h.ok.aS];exact hn,λl hl=>by rw [h.ok.aS];exact h.ok.cells l hl⟩
theorem sD {n:Nat} {t:Pl.aR} (hn:t.aS.length=n) (hc:∀ c,c<n->0<=t.fu c) {r c:Nat} (hcn:c<n) (hr:0<=t.name r):∀ k,k<n->0<=(t.swap r c).fu k:=by
 intro k hk;rw [Pl.aR.j5 t r c k (by omega)]
 split
 ·exact hr
 ·exact hc k hk
def nT (t:Pl.aR):Prop:=∀ k,k<t.lines.length->0<=t.name k->0<=t.cell k 0
def Mg (n:Nat) (t:Pl.aR):Prop:=∃ r,r<t.lines.length∧0<=t.name r∧t.cell r 0<0∧∀ c,c<n->t.cell r (c+1)<=0
set_option maxHeartbeats 2000000 in
theorem H8 (P:Nat->Prop) (K b gl gc:Nat) (F:Int->Nat->Int) (n:Nat) (U:List Int) (L:Nat) (t:Pl.aR) (w:World) (hP:∀ b,w.heap.size<=b->P b) (h:aV P w b gl gc t) (hgood:Good F n U L t) (hn:n<=100) (hL:L<=1000) (hall:∀ t',Good F n U L t'->qi K t') (hK:2*K+1<=1500000000000) :
  Calls Tryz.prog 218 #[.pointer (some ⟨b,0,none⟩)] w λe w'=>∃ (qI:Bool) (t':Pl.aR),e=.returned (.bool qI)∧aV P w' b gl gc t'∧bH (mD b gl gc) w w'∧Good F n U L t'∧(qI=false->nT t')∧(qI=true->Mg n t'):=by
 have HT:=af h;have Mh:=af hgood;have HA:=af hall;clear h hgood hall;go_enter Tryz.func218,Tryz.ntmps218;go_wp2_with fail;go_loopg [] (U.length^n) (λk wr=>∃ (t':Pl.aR) (s:Nat),s+k=U.length^n∧Hid (aV P wr b gl gc t'∧bH (mD b gl gc) w wr∧Pl.Trail F n U t t' s∧Good F n U L t'))
 case atStart=>exact ⟨t,0,by omega,uh HT,bH.refl _ _,.start (uh Mh).ok (uh Mh).names (uh Mh).stat,uh Mh⟩
 case round =>
  obtain ⟨t',s,hsk,HR⟩:=hrel;have hfit:=(uh HR).2.2.2.fit hn hL;have HF:=af hfit;have hlen:=(uh HR).2.2.2.len;have hcl:=(uh HR).2.2.2.ok.aS;have D9:=af (x_ hlen hcl);clear hlen hcl;go_wp2_with fail;refine (qQ P b t' wr (uh HR).1.wX hfit).mono ?_;rintro e w1 ⟨c,rfl,mW,hw1⟩;have HB:=af mW;have dP:Hid (ae wr w1):=hw1;clear hfit hw1;rcases mW with ⟨rfl,hno⟩|⟨r,hr,rfl,hur,kC⟩
  ·have HD:Hid (nT t'):=λk hk h0=>by have:=hno k hk;simp only [not_and] at this;have:=this h0;omega
   clear hno;go_wp2;go_ret;exact ⟨false,t',rfl,(uh HR).1.grow (uh dP),(uh HR).2.1.grow (uh dP),(uh HR).2.2.2,λ_=>uh HD,λh=>(by cases h)⟩
  ·have Sk:=af hur;have Js:=af kC;have hr0:¬ ((r:Int)<0):=by omega
   clear hur kC HB;go_wp2_with fail;refine (oI P b t' w1 ((uh HR).1.grow (uh dP)).wX (uh HF).lines (uh HF).le (uh HF).aS hr ((uh HF).row hr)).mono ?_;rintro e w2 ⟨c,rfl,mW,hw2⟩;have HG2:Hid (ae wr w2):=ae.trans (uh dP) hw2;clear hw2;rcases mW with ⟨rfl,hno⟩|⟨c,hc,rfl,huc,kC⟩
   ·have HD:Hid (Mg n t'):=⟨r,hr,(uh Sk).1,(uh Sk).2,λk hk=>by
     have h1:=hno k (by rw [(uh D9).2];exact hk);have h2:=(uh HR).2.2.2.aS k hk;rcases (show 0<t'.cell r (k+1)∨t'.cell r (k+1)<=0 by omega) with h3|h3
     ·exact absurd ⟨h2,h3⟩ h1
     ·exact h3⟩
    clear hno;go_wp2;go_ret;exact ⟨true,t',rfl,(uh HR).1.grow (uh HG2),(uh HR).2.1.grow (uh HG2),(uh HR).2.2.2,λh=>(by cases h),λ_=>uh HD⟩
   ·have hc0:¬ ((c:Int)<0):=by omega
    have hcn:c<n:=by rw [<-(uh D9).2];exact hc
    have HTr:=af ((uh HR).2.2.1.snoc hr hcn (uh Sk).1 (uh Sk).2 (λk hk h1 h2=>uh Js k hk ⟨h1,h2⟩) huc.1 huc.2 (λk hk h1 h2=>kC k (by rw [(uh D9).2];exact hk) ⟨h1,h2⟩));have Xl:Hid (Good F n U L (t'.swap r c)):=⟨(uh HTr).last.1,(uh HTr).last.2.1,(uh HTr).last.2.2.1,sD (uh D9).2 (uh HR).2.2.2.aS hcn (uh Sk).1,by rw [Pl.aR.iI];exact (uh D9).1⟩;have hs1:=(uh HTr).last.2.2.2;have hne:t'.cell r (c+1)≠0:=by have:=huc.2;omega
    have HSW:=af (CU P K b gl gc t' w2 (λb' hb'=>hP b' (by have:=((uh HR).2.1.grow (uh HG2)).size;omega)) ((uh HR).1.grow (uh HG2)) (uh HF) (uh HA _ (uh HR).2.2.2) hK hr hc hne);clear huc kC hne;go_wp2_with fail;refine (uh HSW).mono ?_;rintro e w3 ⟨rfl,hO3,Mi⟩;have oJ:=af hO3;have HT3:=af (((uh HR).2.1.grow (uh HG2)).trans Mi);clear hO3 Mi;go_wp2;go_roundg (gk - 1)
    case measure=>omega
    case rel=>exact ⟨t'.swap r c,s+1,by omega,uh oJ,uh HT3,uh HTr,uh Xl⟩
end
structure Fair (F:Int->Nat->Int) (n:Nat) (U:List Int) (L c:Nat) (t:Pl.aR):Prop where
 ok:Pl.bN F n t
 names:Pl.ik n t
 stat:Pl.Stat U n t
 aS:∀ k,k<c->0<=t.fu k
 len:t.lines.length=L
theorem Fair.fit {F:Int->Nat->Int} {n:Nat} {U:List Int} {L c:Nat} {t:Pl.aR} (h:Fair F n U L c t) (hn:n<=100) (hL:L<=1000):mJ t :=
 ⟨by rw [h.len];exact hL,by rw [h.ok.aS];exact hn,λl hl=>by rw [h.ok.aS];exact h.ok.cells l hl⟩
theorem Fair.lN {F:Int->Nat->Int} {n:Nat} {U:List Int} {L:Nat} {t:Pl.aR} (h:Fair F n U L n t):Good F n U L t:=⟨h.ok,h.names,h.stat,h.aS,h.len⟩
theorem Good.fair {F:Int->Nat->Int} {n:Nat} {U:List Int} {L:Nat} {t:Pl.aR} (h:Good F n U L t):Fair F n U L 0 t:=⟨h.ok,h.names,h.stat,λk hk=>by omega,h.len⟩
theorem Fair.none {F:Int->Nat->Int} {n:Nat} {U:List Int} {L c:Nat} {t:Pl.aR} (h:Fair F n U L c t):Fair F n U L 0 t:=⟨h.ok,h.names,h.stat,λk hk=>by omega,h.len⟩
theorem Fair.swap {F:Int->Nat->Int} {n:Nat} {U:List Int} {L c:Nat} {t:Pl.aR} (h:Fair F n U L c t) {r:Nat} (hr:r<t.lines.length) (hc:c<n) (hp:t.cell r (c+1)≠0) (hnm:0<=t.name r):Fair F n U L (c+1) (t.swap r c):=by
 refine ⟨h.ok.swap hr hc hp,h.names.swap h.ok.aS hr hc,h.stat.swap h.names h.ok.aS hr hc,λk hk=>?_,by rw [Pl.aR.iI];exact h.len⟩;rw [Pl.aR.j5 t r c k (by rw [h.ok.aS];exact hc)]
 split
 ·exact hnm
 ·exact h.aS k (by omega)
set_option maxHeartbeats 4000000 in
theorem Ox (P:Nat->Prop) (K b gl gc:Nat) (F:Int->Nat->Int) (n m:Nat) (U:List Int) (L:Nat) (t:Pl.aR) (w:World) (hP:∀ b,w.heap.size<=b->P b) (h:aV P w b gl gc t) (hgood:Fair F n U L 0 t) (hn:n<=100) (hL:L<=1000) (hall:∀ t',Fair F n U L 0 t'->qi K t') (hK:2*K+1<=1500000000000) (hU:∀ i:Nat,i<m->(i:Int)∈U) (hT:Pl.gM F n m) :
  Calls Tryz.prog 266 #[.pointer (some ⟨b,0,none⟩)] w λe w'=>∃ t':Pl.aR,e=.returned (.tuple #[])∧aV P w' b gl gc t'∧bH (mD b gl gc) w w'∧Good F n U L t':=by
 have HT:=af h;have Mh:=af hgood;have HA:=af hall;have HU:=af hU;have N9:=af hT;clear h hgood hall hU hT;go_enter Tryz.func266,Tryz.ntmps266;go_wp2_with fail;go_loopg [2] n (λk cv wr=>∃ (t':Pl.aR) (c:Nat),cv=.int .i64 c∧c+k=n∧Hid (aV P wr b gl gc t'∧bH (mD b gl gc) w wr∧Fair F n U L c t'))
 case atStart=>exact ⟨t,0,rfl,by omega,uh HT,bH.refl _ _,uh Mh⟩
 case round =>
  rename Nat=>go;rename World=>wo;obtain ⟨t',c,rfl,hck,HR⟩:=hrel;have hcl:=(uh HR).2.2.ok.aS;have HF:=af ((uh HR).2.2.fit hn hL);obtain ⟨fG,jq,k0,k1,kf,Ik,Je,kl,xN,_⟩:=(uh HR).1.cells;rw [hcl] at k1;clear kf Ik Je xN;by_cases hlt:c<n
  ·have hlen:=(uh HR).2.2.len;rw [hlen] at k0;have D9:=af (x_ hlen hcl);clear hcl hlen;go_wp2_with fail;go_loopg [3] L (λk rv wr=>∃ (r:Nat),rv=.int .i64 r∧r+k=L∧Hid (ae wo wr∧∀ r',r'<r->0<=t'.name r'->t'.cell r' (c+1)=0))
   case atStart=>exact ⟨0,rfl,by omega,ae.refl _,λr' hr'=>by omega⟩
   case round =>
    obtain ⟨r,rfl,hrk,HI⟩:=hrel;have Xm:=(uh HI).1.cell k0;by_cases hrl:r<L
    ·have hr:r<t'.lines.length:=by rw [(uh D9).1];exact hrl
     obtain ⟨kn,ur,_,hur⟩:=kl r hr;rw [oD t' hr] at kn;have knr:=(uh HI).1.cell kn;clear kn hur;obtain ⟨nm,hnm⟩:∃ nm,t'.name r=nm:=⟨_,rfl⟩;rw [hnm] at knr;have HN:=af hnm;clear hnm;by_cases h0:0<=nm
     ·have d0:decide (0<=nm)=true:=aaI h0;have HC:=af (jR P b t' wr ((uh HR).1.grow (uh HI).1).wX (uh HF).lines (uh HF).le hr (j:=c+1) (by rw [(uh HF).row hr,(uh D9).2];omega));have e1:((c+1:Nat):Int)=(c:Int)+1:=by omega
      rw [e1] at HC;clear e1;go_wp2_with fail;refine (uh HC).mono ?_;rintro e w1 ⟨v1,rfl,hv1,hw1⟩;have dP:Hid (ae wr w1):=hw1;have HS:=af (bZ P _ _ _ hv1);clear hv1 hw1 HC;go_wp2_with fail;refine (uh HS).mono ?_;rintro e w2 ⟨rfl,hw2⟩;have HG2:Hid (ae wo w2):=((uh HI).1.trans (uh dP)).trans hw2;clear hw2 HS dP;by_cases hz:t'.cell r (c+1)=0
      ·have HI2:Hid (∀ r',r'<r+1->0<=t'.name r'->t'.cell r' (c+1)=0):=λr' hr' hn'=>by
        rcases (show r'<r∨r'=r by omega) with h|h
        ·exact (uh HI).2 r' h hn'
        ·rw [h];exact hz
       rw [hz];have es:Int.sign 0=0:=rfl;rw [es];clear hz es;go_wp2;go_roundg (gk - 1)
       case measure=>omega
       case rel=>exact ⟨r+1,by simp,by omega,uh HG2,uh HI2⟩
      ·have HSW:=af (CU P K b gl gc t' w2 (λb' hb'=>hP b' (by have:=((uh HR).2.1.grow (uh HG2)).size;omega)) ((uh HR).1.grow (uh HG2)) (uh HF) (uh HA _ (uh HR).2.2.none) hK hr (c:=c) (by rw [(uh D9).2];exact hlt) hz);have HFS:=af ((uh HR).2.2.swap hr hlt hz (by rw [uh HN];exact h0));obtain ⟨sg,hsg⟩:∃ sg,Int.sign (t'.cell r (c+1))=sg:=⟨_,rfl⟩;have d1:(sg != 0)=true:=by
        rw [<-hsg];simp [abI,hz]
       rw [hsg];clear hsg hz;go_wp2_with fail;refine (uh HSW).mono ?_;rintro e w3 ⟨rfl,hO3,Mi⟩;have oJ:=af hO3;have HT3:=af (((uh HR).2.1.grow (uh HG2)).trans Mi);clear hO3 Mi;go_wp2;go_roundg (go - 1)
       case measure=>omega
       case rel=>exact ⟨t'.swap r c,c+1,by simp,by omega,uh oJ,uh HT3,uh HFS⟩
     ·have d0:decide (0<=nm)=false:=aaf h0;have HI2:Hid (∀ r',r'<r+1->0<=t'.name r'->t'.cell r' (c+1)=0):=λr' hr' hn'=>by
       rcases (show r'<r∨r'=r by omega) with h|h
       ·exact (uh HI).2 r' h hn'
       ·rw [h,uh HN] at hn';exact absurd hn' h0
      have HG2:=af (uh HI).1;clear h0 kl;go_wp2;go_roundg (gk - 1)
      case measure=>omega
      case rel=>exact ⟨r+1,by simp,by omega,uh HG2,uh HI2⟩
    ·exact (Pl.K5 (uh HR).2.2.ok hlt (λi hi=>(uh HR).2.2.stat.all _ (uh HU i hi)) (λk hk hn'=>by rw [(uh D9).1] at hk;rw [(uh HI).2 k (by omega) hn'];omega) (uh N9)).elim
  ·have hcn:c=n:=by omega
   have HF2:Hid (Good F n U L t'):=by subst hcn;exact (uh HR).2.2.lN
   clear hcl kl HF;go_wp2;go_end0;exact ⟨t',rfl,(uh HR).1,(uh HR).2.1,uh HF2⟩
end
def aM (P:Nat->Prop) (w:World) (v:Value) (ls:List (List Int)):Prop:=∃ ad cap,v=.slice ad ls.length cap∧ls.length<=cap∧∀ i,(hi:i<ls.length)->∃ g off u,ad=some ⟨g,off,none⟩ ∧
 w.cell? ⟨g,off+i,none⟩=some u∧aD P w u ls[i]∧P g∧∃ cs,w.heap[g]?=some (.cells cs 159 (0,0))
theorem aM.holds {P:Nat->Prop} {w w':World} {v:Value} {ls:List (List Int)} (h:aM P w v ls) (hb:Holds P w w'):aM P w' v ls:=by
 obtain ⟨ad,cap,rfl,hc,h⟩:=h;refine ⟨ad,cap,rfl,hc,λi hi=>?_⟩;obtain ⟨g,off,u,e,c1,hr,hp,cs,hcs⟩:=h i hi;have hs:=hb g cs _ (.inr (.inr rfl)) hp hcs;exact ⟨g,off,u,e,by rw [cellsOf (hs.trans hcs),<-cellsOf hcs];exact c1,hr.holds hb,hp,cs,hs.trans hcs⟩
theorem aM.below {P:Nat->Prop} {w w':World} {v:Value} {ls:List (List Int)} (h:aM P w v ls) (hb:Below w.heap.size w w'):aM P w' v ls:=h.holds (.aX hb)
theorem aM.mono {P P':Nat->Prop} {w:World} {v:Value} {ls:List (List Int)} (h:aM P w v ls) (hP:∀ b,b<w.heap.size->P b->P' b):aM P' w v ls:=by
 obtain ⟨ad,cap,rfl,hc,h⟩:=h;refine ⟨ad,cap,rfl,hc,λi hi=>?_⟩;obtain ⟨g,off,u,e,c1,hr,hp,cs,hcs⟩:=h i hi;exact ⟨g,off,u,e,c1,hr.mono hP,hP g (z_ hcs) hp,cs,hcs⟩
theorem aM.aB {P:Nat->Prop} {w:World} {v:Value} {ls:List (List Int)} (h:aM P w v ls):bf v:=by
 obtain ⟨ad,cap,e,_⟩:=h;exact ⟨ad,_,cap,e⟩
theorem aM.get {P:Nat->Prop} {w:World} {v:Value} {ls:List (List Int)} (h:aM P w v ls) (h0:0<ls.length):∃ g off cap cs,v=.slice (some ⟨g,off,none⟩) ls.length cap∧w.heap[g]?=some (.cells cs 159 (0,0))∧∀ i,(hi:i<ls.length)->∃ u,w.cell? ⟨g,off+i,none⟩=some u∧aD P w u ls[i]:=by
 obtain ⟨ad,cap,rfl,_,h⟩:=h;obtain ⟨g,off,u,rfl,c1,hr,_,cs,hcs⟩:=h 0 h0;refine ⟨g,off,cap,cs,rfl,hcs,λi hi=>?_⟩;obtain ⟨g',off',u',e,c2,hr2,_⟩:=h i hi;cases e;exact ⟨u',c2,hr2⟩
theorem aM.cap {P:Nat->Prop} {w:World} {ad:Option Addr} {n c:Nat} {ls:List (List Int)} (h:aM P w (.slice ad n c) ls):n<=c:=by
 obtain ⟨ad',cap,e,hc,_⟩:=h;cases e;exact hc
theorem aM.front {P:Nat->Prop} {w:World} {ad:Option Addr} {n c:Nat} {ls:List (List Int)} {x:List Int} (h:aM P w (.slice ad n c) (ls++[x])):aM P w (.slice ad (n - 1) c) ls:=by
 obtain ⟨ad',cap,e,hc,h⟩:=h;cases e;refine ⟨ad,c,by simp,by simp at hc;omega,λi hi=>?_⟩;obtain ⟨g,off,u,e,c1,hr,hp⟩:=h i (by simp;omega);exact ⟨g,off,u,e,c1,by rw [abB hi] at hr;exact hr,hp⟩
theorem aD.cap {P:Nat->Prop} {w:World} {ad:Option Addr} {n c:Nat} {l:List Int} (h:aD P w (.slice ad n c) l):n<=c:=by
 obtain ⟨ad',cap,e,hc,_⟩:=h;cases e;exact hc
theorem aD.get {P:Nat->Prop} {w:World} {v:Value} {l:List Int} (h:aD P w v l) (h0:0<l.length):∃ g off cap cs,v=.slice (some ⟨g,off,none⟩) l.length cap∧w.heap[g]?=some (.cells cs 168 (0,0))∧∀ i,(hi:i<l.length)->∃ x a m c,w.cell? ⟨g,off+i*2,none⟩=some (.int .i64 x)∧w.cell? ⟨g,off+i*2+1,none⟩=some (.slice a m c)∧aj P w (.agg #[.int .i64 x,.slice a m c]) l[i]:=by
 obtain ⟨ad,cap,rfl,_,h⟩:=h;obtain ⟨g,off,x,a,m,c,rfl,_,_,_,_,cs,hcs⟩:=h 0 h0;refine ⟨g,off,cap,cs,rfl,hcs,λi hi=>?_⟩;obtain ⟨g',off',x',a',m',c',e,c1,c2,hr2,_⟩:=h i hi;cases e;exact ⟨x',a',m',c',c1,c2,hr2⟩
end Go.Proofs.YtfaljekgpnbmiaaGreat
