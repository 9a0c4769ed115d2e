/- Joined: XMem8 XSim1 XSim2 XRows. -/
import Derived.Test.YtgaafamcajcifaaGreatK06
import Derived.Test.YtgaafamcajcifaaGreatK18
set_option linter.unusedVariables false
set_option linter.unusedSimpArgs false
set_option maxRecDepth 100000
namespace Go.Proofs.YtgaafamcajcifaaGreat
open Go.RowKit Go.Sort
theorem yV {t:Pl.aR} (h:mG t) (r c:Nat) (sg:Int) (j:Nat):mG (t.part r c sg j):=by
 refine ⟨by rw [Pl.eB];exact h.lines,h.aS,λl hl=>?_⟩;obtain ⟨i,hi,rfl⟩:=List.getElem_of_mem hl;rw [Pl.eB] at hi;rw [Pl.qo t r c sg j hi];by_cases e:i<j∧i≠r
 ·rw [h_ e];exact CQ t i r c sg
 ·rw [g_ e];exact h.cells _ (aak hi)
theorem Qo (l:List Int) {c:Nat} (hc:c<l.length):l.getD c 0=l[c]:=by
 rw [a_,f_ hc];rfl
theorem nD {P:Nat->Prop} {w:World} {b gl gc:Nat} {t:Pl.aR} (h:aV P w b gl gc t):∃ cs,w.heap[gl]?=some (.cells cs 111 (0,0)):=by
 obtain ⟨⟨fE,jl,sx,sa,sm,sc,h1,h2,cs,h3,_⟩,_⟩:=h;exact ⟨cs,h3⟩
theorem Ic {P:Nat->Prop} {w:World} {b gl gc:Nat} {t:Pl.aR} (h:aV P w b gl gc t):∃ cs,w.heap[gc]?=some (.cells cs 3 (0,0)):=by
 obtain ⟨_,⟨cs,h3,_⟩,_⟩:=h;exact ⟨cs,h3⟩
theorem vB {P:Nat->Prop} {w:World} {b gl gc:Nat} {t:Pl.aR} (h:aV P w b gl gc t) (o:Nat):w.frozen? ⟨gl,o,none⟩=false∧w.frozen? ⟨gc,o,none⟩=false∧w.frozen? ⟨b,o,none⟩=false:=by
 obtain ⟨fE,jl,k0,k1,kf,Ie,I9,_⟩:=h.cells;exact ⟨Ie o,I9 o,kf o⟩
theorem SK {P:Nat->Prop} {w:World} {b gl gc:Nat} {t:Pl.aR} (h:aV P w b gl gc t) {i:Nat} (hi:i<t.lines.length) (x:Int) {v:Value} {row:List Int} (hv:aD P w v row) :
  aV P ((w.setCell ⟨gl,i*2,none⟩ (.int .i64 x)).setCell ⟨gl,i*2+1,none⟩ v) b gl gc { t with lines:=t.lines.set i (x,row) }:=by
 have h1:=h.setName hi x;have hh:Holds P w (w.setCell ⟨gl,i*2,none⟩ (.int .i64 x)):=bQ (nD h).choose_spec (by decide) (λe=>absurd e (by decide)) _ _;have h2:=h1.setRow (i:=i) (by simpa using hi) (hv.holds hh)
 simpa [List.set_set] using h2
theorem yX {P:Nat->Prop} {w:World} {g:Nat} {x:Int} {a:Option Addr} {m c:Nat} {n:Int} (h:bB P w g x a m c n) {k:Nat} {cs:Array Value} {T:TypeId} (hk:w.heap[k]?=some (.cells cs T (0,0))) (hT:T≠3) (hne:g≠k) (o1 o2:Nat) (u1 u2:Value):bB P ((w.setCell ⟨k,o1,none⟩ u1).setCell ⟨k,o2,none⟩ u2) g x a m c n :=
 ⟨by rw [l_ _ _ _ _ hne,l_ _ _ _ _ hne];exact h.heap,h.val.bW ((aA.setCell hk hT _ _).trans (aA.setCell (j_ w k o1 _ _ u1 hk) hT _ _))⟩
theorem Ka {P:Nat->Prop} {w:World} {g:Nat} {x:Int} {a:Option Addr} {m c:Nat} {n:Int} (h:bB P w g x a m c n) {k:Nat} {cs:Array Value} (hk:w.heap[k]?=some (.cells cs 3 (0,0))) (hP:¬ P k) (o1:Nat) (u1:Value):bB P (w.setCell ⟨k,o1,none⟩ u1) g x a m c n :=
 ⟨by rw [l_ _ _ _ _ (λe=>by rw [e] at h;have:=h.heap;rw [hk] at this;simp at this)];exact h.heap,h.val.ql (bQ hk (by decide) (λ_=>hP) _ _).xJ⟩
theorem Qp {P:Nat->Prop} {w:World} {b gl gc:Nat} {t:Pl.aR} (h:aV P w b gl gc t) {i:Nat} (hi:i<t.lines.length):(∃ u,w.cell? ⟨gl,i*2+1,none⟩=some u)∧w.frozen? ⟨gl,i*2+1,none⟩=false:=by
 obtain ⟨fE,jl,k0,k1,kf,Ie,I9,kl,_⟩:=h.cells;obtain ⟨_,u,k2,_⟩:=kl i hi;exact ⟨⟨u,k2⟩,Ie _⟩
section
section
section
attribute [local go_sem] bD
set_option maxHeartbeats 20000000 in
theorem CR (P:Nat->Prop) (K b gl gc:Nat) (t:Pl.aR) (w:World) (hP:∀ b,w.heap.size<=b->P b) (h:aV P w b gl gc t) (hfit:mG t) (hlt:qg K t) (hK:2*K+1<=1500000000000) {r c:Nat} (hr:r<t.lines.length) (hc:c<t.aS.length) (hp:t.cell r (c+1)≠0) :
  Calls Tryz.prog 67 #[.pointer (some ⟨b,0,none⟩),.int .i64 r,.int .i64 c] w λe w'=>e=.returned (.tuple #[])∧aV P w' b gl gc (t.swap r c)∧bG (mh b gl gc) w w':=by
 have HT:=af h;have uK:=af hfit;have lC:=af hlt;have hn1:=hfit.lines;have hn2:=hfit.aS;have hwc:IntKind.i64.wrap ((c:Int)+1)=(c:Int)+1:=by rw [aaA];omega
 obtain ⟨sg,hsg⟩:∃ sg,Int.sign (t.cell r (c+1))=sg:=⟨_,rfl⟩;have hs:sg=1∨sg=-1:=by
  rw [<-hsg];rcases (show t.cell r (c+1)<0∨0<t.cell r (c+1) by omega) with h|h
  ·exact .inr (E_ h)
  ·exact .inl (J_ h)
 have wy:=af (jP P b t w h.wV hn1 hfit.le hr (j:=c+1) (by rw [hfit.row hr];omega));have e1:((c+1:Nat):Int)=(c:Int)+1:=by omega
 rw [e1] at wy;clear e1;obtain ⟨fE,jl,k0,k1,kf,Ie,I9,kl,xL,_⟩:=h.cells;obtain ⟨V9,ur,Xt,hur⟩:=kl r hr;rw [oo t hr] at V9;obtain ⟨ua,un,uc,rfl⟩:=hur.aB;clear h hfit hlt hp kl xL kf Ie I9 hur;go_enter Tryz.func67,Tryz.ntmps67;go_wp2_with fail;refine (uh wy).mono ?_;rintro e w1 ⟨v1,rfl,hv1,hw1⟩;obtain ⟨px,pa,pm,pc,rfl⟩:=hv1.shape;have wP:=af (dC hv1);have dN:Hid (ae w (w1.alloc (.cells #[.int .i64 px,.slice pa pm pc] 78))):=ae.trans hw1 (ae.alloc _ _);clear hv1 hw1 wy;go_wp2_with fail;generalize hW1:w1.alloc (.cells #[.int .i64 px,.slice pa pm pc] 78)=W1 at *
 generalize hg1:w1.heap.size=g1 at *
 clear hW1 hg1 w1;refine (bY P _ _ _ (uh wP).val).mono ?_;rintro e w2 ⟨rfl,hw2⟩;rw [hsg];have k0:=(ae.trans (uh dN) hw2).cell k0;have k1:=(ae.trans (uh dN) hw2).cell k1;have V9:=(ae.trans (uh dN) hw2).cell V9;have Xt:=(ae.trans (uh dN) hw2).cell Xt;have HG2:Hid (ae w w2):=ae.trans (uh dN) hw2;have GV:=af ((uh wP).grow hw2);have xk:g1<w2.heap.size:=(uh GV).lt;clear hw2 wP dN;go_wp2_with fail;have SL:Hid (ae w (w2.alloc (.cells #[.int .i64 (t.name r),.slice ua un uc] 111))):=ae.trans (uh HG2) (ae.alloc _ _);have HVo:=af ((uh GV).grow (ae.alloc _ (.cells #[.int .i64 (t.name r),.slice ua un uc] 111)));have HOl:Hid ((w2.alloc (.cells #[.int .i64 (t.name r),.slice ua un uc] 111)).heap[w2.heap.size]?=some (.cells #[.int .i64 (t.name r),.slice ua un uc] 111)):=aG _ _;have HTo:=af ((uh HT).grow (uh SL));have hgo:w.heap.size<=w2.heap.size:=(uh HG2).size;generalize hWo:w2.alloc (.cells #[.int .i64 (t.name r),.slice ua un uc] 111)=Wo at *
 generalize hg2:w2.heap.size=g2 at *
 clear hWo hg2 HG2 GV k0 k1 V9 Xt w2;have hb1:=(uh HT).lt;have Zv:g1≠gl:=λe=>by have h1:=(uh HVo).heap;rw [e,(nD (uh HTo)).choose_spec] at h1;simp at h1
 have SN:g2≠gl:=by omega
 clear hb1 xk hgo;go_loopg [9] t.lines.length (λk jv wr=>∃ (j:Nat),jv=.int .i64 j∧j+k=t.lines.length∧Hid (aV P wr b gl gc (t.part r (c+1) sg j)∧il gl Wo wr))
 case atStart=>exact ⟨0,rfl,by omega,by rw [Pl.Ni];exact uh HTo,.aX (ae.refl _)⟩
 case round =>
  obtain ⟨j,rfl,hjk,HR⟩:=hrel;have HGr:Hid (bG (mh b gl gc) w wr):=(bG.cZ (uh SL)).trans ((bG.SQ (uh HR).2).mono (λk _ e=>.inr (.inl e)));have HPr:Hid (∀ b,wr.heap.size<=b->P b):=λb' hb'=>hP b' (by have:=(uh HGr).size;omega);obtain ⟨r9,Um,k0,k1,kf,Ie,I9,kl,xL,_⟩:=(uh HR).1.cells;rw [Pl.eB] at k0;change wr.cell? ⟨b,1,none⟩=some (.slice (some ⟨gc,0,none⟩) t.aS.length Um) at k1;by_cases hlt:j<t.lines.length
  ·by_cases hjr:j=r
   ·subst hjr;have HF:Hid (aV P wr b gl gc (t.part j (c+1) sg (j+1))):=by unfold Hid;rw [Pl.Nj];exact (uh HR).1
    clear kl xL kf Ie I9;go_wp2;go_roundg (gk - 1)
    case measure=>omega
    case rel=>exact ⟨j+1,by simp,by omega,uh HF,(uh HR).2⟩
   ·have tne:((j:Int) != (r:Int))=true:=by simp;omega
    have hjp:j<(t.part r (c+1) sg j).lines.length:=by rw [Pl.eB];exact hlt
    have Zw:r<(t.part r (c+1) sg j).lines.length:=by rw [Pl.eB];exact hr
    have Nk:=af (λw1 (hg:ae wr w1)=>Qn P K b (t.part r (c+1) sg j) w1 (λb' hb'=>uh HPr b' (by have:=hg.size;omega)) ((uh HR).1.grow hg).wV (yV (uh uK) r (c+1) sg j) (c:=c+1)
     ⟨λk hk=>by rw [Pl.si t r (c+1) sg j (.inl (d_ _))];exact (uh lC).cell j k hlt hk,λk hk=>by rw [Pl.si t r (c+1) sg j (.inr rfl)];exact (uh lC).cell r k hr hk,(uh lC).scale⟩ hK hjp Zw (show c+1<t.aS.length+1 by omega) hs)
    rw [Pl.Nl] at Nk;have e1:((c+1:Nat):Int)=(c:Int)+1:=by omega
    rw [e1] at Nk;obtain ⟨adx,uj,kuj,ady⟩:=kl j hjp;clear adx ady;clear e1 hjp Zw kl xL kf Ie I9;have y1:=b_ k0;go_wp2_with fail;clear k0 k1;refine ah (bZ [(71,λv w=>aD P w v (t.told j r (c+1) sg))]) (gL [(71,aZ)]) 107 14 (by kernel_rfl) (by rfl) (by kernel_rfl) (aN (λ_ _ _=>aD.below) cK) ?_
    iterate 11 (refine aO λK hK=>?_;go_simp;refine hK _ ?_;clear hK K)
    refine ai aZ 88 #[.pointer (some ⟨b,0,none⟩),.int .i64 j,.int .i64 r,.int .i64 (c+1),.int .i64 sg] (by rfl) (by rfl) aZ.some (λw=>by go_simp) (λw1 hg hf=>(uh Nk w1 hg).mono (by rintro e w' ⟨v',rfl,hv,hb⟩;exact ⟨_,rfl,hb,hv.aB,λt ht=>by cases ht;exact hv⟩)) ?_;rintro _ ⟨ta,tm,tc,rfl⟩
    iterate 2 (refine aO λK hK=>?_;go_simp;refine hK _ ?_;clear hK K)
    refine aF ?_;intro w6 rH aK;have q71:aD P w6 (.slice ta tm tc) (t.told j r (c+1) sg):=aK 11 _ 71 (by decide) rfl rfl;clear aK y1;have Un:=(uh HR).1.grow rH;have hs1:=ae.cell rH kuj;have hs2:=(Qp Un (i:=j) (by rw [Pl.eB];exact hlt)).2;have HF:Hid (aV P (w6.setCell ⟨gl,j*2+1,none⟩ (.slice ta tm tc)) b gl gc (t.part r (c+1) sg (j+1))):=by
     unfold Hid;rw [Pl.Nn t r (c+1) sg hlt hjr];exact Un.setRow (by rw [Pl.eB];exact hlt) q71
    have Oq:Hid (il gl Wo (w6.setCell ⟨gl,j*2+1,none⟩ (.slice ta tm tc))):=((uh HR).2.grow rH).setCell _ _;clear Un q71 rH Nk kuj;go_wp2;go_roundg (gk - 1)
    case measure=>omega
    case rel=>exact ⟨j+1,by simp,by omega,uh HF,uh Oq⟩
  ·have hjn:j=t.lines.length:=by omega
   subst hjn;have Nk:=af (λw1 (hg:ae wr w1)=>J8 P b (t.part r (c+1) sg t.lines.length) w1 (λb' hb'=>uh HPr b' (by have:=hg.size;omega)) ((uh HR).1.grow hg).wV (yV (uh uK) r (c+1) sg _).lines (yV (uh uK) r (c+1) sg _).le (uh uK).aS (c:=c+1) (by rw [Pl.eB];exact hr) ((yV (uh uK) r (c+1) sg _).row (by rw [Pl.eB];exact hr)) hs);rw [Pl.Ig] at Nk;have e1:((c+1:Nat):Int)=(c:Int)+1:=by omega
   rw [e1] at Nk;have Zw:r<(t.part r (c+1) sg t.lines.length).lines.length:=by rw [Pl.eB];exact hr
   obtain ⟨V9,ur',Xt,kr2⟩:=kl r Zw;clear kr2;have kc0:=xL c hc;obtain ⟨cc,hcc⟩:∃ cc,t.fe c=cc:=⟨_,rfl⟩;have ecc:(t.part r (c+1) sg t.lines.length).aS[c]=cc:=by rw [<-hcc];exact (Qo _ hc).symm
   rw [ecc] at kc0;have HCC:=af hcc;have HOr:=af ((uh HR).2.block g2 (z_ (uh HOl)) SN);have HVr:=af ((uh HVo).only (uh HR).2 (nD (uh HTo)).choose_spec (by decide) Zv);clear ecc hcc e1 kl xL kf Ie I9 hjk;have y1:=b_ k0;have y2:=b_ k1;have y3:=b_ kc0;go_wp2_with fail;clear k0 k1 kc0;refine ah (bZ [(91,λv w=>aD P w v (t.bK r (c+1) sg))]) (gL [(91,aZ)]) 107 20 (by kernel_rfl) (by rfl) (by kernel_rfl) (aN (λ_ _ _=>aD.below) cK) ?_
   iterate 17 (refine aO λK hK=>?_;go_simp;refine hK _ ?_;clear hK K)
   refine ai aZ 89 #[.pointer (some ⟨b,0,none⟩),.int .i64 r,.int .i64 (c+1),.int .i64 sg] (by rfl) (by rfl) aZ.some (λw=>by go_simp) (λw1 hg hf=>(uh Nk w1 hg).mono (by rintro e w' ⟨v',rfl,hv,hb⟩;exact ⟨_,rfl,hb,hv.aB,λt ht=>by cases ht;exact hv⟩)) ?_;rintro _ ⟨ta,tm,tc,rfl⟩
   iterate 2 (refine aO λK hK=>?_;go_simp;refine hK _ ?_;clear hK K)
   refine aF ?_;intro w6 rH aK;have q91:aD P w6 (.slice ta tm tc) (t.bK r (c+1) sg):=aK 17 _ 91 (by decide) rfl rfl;clear aK y1 y2 y3;have Un:=(uh HR).1.grow rH;have hs0:=ae.cell rH V9;have hs1:=ae.cell rH Xt;have hs2:=λo=>(vB Un o).1;have Rz:Hid (aV P ((w6.setCell ⟨gl,r*2,none⟩ (.int .i64 cc)).setCell ⟨gl,r*2+1,none⟩ (.slice ta tm tc)) b gl gc { t.part r (c+1) sg t.lines.length with lines:=(t.part r (c+1) sg t.lines.length).lines.set r (cc,t.bK r (c+1) sg) }):=SK Un Zw cc q91;have HT7:Hid (bG (mh b gl gc) w ((w6.setCell ⟨gl,r*2,none⟩ (.int .i64 cc)).setCell ⟨gl,r*2+1,none⟩ (.slice ta tm tc))):=(((uh HGr).grow rH).setCell (.inr (.inl rfl)) _ _).setCell (.inr (.inl rfl)) _ _;have Qq:Hid (((w6.setCell ⟨gl,r*2,none⟩ (.int .i64 cc)).setCell ⟨gl,r*2+1,none⟩ (.slice ta tm tc)).heap[g2]?=some (.cells #[.int .i64 (t.name r),.slice ua un uc] 111)):=by
    unfold Hid;rw [l_ _ _ _ _ SN,l_ _ _ _ _ SN,Below.block rH _ (z_ ((uh HOr).trans (uh HOl))),uh HOr];exact uh HOl
   have Oc:=af (yX ((uh HVr).grow rH) (nD Un).choose_spec (by decide) Zv (r*2) (r*2+1) (.int .i64 cc) (.slice ta tm tc));clear Un q91 rH Nk V9 Xt HOr HVr;go_wp2_with fail;generalize SI:(w6.setCell ⟨gl,r*2,none⟩ (.int .i64 cc)).setCell ⟨gl,r*2+1,none⟩ (.slice ta tm tc)=W7 at *
   clear SI hs0 hs1 hs2 w6 ur';obtain ⟨ahu,Zx,k0,k1,kf,Ie,I9,kl,xL,_⟩:=(uh Rz).cells;have ko:W7.cell? ⟨g2,0,none⟩=some (.int .i64 (t.name r)):=(cellsOf (uh Qq) 0).trans rfl;change W7.cell? ⟨b,1,none⟩=some (.slice (some ⟨gc,0,none⟩) t.aS.length Zx) at k1;have kc7:=xL c hc;have y1:=b_ k1;have y2:=b_ ko;clear kl xL kf Ie I9 k0 k1 ko;refine ah (bZ []) (gL []) 107 8 (by kernel_rfl) (by rfl) (by kernel_rfl) (dw (by simp)) ?_
   iterate 8 (refine aO λK hK=>?_;go_simp;refine hK _ ?_;clear hK K)
   refine aF ?_;intro w8 Dt aK;clear aK y1 y2;have hs0:=ae.cell Dt kc7;have hs1:=λo=>(vB ((uh Rz).grow Dt) o).2.1;have Oq:=af (((uh Rz).grow Dt).We (i:=c) hc (t.name r));have HT9:Hid (bG (mh b gl gc) w (w8.setCell ⟨gc,c,none⟩ (.int .i64 (t.name r)))):=((uh HT7).grow Dt).setCell (.inr (.inr rfl)) _ _;have Fu:=af (Ka ((uh Oc).grow Dt) (Ic ((uh Rz).grow Dt)).choose_spec (uh Rz).notP c (.int .i64 (t.name r)));clear Dt Rz HT7 Qq Oc kc7;have v0:=(uh Fu).cells.1;have v1:=(uh Fu).cells.2.1;go_wp2_with fail;refine (sZ P _ _ _ (uh Fu).val).mono ?_;rintro e w9 ⟨v9,rfl,Xu,rD⟩;obtain ⟨bx,ba,bm,bc,rfl⟩:=Xu.shape;have hO9:=(uh Oq).grow rD;have hf9:=λo=>(vB hO9 o).2.2;obtain ⟨_,_,_,_,_,_,_,_,_,sx,sa,sm,sc,z0,z1,_⟩:=hO9.cells;have Zy:(if t.cell r (c+1)<0 then -t.cell r (c+1) else t.cell r (c+1))=((t.cell r (c+1)).natAbs:Int):=by
    split <;> omega
   rw [Zy] at Xu;have HFin:=af (hO9.Qr Xu);have adA:Hid (bG (mh b gl gc) w ((w9.setCell ⟨b,2,none⟩ (.int .i64 bx)).setCell ⟨b,3,none⟩ (.slice ba bm bc))):=(((uh HT9).grow rD).setCell (.inl rfl) _ _).setCell (.inl rfl) _ _;have HEQ:Hid (({ lines:=(t.part r (c+1) sg t.lines.length).lines.set r (cc,t.bK r (c+1) sg),aS:=t.aS.set c (t.name r),scale:=((t.cell r (c+1)).natAbs:Int) }:Pl.aR)=t.swap r c):=by
    unfold Hid;rw [<-uh HCC,<-hsg];exact Pl.Np t hr
   clear Zy Xu rD hO9 Oq HT9 Fu v0 v1;go_wp2;go_end0;refine ⟨rfl,?_,uh adA⟩;rw [<-uh HEQ];exact uh HFin
end
structure Good (F:Int->Nat->Int) (n:Nat) (U:List Int) (L:Nat) (t:Pl.aR):Prop where
 ok:Pl.bM F n t
 names:Pl.ib n t
 stat:Pl.Stat U n t
 aS:∀ c,c<n->0<=t.fe c
 len:t.lines.length=L
theorem Good.fit {F:Int->Nat->Int} {n:Nat} {U:List Int} {L:Nat} {t:Pl.aR} (h:Good F n U L t) (hn:n<=100) (hL:L<=1000):mG t :=
 ⟨by rw [h.len];exact hL,by rw [h.ok.aS];exact hn,λl hl=>by rw [h.ok.aS];exact h.ok.cells l hl⟩
theorem sj {n:Nat} {t:Pl.aR} (hn:t.aS.length=n) (hc:∀ c,c<n->0<=t.fe c) {r c:Nat} (hcn:c<n) (hr:0<=t.name r):∀ k,k<n->0<=(t.swap r c).fe k:=by
 intro k hk;rw [Pl.aR.jY t r c k (by omega)]
 split
 ·exact hr
 ·exact hc k hk
def nQ (t:Pl.aR):Prop:=∀ k,k<t.lines.length->0<=t.name k->0<=t.cell k 0
def Ls (n:Nat) (t:Pl.aR):Prop:=∃ r,r<t.lines.length∧0<=t.name r∧t.cell r 0<0∧∀ c,c<n->t.cell r (c+1)<=0
set_option maxHeartbeats 2000000 in
theorem Hz (P:Nat->Prop) (K b gl gc:Nat) (F:Int->Nat->Int) (n:Nat) (U:List Int) (L:Nat) (t:Pl.aR) (w:World) (hP:∀ b,w.heap.size<=b->P b) (h:aV P w b gl gc t) (hgood:Good F n U L t) (hn:n<=100) (hL:L<=1000) (hall:∀ t',Good F n U L t'->qg K t') (hK:2*K+1<=1500000000000) :
  Calls Tryz.prog 50 #[.pointer (some ⟨b,0,none⟩)] w λe w'=>∃ (qG:Bool) (t':Pl.aR),e=.returned (.bool qG)∧aV P w' b gl gc t'∧bG (mh b gl gc) w w'∧Good F n U L t'∧(qG=false->nQ t')∧(qG=true->Ls n t'):=by
 have HT:=af h;have Lu:=af hgood;have HA:=af hall;clear h hgood hall;go_enter Tryz.func50,Tryz.ntmps50;go_wp2_with fail;go_loopg [] (U.length^n) (λk wr=>∃ (t':Pl.aR) (s:Nat),s+k=U.length^n∧Hid (aV P wr b gl gc t'∧bG (mh b gl gc) w wr∧Pl.Trail F n U t t' s∧Good F n U L t'))
 case atStart=>exact ⟨t,0,by omega,uh HT,bG.refl _ _,.start (uh Lu).ok (uh Lu).names (uh Lu).stat,uh Lu⟩
 case round =>
  obtain ⟨t',s,hsk,HR⟩:=hrel;have hfit:=(uh HR).2.2.2.fit hn hL;have HF:=af hfit;have hlen:=(uh HR).2.2.2.len;have hcl:=(uh HR).2.2.2.ok.aS;have D6:=af (x_ hlen hcl);clear hlen hcl;go_wp2_with fail;refine (qO P b t' wr (uh HR).1.wV hfit).mono ?_;rintro e w1 ⟨c,rfl,mR,hw1⟩;have HB:=af mR;have dN:Hid (ae wr w1):=hw1;clear hfit hw1;rcases mR with ⟨rfl,hno⟩|⟨r,hr,rfl,hur,ky⟩
  ·have HD:Hid (nQ t'):=λk hk h0=>by have:=hno k hk;simp only [not_and] at this;have:=this h0;omega
   clear hno;go_wp2;go_ret;exact ⟨false,t',rfl,(uh HR).1.grow (uh dN),(uh HR).2.1.grow (uh dN),(uh HR).2.2.2,λ_=>uh HD,λh=>(by cases h)⟩
  ·have Rq:=af hur;have Jn:=af ky;have hr0:¬ ((r:Int)<0):=by omega
   clear hur ky HB;go_wp2_with fail;refine (oF P b t' w1 ((uh HR).1.grow (uh dN)).wV (uh HF).lines (uh HF).le (uh HF).aS hr ((uh HF).row hr)).mono ?_;rintro e w2 ⟨c,rfl,mR,hw2⟩;have HG2:Hid (ae wr w2):=ae.trans (uh dN) hw2;clear hw2;rcases mR with ⟨rfl,hno⟩|⟨c,hc,rfl,huc,ky⟩
   ·have HD:Hid (Ls n t'):=⟨r,hr,(uh Rq).1,(uh Rq).2,λk hk=>by
     have h1:=hno k (by rw [(uh D6).2];exact hk);have h2:=(uh HR).2.2.2.aS k hk;rcases (show 0<t'.cell r (k+1)∨t'.cell r (k+1)<=0 by omega) with h3|h3
     ·exact absurd ⟨h2,h3⟩ h1
     ·exact h3⟩
    clear hno;go_wp2;go_ret;exact ⟨true,t',rfl,(uh HR).1.grow (uh HG2),(uh HR).2.1.grow (uh HG2),(uh HR).2.2.2,λh=>(by cases h),λ_=>uh HD⟩
   ·have hc0:¬ ((c:Int)<0):=by omega
    have hcn:c<n:=by rw [<-(uh D6).2];exact hc
    have ZQ:=af ((uh HR).2.2.1.snoc hr hcn (uh Rq).1 (uh Rq).2 (λk hk h1 h2=>uh Jn k hk ⟨h1,h2⟩) huc.1 huc.2 (λk hk h1 h2=>ky k (by rw [(uh D6).2];exact hk) ⟨h1,h2⟩));have Wp:Hid (Good F n U L (t'.swap r c)):=⟨(uh ZQ).last.1,(uh ZQ).last.2.1,(uh ZQ).last.2.2.1,sj (uh D6).2 (uh HR).2.2.2.aS hcn (uh Rq).1,by rw [Pl.aR.iG];exact (uh D6).1⟩;have hs1:=(uh ZQ).last.2.2.2;have hne:t'.cell r (c+1)≠0:=by have:=huc.2;omega
    have ZR:=af (CR P K b gl gc t' w2 (λb' hb'=>hP b' (by have:=((uh HR).2.1.grow (uh HG2)).size;omega)) ((uh HR).1.grow (uh HG2)) (uh HF) (uh HA _ (uh HR).2.2.2) hK hr hc hne);clear huc ky hne;go_wp2_with fail;refine (uh ZR).mono ?_;rintro e w3 ⟨rfl,hO3,Lv⟩;have oG:=af hO3;have HT3:=af (((uh HR).2.1.grow (uh HG2)).trans Lv);clear hO3 Lv;go_wp2;go_roundg (gk - 1)
    case measure=>omega
    case rel=>exact ⟨t'.swap r c,s+1,by omega,uh oG,uh HT3,uh ZQ,uh Wp⟩
end
structure Fair (F:Int->Nat->Int) (n:Nat) (U:List Int) (L c:Nat) (t:Pl.aR):Prop where
 ok:Pl.bM F n t
 names:Pl.ib n t
 stat:Pl.Stat U n t
 aS:∀ k,k<c->0<=t.fe k
 len:t.lines.length=L
theorem Fair.fit {F:Int->Nat->Int} {n:Nat} {U:List Int} {L c:Nat} {t:Pl.aR} (h:Fair F n U L c t) (hn:n<=100) (hL:L<=1000):mG t :=
 ⟨by rw [h.len];exact hL,by rw [h.ok.aS];exact hn,λl hl=>by rw [h.ok.aS];exact h.ok.cells l hl⟩
theorem Fair.lL {F:Int->Nat->Int} {n:Nat} {U:List Int} {L:Nat} {t:Pl.aR} (h:Fair F n U L n t):Good F n U L t:=⟨h.ok,h.names,h.stat,h.aS,h.len⟩
theorem Good.fair {F:Int->Nat->Int} {n:Nat} {U:List Int} {L:Nat} {t:Pl.aR} (h:Good F n U L t):Fair F n U L 0 t:=⟨h.ok,h.names,h.stat,λk hk=>by omega,h.len⟩
theorem Fair.none {F:Int->Nat->Int} {n:Nat} {U:List Int} {L c:Nat} {t:Pl.aR} (h:Fair F n U L c t):Fair F n U L 0 t:=⟨h.ok,h.names,h.stat,λk hk=>by omega,h.len⟩
theorem Fair.swap {F:Int->Nat->Int} {n:Nat} {U:List Int} {L c:Nat} {t:Pl.aR} (h:Fair F n U L c t) {r:Nat} (hr:r<t.lines.length) (hc:c<n) (hp:t.cell r (c+1)≠0) (hnm:0<=t.name r):Fair F n U L (c+1) (t.swap r c):=by
 refine ⟨h.ok.swap hr hc hp,h.names.swap h.ok.aS hr hc,h.stat.swap h.names h.ok.aS hr hc,λk hk=>?_,by rw [Pl.aR.iG];exact h.len⟩;rw [Pl.aR.jY t r c k (by rw [h.ok.aS];exact hc)]
 split
 ·exact hnm
 ·exact h.aS k (by omega)
set_option maxHeartbeats 4000000 in
theorem NF (P:Nat->Prop) (K b gl gc:Nat) (F:Int->Nat->Int) (n m:Nat) (U:List Int) (L:Nat) (t:Pl.aR) (w:World) (hP:∀ b,w.heap.size<=b->P b) (h:aV P w b gl gc t) (hgood:Fair F n U L 0 t) (hn:n<=100) (hL:L<=1000) (hall:∀ t',Fair F n U L 0 t'->qg K t') (hK:2*K+1<=1500000000000) (hU:∀ i:Nat,i<m->(i:Int)∈U) (hT:Pl.gJ F n m) :
  Calls Tryz.prog 64 #[.pointer (some ⟨b,0,none⟩)] w λe w'=>∃ t':Pl.aR,e=.returned (.tuple #[])∧aV P w' b gl gc t'∧bG (mh b gl gc) w w'∧Good F n U L t':=by
 have HT:=af h;have Lu:=af hgood;have HA:=af hall;have HU:=af hU;have Nk:=af hT;clear h hgood hall hU hT;go_enter Tryz.func64,Tryz.ntmps64;go_wp2_with fail;go_loopg [2] n (λk cv wr=>∃ (t':Pl.aR) (c:Nat),cv=.int .i64 c∧c+k=n∧Hid (aV P wr b gl gc t'∧bG (mh b gl gc) w wr∧Fair F n U L c t'))
 case atStart=>exact ⟨t,0,rfl,by omega,uh HT,bG.refl _ _,uh Lu⟩
 case round =>
  rename Nat=>go;rename World=>wo;obtain ⟨t',c,rfl,hck,HR⟩:=hrel;have hcl:=(uh HR).2.2.ok.aS;have HF:=af ((uh HR).2.2.fit hn hL);obtain ⟨fE,jl,k0,k1,kf,Ie,I9,kl,xL,_⟩:=(uh HR).1.cells;rw [hcl] at k1;clear kf Ie I9 xL;by_cases hlt:c<n
  ·have hlen:=(uh HR).2.2.len;rw [hlen] at k0;have D6:=af (x_ hlen hcl);clear hcl hlen;go_wp2_with fail;go_loopg [3] L (λk rv wr=>∃ (r:Nat),rv=.int .i64 r∧r+k=L∧Hid (ae wo wr∧∀ r',r'<r->0<=t'.name r'->t'.cell r' (c+1)=0))
   case atStart=>exact ⟨0,rfl,by omega,ae.refl _,λr' hr'=>by omega⟩
   case round =>
    obtain ⟨r,rfl,hrk,HI⟩:=hrel;have Wq:=(uh HI).1.cell k0;by_cases hrl:r<L
    ·have hr:r<t'.lines.length:=by rw [(uh D6).1];exact hrl
     obtain ⟨kn,ur,_,hur⟩:=kl r hr;rw [oo t' hr] at kn;have knr:=(uh HI).1.cell kn;clear kn hur;obtain ⟨nm,hnm⟩:∃ nm,t'.name r=nm:=⟨_,rfl⟩;rw [hnm] at knr;have HN:=af hnm;clear hnm;by_cases h0:0<=nm
     ·have d0:decide (0<=nm)=true:=aaB h0;have HC:=af (jP P b t' wr ((uh HR).1.grow (uh HI).1).wV (uh HF).lines (uh HF).le hr (j:=c+1) (by rw [(uh HF).row hr,(uh D6).2];omega));have e1:((c+1:Nat):Int)=(c:Int)+1:=by omega
      rw [e1] at HC;clear e1;go_wp2_with fail;refine (uh HC).mono ?_;rintro e w1 ⟨v1,rfl,hv1,hw1⟩;have dN:Hid (ae wr w1):=hw1;have HS:=af (bY P _ _ _ hv1);clear hv1 hw1 HC;go_wp2_with fail;refine (uh HS).mono ?_;rintro e w2 ⟨rfl,hw2⟩;have HG2:Hid (ae wo w2):=((uh HI).1.trans (uh dN)).trans hw2;clear hw2 HS dN;by_cases hz:t'.cell r (c+1)=0
      ·have HI2:Hid (∀ r',r'<r+1->0<=t'.name r'->t'.cell r' (c+1)=0):=λr' hr' hn'=>by
        rcases (show r'<r∨r'=r by omega) with h|h
        ·exact (uh HI).2 r' h hn'
        ·rw [h];exact hz
       rw [hz];have es:Int.sign 0=0:=rfl;rw [es];clear hz es;go_wp2;go_roundg (gk - 1)
       case measure=>omega
       case rel=>exact ⟨r+1,by simp,by omega,uh HG2,uh HI2⟩
      ·have ZR:=af (CR P K b gl gc t' w2 (λb' hb'=>hP b' (by have:=((uh HR).2.1.grow (uh HG2)).size;omega)) ((uh HR).1.grow (uh HG2)) (uh HF) (uh HA _ (uh HR).2.2.none) hK hr (c:=c) (by rw [(uh D6).2];exact hlt) hz);have HFS:=af ((uh HR).2.2.swap hr hlt hz (by rw [uh HN];exact h0));obtain ⟨sg,hsg⟩:∃ sg,Int.sign (t'.cell r (c+1))=sg:=⟨_,rfl⟩;have d1:(sg != 0)=true:=by
        rw [<-hsg];simp [abe,hz]
       rw [hsg];clear hsg hz;go_wp2_with fail;refine (uh ZR).mono ?_;rintro e w3 ⟨rfl,hO3,Lv⟩;have oG:=af hO3;have HT3:=af (((uh HR).2.1.grow (uh HG2)).trans Lv);clear hO3 Lv;go_wp2;go_roundg (go - 1)
       case measure=>omega
       case rel=>exact ⟨t'.swap r c,c+1,by simp,by omega,uh oG,uh HT3,uh HFS⟩
     ·have d0:decide (0<=nm)=false:=Z_ h0;have HI2:Hid (∀ r',r'<r+1->0<=t'.name r'->t'.cell r' (c+1)=0):=λr' hr' hn'=>by
       rcases (show r'<r∨r'=r by omega) with h|h
       ·exact (uh HI).2 r' h hn'
       ·rw [h,uh HN] at hn';exact absurd hn' h0
      have HG2:=af (uh HI).1;clear h0 kl;go_wp2;go_roundg (gk - 1)
      case measure=>omega
      case rel=>exact ⟨r+1,by simp,by omega,uh HG2,uh HI2⟩
    ·exact (Pl.Ky (uh HR).2.2.ok hlt (λi hi=>(uh HR).2.2.stat.all _ (uh HU i hi)) (λk hk hn'=>by rw [(uh D6).1] at hk;rw [(uh HI).2 k (by omega) hn'];omega) (uh Nk)).elim
  ·have hcn:c=n:=by omega
   have HF2:Hid (Good F n U L t'):=by subst hcn;exact (uh HR).2.2.lL
   clear hcl kl HF;go_wp2;go_end0;exact ⟨t',rfl,(uh HR).1,(uh HR).2.1,uh HF2⟩
end
def aM (P:Nat->Prop) (w:World) (v:Value) (ls:List (List Int)):Prop:=∃ ad cap,v=.slice ad ls.length cap∧ls.length<=cap∧∀ i,(hi:i<ls.length)->∃ g off u,ad=some ⟨g,off,none⟩ ∧
 w.cell? ⟨g,off+i,none⟩=some u∧aD P w u ls[i]∧P g∧∃ cs,w.heap[g]?=some (.cells cs 69 (0,0))
theorem aM.holds {P:Nat->Prop} {w w':World} {v:Value} {ls:List (List Int)} (h:aM P w v ls) (hb:Holds P w w'):aM P w' v ls:=by
 obtain ⟨ad,cap,rfl,hc,h⟩:=h;refine ⟨ad,cap,rfl,hc,λi hi=>?_⟩;obtain ⟨g,off,u,e,c1,hr,hp,cs,hcs⟩:=h i hi;have hs:=hb g cs _ (.inr (.inr rfl)) hp hcs;exact ⟨g,off,u,e,by rw [cellsOf (hs.trans hcs),<-cellsOf hcs];exact c1,hr.holds hb,hp,cs,hs.trans hcs⟩
theorem aM.below {P:Nat->Prop} {w w':World} {v:Value} {ls:List (List Int)} (h:aM P w v ls) (hb:Below w.heap.size w w'):aM P w' v ls:=h.holds (.aX hb)
theorem aM.mono {P P':Nat->Prop} {w:World} {v:Value} {ls:List (List Int)} (h:aM P w v ls) (hP:∀ b,b<w.heap.size->P b->P' b):aM P' w v ls:=by
 obtain ⟨ad,cap,rfl,hc,h⟩:=h;refine ⟨ad,cap,rfl,hc,λi hi=>?_⟩;obtain ⟨g,off,u,e,c1,hr,hp,cs,hcs⟩:=h i hi;exact ⟨g,off,u,e,c1,hr.mono hP,hP g (z_ hcs) hp,cs,hcs⟩
theorem aM.aB {P:Nat->Prop} {w:World} {v:Value} {ls:List (List Int)} (h:aM P w v ls):aZ v:=by
 obtain ⟨ad,cap,e,_⟩:=h;exact ⟨ad,_,cap,e⟩
theorem aM.get {P:Nat->Prop} {w:World} {v:Value} {ls:List (List Int)} (h:aM P w v ls) (h0:0<ls.length):∃ g off cap cs,v=.slice (some ⟨g,off,none⟩) ls.length cap∧w.heap[g]?=some (.cells cs 69 (0,0))∧∀ i,(hi:i<ls.length)->∃ u,w.cell? ⟨g,off+i,none⟩=some u∧aD P w u ls[i]:=by
 obtain ⟨ad,cap,rfl,_,h⟩:=h;obtain ⟨g,off,u,rfl,c1,hr,_,cs,hcs⟩:=h 0 h0;refine ⟨g,off,cap,cs,rfl,hcs,λi hi=>?_⟩;obtain ⟨g',off',u',e,c2,hr2,_⟩:=h i hi;cases e;exact ⟨u',c2,hr2⟩
theorem aM.cap {P:Nat->Prop} {w:World} {ad:Option Addr} {n c:Nat} {ls:List (List Int)} (h:aM P w (.slice ad n c) ls):n<=c:=by
 obtain ⟨ad',cap,e,hc,_⟩:=h;cases e;exact hc
theorem aM.front {P:Nat->Prop} {w:World} {ad:Option Addr} {n c:Nat} {ls:List (List Int)} {x:List Int} (h:aM P w (.slice ad n c) (ls++[x])):aM P w (.slice ad (n - 1) c) ls:=by
 obtain ⟨ad',cap,e,hc,h⟩:=h;cases e;refine ⟨ad,c,by simp,by simp at hc;omega,λi hi=>?_⟩;obtain ⟨g,off,u,e,c1,hr,hp⟩:=h i (by simp;omega);exact ⟨g,off,u,e,c1,by rw [List.getElem_append_left hi] at hr;exact hr,hp⟩
theorem aD.cap {P:Nat->Prop} {w:World} {ad:Option Addr} {n c:Nat} {l:List Int} (h:aD P w (.slice ad n c) l):n<=c:=by
 obtain ⟨ad',cap,e,hc,_⟩:=h;cases e;exact hc
theorem aD.get {P:Nat->Prop} {w:World} {v:Value} {l:List Int} (h:aD P w v l) (h0:0<l.length):∃ g off cap cs,v=.slice (some ⟨g,off,none⟩) l.length cap∧w.heap[g]?=some (.cells cs 78 (0,0))∧∀ i,(hi:i<l.length)->∃ x a m c,w.cell? ⟨g,off+i*2,none⟩=some (.int .i64 x)∧w.cell? ⟨g,off+i*2+1,none⟩=some (.slice a m c)∧aj P w (.agg #[.int .i64 x,.slice a m c]) l[i]:=by
 obtain ⟨ad,cap,rfl,_,h⟩:=h;obtain ⟨g,off,x,a,m,c,rfl,_,_,_,_,cs,hcs⟩:=h 0 h0;refine ⟨g,off,cap,cs,rfl,hcs,λi hi=>?_⟩;obtain ⟨g',off',x',a',m',c',e,c1,c2,hr2,_⟩:=h i hi;cases e;exact ⟨x',a',m',c',c1,c2,hr2⟩
end Go.Proofs.YtgaafamcajcifaaGreat
