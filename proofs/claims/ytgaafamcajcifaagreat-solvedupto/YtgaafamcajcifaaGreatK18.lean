/- Joined: XOwn XMem7. -/
import Derived.Test.YtgaafamcajcifaaGreatK17
set_option linter.unusedVariables false
set_option linter.unusedSimpArgs false
set_option maxRecDepth 100000
namespace Go.Proofs.YtgaafamcajcifaaGreat
open Go.RowKit Go.Sort
structure bG (S:Nat->Prop) (w w':World):Prop where
 os:w'.os=w.os
 tape:w'.tape=w.tape
 output:w'.output=w.output
 size:w.heap.size<=w'.heap.size
 block:∀ k:Nat,k<w.heap.size->¬ S k->w'.heap[k]?=w.heap[k]?
theorem bG.cZ {S:Nat->Prop} {w w':World} (h:ae w w'):bG S w w':=⟨h.os,h.tape,h.output,Below.size h,λk hk _=>Below.block h k hk⟩
theorem bG.refl (S:Nat->Prop) (w:World):bG S w w:=.cZ (ae.refl w)
theorem bG.trans {S:Nat->Prop} {w w1 w2:World} (h:bG S w w1) (h2:bG S w1 w2):bG S w w2 :=
 ⟨h2.os.trans h.os,h2.tape.trans h.tape,h2.output.trans h.output,w_ h.size h2.size,λk hk hne=>(h2.block k (aa9 hk h.size) hne).trans (h.block k hk hne)⟩
theorem bG.mono {S S':Nat->Prop} {w w':World} (h:bG S w w') (hS:∀ k,k<w.heap.size->S k->S' k):bG S' w w' :=
 ⟨h.os,h.tape,h.output,h.size,λk hk hne=>h.block k hk (λhs=>hne (hS k hk hs))⟩
theorem bG.grow {S:Nat->Prop} {w w1 w2:World} (h:bG S w w1) (h2:ae w1 w2):bG S w w2:=h.trans (.cZ h2)
theorem bG.setCell {S:Nat->Prop} {w w':World} (h:bG S w w') {b:Nat} (hb:S b) (o:Nat) (u:Value):bG S w (w'.setCell ⟨b,o,none⟩ u) :=
 h.trans ⟨rfl,rfl,rfl,by simp,λk _ hne=>l_ _ _ _ _ (λe=>hne (by rw [e];exact hb))⟩
theorem bG.zS {S:Nat->Prop} {w w':World} (h:bG S w w') {b:Nat} (hb:w.heap.size<=b) (o:Nat) (u:Value):bG S w (w'.setCell ⟨b,o,none⟩ u) :=
 ⟨h.os,h.tape,h.output,by simp;exact h.size,λk hk hne=>by rw [l_ _ _ _ _ (show k≠b by omega)];exact h.block k hk hne⟩
theorem bG.below {S:Nat->Prop} {w w':World} (h:bG S w w') {B:Nat} (hS:∀ k,S k->B<=k) (hB:B<=w.heap.size):Below B w w' :=
 ⟨h.os,h.tape,h.output,h.size,λk hk=>h.block k (by omega) (λhs=>by have:=hS k hs;omega)⟩
theorem bG.SQ {b:Nat} {w w':World} (h:il b w w'):bG (·=b) w w':=⟨h.os,h.tape,h.output,h.size,h.block⟩
def mh (b gl gc:Nat) (k:Nat):Prop:=k=b∨k=gl∨k=gc
structure aV (P:Nat->Prop) (w:World) (b gl gc:Nat) (t:Pl.aR):Prop where
 tab:∃ fE jl sx sa sm sc,w.heap[b]?=some (.cells #[.slice (some ⟨gl,0,none⟩) t.lines.length fE,.slice (some ⟨gc,0,none⟩) t.aS.length jl,.int .i64 sx,.slice sa sm sc] 109 (0,0))∧aj P w (.agg #[.int .i64 sx,.slice sa sm sc]) t.scale ∧
  ∃ cs,w.heap[gl]?=some (.cells cs 111 (0,0))∧cs.size=fE*2∧t.lines.length<=fE∧fE<=maxLen∧∀ i,(hi:i<t.lines.length)->∃ u,cs[i*2]?=some (.int .i64 t.lines[i].1)∧cs[i*2+1]?=some u∧aD P w u t.lines[i].2
 aS:∃ cs,w.heap[gc]?=some (.cells cs 3 (0,0))∧∀ i,(hi:i<t.aS.length)->cs[i]?=some (.int .i64 t.aS[i])
 notP:¬ P gc
theorem aV.holds {P:Nat->Prop} {w w':World} {b gl gc:Nat} {t:Pl.aR} (h:aV P w b gl gc t) (hh:Holds P w w') (hb:w'.heap[b]?=w.heap[b]?) (hl:w'.heap[gl]?=w.heap[gl]?) (hc:w'.heap[gc]?=w.heap[gc]?):aV P w' b gl gc t:=by
 obtain ⟨⟨fE,jl,sx,sa,sm,sc,h1,h2,cs,h3,h4,h5,h6,h7⟩,⟨cc,h8,h9⟩,h10⟩:=h;refine ⟨⟨fE,jl,sx,sa,sm,sc,hb.trans h1,h2.ql hh.xJ,cs,hl.trans h3,h4,h5,h6,λi hi=>?_⟩,⟨cc,hc.trans h8,h9⟩,h10⟩;obtain ⟨u,e1,e2,e3⟩:=h7 i hi;exact ⟨u,e1,e2,e3.holds hh⟩
theorem aV.lt {P:Nat->Prop} {w:World} {b gl gc:Nat} {t:Pl.aR} (h:aV P w b gl gc t):b<w.heap.size∧gl<w.heap.size∧gc<w.heap.size∧b≠gl∧b≠gc∧gl≠gc:=by
 obtain ⟨⟨fE,jl,sx,sa,sm,sc,h1,h2,cs,h3,_⟩,⟨cc,h8,h9⟩,h10⟩:=h;refine ⟨z_ h1,z_ h3,z_ h8,λe=>?_,λe=>?_,λe=>?_⟩
 ·rw [e,h3] at h1;simp at h1
 ·rw [e,h8] at h1;simp at h1
 ·rw [e,h8] at h3;simp at h3
theorem aV.grow {P:Nat->Prop} {w w':World} {b gl gc:Nat} {t:Pl.aR} (h:aV P w b gl gc t) (hg:ae w w'):aV P w' b gl gc t :=
 h.holds (.aX hg) (Below.block hg _ h.lt.1) (Below.block hg _ h.lt.2.1) (Below.block hg _ h.lt.2.2.1)
theorem aV.wV {P:Nat->Prop} {w:World} {b gl gc:Nat} {t:Pl.aR} (h:aV P w b gl gc t):rY P w b t:=by
 obtain ⟨⟨fE,jl,sx,sa,sm,sc,h1,h2,cs,h3,h4,h5,h6,h7⟩,⟨cc,h8,h9⟩,h10⟩:=h;refine ⟨⟨_,by rw [cellsOf h1];rfl,_,_,rfl,λi hi=>?_⟩,⟨_,by rw [cellsOf h1];rfl,_,_,rfl,λi hi=>⟨gc,0,rfl,?_⟩⟩,⟨sx,sa,sm,sc,by rw [cellsOf h1];rfl,by rw [cellsOf h1];rfl,h2⟩⟩
 ·obtain ⟨u,e1,e2,e3⟩:=h7 i hi;exact ⟨gl,0,u,rfl,by rw [cellsOf h3,M_];exact e1,by rw [cellsOf h3,M_];exact e2,e3⟩
 ·rw [cellsOf h8,M_,h9 i hi,a_,f_ hi];rfl
theorem bQ {P:Nat->Prop} {w:World} {k:Nat} {cs:Array Value} {T:TypeId} (hk:w.heap[k]?=some (.cells cs T (0,0))) (h1:T≠78∧T≠69) (h2:T=3->¬ P k) (o:Nat) (u:Value):Holds P w (w.setCell ⟨k,o,none⟩ u):=by
 refine λj cur T' hT hj hc=>l_ _ _ _ _ ?_;rintro rfl;rw [hk] at hc;cases hc;rcases hT with e|e|e
 ·exact h2 e hj
 ·exact h1.1 e
 ·exact h1.2 e
theorem fu {P:Nat->Prop} {w:World} {k:Nat} (hk:¬ P k) (o:Nat) (u:Value):Holds P w (w.setCell ⟨k,o,none⟩ u):=by
 refine λj cur T' hT hj hc=>l_ _ _ _ _ ?_;rintro rfl;exact hk hj
theorem Holds.trans {P:Nat->Prop} {w w1 w2:World} (h:Holds P w w1) (h2:Holds P w1 w2):Holds P w w2:=λk cur T hT hk hc=>by
 have e1:=h k cur T hT hk hc;rw [h2 k cur T hT hk (e1.trans hc),e1]
theorem aV.mono {P P':Nat->Prop} {w:World} {b gl gc:Nat} {t:Pl.aR} (h:aV P w b gl gc t) (hP:∀ k,k<w.heap.size->P k->P' k) (hn:¬ P' gc):aV P' w b gl gc t:=by
 obtain ⟨⟨fE,jl,sx,sa,sm,sc,h1,h2,cs,h3,h4,h5,h6,h7⟩,h8,h10⟩:=h;refine ⟨⟨fE,jl,sx,sa,sm,sc,h1,h2.mono hP,cs,h3,h4,h5,h6,λi hi=>?_⟩,h8,hn⟩;obtain ⟨u,e1,e2,e3⟩:=h7 i hi;exact ⟨u,e1,e2,e3.mono hP⟩
theorem aV.setRow {P:Nat->Prop} {w:World} {b gl gc:Nat} {t:Pl.aR} (h:aV P w b gl gc t) {i:Nat} (hi:i<t.lines.length) {v:Value} {row:List Int} (hv:aD P w v row) :
  aV P (w.setCell ⟨gl,i*2+1,none⟩ v) b gl gc { t with lines:=t.lines.set i (t.lines[i].1,row) }:=by
 have hlt:=h.lt;obtain ⟨⟨fE,jl,sx,sa,sm,sc,h1,h2,cs,h3,h4,h5,h6,h7⟩,⟨cc,h8,h9⟩,h10⟩:=h;have hh:Holds P w (w.setCell ⟨gl,i*2+1,none⟩ v):=bQ h3 (by decide) (λe=>absurd e (by decide)) _ _;have e3:=j_ w gl (i*2+1) _ _ v h3;refine ⟨⟨fE,jl,sx,sa,sm,sc,?_,h2.ql hh.xJ,_,e3,by simp [h4],by simpa using h5,h6,λj hj=>?_⟩,⟨cc,?_,h9⟩,h10⟩
 ·rw [l_ _ _ _ _ hlt.2.2.2.1,h1];simp
 ·have hj':j<t.lines.length:=by simpa using hj
  obtain ⟨u,d1,d2,d3⟩:=h7 j hj';by_cases e:i=j
  ·subst e;refine ⟨v,?_,?_,?_⟩
   ·rw [K_ (by omega)];simpa using d1
   ·rw [P_ (by omega)]
   ·simpa using hv.holds hh
  ·refine ⟨u,?_,?_,?_⟩
   ·rw [K_ (by omega)];simpa [List.getElem_set_ne e] using d1
   ·rw [K_ (by omega)];exact d2
   ·simpa [List.getElem_set_ne e] using d3.holds hh
 ·rw [l_ _ _ _ _ (aaQ hlt.2.2.2.2.2),h8]
theorem aV.setName {P:Nat->Prop} {w:World} {b gl gc:Nat} {t:Pl.aR} (h:aV P w b gl gc t) {i:Nat} (hi:i<t.lines.length) (x:Int) :
  aV P (w.setCell ⟨gl,i*2,none⟩ (.int .i64 x)) b gl gc { t with lines:=t.lines.set i (x,t.lines[i].2) }:=by
 have hlt:=h.lt;obtain ⟨⟨fE,jl,sx,sa,sm,sc,h1,h2,cs,h3,h4,h5,h6,h7⟩,⟨cc,h8,h9⟩,h10⟩:=h;have hh:Holds P w (w.setCell ⟨gl,i*2,none⟩ (.int .i64 x)):=bQ h3 (by decide) (λe=>absurd e (by decide)) _ _;have e3:=j_ w gl (i*2) _ _ (.int .i64 x) h3;refine ⟨⟨fE,jl,sx,sa,sm,sc,?_,h2.ql hh.xJ,_,e3,by simp [h4],by simpa using h5,h6,λj hj=>?_⟩,⟨cc,?_,h9⟩,h10⟩
 ·rw [l_ _ _ _ _ hlt.2.2.2.1,h1];simp
 ·have hj':j<t.lines.length:=by simpa using hj
  obtain ⟨u,d1,d2,d3⟩:=h7 j hj';by_cases e:i=j
  ·subst e;refine ⟨u,?_,?_,?_⟩
   ·rw [P_ (by omega)];simp
   ·rw [K_ (by omega)];exact d2
   ·simpa using d3.holds hh
  ·refine ⟨u,?_,?_,?_⟩
   ·rw [K_ (by omega)];simpa [List.getElem_set_ne e] using d1
   ·rw [K_ (by omega)];exact d2
   ·simpa [List.getElem_set_ne e] using d3.holds hh
 ·rw [l_ _ _ _ _ (aaQ hlt.2.2.2.2.2),h8]
theorem aV.We {P:Nat->Prop} {w:World} {b gl gc:Nat} {t:Pl.aR} (h:aV P w b gl gc t) {i:Nat} (hi:i<t.aS.length) (x:Int) :
  aV P (w.setCell ⟨gc,i,none⟩ (.int .i64 x)) b gl gc { t with aS:=t.aS.set i x }:=by
 have hlt:=h.lt;obtain ⟨⟨fE,jl,sx,sa,sm,sc,h1,h2,cs,h3,h4,h5,h6,h7⟩,⟨cc,h8,h9⟩,h10⟩:=h;have hh:Holds P w (w.setCell ⟨gc,i,none⟩ (.int .i64 x)):=bQ h8 (by decide) (λ_=>h10) _ _;have e8:=j_ w gc i _ _ (.int .i64 x) h8;refine ⟨⟨fE,jl,sx,sa,sm,sc,?_,h2.ql hh.xJ,cs,?_,h4,h5,h6,λj hj=>?_⟩,⟨_,e8,λj hj=>?_⟩,h10⟩
 ·rw [l_ _ _ _ _ hlt.2.2.2.2.1,h1];simp
 ·rw [l_ _ _ _ _ hlt.2.2.2.2.2,h3]
 ·obtain ⟨u,d1,d2,d3⟩:=h7 j hj;exact ⟨u,d1,d2,d3.holds hh⟩
 ·have hj':j<t.aS.length:=by simpa using hj
  by_cases e:i=j
  ·subst e;rw [P_ (aaY.1 (h9 i hi)).1];simp
  ·rw [K_ e,h9 j hj',List.getElem_set_ne e]
theorem aV.Qr {P:Nat->Prop} {w:World} {b gl gc:Nat} {t:Pl.aR} (h:aV P w b gl gc t) {x:Int} {a:Option Addr} {m c:Nat} {n:Int} (hv:aj P w (.agg #[.int .i64 x,.slice a m c]) n) :
  aV P ((w.setCell ⟨b,2,none⟩ (.int .i64 x)).setCell ⟨b,3,none⟩ (.slice a m c)) b gl gc { t with scale:=n }:=by
 have hlt:=h.lt;obtain ⟨⟨fE,jl,sx,sa,sm,sc,h1,h2,cs,h3,h4,h5,h6,h7⟩,⟨cc,h8,h9⟩,h10⟩:=h;have e1:=j_ w b 2 _ _ (.int .i64 x) h1;have e2:=j_ _ b 3 _ _ (.slice a m c) e1;have hh:Holds P w ((w.setCell ⟨b,2,none⟩ (.int .i64 x)).setCell ⟨b,3,none⟩ (.slice a m c)):=(bQ h1 (by decide) (λe=>absurd e (by decide)) _ _).trans (bQ e1 (by decide) (λe=>absurd e (by decide)) _ _);refine ⟨⟨fE,jl,x,a,m,c,e2,hv.ql hh.xJ,cs,?_,h4,h5,h6,λj hj=>?_⟩,⟨cc,?_,h9⟩,h10⟩
 ·rw [l_ _ _ _ _ (aaQ hlt.2.2.2.1),l_ _ _ _ _ (aaQ hlt.2.2.2.1),h3]
 ·obtain ⟨u,d1,d2,d3⟩:=h7 j hj;exact ⟨u,d1,d2,d3.holds hh⟩
 ·rw [l_ _ _ _ _ (aaQ hlt.2.2.2.2.1),l_ _ _ _ _ (aaQ hlt.2.2.2.2.1),h8]
theorem aV.cells {P:Nat->Prop} {w:World} {b gl gc:Nat} {t:Pl.aR} (h:aV P w b gl gc t):∃ fE jl,w.cell? ⟨b,0,none⟩=some (.slice (some ⟨gl,0,none⟩) t.lines.length fE)∧w.cell? ⟨b,1,none⟩=some (.slice (some ⟨gc,0,none⟩) t.aS.length jl)∧(∀ o,w.frozen? ⟨b,o,none⟩=false)∧(∀ o,w.frozen? ⟨gl,o,none⟩=false)∧(∀ o,w.frozen? ⟨gc,o,none⟩=false) ∧
  (∀ i,(hi:i<t.lines.length)->w.cell? ⟨gl,i*2,none⟩=some (.int .i64 t.lines[i].1)∧∃ u,w.cell? ⟨gl,i*2+1,none⟩=some u∧aD P w u t.lines[i].2)∧(∀ i,(hi:i<t.aS.length)->w.cell? ⟨gc,i,none⟩=some (.int .i64 t.aS[i]))∧∃ sx sa sm sc,w.cell? ⟨b,2,none⟩=some (.int .i64 sx)∧w.cell? ⟨b,3,none⟩=some (.slice sa sm sc)∧aj P w (.agg #[.int .i64 sx,.slice sa sm sc]) t.scale:=by
 obtain ⟨⟨fE,jl,sx,sa,sm,sc,h1,h2,cs,h3,h4,h5,h6,h7⟩,⟨cc,h8,h9⟩,h10⟩:=h;refine ⟨fE,jl,by rw [cellsOf h1];rfl,by rw [cellsOf h1];rfl,λo=>aH h1 o,λo=>aH h3 o,λo=>aH h8 o,λi hi=>?_,λi hi=>by rw [cellsOf h8];exact h9 i hi,sx,sa,sm,sc,by rw [cellsOf h1];rfl,by rw [cellsOf h1];rfl,h2⟩;obtain ⟨u,d1,d2,d3⟩:=h7 i hi;exact ⟨by rw [cellsOf h3];exact d1,u,by rw [cellsOf h3];exact d2,d3⟩
theorem CQ (t:Pl.aR) (i r c:Nat) (sg:Int):(t.told i r c sg).length=t.aS.length+1:=by simp [Pl.aR.told]
theorem EI (t:Pl.aR) (i r c:Nat) (sg:Int) {j:Nat} (hj:j<t.aS.length+1):(t.told i r c sg).take (j+1)=(t.told i r c sg).take j++[sg*(if j=c then t.cell i c else Int.fdiv (t.cell r c*t.cell i j - t.cell i c*t.cell r j) t.scale)]:=by
 rw [List.take_add_one,f_ (by rw [CQ];exact hj)];simp [Pl.aR.told]
theorem SF (t:Pl.aR) (i r c:Nat) (sg:Int) (hj:c<t.aS.length+1):(t.told i r c sg).take (c+1)=(t.told i r c sg).take c++[sg*t.cell i c]:=by
 rw [EI t i r c sg hj,h_ rfl]
theorem Qm (t:Pl.aR) (i r c:Nat) (sg:Int) {j:Nat} (hj:j<t.aS.length+1) (hjc:¬ j=c):(t.told i r c sg).take (j+1)=(t.told i r c sg).take j++[sg*Int.fdiv (t.cell r c*t.cell i j - t.cell i c*t.cell r j) t.scale]:=by
 rw [EI t i r c sg hj,g_ hjc]
structure qg (K:Nat) (t:Pl.aR):Prop where
 cell:∀ r j,r<t.lines.length->j<t.aS.length+1->Pl.Lt K (t.cell r j)
 scale:Pl.Lt K t.scale
structure V5 (K:Nat) (t:Pl.aR) (i r:Nat):Prop where
 mine:∀ j,j<t.aS.length+1->Pl.Lt K (t.cell i j)
 row:∀ j,j<t.aS.length+1->Pl.Lt K (t.cell r j)
 scale:Pl.Lt K t.scale
attribute [local go_sem] bD
set_option maxHeartbeats 20000000 in
theorem Qn (P:Nat->Prop) (K:Nat) (b:Nat) (t:Pl.aR) (w:World) (hP:∀ b,w.heap.size<=b->P b) (h:rY P w b t) (hfit:mG t) {i r c:Nat} (hlt:V5 K t i r) (hK:2*K+1<=1500000000000) (hi:i<t.lines.length) (hr:r<t.lines.length) (hc:c<t.aS.length+1) {sg:Int} (hs:sg=1∨sg=-1) :
  Calls Tryz.prog 88 #[.pointer (some ⟨b,0,none⟩),.int .i64 i,.int .i64 r,.int .i64 c,.int .i64 sg] w λe w'=>∃ v',e=.returned v'∧aD P w' v' (t.told i r c sg)∧Below w.heap.size w w':=by
 obtain ⟨i0,hi0,hz0,hz1,hz2⟩:=U_ Tryz.dP;have HT:=af h;have uK:=af hfit;have lC:=af hlt;have hn1:=hfit.lines;have hn2:=hfit.aS;clear h hfit hlt;have HCr:=af (λw1 (h:ae w w1) (j:Nat) (hj:j<t.aS.length+1)=>jP P b t w1 ((uh HT).below h) hn1 (uh uK).le hr (j:=j) (by rw [(uh uK).row hr];exact hj));have HCi:=af (λw1 (h:ae w w1) (j:Nat) (hj:j<t.aS.length+1)=>jP P b t w1 ((uh HT).below h) hn1 (uh uK).le hi (j:=j) (by rw [(uh uK).row hi];exact hj));go_enter Tryz.func88,Tryz.ntmps88;go_wp2_with fail;refine (uh HCr w (ae.refl w) c hc).mono ?_;rintro e w1 ⟨v1,rfl,hv1,hw1⟩;obtain ⟨px,pa,pm,pc,rfl⟩:=hv1.shape;have wP:=af (dC hv1);have dN:Hid (ae w (w1.alloc (.cells #[.int .i64 px,.slice pa pm pc] 78))):=ae.trans hw1 (ae.alloc _ _);clear hv1 hw1;go_wp2_with fail;generalize hW1:w1.alloc (.cells #[.int .i64 px,.slice pa pm pc] 78)=W1 at *
 generalize hg1:w1.heap.size=g1 at *
 clear hW1 hg1 w1;refine (uh HCi W1 (uh dN) c hc).mono ?_;rintro e w2 ⟨v2,rfl,hv2,hw2⟩;obtain ⟨fx,fa,fm,fc,rfl⟩:=hv2.shape;have GV:=af (dC hv2);have HG2:Hid (ae W1 (w2.alloc (.cells #[.int .i64 fx,.slice fa fm fc] 78))):=ae.trans hw2 (ae.alloc _ _);have Zm:g1<w2.heap.size:=aa9 (uh wP).lt (ae.size hw2);clear hv2 hw2;obtain ⟨vc,kc,adc,SC,rfl,hci⟩:=((uh HT).below ((uh dN).trans (uh HG2))).aS;clear hci;go_wp2_with (at_make;refine wpList_make_full _ rfl _ _ 69 rfl (w2.alloc (.cells #[.int .i64 fx,.slice fa fm fc] 78)).heap.size 78 i0 (.agg #[.int .i64 0,.slice none 0 0]) 2 Tryz.underlying69 hi0 hz0 hz1 .i64 .i64 _ _ (t.aS.length+1) rfl rfl ?e1 ?e2 ?c1 ?c2 ?c3 ?_)
 case e1=>first | rfl | omega | simp
 case e2=>first | rfl | omega | simp
 case c1=>rw [hz2];omega
 case c2=>unfold maxLen;omega
 case c3=>omega
 ·intro w3 hown hgrow;generalize hW2:w2.alloc (.cells #[.int .i64 fx,.slice fa fm fc] 78)=W2 at *
  generalize hg2:w2.heap.size=g2 at *
  have hG3:ae W2 w3:=(n_ _ _).grown hgrow (d_ _) (by intro k hk;cases hk);obtain ⟨cs,hblk,hcs⟩:=rZ hown;have hG:W2.heap.size=g2+1:=by rw [<-hW2,H_,hg2]
  have hlast:g2<g2+1:=by omega
  generalize g2+1=g at *
  generalize hN:t.aS.length+1=n at *
  have H1:Hid (og P w3 g n []):=⟨cs,hblk,hcs,by simp,λi hi=>by simp at hi⟩;have DW:Hid (ae w w3):=((uh dN).trans (uh HG2)).trans hG3;have HVp:=af (((uh wP).grow (uh HG2)).grow hG3);have Zn:=af ((uh GV).grow hG3);have akH:g1<g:=by rw [<-hG];have:=((uh wP).grow (uh HG2)).lt;exact this
  have akI:g2<g:=hlast;have hwg:w.heap.size<=g:=by rw [<-hG];exact ((uh dN).trans (uh HG2)).size
  have Md:Hid (w3.heap[g]?=some (.cells cs 78 (0,0))):=hblk;clear hown hgrow hblk kc hcs hG3 wP GV dN HG2 hW2 hg2 hG Zm;go_wp2_with fail;clear w2 W2;go_loopg [14] n (λk jv wr=>∃ (l:List Int),jv=.int .i64 l.length∧l.length+k=n∧Hid (og P wr g n l∧il g w3 wr∧l=(t.told i r c sg).take l.length))
  case atStart=>exact ⟨[],rfl,by simp,uh H1,.aX (ae.refl _),by simp⟩
  case round =>
   obtain ⟨l,rfl,hlk,HR⟩:=hrel;by_cases hlt:l.length<n
   ·have HGr:Hid (ae w wr):=aa2 (uh DW) (il.below (uh HR).2.1 hwg (uh DW).size);have V6:=af ((uh HVp).only (uh HR).2.1 (uh Md) (by decide) (by omega));have SG:=af ((uh Zn).only (uh HR).2.1 (uh Md) (by decide) (by omega));obtain ⟨f0,f1,f2,f3⟩:=(uh SG).cells;obtain ⟨p0,p1,p2,p3⟩:=(uh V6).cells;have HV5:=af (dC (uh SG).val);have gD:Hid (ae wr (wr.alloc (.cells #[.int .i64 fx,.slice fa fm fc] 78))):=ae.alloc _ _;by_cases hjc:l.length=c
    ·subst hjc;go_wp2_with fail;refine (tO P (t.cell i l.length) sg _ _ (uh HV5).val hs).mono ?_;rintro e w8 ⟨v8,rfl,sQ,hw8⟩;obtain ⟨x8,a8,m8,c8,rfl⟩:=sQ.shape;have V7:ae wr w8:=ae.trans (uh gD) hw8;have J9:=(uh HR).1.below V7;obtain ⟨u1,u2,o0,o1,of0,of1⟩:=J9.open hlt;have HF:=af (J9.add hlt sQ);have Oq:Hid (il g w3 ((w8.setCell ⟨g,l.length*2,none⟩ (.int .i64 x8)).setCell ⟨g,l.length*2+1,none⟩ (.slice a8 m8 c8))):=(((uh HR).2.1.grow V7).setCell _ _).setCell _ _;have HL:Hid (l++[sg*(t.cell i l.length)]=(t.told i r l.length sg).take (l++[sg*(t.cell i l.length)]).length):=by
      unfold Hid;have e1:(l++[sg*(t.cell i l.length)]).length=l.length+1:=by simp
      rw [e1,SF t i r l.length sg (by omega),<-(uh HR).2.2]
     clear sQ hw8 J9 V7;go_wp2;go_roundg (gk - 1)
     case measure=>omega
     case rel=>exact ⟨l++[sg*(t.cell i l.length)],by simp,by simp;omega,uh HF,uh Oq,uh HL⟩
    ·have tne:((l.length:Int) != (c:Int))=true:=by simp;omega
     go_wp2_with fail;generalize Bh:wr.alloc (.cells #[.int .i64 fx,.slice fa fm fc] 78)=W5 at *
     have Nh:Hid (ae w W5):=(uh HGr).trans (uh gD);have Zo:=af ((uh V6).grow (uh gD));have SH:=af ((uh SG).grow (uh gD));obtain ⟨p50,p51,_⟩:=(uh Zo).cells;have y1:=b_ p50;have y2:=b_ p51;clear p0 p1 p2 p3 f0 f1 f2 f3 p50 p51 V6 SG;refine ah (bZ [(47,λv w=>aj P w v (t.cell i l.length)),(48,λv w=>aj P w v (t.cell r c*t.cell i l.length)),(16,bg W5)]) (gL [(47,ag),(48,ag),(16,bL)]) 70 7 (by kernel_rfl) (by rfl) (by kernel_rfl) (aN (λ_ _ _=>aj.below) (aN (λ_ _ _=>aj.below) (aN (λ_ _ _=>bg.grow) cK))) ?_
     iterate 4 (refine aO λK hK=>?_;go_simp;refine hK _ ?_;clear hK K)
     refine ai ag 87 #[.pointer (some ⟨b,0,none⟩),.int .i64 i,.int .i64 l.length] (by rfl) (by rfl) ag.some (λw=>by go_simp) (λw1 hg hf=>(uh HCi w1 ((uh Nh).trans hg) l.length (by omega)).mono (by rintro e w' ⟨v',rfl,hv,hb⟩;exact ⟨_,rfl,hb,hv.aU,λt ht=>by cases ht;exact hv⟩)) ?_;rintro _ ⟨cx,ca,cm,cc,rfl⟩;refine ai ag 58 #[.agg #[.int .i64 px,.slice pa pm pc],.agg #[.int .i64 cx,.slice ca cm cc]] (by rfl) (by rfl) ag.some (λw=>by go_simp) (λw1 hg hf=>(eD P K (t.cell r c) (t.cell i l.length) _ _ w1 (λb' hb'=>hP b' (by have:=((uh Nh).trans hg).size;omega)) ((uh Zo).val.below hg) (hf 4 (by kernel_rfl) _ 47 rfl rfl) (by omega) ((uh lC).row c (by omega)) ((uh lC).mine _ (by omega))).mono (by rintro e w' ⟨v',rfl,hv,hb⟩;exact ⟨_,rfl,hb,hv.aU,λt ht=>by cases ht;exact hv⟩)) ?_;rintro _ ⟨ax,aa,am,ac,rfl⟩;refine eO bL (by rfl) (by rfl) bL.some (λw1 hg hf=>⟨.pointer (some ⟨w1.heap.size,0,none⟩),w1.alloc (.cells #[.int .i64 0,.slice none 0 0] 78),by go_simp,ae.alloc _ _,⟨_,rfl⟩,λt ht=>by cases ht;exact bg.new hg⟩) ?_;rintro _ ⟨g16,rfl⟩;refine aF ?_;intro w6 rH aK;have q48:aj P w6 (.agg #[.int .i64 ax,.slice aa am ac]) (t.cell r c*t.cell i l.length):=aK 5 _ 48 (by decide) rfl rfl;have q16:bg W5 (.pointer (some ⟨g16,0,none⟩)) w6:=aK 6 _ 16 (by decide) rfl rfl;clear aK y1 y2;have hge:=q16.own.1;have hblk:=q16.own.2;have s0:=(au hblk).1;have s1:=(au hblk).2.1;have s2:=(au hblk).2.2.1;have s3:=(au hblk).2.2.2;have sv:=(bH rH hge hblk q48).1;have sg6:=(bH rH hge hblk q48).2;have Zp:=af sv;have lT:Hid (ae W5 ((w6.setCell ⟨g16,0,none⟩ (.int .i64 ax)).setCell ⟨g16,1,none⟩ (.slice aa am ac))):=sg6;clear sv sg6 q48 hge hblk rH q16;go_wp2_with fail;generalize J2:(w6.setCell ⟨g16,0,none⟩ (.int .i64 ax)).setCell ⟨g16,1,none⟩ (.slice aa am ac)=W6 at *
     have Dx:Hid (ae w W6):=(uh Nh).trans (uh lT);have Zq:=af ((uh SH).grow (uh lT));obtain ⟨f60,f61,_⟩:=(uh Zq).cells;have y1:=b_ f60;have y2:=b_ f61;clear f60 f61 s0 s1 s2 s3 J2 w6;refine ah (bZ [(53,λv w=>aj P w v (t.cell r l.length)),(54,λv w=>aj P w v (t.cell i c*t.cell r l.length)),(17,bg W6)]) (gL [(53,ag),(54,ag),(17,bL)]) 70 7 (by kernel_rfl) (by rfl) (by kernel_rfl) (aN (λ_ _ _=>aj.below) (aN (λ_ _ _=>aj.below) (aN (λ_ _ _=>bg.grow) cK))) ?_
     iterate 4 (refine aO λK hK=>?_;go_simp;refine hK _ ?_;clear hK K)
     refine ai ag 87 #[.pointer (some ⟨b,0,none⟩),.int .i64 r,.int .i64 l.length] (by rfl) (by rfl) ag.some (λw=>by go_simp) (λw1 hg hf=>(uh HCr w1 ((uh Dx).trans hg) l.length (by omega)).mono (by rintro e w' ⟨v',rfl,hv,hb⟩;exact ⟨_,rfl,hb,hv.aU,λt ht=>by cases ht;exact hv⟩)) ?_;rintro _ ⟨dx,da,dm,dc,rfl⟩;refine ai ag 58 #[.agg #[.int .i64 fx,.slice fa fm fc],.agg #[.int .i64 dx,.slice da dm dc]] (by rfl) (by rfl) ag.some (λw=>by go_simp) (λw1 hg hf=>(eD P K (t.cell i c) (t.cell r l.length) _ _ w1 (λb' hb'=>hP b' (by have:=((uh Dx).trans hg).size;omega)) ((uh Zq).val.below hg) (hf 4 (by kernel_rfl) _ 53 rfl rfl) (by omega) ((uh lC).mine c (by omega)) ((uh lC).row _ (by omega))).mono (by rintro e w' ⟨v',rfl,hv,hb⟩;exact ⟨_,rfl,hb,hv.aU,λt ht=>by cases ht;exact hv⟩)) ?_;rintro _ ⟨bx,ba,bm,bc,rfl⟩;refine eO bL (by rfl) (by rfl) bL.some (λw1 hg hf=>⟨.pointer (some ⟨w1.heap.size,0,none⟩),w1.alloc (.cells #[.int .i64 0,.slice none 0 0] 78),by go_simp,ae.alloc _ _,⟨_,rfl⟩,λt ht=>by cases ht;exact bg.new hg⟩) ?_;rintro _ ⟨g17,rfl⟩;refine aF ?_;intro w7 sI aK;have V8:aj P w7 (.agg #[.int .i64 bx,.slice ba bm bc]) (t.cell i c*t.cell r l.length):=aK 5 _ 54 (by decide) rfl rfl;have q17:bg W6 (.pointer (some ⟨g17,0,none⟩)) w7:=aK 6 _ 17 (by decide) rfl rfl;clear aK y1 y2;have hge:=q17.own.1;have hblk:=q17.own.2;have s0:=(au hblk).1;have s1:=(au hblk).2.1;have s2:=(au hblk).2.2.1;have s3:=(au hblk).2.2.2;have sv:=(bH sI hge hblk V8).1;have sg7:=(bH sI hge hblk V8).2;have Xr:=af sv;have Du:Hid (ae W6 ((w7.setCell ⟨g17,0,none⟩ (.int .i64 bx)).setCell ⟨g17,1,none⟩ (.slice ba bm bc))):=sg7;clear sv sg7 V8 hge hblk sI q17;go_wp2_with fail;generalize SI:(w7.setCell ⟨g17,0,none⟩ (.int .i64 bx)).setCell ⟨g17,1,none⟩ (.slice ba bm bc)=W7 at *
     have Jh:Hid (ae w W7):=(uh Dx).trans (uh Du);have Zr:=af ((uh Zp).grow (uh Du));have ads:=af (((uh HV5).grow (uh lT)).grow (uh Du));have Zt:Hid (ae wr W7):=((uh gD).trans (uh lT)).trans (uh Du);obtain ⟨a70,a71,_⟩:=(uh Zr).cells;obtain ⟨b70,b71,_⟩:=(uh Xr).cells;obtain ⟨sx,sa,sm,sc,k2,k3,hsc⟩:=((uh HT).below (uh Jh)).scale;have Uk:=af hsc;have y1:=b_ a70;have y2:=b_ a71;have y3:=b_ b70;have y4:=b_ b71;have y5:=b_ k2;have y6:=b_ k3;clear a70 a71 b70 b71 k2 k3 hsc s0 s1 s2 s3 SI w7;refine ah (bZ [(57,λv w=>aj P w v (t.cell r c*t.cell i l.length - t.cell i c*t.cell r l.length)),(62,λv w=>aj P w v (Int.fdiv (t.cell r c*t.cell i l.length - t.cell i c*t.cell r l.length) t.scale))]) (gL [(57,ag),(62,ag)]) 70 8 (by kernel_rfl) (by rfl) (by kernel_rfl) (aN (λ_ _ _=>aj.below) (aN (λ_ _ _=>aj.below) cK)) ?_
     iterate 2 (refine aO λK hK=>?_;go_simp;refine hK _ ?_;clear hK K)
     refine ai ag 57 #[.agg #[.int .i64 ax,.slice aa am ac],.agg #[.int .i64 bx,.slice ba bm bc]] (by rfl) (by rfl) ag.some (λw=>by go_simp) (λw1 hg hf=>(kF P (2*K) (t.cell r c*t.cell i l.length) (t.cell i c*t.cell r l.length) _ _ w1 (λb' hb'=>hP b' (by have:=((uh Jh).trans hg).size;omega)) ((uh Zr).val.below hg) ((uh Xr).val.below hg) (by omega) (by rw [Nat.two_mul];exact ((uh lC).row c (by omega)).mul ((uh lC).mine _ (by omega))) (by rw [Nat.two_mul];exact ((uh lC).mine c (by omega)).mul ((uh lC).row _ (by omega)))).mono (by rintro e w' ⟨v',rfl,hv,hb⟩;exact ⟨_,rfl,hb,hv.aU,λt ht=>by cases ht;exact hv⟩)) ?_;rintro _ ⟨ex,ea,em,ec,rfl⟩
     iterate 4 (refine aO λK hK=>?_;go_simp;refine hK _ ?_;clear hK K)
     refine ai ag 56 #[.agg #[.int .i64 ex,.slice ea em ec],.agg #[.int .i64 sx,.slice sa sm sc]] (by rfl) (by rfl) ag.some (λw=>by go_simp) (λw1 hg hf=>(lu P (2*K+1) (t.cell r c*t.cell i l.length - t.cell i c*t.cell r l.length) t.scale _ _ w1 (λb' hb'=>hP b' (by have:=((uh Jh).trans hg).size;omega)) (hf 2 (by kernel_rfl) _ 57 rfl rfl) ((uh Uk).below hg) hK (Pl.Lt.sub (by rw [Nat.two_mul];exact ((uh lC).row c (by omega)).mul ((uh lC).mine _ (by omega))) (by rw [Nat.two_mul];exact ((uh lC).mine c (by omega)).mul ((uh lC).row _ (by omega)))) ((uh lC).scale.mono (by omega))).mono (by rintro e w' ⟨v',rfl,hv,hb⟩;exact ⟨_,rfl,hb,hv.aU,λt ht=>by cases ht;exact hv⟩)) ?_;rintro _ ⟨d2x,d2a,d2m,d2c,rfl⟩;refine aF ?_;intro w8 Dt aK;have q62:aj P w8 (.agg #[.int .i64 d2x,.slice d2a d2m d2c]) (Int.fdiv (t.cell r c*t.cell i l.length - t.cell i c*t.cell r l.length) t.scale):=aK 7 _ 62 (by decide) rfl rfl;clear aK y1 y2 y3 y4 y5 y6;have hblk:=((uh ads).grow Dt).heap;have s0:=(au hblk).1;have s1:=(au hblk).2.1;have s2:=(au hblk).2.2.1;have s3:=(au hblk).2.2.2;have sv:=(bH ((uh Zt).trans Dt) (d_ _) hblk q62).1;have sg8:=(bH ((uh Zt).trans Dt) (d_ _) hblk q62).2;have Ot:=af sv;have yD:Hid (ae wr ((w8.setCell ⟨wr.heap.size,0,none⟩ (.int .i64 d2x)).setCell ⟨wr.heap.size,1,none⟩ (.slice d2a d2m d2c))):=sg8;clear sv sg8 q62 hblk Dt;go_wp2_with fail;refine (tO P (Int.fdiv (t.cell r c*t.cell i l.length - t.cell i c*t.cell r l.length) t.scale) sg _ _ (uh Ot).val hs).mono ?_;rintro e w8 ⟨v8,rfl,sQ,hw8⟩;obtain ⟨x8,a8,m8,c8,rfl⟩:=sQ.shape;have V7:ae wr w8:=ae.trans (uh yD) hw8;have J9:=(uh HR).1.below V7;obtain ⟨u1,u2,o0,o1,of0,of1⟩:=J9.open hlt;have HF:=af (J9.add hlt sQ);have Oq:Hid (il g w3 ((w8.setCell ⟨g,l.length*2,none⟩ (.int .i64 x8)).setCell ⟨g,l.length*2+1,none⟩ (.slice a8 m8 c8))):=(((uh HR).2.1.grow V7).setCell _ _).setCell _ _;have HL:Hid (l++[sg*(Int.fdiv (t.cell r c*t.cell i l.length - t.cell i c*t.cell r l.length) t.scale)]=(t.told i r c sg).take (l++[sg*(Int.fdiv (t.cell r c*t.cell i l.length - t.cell i c*t.cell r l.length) t.scale)]).length):=by
      unfold Hid;have e1:(l++[sg*(Int.fdiv (t.cell r c*t.cell i l.length - t.cell i c*t.cell r l.length) t.scale)]).length=l.length+1:=by simp
      rw [e1,Qm t i r c sg (by omega) hjc,<-(uh HR).2.2]
     clear sQ hw8 J9 V7;go_wp2;go_roundg (gk - 1)
     case measure=>omega
     case rel=>exact ⟨l++[sg*(Int.fdiv (t.cell r c*t.cell i l.length - t.cell i c*t.cell r l.length) t.scale)],by simp,by simp;omega,uh HF,uh Oq,uh HL⟩
   ·have hk0:gk=0:=by omega
    have hll:l.length=n:=by omega
    have HR2:Hid (aD P wr (.slice (some ⟨g,0,none⟩) n n) (t.told i r c sg)∧Below w.heap.size w wr):=by
     obtain ⟨r1,r2,r3⟩:=uh HR;refine ⟨?_,aa2 (uh DW) (il.below r2 hwg (uh DW).size)⟩;have:=r1.row hll (hP g (by omega));rw [r3,aaE (by rw [CQ];omega)] at this;exact this
    clear HR;go_wp2;go_ret;exact ⟨_,rfl,(uh HR2).1,(uh HR2).2⟩
end Go.Proofs.YtgaafamcajcifaaGreat
