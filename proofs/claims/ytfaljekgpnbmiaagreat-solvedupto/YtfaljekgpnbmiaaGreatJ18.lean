/- Joined: XOwn XMem7. -/
import Derived.Test.YtfaljekgpnbmiaaGreatJ17
set_option linter.unusedVariables false
set_option linter.unusedSimpArgs false
set_option maxRecDepth 100000
namespace Go.Proofs.YtfaljekgpnbmiaaGreat
open Go.RowKit Go.Sort
structure bH (S:Nat->Prop) (w w':World):Prop where
 os:w'.os=w.os
 tape:w'.tape=w.tape
 output:w'.output=w.output
 size:w.heap.size<=w'.heap.size
 block:∀ k:Nat,k<w.heap.size->¬ S k->w'.heap[k]?=w.heap[k]?
theorem bH.dh {S:Nat->Prop} {w w':World} (h:ae w w'):bH S w w':=⟨h.os,h.tape,h.output,acy h,λk hk _=>ab_ h k hk⟩
theorem bH.refl (S:Nat->Prop) (w:World):bH S w w:=.dh (ae.refl w)
theorem bH.trans {S:Nat->Prop} {w w1 w2:World} (h:bH S w w1) (h2:bH S w1 w2):bH S w w2 :=
 ⟨h2.os.trans h.os,h2.tape.trans h.tape,h2.output.trans h.output,w_ h.size h2.size,λk hk hne=>(h2.block k (abA hk h.size) hne).trans (h.block k hk hne)⟩
theorem bH.mono {S S':Nat->Prop} {w w':World} (h:bH S w w') (hS:∀ k,k<w.heap.size->S k->S' k):bH S' w w' :=
 ⟨h.os,h.tape,h.output,h.size,λk hk hne=>h.block k hk (λhs=>hne (hS k hk hs))⟩
theorem bH.grow {S:Nat->Prop} {w w1 w2:World} (h:bH S w w1) (h2:ae w1 w2):bH S w w2:=h.trans (.dh h2)
theorem bH.setCell {S:Nat->Prop} {w w':World} (h:bH S w w') {b:Nat} (hb:S b) (o:Nat) (u:Value):bH S w (w'.setCell ⟨b,o,none⟩ u) :=
 h.trans ⟨rfl,rfl,rfl,by simp,λk _ hne=>l_ _ _ _ _ (λe=>hne (by rw [e];exact hb))⟩
theorem bH.zU {S:Nat->Prop} {w w':World} (h:bH S w w') {b:Nat} (hb:w.heap.size<=b) (o:Nat) (u:Value):bH S w (w'.setCell ⟨b,o,none⟩ u) :=
 ⟨h.os,h.tape,h.output,by simp;exact h.size,λk hk hne=>by rw [l_ _ _ _ _ (show k≠b by omega)];exact h.block k hk hne⟩
theorem bH.below {S:Nat->Prop} {w w':World} (h:bH S w w') {B:Nat} (hS:∀ k,S k->B<=k) (hB:B<=w.heap.size):Below B w w' :=
 ⟨h.os,h.tape,h.output,h.size,λk hk=>h.block k (by omega) (λhs=>by have:=hS k hs;omega)⟩
theorem bH.TN {b:Nat} {w w':World} (h:iw b w w'):bH (·=b) w w':=⟨h.os,h.tape,h.output,h.size,h.block⟩
def mD (b gl gc:Nat) (k:Nat):Prop:=k=b∨k=gl∨k=gc
structure aV (P:Nat->Prop) (w:World) (b gl gc:Nat) (t:Pl.aR):Prop where
 tab:∃ fG jq sx sa sm sc,w.heap[b]?=some (.cells #[.slice (some ⟨gl,0,none⟩) t.lines.length fG,.slice (some ⟨gc,0,none⟩) t.aS.length jq,.int .i64 sx,.slice sa sm sc] 322 (0,0))∧aj P w (.agg #[.int .i64 sx,.slice sa sm sc]) t.scale ∧
  ∃ cs,w.heap[gl]?=some (.cells cs 324 (0,0))∧cs.size=fG*2∧t.lines.length<=fG∧fG<=maxLen∧∀ i,(hi:i<t.lines.length)->∃ u,cs[i*2]?=some (.int .i64 t.lines[i].1)∧cs[i*2+1]?=some u∧aD P w u t.lines[i].2
 aS:∃ cs,w.heap[gc]?=some (.cells cs 3 (0,0))∧∀ i,(hi:i<t.aS.length)->cs[i]?=some (.int .i64 t.aS[i])
 notP:¬ P gc
theorem aV.holds {P:Nat->Prop} {w w':World} {b gl gc:Nat} {t:Pl.aR} (h:aV P w b gl gc t) (hh:Holds P w w') (hb:w'.heap[b]?=w.heap[b]?) (hl:w'.heap[gl]?=w.heap[gl]?) (hc:w'.heap[gc]?=w.heap[gc]?):aV P w' b gl gc t:=by
 obtain ⟨⟨fG,jq,sx,sa,sm,sc,h1,h2,cs,h3,h4,h5,h6,h7⟩,⟨cc,h8,h9⟩,h10⟩:=h;refine ⟨⟨fG,jq,sx,sa,sm,sc,hb.trans h1,h2.qp hh.xL,cs,hl.trans h3,h4,h5,h6,λi hi=>?_⟩,⟨cc,hc.trans h8,h9⟩,h10⟩;obtain ⟨u,e1,e2,e3⟩:=h7 i hi;exact ⟨u,e1,e2,e3.holds hh⟩
theorem aV.lt {P:Nat->Prop} {w:World} {b gl gc:Nat} {t:Pl.aR} (h:aV P w b gl gc t):b<w.heap.size∧gl<w.heap.size∧gc<w.heap.size∧b≠gl∧b≠gc∧gl≠gc:=by
 obtain ⟨⟨fG,jq,sx,sa,sm,sc,h1,h2,cs,h3,_⟩,⟨cc,h8,h9⟩,h10⟩:=h;refine ⟨z_ h1,z_ h3,z_ h8,λe=>?_,λe=>?_,λe=>?_⟩
 ·rw [e,h3] at h1;simp at h1
 ·rw [e,h8] at h1;simp at h1
 ·rw [e,h8] at h3;simp at h3
theorem aV.grow {P:Nat->Prop} {w w':World} {b gl gc:Nat} {t:Pl.aR} (h:aV P w b gl gc t) (hg:ae w w'):aV P w' b gl gc t :=
 h.holds (.aX hg) (ab_ hg _ h.lt.1) (ab_ hg _ h.lt.2.1) (ab_ hg _ h.lt.2.2.1)
theorem aV.wX {P:Nat->Prop} {w:World} {b gl gc:Nat} {t:Pl.aR} (h:aV P w b gl gc t):r9 P w b t:=by
 obtain ⟨⟨fG,jq,sx,sa,sm,sc,h1,h2,cs,h3,h4,h5,h6,h7⟩,⟨cc,h8,h9⟩,h10⟩:=h;refine ⟨⟨_,by rw [cellsOf h1];rfl,_,_,rfl,λi hi=>?_⟩,⟨_,by rw [cellsOf h1];rfl,_,_,rfl,λi hi=>⟨gc,0,rfl,?_⟩⟩,⟨sx,sa,sm,sc,by rw [cellsOf h1];rfl,by rw [cellsOf h1];rfl,h2⟩⟩
 ·obtain ⟨u,e1,e2,e3⟩:=h7 i hi;exact ⟨gl,0,u,rfl,by rw [cellsOf h3,M_];exact e1,by rw [cellsOf h3,M_];exact e2,e3⟩
 ·rw [cellsOf h8,M_,h9 i hi,a_,f_ hi];rfl
theorem bR {P:Nat->Prop} {w:World} {k:Nat} {cs:Array Value} {T:TypeId} (hk:w.heap[k]?=some (.cells cs T (0,0))) (h1:T≠168∧T≠159) (h2:T=3->¬ P k) (o:Nat) (u:Value):Holds P w (w.setCell ⟨k,o,none⟩ u):=by
 refine λj cur T' hT hj hc=>l_ _ _ _ _ ?_;rintro rfl;rw [hk] at hc;cases hc;rcases hT with e|e|e
 ·exact h2 e hj
 ·exact h1.1 e
 ·exact h1.2 e
theorem fA {P:Nat->Prop} {w:World} {k:Nat} (hk:¬ P k) (o:Nat) (u:Value):Holds P w (w.setCell ⟨k,o,none⟩ u):=by
 refine λj cur T' hT hj hc=>l_ _ _ _ _ ?_;rintro rfl;exact hk hj
theorem Holds.trans {P:Nat->Prop} {w w1 w2:World} (h:Holds P w w1) (h2:Holds P w1 w2):Holds P w w2:=λk cur T hT hk hc=>by
 have e1:=h k cur T hT hk hc;rw [h2 k cur T hT hk (e1.trans hc),e1]
theorem aV.mono {P P':Nat->Prop} {w:World} {b gl gc:Nat} {t:Pl.aR} (h:aV P w b gl gc t) (hP:∀ k,k<w.heap.size->P k->P' k) (hn:¬ P' gc):aV P' w b gl gc t:=by
 obtain ⟨⟨fG,jq,sx,sa,sm,sc,h1,h2,cs,h3,h4,h5,h6,h7⟩,h8,h10⟩:=h;refine ⟨⟨fG,jq,sx,sa,sm,sc,h1,h2.mono hP,cs,h3,h4,h5,h6,λi hi=>?_⟩,h8,hn⟩;obtain ⟨u,e1,e2,e3⟩:=h7 i hi;exact ⟨u,e1,e2,e3.mono hP⟩
theorem aV.setRow {P:Nat->Prop} {w:World} {b gl gc:Nat} {t:Pl.aR} (h:aV P w b gl gc t) {i:Nat} (hi:i<t.lines.length) {v:Value} {row:List Int} (hv:aD P w v row) :
  aV P (w.setCell ⟨gl,i*2+1,none⟩ v) b gl gc { t with lines:=t.lines.set i (t.lines[i].1,row) }:=by
 have hlt:=h.lt;obtain ⟨⟨fG,jq,sx,sa,sm,sc,h1,h2,cs,h3,h4,h5,h6,h7⟩,⟨cc,h8,h9⟩,h10⟩:=h;have hh:Holds P w (w.setCell ⟨gl,i*2+1,none⟩ v):=bR h3 (by decide) (λe=>absurd e (by decide)) _ _;have e3:=j_ w gl (i*2+1) _ _ v h3;refine ⟨⟨fG,jq,sx,sa,sm,sc,?_,h2.qp hh.xL,_,e3,by simp [h4],by simpa using h5,h6,λj hj=>?_⟩,⟨cc,?_,h9⟩,h10⟩
 ·rw [l_ _ _ _ _ hlt.2.2.2.1,h1];simp
 ·have hj':j<t.lines.length:=by simpa using hj
  obtain ⟨u,d1,d2,d3⟩:=h7 j hj';by_cases e:i=j
  ·subst e;refine ⟨v,?_,?_,?_⟩
   ·rw [K_ (by omega)];simpa using d1
   ·rw [Q_ (by omega)]
   ·simpa using hv.holds hh
  ·refine ⟨u,?_,?_,?_⟩
   ·rw [K_ (by omega)];simpa [ads e] using d1
   ·rw [K_ (by omega)];exact d2
   ·simpa [ads e] using d3.holds hh
 ·rw [l_ _ _ _ _ (abf hlt.2.2.2.2.2),h8]
theorem aV.setName {P:Nat->Prop} {w:World} {b gl gc:Nat} {t:Pl.aR} (h:aV P w b gl gc t) {i:Nat} (hi:i<t.lines.length) (x:Int) :
  aV P (w.setCell ⟨gl,i*2,none⟩ (.int .i64 x)) b gl gc { t with lines:=t.lines.set i (x,t.lines[i].2) }:=by
 have hlt:=h.lt;obtain ⟨⟨fG,jq,sx,sa,sm,sc,h1,h2,cs,h3,h4,h5,h6,h7⟩,⟨cc,h8,h9⟩,h10⟩:=h;have hh:Holds P w (w.setCell ⟨gl,i*2,none⟩ (.int .i64 x)):=bR h3 (by decide) (λe=>absurd e (by decide)) _ _;have e3:=j_ w gl (i*2) _ _ (.int .i64 x) h3;refine ⟨⟨fG,jq,sx,sa,sm,sc,?_,h2.qp hh.xL,_,e3,by simp [h4],by simpa using h5,h6,λj hj=>?_⟩,⟨cc,?_,h9⟩,h10⟩
 ·rw [l_ _ _ _ _ hlt.2.2.2.1,h1];simp
 ·have hj':j<t.lines.length:=by simpa using hj
  obtain ⟨u,d1,d2,d3⟩:=h7 j hj';by_cases e:i=j
  ·subst e;refine ⟨u,?_,?_,?_⟩
   ·rw [Q_ (by omega)];simp
   ·rw [K_ (by omega)];exact d2
   ·simpa using d3.holds hh
  ·refine ⟨u,?_,?_,?_⟩
   ·rw [K_ (by omega)];simpa [ads e] using d1
   ·rw [K_ (by omega)];exact d2
   ·simpa [ads e] using d3.holds hh
 ·rw [l_ _ _ _ _ (abf hlt.2.2.2.2.2),h8]
theorem aV.Xe {P:Nat->Prop} {w:World} {b gl gc:Nat} {t:Pl.aR} (h:aV P w b gl gc t) {i:Nat} (hi:i<t.aS.length) (x:Int) :
  aV P (w.setCell ⟨gc,i,none⟩ (.int .i64 x)) b gl gc { t with aS:=t.aS.set i x }:=by
 have hlt:=h.lt;obtain ⟨⟨fG,jq,sx,sa,sm,sc,h1,h2,cs,h3,h4,h5,h6,h7⟩,⟨cc,h8,h9⟩,h10⟩:=h;have hh:Holds P w (w.setCell ⟨gc,i,none⟩ (.int .i64 x)):=bR h8 (by decide) (λ_=>h10) _ _;have e8:=j_ w gc i _ _ (.int .i64 x) h8;refine ⟨⟨fG,jq,sx,sa,sm,sc,?_,h2.qp hh.xL,cs,?_,h4,h5,h6,λj hj=>?_⟩,⟨_,e8,λj hj=>?_⟩,h10⟩
 ·rw [l_ _ _ _ _ hlt.2.2.2.2.1,h1];simp
 ·rw [l_ _ _ _ _ hlt.2.2.2.2.2,h3]
 ·obtain ⟨u,d1,d2,d3⟩:=h7 j hj;exact ⟨u,d1,d2,d3.holds hh⟩
 ·have hj':j<t.aS.length:=by simpa using hj
  by_cases e:i=j
  ·subst e;rw [Q_ (abn.1 (h9 i hi)).1];simp
  ·rw [K_ e,h9 j hj',ads e]
theorem aV.Q7 {P:Nat->Prop} {w:World} {b gl gc:Nat} {t:Pl.aR} (h:aV P w b gl gc t) {x:Int} {a:Option Addr} {m c:Nat} {n:Int} (hv:aj P w (.agg #[.int .i64 x,.slice a m c]) n) :
  aV P ((w.setCell ⟨b,2,none⟩ (.int .i64 x)).setCell ⟨b,3,none⟩ (.slice a m c)) b gl gc { t with scale:=n }:=by
 have hlt:=h.lt;obtain ⟨⟨fG,jq,sx,sa,sm,sc,h1,h2,cs,h3,h4,h5,h6,h7⟩,⟨cc,h8,h9⟩,h10⟩:=h;have e1:=j_ w b 2 _ _ (.int .i64 x) h1;have e2:=j_ _ b 3 _ _ (.slice a m c) e1;have hh:Holds P w ((w.setCell ⟨b,2,none⟩ (.int .i64 x)).setCell ⟨b,3,none⟩ (.slice a m c)):=(bR h1 (by decide) (λe=>absurd e (by decide)) _ _).trans (bR e1 (by decide) (λe=>absurd e (by decide)) _ _);refine ⟨⟨fG,jq,x,a,m,c,e2,hv.qp hh.xL,cs,?_,h4,h5,h6,λj hj=>?_⟩,⟨cc,?_,h9⟩,h10⟩
 ·rw [l_ _ _ _ _ (abf hlt.2.2.2.1),l_ _ _ _ _ (abf hlt.2.2.2.1),h3]
 ·obtain ⟨u,d1,d2,d3⟩:=h7 j hj;exact ⟨u,d1,d2,d3.holds hh⟩
 ·rw [l_ _ _ _ _ (abf hlt.2.2.2.2.1),l_ _ _ _ _ (abf hlt.2.2.2.2.1),h8]
theorem aV.cells {P:Nat->Prop} {w:World} {b gl gc:Nat} {t:Pl.aR} (h:aV P w b gl gc t):∃ fG jq,w.cell? ⟨b,0,none⟩=some (.slice (some ⟨gl,0,none⟩) t.lines.length fG)∧w.cell? ⟨b,1,none⟩=some (.slice (some ⟨gc,0,none⟩) t.aS.length jq)∧(∀ o,w.frozen? ⟨b,o,none⟩=false)∧(∀ o,w.frozen? ⟨gl,o,none⟩=false)∧(∀ o,w.frozen? ⟨gc,o,none⟩=false) ∧
  (∀ i,(hi:i<t.lines.length)->w.cell? ⟨gl,i*2,none⟩=some (.int .i64 t.lines[i].1)∧∃ u,w.cell? ⟨gl,i*2+1,none⟩=some u∧aD P w u t.lines[i].2)∧(∀ i,(hi:i<t.aS.length)->w.cell? ⟨gc,i,none⟩=some (.int .i64 t.aS[i]))∧∃ sx sa sm sc,w.cell? ⟨b,2,none⟩=some (.int .i64 sx)∧w.cell? ⟨b,3,none⟩=some (.slice sa sm sc)∧aj P w (.agg #[.int .i64 sx,.slice sa sm sc]) t.scale:=by
 obtain ⟨⟨fG,jq,sx,sa,sm,sc,h1,h2,cs,h3,h4,h5,h6,h7⟩,⟨cc,h8,h9⟩,h10⟩:=h;refine ⟨fG,jq,by rw [cellsOf h1];rfl,by rw [cellsOf h1];rfl,λo=>aH h1 o,λo=>aH h3 o,λo=>aH h8 o,λi hi=>?_,λi hi=>by rw [cellsOf h8];exact h9 i hi,sx,sa,sm,sc,by rw [cellsOf h1];rfl,by rw [cellsOf h1];rfl,h2⟩;obtain ⟨u,d1,d2,d3⟩:=h7 i hi;exact ⟨by rw [cellsOf h3];exact d1,u,by rw [cellsOf h3];exact d2,d3⟩
theorem CS (t:Pl.aR) (i r c:Nat) (sg:Int):(t.told i r c sg).length=t.aS.length+1:=by simp [Pl.aR.told]
theorem EL (t:Pl.aR) (i r c:Nat) (sg:Int) {j:Nat} (hj:j<t.aS.length+1):(t.told i r c sg).take (j+1)=(t.told i r c sg).take j++[sg*(if j=c then t.cell i c else Int.fdiv (t.cell r c*t.cell i j - t.cell i c*t.cell r j) t.scale)]:=by
 rw [List.take_add_one,f_ (by rw [CS];exact hj)];simp [Pl.aR.told]
theorem TG (t:Pl.aR) (i r c:Nat) (sg:Int) (hj:c<t.aS.length+1):(t.told i r c sg).take (c+1)=(t.told i r c sg).take c++[sg*t.cell i c]:=by
 rw [EL t i r c sg hj,h_ rfl]
theorem QZ (t:Pl.aR) (i r c:Nat) (sg:Int) {j:Nat} (hj:j<t.aS.length+1) (hjc:¬ j=c):(t.told i r c sg).take (j+1)=(t.told i r c sg).take j++[sg*Int.fdiv (t.cell r c*t.cell i j - t.cell i c*t.cell r j) t.scale]:=by
 rw [EL t i r c sg hj,g_ hjc]
structure qi (K:Nat) (t:Pl.aR):Prop where
 cell:∀ r j,r<t.lines.length->j<t.aS.length+1->Pl.Lt K (t.cell r j)
 scale:Pl.Lt K t.scale
structure WZ (K:Nat) (t:Pl.aR) (i r:Nat):Prop where
 mine:∀ j,j<t.aS.length+1->Pl.Lt K (t.cell i j)
 row:∀ j,j<t.aS.length+1->Pl.Lt K (t.cell r j)
 scale:Pl.Lt K t.scale
attribute [local go_sem] bE
set_option maxHeartbeats 20000000 in
theorem Q3 (P:Nat->Prop) (K:Nat) (b:Nat) (t:Pl.aR) (w:World) (hP:∀ b,w.heap.size<=b->P b) (h:r9 P w b t) (hfit:mJ t) {i r c:Nat} (hlt:WZ K t i r) (hK:2*K+1<=1500000000000) (hi:i<t.lines.length) (hr:r<t.lines.length) (hc:c<t.aS.length+1) {sg:Int} (hs:sg=1∨sg=-1) :
  Calls Tryz.prog 341 #[.pointer (some ⟨b,0,none⟩),.int .i64 i,.int .i64 r,.int .i64 c,.int .i64 sg] w λe w'=>∃ v',e=.returned v'∧aD P w' v' (t.told i r c sg)∧Below w.heap.size w w':=by
 obtain ⟨i0,hi0,hz0,hz1,hz2⟩:=V_ Tryz.dR;have HT:=af h;have uM:=af hfit;have lF:=af hlt;have hn1:=hfit.lines;have hn2:=hfit.aS;clear h hfit hlt;have HCr:=af (λw1 (h:ae w w1) (j:Nat) (hj:j<t.aS.length+1)=>jR P b t w1 ((uh HT).below h) hn1 (uh uM).le hr (j:=j) (by rw [(uh uM).row hr];exact hj));have HCi:=af (λw1 (h:ae w w1) (j:Nat) (hj:j<t.aS.length+1)=>jR P b t w1 ((uh HT).below h) hn1 (uh uM).le hi (j:=j) (by rw [(uh uM).row hi];exact hj));go_enter Tryz.func341,Tryz.ntmps341;go_wp2_with fail;refine (uh HCr w (ae.refl w) c hc).mono ?_;rintro e w1 ⟨v1,rfl,hv1,hw1⟩;obtain ⟨px,pa,pm,pc,rfl⟩:=hv1.shape;have wR:=af (dD hv1);have dP:Hid (ae w (w1.alloc (.cells #[.int .i64 px,.slice pa pm pc] 168))):=ae.trans hw1 (ae.alloc _ _);clear hv1 hw1;go_wp2_with fail;generalize hW1:w1.alloc (.cells #[.int .i64 px,.slice pa pm pc] 168)=W1 at *
 generalize hg1:w1.heap.size=g1 at *
 clear hW1 hg1 w1;refine (uh HCi W1 (uh dP) c hc).mono ?_;rintro e w2 ⟨v2,rfl,hv2,hw2⟩;obtain ⟨fx,fa,fm,fc,rfl⟩:=hv2.shape;have G6:=af (dD hv2);have HG2:Hid (ae W1 (w2.alloc (.cells #[.int .i64 fx,.slice fa fm fc] 168))):=ae.trans hw2 (ae.alloc _ _);have Z6:g1<w2.heap.size:=abA (uh wR).lt (ae.size hw2);clear hv2 hw2;obtain ⟨vc,kc,adc,TE,rfl,hci⟩:=((uh HT).below ((uh dP).trans (uh HG2))).aS;clear hci;go_wp2_with (at_make;refine O_ _ rfl _ _ 159 rfl (w2.alloc (.cells #[.int .i64 fx,.slice fa fm fc] 168)).heap.size 168 i0 (.agg #[.int .i64 0,.slice none 0 0]) 2 Tryz.underlying159 hi0 hz0 hz1 .i64 .i64 _ _ (t.aS.length+1) rfl rfl ?e1 ?e2 ?c1 ?c2 ?c3 ?_)
 case e1=>first | rfl | omega | simp
 case e2=>first | rfl | omega | simp
 case c1=>rw [hz2];omega
 case c2=>unfold maxLen;omega
 case c3=>omega
 ·intro w3 hown hgrow;generalize hW2:w2.alloc (.cells #[.int .i64 fx,.slice fa fm fc] 168)=W2 at *
  generalize hg2:w2.heap.size=g2 at *
  have hG3:ae W2 w3:=(n_ _ _).grown hgrow (d_ _) (by intro k hk;cases hk);obtain ⟨cs,hblk,hcs⟩:=si hown;have hG:W2.heap.size=g2+1:=by rw [<-hW2,H_,hg2]
  have hlast:g2<g2+1:=by omega
  generalize g2+1=g at *
  generalize hN:t.aS.length+1=n at *
  have H1:Hid (oC P w3 g n []):=⟨cs,hblk,hcs,by simp,λi hi=>by simp at hi⟩;have DZ:Hid (ae w w3):=((uh dP).trans (uh HG2)).trans hG3;have HVp:=af (((uh wR).grow (uh HG2)).grow hG3);have Z7:=af ((uh G6).grow hG3);have alu:g1<g:=by rw [<-hG];have:=((uh wR).grow (uh HG2)).lt;exact this
  have alv:g2<g:=hlast;have hwg:w.heap.size<=g:=by rw [<-hG];exact ((uh dP).trans (uh HG2)).size
  have MM:Hid (w3.heap[g]?=some (.cells cs 168 (0,0))):=hblk;clear hown hgrow hblk kc hcs hG3 wR G6 dP HG2 hW2 hg2 hG Z6;go_wp2_with fail;clear w2 W2;go_loopg [14] n (λk jv wr=>∃ (l:List Int),jv=.int .i64 l.length∧l.length+k=n∧Hid (oC P wr g n l∧iw g w3 wr∧l=(t.told i r c sg).take l.length))
  case atStart=>exact ⟨[],rfl,by simp,uh H1,.aX (ae.refl _),by simp⟩
  case round =>
   obtain ⟨l,rfl,hlk,HR⟩:=hrel;by_cases hlt:l.length<n
   ·have HGr:Hid (ae w wr):=abt (uh DZ) (iw.below (uh HR).2.1 hwg (uh DZ).size);have Xa:=af ((uh HVp).only (uh HR).2.1 (uh MM) (by decide) (by omega));have TH:=af ((uh Z7).only (uh HR).2.1 (uh MM) (by decide) (by omega));obtain ⟨f0,f1,f2,f3⟩:=(uh TH).cells;obtain ⟨p0,p1,p2,p3⟩:=(uh Xa).cells;have HV5:=af (dD (uh TH).val);have gG:Hid (ae wr (wr.alloc (.cells #[.int .i64 fx,.slice fa fm fc] 168))):=ae.alloc _ _;by_cases hjc:l.length=c
    ·subst hjc;go_wp2_with fail;refine (tT P (t.cell i l.length) sg _ _ (uh HV5).val hs).mono ?_;rintro e w8 ⟨v8,rfl,sU,hw8⟩;obtain ⟨x8,a8,m8,c8,rfl⟩:=sU.shape;have Xb:ae wr w8:=ae.trans (uh gG) hw8;have KH:=(uh HR).1.below Xb;obtain ⟨u1,u2,o0,o1,of0,of1⟩:=KH.open hlt;have HF:=af (KH.add hlt sU);have Pd:Hid (iw g w3 ((w8.setCell ⟨g,l.length*2,none⟩ (.int .i64 x8)).setCell ⟨g,l.length*2+1,none⟩ (.slice a8 m8 c8))):=(((uh HR).2.1.grow Xb).setCell _ _).setCell _ _;have HL:Hid (l++[sg*(t.cell i l.length)]=(t.told i r l.length sg).take (l++[sg*(t.cell i l.length)]).length):=by
      unfold Hid;have e1:(l++[sg*(t.cell i l.length)]).length=l.length+1:=by simp
      rw [e1,TG t i r l.length sg (by omega),<-(uh HR).2.2]
     clear sU hw8 KH Xb;go_wp2;go_roundg (gk - 1)
     case measure=>omega
     case rel=>exact ⟨l++[sg*(t.cell i l.length)],by simp,by simp;omega,uh HF,uh Pd,uh HL⟩
    ·have tne:((l.length:Int) != (c:Int))=true:=by simp;omega
     go_wp2_with fail;generalize Bj:wr.alloc (.cells #[.int .i64 fx,.slice fa fm fc] 168)=W5 at *
     have NZ:Hid (ae w W5):=(uh HGr).trans (uh gG);have Z8:=af ((uh Xa).grow (uh gG));have TI:=af ((uh TH).grow (uh gG));obtain ⟨p50,p51,_⟩:=(uh Z8).cells;have y1:=b_ p50;have y2:=b_ p51;clear p0 p1 p2 p3 f0 f1 f2 f3 p50 p51 Xa TH;refine ah (cK [(47,λv w=>aj P w v (t.cell i l.length)),(48,λv w=>aj P w v (t.cell r c*t.cell i l.length)),(16,bn W5)]) (gL [(47,ag),(48,ag),(16,bM)]) 70 7 (by kernel_rfl) (by rfl) (by kernel_rfl) (aN (λ_ _ _=>aj.below) (aN (λ_ _ _=>aj.below) (aN (λ_ _ _=>bn.grow) cO))) ?_
     iterate 4 (refine aO λK hK=>?_;go_simp;refine hK _ ?_;clear hK K)
     refine ai ag 340 #[.pointer (some ⟨b,0,none⟩),.int .i64 i,.int .i64 l.length] (by rfl) (by rfl) ag.some (λw=>by go_simp) (λw1 hg hf=>(uh HCi w1 ((uh NZ).trans hg) l.length (by omega)).mono (by rintro e w' ⟨v',rfl,hv,hb⟩;exact ⟨_,rfl,hb,hv.aU,λt ht=>by cases ht;exact hv⟩)) ?_;rintro _ ⟨cx,ca,cm,cc,rfl⟩;refine ai ag 226 #[.agg #[.int .i64 px,.slice pa pm pc],.agg #[.int .i64 cx,.slice ca cm cc]] (by rfl) (by rfl) ag.some (λw=>by go_simp) (λw1 hg hf=>(eG P K (t.cell r c) (t.cell i l.length) _ _ w1 (λb' hb'=>hP b' (by have:=((uh NZ).trans hg).size;omega)) ((uh Z8).val.below hg) (hf 4 (by kernel_rfl) _ 47 rfl rfl) (by omega) ((uh lF).row c (by omega)) ((uh lF).mine _ (by omega))).mono (by rintro e w' ⟨v',rfl,hv,hb⟩;exact ⟨_,rfl,hb,hv.aU,λt ht=>by cases ht;exact hv⟩)) ?_;rintro _ ⟨ax,aa,am,ac,rfl⟩;refine eT bM (by rfl) (by rfl) bM.some (λw1 hg hf=>⟨.pointer (some ⟨w1.heap.size,0,none⟩),w1.alloc (.cells #[.int .i64 0,.slice none 0 0] 168),by go_simp,ae.alloc _ _,⟨_,rfl⟩,λt ht=>by cases ht;exact bn.new hg⟩) ?_;rintro _ ⟨g16,rfl⟩;refine aF ?_;intro w6 rM aK;have q48:aj P w6 (.agg #[.int .i64 ax,.slice aa am ac]) (t.cell r c*t.cell i l.length):=aK 5 _ 48 (by decide) rfl rfl;have q16:bn W5 (.pointer (some ⟨g16,0,none⟩)) w6:=aK 6 _ 16 (by decide) rfl rfl;clear aK y1 y2;have hge:=q16.own.1;have hblk:=q16.own.2;have s0:=(au hblk).1;have s1:=(au hblk).2.1;have s2:=(au hblk).2.2.1;have s3:=(au hblk).2.2.2;have sv:=(bI rM hge hblk q48).1;have sg6:=(bI rM hge hblk q48).2;have Z9:=af sv;have lV:Hid (ae W5 ((w6.setCell ⟨g16,0,none⟩ (.int .i64 ax)).setCell ⟨g16,1,none⟩ (.slice aa am ac))):=sg6;clear sv sg6 q48 hge hblk rM q16;go_wp2_with fail;generalize Kz:(w6.setCell ⟨g16,0,none⟩ (.int .i64 ax)).setCell ⟨g16,1,none⟩ (.slice aa am ac)=W6 at *
     have Dz:Hid (ae w W6):=(uh NZ).trans (uh lV);have aaa:=af ((uh TI).grow (uh lV));obtain ⟨f60,f61,_⟩:=(uh aaa).cells;have y1:=b_ f60;have y2:=b_ f61;clear f60 f61 s0 s1 s2 s3 Kz w6;refine ah (cK [(53,λv w=>aj P w v (t.cell r l.length)),(54,λv w=>aj P w v (t.cell i c*t.cell r l.length)),(17,bn W6)]) (gL [(53,ag),(54,ag),(17,bM)]) 70 7 (by kernel_rfl) (by rfl) (by kernel_rfl) (aN (λ_ _ _=>aj.below) (aN (λ_ _ _=>aj.below) (aN (λ_ _ _=>bn.grow) cO))) ?_
     iterate 4 (refine aO λK hK=>?_;go_simp;refine hK _ ?_;clear hK K)
     refine ai ag 340 #[.pointer (some ⟨b,0,none⟩),.int .i64 r,.int .i64 l.length] (by rfl) (by rfl) ag.some (λw=>by go_simp) (λw1 hg hf=>(uh HCr w1 ((uh Dz).trans hg) l.length (by omega)).mono (by rintro e w' ⟨v',rfl,hv,hb⟩;exact ⟨_,rfl,hb,hv.aU,λt ht=>by cases ht;exact hv⟩)) ?_;rintro _ ⟨dx,da,dm,dc,rfl⟩;refine ai ag 226 #[.agg #[.int .i64 fx,.slice fa fm fc],.agg #[.int .i64 dx,.slice da dm dc]] (by rfl) (by rfl) ag.some (λw=>by go_simp) (λw1 hg hf=>(eG P K (t.cell i c) (t.cell r l.length) _ _ w1 (λb' hb'=>hP b' (by have:=((uh Dz).trans hg).size;omega)) ((uh aaa).val.below hg) (hf 4 (by kernel_rfl) _ 53 rfl rfl) (by omega) ((uh lF).mine c (by omega)) ((uh lF).row _ (by omega))).mono (by rintro e w' ⟨v',rfl,hv,hb⟩;exact ⟨_,rfl,hb,hv.aU,λt ht=>by cases ht;exact hv⟩)) ?_;rintro _ ⟨bx,ba,bm,bc,rfl⟩;refine eT bM (by rfl) (by rfl) bM.some (λw1 hg hf=>⟨.pointer (some ⟨w1.heap.size,0,none⟩),w1.alloc (.cells #[.int .i64 0,.slice none 0 0] 168),by go_simp,ae.alloc _ _,⟨_,rfl⟩,λt ht=>by cases ht;exact bn.new hg⟩) ?_;rintro _ ⟨g17,rfl⟩;refine aF ?_;intro w7 sK aK;have Xc:aj P w7 (.agg #[.int .i64 bx,.slice ba bm bc]) (t.cell i c*t.cell r l.length):=aK 5 _ 54 (by decide) rfl rfl;have q17:bn W6 (.pointer (some ⟨g17,0,none⟩)) w7:=aK 6 _ 17 (by decide) rfl rfl;clear aK y1 y2;have hge:=q17.own.1;have hblk:=q17.own.2;have s0:=(au hblk).1;have s1:=(au hblk).2.1;have s2:=(au hblk).2.2.1;have s3:=(au hblk).2.2.2;have sv:=(bI sK hge hblk Xc).1;have sg7:=(bI sK hge hblk Xc).2;have X9:=af sv;have Dw:Hid (ae W6 ((w7.setCell ⟨g17,0,none⟩ (.int .i64 bx)).setCell ⟨g17,1,none⟩ (.slice ba bm bc))):=sg7;clear sv sg7 Xc hge hblk sK q17;go_wp2_with fail;generalize TJ:(w7.setCell ⟨g17,0,none⟩ (.int .i64 bx)).setCell ⟨g17,1,none⟩ (.slice ba bm bc)=W7 at *
     have Jm:Hid (ae w W7):=(uh Dz).trans (uh Dw);have aab:=af ((uh Z9).grow (uh Dw));have aeg:=af (((uh HV5).grow (uh lV)).grow (uh Dw));have aac:Hid (ae wr W7):=((uh gG).trans (uh lV)).trans (uh Dw);obtain ⟨a70,a71,_⟩:=(uh aab).cells;obtain ⟨b70,b71,_⟩:=(uh X9).cells;obtain ⟨sx,sa,sm,sc,k2,k3,hsc⟩:=((uh HT).below (uh Jm)).scale;have U0:=af hsc;have y1:=b_ a70;have y2:=b_ a71;have y3:=b_ b70;have y4:=b_ b71;have y5:=b_ k2;have y6:=b_ k3;clear a70 a71 b70 b71 k2 k3 hsc s0 s1 s2 s3 TJ w7;refine ah (cK [(57,λv w=>aj P w v (t.cell r c*t.cell i l.length - t.cell i c*t.cell r l.length)),(62,λv w=>aj P w v (Int.fdiv (t.cell r c*t.cell i l.length - t.cell i c*t.cell r l.length) t.scale))]) (gL [(57,ag),(62,ag)]) 70 8 (by kernel_rfl) (by rfl) (by kernel_rfl) (aN (λ_ _ _=>aj.below) (aN (λ_ _ _=>aj.below) cO)) ?_
     iterate 2 (refine aO λK hK=>?_;go_simp;refine hK _ ?_;clear hK K)
     refine ai ag 225 #[.agg #[.int .i64 ax,.slice aa am ac],.agg #[.int .i64 bx,.slice ba bm bc]] (by rfl) (by rfl) ag.some (λw=>by go_simp) (λw1 hg hf=>(kH P (2*K) (t.cell r c*t.cell i l.length) (t.cell i c*t.cell r l.length) _ _ w1 (λb' hb'=>hP b' (by have:=((uh Jm).trans hg).size;omega)) ((uh aab).val.below hg) ((uh X9).val.below hg) (by omega) (by rw [acC];exact ((uh lF).row c (by omega)).mul ((uh lF).mine _ (by omega))) (by rw [acC];exact ((uh lF).mine c (by omega)).mul ((uh lF).row _ (by omega)))).mono (by rintro e w' ⟨v',rfl,hv,hb⟩;exact ⟨_,rfl,hb,hv.aU,λt ht=>by cases ht;exact hv⟩)) ?_;rintro _ ⟨ex,ea,em,ec,rfl⟩
     iterate 4 (refine aO λK hK=>?_;go_simp;refine hK _ ?_;clear hK K)
     refine ai ag 224 #[.agg #[.int .i64 ex,.slice ea em ec],.agg #[.int .i64 sx,.slice sa sm sc]] (by rfl) (by rfl) ag.some (λw=>by go_simp) (λw1 hg hf=>(lD P (2*K+1) (t.cell r c*t.cell i l.length - t.cell i c*t.cell r l.length) t.scale _ _ w1 (λb' hb'=>hP b' (by have:=((uh Jm).trans hg).size;omega)) (hf 2 (by kernel_rfl) _ 57 rfl rfl) ((uh U0).below hg) hK (Pl.Lt.sub (by rw [acC];exact ((uh lF).row c (by omega)).mul ((uh lF).mine _ (by omega))) (by rw [acC];exact ((uh lF).mine c (by omega)).mul ((uh lF).row _ (by omega)))) ((uh lF).scale.mono (by omega))).mono (by rintro e w' ⟨v',rfl,hv,hb⟩;exact ⟨_,rfl,hb,hv.aU,λt ht=>by cases ht;exact hv⟩)) ?_;rintro _ ⟨d2x,d2a,d2m,d2c,rfl⟩;refine aF ?_;intro w8 Dv aK;have q62:aj P w8 (.agg #[.int .i64 d2x,.slice d2a d2m d2c]) (Int.fdiv (t.cell r c*t.cell i l.length - t.cell i c*t.cell r l.length) t.scale):=aK 7 _ 62 (by decide) rfl rfl;clear aK y1 y2 y3 y4 y5 y6;have hblk:=((uh aeg).grow Dv).heap;have s0:=(au hblk).1;have s1:=(au hblk).2.1;have s2:=(au hblk).2.2.1;have s3:=(au hblk).2.2.2;have sv:=(bI ((uh aac).trans Dv) (d_ _) hblk q62).1;have sg8:=(bI ((uh aac).trans Dv) (d_ _) hblk q62).2;have Pe:=af sv;have yF:Hid (ae wr ((w8.setCell ⟨wr.heap.size,0,none⟩ (.int .i64 d2x)).setCell ⟨wr.heap.size,1,none⟩ (.slice d2a d2m d2c))):=sg8;clear sv sg8 q62 hblk Dv;go_wp2_with fail;refine (tT P (Int.fdiv (t.cell r c*t.cell i l.length - t.cell i c*t.cell r l.length) t.scale) sg _ _ (uh Pe).val hs).mono ?_;rintro e w8 ⟨v8,rfl,sU,hw8⟩;obtain ⟨x8,a8,m8,c8,rfl⟩:=sU.shape;have Xb:ae wr w8:=ae.trans (uh yF) hw8;have KH:=(uh HR).1.below Xb;obtain ⟨u1,u2,o0,o1,of0,of1⟩:=KH.open hlt;have HF:=af (KH.add hlt sU);have Pd:Hid (iw g w3 ((w8.setCell ⟨g,l.length*2,none⟩ (.int .i64 x8)).setCell ⟨g,l.length*2+1,none⟩ (.slice a8 m8 c8))):=(((uh HR).2.1.grow Xb).setCell _ _).setCell _ _;have HL:Hid (l++[sg*(Int.fdiv (t.cell r c*t.cell i l.length - t.cell i c*t.cell r l.length) t.scale)]=(t.told i r c sg).take (l++[sg*(Int.fdiv (t.cell r c*t.cell i l.length - t.cell i c*t.cell r l.length) t.scale)]).length):=by
      unfold Hid;have e1:(l++[sg*(Int.fdiv (t.cell r c*t.cell i l.length - t.cell i c*t.cell r l.length) t.scale)]).length=l.length+1:=by simp
      rw [e1,QZ t i r c sg (by omega) hjc,<-(uh HR).2.2]
     clear sU hw8 KH Xb;go_wp2;go_roundg (gk - 1)
     case measure=>omega
     case rel=>exact ⟨l++[sg*(Int.fdiv (t.cell r c*t.cell i l.length - t.cell i c*t.cell r l.length) t.scale)],by simp,by simp;omega,uh HF,uh Pd,uh HL⟩
   ·have hk0:gk=0:=by omega
    have hll:l.length=n:=by omega
    have HR2:Hid (aD P wr (.slice (some ⟨g,0,none⟩) n n) (t.told i r c sg)∧Below w.heap.size w wr):=by
     obtain ⟨r1,r2,r3⟩:=uh HR;refine ⟨?_,abt (uh DZ) (iw.below r2 hwg (uh DZ).size)⟩;have:=r1.row hll (hP g (by omega));rw [r3,aaN (by rw [CS];omega)] at this;exact this
    clear HR;go_wp2;go_ret;exact ⟨_,rfl,(uh HR2).1,(uh HR2).2⟩
end Go.Proofs.YtfaljekgpnbmiaaGreat
