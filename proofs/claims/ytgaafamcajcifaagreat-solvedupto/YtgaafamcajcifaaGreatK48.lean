/- Joined: SLaw8 SLaw9. -/
import Derived.Test.YtgaafamcajcifaaGreatK46
import Derived.Test.YtgaafamcajcifaaGreatK47
set_option linter.unusedVariables false
set_option linter.unusedSimpArgs false
set_option maxRecDepth 100000
namespace Go.Proofs.YtgaafamcajcifaaGreat
open Go.RowKit Go.Sort
theorem Tryz.UY:(Tryz.prog.info? 57).map (λi=>(i.zero,i.size,i.bytes))=some (some (.agg #[.slice none 0 0,.int .i64 0]),2,32):=by kernel_rfl
theorem OP {B:Nat} {w:World} {g:Nat} {home:List Int} (h:w.heap[g]?=some (.cells (bV home 2).toArray 3 (0,0))) (hB:B<=g) (hl:home.length<=17592186043904):aI B w (.slice (some ⟨g,0,none⟩) (home.length+2) (home.length+2)) (home++[WX,WX]):=by
 refine ⟨by simp,.inr ⟨g,home.length+2,_,by simp,hB,h,by simp,by unfold maxLen;omega,?_,?_⟩⟩
 ·simp [bV]
 ·rw [aaE (by simp [bV])];simp [bV,List.replicate]
theorem il.dY {b:Nat} {w w':World} {cs:Array Value} {T e:TypeId} {fz:Nat × Nat} (h:il b w w') (hb:w.heap[b]?=some (.cells cs T fz)) (hne:T≠e):aA e w w':=λk cur hk=>h.block k (z_ hk) (λek=>by
 subst ek;rw [hb] at hk;simp at hk;exact hne hk.2.1)
def rJ (n:Int) (h:Nat):sJ:=(.slice (some ⟨h,0,none⟩) 1 1,n,false)
def Rx (P:Nat->Prop) (w:World) (e:Value × Int):Prop:=∃ g G cap,e.1=.slice (some ⟨g,0,none⟩) (List.length G) cap∧jK w g (G.map (rJ e.2))∧G.length<=1048578∧(∀ h∈G,w.heap[h]?=some (.cells #[.int .i64 e.2] 3 (0,0))∧P h)∧P g
theorem Rx.bW {P P':Nat->Prop} {w w':World} {e:Value × Int} (h:Rx P w e) (hk:∀ k cur,w.heap[k]?=some (.cells cur 59 (0,0))->P k->w'.heap[k]?=w.heap[k]?) (hi:∀ k cur,w.heap[k]?=some (.cells cur 3 (0,0))->P k->w'.heap[k]?=w.heap[k]?) (hP:∀ k,k<w.heap.size->P k->P' k):Rx P' w' e:=by
 obtain ⟨g,G,cap,e,h1,h2,h3,h4⟩:=h;exact ⟨g,G,cap,e,(hk g _ h1 h4).trans h1,h2,λx hx=>⟨(hi x _ (h3 x hx).1 (h3 x hx).2).trans (h3 x hx).1,hP x (z_ (h3 x hx).1) (h3 x hx).2⟩,hP g (z_ h1) h4⟩
structure Gq (rv qv:Value) (B:Nat) (w0 w:World) (b N:Nat) (bq:List (Value × Int)) (G:List Nat) (i:Nat) (new:List (Value × Int)) (v1:Value):Prop where
 held:dX rv qv B w b (N+i) (bq++new) v1
 ok:∀ e∈bq++new,kQ w e
 len:new.length=4*i
 news:∀ e∈new,∀ k,e.1.ownBlock=some k->(∃ j,j<i∧G[j]?=some k)∨w0.heap.size<=k
 other:∀ e,3≠e->50≠e->29≠e->aA e w0 w
 ints:∀ k cur,w0.heap[k]?=some (.cells cur 3 (0,0))->(∀ j,j<i->G[j]?≠some k)->w.heap[k]?=w0.heap[k]?
 below:Below B w0 w
theorem OQ {G:List Nat} (h:G.Nodup) {i j g:Nat} (hi:G[i]?=some g) (hj:G[j]?=some g):i=j:=by
 exact (List.getElem?_inj (List.getElem?_eq_some_iff.1 hi).1 h).1 (hi.trans hj.symm)
theorem Gq.step {rv qv:Value} {B:Nat} {w0 w w':World} {b N:Nat} {bq:List (Value × Int)} {G:List Nat} {i g:Nat} {new new':List (Value × Int)} {v1 v2:Value} (h:Gq rv qv B w0 w b N bq G i new v1) (hg:G[i]?=some g)
  (h1:dX rv qv B w' b (N+i+1) (bq++new++new') v2) (h2:new'.length=4) (h3:∀ e∈bq++new++new',kQ w' e) (h4:∀ e∈new',∀ k,e.1.ownBlock=some k->some g=some k∨w.heap.size<=k) (h5:jR (some g) w w') (h6:Below B w w') (h8:∀ e,3≠e->50≠e->29≠e->aA e w w'):Gq rv qv B w0 w' b N bq G (i+1) (new++new') v2:=by
 refine ⟨by rw [<-abd];exact h1,by rw [<-abd];exact h3,by rw [C_,h.len,h2];omega,λe he k hk=>?_,λe n1 n2 n3=>(h.other e n1 n2 n3).trans (h8 e n1 n2 n3),λk cur hk hne=>?_,h.below.trans h6⟩
 ·rcases F_.1 he with he | he
  ·rcases h.news e he k hk with ⟨j,hj,e⟩ | h'
   ·exact .inl ⟨j,by omega,e⟩
   ·exact .inr h'
  ·rcases h4 e he k hk with e | h'
   ·cases e;exact .inl ⟨i,by omega,hg⟩
   ·exact .inr (w_ h.below.size h')
 ·have h9:=h.ints k cur hk (λj hj=>hne j (by omega));rw [h5 k cur (h9.trans hk) (λe=>hne i (by omega) (by rw [hg,e])),h9]
structure Gr (gl:Nat) (n:Int) (old:List sJ) (w4 w:World) (i:Nat) (Gn:List Nat):Prop where
 len:Gn.length=i
 blk:jK w gl (Gn.map (rJ n)++old.drop i)
 list:∀ h∈Gn,w.heap[h]?=some (.cells #[.int .i64 n] 3 (0,0))∧w4.heap.size<=h
 only:il gl w4 w
theorem Gr.step {gl:Nat} {n:Int} {old:List sJ} {w4 w:World} {i:Nat} {Gn:List Nat} (h:Gr gl n old w4 w i Gn) (hi:i<old.length):Gr gl n old w4 (iC (w.alloc (.cells #[.int .i64 n] 3)) gl i (rJ n w.heap.size)) (i+1) (Gn++[w.heap.size]):=by
 have hb:=h.blk.grow (ae.alloc w (.cells #[.int .i64 n] 3));have k:aA 3 (w.alloc (.cells #[.int .i64 n] 3)) (iC (w.alloc (.cells #[.int .i64 n] 3)) gl i (rJ n w.heap.size)):=hb.bW i _ (by decide);refine ⟨by rw [C_,h.len];rfl,?_,λx hx=>?_,?_⟩
 ·have:=hb.set i (rJ n w.heap.size);have e:(Gn.map (rJ n)++old.drop i).set i (rJ n w.heap.size)=(Gn++[w.heap.size]).map (rJ n)++old.drop (i+1):=by
   rw [List.set_append,g_ (by rw [L_,h.len];omega),L_,h.len,Nat.sub_self,List.drop_eq_getElem_cons hi,D_,aa4,abd];rfl
  rw [<-e];exact this
 ·rcases F_.1 hx with hx | hx
  ·have h1:=(h.list x hx).1;have h2:=(Below.block (ae.alloc w (.cells #[.int .i64 n] 3)) x (z_ h1)).trans h1;exact ⟨(k x _ h2).trans h2,(h.list x hx).2⟩
  ·rw [I_.1 hx];have h2:=aG w (.cells #[.int .i64 n] 3);exact ⟨(k _ _ h2).trans h2,h.only.size⟩
 ·exact (((h.only.trans (.aX (ae.alloc _ _))).setCell _ _).setCell _ _).setCell _ _
def BH (rv:Value) (B:Nat) (w:World) (b N:Nat) (bq di:List (Value × Int)) (rs:List dS) (gl:Nat) (G:List Nat) (e:Ending) (w':World):Prop :=
 ∃ (new:List (Value × Int)) (v1:Value) (qa:Option Addr) (qc:Nat) (n:Int),e=.returned (.bool true)∧dX rv (.slice qa (di.length+1) qc) B w' b (N+rs.length+1) (bq++new) v1∧w'.ownsRow B 57 2 (.slice qa (di.length+1) qc) (di.length+1) (bT (di++[(.slice (some ⟨gl,0,none⟩) (rs.length+2) (rs.length+2),n)])) ∧
  new.length=4*rs.length∧(∀ e∈bq++new,kQ w' e)∧(∀ e∈new,∀ k,e.1.ownBlock=some k->k∈G∨w.heap.size<=k)∧Rx (λk=>k=gl∨w.heap.size<=k) w' (.slice (some ⟨gl,0,none⟩) (rs.length+2) (rs.length+2),n) ∧
  (∀ e,3≠e->59≠e->50≠e->57≠e->29≠e->aA e w w')∧(∀ k cur,w.heap[k]?=some (.cells cur 3 (0,0))->k ∉ G->w'.heap[k]?=w.heap[k]?)∧(∀ k cur,w.heap[k]?=some (.cells cur 59 (0,0))->k≠gl->w'.heap[k]?=w.heap[k]?)∧Below B w w'
set_option maxHeartbeats 1000000 in
theorem OE {rv qv:Value} {B:Nat} {w:World} {b N:Nat} {bq di:List (Value × Int)} {v:Value} (rs:List dS) (gl:Nat) (ca:Option Addr) (cc:Nat) (G:List Nat) (hH:dX rv qv B w b N bq v) (hq:w.ownsRow B 57 2 qv di.length (bT di)) (hL:iP B rs gl (rs.length+2) G w) (hc:qH B rs (rs.length+2) G w (.slice ca rs.length cc)) (hE:∀ e∈bq,kQ w e∧∀ k,e.1.ownBlock=some k->k ∉ G) (hB:B<=w.heap.size) (hl:rs.length<=1048576) (hC:∀ q∈rs,q.1.length<=1048576) (hn:bq.length<=50000000) (hqn:di.length<=1000) (hN:N<=50000000) :
  Calls Tryz.prog 14 #[.pointer (some ⟨b,0,none⟩),.slice (some ⟨gl,0,none⟩) (rs.length+2) (rs.length+2),.slice ca rs.length cc] w (BH rv B w b N bq di rs gl G):=by
 obtain ⟨i0,hi,hz0,hz1,hz2⟩:=U_ Tryz.UY;obtain ⟨qa,qc,rfl⟩:=lN hq;obtain ⟨qn,hqq⟩:∃ qn,di.length=qn:=⟨_,rfl⟩;have HQN:=af hqq;rw [hqq] at hq hqn hH;obtain ⟨m,hm⟩:∃ m,rs.length=m:=⟨_,rfl⟩;have HM:=af hm;have HL:=af hL;have TE:=af hc;have HE:=af hE;have HC:=af hC;have HQ:=af hq;have H1:Hid (∃ new v1,Gq rv (.slice qa qn qc) B w w b N bq G 0 new v1):=⟨[],v,by rw [abk];exact hH,λe he=>by rw [abk] at he;exact (hE e he).1,rfl,(λe he=>by cases he),λe _ _ _=>.aX (n_ _ _),λ_ _ _ _=>rfl,n_ _ _⟩;rw [hm] at hl TE ⊢;clear hH hq hL hc hE hC hm hqq;go_enter Tryz.func14,Tryz.ntmps14;go_wp2_with fail;go_loopw [7,8] (λov iv wr=>∃ i:Nat,i<=m∧ov=.bool true∧iv=.int .i64 i∧Hid (∃ new v1,Gq rv (.slice qa qn qc) B w wr b N bq G i new v1)) (λ_ iv _=>m - (intOf iv).toNat)
 case atStart=>exact ⟨0,by omega,rfl,rfl,H1⟩
 case round =>
  obtain ⟨i,him,rfl,rfl,HR⟩:=hrel;clear H1;obtain ⟨new,v1,hR⟩:=uh HR;have LZ:=(uh HL).len;rw [uh HM] at LZ;by_cases hlt:i<m
  ·obtain ⟨g,hg⟩:∃ g,G[i]?=some g:=⟨_,f_ (by omega)⟩;have UZ:=uh TE;rw [<-uh HM] at UZ;obtain ⟨gc,hca,c0⟩:=(UZ.bW (hR.other _ (by decide) (by decide) (by decide))).get hg (by rw [uh HM];exact hlt);subst hca;have hgn:∀ j,j<i->G[j]?≠some g:=λj hj e=>by have:=OQ (uh HL).nodup e hg;omega
   have OT:=((uh HL).list i g hg).1;have hblk:=(hR.ints g _ OT hgn).trans OT;obtain ⟨⟨C,K,E⟩,hq⟩:∃ q,rs.getD i ([],0,false)=q:=⟨_,rfl⟩;have Ri:=uh HC _ (lZ (by rw [uh HM];exact hlt) hq).2;unfold sH at hblk;unfold Rh at c0;rw [h_ (by rw [uh HM];exact hlt),hq] at hblk;rw [hq] at c0;simp only at hblk c0 Ri;have hI:=af (Gi (.slice (some ⟨g,0,none⟩) (C.length+2) (C.length+2)) (C++[WX,WX]) hR.held (OP hblk ((uh HL).list i g hg).2 (by omega)) (λe he=>⟨hR.ok e he,λk hk hc=>by
    injection hk with hk;subst hk;rcases F_.1 he with he|he
    ·exact (uh HE e he).2 g hc (abn hg)
    ·rcases hR.news e he g hc with ⟨j,hj,e2⟩ | h
     ·exact hgn j hj e2
     ·have:=(uh HL).lt (abn hg);omega⟩) (w_ hB hR.below.size) (by simp;omega) (by rw [C_,hR.len];omega) (by omega))
   obtain ⟨n,hnn⟩:∃ n:Int,n=1099511627783+((N+i:Nat)+1:Int):=⟨_,rfl⟩;rw [<-hnn] at hI;obtain ⟨c,hcc⟩:∃ c,C.length=c:=⟨_,rfl⟩;have HCC:=af hcc;rw [hcc] at hI c0 Ri;have HR1:=af hR;have dN:=af hg;have hrow:(G.mapIdx (pR rs)++List.replicate (rs.length+2 - (rs.length+2)) yh)[i]?=some (.slice (some ⟨g,0,none⟩) c (c+2),K,E):=by
    rw [aah (by rw [List.length_mapIdx,LZ];omega),List.getElem?_mapIdx,hg];show some (pR rs i g)=_;unfold pR;rw [h_ (by rw [uh HM];exact hlt),hq];show some (Value.slice _ C.length (C.length+2),K,E)=_;rw [hcc]
   have sM:=af hrow;clear HR hR hg hgn OT hblk hq hnn hcc UZ hrow LZ;go_wp2_with fail;refine (uh hI).mono ?_;rintro e w2 ⟨rfl,new',v2,h1,h2,h3,h4,h5,h6,h7,h8⟩;have h5':jR (some g) wr w2:=h5;have hst:=(uh HR1).step (uh dN) h1 h2 h3 h4 h5' h6 h8;have hok:=h3 _ (F_.2 (.inr h7));have hrb:=(hst.other 59 (by decide) (by decide) (by decide) gl _ (uh HL).blk).trans (uh HL).blk;obtain ⟨r0,-,-⟩:=jK.cell hrb (uh sM);simp only at r0;have KN:Hid (∀ k,k<c->w2.cell? ⟨g,k,none⟩=some (.int .i64 n)):=λk hk=>by
    obtain ⟨k',hk'⟩:=hok;simp only at hk';have hkl:(List.replicate k' n).length=c+2:=by
     rcases hk'.2 with ⟨e,_⟩|⟨g',cap,cur,e,_⟩
     ·cases e
     ·injection e with _ e _;exact e.symm
    have:=(Ed hk' (i:=k) (by rw [hkl];omega)).1;rw [this];congr 2;rw [a_,f_ (by rw [hkl];omega)];simp
   have HST:=af hst;clear hI h1 h2 h3 h4 h5 h5' h6 h7 h8 hst hok hrb HR1;go_wp2_with fail;go_loopw [7,10] (λov kv wr'=>∃ k:Nat,k<=c∧ov=.bool true∧kv=.int .i64 k∧wr'=w2) (λ_ kv _=>c - (intOf kv).toNat)
   case atStart=>exact ⟨0,by omega,rfl,rfl,rfl⟩
   case round =>
    obtain ⟨k,hkc,rfl,rfl,hw⟩:=hrel;rw [hw];clear hw;by_cases hkl:k<c
    ·have x0:=uh KN k hkl;go_wp2;go_roundw
     case rel=>exact ⟨k+1,by omega,by first | rfl | simp,by go_num,by first | rfl | exact True.intro⟩
     case measure=>simp [intOf];omega
    ·go_wp2;go_roundw
     case rel=>exact ⟨i+1,by omega,rfl,by go_num,_,_,uh HST⟩
     case measure=>simp [intOf];omega
  ·have L6:i=m:=by omega
   subst L6;have hM:=af (BC b (N+i) _ _ _ wr hR.held.blk (by omega));obtain ⟨n,hnn⟩:∃ n:Int,n=1099511627783+((N+i:Nat)+1:Int):=⟨_,rfl⟩;rw [<-hnn] at hM;obtain ⟨w4,hw4⟩:∃ w4,w4=wr.setCell ⟨b,0,none⟩ (.int .i64 ((N+i:Nat)+1:Int)):=⟨_,rfl⟩;rw [<-hw4] at hM;have k4:∀ e,29≠e->aA e wr w4:=λe he=>by rw [hw4];exact .setCell hR.held.blk he _ _
   have hH4:dX rv (.slice qa qn qc) B w4 b (N+i+1) (bq++new) v1:=by rw [hw4];exact hR.held.mark
   have hb4:Below B w w4:=by rw [hw4];exact hR.below.setCell (p:=⟨b,0,none⟩) hR.held.base _
   have hrb:=(((hR.other 59 (by decide) (by decide) (by decide)).trans (k4 _ (by decide))) gl _ (uh HL).blk).trans (uh HL).blk;obtain ⟨old,hold⟩:∃ old,G.mapIdx (pR rs)++List.replicate (rs.length+2 - (rs.length+2)) yh=old:=⟨_,rfl⟩;have hol:old.length=i+2:=by rw [<-hold,C_,List.length_mapIdx,LZ];simp
   rw [hold] at hrb;have H3:Hid (Gr gl n old w4 w4 0 []):=⟨rfl,hrb,(λh hh=>by cases hh),il.aX (n_ _ _)⟩;have HR4:Hid (dX rv (.slice qa qn qc) B w4 b (N+i+1) (bq++new) v1∧(∀ e∈bq++new,kQ w4 e)∧new.length=4*i∧(∀ e∈new,∀ k,e.1.ownBlock=some k->k∈G∨w.heap.size<=k)∧(∀ e,3≠e->50≠e->29≠e->aA e w w4)∧(∀ k cur,w.heap[k]?=some (.cells cur 3 (0,0))->k ∉ G->w4.heap[k]?=w.heap[k]?)∧Below B w w4):=by
    refine ⟨hH4,λe he=>(hR.ok e he).dY (k4 _ (by decide)),hR.len,λe he k hk=>?_,λe n1 n2 n3=>(hR.other e n1 n2 n3).trans (k4 e n3),λk cur hk hne=>?_,hb4⟩
    ·rcases hR.news e he k hk with ⟨j,_,e⟩ | h
     ·exact .inl (abn e)
     ·exact .inr h
    ·have h1:=hR.ints k cur hk (λj _ e=>hne (abn e));rw [k4 3 (by decide) k cur (h1.trans hk),h1]
   have HOL:=af hol;have HRB:=af hrb;clear HR hR hnn k4 hH4 hb4 hrb hold hol LZ hw4;go_wp2_with fail;refine (uh hM).mono ?_;rintro e w1 ⟨rfl,hw1⟩;rw [hw1];clear hw1 w1 hM;go_wp2_with fail;go_loopw [12] (λjv wr=>∃ j:Nat,j<=i+2∧jv=.int .i64 j∧Hid (∃ Gn,Gr gl n old w4 wr j Gn)) (λjv _=>i+2 - (intOf jv).toNat)
   case atStart=>exact ⟨0,by omega,rfl,[],H3⟩
   case round =>
    obtain ⟨j,hj,rfl,HR⟩:=hrel;clear H3;obtain ⟨Gn,hR⟩:=uh HR;by_cases hjl:j<i+2
    ·have hb:=hR.blk.grow (ae.alloc wr (.cells #[.int .i64 n] 3));obtain ⟨u,hu⟩:∃ u,(Gn.map (rJ n)++old.drop j)[j]?=some u:=⟨_,f_ (by rw [C_,L_,hR.len,List.length_drop,uh HOL];omega)⟩;obtain ⟨c0,c1,c2⟩:=hb.cell hu;have f0:(wr.alloc (.cells #[.int .i64 n] 3)).frozen? ⟨gl,j*3,none⟩=false:=aH hb _;have f1:(wr.alloc (.cells #[.int .i64 n] 3)).frozen? ⟨gl,j*3+1,none⟩=false:=aH hb _;have f2:(wr.alloc (.cells #[.int .i64 n] 3)).frozen? ⟨gl,j*3+2,none⟩=false:=aH hb _;have HF:=af (hR.step (by rw [uh HOL];exact hjl));unfold iC rJ at HF;simp only at HF;clear HR hR hb hu;go_wp2;go_roundw
     case rel=>exact ⟨j+1,by omega,by go_num,_,uh HF⟩
     case measure=>simp [intOf];omega
    ·have U0:j=i+2:=by omega
     subst U0;obtain ⟨q1,q2,q3,q4,q5,q6,q7⟩:=uh HR4;have ko:∀ e,59≠e->aA e w4 wr:=λe he=>hR.only.dY (uh HRB) he;have xW:=q1.bW (ko _ (by decide)) (ko _ (by decide));have hqr:=aW (aW (uh HQ) (q5 _ (by decide) (by decide) (by decide))) (ko _ (by decide));have Mc:Below B w wr:=q7.trans (hR.only.below (uh HL).OB (w_ hB q7.size));have hsz:B<=wr.heap.size:=w_ hB Mc.size;have c1:wr.cell? ⟨b,3,none⟩=some (.slice qa qn qc):=by rw [cellsOf xW.blk];rfl
     have f1:wr.frozen? ⟨b,3,none⟩=false:=aH xW.blk 3;have hal:=aW hqr (.alloc _ wr (.cells #[.slice (some ⟨gl,0,none⟩) (i+2) (i+2),.int .i64 n] 57));obtain ⟨cl,hcl⟩:∃ cl,bT di=cl:=⟨_,rfl⟩;have vP:Hid (bT (di++[(.slice (some ⟨gl,0,none⟩) (i+2) (i+2),n)])=cl++[.slice (some ⟨gl,0,none⟩) (i+2) (i+2),bF n]):=by unfold Hid;rw [<-hcl];exact pU _ _ _
     rw [hcl] at hal;have HZ:=af (x_ xW (x_ hR Mc));clear HR xW hqr Mc hcl q1 q2 q3 q4 q5 q6 q7 ko hR;go_wp2_with (at_builtin;refine wpList_append_lies _ rfl _ _ 27 rfl B 57 i0 (.agg #[.slice none 0 0,.int .i64 0]) 2 32 Tryz.underlying27 hi hz0 hz1 hz2 rfl (by decide) _ _ _ rfl hal ⟨_,0,none⟩ 1 1 [.slice (some ⟨gl,0,none⟩) (i+2) (i+2),bF n] rfl rfl ?c1 (xY _ _ rfl rfl) (by decide) ?c3 ?c4 ?c5 _ rfl ?_)
     case c1=>first | exact oN #[.slice (some ⟨gl,0,none⟩) (i+2) (i+2),bF n] _ | exact λj u h=>h
     case c3=>unfold maxLen;omega
     case c4=>omega
     case c5=>first | omega | (simp;omega)
     ·intro g1 iQ w2 hown1 hgrow1 _ _;obtain ⟨xW,hR,Mc⟩:=uh HZ;have kt:∀ e,57≠e->aA e wr w2:=λe he=>(aA.alloc _ _ _).trans (.grown hal hgrow1 he);have hb2:=(kt 29 (by decide) b _ xW.blk).trans xW.blk;have c1':w2.cell? ⟨b,3,none⟩=some (.slice qa qn qc):=by rw [cellsOf hb2];rfl
      have TI:w2.frozen? ⟨b,3,none⟩=false:=aH hb2 3;have HF:Hid (BH rv B w b N bq di rs gl G (.returned (.bool true)) (w2.setCell ⟨b,3,none⟩ (.slice (some ⟨g1,0,none⟩) (qn+1) iQ))):=by
       obtain ⟨q1,q2,q3,q4,q5,q6,q7⟩:=uh HR4;have ko:∀ e,59≠e->aA e w4 wr:=λe he=>hR.only.dY (uh HRB) he;have ks:∀ e,29≠e->aA e w2 (w2.setCell ⟨b,3,none⟩ (.slice (some ⟨g1,0,none⟩) (qn+1) iQ)):=λe he=>.setCell hb2 he _ _;have kn:∀ e,57≠e->29≠e->aA e wr (w2.setCell ⟨b,3,none⟩ (.slice (some ⟨g1,0,none⟩) (qn+1) iQ)):=λe n1 n2=>(kt e n1).trans (ks e n2);have ki:aA 3 w4 (w2.setCell ⟨b,3,none⟩ (.slice (some ⟨g1,0,none⟩) (qn+1) iQ)):=(ko _ (by decide)).trans (kn _ (by decide) (by decide));have hGn:Gn.length=i+2:=hR.len;refine ⟨new,v1,some ⟨g1,0,none⟩,iQ,n,rfl,?_,?_,?_,λe he=>(q2 e he).dY ki,q4,?_,λe n1 n2 n3 n4 n5=>((q5 e n1 n3 n5).trans (ko e n2)).trans (kn e n4 n5),λk cur hk hne=>?_,λk cur hk hne=>?_,?_⟩
       ·rw [uh HM,uh HQN];exact ⟨xW.base,(BQ hb2 _).2,aW (aW xW.own (kt _ (by decide))) (ks _ (by decide))⟩
       ·rw [uh HM,uh HQN,uh vP];exact aW hown1 (ks _ (by decide))
       ·rw [uh HM];exact q3
       ·refine ⟨gl,Gn,i+2,by rw [hGn,uh HM],?_,by rw [hGn];omega,λx hx=>⟨?_,.inr (w_ q7.size (hR.list x hx).2)⟩,.inl rfl⟩
        ·have h1:=hR.blk;rw [List.drop_of_length_le (by rw [uh HOL];omega),abk] at h1;exact (kn 59 (by decide) (by decide) gl _ h1).trans h1
        ·have h1:=(hR.list x hx).1;exact (kn 3 (by decide) (by decide) x _ h1).trans h1
       ·have h1:=q6 k cur hk hne;rw [ki k cur (h1.trans hk),h1]
       ·have h1:=q5 59 (by decide) (by decide) (by decide) k cur hk;have h2:=hR.only.block k (z_ (h1.trans hk)) hne;rw [kn 59 (by decide) (by decide) k cur (h2.trans (h1.trans hk)),h2,h1]
       ·exact (((Mc.alloc hsz _).grown hgrow1 (by simp;omega) (bR hal))).setCell (p:=⟨b,3,none⟩) xW.base _
      clear hown1 hgrow1 hal HZ xW hR Mc kt hb2 HR4;go_wp2;exact t_ (v:=.bool true) (by simp [results,Tryz.results14,go_sem]) rfl (uh HF)
theorem Dy (bq:List (Value × Int)):∀ k,(h:k<bq.length)->(bT bq)[2*k]?=some bq[k].1∧(bT bq)[2*k+1]?=some (bF bq[k].2):=by
 induction bq with
 | nil=>intro k h;simp at h
 | cons e r ih =>
  intro k h;cases k with
  | zero=>exact ⟨rfl,rfl⟩
  | succ k =>
   have:=ih k (by simpa using h);have e1:2*(k+1)=2*k+2:=by omega
   rw [e1];exact this
theorem BR {B:Nat} {w:World} {T:TypeId} {bq:List (Value × Int)} {va:Option Addr} {vn vc:Nat} (h:w.ownsRow B T 2 (.slice va vn vc) bq.length (bT bq)) (k:Nat) (hk:k<bq.length):∃ g,va=some ⟨g,0,none⟩∧w.cell? ⟨g,k*2,none⟩=some bq[k].1∧w.cell? ⟨g,k*2+1,none⟩=some (.int .i64 bq[k].2):=by
 rcases h.2 with ⟨_,hn⟩|⟨g,cap,cur,he,hb,hgg,hle,hm,hcs,htk⟩
 ·omega
 ·injection he with e1 _ _;obtain ⟨c1,c2⟩:=Dy bq k hk;rw [abL] at c1 c2;rw [<-htk] at c1 c2;refine ⟨g,e1,?_,?_⟩
  ·rw [cellsOf hgg,<-Array.getElem?_toList];rw [List.getElem?_take,h_ (by omega)] at c1;exact c1
  ·rw [cellsOf hgg,<-Array.getElem?_toList];rw [List.getElem?_take,h_ (by omega)] at c2;exact c2
structure Rw (B:Nat) (w:World) (b N:Nat) (bq:List (Value × Int)) (v:Value) (dA:List (Value × Int)) (rv:Value) (di:List (Value × Int)) (qv:Value):Prop where
 held:dX rv qv B w b N bq v
 Jf:w.ownsRow B 52 2 rv dA.length (bT dA)
 LP:w.ownsRow B 57 2 qv di.length (bT di)
 ok:∀ e∈bq,kQ w e
 XH:∀ e∈dA,BG (λ_=>True) w e
 qok:∀ e∈di,Rx (λ_=>True) w e
theorem Rw.grow {B:Nat} {w w':World} {b N:Nat} {bq dA di:List (Value × Int)} {v rv qv:Value} (h:Rw B w b N bq v dA rv di qv) (hg:ae w w'):Rw B w' b N bq v dA rv di qv :=
 have k:∀ e,aA e w w':=λe=>.aX hg
 ⟨h.held.bW (k _) (k _),aW h.Jf (k _),aW h.LP (k _),λe he=>(h.ok e he).dY (k _),λe he=>(h.XH e he).bW (λj cur hj _=>k _ j cur hj) (λ_ _ _=>trivial),λe he=>(h.qok e he).bW (λj cur hj _=>k _ j cur hj) (λj cur hj _=>k _ j cur hj) (λ_ _ _=>trivial)⟩
attribute [local go_sem] bD
set_option maxHeartbeats 1000000 in
theorem RA {B:Nat} {w:World} {b N:Nat} {bq dA di:List (Value × Int)} {v rv qv:Value} (hD:Rw B w b N bq v dA rv di qv) (hn:bq.length<=100000000) (hn2:dA.length<=1000) (WZ:di.length<=1000) :
  Calls Tryz.prog 5 #[.pointer (some ⟨b,0,none⟩)] w λe w'=>e=.returned (.bool true)∧ae w w':=by
 obtain ⟨va,vc,rfl⟩:=lN hD.held.own;obtain ⟨ra,rc,rfl⟩:=lN hD.Jf;obtain ⟨qa,qc,rfl⟩:=lN hD.LP;have HD:=af hD;obtain ⟨T,hT⟩:∃ T:Nat,T=bq.length:=⟨_,rfl⟩;obtain ⟨R,hR⟩:∃ R:Nat,R=dA.length:=⟨_,rfl⟩;obtain ⟨Q,hQ⟩:∃ Q:Nat,Q=di.length:=⟨_,rfl⟩;rw [<-hT,<-hR,<-hQ] at HD;rw [<-hT] at hn;rw [<-hR] at hn2;rw [<-hQ] at WZ;have HT:=af hT;have HRR:=af hR;have HQQ:=af hQ;clear hD hT hR hQ;go_enter Tryz.func5,Tryz.ntmps5;go_wp2_with fail;go_loopw [3] (λi wr=>∃ k:Nat,k<=T∧i=.int .i64 k∧Hid (ae w wr)) (λi _=>T - (intOf i).toNat)
 case atStart=>exact ⟨0,by omega,rfl,n_ _ _⟩
 case round =>
  obtain ⟨k,hk,rfl,hh⟩:=hrel;have xW:=(uh HD).grow (uh hh);have c1:wr.cell? ⟨b,1,none⟩=some (.slice va T vc):=by rw [cellsOf xW.held.blk];rfl
  by_cases hlt:k<T
  ·have hke:k<bq.length:=by have:=uh HT;omega
   obtain ⟨g,rfl,d1,d2⟩:=BR xW.held.own k hke;have hok:=xW.ok bq[k] (aak hke);generalize bq[k]=en at *
   obtain ⟨ev,n⟩:=en;obtain ⟨m,hev⟩:=hok;simp only at d1 d2 hev;obtain ⟨ea,ec,rfl,hec⟩:=BP hev;rw [aba] at d1 hev;have hmm:m<=maxLen:=by
    rcases hev.2 with ⟨_,h0⟩|⟨_,cap,_,_,_,_,h1,h2,_⟩
    ·simp at h0;omega
    ·simp at h1;omega
   unfold maxLen at hmm;have hI:=af ((cO hev).below (ae.alloc wr (.cells #[.slice ea m ec,.int .i64 n] 50)));have x0:(wr.alloc (.cells #[.slice ea m ec,.int .i64 n] 50)).cell? ⟨wr.heap.size,0,none⟩=some (.slice ea m ec):=by rw [cellsOf (aax wr _)];rfl
   have x1:(wr.alloc (.cells #[.slice ea m ec,.int .i64 n] 50)).cell? ⟨wr.heap.size,1,none⟩=some (.int .i64 n):=by rw [cellsOf (aax wr _)];rfl
   have HB:Hid (∀ q,ae w ((wr.alloc (.cells #[.slice ea m ec,.int .i64 n] 50)).drewN q)):=λq=>abb ((uh hh).trans (ae.alloc _ _)) q;clear hh hev xW;obtain ⟨wv,hwv⟩:∃ wv:World,wv=wr:=⟨wr,rfl⟩;subst hwv;go_wp2;go_loopw [5] (λi wr=>∃ (j q:Nat),j<=m∧i=.int .i64 j∧wr=(wv.alloc (.cells #[.slice ea m ec,.int .i64 n] 50)).drewN q) (λi _=>m - (intOf i).toNat)
   case atStart=>exact ⟨0,0,by omega,rfl,rfl⟩
   case round =>
    obtain ⟨j,q,hj,rfl,rfl⟩:=hrel;by_cases hjm:j<m
    ·obtain ⟨b1,o1,rfl,y1⟩:=nT (uh hI) j (by simpa using hjm);have y2:(wv.alloc (.cells #[.slice (some ⟨b1,o1,none⟩) m ec,.int .i64 n] 50)).cell? ⟨b1,o1+j,none⟩=some (.int .i64 n):=by
      simpa using y1
     go_wp2;go_quiet (fail);go_wp2;go_roundw
     case rel=>exact ⟨j+1,_,by omega,by go_num,rfl⟩
     case measure=>simp [intOf];omega
    ·go_wp2;go_roundw
     case rel=>exact ⟨k+1,by omega,by go_num,uh HB _⟩
     case measure=>simp [intOf];omega
  ·have xV:Hid (ae w wr):=hh;clear hh xW;go_wp2_with fail;go_loopw [6] (λi wr=>∃ k:Nat,k<=R∧i=.int .i64 k∧Hid (ae w wr)) (λi _=>R - (intOf i).toNat)
   case atStart=>exact ⟨0,by omega,rfl,xV⟩
   case round =>
    obtain ⟨k2,hk2,rfl,hh⟩:=hrel;clear xV c1;have xW:=(uh HD).grow (uh hh);have c1:wr.cell? ⟨b,2,none⟩=some (.slice ra R rc):=by rw [cellsOf xW.held.blk];rfl
    by_cases hlt2:k2<R
    ·have hke:k2<dA.length:=by have:=uh HRR;omega
     have hrow:=xW.Jf;rw [<-uh HRR] at hrow;obtain ⟨g,rfl,d1,d2⟩:=BR xW.Jf k2 hke;have hok:=xW.XH dA[k2] (aak hke);generalize dA[k2]=en at *
     obtain ⟨ev,n⟩:=en;obtain ⟨gg,m,cap,hev,hbk,hm,hn0,hn1,-⟩:=hok;simp only at d1 d2 hev hbk hn0 hn1;subst hev;have x0:(wr.alloc (.cells #[.slice (some ⟨gg,0,none⟩) m cap,.int .i64 n] 52)).cell? ⟨wr.heap.size,0,none⟩=some (.slice (some ⟨gg,0,none⟩) m cap):=by rw [cellsOf (aax wr _)];rfl
     have x1:(wr.alloc (.cells #[.slice (some ⟨gg,0,none⟩) m cap,.int .i64 n] 52)).cell? ⟨wr.heap.size,1,none⟩=some (.int .i64 n):=by rw [cellsOf (aax wr _)];rfl
     obtain ⟨wv,hwv⟩:∃ wv:World,wv=wr.alloc (.cells #[.slice (some ⟨gg,0,none⟩) m cap,.int .i64 n] 52):=⟨_,rfl⟩;have hga:ae wr wv:=by rw [hwv];exact ae.alloc _ _
     have HB0:Hid (ae w wv):=(uh hh).trans hga;have Md:Hid (eG wv gg (List.replicate m (n,-n))):=hbk.grow hga;have HMR:=af (λwq=>wK n wq (by omega) (by omega));obtain ⟨xp,hxp⟩:∃ xp,wr.heap.size=xp:=⟨_,rfl⟩;rw [<-hwv,hxp] at x0 x1;have HX:=af (x_ x0 x1);clear hh xW hbk hga hrow;go_wp2_with fail;rw [<-hwv]
     try rw [hxp]
     clear hwv hxp d1 d2 c1 x0 x1;go_loopw [8] (λi wr=>∃ j:Nat,j<=m∧i=.int .i64 j∧Hid (ae wv wr)) (λi _=>m - (intOf i).toNat)
     case atStart=>exact ⟨0,by omega,rfl,n_ _ _⟩
     case round =>
      obtain ⟨j,hj,rfl,Gc⟩:=hrel;have x0:=(uh Gc).cell (uh HX).1;by_cases hjm:j<m
      ·have x1:=(uh Gc).cell (uh HX).2;obtain ⟨e0,e1⟩:=((uh Md).grow (uh Gc)).cell (i:=j) (by simpa using hjm);have hge:(List.replicate m (n,-n)).getD j (0,0)=(n,-n):=by
        rw [a_,f_ (by simpa using hjm)];simp
       rw [hge] at e0 e1;simp only at e0 e1;clear hge;go_wp2_with fail;have y0:=b_ x0;have y1:=b_ x1;have z0:=b_ e0;have z1:=b_ e1;clear x0 x1 e0 e1;refine ah (bZ []) (gL [(74,(·=.agg #[.int .i64 n,.int .i64 (-n)]))]) 128 8 (by kernel_rfl) (by rfl) (by kernel_rfl) (dw (by simp)) ?_
       iterate 7 (refine aO λK hK=>?_;go_simp;refine hK _ ?_;clear hK K)
       refine ai (·=.agg #[.int .i64 n,.int .i64 (-n)]) 17 #[.int .i64 n] (by rfl) (by rfl) ⟨_,rfl⟩ (λw=>by go_simp) (λwq hg hf=>(uh HMR wq).mono (by rintro e w' ⟨rfl,hg'⟩;exact ⟨_,rfl,hg',rfl,λt ht=>by cases ht;exact True.intro⟩)) ?_;rintro _ rfl;simp only [Act.put,p_,G_,D_];refine aF ?_;intro w5 hg5 _;have jy:Hid (ae wv w5):=(uh Gc).trans hg5;clear hg5 y0 y1 z0 z1 Gc;go_wp2;go_roundw
       case rel=>exact ⟨j+1,by omega,by go_num,jy⟩
       case measure=>simp [intOf];omega
      ·have jy:Hid (ae w wr):=(uh HB0).trans (uh Gc);clear Gc;go_wp2;go_roundw
       case rel=>exact ⟨k2+1,by omega,by go_num,jy⟩
       case measure=>simp [intOf];omega
    ·have xV:Hid (ae w wr):=hh;clear hh xW;go_wp2_with fail;go_loopw [9] (λi wr=>∃ k:Nat,k<=Q∧i=.int .i64 k∧Hid (ae w wr)) (λi _=>Q - (intOf i).toNat)
     case atStart=>exact ⟨0,by omega,rfl,xV⟩
     case round =>
      obtain ⟨k3,hk3,rfl,hh⟩:=hrel;clear xV c1;have xW:=(uh HD).grow (uh hh);have c1:wr.cell? ⟨b,3,none⟩=some (.slice qa Q qc):=by rw [cellsOf xW.held.blk];rfl
      by_cases hlt3:k3<Q
      ·have hke:k3<di.length:=by have:=uh HQQ;omega
       obtain ⟨g,rfl,d1,d2⟩:=BR xW.LP k3 hke;have hok:=xW.qok di[k3] (aak hke);generalize di[k3]=en at *
       obtain ⟨ev,n⟩:=en;obtain ⟨gg,Gn,cap,hev,hbk,hm,hbs,-⟩:=hok;simp only at d1 d2 hev hbk hbs;subst hev;obtain ⟨m,XM⟩:∃ m,Gn.length=m:=⟨_,rfl⟩;have HML:=af XM;rw [XM] at d1 hm;have x0:(wr.alloc (.cells #[.slice (some ⟨gg,0,none⟩) m cap,.int .i64 n] 57)).cell? ⟨wr.heap.size,0,none⟩=some (.slice (some ⟨gg,0,none⟩) m cap):=by rw [cellsOf (aax wr _)];rfl
       have x1:(wr.alloc (.cells #[.slice (some ⟨gg,0,none⟩) m cap,.int .i64 n] 57)).cell? ⟨wr.heap.size,1,none⟩=some (.int .i64 n):=by rw [cellsOf (aax wr _)];rfl
       obtain ⟨wv,hwv⟩:∃ wv:World,wv=wr.alloc (.cells #[.slice (some ⟨gg,0,none⟩) m cap,.int .i64 n] 57):=⟨_,rfl⟩;have hga:ae wr wv:=by rw [hwv];exact ae.alloc _ _
       have HB0:Hid (ae w wv):=(uh hh).trans hga;have Md:Hid (jK wv gg (Gn.map (rJ n))∧∀ h∈Gn,wv.heap[h]?=some (.cells #[.int .i64 n] 3 (0,0))):=⟨hbk.grow hga,λh hh=>(Below.block hga h (z_ (hbs h hh).1)).trans (hbs h hh).1⟩;obtain ⟨xp,hxp⟩:∃ xp,wr.heap.size=xp:=⟨_,rfl⟩;rw [<-hwv,hxp] at x0 x1;have HX:=af (x_ x0 x1);clear hh xW hbk hga hbs XM;go_wp2_with fail;rw [<-hwv]
       try rw [hxp]
       clear hwv hxp d1 d2 c1 x0 x1;go_loopw [11] (λi wr=>∃ j:Nat,j<=m∧i=.int .i64 j∧Hid (ae wv wr)) (λi _=>m - (intOf i).toNat)
       case atStart=>exact ⟨0,by omega,rfl,n_ _ _⟩
       case round =>
        obtain ⟨j,hj,rfl,Gc⟩:=hrel;have x0:=(uh Gc).cell (uh HX).1;by_cases hjm:j<m
        ·obtain ⟨h,hge⟩:∃ h,Gn[j]?=some h:=⟨_,f_ (by rw [uh HML];exact hjm)⟩;obtain ⟨e0,e1,e2⟩:=((uh Md).1.grow (uh Gc)).cell (i:=j) (q:=rJ n h) (by rw [aal,hge];rfl);unfold rJ at e0 e1 e2;simp only at e0 e1 e2;have hga:=ae.alloc wr (.cells #[.slice (some ⟨h,0,none⟩) 1 1,.int .i64 n,.bool false] 59);have hb0:=(uh Md).2 h (abn hge);have hb1:=(Below.block ((uh Gc).trans hga) h (z_ hb0)).trans hb0;have n0:(wr.alloc (.cells #[.slice (some ⟨h,0,none⟩) 1 1,.int .i64 n,.bool false] 59)).cell? ⟨h,0,none⟩=some (.int .i64 n):=by rw [cellsOf hb1];rfl
         have x1:=hga.cell ((uh Gc).cell (uh HX).2);have r0:(wr.alloc (.cells #[.slice (some ⟨h,0,none⟩) 1 1,.int .i64 n,.bool false] 59)).cell? ⟨wr.heap.size,0,none⟩=some (.slice (some ⟨h,0,none⟩) 1 1):=by rw [cellsOf (aax wr _)];rfl
         have r1:(wr.alloc (.cells #[.slice (some ⟨h,0,none⟩) 1 1,.int .i64 n,.bool false] 59)).cell? ⟨wr.heap.size,1,none⟩=some (.int .i64 n):=by rw [cellsOf (aax wr _)];rfl
         have r2:(wr.alloc (.cells #[.slice (some ⟨h,0,none⟩) 1 1,.int .i64 n,.bool false] 59)).cell? ⟨wr.heap.size,2,none⟩=some (.bool false):=by rw [cellsOf (aax wr _)];rfl
         have jy:Hid (∀ q,ae wv ((wr.alloc (.cells #[.slice (some ⟨h,0,none⟩) 1 1,.int .i64 n,.bool false] 59)).drewN q)):=λq=>abb ((uh Gc).trans hga) q;clear hge hga hb0 hb1 Gc;go_wp2;go_quiet (fail);go_wp2;go_roundw
         case rel=>exact ⟨j+1,by omega,by go_num,uh jy _⟩
         case measure=>simp [intOf];omega
        ·have jy:Hid (ae w wr):=(uh HB0).trans (uh Gc);clear Gc;go_wp2;go_roundw
         case rel=>exact ⟨k3+1,by omega,by go_num,jy⟩
         case measure=>simp [intOf];omega
      ·have xV:Hid (ae w wr):=hh;clear hh xW;go_wp2;go_ret;exact ⟨rfl,uh xV⟩
end Go.Proofs.YtgaafamcajcifaaGreat
