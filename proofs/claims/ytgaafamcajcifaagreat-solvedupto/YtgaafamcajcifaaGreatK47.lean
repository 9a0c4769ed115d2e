/- Joined: SLaw6 SLaw7 SRef3. -/
import Derived.Test.YtgaafamcajcifaaGreatK45
import Derived.Test.YtgaafamcajcifaaGreatK46
set_option linter.unusedVariables false
set_option linter.unusedSimpArgs false
set_option maxRecDepth 100000
namespace Go.Proofs.YtgaafamcajcifaaGreat
open Go.RowKit
theorem Ma (xs:List Int) (k:Nat) (hk:k<xs.length) (n:Int):(List.replicate k n++xs.drop k).set k n=List.replicate (k+1) n++xs.drop (k+1):=by
 rw [List.set_append,g_ (by simp),aba,Nat.sub_self,List.drop_eq_getElem_cons hk,D_,List.replicate_succ',abd];rfl
theorem BP {B:Nat} {w:World} {v:Value} {l:List Int} (h:aI B w v l):∃ ad cap,v=.slice ad l.length cap∧cap<=maxLen:=by
 rcases h.2 with ⟨rfl,hn⟩|⟨g,cap,cur,rfl,_,_,_,hm,_⟩
 ·exact ⟨none,0,by rw [hn],by unfold maxLen;omega⟩
 ·exact ⟨_,_,rfl,hm⟩
set_option maxHeartbeats 4000000 in
theorem Gi {rv qv:Value} {B:Nat} {w:World} {b N:Nat} {bq:List (Value × Int)} {v0:Value} (v:Value) (xs:List Int) (hH:dX rv qv B w b N bq v0) (hv:aI B w v xs) (hE:∀ e∈bq,kQ w e∧∀ k,v.ownBlock=some k->e.1.ownBlock≠some k) (hB:B<=w.heap.size) (hx:xs.length<=17592186043906) (hn:bq.length<=100000000) (hN:N<=100000000) :
  Calls Tryz.prog 15 #[.pointer (some ⟨b,0,none⟩),v] w λe w'=>e=.returned (.int .i64 (1099511627783+(N+1:Int)))∧∃ new v1,dX rv qv B w' b (N+1) (bq++new) v1∧new.length=4∧(∀ e∈bq++new,kQ w' e)∧(∀ e∈new,∀ k,e.1.ownBlock=some k->v.ownBlock=some k∨w.heap.size<=k)∧jR v.ownBlock w w'∧Below B w w'∧(v,1099511627783+(N+1:Int))∈new∧∀ e,3≠e->50≠e->29≠e->aA e w w':=by
 obtain ⟨i0,hi,hz0,hz1,hz2⟩:=U_ Tryz.UU;obtain ⟨j0,hj,hy0,hy1,hy2⟩:=U_ Tryz.jL;obtain ⟨Jl,uD,rfl,hvc⟩:=BP hv;obtain ⟨TH,XR,rfl⟩:=lN hH.own;obtain ⟨n,hnn⟩:∃ n:Int,n=1099511627783+(N+1:Int):=⟨_,rfl⟩;have hM:=af (BC b N _ _ _ w hH.blk (by omega));rw [<-hnn] at hM ⊢
 -- behind mark
 have H1:Hid (dX rv qv B (w.setCell ⟨b,0,none⟩ (.int .i64 (N+1:Int))) b (N+1) bq (.slice TH bq.length XR)∧aI B (w.setCell ⟨b,0,none⟩ (.int .i64 (N+1:Int))) (.slice Jl xs.length uD) (List.replicate 0 n++xs.drop 0)∧jR (Value.ownBlock (.slice Jl xs.length uD)) w (w.setCell ⟨b,0,none⟩ (.int .i64 (N+1:Int)))∧Below B w (w.setCell ⟨b,0,none⟩ (.int .i64 (N+1:Int)))∧∀ e,3≠e->50≠e->29≠e->aA e w (w.setCell ⟨b,0,none⟩ (.int .i64 (N+1:Int)))) :=
  ⟨hH.mark,aW hv (.setCell hH.blk (by decide) _ _),.of (.setCell hH.blk (by decide) _ _),(n_ B w).setCell (p:=⟨b,0,none⟩) hH.base _,λe _ _ n3=>.setCell hH.blk n3 _ _⟩
 have HE:=af hE;have HV:=af hv;clear hE hv hH hnn;go_enter Tryz.func15,Tryz.ntmps15;go_wp2_with fail;refine (uh hM).mono ?_;rintro e w1 ⟨rfl,hw1⟩;rw [hw1];clear hw1 w1 hM;go_wp2;go_loopw [6] (λi wr=>∃ k:Nat,k<=xs.length∧i=.int .i64 k∧Hid (dX rv qv B wr b (N+1) bq (.slice TH bq.length XR)∧aI B wr (.slice Jl xs.length uD) (List.replicate k n++xs.drop k)∧jR (Value.ownBlock (.slice Jl xs.length uD)) w wr∧Below B w wr∧∀ e,3≠e->50≠e->29≠e->aA e w wr)) (λi _=>xs.length - (intOf i).toNat)
 case atStart=>exact ⟨0,by omega,rfl,H1⟩
 case round =>
  obtain ⟨k,hk,rfl,hh⟩:=hrel;clear H1;by_cases hlt:k<xs.length
  ·obtain ⟨q1,q2,q3,q4,q5⟩:=uh hh;have hll:(List.replicate k n++xs.drop k).length=xs.length:=by simp;omega
   obtain ⟨g,cap,cur,hvv,hgb,hgg,hgl,hgm,hgs,hgt⟩:∃ g cap cur,Value.slice Jl xs.length uD=.slice (some ⟨g,0,none⟩) xs.length cap∧B<=g∧wr.heap[g]?=some (.cells cur 3 (0,0))∧xs.length<=cap∧cap<=maxLen∧cur.size=cap∧True:=by
    rcases q2.2 with ⟨_,h0⟩|⟨g,cap,cur,h1,h2,h3,h4,h5,h6,h7⟩
    ·omega
    ·exact ⟨g,cap,cur,by rw [h1,hll],h2,h3,by omega,h5,by omega,trivial⟩
   injection hvv with e1 _ e3;subst e1;subst e3;have hc:∃ u,wr.cell? ⟨g,k,none⟩=some u:=by
    rw [cellsOf hgg];exact ⟨cur[k]'(by omega),by simp⟩
   obtain ⟨u,WY⟩:=hc;have hfr:wr.frozen? ⟨g,k,none⟩=false:=aH hgg _;have HN:Hid (dX rv qv B (wr.setCell ⟨g,k,none⟩ (.int .i64 n)) b (N+1) bq (.slice TH bq.length XR)∧aI B (wr.setCell ⟨g,k,none⟩ (.int .i64 n)) (.slice (some ⟨g,0,none⟩) xs.length uD) (List.replicate (k+1) n++xs.drop (k+1))∧jR (Value.ownBlock (.slice (some ⟨g,0,none⟩) xs.length uD)) w (wr.setCell ⟨g,k,none⟩ (.int .i64 n))∧Below B w (wr.setCell ⟨g,k,none⟩ (.int .i64 n))∧∀ e,3≠e->50≠e->29≠e->aA e w (wr.setCell ⟨g,k,none⟩ (.int .i64 n))):=by
    refine ⟨q1.bW (.setCell hgg (by decide) _ _) (.setCell hgg (by decide) _ _),?_,q3.trans (.setCell _ _ _ _),q4.setCell (p:=⟨g,k,none⟩) hgb _,λe n1 n2 n3=>(q5 e n1 n2 n3).trans (.setCell hgg n1 _ _)⟩;rw [<-Ma xs k hlt n];exact Jk q2 k (by omega) n
   clear hh q1 q2 q3 q4 q5 hll hgg hgs hgt;go_wp2;go_roundw
   case rel=>exact ⟨k+1,by omega,by go_num,HN⟩
   case measure=>simp [intOf];omega
  ·have hkx:k=xs.length:=by omega
   have HB:Hid (BO rv qv B w wr b (N+1) bq [] (.slice TH bq.length XR) (Value.ownBlock (.slice Jl xs.length uD)) Jl xs.length uD n):=by
    obtain ⟨q1,q2,q3,q4,q5⟩:=uh hh;subst hkx;rw [List.drop_length,abk] at q2;refine ⟨by rw [abk];exact q1,q2,λe he=>?_,λe he=>absurd he (by simp),λa ha=>?_,q3,q4,q5⟩
    ·rw [abk] at he;obtain ⟨h1,h2⟩:=uh HE e he;refine .inr ⟨h1.bW (λk hk hc=>h2 k hc hk) q3,λa ha=>h2 _ (by rw [ha];rfl)⟩
    ·left;rw [ha];rfl
   clear hh HE HV hkx;obtain ⟨wv,hwv⟩:∃ wv:World,wv=wr:=⟨wr,rfl⟩;subst hwv;go_wp2;go_loopw [7,8] (λgv i wr=>∃ (j dL:Nat) (nK:Option Addr) (fC:Nat) (va:Option Addr) (vn vc:Nat),j<=3∧dL<=17592186043909∧vn<=100000003∧gv=.slice nK dL fC∧i=.int .i64 j∧Hid (∃ new,new.length=j∧vn=(bq++new).length∧BO rv qv B w wr b (N+1) bq new (.slice va vn vc) (Value.ownBlock (.slice Jl xs.length uD)) nK dL fC n∧dL=xs.length+j∧(j=0∧nK=Jl∧fC=uD∨(.slice Jl xs.length uD,n)∈new))) (λ_ i _=>3 - (intOf i).toNat)
   case atStart=>exact ⟨0,xs.length,Jl,uD,TH,bq.length,XR,by omega,by omega,by omega,rfl,rfl,[],rfl,by simp,HB.out,rfl,.inl ⟨rfl,rfl,rfl⟩⟩
   case round =>
    obtain ⟨j,dL,nK,fC,va,vn,vc,hj3,hgl,hvn,rfl,rfl,hh⟩:=hrel;clear HB;obtain ⟨new,hnl,hvl,hbz,hgx,XT⟩:=uh hh;have HFS:Hid ((.slice Jl xs.length uD,n)∈new++[(.slice nK dL fC,n)]):=by
     rcases XT with ⟨h0,h1,h2⟩|h
     ·refine F_.2 (.inr ?_);rw [h1,h2,hgx,h0];simp
     ·exact F_.2 (.inl h)
    have HZ:=af hbz;have HL:=af (show vn=(bq++new).length∧new.length=j∧dL=xs.length+j from ⟨hvl,hnl,hgx⟩);have hsz:B<=wr.heap.size:=w_ hB hbz.below.size;have c1:wr.cell? ⟨b,1,none⟩=some (.slice va vn vc):=by rw [cellsOf hbz.held.blk];rfl
    have f1:wr.frozen? ⟨b,1,none⟩=false:=aH hbz.held.blk 1;have hal:(wr.alloc (.cells #[.slice nK dL fC,.int .i64 n] 50)).ownsRow B 50 2 (.slice va vn vc) vn (bT (bq++new)):=by
     have:=aW hbz.held.own (.alloc _ wr (.cells #[.slice nK dL fC,.int .i64 n] 50));rw [<-hvl] at this;exact this
    clear hh hnl hvl hbz hgx XT;by_cases hlt:j<3
    ·go_wp2_with (at_builtin;refine wpList_append_lies _ rfl _ _ 25 rfl B 50 i0 (.agg #[.slice none 0 0,.int .i64 0]) 2 32 Tryz.underlying25 hi hz0 hz1 hz2 rfl (by decide) _ _ _ rfl hal ⟨_,0,none⟩ 1 1 [.slice nK dL fC,bF n] rfl rfl ?c1 (xY _ _ rfl rfl) (by decide) ?c3 ?c4 ?c5 _ rfl ?_)
     case c1=>exact oN #[.slice nK dL fC,bF n] _
     case c3=>unfold maxLen;omega
     case c4=>omega
     case c5=>simp;omega
     ·intro g1 iQ w1 hown1 hgrow1 _ _;have HA:Hid (BO rv qv B w (w1.setCell ⟨b,1,none⟩ (.slice (some ⟨g1,0,none⟩) (vn+1) iQ)) b (N+1) bq (new++[(.slice nK dL fC,n)]) (.slice (some ⟨g1,0,none⟩) (vn+1) iQ) (Value.ownBlock (.slice Jl xs.length uD)) nK dL fC n∧w1.heap[b]?=some (.cells #[.int .i64 (N+1:Nat),.slice va vn vc,rv,qv] 29 (0,0))) :=
       (uh HZ).add hsz _ hgrow1 (by rw [<-(uh HL).1];exact hown1)
      have c1':w1.cell? ⟨b,1,none⟩=some (.slice va vn vc):=by rw [cellsOf (uh HA).2];rfl
      have TI:w1.frozen? ⟨b,1,none⟩=false:=aH (uh HA).2 1;have hsz2:B<=(w1.setCell ⟨b,1,none⟩ (.slice (some ⟨g1,0,none⟩) (vn+1) iQ)).heap.size:=w_ hB (uh HA).1.below.size;have abK:B<=w1.heap.size:=by simpa using hsz2
      clear hown1 hgrow1 hal HZ;have Gp:((w1.setCell ⟨b,1,none⟩ (.slice (some ⟨g1,0,none⟩) (vn+1) iQ)).alloc (.cells #[.int .i64 n] 3)).ownsRow B 3 1 (.slice nK dL fC) dL ((List.replicate dL n).map bF):=by
       have:=aW (uh HA).1.own (.alloc _ _ (.cells #[.int .i64 n] 3));rw [aba] at this;exact this
      go_wp2_with (at_builtin;refine yj _ rfl _ _ 36 rfl B 3 j0 (.int .i64 0) 1 8 Tryz.underlying36 hj hy0 hy1 hy2 rfl (by decide) _ _ _ rfl Gp ⟨_,0,none⟩ 1 1 [bF n] rfl rfl ?d1 (λu hu=>by simp at hu;subst hu;rfl) (by decide) ?d3 ?d4 ?d5 ?_)
      case d1 =>
       have e9:(w1.setCell ⟨b,1,none⟩ (.slice (some ⟨g1,0,none⟩) (vn+1) iQ)).heap.size=w1.heap.size:=by simp
       have n9:=oN (w:=w1.setCell ⟨b,1,none⟩ (.slice (some ⟨g1,0,none⟩) (vn+1) iQ)) #[bF n] 3;rw [e9] at n9;exact n9
      case d3=>unfold maxLen;omega
      case d4=>omega
      case d5=>simp;omega
      ·intro g2 cap2 w3 hown3 TJ _;have XU:TG ((w1.setCell ⟨b,1,none⟩ (.slice (some ⟨g1,0,none⟩) (vn+1) iQ)).alloc (.cells #[.int .i64 n] 3)) w3 nK dL fC g2 cap2:=by
        rcases TJ with ⟨h1,h3⟩|⟨h1,h3⟩
        ·exact .inl ⟨by simpa using h1,h3⟩
        ·exact .inr ⟨by rw [h1];simp,h3⟩
       have HG:Hid (BO rv qv B w w3 b (N+1) bq (new++[(.slice nK dL fC,n)]) (.slice (some ⟨g1,0,none⟩) (vn+1) iQ) (Value.ownBlock (.slice Jl xs.length uD)) (some ⟨g2,0,none⟩) (dL+1) cap2 n):=(uh HA).1.grow hsz2 _ XU (by rw [List.map_replicate];exact hown3);clear hown3 XU TJ Gp HA c1 f1 c1' TI;go_wp2;go_roundw
       case rel=>exact ⟨j+1,dL+1,some ⟨g2,0,none⟩,cap2,some ⟨g1,0,none⟩,vn+1,iQ,by omega,by have:=(uh HL).2.2;omega,by have:=(uh HL).1;have:=(uh HL).2.1;simp at *;omega,rfl,by go_num,new++[(.slice nK dL fC,n)],by have:=(uh HL).2.1;simp;omega,by have:=(uh HL).1;simp at *;omega,uh HG,by have:=(uh HL).2.2;omega,.inr (uh HFS)⟩
       case measure=>simp [intOf];omega
    ·go_wp2_with (at_builtin;refine wpList_append_lies _ rfl _ _ 25 rfl B 50 i0 (.agg #[.slice none 0 0,.int .i64 0]) 2 32 Tryz.underlying25 hi hz0 hz1 hz2 rfl (by decide) _ _ _ rfl hal ⟨_,0,none⟩ 1 1 [.slice nK dL fC,bF n] rfl rfl ?c1 (xY _ _ rfl rfl) (by decide) ?c3 ?c4 ?c5 _ rfl ?_)
     case c1=>exact oN #[.slice nK dL fC,bF n] _
     case c3=>unfold maxLen;omega
     case c4=>omega
     case c5=>simp;omega
     ·intro g1 iQ w1 hown1 hgrow1 _ _;have HA:Hid (BO rv qv B w (w1.setCell ⟨b,1,none⟩ (.slice (some ⟨g1,0,none⟩) (vn+1) iQ)) b (N+1) bq (new++[(.slice nK dL fC,n)]) (.slice (some ⟨g1,0,none⟩) (vn+1) iQ) (Value.ownBlock (.slice Jl xs.length uD)) nK dL fC n∧w1.heap[b]?=some (.cells #[.int .i64 (N+1:Nat),.slice va vn vc,rv,qv] 29 (0,0))) :=
       (uh HZ).add hsz _ hgrow1 (by rw [<-(uh HL).1];exact hown1)
      have c1':w1.cell? ⟨b,1,none⟩=some (.slice va vn vc):=by rw [cellsOf (uh HA).2];rfl
      have TI:w1.frozen? ⟨b,1,none⟩=false:=aH (uh HA).2 1;have hsz2:B<=(w1.setCell ⟨b,1,none⟩ (.slice (some ⟨g1,0,none⟩) (vn+1) iQ)).heap.size:=w_ hB (uh HA).1.below.size;have abK:B<=w1.heap.size:=by simpa using hsz2
      clear hown1 hgrow1 hal HZ;go_wp2;go_ret;refine ⟨rfl,new++[(.slice nK dL fC,n)],_,(uh HA).1.held,by have:=(uh HL).2.1;simp;omega,λe he=>((uh HA).1.RH e he).ok (uh HA).1.own,(uh HA).1.news,(uh HA).1.bW,(uh HA).1.below,uh HFS,(uh HA).1.other⟩
end Go.Proofs.YtgaafamcajcifaaGreat

namespace Go.Proofs.YtgaafamcajcifaaGreat
open Go.RowKit Go.Sort
theorem Tryz.UX:(Tryz.prog.info? 52).map (λi=>(i.zero,i.size,i.bytes))=some (some (.agg #[.slice none 0 0,.int .i64 0]),2,32):=by kernel_rfl
def BG (P:Nat->Prop) (w:World) (e:Value × Int):Prop:=∃ g k cap,e.1=.slice (some ⟨g,0,none⟩) k cap∧eG w g (List.replicate k (e.2,-e.2))∧k<=1048578∧0<=e.2∧e.2<=4000000000000∧P g
theorem BG.bW {P P':Nat->Prop} {w w':World} {e:Value × Int} (h:BG P w e) (hk:∀ k cur,w.heap[k]?=some (.cells cur 54 (0,0))->P k->w'.heap[k]?=w.heap[k]?) (hP:∀ k,k<w.heap.size->P k->P' k):BG P' w' e:=by
 obtain ⟨g,k,cap,e,h1,h2,h3,h4,h5⟩:=h;exact ⟨g,k,cap,e,(hk g _ h1 h5).trans h1,h2,h3,h4,hP g (z_ h1) h5⟩
theorem OO (xs:List (Int × Int)) (k:Nat) (hk:k<xs.length) (n:Int × Int):(List.replicate k n++xs.drop k).set k n=List.replicate (k+1) n++xs.drop (k+1):=by
 rw [List.set_append,g_ (by simp),aba,Nat.sub_self,List.drop_eq_getElem_cons hk,D_,List.replicate_succ',abd];rfl
theorem BQ {w:World} {b N:Nat} {v rv qv:Value} (h:w.heap[b]?=some (.cells #[.int .i64 N,v,rv,qv] 29 (0,0))) (u:Value) :
  (w.setCell ⟨b,2,none⟩ u).heap[b]?=some (.cells #[.int .i64 N,v,u,qv] 29 (0,0))∧(w.setCell ⟨b,3,none⟩ u).heap[b]?=some (.cells #[.int .i64 N,v,rv,u] 29 (0,0)) :=
 ⟨by rw [j_ w b 2 _ _ _ h];rfl,by rw [j_ w b 3 _ _ _ h];rfl⟩
def wZ (B:Nat) (w:World) (b N:Nat) (bq:List (Value × Int)) (v qv:Value) (dA:List (Value × Int)) (g k cap:Nat) (e:Ending) (w':World):Prop :=
 ∃ (v0:Value) (ra:Option Addr) (rc:Nat),e=.returned v0∧dX (.slice ra (dA.length+1) rc) qv B w' b (N+1) bq v∧w'.ownsRow B 52 2 (.slice ra (dA.length+1) rc) (dA.length+1) (bT (dA++[(.slice (some ⟨g,0,none⟩) k cap,1099511627783+(N+1:Int))]))∧eG w' g (List.replicate k (1099511627783+(N+1:Int),-(1099511627783+(N+1:Int)))) ∧
  (∀ e,54≠e->52≠e->29≠e->aA e w w')∧(∀ j cur,w.heap[j]?=some (.cells cur 54 (0,0))->j≠g->w'.heap[j]?=w.heap[j]?)∧Below B w w'
set_option maxHeartbeats 1000000 in
theorem Ji {rv qv:Value} {B:Nat} {w:World} {b N:Nat} {bq dA:List (Value × Int)} {v:Value} (g cap:Nat) (l:List (Int × Int)) (hH:dX rv qv B w b N bq v) (hr:w.ownsRow B 52 2 rv dA.length (bT dA)) (hg:eG w g l) (hgB:B<=g) (hB:B<=w.heap.size) (hl:l.length<=1048578) (hn:dA.length<=100000000) (hN:N<=100000000) :
  Calls Tryz.prog 13 #[.pointer (some ⟨b,0,none⟩),.slice (some ⟨g,0,none⟩) l.length cap] w (wZ B w b N bq v qv dA g l.length cap):=by
 obtain ⟨i0,hi,hz0,hz1,hz2⟩:=U_ Tryz.UX;obtain ⟨ra,rc,rfl⟩:=lN hr;obtain ⟨n,hnn⟩:∃ n:Int,n=1099511627783+(N+1:Int):=⟨_,rfl⟩;have hM:=af (BC b N _ _ _ w hH.blk (by omega));unfold wZ;rw [<-hnn] at hM ⊢;have hn1:0<=n:=by omega
 have hn2:n<=4000000000000:=by omega
 obtain ⟨m,hm⟩:∃ m,l.length=m:=⟨_,rfl⟩;have HM:=af hm;rw [hm] at hl ⊢;obtain ⟨rn,hrn⟩:∃ rn,dA.length=rn:=⟨_,rfl⟩;have HRN:=af hrn;rw [hrn] at hr hn hH ⊢;have hMR:=af (λwq=>wK n wq (by omega) (by omega));have H1:Hid (dX (.slice ra rn rc) qv B (w.setCell ⟨b,0,none⟩ (.int .i64 (N+1:Int))) b (N+1) bq v∧(w.setCell ⟨b,0,none⟩ (.int .i64 (N+1:Int))).ownsRow B 52 2 (.slice ra rn rc) rn (bT dA)∧eG (w.setCell ⟨b,0,none⟩ (.int .i64 (N+1:Int))) g (List.replicate 0 (n,-n)++l.drop 0)∧(∀ e,54≠e->29≠e->aA e w (w.setCell ⟨b,0,none⟩ (.int .i64 (N+1:Int))))∧(∀ j cur,w.heap[j]?=some (.cells cur 54 (0,0))->j≠g->(w.setCell ⟨b,0,none⟩ (.int .i64 (N+1:Int))).heap[j]?=w.heap[j]?)∧Below B w (w.setCell ⟨b,0,none⟩ (.int .i64 (N+1:Int)))) :=
  have k:aA 54 w (w.setCell ⟨b,0,none⟩ (.int .i64 (N+1:Int))):=.setCell hH.blk (by decide) _ _
  ⟨hH.mark,aW hr (.setCell hH.blk (by decide) _ _),(k g _ hg).trans hg,λe _ n2=>.setCell hH.blk n2 _ _,λj cur hj _=>k j cur hj,(n_ B w).setCell (p:=⟨b,0,none⟩) hH.base _⟩
 clear hr hg hH hnn hm hrn;go_enter Tryz.func13,Tryz.ntmps13;go_wp2_with fail;refine (uh hM).mono ?_;rintro e w1 ⟨rfl,hw1⟩;rw [hw1];clear hw1 w1 hM;go_wp2_with fail;go_loopw [5] (λi wr=>∃ k:Nat,k<=m∧i=.int .i64 k∧Hid (dX (.slice ra rn rc) qv B wr b (N+1) bq v∧wr.ownsRow B 52 2 (.slice ra rn rc) rn (bT dA)∧eG wr g (List.replicate k (n,-n)++l.drop k)∧(∀ e,54≠e->29≠e->aA e w wr)∧(∀ j cur,w.heap[j]?=some (.cells cur 54 (0,0))->j≠g->wr.heap[j]?=w.heap[j]?)∧Below B w wr)) (λi _=>m - (intOf i).toNat)
 case atStart=>exact ⟨0,by omega,rfl,H1⟩
 case round =>
  obtain ⟨k,hk,rfl,hh⟩:=hrel;clear H1;by_cases hlt:k<m
  ·go_wp2_with fail;refine (uh hMR _).mono ?_;rintro e w3 ⟨rfl,hg3⟩;obtain ⟨q1,q2,q3,q4,q5,q6⟩:=uh hh;have hb3:=q3.grow hg3;have hll:(List.replicate k (n,-n)++l.drop k).length=m:=by rw [C_,aba,List.length_drop,uh HM];omega
   obtain ⟨c0,c1⟩:=hb3.cell (i:=k) (by rw [hll];exact hlt);have f0:w3.frozen? ⟨g,k*2,none⟩=false:=aH hb3 _;have f1:w3.frozen? ⟨g,k*2+1,none⟩=false:=aH hb3 _;have HN2:Hid (dX (.slice ra rn rc) qv B ((w3.setCell ⟨g,k*2,none⟩ (.int .i64 n)).setCell ⟨g,k*2+1,none⟩ (.int .i64 (-n))) b (N+1) bq v∧((w3.setCell ⟨g,k*2,none⟩ (.int .i64 n)).setCell ⟨g,k*2+1,none⟩ (.int .i64 (-n))).ownsRow B 52 2 (.slice ra rn rc) rn (bT dA)∧eG ((w3.setCell ⟨g,k*2,none⟩ (.int .i64 n)).setCell ⟨g,k*2+1,none⟩ (.int .i64 (-n))) g (List.replicate (k+1) (n,-n)++l.drop (k+1))∧(∀ e,54≠e->29≠e->aA e w ((w3.setCell ⟨g,k*2,none⟩ (.int .i64 n)).setCell ⟨g,k*2+1,none⟩ (.int .i64 (-n))))∧(∀ j cur,w.heap[j]?=some (.cells cur 54 (0,0))->j≠g->((w3.setCell ⟨g,k*2,none⟩ (.int .i64 n)).setCell ⟨g,k*2+1,none⟩ (.int .i64 (-n))).heap[j]?=w.heap[j]?)∧Below B w ((w3.setCell ⟨g,k*2,none⟩ (.int .i64 n)).setCell ⟨g,k*2+1,none⟩ (.int .i64 (-n)))):=by
    have h1:=j_ w3 g (k*2) _ _ (.int .i64 n) hb3;have kt:∀ e,54≠e->aA e w3 ((w3.setCell ⟨g,k*2,none⟩ (.int .i64 n)).setCell ⟨g,k*2+1,none⟩ (.int .i64 (-n))):=λe he=>(aA.setCell hb3 he _ _).trans (aA.setCell h1 he _ _);have kg:∀ e,aA e wr w3:=λe=>.aX hg3;refine ⟨(q1.bW (kg _) (kg _)).bW (kt _ (by decide)) (kt _ (by decide)),aW (aW q2 (kg _)) (kt _ (by decide)),?_,λe n1 n2=>((q4 e n1 n2).trans (kg e)).trans (kt e n1),λj cur hj hne=>?_,((q6.trans (aam hg3 (w_ hB q6.size))).setCell (p:=⟨g,k*2,none⟩) hgB _).setCell (p:=⟨g,k*2+1,none⟩) hgB _⟩
    ·have:=hb3.set k (n,-n);rw [OO l k (by rw [uh HM];exact hlt)] at this;exact this
    ·have hq:=q5 j cur hj hne;rw [l_ _ _ _ _ hne,l_ _ _ _ _ hne,kg 54 j cur (hq.trans hj),hq]
   clear hh hg3 hb3 q1 q2 q3 q4 q5 q6 hll;go_wp2;go_roundw
   case rel=>exact ⟨k+1,by omega,by go_num,HN2⟩
   case measure=>simp [intOf];omega
  ·have TK:k=m:=by omega
   obtain ⟨q1,q2,q3,q4,q5,q6⟩:=uh hh;rw [TK,<-uh HM,List.drop_length,abk,uh HM] at q3;have HZ:=af (x_ q1 (x_ q2 (x_ q3 (x_ q4 (x_ q5 q6)))));have hsz:B<=wr.heap.size:=w_ hB q6.size;have c1:wr.cell? ⟨b,2,none⟩=some (.slice ra rn rc):=by rw [cellsOf q1.blk];rfl
   have f1:wr.frozen? ⟨b,2,none⟩=false:=aH q1.blk 2;have hal:=aW q2 (.alloc _ wr (.cells #[.slice (some ⟨g,0,none⟩) m cap,.int .i64 n] 52));obtain ⟨cl,hcl⟩:∃ cl,bT dA=cl:=⟨_,rfl⟩;have vP:Hid (bT (dA++[(.slice (some ⟨g,0,none⟩) m cap,n)])=cl++[.slice (some ⟨g,0,none⟩) m cap,bF n]):=by unfold Hid;rw [<-hcl];exact pU _ _ _
   rw [hcl] at hal;clear hh q1 q2 q3 q4 q5 q6 TK hcl;go_wp2_with (at_builtin;refine wpList_append_lies _ rfl _ _ 26 rfl B 52 i0 (.agg #[.slice none 0 0,.int .i64 0]) 2 32 Tryz.underlying26 hi hz0 hz1 hz2 rfl (by decide) _ _ _ rfl hal ⟨_,0,none⟩ 1 1 [.slice (some ⟨g,0,none⟩) m cap,bF n] rfl rfl ?c1 (xY _ _ rfl rfl) (by decide) ?c3 ?c4 ?c5 _ rfl ?_)
   case c1=>first | exact oN #[.slice (some ⟨g,0,none⟩) m cap,bF n] _ | exact λj u h=>h
   case c3=>unfold maxLen;omega
   case c4=>omega
   case c5=>first | omega | (simp;omega)
   ·intro g1 iQ w2 hown1 hgrow1 _ _;obtain ⟨q1,q2,q3,q4,q5,q6⟩:=uh HZ;have kt:∀ e,52≠e->aA e wr w2:=λe he=>(aA.alloc _ _ _).trans (.grown hal hgrow1 he);have hb2:=(kt 29 (by decide) b _ q1.blk).trans q1.blk;have c1':w2.cell? ⟨b,2,none⟩=some (.slice ra rn rc):=by rw [cellsOf hb2];rfl
    have TI:w2.frozen? ⟨b,2,none⟩=false:=aH hb2 2;have HF:Hid (dX (.slice (some ⟨g1,0,none⟩) (rn+1) iQ) qv B (w2.setCell ⟨b,2,none⟩ (.slice (some ⟨g1,0,none⟩) (rn+1) iQ)) b (N+1) bq v∧(w2.setCell ⟨b,2,none⟩ (.slice (some ⟨g1,0,none⟩) (rn+1) iQ)).ownsRow B 52 2 (.slice (some ⟨g1,0,none⟩) (rn+1) iQ) (rn+1) (bT (dA++[(.slice (some ⟨g,0,none⟩) m cap,n)]))∧eG (w2.setCell ⟨b,2,none⟩ (.slice (some ⟨g1,0,none⟩) (rn+1) iQ)) g (List.replicate m (n,-n)) ∧
      (∀ e,54≠e->52≠e->29≠e->aA e w (w2.setCell ⟨b,2,none⟩ (.slice (some ⟨g1,0,none⟩) (rn+1) iQ)))∧(∀ j cur,w.heap[j]?=some (.cells cur 54 (0,0))->j≠g->(w2.setCell ⟨b,2,none⟩ (.slice (some ⟨g1,0,none⟩) (rn+1) iQ)).heap[j]?=w.heap[j]?)∧Below B w (w2.setCell ⟨b,2,none⟩ (.slice (some ⟨g1,0,none⟩) (rn+1) iQ))):=by
     have ks:∀ e,29≠e->aA e w2 (w2.setCell ⟨b,2,none⟩ (.slice (some ⟨g1,0,none⟩) (rn+1) iQ)):=λe he=>.setCell hb2 he _ _;refine ⟨⟨q1.base,(BQ hb2 _).1,aW (aW q1.own (kt _ (by decide))) (ks _ (by decide))⟩,?_,?_,λe n1 n2 n3=>((q4 e n1 n3).trans (kt e n2)).trans (ks e n3),λj cur hj hne=>?_,?_⟩
     ·rw [uh vP];exact aW hown1 (ks _ (by decide))
     ·exact (((kt 54 (by decide)).trans (ks _ (by decide))) g _ q3).trans q3
     ·have hq:=q5 j cur hj hne;rw [((kt 54 (by decide)).trans (ks _ (by decide))) j cur (hq.trans hj),hq]
     ·exact (((q6.alloc hsz _).grown hgrow1 (by simp;omega) (bR hal))).setCell (p:=⟨b,2,none⟩) q1.base _
    clear hown1 hgrow1 hal HZ q1 q2 q3 q4 q5 q6 kt hb2;go_wp2;go_end0;exact ⟨_,_,_,rfl,uh HF⟩
set_option maxHeartbeats 1000000 in
theorem Me (vs:List (Int × Int)) (va:Value) (w:World) (ha:jd w va vs) (hm:vs.length<=4) :
  Calls Tryz.prog 22 #[va] w λe w'=>∃ v',e=.returned v'∧aI w.heap.size w' v' (vs.map (·.1))∧ae w w':=by
 obtain ⟨i0,hi0,hz0,hz1,hz2⟩:=U_ Tryz.jL;obtain ⟨aa,ac,rfl⟩:=ha.aB;have HA:=af ha;obtain ⟨n,hn⟩:∃ n,vs.length=n:=⟨_,rfl⟩;have HN:=af hn;rw [hn] at HA hm ⊢;clear ha hn;go_enter Tryz.func22,Tryz.ntmps22
 go_wp2_with fail;go_loopw [3,4] (λxv iv wr=>∃ (i:Nat) (xa:Option Addr) (xc:Nat),xv=.slice xa i xc∧iv=.int .i64 i∧i<=n∧Hid (aI w.heap.size wr (.slice xa i xc) ((vs.take i).map (·.1))∧ae w wr)) (λ_ iv _=>n - (intOf iv).toNat)
 case atStart=>exact ⟨0,none,0,rfl,rfl,by omega,aa8 _ _ _ _,n_ _ _⟩
 case round =>
  obtain ⟨i,xa,xc,rfl,rfl,hin,HR⟩:=hrel;by_cases hlt:i<n
  ·obtain ⟨gv,ov,ev,c0,c1⟩:=((uh HA).below (uh HR).2).get (i:=i) (by rw [uh HN];exact hlt);cases ev;obtain ⟨⟨lo,hi⟩,hq⟩:∃ q,vs.getD i (0,0)=q:=⟨_,rfl⟩;have htk:=(lZ (by rw [uh HN];exact hlt) hq).1;rw [hq] at c0;simp only at c0;have hL:((vs.take i).map (·.1)).length=i:=by rw [L_,T_,uh HN];omega
   obtain ⟨L,Fe⟩:∃ L,((vs.take i).map (·.1)).map bF=L:=⟨_,rfl⟩;have hown:(wr.alloc (.cells #[.int .i64 lo] 3)).ownsRow w.heap.size 3 1 (.slice xa i xc) i L:=by
    have:=aW (uh HR).1 (.alloc _ wr (.cells #[.int .i64 lo] 3));rw [hL,Fe] at this;exact this
   have Be:Hid (((vs.take (i+1)).map (·.1)).map bF=L++[bF lo]∧((vs.take (i+1)).map (·.1)).length=i+1):=by
    refine ⟨by rw [<-Fe,htk];simp,?_⟩;rw [L_,T_,uh HN];omega
   have HG:=af (uh HR).2;have hsz:w.heap.size<=wr.heap.size:=(uh HG).size;clear hq c1 htk hL HR Fe;go_wp2_with (at_builtin;refine wpList_append_lies _ rfl _ _ 36 rfl w.heap.size 3 i0 (.int .i64 0) 1 8 Tryz.underlying36 hi0 hz0 hz1 hz2 rfl (by decide) _ _ _ rfl hown ⟨_,0,none⟩ 1 1 [bF lo] rfl rfl ?d1 (λu hu=>by simp at hu;subst hu;rfl) (by decide) ?d3 ?d4 ?d5 _ rfl ?_)
   case d1=>first | exact λj u h=>h | exact oN #[bF lo] _
   case d3=>unfold maxLen;omega
   case d4=>omega
   case d5=>first | omega | (simp;omega)
   ·intro g cap w2 hown2 hgrow _ _;have HX:Hid (aI w.heap.size w2 (.slice (some ⟨g,0,none⟩) (i+1) cap) ((vs.take (i+1)).map (·.1))∧ae w w2):=by
     refine ⟨?_,?_⟩
     ·unfold aI;rw [(uh Be).1,(uh Be).2];exact hown2
     ·exact Below.grown ((uh HG).trans (ae.alloc _ _)) hgrow (by simp;omega) (bR hown)
    clear hown2 hgrow hown;go_wp2;go_roundw
    case rel=>exact ⟨i+1,some ⟨g,0,none⟩,cap,rfl,by simp,by omega,HX⟩
    case measure=>simp [intOf];omega
  ·have L6:i=n:=by omega
   have HX:Hid (aI w.heap.size wr (.slice xa i xc) (vs.map (·.1))∧ae w wr):=by
    have h1:=uh HR;rw [L6] at h1 ⊢;rw [<-uh HN,aaG] at h1;rw [<-uh HN];exact h1
   clear L6;go_wp2;go_ret;exact ⟨_,rfl,uh HX⟩
theorem Ed {B:Nat} {w:World} {g m cap i:Nat} {X:List Int} (h:aI B w (.slice (some ⟨g,0,none⟩) m cap) X) (hi:i<X.length):w.cell? ⟨g,i,none⟩=some (.int .i64 (X.getD i 0))∧w.frozen? ⟨g,i,none⟩=false:=by
 refine ⟨?_,?_⟩
 ·obtain ⟨b,off,e,hc⟩:=nT (cO h) i hi;rcases h.2 with ⟨e2,_⟩|⟨g',cap',cur,e2,_⟩
  ·cases e2
  ·cases e2;cases e;rw [M_] at hc;rw [hc,a_,f_ hi];rfl
 ·rcases h.2 with ⟨e2,_⟩ | ⟨g',cap',cur,e2,_,hg,_⟩
  ·cases e2
  ·cases e2;exact aH hg i
theorem ints_set {B:Nat} {w:World} {g m cap:Nat} {X:List Int} (h:aI B w (.slice (some ⟨g,0,none⟩) m cap) X) {i:Nat} (hi:i<X.length) (x:Int):aI B (w.setCell ⟨g,i,none⟩ (.int .i64 x)) (.slice (some ⟨g,0,none⟩) m cap) (X.set i x):=by
 rcases h.2 with ⟨e2,_⟩|⟨g',cap',cur,e2,h1,hg,h2,h3,h4,h5⟩
 ·cases e2
 ·cases e2;refine ⟨by simp,.inr ⟨g,cap,cur.setIfInBounds i (.int .i64 x),by rw [abj],h1,j_ w g i _ _ _ hg,by rw [abj];exact h2,h3,by rw [Array.size_setIfInBounds];exact h4,?_⟩⟩;rw [abj,Array.toList_setIfInBounds,List.take_set,h5,List.map_set];rfl
theorem uE (X:List Int) (i j:Nat) (x:Int) (h:i<X.length):(X.set i x).getD j 0=if i=j then x else X.getD j 0:=by
 rw [a_,List.getElem?_set,a_]
 split
 ·subst_vars;simp [h]
 ·rfl
def Mf (vs:List (Int × Int)) (n:Nat) (X:List Int) (vx:Value) (w0:World) (e:Ending) (w':World):Prop :=
 ∃ (b:Bool) (Y:List Int),e=.returned (.bool b)∧aI w0.heap.size w' vx Y∧Y.length=X.length∧ae w0 w'∧(b=true->wM (λj=>(vs.getD j (0,0)).1) (λj=>(vs.getD j (0,0)).2) n (λj=>X.getD j 0) (λj=>Y.getD j 0))∧(b=false->yo (λj=>(vs.getD j (0,0)).2) n (λj=>X.getD j 0))
def KR (vs:List (Int × Int)) (n k:Nat) (X Y:List Int):Prop:=Y.length=X.length∧(∀ j,j<k->Y.getD j 0=X.getD j 0)∧∀ j,k<=j->j<n->¬ X.getD j 0<(vs.getD j (0,0)).2∧Y.getD j 0=(vs.getD j (0,0)).1
set_option maxHeartbeats 1000000 in
theorem Mg (vs:List (Int × Int)) (X:List Int) (n:Nat) (va vx:Value) (w0 w:World) (ha:jd w0 va vs) (hg:ae w0 w) (hx:aI w0.heap.size w vx X) (hn:n<=vs.length) (hX:X.length=vs.length) (h4:vs.length<=4)
  (N8:∀ j,j<n->-1000000000<=X.getD j 0∧X.getD j 0<=1000000000) :
  Calls Tryz.prog 24 #[va,vx,.int .i64 n] w (Mf vs n X vx w0):=by
 obtain ⟨aa,ac,rfl⟩:=ha.aB;have HA:=af ha;have HX:=af hx;have Xb:=af hX;have HXB:=af N8;have HG:=af hg;obtain ⟨xa,xn,xc,rfl⟩:∃ xa xn xc,vx=.slice xa xn xc:=by
  rcases hx.2 with ⟨rfl,_⟩|⟨g,cap,cur,rfl,_⟩
  ·exact ⟨_,_,_,rfl⟩
  ·exact ⟨_,_,_,rfl⟩
 have hxn:xn=X.length:=by
  rcases hx.2 with ⟨e,h0⟩|⟨g,cap,cur,e,_⟩
  ·cases e;exact h0.symm
  ·cases e;rfl
 obtain ⟨m,hm⟩:∃ m,vs.length=m:=⟨_,rfl⟩;have HM:=af hm;rw [hX,hm] at hxn;rw [hm] at HA hn h4 ⊢;subst hxn;clear ha hx hX N8 hm hg;go_enter Tryz.func24,Tryz.ntmps24;go_wp2_with fail;go_loopg [7] n (λk iv wr=>iv=.int .i64 ((k:Int) - 1)∧k<=n∧Hid (∃ Y,aI w0.heap.size wr (.slice xa xn xc) Y∧ae w0 wr∧KR vs n k X Y))
 case atStart=>exact ⟨rfl,d_ _,X,uh HX,uh HG,rfl,λj _=>rfl,λj h1 h2=>by omega⟩
 case round =>
  obtain ⟨rfl,hkn,HR⟩:=hrel;cases gk with
  | zero =>
   have HF:Hid (∃ Y,aI w0.heap.size wr (.slice xa xn xc) Y∧Y.length=X.length∧ae w0 wr∧yo (λj=>(vs.getD j (0,0)).2) n (λj=>X.getD j 0)):=by
    obtain ⟨Y,h1,h2,h3,h4,h5⟩:=uh HR;exact ⟨Y,h1,h3,h2,λj hj=>(h5 j (aaZ _) hj).1⟩
   clear HR;go_wp2;go_ret;obtain ⟨Y,h1,h3,h2,h5⟩:=uh HF;exact ⟨false,Y,rfl,h1,h3,h2,(λh=>by cases h),λ_=>h5⟩
  | succ i =>
   obtain ⟨Y,y1,y2,y3,y4,y5⟩:=uh HR;have hYl:Y.length=xn:=by rw [y3,uh Xb,uh HM]
   have hil:i<Y.length:=by omega
   obtain ⟨g,rfl⟩:∃ g,xa=some ⟨g,0,none⟩:=by
    rcases y1.2 with ⟨e,h0⟩|⟨g,cap,cur,e,_⟩
    ·omega
    ·cases e;exact ⟨g,rfl⟩
   obtain ⟨gv,ov,ev,c0,c1⟩:=((uh HA).below y2).get (i:=i) (by rw [uh HM];omega);cases ev;have hgB:w0.heap.size<=g:=bR y1 g rfl;obtain ⟨x0,x1⟩:=Ed y1 hil;obtain ⟨lo,hlo⟩:∃ lo,(vs.getD i (0,0)).1=lo:=⟨_,rfl⟩;obtain ⟨hi,hhi⟩:∃ hi,(vs.getD i (0,0)).2=hi:=⟨_,rfl⟩;obtain ⟨x,Ag⟩:∃ x,Y.getD i 0=x:=⟨_,rfl⟩;have Xc:X.getD i 0=x:=by rw [<-Ag];exact (y4 i (by omega)).symm
   have hxb:=uh HXB i (by omega);rw [Xc] at hxb;obtain ⟨xb1,xb2⟩:=hxb;rw [hlo] at c0;rw [hhi] at c1;rw [Ag] at x0;have z0:∀ q,(wr.drewN q).cell? ⟨g,i,none⟩=some (.int .i64 x):=λ_=>x0;have z1:∀ q,(wr.drewN q).frozen? ⟨g,i,none⟩=false:=λ_=>x1;by_cases hlt:x<hi
   ·have HF:∀ q,Hid (∃ Z,aI w0.heap.size ((wr.drewN q).setCell ⟨g,i,none⟩ (.int .i64 (x+1))) (.slice (some ⟨g,0,none⟩) xn xc) Z∧Z.length=X.length∧ae w0 ((wr.drewN q).setCell ⟨g,i,none⟩ (.int .i64 (x+1)))∧wM (λj=>(vs.getD j (0,0)).1) (λj=>(vs.getD j (0,0)).2) n (λj=>X.getD j 0) (λj=>Z.getD j 0)):=λq=>by
     refine ⟨Y.set i (x+1),ints_set (w:=wr.drewN q) y1 hil _,by rw [abj];exact y3,B_ (p:=⟨g,i,none⟩) (abb y2 q) hgB _,i,by omega,?_,?_,?_,?_⟩
     ·show X.getD i 0<(vs.getD i (0,0)).2;rw [Xc,hhi];exact hlt
     ·show (Y.set i (x+1)).getD i 0=X.getD i 0+1;rw [uE _ _ _ _ hil,h_ rfl,Xc]
     ·intro j hj;show (Y.set i (x+1)).getD j 0=X.getD j 0;rw [uE _ _ _ _ hil,g_ (by omega)];exact y4 j (by omega)
     ·intro j h1 h2;show ¬ X.getD j 0<(vs.getD j (0,0)).2∧(Y.set i (x+1)).getD j 0=(vs.getD j (0,0)).1;rw [uE _ _ _ _ hil,g_ (by omega)];exact y5 j (by omega) h2
    clear HR y1 y2 y3 y4 y5 hlo hhi Ag Xc hYl hil;go_wp2;go_quiet (fail);go_wp2;go_ret;obtain ⟨Z,h1,h2,h3,h4⟩:=uh (HF _);exact ⟨true,Z,rfl,h1,h2,h3,λ_=>h4,λh=>by cases h⟩
   ·have HF:∀ q,Hid (∃ Z,aI w0.heap.size ((wr.drewN q).setCell ⟨g,i,none⟩ (.int .i64 lo)) (.slice (some ⟨g,0,none⟩) xn xc) Z∧ae w0 ((wr.drewN q).setCell ⟨g,i,none⟩ (.int .i64 lo))∧KR vs n i X Z):=λq=>by
     refine ⟨Y.set i lo,ints_set (w:=wr.drewN q) y1 hil _,B_ (p:=⟨g,i,none⟩) (abb y2 q) hgB _,by rw [abj];exact y3,λj hj=>?_,λj h1 h2=>?_⟩
     ·rw [uE _ _ _ _ hil,g_ (by omega)];exact y4 j (by omega)
     ·rw [uE _ _ _ _ hil];by_cases e:i=j
      ·subst e;rw [h_ rfl,Xc,hhi,hlo];exact ⟨hlt,rfl⟩
      ·rw [g_ e];exact y5 j (by omega) h2
    clear HR y1 y2 y3 y4 y5 hlo hhi Ag Xc hYl hil;go_wp2;go_quiet (fail);go_wp2;go_roundg i
    case measure=>omega
    case rel=>exact ⟨by simp,by omega,HF _⟩
end Go.Proofs.YtgaafamcajcifaaGreat
