/- Joined: XSol5 XList XSol6 XSol7. -/
import Derived.Test.YtgaafamcajcifaaGreatK23
set_option linter.unusedVariables false
set_option linter.unusedSimpArgs false
set_option maxRecDepth 100000
namespace Go.Proofs.YtgaafamcajcifaaGreat
open Go.RowKit Go.Sort
theorem Tryz.oQ:(Tryz.prog.info? 69).map (λi=>(i.zero,i.size,i.bytes))=some (some (.slice none 0 0),1,24):=by kernel_rfl
structure jM (P:Nat->Prop) (w:World) (xs:List Value) (ls:List (List Int)):Prop where
 len:xs.length=ls.length
 at_:∀ i,(hi:i<ls.length)->∃ u,xs[i]?=some u∧aD P w u ls[i]
theorem jM.grow {P:Nat->Prop} {w w':World} {xs:List Value} {ls:List (List Int)} (h:jM P w xs ls) (hg:Holds P w w'):jM P w' xs ls :=
 ⟨h.len,λi hi=>by obtain ⟨u,h1,h3⟩:=h.at_ i hi;exact ⟨u,h1,h3.holds hg⟩⟩
theorem jM.snoc {P:Nat->Prop} {w:World} {xs:List Value} {ls:List (List Int)} (h:jM P w xs ls) {u:Value} {row:List Int} (hu:aD P w u row):jM P w (xs++[u]) (ls++[row]):=by
 refine ⟨by simp [h.len],λi hi=>?_⟩;by_cases hl:i<ls.length
 ·obtain ⟨u',h1,h3⟩:=h.at_ i hl;exact ⟨u',by rw [aah (by rw [h.len];omega)];exact h1,by rw [List.getElem_append_left hl];exact h3⟩
 ·have e:i=ls.length:=by simp at hi;omega
  subst e;exact ⟨u,by rw [R_ (by rw [h.len];omega),h.len];simp,by simpa using hu⟩
theorem jM.nil (P:Nat->Prop) (w:World):jM P w [] []:=⟨rfl,λi hi=>by simp at hi⟩
theorem jM.rows {P:Nat->Prop} {w:World} {B:Nat} {v:Value} {xs:List Value} {ls:List (List Int)} (h:jM P w xs ls) (ho:w.ownsRow B 69 1 v ls.length xs) (hP:∀ g,B<=g->P g):aM P w v ls:=by
 rcases ho.2 with ⟨rfl,h0⟩|⟨g,cap,cur,rfl,hb,jS,hle,hmx,hsz,htk⟩
 ·exact ⟨none,0,by rw [h0],by omega,λi hi=>by omega⟩
 ·refine ⟨some ⟨g,0,none⟩,cap,rfl,hle,λi hi=>?_⟩;obtain ⟨u,h1,h2⟩:=h.at_ i hi;refine ⟨g,0,u,rfl,?_,h2,hP g hb,cur,jS⟩;rw [cellsOf jS,M_];rw [<-htk,aac (by omega)] at h1
  simpa using h1
theorem NL {P:Nat->Prop} {w:World} {v:Value} {ls:List (List Int)} (h:aM P w v ls):∃ (ad:Option Addr) (cap:Nat) (cs:List Value),v=.slice ad ls.length cap∧jM P w cs ls∧(∀ u∈cs,u.oneCell'=true)∧(0<ls.length->∃ g off,ad=some ⟨g,off,none⟩∧∀ j u,cs[j]?=some u->w.cell? ((⟨g,off,none⟩:Addr).add j)=some u):=by
 by_cases h0:0<ls.length
 ·obtain ⟨g,off,cap,ZN,rfl,hb,hg⟩:=h.get h0;have hadd:∀ j,(⟨g,off,none⟩:Addr).add j=⟨g,off+j,none⟩:=λj=>by unfold Addr.add;split <;> simp_all
  refine ⟨some ⟨g,off,none⟩,cap,(List.range ls.length).map (λj=>(w.cell? ⟨g,off+j,none⟩).getD undef),rfl,⟨by simp,λi hi=>?_⟩,λu hu=>?_,λ_=>⟨g,off,rfl,λj u hu=>?_⟩⟩
  ·obtain ⟨u,h1,h2⟩:=hg i hi;exact ⟨u,by rw [aal,abg hi];simp [h1],h2⟩
  ·obtain ⟨j,hj,e⟩:=m_.1 hu;obtain ⟨u',h1,h2⟩:=hg j (V_.1 hj);rw [h1] at e;simp at e;rw [<-e];obtain ⟨x,y,z,rfl⟩:=h2.aB
   rfl
  ·rw [aal] at hu;by_cases hj:j<ls.length
   ·rw [abg hj] at hu;obtain ⟨u',h1,_⟩:=hg j hj;rw [hadd,h1];simp [h1] at hu;rw [hu]
   ·rw [O_ (by simp;omega)] at hu;cases hu
 ·obtain ⟨ad,cap,rfl,_⟩:=h;exact ⟨ad,cap,[],rfl,⟨by simp;omega,λi hi=>by omega⟩,by simp,λh=>absurd h h0⟩
set_option maxHeartbeats 4000000 in
theorem yU (P:Nat->Prop) (ls:List (List Int)) (row:List Int) (va vr:Value) (w:World) (hP:∀ b,w.heap.size<=b->P b) (ha:aM P w va ls) (hr:aD P w vr row) (hn:ls.length<=1000) :
  Calls Tryz.prog 39 #[va,vr] w λe w'=>∃ v',e=.returned v'∧aM P w' v' (ls++[row])∧Below w.heap.size w w':=by
 obtain ⟨i0,hi0,hz0,hz1,hz2⟩:=U_ Tryz.oQ;have hsz1:(Tryz.prog.info? 69).map (·.size)=some 1:=by rw [hi0];simp [hz1]
 obtain ⟨ad,ac,cs,rfl,hX,hone,hsrc⟩:=NL ha;obtain ⟨ra,rn,rc,rfl⟩:=hr.aB;obtain ⟨N,hN⟩:∃ N,ls.length=N:=⟨_,rfl⟩;have HX:=af hX;have HRW:=af hr;have vP:Hid (cs.length=N):=by rw [<-hN];exact hX.len
 have HN:=af hN;rw [hN] at hn hsrc;rw [hN];have hmk:=run_make (P:=Tryz.prog) w 72 69 i0 (.slice none 0 0) Tryz.underlying72 hi0 hz0 .i64 .i64 N ((N:Int)+1) (by omega) (by omega) (by rw [hz2];omega) (by omega);have hcells:(Value.slice none 0 0).cells=#[.slice none 0 0]:=rfl;rw [hz1,hcells,show ((N:Int)).toNat=N by omega,show ((N:Int)+1).toNat=N+1 by omega,Nat.mul_one] at hmk;have HMK:=af hmk;obtain ⟨W1,hW1⟩:∃ W1,w.alloc (.cells (madeCells #[.slice none 0 0] (N+1)) 69)=W1:=⟨_,rfl⟩;rw [hW1] at HMK;have hG1:ae w W1:=by rw [<-hW1];exact ae.alloc _ _
 have hblk:W1.heap[w.heap.size]?=some (.cells (madeCells #[.slice none 0 0] (N+1)) 69 (0,0)):=by rw [<-hW1];exact aG _ _
 have hcs:cs.length=N:=uh vP;have hcopy:∃ W2:World,(Builtin.copy_ #[72,72] 3 #[.slice (some ⟨w.heap.size,0,none⟩) N (N+1),.slice ad N ac]).run Tryz.prog W1=.ok (goInt N) W2∧ae w W2∧W2.ownsRow w.heap.size 69 1 (.slice (some ⟨w.heap.size,0,none⟩) N (N+1)) N cs:=by
  by_cases h0:0<N
  ·obtain ⟨g,off,rfl,hs⟩:=hsrc h0;have hrun:=kX (P:=Tryz.prog) W1 72 72 3 69 1 w.heap.size 0 N (N+1) ⟨g,off,none⟩ N ac _ 69 cs Tryz.underlying72 hsz1 hblk (by rw [hcs];simp) (λj u hu=>(Below.cell hG1 (aav (hs j u hu))).trans (hs j u hu)) (by rw [hcs,size_madeCells];omega) hone;rw [show Nat.min N N=N from Nat.min_self N] at hrun;refine ⟨_,hrun,pG hG1 (d_ _) _,⟨by rw [hcs];simp,.inr ⟨w.heap.size,N+1,_,rfl,d_ _,setRow_heap W1 _ _ _ _ _ hblk,by omega,by unfold maxLen;omega,?_,?_⟩⟩⟩
   ·simp [hcs,size_madeCells]
   ·simp [hcs]
  ·have hN0:N=0:=by omega
   subst hN0;have hc0:cs=[]:=aaz hcs;have hrun:=run_copy_none (P:=Tryz.prog) W1 72 72 3 69 (some ⟨w.heap.size,0,none⟩) ad 0 1 0 ac Tryz.underlying72 hsz1 (by simp);exact ⟨W1,by rw [M_];rw [hrun];rfl,hG1,⟨by rw [hc0];rfl,.inr ⟨w.heap.size,1,_,rfl,d_ _,hblk,by omega,by unfold maxLen;omega,by rw [size_madeCells],by rw [hc0];simp⟩⟩⟩
 obtain ⟨W2,hrun,hG2,hown⟩:=hcopy;have Aa:=af hrun;have HG2:=af hG2;have hal:=hown.alloc (.cells #[.slice ra rn rc] 69);clear ha hr hX hone hsrc hN hmk hcells hW1 hG1 hblk hcs hrun hG2 hown;go_enter Tryz.func39,Tryz.ntmps39;go_wp2_with fail;rw [uh HMK];simp only [Result.andThen_ok,Oper.upon];go_wp2_with fail;rw [uh Aa];simp only [Result.andThen_ok,Oper.upon];go_wp2_with (at_builtin;refine wpList_append_lies _ rfl _ _ 72 rfl w.heap.size 69 i0 (.slice none 0 0) 1 24 Tryz.underlying72 hi0 hz0 hz1 hz2 rfl (by decide) _ N cs rfl hal ⟨_,0,none⟩ 1 1 [.slice ra rn rc] rfl rfl ?d1 (by simp [Value.oneCell']) (by decide) ?d2 ?d3 ?d4 _ rfl ?_)
 case d1=>exact λj u hu=>World.news_of_block (aax _ _) j u hu
 case d2=>unfold maxLen;omega
 case d3=>omega
 case d4=>exact w_ (uh HG2).size (by simp)
 ·intro g cap w2 hown1 hgrow hat hlt2;have hG3:ae w w2:=Below.grown (ae.trans (uh HG2) (ae.alloc W2 _)) hgrow (w_ (uh HG2).size (by simp)) (bR hal);have HF:Hid (aM P w2 (.slice (some ⟨g,0,none⟩) (N+1) cap) (ls++[row])):=by
   have h1:=((uh HX).grow (.aX hG3)).snoc ((uh HRW).below hG3);exact h1.rows (by rw [C_,uh HN];exact hown1) hP
  have jb:=af hG3;clear hown1 hgrow hat hlt2 hal hG3;go_wp2;go_ret;exact ⟨_,rfl,uh HF,uh jb⟩
theorem aD.Ug {P:Nat->Prop} {w:World} {v:Value} {l:List Int} (h:aD P w v l) {k:Nat} {cs:Array Value} (hk:w.heap[k]?=some (.cells cs 69 (0,0))) (o:Nat) (u:Value):aD P (w.setCell ⟨k,o,none⟩ u) v l:=by
 obtain ⟨ad,cap,rfl,hc,h⟩:=h;refine ⟨ad,cap,rfl,hc,λi hi=>?_⟩;obtain ⟨g,off,x,a,m,c,e,c1,c2,hw,hp,cs',hcs⟩:=h i hi;have hs:=aA.setCell (e:=78) hk (by decide) o u g cs' hcs;exact ⟨g,off,x,a,m,c,e,by rw [cellsOf (hs.trans hcs),<-cellsOf hcs];exact c1,by rw [cellsOf (hs.trans hcs),<-cellsOf hcs];exact c2,hw.bW (aA.setCell hk (by decide) o u),hp,cs',hs.trans hcs⟩
def eZ (P:Nat->Prop) (w:World) (g n:Nat) (ls:List (List Int)):Prop:=∃ cs:Array Value,w.heap[g]?=some (.cells cs 69 (0,0))∧cs.size=n∧ls.length<=n∧∀ i,(hi:i<ls.length)->∃ u,cs[i]?=some u∧aD P w u ls[i]
theorem eZ.grow {P:Nat->Prop} {w w':World} {g n:Nat} {ls:List (List Int)} (h:eZ P w g n ls) (hb:ae w w'):eZ P w' g n ls:=by
 obtain ⟨cs,h1,h2,h3,h4⟩:=h;refine ⟨cs,Below.same hb _ _ h1,h2,h3,λi hi=>?_⟩;obtain ⟨u,d1,d2⟩:=h4 i hi;exact ⟨u,d1,d2.below hb⟩
theorem eZ.lt {P:Nat->Prop} {w:World} {g n:Nat} {ls:List (List Int)} (h:eZ P w g n ls):g<w.heap.size:=by
 obtain ⟨cs,h1,_⟩:=h;exact z_ h1
theorem eZ.free {P:Nat->Prop} {w:World} {g n:Nat} {ls:List (List Int)} (h:eZ P w g n ls) (o:Nat):w.frozen? ⟨g,o,none⟩=false:=by
 obtain ⟨cs,h1,_⟩:=h;exact aH h1 o
theorem eZ.cell {P:Nat->Prop} {w:World} {g n:Nat} {ls:List (List Int)} (h:eZ P w g n ls) {i:Nat} (hi:i<n):∃ u,w.cell? ⟨g,i,none⟩=some u:=by
 obtain ⟨cs,h1,h2,_⟩:=h;exact ⟨cs[i],by rw [cellsOf h1];exact Array.getElem?_eq_getElem (by omega)⟩
theorem eZ.rows {P:Nat->Prop} {w:World} {g n:Nat} {ls:List (List Int)} (h:eZ P w g n ls) (hn:ls.length=n) (hp:P g):aM P w (.slice (some ⟨g,0,none⟩) n n) ls:=by
 obtain ⟨cs,h1,h2,h3,h4⟩:=h;refine ⟨some ⟨g,0,none⟩,n,by rw [hn],by omega,λi hi=>?_⟩;obtain ⟨u,d1,d2⟩:=h4 i hi;exact ⟨g,0,u,rfl,by rw [cellsOf h1,M_];exact d1,d2,hp,cs,h1⟩
theorem eZ.add {P:Nat->Prop} {w:World} {g n:Nat} {ls:List (List Int)} (h:eZ P w g n ls) (hl:ls.length<n) {u:Value} {row:List Int} (hu:aD P w u row):eZ P (w.setCell ⟨g,ls.length,none⟩ u) g n (ls++[row]):=by
 obtain ⟨cs,h1,h2,h3,h4⟩:=h;refine ⟨_,j_ w g ls.length _ _ u h1,by simp [h2],by simp;omega,λi hi=>?_⟩;by_cases hlt:i<ls.length
 ·obtain ⟨u',d1,d2⟩:=h4 i hlt;exact ⟨u',by rw [K_ (by omega)];exact d1,by rw [List.getElem_append_left hlt];exact d2.Ug h1 _ _⟩
 ·have e:i=ls.length:=by simp at hi;omega
  subst e;exact ⟨u,P_ (by omega),by simpa using hu.Ug h1 _ _⟩
theorem eZ.made {P:Nat->Prop} {w:World} {B g n:Nat} {xs:List Value} (h:w.ownsRow B 69 1 (.slice (some ⟨g,0,none⟩) n n) n xs):eZ P w g n []:=by
 rcases h.2 with ⟨h1,_⟩|⟨g',cap,cur,he,hb,hgg,hle,hm,hcs,htk⟩
 ·simp at h1
 ·simp only [Value.slice.injEq,Option.some.injEq,Addr.mk.injEq,and_true,true_and] at he;obtain ⟨rfl,rfl⟩:=he;exact ⟨cur,hgg,by omega,by simp,λi hi=>by simp at hi⟩
theorem eZ.block {P:Nat->Prop} {w:World} {g n:Nat} {ls:List (List Int)} (h:eZ P w g n ls):∃ cs,w.heap[g]?=some (.cells cs 69 (0,0)):=by
 obtain ⟨cs,h1,_⟩:=h;exact ⟨cs,h1⟩
def l9 (a:List Int) (St:List (List Int)) (n k:Nat):Int:=if k=0 then a.getD 0 0 else mZ a (St.getD (k - 1) []) n
def dH (a:List Int) (St:List (List Int)) (n:Nat):List Int:=(List.range (n+1)).map (l9 a St n)
theorem wW (f:List Int->List Int) (ls:List (List Int)) {i:Nat} (hi:i<ls.length):(ls.take (i+1)).map f=(ls.take i).map f++[f (ls.getD i [])]:=by
 rw [W_ hi,aa4];have e:ls.getD i []=ls[i]:=by rw [a_,f_ hi];rfl
 rw [e];rfl
section
attribute [local go_sem] bD
set_option maxHeartbeats 20000000 in
theorem qD (P:Nat->Prop) (K n:Nat) (ls St:List (List Int)) (va vs:Value) (w:World) (hP:∀ b,w.heap.size<=b->P b) (ha:aM P w va ls) (hs:aM P w vs St) (Uw:St.length=n) (hn:n<=100) (hm:ls.length<=1000) (hlen:∀ l∈ls,l.length=n+1) (UA:∀ l∈St,l.length=n) (hal:∀ i k,Pl.Lt K ((ls.getD i []).getD k 0)) (hsl:∀ i k,Pl.Lt K ((St.getD i []).getD k 0)) (hK:2*K+1<=1500000000000) :
  Calls Tryz.prog 84 #[va,vs] w λe w'=>∃ v',e=.returned v'∧aM P w' v' (ls.map λa=>dH a St n)∧Below w.heap.size w w':=by
 obtain ⟨i0,hi0,hz0,hz1,hz2⟩:=U_ Tryz.dP;obtain ⟨i1,hi1,hy0,hy1,hy2⟩:=U_ Tryz.oQ;have zy:=af ha;have xe:=af hs;have HLEN:=af hlen;have Qy:=af UA;obtain ⟨N,hN⟩:∃ N,ls.length=N:=⟨_,rfl⟩;have HN:=af hN;have HSN:=af Uw;obtain ⟨aa,ac,rfl⟩:∃ ad cap,va=.slice ad N cap:=by obtain ⟨ad,cap,e,_⟩:=ha;rw [hN] at e;exact ⟨ad,cap,e⟩
 obtain ⟨sa,sc,rfl⟩:∃ ad cap,vs=.slice ad n cap:=by obtain ⟨ad,cap,e,_⟩:=hs;rw [Uw] at e;exact ⟨ad,cap,e⟩
 rw [hN] at hm;clear ha hs hlen UA hN Uw;go_enter Tryz.func84,Tryz.ntmps84;go_wp2_with (at_make;refine wpList_make_full _ rfl _ _ 72 rfl w.heap.size 69 i1 (.slice none 0 0) 1 Tryz.underlying72 hi1 hy0 hy1 .i64 .i64 _ _ N rfl rfl ?e1 ?e2 ?c1 ?c2 ?c3 ?_)
 case e1=>first | rfl | omega | simp
 case e2=>first | rfl | omega | simp
 case c1=>rw [hy2];omega
 case c2=>unfold maxLen;omega
 case c3=>first | omega | simp
 ·intro w1 hown hgrow;have hG1:ae w w1:=(n_ _ _).grown hgrow (d_ _) (by intro k hk;cases hk);have K7:Hid (eZ P w1 w.heap.size N []):=eZ.made hown;have dN:=af hG1;clear hown hgrow hG1;go_wp2_with fail;go_loopg [6] N (λk iv wr=>∃ (i:Nat),iv=.int .i64 i∧i+k=N∧Hid (eZ P wr w.heap.size N ((ls.take i).map λa=>dH a St n)∧ae w wr))
  case atStart=>exact ⟨0,rfl,by omega,by simpa using uh K7,uh dN⟩
  case round =>
   rename Nat=>go;rename World=>wo;obtain ⟨i,rfl,hik,HR⟩:=hrel;have SL:Hid (ae w wo):=(uh HR).2;by_cases hlt:i<N
   ·have hil:i<ls.length:=by rw [uh HN];exact hlt
    obtain ⟨gr,orr,cr,u,er,k0,hur,hmem⟩:=gP ((uh zy).below (uh HR).2) hil;rw [uh HN] at er;cases er;have HMi:=af hmem;have hlr:=uh HLEN _ hmem;obtain ⟨ga,oa,ca,zx,za,zm,zc,rfl,p0,p1,hzv⟩:=eU hur (i:=0) (by omega);rw [hlr] at k0 hur;have HLi:Hid (aD P wo (.slice (some ⟨ga,oa,none⟩) (n+1) ca) (ls.getD i [])):=hur;have HZV:=af hzv;simp only [Nat.zero_mul,Nat.add_zero] at p0 p1;obtain ⟨ul,Z5⟩:=(uh HR).1.cell hlt;have hgl:=(uh HR).1.lt;clear hur hmem hlr hzv;go_wp2_with (at_make;refine wpList_make_full _ rfl _ _ 69 rfl wo.heap.size 78 i0 (.agg #[.int .i64 0,.slice none 0 0]) 2 Tryz.underlying69 hi0 hz0 hz1 .i64 .i64 _ _ (n+1) rfl rfl ?e1 ?e2 ?c1 ?c2 ?c3 ?_)
    case e1=>first | rfl | omega | simp
    case e2=>first | rfl | omega | simp
    case c1=>rw [hz2];omega
    case c2=>unfold maxLen;omega
    case c3=>first | omega | simp
    ·intro w2 hown hgrow;have hG2:ae wo w2:=(n_ _ _).grown hgrow (d_ _) (by intro k hk;cases hk);have hR0:bz P w2 wo.heap.size (n+1) (λ_=>0):=bz.made hown;obtain ⟨ox,oy,om,oc,q0,q1,_⟩:=hR0.get (i:=0) (by omega);simp only [Nat.zero_mul,M_] at q0 q1;have f0:=hR0.free 0;have f1:=hR0.free 1;have p0':=hG2.cell p0;have p1':=hG2.cell p1;have k0':=hG2.cell k0;have uA:Hid (bz P ((w2.setCell ⟨wo.heap.size,0,none⟩ (.int .i64 zx)).setCell ⟨wo.heap.size,1,none⟩ (.slice za zm zc)) wo.heap.size (n+1) (λk=>if k<0+1 then l9 (ls.getD i []) St n k else 0)):=by
      unfold Hid;have h1:=(hR0.set (i:=0) (by omega) ((uh HZV).below hG2)).congr (f':=λk=>if k<0+1 then l9 (ls.getD i []) St n k else 0) (λk _=>by
       unfold qi l9;by_cases h:k=0
       ·subst h;simp
       ·rw [g_ h,g_ (by omega)])
      simpa using h1
     have HG2:Hid (ae wo ((w2.setCell ⟨wo.heap.size,0,none⟩ (.int .i64 zx)).setCell ⟨wo.heap.size,1,none⟩ (.slice za zm zc))):=(B_ (p:=⟨wo.heap.size,0,none⟩) hG2 (d_ _) _).setCell (p:=⟨wo.heap.size,1,none⟩) (d_ _) _;clear hown hgrow hG2 hR0;go_wp2_with fail;clear q0 q1 f0 f1 p0' p1' k0';generalize hg2:wo.heap.size=g2 at uA HG2 ⊢;have Z6:wo.heap.size<=g2:=by rw [hg2];exact d_ _
     have SN:w.heap.size<g2:=by omega
     go_loopg [8] n (λk jv wr=>∃ (j:Nat),jv=.int .i64 j∧j+k=n∧Hid (bz P wr g2 (n+1) (λk=>if k<j+1 then l9 (ls.getD i []) St n k else 0)∧ae wo wr∧True))
     case atStart=>exact ⟨0,rfl,by omega,uh uA,uh HG2,trivial⟩
     case round =>
      obtain ⟨j,rfl,hjk,HI⟩:=hrel;by_cases hjn:j<n
      ·have hGw:ae w wr:=(uh SL).trans (uh HI).2.1;obtain ⟨gst,ost,cst,us,es,t0,hus,hmj⟩:=gP ((uh xe).below hGw) (i:=j) (by rw [uh HSN];exact hjn);rw [uh HSN] at es;cases es;obtain ⟨tb,tm,tc,rfl⟩:=hus.aB;have HSj:=af hus;have HMj:=af hmj;have Wq:=(uh HI).2.1.cell k0;obtain ⟨ox,oy,om,oc,Oa,Ob,_⟩:=(uh HI).1.get (i:=j+1) (by omega);have y1:=b_ t0;have y2:=b_ Wq;have hI:(j:Int)+1<(n:Int)+1:=by omega
       have hI0:(0:Int)<=(j:Int)+1:=by omega
       have YD:IntKind.i64.wrap ((j:Int)+1)=(j:Int)+1:=by rw [aaA];omega
       have htn:((j:Int)+1).toNat=j+1:=by omega
       clear hus hmj hGw;go_wp2_with fail;clear t0 Wq;refine ah (bZ [(47,λv w=>aj P w v (mZ (ls.getD i []) (St.getD j []) n))]) (gL [(47,ag)]) 54 13 (by kernel_rfl) (by rfl) (by kernel_rfl) (aN (λ_ _ _=>aj.below) cK) ?_
       iterate 11 (refine aO λK hK=>?_;go_simp;refine hK _ ?_;clear hK K)
       refine ai ag 60 #[.slice (some ⟨ga,oa,none⟩) (n+1) ca,.slice tb tm tc] (by rfl) (by rfl) ag.some (λw=>by go_simp) (λw1 hg hf=>(EW P K n (ls.getD i []) (St.getD j []) _ _ w1 (λb' hb'=>hP b' (by have:=(ae.trans (uh HI).2.1 hg).size;have:=(uh SL).size;omega)) ((uh HLi).below (ae.trans (uh HI).2.1 hg)) ((uh HSj).below hg) (uh HLEN _ (uh HMi)) (uh Qy _ (uh HMj)) hn (hal _) (hsl _) hK).mono (by rintro e w' ⟨v',rfl,hv,hb⟩;exact ⟨_,rfl,hb,hv.aU,λt ht=>by cases ht;exact hv⟩)) ?_;rintro _ ⟨cx,ca,cm,cc,rfl⟩
       (refine aO λK hK=>?_;go_simp;refine hK _ ?_;clear hK K)
       refine aF ?_;intro w2 hg2 aK;have q47:aj P w2 (.agg #[.int .i64 cx,.slice ca cm cc]) (mZ (ls.getD i []) (St.getD j []) n):=aK 11 _ 47 (by decide) rfl rfl;clear aK y1 y2;have hR2:=(uh HI).1.grow hg2;have s0:=ae.cell hg2 Oa;have s1:=ae.cell hg2 Ob;have s2:=hR2.free ((j+1)*2);have s3:=hR2.free ((j+1)*2+1);have uI:Hid (bz P ((w2.setCell ⟨g2,(j+1)*2,none⟩ (.int .i64 cx)).setCell ⟨g2,(j+1)*2+1,none⟩ (.slice ca cm cc)) g2 (n+1) (λk=>if k<j+1+1 then l9 (ls.getD i []) St n k else 0)):=(hR2.set (i:=j+1) (by omega) q47).congr (λk _=>yB (f:=l9 (ls.getD i []) St n) (z:=λ_=>0) k);have HG2:Hid (ae wo ((w2.setCell ⟨g2,(j+1)*2,none⟩ (.int .i64 cx)).setCell ⟨g2,(j+1)*2+1,none⟩ (.slice ca cm cc))):=(B_ (p:=⟨g2,(j+1)*2,none⟩) (ae.trans (uh HI).2.1 hg2) Z6 _).setCell (p:=⟨g2,(j+1)*2+1,none⟩) Z6 _;clear q47 hR2 hg2 Oa Ob;go_wp2;go_roundg (gk - 1)
       case measure=>omega
       case rel=>exact ⟨j+1,by simp,by omega,uh uI,uh HG2,trivial⟩
      ·have NI:j=n:=by omega
       subst NI;have hlt2:((ls.take i).map λa=>dH a St j).length=i:=by simp;omega
       have hL2:=(uh HR).1.grow (uh HI).2.1;have aeA:=(uh HI).2.1.cell Z5;have ff:=hL2.free i;have hrow:aD P wr (.slice (some ⟨g2,0,none⟩) (j+1) (j+1)) (dH (ls.getD i []) St j):=((uh HI).1.congr (f':=l9 (ls.getD i []) St j) (λk hk=>by rw [h_ hk])).row (hP _ (by omega));have Rj:Hid (eZ P (wr.setCell ⟨w.heap.size,i,none⟩ (.slice (some ⟨g2,0,none⟩) (j+1) (j+1))) w.heap.size N ((ls.take (i+1)).map λa=>dH a St j)):=by
        unfold Hid;rw [wW (λa=>dH a St j) ls hil];have h1:=hL2.add (by rw [hlt2];exact hlt) hrow;rw [hlt2] at h1;exact h1
       have jb:Hid (ae w (wr.setCell ⟨w.heap.size,i,none⟩ (.slice (some ⟨g2,0,none⟩) (j+1) (j+1)))):=B_ (p:=⟨w.heap.size,i,none⟩) ((uh SL).trans (uh HI).2.1) (d_ _) _;clear hL2 hrow hlt2;go_wp2;go_roundg (go - 1)
       case measure=>omega
       case rel=>exact ⟨i+1,by simp,by omega,uh Rj,uh jb⟩
   ·have hin:i=N:=by omega
    have HF:Hid (aM P wo (.slice (some ⟨w.heap.size,0,none⟩) N N) (ls.map λa=>dH a St n)∧ae w wo):=by
     refine ⟨?_,(uh HR).2⟩;have h1:=(uh HR).1;rw [hin,<-uh HN,aaG] at h1;rw [<-uh HN];exact h1.rows (by simp) (hP _ (d_ _))
    clear HR;go_wp2;go_ret;exact ⟨_,rfl,(uh HF).1,(uh HF).2⟩
end
structure pW (P:Nat->Prop) (w:World) (xs:List Value) (l:List Int):Prop where
 len:xs.length=l.length*2
 at_:∀ i,(hi:i<l.length)->∃ x a m c,xs[i*2]?=some (.int .i64 x)∧xs[i*2+1]?=some (.slice a m c)∧aj P w (.agg #[.int .i64 x,.slice a m c]) l[i]
theorem pW.grow {P:Nat->Prop} {w w':World} {xs:List Value} {l:List Int} (h:pW P w xs l) (hg:ae w w'):pW P w' xs l :=
 ⟨h.len,λi hi=>by obtain ⟨x,a,m,c,h1,h2,h3⟩:=h.at_ i hi;exact ⟨x,a,m,c,h1,h2,h3.below hg⟩⟩
theorem pW.nil (P:Nat->Prop) (w:World):pW P w [] []:=⟨rfl,λi hi=>by simp at hi⟩
theorem pW.snoc {P:Nat->Prop} {w:World} {xs:List Value} {l:List Int} (h:pW P w xs l) {x:Int} {a:Option Addr} {m c:Nat} {v:Int} (hv:aj P w (.agg #[.int .i64 x,.slice a m c]) v):pW P w (xs++[.int .i64 x,.slice a m c]) (l++[v]):=by
 refine ⟨by simp [h.len];omega,λi hi=>?_⟩;by_cases hl:i<l.length
 ·obtain ⟨x',a',m',c',h1,h2,h3⟩:=h.at_ i hl;refine ⟨x',a',m',c',?_,?_,?_⟩
  ·rw [aah (by rw [h.len];omega)];exact h1
  ·rw [aah (by rw [h.len];omega)];exact h2
  ·rw [List.getElem_append_left hl];exact h3
 ·have e:i=l.length:=by simp at hi;omega
  subst e;refine ⟨x,a,m,c,?_,?_,?_⟩
  ·rw [R_ (by rw [h.len];omega),h.len];simp
  ·rw [R_ (by rw [h.len];omega),h.len];simp
  ·simpa using hv
theorem pW.row {P:Nat->Prop} {w:World} {B:Nat} {v:Value} {xs:List Value} {l:List Int} (h:pW P w xs l) (ho:w.ownsRow B 78 2 v l.length xs) (hP:∀ g,B<=g->P g):aD P w v l:=by
 rcases ho.2 with ⟨rfl,h0⟩|⟨g,cap,cur,rfl,hb,jS,hle,hmx,hsz,htk⟩
 ·exact ⟨none,0,by rw [h0],by omega,λi hi=>by omega⟩
 ·refine ⟨some ⟨g,0,none⟩,cap,rfl,hle,λi hi=>?_⟩;obtain ⟨x,a,m,c,h1,h2,h3⟩:=h.at_ i hi;refine ⟨g,0,x,a,m,c,rfl,?_,?_,h3,hP g hb,cur,jS⟩
  ·rw [cellsOf jS,M_];rw [<-htk,aac (by omega)] at h1
   simpa using h1
  ·rw [cellsOf jS,M_];rw [<-htk,aac (by omega)] at h2
   simpa using h2
def eX (a:List Int) (t:Nat) (x:Int):List Int:=bP (a.eraseIdx (t+1)) (a.getD (t+1) 0*x)
theorem IA {K:Nat} {a:List Int} (h:∀ k,Pl.Lt K (a.getD k 0)) (t k:Nat):Pl.Lt K ((a.eraseIdx t).getD k 0):=by
 rw [a_,List.getElem?_eraseIdx]
 split
 ·have:=h k;rwa [a_] at this
 ·have:=h (k+1);rwa [a_] at this
def iZ (a:List Int) (t j:Nat):List Int:=(a.take j).eraseIdx t
theorem EX (a:List Int) (t:Nat):iZ a t 0=[]:=by simp [iZ]
theorem Tt (a:List Int) (t:Nat):iZ a t (t+1)=iZ a t t:=by
 unfold iZ;rw [List.eraseIdx_of_length_le (l:=a.take t) (by rw [T_];omega)];by_cases h:t<a.length
 ·rw [W_ h,List.eraseIdx_append_of_length_le (by rw [T_];omega)];have:t - (a.take t).length=0:=by rw [T_];omega
  rw [this];simp
 ·rw [aaE (by omega),aaE (by omega),List.eraseIdx_of_length_le (by omega)]
theorem NM (a:List Int) (t:Nat) {j:Nat} (hj:j<a.length) (hne:j≠t):iZ a t (j+1)=iZ a t j++[a.getD j 0]:=by
 unfold iZ;have e:a.getD j 0=a[j]:=by rw [a_,f_ hj];rfl
 rw [W_ hj,e];by_cases h:t<j
 ·rw [List.eraseIdx_append_of_lt_length (by rw [T_];omega)]
 ·rw [List.eraseIdx_of_length_le (l:=a.take j) (by rw [T_];omega),List.eraseIdx_of_length_le (by rw [C_,T_];simp;omega)]
theorem QO (a:List Int) (t:Nat):iZ a t a.length=a.eraseIdx t:=by unfold iZ;rw [aaG]
theorem QP (a:List Int) (t j:Nat):(iZ a t j).length<=j:=by
 unfold iZ;have h1:=List.length_eraseIdx_le (a.take j) t;rw [T_] at h1;omega
attribute [local go_sem] bD
set_option maxHeartbeats 20000000 in
theorem rA (P:Nat->Prop) (K n at_:Nat) (ls:List (List Int)) (x:Int) (va vx:Value) (w:World) (hP:∀ b,w.heap.size<=b->P b) (ha:aM P w va ls) (hx:aj P w vx x) (hn0:0<n) (hn:n<=100) (hat:at_<n) (hm:ls.length<=1000) (hlen:∀ l∈ls,l.length=n+1) (hal:∀ i k,Pl.Lt K ((ls.getD i []).getD k 0)) (hxl:Pl.Lt K x) (hK:2*K<=1500000000000) :
  Calls Tryz.prog 85 #[va,.int .i64 at_,vx] w λe w'=>∃ v',e=.returned v'∧aM P w' v' (ls.map λa=>eX a at_ x)∧Below w.heap.size w w':=by
 obtain ⟨i0,hi0,hz0,hz1,hz2⟩:=U_ Tryz.dP;obtain ⟨i1,hi1,hy0,hy1,hy2⟩:=U_ Tryz.oQ;have zy:=af ha;have HLEN:=af hlen;obtain ⟨N,hN⟩:∃ N,ls.length=N:=⟨_,rfl⟩;have HN:=af hN;obtain ⟨aa,ac,rfl⟩:∃ ad cap,va=.slice ad N cap:=by obtain ⟨ad,cap,e,_⟩:=ha;rw [hN] at e;exact ⟨ad,cap,e⟩
 obtain ⟨bx,ba,bm,bc,rfl⟩:=hx.shape;have HD:=af (dC hx);have QI:Hid (ae w (w.alloc (.cells #[.int .i64 bx,.slice ba bm bc] 78))):=ae.alloc _ _;rw [hN] at hm;have hwa:IntKind.i64.wrap ((at_:Int)+1)=(at_:Int)+1:=by rw [aaA];omega
 have hta:((at_:Int)+1).toNat=at_+1:=by omega
 have hIa:(at_:Int)+1<(n:Int)+1:=by omega
 have alF:(0:Int)<=(at_:Int)+1:=by omega
 clear ha hx hlen hN;go_enter Tryz.func85,Tryz.ntmps85;go_wp2_with (at_make;refine wpList_make_full _ rfl _ _ 72 rfl (w.heap.size+1) 69 i1 (.slice none 0 0) 1 Tryz.underlying72 hi1 hy0 hy1 .i64 .i64 _ _ N rfl rfl ?e1 ?e2 ?c1 ?c2 ?c3 ?_)
 case e1=>first | rfl | omega | simp
 case e2=>first | rfl | omega | simp
 case c1=>rw [hy2];omega
 case c2=>unfold maxLen;omega
 case c3=>first | omega | simp
 ·intro w1 hown hgrow;have hG1:ae (w.alloc (.cells #[.int .i64 bx,.slice ba bm bc] 78)) w1:=(n_ _ _).grown hgrow (d_ _) (by intro k hk;cases hk);have K7:Hid (eZ P w1 (w.heap.size+1) N []):=eZ.made hown;have dN:Hid (ae w w1):=(uh QI).trans hG1;have wP:=af ((uh HD).grow hG1);clear hown hgrow hG1;go_wp2_with fail;go_loopg [8] N (λk iv wr=>∃ (i:Nat),iv=.int .i64 i∧i+k=N∧Hid (eZ P wr (w.heap.size+1) N ((ls.take i).map λa=>eX a at_ x)∧ae w wr∧bB P wr w.heap.size bx ba bm bc x))
  case atStart=>exact ⟨0,rfl,by omega,by simpa using uh K7,uh dN,uh wP⟩
  case round =>
   rename Nat=>go;rename World=>wo;obtain ⟨i,rfl,hik,HR⟩:=hrel;have SL:Hid (ae w wo):=(uh HR).2.1;by_cases hlt:i<N
   ·have hil:i<ls.length:=by rw [uh HN];exact hlt
    obtain ⟨gr,orr,cr,u,er,k0,hur,hmem⟩:=gP ((uh zy).below (uh HR).2.1) hil;rw [uh HN] at er;cases er;have hlr:=uh HLEN _ hmem;obtain ⟨ga,oa,ca,csa,rfl,hga,hcell⟩:=hur.get (by omega);rw [hlr] at k0;have vO:=af hlr;have KN:=af hcell;obtain ⟨ul,Z5⟩:=(uh HR).1.cell hlt;clear hur hmem hlr hcell;go_wp2_with fail;go_loopg [9,10] (n+1) (λk fv jv wr=>∃ (j:Nat) (xs:List Value) (fa:Option Addr) (fn fc:Nat),jv=.int .i64 j∧fv=.slice fa fn fc∧j+k=n+1∧Hid (wr.ownsRow wo.heap.size 78 2 (.slice fa fn fc) (iZ (ls.getD i []) (at_+1) j).length xs∧pW P wr xs (iZ (ls.getD i []) (at_+1) j)∧ae wo wr))
    case atStart=>exact ⟨0,[],none,0,0,rfl,rfl,by omega,by rw [EX];exact ⟨rfl,.inl ⟨rfl,rfl⟩⟩,by rw [EX];exact pW.nil P wo,ae.refl _⟩
    case round =>
     obtain ⟨j,xs,fa,fn,fc,rfl,rfl,hjk,HI⟩:=hrel;have Wq:=(uh HI).2.2.cell k0;by_cases hjn:j<n+1
     ·obtain ⟨zx,za,zm,zc,z0,z1,hzv⟩:=uh KN j (by rw [uh vO];exact hjn);have z0:=(uh HI).2.2.cell z0;have z1:=(uh HI).2.2.cell z1;have hjl:j<(ls.getD i []).length:=by rw [uh vO];exact hjn
      by_cases hja:j=at_+1
      ·subst hja;have Z7:=af (Tt (ls.getD i []) (at_+1));clear hzv hjl;go_wp2;go_roundg (gk - 1)
       case measure=>omega
       case rel=>exact ⟨at_+1+1,xs,fa,fn,fc,by simp,rfl,by omega,by rw [uh Z7];exact (uh HI).1,by rw [uh Z7];exact (uh HI).2.1,(uh HI).2.2⟩
      ·have Z7:=af (NM (ls.getD i []) (at_+1) hjl hja);have hkl:(iZ (ls.getD i []) (at_+1) j).length<=101:=by have:=QP (ls.getD i []) (at_+1) j;omega
       have Fg:Hid (pW P wr (xs++[.int .i64 zx,.slice za zm zc]) (iZ (ls.getD i []) (at_+1) j++[(ls.getD i []).getD j 0])):=(uh HI).2.1.snoc (by
        rw [a_,f_ hjl];exact hzv.below (uh HI).2.2)
       obtain ⟨kk,hkk⟩:∃ kk,(iZ (ls.getD i []) (at_+1) j).length=kk:=⟨_,rfl⟩;have Gp:=(uh HI).1.alloc (.cells #[.int .i64 zx,.slice za zm zc] 78);rw [hkk] at Gp hkl;have HKK:=af hkk;have tne:((j:Int) != (at_:Int)+1)=true:=by simp;omega
       clear hzv hjl hkk hja;go_wp2_with (at_builtin;refine wpList_append_lies _ rfl _ _ 69 rfl wo.heap.size 78 i0 (.agg #[.int .i64 0,.slice none 0 0]) 2 32 Tryz.underlying69 hi0 hz0 hz1 hz2 rfl (by decide) _ kk xs rfl Gp ⟨_,0,none⟩ 1 1 [.int .i64 zx,.slice za zm zc] rfl rfl ?d1 (by simp [Value.oneCell']) (by decide) ?d2 ?d3 ?d4 _ rfl ?_)
       case d1=>exact λj u hu=>World.news_of_block (aax _ _) j u hu
       case d2=>unfold maxLen;omega
       case d3=>omega
       case d4=>exact w_ (uh HI).2.2.size (by simp)
       ·intro g cap w2 hown1 hgrow aeB hlt2;have hG2:ae wo w2:=Below.grown (ae.trans (uh HI).2.2 (ae.alloc wr _)) hgrow (w_ (uh HI).2.2.size (by simp)) (bR Gp);have hkeep:aA 3 wr w2:=(aA.aX (ae.alloc wr (.cells #[.int .i64 zx,.slice za zm zc] 78))).trans (aA.grown Gp hgrow (by decide));have HX3:Hid (pW P w2 (xs++[.int .i64 zx,.slice za zm zc]) (iZ (ls.getD i []) (at_+1) (j+1))):=by
         unfold Hid;rw [uh Z7];exact ⟨(uh Fg).len,λi hi=>by obtain ⟨x',a',m',c',h1,h2,h3⟩:=(uh Fg).at_ i hi;exact ⟨x',a',m',c',h1,h2,h3.bW hkeep⟩⟩
        have iT:=af hown1;have HG2:=af hG2;have VJ:Hid ((iZ (ls.getD i []) (at_+1) (j+1)).length=kk+1):=by unfold Hid;rw [uh Z7,C_,uh HKK];rfl
        clear hown1 hgrow aeB hlt2 Gp hG2 hkeep;go_wp2;go_roundg (gk - 1)
        case measure=>omega
        case rel=>exact ⟨j+1,xs++[.int .i64 zx,.slice za zm zc],_,_,_,by simp,rfl,by omega,by rw [uh VJ];exact uh iT,uh HX3,uh HG2⟩
     ·have NI:j=n+1:=by omega
      subst NI;have hEL:((ls.getD i []).eraseIdx (at_+1)).length=n:=by rw [List.length_eraseIdx,h_ (by rw [uh vO];omega),uh vO];rfl
      have hka:iZ (ls.getD i []) (at_+1) (n+1)=(ls.getD i []).eraseIdx (at_+1):=by
       have:=QO (ls.getD i []) (at_+1);rwa [uh vO] at this
      have Ve:Hid (aD P wr (.slice fa fn fc) ((ls.getD i []).eraseIdx (at_+1))):=by
       unfold Hid;rw [<-hka];exact (uh HI).2.1.row (uh HI).1 (λg hg=>hP g (w_ (uh SL).size hg))
      have HEL:=af hEL;have HGi:Hid (ae w wr):=(uh SL).trans (uh HI).2.2;have HVi:=af ((uh HR).2.2.grow (uh HI).2.2);have HLi:=af ((uh HR).1.grow (uh HI).2.2);have Ng:Hid (((ls.take i).map λa=>eX a at_ x).length=i):=by unfold Hid;simp;omega
      obtain ⟨zx,za,zm,zc,z0,z1,hzv⟩:=uh KN (at_+1) (by rw [uh vO];omega);have HZV:Hid (aj P wr (.agg #[.int .i64 zx,.slice za zm zc]) ((ls.getD i []).getD (at_+1) 0)):=by
       unfold Hid;rw [a_,f_ (by rw [uh vO];omega)];exact hzv.below (uh HI).2.2
      have z0:=(uh HI).2.2.cell z0;have z1:=(uh HI).2.2.cell z1;obtain ⟨v0,v1,_⟩:=(uh HVi).cells;have Z5:=(uh HI).2.2.cell Z5;have y1:=b_ z0;have y2:=b_ z1;have y3:=b_ v0;have y4:=b_ v1;have y5:=b_ Wq;clear hEL hka hzv HI;go_wp2_with fail;clear z0 z1 v0 v1 Wq;refine ah (bZ [(55,λv w=>aj P w v ((ls.getD i []).getD (at_+1) 0*x)),(56,λv w=>aD P w v (eX (ls.getD i []) at_ x))]) (gL [(55,ag),(56,aZ)]) 59 15 (by kernel_rfl) (by rfl) (by kernel_rfl) (aN (λ_ _ _=>aj.below) (aN (λ_ _ _=>aD.below) cK)) ?_
      iterate 12 (refine aO λK hK=>?_;go_simp;refine hK _ ?_;clear hK K)
      refine ai ag 58 #[.agg #[.int .i64 zx,.slice za zm zc],.agg #[.int .i64 bx,.slice ba bm bc]] (by rfl) (by rfl) ag.some (λw=>by go_simp) (λw1 hg hf=>(eD P K ((ls.getD i []).getD (at_+1) 0) x _ _ w1 (λb' hb'=>hP b' (by have:=(ae.trans (uh HGi) hg).size;omega)) ((uh HZV).below hg) ((uh HVi).val.below hg) (by omega) (hal _ _) hxl).mono (by rintro e w' ⟨v',rfl,hv,hb⟩;exact ⟨_,rfl,hb,hv.aU,λt ht=>by cases ht;exact hv⟩)) ?_;rintro _ ⟨cx,ca,cm,cc,rfl⟩;refine ai aZ 37 #[.slice fa fn fc,.agg #[.int .i64 cx,.slice ca cm cc]] (by rfl) (by rfl) aZ.some (λw=>by go_simp) (λw1 hg hf=>(nC P (2*K) n ((ls.getD i []).eraseIdx (at_+1)) ((ls.getD i []).getD (at_+1) 0*x) _ _ w1 (λb' hb'=>hP b' (by have:=(ae.trans (uh HGi) hg).size;omega)) ((uh Ve).below hg) (hf 12 (by kernel_rfl) _ 55 rfl rfl) (uh HEL) hn0 (by omega) (λk=>Pl.Lt.mono (IA (hal i) _ k) (by omega)) (by rw [Nat.two_mul];exact (hal _ _).mul hxl) (by omega)).mono (by rintro e w' ⟨v',rfl,hv,hb⟩;exact ⟨_,rfl,hb,hv.aB,λt ht=>by cases ht;exact hv⟩)) ?_;rintro _ ⟨ra,rm,rc,rfl⟩
      (refine aO λK hK=>?_;go_simp;refine hK _ ?_;clear hK K)
      refine aF ?_;intro w2 hg2 aK;have q56:aD P w2 (.slice ra rm rc) (eX (ls.getD i []) at_ x):=aK 13 _ 56 (by decide) rfl rfl;clear aK y1 y2 y3 y4 y5;have hL2:=(uh HLi).grow hg2;have aeA:=ae.cell hg2 Z5;have ff:=hL2.free i;have Rj:Hid (eZ P (w2.setCell ⟨w.heap.size+1,i,none⟩ (.slice ra rm rc)) (w.heap.size+1) N ((ls.take (i+1)).map λa=>eX a at_ x)):=by
       unfold Hid;rw [wW (λa=>eX a at_ x) ls hil];have h1:=hL2.add (by rw [uh Ng];exact hlt) q56;rw [uh Ng] at h1;exact h1
      have jb:Hid (ae w (w2.setCell ⟨w.heap.size+1,i,none⟩ (.slice ra rm rc))):=B_ (p:=⟨w.heap.size+1,i,none⟩) (ae.trans (uh HGi) hg2) (by show w.heap.size<=w.heap.size+1;omega) _;have wS:Hid (bB P (w2.setCell ⟨w.heap.size+1,i,none⟩ (.slice ra rm rc)) w.heap.size bx ba bm bc x):=by
       refine ⟨(l_ _ _ _ _ (show w.heap.size≠w.heap.size+1 by omega)).trans ((uh HVi).grow hg2).heap,((uh HVi).grow hg2).val.bW (aA.setCell hL2.block.choose_spec (by decide) _ _)⟩
      clear q56 hL2 hg2;go_wp2;go_roundg (go - 1)
      case measure=>omega
      case rel=>exact ⟨i+1,by simp,by omega,uh Rj,uh jb,uh wS⟩
   ·have hin:i=N:=by omega
    have HF:Hid (aM P wo (.slice (some ⟨w.heap.size+1,0,none⟩) N N) (ls.map λa=>eX a at_ x)∧ae w wo):=by
     refine ⟨?_,(uh HR).2.1⟩;have h1:=(uh HR).1;rw [hin,<-uh HN,aaG] at h1;rw [<-uh HN];exact h1.rows (by simp) (hP _ (by omega))
    clear HR;go_wp2;go_ret;exact ⟨_,rfl,(uh HF).1,(uh HF).2⟩
end Go.Proofs.YtgaafamcajcifaaGreat
