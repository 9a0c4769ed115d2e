/- Joined: XOf5 XOf6 XOf7 XRow1 XRow2. -/
import Derived.Test.YtgaafamcajcifaaGreatK41
import Derived.Test.YtgaafamcajcifaaGreatK43
set_option linter.unusedVariables false
set_option linter.unusedSimpArgs false
set_option maxRecDepth 100000
namespace Go.Proofs.YtgaafamcajcifaaGreat
open Go.RowKit Go.Sort
def dO (a l:Int):Bool:=decide (-l<=a∧a<=l)
theorem tX (a l:Int) (w:World) (hl:0<=l) (hl2:l<=1000000000000):Calls Tryz.prog 33 #[.int .i64 a,.int .i64 l] w λe w'=>e=.returned (.bool (dO a l))∧w'=w:=by
 have hw:IntKind.i64.wrap (-l)=-l:=by rw [aaA];omega
 by_cases h1:-l<=a
 ·by_cases h2:a<=l
  ·have e:dO a l=true:=aaB ⟨h1,h2⟩;rw [e];go_enter Tryz.func33,Tryz.ntmps33;go_wp2;go_ret;exact ⟨rfl,rfl⟩
  ·have e:dO a l=false:=Z_ (λh=>h2 h.2);rw [e];go_enter Tryz.func33,Tryz.ntmps33;go_wp2;go_ret;exact ⟨rfl,rfl⟩
 ·have e:dO a l=false:=Z_ (λh=>h1 h.1);rw [e];go_enter Tryz.func33,Tryz.ntmps33;go_wp2;go_ret;exact ⟨rfl,rfl⟩
def nM (vs:List (Int × Int)):Bool:=decide (1<=vs.length∧vs.length<=4)&&vs.all λv=>dO v.1 1000000000&&dO v.2 1000000000&&decide (v.1<=v.2)
def wL (n:Nat) (rs:List dS):Bool:=decide (rs.length<=8)&&rs.all λq=>decide (q.1.length=n)&&dO q.2.1 1000000000000&&q.1.all λx=>dO x 1000
theorem dW {a l:Int}:dO a l=true↔-l<=a∧a<=l:=by unfold dO;exact abm
theorem nU {vs:List (Int × Int)}:nM vs=true↔fI vs:=by
 unfold nM;rw [N_,abm,aaL];constructor
 ·rintro ⟨⟨h1,h2⟩,h3⟩;have key:∀ v∈vs,(-1000000000<=v.1∧v.1<=1000000000)∧(-1000000000<=v.2∧v.2<=1000000000)∧v.1<=v.2:=λv hv=>by
   have:=h3 v hv;rw [N_,N_,dW,dW,abm] at this;exact ⟨this.1.1,this.1.2,this.2⟩
  exact ⟨h1,h2,λv hv=>(key v hv).1,λv hv=>(key v hv).2.1,λv hv=>(key v hv).2.2⟩
 ·intro h;refine ⟨⟨h.one,h.four⟩,λv hv=>?_⟩;rw [N_,N_,dW,dW,abm];exact ⟨⟨h.lo v hv,h.hi v hv⟩,h.le v hv⟩
theorem rM {n:Nat} {rs:List dS}:wL n rs=true↔lI n rs:=by
 unfold wL;rw [N_,abm,aaL];constructor
 ·rintro ⟨h1,h3⟩;have key:∀ q∈rs,q.1.length=n∧(-1000000000000<=q.2.1∧q.2.1<=1000000000000)∧∀ x∈q.1,-1000<=x∧x<=1000:=λq hq=>by
   have:=h3 q hq;rw [N_,N_,dW,abm,aaL] at this;exact ⟨this.1.1,this.1.2,λx hx=>dW.1 (this.2 x hx)⟩
  exact ⟨h1,λq hq=>(key q hq).1,λq hq=>(key q hq).2.2,λq hq=>(key q hq).2.1⟩
 ·intro h;refine ⟨h.pI,λq hq=>?_⟩;rw [N_,N_,dW,abm,aaL];exact ⟨⟨h.len q hq,h.k q hq⟩,λx hx=>dW.2 (h.c q hq x hx)⟩
def kT (v:Int × Int):Bool:=dO v.1 1000000000&&dO v.2 1000000000&&decide (v.1<=v.2)
section
section
section
section
attribute [local go_sem] bD
set_option maxHeartbeats 1000000 in
theorem DZ (vs:List (Int × Int)) (va:Value) (w:World) (ha:jd w va vs) (hm:vs.length<=maxLen):Calls Tryz.prog 27 #[va] w λe w'=>e=.returned (.bool (nM vs))∧Below w.heap.size w w':=by
 obtain ⟨aa,ac,rfl⟩:=ha.aB;have HA:=af ha;obtain ⟨n,hn⟩:∃ n,vs.length=n:=⟨_,rfl⟩;have HN:=af hn;rw [hn];rw [hn] at HA hm;unfold maxLen at hm;clear ha hn;by_cases h4:1<=n∧n<=4
 ·have hR:Hid (nM vs=vs.all kT):=by
   unfold Hid nM;rw [uh HN,aaB h4];rfl
  go_enter Tryz.func27,Tryz.ntmps27;go_wp2_with fail;go_loopg [3] n (λk iv wr=>∃ (i:Nat),iv=.int .i64 i∧i+k=n∧Hid ((vs.take i).all kT=true∧ae w wr))
  case atStart=>exact ⟨0,rfl,by omega,by simp,n_ _ _⟩
  case round =>
   obtain ⟨i,rfl,hik,HR⟩:=hrel;by_cases hlt:i<n
   ·obtain ⟨gv,ov,ev,c0,c1⟩:=((uh HA).below (uh HR).2).get (i:=i) (by rw [uh HN];exact hlt);cases ev;obtain ⟨lo,hlo⟩:∃ lo,(vs.getD i (0,0)).1=lo:=⟨_,rfl⟩;obtain ⟨hi,hhi⟩:∃ hi,(vs.getD i (0,0)).2=hi:=⟨_,rfl⟩;rw [hlo] at c0;rw [hhi] at c1;have Be:Hid (vs.take (i+1)=vs.take i++[(lo,hi)]):=by
     unfold Hid;rw [<-hlo,<-hhi,W_ (by rw [uh HN];exact hlt),a_,f_ (by rw [uh HN];exact hlt)];rfl
    have Wi:Hid ((lo,hi)∈vs):=by
     unfold Hid;rw [<-hlo,<-hhi];exact jE (by rw [uh HN];exact hlt)
    have HW1:=af (λwq=>tX lo 1000000000 wq (by decide) (by decide));have HW2:=af (λwq=>tX hi 1000000000 wq (by decide) (by decide));clear hlo hhi;by_cases b1:dO lo 1000000000=true
    ·rw [b1] at HW1;by_cases b2:dO hi 1000000000=true
     ·rw [b2] at HW2;by_cases b3:lo<=hi
      ·have b3':¬ (hi<lo):=by omega
       have HX:Hid ((vs.take (i+1)).all kT=true):=by
        unfold Hid;rw [uh Be,List.all_append,(uh HR).1];simp [kT,b1,b2,b3]
       clear b1 b2 b3;go_wp2_with fail;have y0:=b_ c0;have y1:=b_ c1;clear c0 c1;refine ah (bZ []) (gL [(23,(·=.bool true)),(31,(·=.bool true))]) 47 28 (by kernel_rfl) (by rfl) (by kernel_rfl) (dw (by simp)) ?_
       iterate 5 (refine aO λK hK=>?_;go_simp;refine hK _ ?_;clear hK K)
       refine ai (·=.bool true) 33 #[.int .i64 lo,.int .i64 1000000000] (by rfl) (by rfl) ⟨_,rfl⟩ (λw=>by go_simp) (λwq hg hf=>(uh HW1 wq).mono (by rintro e w' ⟨rfl,rfl⟩;exact ⟨_,rfl,n_ _ _,rfl,λt ht=>by cases ht;exact True.intro⟩)) ?_;rintro _ rfl;simp only [Act.put,p_,G_,D_]
       iterate 7 (refine aO λK hK=>?_;go_simp;refine hK _ ?_;clear hK K)
       refine ai (·=.bool true) 33 #[.int .i64 hi,.int .i64 1000000000] (by rfl) (by rfl) ⟨_,rfl⟩ (λw=>by go_simp) (λwq hg hf=>(uh HW2 wq).mono (by rintro e w' ⟨rfl,rfl⟩;exact ⟨_,rfl,n_ _ _,rfl,λt ht=>by cases ht;exact True.intro⟩)) ?_;rintro _ rfl;simp only [Act.put,p_,G_,D_]
       iterate 14 (refine aO λK hK=>?_;go_simp;refine hK _ ?_;clear hK K)
       refine aF ?_;intro w5 hg5 _;have jy:Hid (ae w w5):=(uh HR).2.trans hg5;clear hg5 y0 y1;go_wp2;go_roundg (gk - 1)
       case measure=>omega
       case rel=>exact ⟨i+1,by simp,by omega,uh HX,uh jy⟩
      ·have b3':hi<lo:=by omega
       have HX:Hid (vs.all kT=false):=by
        unfold Hid;rw [<-Bool.not_eq_true,aaL];intro h;have:=h _ (uh Wi);simp [kT,b1,b2,b3] at this
       clear b1 b2 b3;go_wp2_with fail;have y0:=b_ c0;have y1:=b_ c1;clear c0 c1;refine ah (bZ []) (gL [(23,(·=.bool true)),(31,(·=.bool true))]) 47 28 (by kernel_rfl) (by rfl) (by kernel_rfl) (dw (by simp)) ?_
       iterate 5 (refine aO λK hK=>?_;go_simp;refine hK _ ?_;clear hK K)
       refine ai (·=.bool true) 33 #[.int .i64 lo,.int .i64 1000000000] (by rfl) (by rfl) ⟨_,rfl⟩ (λw=>by go_simp) (λwq hg hf=>(uh HW1 wq).mono (by rintro e w' ⟨rfl,rfl⟩;exact ⟨_,rfl,n_ _ _,rfl,λt ht=>by cases ht;exact True.intro⟩)) ?_;rintro _ rfl;simp only [Act.put,p_,G_,D_]
       iterate 7 (refine aO λK hK=>?_;go_simp;refine hK _ ?_;clear hK K)
       refine ai (·=.bool true) 33 #[.int .i64 hi,.int .i64 1000000000] (by rfl) (by rfl) ⟨_,rfl⟩ (λw=>by go_simp) (λwq hg hf=>(uh HW2 wq).mono (by rintro e w' ⟨rfl,rfl⟩;exact ⟨_,rfl,n_ _ _,rfl,λt ht=>by cases ht;exact True.intro⟩)) ?_;rintro _ rfl;simp only [Act.put,p_,G_,D_]
       iterate 14 (refine aO λK hK=>?_;go_simp;refine hK _ ?_;clear hK K)
       refine aF ?_;intro w5 hg5 _;have jy:Hid (ae w w5):=(uh HR).2.trans hg5;clear hg5 y0 y1;go_wp2;go_ret;exact ⟨by rw [uh hR];exact congrArg (λb=>Ending.returned (.bool b)) (uh HX).symm,uh jy⟩
     ·have b2':dO hi 1000000000=false:=abH.2 b2;rw [b2'] at HW2;have HX:Hid (vs.all kT=false):=by
       unfold Hid;rw [<-Bool.not_eq_true,aaL];intro h;have:=h _ (uh Wi);simp [kT,b1,b2'] at this
      clear b1 b2 b2';go_wp2_with fail;have y0:=b_ c0;have y1:=b_ c1;clear c0 c1;refine ah (bZ []) (gL [(23,(·=.bool true)),(31,(·=.bool false))]) 47 28 (by kernel_rfl) (by rfl) (by kernel_rfl) (dw (by simp)) ?_
      iterate 5 (refine aO λK hK=>?_;go_simp;refine hK _ ?_;clear hK K)
      refine ai (·=.bool true) 33 #[.int .i64 lo,.int .i64 1000000000] (by rfl) (by rfl) ⟨_,rfl⟩ (λw=>by go_simp) (λwq hg hf=>(uh HW1 wq).mono (by rintro e w' ⟨rfl,rfl⟩;exact ⟨_,rfl,n_ _ _,rfl,λt ht=>by cases ht;exact True.intro⟩)) ?_;rintro _ rfl;simp only [Act.put,p_,G_,D_]
      iterate 7 (refine aO λK hK=>?_;go_simp;refine hK _ ?_;clear hK K)
      refine ai (·=.bool false) 33 #[.int .i64 hi,.int .i64 1000000000] (by rfl) (by rfl) ⟨_,rfl⟩ (λw=>by go_simp) (λwq hg hf=>(uh HW2 wq).mono (by rintro e w' ⟨rfl,rfl⟩;exact ⟨_,rfl,n_ _ _,rfl,λt ht=>by cases ht;exact True.intro⟩)) ?_;rintro _ rfl;simp only [Act.put,p_,G_,D_]
      iterate 14 (refine aO λK hK=>?_;go_simp;refine hK _ ?_;clear hK K)
      refine aF ?_;intro w5 hg5 _;have jy:Hid (ae w w5):=(uh HR).2.trans hg5;clear hg5 y0 y1;go_wp2;go_ret;exact ⟨by rw [uh hR];exact congrArg (λb=>Ending.returned (.bool b)) (uh HX).symm,uh jy⟩
    ·have b1':dO lo 1000000000=false:=abH.2 b1;rw [b1'] at HW1;have HX:Hid (vs.all kT=false):=by
      unfold Hid;rw [<-Bool.not_eq_true,aaL];intro h;have:=h _ (uh Wi);simp [kT,b1'] at this
     clear b1 b1';go_wp2_with fail;have y0:=b_ c0;have y1:=b_ c1;clear c0 c1;refine ah (bZ []) (gL [(23,(·=.bool false)),(31,(·=.bool false))]) 47 28 (by kernel_rfl) (by rfl) (by kernel_rfl) (dw (by simp)) ?_
     iterate 5 (refine aO λK hK=>?_;go_simp;refine hK _ ?_;clear hK K)
     refine ai (·=.bool false) 33 #[.int .i64 lo,.int .i64 1000000000] (by rfl) (by rfl) ⟨_,rfl⟩ (λw=>by go_simp) (λwq hg hf=>(uh HW1 wq).mono (by rintro e w' ⟨rfl,rfl⟩;exact ⟨_,rfl,n_ _ _,rfl,λt ht=>by cases ht;exact True.intro⟩)) ?_;rintro _ rfl;simp only [Act.put,p_,G_,D_]
     iterate 7 (refine aO λK hK=>?_;go_simp;refine hK _ ?_;clear hK K)
     refine Bl (by rfl) (λ_ _ _ t ht=>by cases ht;exact True.intro) ?_;simp only [Act.put,p_,G_,D_]
     iterate 14 (refine aO λK hK=>?_;go_simp;refine hK _ ?_;clear hK K)
     refine aF ?_;intro w5 hg5 _;have jy:Hid (ae w w5):=(uh HR).2.trans hg5;clear hg5 y0 y1;go_wp2;go_ret;exact ⟨by rw [uh hR];exact congrArg (λb=>Ending.returned (.bool b)) (uh HX).symm,uh jy⟩
   ·have hin:i=n:=by omega
    have HX:Hid (vs.all kT=true):=by
     have h1:=(uh HR).1;unfold Hid;rwa [hin,<-uh HN,aaG] at h1
    clear hin;go_wp2;go_ret;exact ⟨by rw [uh hR];exact congrArg (λb=>Ending.returned (.bool b)) (uh HX).symm,(uh HR).2⟩
 ·have hR:Hid (nM vs=false):=by
   unfold Hid nM;rw [uh HN,Z_ h4];rfl
  by_cases h0:n<1
  ·clear h4;go_enter Tryz.func27,Tryz.ntmps27;go_wp2;go_ret;exact ⟨by rw [uh hR];rfl,n_ _ _⟩
  ·have h5:(4:Int)<(n:Int):=by omega
   have h6:¬ ((n:Int)<1):=by omega
   clear h4;go_enter Tryz.func27,Tryz.ntmps27;go_wp2;go_ret;exact ⟨by rw [uh hR];rfl,n_ _ _⟩
end
def qW (n:Nat) (q:dS):Bool:=decide (q.1.length=n)&&dO q.2.1 1000000000000&&q.1.all λx=>dO x 1000
theorem Ef {n:Nat} {rs:List dS} (h:rs.length<=8):wL n rs=rs.all (qW n):=by
 unfold wL;rw [aaB h];rfl
theorem yl {n:Nat} {rs:List dS} {q:dS} (hm:q∈rs) (h:qW n q=false):rs.all (qW n)=false:=by
 rw [<-Bool.not_eq_true,aaL];intro ha;rw [ha q hm] at h;cases h
attribute [local go_sem] bD
set_option maxHeartbeats 1000000 in
theorem Io (rs:List dS) (n:Nat) (vb:Value) (w:World) (hb:kP w vb rs) (hm:rs.length<=maxLen) (hn4:n<=4):Calls Tryz.prog 28 #[vb,.int .i64 n] w λe w'=>e=.returned (.bool (wL n rs))∧Below w.heap.size w w':=by
 obtain ⟨ba,bc,rfl⟩:=hb.aB;have HB:=af hb;obtain ⟨m,hmm⟩:∃ m,rs.length=m:=⟨_,rfl⟩;have HM:=af hmm;rw [hmm];rw [hmm] at HB hm;unfold maxLen at hm;clear hb hmm;by_cases h8:m<=8
 ·have h8':¬ ((8:Int)<(m:Int)):=by omega
  have hR:Hid (wL n rs=rs.all (qW n)):=Ef (by rw [uh HM];exact h8);go_enter Tryz.func28,Tryz.ntmps28;go_wp2_with fail;go_loopg [5] m (λk iv wr=>∃ (i:Nat),iv=.int .i64 i∧i+k=m∧Hid ((rs.take i).all (qW n)=true∧ae w wr))
  case atStart=>exact ⟨0,rfl,by omega,by simp,n_ _ _⟩
  case round =>
   obtain ⟨i,rfl,hik,HR⟩:=hrel;by_cases hlt:i<m
   ·obtain ⟨gr,or',ua,un,uc,er,r0,hints,r1,r2⟩:=((uh HB).below (uh HR).2).get (i:=i) (by rw [uh HM];exact hlt);obtain ⟨q,hq⟩:∃ q,rs.getD i ([],0,false)=q:=⟨_,rfl⟩;have Wh:Hid (q∈rs):=by unfold Hid;rw [<-hq,a_,f_ (by rw [uh HM];exact hlt)];exact aak _
    have Lf:Hid (rs.take (i+1)=rs.take i++[q]):=by
     unfold Hid;rw [<-hq,W_ (by rw [uh HM];exact hlt),a_,f_ (by rw [uh HM];exact hlt)];rfl
    rw [hq] at hints r1 r2;obtain ⟨C,K,E⟩:=q;simp only at hints r1 r2;cases er;have RG:=af (x_ r0 (x_ r1 r2));have OX:=af hints;have XW:Hid (un=C.length):=by
     obtain ⟨ad,cap,e,_⟩:=hints;cases e;rfl
    clear hints hq r2;by_cases hl:un=n
    ·have hl':(un:Int)=(n:Int):=by omega
     have vP:Hid (C.length=n):=by unfold Hid;rw [<-uh XW];exact hl
     have HW:=af (tX K 1000000000000 wr (by decide) (by decide));clear hl;obtain ⟨bk,hbk⟩:∃ bk,dO K 1000000000000=bk:=⟨_,rfl⟩;rw [hbk] at HW;have Md:=af hbk;clear hbk;go_wp2_with fail;refine (uh HW).mono ?_;rintro e w1 ⟨rfl,hw1⟩;rw [hw1];clear hw1 w1;cases bk with
     | false =>
      have HX:Hid (rs.all (qW n)=false):=yl (uh Wh) (by simp [qW,uh Md]);go_wp2;go_ret;exact ⟨by rw [uh hR,uh HX];rfl,(uh HR).2⟩
     | true =>
      go_wp2_with fail;obtain ⟨wo,rfl⟩:∃ wo,wo=wr:=⟨_,rfl⟩;obtain ⟨go',rfl⟩:∃ go',go'=gk:=⟨_,rfl⟩;have U2:=HR;clear HR r0 r1;go_loopg [6] n (λk jv wr2=>∃ (j:Nat),jv=.int .i64 j∧j+k=n∧Hid ((C.take j).all (λx=>dO x 1000)=true∧ae wo wr2))
      case atStart=>exact ⟨0,rfl,by omega,by simp,n_ _ _⟩
      case round =>
       obtain ⟨j,rfl,hjk,HR⟩:=hrel;by_cases hj:j<n
       ·have r0:=(uh HR).2.cell (uh RG).1;obtain ⟨ad,cap,ei,hcell⟩:=(uh OX).below (uh HR).2;cases ei;obtain ⟨gc,oc,eg,c0⟩:=hcell j (by rw [uh vP];exact hj);cases eg;obtain ⟨c,hc⟩:∃ c,C.getD j 0=c:=⟨_,rfl⟩;rw [hc] at c0;have HCM:Hid (c∈C):=by
         unfold Hid;rw [<-hc,a_,f_ (by rw [uh vP];exact hj)];exact aak _
        have HCT:Hid (C.take (j+1)=C.take j++[c]):=by
         unfold Hid;rw [<-hc,W_ (by rw [uh vP];exact hj),a_,f_ (by rw [uh vP];exact hj)];rfl
        have hCn:(j:Int)<(C.length:Int):=by rw [uh vP];omega
        have HW2:=af (tX c 1000 wr (by decide) (by decide));obtain ⟨bc',hbc⟩:∃ bk,dO c 1000=bk:=⟨_,rfl⟩;rw [hbc] at HW2;have HBC:=af hbc;clear hc hcell hbc;go_wp2_with fail;refine (uh HW2).mono ?_;rintro e w1 ⟨rfl,hw1⟩;rw [hw1];clear hw1 w1;cases bc' with
        | false =>
         have HX:Hid (rs.all (qW n)=false):=yl (uh Wh) (by
          have h1:(C.all λx=>dO x 1000)=false:=by
           rw [<-Bool.not_eq_true,aaL];intro ha;have:=ha c (uh HCM);rw [uh HBC] at this;cases this
          simp only [qW,h1,Bool.and_false])
         go_wp2;go_ret;exact ⟨by rw [uh hR,uh HX];rfl,(uh U2).2.trans (uh HR).2⟩
        | true =>
         have HX:Hid ((C.take (j+1)).all (λx=>dO x 1000)=true):=by
          unfold Hid;rw [uh HCT,List.all_append,(uh HR).1];simp [uh HBC]
         go_wp2;go_roundg (gk - 1)
         case measure=>omega
         case rel=>exact ⟨j+1,by simp,by omega,uh HX,(uh HR).2⟩
       ·have hjn:j=n:=by omega
        have HX:Hid ((rs.take (i+1)).all (qW n)=true):=by
         have h1:=(uh HR).1;rw [hjn,<-uh vP,aaG] at h1;unfold Hid;rw [uh Lf,List.all_append,(uh U2).1];simp only [qW,List.all_cons,List.all_nil,h1,uh vP,uh Md];simp
        clear hjn;go_wp2;go_roundg (go' - 1)
        case measure=>omega
        case rel=>exact ⟨i+1,by simp,by omega,uh HX,(uh U2).2.trans (uh HR).2⟩
    ·have hl':¬ ((un:Int)=(n:Int)):=by omega
     have HX:Hid (rs.all (qW n)=false):=yl (uh Wh) (by
      have h1:¬ (C.length=n):=by rw [<-uh XW];exact hl
      simp [qW,h1])
     clear hl;go_wp2;go_ret;exact ⟨by rw [uh hR,uh HX];rfl,(uh HR).2⟩
   ·have hin:i=m:=by omega
    have HX:Hid (rs.all (qW n)=true):=by
     have h1:=(uh HR).1;unfold Hid;rwa [hin,<-uh HM,aaG] at h1
    clear hin;go_wp2;go_ret;exact ⟨by rw [uh hR,uh HX];rfl,(uh HR).2⟩
 ·have h8':(8:Int)<(m:Int):=by omega
  have hR:Hid (wL n rs=false):=by
   unfold Hid wL;rw [uh HM,Z_ h8];rfl
  clear h8;go_enter Tryz.func28,Tryz.ntmps28;go_wp2;go_ret;exact ⟨by rw [uh hR];rfl,n_ _ _⟩
end
def uC (vs:List (Int × Int)) (rs:List dS) (A:List Int):Prop:=kS vs rs A∧∀ B,kS vs rs B->¬ lexLt B A
def mU (vs:List (Int × Int)) (rs:List dS) (w:World) (e:Ending) (w':World):Prop :=
 ∃ (va:Option Addr) (vn vc:Nat) (found:Bool) (errno:Int),e=.returned (.tuple #[.slice va vn vc,.bool found,.int .i64 errno])∧Below w.heap.size w w' ∧
  ((¬ (fI vs∧lI vs.length rs)∧va=none∧vn=0∧vc=0∧found=false∧errno=6) ∨
   (fI vs∧lI vs.length rs∧errno=0∧((found=true∧∃ A,aI w.heap.size w' (.slice va vn vc) A∧uC vs rs A)∨(found=false∧va=none∧vn=0∧vc=0∧∀ A,¬ kS vs rs A))))
attribute [local go_sem] bD
set_option maxHeartbeats 1000000 in
theorem Nt (vs:List (Int × Int)) (rs:List dS) (va vb:Value) (w:World) (ha:jd w va vs) (hb:kP w vb rs) (hmv:vs.length<=maxLen) (hmr:rs.length<=maxLen) :
  Calls Tryz.prog 20 #[va,vb] w (mU vs rs w):=by
 obtain ⟨i0,hi0,hz0,hz1,hz2⟩:=U_ Tryz.jL;obtain ⟨aa,ac,rfl⟩:=ha.aB;obtain ⟨ba,bc,rfl⟩:=hb.aB;have HA:=af ha;have HB:=af hb;obtain ⟨n,hn⟩:∃ n,vs.length=n:=⟨_,rfl⟩;obtain ⟨m,hm⟩:∃ m,rs.length=m:=⟨_,rfl⟩;have HN:=af hn;have HM:=af hm;have HAR:=af (DZ vs _ w ha hmv);have HMR:=af hmr;rw [hn] at HAR HA ⊢;rw [hm] at HB ⊢;obtain ⟨b1,hb1⟩:∃ b1,nM vs=b1:=⟨_,rfl⟩;rw [hb1] at HAR;have HB1:=af hb1;clear ha hb hmv hmr hn hm hb1;go_enter Tryz.func20,Tryz.ntmps20;go_wp2_with fail;refine (uh HAR).mono ?_;rintro e w1 ⟨rfl,hw1⟩;have dN:Hid (ae w w1):=hw1;clear hw1 HAR;cases b1 with
 | false =>
  have Bi:Hid (¬ (fI vs∧lI vs.length rs)):=λh=>by
   have:=nU.2 h.1;rw [uh HB1] at this;cases this
  go_wp2;exact t_ (v:=.tuple #[.slice none 0 0,.bool false,.int .i64 6]) (by simp [results,Tryz.results20,go_sem]) rfl ⟨_,_,_,false,6,rfl,uh dN,.inl ⟨uh Bi,rfl,rfl,rfl,rfl,rfl⟩⟩
 | true =>
  have HV:Hid (fI vs):=nU.1 (uh HB1);have hn4:n<=4:=by have:=(uh HV).four;rw [uh HN] at this;exact this
  have HAW:=af (Io rs n (.slice ba m bc) w1 ((uh HB).below (uh dN)) (uh HMR) hn4);obtain ⟨b2,hb2⟩:∃ b2,wL n rs=b2:=⟨_,rfl⟩;rw [hb2] at HAW;have HB2:=af hb2;clear hb2;go_wp2_with fail;refine (uh HAW).mono ?_;rintro e w2 ⟨rfl,hw2⟩;have HG2:Hid (ae w w2):=(uh dN).trans hw2;clear hw2 HAW dN;cases b2 with
  | false =>
   have Bi:Hid (¬ (fI vs∧lI vs.length rs)):=λh=>by
    have h2:=h.2;rw [uh HN] at h2;have:=rM.2 h2;rw [uh HB2] at this;cases this
   go_wp2;exact t_ (v:=.tuple #[.slice none 0 0,.bool false,.int .i64 6]) (by simp [results,Tryz.results20,go_sem]) rfl ⟨_,_,_,false,6,rfl,uh HG2,.inl ⟨uh Bi,rfl,rfl,rfl,rfl,rfl⟩⟩
  | true =>
   have HRW:Hid (lI vs.length rs):=by unfold Hid;rw [uh HN];exact rM.1 (uh HB2)
   have N7:=af (FT vs rs (.slice aa n ac) (.slice ba m bc) w2 ((uh HA).below (uh HG2)) ((uh HB).below (uh HG2)) (uh HV) (uh HRW));go_wp2_with fail;refine (uh N7).mono ?_;rintro e w3 ⟨v3,rfl,hv3,hb3⟩;have HLP:=af (Ij (uh HV) (uh HRW) v3 w3 hv3);have jb:Hid (ae w w3):=(uh HG2).trans hb3;obtain ⟨vz,vl,vt,rfl,g1,g2,g3⟩:=hv3;obtain ⟨ya,yn,yc,rfl⟩:=g1.aB;obtain ⟨ua,un,uc,rfl⟩:=g2.aB;obtain ⟨ra,rn,rc,rfl⟩:=g3.aB;clear g1 g2 g3 hb3 N7 HG2;go_wp2_with fail;refine (uh HLP).mono ?_;rintro e w4 ⟨vs4,ok,rfl,⟨sa,sn,sc,rfl⟩,hb4,ht,hfl⟩;have kC:Hid (ae w w4):=(uh jb).trans hb4;clear hb4 HLP jb;cases ok with
   | false =>
    have Bi:Hid (∀ A,¬ kS vs rs A):=λA hA=>hfl rfl A ((FR A).2 hA);clear ht hfl;go_wp2;exact t_ (v:=.tuple #[.slice none 0 0,.bool false,.int .i64 0]) (by simp [results,Tryz.results20,go_sem]) rfl ⟨_,_,_,false,0,rfl,uh kC,.inr ⟨uh HV,uh HRW,rfl,.inr ⟨rfl,rfl,rfl,rfl,uh Bi⟩⟩⟩
   | true =>
    obtain ⟨A,hA1,hA2,hA3⟩:=ht rfl;have Ye:Hid (kS vs rs A):=(FR A).1 hA2;have Jn:Hid (uC vs rs A):=⟨uh Ye,λB hB=>hA3 B ((FR B).2 hB)⟩;have hsn:sn=A.length:=by
     obtain ⟨ad,cap,e,_⟩:=hA1;cases e;rfl
    have hAn:A.length=n:=by rw [(uh Ye).len];exact uh HN
    rw [hAn] at hsn;have Ur:=af hAn;have HA1:=af (hA1.mono (P':=(·<w4.heap.size)) (λk hk _=>hk));subst hsn;clear ht hfl hA1 hA2 hA3 hAn;go_wp2_with (at_make;refine wpList_make_full _ rfl _ _ 36 rfl w4.heap.size 3 i0 (.int .i64 0) 1 Tryz.underlying36 hi0 hz0 hz1 .i64 .i64 _ _ sn rfl rfl ?e1 ?e2 ?c1 ?c2 ?c3 ?_)
    case e1=>first | rfl | omega | simp
    case e2=>first | rfl | omega | simp
    case c1=>rw [hz2];omega
    case c2=>unfold maxLen;omega
    case c3=>first | omega | simp
    ·intro w5 hown hgrow;have Xk:ae w4 w5:=(n_ _ _).grown hgrow (d_ _) (by intro k hk;cases hk);have Md:Hid (w5.heap[w4.heap.size]?=some (.cells (rowOf (A.take 0) sn).toArray 3 (0,0))):=by
      have h1:=hown
      try simp only [Value.cells,Nat.mul_one] at h1
      have h2:=jr h1;rw [qp] at h2;exact h2
     have gD:Hid (ae w w5):=(uh kC).trans Xk;have HA5:=af ((uh HA1).below Xk);have hw4:w.heap.size<=w4.heap.size:=(uh kC).size;clear hown hgrow Xk;go_wp2_with fail;generalize hgl:w4.heap.size=gl at *
     go_loopg [10] sn (λk iv wr=>∃ (i:Nat),iv=.int .i64 i∧i+k=sn∧Hid (wr.heap[gl]?=some (.cells (rowOf (A.take i) sn).toArray 3 (0,0))∧ae w wr∧aD (·<gl) wr (.slice sa sn sc) A))
     case atStart=>exact ⟨0,rfl,by omega,uh Md,uh gD,uh HA5⟩
     case round =>
      clear Md gD HA5;obtain ⟨i,rfl,hik,HR⟩:=hrel;by_cases hlt:i<sn
      ·obtain ⟨gp,op,cp,px,pa,pm,pc,ep,p0,p1,hpv⟩:=eU (uh HR).2.2 (i:=i) (by rw [uh Ur];exact hlt);rw [uh Ur] at ep;cases ep;obtain ⟨x,hx⟩:∃ x,A.getD i 0=x:=⟨_,rfl⟩;rw [hx] at hpv;have hxb:=(Ii (uh HV) (uh Ye) i).2;rw [hx] at hxb;have TL:=af (MK (·<gl) _ x wr hpv);rw [h_ ⟨by omega,by omega⟩] at TL;have Be:Hid (A.take (i+1)=A.take i++[x]):=by
        unfold Hid;rw [<-hx,W_ (by rw [uh Ur];exact hlt),a_,f_ (by rw [uh Ur];exact hlt)];rfl
       have Qj:Hid ((A.take i).length=i):=by unfold Hid;rw [T_,uh Ur];omega
       clear hpv hx;go_wp2_with fail;refine (uh TL).mono ?_;rintro e w6 ⟨rfl,hb6⟩;have Qx:=Below.same hb6 _ _ (uh HR).1;have akU:=af Qx;obtain ⟨u,hu⟩:=yZ Qx (k:=i) (by rw [uh Qj];omega) hlt;have hf:=aH Qx i;have qV:Hid ((w6.setCell ⟨gl,i,none⟩ (.int .i64 x)).heap[gl]?=some (.cells (rowOf (A.take (i+1)) sn).toArray 3 (0,0))):=by
        unfold Hid;have h1:=j_ w6 gl i _ _ (.int .i64 x) Qx;have h2:=wB (A.take i) sn x (by rw [uh Qj];exact hlt);rw [uh Qj] at h2;rw [h1,uh Be,<-h2];rfl
       have lT:Hid (ae w (w6.setCell ⟨gl,i,none⟩ (.int .i64 x))):=B_ (p:=⟨gl,i,none⟩) ((uh HR).2.1.trans hb6) hw4 _;have HA6:Hid (aD (·<gl) (w6.setCell ⟨gl,i,none⟩ (.int .i64 x)) (.slice (some ⟨gp,op,none⟩) sn sc) A):=((uh HR).2.2.below hb6).holds (fu (P:=(·<gl)) (Nat.lt_irrefl gl) _ _);clear hb6 Qx TL p0 p1;go_wp2;go_roundg (gk - 1)
       case measure=>omega
       case rel=>exact ⟨i+1,by simp,by omega,uh qV,uh lT,uh HA6⟩
      ·have hin:i=sn:=by omega
       have HOW:Hid (aI w.heap.size wr (.slice (some ⟨gl,0,none⟩) sn sn) A):=by
        have h1:=(uh HR).1;rw [hin,<-uh Ur,aaG] at h1;unfold Hid;rw [<-uh Ur];exact tY h1 rfl hw4 (by rw [uh Ur];omega)
       have lT:=af (uh HR).2.1;clear hin;go_wp2;exact t_ (v:=.tuple #[.slice (some ⟨gl,0,none⟩) sn sn,.bool true,.int .i64 0]) (by simp [results,Tryz.results20,go_sem]) rfl ⟨_,_,_,true,0,rfl,uh lT,.inr ⟨uh HV,uh HRW,rfl,.inl ⟨rfl,A,uh HOW,uh Jn⟩⟩⟩
theorem Mj (vs:List (Int × Int)) (rs:List dS) (va vb:Value) (w:World) (ha:jd w va vs) (hb:kP w vb rs) (hmv:vs.length<=maxLen) (hmr:rs.length<=maxLen) :
  Calls Tryz.prog 8 #[va,vb] w (mU vs rs w):=by
 have HL:=af (Nt vs rs va vb w ha hb hmv hmr);obtain ⟨aa,ac,rfl⟩:=ha.aB;obtain ⟨ba,bc,rfl⟩:=hb.aB;obtain ⟨n,hn⟩:∃ n,vs.length=n:=⟨_,rfl⟩;obtain ⟨m,hm⟩:∃ m,rs.length=m:=⟨_,rfl⟩;rw [hn,hm] at HL ⊢;clear ha hb hmv hmr hn hm;go_enter Tryz.func8,Tryz.ntmps8;go_wp2_with fail;refine (uh HL).mono ?_;rintro e w1 hp;have HP:=af hp;obtain ⟨xa,xn,xc,found,errno,rfl,-⟩:=hp;go_wp2;exact t_ (v:=.tuple #[.slice xa xn xc,.bool found,.int .i64 errno]) (by simp [results,Tryz.results8,go_sem]) rfl (uh HP)
end
section
variable {lo hi:Nat->Int} {m:Nat} {x y p:Nat->Int}
def wM (lo hi:Nat->Int) (m:Nat) (x y:Nat->Int):Prop:=∃ i,i<m∧x i<hi i∧y i=x i+1∧(∀ j,j<i->y j=x j)∧∀ j,i<j->j<m->¬ x j<hi j∧y j=lo j
def yo (hi:Nat->Int) (m:Nat) (x:Nat->Int):Prop:=∀ j,j<m->¬ x j<hi j
def leftOf (lo hi:Nat->Int):Nat->(Nat->Int)->Int
 | 0,_=>0
 | m+1,x=>leftOf lo hi m x*(hi m - lo m+1)+(hi m - x m)
theorem zh {x y:Nat->Int}:∀ m,(∀ j,j<m->x j=y j)->leftOf lo hi m x=leftOf lo hi m y
 | 0,_=>rfl
 | m+1,h=>by
  show leftOf lo hi m x*_+_=leftOf lo hi m y*_+_;rw [zh m (λj hj=>h j (by omega)),h m (by omega)]
theorem wN {x:Nat->Int}:∀ m,(∀ j,j<m->lo j<=hi j)->(∀ j,j<m->x j<=hi j)->0<=leftOf lo hi m x
 | 0,_,_=>aaU _
 | m+1,h,hx=>by
  have h1:=wN m (λj hj=>h j (by omega)) (λj hj=>hx j (by omega));have h2:=h m (by omega);have h3:=hx m (by omega);have:=Y_ h1 (show 0<=hi m - lo m+1 by omega);show 0<=leftOf lo hi m x*(hi m - lo m+1)+(hi m - x m);omega
theorem wM.less {x y:Nat->Int}:∀ m,(∀ j,j<m->lo j<=hi j)->(∀ j,j<m->x j<=hi j)->wM lo hi m x y->leftOf lo hi m y<leftOf lo hi m x
 | 0,_,_,⟨i,hi',_⟩=>absurd hi' (aaD i)
 | m+1,hl,hx,⟨i,him,h1,h2,h3,h4⟩=>by
  show leftOf lo hi m y*(hi m - lo m+1)+(hi m - y m)<leftOf lo hi m x*(hi m - lo m+1)+(hi m - x m);by_cases e:i=m
  ·subst e;rw [zh (x:=y) (y:=x) i (λj hj=>h3 j hj),h2];omega
  ·have hm:=h4 m (by omega) (by omega);have ih:=wM.less m (λj hj=>hl j (by omega)) (λj hj=>hx j (by omega)) ⟨i,by omega,h1,h2,h3,λj hj hjm=>h4 j hj (by omega)⟩;have hw:=hl m (by omega);have hxm:=hx m (by omega);have hle:leftOf lo hi m y*(hi m - lo m+1)<=(leftOf lo hi m x - 1)*(hi m - lo m+1):=A_ (by omega) (by omega);rw [abh,aaH] at hle;rw [hm.2];omega
def wD (m:Nat) (p x:Nat->Int):Prop:=∀ i,i<m->(∀ j,j<i->p j=x j)->x i<=p i
theorem wD.after (h:wD m p x) (ha:wM lo hi m x y) (hp:∀ j,j<m->lo j<=p j∧p j<=hi j) (hne:¬ ∀ j,j<m->p j=x j):wD m p y:=by
 obtain ⟨i,him,h1,h2,h3,h4⟩:=ha
 -- where p and x part first
 have hd:∃ d,d<m∧(∀ j,j<d->p j=x j)∧x d<p d:=by
  apply v_;intro hno;apply hne;have:∀ k,k<=m->∀ j,j<k->p j=x j:=λk=>by
   induction k with
   | zero=>intro _ j hj;omega
   | succ k ih =>
    intro hk j hj;by_cases e:j=k
    ·subst e;have h5:=h j (by omega) (ih (by omega));rcases (show p j=x j∨x j<p j by omega) with h6|h6
     ·exact h6
     ·exact absurd ⟨j,by omega,ih (by omega),h6⟩ hno
    ·exact ih (by omega) j (by omega)
  exact this m (d_ _)
 obtain ⟨d,hdm,hd1,hd2⟩:=hd;have hdi:d<=i:=by
  apply v_;intro hc;have h5:=(h4 d (by omega) hdm).1;have h6:=(hp d hdm).2;omega
 intro k hk hkj;rcases (show k<d∨k=d∨d<k by omega) with h5|h5|h5
 ·rw [h3 k (by omega),hd1 k h5];exact aaU _
 ·subst h5;rcases (show k<i∨k=i by omega) with h6|h6
  ·rw [h3 k h6];omega
  ·subst h6;rw [h2];omega
 ·have h6:=hkj d h5;rcases (show d<i∨d=i by omega) with h7|h7
  ·rw [h3 d h7] at h6;omega
  ·subst h7;rw [(h4 k h5 hk).2];exact (hp k hk).1
theorem wD.none (h:wD m p x) (ha:yo hi m x) (hp:∀ j,j<m->p j<=hi j) (hne:¬ ∀ j,j<m->p j=x j):False:=by
 apply hne;have:∀ k,k<=m->∀ j,j<k->p j=x j:=λk=>by
  induction k with
  | zero=>intro _ j hj;omega
  | succ k ih =>
   intro hk j hj;by_cases e:j=k
   ·subst e;have h5:=h j (by omega) (ih (by omega));have h6:=ha j (by omega);have h7:=hp j (by omega);omega
   ·exact ih (by omega) j (by omega)
 exact this m (d_ _)
end
def kY (eq:Bool) (k c lo hi:Int):Int × Int :=
 if c=0 then (if k<0∨eq=true∧0<k then (1,0) else (lo,hi))
 else if 0<c then (max lo (-(k/c)),if eq then min hi (-k/c) else hi)
 else (if eq then max lo (-(-k / -c)) else lo,min hi (k / -c))
theorem zz (eq:Bool) (k c lo hi v:Int):((kY eq k c lo hi).1<=v∧v<=(kY eq k c lo hi).2)↔(lo<=v∧v<=hi)∧0<=k+c*v∧(eq=true->k+c*v=0):=by
 have dv:∀ a d:Int,0<d->(v<=a/d↔d*v<=a):=λa d hd=>by rw [aa7 hd,u_]
 unfold kY;by_cases h0:c=0
 ·subst h0;rw [h_ rfl,aaM,Int.add_zero];by_cases h1:k<0∨eq=true∧0<k
  ·rw [h_ h1];constructor
   ·rintro ⟨a,b⟩;have a':(1:Int)<=v:=a;have b':v<=0:=b;omega
   ·rintro ⟨_,h2,h3⟩;rcases h1 with h|⟨h,h'⟩
    ·omega
    ·have:=h3 h;omega
  ·rw [g_ h1];have hk:0<=k:=by
    rcases (show k<0∨0<=k by omega) with h|h
    ·exact absurd (.inl h) h1
    ·exact h
   exact ⟨λh=>⟨h,hk,λhe=>by
    rcases (show k=0∨0<k by omega) with h|h
    ·exact h
    ·exact absurd (.inr ⟨he,h⟩) h1⟩,λh=>h.1⟩
 ·rw [g_ h0];by_cases hc:0<c
  ·rw [h_ hc];have e1:-(k/c)<=v↔0<=k+c*v:=by
    have h2:(-v<=k/c↔c*-v<=k):=by rw [aa7 hc,u_]
    rw [abC] at h2;constructor
    ·intro h;have:=h2.1 (by omega);omega
    ·intro h;have:=h2.2 (by omega);omega
   have e2:=dv (-k) c hc;cases eq with
   | false =>
    show (max lo (-(k/c))<=v∧v<=hi)↔_;constructor
    ·rintro ⟨a,b⟩;exact ⟨⟨by omega,b⟩,e1.1 (by omega),λh=>by cases h⟩
    ·rintro ⟨⟨a,b⟩,h,_⟩;have:=e1.2 h;exact ⟨by omega,b⟩
   | true =>
    show (max lo (-(k/c))<=v∧v<=min hi (-k/c))↔_;constructor
    ·rintro ⟨a,b⟩;have h1:=e1.1 (by omega);have h2:=e2.1 (by omega);exact ⟨⟨by omega,by omega⟩,h1,λ_=>by omega⟩
    ·rintro ⟨⟨a,b⟩,h,he⟩;have h1:=e1.2 h;have h2:=e2.2 (by have:=he rfl;omega);exact ⟨by omega,by omega⟩
  ·rw [g_ hc];have hn:0 < -c:=by omega
   have e1:v<=k / -c↔0<=k+c*v:=by
    rw [dv k (-c) hn,aaP];omega
   have e2:-(-k / -c)<=v↔k+c*v<=0:=by
    have h2:(-v<=-k / -c↔-c*-v<=-k):=by rw [aa7 hn,u_]
    rw [Int.neg_mul_neg] at h2;constructor
    ·intro h;have:=h2.1 (by omega);omega
    ·intro h;have:=h2.2 (by omega);omega
   cases eq with
   | false =>
    show (lo<=v∧v<=min hi (k / -c))↔_;constructor
    ·rintro ⟨a,b⟩;exact ⟨⟨a,by omega⟩,e1.1 (by omega),λh=>by cases h⟩
    ·rintro ⟨⟨a,b⟩,h,_⟩;have:=e1.2 h;exact ⟨a,by omega⟩
   | true =>
    show (max lo (-(-k / -c))<=v∧v<=min hi (k / -c))↔_;constructor
    ·rintro ⟨a,b⟩;have h1:=e1.1 (by omega);have h2:=e2.1 (by omega);exact ⟨⟨by omega,by omega⟩,h1,λ_=>by omega⟩
    ·rintro ⟨⟨a,b⟩,h,he⟩;have h1:=e1.2 h;have h2:=e2.2 (by have:=he rfl;omega);exact ⟨by omega,by omega⟩
end
theorem EM:∀ (A B:List Int),A.length=B.length->A≠B->lexLt A B∨lexLt B A
 | [],[],_,h=>absurd rfl h
 | [],_::_,h,_=>by cases h
 | _::_,[],h,_=>by cases h
 | a::A,b::B,h,hn=>by
  rcases (show a<b∨b<a∨a=b by omega) with h1|h1|h1
  ·exact .inl ⟨0,Nat.succ_pos _,λj hj=>absurd hj (aaD j),h1⟩
  ·exact .inr ⟨0,Nat.succ_pos _,λj hj=>absurd hj (aaD j),h1⟩
  ·subst h1;rcases EM A B (Nat.succ.inj h) (λe=>hn (by rw [e])) with ⟨i,hi,h2,h3⟩|⟨i,hi,h2,h3⟩
   ·exact .inl ⟨i+1,Nat.succ_lt_succ hi,λj hj=>by cases j with
     | zero=>rfl
     | succ j=>exact h2 j (Nat.lt_of_succ_lt_succ hj),h3⟩
   ·exact .inr ⟨i+1,Nat.succ_lt_succ hi,λj hj=>by cases j with
     | zero=>rfl
     | succ j=>exact h2 j (Nat.lt_of_succ_lt_succ hj),h3⟩
theorem uC.one {vs:List (Int × Int)} {rs:List dS} {A B:List Int} (h:uC vs rs A) (h':uC vs rs B):A=B:=by
 apply v_;intro hn;rcases EM A B (by rw [h.1.len,h'.1.len]) hn with h1|h1
 ·exact h'.2 _ h.1 h1
 ·exact h.2 _ h'.1 h1
def oD (q:dS) (n:Nat) (x:Nat->Int):Int:=q.2.1+Pl.sm n (λi=>q.1.getD i 0*x i)
def eY (n:Nat) (x:Nat->Int):List dS->Int × Int->Int × Int
 | [],s=>s
 | q::l,s=>if s.1<=s.2 then eY n x l (kY q.2.2 (oD q n x) (q.1.getD n 0) s.1 s.2) else s
theorem EN (n:Nat) (x:Nat->Int) (v:Int):∀ (l:List dS) (s:Int × Int),((eY n x l s).1<=v∧v<=(eY n x l s).2)↔(s.1<=v∧v<=s.2)∧∀ q∈l,0<=oD q n x+q.1.getD n 0*v∧(q.2.2=true->oD q n x+q.1.getD n 0*v=0)
 | [],s=>⟨λh=>⟨h,λq hq=>by cases hq⟩,λh=>h.1⟩
 | q::l,s=>by
  unfold eY;by_cases hs:s.1<=s.2
  ·rw [h_ hs,EN n x v l,zz];constructor
   ·rintro ⟨⟨h1,h2⟩,h3⟩;exact ⟨h1,λp hp=>by
     rcases aa0.1 hp with rfl|hp
     ·exact h2
     ·exact h3 p hp⟩
   ·rintro ⟨h1,h2⟩;exact ⟨⟨h1,h2 q abz⟩,λp hp=>h2 p (aaV _ hp)⟩
  ·rw [g_ hs];constructor
   ·rintro ⟨h1,h2⟩;omega
   ·rintro ⟨⟨h1,h2⟩,_⟩;omega
section
variable {vs:List (Int × Int)} {rs:List dS} {n:Nat} {x:Nat->Int}
theorem AO (q:dS) {A:List Int} (h:A.length=n+1) (hx:∀ j,j<n->A.getD j 0=x j):rowAt q A=oD q n x+q.1.getD n 0*A.getD n 0:=by
 have e:∀ m,m<=n->Pl.sm m (λi=>q.1.getD i 0*A.getD i 0)=Pl.sm m (λi=>q.1.getD i 0*x i):=λm=>by
  induction m with
  | zero=>intro _;rfl
  | succ m ih =>
   intro hm;show Pl.sm m _+_=Pl.sm m _+_;rw [ih (by omega)];show _+q.1.getD m 0*A.getD m 0=_;rw [hx m (by omega)]
 unfold rowAt oD;rw [h];show _+(Pl.sm n _+q.1.getD n 0*A.getD n 0)=_;rw [e n (d_ _)];omega
theorem xP {A:List Int} (hn:vs.length=n+1) (hA:A.length=n+1) (hx:∀ j,j<n->A.getD j 0=x j) (hr:∀ j,j<n->(vs.getD j (0,0)).1<=x j∧x j<=(vs.getD j (0,0)).2) :
  kS vs rs A↔(eY n x rs (vs.getD n (0,0))).1<=A.getD n 0∧A.getD n 0<=(eY n x rs (vs.getD n (0,0))).2:=by
 rw [EN];constructor
 ·intro h;exact ⟨h.range n (by omega),λq hq=>by rw [<-AO q hA hx];exact h.rows q hq⟩
 ·rintro ⟨h1,h2⟩;refine ⟨by rw [hA,hn],λi hi=>?_,λq hq=>by rw [AO q hA hx];exact h2 q hq⟩;rcases (show i<n∨i=n by omega) with h3|h3
  ·rw [hx i h3];exact hr i h3
  ·subst h3;exact h1
def mW (vs:List (Int × Int)) (rs:List dS) (n:Nat) (x:Nat->Int):Prop:=∀ B,kS vs rs B->wD n (λj=>B.getD j 0) x
theorem mW.found {A:List Int} (h:mW vs rs n x) (hn:vs.length=n+1) (hA:A.length=n+1) (hx:∀ j,j<n->A.getD j 0=x j) (hr:∀ j,j<n->(vs.getD j (0,0)).1<=x j∧x j<=(vs.getD j (0,0)).2)
  (hf:(eY n x rs (vs.getD n (0,0))).1<=(eY n x rs (vs.getD n (0,0))).2) (ha:A.getD n 0=(eY n x rs (vs.getD n (0,0))).1):uC vs rs A:=by
 refine ⟨(xP hn hA hx hr).2 ⟨by rw [ha];exact aaU _,by rw [ha];exact hf⟩,?_⟩;rintro B hB ⟨i,hi,h1,h2⟩;have hl:B.length=n+1:=by rw [hB.len,hn]
 rcases (show i<n∨i=n by omega) with h3|h3
 ·have h4:=h B hB i h3 (λj hj=>by show B.getD j 0=x j;rw [h1 j hj,hx j (by omega)]);have h5:x i<=B.getD i 0:=h4;rw [hx i h3] at h2;omega
 ·subst h3;have h4:=(xP hn hl (λj hj=>by rw [h1 j hj,hx j hj]) hr).1 hB;rw [ha] at h2;omega
theorem mW.ZI (hn:vs.length=n+1) (hr:∀ j,j<n->(vs.getD j (0,0)).1<=x j∧x j<=(vs.getD j (0,0)).2)
  (hf:¬ (eY n x rs (vs.getD n (0,0))).1<=(eY n x rs (vs.getD n (0,0))).2) {B:List Int} (hB:kS vs rs B):¬ ∀ j,j<n->B.getD j 0=x j:=λhe=>by
 have h4:=(xP hn (by rw [hB.len,hn]) he hr).1 hB;omega
theorem mW.next {y:Nat->Int} (h:mW vs rs n x) (hn:vs.length=n+1) (hr:∀ j,j<n->(vs.getD j (0,0)).1<=x j∧x j<=(vs.getD j (0,0)).2)
  (hf:¬ (eY n x rs (vs.getD n (0,0))).1<=(eY n x rs (vs.getD n (0,0))).2) (ha:wM (λj=>(vs.getD j (0,0)).1) (λj=>(vs.getD j (0,0)).2) n x y):mW vs rs n y:=λB hB =>
 (h B hB).after ha (λj hj=>hB.range j (by omega)) (mW.ZI hn hr hf hB)
theorem mW.done (h:mW vs rs n x) (hn:vs.length=n+1) (hr:∀ j,j<n->(vs.getD j (0,0)).1<=x j∧x j<=(vs.getD j (0,0)).2)
  (hf:¬ (eY n x rs (vs.getD n (0,0))).1<=(eY n x rs (vs.getD n (0,0))).2) (ha:yo (λj=>(vs.getD j (0,0)).2) n x) (B:List Int):¬ kS vs rs B:=λhB =>
 (h B hB).none ha (λj hj=>(hB.range j (by omega)).2) (mW.ZI hn hr hf hB)
end
end Go.Proofs.YtgaafamcajcifaaGreat
