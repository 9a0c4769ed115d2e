/- Joined: SBase SLaw1 SRef2 SLaw2. -/
import Derived.Test.YtgaafamcajcifaaGreatK44
set_option linter.unusedVariables false
set_option linter.unusedSimpArgs false
set_option maxRecDepth 100000
namespace Go.Proofs.YtgaafamcajcifaaGreat
open Go.RowKit
theorem oN {w:World} (cs:Array Value) (T:TypeId):∀ j u,cs.toList[j]?=some u->(w.alloc (.cells cs T)).cell? ((⟨w.heap.size,0,none⟩:Addr).add j)=some u:=by
 intro j u hj;have hadd:(⟨w.heap.size,0,none⟩:Addr).add j=⟨w.heap.size,j,none⟩:=by unfold Addr.add;split <;> simp_all
 rw [hadd,cellsOf (aax w (.cells cs T)) j]
 simpa using hj
theorem xY (x y:Value) (hx:x.oneCell'=true) (hy:y.oneCell'=true):∀ u∈[x,y],u.oneCell'=true:=by
 intro u hu;simp at hu;rcases hu with rfl | rfl <;> assumption
theorem rF {w:World} {B B':Nat} {e:TypeId} {size:Nat} {v:Value} {n:Nat} {xs:List Value} (h:w.ownsRow B e size v n xs) (hB:B'<=B):w.ownsRow B' e size v n xs:=by
 refine ⟨h.1,?_⟩;rcases h.2 with hn|⟨g,cap,cur,rfl,hb,rest⟩
 ·exact .inl hn
 ·exact .inr ⟨g,cap,cur,rfl,by omega,rest⟩
theorem lN {w:World} {B:Nat} {e:TypeId} {size:Nat} {v:Value} {n:Nat} {xs:List Value} (h:w.ownsRow B e size v n xs):∃ ad cap,v=.slice ad n cap:=by
 rcases h.2 with ⟨rfl,hn⟩|⟨g,cap,cur,rfl,_⟩
 ·exact ⟨none,0,by rw [hn]⟩
 ·exact ⟨_,_,rfl⟩
set_option maxHeartbeats 400000 in
theorem Rv (n:Int) (w:World):Calls Tryz.prog 16 #[.int .i64 n] w λe w'=>e=.returned (.int .i64 n)∧w'=w:=by
 go_enter Tryz.func16,Tryz.ntmps16;go_wp2;go_ret;exact ⟨rfl,rfl⟩
set_option maxHeartbeats 1000000 in
theorem sG (l:List Int) (va vb:Value) (w:World) (ha:bI w va l) (hb:bI w vb l) (hl:l.length<=maxLen) :
  Calls Tryz.prog 12 #[va,vb] w λe w'=>e=.returned (.bool true)∧∃ n,w'=w.drewN n:=by
 unfold maxLen at hl;obtain ⟨ada,ajg,rfl,ca⟩:=ha;obtain ⟨adb,ajh,rfl,cb⟩:=hb;have HA:=af ca;have HB:=af cb;clear ca cb;go_enter Tryz.func12,Tryz.ntmps12;go_wp2;go_loopw [5] (λi wr=>∃ (k n:Nat),k<=l.length∧i=.int .i64 k∧wr=w.drewN n) (λi _=>l.length - (intOf i).toNat)
 case atStart=>exact ⟨0,0,by omega,rfl,rfl⟩
 case round =>
  obtain ⟨k,n,hk,rfl,rfl⟩:=hrel;by_cases hlt:k<l.length
  ·obtain ⟨b1,o1,rfl,c1⟩:=uh HA k hlt;obtain ⟨b2,o2,rfl,c2⟩:=uh HB k hlt;go_wp2;go_quiet (fail);go_wp2;go_roundw
   case rel=>exact ⟨k+1,_,by omega,by go_num,rfl⟩
   case measure=>simp [intOf];omega
  ·go_wp2;go_ret;exact ⟨rfl,_,rfl⟩
def WX:Int:=1099511627783
def bV (home:List Int) (j:Nat):List Value:=home.map bF++(List.replicate j (bF WX)++List.replicate (2 - j) (bF 0))
theorem Dw (n:Nat):(madeCells #[Value.int .i64 0] n).toList=List.replicate n (bF 0):=by
 apply List.ext_getElem
 ·simp [madeCells]
 ·intro i h1 h2;simp [madeCells,bF,Nat.mod_one]
theorem LM {w:World} {B:Nat} {e:TypeId} {g n:Nat} {xs:List Value} (h:w.ownsRow B e 1 (.slice (some ⟨g,0,none⟩) n n) n xs):w.heap[g]?=some (.cells xs.toArray e (0,0)):=by
 rcases h.2 with ⟨h1,_⟩|⟨g',cap,cur,he,hb,hgg,hle,hm,hcs,htk⟩
 ·simp at h1
 ·simp only [Value.slice.injEq,Option.some.injEq,Addr.mk.injEq,and_true,true_and] at he;obtain ⟨rfl,rfl⟩:=he;have:cur=xs.toArray:=by
   apply Array.ext';rw [<-htk];simp only [Nat.mul_one] at hcs ⊢;rw [aaE (by simp [hcs])]
  rw [hgg,this]
theorem Gg (home:List Int):splice (List.replicate (home.length+2) (bF 0)) 0 (home.map bF)=bV home 0:=by
 simp [splice,bV,List.drop_replicate]
theorem Ow (home:List Int) (j:Nat) (hj:j<2):(bV home j).toArray.setIfInBounds (home.length+j) (bF WX)=(bV home (j+1)).toArray:=by
 have:j=0∨j=1:=by omega
 apply Array.ext';rcases this with rfl|rfl
 ·simp [bV,List.replicate]
 ·simp [bV,List.replicate]
set_option maxHeartbeats 2000000 in
theorem Ox (home:List Int) (vh:Value) (w:World) (hh:bI w vh home) (hl:home.length<=17592186043904) :
  Calls Tryz.prog 19 #[vh] w λe w'=>∃ g,e=.returned (.slice (some ⟨g,0,none⟩) (home.length+2) (home.length+2))∧w.heap.size<=g∧w'.heap[g]?=some (.cells (bV home 2).toArray 3 (0,0))∧Below w.heap.size w w':=by
 obtain ⟨i0,hi,hz0,hz1,hz2⟩:=U_ Tryz.jL;have HH:=af hh;obtain ⟨a8,p8,rfl,_⟩:=hh;go_enter Tryz.func19,Tryz.ntmps19;go_wp2_with (at_make;refine wpList_make_full _ rfl _ _ 36 rfl w.heap.size 3 i0 (.int .i64 0) 1 Tryz.underlying36 hi hz0 hz1 .i64 .i64 _ _ (home.length+2) rfl rfl ?e1 ?e2 ?c1 ?c2 ?c3 ?_)
 case e1=>first | rfl | omega | simp
 case e2=>first | rfl | omega | simp
 case c1=>rw [hz2];omega
 case c2=>unfold maxLen;omega
 case c3=>omega
 ·intro w1 hown hgrow;have hb1:Below w.heap.size w w1:=(n_ _ _).grown hgrow (d_ _) (by intro k hk;cases hk);have hblk:w1.heap[w.heap.size]?=some (.cells (List.replicate (home.length+2) (bF 0)).toArray 3 (0,0)):=by
   have:=LM hown;rw [Dw] at this;exact this
  have hsz:(Tryz.prog.info? 3).map (·.size)=some 1:=by rw [hi];simp [hz1]
  obtain ⟨cs,hcs⟩:∃ cs,cs=home.map bF:=⟨_,rfl⟩;have hcl:cs.length=home.length:=by rw [hcs];simp
  have TE:=af hcs;have hsrc:0<cs.length->∃ ad,a8=some ad∧∀ j v,cs[j]?=some v->w1.cell? (ad.add j)=some v:=by
   intro hpos;obtain ⟨b8,o8,rfl,_⟩:=nT (uh HH) 0 (by omega);refine ⟨_,rfl,λj v hj=>?_⟩;have hjl:j<home.length:=by rw [<-hcl];exact (List.getElem?_eq_some_iff.1 hj).1
   obtain ⟨b9,o9,e9,c9⟩:=nT (uh HH) j hjl;simp only [Option.some.injEq,Addr.mk.injEq,and_true] at e9;obtain ⟨rfl,rfl⟩:=e9;have e3:(⟨b8,o8,none⟩:Addr).add j=⟨b8,o8+j,none⟩:=by unfold Addr.add;split <;> simp_all
   rw [e3,rG hb1 c9];rw [hcs,aal,f_ hjl] at hj
   simpa [bF] using hj
  obtain ⟨w2,hcp,hblk2,hb2⟩:∃ w2,(Builtin.copy_ #[36,36] 3 #[.slice (some ⟨w.heap.size,0,none⟩) (home.length+2) (home.length+2),.slice a8 home.length p8]).run Tryz.prog w1=.ok (.int .i64 home.length) w2∧w2.heap[w.heap.size]?=some (.cells (bV home 0).toArray 3 (0,0))∧Below w.heap.size w w2:=by
   by_cases h0:home.length=0
   ·have hnil:home=[]:=aaz h0;subst hnil;exact ⟨w1,run_copy_none (P:=Tryz.prog) w1 36 36 3 3 _ _ _ _ _ _ Tryz.underlying36 hsz (by simp),hblk,hb1⟩
   ·obtain ⟨ad,rfl,NZ⟩:=hsrc (by omega);have hr:=run_copy_row (P:=Tryz.prog) w1 36 36 3 3 w.heap.size 0 (home.length+2) (home.length+2) ad home.length p8 _ 3 cs Tryz.underlying36 hsz hblk (by rw [hcl];exact (aa3 (by omega)).symm) NZ (by rw [hcl];simp) (by intro v hv;rw [hcs] at hv;obtain ⟨x,_,rfl⟩:=m_.1 hv;rfl);rw [hcl] at hr;refine ⟨_,hr,?_,below_setRow hb1 (d_ _) _⟩;rw [setRow_heap w1 w.heap.size _ _ 3 _ hblk];congr 2;rw [<-Gg,<-hcs];simp [splice,hcl]
  have H2:Hid (w2.heap[w.heap.size]?=some (.cells (bV home 0).toArray 3 (0,0))∧Below w.heap.size w w2):=⟨hblk2,hb2⟩;clear hown hgrow hblk hcs hsrc hb1 hblk2 hb2 hcl hsz
  ·go_wp2;go_loopw [4] (λi wr=>∃ j:Nat,j<=2∧i=.int .i64 ((home.length:Int)+j)∧Hid (wr.heap[w.heap.size]?=some (.cells (bV home j).toArray 3 (0,0))∧Below w.heap.size w wr)) (λi _=>home.length+2 - (intOf i).toNat)
   case atStart=>exact ⟨0,by omega,by simp,H2⟩
   case round =>
    obtain ⟨j,hj,rfl,hh⟩:=hrel;clear H2;by_cases hlt:j<2
    ·have hlen:(bV home j).length=home.length+2:=by unfold bV;simp;omega
     have hc:∃ u,wr.cell? ⟨w.heap.size,home.length+j,none⟩=some u:=by
      rw [cellsOf (uh hh).1];exact ⟨(bV home j)[home.length+j]'(by omega),by simp⟩
     obtain ⟨u,WY⟩:=hc;have hfr:wr.frozen? ⟨w.heap.size,home.length+j,none⟩=false:=aH (uh hh).1 _;have HN:Hid ((wr.setCell ⟨w.heap.size,home.length+j,none⟩ (.int .i64 1099511627783)).heap[w.heap.size]?=some (.cells (bV home (j+1)).toArray 3 (0,0))∧Below w.heap.size w (wr.setCell ⟨w.heap.size,home.length+j,none⟩ (.int .i64 1099511627783))):=by
      refine ⟨?_,(uh hh).2.setCell (p:=⟨w.heap.size,home.length+j,none⟩) (d_ _) _⟩;rw [j_ wr _ _ _ _ _ (uh hh).1];have:=Ow home j hlt;rw [<-this];rfl
     clear hh hlen;go_wp2;go_roundw
     case rel=>exact ⟨j+1,by omega,by go_num,HN⟩
     case measure=>simp [intOf];omega
    ·have hj2:j=2:=by omega
     subst hj2;go_wp2;go_ret;exact ⟨_,rfl,d_ _,(uh hh).1,(uh hh).2⟩
theorem Oy (home:List Int) (i:Nat) (hi:i<home.length):(bV home 2)[i]?=some (.int .i64 home[i]):=by
 unfold bV;rw [aah (by simpa using hi),aal,f_ hi];rfl
theorem Oz (home:List Int) (i:Nat) (h1:home.length<=i) (h2:i<home.length+2):(bV home 2)[i]?=some (.int .i64 1099511627783):=by
 unfold bV;rw [R_ (by simpa using h1)];simp only [L_,List.replicate,Nat.sub_self,abk];have:i - home.length=0∨i - home.length=1:=by omega
 rcases this with h|h <;> rw [h] <;> rfl
theorem wX {w:World} {g:Nat} {home:List Int} (h:w.heap[g]?=some (.cells (bV home 2).toArray 3 (0,0))) (cap:Nat):bI w (.slice (some ⟨g,0,none⟩) home.length cap) home:=by
 refine ⟨_,_,rfl,λi hi=>⟨g,0,rfl,?_⟩⟩;rw [M_,cellsOf h,aaX,Oy home i hi,a_,f_ hi];rfl
set_option maxHeartbeats 1000000 in
theorem OA (home:List Int) (vh:Value) (g:Nat) (w:World) (hh:bI w vh home) (hg:w.heap[g]?=some (.cells (bV home 2).toArray 3 (0,0))) (hl:home.length<=17592186043904) :
  Calls Tryz.prog 25 #[.slice (some ⟨g,0,none⟩) (home.length+2) (home.length+2),vh] w λe w'=>e=.returned (.bool true)∧∃ n,w'=w.drewN n:=by
 have hS:=af (sG home (.slice (some ⟨g,0,none⟩) home.length (home.length+2)) vh w (wX hg _) hh (by unfold maxLen;omega));have HG:=af hg;obtain ⟨a8,p8,rfl,_⟩:=hh;clear hg;go_enter Tryz.func25,Tryz.ntmps25;go_wp2_with fail;refine (uh hS).mono ?_;rintro e w1 ⟨rfl,m,hw1⟩;rw [hw1];clear hw1 w1 hS;go_wp2;go_loopw [6] (λi wr=>∃ (j n:Nat),j<=2∧i=.int .i64 ((home.length:Int)+j)∧wr=w.drewN n) (λi _=>home.length+2 - (intOf i).toNat)
 case atStart=>exact ⟨0,m,by omega,by simp,rfl⟩
 case round =>
  obtain ⟨j,n,hj,rfl,rfl⟩:=hrel;by_cases hlt:j<2
  ·have hc:(w.drewN n).cell? ⟨g,home.length+j,none⟩=some (.int .i64 1099511627783):=by
    have:w.cell? ⟨g,home.length+j,none⟩=some (.int .i64 1099511627783):=by
     rw [cellsOf (uh HG),aaX];exact Oz home _ (by omega) (by omega)
    exact this
   go_wp2;go_roundw
   case rel=>exact ⟨j+1,_,by omega,by go_num,rfl⟩
   case measure=>simp [intOf];omega
  ·go_wp2;go_ret;exact ⟨rfl,_,rfl⟩
set_option maxHeartbeats 400000 in
theorem BC (b:Nat) (N:Nat) (v1 v2 v3:Value) (w:World) (hb:w.heap[b]?=some (.cells #[.int .i64 N,v1,v2,v3] 29 (0,0))) (hN:N<=1000000000) :
  Calls Tryz.prog 26 #[.pointer (some ⟨b,0,none⟩)] w λe w'=>e=.returned (.int .i64 (1099511627783+(N+1:Int)))∧w'=w.setCell ⟨b,0,none⟩ (.int .i64 (N+1:Int)):=by
 have c0:w.cell? ⟨b,0,none⟩=some (.int .i64 N):=by rw [cellsOf hb];rfl
 have f0:w.frozen? ⟨b,0,none⟩=false:=aH hb 0;have c0':(w.setCell ⟨b,0,none⟩ (.int .i64 (N+1:Int))).cell? ⟨b,0,none⟩=some (.int .i64 (N+1:Int)):=by
  rw [cellsOf (j_ w b 0 _ _ _ hb)];rfl
 have f0':(w.setCell ⟨b,0,none⟩ (.int .i64 (N+1:Int))).frozen? ⟨b,0,none⟩=false:=aH (j_ w b 0 _ _ _ hb) 0;go_enter Tryz.func26,Tryz.ntmps26;go_wp2;go_ret;exact ⟨rfl,rfl⟩
end Go.Proofs.YtgaafamcajcifaaGreat

namespace Go.Proofs.YtgaafamcajcifaaGreat
open Go.RowKit Go.Sort
theorem BS {lo hi:Int}:kT (lo,hi)=true↔-1000000000<=lo∧lo<=hi∧hi<=1000000000:=by
 unfold kT;rw [N_,N_,dW,dW,abm];show ((-1000000000<=lo∧lo<=1000000000)∧(-1000000000<=hi∧hi<=1000000000))∧lo<=hi↔_;omega
theorem KQ {α:Type} {p:α->Bool} {l:List α} {a:α} (hm:a∈l) (h:p a=false):l.all p=false:=by
 rw [<-Bool.not_eq_true,aaL];intro ha;rw [ha a hm] at h;cases h
def Ee (vs:List (Int × Int)) (rs:List dS):Bool:=nM vs&&wL vs.length rs
theorem lZ {α:Type} {l:List α} {i:Nat} {d a:α} (h:i<l.length) (ha:l.getD i d=a):l.take (i+1)=l.take i++[a]∧a∈l:=by
 have e:l[i]=a:=by rw [<-ha,a_,f_ h];rfl
 exact ⟨by rw [W_ h,e],by rw [<-e];exact aak _⟩
set_option maxHeartbeats 1000000 in
theorem OW (vs:List (Int × Int)) (rs:List dS) (va vb:Value) (w:World) (ha:jd w va vs) (hb:kP w vb rs) (hmv:vs.length<=maxLen) (hmr:rs.length<=maxLen) :
  Calls Tryz.prog 21 #[va,vb] w λe w'=>e=.returned (.bool (Ee vs rs))∧ae w w':=by
 obtain ⟨aa,ac,rfl⟩:=ha.aB;obtain ⟨ba,bc,rfl⟩:=hb.aB;have HA:=af ha;have HB:=af hb;obtain ⟨n,hnn⟩:∃ n,vs.length=n:=⟨_,rfl⟩;obtain ⟨m,hmm⟩:∃ m,rs.length=m:=⟨_,rfl⟩;have HN:=af hnn;have HM:=af hmm;obtain ⟨F,hF⟩:∃ F,Ee vs rs=F:=⟨_,rfl⟩;have HF:=af hF;rw [hF];rw [hnn] at HA hmv ⊢;rw [hmm] at HB hmr ⊢;unfold maxLen at hmv hmr;clear ha hb hnn hmm hF;by_cases h4:(1<=n∧n<=4)∧m<=8
 ·have HFA:Hid (F=(vs.all kT&&rs.all (qW n))):=by
   unfold Hid;rw [<-uh HF];unfold Ee;rw [Ef (by rw [uh HM];exact h4.2),uh HN];unfold nM;rw [uh HN,aaB h4.1];rfl
  have h8':¬ ((8:Int)<(m:Int)):=by omega
  have h4':¬ ((4:Int)<(n:Int)):=by omega
  have h0':¬ ((n:Int)=0):=by omega
  clear h4 HF;go_enter Tryz.func21,Tryz.ntmps21;go_wp2_with fail;go_loopw [5] (λiv wr=>∃ (i:Nat),iv=.int .i64 i∧i<=n∧Hid ((vs.take i).all kT=true∧ae w wr)) (λiv _=>n - (intOf iv).toNat)
  case atStart=>exact ⟨0,rfl,by omega,by simp,n_ _ _⟩
  case round =>
   obtain ⟨i,rfl,hin,HR⟩:=hrel;by_cases hlt:i<n
   ·obtain ⟨gv,ov,ev,c0,c1⟩:=((uh HA).below (uh HR).2).get (i:=i) (by rw [uh HN];exact hlt);cases ev;obtain ⟨⟨lo,hi⟩,hq⟩:∃ q,vs.getD i (0,0)=q:=⟨_,rfl⟩;have Be:=af (lZ (by rw [uh HN];exact hlt) hq);rw [hq] at c0 c1;simp only at c0 c1;have x0:(wr.alloc (.cells #[.int .i64 lo,.int .i64 hi] 54)).cell? ⟨wr.heap.size,0,none⟩=some (.int .i64 lo):=by rw [cellsOf (aG wr _)];rfl
    have x1:(wr.alloc (.cells #[.int .i64 lo,.int .i64 hi] 54)).cell? ⟨wr.heap.size,1,none⟩=some (.int .i64 hi):=by rw [cellsOf (aG wr _)];rfl
    have HG:Hid (ae w (wr.alloc (.cells #[.int .i64 lo,.int .i64 hi] 54))):=(uh HR).2.trans (ae.alloc _ _);clear hq;by_cases hok:-1000000000<=lo∧lo<=hi∧hi<=1000000000
    ·have HX:Hid ((vs.take (i+1)).all kT=true):=by
      unfold Hid;rw [(uh Be).1,List.all_append,(uh HR).1,List.all_cons,List.all_nil,BS.2 hok];rfl
     obtain ⟨o1,o2,o3⟩:=hok;go_wp2;go_roundw
     case rel=>exact ⟨i+1,by simp,by omega,uh HX,uh HG⟩
     case measure=>simp [intOf];omega
    ·have HX:Hid (F=false):=by
      unfold Hid;rw [uh HFA,KQ (uh Be).2 (abH.2 λh=>hok (BS.1 h))];rfl
     by_cases o1:lo < -1000000000
     ·clear hok;go_wp2;go_ret;exact ⟨by rw [uh HX];rfl,uh HG⟩
     ·by_cases o2:hi<lo
      ·clear hok;go_wp2;go_ret;exact ⟨by rw [uh HX];rfl,uh HG⟩
      ·have o3:1000000000<hi:=by omega
       clear hok;go_wp2;go_ret;exact ⟨by rw [uh HX];rfl,uh HG⟩
   ·have L6:i=n:=by omega
    have HV:Hid (F=rs.all (qW n)):=by
     have h1:=(uh HR).1;rw [L6,<-uh HN,aaG] at h1;unfold Hid;rw [uh HFA,h1];rfl
    have xV:=af (uh HR).2;clear L6 HFA HR HA;go_wp2_with fail;obtain ⟨wo,rfl⟩:∃ wo,wo=wr:=⟨_,rfl⟩;go_loopw [7] (λjv wr=>∃ (j:Nat),jv=.int .i64 j∧j<=m∧Hid ((rs.take j).all (qW n)=true∧ae w wr)) (λjv _=>m - (intOf jv).toNat)
    case atStart=>exact ⟨0,rfl,by omega,by simp,uh xV⟩
    case round =>
     obtain ⟨j,rfl,hjm,HR⟩:=hrel;by_cases hlj:j<m
     ·obtain ⟨gr,or',ua,un,uc,er,r0,hints,r1,r2⟩:=((uh HB).below (uh HR).2).get (i:=j) (by rw [uh HM];exact hlj);obtain ⟨⟨C,K,E⟩,hq⟩:∃ q,rs.getD j ([],0,false)=q:=⟨_,rfl⟩;have Be:=af (lZ (by rw [uh HM];exact hlj) hq);rw [hq] at hints r1 r2;simp only at hints r1 r2;cases er;have XW:Hid (un=C.length):=by
       obtain ⟨ad,cap,e,_⟩:=hints;cases e;rfl
      have OX:=af (hints.below (ae.alloc wr (.cells #[.slice ua un uc,.int .i64 K,.bool E] 59)));have x0:(wr.alloc (.cells #[.slice ua un uc,.int .i64 K,.bool E] 59)).cell? ⟨wr.heap.size,0,none⟩=some (.slice ua un uc):=by rw [cellsOf (aG wr _)];rfl
      have x1:(wr.alloc (.cells #[.slice ua un uc,.int .i64 K,.bool E] 59)).cell? ⟨wr.heap.size,1,none⟩=some (.int .i64 K):=by rw [cellsOf (aG wr _)];rfl
      have HG:Hid (∀ q,ae w ((wr.alloc (.cells #[.slice ua un uc,.int .i64 K,.bool E] 59)).drewN q)):=λq=>abb ((uh HR).2.trans (ae.alloc _ _)) q;clear hq hints;by_cases hok:un=n∧-1000000000000<=K∧K<=1000000000000
      ·obtain ⟨o1,o2,o3⟩:=hok;have vP:Hid (C.length=n):=by unfold Hid;rw [<-uh XW];exact o1
       have HWK:Hid (dO K 1000000000000=true):=dW.2 ⟨o2,o3⟩;subst o1;go_wp2_with fail;obtain ⟨wo2,rfl⟩:∃ wo,wo=wr:=⟨_,rfl⟩;have U2:=af (uh HR).1;clear HR;go_loopw [9] (λkv wr=>∃ (k q:Nat),kv=.int .i64 k∧k<=un∧wr=(wo2.alloc (.cells #[.slice ua un uc,.int .i64 K,.bool E] 59)).drewN q∧Hid ((C.take k).all (λx=>dO x 1000)=true)) (λkv _=>un - (intOf kv).toNat)
       case atStart=>exact ⟨0,0,rfl,by omega,rfl,af (by simp)⟩
       case round =>
        obtain ⟨k,q,rfl,hkn,rfl,HK⟩:=hrel;by_cases hlk:k<un
        ·obtain ⟨gc,oc,eg,y0⟩:=nT (uh OX) k (by rw [uh vP];exact hlk);cases eg;obtain ⟨c,hc⟩:∃ c,C.getD k 0=c:=⟨_,rfl⟩;have HTC:=af (lZ (by rw [uh vP];exact hlk) hc);have hc2:C[k]'(by rw [uh vP];exact hlk)=c:=by rw [<-hc,a_,f_ (by rw [uh vP];exact hlk)];rfl
         rw [hc2] at y0;clear hc hc2;by_cases ho:-1000<=c∧c<=1000
         ·have HX:Hid ((C.take (k+1)).all (λx=>dO x 1000)=true):=by
           unfold Hid;rw [(uh HTC).1,List.all_append,uh HK,List.all_cons,List.all_nil,dW.2 ho];rfl
          obtain ⟨p1,p2⟩:=ho;go_wp2
          try (go_quiet (fail);go_wp2)
          go_roundw
          case rel=>exact ⟨k+1,_,by simp,by omega,rfl,uh HX⟩
          case measure=>simp [intOf];omega
         ·have HX:Hid (F=false):=by
           unfold Hid;rw [uh HV,yl (uh Be).2];have:(C.all λx=>dO x 1000)=false:=KQ (uh HTC).2 (abH.2 λh=>ho (dW.1 h));simp only [qW,this,Bool.and_false]
          by_cases p1:c < -1000
          ·clear ho;go_wp2
           try (go_quiet (fail);go_wp2)
           go_ret;exact ⟨by rw [uh HX];rfl,uh HG _⟩
          ·have p2:1000<c:=by omega
           clear ho;go_wp2
           try (go_quiet (fail);go_wp2)
           go_ret;exact ⟨by rw [uh HX];rfl,uh HG _⟩
        ·have hek:k=un:=by omega
         have HX:Hid ((rs.take (j+1)).all (qW un)=true):=by
          have h1:=uh HK;rw [hek,<-uh vP,aaG] at h1;unfold Hid;rw [(uh Be).1,List.all_append,uh U2];simp only [qW,List.all_cons,List.all_nil,h1,uh vP,uh HWK];simp
         clear hek;go_wp2;go_roundw
         case rel=>exact ⟨j+1,by simp,by omega,uh HX,uh HG _⟩
         case measure=>simp [intOf];omega
      ·have HX:Hid (F=false):=by
        unfold Hid;rw [uh HV,yl (uh Be).2];unfold qW;rw [abH];intro h;rw [N_,N_,abm,dW] at h;exact hok ⟨by rw [uh XW];exact h.1.1,h.1.2⟩
       by_cases o1:un=n
       ·subst o1;by_cases o2:K < -1000000000000
        ·clear hok;go_wp2
         try (go_quiet (fail);go_wp2)
         go_ret;exact ⟨by rw [uh HX];rfl,uh HG 0⟩
        ·have o3:1000000000000<K:=by omega
         clear hok;go_wp2
         try (go_quiet (fail);go_wp2)
         go_ret;exact ⟨by rw [uh HX];rfl,uh HG 0⟩
       ·have o1':¬ ((un:Int)=(n:Int)):=by omega
        clear hok o1;go_wp2
        try (go_quiet (fail);go_wp2)
        go_ret;exact ⟨by rw [uh HX];rfl,uh HG 0⟩
     ·have U0:j=m:=by omega
      have HX:Hid (F=true):=by
       have h1:=(uh HR).1;rw [U0,<-uh HM,aaG] at h1;unfold Hid;rw [uh HV,h1]
      have HG:=af (uh HR).2;clear U0;go_wp2;go_ret;exact ⟨by rw [uh HX];rfl,uh HG⟩
 ·have HX:Hid (F=false):=by
   unfold Hid;rw [<-uh HF];unfold Ee;rw [abH];intro h;rw [N_,nU,rM] at h;have h1:=h.1.one;have h2:=h.1.four;have h3:=h.2.pI;rw [uh HN] at h1 h2;rw [uh HM] at h3;exact h4 ⟨⟨h1,h2⟩,h3⟩
  by_cases h0:n=0
  ·subst h0;clear h4;go_enter Tryz.func21,Tryz.ntmps21;go_wp2;go_ret;exact ⟨by rw [uh HX];rfl,n_ _ _⟩
  ·have h0':¬ ((n:Int)=0):=by omega
   by_cases h5:4<n
   ·have h5':(4:Int)<(n:Int):=by omega
    clear h4 h0;go_enter Tryz.func21,Tryz.ntmps21;go_wp2;go_ret;exact ⟨by rw [uh HX];rfl,n_ _ _⟩
   ·have h5':¬ (4:Int)<(n:Int):=by omega
    have h8':(8:Int)<(m:Int):=by omega
    clear h4 h0;go_enter Tryz.func21,Tryz.ntmps21;go_wp2;go_ret;exact ⟨by rw [uh HX];rfl,n_ _ _⟩
end Go.Proofs.YtgaafamcajcifaaGreat

namespace Go.Proofs.YtgaafamcajcifaaGreat
open Go.RowKit
def UR (v:Int × Int):List Value:=[.int .i64 v.1,.int .i64 v.2]
def dU (l:List (Int × Int)):List Value:=l.flatMap UR
theorem kz (l:List (Int × Int)):(dU l).length=l.length*2:=by
 induction l with
 | nil=>rfl
 | cons a l ih=>show (UR a++dU l).length=_;rw [C_,ih];simp [UR];omega
theorem oO:∀ (l:List (Int × Int)) (i:Nat),i<l.length->(dU l)[i*2]?=some (.int .i64 (l.getD i (0,0)).1)∧(dU l)[i*2+1]?=some (.int .i64 (l.getD i (0,0)).2)
 | [],i,h=>absurd h (aaD i)
 | a::l,0,_=>⟨rfl,rfl⟩
 | a::l,i+1,h=>by
  have:=oO l i (by simpa using h);rw [show (i+1)*2=i*2+2 by omega];exact this
theorem xZ:∀ (l:List (Int × Int)) (i:Nat) (r:Int × Int),((dU l).set (i*2) (.int .i64 r.1)).set (i*2+1) (.int .i64 r.2)=dU (l.set i r)
 | [],i,r=>rfl
 | a::l,0,r=>rfl
 | a::l,i+1,r=>by
  rw [show (i+1)*2=i*2+2 by omega];show .int .i64 a.1::.int .i64 a.2::((dU l).set (i*2) _).set (i*2+1) _=.int .i64 a.1::.int .i64 a.2::dU (l.set i r);rw [xZ l i r]
def eG (w:World) (g:Nat) (l:List (Int × Int)):Prop:=w.heap[g]?=some (.cells (dU l).toArray 54 (0,0))
section
variable {w:World} {g:Nat} {l:List (Int × Int)}
theorem eG.cell (h:eG w g l) {i:Nat} (hi:i<l.length):w.cell? ⟨g,i*2,none⟩=some (.int .i64 (l.getD i (0,0)).1)∧w.cell? ⟨g,i*2+1,none⟩=some (.int .i64 (l.getD i (0,0)).2):=by
 rw [cellsOf h,cellsOf h,aaX,aaX];exact oO l i hi
theorem eG.set (h:eG w g l) (i:Nat) (r:Int × Int):eG ((w.setCell ⟨g,i*2,none⟩ (.int .i64 r.1)).setCell ⟨g,i*2+1,none⟩ (.int .i64 r.2)) g (l.set i r):=by
 have h1:=j_ w g (i*2) _ _ (.int .i64 r.1) h;have h2:=j_ _ g (i*2+1) _ _ (.int .i64 r.2) h1;unfold eG;rw [h2,<-xZ];congr 2;apply Array.ext';simp
theorem eG.at (h:eG w g l) {n cap:Nat} (hn:n<=l.length):jd w (.slice (some ⟨g,0,none⟩) n cap) (l.take n):=by
 refine ⟨some ⟨g,0,none⟩,cap,by rw [T_,aa3 hn],λi hi=>?_⟩;rw [T_,aa3 hn] at hi;have:=h.cell (i:=i) (by omega);have e:(l.take n)[i]'(by rw [T_];omega)=l.getD i (0,0):=by
  rw [List.getElem_take,a_,f_ (by omega)];rfl
 rw [e];exact ⟨g,0,rfl,by rw [M_];exact this.1,by rw [M_];exact this.2⟩
theorem eG.grow {w':World} (h:eG w g l) (hg:ae w w'):eG w' g l:=(Below.block hg g (z_ h)).trans h
end
theorem Tryz.LW:(Tryz.prog.info? 54).map (λi=>(i.zero,i.size,i.bytes))=some (some (.agg #[.int .i64 0,.int .i64 0]),2,16):=by kernel_rfl
def RB:Int × Int:=(1099511627783,-1099511627783)
set_option maxHeartbeats 400000 in
theorem x9 (w:World):Calls Tryz.prog 18 #[] w λe w'=>e=.returned (.agg #[.int .i64 1099511627783,.int .i64 (-1099511627783)])∧ae w w':=by
 go_enter Tryz.func18,Tryz.ntmps18;go_wp2;exact t_ (v:=.agg #[.int .i64 1099511627783,.int .i64 (-1099511627783)]) (by simp [results,Tryz.results18,go_sem]) rfl ⟨rfl,ae.alloc _ _⟩
set_option maxHeartbeats 400000 in
theorem wK (n:Int) (w:World) (h1:-4000000000000000000<=n) (h2:n<=4000000000000000000):Calls Tryz.prog 17 #[.int .i64 n] w λe w'=>e=.returned (.agg #[.int .i64 n,.int .i64 (-n)])∧ae w w':=by
 go_enter Tryz.func17,Tryz.ntmps17;go_wp2;exact t_ (v:=.agg #[.int .i64 n,.int .i64 (-n)]) (by simp [results,Tryz.results17,go_sem]) rfl ⟨rfl,ae.alloc _ _⟩
theorem BK {w:World} {B:Nat} {e:TypeId} {g n k:Nat} {xs:List Value} (h:w.ownsRow B e k (.slice (some ⟨g,0,none⟩) n n) n xs):w.heap[g]?=some (.cells xs.toArray e (0,0)):=by
 rcases h.2 with ⟨h1,_⟩|⟨g',cap,cur,he,hb,hgg,hle,hm,hcs,htk⟩
 ·simp at h1
 ·simp only [Value.slice.injEq,Option.some.injEq,Addr.mk.injEq,and_true,true_and] at he;obtain ⟨rfl,rfl⟩:=he;have:cur=xs.toArray:=by
   apply Array.ext';rw [<-htk,aaE (by simp [hcs])]
  rw [hgg,this]
theorem OG (n:Nat):(madeCells #[Value.int .i64 0,Value.int .i64 0] (n*2)).toList=dU (List.replicate n (0,0)):=by
 apply List.ext_getElem?;intro j;by_cases hj:j<n*2
 ·have h1:(madeCells #[Value.int .i64 0,Value.int .i64 0] (n*2)).toList[j]?=some (.int .i64 0):=by
   have:j%2=0∨j%2=1:=by omega
   rcases this with h|h <;> simp [madeCells,hj,h]
  rw [h1];have hh:j/2<(List.replicate n ((0,0):Int × Int)).length:=by simp;omega
  have:=oO (List.replicate n (0,0)) (j/2) hh;have e:(List.replicate n ((0,0):Int × Int)).getD (j/2) (0,0)=(0,0):=by
   rw [a_,f_ hh];simp
  rw [e] at this;rcases (show j=j/2*2∨j=j/2*2+1 by omega) with h|h
  ·rw [h];exact this.1.symm
  ·rw [h];exact this.2.symm
 ·rw [O_ (by simp [madeCells];omega),O_ (by rw [kz];simp;omega)]
theorem ui (a b:List (Int × Int)):dU (a++b)=dU a++dU b:=List.flatMap_append
def lQ (vs:List (Int × Int)) (j:Nat):List (Int × Int):=vs++(List.replicate j RB++List.replicate (2 - j) (0,0))
theorem vN (vs:List (Int × Int)) {j:Nat} (h:j<=2):(lQ vs j).length=vs.length+2:=by unfold lQ;simp;omega
theorem LX (vs:List (Int × Int)) {j:Nat} (h:j<2):(lQ vs j).set (vs.length+j) RB=lQ vs (j+1):=by
 unfold lQ;rw [List.set_append,g_ (by omega),abN];rcases (show j=0∨j=1 by omega) with rfl|rfl <;> rfl
theorem RD {w:World} {ad:Option Addr} {n cap:Nat} {vs:List (Int × Int)} (h:jd w (.slice ad n cap) vs) (h0:0<vs.length):∃ g off,ad=some ⟨g,off,none⟩∧∀ j v,(dU vs)[j]?=some v->w.cell? ((⟨g,off,none⟩:Addr).add j)=some v:=by
 obtain ⟨g,off,e,_⟩:=h.get h0;refine ⟨g,off,e,λj v hj=>?_⟩;have hjl:j<vs.length*2:=by rw [<-kz];exact (List.getElem?_eq_some_iff.1 hj).1
 obtain ⟨g',off',e',c0,c1⟩:=h.get (i:=j/2) (by omega);rw [e] at e';cases e';have e3:(⟨g,off,none⟩:Addr).add j=⟨g,off+j,none⟩:=by unfold Addr.add;split <;> simp_all
 have hc:=oO vs (j/2) (by omega);rw [e3];rcases (show j=j/2*2∨j=j/2*2+1 by omega) with h' | h'
 ·rw [h'] at hj ⊢;rw [hc.1] at hj;cases hj;exact c0
 ·rw [h'] at hj ⊢;rw [hc.2] at hj;cases hj;exact c1
theorem RF {vs:List (Int × Int)}:∀ v∈dU vs,v.oneCell'=true:=λv hv=>by
 obtain ⟨a,_,ha⟩:=List.mem_flatMap.1 hv;rcases aa0.1 ha with rfl|ha
 ·rfl
 ·rw [I_.1 ha];rfl
theorem run_copy_nil {P:Program} (w:World) (dT sT ty elem:TypeId) {k:Nat} (d a:Option Addr) (dLen dCap sLen sCap:Nat) (hu:P.underlying dT=some (.slice elem)) (hs:(P.info? elem).map (·.size)=some k) (hn:Nat.min sLen dLen=0) :
  (Builtin.copy_ #[dT,sT] ty #[.slice d dLen dCap,.slice a sLen sCap]).run P w=.ok (goInt 0) w:=by
 cases hq:P.info? elem with
 | none=>simp [hq] at hs
 | some i =>
  have hl:∀ (x:Addr),(loadCells x 0).run P w=.ok #[] w:=λx=>by simpa using run_loadCells_list (P:=P) w x [] (by simp)
  cases d <;> cases a <;> simp [Builtin.copy_,run_underlying hu,Builtin.lenOf,Builtin.firstCells,sizeOf,typeInfo,hq,hn,storeCells,hl]
set_option maxHeartbeats 1000000 in
theorem BI (vs:List (Int × Int)) (va:Value) (w:World) (ha:jd w va vs) (hl:vs.length<=1048576) :
  Calls Tryz.prog 6 #[va] w λe w'=>∃ g,e=.returned (.slice (some ⟨g,0,none⟩) (vs.length+2) (vs.length+2))∧w.heap.size<=g∧eG w' g (lQ vs 2)∧ae w w':=by
 obtain ⟨i0,hi,hz0,hz1,hz2⟩:=U_ Tryz.LW;obtain ⟨aa,ac,rfl⟩:=ha.aB;have HA:=af ha;obtain ⟨n,hn⟩:∃ n,vs.length=n:=⟨_,rfl⟩;have HN:=af hn;have HI:=af (λwq=>x9 wq);rw [hn] at HA hl ⊢;clear ha hn;go_enter Tryz.func6,Tryz.ntmps6;go_wp2_with (at_make;refine wpList_make_full _ rfl _ _ 22 rfl w.heap.size 54 i0 (.agg #[.int .i64 0,.int .i64 0]) 2 Tryz.underlying22 hi hz0 hz1 .i64 .i64 _ _ (n+2) rfl rfl ?e1 ?e2 ?c1 ?c2 ?c3 ?_)
 case e1=>first | rfl | omega | simp
 case e2=>first | rfl | omega | simp
 case c1=>rw [hz2];omega
 case c2=>unfold maxLen;omega
 case c3=>omega
 ·intro w1 hown hgrow;have hb1:ae w w1:=(n_ _ _).grown hgrow (d_ _) (by intro k hk;cases hk);have hblk:eG w1 w.heap.size (List.replicate (n+2) (0,0)):=by
   have h1:=BK hown;unfold eG;rw [h1,<-OG]
  have hsz:(Tryz.prog.info? 54).map (·.size)=some 2:=by rw [hi];simp [hz1]
  obtain ⟨w2,hcp,hblk2,hb2⟩:∃ w2,(Builtin.copy_ #[22,22] 3 #[.slice (some ⟨w.heap.size,0,none⟩) (n+2) (n+2),.slice aa n ac]).run Tryz.prog w1=.ok (.int .i64 n) w2∧eG w2 w.heap.size (lQ vs 0)∧ae w w2:=by
   by_cases h0:n=0
   ·have hnil:vs=[]:=aaz (by rw [uh HN];exact h0);subst h0;rw [hnil];exact ⟨w1,run_copy_nil (P:=Tryz.prog) w1 22 22 3 54 _ _ _ _ _ _ Tryz.underlying22 hsz (by simp),hblk,hb1⟩
   ·obtain ⟨g,off,rfl,NZ⟩:=RD ((uh HA).below hb1) (by rw [uh HN];omega);have hcl:(dU vs).length=n*2:=by rw [kz,uh HN]
    have hr:=kX (P:=Tryz.prog) w1 22 22 3 54 2 w.heap.size 0 (n+2) (n+2) ⟨g,off,none⟩ n ac _ 54 (dU vs) Tryz.underlying22 hsz hblk (by rw [hcl];congr 1;exact (aa3 (by omega)).symm) NZ (by rw [hcl];simp [kz];omega) RF;have hmin:Nat.min n (n+2)=n:=aa3 (by omega);rw [hmin] at hr;refine ⟨_,hr,?_,below_setRow hb1 (d_ _) _⟩;unfold eG;rw [setRow_heap w1 w.heap.size _ _ 54 _ hblk];congr 2;rw [List.take_zero,List.nil_append];unfold lQ;rw [ui];congr 1;rw [hcl];have e:dU (List.replicate (n+2) ((0,0):Int × Int))=dU (List.replicate n (0,0))++dU (List.replicate 2 (0,0)):=by rw [<-ui,List.replicate_append_replicate]
    show (dU vs)++(dU (List.replicate (n+2) (0,0))).drop (0+n*2)=_;rw [e,M_,List.drop_append_of_le_length (by rw [kz];simp),List.drop_of_length_le (by rw [kz];simp)]
    rfl
  have H2:Hid (eG w2 w.heap.size (lQ vs 0)∧ae w w2):=⟨hblk2,hb2⟩;clear hown hgrow hblk hb1 hblk2 hb2 hsz
  ·go_wp2_with fail;go_loopw [4] (λi wr=>∃ j:Nat,j<=2∧i=.int .i64 ((n:Int)+j)∧Hid (eG wr w.heap.size (lQ vs j)∧ae w wr)) (λi _=>n+2 - (intOf i).toNat)
   case atStart=>exact ⟨0,by omega,by simp,H2⟩
   case round =>
    obtain ⟨j,hj,rfl,hh⟩:=hrel;clear H2;by_cases hlt:j<2
    ·go_wp2_with fail;refine (uh HI _).mono ?_;rintro e w3 ⟨rfl,hg3⟩;have hb3:=(uh hh).1.grow hg3;obtain ⟨c0,c1⟩:=hb3.cell (i:=n+j) (by rw [vN vs hj,uh HN];omega);have f0:w3.frozen? ⟨w.heap.size,(n+j)*2,none⟩=false:=aH hb3 _;have f1:w3.frozen? ⟨w.heap.size,(n+j)*2+1,none⟩=false:=aH hb3 _;have HN2:Hid (eG ((w3.setCell ⟨w.heap.size,(n+j)*2,none⟩ (.int .i64 1099511627783)).setCell ⟨w.heap.size,(n+j)*2+1,none⟩ (.int .i64 (-1099511627783))) w.heap.size (lQ vs (j+1))∧ae w ((w3.setCell ⟨w.heap.size,(n+j)*2,none⟩ (.int .i64 1099511627783)).setCell ⟨w.heap.size,(n+j)*2+1,none⟩ (.int .i64 (-1099511627783)))):=by
      refine ⟨?_,B_ (p:=⟨w.heap.size,(n+j)*2+1,none⟩) (B_ (p:=⟨w.heap.size,(n+j)*2,none⟩) ((uh hh).2.trans hg3) (d_ _) _) (d_ _) _⟩;rw [<-LX vs hlt,uh HN];exact hb3.set (n+j) RB
     clear hh hg3 hb3;go_wp2;go_roundw
     case rel=>exact ⟨j+1,by omega,by go_num,HN2⟩
     case measure=>simp [intOf];omega
    ·have hj2:j=2:=by omega
     subst hj2;go_wp2;go_ret;exact ⟨_,rfl,d_ _,(uh hh).1,(uh hh).2⟩
theorem LY (vs:List (Int × Int)) (i:Nat) (hi:i<vs.length+2):(lQ vs 2).getD i (0,0)=if i<vs.length then vs.getD i (0,0) else RB:=by
 unfold lQ;rw [a_]
 split <;> rename_i h
 ·rw [aah h,a_]
 ·rw [R_ (by omega)];rcases (show i - vs.length=0∨i - vs.length=1 by omega) with h' | h' <;> rw [h'] <;> rfl
set_option maxHeartbeats 1000000 in
theorem BJ (vs:List (Int × Int)) (va:Value) (g:Nat) (w:World) (ha:jd w va vs) (hg:eG w g (lQ vs 2)) (hl:vs.length<=1048576) :
  Calls Tryz.prog 10 #[.slice (some ⟨g,0,none⟩) (vs.length+2) (vs.length+2),va] w λe w'=>e=.returned (.bool true)∧ae w w':=by
 obtain ⟨aa,ac,rfl⟩:=ha.aB;have HA:=af ha;have HGB:=af hg;obtain ⟨n,hn⟩:∃ n,vs.length=n:=⟨_,rfl⟩;have HN:=af hn;have HI:=af (λwq=>x9 wq);rw [hn] at HA hl ⊢;clear ha hn hg;go_enter Tryz.func10,Tryz.ntmps10;go_wp2_with fail;go_loopw [5] (λiv wr=>∃ i:Nat,i<=n+2∧iv=.int .i64 i∧Hid (ae w wr)) (λiv _=>n+2 - (intOf iv).toNat)
 case atStart=>exact ⟨0,by omega,rfl,n_ _ _⟩
 case round =>
  obtain ⟨i,hi,rfl,HR⟩:=hrel;by_cases hlt:i<n+2
  ·go_wp2_with fail;refine (uh HI _).mono ?_;rintro e w3 ⟨rfl,hg3⟩;have hG3:ae w w3:=(uh HR).trans hg3;have hbk:=(uh HGB).grow hG3;obtain ⟨c0,c1⟩:=hbk.cell (i:=i) (by rw [vN vs (d_ 2),uh HN];exact hlt);rw [LY vs i (by rw [uh HN];exact hlt),uh HN] at c0 c1;have hgl:g≠w3.heap.size:=Nat.ne_of_lt (z_ hbk);by_cases hin:i<n
   ·rw [h_ hin] at c0 c1;obtain ⟨ga,oa,ea,d0,d1⟩:=((uh HA).below hG3).get (i:=i) (by rw [uh HN];exact hin);cases ea;obtain ⟨⟨lo,hi'⟩,hq⟩:∃ q,vs.getD i (0,0)=q:=⟨_,rfl⟩;rw [hq] at c0 c1 d0 d1;simp only at c0 c1 d0 d1;have k0:=(ae.alloc w3 (.cells #[.int .i64 1099511627783,.int .i64 (-1099511627783)] 54)).cell d0;have k1:=(ae.alloc w3 (.cells #[.int .i64 1099511627783,.int .i64 (-1099511627783)] 54)).cell d1;have l0:=(ae.alloc w3 (.cells #[.int .i64 lo,.int .i64 hi'] 54)).cell c0;have l1:=(ae.alloc w3 (.cells #[.int .i64 lo,.int .i64 hi'] 54)).cell c1;have x0:(w3.alloc (.cells #[.int .i64 lo,.int .i64 hi'] 54)).cell? ⟨w3.heap.size,0,none⟩=some (.int .i64 lo):=by rw [cellsOf (aG w3 _)];rfl
    have x1:(w3.alloc (.cells #[.int .i64 lo,.int .i64 hi'] 54)).cell? ⟨w3.heap.size,1,none⟩=some (.int .i64 hi'):=by rw [cellsOf (aG w3 _)];rfl
    have kC:Hid (∀ q,ae w ((w3.alloc (.cells #[.int .i64 lo,.int .i64 hi'] 54)).drewN q)):=λq=>abb (hG3.trans (ae.alloc _ _)) q;clear hq hg3 hG3 hbk HR;go_wp2;go_quiet (fail);go_wp2;go_roundw
    case rel=>exact ⟨i+1,by omega,by go_num,uh kC _⟩
    case measure=>simp [intOf];omega
   ·rw [g_ hin] at c0 c1;have c0':w3.cell? ⟨g,i*2,none⟩=some (.int .i64 1099511627783):=c0;have c1':w3.cell? ⟨g,i*2+1,none⟩=some (.int .i64 (-1099511627783)):=c1;have l0:=(ae.alloc w3 (.cells #[.int .i64 1099511627783,.int .i64 (-1099511627783)] 54)).cell c0';have l1:=(ae.alloc w3 (.cells #[.int .i64 1099511627783,.int .i64 (-1099511627783)] 54)).cell c1';have x0:(w3.alloc (.cells #[.int .i64 1099511627783,.int .i64 (-1099511627783)] 54)).cell? ⟨w3.heap.size,0,none⟩=some (.int .i64 1099511627783):=by rw [cellsOf (aG w3 _)];rfl
    have x1:(w3.alloc (.cells #[.int .i64 1099511627783,.int .i64 (-1099511627783)] 54)).cell? ⟨w3.heap.size,1,none⟩=some (.int .i64 (-1099511627783)):=by rw [cellsOf (aG w3 _)];rfl
    have kC:Hid (∀ q,ae w ((w3.alloc (.cells #[.int .i64 1099511627783,.int .i64 (-1099511627783)] 54)).drewN q)):=λq=>abb (hG3.trans (ae.alloc _ _)) q;clear hg3 hG3 hbk HR c0 c1;go_wp2;go_quiet (fail);go_wp2;go_roundw
    case rel=>exact ⟨i+1,by omega,by go_num,uh kC _⟩
    case measure=>simp [intOf];omega
  ·have HG:=HR;clear HR;go_wp2;go_ret;exact ⟨rfl,uh HG⟩
end Go.Proofs.YtgaafamcajcifaaGreat
