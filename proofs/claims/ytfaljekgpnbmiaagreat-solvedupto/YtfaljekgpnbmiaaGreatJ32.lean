/- Joined: XSol11 XSet1 XSet2 XSet3. -/
import Derived.Test.YtfaljekgpnbmiaaGreatJ06
import Derived.Test.YtfaljekgpnbmiaaGreatJ31
set_option linter.unusedVariables false
set_option linter.unusedSimpArgs false
set_option maxRecDepth 100000
namespace Go.Proofs.YtfaljekgpnbmiaaGreat
open Go.RowKit Go.Sort
def KZ (v:Value):Prop:=∃ n a1 m1 c1 a2 m2 c2 a3 m3 c3,v=.agg #[.int .i64 n,.slice a1 m1 c1,.slice a2 m2 c2,.slice a3 m3 c3]
def jC (r:aP) (s:Nat->Int) (r':aP):Prop :=
 (r'=r∧s 0=0∧∃ kk St,Pl.gZ r.size s kk St∧∀ j,j<r.size->Pl.aQ r.size St s j=0) ∨
 ∃ at_ kk St x,IV r.size s at_ kk St∧x=Int.fdiv (-s 0) (Pl.aQ r.size St s at_)∧s 0+Pl.aQ r.size St s at_*x=0∧r'=(r.bL (iU r.size St)).fixed at_ x
def Md (r:aP) (s:Nat->Int):Prop :=
 (s 0≠0∧∃ kk St,Pl.gZ r.size s kk St∧∀ j,j<r.size->Pl.aQ r.size St s j=0) ∨
 ∃ at_ kk St,IV r.size s at_ kk St∧s 0+Pl.aQ r.size St s at_*Int.fdiv (-s 0) (Pl.aQ r.size St s at_)≠0
theorem F9 {P:Nat->Prop} {w0 w:World} {r:aP} {a1 a2 a3:Option Addr} {m1 m2 m3 c1 c2 c3:Nat} (hR:o5 P w0 (.slice a1 m1 c1) (.slice a2 m2 c2) (.slice a3 m3 c3) r) (hg:ae w0 w) {g:Nat} (hge:w0.heap.size<=g) {cs:Array Value} (hb:w.heap[g]?=some (.cells cs 164 (0,0))) :
  ae w0 ((((w.setCell ⟨g,0,none⟩ (.int .i64 r.size)).setCell ⟨g,1,none⟩ (.slice a1 m1 c1)).setCell ⟨g,2,none⟩ (.slice a2 m2 c2)).setCell ⟨g,3,none⟩ (.slice a3 m3 c3))∧jV P ((((w.setCell ⟨g,0,none⟩ (.int .i64 r.size)).setCell ⟨g,1,none⟩ (.slice a1 m1 c1)).setCell ⟨g,2,none⟩ (.slice a2 m2 c2)).setCell ⟨g,3,none⟩ (.slice a3 m3 c3)) (.agg #[.int .i64 r.size,.slice a1 m1 c1,.slice a2 m2 c2,.slice a3 m3 c3]) r:=by
 have h:=iW (P:=P) hg hge hb r.size a1 m1 c1 a2 m2 c2 a3 m3 c3;exact ⟨h.1,_,_,_,rfl,(hR.zero.below hg).holds h.2,(hR.least.below hg).holds h.2,(hR.told.below hg).holds h.2⟩
theorem eP.bL {r:aP} (h:eP r) {M:List (List Int)}:eP (r.bL M):=by
 have key:∀ ls:List (List Int),∀ l∈ls.map (λa=>dI a M r.size),l.length=r.size+1:=λls l hl=>by
  obtain ⟨a,_,rfl⟩:=m_.1 hl;simp [dI]
 exact ⟨key _,key _,key _,by show (r.zero.map _).length<=_;rw [L_];exact h.Az,by show (r.least.map _).length<=_;rw [L_];exact h.vB,by show (r.told.map _).length<=_;rw [L_];exact h.uP⟩
theorem dG.mono {K K':Nat} {r:aP} (h:dG K r) (hk:K<=K'):dG K' r:=⟨λi k=>(h.zero i k).mono hk,λi k=>(h.least i k).mono hk,λi k=>(h.told i k).mono hk⟩
theorem dG.bL {L:Nat} {r:aP} {M:List (List Int)} (h:dG (5*L+1) r) (hM:∀ i k,Pl.Lt (5*L+1) ((M.getD i []).getD k 0)) (hn:r.size<=100):dG (10*L+3) (r.bL M):=by
 have h0:∀ K,Pl.Lt K 0:=λK=>by rw [Pl.eB];exact abx (by omega)
 have key:∀ ls:List (List Int),(∀ i k,Pl.Lt (5*L+1) ((ls.getD i []).getD k 0))->∀ i k,Pl.Lt (10*L+3) (((ls.map (λa=>dI a M r.size)).getD i []).getD k 0):=λls hls i k=>by
  rcases hi:ls[i]? with _|a
  ·have e:(ls.map (λa=>dI a M r.size)).getD i []=[]:=by rw [a_,aas,hi];rfl
   rw [e];exact h0 _
  ·have e:(ls.map (λa=>dI a M r.size)).getD i []=dI a M r.size:=by rw [a_,aas,hi];rfl
   have ha:ls.getD i []=a:=by rw [a_,hi];rfl
   have DK:=hls i;rw [ha] at DK;rw [e];unfold dI;by_cases hk:k<r.size+1
   ·rw [Pl.bK _ _ _ hk];unfold mh
    split
    ·exact (DK 0).mono (by omega)
    ·exact (IU DK (hM _) (by omega)).mono (by omega)
   ·rw [a_,P_ (by simp;omega)];exact h0 _
 exact ⟨key _ h.zero,key _ h.least,key _ h.told⟩
section
section
section
attribute [local go_sem] bE
set_option maxHeartbeats 2000000 in
theorem IJ (P:Nat->Prop) (L:Nat) (r:aP) (s:List Int) (vr vs:Value) (w:World) (hP:∀ b,w.heap.size<=b->P b) (h:jV P w vr r) (hs:aD P w vs s) (hok:eP r) (hlen:s.length=r.size+1) (hn:r.size<=100) (hlt:dG L r) (hl:∀ k,Pl.Lt L (s.getD k 0)) (hK:20*L+10<=1500000000000) :
  Calls Tryz.prog 212 #[vr,vs] w λe w'=>∃ (v':Value) (ok:Bool),e=.returned (.tuple #[v',.bool ok])∧KZ v'∧Below w.heap.size w w'∧(ok=true->∃ r',jV P w' v' r'∧jC r (λk=>s.getD k 0) r')∧(ok=false->Md r (λk=>s.getD k 0)):=by
 obtain ⟨vz,vl,vt,rfl,h1,h2,h3⟩:=h;obtain ⟨za,zn,zc,rfl⟩:=h1.aB;obtain ⟨la,ln,lc,rfl⟩:=h2.aB;obtain ⟨ta,tn,tc,rfl⟩:=h3.aB;have HR:=af (o5.mk h1 h2 h3);have EJ:=af hok;have HS:=af hs;have HLEN:=af hlen;obtain ⟨sa,sc,rfl⟩:∃ ad cap,vs=.slice ad (r.size+1) cap:=by obtain ⟨ad,cap,e,_⟩:=hs;rw [hlen] at e;exact ⟨ad,cap,e⟩
 obtain ⟨gs,os,ac,px,pa,pm,pc,es,p0,p1,hpv⟩:=eY (uh HS) (i:=0) (by rw [uh HLEN];omega);rw [uh HLEN] at es;cases es;rw [show os+0*2=os by omega] at p0 p1;have wB:=af hpv;have OC:=af (x_ p0 p1);clear hpv p0 p1;have hb:=aG w (.cells #[.int .i64 r.size,.slice za zn zc,.slice la ln lc,.slice ta tn tc] 164);have hb2:=Below.same (ae.alloc (w.alloc (.cells #[.int .i64 r.size,.slice za zn zc,.slice la ln lc,.slice ta tn tc] 164)) (.cells #[.int .i64 0,.slice none 0 0,.slice none 0 0,.slice none 0 0] 164)) _ _ hb;have HZ:Hid (((w.alloc (.cells #[.int .i64 r.size,.slice za zn zc,.slice la ln lc,.slice ta tn tc] 164)).alloc (.cells #[.int .i64 0,.slice none 0 0,.slice none 0 0,.slice none 0 0] 164)).heap[w.heap.size+1]?=some (.cells #[.int .i64 0,.slice none 0 0,.slice none 0 0,.slice none 0 0] 164)):=by
  have:=aG (w.alloc (.cells #[.int .i64 r.size,.slice za zn zc,.slice la ln lc,.slice ta tn tc] 164)) (.cells #[.int .i64 0,.slice none 0 0,.slice none 0 0,.slice none 0 0] 164);rwa [H_] at this
 have HO:=af hb2;have HG:Hid (ae w ((w.alloc (.cells #[.int .i64 r.size,.slice za zn zc,.slice la ln lc,.slice ta tn tc] 164)).alloc (.cells #[.int .i64 0,.slice none 0 0,.slice none 0 0,.slice none 0 0] 164))):=ae.trans (ae.alloc _ _) (ae.alloc _ _);clear h1 h2 h3 hs hok hlen hb hb2;go_enter Tryz.func212,Tryz.ntmps212;go_wp2_with fail;generalize hW:(w.alloc (.cells #[.int .i64 r.size,.slice za zn zc,.slice la ln lc,.slice ta tn tc] 164)).alloc (.cells #[.int .i64 0,.slice none 0 0,.slice none 0 0,.slice none 0 0] 164)=W at *
 clear hW;refine (Ga P L r.size s _ W (λb' hb'=>hP b' (by have:=(uh HG).size;omega)) ((uh HS).below (uh HG)) (uh HLEN) hn hl (by omega)).mono ?_;rintro e w1 ⟨g,c,rfl,hb1,hc⟩;have dP:Hid (ae w w1):=(uh HG).trans hb1;have HZ1:=af (Below.same hb1 _ _ (uh HZ));have jw:=af (Below.same hb1 _ _ (uh HO));clear hb1 HZ HO HG;rcases hc with ⟨rfl,hzero⟩|⟨at_,kk,St,rfl,hstr,hrows⟩
 ·have Vf:=af hzero;clear hzero;have y1:=(uh dP).cell (uh OC).1;have y2:=(uh dP).cell (uh OC).2;have k0:w1.cell? ⟨w.heap.size,0,none⟩=some (.int .i64 r.size):=by rw [cellsOf (uh jw)];rfl
  have k1:w1.cell? ⟨w.heap.size,1,none⟩=some (.slice za zn zc):=by rw [cellsOf (uh jw)];rfl
  have k2:w1.cell? ⟨w.heap.size,2,none⟩=some (.slice la ln lc):=by rw [cellsOf (uh jw)];rfl
  have k3:w1.cell? ⟨w.heap.size,3,none⟩=some (.slice ta tn tc):=by rw [cellsOf (uh jw)];rfl
  have HK:=af (x_ k0 (x_ k1 (x_ k2 k3)));have Zi:=af (λw2 (hg:ae w1 w2)=>bZ P _ (s.getD 0 0) w2 (((uh wB).below (uh dP)).below hg));obtain ⟨sg,hsg⟩:∃ sg,Int.sign (s.getD 0 0)=sg:=⟨_,rfl⟩;rw [hsg] at Zi;by_cases hz:s.getD 0 0=0
  ·have hs0:sg=0:=by rw [<-hsg,hz];rfl
   subst hs0;have HZ0:=af hz;clear hsg hz;go_wp2_with fail
   go_region_with (go_at_call 214;refine (uh Zi _ (by repeat (first | exact n_ _ _ | refine aaQ ?_))).mono ?_;rintro e w5 ⟨rfl,pO⟩;have gG:Hid (ae w1 w5):=ae.trans (by repeat (first | exact n_ _ _ | refine aaQ ?_)) pO;clear pO;have z8:=af (Below.same (uh gG) _ _ (uh HZ1));have z0:w5.cell? ⟨w.heap.size+1,0,none⟩=some (.int .i64 0):=(by rw [cellsOf (uh z8)];rfl);have z1:w5.cell? ⟨w.heap.size+1,1,none⟩=some (.slice none 0 0):=(by rw [cellsOf (uh z8)];rfl);have z2:w5.cell? ⟨w.heap.size+1,2,none⟩=some (.slice none 0 0):=(by rw [cellsOf (uh z8)];rfl);have z3:w5.cell? ⟨w.heap.size+1,3,none⟩=some (.slice none 0 0):=(by rw [cellsOf (uh z8)];rfl);have f0:=aH (uh z8) 0;have f1:=aH (uh z8) 1;have f2:=aH (uh z8) 2;have f3:=aH (uh z8) 3;have v3:=(uh gG).cell (uh HK).1;have v4:=(uh gG).cell (uh HK).2.1;have v5:=(uh gG).cell (uh HK).2.2.1;have v6:=(uh gG).cell (uh HK).2.2.2)
   all_goals
    go_wp2;exact t_ (v:=.tuple #[.agg #[.int .i64 r.size,.slice za zn zc,.slice la ln lc,.slice ta tn tc],.bool true]) (by simp [results,Tryz.results212,go_sem,z0,z1,z2,z3]) rfl ⟨_,true,rfl,⟨_,_,_,_,_,_,_,_,_,_,rfl⟩,(F9 (uh HR) (by repeat (first | exact (uh dP).trans (uh gG) | refine aaQ ?_)) (show w.heap.size<=w.heap.size+1 by omega) (uh z8)).1,λ_=>⟨r,(F9 (uh HR) (by repeat (first | exact (uh dP).trans (uh gG) | refine aaQ ?_)) (show w.heap.size<=w.heap.size+1 by omega) (uh z8)).2,.inl ⟨rfl,uh HZ0,uh Vf⟩⟩,λh=>(by cases h)⟩
  ·have hs1:sg≠0:=by rw [<-hsg];intro h;exact hz (abI.1 h)
   have d1:(sg == 0)=false:=by simp [hs1]
   have HZ0:=af hz;clear hsg hz hs1;go_wp2_with fail
   go_region_with (go_at_call 214;refine (uh Zi _ (by repeat (first | exact n_ _ _ | refine aaQ ?_))).mono ?_;rintro e w5 ⟨rfl,pO⟩;have gG:Hid (ae w1 w5):=ae.trans (by repeat (first | exact n_ _ _ | refine aaQ ?_)) pO;clear pO;have z8:=af (Below.same (uh gG) _ _ (uh HZ1));have z0:w5.cell? ⟨w.heap.size+1,0,none⟩=some (.int .i64 0):=(by rw [cellsOf (uh z8)];rfl);have z1:w5.cell? ⟨w.heap.size+1,1,none⟩=some (.slice none 0 0):=(by rw [cellsOf (uh z8)];rfl);have z2:w5.cell? ⟨w.heap.size+1,2,none⟩=some (.slice none 0 0):=(by rw [cellsOf (uh z8)];rfl);have z3:w5.cell? ⟨w.heap.size+1,3,none⟩=some (.slice none 0 0):=(by rw [cellsOf (uh z8)];rfl);have f0:=aH (uh z8) 0;have f1:=aH (uh z8) 1;have f2:=aH (uh z8) 2;have f3:=aH (uh z8) 3;have v3:=(uh gG).cell (uh HK).1;have v4:=(uh gG).cell (uh HK).2.1;have v5:=(uh gG).cell (uh HK).2.2.1;have v6:=(uh gG).cell (uh HK).2.2.2)
   all_goals
    go_wp2;exact t_ (v:=.tuple #[.agg #[.int .i64 r.size,.slice za zn zc,.slice la ln lc,.slice ta tn tc],.bool false]) (by simp [results,Tryz.results212,go_sem,z0,z1,z2,z3]) rfl ⟨_,false,rfl,⟨_,_,_,_,_,_,_,_,_,_,rfl⟩,(F9 (uh HR) (by repeat (first | exact (uh dP).trans (uh gG) | refine aaQ ?_)) (show w.heap.size<=w.heap.size+1 by omega) (uh z8)).1,λh=>(by cases h),λ_=>.inl ⟨uh HZ0,uh Vf⟩⟩
 ·have aaG:=af hstr;have hat:=hstr.lt;have afa:¬ ((at_:Int)<0):=by omega
  obtain ⟨gh,oh,ch,vu,eh,u0,hu,-⟩:=gT hrows (i:=at_) (by rw [qb];exact hat);rw [qb] at eh;cases eh;rw [M_] at u0;have Vg:=af hrows;rw [yA St hat] at hu;obtain ⟨ua,uc,rfl⟩:∃ ad cap,vu=.slice ad r.size cap:=by obtain ⟨ad,cap,e,_⟩:=hu;rw [show ((List.range r.size).map (St at_)).length=r.size by simp] at e;exact ⟨ad,cap,e⟩
  have Rf:Hid (∀ i k,i<r.size->k<r.size->Pl.Lt (5*L+1) (St i k)):=λi k hi hk=>ET (λa _=>hl (a+1)) hstr.rounds hstr.least hi hk;obtain ⟨ra,hra⟩:∃ ra,Pl.aQ r.size St (λk=>s.getD k 0) at_=ra:=⟨_,rfl⟩;have zA:=af hra;have vQ:Hid (Pl.Lt (5*L+1) ra):=by rw [<-hra];exact K8 ((hstr.rounds.inv (oG (λa _=>hl (a+1)))).1 at_ hat)
  have hnz:ra≠0:=by rw [<-hra];exact hstr.nz
  have HNZ:=af hnz;have Yh:=af (EZ P (5*L+1) r.size s _ _ _ w1 (λb' hb'=>hP b' (by have:=(uh dP).size;omega)) ((uh HS).below (uh dP)) hu (uh HLEN) (by simp) hn (λk=>(hl k).mono (by omega)) (λk=>by
   by_cases hk:k<r.size
   ·rw [Pl.bK _ _ _ hk];exact uh Rf at_ k hat hk
   ·rw [a_,P_ (by simp;omega),Pl.eB];exact abx (by omega)) (by omega))
  have hae:nu s ((List.range r.size).map (St at_)) r.size=ra:=by
   rw [<-hra];unfold nu Pl.aQ;exact Pl.aC λi hi=>by rw [Pl.bK _ _ _ hi]
  rw [hae] at Yh;clear hstr hrows hu hra hnz hae;go_wp2_with fail;refine (uh Yh).mono ?_;rintro e w2 ⟨v2,rfl,hv2,hb2⟩;obtain ⟨fx,fa,fm,fc,rfl⟩:=hv2.shape;have HG2:Hid (ae w w2):=(uh dP).trans hb2;have HZ2:=af (Below.same hb2 _ _ (uh HZ1));have iV:=af (Below.same hb2 _ _ (uh jw));have Ru:=af ((uh Vg).below hb2);have U8:=af (dD hv2);have A7:=af (ae.alloc w2 (.cells #[.int .i64 fx,.slice fa fm fc] 168));have hgf:w.heap.size<=w2.heap.size:=(uh HG2).size;clear hv2 hb2 HZ1 jw Vg dP Yh u0;go_wp2_with fail;obtain ⟨gf,Xv⟩:∃ gf,w2.heap.size=gf:=⟨_,rfl⟩;rw [Xv] at U8;rw [Xv];generalize hW3:w2.alloc (.cells #[.int .i64 fx,.slice fa fm fc] 168)=W3 at *
  have je:Hid (ae w W3):=(uh HG2).trans (uh A7);have HZ3:=af (Below.same (uh A7) _ _ (uh HZ2));have oJ:=af (Below.same (uh A7) _ _ (uh iV));have Rv:=af ((uh Ru).below (uh A7));clear hW3 HZ2 iV Ru HG2 A7 hgf Xv;have Zf:Hid (Pl.Lt (5*L+1) (-(s.getD 0 0))):=((hl 0).neg).mono (by omega);have aaH:=af ((uh wB).below (uh je));have y1:=b_ ((uh je).cell (uh OC).1);have y2:=b_ ((uh je).cell (uh OC).2);have y3:=λd os=>b_ (uh U8).cells.1 d os;have y4:=λd os=>b_ (uh U8).cells.2.1 d os;refine ah (cK [(34,λv w=>aj P w v (-(s.getD 0 0))),(36,λv w=>aj P w v (Int.fdiv (-(s.getD 0 0)) ra)),(9,bn W3)]) (gL [(34,ag),(36,ag),(9,bM)]) 55 7 (by kernel_rfl) (by rfl) (by kernel_rfl) (aN (λ_ _ _=>aj.below) (aN (λ_ _ _=>aj.below) (aN (λ_ _ _=>bn.grow) cO))) ?_
  iterate 3 (refine aO λK hK=>?_;go_simp;refine hK _ ?_;clear hK K)
  refine ai ag 166 #[.agg #[.int .i64 px,.slice pa pm pc]] (by rfl) (by rfl) ag.some (λw=>by go_simp) (λwq hg hf=>(lH P _ (s.getD 0 0) wq ((uh aaH).below hg)).mono (by rintro e w' ⟨v',rfl,hv,hb⟩;exact ⟨_,rfl,hb,hv.aU,λt ht=>by cases ht;exact hv⟩)) ?_;rintro _ ⟨nx,na,nm,nc,rfl⟩
  (refine aO λK hK=>?_;go_simp;refine hK _ ?_;clear hK K)
  refine ai ag 224 #[.agg #[.int .i64 nx,.slice na nm nc],.agg #[.int .i64 fx,.slice fa fm fc]] (by rfl) (by rfl) ag.some (λw=>by go_simp) (λwq hg hf=>(lD P (5*L+1) (-(s.getD 0 0)) ra _ _ wq (λb' hb'=>hP b' (by have:=(ae.trans (uh je) hg).size;omega)) (hf 3 (by kernel_rfl) _ 34 rfl rfl) ((uh U8).val.below hg) (by omega) (uh Zf) (uh vQ)).mono (by rintro e w' ⟨v',rfl,hv,hb⟩;exact ⟨_,rfl,hb,hv.aU,λt ht=>by cases ht;exact hv⟩)) ?_;rintro _ ⟨dx,da,dm,dc,rfl⟩;refine eT bM (by rfl) (by rfl) bM.some (λwq hg hf=>⟨.pointer (some ⟨wq.heap.size,0,none⟩),wq.alloc (.cells #[.int .i64 0,.slice none 0 0] 168),by go_simp,ae.alloc _ _,⟨_,rfl⟩,λt ht=>by cases ht;exact bn.new hg⟩) ?_;rintro _ ⟨g9,rfl⟩;refine aF ?_;intro w4 hg4 aK;have qv:aj P w4 (.agg #[.int .i64 dx,.slice da dm dc]) (Int.fdiv (-(s.getD 0 0)) ra):=aK 5 _ 36 (by decide) rfl rfl;have qf:bn W3 (.pointer (some ⟨g9,0,none⟩)) w4:=aK 6 _ 9 (by decide) rfl rfl;clear aK y1 y2 y3 y4;have hge:=qf.own.1;have hblk:=qf.own.2;have s0:=(au hblk).1;have s1:=(au hblk).2.1;have s2:=(au hblk).2.2.1;have s3:=(au hblk).2.2.2;obtain ⟨xv,hxv⟩:∃ xv,Int.fdiv (-(s.getD 0 0)) ra=xv:=⟨_,rfl⟩;have Qu:Hid (Pl.Lt (5*L+2) xv):=by rw [<-hxv];exact Pl.Lt.times (uh Zf) (uh HNZ)
  rw [hxv] at qv;have Ve:=af hxv;have HVX:=af (bI hg4 hge hblk qv).1;have kE:Hid (ae W3 ((w4.setCell ⟨g9,0,none⟩ (.int .i64 dx)).setCell ⟨g9,1,none⟩ (.slice da dm dc))):=(bI hg4 hge hblk qv).2;clear qv hblk hg4 qf hge hxv;go_wp2_with fail;generalize Bj:(w4.setCell ⟨g9,0,none⟩ (.int .i64 dx)).setCell ⟨g9,1,none⟩ (.slice da dm dc)=W5 at *
  clear Bj s0 s1 s2 s3 w4;have gG:Hid (ae w W5):=(uh je).trans (uh kE);have z8:=af (Below.same (uh kE) _ _ (uh HZ3));have Og:=af (Below.same (uh kE) _ _ (uh oJ));have Rw:=af ((uh Rv).below (uh kE));have Ug:=af ((uh U8).grow (uh kE));have K9:=af ((uh wB).below (uh gG));clear je kE HZ3 oJ Rv U8 aaH;have y1:=b_ ((uh gG).cell (uh OC).1);have y2:=b_ ((uh gG).cell (uh OC).2);have y3:=λd os=>b_ (uh Ug).cells.1 d os;have y4:=λd os=>b_ (uh Ug).cells.2.1 d os;have y5:=λd os=>b_ (uh HVX).cells.1 d os;have y6:=λd os=>b_ (uh HVX).cells.2.1 d os;refine ah (cK [(42,λv w=>aj P w v (ra*xv)),(43,λv w=>aj P w v (s.getD 0 0+ra*xv)),(10,bn W5)]) (gL [(42,ag),(43,ag),(10,bM)]) 55 8 (by kernel_rfl) (by rfl) (by kernel_rfl) (aN (λ_ _ _=>aj.below) (aN (λ_ _ _=>aj.below) (aN (λ_ _ _=>bn.grow) cO))) ?_
  iterate 5 (refine aO λK hK=>?_;go_simp;refine hK _ ?_;clear hK K)
  refine ai ag 226 #[.agg #[.int .i64 fx,.slice fa fm fc],.agg #[.int .i64 dx,.slice da dm dc]] (by rfl) (by rfl) ag.some (λw=>by go_simp) (λwq hg hf=>(eG P (5*L+2) ra xv _ _ wq (λb' hb'=>hP b' (by have:=(ae.trans (uh gG) hg).size;omega)) ((uh Ug).val.below hg) ((uh HVX).val.below hg) (by omega) (Pl.Lt.mono (uh vQ) (by omega)) (uh Qu)).mono (by rintro e w' ⟨v',rfl,hv,hb⟩;exact ⟨_,rfl,hb,hv.aU,λt ht=>by cases ht;exact hv⟩)) ?_;rintro _ ⟨mx,ma,mm,mc,rfl⟩;refine ai ag 223 #[.agg #[.int .i64 px,.slice pa pm pc],.agg #[.int .i64 mx,.slice ma mm mc]] (by rfl) (by rfl) ag.some (λw=>by go_simp) (λwq hg hf=>(ig P (10*L+4) (s.getD 0 0) (ra*xv) _ _ wq (λb' hb'=>hP b' (by have:=(ae.trans (uh gG) hg).size;omega)) ((uh K9).below hg) (hf 5 (by kernel_rfl) _ 42 rfl rfl) (by omega) (Pl.Lt.mono (hl 0) (by omega)) (Pl.Lt.mono (Pl.Lt.mul (uh vQ) (uh Qu)) (by omega))).mono (by rintro e w' ⟨v',rfl,hv,hb⟩;exact ⟨_,rfl,hb,hv.aU,λt ht=>by cases ht;exact hv⟩)) ?_;rintro _ ⟨ex,ea,em,ec,rfl⟩;refine eT bM (by rfl) (by rfl) bM.some (λwq hg hf=>⟨.pointer (some ⟨wq.heap.size,0,none⟩),wq.alloc (.cells #[.int .i64 0,.slice none 0 0] 168),by go_simp,ae.alloc _ _,⟨_,rfl⟩,λt ht=>by cases ht;exact bn.new hg⟩) ?_;rintro _ ⟨g10,rfl⟩;refine aF ?_;intro w6 rM aK;have qv:aj P w6 (.agg #[.int .i64 ex,.slice ea em ec]) (s.getD 0 0+ra*xv):=aK 6 _ 43 (by decide) rfl rfl;have qf:bn W5 (.pointer (some ⟨g10,0,none⟩)) w6:=aK 7 _ 10 (by decide) rfl rfl;clear aK y1 y2 y3 y4 y5 y6;have hge:=qf.own.1;have hblk:=qf.own.2;have s0:=(au hblk).1;have s1:=(au hblk).2.1;have s2:=(au hblk).2.2.1;have s3:=(au hblk).2.2.2;have HVR:=af (bI rM hge hblk qv).1;have lV:Hid (ae W5 ((w6.setCell ⟨g10,0,none⟩ (.int .i64 ex)).setCell ⟨g10,1,none⟩ (.slice ea em ec))):=(bI rM hge hblk qv).2;clear qv hblk rM qf hge;go_wp2_with fail;generalize TJ:(w6.setCell ⟨g10,0,none⟩ (.int .i64 ex)).setCell ⟨g10,1,none⟩ (.slice ea em ec)=W7 at *
  clear TJ s0 s1 s2 s3 w6;refine (bZ P _ _ _ (uh HVR).val).mono ?_;rintro e w8 ⟨rfl,hw8⟩;have Dw:Hid (ae W5 w8):=(uh lV).trans hw8;have yF:Hid (ae w w8):=(uh gG).trans (uh Dw);have Sm:=af (Below.same (uh Dw) _ _ (uh z8));have Q6:=af (Below.same (uh Dw) _ _ (uh Og));have Xw:=af ((uh Rw).below (uh Dw));have afb:=af ((uh HVX).grow (uh Dw));clear hw8 lV HVR gG Dw z8 Og Rw HVX Ug K9;by_cases hz:s.getD 0 0+ra*xv=0
  ·have HZ0:=af hz;rw [hz,show Int.sign 0=0 from rfl];have k0:w8.cell? ⟨w.heap.size,0,none⟩=some (.int .i64 r.size):=by rw [cellsOf (uh Q6)];rfl
   have k1:w8.cell? ⟨w.heap.size,1,none⟩=some (.slice za zn zc):=by rw [cellsOf (uh Q6)];rfl
   have k2:w8.cell? ⟨w.heap.size,2,none⟩=some (.slice la ln lc):=by rw [cellsOf (uh Q6)];rfl
   have k3:w8.cell? ⟨w.heap.size,3,none⟩=some (.slice ta tn tc):=by rw [cellsOf (uh Q6)];rfl
   have XW:=af (Ch P (5*L+1) r (iU r.size St) (.agg #[.int .i64 r.size,.slice za zn zc,.slice la ln lc,.slice ta tn tc]) _ w8 (λb' hb'=>hP b' (by have:=(uh yF).size;omega)) ⟨_,_,_,rfl,(uh HR).zero.below (uh yF),(uh HR).least.below (uh yF),(uh HR).told.below (uh yF)⟩ (uh Xw) (uh EJ) (qb _ _) Cg hn (hlt.mono (by omega)) (vW (uh Rf)) (by omega));clear hz;go_wp2_with fail;refine (uh XW).mono ?_;rintro e w9 ⟨v9,rfl,Yb,Jc⟩;obtain ⟨tz,tl,tt,e9,t1,t2,t3⟩:=Yb;rw [show (r.bL (iU r.size St)).size=r.size from rfl] at e9;subst e9;obtain ⟨xa,xm,xc,rfl⟩:=t1.aB;obtain ⟨ya,ym,yc,rfl⟩:=t2.aB;obtain ⟨va,vm,vc,rfl⟩:=t3.aB;have A7:=af (ae.alloc w9 (.cells #[.int .i64 r.size,.slice xa xm xc,.slice ya ym yc,.slice va vm vc] 164));have HT3:=af (o5.mk (t1.below (uh A7)) (t2.below (uh A7)) (t3.below (uh A7)));have FB:Hid (ae w8 (w9.alloc (.cells #[.int .i64 r.size,.slice xa xm xc,.slice ya ym yc,.slice va vm vc] 164))):=ae.trans Jc (uh A7);have Xx:=af ((uh afb).grow (uh FB));have HZ9:=af (Below.same (uh FB) _ _ (uh Sm));have H6:=af ((uh yF).trans (uh FB));have VS:=af (Ep P (10*L+3) at_ (r.bL (iU r.size St)) xv (.agg #[.int .i64 r.size,.slice xa xm xc,.slice ya ym yc,.slice va vm vc]) _ (w9.alloc (.cells #[.int .i64 r.size,.slice xa xm xc,.slice ya ym yc,.slice va vm vc] 164)) (λb' hb'=>hP b' (by have:=(uh H6).size;omega)) ⟨_,_,_,rfl,(uh HT3).zero,(uh HT3).least,(uh HT3).told⟩ (uh Xx).val (uh EJ).bL (show 0<r.size by omega) hn hat (dG.bL (hlt.mono (by omega)) (vW (uh Rf)) hn) (Pl.Lt.mono (uh Qu) (by omega)) (by omega));have v0:=(uh Xx).cells.1;have v1:=(uh Xx).cells.2.1;clear t1 t2 t3 Jc k0 k1 k2 k3 XW;go_wp2_with fail;refine (uh VS).mono ?_;rintro e MB ⟨v11,rfl,afc,Xy⟩;obtain ⟨tz,tl,tt,e11,t1,t2,t3⟩:=afc;subst e11;obtain ⟨oa,om,oc,rfl⟩:=t1.aB;obtain ⟨ia,im,ic,rfl⟩:=t2.aB;obtain ⟨ja,jm,jc,rfl⟩:=t3.aB;have hblk:=Below.same Xy _ _ (uh HZ9);have c0:MB.cell? ⟨w.heap.size+1,0,none⟩=some (.int .i64 0):=by rw [cellsOf hblk];rfl
   have c1:MB.cell? ⟨w.heap.size+1,1,none⟩=some (.slice none 0 0):=by rw [cellsOf hblk];rfl
   have c2:MB.cell? ⟨w.heap.size+1,2,none⟩=some (.slice none 0 0):=by rw [cellsOf hblk];rfl
   have c3:MB.cell? ⟨w.heap.size+1,3,none⟩=some (.slice none 0 0):=by rw [cellsOf hblk];rfl
   have f0:=aH hblk 0;have f1:=aH hblk 1;have f2:=aH hblk 2;have f3:=aH hblk 3;obtain ⟨nn,hnn⟩:∃ nn:Int,(((r.bL (iU r.size St)).fixed at_ xv).size:Int)=nn:=⟨_,rfl⟩;have HST:=af (iW (P:=P) ((uh H6).trans Xy) (show w.heap.size<=w.heap.size+1 by omega) hblk nn oa om oc ia im ic ja jm jc);have HT:=af (o5.mk t1 t2 t3);have MC:=af hnn;rw [hnn];clear t1 t2 t3 hblk hnn Xy;go_wp2;exact t_ (v:=.tuple #[.agg #[.int .i64 nn,.slice oa om oc,.slice ia im ic,.slice ja jm jc],.bool true]) (by simp [results,Tryz.results212,go_sem,c0,c1,c2,c3]) rfl ⟨_,true,rfl,⟨_,_,_,_,_,_,_,_,_,_,rfl⟩,(uh HST).1,λ_=>⟨(r.bL (iU r.size St)).fixed at_ xv,⟨_,_,_,by rw [uh MC],(uh HT).zero.holds (uh HST).2,(uh HT).least.holds (uh HST).2,(uh HT).told.holds (uh HST).2⟩,.inr ⟨at_,kk,St,xv,uh aaG,by rw [uh zA];exact (uh Ve).symm,by rw [uh zA];exact uh HZ0,rfl⟩⟩,λh=>(by cases h)⟩
  ·obtain ⟨sg,hsg⟩:∃ sg,Int.sign (s.getD 0 0+ra*xv)=sg:=⟨_,rfl⟩;have hs1:sg≠0:=by rw [<-hsg];intro h;exact hz (abI.1 h)
   have d1:(sg != 0)=true:=by simp [hs1]
   rw [hsg];have HZ0:=af hz;have c0:w8.cell? ⟨w.heap.size+1,0,none⟩=some (.int .i64 0):=by rw [cellsOf (uh Sm)];rfl
   have c1:w8.cell? ⟨w.heap.size+1,1,none⟩=some (.slice none 0 0):=by rw [cellsOf (uh Sm)];rfl
   have c2:w8.cell? ⟨w.heap.size+1,2,none⟩=some (.slice none 0 0):=by rw [cellsOf (uh Sm)];rfl
   have c3:w8.cell? ⟨w.heap.size+1,3,none⟩=some (.slice none 0 0):=by rw [cellsOf (uh Sm)];rfl
   have f0:=aH (uh Sm) 0;have f1:=aH (uh Sm) 1;have f2:=aH (uh Sm) 2;have f3:=aH (uh Sm) 3;have HST:=af (iW (P:=P) (uh yF) (show w.heap.size<=w.heap.size+1 by omega) (uh Sm) 0 none 0 0 none 0 0 none 0 0);clear hz hsg hs1;go_wp2;exact t_ (v:=.tuple #[.agg #[.int .i64 0,.slice none 0 0,.slice none 0 0,.slice none 0 0],.bool false]) (by simp [results,Tryz.results212,go_sem,c0,c1,c2,c3]) rfl ⟨_,false,rfl,⟨_,_,_,_,_,_,_,_,_,_,rfl⟩,(uh HST).1,λh=>(by cases h),λ_=>.inr ⟨at_,kk,St,uh aaG,by rw [uh zA];show s.getD 0 0+ra*Int.fdiv (-(s.getD 0 0)) ra≠0;rw [uh Ve];exact uh HZ0⟩⟩
end
def aP.less (r:aP):aP:=⟨r.size,r.zero.dropLast,r.least,r.told⟩
theorem eP.less {r:aP} (h:eP r):eP r.less:=⟨λl hl=>h.jb l (List.dropLast_subset _ hl),h.dS,h.gV,by show r.zero.dropLast.length<=_;rw [List.length_dropLast];have:=h.Az;omega,h.vB,h.uP⟩
theorem lC (K:Nat):Pl.Lt K 0:=by rw [Pl.eB];exact abx (by omega)
theorem dG.less {K:Nat} {r:aP} (h:dG K r):dG K r.less:=⟨λi k=>by
 show Pl.Lt K ((r.zero.dropLast.getD i []).getD k 0);by_cases hi:i<r.zero.length - 1
 ·have e:r.zero.dropLast.getD i []=r.zero.getD i []:=by
   rw [a_,a_,acu,h_ hi]
  rw [e];exact h.zero i k
 ·have e:r.zero.dropLast.getD i []=[]:=by
   rw [a_,acu,g_ hi];rfl
  rw [e];exact lC K,h.least,h.told⟩
theorem KV {a:List Int} {t:Nat} {x:Int} (ht:t+1<a.length):(eZ a t x).length=a.length - 1:=by
 unfold eZ bQ;rw [abQ,List.length_eraseIdx,h_ ht]
theorem eP.fixed {r:aP} (h:eP r) {t:Nat} {x:Int} (ht:t<r.size):eP (r.fixed t x):=by
 have key:∀ ls:List (List Int),(∀ l∈ls,l.length=r.size+1)->∀ l∈ls.map (λa=>eZ a t x),l.length=(r.fixed t x).size+1:=λls hls l hl=>by
  obtain ⟨a,ha,rfl⟩:=m_.1 hl;have:=hls a ha;rw [KV (by omega)];show a.length - 1=r.size - 1+1;omega
 exact ⟨key _ h.jb,key _ h.dS,key _ h.gV,by show (r.zero.map _).length<=_;rw [L_];exact h.Az,by show (r.least.map _).length<=_;rw [L_];exact h.vB,by show (r.told.map _).length<=_;rw [L_];exact h.uP⟩
theorem Oo {K L:Nat} {a:List Int} {x:Int} (h:∀ k,Pl.Lt K (a.getD k 0)) (hx:Pl.Lt L x) (t k:Nat):Pl.Lt (K+L+1) ((eZ a t x).getD k 0):=by
 have h1:=II h (t+1);have h2:Pl.Lt (K+L) (a.getD (t+1) 0*x):=(h (t+1)).mul hx;unfold eZ bQ;generalize a.getD (t+1) 0*x=y at *
 generalize a.eraseIdx (t+1)=b at *
 rw [a_,abH];have h3:=h1 k;rw [a_] at h3;rcases hb:b[k]? with _|z
 ·exact lC _
 ·rw [hb] at h3;show Pl.Lt _ (if k=0 then z+y else z)
  split
  ·exact (Pl.Lt.mono h3 (show K<=K+L by omega)).add h2
  ·exact Pl.Lt.mono h3 (by omega)
theorem dG.fixed {K L:Nat} {r:aP} (h:dG K r) {t:Nat} {x:Int} (hx:Pl.Lt L x):dG (K+L+1) (r.fixed t x):=by
 have key:∀ ls:List (List Int),(∀ i k,Pl.Lt K ((ls.getD i []).getD k 0))->∀ i k,Pl.Lt (K+L+1) (((ls.map (λa=>eZ a t x)).getD i []).getD k 0):=λls hls i k=>by
  rcases hi:ls[i]? with _|a
  ·have e:(ls.map (λa=>eZ a t x)).getD i []=[]:=by rw [a_,aas,hi];rfl
   rw [e];exact lC _
  ·have e:(ls.map (λa=>eZ a t x)).getD i []=eZ a t x:=by rw [a_,aas,hi];rfl
   have ha:ls.getD i []=a:=by rw [a_,hi];rfl
   have DK:=hls i;rw [ha] at DK;rw [e];exact Oo DK hx t k
 exact ⟨key _ h.zero,key _ h.least,key _ h.told⟩
theorem jC.ok {r r':aP} {s:Nat->Int} (h:jC r s r') (hr:eP r):eP r'∧r'.size<=r.size∧r'.zero.length=r.zero.length:=by
 rcases h with ⟨rfl,_⟩|⟨at_,kk,St,x,h1,_,_,rfl⟩
 ·exact ⟨hr,d_ _,rfl⟩
 ·refine ⟨eP.fixed hr.bL h1.lt,Nat.sub_le _ _,?_⟩;show ((r.zero.map _).map _).length=_;rw [L_,L_]
theorem jC.lt {r r':aP} {s:Nat->Int} {L:Nat} (h:jC r s r') (hn:r.size<=100) (hr:dG L r) (hs:∀ k,Pl.Lt L (s k)):dG (15*L+6) r':=by
 rcases h with ⟨rfl,_⟩|⟨at_,kk,St,x,h1,hx,_,rfl⟩
 ·exact hr.mono (by omega)
 ·have hL:Pl.Lt (5*L+2) x:=by
   rw [hx];exact Pl.Lt.times (Pl.Lt.mono (hs 0).neg (by omega)) h1.nz
  have h2:=dG.bL (M:=iU r.size St) (hr.mono (by omega)) (vW λi k hi hk=>ET (λa _=>hs (a+1)) h1.rounds h1.least hi hk) hn;exact (h2.fixed hL).mono (by omega)
end
def aP.bO (r:aP):List Int:=r.zero.getD (r.zero.length - 1) []
def uw (r r':aP):Prop:=0<r.zero.length∧jC r.less (λk=>r.bO.getD k 0) r'
def iG (L:Nat):Nat->Nat
 | 0=>L
 | k+1=>15*iG L k+6
theorem KW (L k:Nat):iG L k<=iG L (k+1):=by show _<=15*iG L k+6;omega
theorem C9 (L:Nat) {k k':Nat} (h:k<=k'):iG L k<=iG L k':=by
 induction k' with
 | zero=>rw [show k=0 by omega];exact d_ _
 | succ k' ih =>
  by_cases e:k=k'+1
  ·rw [e];exact d_ _
  ·exact w_ (ih (by omega)) (KW L k')
def fF (r0:aP) (k:Nat) (r:aP):Prop:=∃ T:Nat->aP,T 0=r0∧T k=r∧∀ i,i<k->uw (T i) (T (i+1))
theorem fF.start (r:aP):fF r 0 r:=⟨λ_=>r,rfl,rfl,λi hi=>absurd hi (aaL i)⟩
theorem fF.snoc {r0 r r':aP} {k:Nat} (h:fF r0 k r) (hs:uw r r'):fF r0 (k+1) r':=by
 obtain ⟨T,h0,h1,h2⟩:=h;refine ⟨λi=>if i<=k then T i else r',?_,?_,λi hi=>?_⟩
 ·show (if 0<=k then T 0 else r')=r0;rw [h_ (abo _)];exact h0
 ·show (if k+1<=k then T (k+1) else r')=r';rw [g_ (by omega)]
 ·show uw (if i<=k then T i else r') (if i+1<=k then T (i+1) else r');rw [h_ (by omega)];by_cases e:i=k
  ·subst e;rw [g_ (by omega),h1];exact hs
  ·rw [h_ (by omega)];exact h2 i (by omega)
theorem jC.lt2 {r r':aP} {s:Nat->Int} {L:Nat} (h:jC r s r') (hn:r.size<=100) (hr:dG L r) (hs:∀ k,Pl.Lt L (s k)):r'=r∨(r'.size+1=r.size∧dG (15*L+6) r'):=by
 have h2:=h.lt hn hr hs;rcases h with ⟨rfl,_⟩|⟨at_,kk,St,x,h1,hx,_,rfl⟩
 ·exact .inl rfl
 ·refine .inr ⟨?_,h2⟩;have:=h1.lt;show r.size - 1+1=r.size;omega
theorem eP.bO {r:aP} (h:eP r) (h0:0<r.zero.length):r.bO.length=r.size+1:=by
 refine h.jb _ ?_;unfold aP.bO;rw [a_,f_ (by omega)];exact aan _
theorem dG.bO {L:Nat} {r:aP} (h:dG L r) (k:Nat):Pl.Lt L (r.bO.getD k 0):=h.zero _ k
structure KX (L:Nat) (r0:aP) (k:Nat) (r:aP):Prop where
 ok:eP r
 size:r.size<=r0.size
 left:r.zero.length+k=r0.zero.length
 lt:dG (iG L (r0.size - r.size)) r
theorem KX.start {L:Nat} {r:aP} (h:eP r) (hl:dG L r):KX L r 0 r:=⟨h,d_ _,rfl,by rw [acN];exact hl⟩
theorem KX.step {L k:Nat} {r0 r r':aP} (h:KX L r0 k r) (hn:r0.size<=100) (hs:uw r r'):KX L r0 (k+1) r':=by
 obtain ⟨h0,hw⟩:=hs;obtain ⟨w1,w2,w3⟩:=hw.ok h.ok.less;have e1:r.less.zero.length=r.zero.length - 1:=List.length_dropLast;have e2:r.less.size=r.size:=rfl;have hsz:=h.size;have hleft:=h.left;rcases hw.lt2 (by omega) h.lt.less h.lt.bO with e|⟨e,hl⟩
 ·subst e;exact ⟨w1,by omega,by omega,h.lt.less⟩
 ·refine ⟨w1,by omega,by omega,?_⟩;rw [show r0.size - r'.size=(r0.size - r.size)+1 by omega];exact hl
theorem fF.inv {L k:Nat} {r0 r:aP} (h:fF r0 k r) (h0:eP r0) (hl:dG L r0) (hn:r0.size<=100):KX L r0 k r:=by
 obtain ⟨T,e0,e1,h2⟩:=h;subst e1
 induction k with
 | zero=>rw [e0];exact KX.start h0 hl
 | succ k ih=>exact (ih λi hi=>h2 i (by omega)).step hn (h2 k (by omega))
end
def oM (f:List Int->Nat->Int) (r:aP) (n:Nat):Pl.mQ:=⟨n,r.zero.map f,r.least.map f,r.told.map f⟩
def lf (a:List Int) (k:Nat):Int:=a.getD k 0
def aP.dX (r:aP):Pl.mQ:=oM lf r r.size
theorem Bw {n:Nat} {s t:Nat->Int} (h:∀ k,k<=n->s k=t k) (x:Nat->Int):Pl.ev n s (Pl.pt x)=Pl.ev n t (Pl.pt x):=by
 rw [Pl.kT,Pl.kT,h 0 (abo _),Pl.aC λi hi=>by rw [h (i+1) (by omega)]]
theorem wG {f g:List Int->Nat->Int} {r:aP} {n:Nat} (h:∀ a k,k<=n->f a k=g a k) (x:Nat->Int):(oM f r n).Has x↔(oM g r n).Has x:=by
 have one:∀ f g:List Int->Nat->Int,(∀ a k,k<=n->f a k=g a k)->(oM f r n).Has x->(oM g r n).Has x:=λf g h hh=>by
  refine ⟨λs hs=>?_,λs hs=>?_⟩
  ·obtain ⟨a,ha,rfl⟩:=m_.1 hs;have:=hh.zero (f a) (m_.2 ⟨a,ha,rfl⟩);exact (Bw (λk hk=>(h a k hk).symm) x).trans this
  ·obtain ⟨a,ha,rfl⟩:=m_.1 hs;have h1:=hh.least (f a) (m_.2 ⟨a,ha,rfl⟩);have h2:Pl.ev n (f a) (Pl.pt x)=Pl.ev n (g a) (Pl.pt x):=Bw (h a) x;show 0<=Pl.ev n (g a) (Pl.pt x);rw [<-h2];exact h1
 exact ⟨one f g h,one g f λa k hk=>(h a k hk).symm⟩
theorem qR {f g:List Int->Nat->Int} {r:aP} {n:Nat} (h:∀ a k,k<=n->f a k=g a k) (x:Nat->Int):(oM f r n).fD x=(oM g r n).fD x:=by
 show ((r.told.map f).map λs=>Pl.ev n s (Pl.pt x))=((r.told.map g).map λs=>Pl.ev n s (Pl.pt x));rw [ab7,ab7];exact abr λa _=>Bw (h a) x
theorem Ng {f g:List Int->Nat->Int} {r:aP} {n:Nat} (h:∀ a k,k<=n->f a k=g a k) (A:List Int):(oM f r n).kW A↔(oM g r n).kW A :=
 ⟨λ⟨x,h1,h2⟩=>⟨x,(wG h x).1 h1,by rw [<-qR h];exact h2⟩,λ⟨x,h1,h2⟩=>⟨x,(wG h x).2 h1,by rw [qR h];exact h2⟩⟩
theorem jh {n:Nat} {St:Nat->Nat->Int} (a:List Int) (k:Nat) (hk:k<=n):lf (dI a (iU n St) n) k=Pl.qg n St (lf a) k:=by
 unfold lf dI;rw [Pl.bK _ _ _ (by omega)];unfold mh Pl.qg;by_cases e:k=0
 ·rw [h_ e,h_ e]
 ·rw [g_ e,g_ e];unfold nu;exact Pl.aC λi hi=>by rw [zK St (by omega) hi]
theorem rf (r:aP) (M:List (List Int)):(r.bL M).dX=oM (λa=>lf (dI a M r.size)) r r.size:=by
 unfold aP.dX oM aP.bL;simp only [ab7]
 rfl
theorem Fx (r:aP) (St:Nat->Nat->Int):r.dX.uJ St=oM (λa=>Pl.qg r.size St (lf a)) r r.size:=by
 unfold aP.dX oM Pl.mQ.uJ;simp only [ab7]
 rfl
theorem Da {t:Nat} {x:Int} (a:List Int) (k:Nat):lf (eZ a t x) k=Pl.qz t x (lf a) k:=by
 unfold lf eZ bQ Pl.qz;rw [a_,abH,List.getElem?_eraseIdx];by_cases e:k=0
 ·subst e;rw [h_ (by omega),h_ rfl];cases a with
  | nil=>simp
  | cons z a=>simp
 ·rw [g_ e];by_cases h:k<=t
  ·rw [h_ (by omega),h_ h];show _=a.getD k 0;rw [a_ (l:=a) (i:=k)];cases a[k]? with
   | none=>rfl
   | some z=>simp [e]
  ·rw [g_ (by omega),g_ h];show _=a.getD (k+1) 0;rw [a_ (l:=a) (i:=k+1)];cases a[k+1]? with
   | none=>rfl
   | some z=>simp [e]
theorem sQ (r:aP) (t:Nat) (x:Int):(r.fixed t x).dX=r.dX.fix t x:=by
 unfold aP.dX oM aP.fixed Pl.mQ.fix;simp only [ab7];have e:lf∘(λa=>eZ a t x)=Pl.qz t x∘lf:=by
  funext a k;exact Da a k
 rw [e]
theorem jC.qI {r r':aP} {s:Nat->Int} (h:jC r s r') (A:List Int):r'.dX.kW A↔∃ x,r.dX.Has x∧r.dX.fD x=A∧Pl.ev r.size s (Pl.pt x)=0:=by
 rcases h with ⟨rfl,h0,kk,St,hr,hz⟩|⟨at_,kk,St,x,h1,hx,hv,rfl⟩
 ·have key:∀ x,Pl.ev r'.size s (Pl.pt x)=0:=λx=>by
   obtain ⟨y,hy⟩:=hr.OX.reach x;rw [Pl.iK hy,<-Pl.pI,Pl.zh (λi hi=>by rw [Pl.lU];exact hz i hi)];exact h0
  exact ⟨λ⟨x,h2,h3⟩=>⟨x,h2,h3,key x⟩,λ⟨x,h2,h3,_⟩=>⟨x,h2,h3⟩⟩
 ·have ht:∀ j,j<r.size->Pl.qg r.size St s (j+1)=if j=at_ then Pl.aQ r.size St s at_ else 0:=λj hj=>by
   rw [Pl.lU]
   split
   ·rename_i e;rw [e]
   ·rename_i e;exact h1.only j hj e
  refine Iff.trans ?_ (Pl.Iz (r:=r.dX) (s:=s) h1.rounds.OX h1.lt h1.nz ht hv A);rw [sQ,Pl.mQ.Bi (r:=(r.bL (iU r.size St)).dX) h1.lt,Pl.mQ.Bi (r:=r.dX.uJ St) h1.lt,rf,Fx];constructor
  ·rintro ⟨y,a1,a2,a3⟩;exact ⟨y,(wG jh y).1 a1,by rw [<-qR jh];exact a2,a3⟩
  ·rintro ⟨y,a1,a2,a3⟩;exact ⟨y,(wG jh y).2 a1,by rw [qR jh];exact a2,a3⟩
theorem Md.none {r:aP} {s:Nat->Int} (h:Md r s) (x:Nat->Int):Pl.ev r.size s (Pl.pt x)≠0:=by
 rcases h with ⟨h0,kk,St,hr,hz⟩|⟨at_,kk,St,h1,hv⟩
 ·obtain ⟨y,hy⟩:=hr.OX.reach x;rw [Pl.iK hy,<-Pl.pI,Pl.zh (λi hi=>by rw [Pl.lU];exact hz i hi)];exact h0
 ·refine Pl.F3 h1.rounds.OX h1.lt h1.nz (λj hj=>?_) hv x;rw [Pl.lU]
  split
  ·rename_i e;rw [e]
  ·rename_i e;exact h1.only j hj e
end Go.Proofs.YtfaljekgpnbmiaaGreat
