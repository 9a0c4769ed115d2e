/- Joined: XSol11 XSet1 XSet2 XSet3. -/
import Derived.Test.YtgaafamcajcifaaGreatK06
import Derived.Test.YtgaafamcajcifaaGreatK31
set_option linter.unusedVariables false
set_option linter.unusedSimpArgs false
set_option maxRecDepth 100000
namespace Go.Proofs.YtgaafamcajcifaaGreat
open Go.RowKit Go.Sort
def Ku (v:Value):Prop:=∃ n a1 m1 c1 a2 m2 c2 a3 m3 c3,v=.agg #[.int .i64 n,.slice a1 m1 c1,.slice a2 m2 c2,.slice a3 m3 c3]
def jA (r:aP) (s:Nat->Int) (r':aP):Prop :=
 (r'=r∧s 0=0∧∃ kk St,Pl.gX r.size s kk St∧∀ j,j<r.size->Pl.aQ r.size St s j=0) ∨
 ∃ at_ kk St x,IL r.size s at_ kk St∧x=Int.fdiv (-s 0) (Pl.aQ r.size St s at_)∧s 0+Pl.aQ r.size St s at_*x=0∧r'=(r.bK (iR r.size St)).fixed at_ x
def Lm (r:aP) (s:Nat->Int):Prop :=
 (s 0≠0∧∃ kk St,Pl.gX r.size s kk St∧∀ j,j<r.size->Pl.aQ r.size St s j=0) ∨
 ∃ at_ kk St,IL r.size s at_ kk St∧s 0+Pl.aQ r.size St s at_*Int.fdiv (-s 0) (Pl.aQ r.size St s at_)≠0
theorem F4 {P:Nat->Prop} {w0 w:World} {r:aP} {a1 a2 a3:Option Addr} {m1 m2 m3 c1 c2 c3:Nat} (hR:oW P w0 (.slice a1 m1 c1) (.slice a2 m2 c2) (.slice a3 m3 c3) r) (hg:ae w0 w) {g:Nat} (hge:w0.heap.size<=g) {cs:Array Value} (hb:w.heap[g]?=some (.cells cs 74 (0,0))) :
  ae w0 ((((w.setCell ⟨g,0,none⟩ (.int .i64 r.size)).setCell ⟨g,1,none⟩ (.slice a1 m1 c1)).setCell ⟨g,2,none⟩ (.slice a2 m2 c2)).setCell ⟨g,3,none⟩ (.slice a3 m3 c3))∧jT P ((((w.setCell ⟨g,0,none⟩ (.int .i64 r.size)).setCell ⟨g,1,none⟩ (.slice a1 m1 c1)).setCell ⟨g,2,none⟩ (.slice a2 m2 c2)).setCell ⟨g,3,none⟩ (.slice a3 m3 c3)) (.agg #[.int .i64 r.size,.slice a1 m1 c1,.slice a2 m2 c2,.slice a3 m3 c3]) r:=by
 have h:=iU (P:=P) hg hge hb r.size a1 m1 c1 a2 m2 c2 a3 m3 c3;exact ⟨h.1,_,_,_,rfl,(hR.zero.below hg).holds h.2,(hR.least.below hg).holds h.2,(hR.told.below hg).holds h.2⟩
theorem eH.bK {r:aP} (h:eH r) {M:List (List Int)}:eH (r.bK M):=by
 have key:∀ ls:List (List Int),∀ l∈ls.map (λa=>dH a M r.size),l.length=r.size+1:=λls l hl=>by
  obtain ⟨a,_,rfl⟩:=m_.1 hl;simp [dH]
 exact ⟨key _,key _,key _,by show (r.zero.map _).length<=_;rw [L_];exact h.Aw,by show (r.least.map _).length<=_;rw [L_];exact h.vg,by show (r.told.map _).length<=_;rw [L_];exact h.uN⟩
theorem dF.mono {K K':Nat} {r:aP} (h:dF K r) (hk:K<=K'):dF K' r:=⟨λi k=>(h.zero i k).mono hk,λi k=>(h.least i k).mono hk,λi k=>(h.told i k).mono hk⟩
theorem dF.bK {L:Nat} {r:aP} {M:List (List Int)} (h:dF (5*L+1) r) (hM:∀ i k,Pl.Lt (5*L+1) ((M.getD i []).getD k 0)) (hn:r.size<=100):dF (10*L+3) (r.bK M):=by
 have h0:∀ K,Pl.Lt K 0:=λK=>by rw [Pl.dZ];exact aa6 (by omega)
 have key:∀ ls:List (List Int),(∀ i k,Pl.Lt (5*L+1) ((ls.getD i []).getD k 0))->∀ i k,Pl.Lt (10*L+3) (((ls.map (λa=>dH a M r.size)).getD i []).getD k 0):=λls hls i k=>by
  rcases hi:ls[i]? with _|a
  ·have e:(ls.map (λa=>dH a M r.size)).getD i []=[]:=by rw [a_,aal,hi];rfl
   rw [e];exact h0 _
  ·have e:(ls.map (λa=>dH a M r.size)).getD i []=dH a M r.size:=by rw [a_,aal,hi];rfl
   have ha:ls.getD i []=a:=by rw [a_,hi];rfl
   have DF:=hls i;rw [ha] at DF;rw [e];unfold dH;by_cases hk:k<r.size+1
   ·rw [Pl.bJ _ _ _ hk];unfold l9
    split
    ·exact (DF 0).mono (by omega)
    ·exact (IK DF (hM _) (by omega)).mono (by omega)
   ·rw [a_,O_ (by simp;omega)];exact h0 _
 exact ⟨key _ h.zero,key _ h.least,key _ h.told⟩
section
section
section
attribute [local go_sem] bD
set_option maxHeartbeats 2000000 in
theorem IB (P:Nat->Prop) (L:Nat) (r:aP) (s:List Int) (vr vs:Value) (w:World) (hP:∀ b,w.heap.size<=b->P b) (h:jT P w vr r) (hs:aD P w vs s) (hok:eH r) (hlen:s.length=r.size+1) (hn:r.size<=100) (hlt:dF L r) (hl:∀ k,Pl.Lt L (s.getD k 0)) (hK:20*L+10<=1500000000000) :
  Calls Tryz.prog 44 #[vr,vs] w λe w'=>∃ (v':Value) (ok:Bool),e=.returned (.tuple #[v',.bool ok])∧Ku v'∧Below w.heap.size w w'∧(ok=true->∃ r',jT P w' v' r'∧jA r (λk=>s.getD k 0) r')∧(ok=false->Lm r (λk=>s.getD k 0)):=by
 obtain ⟨vz,vl,vt,rfl,h1,h2,h3⟩:=h;obtain ⟨za,zn,zc,rfl⟩:=h1.aB;obtain ⟨la,ln,lc,rfl⟩:=h2.aB;obtain ⟨ta,tn,tc,rfl⟩:=h3.aB;have HR:=af (oW.mk h1 h2 h3);have EG:=af hok;have HS:=af hs;have HLEN:=af hlen;obtain ⟨sa,sc,rfl⟩:∃ ad cap,vs=.slice ad (r.size+1) cap:=by obtain ⟨ad,cap,e,_⟩:=hs;rw [hlen] at e;exact ⟨ad,cap,e⟩
 obtain ⟨gs,os,ac,px,pa,pm,pc,es,p0,p1,hpv⟩:=eU (uh HS) (i:=0) (by rw [uh HLEN];omega);rw [uh HLEN] at es;cases es;rw [show os+0*2=os by omega] at p0 p1;have wy:=af hpv;have NK:=af (x_ p0 p1);clear hpv p0 p1;have hb:=aG w (.cells #[.int .i64 r.size,.slice za zn zc,.slice la ln lc,.slice ta tn tc] 74);have hb2:=Below.same (ae.alloc (w.alloc (.cells #[.int .i64 r.size,.slice za zn zc,.slice la ln lc,.slice ta tn tc] 74)) (.cells #[.int .i64 0,.slice none 0 0,.slice none 0 0,.slice none 0 0] 74)) _ _ hb;have HZ:Hid (((w.alloc (.cells #[.int .i64 r.size,.slice za zn zc,.slice la ln lc,.slice ta tn tc] 74)).alloc (.cells #[.int .i64 0,.slice none 0 0,.slice none 0 0,.slice none 0 0] 74)).heap[w.heap.size+1]?=some (.cells #[.int .i64 0,.slice none 0 0,.slice none 0 0,.slice none 0 0] 74)):=by
  have:=aG (w.alloc (.cells #[.int .i64 r.size,.slice za zn zc,.slice la ln lc,.slice ta tn tc] 74)) (.cells #[.int .i64 0,.slice none 0 0,.slice none 0 0,.slice none 0 0] 74);rwa [H_] at this
 have HO:=af hb2;have HG:Hid (ae w ((w.alloc (.cells #[.int .i64 r.size,.slice za zn zc,.slice la ln lc,.slice ta tn tc] 74)).alloc (.cells #[.int .i64 0,.slice none 0 0,.slice none 0 0,.slice none 0 0] 74))):=ae.trans (ae.alloc _ _) (ae.alloc _ _);clear h1 h2 h3 hs hok hlen hb hb2;go_enter Tryz.func44,Tryz.ntmps44;go_wp2_with fail;generalize hW:(w.alloc (.cells #[.int .i64 r.size,.slice za zn zc,.slice la ln lc,.slice ta tn tc] 74)).alloc (.cells #[.int .i64 0,.slice none 0 0,.slice none 0 0,.slice none 0 0] 74)=W at *
 clear hW;refine (F5 P L r.size s _ W (λb' hb'=>hP b' (by have:=(uh HG).size;omega)) ((uh HS).below (uh HG)) (uh HLEN) hn hl (by omega)).mono ?_;rintro e w1 ⟨g,c,rfl,hb1,hc⟩;have dN:Hid (ae w w1):=(uh HG).trans hb1;have HZ1:=af (Below.same hb1 _ _ (uh HZ));have jq:=af (Below.same hb1 _ _ (uh HO));clear hb1 HZ HO HG;rcases hc with ⟨rfl,hzero⟩|⟨at_,kk,St,rfl,hstr,hrows⟩
 ·have Uy:=af hzero;clear hzero;have y1:=(uh dN).cell (uh NK).1;have y2:=(uh dN).cell (uh NK).2;have k0:w1.cell? ⟨w.heap.size,0,none⟩=some (.int .i64 r.size):=by rw [cellsOf (uh jq)];rfl
  have k1:w1.cell? ⟨w.heap.size,1,none⟩=some (.slice za zn zc):=by rw [cellsOf (uh jq)];rfl
  have k2:w1.cell? ⟨w.heap.size,2,none⟩=some (.slice la ln lc):=by rw [cellsOf (uh jq)];rfl
  have k3:w1.cell? ⟨w.heap.size,3,none⟩=some (.slice ta tn tc):=by rw [cellsOf (uh jq)];rfl
  have HK:=af (x_ k0 (x_ k1 (x_ k2 k3)));have YE:=af (λw2 (hg:ae w1 w2)=>bY P _ (s.getD 0 0) w2 (((uh wy).below (uh dN)).below hg));obtain ⟨sg,hsg⟩:∃ sg,Int.sign (s.getD 0 0)=sg:=⟨_,rfl⟩;rw [hsg] at YE;by_cases hz:s.getD 0 0=0
  ·have hs0:sg=0:=by rw [<-hsg,hz];rfl
   subst hs0;have HZ0:=af hz;clear hsg hz;go_wp2_with fail
   go_region_with (go_at_call 46;refine (uh YE _ (by repeat (first | exact n_ _ _ | refine aaF ?_))).mono ?_;rintro e w5 ⟨rfl,pK⟩;have gD:Hid (ae w1 w5):=ae.trans (by repeat (first | exact n_ _ _ | refine aaF ?_)) pK;clear pK;have zY:=af (Below.same (uh gD) _ _ (uh HZ1));have z0:w5.cell? ⟨w.heap.size+1,0,none⟩=some (.int .i64 0):=(by rw [cellsOf (uh zY)];rfl);have z1:w5.cell? ⟨w.heap.size+1,1,none⟩=some (.slice none 0 0):=(by rw [cellsOf (uh zY)];rfl);have z2:w5.cell? ⟨w.heap.size+1,2,none⟩=some (.slice none 0 0):=(by rw [cellsOf (uh zY)];rfl);have z3:w5.cell? ⟨w.heap.size+1,3,none⟩=some (.slice none 0 0):=(by rw [cellsOf (uh zY)];rfl);have f0:=aH (uh zY) 0;have f1:=aH (uh zY) 1;have f2:=aH (uh zY) 2;have f3:=aH (uh zY) 3;have v3:=(uh gD).cell (uh HK).1;have v4:=(uh gD).cell (uh HK).2.1;have v5:=(uh gD).cell (uh HK).2.2.1;have v6:=(uh gD).cell (uh HK).2.2.2)
   all_goals
    go_wp2;exact t_ (v:=.tuple #[.agg #[.int .i64 r.size,.slice za zn zc,.slice la ln lc,.slice ta tn tc],.bool true]) (by simp [results,Tryz.results44,go_sem,z0,z1,z2,z3]) rfl ⟨_,true,rfl,⟨_,_,_,_,_,_,_,_,_,_,rfl⟩,(F4 (uh HR) (by repeat (first | exact (uh dN).trans (uh gD) | refine aaF ?_)) (show w.heap.size<=w.heap.size+1 by omega) (uh zY)).1,λ_=>⟨r,(F4 (uh HR) (by repeat (first | exact (uh dN).trans (uh gD) | refine aaF ?_)) (show w.heap.size<=w.heap.size+1 by omega) (uh zY)).2,.inl ⟨rfl,uh HZ0,uh Uy⟩⟩,λh=>(by cases h)⟩
  ·have hs1:sg≠0:=by rw [<-hsg];intro h;exact hz (abe.1 h)
   have d1:(sg == 0)=false:=by simp [hs1]
   have HZ0:=af hz;clear hsg hz hs1;go_wp2_with fail
   go_region_with (go_at_call 46;refine (uh YE _ (by repeat (first | exact n_ _ _ | refine aaF ?_))).mono ?_;rintro e w5 ⟨rfl,pK⟩;have gD:Hid (ae w1 w5):=ae.trans (by repeat (first | exact n_ _ _ | refine aaF ?_)) pK;clear pK;have zY:=af (Below.same (uh gD) _ _ (uh HZ1));have z0:w5.cell? ⟨w.heap.size+1,0,none⟩=some (.int .i64 0):=(by rw [cellsOf (uh zY)];rfl);have z1:w5.cell? ⟨w.heap.size+1,1,none⟩=some (.slice none 0 0):=(by rw [cellsOf (uh zY)];rfl);have z2:w5.cell? ⟨w.heap.size+1,2,none⟩=some (.slice none 0 0):=(by rw [cellsOf (uh zY)];rfl);have z3:w5.cell? ⟨w.heap.size+1,3,none⟩=some (.slice none 0 0):=(by rw [cellsOf (uh zY)];rfl);have f0:=aH (uh zY) 0;have f1:=aH (uh zY) 1;have f2:=aH (uh zY) 2;have f3:=aH (uh zY) 3;have v3:=(uh gD).cell (uh HK).1;have v4:=(uh gD).cell (uh HK).2.1;have v5:=(uh gD).cell (uh HK).2.2.1;have v6:=(uh gD).cell (uh HK).2.2.2)
   all_goals
    go_wp2;exact t_ (v:=.tuple #[.agg #[.int .i64 r.size,.slice za zn zc,.slice la ln lc,.slice ta tn tc],.bool false]) (by simp [results,Tryz.results44,go_sem,z0,z1,z2,z3]) rfl ⟨_,false,rfl,⟨_,_,_,_,_,_,_,_,_,_,rfl⟩,(F4 (uh HR) (by repeat (first | exact (uh dN).trans (uh gD) | refine aaF ?_)) (show w.heap.size<=w.heap.size+1 by omega) (uh zY)).1,λh=>(by cases h),λ_=>.inl ⟨uh HZ0,uh Uy⟩⟩
 ·have ZZ:=af hstr;have hat:=hstr.lt;have aet:¬ ((at_:Int)<0):=by omega
  obtain ⟨gh,oh,ch,vu,eh,u0,hu,-⟩:=gP hrows (i:=at_) (by rw [pY];exact hat);rw [pY] at eh;cases eh;rw [M_] at u0;have Uz:=af hrows;rw [yx St hat] at hu;obtain ⟨ua,uc,rfl⟩:∃ ad cap,vu=.slice ad r.size cap:=by obtain ⟨ad,cap,e,_⟩:=hu;rw [show ((List.range r.size).map (St at_)).length=r.size by simp] at e;exact ⟨ad,cap,e⟩
  have Qy:Hid (∀ i k,i<r.size->k<r.size->Pl.Lt (5*L+1) (St i k)):=λi k hi hk=>EP (λa _=>hl (a+1)) hstr.rounds hstr.least hi hk;obtain ⟨ra,hra⟩:∃ ra,Pl.aQ r.size St (λk=>s.getD k 0) at_=ra:=⟨_,rfl⟩;have zy:=af hra;have vO:Hid (Pl.Lt (5*L+1) ra):=by rw [<-hra];exact KC ((hstr.rounds.inv (oC (λa _=>hl (a+1)))).1 at_ hat)
  have hnz:ra≠0:=by rw [<-hra];exact hstr.nz
  have HNZ:=af hnz;have XA:=af (EW P (5*L+1) r.size s _ _ _ w1 (λb' hb'=>hP b' (by have:=(uh dN).size;omega)) ((uh HS).below (uh dN)) hu (uh HLEN) (by simp) hn (λk=>(hl k).mono (by omega)) (λk=>by
   by_cases hk:k<r.size
   ·rw [Pl.bJ _ _ _ hk];exact uh Qy at_ k hat hk
   ·rw [a_,O_ (by simp;omega),Pl.dZ];exact aa6 (by omega)) (by omega))
  have hae:mZ s ((List.range r.size).map (St at_)) r.size=ra:=by
   rw [<-hra];unfold mZ Pl.aQ;exact Pl.aC λi hi=>by rw [Pl.bJ _ _ _ hi]
  rw [hae] at XA;clear hstr hrows hu hra hnz hae;go_wp2_with fail;refine (uh XA).mono ?_;rintro e w2 ⟨v2,rfl,hv2,hb2⟩;obtain ⟨fx,fa,fm,fc,rfl⟩:=hv2.shape;have HG2:Hid (ae w w2):=(uh dN).trans hb2;have HZ2:=af (Below.same hb2 _ _ (uh HZ1));have iT:=af (Below.same hb2 _ _ (uh jq));have QL:=af ((uh Uz).below hb2);have Us:=af (dC hv2);have AY:=af (ae.alloc w2 (.cells #[.int .i64 fx,.slice fa fm fc] 78));have hgf:w.heap.size<=w2.heap.size:=(uh HG2).size;clear hv2 hb2 HZ1 jq Uz dN XA u0;go_wp2_with fail;obtain ⟨gf,WA⟩:∃ gf,w2.heap.size=gf:=⟨_,rfl⟩;rw [WA] at Us;rw [WA];generalize hW3:w2.alloc (.cells #[.int .i64 fx,.slice fa fm fc] 78)=W3 at *
  have jb:Hid (ae w W3):=(uh HG2).trans (uh AY);have HZ3:=af (Below.same (uh AY) _ _ (uh HZ2));have oG:=af (Below.same (uh AY) _ _ (uh iT));have QM:=af ((uh QL).below (uh AY));clear hW3 HZ2 iT QL HG2 AY hgf WA;have YB:Hid (Pl.Lt (5*L+1) (-(s.getD 0 0))):=((hl 0).neg).mono (by omega);have Z0:=af ((uh wy).below (uh jb));have y1:=b_ ((uh jb).cell (uh NK).1);have y2:=b_ ((uh jb).cell (uh NK).2);have y3:=λd os=>b_ (uh Us).cells.1 d os;have y4:=λd os=>b_ (uh Us).cells.2.1 d os;refine ah (bZ [(34,λv w=>aj P w v (-(s.getD 0 0))),(36,λv w=>aj P w v (Int.fdiv (-(s.getD 0 0)) ra)),(9,bg W3)]) (gL [(34,ag),(36,ag),(9,bL)]) 55 7 (by kernel_rfl) (by rfl) (by kernel_rfl) (aN (λ_ _ _=>aj.below) (aN (λ_ _ _=>aj.below) (aN (λ_ _ _=>bg.grow) cK))) ?_
  iterate 3 (refine aO λK hK=>?_;go_simp;refine hK _ ?_;clear hK K)
  refine ai ag 38 #[.agg #[.int .i64 px,.slice pa pm pc]] (by rfl) (by rfl) ag.some (λw=>by go_simp) (λwq hg hf=>(lF P _ (s.getD 0 0) wq ((uh Z0).below hg)).mono (by rintro e w' ⟨v',rfl,hv,hb⟩;exact ⟨_,rfl,hb,hv.aU,λt ht=>by cases ht;exact hv⟩)) ?_;rintro _ ⟨nx,na,nm,nc,rfl⟩
  (refine aO λK hK=>?_;go_simp;refine hK _ ?_;clear hK K)
  refine ai ag 56 #[.agg #[.int .i64 nx,.slice na nm nc],.agg #[.int .i64 fx,.slice fa fm fc]] (by rfl) (by rfl) ag.some (λw=>by go_simp) (λwq hg hf=>(lu P (5*L+1) (-(s.getD 0 0)) ra _ _ wq (λb' hb'=>hP b' (by have:=(ae.trans (uh jb) hg).size;omega)) (hf 3 (by kernel_rfl) _ 34 rfl rfl) ((uh Us).val.below hg) (by omega) (uh YB) (uh vO)).mono (by rintro e w' ⟨v',rfl,hv,hb⟩;exact ⟨_,rfl,hb,hv.aU,λt ht=>by cases ht;exact hv⟩)) ?_;rintro _ ⟨dx,da,dm,dc,rfl⟩;refine eO bL (by rfl) (by rfl) bL.some (λwq hg hf=>⟨.pointer (some ⟨wq.heap.size,0,none⟩),wq.alloc (.cells #[.int .i64 0,.slice none 0 0] 78),by go_simp,ae.alloc _ _,⟨_,rfl⟩,λt ht=>by cases ht;exact bg.new hg⟩) ?_;rintro _ ⟨g9,rfl⟩;refine aF ?_;intro w4 hg4 aK;have qv:aj P w4 (.agg #[.int .i64 dx,.slice da dm dc]) (Int.fdiv (-(s.getD 0 0)) ra):=aK 5 _ 36 (by decide) rfl rfl;have qf:bg W3 (.pointer (some ⟨g9,0,none⟩)) w4:=aK 6 _ 9 (by decide) rfl rfl;clear aK y1 y2 y3 y4;have hge:=qf.own.1;have hblk:=qf.own.2;have s0:=(au hblk).1;have s1:=(au hblk).2.1;have s2:=(au hblk).2.2.1;have s3:=(au hblk).2.2.2;obtain ⟨xv,hxv⟩:∃ xv,Int.fdiv (-(s.getD 0 0)) ra=xv:=⟨_,rfl⟩;have PK:Hid (Pl.Lt (5*L+2) xv):=by rw [<-hxv];exact Pl.Lt.times (uh YB) (uh HNZ)
  rw [hxv] at qv;have Ux:=af hxv;have Z4:=af (bH hg4 hge hblk qv).1;have kC:Hid (ae W3 ((w4.setCell ⟨g9,0,none⟩ (.int .i64 dx)).setCell ⟨g9,1,none⟩ (.slice da dm dc))):=(bH hg4 hge hblk qv).2;clear qv hblk hg4 qf hge hxv;go_wp2_with fail;generalize Bh:(w4.setCell ⟨g9,0,none⟩ (.int .i64 dx)).setCell ⟨g9,1,none⟩ (.slice da dm dc)=W5 at *
  clear Bh s0 s1 s2 s3 w4;have gD:Hid (ae w W5):=(uh jb).trans (uh kC);have zY:=af (Below.same (uh kC) _ _ (uh HZ3));have Ns:=af (Below.same (uh kC) _ _ (uh oG));have QN:=af ((uh QM).below (uh kC));have Tq:=af ((uh Us).grow (uh kC));have KD:=af ((uh wy).below (uh gD));clear jb kC HZ3 oG QM Us Z0;have y1:=b_ ((uh gD).cell (uh NK).1);have y2:=b_ ((uh gD).cell (uh NK).2);have y3:=λd os=>b_ (uh Tq).cells.1 d os;have y4:=λd os=>b_ (uh Tq).cells.2.1 d os;have y5:=λd os=>b_ (uh Z4).cells.1 d os;have y6:=λd os=>b_ (uh Z4).cells.2.1 d os;refine ah (bZ [(42,λv w=>aj P w v (ra*xv)),(43,λv w=>aj P w v (s.getD 0 0+ra*xv)),(10,bg W5)]) (gL [(42,ag),(43,ag),(10,bL)]) 55 8 (by kernel_rfl) (by rfl) (by kernel_rfl) (aN (λ_ _ _=>aj.below) (aN (λ_ _ _=>aj.below) (aN (λ_ _ _=>bg.grow) cK))) ?_
  iterate 5 (refine aO λK hK=>?_;go_simp;refine hK _ ?_;clear hK K)
  refine ai ag 58 #[.agg #[.int .i64 fx,.slice fa fm fc],.agg #[.int .i64 dx,.slice da dm dc]] (by rfl) (by rfl) ag.some (λw=>by go_simp) (λwq hg hf=>(eD P (5*L+2) ra xv _ _ wq (λb' hb'=>hP b' (by have:=(ae.trans (uh gD) hg).size;omega)) ((uh Tq).val.below hg) ((uh Z4).val.below hg) (by omega) (Pl.Lt.mono (uh vO) (by omega)) (uh PK)).mono (by rintro e w' ⟨v',rfl,hv,hb⟩;exact ⟨_,rfl,hb,hv.aU,λt ht=>by cases ht;exact hv⟩)) ?_;rintro _ ⟨mx,ma,mm,mc,rfl⟩;refine ai ag 55 #[.agg #[.int .i64 px,.slice pa pm pc],.agg #[.int .i64 mx,.slice ma mm mc]] (by rfl) (by rfl) ag.some (λw=>by go_simp) (λwq hg hf=>(gZ P (10*L+4) (s.getD 0 0) (ra*xv) _ _ wq (λb' hb'=>hP b' (by have:=(ae.trans (uh gD) hg).size;omega)) ((uh KD).below hg) (hf 5 (by kernel_rfl) _ 42 rfl rfl) (by omega) (Pl.Lt.mono (hl 0) (by omega)) (Pl.Lt.mono (Pl.Lt.mul (uh vO) (uh PK)) (by omega))).mono (by rintro e w' ⟨v',rfl,hv,hb⟩;exact ⟨_,rfl,hb,hv.aU,λt ht=>by cases ht;exact hv⟩)) ?_;rintro _ ⟨ex,ea,em,ec,rfl⟩;refine eO bL (by rfl) (by rfl) bL.some (λwq hg hf=>⟨.pointer (some ⟨wq.heap.size,0,none⟩),wq.alloc (.cells #[.int .i64 0,.slice none 0 0] 78),by go_simp,ae.alloc _ _,⟨_,rfl⟩,λt ht=>by cases ht;exact bg.new hg⟩) ?_;rintro _ ⟨g10,rfl⟩;refine aF ?_;intro w6 rH aK;have qv:aj P w6 (.agg #[.int .i64 ex,.slice ea em ec]) (s.getD 0 0+ra*xv):=aK 6 _ 43 (by decide) rfl rfl;have qf:bg W5 (.pointer (some ⟨g10,0,none⟩)) w6:=aK 7 _ 10 (by decide) rfl rfl;clear aK y1 y2 y3 y4 y5 y6;have hge:=qf.own.1;have hblk:=qf.own.2;have s0:=(au hblk).1;have s1:=(au hblk).2.1;have s2:=(au hblk).2.2.1;have s3:=(au hblk).2.2.2;have HVR:=af (bH rH hge hblk qv).1;have lT:Hid (ae W5 ((w6.setCell ⟨g10,0,none⟩ (.int .i64 ex)).setCell ⟨g10,1,none⟩ (.slice ea em ec))):=(bH rH hge hblk qv).2;clear qv hblk rH qf hge;go_wp2_with fail;generalize SI:(w6.setCell ⟨g10,0,none⟩ (.int .i64 ex)).setCell ⟨g10,1,none⟩ (.slice ea em ec)=W7 at *
  clear SI s0 s1 s2 s3 w6;refine (bY P _ _ _ (uh HVR).val).mono ?_;rintro e w8 ⟨rfl,hw8⟩;have Du:Hid (ae W5 w8):=(uh lT).trans hw8;have yD:Hid (ae w w8):=(uh gD).trans (uh Du);have Rt:=af (Below.same (uh Du) _ _ (uh zY));have Qq:=af (Below.same (uh Du) _ _ (uh Ns));have WB:=af ((uh QN).below (uh Du));have aeu:=af ((uh Z4).grow (uh Du));clear hw8 lT HVR gD Du zY Ns QN Z4 Tq KD;by_cases hz:s.getD 0 0+ra*xv=0
  ·have HZ0:=af hz;rw [hz,show Int.sign 0=0 from rfl];have k0:w8.cell? ⟨w.heap.size,0,none⟩=some (.int .i64 r.size):=by rw [cellsOf (uh Qq)];rfl
   have k1:w8.cell? ⟨w.heap.size,1,none⟩=some (.slice za zn zc):=by rw [cellsOf (uh Qq)];rfl
   have k2:w8.cell? ⟨w.heap.size,2,none⟩=some (.slice la ln lc):=by rw [cellsOf (uh Qq)];rfl
   have k3:w8.cell? ⟨w.heap.size,3,none⟩=some (.slice ta tn tc):=by rw [cellsOf (uh Qq)];rfl
   have Xh:=af (Cf P (5*L+1) r (iR r.size St) (.agg #[.int .i64 r.size,.slice za zn zc,.slice la ln lc,.slice ta tn tc]) _ w8 (λb' hb'=>hP b' (by have:=(uh yD).size;omega)) ⟨_,_,_,rfl,(uh HR).zero.below (uh yD),(uh HR).least.below (uh yD),(uh HR).told.below (uh yD)⟩ (uh WB) (uh EG) (pY _ _) Ce hn (hlt.mono (by omega)) (vU (uh Qy)) (by omega));clear hz;go_wp2_with fail;refine (uh Xh).mono ?_;rintro e w9 ⟨v9,rfl,Xu,I7⟩;obtain ⟨tz,tl,tt,e9,t1,t2,t3⟩:=Xu;rw [show (r.bK (iR r.size St)).size=r.size from rfl] at e9;subst e9;obtain ⟨xa,xm,xc,rfl⟩:=t1.aB;obtain ⟨ya,ym,yc,rfl⟩:=t2.aB;obtain ⟨va,vm,vc,rfl⟩:=t3.aB;have AY:=af (ae.alloc w9 (.cells #[.int .i64 r.size,.slice xa xm xc,.slice ya ym yc,.slice va vm vc] 74));have HT3:=af (oW.mk (t1.below (uh AY)) (t2.below (uh AY)) (t3.below (uh AY)));have Fv:Hid (ae w8 (w9.alloc (.cells #[.int .i64 r.size,.slice xa xm xc,.slice ya ym yc,.slice va vm vc] 74))):=ae.trans I7 (uh AY);have WC:=af ((uh aeu).grow (uh Fv));have HZ9:=af (Below.same (uh Fv) _ _ (uh Rt));have Hw:=af ((uh yD).trans (uh Fv));have Ve:=af (Em P (10*L+3) at_ (r.bK (iR r.size St)) xv (.agg #[.int .i64 r.size,.slice xa xm xc,.slice ya ym yc,.slice va vm vc]) _ (w9.alloc (.cells #[.int .i64 r.size,.slice xa xm xc,.slice ya ym yc,.slice va vm vc] 74)) (λb' hb'=>hP b' (by have:=(uh Hw).size;omega)) ⟨_,_,_,rfl,(uh HT3).zero,(uh HT3).least,(uh HT3).told⟩ (uh WC).val (uh EG).bK (show 0<r.size by omega) hn hat (dF.bK (hlt.mono (by omega)) (vU (uh Qy)) hn) (Pl.Lt.mono (uh PK) (by omega)) (by omega));have v0:=(uh WC).cells.1;have v1:=(uh WC).cells.2.1;clear t1 t2 t3 I7 k0 k1 k2 k3 Xh;go_wp2_with fail;refine (uh Ve).mono ?_;rintro e LU ⟨v11,rfl,aev,WG⟩;obtain ⟨tz,tl,tt,e11,t1,t2,t3⟩:=aev;subst e11;obtain ⟨oa,om,oc,rfl⟩:=t1.aB;obtain ⟨ia,im,ic,rfl⟩:=t2.aB;obtain ⟨ja,jm,jc,rfl⟩:=t3.aB;have hblk:=Below.same WG _ _ (uh HZ9);have c0:LU.cell? ⟨w.heap.size+1,0,none⟩=some (.int .i64 0):=by rw [cellsOf hblk];rfl
   have c1:LU.cell? ⟨w.heap.size+1,1,none⟩=some (.slice none 0 0):=by rw [cellsOf hblk];rfl
   have c2:LU.cell? ⟨w.heap.size+1,2,none⟩=some (.slice none 0 0):=by rw [cellsOf hblk];rfl
   have c3:LU.cell? ⟨w.heap.size+1,3,none⟩=some (.slice none 0 0):=by rw [cellsOf hblk];rfl
   have f0:=aH hblk 0;have f1:=aH hblk 1;have f2:=aH hblk 2;have f3:=aH hblk 3;obtain ⟨nn,hnn⟩:∃ nn:Int,(((r.bK (iR r.size St)).fixed at_ xv).size:Int)=nn:=⟨_,rfl⟩;have HST:=af (iU (P:=P) ((uh Hw).trans WG) (show w.heap.size<=w.heap.size+1 by omega) hblk nn oa om oc ia im ic ja jm jc);have HT:=af (oW.mk t1 t2 t3);have LV:=af hnn;rw [hnn];clear t1 t2 t3 hblk hnn WG;go_wp2;exact t_ (v:=.tuple #[.agg #[.int .i64 nn,.slice oa om oc,.slice ia im ic,.slice ja jm jc],.bool true]) (by simp [results,Tryz.results44,go_sem,c0,c1,c2,c3]) rfl ⟨_,true,rfl,⟨_,_,_,_,_,_,_,_,_,_,rfl⟩,(uh HST).1,λ_=>⟨(r.bK (iR r.size St)).fixed at_ xv,⟨_,_,_,by rw [uh LV],(uh HT).zero.holds (uh HST).2,(uh HT).least.holds (uh HST).2,(uh HT).told.holds (uh HST).2⟩,.inr ⟨at_,kk,St,xv,uh ZZ,by rw [uh zy];exact (uh Ux).symm,by rw [uh zy];exact uh HZ0,rfl⟩⟩,λh=>(by cases h)⟩
  ·obtain ⟨sg,hsg⟩:∃ sg,Int.sign (s.getD 0 0+ra*xv)=sg:=⟨_,rfl⟩;have hs1:sg≠0:=by rw [<-hsg];intro h;exact hz (abe.1 h)
   have d1:(sg != 0)=true:=by simp [hs1]
   rw [hsg];have HZ0:=af hz;have c0:w8.cell? ⟨w.heap.size+1,0,none⟩=some (.int .i64 0):=by rw [cellsOf (uh Rt)];rfl
   have c1:w8.cell? ⟨w.heap.size+1,1,none⟩=some (.slice none 0 0):=by rw [cellsOf (uh Rt)];rfl
   have c2:w8.cell? ⟨w.heap.size+1,2,none⟩=some (.slice none 0 0):=by rw [cellsOf (uh Rt)];rfl
   have c3:w8.cell? ⟨w.heap.size+1,3,none⟩=some (.slice none 0 0):=by rw [cellsOf (uh Rt)];rfl
   have f0:=aH (uh Rt) 0;have f1:=aH (uh Rt) 1;have f2:=aH (uh Rt) 2;have f3:=aH (uh Rt) 3;have HST:=af (iU (P:=P) (uh yD) (show w.heap.size<=w.heap.size+1 by omega) (uh Rt) 0 none 0 0 none 0 0 none 0 0);clear hz hsg hs1;go_wp2;exact t_ (v:=.tuple #[.agg #[.int .i64 0,.slice none 0 0,.slice none 0 0,.slice none 0 0],.bool false]) (by simp [results,Tryz.results44,go_sem,c0,c1,c2,c3]) rfl ⟨_,false,rfl,⟨_,_,_,_,_,_,_,_,_,_,rfl⟩,(uh HST).1,λh=>(by cases h),λ_=>.inr ⟨at_,kk,St,uh ZZ,by rw [uh zy];show s.getD 0 0+ra*Int.fdiv (-(s.getD 0 0)) ra≠0;rw [uh Ux];exact uh HZ0⟩⟩
end
def aP.less (r:aP):aP:=⟨r.size,r.zero.dropLast,r.least,r.told⟩
theorem eH.less {r:aP} (h:eH r):eH r.less:=⟨λl hl=>h.iY l (List.dropLast_subset _ hl),h.dQ,h.gT,by show r.zero.dropLast.length<=_;rw [List.length_dropLast];have:=h.Aw;omega,h.vg,h.uN⟩
theorem lq (K:Nat):Pl.Lt K 0:=by rw [Pl.dZ];exact aa6 (by omega)
theorem dF.less {K:Nat} {r:aP} (h:dF K r):dF K r.less:=⟨λi k=>by
 show Pl.Lt K ((r.zero.dropLast.getD i []).getD k 0);by_cases hi:i<r.zero.length - 1
 ·have e:r.zero.dropLast.getD i []=r.zero.getD i []:=by
   rw [a_,a_,List.getElem?_dropLast,h_ hi]
  rw [e];exact h.zero i k
 ·have e:r.zero.dropLast.getD i []=[]:=by
   rw [a_,List.getElem?_dropLast,g_ hi];rfl
  rw [e];exact lq K,h.least,h.told⟩
theorem Ko {a:List Int} {t:Nat} {x:Int} (ht:t+1<a.length):(eX a t x).length=a.length - 1:=by
 unfold eX bP;rw [List.length_mapIdx,List.length_eraseIdx,h_ ht]
theorem eH.fixed {r:aP} (h:eH r) {t:Nat} {x:Int} (ht:t<r.size):eH (r.fixed t x):=by
 have key:∀ ls:List (List Int),(∀ l∈ls,l.length=r.size+1)->∀ l∈ls.map (λa=>eX a t x),l.length=(r.fixed t x).size+1:=λls hls l hl=>by
  obtain ⟨a,ha,rfl⟩:=m_.1 hl;have:=hls a ha;rw [Ko (by omega)];show a.length - 1=r.size - 1+1;omega
 exact ⟨key _ h.iY,key _ h.dQ,key _ h.gT,by show (r.zero.map _).length<=_;rw [L_];exact h.Aw,by show (r.least.map _).length<=_;rw [L_];exact h.vg,by show (r.told.map _).length<=_;rw [L_];exact h.uN⟩
theorem Nz {K L:Nat} {a:List Int} {x:Int} (h:∀ k,Pl.Lt K (a.getD k 0)) (hx:Pl.Lt L x) (t k:Nat):Pl.Lt (K+L+1) ((eX a t x).getD k 0):=by
 have h1:=IA h (t+1);have h2:Pl.Lt (K+L) (a.getD (t+1) 0*x):=(h (t+1)).mul hx;unfold eX bP;generalize a.getD (t+1) 0*x=y at *
 generalize a.eraseIdx (t+1)=b at *
 rw [a_,List.getElem?_mapIdx];have h3:=h1 k;rw [a_] at h3;rcases hb:b[k]? with _|z
 ·exact lq _
 ·rw [hb] at h3;show Pl.Lt _ (if k=0 then z+y else z)
  split
  ·exact (Pl.Lt.mono h3 (show K<=K+L by omega)).add h2
  ·exact Pl.Lt.mono h3 (by omega)
theorem dF.fixed {K L:Nat} {r:aP} (h:dF K r) {t:Nat} {x:Int} (hx:Pl.Lt L x):dF (K+L+1) (r.fixed t x):=by
 have key:∀ ls:List (List Int),(∀ i k,Pl.Lt K ((ls.getD i []).getD k 0))->∀ i k,Pl.Lt (K+L+1) (((ls.map (λa=>eX a t x)).getD i []).getD k 0):=λls hls i k=>by
  rcases hi:ls[i]? with _|a
  ·have e:(ls.map (λa=>eX a t x)).getD i []=[]:=by rw [a_,aal,hi];rfl
   rw [e];exact lq _
  ·have e:(ls.map (λa=>eX a t x)).getD i []=eX a t x:=by rw [a_,aal,hi];rfl
   have ha:ls.getD i []=a:=by rw [a_,hi];rfl
   have DF:=hls i;rw [ha] at DF;rw [e];exact Nz DF hx t k
 exact ⟨key _ h.zero,key _ h.least,key _ h.told⟩
theorem jA.ok {r r':aP} {s:Nat->Int} (h:jA r s r') (hr:eH r):eH r'∧r'.size<=r.size∧r'.zero.length=r.zero.length:=by
 rcases h with ⟨rfl,_⟩|⟨at_,kk,St,x,h1,_,_,rfl⟩
 ·exact ⟨hr,d_ _,rfl⟩
 ·refine ⟨eH.fixed hr.bK h1.lt,Nat.sub_le _ _,?_⟩;show ((r.zero.map _).map _).length=_;rw [L_,L_]
theorem jA.lt {r r':aP} {s:Nat->Int} {L:Nat} (h:jA r s r') (hn:r.size<=100) (hr:dF L r) (hs:∀ k,Pl.Lt L (s k)):dF (15*L+6) r':=by
 rcases h with ⟨rfl,_⟩|⟨at_,kk,St,x,h1,hx,_,rfl⟩
 ·exact hr.mono (by omega)
 ·have hL:Pl.Lt (5*L+2) x:=by
   rw [hx];exact Pl.Lt.times (Pl.Lt.mono (hs 0).neg (by omega)) h1.nz
  have h2:=dF.bK (M:=iR r.size St) (hr.mono (by omega)) (vU λi k hi hk=>EP (λa _=>hs (a+1)) h1.rounds h1.least hi hk) hn;exact (h2.fixed hL).mono (by omega)
end
def aP.bN (r:aP):List Int:=r.zero.getD (r.zero.length - 1) []
def uo (r r':aP):Prop:=0<r.zero.length∧jA r.less (λk=>r.bN.getD k 0) r'
def iE (L:Nat):Nat->Nat
 | 0=>L
 | k+1=>15*iE L k+6
theorem Kq (L k:Nat):iE L k<=iE L (k+1):=by show _<=15*iE L k+6;omega
theorem CZ (L:Nat) {k k':Nat} (h:k<=k'):iE L k<=iE L k':=by
 induction k' with
 | zero=>rw [show k=0 by omega];exact d_ _
 | succ k' ih =>
  by_cases e:k=k'+1
  ·rw [e];exact d_ _
  ·exact w_ (ih (by omega)) (Kq L k')
def fD (r0:aP) (k:Nat) (r:aP):Prop:=∃ T:Nat->aP,T 0=r0∧T k=r∧∀ i,i<k->uo (T i) (T (i+1))
theorem fD.start (r:aP):fD r 0 r:=⟨λ_=>r,rfl,rfl,λi hi=>absurd hi (aaD i)⟩
theorem fD.snoc {r0 r r':aP} {k:Nat} (h:fD r0 k r) (hs:uo r r'):fD r0 (k+1) r':=by
 obtain ⟨T,h0,h1,h2⟩:=h;refine ⟨λi=>if i<=k then T i else r',?_,?_,λi hi=>?_⟩
 ·show (if 0<=k then T 0 else r')=r0;rw [h_ (aaZ _)];exact h0
 ·show (if k+1<=k then T (k+1) else r')=r';rw [g_ (by omega)]
 ·show uo (if i<=k then T i else r') (if i+1<=k then T (i+1) else r');rw [h_ (by omega)];by_cases e:i=k
  ·subst e;rw [g_ (by omega),h1];exact hs
  ·rw [h_ (by omega)];exact h2 i (by omega)
theorem jA.lt2 {r r':aP} {s:Nat->Int} {L:Nat} (h:jA r s r') (hn:r.size<=100) (hr:dF L r) (hs:∀ k,Pl.Lt L (s k)):r'=r∨(r'.size+1=r.size∧dF (15*L+6) r'):=by
 have h2:=h.lt hn hr hs;rcases h with ⟨rfl,_⟩|⟨at_,kk,St,x,h1,hx,_,rfl⟩
 ·exact .inl rfl
 ·refine .inr ⟨?_,h2⟩;have:=h1.lt;show r.size - 1+1=r.size;omega
theorem eH.bN {r:aP} (h:eH r) (h0:0<r.zero.length):r.bN.length=r.size+1:=by
 refine h.iY _ ?_;unfold aP.bN;rw [a_,f_ (by omega)];exact aak _
theorem dF.bN {L:Nat} {r:aP} (h:dF L r) (k:Nat):Pl.Lt L (r.bN.getD k 0):=h.zero _ k
structure Kr (L:Nat) (r0:aP) (k:Nat) (r:aP):Prop where
 ok:eH r
 size:r.size<=r0.size
 left:r.zero.length+k=r0.zero.length
 lt:dF (iE L (r0.size - r.size)) r
theorem Kr.start {L:Nat} {r:aP} (h:eH r) (hl:dF L r):Kr L r 0 r:=⟨h,d_ _,rfl,by rw [Nat.sub_self];exact hl⟩
theorem Kr.step {L k:Nat} {r0 r r':aP} (h:Kr L r0 k r) (hn:r0.size<=100) (hs:uo r r'):Kr L r0 (k+1) r':=by
 obtain ⟨h0,hw⟩:=hs;obtain ⟨w1,w2,w3⟩:=hw.ok h.ok.less;have e1:r.less.zero.length=r.zero.length - 1:=List.length_dropLast;have e2:r.less.size=r.size:=rfl;have hsz:=h.size;have hleft:=h.left;rcases hw.lt2 (by omega) h.lt.less h.lt.bN with e|⟨e,hl⟩
 ·subst e;exact ⟨w1,by omega,by omega,h.lt.less⟩
 ·refine ⟨w1,by omega,by omega,?_⟩;rw [show r0.size - r'.size=(r0.size - r.size)+1 by omega];exact hl
theorem fD.inv {L k:Nat} {r0 r:aP} (h:fD r0 k r) (h0:eH r0) (hl:dF L r0) (hn:r0.size<=100):Kr L r0 k r:=by
 obtain ⟨T,e0,e1,h2⟩:=h;subst e1
 induction k with
 | zero=>rw [e0];exact Kr.start h0 hl
 | succ k ih=>exact (ih λi hi=>h2 i (by omega)).step hn (h2 k (by omega))
end
def oJ (f:List Int->Nat->Int) (r:aP) (n:Nat):Pl.mM:=⟨n,r.zero.map f,r.least.map f,r.told.map f⟩
def lf (a:List Int) (k:Nat):Int:=a.getD k 0
def aP.dV (r:aP):Pl.mM:=oJ lf r r.size
theorem Bu {n:Nat} {s t:Nat->Int} (h:∀ k,k<=n->s k=t k) (x:Nat->Int):Pl.ev n s (Pl.pt x)=Pl.ev n t (Pl.pt x):=by
 rw [Pl.kR,Pl.kR,h 0 (aaZ _),Pl.aC λi hi=>by rw [h (i+1) (by omega)]]
theorem wE {f g:List Int->Nat->Int} {r:aP} {n:Nat} (h:∀ a k,k<=n->f a k=g a k) (x:Nat->Int):(oJ f r n).Has x↔(oJ g r n).Has x:=by
 have one:∀ f g:List Int->Nat->Int,(∀ a k,k<=n->f a k=g a k)->(oJ f r n).Has x->(oJ g r n).Has x:=λf g h hh=>by
  refine ⟨λs hs=>?_,λs hs=>?_⟩
  ·obtain ⟨a,ha,rfl⟩:=m_.1 hs;have:=hh.zero (f a) (m_.2 ⟨a,ha,rfl⟩);exact (Bu (λk hk=>(h a k hk).symm) x).trans this
  ·obtain ⟨a,ha,rfl⟩:=m_.1 hs;have h1:=hh.least (f a) (m_.2 ⟨a,ha,rfl⟩);have h2:Pl.ev n (f a) (Pl.pt x)=Pl.ev n (g a) (Pl.pt x):=Bu (h a) x;show 0<=Pl.ev n (g a) (Pl.pt x);rw [<-h2];exact h1
 exact ⟨one f g h,one g f λa k hk=>(h a k hk).symm⟩
theorem qP {f g:List Int->Nat->Int} {r:aP} {n:Nat} (h:∀ a k,k<=n->f a k=g a k) (x:Nat->Int):(oJ f r n).fB x=(oJ g r n).fB x:=by
 show ((r.told.map f).map λs=>Pl.ev n s (Pl.pt x))=((r.told.map g).map λs=>Pl.ev n s (Pl.pt x));rw [List.map_map,List.map_map];exact aa1 λa _=>Bu (h a) x
theorem Mt {f g:List Int->Nat->Int} {r:aP} {n:Nat} (h:∀ a k,k<=n->f a k=g a k) (A:List Int):(oJ f r n).kU A↔(oJ g r n).kU A :=
 ⟨λ⟨x,h1,h2⟩=>⟨x,(wE h x).1 h1,by rw [<-qP h];exact h2⟩,λ⟨x,h1,h2⟩=>⟨x,(wE h x).2 h1,by rw [qP h];exact h2⟩⟩
theorem je {n:Nat} {St:Nat->Nat->Int} (a:List Int) (k:Nat) (hk:k<=n):lf (dH a (iR n St) n) k=Pl.qb n St (lf a) k:=by
 unfold lf dH;rw [Pl.bJ _ _ _ (by omega)];unfold l9 Pl.qb;by_cases e:k=0
 ·rw [h_ e,h_ e]
 ·rw [g_ e,g_ e];unfold mZ;exact Pl.aC λi hi=>by rw [zI St (by omega) hi]
theorem qY (r:aP) (M:List (List Int)):(r.bK M).dV=oJ (λa=>lf (dH a M r.size)) r r.size:=by
 unfold aP.dV oJ aP.bK;simp only [List.map_map]
 rfl
theorem Fq (r:aP) (St:Nat->Nat->Int):r.dV.uH St=oJ (λa=>Pl.qb r.size St (lf a)) r r.size:=by
 unfold aP.dV oJ Pl.mM.uH;simp only [List.map_map]
 rfl
theorem C8 {t:Nat} {x:Int} (a:List Int) (k:Nat):lf (eX a t x) k=Pl.qw t x (lf a) k:=by
 unfold lf eX bP Pl.qw;rw [a_,List.getElem?_mapIdx,List.getElem?_eraseIdx];by_cases e:k=0
 ·subst e;rw [h_ (by omega),h_ rfl];cases a with
  | nil=>simp
  | cons z a=>simp
 ·rw [g_ e];by_cases h:k<=t
  ·rw [h_ (by omega),h_ h];show _=a.getD k 0;rw [a_ (l:=a) (i:=k)];cases a[k]? with
   | none=>rfl
   | some z=>simp [e]
  ·rw [g_ (by omega),g_ h];show _=a.getD (k+1) 0;rw [a_ (l:=a) (i:=k+1)];cases a[k+1]? with
   | none=>rfl
   | some z=>simp [e]
theorem sO (r:aP) (t:Nat) (x:Int):(r.fixed t x).dV=r.dV.fix t x:=by
 unfold aP.dV oJ aP.fixed Pl.mM.fix;simp only [List.map_map];have e:lf∘(λa=>eX a t x)=Pl.qw t x∘lf:=by
  funext a k;exact C8 a k
 rw [e]
theorem jA.qG {r r':aP} {s:Nat->Int} (h:jA r s r') (A:List Int):r'.dV.kU A↔∃ x,r.dV.Has x∧r.dV.fB x=A∧Pl.ev r.size s (Pl.pt x)=0:=by
 rcases h with ⟨rfl,h0,kk,St,hr,hz⟩|⟨at_,kk,St,x,h1,hx,hv,rfl⟩
 ·have key:∀ x,Pl.ev r'.size s (Pl.pt x)=0:=λx=>by
   obtain ⟨y,hy⟩:=hr.N9.reach x;rw [Pl.iI hy,<-Pl.pF,Pl.ze (λi hi=>by rw [Pl.lS];exact hz i hi)];exact h0
  exact ⟨λ⟨x,h2,h3⟩=>⟨x,h2,h3,key x⟩,λ⟨x,h2,h3,_⟩=>⟨x,h2,h3⟩⟩
 ·have ht:∀ j,j<r.size->Pl.qb r.size St s (j+1)=if j=at_ then Pl.aQ r.size St s at_ else 0:=λj hj=>by
   rw [Pl.lS]
   split
   ·rename_i e;rw [e]
   ·rename_i e;exact h1.only j hj e
  refine Iff.trans ?_ (Pl.Iq (r:=r.dV) (s:=s) h1.rounds.N9 h1.lt h1.nz ht hv A);rw [sO,Pl.mM.Bg (r:=(r.bK (iR r.size St)).dV) h1.lt,Pl.mM.Bg (r:=r.dV.uH St) h1.lt,qY,Fq];constructor
  ·rintro ⟨y,a1,a2,a3⟩;exact ⟨y,(wE je y).1 a1,by rw [<-qP je];exact a2,a3⟩
  ·rintro ⟨y,a1,a2,a3⟩;exact ⟨y,(wE je y).2 a1,by rw [qP je];exact a2,a3⟩
theorem Lm.none {r:aP} {s:Nat->Int} (h:Lm r s) (x:Nat->Int):Pl.ev r.size s (Pl.pt x)≠0:=by
 rcases h with ⟨h0,kk,St,hr,hz⟩|⟨at_,kk,St,h1,hv⟩
 ·obtain ⟨y,hy⟩:=hr.N9.reach x;rw [Pl.iI hy,<-Pl.pF,Pl.ze (λi hi=>by rw [Pl.lS];exact hz i hi)];exact h0
 ·refine Pl.FV h1.rounds.N9 h1.lt h1.nz (λj hj=>?_) hv x;rw [Pl.lS]
  split
  ·rename_i e;rw [e]
  ·rename_i e;exact h1.only j hj e
end Go.Proofs.YtgaafamcajcifaaGreat
