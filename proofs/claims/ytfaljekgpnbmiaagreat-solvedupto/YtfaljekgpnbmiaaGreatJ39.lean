/- Joined: XFind5 XFind6. -/
import Derived.Test.YtfaljekgpnbmiaaGreatJ37
set_option linter.unusedVariables false
set_option linter.unusedSimpArgs false
set_option maxRecDepth 100000
namespace Go.Proofs.YtfaljekgpnbmiaaGreat
open Go.RowKit Go.Sort
theorem sS {ws:List Int} (h:∀ x∈ws,0<x) {k:Nat} (hk:k<ws.length):0<ws.getD k 0:=by
 rw [a_,f_ hk];exact h _ (aan _)
theorem yE {ws:List Int} {K:Nat} (h:∀ x∈ws,Pl.Lt K x) (k:Nat):Pl.Lt K (ws.getD k 0):=by
 rw [a_];rcases hk:ws[k]? with _|x
 ·exact lC K
 ·exact h x (abR hk)
theorem P8 (n L:Nat):XR n L<=GJ n L:=by unfold GJ;rw [abC,ab4];omega
theorem P9 (n L:Nat):VM n L+L+1=XR n L:=by unfold XR;omega
set_option maxHeartbeats 2000000 in
theorem J9 (r:aP) (L:Nat) (ws:List Int) (vr vw:Value) (w:World) (h:jV PT w vr r) (hw:aD PT w vw ws) (hf:iO L r) (hwl:ws.length=r.least.length) (hpos:∀ x∈ws,0<x) (hlt:∀ x∈ws,Pl.Lt (YJ r.size L) x) (VQ:3*((r.size+1)*wJ r.size (VM r.size L) r.size+1)+20<=1500000000000) (hlim:2*GJ r.size L+20<=1500000000000)
  (hfind:∀ r':aP,r'.size+1=r.size->eP r'->dG (srF r.size L) r'->r'.dX.gM->r'.least.length<=800->GK r') :
  Calls Tryz.prog 220 #[vr,vw] w (uL r w):=by
 obtain ⟨vz,vl,vt,rfl,h1,h2,h3⟩:=h;obtain ⟨za,zn,zc,rfl⟩:=h1.aB;obtain ⟨la,ln,lc,rfl⟩:=h2.aB;obtain ⟨ta,tn,tc,rfl⟩:=h3.aB;obtain ⟨wa,wn,wc,rfl⟩:=hw.aB;have hV1:=P8 r.size L;have hV2:=P9 r.size L;have hV3:=P7 r.size L;have hV4:=VN r.size L;have hQ:2*YJ r.size L+2*L+3<=1500000000000:=by have:UC r.size L=2*YJ r.size L+2*L+1:=rfl;omega
 obtain ⟨W,hW⟩:∃ W,w.alloc (.cells #[.int .i64 r.size,.slice za zn zc,.slice la ln lc,.slice ta tn tc] 164)=W:=⟨_,rfl⟩;have HB:Hid (bV PT w.heap.size W r za zn zc la ln lc ta tn tc):=by unfold Hid;rw [<-hW];exact bV.new ⟨h1,h2,h3⟩
 have HG:Hid (ae w W):=by unfold Hid;rw [<-hW];exact ae.alloc _ _
 obtain ⟨k0,k1,k2,k3,kf⟩:=(uh HB).cells;have HPR:=af (Fy (YJ r.size L) L r.size r.least.length r.least ws (.slice la ln lc) (.slice wa wn wc) W (uh HB).rows.least (hw.below (uh HG)) rfl hwl hf.ok.dS hf.Aj (by have:=hf.size;omega) (by have:=hf.pK;omega) (λk hk=>sS hpos (by omega)) (yE hlt) hf.lt.least hQ);have HWP:=af (λk (hk:k<r.least.length)=>Ka (ws:=ws) (m:=r.least.length) hk (sS hpos (by omega)));have XU:=af (λk (hk:k<r.least.length)=>zJ (ws:=ws) (yE hlt) (m:=r.least.length) (sS hpos (k:=k) (by omega)));have HF:=af hf;have YM:=af hfind;have hs9:=hf.size;have hs0:=hf.Aj;clear h1 h2 h3 hw hpos hlt hwl hf hfind;go_enter Tryz.func220,Tryz.ntmps220;go_wp2_with fail
 try rw [hW]
 clear hW;refine (uh HPR).mono ?_;rintro e w1 ⟨v1,rfl,hv1,hb1⟩;have HRD:=af (Kb PT r.size (UC r.size L) (iU r.size (Pl.il r.least.length r.S (dJ ws r.least.length))) v1 w1 (λ_ _=>trivial) hv1 (qb _ _) Cg hs0 hs9 (J2 (PZ (uh HF).zero (uh HF).mO (uh HWP)) (λi j hi hj=>(zK _ hi hj).symm)) (Na (λi j=>Pl.Kc _ _ _ i j)) (λa b _ _=>by
  refine vW (λi k _ _=>?_) a b;exact Pl.Lt.mono (GM (by have:=(uh HF).pK;omega) (λk y=>(uh HF).lt.least k y) (uh XU) i k) (by unfold UC;omega)) VQ)
 have HB1:=af ((uh HB).grow hb1);have dP:Hid (ae w w1):=(uh HG).trans hb1;obtain ⟨x1a,x1n,x1c,rfl⟩:=hv1.aB;clear hv1 hb1 HPR HB HG k0 k1 k2 k3 kf;go_wp2_with fail;refine (uh HRD).mono ?_;rintro e w2 ⟨v2,St,rfl,hv2,hU,XV,hb2⟩;have HB2:=af ((uh HB1).grow hb2);have HG2:Hid (ae w w2):=(uh dP).trans hb2;obtain ⟨k0,k1,k2,k3,kf⟩:=(uh HB2).cells;have uM:=af (J8 (uh HF) hU XV);have GN:=af (J6 (r:=r) hU);have XW:=af (Ch PT (VM r.size L) r (iU r.size St) _ v2 w2 (λ_ _=>trivial) (uh HB2).at hv2 (uh HF).ok (qb _ _) Cg (by omega) ((uh HF).lt.mono (by omega)) (vW XV) (by omega));obtain ⟨x2a,x2n,x2c,rfl⟩:=hv2.aB;clear hv2 hb2 HRD HB1 dP hU XV HWP XU;obtain ⟨R,hR⟩:∃ R,r.bL (iU r.size St)=R:=⟨_,rfl⟩;have xh:Hid (R.size=r.size):=by unfold Hid;rw [<-hR];rfl
 rw [hR] at uM GN XW;clear hR;go_wp2_with fail;refine (uh XW).mono ?_;rintro e w3 ⟨v3,rfl,hv3,hb3⟩;obtain ⟨vz,vl,vt,rfl,g1,g2,g3⟩:=hv3;obtain ⟨ya,yn,yc,rfl⟩:=g1.aB;obtain ⟨ua,un,uc,rfl⟩:=g2.aB;obtain ⟨ra,rn,rc,rfl⟩:=g3.aB;have je:Hid (ae w w3):=(uh HG2).trans hb3;have HST:=af (bV.store (uh je) (d_ _) (Below.same hb3 _ _ (uh HB2).own) rfl ⟨g1,g2,g3⟩);obtain ⟨j0,j1,j2,j3,jf⟩:=((uh HB2).grow hb3).cells;have f0:=jf 0;have f1:=jf 1;have f2:=jf 2;have f3:=jf 3;clear jf;generalize xZ:(((w3.setCell ⟨w.heap.size,0,none⟩ (.int .i64 R.size)).setCell ⟨w.heap.size,1,none⟩ (.slice ya yn yc)).setCell ⟨w.heap.size,2,none⟩ (.slice ua un uc)).setCell ⟨w.heap.size,3,none⟩ (.slice ra rn rc)=W4 at *
 have jQ:=af (uh HST).1;have kE:=af (uh HST).2.1;clear g1 g2 g3 hb3 XW HB2 HG2 k0 k1 k2 k3 kf HST je;obtain ⟨k0,k1,k2,k3,kf⟩:=(uh jQ).cells;obtain ⟨last,hlast⟩:∃ last,R.size=last+1:=⟨R.size - 1,by have:=uh xh;omega⟩;have hR9:R.size<=9:=by rw [uh xh];exact hs9
 have HLI:=af (Ke R (XR r.size L) last (.agg #[.int .i64 R.size,.slice ya yn yc,.slice ua un uc,.slice ra rn rc]) W4 (uh jQ).at (uh uM) (by omega) (by rw [uh xh];show 2*GJ r.size L+1<=_;omega));rw [uh xh] at HLI;have Eo:=af hlast;have el:((last:Nat):Int)=(R.size:Int) - 1:=by omega
 rw [<-uh xh,el] at HLI;clear hlast el;go_wp2_with fail;refine (uh HLI).mono ?_;rintro e w5 ⟨v5,v6,lo,hi,rfl,hlo,hhi,hb5,hbo,hl5,hl6⟩;obtain ⟨lx,la',lm,Nk,rfl⟩:=hlo.shape;obtain ⟨hx,ha',hm,hc',rfl⟩:=hhi.shape;have gG:Hid (ae w w5):=(uh kE).trans hb5;have jB:Hid (bV (·<W4.heap.size) w.heap.size w5 R ya yn yc ua un uc ra rn rc):=((uh jQ).mono (P':=(·<W4.heap.size)) (λk hk _=>hk)).grow hb5;have hw4:w.heap.size<W4.heap.size:=z_ (uh jQ).own;have pO:W4.heap.size<=w5.heap.size:=hb5.size;have HBO:=af hbo;have GQ:Hid (Pl.Lt (GJ r.size L) lo):=by unfold Hid;have:=hl5;rw [uh xh] at this;exact this
 have Kg:Hid (Pl.Lt (GJ r.size L) hi):=by unfold Hid;have:=hl6;rw [uh xh] at this;exact this
 have O0:=af ((dD hlo).grow (ae.alloc _ (.cells #[.int .i64 hx,.slice ha' hm hc'] 168)));have Fz:=af (dD (w:=w5.alloc (.cells #[.int .i64 lx,.slice la' lm Nk] 168)) (hhi.below (ae.alloc _ _)));rw [H_] at Fz;have A7:Hid (ae w5 ((w5.alloc (.cells #[.int .i64 lx,.slice la' lm Nk] 168)).alloc (.cells #[.int .i64 hx,.slice ha' hm hc'] 168))):=ae.trans (ae.alloc _ _) (ae.alloc _ _);have HSA:Hid (((w5.alloc (.cells #[.int .i64 lx,.slice la' lm Nk] 168)).alloc (.cells #[.int .i64 hx,.slice ha' hm hc'] 168)).heap.size=w5.heap.size+2):=by unfold Hid;rw [H_,H_]
 clear hlo hhi hb5 hbo hl5 hl6 HLI j0 j1 j2 j3 f0 f1 f2 f3 xZ k0 k1 k2 k3 kf;go_wp2_with fail;generalize Bj:(w5.alloc (.cells #[.int .i64 lx,.slice la' lm Nk] 168)).alloc (.cells #[.int .i64 hx,.slice ha' hm hc'] 168)=W5 at *
 clear Bj;refine (ig PT (GJ r.size L) lo hi _ _ W5 (λ_ _=>trivial) (uh O0).val (uh Fz).val (by omega) (uh GQ) (uh Kg)).mono ?_;rintro e w6 ⟨v6,rfl,hv6,hb6⟩;obtain ⟨sx,sa,sm,sc,rfl⟩:=hv6.shape;have wK:=af hv6;have lV:Hid (ae W5 w6):=hb6;clear hv6 hb6;go_wp2_with fail;refine (fP PT 2 w6 (λ_ _=>trivial) (by decide) (by decide)).mono ?_;rintro e w7 ⟨v7,rfl,hv7,UD⟩;obtain ⟨tx,ta',tm,tc',rfl⟩:=hv7.shape;have XX:=af (lD PT (GJ r.size L+1) (lo+hi) 2 _ _ w7 (λ_ _=>trivial) ((uh wK).below UD) hv7 (by omega) ((uh GQ).add (uh Kg)) (VO (by omega)));have Dw:Hid (ae W5 w7):=(uh lV).trans UD;clear hv7 UD wK lV;go_wp2_with fail;refine (uh XX).mono ?_;rintro e w8 ⟨v8,rfl,sU,XZ⟩;obtain ⟨mx,ma,mm,mc,rfl⟩:=sU.shape;obtain ⟨lq,hmid⟩:∃ lq,Int.fdiv (lo+hi) 2=lq:=⟨_,rfl⟩;rw [hmid] at sU;have yF:Hid (ae W5 w8):=(uh Dw).trans XZ;have hs8:w5.heap.size+2<=w8.heap.size:=by have h1:=uh HSA;have h2:=(uh yF).size;omega
 have FB:Hid (ae W5 ((w8.alloc (.cells #[.int .i64 mx,.slice ma mm mc] 168)).alloc (.cells #[.int .i64 0,.slice none 0 0] 168))):=(uh yF).trans (ae.trans (ae.alloc _ _) (ae.alloc _ _));have VR:=af (dD (w:=w8.alloc (.cells #[.int .i64 mx,.slice ma mm mc] 168)) (sV PT _));rw [H_] at VR;have HS0:Hid (GL W4.heap.size w ((w8.alloc (.cells #[.int .i64 mx,.slice ma mm mc] 168)).alloc (.cells #[.int .i64 0,.slice none 0 0] 168)) R ya yn yc ua un uc ra rn rc w5.heap.size (w5.heap.size+1) w8.heap.size (w8.heap.size+1) lx la' lm Nk lo hx ha' hm hc' hi mx ma mm mc lq 0 none 0 0 0) :=
  ⟨((uh jB).grow (uh A7)).grow (uh FB),(uh O0).grow (uh FB),(uh Fz).grow (uh FB),(dD sU).grow (ae.alloc _ _),uh VR,((uh gG).trans (uh A7)).trans (uh FB),by omega,by omega,by omega,by omega,by omega⟩
 have yG:=af hmid;have Yp:Hid (Nj R last lo hi 0):=⟨λj hj=>absurd hj (aaL j)⟩;clear sU XZ Dw XX VR yF FB O0 Fz jB gG A7 HSA hmid;go_wp2_with fail;generalize YN:(w8.alloc (.cells #[.int .i64 mx,.slice ma mm mc] 168)).alloc (.cells #[.int .i64 0,.slice none 0 0] 168)=W9 at *
 clear YN;generalize acV:w8.heap.size+1=g11 at *
 generalize YO:w8.heap.size=g10 at *
 generalize Vt:w5.heap.size+1=g9 at *
 generalize Dv:w5.heap.size=g8 at *
 generalize hBB:W4.heap.size=BB at *
 clear acV YO Vt Dv hs8 hw4 pO hBB;obtain ⟨top,htop⟩:∃ top,2*(hi - lq).toNat+3=top:=⟨_,rfl⟩;go_loopg [] top (λq wr=>∃ (k:Nat) (ox:Int) (oa:Option Addr) (om oc:Nat),k+q=top∧Hid (GL BB w wr R ya yn yc ua un uc ra rn rc g8 g9 g10 g11 lx la' lm Nk lo hx ha' hm hc' hi mx ma mm mc lq ox oa om oc (lZ k)∧Nj R last lo hi k))
 case atStart=>exact ⟨0,0,none,0,0,by omega,uh HS0,uh Yp⟩
 case round =>
  clear HS0 Yp;obtain ⟨k,ox,oa,om,oc,hkq,HR⟩:=hrel;have lF:=af ((uh HR).2.lt (uh GQ) (uh Kg));rw [uh yG] at lF;obtain ⟨m0,m1,-,-⟩:=(uh HR).1.v10.cells;obtain ⟨o0,o1,-,-⟩:=(uh HR).1.v11.cells;have HAD:=af (ig PT (GJ r.size L+3) lq (lZ k) (.agg #[.int .i64 mx,.slice ma mm mc]) (.agg #[.int .i64 ox,.slice oa om oc]) wr (λ_ _=>trivial) (uh HR).1.v10.val (uh HR).1.v11.val (by omega) (Pl.Lt.mono (uh lF).1 (by omega)) (uh lF).2.1);go_wp2_with fail;refine (uh HAD).mono ?_;rintro e w1 ⟨v1,rfl,hv1,hb1⟩;obtain ⟨px,pa,pm,pc,rfl⟩:=hv1.shape;obtain ⟨at_,hat⟩:∃ at_,lq+lZ k=at_:=⟨_,rfl⟩;rw [hat] at hv1;have HAT:Hid (Int.fdiv (lo+hi) 2+lZ k=at_):=by unfold Hid;rw [uh yG];exact hat
  have oL:Hid (Pl.Lt (GJ r.size L+4) at_):=by unfold Hid;rw [<-hat];exact (uh lF).2.2
  have A7:Hid (ae wr (w1.alloc (.cells #[.int .i64 px,.slice pa pm pc] 168))):=ae.trans hb1 (ae.alloc _ _);have HVA:=af (dD hv1);have xu:wr.heap.size<=w1.heap.size:=hb1.size;clear hv1 hb1 HAD m0 m1 o0 o1 hat;generalize hW1:w1.alloc (.cells #[.int .i64 px,.slice pa pm pc] 168)=W1 at *
  generalize mR:w1.heap.size=g12 at *
  have HR1:=af ((uh HR).1.grow (uh A7));obtain ⟨p0,p1,-,-⟩:=(uh HVA).cells;obtain ⟨h0,h1,-,-⟩:=(uh HR1).v9.cells;have HCM:=af (ji PT (GJ r.size L+4) at_ hi (.agg #[.int .i64 px,.slice pa pm pc]) (.agg #[.int .i64 hx,.slice ha' hm hc']) W1 (λ_ _=>trivial) (uh HVA).val (uh HR1).v9.val (by omega) (uh oL) (Pl.Lt.mono (uh Kg) (by omega)));go_wp2_with fail
  try rw [hW1]
  clear hW1;refine (uh HCM).mono ?_;rintro e w2 ⟨rfl,hb2⟩;have SQ:=af ((uh HVA).grow hb2);have HR2:=af ((uh HR1).grow hb2);clear hb2 HVA HR1 A7 p0 p1 h0 h1 HCM;by_cases hc:hi<at_
  ·rw [J_ (show 0<at_ - hi by omega)];have Bl:Hid (∀ A,¬ r.dX.kW A):=λA hA=>(uh HR).2.none (by have:=uh Eo;omega) (uh HBO) (by rw [uh HAT];exact hc) A ((uh GN A).2 hA);have Qa:=af (uh HR2).dh;clear hc;go_wp2;exact t_ (v:=.tuple #[.slice none 0 0,.bool false]) (by simp [results,Tryz.results220,go_sem]) rfl ⟨_,false,rfl,⟨_,_,_,rfl⟩,uh Qa,λh=>(by cases h),λ_=>uh Bl⟩
  ·obtain ⟨sg,hsg⟩:∃ sg,Int.sign (at_ - hi)=sg:=⟨_,rfl⟩;have d0:¬ (0<sg):=by
    rw [<-hsg];rcases (show at_ - hi<0∨at_ - hi=0 by omega) with h|h
    ·rw [E_ h];decide
    ·rw [h];decide
   have d1:decide (0<sg)=false:=aaf d0;rw [hsg];have DN:Hid (at_<=hi):=Int.not_lt.1 hc;obtain ⟨p0,p1,-,-⟩:=(uh SQ).cells;obtain ⟨h0,h1,-,-⟩:=(uh HR2).v8.cells;have HCM:=af (ji PT (GJ r.size L+4) at_ lo (.agg #[.int .i64 px,.slice pa pm pc]) (.agg #[.int .i64 lx,.slice la' lm Nk]) w2 (λ_ _=>trivial) (uh SQ).val (uh HR2).v8.val (by omega) (uh oL) (Pl.Lt.mono (uh GQ) (by omega)));clear hsg hc;go_wp2_with fail;refine (uh HCM).mono ?_;rintro e w3 ⟨rfl,hb3⟩;have YP:=af ((uh SQ).grow hb3);have HR3:=af ((uh HR2).grow hb3);clear hb3 SQ HR2 p0 p1 h0 h1 HCM d0 d1;by_cases hc:at_<lo
   ·rw [E_ (show at_ - lo<0 by omega)];have qX:Hid (Nj R last lo hi (k+1)):=(uh HR).2.next (by rw [uh HAT];exact uh DN) (λh=>by rw [uh HAT] at h;omega)
    have Nl:=(uh qX).pK;rw [uh yG] at Nl;obtain ⟨o0,o1,o2,o3⟩:=(uh HR3).v11.cells;have Bl:=af (uN PT (GJ r.size L+3) (lZ k) (.agg #[.int .i64 ox,.slice oa om oc]) w3 (λ_ _=>trivial) (uh HR3).v11.val (uh lF).2.1 (by omega) (by omega));clear hc;go_wp2_with fail;refine (uh Bl).mono ?_;rintro e w4 ⟨v4,rfl,hv4,hb4⟩;obtain ⟨nx,na,nm,nc,rfl⟩:=hv4.shape;have Bn:=af (((uh HR3).grow hb4).set hv4);obtain ⟨o0,o1,o2,o3⟩:=((uh HR3).grow hb4).v11.cells;clear hv4 hb4 Bl;go_wp2;go_roundg (gk - 1)
    case measure=>omega
    case rel=>exact ⟨k+1,nx,na,nm,nc,by omega,uh Bn,uh qX⟩
   ·obtain ⟨sg,hsg⟩:∃ sg,Int.sign (at_ - lo)=sg:=⟨_,rfl⟩;have d0:0<=sg:=by
     rw [<-hsg];rcases (show 0<at_ - lo∨at_ - lo=0 by omega) with h|h
     ·rw [J_ h];decide
     ·rw [h];decide
    have d1:decide (0<=sg)=true:=aaI d0;rw [hsg];have HLV:=af (ny (uh GQ) (uh Kg) (Int.not_lt.1 hc) (uh DN));obtain ⟨p0,p1,-,-⟩:=(uh YP).cells;obtain ⟨k0,k1,k2,k3,-⟩:=(uh HR3).box.cells;have VS:=af (Ep PT (GJ r.size L) last R at_ (.agg #[.int .i64 R.size,.slice ya yn yc,.slice ua un uc,.slice ra rn rc]) (.agg #[.int .i64 px,.slice pa pm pc]) w3 (λ_ _=>trivial) (uh HR3).box.at (uh YP).val (uh uM).ok (uh uM).Aj (by omega) (by have:=uh Eo;omega) ((uh uM).lt.mono hV1) (uh HLV) (by omega));have el:((last:Nat):Int)=(R.size:Int) - 1:=by have:=uh Eo;omega
    rw [el] at VS;have YQ:=af (uh YM (R.fixed last at_) (by show R.size - 1+1=r.size;rw [uh xh];omega) (eP.fixed (uh uM).ok (by have:=uh Eo;omega)) ((uh uM).lt.fixed (uh HLV)) (J7 (by have:=uh Eo;omega) at_ (uh uM).mO) (by show (R.least.map _).length<=800;rw [L_];exact (uh uM).pK));clear hsg hc el;go_wp2_with fail;refine (uh VS).mono ?_;rintro e w4 ⟨v4,rfl,hv4,hb4⟩;obtain ⟨vz,vl,vt,rfl,hz1,hz2,hz3⟩:=hv4;obtain ⟨fa,fn,fc,rfl⟩:=hz1.aB;obtain ⟨ga,gn,gc,rfl⟩:=hz2.aB;obtain ⟨ia,im,ic,rfl⟩:=hz3.aB;have HR4:=af ((uh HR3).grow hb4);have acX:=af (uh YQ _ w4 ⟨_,_,_,rfl,hz1,hz2,hz3⟩);clear hz1 hz2 hz3 hb4 VS YQ;go_wp2_with fail;refine (uh acX).mono ?_;rintro e w5 ⟨vs,ok,rfl,⟨sa,sn,sc,rfl⟩,hb5,ht,hfl⟩;have Bn:=af ((uh HR4).grow hb5);cases ok with
    | true =>
     obtain ⟨hnew,A,hA1,hA2⟩:=ht rfl;have HA1:=af hA1;have VT:=af (hnew.mono (uh HR4).dh.size);have HA2:Hid (r.dX.kW A):=(uh GN A).1 (by
      obtain ⟨x,x1,x2,_⟩:=(En (r:=R) (by have:=uh Eo;omega) at_ A).1 hA2;exact ⟨x,x1,x2⟩)
     clear ht hfl hA1 hA2 hnew hb5;go_wp2;exact t_ (v:=.tuple #[.slice sa sn sc,.bool true]) (by simp [results,Tryz.results220,go_sem]) rfl ⟨_,true,rfl,⟨_,_,_,rfl⟩,(uh Bn).dh,λ_=>⟨uh VT,A,uh HA1,uh HA2⟩,λh=>(by cases h)⟩
    | false =>
     have qX:Hid (Nj R last lo hi (k+1)):=(uh HR).2.next (by rw [uh HAT];exact uh DN) (λ_=>by rw [uh HAT];exact hfl rfl)
     have Nl:=(uh qX).pK;rw [uh yG] at Nl;obtain ⟨o0,o1,o2,o3⟩:=(uh Bn).v11.cells;have Bl:=af (uN PT (GJ r.size L+3) (lZ k) (.agg #[.int .i64 ox,.slice oa om oc]) w5 (λ_ _=>trivial) (uh Bn).v11.val (uh lF).2.1 (by omega) (by omega));clear ht hfl hb5 k0 k1 k2 k3 p0 p1;go_wp2_with fail;refine (uh Bl).mono ?_;rintro e w6 ⟨v6,rfl,hv6,hb6⟩;obtain ⟨nx,na,nm,nc,rfl⟩:=hv6.shape;have Qb:=af (((uh Bn).grow hb6).set hv6);obtain ⟨o0,o1,o2,o3⟩:=((uh Bn).grow hb6).v11.cells;clear hv6 hb6 Bl;go_wp2;go_roundg (gk - 1)
     case measure=>omega
     case rel=>exact ⟨k+1,nx,na,nm,nc,by omega,uh Qb,uh qX⟩
structure Ci (G:Nat->Nat) (r:aP):Prop where
 ok:eP r
 lt:dG (G r.size) r
 mO:r.dX.gM
 pK:r.least.length<=800
theorem uL.of {r r3:aP} {w w3:World} (YR:∀ A,r3.dX.kW A↔r.dX.kW A) (hG:ae w w3) {e:Ending} {w':World} (h:uL r3 w3 e w'):uL r w e w':=by
 obtain ⟨vs,ok,e1,h1,h2,h3,h4⟩:=h;refine ⟨vs,ok,e1,h1,ae.trans hG h2,λho=>?_,λho A hA=>h4 ho A ((YR A).2 hA)⟩;obtain ⟨hn,A,a1,a2⟩:=h3 ho;exact ⟨hn.mono hG.size,A,a1,(YR A).1 a2⟩
theorem Nn {r:aP} (hz:r.zero=[]) (h0:r.size=0) (hs:∀ a∈r.least,∃ i,i<r.size∧a.getD (i+1) 0≠0):r.dX.kW ((List.range r.told.length).map λk=>(r.told.getD k []).getD 0 0):=by
 refine ⟨λ_=>0,⟨λs hs'=>?_,λs hs'=>?_⟩,?_⟩
 ·have:r.dX.zero=[]:=by show r.zero.map lf=[];rw [hz];rfl
  rw [this] at hs';cases hs'
 ·obtain ⟨a,ha,rfl⟩:=m_.1 hs';obtain ⟨i,hi,_⟩:=hs a ha;omega
 ·apply abU
  ·show ((r.told.map lf).map _).length=_;simp
  ·intro k h1 h2;have hk:k<r.told.length:=by simpa using h2
   have e1:=Ni hk (λ_=>0);rw [a_,f_ h1] at e1;have e2:(r.dX.fD λ_=>0)[k]=Pl.ev r.size (lf (r.told.getD k [])) (Pl.pt λ_=>0):=e1;rw [e2,h0,Pl.kT];simp [Pl.sm,lf]
set_option maxHeartbeats 2000000 in
theorem Np {N:Nat} {G:Nat->Nat} (hroom:Room N G) (r:aP) (hN:r.size<=N) (hf:Ci G r) (hrec:∀ r':aP,Ci G r'->(r'.size<r.size∨r'.size=r.size∧r'.Cf∧¬ r.Cf)->GK r'):GK r:=by
 intro v w h;obtain ⟨vz,vl,vt,rfl,h1,h2,h3⟩:=h;obtain ⟨za,zn,zc,rfl⟩:=h1.aB;obtain ⟨la,ln,lc,rfl⟩:=h2.aB;obtain ⟨ta,tn,tc,rfl⟩:=h3.aB;have hN9:=hroom.size;obtain ⟨W,hW⟩:∃ W,w.alloc (.cells #[.int .i64 r.size,.slice za zn zc,.slice la ln lc,.slice ta tn tc] 164)=W:=⟨_,rfl⟩;have HB:Hid (bV PT w.heap.size W r za zn zc la ln lc ta tn tc):=by unfold Hid;rw [<-hW];exact bV.new ⟨h1,h2,h3⟩
 have HG:Hid (ae w W):=by unfold Hid;rw [<-hW];exact ae.alloc _ _
 obtain ⟨k0,k1,k2,k3,kf⟩:=(uh HB).cells;have UE:=af (uO PT (G r.size) r (.agg #[.int .i64 r.size,.slice za zn zc,.slice la ln lc,.slice ta tn tc]) W (λ_ _=>trivial) (uh HB).at hf.ok (by omega) hf.lt (hroom.settle r.size hN));have HF:=af hf;have YS:=af hrec;have lu:=af hroom;clear h1 h2 h3 hf hrec hroom;go_enter Tryz.func163,Tryz.ntmps163;go_wp2_with fail
 try rw [hW]
 clear hW;refine (uh UE).mono ?_;rintro e w1 ⟨v1,ok,rfl,⟨n',a1,m1,c1,a2,m2,c2,a3,m3,c3,rfl⟩,hb1,ht,hfl⟩;have dP:Hid (ae w w1):=(uh HG).trans hb1;have HOWN:=af (Below.same hb1 _ _ (uh HB).own);obtain ⟨j0,j1,j2,j3,jf⟩:=((uh HB).grow hb1).cells;have f0:=jf 0;have f1:=jf 1;have f2:=jf 2;have f3:=jf 3;clear hb1 UE HB HG k0 k1 k2 k3 kf jf;cases ok with
 | false =>
  have Qa:=af (iW (P:=PT) (uh dP) (d_ _) (uh HOWN) n' a1 m1 c1 a2 m2 c2 a3 m3 c3).1;have Bl:=af (hfl rfl);clear ht hfl;go_wp2;exact t_ (v:=.tuple #[.slice none 0 0,.bool false]) (by simp [results,Tryz.results163,go_sem]) rfl ⟨_,false,rfl,⟨_,_,_,rfl⟩,uh Qa,λh=>(by cases h),λ_=>uh Bl⟩
 | true =>
  obtain ⟨r1,⟨vz,vl,vt,e2,g1,g2,g3⟩,hZ,hc⟩:=ht rfl;have gH:=af (uI (uh HF).ok (uh HF).lt (by omega) (uh HF).mO hZ hc);have UF:Hid (r.Cf->r1.whole.size<r.size):=λhl=>hZ.lead hl.1 hl;obtain ⟨r2,hr2⟩:∃ r2,r1.whole=r2:=⟨_,rfl⟩;rw [hr2] at e2 g1 g2 g3 gH UF;have e3:=congrArg (λv=>match v with | .agg l=>l.toList | _=>[]) e2
  simp only [List.cons.injEq,adh,Value.int.injEq,adV] at e3;obtain ⟨rfl,rfl,rfl,rfl⟩:=e3;clear hr2 hZ hc ht hfl e2;have HST:=af (bV.store (uh dP) (d_ _) (uh HOWN) rfl ⟨g1,g2,g3⟩);generalize xZ:(((w1.setCell ⟨w.heap.size,0,none⟩ (.int .i64 r2.size)).setCell ⟨w.heap.size,1,none⟩ (.slice a1 m1 c1)).setCell ⟨w.heap.size,2,none⟩ (.slice a2 m2 c2)).setCell ⟨w.heap.size,3,none⟩ (.slice a3 m3 c3)=W4 at *
  have jQ:=af (uh HST).1;have kE:=af (uh HST).2.1;clear g1 g2 g3 HST dP;obtain ⟨k0,k1,k2,k3,kf⟩:=(uh jQ).cells;have hsz:r2.size<=r.size:=(uh gH).size;have lF:Hid (dG (G r2.size) r2):=(uh gH).lt.mono (by
   have:=(uh lu).iG (s:=r.size) hN (r.size - r2.size) (by omega);rwa [show r.size - (r.size - r2.size)=r2.size by omega] at this)
  by_cases hs0:r2.size=0
  ·have HCO:=af (DL PT r2.told.length r2.told (.slice a3 m3 c3) W4 (λ_ _=>trivial) (uh jQ).rows.told rfl (uh gH).ok.uP (λl hl=>by rw [(uh gH).ok.gV l hl];omega));have YT:=af (((uh gH).qI _).1 (Nn (uh gH).zero hs0 (uh gH).some));rw [hs0] at k0;have ac0:(((w1.setCell ⟨w.heap.size,0,none⟩ (.int .i64 0)).setCell ⟨w.heap.size,1,none⟩ (.slice a1 m1 c1)).setCell ⟨w.heap.size,2,none⟩ (.slice a2 m2 c2)).setCell ⟨w.heap.size,3,none⟩ (.slice a3 m3 c3)=W4:=by rw [<-xZ,hs0];rfl
   clear xZ;go_wp2_with fail
   try rw [ac0]
   refine (uh HCO).mono ?_;rintro e w5 ⟨v5,rfl,hv5,hnew,hb5⟩;obtain ⟨xa,xn,xc,rfl⟩:=hv5.aB;have VT:=af (hnew.mono (uh kE).size);have HV5:=af hv5;have gG:Hid (ae w w5):=(uh kE).trans hb5;clear hv5 hb5 hnew;go_wp2;exact t_ (v:=.tuple #[.slice xa xn xc,.bool true]) (by simp [results,Tryz.results163,go_sem]) rfl ⟨_,true,rfl,⟨_,_,_,rfl⟩,uh gG,λ_=>⟨uh VT,_,uh HV5,uh YT⟩,λh=>(by cases h)⟩
  ·have hs1:¬ ((r2.size:Int)=0):=by omega
   have zL:Hid (iO (G r2.size) r2):=⟨(uh gH).zero,(uh gH).mO,(uh gH).ok,uh lF,(uh lu).one _ (by omega),by omega,by omega,w_ (uh gH).pK (uh HF).pK⟩;have hlim:=(uh lu).limits r2.size (by omega);have VQ:=(uh lu).reduce r2.size (by omega);have hV1:=P8 r2.size (G r2.size);have hV2:=P9 r2.size (G r2.size);have hV3:=P7 r2.size (G r2.size);have hK:2*((r2.size+1)*G r2.size+1)+1<=1500000000000:=by have h1:UC r2.size (G r2.size)=2*((r2.size+1)*G r2.size+1)+2*G r2.size+1:=rfl;omega
   have UG:=af (FC (uh zL) (.slice a2 m2 c2) W4 (uh jQ).rows.least hK);go_wp2_with fail;refine (uh UG).mono ?_;rintro e w5 ⟨b,gl,gc,t5,rfl,q1,q2,q3,VU,X0,hgood⟩;have VV:=af (zM (uh zL) w5 VU hgood hK);have X3:=af VU;have gG:=af X0;clear VU X0 hgood UG k0 k1 k2 k3 kf;go_wp2_with fail;refine (uh VV).mono ?_;rintro e w6 ⟨qI,t6,rfl,YU,UH,VW,VX⟩;have lV:Hid (ae W4 w6):=qN (uh gG) q1 q2 q3 UH;cases qI with
   | true =>
    have Bl:Hid (∀ A,¬ r.dX.kW A):=λA hA=>by
     obtain ⟨x,hx,_⟩:=((uh gH).qI A).2 hA;exact VX rfl x hx
    have Qa:Hid (ae w w6):=(uh kE).trans (uh lV);clear YU UH VW VX;go_wp2;exact t_ (v:=.tuple #[.slice none 0 0,.bool false]) (by simp [results,Tryz.results163,go_sem]) rfl ⟨_,false,rfl,⟨_,_,_,rfl⟩,uh Qa,λh=>(by cases h),λ_=>uh Bl⟩
   | false =>
    have Nq:=af (VW rfl);have hholds:=sZ (uh X3) UH;have key:∀ (v:Value) (ls:List (List Int)),aM PT W4 v ls->aM (·≠gc) w6 v ls:=λv ls hv=>((hv.mono (P':=(·≠gc)) (λk hk _=>by have:=q3;show k≠gc;omega)).below (uh gG)).holds hholds;have O1:=af (Cj r2 (G r2.size) b gl gc W4.heap.size t6 (.agg #[.int .i64 r2.size,.slice a1 m1 c1,.slice a2 m2 c2,.slice a3 m3 c3]) w6 ⟨_,_,_,rfl,key _ _ (uh jQ).rows.zero,key _ _ (uh jQ).rows.least,key _ _ (uh jQ).rows.told⟩ (uh zL) YU (uh Nq) ⟨q1,q2,q3⟩ hK);have O3:=af ((uh jQ).grow (uh lV));obtain ⟨k0,k1,k2,k3,kf⟩:=(uh O3).cells;clear YU UH VW VX hholds key;go_wp2_with fail;refine (uh O1).mono ?_;rintro e w7 ⟨v7,v8,ks,zs,ws,rfl,-,⟨vz,vl,vt,rfl,g1,g2,g3⟩,hws,UD,VY⟩;obtain ⟨ya,yn,yc,rfl⟩:=g1.aB;obtain ⟨ua,un,uc,rfl⟩:=g2.aB;obtain ⟨ra,rn,rc,rfl⟩:=g3.aB;obtain ⟨wa,wn,wc,rfl⟩:=hws.aB;have Dw:Hid (ae w w7):=(uh kE).trans (abt (uh lV) UD);have YV:=af (Below.same (abt (uh lV) UD) _ _ (uh jQ).own);have Qc:=af (bV.store (uh Dw) (d_ _) (uh YV) rfl ⟨g1,g2,g3⟩);have HWS:=af (hws.holds (uh Qc).2.2);obtain ⟨i0,i1,i2,i3,jf⟩:=((uh jQ).grow (abt (uh lV) UD)).cells;have y0:=jf 0;have y1:=jf 1;have y2:=jf 2;have y3:=jf 3;clear jf;have ers:(r2.trim ks zs).size=r2.size:=rfl;rw [ers] at Qc HWS;generalize GR:(((w7.setCell ⟨w.heap.size,0,none⟩ (.int .i64 r2.size)).setCell ⟨w.heap.size,1,none⟩ (.slice ya yn yc)).setCell ⟨w.heap.size,2,none⟩ (.slice ua un uc)).setCell ⟨w.heap.size,3,none⟩ (.slice ra rn rc)=W8 at *
    have Nr:=af (uh Qc).1;have yF:=af (uh Qc).2.1;have HTP:=af VY;have GN:Hid (∀ A,(r2.trim ks zs).dX.kW A↔r.dX.kW A):=λA=>(VY.qI (uh gH).zero A).trans ((uh gH).qI A);have X4:Hid (Ci G (r2.trim ks zs)):=⟨(VY.ok (uh zL)).1,(VY.ok (uh zL)).2,VY.mO (uh gH).zero (uh gH).mO,by
     obtain ⟨D,h1,_⟩:=VY.parts;have h2:=h1.pK;have h3:=(uh zL).pK;show ks.length<=800;omega⟩
    have HYN:Hid (yn=zs.length):=by
     unfold Hid;have h1:=g1.len;rw [h1];show (r2.zero++zs).length=zs.length;rw [(uh gH).zero];rfl
    clear g1 g2 g3 hws UD VY Qc k0 k1 k2 k3 kf O1 O3;obtain ⟨k0,k1,k2,k3,kf⟩:=(uh Nr).cells;rw [ers] at k0;by_cases hz:0<yn
    ·have Jr:=af (uh YS (r2.trim ks zs) (uh X4) (by
      have hl:(r2.trim ks zs).Cf:=by
       refine SL ?_ ?_
       ·show 0<(r2.zero++zs).length;rw [(uh gH).zero];show 0<zs.length;have:=uh HYN;omega
       ·intro a ha;have ha':a∈r2.zero++zs:=ha;rw [(uh gH).zero] at ha';obtain ⟨D,h1,_⟩:=(uh HTP).parts;exact (uh gH).some a (h1.VZ a ha').1
      rw [ers];by_cases hL:r.Cf
      ·exact .inl (uh UF hL)
      ·rcases (show r2.size<r.size∨r2.size=r.size by omega) with h | h
       ·exact .inl h
       ·exact .inr ⟨h,hl,hL⟩) _ W8 (uh Nr).at)
     rw [ers] at Jr;go_wp2_with fail;refine (uh Jr).mono ?_;rintro e w9 hp;have HP:=af (hp.of (uh GN) (uh yF));obtain ⟨vs,ok,rfl,⟨sa,sn,sc,rfl⟩,-⟩:=hp;go_wp2;exact t_ (v:=.tuple #[.slice sa sn sc,.bool ok]) (by simp [results,Tryz.results163,go_sem]) rfl (uh HP)
    ·have hz0:yn=0:=by omega
     have hzs:zs=[]:=aaD (by have:=uh HYN;omega);clear HYN hz;subst hz0;subst hzs;have HSR:=af (J9 (r2.trim ks []) (G r2.size) ws (.agg #[.int .i64 r2.size,.slice ya 0 yc,.slice ua un uc,.slice ra rn rc]) (.slice wa wn wc) W8 (uh Nr).at (uh HWS)
      ⟨by show r2.zero++[]=[];rw [(uh gH).zero];rfl,(uh X4).mO,(uh X4).ok,(uh X4).lt,(uh zL).one,(uh zL).Aj,(uh zL).size,(uh X4).pK⟩
      (by obtain ⟨D,h1,_⟩:=(uh HTP).parts;exact h1.len) (by obtain ⟨D,h1,_⟩:=(uh HTP).parts;exact h1.pos) (by obtain ⟨D,h1,_⟩:=(uh HTP).parts;exact h1.lt) VQ hlim (λr' h1 h2 h3 h4 h5=>by
       have h1':r'.size+1=r2.size:=h1;refine uh YS r' ⟨h2,h3.mono ?_,h4,h5⟩ (.inl (by omega));have:=(uh lu).part r'.size (by omega);rw [h1'] at this;exact this))
     go_wp2_with fail;refine (uh HSR).mono ?_;rintro e w9 hp;have HP:=af (hp.of (uh GN) (uh yF));obtain ⟨vs,ok,rfl,⟨sa,sn,sc,rfl⟩,-⟩:=hp;go_wp2;exact t_ (v:=.tuple #[.slice sa sn sc,.bool ok]) (by simp [results,Tryz.results163,go_sem]) rfl (uh HP)
theorem Ck {N:Nat} {G:Nat->Nat} (hroom:Room N G) (r:aP) (hN:r.size<=N) (hf:Ci G r):GK r:=by
 have main:∀ (m:Nat) (r:aP),r.size<=N->Ci G r->(r.Cf->2*r.size<=m)->(¬ r.Cf->2*r.size+1<=m)->GK r:=λm=>by
  induction m using Nat.strongRecOn with
  | _ m ih =>
   intro r hN hf h1 h2;refine Np hroom r hN hf λr' hf' hc=>?_;by_cases hl:r.Cf
   ·have hm:=h1 hl;rcases hc with hc|⟨_,_,hc⟩
    ·exact ih (2*r'.size+1) (by omega) r' (by omega) hf' (λ_=>by omega) (λ_=>by omega)
    ·exact absurd hl hc
   ·have hm:=h2 hl;rcases hc with hc|⟨hc,hl',_⟩
    ·exact ih (2*r'.size+1) (by omega) r' (by omega) hf' (λ_=>by omega) (λ_=>by omega)
    ·exact ih (2*r'.size) (by omega) r' (by omega) hf' (λ_=>by omega) (λhn=>absurd hl' hn)
 exact main (2*r.size+1) r hN hf (λ_=>by omega) (λ_=>by omega)
end Go.Proofs.YtfaljekgpnbmiaaGreat
