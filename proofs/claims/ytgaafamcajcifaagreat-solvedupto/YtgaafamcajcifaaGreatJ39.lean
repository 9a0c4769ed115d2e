/- Joined: XFind5 XFind6. -/
import Derived.Test.YtgaafamcajcifaaGreatJ37
set_option linter.unusedVariables false
set_option linter.unusedSimpArgs false
set_option maxRecDepth 100000
namespace Go.Proofs.YtgaafamcajcifaaGreat
open Go.RowKit Go.Sort
theorem sQ {ws:List Int} (h:∀ x∈ws,0<x) {k:Nat} (hk:k<ws.length):0<ws.getD k 0:=by
 rw [a_,f_ hk];exact h _ (aal _)
theorem yD {ws:List Int} {K:Nat} (h:∀ x∈ws,Pl.Lt K x) (k:Nat):Pl.Lt K (ws.getD k 0):=by
 rw [a_];rcases hk:ws[k]? with _|x
 ·exact lq K
 ·exact h x (abw hk)
theorem Pg (n L:Nat):Xh n L<=GH n L:=by unfold GH;rw [abg,abQ];omega
theorem Ph (n L:Nat):Vb n L+L+1=Xh n L:=by unfold Xh;omega
set_option maxHeartbeats 2000000 in
theorem JH (r:aP) (L:Nat) (ws:List Int) (vr vw:Value) (w:World) (h:jT PT w vr r) (hw:aD PT w vw ws) (hf:iM L r) (hwl:ws.length=r.least.length) (hpos:∀ x∈ws,0<x) (hlt:∀ x∈ws,Pl.Lt (X8 r.size L) x) (Vg:3*((r.size+1)*wI r.size (Vb r.size L) r.size+1)+20<=1500000000000) (hlim:2*GH r.size L+20<=1500000000000)
  (hfind:∀ r':aP,r'.size+1=r.size->eH r'->dF (srF r.size L) r'->r'.dV.gJ->r'.least.length<=800->GI r') :
  Calls Tryz.prog 52 #[vr,vw] w (uK r w):=by
 obtain ⟨vz,vl,vt,rfl,h1,h2,h3⟩:=h;obtain ⟨za,zn,zc,rfl⟩:=h1.aB;obtain ⟨la,ln,lc,rfl⟩:=h2.aB;obtain ⟨ta,tn,tc,rfl⟩:=h3.aB;obtain ⟨wa,wn,wc,rfl⟩:=hw.aB;have hV1:=Pg r.size L;have hV2:=Ph r.size L;have hV3:=Pe r.size L;have hV4:=Vd r.size L;have hQ:2*X8 r.size L+2*L+3<=1500000000000:=by have:TS r.size L=2*X8 r.size L+2*L+1:=rfl;omega
 obtain ⟨W,hW⟩:∃ W,w.alloc (.cells #[.int .i64 r.size,.slice za zn zc,.slice la ln lc,.slice ta tn tc] 74)=W:=⟨_,rfl⟩;have HB:Hid (bU PT w.heap.size W r za zn zc la ln lc ta tn tc):=by unfold Hid;rw [<-hW];exact bU.new ⟨h1,h2,h3⟩
 have HG:Hid (ae w W):=by unfold Hid;rw [<-hW];exact ae.alloc _ _
 obtain ⟨k0,k1,k2,k3,kf⟩:=(uh HB).cells;have HPR:=af (Fw (X8 r.size L) L r.size r.least.length r.least ws (.slice la ln lc) (.slice wa wn wc) W (uh HB).rows.least (hw.below (uh HG)) rfl hwl hf.ok.dQ hf.Ai (by have:=hf.size;omega) (by have:=hf.pJ;omega) (λk hk=>sQ hpos (by omega)) (yD hlt) hf.lt.least hQ);have HWP:=af (λk (hk:k<r.least.length)=>JI (ws:=ws) (m:=r.least.length) hk (sQ hpos (by omega)));have Xj:=af (λk (hk:k<r.least.length)=>zI (ws:=ws) (yD hlt) (m:=r.least.length) (sQ hpos (k:=k) (by omega)));have HF:=af hf;have Yb:=af hfind;have hs9:=hf.size;have hs0:=hf.Ai;clear h1 h2 h3 hw hpos hlt hwl hf hfind;go_enter Tryz.func52,Tryz.ntmps52;go_wp2_with fail
 try rw [hW]
 clear hW;refine (uh HPR).mono ?_;rintro e w1 ⟨v1,rfl,hv1,hb1⟩;have HRD:=af (JJ PT r.size (TS r.size L) (iR r.size (Pl.ig r.least.length r.S (dI ws r.least.length))) v1 w1 (λ_ _=>trivial) hv1 (p9 _ _) Cf hs0 hs9 (JA (O9 (uh HF).zero (uh HF).mK (uh HWP)) (λi j hi hj=>(zJ _ hi hj).symm)) (Ms (λi j=>Pl.JK _ _ _ i j)) (λa b _ _=>by
  refine vV (λi k _ _=>?_) a b;exact Pl.Lt.mono (GK (by have:=(uh HF).pJ;omega) (λk y=>(uh HF).lt.least k y) (uh Xj) i k) (by unfold TS;omega)) Vg)
 have HB1:=af ((uh HB).grow hb1);have dN:Hid (ae w w1):=(uh HG).trans hb1;obtain ⟨x1a,x1n,x1c,rfl⟩:=hv1.aB;clear hv1 hb1 HPR HB HG k0 k1 k2 k3 kf;go_wp2_with fail;refine (uh HRD).mono ?_;rintro e w2 ⟨v2,St,rfl,hv2,hU,Xk,hb2⟩;have HB2:=af ((uh HB1).grow hb2);have HG2:Hid (ae w w2):=(uh dN).trans hb2;obtain ⟨k0,k1,k2,k3,kf⟩:=(uh HB2).cells;have uL:=af (JG (uh HF) hU Xk);have GL:=af (JE (r:=r) hU);have Xl:=af (Cg PT (Vb r.size L) r (iR r.size St) _ v2 w2 (λ_ _=>trivial) (uh HB2).at hv2 (uh HF).ok (p9 _ _) Cf (by omega) ((uh HF).lt.mono (by omega)) (vV Xk) (by omega));obtain ⟨x2a,x2n,x2c,rfl⟩:=hv2.aB;clear hv2 hb2 HRD HB1 dN hU Xk HWP Xj;obtain ⟨R,hR⟩:∃ R,r.bK (iR r.size St)=R:=⟨_,rfl⟩;have xg:Hid (R.size=r.size):=by unfold Hid;rw [<-hR];rfl
 rw [hR] at uL GL Xl;clear hR;go_wp2_with fail;refine (uh Xl).mono ?_;rintro e w3 ⟨v3,rfl,hv3,hb3⟩;obtain ⟨vz,vl,vt,rfl,g1,g2,g3⟩:=hv3;obtain ⟨ya,yn,yc,rfl⟩:=g1.aB;obtain ⟨ua,un,uc,rfl⟩:=g2.aB;obtain ⟨ra,rn,rc,rfl⟩:=g3.aB;have jb:Hid (ae w w3):=(uh HG2).trans hb3;have HST:=af (bU.store (uh jb) (d_ _) (Below.same hb3 _ _ (uh HB2).own) rfl ⟨g1,g2,g3⟩);obtain ⟨j0,j1,j2,j3,jf⟩:=((uh HB2).grow hb3).cells;have f0:=jf 0;have f1:=jf 1;have f2:=jf 2;have f3:=jf 3;clear jf;generalize xY:(((w3.setCell ⟨w.heap.size,0,none⟩ (.int .i64 R.size)).setCell ⟨w.heap.size,1,none⟩ (.slice ya yn yc)).setCell ⟨w.heap.size,2,none⟩ (.slice ua un uc)).setCell ⟨w.heap.size,3,none⟩ (.slice ra rn rc)=W4 at *
 have jO:=af (uh HST).1;have kC:=af (uh HST).2.1;clear g1 g2 g3 hb3 Xl HB2 HG2 k0 k1 k2 k3 kf HST jb;obtain ⟨k0,k1,k2,k3,kf⟩:=(uh jO).cells;obtain ⟨last,hlast⟩:∃ last,R.size=last+1:=⟨R.size - 1,by have:=uh xg;omega⟩;have hR9:R.size<=9:=by rw [uh xg];exact hs9
 have HLI:=af (JL R (Xh r.size L) last (.agg #[.int .i64 R.size,.slice ya yn yc,.slice ua un uc,.slice ra rn rc]) W4 (uh jO).at (uh uL) (by omega) (by rw [uh xg];show 2*GH r.size L+1<=_;omega));rw [uh xg] at HLI;have En:=af hlast;have el:((last:Nat):Int)=(R.size:Int) - 1:=by omega
 rw [<-uh xg,el] at HLI;clear hlast el;go_wp2_with fail;refine (uh HLI).mono ?_;rintro e w5 ⟨v5,v6,lo,hi,rfl,hlo,hhi,hb5,hbo,hl5,hl6⟩;obtain ⟨lx,la',lm,MF,rfl⟩:=hlo.shape;obtain ⟨hx,ha',hm,hc',rfl⟩:=hhi.shape;have gD:Hid (ae w w5):=(uh kC).trans hb5;have jy:Hid (bU (·<W4.heap.size) w.heap.size w5 R ya yn yc ua un uc ra rn rc):=((uh jO).mono (P':=(·<W4.heap.size)) (λk hk _=>hk)).grow hb5;have hw4:w.heap.size<W4.heap.size:=z_ (uh jO).own;have pM:W4.heap.size<=w5.heap.size:=hb5.size;have HBO:=af hbo;have GM:Hid (Pl.Lt (GH r.size L) lo):=by unfold Hid;have:=hl5;rw [uh xg] at this;exact this
 have JM:Hid (Pl.Lt (GH r.size L) hi):=by unfold Hid;have:=hl6;rw [uh xg] at this;exact this
 have Og:=af ((dC hlo).grow (ae.alloc _ (.cells #[.int .i64 hx,.slice ha' hm hc'] 78)));have Fx:=af (dC (w:=w5.alloc (.cells #[.int .i64 lx,.slice la' lm MF] 78)) (hhi.below (ae.alloc _ _)));rw [H_] at Fx;have AZ:Hid (ae w5 ((w5.alloc (.cells #[.int .i64 lx,.slice la' lm MF] 78)).alloc (.cells #[.int .i64 hx,.slice ha' hm hc'] 78))):=ae.trans (ae.alloc _ _) (ae.alloc _ _);have HSA:Hid (((w5.alloc (.cells #[.int .i64 lx,.slice la' lm MF] 78)).alloc (.cells #[.int .i64 hx,.slice ha' hm hc'] 78)).heap.size=w5.heap.size+2):=by unfold Hid;rw [H_,H_]
 clear hlo hhi hb5 hbo hl5 hl6 HLI j0 j1 j2 j3 f0 f1 f2 f3 xY k0 k1 k2 k3 kf;go_wp2_with fail;generalize Bi:(w5.alloc (.cells #[.int .i64 lx,.slice la' lm MF] 78)).alloc (.cells #[.int .i64 hx,.slice ha' hm hc'] 78)=W5 at *
 clear Bi;refine (gZ PT (GH r.size L) lo hi _ _ W5 (λ_ _=>trivial) (uh Og).val (uh Fx).val (by omega) (uh GM) (uh JM)).mono ?_;rintro e w6 ⟨v6,rfl,hv6,hb6⟩;obtain ⟨sx,sa,sm,sc,rfl⟩:=hv6.shape;have wJ:=af hv6;have lT:Hid (ae W5 w6):=hb6;clear hv6 hb6;go_wp2_with fail;refine (fM PT 2 w6 (λ_ _=>trivial) (by decide) (by decide)).mono ?_;rintro e w7 ⟨v7,rfl,hv7,TT⟩;obtain ⟨tx,ta',tm,tc',rfl⟩:=hv7.shape;have Xm:=af (lu PT (GH r.size L+1) (lo+hi) 2 _ _ w7 (λ_ _=>trivial) ((uh wJ).below TT) hv7 (by omega) ((uh GM).add (uh JM)) (Ve (by omega)));have Dv:Hid (ae W5 w7):=(uh lT).trans TT;clear hv7 TT wJ lT;go_wp2_with fail;refine (uh Xm).mono ?_;rintro e w8 ⟨v8,rfl,sS,Xn⟩;obtain ⟨mx,ma,mm,mc,rfl⟩:=sS.shape;obtain ⟨kZ,hmid⟩:∃ kZ,Int.fdiv (lo+hi) 2=kZ:=⟨_,rfl⟩;rw [hmid] at sS;have yE:Hid (ae W5 w8):=(uh Dv).trans Xn;have hs8:w5.heap.size+2<=w8.heap.size:=by have h1:=uh HSA;have h2:=(uh yE).size;omega
 have Fy:Hid (ae W5 ((w8.alloc (.cells #[.int .i64 mx,.slice ma mm mc] 78)).alloc (.cells #[.int .i64 0,.slice none 0 0] 78))):=(uh yE).trans (ae.trans (ae.alloc _ _) (ae.alloc _ _));have Vh:=af (dC (w:=w8.alloc (.cells #[.int .i64 mx,.slice ma mm mc] 78)) (sU PT _));rw [H_] at Vh;have HS0:Hid (GJ W4.heap.size w ((w8.alloc (.cells #[.int .i64 mx,.slice ma mm mc] 78)).alloc (.cells #[.int .i64 0,.slice none 0 0] 78)) R ya yn yc ua un uc ra rn rc w5.heap.size (w5.heap.size+1) w8.heap.size (w8.heap.size+1) lx la' lm MF lo hx ha' hm hc' hi mx ma mm mc kZ 0 none 0 0 0) :=
  ⟨((uh jy).grow (uh AZ)).grow (uh Fy),(uh Og).grow (uh Fy),(uh Fx).grow (uh Fy),(dC sS).grow (ae.alloc _ _),uh Vh,((uh gD).trans (uh AZ)).trans (uh Fy),by omega,by omega,by omega,by omega,by omega⟩
 have yF:=af hmid;have XM:Hid (ME R last lo hi 0):=⟨λj hj=>absurd hj (aaI j)⟩;clear sS Xn Dv Xm Vh yE Fy Og Fx jy gD AZ HSA hmid;go_wp2_with fail;generalize Yc:(w8.alloc (.cells #[.int .i64 mx,.slice ma mm mc] 78)).alloc (.cells #[.int .i64 0,.slice none 0 0] 78)=W9 at *
 clear Yc;generalize ach:w8.heap.size+1=g11 at *
 generalize Yd:w8.heap.size=g10 at *
 generalize UO:w5.heap.size+1=g9 at *
 generalize Du:w5.heap.size=g8 at *
 generalize hBB:W4.heap.size=BB at *
 clear ach Yd UO Du hs8 hw4 pM hBB;obtain ⟨top,htop⟩:∃ top,2*(hi - kZ).toNat+3=top:=⟨_,rfl⟩;go_loopg [] top (λq wr=>∃ (k:Nat) (ox:Int) (oa:Option Addr) (om oc:Nat),k+q=top∧Hid (GJ BB w wr R ya yn yc ua un uc ra rn rc g8 g9 g10 g11 lx la' lm MF lo hx ha' hm hc' hi mx ma mm mc kZ ox oa om oc (lX k)∧ME R last lo hi k))
 case atStart=>exact ⟨0,0,none,0,0,by omega,uh HS0,uh XM⟩
 case round =>
  clear HS0 XM;obtain ⟨k,ox,oa,om,oc,hkq,HR⟩:=hrel;have lC:=af ((uh HR).2.lt (uh GM) (uh JM));rw [uh yF] at lC;obtain ⟨m0,m1,-,-⟩:=(uh HR).1.v10.cells;obtain ⟨o0,o1,-,-⟩:=(uh HR).1.v11.cells;have HAD:=af (gZ PT (GH r.size L+3) kZ (lX k) (.agg #[.int .i64 mx,.slice ma mm mc]) (.agg #[.int .i64 ox,.slice oa om oc]) wr (λ_ _=>trivial) (uh HR).1.v10.val (uh HR).1.v11.val (by omega) (Pl.Lt.mono (uh lC).1 (by omega)) (uh lC).2.1);go_wp2_with fail;refine (uh HAD).mono ?_;rintro e w1 ⟨v1,rfl,hv1,hb1⟩;obtain ⟨px,pa,pm,pc,rfl⟩:=hv1.shape;obtain ⟨at_,hat⟩:∃ at_,kZ+lX k=at_:=⟨_,rfl⟩;rw [hat] at hv1;have HAT:Hid (Int.fdiv (lo+hi) 2+lX k=at_):=by unfold Hid;rw [uh yF];exact hat
  have oK:Hid (Pl.Lt (GH r.size L+4) at_):=by unfold Hid;rw [<-hat];exact (uh lC).2.2
  have AZ:Hid (ae wr (w1.alloc (.cells #[.int .i64 px,.slice pa pm pc] 78))):=ae.trans hb1 (ae.alloc _ _);have HVA:=af (dC hv1);have xq:wr.heap.size<=w1.heap.size:=hb1.size;clear hv1 hb1 HAD m0 m1 o0 o1 hat;generalize hW1:w1.alloc (.cells #[.int .i64 px,.slice pa pm pc] 78)=W1 at *
  generalize mP:w1.heap.size=g12 at *
  have HR1:=af ((uh HR).1.grow (uh AZ));obtain ⟨p0,p1,-,-⟩:=(uh HVA).cells;obtain ⟨h0,h1,-,-⟩:=(uh HR1).v9.cells;have HCM:=af (jg PT (GH r.size L+4) at_ hi (.agg #[.int .i64 px,.slice pa pm pc]) (.agg #[.int .i64 hx,.slice ha' hm hc']) W1 (λ_ _=>trivial) (uh HVA).val (uh HR1).v9.val (by omega) (uh oK) (Pl.Lt.mono (uh JM) (by omega)));go_wp2_with fail
  try rw [hW1]
  clear hW1;refine (uh HCM).mono ?_;rintro e w2 ⟨rfl,hb2⟩;have RX:=af ((uh HVA).grow hb2);have HR2:=af ((uh HR1).grow hb2);clear hb2 HVA HR1 AZ p0 p1 h0 h1 HCM;by_cases hc:hi<at_
  ·rw [J_ (show 0<at_ - hi by omega)];have Bj:Hid (∀ A,¬ r.dV.kU A):=λA hA=>(uh HR).2.none (by have:=uh En;omega) (uh HBO) (by rw [uh HAT];exact hc) A ((uh GL A).2 hA);have Pj:=af (uh HR2).cZ;clear hc;go_wp2;exact t_ (v:=.tuple #[.slice none 0 0,.bool false]) (by simp [results,Tryz.results52,go_sem]) rfl ⟨_,false,rfl,⟨_,_,_,rfl⟩,uh Pj,λh=>(by cases h),λ_=>uh Bj⟩
  ·obtain ⟨sg,hsg⟩:∃ sg,Int.sign (at_ - hi)=sg:=⟨_,rfl⟩;have d0:¬ (0<sg):=by
    rw [<-hsg];rcases (show at_ - hi<0∨at_ - hi=0 by omega) with h|h
    ·rw [E_ h];decide
    ·rw [h];decide
   have d1:decide (0<sg)=false:=aab d0;rw [hsg];have DL:Hid (at_<=hi):=Int.not_lt.1 hc;obtain ⟨p0,p1,-,-⟩:=(uh RX).cells;obtain ⟨h0,h1,-,-⟩:=(uh HR2).v8.cells;have HCM:=af (jg PT (GH r.size L+4) at_ lo (.agg #[.int .i64 px,.slice pa pm pc]) (.agg #[.int .i64 lx,.slice la' lm MF]) w2 (λ_ _=>trivial) (uh RX).val (uh HR2).v8.val (by omega) (uh oK) (Pl.Lt.mono (uh GM) (by omega)));clear hsg hc;go_wp2_with fail;refine (uh HCM).mono ?_;rintro e w3 ⟨rfl,hb3⟩;have Ye:=af ((uh RX).grow hb3);have HR3:=af ((uh HR2).grow hb3);clear hb3 RX HR2 p0 p1 h0 h1 HCM d0 d1;by_cases hc:at_<lo
   ·rw [E_ (show at_ - lo<0 by omega)];have qW:Hid (ME R last lo hi (k+1)):=(uh HR).2.next (by rw [uh HAT];exact uh DL) (λh=>by rw [uh HAT] at h;omega)
    have MG:=(uh qW).pJ;rw [uh yF] at MG;obtain ⟨o0,o1,o2,o3⟩:=(uh HR3).v11.cells;have Bj:=af (uM PT (GH r.size L+3) (lX k) (.agg #[.int .i64 ox,.slice oa om oc]) w3 (λ_ _=>trivial) (uh HR3).v11.val (uh lC).2.1 (by omega) (by omega));clear hc;go_wp2_with fail;refine (uh Bj).mono ?_;rintro e w4 ⟨v4,rfl,hv4,hb4⟩;obtain ⟨nx,na,nm,nc,rfl⟩:=hv4.shape;have Bl:=af (((uh HR3).grow hb4).set hv4);obtain ⟨o0,o1,o2,o3⟩:=((uh HR3).grow hb4).v11.cells;clear hv4 hb4 Bj;go_wp2;go_roundg (gk - 1)
    case measure=>omega
    case rel=>exact ⟨k+1,nx,na,nm,nc,by omega,uh Bl,uh qW⟩
   ·obtain ⟨sg,hsg⟩:∃ sg,Int.sign (at_ - lo)=sg:=⟨_,rfl⟩;have d0:0<=sg:=by
     rw [<-hsg];rcases (show 0<at_ - lo∨at_ - lo=0 by omega) with h|h
     ·rw [J_ h];decide
     ·rw [h];decide
    have d1:decide (0<=sg)=true:=aaG d0;rw [hsg];have HLV:=af (nu (uh GM) (uh JM) (Int.not_lt.1 hc) (uh DL));obtain ⟨p0,p1,-,-⟩:=(uh Ye).cells;obtain ⟨k0,k1,k2,k3,-⟩:=(uh HR3).box.cells;have Vi:=af (Eo PT (GH r.size L) last R at_ (.agg #[.int .i64 R.size,.slice ya yn yc,.slice ua un uc,.slice ra rn rc]) (.agg #[.int .i64 px,.slice pa pm pc]) w3 (λ_ _=>trivial) (uh HR3).box.at (uh Ye).val (uh uL).ok (uh uL).Ai (by omega) (by have:=uh En;omega) ((uh uL).lt.mono hV1) (uh HLV) (by omega));have el:((last:Nat):Int)=(R.size:Int) - 1:=by have:=uh En;omega
    rw [el] at Vi;have Yf:=af (uh Yb (R.fixed last at_) (by show R.size - 1+1=r.size;rw [uh xg];omega) (eH.fixed (uh uL).ok (by have:=uh En;omega)) ((uh uL).lt.fixed (uh HLV)) (JF (by have:=uh En;omega) at_ (uh uL).mK) (by show (R.least.map _).length<=800;rw [L_];exact (uh uL).pJ));clear hsg hc el;go_wp2_with fail;refine (uh Vi).mono ?_;rintro e w4 ⟨v4,rfl,hv4,hb4⟩;obtain ⟨vz,vl,vt,rfl,hz1,hz2,hz3⟩:=hv4;obtain ⟨fa,fn,fc,rfl⟩:=hz1.aB;obtain ⟨ga,gn,gc,rfl⟩:=hz2.aB;obtain ⟨ia,im,ic,rfl⟩:=hz3.aB;have HR4:=af ((uh HR3).grow hb4);have acj:=af (uh Yf _ w4 ⟨_,_,_,rfl,hz1,hz2,hz3⟩);clear hz1 hz2 hz3 hb4 Vi Yf;go_wp2_with fail;refine (uh acj).mono ?_;rintro e w5 ⟨vs,ok,rfl,⟨sa,sn,sc,rfl⟩,hb5,ht,hfl⟩;have Bl:=af ((uh HR4).grow hb5);cases ok with
    | true =>
     obtain ⟨hnew,A,hA1,hA2⟩:=ht rfl;have HA1:=af hA1;have Vj:=af (hnew.mono (uh HR4).cZ.size);have HA2:Hid (r.dV.kU A):=(uh GL A).1 (by
      obtain ⟨x,x1,x2,_⟩:=(Em (r:=R) (by have:=uh En;omega) at_ A).1 hA2;exact ⟨x,x1,x2⟩)
     clear ht hfl hA1 hA2 hnew hb5;go_wp2;exact t_ (v:=.tuple #[.slice sa sn sc,.bool true]) (by simp [results,Tryz.results52,go_sem]) rfl ⟨_,true,rfl,⟨_,_,_,rfl⟩,(uh Bl).cZ,λ_=>⟨uh Vj,A,uh HA1,uh HA2⟩,λh=>(by cases h)⟩
    | false =>
     have qW:Hid (ME R last lo hi (k+1)):=(uh HR).2.next (by rw [uh HAT];exact uh DL) (λ_=>by rw [uh HAT];exact hfl rfl)
     have MG:=(uh qW).pJ;rw [uh yF] at MG;obtain ⟨o0,o1,o2,o3⟩:=(uh Bl).v11.cells;have Bj:=af (uM PT (GH r.size L+3) (lX k) (.agg #[.int .i64 ox,.slice oa om oc]) w5 (λ_ _=>trivial) (uh Bl).v11.val (uh lC).2.1 (by omega) (by omega));clear ht hfl hb5 k0 k1 k2 k3 p0 p1;go_wp2_with fail;refine (uh Bj).mono ?_;rintro e w6 ⟨v6,rfl,hv6,hb6⟩;obtain ⟨nx,na,nm,nc,rfl⟩:=hv6.shape;have Pk:=af (((uh Bl).grow hb6).set hv6);obtain ⟨o0,o1,o2,o3⟩:=((uh Bl).grow hb6).v11.cells;clear hv6 hb6 Bj;go_wp2;go_roundg (gk - 1)
     case measure=>omega
     case rel=>exact ⟨k+1,nx,na,nm,nc,by omega,uh Pk,uh qW⟩
structure Ch (G:Nat->Nat) (r:aP):Prop where
 ok:eH r
 lt:dF (G r.size) r
 mK:r.dV.gJ
 pJ:r.least.length<=800
theorem uK.of {r r3:aP} {w w3:World} (Yg:∀ A,r3.dV.kU A↔r.dV.kU A) (hG:ae w w3) {e:Ending} {w':World} (h:uK r3 w3 e w'):uK r w e w':=by
 obtain ⟨vs,ok,e1,h1,h2,h3,h4⟩:=h;refine ⟨vs,ok,e1,h1,ae.trans hG h2,λho=>?_,λho A hA=>h4 ho A ((Yg A).2 hA)⟩;obtain ⟨hn,A,a1,a2⟩:=h3 ho;exact ⟨hn.mono hG.size,A,a1,(Yg A).1 a2⟩
theorem MH {r:aP} (hz:r.zero=[]) (h0:r.size=0) (hs:∀ a∈r.least,∃ i,i<r.size∧a.getD (i+1) 0≠0):r.dV.kU ((List.range r.told.length).map λk=>(r.told.getD k []).getD 0 0):=by
 refine ⟨λ_=>0,⟨λs hs'=>?_,λs hs'=>?_⟩,?_⟩
 ·have:r.dV.zero=[]:=by show r.zero.map lf=[];rw [hz];rfl
  rw [this] at hs';cases hs'
 ·obtain ⟨a,ha,rfl⟩:=m_.1 hs';obtain ⟨i,hi,_⟩:=hs a ha;omega
 ·apply abA
  ·show ((r.told.map lf).map _).length=_;simp
  ·intro k h1 h2;have hk:k<r.told.length:=by simpa using h2
   have e1:=MC hk (λ_=>0);rw [a_,f_ h1] at e1;have e2:(r.dV.fB λ_=>0)[k]=Pl.ev r.size (lf (r.told.getD k [])) (Pl.pt λ_=>0):=e1;rw [e2,h0,Pl.kR];simp [Pl.sm,lf]
set_option maxHeartbeats 2000000 in
theorem MI {N:Nat} {G:Nat->Nat} (hroom:Room N G) (r:aP) (hN:r.size<=N) (hf:Ch G r) (hrec:∀ r':aP,Ch G r'->(r'.size<r.size∨r'.size=r.size∧r'.Ce∧¬ r.Ce)->GI r'):GI r:=by
 intro v w h;obtain ⟨vz,vl,vt,rfl,h1,h2,h3⟩:=h;obtain ⟨za,zn,zc,rfl⟩:=h1.aB;obtain ⟨la,ln,lc,rfl⟩:=h2.aB;obtain ⟨ta,tn,tc,rfl⟩:=h3.aB;have hN9:=hroom.size;obtain ⟨W,hW⟩:∃ W,w.alloc (.cells #[.int .i64 r.size,.slice za zn zc,.slice la ln lc,.slice ta tn tc] 74)=W:=⟨_,rfl⟩;have HB:Hid (bU PT w.heap.size W r za zn zc la ln lc ta tn tc):=by unfold Hid;rw [<-hW];exact bU.new ⟨h1,h2,h3⟩
 have HG:Hid (ae w W):=by unfold Hid;rw [<-hW];exact ae.alloc _ _
 obtain ⟨k0,k1,k2,k3,kf⟩:=(uh HB).cells;have TU:=af (uN PT (G r.size) r (.agg #[.int .i64 r.size,.slice za zn zc,.slice la ln lc,.slice ta tn tc]) W (λ_ _=>trivial) (uh HB).at hf.ok (by omega) hf.lt (hroom.settle r.size hN));have HF:=af hf;have Yh:=af hrec;have lh:=af hroom;clear h1 h2 h3 hf hrec hroom;go_enter Tryz.func35,Tryz.ntmps35;go_wp2_with fail
 try rw [hW]
 clear hW;refine (uh TU).mono ?_;rintro e w1 ⟨v1,ok,rfl,⟨n',a1,m1,c1,a2,m2,c2,a3,m3,c3,rfl⟩,hb1,ht,hfl⟩;have dN:Hid (ae w w1):=(uh HG).trans hb1;have HOWN:=af (Below.same hb1 _ _ (uh HB).own);obtain ⟨j0,j1,j2,j3,jf⟩:=((uh HB).grow hb1).cells;have f0:=jf 0;have f1:=jf 1;have f2:=jf 2;have f3:=jf 3;clear hb1 TU HB HG k0 k1 k2 k3 kf jf;cases ok with
 | false =>
  have Pj:=af (iU (P:=PT) (uh dN) (d_ _) (uh HOWN) n' a1 m1 c1 a2 m2 c2 a3 m3 c3).1;have Bj:=af (hfl rfl);clear ht hfl;go_wp2;exact t_ (v:=.tuple #[.slice none 0 0,.bool false]) (by simp [results,Tryz.results35,go_sem]) rfl ⟨_,false,rfl,⟨_,_,_,rfl⟩,uh Pj,λh=>(by cases h),λ_=>uh Bj⟩
 | true =>
  obtain ⟨r1,⟨vz,vl,vt,e2,g1,g2,g3⟩,hZ,hc⟩:=ht rfl;have gF:=af (uH (uh HF).ok (uh HF).lt (by omega) (uh HF).mK hZ hc);have TV:Hid (r.Ce->r1.whole.size<r.size):=λhl=>hZ.lead hl.1 hl;obtain ⟨r2,hr2⟩:∃ r2,r1.whole=r2:=⟨_,rfl⟩;rw [hr2] at e2 g1 g2 g3 gF TV;have e3:=congrArg (λv=>match v with | .agg l=>l.toList | _=>[]) e2
  simp only [List.cons.injEq,adj,Value.int.injEq,adM] at e3;obtain ⟨rfl,rfl,rfl,rfl⟩:=e3;clear hr2 hZ hc ht hfl e2;have HST:=af (bU.store (uh dN) (d_ _) (uh HOWN) rfl ⟨g1,g2,g3⟩);generalize xY:(((w1.setCell ⟨w.heap.size,0,none⟩ (.int .i64 r2.size)).setCell ⟨w.heap.size,1,none⟩ (.slice a1 m1 c1)).setCell ⟨w.heap.size,2,none⟩ (.slice a2 m2 c2)).setCell ⟨w.heap.size,3,none⟩ (.slice a3 m3 c3)=W4 at *
  have jO:=af (uh HST).1;have kC:=af (uh HST).2.1;clear g1 g2 g3 HST dN;obtain ⟨k0,k1,k2,k3,kf⟩:=(uh jO).cells;have hsz:r2.size<=r.size:=(uh gF).size;have lC:Hid (dF (G r2.size) r2):=(uh gF).lt.mono (by
   have:=(uh lh).iE (s:=r.size) hN (r.size - r2.size) (by omega);rwa [show r.size - (r.size - r2.size)=r2.size by omega] at this)
  by_cases hs0:r2.size=0
  ·have HCO:=af (DK PT r2.told.length r2.told (.slice a3 m3 c3) W4 (λ_ _=>trivial) (uh jO).rows.told rfl (uh gF).ok.uO (λl hl=>by rw [(uh gF).ok.gT l hl];omega));have Yi:=af (((uh gF).qH _).1 (MH (uh gF).zero hs0 (uh gF).some));rw [hs0] at k0;have acn:(((w1.setCell ⟨w.heap.size,0,none⟩ (.int .i64 0)).setCell ⟨w.heap.size,1,none⟩ (.slice a1 m1 c1)).setCell ⟨w.heap.size,2,none⟩ (.slice a2 m2 c2)).setCell ⟨w.heap.size,3,none⟩ (.slice a3 m3 c3)=W4:=by rw [<-xY,hs0];rfl
   clear xY;go_wp2_with fail
   try rw [acn]
   refine (uh HCO).mono ?_;rintro e w5 ⟨v5,rfl,hv5,hnew,hb5⟩;obtain ⟨xa,xn,xc,rfl⟩:=hv5.aB;have Vj:=af (hnew.mono (uh kC).size);have HV5:=af hv5;have gD:Hid (ae w w5):=(uh kC).trans hb5;clear hv5 hb5 hnew;go_wp2;exact t_ (v:=.tuple #[.slice xa xn xc,.bool true]) (by simp [results,Tryz.results35,go_sem]) rfl ⟨_,true,rfl,⟨_,_,_,rfl⟩,uh gD,λ_=>⟨uh Vj,_,uh HV5,uh Yi⟩,λh=>(by cases h)⟩
  ·have hs1:¬ ((r2.size:Int)=0):=by omega
   have zK:Hid (iM (G r2.size) r2):=⟨(uh gF).zero,(uh gF).mK,(uh gF).ok,uh lC,(uh lh).one _ (by omega),by omega,by omega,w_ (uh gF).pJ (uh HF).pJ⟩;have hlim:=(uh lh).limits r2.size (by omega);have Vg:=(uh lh).reduce r2.size (by omega);have hV1:=Pg r2.size (G r2.size);have hV2:=Ph r2.size (G r2.size);have hV3:=Pe r2.size (G r2.size);have hK:2*((r2.size+1)*G r2.size+1)+1<=1500000000000:=by have h1:TS r2.size (G r2.size)=2*((r2.size+1)*G r2.size+1)+2*G r2.size+1:=rfl;omega
   have TW:=af (Fz (uh zK) (.slice a2 m2 c2) W4 (uh jO).rows.least hK);go_wp2_with fail;refine (uh TW).mono ?_;rintro e w5 ⟨b,gl,gc,t5,rfl,q1,q2,q3,Vk,Xo,hgood⟩;have Vl:=af (zL (uh zK) w5 Vk hgood hK);have Xp:=af Vk;have gD:=af Xo;clear Vk Xo hgood TW k0 k1 k2 k3 kf;go_wp2_with fail;refine (uh Vl).mono ?_;rintro e w6 ⟨qH,t6,rfl,Yj,TY,Vm,Vn⟩;have lT:Hid (ae W4 w6):=qM (uh gD) q1 q2 q3 TY;cases qH with
   | true =>
    have Bj:Hid (∀ A,¬ r.dV.kU A):=λA hA=>by
     obtain ⟨x,hx,_⟩:=((uh gF).qH A).2 hA;exact Vn rfl x hx
    have Pj:Hid (ae w w6):=(uh kC).trans (uh lT);clear Yj TY Vm Vn;go_wp2;exact t_ (v:=.tuple #[.slice none 0 0,.bool false]) (by simp [results,Tryz.results35,go_sem]) rfl ⟨_,false,rfl,⟨_,_,_,rfl⟩,uh Pj,λh=>(by cases h),λ_=>uh Bj⟩
   | false =>
    have MJ:=af (Vm rfl);have hholds:=sV (uh Xp) TY;have key:∀ (v:Value) (ls:List (List Int)),aM PT W4 v ls->aM (·≠gc) w6 v ls:=λv ls hv=>((hv.mono (P':=(·≠gc)) (λk hk _=>by have:=q3;show k≠gc;omega)).below (uh gD)).holds hholds;have Oh:=af (Ci r2 (G r2.size) b gl gc W4.heap.size t6 (.agg #[.int .i64 r2.size,.slice a1 m1 c1,.slice a2 m2 c2,.slice a3 m3 c3]) w6 ⟨_,_,_,rfl,key _ _ (uh jO).rows.zero,key _ _ (uh jO).rows.least,key _ _ (uh jO).rows.told⟩ (uh zK) Yj (uh MJ) ⟨q1,q2,q3⟩ hK);have Oi:=af ((uh jO).grow (uh lT));obtain ⟨k0,k1,k2,k3,kf⟩:=(uh Oi).cells;clear Yj TY Vm Vn hholds key;go_wp2_with fail;refine (uh Oh).mono ?_;rintro e w7 ⟨v7,v8,ks,zs,ws,rfl,-,⟨vz,vl,vt,rfl,g1,g2,g3⟩,hws,TT,Vo⟩;obtain ⟨ya,yn,yc,rfl⟩:=g1.aB;obtain ⟨ua,un,uc,rfl⟩:=g2.aB;obtain ⟨ra,rn,rc,rfl⟩:=g3.aB;obtain ⟨wa,wn,wc,rfl⟩:=hws.aB;have Dv:Hid (ae w w7):=(uh kC).trans (aa7 (uh lT) TT);have Yk:=af (Below.same (aa7 (uh lT) TT) _ _ (uh jO).own);have Pm:=af (bU.store (uh Dv) (d_ _) (uh Yk) rfl ⟨g1,g2,g3⟩);have HWS:=af (hws.holds (uh Pm).2.2);obtain ⟨i0,i1,i2,i3,jf⟩:=((uh jO).grow (aa7 (uh lT) TT)).cells;have y0:=jf 0;have y1:=jf 1;have y2:=jf 2;have y3:=jf 3;clear jf;have ers:(r2.trim ks zs).size=r2.size:=rfl;rw [ers] at Pm HWS;generalize GN:(((w7.setCell ⟨w.heap.size,0,none⟩ (.int .i64 r2.size)).setCell ⟨w.heap.size,1,none⟩ (.slice ya yn yc)).setCell ⟨w.heap.size,2,none⟩ (.slice ua un uc)).setCell ⟨w.heap.size,3,none⟩ (.slice ra rn rc)=W8 at *
    have MK:=af (uh Pm).1;have yE:=af (uh Pm).2.1;have HTP:=af Vo;have GL:Hid (∀ A,(r2.trim ks zs).dV.kU A↔r.dV.kU A):=λA=>(Vo.qH (uh gF).zero A).trans ((uh gF).qH A);have Xq:Hid (Ch G (r2.trim ks zs)):=⟨(Vo.ok (uh zK)).1,(Vo.ok (uh zK)).2,Vo.mK (uh gF).zero (uh gF).mK,by
     obtain ⟨D,h1,_⟩:=Vo.parts;have h2:=h1.pJ;have h3:=(uh zK).pJ;show ks.length<=800;omega⟩
    have HYN:Hid (yn=zs.length):=by
     unfold Hid;have h1:=g1.len;rw [h1];show (r2.zero++zs).length=zs.length;rw [(uh gF).zero];rfl
    clear g1 g2 g3 hws TT Vo Pm k0 k1 k2 k3 kf Oh Oi;obtain ⟨k0,k1,k2,k3,kf⟩:=(uh MK).cells;rw [ers] at k0;by_cases hz:0<yn
    ·have Jp:=af (uh Yh (r2.trim ks zs) (uh Xq) (by
      have hl:(r2.trim ks zs).Ce:=by
       refine RU ?_ ?_
       ·show 0<(r2.zero++zs).length;rw [(uh gF).zero];show 0<zs.length;have:=uh HYN;omega
       ·intro a ha;have ha':a∈r2.zero++zs:=ha;rw [(uh gF).zero] at ha';obtain ⟨D,h1,_⟩:=(uh HTP).parts;exact (uh gF).some a (h1.Vp a ha').1
      rw [ers];by_cases hL:r.Ce
      ·exact .inl (uh TV hL)
      ·rcases (show r2.size<r.size∨r2.size=r.size by omega) with h | h
       ·exact .inl h
       ·exact .inr ⟨h,hl,hL⟩) _ W8 (uh MK).at)
     rw [ers] at Jp;go_wp2_with fail;refine (uh Jp).mono ?_;rintro e w9 hp;have HP:=af (hp.of (uh GL) (uh yE));obtain ⟨vs,ok,rfl,⟨sa,sn,sc,rfl⟩,-⟩:=hp;go_wp2;exact t_ (v:=.tuple #[.slice sa sn sc,.bool ok]) (by simp [results,Tryz.results35,go_sem]) rfl (uh HP)
    ·have hz0:yn=0:=by omega
     have hzs:zs=[]:=aaE (by have:=uh HYN;omega);clear HYN hz;subst hz0;subst hzs;have HSR:=af (JH (r2.trim ks []) (G r2.size) ws (.agg #[.int .i64 r2.size,.slice ya 0 yc,.slice ua un uc,.slice ra rn rc]) (.slice wa wn wc) W8 (uh MK).at (uh HWS)
      ⟨by show r2.zero++[]=[];rw [(uh gF).zero];rfl,(uh Xq).mK,(uh Xq).ok,(uh Xq).lt,(uh zK).one,(uh zK).Ai,(uh zK).size,(uh Xq).pJ⟩
      (by obtain ⟨D,h1,_⟩:=(uh HTP).parts;exact h1.len) (by obtain ⟨D,h1,_⟩:=(uh HTP).parts;exact h1.pos) (by obtain ⟨D,h1,_⟩:=(uh HTP).parts;exact h1.lt) Vg hlim (λr' h1 h2 h3 h4 h5=>by
       have h1':r'.size+1=r2.size:=h1;refine uh Yh r' ⟨h2,h3.mono ?_,h4,h5⟩ (.inl (by omega));have:=(uh lh).part r'.size (by omega);rw [h1'] at this;exact this))
     go_wp2_with fail;refine (uh HSR).mono ?_;rintro e w9 hp;have HP:=af (hp.of (uh GL) (uh yE));obtain ⟨vs,ok,rfl,⟨sa,sn,sc,rfl⟩,-⟩:=hp;go_wp2;exact t_ (v:=.tuple #[.slice sa sn sc,.bool ok]) (by simp [results,Tryz.results35,go_sem]) rfl (uh HP)
theorem Cj {N:Nat} {G:Nat->Nat} (hroom:Room N G) (r:aP) (hN:r.size<=N) (hf:Ch G r):GI r:=by
 have main:∀ (m:Nat) (r:aP),r.size<=N->Ch G r->(r.Ce->2*r.size<=m)->(¬ r.Ce->2*r.size+1<=m)->GI r:=λm=>by
  induction m using Nat.strongRecOn with
  | _ m ih =>
   intro r hN hf h1 h2;refine MI hroom r hN hf λr' hf' hc=>?_;by_cases hl:r.Ce
   ·have hm:=h1 hl;rcases hc with hc|⟨_,_,hc⟩
    ·exact ih (2*r'.size+1) (by omega) r' (by omega) hf' (λ_=>by omega) (λ_=>by omega)
    ·exact absurd hl hc
   ·have hm:=h2 hl;rcases hc with hc|⟨hc,hl',_⟩
    ·exact ih (2*r'.size+1) (by omega) r' (by omega) hf' (λ_=>by omega) (λ_=>by omega)
    ·exact ih (2*r'.size) (by omega) r' (by omega) hf' (λ_=>by omega) (λhn=>absurd hl' hn)
 exact main (2*r.size+1) r hN hf (λ_=>by omega) (λ_=>by omega)
end Go.Proofs.YtgaafamcajcifaaGreat
