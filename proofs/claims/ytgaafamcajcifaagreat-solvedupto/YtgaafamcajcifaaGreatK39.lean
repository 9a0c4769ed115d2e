/- Joined: XFind5 XFind6. -/
import Derived.Test.YtgaafamcajcifaaGreatK37
set_option linter.unusedVariables false
set_option linter.unusedSimpArgs false
set_option maxRecDepth 100000
namespace Go.Proofs.YtgaafamcajcifaaGreat
open Go.RowKit Go.Sort
theorem sP {ws:List Int} (h:∀ x∈ws,0<x) {k:Nat} (hk:k<ws.length):0<ws.getD k 0:=by
 rw [a_,f_ hk];exact h _ (aak _)
theorem yC {ws:List Int} {K:Nat} (h:∀ x∈ws,Pl.Lt K x) (k:Nat):Pl.Lt K (ws.getD k 0):=by
 rw [a_];rcases hk:ws[k]? with _|x
 ·exact lq K
 ·exact h x (abn hk)
theorem Pb (n L:Nat):Xd n L<=GA n L:=by unfold GA;rw [aa_,abA];omega
theorem Pd (n L:Nat):U7 n L+L+1=Xd n L:=by unfold Xd;omega
set_option maxHeartbeats 2000000 in
theorem JE (r:aP) (L:Nat) (ws:List Int) (vr vw:Value) (w:World) (h:jT PT w vr r) (hw:aD PT w vw ws) (hf:iM L r) (hwl:ws.length=r.least.length) (hpos:∀ x∈ws,0<x) (hlt:∀ x∈ws,Pl.Lt (X4 r.size L) x) (Vb:3*((r.size+1)*wH r.size (U7 r.size L) r.size+1)+20<=1500000000000) (hlim:2*GA r.size L+20<=1500000000000)
  (hfind:∀ r':aP,r'.size+1=r.size->eH r'->dF (srF r.size L) r'->r'.dV.gJ->r'.least.length<=800->GD r') :
  Calls Tryz.prog 52 #[vr,vw] w (uJ r w):=by
 obtain ⟨vz,vl,vt,rfl,h1,h2,h3⟩:=h;obtain ⟨za,zn,zc,rfl⟩:=h1.aB;obtain ⟨la,ln,lc,rfl⟩:=h2.aB;obtain ⟨ta,tn,tc,rfl⟩:=h3.aB;obtain ⟨wa,wn,wc,rfl⟩:=hw.aB;have hV1:=Pb r.size L;have hV2:=Pd r.size L;have hV3:=O9 r.size L;have hV4:=U8 r.size L;have hQ:2*X4 r.size L+2*L+3<=1500000000000:=by have:TP r.size L=2*X4 r.size L+2*L+1:=rfl;omega
 obtain ⟨W,hW⟩:∃ W,w.alloc (.cells #[.int .i64 r.size,.slice za zn zc,.slice la ln lc,.slice ta tn tc] 74)=W:=⟨_,rfl⟩;have HB:Hid (bU PT w.heap.size W r za zn zc la ln lc ta tn tc):=by unfold Hid;rw [<-hW];exact bU.new ⟨h1,h2,h3⟩
 have HG:Hid (ae w W):=by unfold Hid;rw [<-hW];exact ae.alloc _ _
 obtain ⟨k0,k1,k2,k3,kf⟩:=(uh HB).cells;have HPR:=af (Fs (X4 r.size L) L r.size r.least.length r.least ws (.slice la ln lc) (.slice wa wn wc) W (uh HB).rows.least (hw.below (uh HG)) rfl hwl hf.ok.dQ hf.Ah (by have:=hf.size;omega) (by have:=hf.pI;omega) (λk hk=>sP hpos (by omega)) (yC hlt) hf.lt.least hQ);have HWP:=af (λk (hk:k<r.least.length)=>JF (ws:=ws) (m:=r.least.length) hk (sP hpos (by omega)));have Xf:=af (λk (hk:k<r.least.length)=>zH (ws:=ws) (yC hlt) (m:=r.least.length) (sP hpos (k:=k) (by omega)));have HF:=af hf;have X7:=af hfind;have hs9:=hf.size;have hs0:=hf.Ah;clear h1 h2 h3 hw hpos hlt hwl hf hfind;go_enter Tryz.func52,Tryz.ntmps52;go_wp2_with fail
 try rw [hW]
 clear hW;refine (uh HPR).mono ?_;rintro e w1 ⟨v1,rfl,hv1,hb1⟩;have HRD:=af (JG PT r.size (TP r.size L) (iR r.size (Pl.ig r.least.length r.S (dI ws r.least.length))) v1 w1 (λ_ _=>trivial) hv1 (pY _ _) Ce hs0 hs9 (Jw (O6 (uh HF).zero (uh HF).mJ (uh HWP)) (λi j hi hj=>(zI _ hi hj).symm)) (Mo (λi j=>Pl.JH _ _ _ i j)) (λa b _ _=>by
  refine vU (λi k _ _=>?_) a b;exact Pl.Lt.mono (GH (by have:=(uh HF).pI;omega) (λk y=>(uh HF).lt.least k y) (uh Xf) i k) (by unfold TP;omega)) Vb)
 have HB1:=af ((uh HB).grow hb1);have dN:Hid (ae w w1):=(uh HG).trans hb1;obtain ⟨x1a,x1n,x1c,rfl⟩:=hv1.aB;clear hv1 hb1 HPR HB HG k0 k1 k2 k3 kf;go_wp2_with fail;refine (uh HRD).mono ?_;rintro e w2 ⟨v2,St,rfl,hv2,hU,Xg,hb2⟩;have HB2:=af ((uh HB1).grow hb2);have HG2:Hid (ae w w2):=(uh dN).trans hb2;obtain ⟨k0,k1,k2,k3,kf⟩:=(uh HB2).cells;have uK:=af (JD (uh HF) hU Xg);have GI:=af (JB (r:=r) hU);have Xh:=af (Cf PT (U7 r.size L) r (iR r.size St) _ v2 w2 (λ_ _=>trivial) (uh HB2).at hv2 (uh HF).ok (pY _ _) Ce (by omega) ((uh HF).lt.mono (by omega)) (vU Xg) (by omega));obtain ⟨x2a,x2n,x2c,rfl⟩:=hv2.aB;clear hv2 hb2 HRD HB1 dN hU Xg HWP Xf;obtain ⟨R,hR⟩:∃ R,r.bK (iR r.size St)=R:=⟨_,rfl⟩;have xe:Hid (R.size=r.size):=by unfold Hid;rw [<-hR];rfl
 rw [hR] at uK GI Xh;clear hR;go_wp2_with fail;refine (uh Xh).mono ?_;rintro e w3 ⟨v3,rfl,hv3,hb3⟩;obtain ⟨vz,vl,vt,rfl,g1,g2,g3⟩:=hv3;obtain ⟨ya,yn,yc,rfl⟩:=g1.aB;obtain ⟨ua,un,uc,rfl⟩:=g2.aB;obtain ⟨ra,rn,rc,rfl⟩:=g3.aB;have jb:Hid (ae w w3):=(uh HG2).trans hb3;have HST:=af (bU.store (uh jb) (d_ _) (Below.same hb3 _ _ (uh HB2).own) rfl ⟨g1,g2,g3⟩);obtain ⟨j0,j1,j2,j3,jf⟩:=((uh HB2).grow hb3).cells;have f0:=jf 0;have f1:=jf 1;have f2:=jf 2;have f3:=jf 3;clear jf;generalize xX:(((w3.setCell ⟨w.heap.size,0,none⟩ (.int .i64 R.size)).setCell ⟨w.heap.size,1,none⟩ (.slice ya yn yc)).setCell ⟨w.heap.size,2,none⟩ (.slice ua un uc)).setCell ⟨w.heap.size,3,none⟩ (.slice ra rn rc)=W4 at *
 have jO:=af (uh HST).1;have kC:=af (uh HST).2.1;clear g1 g2 g3 hb3 Xh HB2 HG2 k0 k1 k2 k3 kf HST jb;obtain ⟨k0,k1,k2,k3,kf⟩:=(uh jO).cells;obtain ⟨last,hlast⟩:∃ last,R.size=last+1:=⟨R.size - 1,by have:=uh xe;omega⟩;have hR9:R.size<=9:=by rw [uh xe];exact hs9
 have HLI:=af (JI R (Xd r.size L) last (.agg #[.int .i64 R.size,.slice ya yn yc,.slice ua un uc,.slice ra rn rc]) W4 (uh jO).at (uh uK) (by omega) (by rw [uh xe];show 2*GA r.size L+1<=_;omega));rw [uh xe] at HLI;have El:=af hlast;have el:((last:Nat):Int)=(R.size:Int) - 1:=by omega
 rw [<-uh xe,el] at HLI;clear hlast el;go_wp2_with fail;refine (uh HLI).mono ?_;rintro e w5 ⟨v5,v6,lo,hi,rfl,hlo,hhi,hb5,hbo,hl5,hl6⟩;obtain ⟨lx,la',lm,MB,rfl⟩:=hlo.shape;obtain ⟨hx,ha',hm,hc',rfl⟩:=hhi.shape;have gD:Hid (ae w w5):=(uh kC).trans hb5;have jy:Hid (bU (·<W4.heap.size) w.heap.size w5 R ya yn yc ua un uc ra rn rc):=((uh jO).mono (P':=(·<W4.heap.size)) (λk hk _=>hk)).grow hb5;have hw4:w.heap.size<W4.heap.size:=z_ (uh jO).own;have pK:W4.heap.size<=w5.heap.size:=hb5.size;have HBO:=af hbo;have GJ:Hid (Pl.Lt (GA r.size L) lo):=by unfold Hid;have:=hl5;rw [uh xe] at this;exact this
 have JJ:Hid (Pl.Lt (GA r.size L) hi):=by unfold Hid;have:=hl6;rw [uh xe] at this;exact this
 have Oc:=af ((dC hlo).grow (ae.alloc _ (.cells #[.int .i64 hx,.slice ha' hm hc'] 78)));have Fu:=af (dC (w:=w5.alloc (.cells #[.int .i64 lx,.slice la' lm MB] 78)) (hhi.below (ae.alloc _ _)));rw [H_] at Fu;have AY:Hid (ae w5 ((w5.alloc (.cells #[.int .i64 lx,.slice la' lm MB] 78)).alloc (.cells #[.int .i64 hx,.slice ha' hm hc'] 78))):=ae.trans (ae.alloc _ _) (ae.alloc _ _);have HSA:Hid (((w5.alloc (.cells #[.int .i64 lx,.slice la' lm MB] 78)).alloc (.cells #[.int .i64 hx,.slice ha' hm hc'] 78)).heap.size=w5.heap.size+2):=by unfold Hid;rw [H_,H_]
 clear hlo hhi hb5 hbo hl5 hl6 HLI j0 j1 j2 j3 f0 f1 f2 f3 xX k0 k1 k2 k3 kf;go_wp2_with fail;generalize Bh:(w5.alloc (.cells #[.int .i64 lx,.slice la' lm MB] 78)).alloc (.cells #[.int .i64 hx,.slice ha' hm hc'] 78)=W5 at *
 clear Bh;refine (gZ PT (GA r.size L) lo hi _ _ W5 (λ_ _=>trivial) (uh Oc).val (uh Fu).val (by omega) (uh GJ) (uh JJ)).mono ?_;rintro e w6 ⟨v6,rfl,hv6,hb6⟩;obtain ⟨sx,sa,sm,sc,rfl⟩:=hv6.shape;have wI:=af hv6;have lT:Hid (ae W5 w6):=hb6;clear hv6 hb6;go_wp2_with fail;refine (fM PT 2 w6 (λ_ _=>trivial) (by decide) (by decide)).mono ?_;rintro e w7 ⟨v7,rfl,hv7,TQ⟩;obtain ⟨tx,ta',tm,tc',rfl⟩:=hv7.shape;have Xi:=af (lu PT (GA r.size L+1) (lo+hi) 2 _ _ w7 (λ_ _=>trivial) ((uh wI).below TQ) hv7 (by omega) ((uh GJ).add (uh JJ)) (U9 (by omega)));have Du:Hid (ae W5 w7):=(uh lT).trans TQ;clear hv7 TQ wI lT;go_wp2_with fail;refine (uh Xi).mono ?_;rintro e w8 ⟨v8,rfl,sQ,Xj⟩;obtain ⟨mx,ma,mm,mc,rfl⟩:=sQ.shape;obtain ⟨kZ,hmid⟩:∃ kZ,Int.fdiv (lo+hi) 2=kZ:=⟨_,rfl⟩;rw [hmid] at sQ;have yD:Hid (ae W5 w8):=(uh Du).trans Xj;have hs8:w5.heap.size+2<=w8.heap.size:=by have h1:=uh HSA;have h2:=(uh yD).size;omega
 have Fv:Hid (ae W5 ((w8.alloc (.cells #[.int .i64 mx,.slice ma mm mc] 78)).alloc (.cells #[.int .i64 0,.slice none 0 0] 78))):=(uh yD).trans (ae.trans (ae.alloc _ _) (ae.alloc _ _));have Vd:=af (dC (w:=w8.alloc (.cells #[.int .i64 mx,.slice ma mm mc] 78)) (sS PT _));rw [H_] at Vd;have HS0:Hid (GG W4.heap.size w ((w8.alloc (.cells #[.int .i64 mx,.slice ma mm mc] 78)).alloc (.cells #[.int .i64 0,.slice none 0 0] 78)) R ya yn yc ua un uc ra rn rc w5.heap.size (w5.heap.size+1) w8.heap.size (w8.heap.size+1) lx la' lm MB lo hx ha' hm hc' hi mx ma mm mc kZ 0 none 0 0 0) :=
  ⟨((uh jy).grow (uh AY)).grow (uh Fv),(uh Oc).grow (uh Fv),(uh Fu).grow (uh Fv),(dC sQ).grow (ae.alloc _ _),uh Vd,((uh gD).trans (uh AY)).trans (uh Fv),by omega,by omega,by omega,by omega,by omega⟩
 have yE:=af hmid;have XI:Hid (Mx R last lo hi 0):=⟨λj hj=>absurd hj (aaD j)⟩;clear sQ Xj Du Xi Vd yD Fv Oc Fu jy gD AY HSA hmid;go_wp2_with fail;generalize X8:(w8.alloc (.cells #[.int .i64 mx,.slice ma mm mc] 78)).alloc (.cells #[.int .i64 0,.slice none 0 0] 78)=W9 at *
 clear X8;generalize aca:w8.heap.size+1=g11 at *
 generalize X9:w8.heap.size=g10 at *
 generalize UL:w5.heap.size+1=g9 at *
 generalize Dt:w5.heap.size=g8 at *
 generalize hBB:W4.heap.size=BB at *
 clear aca X9 UL Dt hs8 hw4 pK hBB;obtain ⟨top,htop⟩:∃ top,2*(hi - kZ).toNat+3=top:=⟨_,rfl⟩;go_loopg [] top (λq wr=>∃ (k:Nat) (ox:Int) (oa:Option Addr) (om oc:Nat),k+q=top∧Hid (GG BB w wr R ya yn yc ua un uc ra rn rc g8 g9 g10 g11 lx la' lm MB lo hx ha' hm hc' hi mx ma mm mc kZ ox oa om oc (lX k)∧Mx R last lo hi k))
 case atStart=>exact ⟨0,0,none,0,0,by omega,uh HS0,uh XI⟩
 case round =>
  clear HS0 XI;obtain ⟨k,ox,oa,om,oc,hkq,HR⟩:=hrel;have lC:=af ((uh HR).2.lt (uh GJ) (uh JJ));rw [uh yE] at lC;obtain ⟨m0,m1,-,-⟩:=(uh HR).1.v10.cells;obtain ⟨o0,o1,-,-⟩:=(uh HR).1.v11.cells;have HAD:=af (gZ PT (GA r.size L+3) kZ (lX k) (.agg #[.int .i64 mx,.slice ma mm mc]) (.agg #[.int .i64 ox,.slice oa om oc]) wr (λ_ _=>trivial) (uh HR).1.v10.val (uh HR).1.v11.val (by omega) (Pl.Lt.mono (uh lC).1 (by omega)) (uh lC).2.1);go_wp2_with fail;refine (uh HAD).mono ?_;rintro e w1 ⟨v1,rfl,hv1,hb1⟩;obtain ⟨px,pa,pm,pc,rfl⟩:=hv1.shape;obtain ⟨at_,hat⟩:∃ at_,kZ+lX k=at_:=⟨_,rfl⟩;rw [hat] at hv1;have HAT:Hid (Int.fdiv (lo+hi) 2+lX k=at_):=by unfold Hid;rw [uh yE];exact hat
  have oI:Hid (Pl.Lt (GA r.size L+4) at_):=by unfold Hid;rw [<-hat];exact (uh lC).2.2
  have AY:Hid (ae wr (w1.alloc (.cells #[.int .i64 px,.slice pa pm pc] 78))):=ae.trans hb1 (ae.alloc _ _);have HVA:=af (dC hv1);have xk:wr.heap.size<=w1.heap.size:=hb1.size;clear hv1 hb1 HAD m0 m1 o0 o1 hat;generalize hW1:w1.alloc (.cells #[.int .i64 px,.slice pa pm pc] 78)=W1 at *
  generalize mO:w1.heap.size=g12 at *
  have HR1:=af ((uh HR).1.grow (uh AY));obtain ⟨p0,p1,-,-⟩:=(uh HVA).cells;obtain ⟨h0,h1,-,-⟩:=(uh HR1).v9.cells;have HCM:=af (jg PT (GA r.size L+4) at_ hi (.agg #[.int .i64 px,.slice pa pm pc]) (.agg #[.int .i64 hx,.slice ha' hm hc']) W1 (λ_ _=>trivial) (uh HVA).val (uh HR1).v9.val (by omega) (uh oI) (Pl.Lt.mono (uh JJ) (by omega)));go_wp2_with fail
  try rw [hW1]
  clear hW1;refine (uh HCM).mono ?_;rintro e w2 ⟨rfl,hb2⟩;have RS:=af ((uh HVA).grow hb2);have HR2:=af ((uh HR1).grow hb2);clear hb2 HVA HR1 AY p0 p1 h0 h1 HCM;by_cases hc:hi<at_
  ·rw [J_ (show 0<at_ - hi by omega)];have Bi:Hid (∀ A,¬ r.dV.kU A):=λA hA=>(uh HR).2.none (by have:=uh El;omega) (uh HBO) (by rw [uh HAT];exact hc) A ((uh GI A).2 hA);have Pe:=af (uh HR2).cZ;clear hc;go_wp2;exact t_ (v:=.tuple #[.slice none 0 0,.bool false]) (by simp [results,Tryz.results52,go_sem]) rfl ⟨_,false,rfl,⟨_,_,_,rfl⟩,uh Pe,λh=>(by cases h),λ_=>uh Bi⟩
  ·obtain ⟨sg,hsg⟩:∃ sg,Int.sign (at_ - hi)=sg:=⟨_,rfl⟩;have d0:¬ (0<sg):=by
    rw [<-hsg];rcases (show at_ - hi<0∨at_ - hi=0 by omega) with h|h
    ·rw [E_ h];decide
    ·rw [h];decide
   have d1:decide (0<sg)=false:=Z_ d0;rw [hsg];have DJ:Hid (at_<=hi):=Int.not_lt.1 hc;obtain ⟨p0,p1,-,-⟩:=(uh RS).cells;obtain ⟨h0,h1,-,-⟩:=(uh HR2).v8.cells;have HCM:=af (jg PT (GA r.size L+4) at_ lo (.agg #[.int .i64 px,.slice pa pm pc]) (.agg #[.int .i64 lx,.slice la' lm MB]) w2 (λ_ _=>trivial) (uh RS).val (uh HR2).v8.val (by omega) (uh oI) (Pl.Lt.mono (uh GJ) (by omega)));clear hsg hc;go_wp2_with fail;refine (uh HCM).mono ?_;rintro e w3 ⟨rfl,hb3⟩;have Ya:=af ((uh RS).grow hb3);have HR3:=af ((uh HR2).grow hb3);clear hb3 RS HR2 p0 p1 h0 h1 HCM d0 d1;by_cases hc:at_<lo
   ·rw [E_ (show at_ - lo<0 by omega)];have qV:Hid (Mx R last lo hi (k+1)):=(uh HR).2.next (by rw [uh HAT];exact uh DJ) (λh=>by rw [uh HAT] at h;omega)
    have MC:=(uh qV).pI;rw [uh yE] at MC;obtain ⟨o0,o1,o2,o3⟩:=(uh HR3).v11.cells;have Bi:=af (uL PT (GA r.size L+3) (lX k) (.agg #[.int .i64 ox,.slice oa om oc]) w3 (λ_ _=>trivial) (uh HR3).v11.val (uh lC).2.1 (by omega) (by omega));clear hc;go_wp2_with fail;refine (uh Bi).mono ?_;rintro e w4 ⟨v4,rfl,hv4,hb4⟩;obtain ⟨nx,na,nm,nc,rfl⟩:=hv4.shape;have Bj:=af (((uh HR3).grow hb4).set hv4);obtain ⟨o0,o1,o2,o3⟩:=((uh HR3).grow hb4).v11.cells;clear hv4 hb4 Bi;go_wp2;go_roundg (gk - 1)
    case measure=>omega
    case rel=>exact ⟨k+1,nx,na,nm,nc,by omega,uh Bj,uh qV⟩
   ·obtain ⟨sg,hsg⟩:∃ sg,Int.sign (at_ - lo)=sg:=⟨_,rfl⟩;have d0:0<=sg:=by
     rw [<-hsg];rcases (show 0<at_ - lo∨at_ - lo=0 by omega) with h|h
     ·rw [J_ h];decide
     ·rw [h];decide
    have d1:decide (0<=sg)=true:=aaB d0;rw [hsg];have HLV:=af (ng (uh GJ) (uh JJ) (Int.not_lt.1 hc) (uh DJ));obtain ⟨p0,p1,-,-⟩:=(uh Ya).cells;obtain ⟨k0,k1,k2,k3,-⟩:=(uh HR3).box.cells;have Ve:=af (Em PT (GA r.size L) last R at_ (.agg #[.int .i64 R.size,.slice ya yn yc,.slice ua un uc,.slice ra rn rc]) (.agg #[.int .i64 px,.slice pa pm pc]) w3 (λ_ _=>trivial) (uh HR3).box.at (uh Ya).val (uh uK).ok (uh uK).Ah (by omega) (by have:=uh El;omega) ((uh uK).lt.mono hV1) (uh HLV) (by omega));have el:((last:Nat):Int)=(R.size:Int) - 1:=by have:=uh El;omega
    rw [el] at Ve;have Yb:=af (uh X7 (R.fixed last at_) (by show R.size - 1+1=r.size;rw [uh xe];omega) (eH.fixed (uh uK).ok (by have:=uh El;omega)) ((uh uK).lt.fixed (uh HLV)) (JC (by have:=uh El;omega) at_ (uh uK).mJ) (by show (R.least.map _).length<=800;rw [L_];exact (uh uK).pI));clear hsg hc el;go_wp2_with fail;refine (uh Ve).mono ?_;rintro e w4 ⟨v4,rfl,hv4,hb4⟩;obtain ⟨vz,vl,vt,rfl,hz1,hz2,hz3⟩:=hv4;obtain ⟨fa,fn,fc,rfl⟩:=hz1.aB;obtain ⟨ga,gn,gc,rfl⟩:=hz2.aB;obtain ⟨ia,im,ic,rfl⟩:=hz3.aB;have HR4:=af ((uh HR3).grow hb4);have acd:=af (uh Yb _ w4 ⟨_,_,_,rfl,hz1,hz2,hz3⟩);clear hz1 hz2 hz3 hb4 Ve Yb;go_wp2_with fail;refine (uh acd).mono ?_;rintro e w5 ⟨vs,ok,rfl,⟨sa,sn,sc,rfl⟩,hb5,ht,hfl⟩;have Bj:=af ((uh HR4).grow hb5);cases ok with
    | true =>
     obtain ⟨hnew,A,hA1,hA2⟩:=ht rfl;have HA1:=af hA1;have Vf:=af (hnew.mono (uh HR4).cZ.size);have HA2:Hid (r.dV.kU A):=(uh GI A).1 (by
      obtain ⟨x,x1,x2,_⟩:=(Ej (r:=R) (by have:=uh El;omega) at_ A).1 hA2;exact ⟨x,x1,x2⟩)
     clear ht hfl hA1 hA2 hnew hb5;go_wp2;exact t_ (v:=.tuple #[.slice sa sn sc,.bool true]) (by simp [results,Tryz.results52,go_sem]) rfl ⟨_,true,rfl,⟨_,_,_,rfl⟩,(uh Bj).cZ,λ_=>⟨uh Vf,A,uh HA1,uh HA2⟩,λh=>(by cases h)⟩
    | false =>
     have qV:Hid (Mx R last lo hi (k+1)):=(uh HR).2.next (by rw [uh HAT];exact uh DJ) (λ_=>by rw [uh HAT];exact hfl rfl)
     have MC:=(uh qV).pI;rw [uh yE] at MC;obtain ⟨o0,o1,o2,o3⟩:=(uh Bj).v11.cells;have Bi:=af (uL PT (GA r.size L+3) (lX k) (.agg #[.int .i64 ox,.slice oa om oc]) w5 (λ_ _=>trivial) (uh Bj).v11.val (uh lC).2.1 (by omega) (by omega));clear ht hfl hb5 k0 k1 k2 k3 p0 p1;go_wp2_with fail;refine (uh Bi).mono ?_;rintro e w6 ⟨v6,rfl,hv6,hb6⟩;obtain ⟨nx,na,nm,nc,rfl⟩:=hv6.shape;have Pg:=af (((uh Bj).grow hb6).set hv6);obtain ⟨o0,o1,o2,o3⟩:=((uh Bj).grow hb6).v11.cells;clear hv6 hb6 Bi;go_wp2;go_roundg (gk - 1)
     case measure=>omega
     case rel=>exact ⟨k+1,nx,na,nm,nc,by omega,uh Pg,uh qV⟩
structure Cg (G:Nat->Nat) (r:aP):Prop where
 ok:eH r
 lt:dF (G r.size) r
 mJ:r.dV.gJ
 pI:r.least.length<=800
theorem uJ.of {r r3:aP} {w w3:World} (Yc:∀ A,r3.dV.kU A↔r.dV.kU A) (hG:ae w w3) {e:Ending} {w':World} (h:uJ r3 w3 e w'):uJ r w e w':=by
 obtain ⟨vs,ok,e1,h1,h2,h3,h4⟩:=h;refine ⟨vs,ok,e1,h1,ae.trans hG h2,λho=>?_,λho A hA=>h4 ho A ((Yc A).2 hA)⟩;obtain ⟨hn,A,a1,a2⟩:=h3 ho;exact ⟨hn.mono hG.size,A,a1,(Yc A).1 a2⟩
theorem ME {r:aP} (hz:r.zero=[]) (h0:r.size=0) (hs:∀ a∈r.least,∃ i,i<r.size∧a.getD (i+1) 0≠0):r.dV.kU ((List.range r.told.length).map λk=>(r.told.getD k []).getD 0 0):=by
 refine ⟨λ_=>0,⟨λs hs'=>?_,λs hs'=>?_⟩,?_⟩
 ·have:r.dV.zero=[]:=by show r.zero.map lf=[];rw [hz];rfl
  rw [this] at hs';cases hs'
 ·obtain ⟨a,ha,rfl⟩:=m_.1 hs';obtain ⟨i,hi,_⟩:=hs a ha;omega
 ·apply List.ext_getElem
  ·show ((r.told.map lf).map _).length=_;simp
  ·intro k h1 h2;have hk:k<r.told.length:=by simpa using h2
   have e1:=Mw hk (λ_=>0);rw [a_,f_ h1] at e1;have e2:(r.dV.fB λ_=>0)[k]=Pl.ev r.size (lf (r.told.getD k [])) (Pl.pt λ_=>0):=e1;rw [e2,h0,Pl.kR];simp [Pl.sm,lf]
set_option maxHeartbeats 2000000 in
theorem MF {N:Nat} {G:Nat->Nat} (hroom:Room N G) (r:aP) (hN:r.size<=N) (hf:Cg G r) (hrec:∀ r':aP,Cg G r'->(r'.size<r.size∨r'.size=r.size∧r'.Cc∧¬ r.Cc)->GD r'):GD r:=by
 intro v w h;obtain ⟨vz,vl,vt,rfl,h1,h2,h3⟩:=h;obtain ⟨za,zn,zc,rfl⟩:=h1.aB;obtain ⟨la,ln,lc,rfl⟩:=h2.aB;obtain ⟨ta,tn,tc,rfl⟩:=h3.aB;have hN9:=hroom.size;obtain ⟨W,hW⟩:∃ W,w.alloc (.cells #[.int .i64 r.size,.slice za zn zc,.slice la ln lc,.slice ta tn tc] 74)=W:=⟨_,rfl⟩;have HB:Hid (bU PT w.heap.size W r za zn zc la ln lc ta tn tc):=by unfold Hid;rw [<-hW];exact bU.new ⟨h1,h2,h3⟩
 have HG:Hid (ae w W):=by unfold Hid;rw [<-hW];exact ae.alloc _ _
 obtain ⟨k0,k1,k2,k3,kf⟩:=(uh HB).cells;have TR:=af (uM PT (G r.size) r (.agg #[.int .i64 r.size,.slice za zn zc,.slice la ln lc,.slice ta tn tc]) W (λ_ _=>trivial) (uh HB).at hf.ok (by omega) hf.lt (hroom.settle r.size hN));have HF:=af hf;have Yd:=af hrec;have lh:=af hroom;clear h1 h2 h3 hf hrec hroom;go_enter Tryz.func35,Tryz.ntmps35;go_wp2_with fail
 try rw [hW]
 clear hW;refine (uh TR).mono ?_;rintro e w1 ⟨v1,ok,rfl,⟨n',a1,m1,c1,a2,m2,c2,a3,m3,c3,rfl⟩,hb1,ht,hfl⟩;have dN:Hid (ae w w1):=(uh HG).trans hb1;have HOWN:=af (Below.same hb1 _ _ (uh HB).own);obtain ⟨j0,j1,j2,j3,jf⟩:=((uh HB).grow hb1).cells;have f0:=jf 0;have f1:=jf 1;have f2:=jf 2;have f3:=jf 3;clear hb1 TR HB HG k0 k1 k2 k3 kf jf;cases ok with
 | false =>
  have Pe:=af (iU (P:=PT) (uh dN) (d_ _) (uh HOWN) n' a1 m1 c1 a2 m2 c2 a3 m3 c3).1;have Bi:=af (hfl rfl);clear ht hfl;go_wp2;exact t_ (v:=.tuple #[.slice none 0 0,.bool false]) (by simp [results,Tryz.results35,go_sem]) rfl ⟨_,false,rfl,⟨_,_,_,rfl⟩,uh Pe,λh=>(by cases h),λ_=>uh Bi⟩
 | true =>
  obtain ⟨r1,⟨vz,vl,vt,e2,g1,g2,g3⟩,hZ,hc⟩:=ht rfl;have gF:=af (uG (uh HF).ok (uh HF).lt (by omega) (uh HF).mJ hZ hc);have TS:Hid (r.Cc->r1.whole.size<r.size):=λhl=>hZ.lead hl.1 hl;obtain ⟨r2,hr2⟩:∃ r2,r1.whole=r2:=⟨_,rfl⟩;rw [hr2] at e2 g1 g2 g3 gF TS;have e3:=congrArg (λv=>match v with | .agg l=>l.toList | _=>[]) e2
  simp only [List.cons.injEq,and_true,Value.int.injEq,true_and] at e3;obtain ⟨rfl,rfl,rfl,rfl⟩:=e3;clear hr2 hZ hc ht hfl e2;have HST:=af (bU.store (uh dN) (d_ _) (uh HOWN) rfl ⟨g1,g2,g3⟩);generalize xX:(((w1.setCell ⟨w.heap.size,0,none⟩ (.int .i64 r2.size)).setCell ⟨w.heap.size,1,none⟩ (.slice a1 m1 c1)).setCell ⟨w.heap.size,2,none⟩ (.slice a2 m2 c2)).setCell ⟨w.heap.size,3,none⟩ (.slice a3 m3 c3)=W4 at *
  have jO:=af (uh HST).1;have kC:=af (uh HST).2.1;clear g1 g2 g3 HST dN;obtain ⟨k0,k1,k2,k3,kf⟩:=(uh jO).cells;have hsz:r2.size<=r.size:=(uh gF).size;have lC:Hid (dF (G r2.size) r2):=(uh gF).lt.mono (by
   have:=(uh lh).iE (s:=r.size) hN (r.size - r2.size) (by omega);rwa [show r.size - (r.size - r2.size)=r2.size by omega] at this)
  by_cases hs0:r2.size=0
  ·have HCO:=af (DI PT r2.told.length r2.told (.slice a3 m3 c3) W4 (λ_ _=>trivial) (uh jO).rows.told rfl (uh gF).ok.uN (λl hl=>by rw [(uh gF).ok.gT l hl];omega));have Ye:=af (((uh gF).qG _).1 (ME (uh gF).zero hs0 (uh gF).some));rw [hs0] at k0;have acg:(((w1.setCell ⟨w.heap.size,0,none⟩ (.int .i64 0)).setCell ⟨w.heap.size,1,none⟩ (.slice a1 m1 c1)).setCell ⟨w.heap.size,2,none⟩ (.slice a2 m2 c2)).setCell ⟨w.heap.size,3,none⟩ (.slice a3 m3 c3)=W4:=by rw [<-xX,hs0];rfl
   clear xX;go_wp2_with fail
   try rw [acg]
   refine (uh HCO).mono ?_;rintro e w5 ⟨v5,rfl,hv5,hnew,hb5⟩;obtain ⟨xa,xn,xc,rfl⟩:=hv5.aB;have Vf:=af (hnew.mono (uh kC).size);have HV5:=af hv5;have gD:Hid (ae w w5):=(uh kC).trans hb5;clear hv5 hb5 hnew;go_wp2;exact t_ (v:=.tuple #[.slice xa xn xc,.bool true]) (by simp [results,Tryz.results35,go_sem]) rfl ⟨_,true,rfl,⟨_,_,_,rfl⟩,uh gD,λ_=>⟨uh Vf,_,uh HV5,uh Ye⟩,λh=>(by cases h)⟩
  ·have hs1:¬ ((r2.size:Int)=0):=by omega
   have zJ:Hid (iM (G r2.size) r2):=⟨(uh gF).zero,(uh gF).mJ,(uh gF).ok,uh lC,(uh lh).one _ (by omega),by omega,by omega,w_ (uh gF).pI (uh HF).pI⟩;have hlim:=(uh lh).limits r2.size (by omega);have Vb:=(uh lh).reduce r2.size (by omega);have hV1:=Pb r2.size (G r2.size);have hV2:=Pd r2.size (G r2.size);have hV3:=O9 r2.size (G r2.size);have hK:2*((r2.size+1)*G r2.size+1)+1<=1500000000000:=by have h1:TP r2.size (G r2.size)=2*((r2.size+1)*G r2.size+1)+2*G r2.size+1:=rfl;omega
   have TT:=af (Fw (uh zJ) (.slice a2 m2 c2) W4 (uh jO).rows.least hK);go_wp2_with fail;refine (uh TT).mono ?_;rintro e w5 ⟨b,gl,gc,t5,rfl,q1,q2,q3,Vg,Xk,hgood⟩;have Vh:=af (zK (uh zJ) w5 Vg hgood hK);have Xl:=af Vg;have gD:=af Xk;clear Vg Xk hgood TT k0 k1 k2 k3 kf;go_wp2_with fail;refine (uh Vh).mono ?_;rintro e w6 ⟨qG,t6,rfl,Yf,TU,Vi,Vj⟩;have lT:Hid (ae W4 w6):=qL (uh gD) q1 q2 q3 TU;cases qG with
   | true =>
    have Bi:Hid (∀ A,¬ r.dV.kU A):=λA hA=>by
     obtain ⟨x,hx,_⟩:=((uh gF).qG A).2 hA;exact Vj rfl x hx
    have Pe:Hid (ae w w6):=(uh kC).trans (uh lT);clear Yf TU Vi Vj;go_wp2;exact t_ (v:=.tuple #[.slice none 0 0,.bool false]) (by simp [results,Tryz.results35,go_sem]) rfl ⟨_,false,rfl,⟨_,_,_,rfl⟩,uh Pe,λh=>(by cases h),λ_=>uh Bi⟩
   | false =>
    have MG:=af (Vi rfl);have hholds:=sU (uh Xl) TU;have key:∀ (v:Value) (ls:List (List Int)),aM PT W4 v ls->aM (·≠gc) w6 v ls:=λv ls hv=>((hv.mono (P':=(·≠gc)) (λk hk _=>by have:=q3;show k≠gc;omega)).below (uh gD)).holds hholds;have Od:=af (Ch r2 (G r2.size) b gl gc W4.heap.size t6 (.agg #[.int .i64 r2.size,.slice a1 m1 c1,.slice a2 m2 c2,.slice a3 m3 c3]) w6 ⟨_,_,_,rfl,key _ _ (uh jO).rows.zero,key _ _ (uh jO).rows.least,key _ _ (uh jO).rows.told⟩ (uh zJ) Yf (uh MG) ⟨q1,q2,q3⟩ hK);have Oe:=af ((uh jO).grow (uh lT));obtain ⟨k0,k1,k2,k3,kf⟩:=(uh Oe).cells;clear Yf TU Vi Vj hholds key;go_wp2_with fail;refine (uh Od).mono ?_;rintro e w7 ⟨v7,v8,ks,zs,ws,rfl,-,⟨vz,vl,vt,rfl,g1,g2,g3⟩,hws,TQ,Vk⟩;obtain ⟨ya,yn,yc,rfl⟩:=g1.aB;obtain ⟨ua,un,uc,rfl⟩:=g2.aB;obtain ⟨ra,rn,rc,rfl⟩:=g3.aB;obtain ⟨wa,wn,wc,rfl⟩:=hws.aB;have Du:Hid (ae w w7):=(uh kC).trans (aa2 (uh lT) TQ);have Yg:=af (Below.same (aa2 (uh lT) TQ) _ _ (uh jO).own);have Ph:=af (bU.store (uh Du) (d_ _) (uh Yg) rfl ⟨g1,g2,g3⟩);have HWS:=af (hws.holds (uh Ph).2.2);obtain ⟨i0,i1,i2,i3,jf⟩:=((uh jO).grow (aa2 (uh lT) TQ)).cells;have y0:=jf 0;have y1:=jf 1;have y2:=jf 2;have y3:=jf 3;clear jf;have ers:(r2.trim ks zs).size=r2.size:=rfl;rw [ers] at Ph HWS;generalize GK:(((w7.setCell ⟨w.heap.size,0,none⟩ (.int .i64 r2.size)).setCell ⟨w.heap.size,1,none⟩ (.slice ya yn yc)).setCell ⟨w.heap.size,2,none⟩ (.slice ua un uc)).setCell ⟨w.heap.size,3,none⟩ (.slice ra rn rc)=W8 at *
    have MH:=af (uh Ph).1;have yD:=af (uh Ph).2.1;have HTP:=af Vk;have GI:Hid (∀ A,(r2.trim ks zs).dV.kU A↔r.dV.kU A):=λA=>(Vk.qG (uh gF).zero A).trans ((uh gF).qG A);have Xm:Hid (Cg G (r2.trim ks zs)):=⟨(Vk.ok (uh zJ)).1,(Vk.ok (uh zJ)).2,Vk.mJ (uh gF).zero (uh gF).mJ,by
     obtain ⟨D,h1,_⟩:=Vk.parts;have h2:=h1.pI;have h3:=(uh zJ).pI;show ks.length<=800;omega⟩
    have HYN:Hid (yn=zs.length):=by
     unfold Hid;have h1:=g1.len;rw [h1];show (r2.zero++zs).length=zs.length;rw [(uh gF).zero];rfl
    clear g1 g2 g3 hws TQ Vk Ph k0 k1 k2 k3 kf Od Oe;obtain ⟨k0,k1,k2,k3,kf⟩:=(uh MH).cells;rw [ers] at k0;by_cases hz:0<yn
    ·have Jm:=af (uh Yd (r2.trim ks zs) (uh Xm) (by
      have hl:(r2.trim ks zs).Cc:=by
       refine RP ?_ ?_
       ·show 0<(r2.zero++zs).length;rw [(uh gF).zero];show 0<zs.length;have:=uh HYN;omega
       ·intro a ha;have ha':a∈r2.zero++zs:=ha;rw [(uh gF).zero] at ha';obtain ⟨D,h1,_⟩:=(uh HTP).parts;exact (uh gF).some a (h1.Vl a ha').1
      rw [ers];by_cases hL:r.Cc
      ·exact .inl (uh TS hL)
      ·rcases (show r2.size<r.size∨r2.size=r.size by omega) with h | h
       ·exact .inl h
       ·exact .inr ⟨h,hl,hL⟩) _ W8 (uh MH).at)
     rw [ers] at Jm;go_wp2_with fail;refine (uh Jm).mono ?_;rintro e w9 hp;have HP:=af (hp.of (uh GI) (uh yD));obtain ⟨vs,ok,rfl,⟨sa,sn,sc,rfl⟩,-⟩:=hp;go_wp2;exact t_ (v:=.tuple #[.slice sa sn sc,.bool ok]) (by simp [results,Tryz.results35,go_sem]) rfl (uh HP)
    ·have hz0:yn=0:=by omega
     have hzs:zs=[]:=aaz (by have:=uh HYN;omega);clear HYN hz;subst hz0;subst hzs;have HSR:=af (JE (r2.trim ks []) (G r2.size) ws (.agg #[.int .i64 r2.size,.slice ya 0 yc,.slice ua un uc,.slice ra rn rc]) (.slice wa wn wc) W8 (uh MH).at (uh HWS)
      ⟨by show r2.zero++[]=[];rw [(uh gF).zero];rfl,(uh Xm).mJ,(uh Xm).ok,(uh Xm).lt,(uh zJ).one,(uh zJ).Ah,(uh zJ).size,(uh Xm).pI⟩
      (by obtain ⟨D,h1,_⟩:=(uh HTP).parts;exact h1.len) (by obtain ⟨D,h1,_⟩:=(uh HTP).parts;exact h1.pos) (by obtain ⟨D,h1,_⟩:=(uh HTP).parts;exact h1.lt) Vb hlim (λr' h1 h2 h3 h4 h5=>by
       have h1':r'.size+1=r2.size:=h1;refine uh Yd r' ⟨h2,h3.mono ?_,h4,h5⟩ (.inl (by omega));have:=(uh lh).part r'.size (by omega);rw [h1'] at this;exact this))
     go_wp2_with fail;refine (uh HSR).mono ?_;rintro e w9 hp;have HP:=af (hp.of (uh GI) (uh yD));obtain ⟨vs,ok,rfl,⟨sa,sn,sc,rfl⟩,-⟩:=hp;go_wp2;exact t_ (v:=.tuple #[.slice sa sn sc,.bool ok]) (by simp [results,Tryz.results35,go_sem]) rfl (uh HP)
theorem Ci {N:Nat} {G:Nat->Nat} (hroom:Room N G) (r:aP) (hN:r.size<=N) (hf:Cg G r):GD r:=by
 have main:∀ (m:Nat) (r:aP),r.size<=N->Cg G r->(r.Cc->2*r.size<=m)->(¬ r.Cc->2*r.size+1<=m)->GD r:=λm=>by
  induction m using Nat.strongRecOn with
  | _ m ih =>
   intro r hN hf h1 h2;refine MF hroom r hN hf λr' hf' hc=>?_;by_cases hl:r.Cc
   ·have hm:=h1 hl;rcases hc with hc|⟨_,_,hc⟩
    ·exact ih (2*r'.size+1) (by omega) r' (by omega) hf' (λ_=>by omega) (λ_=>by omega)
    ·exact absurd hl hc
   ·have hm:=h2 hl;rcases hc with hc|⟨hc,hl',_⟩
    ·exact ih (2*r'.size+1) (by omega) r' (by omega) hf' (λ_=>by omega) (λ_=>by omega)
    ·exact ih (2*r'.size) (by omega) r' (by omega) hf' (λ_=>by omega) (λhn=>absurd hl' hn)
 exact main (2*r.size+1) r hN hf (λ_=>by omega) (λ_=>by omega)
end Go.Proofs.YtgaafamcajcifaaGreat
