/- Joined: XFind5 XFind6. -/
import Derived.Test.YtfaljekgpnbmiaaJ38
set_option linter.unusedVariables false
set_option linter.unusedSimpArgs false
set_option maxRecDepth 100000
namespace Go.Proofs.Ytfaljekgpnbmiaa
open Go.RowKit Go.Sort
theorem getD_mem_pos {ws:List Int} (h:∀ x∈ws,0<x) {k:Nat} (hk:k<ws.length):0<ws.getD k 0:=by
 rw [List.getD_eq_getElem?_getD,List.getElem?_eq_getElem hk];exact h _ (List.getElem_mem _)
theorem getD_mem_lt' {ws:List Int} {K:Nat} (h:∀ x∈ws,Pl.Lt K x) (k:Nat):Pl.Lt K (ws.getD k 0):=by
 rw [List.getD_eq_getElem?_getD]
 rcases hk:ws[k]? with _|x
 ·exact lt_zero K
 ·exact h x (List.mem_of_getElem? hk)
theorem srV_ge (n L:Nat):srT n L≤srV n L:=by unfold srV;rw [Nat.add_mul,Nat.one_mul];omega
theorem srT_ge (n L:Nat):srS n L+L+1=srT n L:=by unfold srT;omega
set_option maxHeartbeats 2000000 in
theorem search_any (r:RegL) (L:Nat) (ws:List Int) (vr vw:Value) (w:World) (h:RegAt PT w vr r) (hw:RowAt PT w vw ws) (hf:RegFit L r) (hwl:ws.length=r.least.length) (hpos:∀ x∈ws,0<x) (hlt:∀ x∈ws,Pl.Lt (srK r.size L) x) (hred:3*((r.size+1)*latG r.size (srS r.size L) r.size+1)+20≤1500000000000) (hlim:2*srV r.size L+20≤1500000000000)
  (hfind:∀ r':RegL,r'.size+1=r.size→RegOk r'→RegLt (srF r.size L) r'→r'.reg.Tied→r'.least.length≤800→FindC r') :
  Calls Try.prog 87 #[vr,vw] w (FindPost r w):=by
 obtain ⟨vz,vl,vt,rfl,h1,h2,h3⟩:=h
 obtain ⟨za,zn,zc,rfl⟩:=h1.shapeS
 obtain ⟨la,ln,lc,rfl⟩:=h2.shapeS
 obtain ⟨ta,tn,tc,rfl⟩:=h3.shapeS
 obtain ⟨wa,wn,wc,rfl⟩:=hw.shapeS
 have hV1:=srV_ge r.size L
 have hV2:=srT_ge r.size L
 have hV3:=srS_ge r.size L
 have hV4:=srQ_ge r.size L
 have hQ:2*srK r.size L+2*L+3≤1500000000000:=by have:srQ r.size L=2*srK r.size L+2*L+1:=rfl;omega
 obtain ⟨W,hW⟩:∃ W,w.alloc (.cells #[.int .i64 r.size,.slice za zn zc,.slice la ln lc,.slice ta tn tc] 78)=W:=⟨_,rfl⟩
 have HB:Hid (RegBox PT w.heap.size W r za zn zc la ln lc ta tn tc):=by unfold Hid;rw [←hW];exact RegBox.new ⟨h1,h2,h3⟩
 have HG:Hid (Grows w W):=by unfold Hid;rw [←hW];exact Grows.alloc _ _
 obtain ⟨k0,k1,k2,k3,kf⟩:=(uh HB).cells
 have HPR:=hide (products_any (srK r.size L) L r.size r.least.length r.least ws (.slice la ln lc) (.slice wa wn wc) W (uh HB).rows.least (hw.below (uh HG)) rfl hwl hf.ok.leastL hf.size0 (by have:=hf.size;omega) (by have:=hf.few;omega) (fun k hk=>getD_mem_pos hpos (by omega)) (getD_mem_lt' hlt) hf.lt.least hQ)
 have HWP:=hide (fun k (hk:k<r.least.length)=>weight_pos (ws:=ws) (m:=r.least.length) hk (getD_mem_pos hpos (by omega)))
 have HWL:=hide (fun k (hk:k<r.least.length)=>weight_lt (ws:=ws) (getD_mem_lt' hlt) (m:=r.least.length) (getD_mem_pos hpos (k:=k) (by omega)))
 have HF:=hide hf
 have HFIND:=hide hfind
 have hs9:=hf.size
 have hs0:=hf.size0
 clear h1 h2 h3 hw hpos hlt hwl hf hfind
 go_enter Try.func87,Try.ntmps87
 go_wp2_with fail
 try rw [hW]
 clear hW
 refine (uh HPR).mono ?_
 rintro e w1 ⟨v1,rfl,hv1,hb1⟩
 have HRD:=hide (Reduce_any PT r.size (srQ r.size L) (matL r.size (Pl.prodG r.least.length r.S (weightP ws r.least.length))) v1 w1 (fun _ _=>trivial) hv1 (matL_len _ _) matL_row hs0 hs9 (posi_congr (reg_posi (uh HF).zero (uh HF).tied (uh HWP)) (fun i j hi hj=>(matL_cell _ hi hj).symm)) (matL_symm (fun i j=>Pl.prodG_symm _ _ _ i j)) (fun a b _ _=>by
  refine matL_lt (fun i k _ _=>?_) a b
  exact Pl.Lt.mono (prodG_lt (by have:=(uh HF).few;omega) (fun k y=>(uh HF).lt.least k y) (uh HWL) i k) (by unfold srQ;omega)) hred)
 have HB1:=hide ((uh HB).grow hb1)
 have HG1:Hid (Grows w w1):=(uh HG).trans hb1
 obtain ⟨x1a,x1n,x1c,rfl⟩:=hv1.shapeS
 clear hv1 hb1 HPR HB HG k0 k1 k2 k3 kf
 go_wp2_with fail
 refine (uh HRD).mono ?_
 rintro e w2 ⟨v2,St,rfl,hv2,hU,hSl,hb2⟩
 have HB2:=hide ((uh HB1).grow hb2)
 have HG2:Hid (Grows w w2):=(uh HG1).trans hb2
 obtain ⟨k0,k1,k2,k3,kf⟩:=(uh HB2).cells
 have HFT:=hide (turned_fit (uh HF) hU hSl)
 have HANS:=hide (turned_ans (r:=r) hU)
 have HTU:=hide (turned_reg PT (srS r.size L) r (matL r.size St) _ v2 w2 (fun _ _=>trivial) (uh HB2).at hv2 (uh HF).ok (matL_len _ _) matL_row (by omega) ((uh HF).lt.mono (by omega)) (matL_lt hSl) (by omega))
 obtain ⟨x2a,x2n,x2c,rfl⟩:=hv2.shapeS
 clear hv2 hb2 HRD HB1 HG1 hU hSl HWP HWL
 obtain ⟨R,hR⟩:∃ R,r.turned (matL r.size St)=R:=⟨_,rfl⟩
 have HRS:Hid (R.size=r.size):=by unfold Hid;rw [←hR];rfl
 rw [hR] at HFT HANS HTU
 clear hR
 go_wp2_with fail
 refine (uh HTU).mono ?_
 rintro e w3 ⟨v3,rfl,hv3,hb3⟩
 obtain ⟨vz,vl,vt,rfl,g1,g2,g3⟩:=hv3
 obtain ⟨ya,yn,yc,rfl⟩:=g1.shapeS
 obtain ⟨ua,un,uc,rfl⟩:=g2.shapeS
 obtain ⟨ra,rn,rc,rfl⟩:=g3.shapeS
 have HG3:Hid (Grows w w3):=(uh HG2).trans hb3
 have HST:=hide (RegBox.store (uh HG3) (Nat.le_refl _) (Below.same hb3 _ _ (uh HB2).own) rfl ⟨g1,g2,g3⟩)
 obtain ⟨j0,j1,j2,j3,jf⟩:=((uh HB2).grow hb3).cells
 have f0:=jf 0
 have f1:=jf 1
 have f2:=jf 2
 have f3:=jf 3
 clear jf
 generalize hW4:(((w3.setCell ⟨w.heap.size,0,none⟩ (.int .i64 R.size)).setCell ⟨w.heap.size,1,none⟩ (.slice ya yn yc)).setCell ⟨w.heap.size,2,none⟩ (.slice ua un uc)).setCell ⟨w.heap.size,3,none⟩ (.slice ra rn rc)=W4 at *
 have HB4:=hide (uh HST).1
 have HG4:=hide (uh HST).2.1
 clear g1 g2 g3 hb3 HTU HB2 HG2 k0 k1 k2 k3 kf HST HG3
 obtain ⟨k0,k1,k2,k3,kf⟩:=(uh HB4).cells
 obtain ⟨last,hlast⟩:∃ last,R.size=last+1:=⟨R.size - 1,by have:=uh HRS;omega⟩
 have hR9:R.size≤9:=by rw [uh HRS];exact hs9
 have HLI:=hide (limits_any R (srT r.size L) last (.agg #[.int .i64 R.size,.slice ya yn yc,.slice ua un uc,.slice ra rn rc]) W4 (uh HB4).at (uh HFT) (by omega) (by rw [uh HRS];show 2*srV r.size L+1≤_;omega))
 rw [uh HRS] at HLI
 have HLAST:=hide hlast
 have el:((last:Nat):Int)=(R.size:Int) - 1:=by omega
 rw [←uh HRS,el] at HLI
 clear hlast el
 go_wp2_with fail
 refine (uh HLI).mono ?_
 rintro e w5 ⟨v5,v6,lo,hi,rfl,hlo,hhi,hb5,hbo,hl5,hl6⟩
 obtain ⟨lx,la',lm,lc',rfl⟩:=hlo.shape
 obtain ⟨hx,ha',hm,hc',rfl⟩:=hhi.shape
 have HG5:Hid (Grows w w5):=(uh HG4).trans hb5
 have HB5:Hid (RegBox (·<W4.heap.size) w.heap.size w5 R ya yn yc ua un uc ra rn rc):=((uh HB4).mono (P':=(·<W4.heap.size)) (fun k hk _=>hk)).grow hb5
 have hw4:w.heap.size<W4.heap.size:=lt_of_block (uh HB4).own
 have hw5:W4.heap.size≤w5.heap.size:=hb5.size
 have HBO:=hide hbo
 have HL5:Hid (Pl.Lt (srV r.size L) lo):=by unfold Hid;have:=hl5;rw [uh HRS] at this;exact this
 have HL6:Hid (Pl.Lt (srV r.size L) hi):=by unfold Hid;have:=hl6;rw [uh HRS] at this;exact this
 have HV8:=hide ((var_new hlo).grow (Grows.alloc _ (.cells #[.int .i64 hx,.slice ha' hm hc'] 82)))
 have HV9:=hide (var_new (w:=w5.alloc (.cells #[.int .i64 lx,.slice la' lm lc'] 82)) (hhi.below (Grows.alloc _ _)))
 rw [World.size_alloc] at HV9
 have HGA:Hid (Grows w5 ((w5.alloc (.cells #[.int .i64 lx,.slice la' lm lc'] 82)).alloc (.cells #[.int .i64 hx,.slice ha' hm hc'] 82))):=Grows.trans (Grows.alloc _ _) (Grows.alloc _ _)
 have HSA:Hid (((w5.alloc (.cells #[.int .i64 lx,.slice la' lm lc'] 82)).alloc (.cells #[.int .i64 hx,.slice ha' hm hc'] 82)).heap.size=w5.heap.size+2):=by unfold Hid;rw [World.size_alloc,World.size_alloc]
 clear hlo hhi hb5 hbo hl5 hl6 HLI j0 j1 j2 j3 f0 f1 f2 f3 hW4 k0 k1 k2 k3 kf
 go_wp2_with fail
 generalize hW5:(w5.alloc (.cells #[.int .i64 lx,.slice la' lm lc'] 82)).alloc (.cells #[.int .i64 hx,.slice ha' hm hc'] 82)=W5 at *
 clear hW5
 refine (Add_any PT (srV r.size L) lo hi _ _ W5 (fun _ _=>trivial) (uh HV8).val (uh HV9).val (by omega) (uh HL5) (uh HL6)).mono ?_
 rintro e w6 ⟨v6,rfl,hv6,hb6⟩
 obtain ⟨sx,sa,sm,sc,rfl⟩:=hv6.shape
 have HV6:=hide hv6
 have HG6:Hid (Grows W5 w6):=hb6
 clear hv6 hb6
 go_wp2_with fail
 refine (Of_any PT 2 w6 (fun _ _=>trivial) (by decide) (by decide)).mono ?_
 rintro e w7 ⟨v7,rfl,hv7,hb7⟩
 obtain ⟨tx,ta',tm,tc',rfl⟩:=hv7.shape
 have HDV:=hide (Div_any PT (srV r.size L+1) (lo+hi) 2 _ _ w7 (fun _ _=>trivial) ((uh HV6).below hb7) hv7 (by omega) ((uh HL5).add (uh HL6)) (lt_two (by omega)))
 have HG7:Hid (Grows W5 w7):=(uh HG6).trans hb7
 clear hv7 hb7 HV6 HG6
 go_wp2_with fail
 refine (uh HDV).mono ?_
 rintro e w8 ⟨v8,rfl,hv8,hb8⟩
 obtain ⟨mx,ma,mm,mc,rfl⟩:=hv8.shape
 obtain ⟨mid,hmid⟩:∃ mid,Int.fdiv (lo+hi) 2=mid:=⟨_,rfl⟩
 rw [hmid] at hv8
 have HG8:Hid (Grows W5 w8):=(uh HG7).trans hb8
 have hs8:w5.heap.size+2≤w8.heap.size:=by have h1:=uh HSA;have h2:=(uh HG8).size;omega
 have HG9:Hid (Grows W5 ((w8.alloc (.cells #[.int .i64 mx,.slice ma mm mc] 82)).alloc (.cells #[.int .i64 0,.slice none 0 0] 82))):=(uh HG8).trans (Grows.trans (Grows.alloc _ _) (Grows.alloc _ _))
 have HV11:=hide (var_new (w:=w8.alloc (.cells #[.int .i64 mx,.slice ma mm mc] 82)) (whole_zero PT _))
 rw [World.size_alloc] at HV11
 have HS0:Hid (SrAt W4.heap.size w ((w8.alloc (.cells #[.int .i64 mx,.slice ma mm mc] 82)).alloc (.cells #[.int .i64 0,.slice none 0 0] 82)) R ya yn yc ua un uc ra rn rc w5.heap.size (w5.heap.size+1) w8.heap.size (w8.heap.size+1) lx la' lm lc' lo hx ha' hm hc' hi mx ma mm mc mid 0 none 0 0 0) :=
  ⟨((uh HB5).grow (uh HGA)).grow (uh HG9),(uh HV8).grow (uh HG9),(uh HV9).grow (uh HG9),(var_new hv8).grow (Grows.alloc _ _),uh HV11,((uh HG5).trans (uh HGA)).trans (uh HG9),by omega,by omega,by omega,by omega,by omega⟩
 have HMID:=hide hmid
 have HSI:Hid (SrI R last lo hi 0):=⟨fun j hj=>absurd hj (Nat.not_lt_zero j)⟩
 clear hv8 hb8 HG7 HDV HV11 HG8 HG9 HV8 HV9 HB5 HG5 HGA HSA hmid
 go_wp2_with fail
 generalize hW9:(w8.alloc (.cells #[.int .i64 mx,.slice ma mm mc] 82)).alloc (.cells #[.int .i64 0,.slice none 0 0] 82)=W9 at *
 clear hW9
 generalize hg11:w8.heap.size+1=g11 at *
 generalize hg10:w8.heap.size=g10 at *
 generalize hg9:w5.heap.size+1=g9 at *
 generalize hg8:w5.heap.size=g8 at *
 generalize hBB:W4.heap.size=BB at *
 clear hg11 hg10 hg9 hg8 hs8 hw4 hw5 hBB
 obtain ⟨top,htop⟩:∃ top,2*(hi - mid).toNat+3=top:=⟨_,rfl⟩
 go_loopg [] top (fun q wr=>∃ (k:Nat) (ox:Int) (oa:Option Addr) (om oc:Nat),k+q=top∧Hid (SrAt BB w wr R ya yn yc ua un uc ra rn rc g8 g9 g10 g11 lx la' lm lc' lo hx ha' hm hc' hi mx ma mm mc mid ox oa om oc (offP k)∧SrI R last lo hi k))
 case atStart=>exact ⟨0,0,none,0,0,by omega,uh HS0,uh HSI⟩
 case round =>
  clear HS0 HSI
  obtain ⟨k,ox,oa,om,oc,hkq,HR⟩:=hrel
  have HLT:=hide ((uh HR).2.lt (uh HL5) (uh HL6))
  rw [uh HMID] at HLT
  obtain ⟨m0,m1,-,-⟩:=(uh HR).1.v10.cells
  obtain ⟨o0,o1,-,-⟩:=(uh HR).1.v11.cells
  have HAD:=hide (Add_any PT (srV r.size L+3) mid (offP k) (.agg #[.int .i64 mx,.slice ma mm mc]) (.agg #[.int .i64 ox,.slice oa om oc]) wr (fun _ _=>trivial) (uh HR).1.v10.val (uh HR).1.v11.val (by omega) (Pl.Lt.mono (uh HLT).1 (by omega)) (uh HLT).2.1)
  go_wp2_with fail
  refine (uh HAD).mono ?_
  rintro e w1 ⟨v1,rfl,hv1,hb1⟩
  obtain ⟨px,pa,pm,pc,rfl⟩:=hv1.shape
  obtain ⟨at_,hat⟩:∃ at_,mid+offP k=at_:=⟨_,rfl⟩
  rw [hat] at hv1
  have HAT:Hid (Int.fdiv (lo+hi) 2+offP k=at_):=by unfold Hid;rw [uh HMID];exact hat
  have HLA:Hid (Pl.Lt (srV r.size L+4) at_):=by unfold Hid;rw [←hat];exact (uh HLT).2.2
  have HGA:Hid (Grows wr (w1.alloc (.cells #[.int .i64 px,.slice pa pm pc] 82))):=Grows.trans hb1 (Grows.alloc _ _)
  have HVA:=hide (var_new hv1)
  have hg12:wr.heap.size≤w1.heap.size:=hb1.size
  clear hv1 hb1 HAD m0 m1 o0 o1 hat
  generalize hW1:w1.alloc (.cells #[.int .i64 px,.slice pa pm pc] 82)=W1 at *
  generalize hg12':w1.heap.size=g12 at *
  have HR1:=hide ((uh HR).1.grow (uh HGA))
  obtain ⟨p0,p1,-,-⟩:=(uh HVA).cells
  obtain ⟨h0,h1,-,-⟩:=(uh HR1).v9.cells
  have HCM:=hide (Compare_any PT (srV r.size L+4) at_ hi (.agg #[.int .i64 px,.slice pa pm pc]) (.agg #[.int .i64 hx,.slice ha' hm hc']) W1 (fun _ _=>trivial) (uh HVA).val (uh HR1).v9.val (by omega) (uh HLA) (Pl.Lt.mono (uh HL6) (by omega)))
  go_wp2_with fail
  try rw [hW1]
  clear hW1
  refine (uh HCM).mono ?_
  rintro e w2 ⟨rfl,hb2⟩
  have HVA2:=hide ((uh HVA).grow hb2)
  have HR2:=hide ((uh HR1).grow hb2)
  clear hb2 HVA HR1 HGA p0 p1 h0 h1 HCM
  by_cases hc:hi<at_
  ·rw [Int.sign_eq_one_of_pos (show 0<at_ - hi by omega)]
   have HNO:Hid (∀ A,¬ r.reg.Ans A):=fun A hA=>(uh HR).2.none (by have:=uh HLAST;omega) (uh HBO) (by rw [uh HAT];exact hc) A ((uh HANS A).2 hA)
   have HGE:=hide (uh HR2).grows
   clear hc
   go_wp2
   exact bodyPost_ret (v:=.tuple #[.slice none 0 0,.bool false]) (by simp [results,Try.results87,go_sem]) rfl ⟨_,false,rfl,⟨_,_,_,rfl⟩,uh HGE,fun h=>(by cases h),fun _=>uh HNO⟩
  ·obtain ⟨sg,hsg⟩:∃ sg,Int.sign (at_ - hi)=sg:=⟨_,rfl⟩
   have d0:¬ (0<sg):=by
    rw [←hsg]
    rcases (show at_ - hi<0∨at_ - hi=0 by omega) with h|h
    ·rw [Int.sign_eq_neg_one_of_neg h];decide
    ·rw [h];decide
   have d1:decide (0<sg)=false:=decide_eq_false d0
   rw [hsg]
   have HHI:Hid (at_≤hi):=Int.not_lt.1 hc
   obtain ⟨p0,p1,-,-⟩:=(uh HVA2).cells
   obtain ⟨h0,h1,-,-⟩:=(uh HR2).v8.cells
   have HCM:=hide (Compare_any PT (srV r.size L+4) at_ lo (.agg #[.int .i64 px,.slice pa pm pc]) (.agg #[.int .i64 lx,.slice la' lm lc']) w2 (fun _ _=>trivial) (uh HVA2).val (uh HR2).v8.val (by omega) (uh HLA) (Pl.Lt.mono (uh HL5) (by omega)))
   clear hsg hc
   go_wp2_with fail
   refine (uh HCM).mono ?_
   rintro e w3 ⟨rfl,hb3⟩
   have HVA3:=hide ((uh HVA2).grow hb3)
   have HR3:=hide ((uh HR2).grow hb3)
   clear hb3 HVA2 HR2 p0 p1 h0 h1 HCM d0 d1
   by_cases hc:at_<lo
   ·rw [Int.sign_eq_neg_one_of_neg (show at_ - lo<0 by omega)]
    have HNX:Hid (SrI R last lo hi (k+1)):=(uh HR).2.next (by rw [uh HAT];exact uh HHI) (fun h=>by rw [uh HAT] at h;omega)
    have hfew:=(uh HNX).few
    rw [uh HMID] at hfew
    obtain ⟨o0,o1,o2,o3⟩:=(uh HR3).v11.cells
    have HNO:=hide (nextOffset_any PT (srV r.size L+3) (offP k) (.agg #[.int .i64 ox,.slice oa om oc]) w3 (fun _ _=>trivial) (uh HR3).v11.val (uh HLT).2.1 (by omega) (by omega))
    clear hc
    go_wp2_with fail
    refine (uh HNO).mono ?_
    rintro e w4 ⟨v4,rfl,hv4,hb4⟩
    obtain ⟨nx,na,nm,nc,rfl⟩:=hv4.shape
    have HR5:=hide (((uh HR3).grow hb4).set hv4)
    obtain ⟨o0,o1,o2,o3⟩:=((uh HR3).grow hb4).v11.cells
    clear hv4 hb4 HNO
    go_wp2
    go_roundg (gk - 1)
    case measure=>omega
    case rel=>exact ⟨k+1,nx,na,nm,nc,by omega,uh HR5,uh HNX⟩
   ·obtain ⟨sg,hsg⟩:∃ sg,Int.sign (at_ - lo)=sg:=⟨_,rfl⟩
    have d0:0≤sg:=by
     rw [←hsg]
     rcases (show 0<at_ - lo∨at_ - lo=0 by omega) with h|h
     ·rw [Int.sign_eq_one_of_pos h];decide
     ·rw [h];decide
    have d1:decide (0≤sg)=true:=decide_eq_true d0
    rw [hsg]
    have HLV:=hide (lt_between (uh HL5) (uh HL6) (Int.not_lt.1 hc) (uh HHI))
    obtain ⟨p0,p1,-,-⟩:=(uh HVA3).cells
    obtain ⟨k0,k1,k2,k3,-⟩:=(uh HR3).box.cells
    have HFX:=hide (fixed_reg PT (srV r.size L) last R at_ (.agg #[.int .i64 R.size,.slice ya yn yc,.slice ua un uc,.slice ra rn rc]) (.agg #[.int .i64 px,.slice pa pm pc]) w3 (fun _ _=>trivial) (uh HR3).box.at (uh HVA3).val (uh HFT).ok (uh HFT).size0 (by omega) (by have:=uh HLAST;omega) ((uh HFT).lt.mono hV1) (uh HLV) (by omega))
    have el:((last:Nat):Int)=(R.size:Int) - 1:=by have:=uh HLAST;omega
    rw [el] at HFX
    have HFC:=hide (uh HFIND (R.fixed last at_) (by show R.size - 1+1=r.size;rw [uh HRS];omega) (RegOk.fixed (uh HFT).ok (by have:=uh HLAST;omega)) ((uh HFT).lt.fixed (uh HLV)) (slice_tied (by have:=uh HLAST;omega) at_ (uh HFT).tied) (by show (R.least.map _).length≤800;rw [List.length_map];exact (uh HFT).few))
    clear hsg hc el
    go_wp2_with fail
    refine (uh HFX).mono ?_
    rintro e w4 ⟨v4,rfl,hv4,hb4⟩
    obtain ⟨vz,vl,vt,rfl,hz1,hz2,hz3⟩:=hv4
    obtain ⟨fa,fn,fc,rfl⟩:=hz1.shapeS
    obtain ⟨ga,gn,gc,rfl⟩:=hz2.shapeS
    obtain ⟨ia,im,ic,rfl⟩:=hz3.shapeS
    have HR4:=hide ((uh HR3).grow hb4)
    have HFC4:=hide (uh HFC _ w4 ⟨_,_,_,rfl,hz1,hz2,hz3⟩)
    clear hz1 hz2 hz3 hb4 HFX HFC
    go_wp2_with fail
    refine (uh HFC4).mono ?_
    rintro e w5 ⟨vs,ok,rfl,⟨sa,sn,sc,rfl⟩,hb5,ht,hfl⟩
    have HR5:=hide ((uh HR4).grow hb5)
    cases ok with
    | true =>
     obtain ⟨hnew,A,hA1,hA2⟩:=ht rfl
     have HA1:=hide hA1
     have HNEW:=hide (hnew.mono (uh HR4).grows.size)
     have HA2:Hid (r.reg.Ans A):=(uh HANS A).1 (by
      obtain ⟨x,x1,x2,_⟩:=(slice_ans (r:=R) (by have:=uh HLAST;omega) at_ A).1 hA2
      exact ⟨x,x1,x2⟩)
     clear ht hfl hA1 hA2 hnew hb5
     go_wp2
     exact bodyPost_ret (v:=.tuple #[.slice sa sn sc,.bool true]) (by simp [results,Try.results87,go_sem]) rfl ⟨_,true,rfl,⟨_,_,_,rfl⟩,(uh HR5).grows,fun _=>⟨uh HNEW,A,uh HA1,uh HA2⟩,fun h=>(by cases h)⟩
    | false =>
     have HNX:Hid (SrI R last lo hi (k+1)):=(uh HR).2.next (by rw [uh HAT];exact uh HHI) (fun _=>by rw [uh HAT];exact hfl rfl)
     have hfew:=(uh HNX).few
     rw [uh HMID] at hfew
     obtain ⟨o0,o1,o2,o3⟩:=(uh HR5).v11.cells
     have HNO:=hide (nextOffset_any PT (srV r.size L+3) (offP k) (.agg #[.int .i64 ox,.slice oa om oc]) w5 (fun _ _=>trivial) (uh HR5).v11.val (uh HLT).2.1 (by omega) (by omega))
     clear ht hfl hb5 k0 k1 k2 k3 p0 p1
     go_wp2_with fail
     refine (uh HNO).mono ?_
     rintro e w6 ⟨v6,rfl,hv6,hb6⟩
     obtain ⟨nx,na,nm,nc,rfl⟩:=hv6.shape
     have HR7:=hide (((uh HR5).grow hb6).set hv6)
     obtain ⟨o0,o1,o2,o3⟩:=((uh HR5).grow hb6).v11.cells
     clear hv6 hb6 HNO
     go_wp2
     go_roundg (gk - 1)
     case measure=>omega
     case rel=>exact ⟨k+1,nx,na,nm,nc,by omega,uh HR7,uh HNX⟩
structure FindOk (G:Nat→Nat) (r:RegL):Prop where
 ok:RegOk r
 lt:RegLt (G r.size) r
 tied:r.reg.Tied
 few:r.least.length≤800
theorem FindPost.of {r r3:RegL} {w w3:World} (hans:∀ A,r3.reg.Ans A↔r.reg.Ans A) (hG:Grows w w3) {e:Ending} {w':World} (h:FindPost r3 w3 e w'):FindPost r w e w':=by
 obtain ⟨vs,ok,e1,h1,h2,h3,h4⟩:=h
 refine ⟨vs,ok,e1,h1,Grows.trans hG h2,fun ho=>?_,fun ho A hA=>h4 ho A ((hans A).2 hA)⟩
 obtain ⟨hn,A,a1,a2⟩:=h3 ho
 exact ⟨hn.mono hG.size,A,a1,(hans A).1 a2⟩
theorem point_ans {r:RegL} (hz:r.zero=[]) (h0:r.size=0) (hs:∀ a∈r.least,∃ i,i<r.size∧a.getD (i+1) 0≠0):r.reg.Ans ((List.range r.told.length).map fun k=>(r.told.getD k []).getD 0 0):=by
 refine ⟨fun _=>0,⟨fun s hs'=>?_,fun s hs'=>?_⟩,?_⟩
 ·have:r.reg.zero=[]:=by show r.zero.map lf=[];rw [hz];rfl
  rw [this] at hs';cases hs'
 ·obtain ⟨a,ha,rfl⟩:=List.mem_map.1 hs'
  obtain ⟨i,hi,_⟩:=hs a ha
  omega
 ·apply List.ext_getElem
  ·show ((r.told.map lf).map _).length=_
   simp
  ·intro k h1 h2
   have hk:k<r.told.length:=by simpa using h2
   have e1:=tells_at' hk (fun _=>0)
   rw [List.getD_eq_getElem?_getD,List.getElem?_eq_getElem h1] at e1
   have e2:(r.reg.tells fun _=>0)[k]=Pl.ev r.size (lf (r.told.getD k [])) (Pl.pt fun _=>0):=e1
   rw [e2,h0,Pl.ev_pt]
   simp [Pl.sm,lf]
set_option maxHeartbeats 2000000 in
theorem find_body {N:Nat} {G:Nat→Nat} (hroom:Room N G) (r:RegL) (hN:r.size≤N) (hf:FindOk G r) (hrec:∀ r':RegL,FindOk G r'→(r'.size<r.size∨r'.size=r.size∧r'.Lead∧¬ r.Lead)→FindC r'):FindC r:=by
 intro v w h
 obtain ⟨vz,vl,vt,rfl,h1,h2,h3⟩:=h
 obtain ⟨za,zn,zc,rfl⟩:=h1.shapeS
 obtain ⟨la,ln,lc,rfl⟩:=h2.shapeS
 obtain ⟨ta,tn,tc,rfl⟩:=h3.shapeS
 have hN9:=hroom.size
 obtain ⟨W,hW⟩:∃ W,w.alloc (.cells #[.int .i64 r.size,.slice za zn zc,.slice la ln lc,.slice ta tn tc] 78)=W:=⟨_,rfl⟩
 have HB:Hid (RegBox PT w.heap.size W r za zn zc la ln lc ta tn tc):=by unfold Hid;rw [←hW];exact RegBox.new ⟨h1,h2,h3⟩
 have HG:Hid (Grows w W):=by unfold Hid;rw [←hW];exact Grows.alloc _ _
 obtain ⟨k0,k1,k2,k3,kf⟩:=(uh HB).cells
 have HSE:=hide (settled_any PT (G r.size) r (.agg #[.int .i64 r.size,.slice za zn zc,.slice la ln lc,.slice ta tn tc]) W (fun _ _=>trivial) (uh HB).at hf.ok (by omega) hf.lt (hroom.settle r.size hN))
 have HF:=hide hf
 have HREC:=hide hrec
 have HROOM:=hide hroom
 clear h1 h2 h3 hf hrec hroom
 go_enter Try.func58,Try.ntmps58
 go_wp2_with fail
 try rw [hW]
 clear hW
 refine (uh HSE).mono ?_
 rintro e w1 ⟨v1,ok,rfl,⟨n',a1,m1,c1,a2,m2,c2,a3,m3,c3,rfl⟩,hb1,ht,hfl⟩
 have HG1:Hid (Grows w w1):=(uh HG).trans hb1
 have HOWN:=hide (Below.same hb1 _ _ (uh HB).own)
 obtain ⟨j0,j1,j2,j3,jf⟩:=((uh HB).grow hb1).cells
 have f0:=jf 0
 have f1:=jf 1
 have f2:=jf 2
 have f3:=jf 3
 clear hb1 HSE HB HG k0 k1 k2 k3 kf jf
 cases ok with
 | false =>
  have HGE:=hide (reg_store (P:=PT) (uh HG1) (Nat.le_refl _) (uh HOWN) n' a1 m1 c1 a2 m2 c2 a3 m3 c3).1
  have HNO:=hide (hfl rfl)
  clear ht hfl
  go_wp2
  exact bodyPost_ret (v:=.tuple #[.slice none 0 0,.bool false]) (by simp [results,Try.results58,go_sem]) rfl ⟨_,false,rfl,⟨_,_,_,rfl⟩,uh HGE,fun h=>(by cases h),fun _=>uh HNO⟩
 | true =>
  obtain ⟨r1,⟨vz,vl,vt,e2,g1,g2,g3⟩,hZ,hc⟩:=ht rfl
  have HSET:=hide (settled_all (uh HF).ok (uh HF).lt (by omega) (uh HF).tied hZ hc)
  have HLEAD:Hid (r.Lead→r1.whole.size<r.size):=fun hl=>hZ.lead hl.1 hl
  obtain ⟨r2,hr2⟩:∃ r2,r1.whole=r2:=⟨_,rfl⟩
  rw [hr2] at e2 g1 g2 g3 HSET HLEAD
  have e3:=congrArg (fun v=>match v with | .agg l=>l.toList | _=>[]) e2
  simp only [List.cons.injEq,and_true,Value.int.injEq,true_and] at e3
  obtain ⟨rfl,rfl,rfl,rfl⟩:=e3
  clear hr2 hZ hc ht hfl e2
  have HST:=hide (RegBox.store (uh HG1) (Nat.le_refl _) (uh HOWN) rfl ⟨g1,g2,g3⟩)
  generalize hW4:(((w1.setCell ⟨w.heap.size,0,none⟩ (.int .i64 r2.size)).setCell ⟨w.heap.size,1,none⟩ (.slice a1 m1 c1)).setCell ⟨w.heap.size,2,none⟩ (.slice a2 m2 c2)).setCell ⟨w.heap.size,3,none⟩ (.slice a3 m3 c3)=W4 at *
  have HB4:=hide (uh HST).1
  have HG4:=hide (uh HST).2.1
  clear g1 g2 g3 HST HG1
  obtain ⟨k0,k1,k2,k3,kf⟩:=(uh HB4).cells
  have hsz:r2.size≤r.size:=(uh HSET).size
  have HLT:Hid (RegLt (G r2.size) r2):=(uh HSET).lt.mono (by
   have:=(uh HROOM).limbs (s:=r.size) hN (r.size - r2.size) (by omega)
   rwa [show r.size - (r.size - r2.size)=r2.size by omega] at this)
  by_cases hs0:r2.size=0
  ·have HCO:=hide (constants_new PT r2.told.length r2.told (.slice a3 m3 c3) W4 (fun _ _=>trivial) (uh HB4).rows.told rfl (uh HSET).ok.toldN (fun l hl=>by rw [(uh HSET).ok.toldL l hl];omega))
   have HPT:=hide (((uh HSET).ans _).1 (point_ans (uh HSET).zero hs0 (uh HSET).some))
   rw [hs0] at k0
   have hW4':(((w1.setCell ⟨w.heap.size,0,none⟩ (.int .i64 0)).setCell ⟨w.heap.size,1,none⟩ (.slice a1 m1 c1)).setCell ⟨w.heap.size,2,none⟩ (.slice a2 m2 c2)).setCell ⟨w.heap.size,3,none⟩ (.slice a3 m3 c3)=W4:=by rw [←hW4,hs0];rfl
   clear hW4
   go_wp2_with fail
   try rw [hW4']
   refine (uh HCO).mono ?_
   rintro e w5 ⟨v5,rfl,hv5,hnew,hb5⟩
   obtain ⟨xa,xn,xc,rfl⟩:=hv5.shapeS
   have HNEW:=hide (hnew.mono (uh HG4).size)
   have HV5:=hide hv5
   have HG5:Hid (Grows w w5):=(uh HG4).trans hb5
   clear hv5 hb5 hnew
   go_wp2
   exact bodyPost_ret (v:=.tuple #[.slice xa xn xc,.bool true]) (by simp [results,Try.results58,go_sem]) rfl ⟨_,true,rfl,⟨_,_,_,rfl⟩,uh HG5,fun _=>⟨uh HNEW,_,uh HV5,uh HPT⟩,fun h=>(by cases h)⟩
  ·have hs1:¬ ((r2.size:Int)=0):=by omega
   have HFIT:Hid (RegFit (G r2.size) r2):=⟨(uh HSET).zero,(uh HSET).tied,(uh HSET).ok,uh HLT,(uh HROOM).one _ (by omega),by omega,by omega,Nat.le_trans (uh HSET).few (uh HF).few⟩
   have hlim:=(uh HROOM).limits r2.size (by omega)
   have hred:=(uh HROOM).reduce r2.size (by omega)
   have hV1:=srV_ge r2.size (G r2.size)
   have hV2:=srT_ge r2.size (G r2.size)
   have hV3:=srS_ge r2.size (G r2.size)
   have hK:2*((r2.size+1)*G r2.size+1)+1≤1500000000000:=by have h1:srQ r2.size (G r2.size)=2*((r2.size+1)*G r2.size+1)+2*G r2.size+1:=rfl;omega
   have HNW:=hide (new_reg (uh HFIT) (.slice a2 m2 c2) W4 (uh HB4).rows.least hK)
   go_wp2_with fail
   refine (uh HNW).mono ?_
   rintro e w5 ⟨b,gl,gc,t5,rfl,q1,q2,q3,hT5,hG5,hgood⟩
   have HEM:=hide (empty_reg (uh HFIT) w5 hT5 hgood hK)
   have HT5:=hide hT5
   have HG5:=hide hG5
   clear hT5 hG5 hgood HNW k0 k1 k2 k3 kf
   go_wp2_with fail
   refine (uh HEM).mono ?_
   rintro e w6 ⟨ans,t6,rfl,hT6,hU6,hfl6,htr6⟩
   have HG6:Hid (Grows W4 w6):=turns_below (uh HG5) q1 q2 q3 hU6
   cases ans with
   | true =>
    have HNO:Hid (∀ A,¬ r.reg.Ans A):=fun A hA=>by
     obtain ⟨x,hx,_⟩:=((uh HSET).ans A).2 hA
     exact htr6 rfl x hx
    have HGE:Hid (Grows w w6):=(uh HG4).trans (uh HG6)
    clear hT6 hU6 hfl6 htr6
    go_wp2
    exact bodyPost_ret (v:=.tuple #[.slice none 0 0,.bool false]) (by simp [results,Try.results58,go_sem]) rfl ⟨_,false,rfl,⟨_,_,_,rfl⟩,uh HGE,fun h=>(by cases h),fun _=>uh HNO⟩
   | false =>
    have HRT:=hide (hfl6 rfl)
    have hholds:=turn_holds (uh HT5) hU6
    have key:∀ (v:Value) (ls:List (List Int)),RowsAt PT W4 v ls→RowsAt (·≠gc) w6 v ls:=fun v ls hv=>((hv.mono (P':=(·≠gc)) (fun k hk _=>by have:=q3;show k≠gc;omega)).below (uh HG5)).holds hholds
    have HTR:=hide (trimmedReg_any r2 (G r2.size) b gl gc W4.heap.size t6 (.agg #[.int .i64 r2.size,.slice a1 m1 c1,.slice a2 m2 c2,.slice a3 m3 c3]) w6 ⟨_,_,_,rfl,key _ _ (uh HB4).rows.zero,key _ _ (uh HB4).rows.least,key _ _ (uh HB4).rows.told⟩ (uh HFIT) hT6 (uh HRT) ⟨q1,q2,q3⟩ hK)
    have HB6:=hide ((uh HB4).grow (uh HG6))
    obtain ⟨k0,k1,k2,k3,kf⟩:=(uh HB6).cells
    clear hT6 hU6 hfl6 htr6 hholds key
    go_wp2_with fail
    refine (uh HTR).mono ?_
    rintro e w7 ⟨v7,v8,ks,zs,ws,rfl,-,⟨vz,vl,vt,rfl,g1,g2,g3⟩,hws,hb7,hTP⟩
    obtain ⟨ya,yn,yc,rfl⟩:=g1.shapeS
    obtain ⟨ua,un,uc,rfl⟩:=g2.shapeS
    obtain ⟨ra,rn,rc,rfl⟩:=g3.shapeS
    obtain ⟨wa,wn,wc,rfl⟩:=hws.shapeS
    have HG7:Hid (Grows w w7):=(uh HG4).trans (Below.trans (uh HG6) hb7)
    have HOWN7:=hide (Below.same (Below.trans (uh HG6) hb7) _ _ (uh HB4).own)
    have HST7:=hide (RegBox.store (uh HG7) (Nat.le_refl _) (uh HOWN7) rfl ⟨g1,g2,g3⟩)
    have HWS:=hide (hws.holds (uh HST7).2.2)
    obtain ⟨i0,i1,i2,i3,jf⟩:=((uh HB4).grow (Below.trans (uh HG6) hb7)).cells
    have y0:=jf 0
    have y1:=jf 1
    have y2:=jf 2
    have y3:=jf 3
    clear jf
    have ers:(r2.trim ks zs).size=r2.size:=rfl
    rw [ers] at HST7 HWS
    generalize hW8:(((w7.setCell ⟨w.heap.size,0,none⟩ (.int .i64 r2.size)).setCell ⟨w.heap.size,1,none⟩ (.slice ya yn yc)).setCell ⟨w.heap.size,2,none⟩ (.slice ua un uc)).setCell ⟨w.heap.size,3,none⟩ (.slice ra rn rc)=W8 at *
    have HB8:=hide (uh HST7).1
    have HG8:=hide (uh HST7).2.1
    have HTP:=hide hTP
    have HANS:Hid (∀ A,(r2.trim ks zs).reg.Ans A↔r.reg.Ans A):=fun A=>(hTP.ans (uh HSET).zero A).trans ((uh HSET).ans A)
    have HFO:Hid (FindOk G (r2.trim ks zs)):=⟨(hTP.ok (uh HFIT)).1,(hTP.ok (uh HFIT)).2,hTP.tied (uh HSET).zero (uh HSET).tied,by
     obtain ⟨D,h1,_⟩:=hTP.parts
     have h2:=h1.few
     have h3:=(uh HFIT).few
     show ks.length≤800
     omega⟩
    have HYN:Hid (yn=zs.length):=by
     unfold Hid
     have h1:=g1.len
     rw [h1]
     show (r2.zero++zs).length=zs.length
     rw [(uh HSET).zero];rfl
    clear g1 g2 g3 hws hb7 hTP HST7 k0 k1 k2 k3 kf HTR HB6
    obtain ⟨k0,k1,k2,k3,kf⟩:=(uh HB8).cells
    rw [ers] at k0
    by_cases hz:0<yn
    ·have HFI:=hide (uh HREC (r2.trim ks zs) (uh HFO) (by
      have hl:(r2.trim ks zs).Lead:=by
       refine lead_of ?_ ?_
       ·show 0<(r2.zero++zs).length
        rw [(uh HSET).zero];show 0<zs.length;have:=uh HYN;omega
       ·intro a ha
        have ha':a∈r2.zero++zs:=ha
        rw [(uh HSET).zero] at ha'
        obtain ⟨D,h1,_⟩:=(uh HTP).parts
        exact (uh HSET).some a (h1.inZ a ha').1
      rw [ers]
      by_cases hL:r.Lead
      ·exact .inl (uh HLEAD hL)
      ·rcases (show r2.size<r.size∨r2.size=r.size by omega) with h | h
       ·exact .inl h
       ·exact .inr ⟨h,hl,hL⟩) _ W8 (uh HB8).at)
     rw [ers] at HFI
     go_wp2_with fail
     refine (uh HFI).mono ?_
     rintro e w9 hp
     have HP:=hide (hp.of (uh HANS) (uh HG8))
     obtain ⟨vs,ok,rfl,⟨sa,sn,sc,rfl⟩,-⟩:=hp
     go_wp2
     exact bodyPost_ret (v:=.tuple #[.slice sa sn sc,.bool ok]) (by simp [results,Try.results58,go_sem]) rfl (uh HP)
    ·have hz0:yn=0:=by omega
     have hzs:zs=[]:=List.eq_nil_of_length_eq_zero (by have:=uh HYN;omega)
     clear HYN hz
     subst hz0
     subst hzs
     have HSR:=hide (search_any (r2.trim ks []) (G r2.size) ws (.agg #[.int .i64 r2.size,.slice ya 0 yc,.slice ua un uc,.slice ra rn rc]) (.slice wa wn wc) W8 (uh HB8).at (uh HWS)
      ⟨by show r2.zero++[]=[];rw [(uh HSET).zero];rfl,(uh HFO).tied,(uh HFO).ok,(uh HFO).lt,(uh HFIT).one,(uh HFIT).size0,(uh HFIT).size,(uh HFO).few⟩
      (by obtain ⟨D,h1,_⟩:=(uh HTP).parts;exact h1.len) (by obtain ⟨D,h1,_⟩:=(uh HTP).parts;exact h1.pos) (by obtain ⟨D,h1,_⟩:=(uh HTP).parts;exact h1.lt) hred hlim (fun r' h1 h2 h3 h4 h5=>by
       have h1':r'.size+1=r2.size:=h1
       refine uh HREC r' ⟨h2,h3.mono ?_,h4,h5⟩ (.inl (by omega))
       have:=(uh HROOM).part r'.size (by omega)
       rw [h1'] at this
       exact this))
     go_wp2_with fail
     refine (uh HSR).mono ?_
     rintro e w9 hp
     have HP:=hide (hp.of (uh HANS) (uh HG8))
     obtain ⟨vs,ok,rfl,⟨sa,sn,sc,rfl⟩,-⟩:=hp
     go_wp2
     exact bodyPost_ret (v:=.tuple #[.slice sa sn sc,.bool ok]) (by simp [results,Try.results58,go_sem]) rfl (uh HP)
theorem find_any {N:Nat} {G:Nat→Nat} (hroom:Room N G) (r:RegL) (hN:r.size≤N) (hf:FindOk G r):FindC r:=by
 have main:∀ (m:Nat) (r:RegL),r.size≤N→FindOk G r→(r.Lead→2*r.size≤m)→(¬ r.Lead→2*r.size+1≤m)→FindC r:=fun m=>by
  induction m using Nat.strongRecOn with
  | _ m ih =>
   intro r hN hf h1 h2
   refine find_body hroom r hN hf fun r' hf' hc=>?_
   by_cases hl:r.Lead
   ·have hm:=h1 hl
    rcases hc with hc|⟨_,_,hc⟩
    ·exact ih (2*r'.size+1) (by omega) r' (by omega) hf' (fun _=>by omega) (fun _=>by omega)
    ·exact absurd hl hc
   ·have hm:=h2 hl
    rcases hc with hc|⟨hc,hl',_⟩
    ·exact ih (2*r'.size+1) (by omega) r' (by omega) hf' (fun _=>by omega) (fun _=>by omega)
    ·exact ih (2*r'.size) (by omega) r' (by omega) hf' (fun _=>by omega) (fun hn=>absurd hl' hn)
 exact main (2*r.size+1) r hN hf (fun _=>by omega) (fun _=>by omega)
end Go.Proofs.Ytfaljekgpnbmiaa
