/- Joined: XLow3. -/
import Derived.Test.YtfaljekgpnbmiaaJ39
set_option linter.unusedVariables false
set_option linter.unusedSimpArgs false
set_option maxRecDepth 100000
namespace Go.Proofs.Ytfaljekgpnbmiaa
open Go.RowKit Go.Sort
theorem two_small {K:Nat} (h:K≠0):Pl.Lt K 2:=by
 obtain ⟨K',rfl⟩:∃ K',K=K'+1:=⟨K - 1,by omega⟩
 rw [Pl.lt_nat,Nat.pow_succ];have:=Nat.pow_pos (n:=K') (show 0<1073741824 by omega);show 2<_;omega
theorem three_small {K:Nat} (h:K≠0):Pl.Lt K 3:=by
 obtain ⟨K',rfl⟩:∃ K',K=K'+1:=⟨K - 1,by omega⟩
 rw [Pl.lt_nat,Nat.pow_succ];have:=Nat.pow_pos (n:=K') (show 0<1073741824 by omega);show 3<_;omega
theorem four_small {K:Nat} (h:K≠0):Pl.Lt K 4:=by
 obtain ⟨K',rfl⟩:∃ K',K=K'+1:=⟨K - 1,by omega⟩
 rw [Pl.lt_nat,Nat.pow_succ];have:=Nat.pow_pos (n:=K') (show 0<1073741824 by omega);show 4<_;omega
theorem lt_one {K:Nat} (h:K≠0):Pl.Lt K 1:=by
 obtain ⟨K',rfl⟩:∃ K',K=K'+1:=⟨K - 1,by omega⟩
 exact one_small (by decide)
theorem part_store {g:Nat} {w:World} {r:RegL} {za ea fa ha:Option Addr} {zn zc en ec fn fc hm hc:Nat} {row:List Int} (h:RegBox PT g w r za zn zc ea en ec fa fn fc) (hv:RowsAt PT w (.slice ha hm hc) (r.least++[row])):RegBox PT g (w.setCell ⟨g,2,none⟩ (.slice ha hm hc)) (r.part row) za zn zc ha hm hc fa fn fc:=by
 have hh:Holds PT w (w.setCell ⟨g,2,none⟩ (.slice ha hm hc)):=holds_set h.own (by decide) (fun e=>absurd e (by decide)) _ _
 have e:=heap_setCell_same w g 2 _ _ (.slice ha hm hc) h.own
 exact ⟨e,h.rows.zero.holds hh,hv.holds hh,h.rows.told.holds hh⟩
def LowPost (r:RegL) (at_:Nat) (w:World) (e:Ending) (w':World):Prop:=∃ (v':Value) (A':List Int),e=.returned v'∧ShapeS v'∧RowAt PT w' v' A'∧r.reg.Ans A'∧(∀ B,r.reg.Ans B→A'.getD at_ 0≤B.getD at_ 0)∧Below w.heap.size w w'
attribute [local go_sem] valUpon
set_option maxHeartbeats 2000000 in
theorem lowered_any {N:Nat} {G:Nat→Nat} (hroom:Room N G) (r:RegL) (H M at_:Nat) (A:List Int) (vr vp:Value) (w:World) (h:RegAt PT w vr r) (hp:RowAt PT w vp A) (hA:r.reg.Ans A) (hf0:LowFit H r) (hN:r.size≤N) (hat:at_<r.told.length) (hM:(r.size+1)*H+1≤M) (hMG:M+1≤G r.size) (hbd:∀ B,r.reg.Ans B→Pl.Lt M (B.getD at_ 0)) (hK:3*M+20≤1500000000000) :
  Calls Try.prog 59 #[vr,.int .i64 at_,vp] w (LowPost r at_ w):=by
 obtain ⟨vz,vl,vt,rfl,h1,h2,h3⟩:=h
 obtain ⟨za,zn,zc,rfl⟩:=h1.shapeS
 obtain ⟨ea,en,ec,rfl⟩:=h2.shapeS
 obtain ⟨fa,fn,fc,rfl⟩:=h3.shapeS
 obtain ⟨pa0,pn0,pc0,rfl⟩:=hp.shapeS
 have hK2:2*((r.size+1)*H+1)+1≤1500000000000:=by omega
 have hHM:H≤M:=by have:H≤(r.size+1)*H:=(by rw [Nat.add_mul,Nat.one_mul];omega);omega
 have hM1:1≤M:=by omega
 have HROOM:=hide hroom
 have HBD:=hide hbd
 have HA0:=hide hA
 have hs9:=hf0.size
 obtain ⟨W,hW⟩:∃ W,w.alloc (.cells #[.int .i64 r.size,.slice za zn zc,.slice ea en ec,.slice fa fn fc] 78)=W:=⟨_,rfl⟩
 have HB:Hid (RegBox PT w.heap.size W r za zn zc ea en ec fa fn fc):=by unfold Hid;rw [←hW];exact RegBox.new ⟨h1,h2,h3⟩
 have HG:Hid (Grows w W):=by unfold Hid;rw [←hW];exact Grows.alloc _ _
 have HP:=hide (hp.mono (P':=(·<w.heap.size)) (fun k hk _=>hk))
 obtain ⟨k0,k1,k2,k3,kf⟩:=(uh HB).cells
 have HNW:=hide (new_x hf0 (.slice ea en ec) W (uh HB).rows.least hK2)
 clear h1 h2 h3 hp hA hroom hbd
 go_enter Try.func59,Try.ntmps59
 go_wp2_with fail
 try rw [hW]
 clear hW
 refine (uh HNW).mono ?_
 rintro e w1 ⟨b,rfl,hb1,hG1,hT1⟩
 have HEM:=hide (empty_x hf0 hb1 hG1.size hT1 hK2)
 have HG1:=hide hG1
 clear hG1 hT1 HNW k0 k1 k2 k3 kf
 go_wp2_with fail
 refine (uh HEM).mono ?_
 rintro e w2 ⟨ans,rfl,hB2,hfl,htr⟩
 cases ans with
 | true =>
  exfalso
  obtain ⟨x,hx,_⟩:=uh HA0
  exact htr rfl x hx
 | false =>
  have HG2:Hid (Grows W w2):=Below.trans (uh HG1) hB2
  have HB2:=hide ((uh HB).grow (uh HG2))
  obtain ⟨k0,k1,k2,k3,kf⟩:=(uh HB2).cells
  obtain ⟨gh,oh,ch,vu,eh,u0,hu,hum⟩:=rows_cell (uh HB).rows.told (i:=at_) hat
  cases eh
  have u0':=(uh HG2).cell u0
  obtain ⟨ua,un,uc,rfl⟩:=hu.shapeS
  have HUL:Hid ((r.told.getD at_ []).length=r.size+1):=hf0.ok.toldL _ hum
  have HLO:=hide (lowest_x hf0 hb1 (uh HG2) (hfl rfl) (r.told.getD at_ []) (.slice ua un uc) hu (uh HUL) (hf0.lt.told at_) hK2)
  have HU:=hide (hu.mono (P':=(·<W.heap.size)) (fun k hk _=>hk))
  have HU0:=hide u0
  clear hfl htr hB2 HEM hu u0
  have hat':(at_:Int)<(r.told.length:Int):=by omega
  go_wp2_with fail
  refine (uh HLO).mono ?_
  rintro e w3 ⟨v3,lo,rfl,hv3,hB3,hlow,hlt3⟩
  obtain ⟨lx,la,lm,lc,rfl⟩:=hv3.shape
  have HG3:Hid (Grows W w3):=Below.trans (uh HG2) hB3
  have hwW:w.heap.size<W.heap.size:=lt_of_block (uh HB).own
  have hW3:W.heap.size≤w3.heap.size:=(uh HG3).size
  have hlow8:w.heap.size<w3.heap.size:=by omega
  have HLOW:Hid (∀ B,r.reg.Ans B→lo≤B.getD at_ 0):=fun B hB=>by
   obtain ⟨x,hx,rfl⟩:=hB
   have:=hlow x hx
   rw [tells_at hat];exact this
  have HLL0:Hid (Pl.Lt M lo):=Pl.Lt.mono hlt3 hM
  have HV9:=hide (var_new (w:=w3.alloc (.cells #[.int .i64 lx,.slice la lm lc] 82)) (whole_zero PT _))
  rw [World.size_alloc] at HV9
  have HGT:Hid (Grows w3 ((w3.alloc (.cells #[.int .i64 lx,.slice la lm lc] 82)).alloc (.cells #[.int .i64 0,.slice none 0 0] 82))):=Grows.trans (Grows.alloc _ _) (Grows.alloc _ _)
  have HST:Hid (LowAt W.heap.size w ((w3.alloc (.cells #[.int .i64 lx,.slice la lm lc] 82)).alloc (.cells #[.int .i64 0,.slice none 0 0] 82)) r za zn zc ea en ec (some ⟨gh,oh,none⟩) r.told.length fc w3.heap.size (w3.heap.size+1) lx la lm lc lo 0 none 0 0 0) :=
   ⟨(((uh HB).mono (P':=(·<W.heap.size)) (fun k hk _=>hk)).grow (uh HG3)).grow (uh HGT),(var_new hv3).grow (Grows.alloc _ _),uh HV9,((uh HG).trans (uh HG3)).trans (uh HGT),by omega,by omega,by omega,by omega,by omega⟩
  have HPN:Hid (RowAt (fun k=>k≠w3.heap.size∧k≠w3.heap.size+1) ((w3.alloc (.cells #[.int .i64 lx,.slice la lm lc] 82)).alloc (.cells #[.int .i64 0,.slice none 0 0] 82)) (.slice pa0 pn0 pc0) A):=((uh HP).mono (fun k hk _=>⟨by omega,by omega⟩)).below (((uh HG).trans (uh HG3)).trans (uh HGT))
  have HRI:Hid (ReachI (A.getD at_ 0 - lo) (A.getD at_ 0 - lo) 0):=ReachI.start (by have:=uh HLOW A (uh HA0);omega)
  have HD:Hid (Pl.Lt (M+1) (A.getD at_ 0 - lo)):=(uh HBD A (uh HA0)).sub (uh HLL0)
  have HGW:Hid (Grows W ((w3.alloc (.cells #[.int .i64 lx,.slice la lm lc] 82)).alloc (.cells #[.int .i64 0,.slice none 0 0] 82))):=(uh HG3).trans (uh HGT)
  clear hv3 hB3 hlow hlt3 HLO HV9 HGT HG3 HG1 HG2 HB2 u0' k0 k1 k2 k3 kf
  go_wp2_with fail
  generalize hWT:(w3.alloc (.cells #[.int .i64 lx,.slice la lm lc] 82)).alloc (.cells #[.int .i64 0,.slice none 0 0] 82)=WT at *
  generalize hg9:w3.heap.size+1=g9 at *
  generalize hg8:w3.heap.size=g8 at *
  clear hWT hg9 hg8 hW3 hlow8
  obtain ⟨d,hd⟩:∃ d,A.getD at_ 0 - lo=d:=⟨_,rfl⟩
  rw [hd] at HRI HD
  go_loopg [2] d.toNat (fun q pv wr=>∃ (A:List Int) (pa:Option Addr) (pn pc:Nat) (lx:Int) (la:Option Addr) (lm lc:Nat) (low qx:Int) (qa:Option Addr) (qm qc:Nat) (rch:Int),pv=.slice pa pn pc∧(A.getD at_ 0 - low).toNat=q∧Hid (LowAt W.heap.size w wr r za zn zc ea en ec (some ⟨gh,oh,none⟩) r.told.length fc g8 g9 lx la lm lc low qx qa qm qc rch∧RowAt (fun k=>k≠g8∧k≠g9) wr (.slice pa pn pc) A∧r.reg.Ans A∧(∀ B,r.reg.Ans B→low≤B.getD at_ 0)∧ReachI d (A.getD at_ 0 - low) rch∧Pl.Lt M low∧Grows W wr))
  case atStart=>exact ⟨A,pa0,pn0,pc0,lx,la,lm,lc,lo,0,none,0,0,0,rfl,by rw [hd],uh HST,uh HPN,uh HA0,uh HLOW,by rw [hd];exact uh HRI,uh HLL0,uh HGW⟩
  case round =>
   clear HST HPN HA0 HLOW HRI HLL0 hd HGW HP
   skip
   obtain ⟨A,pa',pn,pc',lx,la,lm,lc,low,qx,qa,qm,qc,rch,rfl,hq,HR⟩:=hrel
   have HLL:=hide (uh HR).2.2.2.2.2.1
   have HLA:=hide (uh HBD A (uh HR).2.2.1)
   have halen:at_<A.length:=by rw [ans_len (uh HR).2.2.1];exact hat
   obtain ⟨gp,op,cp,px,pa,pm,pc,ep,p0,p1,hpv⟩:=row_cell (uh HR).2.1 (i:=at_) halen
   have HPN:Hid (pn=A.length):=by
    obtain ⟨ad,cap,e,_⟩:=(uh HR).2.1
    cases e;rfl
   have HAT:Hid (at_<pn):=by unfold Hid;rw [uh HPN];exact halen
   cases ep
   have HPV:=hide (hpv.mono (P':=PT) (fun _ _ _=>trivial))
   have HPC:=hide (And.intro p0 p1)
   have hatA:(at_:Int)<(A.length:Int):=by omega
   obtain ⟨x0,x1,-,-⟩:=(uh HR).1.low.cells
   clear hpv halen
   go_wp2_with fail
   have y0:=cell_regrown x0
   have y1:=cell_regrown x1
   have y2:=cell_regrown p0
   have y3:=cell_regrown p1
   clear x0 x1 p0 p1
   refine wp_region_grown (phiL []) (gL [(36,(·=.int .i64 (Int.sign (low - A.getD at_ 0))))]) 85 6 (by kernel_rfl) (by rfl) (by kernel_rfl) (phiL_grows (by simp)) ?_
   iterate 5 (refine lex_s fun K hK=>?_;go_simp;refine hK _ ?_;clear hK K)
   refine lex_call (·=.int .i64 (Int.sign (low - A.getD at_ 0))) 89 #[.agg #[.int .i64 lx,.slice la lm lc],.agg #[.int .i64 px,.slice pa pm pc]] (by rfl) (by rfl) ⟨_,rfl⟩ (fun w=>by go_simp) (fun wq hg hf=>(Compare_any PT M _ _ _ _ wq (fun _ _=>trivial) ((uh HR).1.low.val.below hg) ((uh HPV).below hg) (by omega) (uh HLL) (uh HLA)).mono (by rintro e w' ⟨rfl,hb⟩;exact ⟨_,rfl,hb,rfl,fun t ht=>by cases ht;exact True.intro⟩)) ?_
   rintro _ rfl
   refine lex_last ?_
   intro w1 hw1 hphi
   clear hphi y0 y1 y2 y3
   have HL1:=hide ((uh HR).1.grow hw1)
   have HPV1:=hide ((uh HPV).below hw1)
   have HG1:=hide hw1
   clear hw1
   by_cases hc:low<A.getD at_ 0
   ·rw [Int.sign_eq_neg_one_of_neg (show low - A.getD at_ 0<0 by omega)]
    have HLR:=hide ((uh HR).2.2.2.2.1.lt (by omega) (show 1≤M+1 by omega) (uh HD))
    rw [show 3*(M+1)+2=3*M+5 by omega] at HLR
    obtain ⟨x0,x1,-,-⟩:=(uh HL1).low.cells
    obtain ⟨q0,q1,-,-⟩:=(uh HL1).rch.cells
    have HAD:=hide (Add_any PT (3*M+5) low rch (.agg #[.int .i64 lx,.slice la lm lc]) (.agg #[.int .i64 qx,.slice qa qm qc]) w1 (fun _ _=>trivial) (uh HL1).low.val (uh HL1).rch.val (by omega) (Pl.Lt.mono (uh HLL) (by omega)) (uh HLR))
    have HC:=hide hc
    clear hc
    go_wp2_with fail
    refine (uh HAD).mono ?_
    rintro e w2 ⟨v2,rfl,hv2,hb2⟩
    obtain ⟨tx,ta,tm,tc,rfl⟩:=hv2.shape
    have HGA:Hid (Grows w1 (w2.alloc (.cells #[.int .i64 tx,.slice ta tm tc] 82))):=Grows.trans hb2 (Grows.alloc _ _)
    have HT2:=hide (var_new hv2)
    have hsz2:wr.heap.size≤w2.heap.size:=Nat.le_trans (uh HG1).size hb2.size
    obtain ⟨mid,hmid'⟩:∃ mid,Int.fdiv (low+A.getD at_ 0 - 1) 2=mid:=⟨_,rfl⟩
    have HMD:=hide hmid'
    clear hv2 hb2 x0 x1 q0 q1 HAD hmid'
    go_wp2_with fail
    generalize hW2:w2.alloc (.cells #[.int .i64 tx,.slice ta tm tc] 82)=W2 at *
    generalize hg10:w2.heap.size=g10 at *
    clear hW2
    have HL2:=hide ((uh HL1).grow (uh HGA))
    have HPV2:=hide ((uh HPV1).below (uh HGA))
    have p0:=(uh HGA).cell ((uh HG1).cell (uh HPC).1)
    have p1:=(uh HGA).cell ((uh HG1).cell (uh HPC).2)
    obtain ⟨x0,x1,-,-⟩:=(uh HL2).low.cells
    have y0:=cell_regrown x0
    have y1:=cell_regrown x1
    have y2:=cell_regrown p0
    have y3:=cell_regrown p1
    clear x0 x1 p0 p1
    refine wp_region_grown (phiL [(50,fun v w=>WhAt PT w v mid),(11,FreshV W2),(48,fun v w=>WhAt PT w v (low+A.getD at_ 0 - 1)),(49,fun v w=>WhAt PT w v 2),(46,fun v w=>WhAt PT w v (low+A.getD at_ 0)),(47,fun v w=>WhAt PT w v 1)]) (gL [(46,ShapeI),(47,ShapeI),(48,ShapeI),(49,ShapeI),(50,ShapeI),(11,ShapeP)]) 85 11 (by kernel_rfl) (by rfl) (by kernel_rfl) (phi_c (fun _ _ _=>WhAt.below) (phi_c (fun _ _ _=>FreshV.grow) (phi_c (fun _ _ _=>WhAt.below) (phi_c (fun _ _ _=>WhAt.below) (phi_c (fun _ _ _=>WhAt.below) (phi_c (fun _ _ _=>WhAt.below) phi_n)))))) ?_
    iterate 5 (refine lex_s fun K hK=>?_;go_simp;refine hK _ ?_;clear hK K)
    refine lex_call ShapeI 90 #[.agg #[.int .i64 lx,.slice la lm lc],.agg #[.int .i64 px,.slice pa pm pc]] (by rfl) (by rfl) ShapeI.some (fun w=>by go_simp) (fun wq hg hf=>(Add_any PT M low (A.getD at_ 0) _ _ wq (fun _ _=>trivial) ((uh HL2).low.val.below hg) ((uh HPV2).below hg) (by omega) (uh HLL) (uh HLA)).mono (by rintro e w' ⟨v',rfl,hv,hb⟩;exact ⟨_,rfl,hb,hv.shapeI,fun t ht=>by cases ht;exact hv⟩)) ?_
    rintro _ ⟨ax,aa,am,ac,rfl⟩
    simp only [Act.put,List.setIfInBounds_toArray,List.set_cons_succ,List.set_cons_zero]
    refine lex_call ShapeI 63 #[.int .i64 1] (by rfl) (by rfl) ShapeI.some (fun w=>by go_simp) (fun wq hg hf=>(Of_any PT 1 wq (fun _ _=>trivial) (by decide) (by decide)).mono (by rintro e w' ⟨v',rfl,hv,hb⟩;exact ⟨_,rfl,hb,hv.shapeI,fun t ht=>by cases ht;exact hv⟩)) ?_
    rintro _ ⟨bx,ba,bm,bc,rfl⟩
    simp only [Act.put,List.setIfInBounds_toArray,List.set_cons_succ,List.set_cons_zero]
    refine lex_call ShapeI 92 #[.agg #[.int .i64 ax,.slice aa am ac],.agg #[.int .i64 bx,.slice ba bm bc]] (by rfl) (by rfl) ShapeI.some (fun w=>by go_simp) (fun wq hg hf=>(Sub_any PT (M+1) (low+A.getD at_ 0) 1 _ _ wq (fun _ _=>trivial) (hf 5 (by kernel_rfl) _ 46 rfl rfl) (hf 6 (by kernel_rfl) _ 47 rfl rfl) (by omega) ((uh HLL).add (uh HLA)) (one_small (by decide))).mono (by rintro e w' ⟨v',rfl,hv,hb⟩;exact ⟨_,rfl,hb,hv.shapeI,fun t ht=>by cases ht;exact hv⟩)) ?_
    rintro _ ⟨cx,ca,cm,cc,rfl⟩
    simp only [Act.put,List.setIfInBounds_toArray,List.set_cons_succ,List.set_cons_zero]
    refine lex_call ShapeI 63 #[.int .i64 2] (by rfl) (by rfl) ShapeI.some (fun w=>by go_simp) (fun wq hg hf=>(Of_any PT 2 wq (fun _ _=>trivial) (by decide) (by decide)).mono (by rintro e w' ⟨v',rfl,hv,hb⟩;exact ⟨_,rfl,hb,hv.shapeI,fun t ht=>by cases ht;exact hv⟩)) ?_
    rintro _ ⟨dx,da,dm,dc,rfl⟩
    simp only [Act.put,List.setIfInBounds_toArray,List.set_cons_succ,List.set_cons_zero]
    refine lex_call ShapeI 91 #[.agg #[.int .i64 cx,.slice ca cm cc],.agg #[.int .i64 dx,.slice da dm dc]] (by rfl) (by rfl) ShapeI.some (fun w=>by go_simp) (fun wq hg hf=>(Div_any PT (M+2) (low+A.getD at_ 0 - 1) 2 _ _ wq (fun _ _=>trivial) (hf 7 (by kernel_rfl) _ 48 rfl rfl) (hf 8 (by kernel_rfl) _ 49 rfl rfl) (by omega) (((uh HLL).add (uh HLA)).sub (one_small (by decide))) (two_small (by omega))).mono (by rintro e w' ⟨v',rfl,hv,hb⟩;rw [uh HMD] at hv;exact ⟨_,rfl,hb,hv.shapeI,fun t ht=>by cases ht;exact hv⟩)) ?_
    rintro _ ⟨mx,ma,mm,mc,rfl⟩
    simp only [Act.put,List.setIfInBounds_toArray,List.set_cons_succ,List.set_cons_zero]
    refine lex_grow ShapeP (by rfl) (by rfl) ShapeP.some (fun wq hg hf=>⟨.pointer (some ⟨wq.heap.size,0,none⟩),wq.alloc (.cells #[.int .i64 0,.slice none 0 0] 82),by go_simp,Grows.alloc _ _,⟨_,rfl⟩,fun t ht=>by cases ht;exact FreshV.new hg⟩) ?_
    rintro _ ⟨g11,rfl⟩
    simp only [Act.put,List.setIfInBounds_toArray,List.set_cons_succ,List.set_cons_zero]
    refine lex_last ?_
    intro w3 hg3 hphi
    have qv:WhAt PT w3 (.agg #[.int .i64 mx,.slice ma mm mc]) mid:=hphi 9 _ 50 (by decide) rfl rfl
    have qf:FreshV W2 (.pointer (some ⟨g11,0,none⟩)) w3:=hphi 10 _ 11 (by decide) rfl rfl
    clear hphi y0 y1 y2 y3
    have hge:=qf.own.1
    have hblk:=qf.own.2
    have s0:=(int_cells hblk).1
    have s1:=(int_cells hblk).2.1
    have s2:=(int_cells hblk).2.2.1
    have s3:=(int_cells hblk).2.2.2
    have HM3:=hide (store_new hg3 hge hblk qv).1
    have HG3:Hid (Grows W2 ((w3.setCell ⟨g11,0,none⟩ (.int .i64 mx)).setCell ⟨g11,1,none⟩ (.slice ma mm mc))):=(store_new hg3 hge hblk qv).2
    have h1011:g10<W2.heap.size:=lt_of_block (uh HT2).heap
    clear qv hblk hg3 qf
    generalize hW3:(w3.setCell ⟨g11,0,none⟩ (.int .i64 mx)).setCell ⟨g11,1,none⟩ (.slice ma mm mc)=W3 at *
    have HT3:=hide ((uh HT2).grow (uh HG3))
    have HL3:=hide ((uh HL2).grow (uh HG3))
    have hmid:=uh HMD
    have HMID:Hid (low≤mid∧mid<A.getD at_ 0∧A.getD at_ 0 - (mid+1)≤mid - low+1∧2*(A.getD at_ 0 - (mid+1))≤A.getD at_ 0 - low):=by
     unfold Hid
     rw [←hmid,Int.fdiv_eq_ediv_of_nonneg _ (by decide)]
     have:=uh HC
     omega
    have HLM:Hid (Pl.Lt M mid):=lt_between (uh HLL) (uh HLA) (uh HMID).1 (Int.le_of_lt (uh HMID).2.1)
    have m0:=(uh HM3).cells.1
    have m1:=(uh HM3).cells.2.1
    have t0':=(uh HT3).cells.1
    have t1':=(uh HT3).cells.2.1
    have HCM:=hide (Compare_any PT (3*M+6) mid (low+rch) (.agg #[.int .i64 mx,.slice ma mm mc]) (.agg #[.int .i64 tx,.slice ta tm tc]) W3 (fun _ _=>trivial) (uh HM3).val (uh HT3).val (by omega) (Pl.Lt.mono (uh HLM) (by omega)) (Pl.Lt.add (Pl.Lt.mono (uh HLL) (by omega)) (uh HLR)))
    clear hmid HT2 HL2 HPV2
    go_wp2_with fail
    try rw [hW3]
    clear hW3 s0 s1 s2 s3
    refine (uh HCM).mono ?_
    rintro e w4 ⟨rfl,hb4⟩
    have HG4:Hid (Grows wr w4):=((uh HG1).trans ((uh HGA).trans (uh HG3))).trans hb4
    have HT4:=hide ((uh HT3).grow hb4)
    have HM4:=hide ((uh HM3).grow hb4)
    obtain ⟨m0,m1,-,-⟩:=(uh HM4).cells
    obtain ⟨t0',t1',t2',t3'⟩:=(uh HT4).cells
    clear hb4 HCM HT3 HM3 HL3
    have HL4:=hide (LowAt.grow (uh HR).1 (uh HG4))
    have hg10w:wr.heap.size≤g10:=hsz2
    by_cases hmt:mid<low+rch
    ·rw [Int.sign_eq_neg_one_of_neg (show mid - (low+rch)<0 by omega)]
     have HV5:Hid (VarAt PT ((w4.setCell ⟨g10,0,none⟩ (.int .i64 mx)).setCell ⟨g10,1,none⟩ (.slice ma mm mc)) g10 mx ma mm mc mid):=⟨int_sets (uh HT4).heap _ _,(uh HM4).val.sets (uh HT4).heap _ _⟩
     have HG5:Hid (Grows wr ((w4.setCell ⟨g10,0,none⟩ (.int .i64 mx)).setCell ⟨g10,1,none⟩ (.slice ma mm mc))):=(Below.setCell (p:=⟨g10,0,none⟩) (uh HG4) hg10w _).setCell (p:=⟨g10,1,none⟩) hg10w _
     have HNX:Hid (low≤mid∧mid<A.getD at_ 0∧ReachI d (A.getD at_ 0 - (mid+1)) (rch*4+3)):=⟨(uh HMID).1,(uh HMID).2.1,(uh HR).2.2.2.2.1.half (by have:=(uh HMID).2.1;omega) (uh HMID).2.2.2⟩
     clear hmt HMID HT4 HL4 HG4 HM4
     generalize hW5:(w4.setCell ⟨g10,0,none⟩ (.int .i64 mx)).setCell ⟨g10,1,none⟩ (.slice ma mm mc)=W5 at *
     have HL5:=hide (LowAt.grow (uh HR).1 (uh HG5))
     obtain ⟨k0,k1,k2,k3,-⟩:=(uh HL5).box.cells
     have HB6:=hide (RegBox.new (uh HL5).box.all.rows)
     have HGA5:=hide (Grows.alloc W5 (.cells #[.int .i64 r.size,.slice za zn zc,.slice ea en ec,.slice (some ⟨gh,oh,none⟩) r.told.length fc] 78))
     have HLT:Hid (Pl.Lt M mid):=lt_between (uh HLL) (uh HLA) (uh HNX).1 (Int.le_of_lt (uh HNX).2.1)
     go_wp2_with fail
     try rw [hW5]
     clear hW5
     generalize hW6:W5.alloc (.cells #[.int .i64 r.size,.slice za zn zc,.slice ea en ec,.slice (some ⟨gh,oh,none⟩) r.told.length fc] 78)=W6 at *
     obtain ⟨g12,hg12⟩:∃ g12,W5.heap.size=g12:=⟨_,rfl⟩
     rw [hg12] at HB6
     rw [hg12]
     clear hW6 k0 k1 k2 k3
     have HL6:=hide ((uh HL5).grow (uh HGA5))
     have HV6:=hide ((uh HV5).grow (uh HGA5))
     have HG6:Hid (Grows wr W6):=(uh HG5).trans (uh HGA5)
     have HU6:=hide (((uh HU).mono (P':=PT) (fun _ _ _=>trivial)).below ((uh HR).2.2.2.2.2.2.trans (uh HG6)))
     have u0:=((uh HR).2.2.2.2.2.2.trans (uh HG6)).cell (uh HU0)
     obtain ⟨-,-,k2,k3,-⟩:=(uh HL6).box.cells
     obtain ⟨v0,v1,-,-⟩:=(uh HV6).cells
     have hg12w:wr.heap.size≤g12:=by rw [←hg12];exact (uh HG5).size
     clear HL5 HV5 HG5 HGA5 hg12
     have y0:=cell_regrown k2
     have y1:=cell_regrown k3
     have y2:=cell_regrown u0
     have y3:=cell_regrown v0
     have y4:=cell_regrown v1
     clear k2 k3 u0 v0 v1
     refine wp_region_grown (phiL [(64,fun v w=>RowAt PT w v ((r.told.getD at_ []).map fun x=>-x)),(66,fun v w=>RowAt PT w v (lowRow (r.told.getD at_ []) mid)),(67,fun v w=>RowsAt PT w v (r.least++[lowRow (r.told.getD at_ []) mid]))]) (gL [(64,ShapeS),(66,ShapeS),(67,ShapeS)]) 85 12 (by kernel_rfl) (by rfl) (by kernel_rfl) (phi_c (fun _ _ _=>RowAt.below) (phi_c (fun _ _ _=>RowAt.below) (phi_c (fun _ _ _=>RowsAt.below) phi_n))) ?_
     iterate 7 (refine lex_s fun K hK=>?_;go_simp;refine hK _ ?_;clear hK K)
     refine lex_call ShapeS 64 #[.slice ua un uc] (by rfl) (by rfl) ShapeS.some (fun w=>by go_simp) (fun wq hg hf=>(opposite_any PT (r.size+1) (r.told.getD at_ []) _ wq (fun _ _=>trivial) ((uh HU6).below hg) (uh HUL) (by omega)).mono (by rintro e w' ⟨v',rfl,hv,hb⟩;exact ⟨_,rfl,hb,hv.shapeS,fun t ht=>by cases ht;exact hv⟩)) ?_
     rintro _ ⟨oa,om,oc,rfl⟩
     simp only [Act.put,List.setIfInBounds_toArray,List.set_cons_succ,List.set_cons_zero]
     (refine lex_s fun K hK=>?_;go_simp;refine hK _ ?_;clear hK K)
     refine lex_call ShapeS 60 #[.slice oa om oc,.agg #[.int .i64 mx,.slice ma mm mc]] (by rfl) (by rfl) ShapeS.some (fun w=>by go_simp) (fun wq hg hf=>(raised_any PT M (r.size+1) ((r.told.getD at_ []).map fun x=>-x) mid _ _ wq (fun _ _=>trivial) (hf 7 (by kernel_rfl) _ 64 rfl rfl) ((uh HV6).val.below hg) (by rw [List.length_map];exact uh HUL) (by omega) (by omega) (neg_lt (fun k=>(hf0.lt.told at_ k).mono hHM)) (uh HLT) (by omega)).mono (by rintro e w' ⟨v',rfl,hv,hb⟩;exact ⟨_,rfl,hb,hv.shapeS,fun t ht=>by cases ht;exact hv⟩)) ?_
     rintro _ ⟨va,vm,vc,rfl⟩
     simp only [Act.put,List.setIfInBounds_toArray,List.set_cons_succ,List.set_cons_zero]
     refine lex_call ShapeS 62 #[.slice ea en ec,.slice va vm vc] (by rfl) (by rfl) ShapeS.some (fun w=>by go_simp) (fun wq hg hf=>(with_any PT r.least (lowRow (r.told.getD at_ []) mid) _ _ wq (fun _ _=>trivial) ((uh HL6).box.all.rows.least.below hg) (hf 9 (by kernel_rfl) _ 66 rfl rfl) (by have:=hf0.few;omega)).mono (by rintro e w' ⟨v',rfl,hv,hb⟩;exact ⟨_,rfl,hb,hv.shapeS,fun t ht=>by cases ht;exact hv⟩)) ?_
     rintro _ ⟨ha,hm,hc,rfl⟩
     simp only [Act.put,List.setIfInBounds_toArray,List.set_cons_succ,List.set_cons_zero]
     (refine lex_s fun K hK=>?_;go_simp;refine hK _ ?_;clear hK K)
     refine lex_last ?_
     intro w7 hg7 hphi
     have hv7:RowsAt PT w7 (.slice ha hm hc) (r.least++[lowRow (r.told.getD at_ []) mid]):=hphi 10 _ 67 (by decide) rfl rfl
     clear hphi y0 y1 y2 y3 y4
     have HB7:=hide ((uh HB6).grow hg7)
     have k0:=(uh HB7).cells.1
     have k1:=(uh HB7).cells.2.1
     have k2:=(uh HB7).cells.2.2.1
     have k3:=(uh HB7).cells.2.2.2.1
     have kf2:=(uh HB7).cells.2.2.2.2 2
     have HS8:=hide (part_store (uh HB7) hv7)
     have HG8:Hid (Grows wr (w7.setCell ⟨g12,2,none⟩ (.slice ha hm hc))):=Below.setCell (p:=⟨g12,2,none⟩) ((uh HG6).trans hg7) hg12w _
     have HV8:Hid (VarAt PT (w7.setCell ⟨g12,2,none⟩ (.slice ha hm hc)) g10 mx ma mm mc mid):=by
      have h1:=(uh HV6).grow hg7
      have hne:g10≠g12:=fun e=>by
       have h2:=h1.heap
       have h3:=(uh HB7).own
       rw [e,h3] at h2;simp at h2
      exact ⟨(Below.heap_setCell _ _ _ _ hne).trans h1.heap,h1.val.keep (KeepT.setCell (uh HB7).own (by decide) _ _)⟩
     generalize hW8:w7.setCell ⟨g12,2,none⟩ (.slice ha hm hc)=W8 at *
     have z0:=(uh HS8).cells.1
     have z1:=(uh HS8).cells.2.1
     have z2:=(uh HS8).cells.2.2.1
     have z3:=(uh HS8).cells.2.2.2.1
     have HFI:=hide (find_any (uh HROOM) (r.part (lowRow (r.told.getD at_ []) mid)) hN ⟨part_ok hf0.ok hat _ (by have:=hf0.few;omega),(part_lt (hf0.lt.mono hHM) at_ (uh HLT)).mono hMG,part_tied hf0.tied _,by show (r.least++[_]).length≤800;rw [List.length_append];have:=hf0.few;simp;omega⟩ (.agg #[.int .i64 r.size,.slice za zn zc,.slice ha hm hc,.slice (some ⟨gh,oh,none⟩) r.told.length fc]) W8 (uh HS8).at)
     have z0':W8.cell? ⟨g12,0,none⟩=some (.int .i64 r.size):=z0
     clear hv7 hg7 HB7 HB6 HG6 HV6 HL6 HU6 z0
     go_wp2_with fail
     try rw [hW8]
     clear hW8
     refine (uh HFI).mono ?_
     rintro e w9 ⟨vs,ok,rfl,⟨sa',sn',sc',rfl⟩,hb9,ht,hfl⟩
     have HG9:Hid (Grows wr w9):=(uh HG8).trans hb9
     have HL9:=hide (LowAt.grow (uh HR).1 (uh HG9))
     have HV9:=hide ((uh HV8).grow hb9)
     clear k0 k1 k2 k3 kf2 z0' z1 z2 z3 HFI
     cases ok with
     | true =>
      obtain ⟨hnew,A',hA1,hA2⟩:=ht rfl
      obtain ⟨hA3,hA4⟩:=(part_ans hf0.ok hat _ A').1 hA2
      have HA3:=hide hA3
      have hg8l:g8<W8.heap.size:=Nat.lt_of_lt_of_le (lt_of_block (uh HR).1.low.heap) (uh HG8).size
      have hg9l:g9<W8.heap.size:=Nat.lt_of_lt_of_le (lt_of_block (uh HR).1.rch.heap) (uh HG8).size
      have HRW:Hid (RowAt (fun k=>k≠g8∧k≠g9) w9 (.slice sa' sn' sc') A'):=((hA1.apart hnew hg8l (uh HL9).low.heap).apart hnew hg9l (uh HL9).rch.heap).mono (fun k _ hk=>⟨hk.1.2,hk.2⟩)
      have hlowA:=(uh HR).2.2.2.1 A' hA3
      have htopA:=(uh HNX).2.1
      have HRE:Hid (ReachI d (A'.getD at_ 0 - low) rch):=(uh HR).2.2.2.2.1.lower (by omega) (by omega)
      clear ht hfl hA1 hA2 hA3 hnew hb9 hg8l hg9l
      go_wp2
      go_roundg ((A'.getD at_ 0 - low).toNat)
      case measure=>omega
      case rel=>exact ⟨A',sa',sn',sc',lx,la,lm,lc,low,qx,qa,qm,qc,rch,rfl,rfl,uh HL9,uh HRW,uh HA3,(uh HR).2.2.2.1,uh HRE,uh HLL,(uh HR).2.2.2.2.2.2.trans (uh HG9)⟩
     | false =>
      have HNL:Hid (∀ B,r.reg.Ans B→mid+1≤B.getD at_ 0):=fun B hB=>by
       rcases (show mid+1≤B.getD at_ 0∨B.getD at_ 0≤mid by omega) with h|h
       ·exact h
       ·exact absurd ((part_ans hf0.ok hat _ B).2 ⟨hB,h⟩) (hfl rfl B)
      have HP9:=hide ((uh HR).2.1.below (uh HG9))
      obtain ⟨t0',t1',-,-⟩:=(uh HV9).cells
      clear ht hfl hb9
      go_wp2_with fail
      have y0:=cell_regrown t0'
      have y1:=cell_regrown t1'
      clear t0' t1'
      refine wp_region_grown (phiL [(77,fun v w=>WhAt PT w v 1),(78,fun v w=>WhAt PT w v (mid+1))]) (gL [(77,ShapeI),(78,ShapeI)]) 85 3 (by kernel_rfl) (by rfl) (by kernel_rfl) (phi_c (fun _ _ _=>WhAt.below) (phi_c (fun _ _ _=>WhAt.below) phi_n)) ?_
      (refine lex_s fun K hK=>?_;go_simp;refine hK _ ?_;clear hK K)
      refine lex_call ShapeI 63 #[.int .i64 1] (by rfl) (by rfl) ShapeI.some (fun w=>by go_simp) (fun wq hg hf=>(Of_any PT 1 wq (fun _ _=>trivial) (by decide) (by decide)).mono (by rintro e w' ⟨v',rfl,hv,hb⟩;exact ⟨_,rfl,hb,hv.shapeI,fun t ht=>by cases ht;exact hv⟩)) ?_
      rintro _ ⟨bx,ba,bm,bc,rfl⟩
      simp only [Act.put,List.setIfInBounds_toArray,List.set_cons_succ,List.set_cons_zero]
      refine lex_call ShapeI 90 #[.agg #[.int .i64 mx,.slice ma mm mc],.agg #[.int .i64 bx,.slice ba bm bc]] (by rfl) (by rfl) ShapeI.some (fun w=>by go_simp) (fun wq hg hf=>(Add_any PT M mid 1 _ _ wq (fun _ _=>trivial) ((uh HV9).val.below hg) (hf 1 (by kernel_rfl) _ 77 rfl rfl) (by omega) (uh HLT) (lt_one (by omega))).mono (by rintro e w' ⟨v',rfl,hv,hb⟩;exact ⟨_,rfl,hb,hv.shapeI,fun t ht=>by cases ht;exact hv⟩)) ?_
      rintro _ ⟨nx,na,nm,nc,rfl⟩
      simp only [Act.put,List.setIfInBounds_toArray,List.set_cons_succ,List.set_cons_zero]
      refine lex_last ?_
      intro w10 hg10' hphi
      have hv10:WhAt PT w10 (.agg #[.int .i64 nx,.slice na nm nc]) (mid+1):=hphi 2 _ 78 (by decide) rfl rfl
      clear hphi y0 y1
      have HL10:=hide (((uh HL9).grow hg10').setLow hv10)
      have HG10:=hide hg10'
      have x0:=((uh HL9).grow hg10').low.cells.1
      have x1:=((uh HL9).grow hg10').low.cells.2.1
      have x2:=((uh HL9).grow hg10').low.cells.2.2.1
      have x3:=((uh HL9).grow hg10').low.cells.2.2.2
      have HP10:Hid (RowAt (fun k=>k≠g8∧k≠g9) ((w10.setCell ⟨g8,0,none⟩ (.int .i64 nx)).setCell ⟨g8,1,none⟩ (.slice na nm nc)) (.slice (some ⟨gp,op,none⟩) A.length pc') A):=((uh HP9).below hg10').holds (Holds.trans (P:=fun k=>k≠g8∧k≠g9) (holds_out (P:=fun k=>k≠g8∧k≠g9) (fun h=>h.1 rfl) _ _) (holds_out (P:=fun k=>k≠g8∧k≠g9) (fun h=>h.1 rfl) _ _))
      have hW8l:W.heap.size≤g8:=(uh HR).1.b8
      have hW9l:W.heap.size≤g9:=(uh HR).1.b9
      have HGW:Hid (Grows W ((w10.setCell ⟨g8,0,none⟩ (.int .i64 nx)).setCell ⟨g8,1,none⟩ (.slice na nm nc))):=(Below.setCell (p:=⟨g8,0,none⟩) (((uh HR).2.2.2.2.2.2.trans (uh HG9)).trans hg10') hW8l _).setCell (p:=⟨g8,1,none⟩) hW8l _
      clear hv10 hg10' HP9 HL9 HG10
      generalize hW11:(w10.setCell ⟨g8,0,none⟩ (.int .i64 nx)).setCell ⟨g8,1,none⟩ (.slice na nm nc)=W11 at *
      have HL9:=HL10
      have q0:=(uh HL10).rch.cells.1
      have q1:=(uh HL10).rch.cells.2.1
      go_wp2_with fail
      try rw [hW11]
      clear hW11 x0 x1 x2 x3
      have y0:=cell_regrown q0
      have y1:=cell_regrown q1
      clear q0 q1
      refine wp_region_grown (phiL [(83,fun v w=>WhAt PT w v (rch*4+3)),(81,fun v w=>WhAt PT w v (rch*4)),(82,fun v w=>WhAt PT w v 3),(80,fun v w=>WhAt PT w v 4)]) (gL [(80,ShapeI),(81,ShapeI),(82,ShapeI),(83,ShapeI)]) 85 5 (by kernel_rfl) (by rfl) (by kernel_rfl) (phi_c (fun _ _ _=>WhAt.below) (phi_c (fun _ _ _=>WhAt.below) (phi_c (fun _ _ _=>WhAt.below) (phi_c (fun _ _ _=>WhAt.below) phi_n)))) ?_
      (refine lex_s fun K hK=>?_;go_simp;refine hK _ ?_;clear hK K)
      refine lex_call ShapeI 63 #[.int .i64 4] (by rfl) (by rfl) ShapeI.some (fun w=>by go_simp) (fun wq hg hf=>(Of_any PT 4 wq (fun _ _=>trivial) (by decide) (by decide)).mono (by rintro e w' ⟨v',rfl,hv,hb⟩;exact ⟨_,rfl,hb,hv.shapeI,fun t ht=>by cases ht;exact hv⟩)) ?_
      rintro _ ⟨bx,ba,bm,bc,rfl⟩
      simp only [Act.put,List.setIfInBounds_toArray,List.set_cons_succ,List.set_cons_zero]
      refine lex_call ShapeI 93 #[.agg #[.int .i64 qx,.slice qa qm qc],.agg #[.int .i64 bx,.slice ba bm bc]] (by rfl) (by rfl) ShapeI.some (fun w=>by go_simp) (fun wq hg hf=>(Mul_any PT (3*M+5) rch 4 _ _ wq (fun _ _=>trivial) ((uh HL9).rch.val.below hg) (hf 1 (by kernel_rfl) _ 80 rfl rfl) (by omega) (uh HLR) (four_small (by omega))).mono (by rintro e w' ⟨v',rfl,hv,hb⟩;exact ⟨_,rfl,hb,hv.shapeI,fun t ht=>by cases ht;exact hv⟩)) ?_
      rintro _ ⟨cx,ca,cm,cc,rfl⟩
      simp only [Act.put,List.setIfInBounds_toArray,List.set_cons_succ,List.set_cons_zero]
      refine lex_call ShapeI 63 #[.int .i64 3] (by rfl) (by rfl) ShapeI.some (fun w=>by go_simp) (fun wq hg hf=>(Of_any PT 3 wq (fun _ _=>trivial) (by decide) (by decide)).mono (by rintro e w' ⟨v',rfl,hv,hb⟩;exact ⟨_,rfl,hb,hv.shapeI,fun t ht=>by cases ht;exact hv⟩)) ?_
      rintro _ ⟨dx,da,dm,dc,rfl⟩
      simp only [Act.put,List.setIfInBounds_toArray,List.set_cons_succ,List.set_cons_zero]
      refine lex_call ShapeI 90 #[.agg #[.int .i64 cx,.slice ca cm cc],.agg #[.int .i64 dx,.slice da dm dc]] (by rfl) (by rfl) ShapeI.some (fun w=>by go_simp) (fun wq hg hf=>(Add_any PT (3*M+6) (rch*4) 3 _ _ wq (fun _ _=>trivial) (hf 2 (by kernel_rfl) _ 81 rfl rfl) (hf 3 (by kernel_rfl) _ 82 rfl rfl) (by omega) ((Pl.Lt.mul (L:=1) (uh HLR) (by rw [Pl.lt_nat];decide)).mono (by omega)) (three_small (by omega))).mono (by rintro e w' ⟨v',rfl,hv,hb⟩;exact ⟨_,rfl,hb,hv.shapeI,fun t ht=>by cases ht;exact hv⟩)) ?_
      rintro _ ⟨sx,sa,sm,sc,rfl⟩
      simp only [Act.put,List.setIfInBounds_toArray,List.set_cons_succ,List.set_cons_zero]
      refine lex_last ?_
      intro w12 hg12' hphi
      have hv12:WhAt PT w12 (.agg #[.int .i64 sx,.slice sa sm sc]) (rch*4+3):=hphi 4 _ 83 (by decide) rfl rfl
      clear hphi y0 y1
      have HL12:=hide (((uh HL10).grow hg12').setRch hv12)
      have x0:=((uh HL10).grow hg12').rch.cells.1
      have x1:=((uh HL10).grow hg12').rch.cells.2.1
      have x2:=((uh HL10).grow hg12').rch.cells.2.2.1
      have x3:=((uh HL10).grow hg12').rch.cells.2.2.2
      have HP12:Hid (RowAt (fun k=>k≠g8∧k≠g9) ((w12.setCell ⟨g9,0,none⟩ (.int .i64 sx)).setCell ⟨g9,1,none⟩ (.slice sa sm sc)) (.slice (some ⟨gp,op,none⟩) A.length pc') A):=((uh HP10).below hg12').holds (Holds.trans (P:=fun k=>k≠g8∧k≠g9) (holds_out (P:=fun k=>k≠g8∧k≠g9) (fun h=>h.2 rfl) _ _) (holds_out (P:=fun k=>k≠g8∧k≠g9) (fun h=>h.2 rfl) _ _))
      have HGW2:Hid (Grows W ((w12.setCell ⟨g9,0,none⟩ (.int .i64 sx)).setCell ⟨g9,1,none⟩ (.slice sa sm sc))):=(Below.setCell (p:=⟨g9,0,none⟩) ((uh HGW).trans hg12') hW9l _).setCell (p:=⟨g9,1,none⟩) hW9l _
      have hn1:=(uh HNX).1
      have hn2:=(uh HNX).2.1
      have HLN:Hid (Pl.Lt M (mid+1)):=lt_between (uh HLL) (uh HLA) (by omega) (by omega)
      clear hv12 hg12' HL9 HL10 HP10 HGW
      go_wp2
      go_roundg ((A.getD at_ 0 - (mid+1)).toNat)
      case measure=>omega
      case rel=>exact ⟨A,_,_,_,nx,na,nm,nc,mid+1,sx,sa,sm,sc,rch*4+3,rfl,rfl,uh HL12,uh HP12,(uh HR).2.2.1,uh HNL,(uh HNX).2.2,uh HLN,uh HGW2⟩
    ·obtain ⟨sg,hsg⟩:∃ sg,Int.sign (mid - (low+rch))=sg:=⟨_,rfl⟩
     have d0:¬ (sg<0):=by
      rw [←hsg]
      rcases (show 0<mid - (low+rch)∨mid - (low+rch)=0 by omega) with h|h
      ·rw [Int.sign_eq_one_of_pos h];decide
      ·rw [h];decide
     have d1:decide (sg<0)=false:=decide_eq_false d0
     rw [hsg]
     obtain ⟨top,htop⟩:∃ top,low+rch=top:=⟨_,rfl⟩
     have HV5:Hid (VarAt PT w4 g10 tx ta tm tc top):=by unfold Hid;rw [←htop];exact uh HT4
     have HG5:=HG4
     have HNX:Hid (low≤top∧top<A.getD at_ 0∧ReachI d (A.getD at_ 0 - (top+1)) (rch*4+3)):=by
      have h1:=(uh HR).2.2.2.2.1.reach0
      have h2:=(uh HMID).2.1
      exact ⟨by omega,by omega,(uh HR).2.2.2.2.1.near (by omega) (by omega) (by omega)⟩
     clear hsg hmt HMID HT4 HL4 HG4 HM4 m0 m1 t0' t1' t2' t3' htop
     have HL5:=hide (LowAt.grow (uh HR).1 (uh HG5))
     obtain ⟨k0,k1,k2,k3,-⟩:=(uh HL5).box.cells
     have HB6:=hide (RegBox.new (uh HL5).box.all.rows)
     have HGA5:=hide (Grows.alloc w4 (.cells #[.int .i64 r.size,.slice za zn zc,.slice ea en ec,.slice (some ⟨gh,oh,none⟩) r.told.length fc] 78))
     have HLT:Hid (Pl.Lt M top):=lt_between (uh HLL) (uh HLA) (uh HNX).1 (Int.le_of_lt (uh HNX).2.1)
     go_wp2_with fail
     generalize hW6:w4.alloc (.cells #[.int .i64 r.size,.slice za zn zc,.slice ea en ec,.slice (some ⟨gh,oh,none⟩) r.told.length fc] 78)=W6 at *
     obtain ⟨g12,hg12⟩:∃ g12,w4.heap.size=g12:=⟨_,rfl⟩
     rw [hg12] at HB6
     rw [hg12]
     clear hW6 k0 k1 k2 k3
     have HL6:=hide ((uh HL5).grow (uh HGA5))
     have HV6:=hide ((uh HV5).grow (uh HGA5))
     have HG6:Hid (Grows wr W6):=(uh HG5).trans (uh HGA5)
     have HU6:=hide (((uh HU).mono (P':=PT) (fun _ _ _=>trivial)).below ((uh HR).2.2.2.2.2.2.trans (uh HG6)))
     have u0:=((uh HR).2.2.2.2.2.2.trans (uh HG6)).cell (uh HU0)
     obtain ⟨-,-,k2,k3,-⟩:=(uh HL6).box.cells
     obtain ⟨v0,v1,-,-⟩:=(uh HV6).cells
     have hg12w:wr.heap.size≤g12:=by rw [←hg12];exact (uh HG5).size
     clear HL5 HV5 HG5 HGA5 hg12
     have y0:=cell_regrown k2
     have y1:=cell_regrown k3
     have y2:=cell_regrown u0
     have y3:=cell_regrown v0
     have y4:=cell_regrown v1
     clear k2 k3 u0 v0 v1
     refine wp_region_grown (phiL [(64,fun v w=>RowAt PT w v ((r.told.getD at_ []).map fun x=>-x)),(66,fun v w=>RowAt PT w v (lowRow (r.told.getD at_ []) top)),(67,fun v w=>RowsAt PT w v (r.least++[lowRow (r.told.getD at_ []) top]))]) (gL [(64,ShapeS),(66,ShapeS),(67,ShapeS)]) 85 12 (by kernel_rfl) (by rfl) (by kernel_rfl) (phi_c (fun _ _ _=>RowAt.below) (phi_c (fun _ _ _=>RowAt.below) (phi_c (fun _ _ _=>RowsAt.below) phi_n))) ?_
     iterate 7 (refine lex_s fun K hK=>?_;go_simp;refine hK _ ?_;clear hK K)
     refine lex_call ShapeS 64 #[.slice ua un uc] (by rfl) (by rfl) ShapeS.some (fun w=>by go_simp) (fun wq hg hf=>(opposite_any PT (r.size+1) (r.told.getD at_ []) _ wq (fun _ _=>trivial) ((uh HU6).below hg) (uh HUL) (by omega)).mono (by rintro e w' ⟨v',rfl,hv,hb⟩;exact ⟨_,rfl,hb,hv.shapeS,fun t ht=>by cases ht;exact hv⟩)) ?_
     rintro _ ⟨oa,om,oc,rfl⟩
     simp only [Act.put,List.setIfInBounds_toArray,List.set_cons_succ,List.set_cons_zero]
     (refine lex_s fun K hK=>?_;go_simp;refine hK _ ?_;clear hK K)
     refine lex_call ShapeS 60 #[.slice oa om oc,.agg #[.int .i64 tx,.slice ta tm tc]] (by rfl) (by rfl) ShapeS.some (fun w=>by go_simp) (fun wq hg hf=>(raised_any PT M (r.size+1) ((r.told.getD at_ []).map fun x=>-x) top _ _ wq (fun _ _=>trivial) (hf 7 (by kernel_rfl) _ 64 rfl rfl) ((uh HV6).val.below hg) (by rw [List.length_map];exact uh HUL) (by omega) (by omega) (neg_lt (fun k=>(hf0.lt.told at_ k).mono hHM)) (uh HLT) (by omega)).mono (by rintro e w' ⟨v',rfl,hv,hb⟩;exact ⟨_,rfl,hb,hv.shapeS,fun t ht=>by cases ht;exact hv⟩)) ?_
     rintro _ ⟨va,vm,vc,rfl⟩
     simp only [Act.put,List.setIfInBounds_toArray,List.set_cons_succ,List.set_cons_zero]
     refine lex_call ShapeS 62 #[.slice ea en ec,.slice va vm vc] (by rfl) (by rfl) ShapeS.some (fun w=>by go_simp) (fun wq hg hf=>(with_any PT r.least (lowRow (r.told.getD at_ []) top) _ _ wq (fun _ _=>trivial) ((uh HL6).box.all.rows.least.below hg) (hf 9 (by kernel_rfl) _ 66 rfl rfl) (by have:=hf0.few;omega)).mono (by rintro e w' ⟨v',rfl,hv,hb⟩;exact ⟨_,rfl,hb,hv.shapeS,fun t ht=>by cases ht;exact hv⟩)) ?_
     rintro _ ⟨ha,hm,hc,rfl⟩
     simp only [Act.put,List.setIfInBounds_toArray,List.set_cons_succ,List.set_cons_zero]
     (refine lex_s fun K hK=>?_;go_simp;refine hK _ ?_;clear hK K)
     refine lex_last ?_
     intro w7 hg7 hphi
     have hv7:RowsAt PT w7 (.slice ha hm hc) (r.least++[lowRow (r.told.getD at_ []) top]):=hphi 10 _ 67 (by decide) rfl rfl
     clear hphi y0 y1 y2 y3 y4
     have HB7:=hide ((uh HB6).grow hg7)
     have k0:=(uh HB7).cells.1
     have k1:=(uh HB7).cells.2.1
     have k2:=(uh HB7).cells.2.2.1
     have k3:=(uh HB7).cells.2.2.2.1
     have kf2:=(uh HB7).cells.2.2.2.2 2
     have HS8:=hide (part_store (uh HB7) hv7)
     have HG8:Hid (Grows wr (w7.setCell ⟨g12,2,none⟩ (.slice ha hm hc))):=Below.setCell (p:=⟨g12,2,none⟩) ((uh HG6).trans hg7) hg12w _
     have HV8:Hid (VarAt PT (w7.setCell ⟨g12,2,none⟩ (.slice ha hm hc)) g10 tx ta tm tc top):=by
      have h1:=(uh HV6).grow hg7
      have hne:g10≠g12:=fun e=>by
       have h2:=h1.heap
       have h3:=(uh HB7).own
       rw [e,h3] at h2;simp at h2
      exact ⟨(Below.heap_setCell _ _ _ _ hne).trans h1.heap,h1.val.keep (KeepT.setCell (uh HB7).own (by decide) _ _)⟩
     generalize hW8:w7.setCell ⟨g12,2,none⟩ (.slice ha hm hc)=W8 at *
     have z0:=(uh HS8).cells.1
     have z1:=(uh HS8).cells.2.1
     have z2:=(uh HS8).cells.2.2.1
     have z3:=(uh HS8).cells.2.2.2.1
     have HFI:=hide (find_any (uh HROOM) (r.part (lowRow (r.told.getD at_ []) top)) hN ⟨part_ok hf0.ok hat _ (by have:=hf0.few;omega),(part_lt (hf0.lt.mono hHM) at_ (uh HLT)).mono hMG,part_tied hf0.tied _,by show (r.least++[_]).length≤800;rw [List.length_append];have:=hf0.few;simp;omega⟩ (.agg #[.int .i64 r.size,.slice za zn zc,.slice ha hm hc,.slice (some ⟨gh,oh,none⟩) r.told.length fc]) W8 (uh HS8).at)
     have z0':W8.cell? ⟨g12,0,none⟩=some (.int .i64 r.size):=z0
     clear hv7 hg7 HB7 HB6 HG6 HV6 HL6 HU6 z0
     go_wp2_with fail
     try rw [hW8]
     clear hW8
     refine (uh HFI).mono ?_
     rintro e w9 ⟨vs,ok,rfl,⟨sa',sn',sc',rfl⟩,hb9,ht,hfl⟩
     have HG9:Hid (Grows wr w9):=(uh HG8).trans hb9
     have HL9:=hide (LowAt.grow (uh HR).1 (uh HG9))
     have HV9:=hide ((uh HV8).grow hb9)
     clear k0 k1 k2 k3 kf2 z0' z1 z2 z3 HFI
     cases ok with
     | true =>
      obtain ⟨hnew,A',hA1,hA2⟩:=ht rfl
      obtain ⟨hA3,hA4⟩:=(part_ans hf0.ok hat _ A').1 hA2
      have HA3:=hide hA3
      have hg8l:g8<W8.heap.size:=Nat.lt_of_lt_of_le (lt_of_block (uh HR).1.low.heap) (uh HG8).size
      have hg9l:g9<W8.heap.size:=Nat.lt_of_lt_of_le (lt_of_block (uh HR).1.rch.heap) (uh HG8).size
      have HRW:Hid (RowAt (fun k=>k≠g8∧k≠g9) w9 (.slice sa' sn' sc') A'):=((hA1.apart hnew hg8l (uh HL9).low.heap).apart hnew hg9l (uh HL9).rch.heap).mono (fun k _ hk=>⟨hk.1.2,hk.2⟩)
      have hlowA:=(uh HR).2.2.2.1 A' hA3
      have htopA:=(uh HNX).2.1
      have HRE:Hid (ReachI d (A'.getD at_ 0 - low) rch):=(uh HR).2.2.2.2.1.lower (by omega) (by omega)
      clear ht hfl hA1 hA2 hA3 hnew hb9 hg8l hg9l
      go_wp2
      go_roundg ((A'.getD at_ 0 - low).toNat)
      case measure=>omega
      case rel=>exact ⟨A',sa',sn',sc',lx,la,lm,lc,low,qx,qa,qm,qc,rch,rfl,rfl,uh HL9,uh HRW,uh HA3,(uh HR).2.2.2.1,uh HRE,uh HLL,(uh HR).2.2.2.2.2.2.trans (uh HG9)⟩
     | false =>
      have HNL:Hid (∀ B,r.reg.Ans B→top+1≤B.getD at_ 0):=fun B hB=>by
       rcases (show top+1≤B.getD at_ 0∨B.getD at_ 0≤top by omega) with h|h
       ·exact h
       ·exact absurd ((part_ans hf0.ok hat _ B).2 ⟨hB,h⟩) (hfl rfl B)
      have HP9:=hide ((uh HR).2.1.below (uh HG9))
      obtain ⟨t0',t1',-,-⟩:=(uh HV9).cells
      clear ht hfl hb9
      go_wp2_with fail
      have y0:=cell_regrown t0'
      have y1:=cell_regrown t1'
      clear t0' t1'
      refine wp_region_grown (phiL [(77,fun v w=>WhAt PT w v 1),(78,fun v w=>WhAt PT w v (top+1))]) (gL [(77,ShapeI),(78,ShapeI)]) 85 3 (by kernel_rfl) (by rfl) (by kernel_rfl) (phi_c (fun _ _ _=>WhAt.below) (phi_c (fun _ _ _=>WhAt.below) phi_n)) ?_
      (refine lex_s fun K hK=>?_;go_simp;refine hK _ ?_;clear hK K)
      refine lex_call ShapeI 63 #[.int .i64 1] (by rfl) (by rfl) ShapeI.some (fun w=>by go_simp) (fun wq hg hf=>(Of_any PT 1 wq (fun _ _=>trivial) (by decide) (by decide)).mono (by rintro e w' ⟨v',rfl,hv,hb⟩;exact ⟨_,rfl,hb,hv.shapeI,fun t ht=>by cases ht;exact hv⟩)) ?_
      rintro _ ⟨bx,ba,bm,bc,rfl⟩
      simp only [Act.put,List.setIfInBounds_toArray,List.set_cons_succ,List.set_cons_zero]
      refine lex_call ShapeI 90 #[.agg #[.int .i64 tx,.slice ta tm tc],.agg #[.int .i64 bx,.slice ba bm bc]] (by rfl) (by rfl) ShapeI.some (fun w=>by go_simp) (fun wq hg hf=>(Add_any PT M top 1 _ _ wq (fun _ _=>trivial) ((uh HV9).val.below hg) (hf 1 (by kernel_rfl) _ 77 rfl rfl) (by omega) (uh HLT) (lt_one (by omega))).mono (by rintro e w' ⟨v',rfl,hv,hb⟩;exact ⟨_,rfl,hb,hv.shapeI,fun t ht=>by cases ht;exact hv⟩)) ?_
      rintro _ ⟨nx,na,nm,nc,rfl⟩
      simp only [Act.put,List.setIfInBounds_toArray,List.set_cons_succ,List.set_cons_zero]
      refine lex_last ?_
      intro w10 hg10' hphi
      have hv10:WhAt PT w10 (.agg #[.int .i64 nx,.slice na nm nc]) (top+1):=hphi 2 _ 78 (by decide) rfl rfl
      clear hphi y0 y1
      have HL10:=hide (((uh HL9).grow hg10').setLow hv10)
      have HG10:=hide hg10'
      have x0:=((uh HL9).grow hg10').low.cells.1
      have x1:=((uh HL9).grow hg10').low.cells.2.1
      have x2:=((uh HL9).grow hg10').low.cells.2.2.1
      have x3:=((uh HL9).grow hg10').low.cells.2.2.2
      have HP10:Hid (RowAt (fun k=>k≠g8∧k≠g9) ((w10.setCell ⟨g8,0,none⟩ (.int .i64 nx)).setCell ⟨g8,1,none⟩ (.slice na nm nc)) (.slice (some ⟨gp,op,none⟩) A.length pc') A):=((uh HP9).below hg10').holds (Holds.trans (P:=fun k=>k≠g8∧k≠g9) (holds_out (P:=fun k=>k≠g8∧k≠g9) (fun h=>h.1 rfl) _ _) (holds_out (P:=fun k=>k≠g8∧k≠g9) (fun h=>h.1 rfl) _ _))
      have hW8l:W.heap.size≤g8:=(uh HR).1.b8
      have hW9l:W.heap.size≤g9:=(uh HR).1.b9
      have HGW:Hid (Grows W ((w10.setCell ⟨g8,0,none⟩ (.int .i64 nx)).setCell ⟨g8,1,none⟩ (.slice na nm nc))):=(Below.setCell (p:=⟨g8,0,none⟩) (((uh HR).2.2.2.2.2.2.trans (uh HG9)).trans hg10') hW8l _).setCell (p:=⟨g8,1,none⟩) hW8l _
      clear hv10 hg10' HP9 HL9 HG10
      generalize hW11:(w10.setCell ⟨g8,0,none⟩ (.int .i64 nx)).setCell ⟨g8,1,none⟩ (.slice na nm nc)=W11 at *
      have HL9:=HL10
      have q0:=(uh HL10).rch.cells.1
      have q1:=(uh HL10).rch.cells.2.1
      go_wp2_with fail
      try rw [hW11]
      clear hW11 x0 x1 x2 x3
      have y0:=cell_regrown q0
      have y1:=cell_regrown q1
      clear q0 q1
      refine wp_region_grown (phiL [(83,fun v w=>WhAt PT w v (rch*4+3)),(81,fun v w=>WhAt PT w v (rch*4)),(82,fun v w=>WhAt PT w v 3),(80,fun v w=>WhAt PT w v 4)]) (gL [(80,ShapeI),(81,ShapeI),(82,ShapeI),(83,ShapeI)]) 85 5 (by kernel_rfl) (by rfl) (by kernel_rfl) (phi_c (fun _ _ _=>WhAt.below) (phi_c (fun _ _ _=>WhAt.below) (phi_c (fun _ _ _=>WhAt.below) (phi_c (fun _ _ _=>WhAt.below) phi_n)))) ?_
      (refine lex_s fun K hK=>?_;go_simp;refine hK _ ?_;clear hK K)
      refine lex_call ShapeI 63 #[.int .i64 4] (by rfl) (by rfl) ShapeI.some (fun w=>by go_simp) (fun wq hg hf=>(Of_any PT 4 wq (fun _ _=>trivial) (by decide) (by decide)).mono (by rintro e w' ⟨v',rfl,hv,hb⟩;exact ⟨_,rfl,hb,hv.shapeI,fun t ht=>by cases ht;exact hv⟩)) ?_
      rintro _ ⟨bx,ba,bm,bc,rfl⟩
      simp only [Act.put,List.setIfInBounds_toArray,List.set_cons_succ,List.set_cons_zero]
      refine lex_call ShapeI 93 #[.agg #[.int .i64 qx,.slice qa qm qc],.agg #[.int .i64 bx,.slice ba bm bc]] (by rfl) (by rfl) ShapeI.some (fun w=>by go_simp) (fun wq hg hf=>(Mul_any PT (3*M+5) rch 4 _ _ wq (fun _ _=>trivial) ((uh HL9).rch.val.below hg) (hf 1 (by kernel_rfl) _ 80 rfl rfl) (by omega) (uh HLR) (four_small (by omega))).mono (by rintro e w' ⟨v',rfl,hv,hb⟩;exact ⟨_,rfl,hb,hv.shapeI,fun t ht=>by cases ht;exact hv⟩)) ?_
      rintro _ ⟨cx,ca,cm,cc,rfl⟩
      simp only [Act.put,List.setIfInBounds_toArray,List.set_cons_succ,List.set_cons_zero]
      refine lex_call ShapeI 63 #[.int .i64 3] (by rfl) (by rfl) ShapeI.some (fun w=>by go_simp) (fun wq hg hf=>(Of_any PT 3 wq (fun _ _=>trivial) (by decide) (by decide)).mono (by rintro e w' ⟨v',rfl,hv,hb⟩;exact ⟨_,rfl,hb,hv.shapeI,fun t ht=>by cases ht;exact hv⟩)) ?_
      rintro _ ⟨dx,da,dm,dc,rfl⟩
      simp only [Act.put,List.setIfInBounds_toArray,List.set_cons_succ,List.set_cons_zero]
      refine lex_call ShapeI 90 #[.agg #[.int .i64 cx,.slice ca cm cc],.agg #[.int .i64 dx,.slice da dm dc]] (by rfl) (by rfl) ShapeI.some (fun w=>by go_simp) (fun wq hg hf=>(Add_any PT (3*M+6) (rch*4) 3 _ _ wq (fun _ _=>trivial) (hf 2 (by kernel_rfl) _ 81 rfl rfl) (hf 3 (by kernel_rfl) _ 82 rfl rfl) (by omega) ((Pl.Lt.mul (L:=1) (uh HLR) (by rw [Pl.lt_nat];decide)).mono (by omega)) (three_small (by omega))).mono (by rintro e w' ⟨v',rfl,hv,hb⟩;exact ⟨_,rfl,hb,hv.shapeI,fun t ht=>by cases ht;exact hv⟩)) ?_
      rintro _ ⟨sx,sa,sm,sc,rfl⟩
      simp only [Act.put,List.setIfInBounds_toArray,List.set_cons_succ,List.set_cons_zero]
      refine lex_last ?_
      intro w12 hg12' hphi
      have hv12:WhAt PT w12 (.agg #[.int .i64 sx,.slice sa sm sc]) (rch*4+3):=hphi 4 _ 83 (by decide) rfl rfl
      clear hphi y0 y1
      have HL12:=hide (((uh HL10).grow hg12').setRch hv12)
      have x0:=((uh HL10).grow hg12').rch.cells.1
      have x1:=((uh HL10).grow hg12').rch.cells.2.1
      have x2:=((uh HL10).grow hg12').rch.cells.2.2.1
      have x3:=((uh HL10).grow hg12').rch.cells.2.2.2
      have HP12:Hid (RowAt (fun k=>k≠g8∧k≠g9) ((w12.setCell ⟨g9,0,none⟩ (.int .i64 sx)).setCell ⟨g9,1,none⟩ (.slice sa sm sc)) (.slice (some ⟨gp,op,none⟩) A.length pc') A):=((uh HP10).below hg12').holds (Holds.trans (P:=fun k=>k≠g8∧k≠g9) (holds_out (P:=fun k=>k≠g8∧k≠g9) (fun h=>h.2 rfl) _ _) (holds_out (P:=fun k=>k≠g8∧k≠g9) (fun h=>h.2 rfl) _ _))
      have HGW2:Hid (Grows W ((w12.setCell ⟨g9,0,none⟩ (.int .i64 sx)).setCell ⟨g9,1,none⟩ (.slice sa sm sc))):=(Below.setCell (p:=⟨g9,0,none⟩) ((uh HGW).trans hg12') hW9l _).setCell (p:=⟨g9,1,none⟩) hW9l _
      have hn1:=(uh HNX).1
      have hn2:=(uh HNX).2.1
      have HLN:Hid (Pl.Lt M (top+1)):=lt_between (uh HLL) (uh HLA) (by omega) (by omega)
      clear hv12 hg12' HL9 HL10 HP10 HGW
      go_wp2
      go_roundg ((A.getD at_ 0 - (top+1)).toNat)
      case measure=>omega
      case rel=>exact ⟨A,_,_,_,nx,na,nm,nc,top+1,sx,sa,sm,sc,rch*4+3,rfl,rfl,uh HL12,uh HP12,(uh HR).2.2.1,uh HNL,(uh HNX).2.2,uh HLN,uh HGW2⟩
   ·obtain ⟨sg,hsg⟩:∃ sg,Int.sign (low - A.getD at_ 0)=sg:=⟨_,rfl⟩
    have d0:¬ (sg<0):=by
     rw [←hsg]
     rcases (show 0<low - A.getD at_ 0∨low - A.getD at_ 0=0 by omega) with h|h
     ·rw [Int.sign_eq_one_of_pos h];decide
     ·rw [h];decide
    have d1:decide (sg<0)=false:=decide_eq_false d0
    rw [hsg]
    have HEND:Hid (LowPost r at_ w (.returned (.slice (some ⟨gp,op,none⟩) A.length pc')) w1):=⟨_,A,rfl,⟨_,_,_,rfl⟩,((uh HR).2.1.mono (fun _ _ _=>trivial)).below (uh HG1),(uh HR).2.2.1,fun B hB=>by have:=(uh HR).2.2.2.1 B hB;omega,(uh HL1).grows⟩
    clear hsg hc
    go_wp2
    exact bodyPost_ret (v:=.slice (some ⟨gp,op,none⟩) A.length pc') (by simp [results,Try.results59,go_sem]) rfl (uh HEND)
end Go.Proofs.Ytfaljekgpnbmiaa
