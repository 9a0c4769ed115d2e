/- Joined: XLow4 XOf1 XOf2. -/
import Derived.Test.YtfaljekgpnbmiaaJ40
set_option linter.unusedVariables false
set_option linter.unusedSimpArgs false
set_option maxRecDepth 100000
namespace Go.Proofs.Ytfaljekgpnbmiaa
open Go.RowKit Go.Sort
structure Room2 (N:Nat) (G Hs:Nat→Nat):Prop where
 room:Room N G
 one:∀ s,s≤N→1≤Hs s
 drop:∀ s,s<N→15*(Hs (s+1)+1)+6≤Hs s
 fit:∀ s,s≤N→(s+1)*Hs s+2≤G s
 low:∀ s,s≤N→3*((s+1)*Hs s+1)+20≤1500000000000
 settle:∀ s,s≤N→20*limbs (Hs s+1) s+10≤1500000000000
theorem limbs_le {L L':Nat} (h:L≤L'):∀ k,limbs L k≤limbs L' k
 | 0=>h
 | k+1=>by show 15*limbs L k+6≤15*limbs L' k+6;have:=limbs_le h k;omega
theorem Room2.limbs {N:Nat} {G Hs:Nat→Nat} (h:Room2 N G Hs) {s:Nat} (hs:s≤N):∀ k,k≤s→limbs (Hs s) k≤Hs (s - k)
 | 0,_=>Nat.le_refl _
 | k+1,hk=>by
  have h1:=Room2.limbs h hs k (by omega)
  have h2:=h.drop (s - (k+1)) (by omega)
  rw [show s - (k+1)+1=s - k by omega] at h2
  show 15*Go.Proofs.Ytfaljekgpnbmiaa.limbs (Hs s) k+6≤_
  omega
theorem Room2.le {N:Nat} {G Hs:Nat→Nat} (h:Room2 N G Hs) {s:Nat} (hs:s≤N):Hs s≤G s:=by
 have h1:=h.fit s hs
 rw [Nat.add_mul,Nat.one_mul] at h1
 omega
theorem bound_settled {N:Nat} {G Hs:Nat→Nat} (h:Room2 N G Hs) {rc r1:RegL} {row:List Int} (hN:rc.size≤N) (hz:rc.zero=[]) (hlt:RegLt (Hs rc.size) rc) (hrow:∀ k,Pl.Lt (Hs rc.size+1) (row.getD k 0)) (hN9:N≤9) (hZ:ZRounds (rc.bound row) (rc.bound row).zero.length r1):RegLt (Hs r1.size) r1.whole:=by
 have e1:(rc.bound row).zero.length=1:=by show (rc.zero++[row]).length=1;rw [hz];rfl
 rw [e1] at hZ
 obtain ⟨T,h0,h1,h2⟩:=hZ
 have hs:=h2 0 (by omega)
 rw [h0,show 0+1=1 from rfl,h1] at hs
 have el:(rc.bound row).less=rc:=by
  unfold RegL.less RegL.bound
  rw [hz]
  cases rc
  simp at hz ⊢
  first | exact hz | exact hz.symm
 have elast:(rc.bound row).lastZero=row:=by
  unfold RegL.lastZero RegL.bound
  rw [hz];rfl
 obtain ⟨_,hw⟩:=hs
 rw [el,elast] at hw
 refine RegLt.whole ?_
 rcases hw.lt2 (by omega) (hlt.mono (Nat.le_succ _)) hrow with e|⟨e,hl⟩
 ·rw [e];exact hlt
 ·refine hl.mono ?_
  have:=h.drop r1.size (by omega)
  rw [e] at this
  exact this
theorem bound_store {g:Nat} {w:World} {r:RegL} {za ea fa ha:Option Addr} {zn zc en ec fn fc hm hc:Nat} {row:List Int} (h:RegBox PT g w r za zn zc ea en ec fa fn fc) (hv:RowsAt PT w (.slice ha hm hc) (r.zero++[row])):RegBox PT g (w.setCell ⟨g,1,none⟩ (.slice ha hm hc)) (r.bound row) ha hm hc ea en ec fa fn fc:=by
 have hh:Holds PT w (w.setCell ⟨g,1,none⟩ (.slice ha hm hc)):=holds_set h.own (by decide) (fun e=>absurd e (by decide)) _ _
 have e:=heap_setCell_same w g 1 _ _ (.slice ha hm hc) h.own
 exact ⟨e,hv.holds hh,h.rows.least.holds hh,h.rows.told.holds hh⟩
def LeastPost (r:RegL) (w:World) (e:Ending) (w':World):Prop:=∃ (vs:Value) (ok:Bool),e=.returned (.tuple #[vs,.bool ok])∧ShapeS vs∧Below w.heap.size w w'∧(ok=true→∃ A,RowAt PT w' vs A∧r.reg.Ans A∧∀ B,r.reg.Ans B→¬ lexLt B A)∧(ok=false→∀ A,¬ r.reg.Ans A)
structure LeastI (S:List Int→Prop) (Hs:Nat→Nat) (N T i:Nat) (rc:RegL) (A:List Int):Prop where
 fit:LowFit (Hs rc.size) rc
 size:rc.size≤N
 low:LowTo S i A
 ans:∀ B,rc.reg.Ans B↔S B∧∀ j,j<i→B.getD j 0=A.getD j 0
section
section
attribute [local go_sem] valUpon
set_option maxHeartbeats 2000000 in
theorem leastPoint_any {N:Nat} {G Hs:Nat→Nat} (hroom:Room2 N G Hs) (r:RegL) (vr:Value) (w:World) (h:RegAt PT w vr r) (hN:r.size≤N) (hok:RegOk r) (hlt:RegLt (Hs r.size) r) (htied:r.reg.Tied) (hfew:r.least.length≤700) (hbd:∀ B,r.reg.Ans B→∀ i,Pl.Lt 1 (B.getD i 0)) :
  Calls Try.prog 42 #[vr] w (LeastPost r w):=by
 obtain ⟨vz,vl,vt,rfl,h1,h2,h3⟩:=h
 obtain ⟨za,zn,zc,rfl⟩:=h1.shapeS
 obtain ⟨ea,en,ec,rfl⟩:=h2.shapeS
 obtain ⟨fa,fn,fc,rfl⟩:=h3.shapeS
 have hN9:=hroom.room.size
 obtain ⟨W,hW⟩:∃ W,w.alloc (.cells #[.int .i64 r.size,.slice za zn zc,.slice ea en ec,.slice fa fn fc] 78)=W:=⟨_,rfl⟩
 have HB:Hid (RegBox PT w.heap.size W r za zn zc ea en ec fa fn fc):=by unfold Hid;rw [←hW];exact RegBox.new ⟨h1,h2,h3⟩
 have HG:Hid (Grows w W):=by unfold Hid;rw [←hW];exact Grows.alloc _ _
 obtain ⟨k0,k1,k2,k3,kf⟩:=(uh HB).cells
 have HSE:=hide (settled_any PT (Hs r.size) r (.agg #[.int .i64 r.size,.slice za zn zc,.slice ea en ec,.slice fa fn fc]) W (fun _ _=>trivial) (uh HB).at hok (by omega) hlt (by have h1:=hroom.settle r.size hN;have h2:=limbs_le (show Hs r.size≤Hs r.size+1 by omega) r.size;omega))
 have HROOM:=hide hroom
 have HOK:=hide hok
 have HLT:=hide hlt
 have HTIED:=hide htied
 have HBD:=hide hbd
 clear h1 h2 h3 hroom hok hlt htied hbd
 go_enter Try.func42,Try.ntmps42
 go_wp2_with fail
 try rw [hW]
 clear hW
 refine (uh HSE).mono ?_
 rintro e w1 ⟨v1,ok,rfl,⟨n',a1,m1,c1,a2,m2,c2,a3,m3,c3,rfl⟩,hb1,ht,hfl⟩
 have HG1:Hid (Grows w w1):=(uh HG).trans hb1
 have HOWN:=hide (Below.same hb1 _ _ (uh HB).own)
 obtain ⟨j0,j1,j2,j3,jf⟩:=((uh HB).grow hb1).cells
 have f0:=jf 0
 have f1:=jf 1
 have f2:=jf 2
 have f3:=jf 3
 clear hb1 HSE HB HG k0 k1 k2 k3 kf jf
 cases ok with
 | false =>
  have HGE:=hide (reg_store (P:=PT) (uh HG1) (Nat.le_refl _) (uh HOWN) n' a1 m1 c1 a2 m2 c2 a3 m3 c3).1
  have HNO:=hide (hfl rfl)
  clear ht hfl
  go_wp2
  exact bodyPost_ret (v:=.tuple #[.slice none 0 0,.bool false]) (by simp [results,Try.results42,go_sem]) rfl ⟨_,false,rfl,⟨_,_,_,rfl⟩,uh HGE,fun h=>(by cases h),fun _=>uh HNO⟩
 | true =>
  obtain ⟨r1,⟨vz,vl,vt,e2,g1,g2,g3⟩,hZ,hc⟩:=ht rfl
  have HSET:=hide (settled_all (uh HOK) (uh HLT) (by omega) (uh HTIED) hZ hc)
  obtain ⟨r2,hr2⟩:∃ r2,r1.whole=r2:=⟨_,rfl⟩
  rw [hr2] at e2 g1 g2 g3 HSET
  have e3:=congrArg (fun v=>match v with | .agg l=>l.toList | _=>[]) e2
  simp only [List.cons.injEq,and_true,Value.int.injEq,true_and] at e3
  obtain ⟨rfl,rfl,rfl,rfl⟩:=e3
  clear hr2 hZ hc ht hfl e2
  have HST:=hide (RegBox.store (uh HG1) (Nat.le_refl _) (uh HOWN) rfl ⟨g1,g2,g3⟩)
  generalize hW4:(((w1.setCell ⟨w.heap.size,0,none⟩ (.int .i64 r2.size)).setCell ⟨w.heap.size,1,none⟩ (.slice a1 m1 c1)).setCell ⟨w.heap.size,2,none⟩ (.slice a2 m2 c2)).setCell ⟨w.heap.size,3,none⟩ (.slice a3 m3 c3)=W4 at *
  have HB4:=hide (uh HST).1
  have HG4:=hide (uh HST).2.1
  clear g1 g2 g3 HST HG1
  obtain ⟨k0,k1,k2,k3,kf⟩:=(uh HB4).cells
  have hsz:r2.size≤r.size:=(uh HSET).size
  have HLT2:Hid (RegLt (Hs r2.size) r2):=(uh HSET).lt.mono (by
   have:=(uh HROOM).limbs (s:=r.size) hN (r.size - r2.size) (by omega)
   rwa [show r.size - (r.size - r2.size)=r2.size by omega] at this)
  have HFIT:Hid (LowFit (Hs r2.size) r2):=⟨(uh HSET).zero,(uh HSET).tied,(uh HSET).ok,uh HLT2,(uh HROOM).one _ (by omega),by omega,Nat.le_trans (uh HSET).few hfew,(uh HSET).some⟩
  have HFI:=hide (find_any (uh HROOM).room r2 (by omega) ⟨(uh HSET).ok,(uh HLT2).mono ((uh HROOM).le (by omega)),(uh HSET).tied,by have:=(uh HFIT).few;omega⟩ (.agg #[.int .i64 r2.size,.slice a1 m1 c1,.slice a2 m2 c2,.slice a3 m3 c3]) W4 (uh HB4).at)
  go_wp2_with fail
  try rw [hW4]
  clear hW4
  refine (uh HFI).mono ?_
  rintro e w5 ⟨vs,ok,rfl,⟨sa,sn,sc,rfl⟩,hb5,ht,hfl⟩
  have HB5:=hide ((uh HB4).grow hb5)
  have HG5:Hid (Grows w w5):=(uh HG4).trans hb5
  have HTL:=hide (uh HSET).told
  have HI0:Hid (ok=true→∃ A,RowAt PT w5 (.slice sa sn sc) A∧LeastI r.reg.Ans Hs N r.told.length 0 r2 A):=fun ho=>by
   obtain ⟨_,A,hA1,hA2⟩:=ht ho
   exact ⟨A,hA1,uh HFIT,by omega,⟨((uh HSET).ans A).1 hA2,fun B _ i hi=>absurd hi (Nat.not_lt_zero i)⟩,fun B=>⟨fun hB=>⟨((uh HSET).ans B).1 hB,fun j hj=>absurd hj (Nat.not_lt_zero j)⟩,fun hB=>((uh HSET).ans B).2 hB.1⟩⟩
  have HN0:Hid (ok=false→∀ A,¬ r.reg.Ans A):=fun ho A hA=>hfl ho A (((uh HSET).ans A).2 hA)
  clear ht hfl hb5 HFI k0 k1 k2 k3 kf j0 j1 j2 j3 f0 f1 f2 f3 HSET HLT2 HFIT HB4 HG4
  obtain ⟨T,hT⟩:∃ T,r.told.length=T:=⟨_,rfl⟩
  rw [hT] at HTL HI0
  have HTR:=hide hT
  clear hT
  go_wp2_with fail
  go_loopg [4,5,6] T (fun k okv pv iv wr=>∃ (i:Nat) (rc:RegL) (ok:Bool) (pa:Option Addr) (pn pc:Nat) (za:Option Addr) (zn zc:Nat) (ea:Option Addr) (en ec:Nat) (fa:Option Addr) (fn fc:Nat),okv=.bool ok∧pv=.slice pa pn pc∧iv=.int .i64 i∧i+k=T∧Hid (RegBox PT w.heap.size wr rc za zn zc ea en ec fa fn fc∧Grows w wr∧rc.told.length=T∧(ok=true→∃ A,RowAt PT wr (.slice pa pn pc) A∧LeastI r.reg.Ans Hs N T i rc A)∧(ok=false→∀ A,¬ r.reg.Ans A)))
  case atStart=>exact ⟨0,r2,ok,sa,sn,sc,_,_,_,_,_,_,_,_,_,rfl,rfl,rfl,by omega,uh HB5,uh HG5,uh HTL,uh HI0,uh HN0⟩
  case round =>
   clear HB5 HG5 HTL HI0 HN0
   obtain ⟨i,rc,ok,pa0,pn0,pc0,za,zn,zc,ea,en,ec,fa,fn,fc,rfl,rfl,rfl,hik,HR⟩:=hrel
   obtain ⟨k0,k1,k2,k3,kf⟩:=(uh HR).1.cells
   have hfn:fn=T:=by rw [←(uh HR).2.2.1];exact (uh HR).1.rows.told.len
   have HFN:=hide hfn
   by_cases hend:i<T∧ok=true
   ·obtain ⟨hiT,rfl⟩:=hend
    have hif:(i:Int)<(fn:Int):=by omega
    obtain ⟨A,hA,hI⟩:=(uh HR).2.2.2.1 rfl
    have HLF:=hide hI.fit
    have HI:=hide hI
    have hsN:=hI.size
    have hiTl:i<rc.told.length:=by rw [(uh HR).2.2.1];exact hiT
    have HLO:=hide (lowered_any (uh HROOM).room rc (Hs rc.size) ((rc.size+1)*Hs rc.size+1) i A (.agg #[.int .i64 rc.size,.slice za zn zc,.slice ea en ec,.slice fa fn fc]) (.slice pa0 pn0 pc0) wr (uh HR).1.at hA ((hI.ans A).2 ⟨hI.low.mem,fun _ _=>rfl⟩) hI.fit hsN hiTl (Nat.le_refl _) ((uh HROOM).fit _ hsN) (fun B hB=>(uh HBD B ((hI.ans B).1 hB).1 i).mono (by omega)) ((uh HROOM).low _ hsN))
    clear hA hI hfn
    go_wp2_with fail
    refine (uh HLO).mono ?_
    rintro e w2 ⟨v2,A',rfl,⟨qa,qn,qc,rfl⟩,hA1,hA2,hA3,hb2⟩
    have HB2:=hide ((uh HR).1.grow hb2)
    have HG2:Hid (Grows w w2):=(uh HR).2.1.trans hb2
    have hAl:i<A'.length:=by rw [ans_len hA2];exact hiTl
    obtain ⟨gp,op,cp,px,pa,pm,pc,ep,p0,p1,hpv⟩:=row_cell hA1 (i:=i) hAl
    cases ep
    have HPV:=hide hpv
    have HA1:=hide hA1
    have HA2:=hide hA2
    have HA3:=hide hA3
    have HSA:=hide (((uh HI).ans A').1 hA2).1
    obtain ⟨gu,ou,cu,vu,eu,u0,hu,hum⟩:=rows_cell (uh HB2).rows.told (i:=i) hiTl
    have hum':=hum
    cases eu
    obtain ⟨ua,un,uc,rfl⟩:=hu.shapeS
    have HU2:=hide hu
    have HUL:Hid ((rc.told.getD i []).length=rc.size+1):=(uh HLF).ok.toldL _ hum
    have hrs9:rc.size≤9:=(uh HLF).size
    have hH1:=(uh HROOM).one rc.size hsN
    have hHlow:=(uh HROOM).low rc.size hsN
    have hHle:Hs rc.size≤(rc.size+1)*Hs rc.size:=by rw [Nat.add_mul,Nat.one_mul];omega
    have HLN:Hid (Pl.Lt (Hs rc.size) (-A'.getD i 0)):=(Pl.Lt.mono (uh HBD A' (uh HSA) i) hH1).neg
    have hiA:(i:Int)<(A'.length:Int):=by omega
    have hiU:(i:Int)<(rc.told.length:Int):=by omega
    clear k0 k1 k2 k3 kf hb2 hA1 hA2 hA3 hpv hu HLO hum hum'
    obtain ⟨k0,k1,k2,k3,kf⟩:=(uh HB2).cells
    have hW2n:=(uh HG2).size
    go_wp2_with fail
    have y0:=cell_regrown k3
    have y1:=cell_regrown u0
    have y2:=cell_regrown p0
    have y3:=cell_regrown p1
    clear k3 u0 p0 p1
    refine wp_region_grown (phiL [(44,fun v w=>RowAt PT w v (raisedP (rc.told.getD i []) (-A'.getD i 0))),(43,fun v w=>WhAt PT w v (-A'.getD i 0))]) (gL [(43,ShapeI),(44,ShapeS)]) 57 11 (by kernel_rfl) (by rfl) (by kernel_rfl) (phi_c (fun _ _ _=>RowAt.below) (phi_c (fun _ _ _=>WhAt.below) phi_n)) ?_
    iterate 9 (refine lex_s fun K hK=>?_;go_simp;refine hK _ ?_;clear hK K)
    refine lex_call ShapeI 61 #[.agg #[.int .i64 px,.slice pa pm pc]] (by rfl) (by rfl) ShapeI.some (fun w=>by go_simp) (fun wq hg hf=>(Neg_any PT _ (A'.getD i 0) wq ((uh HPV).below hg)).mono (by rintro e w' ⟨v',rfl,hv,hb⟩;exact ⟨_,rfl,hb,hv.shapeI,fun t ht=>by cases ht;exact hv⟩)) ?_
    rintro _ ⟨nx,na,nm,nc,rfl⟩
    simp only [Act.put,List.setIfInBounds_toArray,List.set_cons_succ,List.set_cons_zero]
    refine lex_call ShapeS 60 #[.slice ua un uc,.agg #[.int .i64 nx,.slice na nm nc]] (by rfl) (by rfl) ShapeS.some (fun w=>by go_simp) (fun wq hg hf=>(raised_any PT (Hs rc.size) (rc.size+1) (rc.told.getD i []) (-A'.getD i 0) _ _ wq (fun _ _=>trivial) ((uh HU2).below hg) (hf 9 (by kernel_rfl) _ 43 rfl rfl) (uh HUL) (by omega) (by omega) (fun k=>(uh HLF).lt.told i k) (uh HLN) (by omega)).mono (by rintro e w' ⟨v',rfl,hv,hb⟩;exact ⟨_,rfl,hb,hv.shapeS,fun t ht=>by cases ht;exact hv⟩)) ?_
    rintro _ ⟨sa,sm,sc,rfl⟩
    simp only [Act.put,List.setIfInBounds_toArray,List.set_cons_succ,List.set_cons_zero]
    refine lex_last ?_
    intro w3 hg3 hphi
    have hv3:RowAt PT w3 (.slice sa sm sc) (raisedP (rc.told.getD i []) (-A'.getD i 0)):=hphi 10 _ 44 (by decide) rfl rfl
    clear hphi y0 y1 y2 y3 k0 k1 k2 kf
    have HV3:=hide hv3
    have HB3:=hide ((uh HB2).grow hg3)
    have HG3:Hid (Grows w w3):=(uh HG2).trans hg3
    have HA13:=hide ((uh HA1).below hg3)
    have k0:=(uh HB3).cells.1
    have k1:=(uh HB3).cells.2.1
    have k2:=(uh HB3).cells.2.2.1
    have k3:=(uh HB3).cells.2.2.2.1
    clear hv3 hg3
    have HWI:=hide (with_any PT rc.zero (raisedP (rc.told.getD i []) (-A'.getD i 0)) (.slice za zn zc) (.slice sa sm sc) w3 (fun _ _=>trivial) (uh HB3).rows.zero (uh HV3) (by rw [(uh HLF).zero];decide))
    go_wp2_with fail
    refine (uh HWI).mono ?_
    rintro e w4 ⟨v4,rfl,hv4,hb4⟩
    obtain ⟨ha,hm,hc,rfl⟩:=hv4.shapeS
    have HB4:=hide ((uh HB3).grow hb4)
    have HS5:=hide (bound_store (uh HB4) hv4)
    have HG5:Hid (Grows w (w4.setCell ⟨w.heap.size,1,none⟩ (.slice ha hm hc))):=Below.setCell (p:=⟨w.heap.size,1,none⟩) ((uh HG3).trans hb4) (Nat.le_refl _) _
    have HA15:Hid (RowAt PT (w4.setCell ⟨w.heap.size,1,none⟩ (.slice ha hm hc)) (.slice (some ⟨gp,op,none⟩) A'.length qc) A'):=((uh HA13).below hb4).holds (holds_set (uh HB4).own (by decide) (fun e=>absurd e (by decide)) _ _)
    have q1:=(uh HB4).cells.2.1
    have qf:=(uh HB4).cells.2.2.2.2 1
    clear hv4 hb4 HWI k0 k1 k2 k3 HB3 HG3 HA13
    generalize hW5:w4.setCell ⟨w.heap.size,1,none⟩ (.slice ha hm hc)=W5 at *
    obtain ⟨row,hrow⟩:∃ row,raisedP (rc.told.getD i []) (-A'.getD i 0)=row:=⟨_,rfl⟩
    have HRL:Hid (∀ k,Pl.Lt (Hs rc.size+1) (row.getD k 0)):=by unfold Hid;rw [←hrow];exact raised_lt (fun k=>(uh HLF).lt.told i k) (uh HLN)
    have HBA:Hid (∀ B,(rc.bound row).reg.Ans B↔rc.reg.Ans B∧B.getD i 0=A'.getD i 0):=by unfold Hid;rw [←hrow];exact bound_ans (uh HLF).ok hiTl _
    have HBO:Hid (RegOk (rc.bound row)):=by unfold Hid;rw [←hrow];exact bound_ok (uh HLF).ok hiTl _ (by rw [(uh HLF).zero];decide)
    have HBL:Hid (RegLt (Hs rc.size+1) (rc.bound row)):=by unfold Hid;rw [←hrow];exact bound_lt (uh HLF).lt i (uh HLN)
    have HBT:Hid ((rc.bound row).reg.Tied):=bound_tied (uh HLF).tied row
    rw [hrow] at HS5
    clear hrow
    obtain ⟨z0,z1,z2,z3,zf⟩:=(uh HS5).cells
    have z0':W5.cell? ⟨w.heap.size,0,none⟩=some (.int .i64 rc.size):=z0
    have HSE:=hide (settled_any PT (Hs rc.size+1) (rc.bound row) (.agg #[.int .i64 rc.size,.slice ha hm hc,.slice ea en ec,.slice (some ⟨gu,ou,none⟩) rc.told.length fc]) W5 (fun _ _=>trivial) (uh HS5).at (uh HBO) (by show rc.size≤100;omega) (uh HBL) ((uh HROOM).settle rc.size hsN))
    clear z0
    go_wp2_with fail
    try rw [hW5]
    clear hW5 q1 qf
    refine (uh HSE).mono ?_
    rintro e w6 ⟨v6,ok,rfl,⟨n',b1,n1,d1,b2,n2,d2,b3,n3,d3,rfl⟩,hb6,ht,hfl⟩
    cases ok with
    | false =>
     exfalso
     exact hfl rfl A' ((uh HBA A').2 ⟨uh HA2,rfl⟩)
    | true =>
     obtain ⟨r1,⟨vz,vl,vt,e2,g1,g2,g3⟩,hZ,hcc⟩:=ht rfl
     have HSET:=hide (settled_all (uh HBO) (uh HBL) (by show rc.size≤100;omega) (uh HBT) hZ hcc)
     have HRL2:=hide (bound_settled (uh HROOM) hsN (uh HLF).zero (uh HLF).lt (uh HRL) hN9 hZ)
     have hsz1:r1.whole.size=r1.size:=rfl
     rw [←hsz1] at HRL2
     obtain ⟨r2',hr2⟩:∃ r2,r1.whole=r2:=⟨_,rfl⟩
     rw [hr2] at e2 g1 g2 g3 HSET HRL2
     have e3:=congrArg (fun v=>match v with | .agg l=>l.toList | _=>[]) e2
     simp only [List.cons.injEq,and_true,Value.int.injEq,true_and] at e3
     obtain ⟨rfl,rfl,rfl,rfl⟩:=e3
     clear hr2 hZ hcc ht hfl e2 hsz1
     have HOWN6:=hide (Below.same hb6 _ _ (uh HS5).own)
     have HG6:Hid (Grows w w6):=(uh HG5).trans hb6
     have HST6:=hide (RegBox.store (uh HG6) (Nat.le_refl _) (uh HOWN6) rfl ⟨g1,g2,g3⟩)
     have HA16:=hide (((uh HA15).below hb6).holds (uh HST6).2.2)
     obtain ⟨j0,j1,j2,j3,jf⟩:=((uh HS5).grow hb6).cells
     have j0':w6.cell? ⟨w.heap.size,0,none⟩=some (.int .i64 rc.size):=j0
     have f0:=jf 0
     have f1:=jf 1
     have f2:=jf 2
     have f3:=jf 3
     have HI2:Hid (LeastI r.reg.Ans Hs N T (i+1) r2' A') :=
      ⟨⟨(uh HSET).zero,(uh HSET).tied,(uh HSET).ok,uh HRL2,(uh HROOM).one _ (by have h1:r2'.size≤rc.size:=(uh HSET).size;omega),by have h1:r2'.size≤rc.size:=(uh HSET).size;omega,Nat.le_trans (uh HSET).few (uh HLF).few,(uh HSET).some⟩,
       by have h1:r2'.size≤rc.size:=(uh HSET).size;omega,
       (uh HI).low.step (uh HI).ans (uh HA2) (uh HA3),
       fun B=>((uh HSET).ans B).trans ((uh HBA B).trans (LowTo.next (uh HI).ans (uh HA2) B))⟩
     have HT2:Hid (r2'.told.length=T):=(uh HSET).told.trans (uh HR).2.2.1
     have HB7:=hide (uh HST6).1
     have HG7:=hide (uh HST6).2.1
     have hi1k:i<1000:=by have:=(uh HLF).ok.toldN;omega
     clear g1 g2 g3 hb6 HST6 jf j0 HSE z0' z1 z2 z3 zf
     go_wp2
     go_roundg (gk - 1)
     case measure=>omega
     case rel=>exact ⟨i+1,r2',true,_,_,_,_,_,_,_,_,_,_,_,_,rfl,rfl,by simp,by omega,uh HB7,uh HG7,uh HT2,fun _=>⟨A',uh HA16,uh HI2⟩,fun h=>(by cases h)⟩
   ·have HGE:=hide (uh HR).2.1
    have hT2:=(uh HR).2.2.1
    cases ok with
    | false =>
     have HNO:=hide ((uh HR).2.2.2.2 rfl)
     clear hend hfn
     by_cases hlt:(i:Int)<(fn:Int)
     ·go_wp2
      exact bodyPost_ret (v:=.tuple #[.slice pa0 pn0 pc0,.bool false]) (by simp [results,Try.results42,go_sem]) rfl ⟨_,false,rfl,⟨_,_,_,rfl⟩,uh HGE,fun h=>(by cases h),fun _=>uh HNO⟩
     ·go_wp2
      exact bodyPost_ret (v:=.tuple #[.slice pa0 pn0 pc0,.bool false]) (by simp [results,Try.results42,go_sem]) rfl ⟨_,false,rfl,⟨_,_,_,rfl⟩,uh HGE,fun h=>(by cases h),fun _=>uh HNO⟩
    | true =>
     have hiT:¬ (i<T):=fun h=>hend ⟨h,rfl⟩
     have hif:¬ ((i:Int)<(fn:Int)):=by omega
     obtain ⟨A,hA,hI⟩:=(uh HR).2.2.2.1 rfl
     have HA:=hide hA
     have HEND:Hid (r.reg.Ans A∧∀ B,r.reg.Ans B→¬ lexLt B A):=⟨hI.low.mem,fun B hB=>hI.low.least hB (by rw [ans_len hB];have:=uh HTR;omega)⟩
     clear hA hI hend hfn
     go_wp2
     exact bodyPost_ret (v:=.tuple #[.slice pa0 pn0 pc0,.bool true]) (by simp [results,Try.results42,go_sem]) rfl ⟨_,true,rfl,⟨_,_,_,rfl⟩,uh HGE,fun _=>⟨A,uh HA,(uh HEND).1,(uh HEND).2⟩,fun h=>(by cases h)⟩
end
abbrev RowP:=List Int × Int × Bool
def rowL (q:RowP):List Int:=q.2.1::q.1
def rangeL (n i:Nat) (v:Int × Int):List (List Int):=[raisedP (coordL n i) (-v.1),raisedP ((coordL n i).map fun x=>-x) v.2]
def rangesL (n:Nat) (vs:List (Int × Int)) (k:Nat):List (List Int):=(List.range k).flatMap fun i=>rangeL n i (vs.getD i (0,0))
def toldL (n k:Nat):List (List Int):=(List.range k).map (coordL n)
def zeroL (rs:List RowP):List (List Int):=(rs.filter fun q=>q.2.2).map rowL
def leastL (rs:List RowP):List (List Int):=(rs.filter fun q=>!q.2.2).map rowL
def regOfP (vs:List (Int × Int)) (rs:List RowP):RegL:=⟨vs.length,zeroL rs,rangesL vs.length vs vs.length++leastL rs,toldL vs.length vs.length⟩
theorem rangesL_succ (n:Nat) (vs:List (Int × Int)) (k:Nat):rangesL n vs (k+1)=rangesL n vs k++rangeL n k (vs.getD k (0,0)):=by
 unfold rangesL;rw [List.range_succ,List.flatMap_append];simp
theorem toldL_succ (n k:Nat):toldL n (k+1)=toldL n k++[coordL n k]:=by unfold toldL;rw [List.range_succ,List.map_append];rfl
structure RangesOk (vs:List (Int × Int)):Prop where
 one:1≤vs.length
 four:vs.length≤4
 lo:∀ v∈vs,-1000000000≤v.1∧v.1≤1000000000
 hi:∀ v∈vs,-1000000000≤v.2∧v.2≤1000000000
 le:∀ v∈vs,v.1≤v.2
structure RowsOk (n:Nat) (rs:List RowP):Prop where
 few:rs.length≤8
 len:∀ q∈rs,q.1.length=n
 c:∀ q∈rs,∀ x∈q.1,-1000≤x∧x≤1000
 k:∀ q∈rs,-1000000000000≤q.2.1∧q.2.1≤1000000000000
def rowAt (q:RowP) (A:List Int):Int:=q.2.1+Pl.sm A.length (fun i=>q.1.getD i 0*A.getD i 0)
structure PointP (vs:List (Int × Int)) (rs:List RowP) (A:List Int):Prop where
 len:A.length=vs.length
 range:∀ i,i<vs.length→(vs.getD i (0,0)).1≤A.getD i 0∧A.getD i 0≤(vs.getD i (0,0)).2
 rows:∀ q∈rs,0≤rowAt q A∧(q.2.2=true→rowAt q A=0)
section
variable {vs:List (Int × Int)} {rs:List RowP}
theorem range_get {i:Nat} (h:i<vs.length):vs.getD i (0,0)∈vs:=by
 rw [List.getD_eq_getElem?_getD,List.getElem?_eq_getElem h];exact List.getElem_mem _
theorem rangesL_mem {n k:Nat} {a:List Int} (h:a∈rangesL n vs k):∃ i,i<k∧a∈rangeL n i (vs.getD i (0,0)):=by
 obtain ⟨i,hi,ha⟩:=List.mem_flatMap.1 h
 exact ⟨i,List.mem_range.1 hi,ha⟩
theorem rangesL_of {n k i:Nat} (hi:i<k) {a:List Int} (ha:a∈rangeL n i (vs.getD i (0,0))):a∈rangesL n vs k:=List.mem_flatMap.2 ⟨i,List.mem_range.2 hi,ha⟩
theorem coord_len (n i:Nat):(coordL n i).length=n+1:=by simp [coordL]
theorem rangeL_len {n i:Nat} {v:Int × Int} {a:List Int} (h:a∈rangeL n i v):a.length=n+1:=by
 unfold rangeL at h
 rcases List.mem_cons.1 h with rfl|h
 ·rw [raised_len,coord_len]
 ·rw [List.mem_singleton.1 h,raised_len,List.length_map,coord_len]
theorem rangesL_len (n:Nat) (vs:List (Int × Int)):∀ k,(rangesL n vs k).length=2*k
 | 0=>rfl
 | k+1=>by rw [rangesL_succ,List.length_append,rangesL_len n vs k];show _+2=_;omega
theorem row_ev (n:Nat) (q:RowP) (x:Nat→Int):Pl.ev n (lf (rowL q)) (Pl.pt x)=q.2.1+Pl.sm n (fun i=>q.1.getD i 0*x i):=by
 rw [Pl.ev_pt];rfl
theorem tells_of (x:Nat→Int):(regOfP vs rs).reg.tells x=(List.range vs.length).map x:=by
 have e:(regOfP vs rs).reg.tells x=(regOfP vs rs).told.map fun a=>Pl.ev vs.length (lf a) (Pl.pt x):=by
  show (((regOfP vs rs).told.map lf).map fun s=>Pl.ev vs.length s (Pl.pt x))=_
  rw [List.map_map];rfl
 rw [e]
 show ((List.range vs.length).map (coordL vs.length)).map _=_
 rw [List.map_map]
 refine List.map_congr_left fun i hi=>?_
 exact coord_ev (List.mem_range.1 hi) x
theorem rowAt_of (q:RowP) (x:Nat→Int):rowAt q ((List.range vs.length).map x)=q.2.1+Pl.sm vs.length (fun i=>q.1.getD i 0*x i):=by
 unfold rowAt
 rw [show ((List.range vs.length).map x).length=vs.length by simp]
 congr 1
 exact Pl.sm_congr fun i hi=>by rw [Pl.getD_map_range _ _ _ hi]
theorem of_has (x:Nat→Int):(regOfP vs rs).reg.Has x↔PointP vs rs ((List.range vs.length).map x):=by
 have hx:∀ i,i<vs.length→((List.range vs.length).map x).getD i 0=x i:=fun i hi=>Pl.getD_map_range _ _ _ hi
 constructor
 ·intro h
  refine ⟨by simp,fun i hi=>?_,fun q hq=>?_⟩
  ·rw [hx i hi]
   have h1:0≤Pl.ev vs.length (lf (raisedP (coordL vs.length i) (-(vs.getD i (0,0)).1))) (Pl.pt x):=h.least _ (List.mem_map.2 ⟨_,List.mem_append.2 (.inl (rangesL_of hi (List.mem_cons_self ..))),rfl⟩)
   have h2:0≤Pl.ev vs.length (lf (raisedP ((coordL vs.length i).map fun x=>-x) (vs.getD i (0,0)).2)) (Pl.pt x):=h.least _ (List.mem_map.2 ⟨_,List.mem_append.2 (.inl (rangesL_of hi (List.mem_cons_of_mem _ (List.mem_singleton.2 rfl)))),rfl⟩)
   rw [raised_ev _ _ _ (by rw [coord_len];omega),coord_ev hi] at h1
   rw [raised_ev _ _ _ (by rw [List.length_map,coord_len];omega),neg_lf,ev_neg,coord_ev hi] at h2
   omega
  ·rw [rowAt_of,←row_ev]
   by_cases hb:q.2.2=true
   ·have h1:Pl.ev vs.length (lf (rowL q)) (Pl.pt x)=0:=h.zero _ (List.mem_map.2 ⟨rowL q,List.mem_map.2 ⟨q,List.mem_filter.2 ⟨hq,hb⟩,rfl⟩,rfl⟩)
    rw [h1];exact ⟨Int.le_refl _,fun _=>rfl⟩
   ·have h1:0≤Pl.ev vs.length (lf (rowL q)) (Pl.pt x):=h.least _ (List.mem_map.2 ⟨rowL q,List.mem_append.2 (.inr (List.mem_map.2 ⟨q,List.mem_filter.2 ⟨hq,by simp [hb]⟩,rfl⟩)),rfl⟩)
    exact ⟨h1,fun e=>absurd e hb⟩
 ·intro h
  refine ⟨fun s hs=>?_,fun s hs=>?_⟩
  ·obtain ⟨a,ha,rfl⟩:=List.mem_map.1 hs
   obtain ⟨q,hq,rfl⟩:=List.mem_map.1 ha
   obtain ⟨hq1,hq2⟩:=List.mem_filter.1 hq
   have h1:=(h.rows q hq1).2 hq2
   rw [rowAt_of,←row_ev] at h1
   exact h1
  ·obtain ⟨a,ha,rfl⟩:=List.mem_map.1 hs
   show 0≤Pl.ev vs.length (lf a) (Pl.pt x)
   rcases List.mem_append.1 ha with ha|ha
   ·obtain ⟨i,hi,ha⟩:=rangesL_mem ha
    have h1:=h.range i hi
    rw [hx i hi] at h1
    unfold rangeL at ha
    rcases List.mem_cons.1 ha with rfl|ha
    ·rw [raised_ev _ _ _ (by rw [coord_len];omega),coord_ev hi];omega
    ·rw [List.mem_singleton.1 ha,raised_ev _ _ _ (by rw [List.length_map,coord_len];omega),neg_lf,ev_neg,coord_ev hi];omega
   ·obtain ⟨q,hq,rfl⟩:=List.mem_map.1 ha
    obtain ⟨hq1,_⟩:=List.mem_filter.1 hq
    have h1:=(h.rows q hq1).1
    rw [rowAt_of,←row_ev] at h1
    exact h1
theorem of_ans (A:List Int):(regOfP vs rs).reg.Ans A↔PointP vs rs A:=by
 constructor
 ·rintro ⟨x,h1,rfl⟩
  rw [tells_of];exact (of_has x).1 h1
 ·intro h
  have e:(List.range vs.length).map (fun i=>A.getD i 0)=A:=by
   apply List.ext_getElem
   ·simp [h.len]
   ·intro i h1 h2
    simp [List.getD_eq_getElem?_getD,List.getElem?_eq_getElem h2]
  exact ⟨fun i=>A.getD i 0,(of_has _).2 (by rw [e];exact h),by rw [tells_of];exact e⟩
theorem of_tied:(regOfP vs rs).reg.Tied:=by
 intro D _ h i hi
 have hi':i<vs.length:=hi
 have key:∀ a:List Int,a∈(regOfP vs rs).least→0≤Pl.dir vs.length (lf a) D:=fun a ha=>h _ (List.mem_map.2 ⟨a,ha,rfl⟩)
 have h1:=key _ (List.mem_append.2 (.inl (rangesL_of hi' (List.mem_cons_self ..))))
 have h2:=key _ (List.mem_append.2 (.inl (rangesL_of hi' (List.mem_cons_of_mem _ (List.mem_singleton.2 rfl)))))
 have dr:∀ (a:List Int) (v:Int),0<a.length→Pl.dir vs.length (lf (raisedP a v)) D=Pl.dir vs.length (lf a) D:=fun a v h0=>by
  unfold Pl.dir
  exact Pl.sm_congr fun k _=>by rw [raised_lf a v h0,if_neg (by omega)]
 have dc:Pl.dir vs.length (lf (coordL vs.length i)) D=D i:=by
  have e1:=coord_ev hi' D
  rw [Pl.ev_pt] at e1
  have e2:lf (coordL vs.length i) 0=0:=by
   unfold lf coordL
   rw [Pl.getD_map_range _ _ _ (by omega)]
   unfold Pl.unit;rw [if_neg (by omega)]
  unfold Pl.dir
  omega
 have dn:Pl.dir vs.length (lf ((coordL vs.length i).map fun x=>-x)) D=-D i:=by
  rw [neg_lf]
  have:Pl.dir vs.length (fun k=>-lf (coordL vs.length i) k) D=-Pl.dir vs.length (lf (coordL vs.length i)) D:=by
   unfold Pl.dir
   rw [←Int.neg_one_mul,←Pl.sm_mul]
   exact Pl.sm_congr fun k _=>by rw [Int.neg_mul,Int.neg_one_mul]
  rw [this,dc]
 rw [dr _ _ (by rw [coord_len];omega),dc] at h1
 rw [dr _ _ (by rw [List.length_map,coord_len];omega),dn] at h2
 omega
theorem of_ok (hv:RangesOk vs) (hr:RowsOk vs.length rs):RegOk (regOfP vs rs):=by
 have h4:=hv.four
 have h8:=hr.few
 have hz:(zeroL rs).length≤8:=by unfold zeroL;rw [List.length_map];exact Nat.le_trans (List.length_filter_le _ _) h8
 have hl:(leastL rs).length≤8:=by unfold leastL;rw [List.length_map];exact Nat.le_trans (List.length_filter_le _ _) h8
 have hrow:∀ q∈rs,(rowL q).length=vs.length+1:=fun q hq=>by show q.1.length+1=_;rw [hr.len q hq]
 refine ⟨fun l h=>?_,fun l h=>?_,fun l h=>?_,by show (zeroL rs).length≤1000;omega,?_,?_⟩
 ·obtain ⟨q,hq,rfl⟩:=List.mem_map.1 h
  exact hrow q (List.mem_filter.1 hq).1
 ·rcases List.mem_append.1 h with h | h
  ·obtain ⟨i,_,ha⟩:=rangesL_mem h
   exact rangeL_len ha
  ·obtain ⟨q,hq,rfl⟩:=List.mem_map.1 h
   exact hrow q (List.mem_filter.1 hq).1
 ·obtain ⟨i,_,rfl⟩:=List.mem_map.1 h
  exact coord_len _ _
 ·show (rangesL vs.length vs vs.length++leastL rs).length≤1000
  rw [List.length_append,rangesL_len];omega
 ·show ((List.range vs.length).map _).length≤1000
  rw [List.length_map,List.length_range];omega
theorem lt_of_abs {x:Int} {K:Nat} (h:x.natAbs<1073741824^K):Pl.Lt K x:=by rw [Pl.lt_nat];exact h
theorem of_lt (hv:RangesOk vs) (hr:RowsOk vs.length rs):RegLt 2 (regOfP vs rs):=by
 have hrow:∀ q∈rs,∀ k,Pl.Lt 2 ((rowL q).getD k 0):=fun q hq k=>by
  cases k with
  | zero=>have:=hr.k q hq;exact lt_of_abs (show q.2.1.natAbs<1152921504606846976 by omega)
  | succ k =>
   show Pl.Lt 2 (q.1.getD k 0)
   rw [List.getD_eq_getElem?_getD]
   rcases hk:q.1[k]? with _|x
   ·exact lt_zero 2
   ·have:=hr.c q hq x (List.mem_of_getElem? hk)
    exact lt_of_abs (show x.natAbs<1152921504606846976 by omega)
 have hco:∀ i k,Pl.Lt 1 ((coordL vs.length i).getD k 0):=fun i k=>coord_lt (Nat.le_refl _) k
 have hrange:∀ i,i<vs.length→∀ a∈rangeL vs.length i (vs.getD i (0,0)),∀ k,Pl.Lt 2 (a.getD k 0):=fun i hi a ha k=>by
  have h1:=hv.lo _ (range_get hi)
  have h2:=hv.hi _ (range_get hi)
  unfold rangeL at ha
  rcases List.mem_cons.1 ha with rfl|ha
  ·exact raised_lt (hco i) (lt_of_abs (show (-(vs.getD i (0,0)).1).natAbs<1073741824 by omega)) k
  ·rw [List.mem_singleton.1 ha]
   exact raised_lt (neg_lt (hco i)) (lt_of_abs (show ((vs.getD i (0,0)).2).natAbs<1073741824 by omega)) k
 refine ⟨mem_getD_lt fun a ha=>?_,mem_getD_lt fun a ha=>?_,mem_getD_lt fun a ha=>?_⟩
 ·obtain ⟨q,hq,rfl⟩:=List.mem_map.1 ha
  exact hrow q (List.mem_filter.1 hq).1
 ·rcases List.mem_append.1 ha with ha | ha
  ·obtain ⟨i,hi,ha⟩:=rangesL_mem ha
   exact hrange i hi a ha
  ·obtain ⟨q,hq,rfl⟩:=List.mem_map.1 ha
   exact hrow q (List.mem_filter.1 hq).1
 ·obtain ⟨i,_,rfl⟩:=List.mem_map.1 ha
  exact fun k=>(hco i k).mono (by omega)
theorem point_lt (hv:RangesOk vs) {A:List Int} (h:PointP vs rs A) (i:Nat):Pl.Lt 1 (A.getD i 0)∧-1000000000≤A.getD i 0∧A.getD i 0≤1000000000:=by
 have key:-1000000000≤A.getD i 0∧A.getD i 0≤1000000000:=by
  by_cases hi:i<vs.length
  ·have h1:=hv.lo _ (range_get hi)
   have h2:=hv.hi _ (range_get hi)
   have h3:=h.range i hi
   omega
  ·rw [List.getD_eq_getElem?_getD,List.getElem?_eq_none (by rw [h.len];omega)];decide
 exact ⟨lt_of_abs (show (A.getD i 0).natAbs<1073741824 by omega),key⟩
end
end
def roomG:Nat→Nat
 | 0=>53166996806
 | 1=>708893290
 | 2=>3616802
 | 3=>8930
 | _=>12
def roomH:Nat→Nat
 | 0=>177186
 | 1=>11811
 | 2=>786
 | 3=>51
 | _=>2
theorem upto_four {P:Nat→Prop} (h0:P 0) (h1:P 1) (h2:P 2) (h3:P 3) (h4:P 4) (s:Nat) (h:s≤4):P s:=by
 rcases (show s=0∨s=1∨s=2∨s=3∨s=4 by omega) with e|e|e|e|e <;> (subst e;assumption)
theorem below_four {P:Nat→Prop} (h0:P 0) (h1:P 1) (h2:P 2) (h3:P 3) (s:Nat) (h:s<4):P s:=by
 rcases (show s=0∨s=1∨s=2∨s=3 by omega) with e|e|e|e <;> (subst e;assumption)
theorem room_four:Room2 4 roomG roomH :=
 ⟨⟨by decide,upto_four (by decide) (by decide) (by decide) (by decide) (by decide),below_four (by decide) (by decide) (by decide) (by decide),below_four (by decide) (by decide) (by decide) (by decide),upto_four (by decide) (by decide) (by decide) (by decide) (by decide),upto_four (by decide) (by decide) (by decide) (by decide) (by decide),upto_four (by decide) (by decide) (by decide) (by decide) (by decide)⟩,
  upto_four (by decide) (by decide) (by decide) (by decide) (by decide),below_four (by decide) (by decide) (by decide) (by decide),upto_four (by decide) (by decide) (by decide) (by decide) (by decide),upto_four (by decide) (by decide) (by decide) (by decide) (by decide),upto_four (by decide) (by decide) (by decide) (by decide) (by decide)⟩
theorem roomH_two {n:Nat} (h:n≤4):2≤roomH n:=upto_four (P:=fun n=>2≤roomH n) (by decide) (by decide) (by decide) (by decide) (by decide) n h
theorem leastOf_any {vs:List (Int × Int)} {rs:List RowP} (hv:RangesOk vs) (hr:RowsOk vs.length rs) (vr:Value) (w:World) (h:RegAt PT w vr (regOfP vs rs)) :
  Calls Try.prog 42 #[vr] w (LeastPost (regOfP vs rs) w) :=
 leastPoint_any room_four (regOfP vs rs) vr w h hv.four (of_ok hv hr) ((of_lt hv hr).mono (roomH_two hv.four)) of_tied (by
  show (rangesL vs.length vs vs.length++leastL rs).length≤700
  rw [List.length_append,rangesL_len]
  have h1:=hv.four
  have h2:(leastL rs).length≤8:=by unfold leastL;rw [List.length_map];exact Nat.le_trans (List.length_filter_le _ _) hr.few
  omega) (fun B hB i=>(point_lt hv ((of_ans B).1 hB) i).1)
end Go.Proofs.Ytfaljekgpnbmiaa
