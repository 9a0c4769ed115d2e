/- Joined: XOf4. -/
import Derived.Test.YtfaljekgpnbmiaaJ42
set_option linter.unusedVariables false
set_option linter.unusedSimpArgs false
set_option maxRecDepth 100000
namespace Go.Proofs.Ytfaljekgpnbmiaa
open Go.RowKit Go.Sort
theorem RowsOwn.shapeS {P:Nat→Prop} {B:Nat} {w:World} {v:Value} {ls:List (List Int)} (h:RowsOwn P B w v ls):ShapeS v:=by
 obtain ⟨xs,h1,_⟩:=h
 rcases h1.2 with ⟨e,_⟩|⟨g,cap,cur,e,_⟩
 ·exact ⟨_,_,_,e⟩
 ·exact ⟨_,_,_,e⟩
attribute [local go_sem] valUpon tailWp
set_option maxHeartbeats 1000000 in
theorem regionOf_any (vs:List (Int × Int)) (rs:List RowP) (va vb:Value) (w:World) (ha:RngAt w va vs) (hb:RwsAt w vb rs) (hv:RangesOk vs) (hr:RowsOk vs.length rs) :
  Calls Try.prog 43 #[va,vb] w fun e w'=>∃ v',e=.returned v'∧RegAt PT w' v' (regOfP vs rs)∧Below w.heap.size w w':=by
 obtain ⟨i0,hi0,hz0,hz1,hz2⟩:=info_parts Try.infoWhole
 obtain ⟨i1,hi1,hy0,hy1,hy2⟩:=info_parts Try.infoRow
 obtain ⟨aa,ac,rfl⟩:=ha.shapeS
 obtain ⟨ba,bc,rfl⟩:=hb.shapeS
 have hn4:=hv.four
 have hm8:=hr.few
 have HV:=hide hv
 have HRO:=hide hr
 have HA:=hide ha
 have HB:=hide hb
 obtain ⟨n,hn⟩:∃ n,vs.length=n:=⟨_,rfl⟩
 obtain ⟨m,hm⟩:∃ m,rs.length=m:=⟨_,rfl⟩
 have HN:=hide hn
 have HM:=hide hm
 rw [hn] at hn4 HRO
 rw [hm] at hm8
 rw [hn,hm]
 rw [hn] at HA
 rw [hm] at HB
 have HO:Hid (OfAt w ((w.alloc (.cells #[.int .i64 0,.slice none 0 0,.slice none 0 0,.slice none 0 0] 78)).alloc (.cells #[.int .i64 n,.slice none 0 0,.slice none 0 0,.slice none 0 0] 78)) ((w.alloc (.cells #[.int .i64 0,.slice none 0 0,.slice none 0 0,.slice none 0 0] 78)).alloc (.cells #[.int .i64 n,.slice none 0 0,.slice none 0 0,.slice none 0 0] 78)).heap.size n (.slice none 0 0) (.slice none 0 0) (.slice none 0 0) [] [] []):=by
  have e1:=slot_one (w.alloc (.cells #[.int .i64 0,.slice none 0 0,.slice none 0 0,.slice none 0 0] 78)) (.cells #[.int .i64 n,.slice none 0 0,.slice none 0 0,.slice none 0 0] 78)
  rw [World.size_alloc] at e1
  refine ⟨e1,Below.same (Grows.alloc _ _) _ _ (slot_one w _),.nil _ _ _,.nil _ _ _,.nil _ _ _,fun k hk=>(by cases hk),fun k hk=>(by cases hk),fun k hk=>(by cases hk),Grows.trans (Grows.alloc _ _) (Grows.alloc _ _),?_,Nat.le_refl _⟩
  rw [World.size_alloc,World.size_alloc];omega
 clear ha hb hv hr hn hm
 go_enter Try.func43,Try.ntmps43
 go_wp2_with fail
 generalize hW:(w.alloc (.cells #[.int .i64 0,.slice none 0 0,.slice none 0 0,.slice none 0 0] 78)).alloc (.cells #[.int .i64 n,.slice none 0 0,.slice none 0 0,.slice none 0 0] 78)=W at *
 generalize hBB:W.heap.size=B at *
 clear hW hBB
 go_loopg [6] n (fun k iv wr=>∃ (i:Nat) (lv tv:Value),iv=.int .i64 i∧i+k=n∧Hid (OfAt w wr B n (.slice none 0 0) lv tv [] (rangesL n vs i) (toldL n i)))
 case atStart=>exact ⟨0,_,_,rfl,by omega,uh HO⟩
 case round =>
  clear HO
  obtain ⟨i,lv,tv,rfl,hik,HR⟩:=hrel
  have hsl:ShapeS lv:=by
   obtain ⟨xs,h1,_⟩:=(uh HR).least
   rcases h1.2 with ⟨e,_⟩|⟨g,cap,cur,e,_⟩
   ·exact ⟨_,_,_,e⟩
   ·exact ⟨_,_,_,e⟩
  have hst:ShapeS tv:=by
   obtain ⟨xs,h1,_⟩:=(uh HR).told
   rcases h1.2 with ⟨e,_⟩|⟨g,cap,cur,e,_⟩
   ·exact ⟨_,_,_,e⟩
   ·exact ⟨_,_,_,e⟩
  obtain ⟨la,ln,lc,rfl⟩:=hsl
  obtain ⟨ta,tn,tc,rfl⟩:=hst
  by_cases hlt:i<n
  ·have hwn:IntKind.i64.wrap ((n:Int)+1)=((n+1:Nat):Int):=by rw [IntKind.wrap_i64];omega
   go_wp2_with (at_make;refine wpList_make_full _ rfl _ _ 73 rfl wr.heap.size 82 i0 (.agg #[.int .i64 0,.slice none 0 0]) 2 Try.underlying73 hi0 hz0 hz1 .i64 .i64 _ _ (n+1) rfl rfl ?e1 ?e2 ?c1 ?c2 ?c3 ?_)
   case e1=>first | rfl | omega | simp
   case e2=>first | rfl | omega | simp
   case c1=>rw [hz2];omega
   case c2=>unfold maxLen;omega
   case c3=>first | omega | simp
   ·intro w1 hown hgrow
    have hG1:Grows wr w1:=(Below.refl _ _).grown hgrow (Nat.le_refl _) (by intro k hk;cases hk)
    have HRI:Hid (RowIn PT w1 wr.heap.size (n+1) (fun _=>0)):=RowIn.made hown
    have HG1:=hide hG1
    have w1':IntKind.i64.wrap ((i:Int)+1)=(i:Int)+1:=by rw [IntKind.wrap_i64];omega
    have t1':((i:Int)+1).toNat=i+1:=by omega
    have l1':(i:Int)+1<(n:Int)+1:=by omega
    have l2':0≤(i:Int)+1:=by omega
    clear hown hgrow hG1
    go_wp2_with fail
    refine (Of_any PT 1 w1 (fun _ _=>trivial) (by decide) (by decide)).mono ?_
    rintro e w2 ⟨v2,rfl,hv2,hb2⟩
    obtain ⟨ox,oa,om,oc,rfl⟩:=hv2.shape
    have hR2:=(uh HRI).grow hb2
    obtain ⟨qx,qa,qm,qc,r0,r1,_,f0,f1⟩:=hR2.get (i:=i+1) (by omega)
    have HROW:Hid (RowAt PT ((w2.setCell ⟨wr.heap.size,(i+1)*2,none⟩ (.int .i64 ox)).setCell ⟨wr.heap.size,(i+1)*2+1,none⟩ (.slice oa om oc)) (.slice (some ⟨wr.heap.size,0,none⟩) (n+1) (n+1)) (coordL n i)):=by
     have:=((hR2.set (i:=i+1) (by omega) hv2).congr (f':=Pl.unit (i+1)) (fun k _=>by
      unfold updF Pl.unit
      by_cases h:k=i+1
      ·rw [if_pos h,if_pos h.symm]
      ·rw [if_neg h,if_neg (fun e=>h e.symm)])).row trivial
     exact this
    have HG3:Hid (Grows wr ((w2.setCell ⟨wr.heap.size,(i+1)*2,none⟩ (.int .i64 ox)).setCell ⟨wr.heap.size,(i+1)*2+1,none⟩ (.slice oa om oc))):=(Below.setCell (p:=⟨wr.heap.size,(i+1)*2,none⟩) (Grows.trans (uh HG1) hb2) (Nat.le_refl _) _).setCell (p:=⟨wr.heap.size,(i+1)*2+1,none⟩) (Nat.le_refl _) _
    generalize hW3:(w2.setCell ⟨wr.heap.size,(i+1)*2,none⟩ (.int .i64 ox)).setCell ⟨wr.heap.size,(i+1)*2+1,none⟩ (.slice oa om oc)=W3 at *
    have HO3:=hide ((uh HR).grow (uh HG3))
    have k3:W3.cell? ⟨w.heap.size+1,3,none⟩=some (.slice ta tn tc):=by rw [cellsOf (uh HO3).box];rfl
    obtain ⟨xs,hx1,hx2⟩:=(uh HO3).told
    have htn:tn=(toldL n i).length:=(uh HO3).told.len
    have htl:(toldL n i).length≤1000:=by unfold toldL;rw [List.length_map,List.length_range];omega
    have HX1:=hide hx1
    have HX2:=hide hx2
    have HOW:=hide (fun o=>hx1.alloc o)
    have HTN:=hide htn
    have hb1:=(uh HO3).b1
    clear hv2 hb2 hR2 hx1 hx2 htn
    go_wp2_with (at_builtin;refine wpList_append_lies _ rfl _ _ 76 rfl B 73 i1 (.slice none 0 0) 1 24 Try.underlying76 hi1 hy0 hy1 hy2 rfl (by decide) _ (toldL n i).length xs rfl (uh HOW _) ⟨_,0,none⟩ 1 1 [.slice (some ⟨wr.heap.size,0,none⟩) (n+1) (n+1)] rfl rfl ?d1 (by simp [Value.oneCell']) (by decide) ?d2 ?d3 ?d4 _ rfl ?_)
    case d1=>exact fun j u hu=>World.news_of_block (heap_alloc_new _ _) j u hu
    case d2=>unfold maxLen;omega
    case d3=>omega
    case d4=>simp;omega
    ·intro g cap w4 hown4 hgrow4 hat4 hlt4
     have hgA:=Grows.alloc W3 (.cells #[.slice (some ⟨wr.heap.size,0,none⟩) (n+1) (n+1)] 73)
     have hadd:=((uh HO3).grow hgA).addTold (uh HOW _) ((uh HX2).grow (.of_below hgA)) ((uh HROW).below hgA) hown4 hgrow4 (by rcases hat4 with e | e;exact .inl e;exact .inr (by rw [e,World.size_alloc]))
     have kb:w4.cell? ⟨w.heap.size+1,3,none⟩=some (.slice ta tn tc):=by rw [cellsOf hadd.2];rfl
     have kfb:w4.frozen? ⟨w.heap.size+1,3,none⟩=false:=freeOf hadd.2 3
     have hK1:KeepT 82 W3 w4:=(KeepT.of_below hgA).trans (KeepT.grown (uh HOW _) hgrow4 (by decide))
     have hK2:KeepT 3 W3 w4:=(KeepT.of_below hgA).trans (KeepT.grown (uh HOW _) hgrow4 (by decide))
     have HROW5:Hid (RowAt PT (w4.setCell ⟨w.heap.size+1,3,none⟩ (.slice (some ⟨g,0,none⟩) ((toldL n i).length+1) cap)) (.slice (some ⟨wr.heap.size,0,none⟩) (n+1) (n+1)) (coordL n i)):=((uh HROW).keepT hK1 hK2).keepT (KeepT.box hadd.2 (by decide)) (KeepT.box hadd.2 (by decide))
     have HO5:=hide hadd.1
     clear hown4 hgrow4 hat4 hlt4 hadd hgA hK1 hK2 HOW HX1 HX2 HO3 k3
     generalize hW5:w4.setCell ⟨w.heap.size+1,3,none⟩ (.slice (some ⟨g,0,none⟩) ((toldL n i).length+1) cap)=W5 at *
     have k2:W5.cell? ⟨w.heap.size+1,2,none⟩=some (.slice la ln lc):=by rw [cellsOf (uh HO5).box];rfl
     obtain ⟨gv,ov,ev,c0,c1⟩:=((uh HA).below (uh HO5).grows).get (i:=i) (by rw [uh HN];exact hlt)
     cases ev
     have HC1:Hid (w.cell? ⟨gv,ov+i*2+1,none⟩=some (.int .i64 (vs.getD i (0,0)).2)):=by
      obtain ⟨gv',ov',ev,_,c1'⟩:=(uh HA).get (i:=i) (by rw [uh HN];exact hlt)
      cases ev;exact c1'
     have HLO:=hide ((uh HV).lo _ (range_get (i:=i) (by rw [uh HN];exact hlt)))
     have HHI:=hide ((uh HV).hi _ (range_get (i:=i) (by rw [uh HN];exact hlt)))
     obtain ⟨lo,hlo⟩:∃ lo,(vs.getD i (0,0)).1=lo:=⟨_,rfl⟩
     obtain ⟨hi,hhi⟩:∃ hi,(vs.getD i (0,0)).2=hi:=⟨_,rfl⟩
     rw [hlo] at c0 HLO
     rw [hhi] at HC1 HHI
     have HEQ:Hid (rangesL n vs (i+1)=rangesL n vs i++[raisedP (coordL n i) (-lo)]++[raisedP ((coordL n i).map fun x=>-x) hi]):=by
      unfold Hid
      rw [rangesL_succ]
      unfold rangeL
      rw [hlo,hhi,List.append_assoc];rfl
     clear hlo hhi
     have hneg:IntKind.i64.wrap (-lo)=-lo:=by have:=uh HLO;rw [IntKind.wrap_i64];omega
     have HLL:Hid ((rangesL n vs i).length≤1000):=by unfold Hid;rw [rangesL_len];omega
     clear c1
     go_wp2_with fail
     try rw [hW5]
     clear hW5 kb kfb
     have y0:=cell_regrown k2
     have y1:=cell_regrown c0
     clear k2 c0
     refine wp_region_grown3 (phiL [(45,fun v w=>RowAt PT w v (raisedP (coordL n i) (-lo))),(46,FreshRow PT (raisedP (coordL n i) (-lo))),(44,fun v w=>WhAt PT w v (-lo))]) (gL [(44,ShapeI),(45,ShapeS),(46,Shape1)]) 112 12 (by kernel_rfl) (by rfl) (by kernel_rfl) (phi_c (fun _ _ _=>RowAt.below) (phi_c (fun _ _ _=>FreshRow.grow) (phi_c (fun _ _ _=>WhAt.below) phi_n))) ?_
     iterate 9 (refine lex_s fun K hK=>?_;go_simp;refine hK _ ?_;clear hK K)
     refine lex_call ShapeI 63 #[.int .i64 (-lo)] (by rfl) (by rfl) ShapeI.some (fun w=>by go_simp) (fun wq hg hf=>(Of_any PT (-lo) wq (fun _ _=>trivial) (by have:=uh HLO;omega) (by have:=uh HLO;omega)).mono (by rintro e w' ⟨v',rfl,hv,hb⟩;exact ⟨_,rfl,hb,hv.shapeI,fun t ht=>by cases ht;exact hv⟩)) ?_
     rintro _ ⟨bx,ba,bm,bc,rfl⟩
     simp only [Act.put,List.setIfInBounds_toArray,List.set_cons_succ,List.set_cons_zero]
     refine lex_call ShapeS 60 #[.slice (some ⟨wr.heap.size,0,none⟩) (n+1) (n+1),.agg #[.int .i64 bx,.slice ba bm bc]] (by rfl) (by rfl) ShapeS.some (fun w=>by go_simp) (fun wq hg hf=>(raised_any PT 1 (n+1) (coordL n i) (-lo) _ _ wq (fun _ _=>trivial) ((uh HROW5).below hg) (hf 9 (by kernel_rfl) _ 44 rfl rfl) (coord_len n i) (by omega) (by omega) (fun k=>coord_lt (Nat.le_refl _) k) (lt_of_abs (show (-lo).natAbs<1073741824 by have:=uh HLO;omega)) (by omega)).mono (by rintro e w' ⟨v',rfl,hv,hb⟩;exact ⟨_,rfl,hb,hv.shapeS,fun t ht=>by cases ht;exact hv⟩)) ?_
     rintro _ ⟨sa,sm,sc,rfl⟩
     simp only [Act.put,List.setIfInBounds_toArray,List.set_cons_succ,List.set_cons_zero]
     refine lex_grow Shape1 (by rfl) (by rfl) Shape1.some (fun wq hg hf=>⟨.slice (some ⟨wq.heap.size,0,none⟩) 1 1,wq.alloc (.cells #[.slice sa sm sc] 73),by go_simp,Grows.alloc _ _,⟨_,rfl⟩,fun t ht=>by cases ht;exact FreshRow.new (hf 10 (by kernel_rfl) _ 45 rfl rfl)⟩) ?_
     rintro _ ⟨gx,rfl⟩
     simp only [Act.put,List.setIfInBounds_toArray,List.set_cons_succ,List.set_cons_zero]
     refine lex_last ?_
     intro w6 hg6 hphi
     have hfr:FreshRow PT (raisedP (coordL n i) (-lo)) (.slice (some ⟨gx,0,none⟩) 1 1) w6:=hphi 11 _ 46 (by decide) rfl rfl
     clear hphi
     obtain ⟨gx',u,ex,hbx,hru⟩:=hfr
     cases ex
     obtain ⟨sa',sm',sc',rfl⟩:=hru.shapeS
     have HO6:=hide ((uh HO5).grow hg6)
     obtain ⟨xs,hx1,hx2⟩:=(uh HO6).least
     have hll:(rangesL n vs i).length≤1000:=uh HLL
     have hb6:=(uh HO6).b1
     refine wp_append_lies w6 (.tmp 36) (.tmp 46) 76 rfl B 73 i1 (.slice none 0 0) 1 24 Try.underlying76 hi1 hy0 hy1 hy2 rfl (by decide) (.slice la ln lc) (rangesL n vs i).length xs rfl hx1 ⟨gx,0,none⟩ 1 1 [.slice sa' sm' sc'] rfl rfl (fun j u hu=>World.news_of_block hbx j u hu) (by simp [Value.oneCell']) (by decide) (by unfold maxLen;omega) (by omega) hb6 _ rfl ?_
     intro g8 cap8 w7 hown7 hgrow7 hat7 hlt7
     have hadd:=(uh HO6).addLeast hx1 hx2 hru hown7 hgrow7 hat7
     have kb:w7.cell? ⟨w.heap.size+1,2,none⟩=some (.slice la ln lc):=by rw [cellsOf hadd.2];rfl
     have kfb:w7.frozen? ⟨w.heap.size+1,2,none⟩=false:=freeOf hadd.2 2
     have HROW8:Hid (RowAt PT (w7.setCell ⟨w.heap.size+1,2,none⟩ (.slice (some ⟨g8,0,none⟩) ((rangesL n vs i).length+1) cap8)) (.slice (some ⟨wr.heap.size,0,none⟩) (n+1) (n+1)) (coordL n i)):=(((uh HROW5).below hg6).keepT (KeepT.grown hx1 hgrow7 (by decide)) (KeepT.grown hx1 hgrow7 (by decide))).keepT (KeepT.box hadd.2 (by decide)) (KeepT.box hadd.2 (by decide))
     have HO8:=hide hadd.1
     clear hown7 hgrow7 hat7 hlt7 hadd hx1 hx2 hbx hru hg6 HO6 hll hb6
     clear y0 y1 hneg
     have HLL2:Hid ((rangesL n vs i++[raisedP (coordL n i) (-lo)]).length≤1000):=by unfold Hid;rw [List.length_append,rangesL_len];simp;omega
     generalize hL8:rangesL n vs i++[raisedP (coordL n i) (-lo)]=L8 at *
     generalize hn8:(rangesL n vs i).length+1=n8 at *
     clear hL8 hn8
     generalize hW8:w7.setCell ⟨w.heap.size+1,2,none⟩ (.slice (some ⟨g8,0,none⟩) n8 cap8)=W8 at *
     have k2:W8.cell? ⟨w.heap.size+1,2,none⟩=some (.slice (some ⟨g8,0,none⟩) n8 cap8):=by rw [cellsOf (uh HO8).box];rfl
     have c1:=(uh HO8).grows.cell (uh HC1)
     clear HLL HO5 HROW5
     have HLL:=HLL2
     go_wp2_with fail
     try rw [hW8]
     clear hW8 kb kfb
     have y0:=cell_regrown k2
     have y1:=cell_regrown c1
     clear k2 c1
     refine wp_region_grown3 (phiL [(59,fun v w=>RowAt PT w v (raisedP ((coordL n i).map fun x=>-x) hi)),(60,FreshRow PT (raisedP ((coordL n i).map fun x=>-x) hi)),(58,fun v w=>WhAt PT w v hi),(52,fun v w=>RowAt PT w v ((coordL n i).map fun x=>-x))]) (gL [(58,ShapeI),(52,ShapeS),(59,ShapeS),(60,Shape1)]) 112 12 (by kernel_rfl) (by rfl) (by kernel_rfl) (phi_c (fun _ _ _=>RowAt.below) (phi_c (fun _ _ _=>FreshRow.grow) (phi_c (fun _ _ _=>WhAt.below) (phi_c (fun _ _ _=>RowAt.below) phi_n)))) ?_
     iterate 3 (refine lex_s fun K hK=>?_;go_simp;refine hK _ ?_;clear hK K)
     refine lex_call ShapeS 64 #[.slice (some ⟨wr.heap.size,0,none⟩) (n+1) (n+1)] (by rfl) (by rfl) ShapeS.some (fun w=>by go_simp) (fun wq hg hf=>(opposite_any PT (n+1) (coordL n i) _ wq (fun _ _=>trivial) ((uh HROW8).below hg) (coord_len n i) (by omega)).mono (by rintro e w' ⟨v',rfl,hv,hb⟩;exact ⟨_,rfl,hb,hv.shapeS,fun t ht=>by cases ht;exact hv⟩)) ?_
     rintro _ ⟨oa,om,oc,rfl⟩
     simp only [Act.put,List.setIfInBounds_toArray,List.set_cons_succ,List.set_cons_zero]
     iterate 5 (refine lex_s fun K hK=>?_;go_simp;refine hK _ ?_;clear hK K)
     refine lex_call ShapeI 63 #[.int .i64 hi] (by rfl) (by rfl) ShapeI.some (fun w=>by go_simp) (fun wq hg hf=>(Of_any PT hi wq (fun _ _=>trivial) (by have:=uh HHI;omega) (by have:=uh HHI;omega)).mono (by rintro e w' ⟨v',rfl,hv,hb⟩;exact ⟨_,rfl,hb,hv.shapeI,fun t ht=>by cases ht;exact hv⟩)) ?_
     rintro _ ⟨bx,ba,bm,bc,rfl⟩
     simp only [Act.put,List.setIfInBounds_toArray,List.set_cons_succ,List.set_cons_zero]
     refine lex_call ShapeS 60 #[.slice oa om oc,.agg #[.int .i64 bx,.slice ba bm bc]] (by rfl) (by rfl) ShapeS.some (fun w=>by go_simp) (fun wq hg hf=>(raised_any PT 1 (n+1) ((coordL n i).map fun x=>-x) hi _ _ wq (fun _ _=>trivial) (hf 3 (by kernel_rfl) _ 52 rfl rfl) (hf 9 (by kernel_rfl) _ 58 rfl rfl) (by rw [List.length_map];exact coord_len n i) (by omega) (by omega) (neg_lt (fun k=>coord_lt (Nat.le_refl _) k)) (lt_of_abs (show (hi).natAbs<1073741824 by have:=uh HHI;omega)) (by omega)).mono (by rintro e w' ⟨v',rfl,hv,hb⟩;exact ⟨_,rfl,hb,hv.shapeS,fun t ht=>by cases ht;exact hv⟩)) ?_
     rintro _ ⟨sa,sm,sc,rfl⟩
     simp only [Act.put,List.setIfInBounds_toArray,List.set_cons_succ,List.set_cons_zero]
     refine lex_grow Shape1 (by rfl) (by rfl) Shape1.some (fun wq hg hf=>⟨.slice (some ⟨wq.heap.size,0,none⟩) 1 1,wq.alloc (.cells #[.slice sa sm sc] 73),by go_simp,Grows.alloc _ _,⟨_,rfl⟩,fun t ht=>by cases ht;exact FreshRow.new (hf 10 (by kernel_rfl) _ 59 rfl rfl)⟩) ?_
     rintro _ ⟨gx,rfl⟩
     simp only [Act.put,List.setIfInBounds_toArray,List.set_cons_succ,List.set_cons_zero]
     refine lex_last ?_
     intro w6 hg6 hphi
     have hfr:FreshRow PT (raisedP ((coordL n i).map fun x=>-x) hi) (.slice (some ⟨gx,0,none⟩) 1 1) w6:=hphi 11 _ 60 (by decide) rfl rfl
     clear hphi
     obtain ⟨gx',u,ex,hbx,hru⟩:=hfr
     cases ex
     obtain ⟨sa',sm',sc',rfl⟩:=hru.shapeS
     have HO6:=hide ((uh HO8).grow hg6)
     obtain ⟨xs,hx1,hx2⟩:=(uh HO6).least
     have hll:(L8).length≤1000:=uh HLL
     have hb6:=(uh HO6).b1
     refine wp_append_lies w6 (.tmp 50) (.tmp 60) 76 rfl B 73 i1 (.slice none 0 0) 1 24 Try.underlying76 hi1 hy0 hy1 hy2 rfl (by decide) (.slice (some ⟨g8,0,none⟩) n8 cap8) (L8).length xs rfl hx1 ⟨gx,0,none⟩ 1 1 [.slice sa' sm' sc'] rfl rfl (fun j u hu=>World.news_of_block hbx j u hu) (by simp [Value.oneCell']) (by decide) (by unfold maxLen;omega) (by omega) hb6 _ rfl ?_
     intro g9 cap9 w7 hown7 hgrow7 hat7 hlt7
     have hadd:=(uh HO6).addLeast hx1 hx2 hru hown7 hgrow7 hat7
     have kb:w7.cell? ⟨w.heap.size+1,2,none⟩=some (.slice (some ⟨g8,0,none⟩) n8 cap8):=by rw [cellsOf hadd.2];rfl
     have kfb:w7.frozen? ⟨w.heap.size+1,2,none⟩=false:=freeOf hadd.2 2
     have HROW9:Hid (RowAt PT (w7.setCell ⟨w.heap.size+1,2,none⟩ (.slice (some ⟨g9,0,none⟩) ((L8).length+1) cap9)) (.slice (some ⟨wr.heap.size,0,none⟩) (n+1) (n+1)) (coordL n i)):=(((uh HROW8).below hg6).keepT (KeepT.grown hx1 hgrow7 (by decide)) (KeepT.grown hx1 hgrow7 (by decide))).keepT (KeepT.box hadd.2 (by decide)) (KeepT.box hadd.2 (by decide))
     have HO9:=hide hadd.1
     clear hown7 hgrow7 hat7 hlt7 hadd hx1 hx2 hbx hru hg6 HO6 hll hb6
     clear y0 y1 HROW9
     rw [←uh HEQ] at HO9
     rw [←toldL_succ] at HO9
     go_wp2
     go_roundg (gk - 1)
     case measure=>omega
     case rel=>exact ⟨i+1,_,_,by simp,by omega,uh HO9⟩
  ·have hin:i=n:=by omega
   have HO1:Hid (OfAt w wr B n (.slice none 0 0) (.slice la ln lc) (.slice ta tn tc) (zeroL (rs.take 0)) (rangesL n vs n++leastL (rs.take 0)) (toldL n n)):=by
    have:=uh HR
    rw [hin] at this
    unfold Hid
    simpa [zeroL,leastL] using this
   clear hin
   go_wp2_with fail
   clear HR
   rename World=>wo
   rename Nat=>go
   go_loopg [8] m (fun k iv wr=>∃ (i:Nat) (zv lv tv:Value),iv=.int .i64 i∧i+k=m∧Hid (OfAt w wr B n zv lv tv (zeroL (rs.take i)) (rangesL n vs n++leastL (rs.take i)) (toldL n n)))
   case atStart=>exact ⟨0,_,_,_,rfl,by omega,uh HO1⟩
   case round =>
    clear HO1
    clear hik hlt
    obtain ⟨i,zv,lv,tv,rfl,hik,HR⟩:=hrel
    obtain ⟨za,zn,zc,rfl⟩:=(uh HR).zero.shapeS
    obtain ⟨la,ln,lc,rfl⟩:=(uh HR).least.shapeS
    obtain ⟨ta,tn,tc,rfl⟩:=(uh HR).told.shapeS
    by_cases hlt:i<m
    ·obtain ⟨q,hq⟩:∃ q,rs.getD i ([],0,false)=q:=⟨_,rfl⟩
     have HQM:Hid (q∈rs):=by unfold Hid;rw [←hq,List.getD_eq_getElem?_getD,List.getElem?_eq_getElem (by rw [uh HM];exact hlt)];exact List.getElem_mem _
     have HTAKE:Hid (rs.take (i+1)=rs.take i++[q]):=by
      unfold Hid
      rw [←hq,List.take_succ_eq_append_getElem (by rw [uh HM];exact hlt),List.getD_eq_getElem?_getD,List.getElem?_eq_getElem (by rw [uh HM];exact hlt)];rfl
     obtain ⟨gr,or',ua,un,uc,er,r0,hints,r1,r2⟩:=((uh HB).below (uh HR).grows).get (i:=i) (by rw [uh HM];exact hlt)
     rw [hq] at hints r1 r2
     obtain ⟨C,K,E⟩:=q
     simp only at hints r1 r2
     cases er
     have HRC:=hide (And.intro r0 (And.intro r1 r2))
     have HINT:=hide hints
     have hKb:=(uh HRO).k _ (uh HQM)
     have hClen:=(uh HRO).len _ (uh HQM)
     simp only at hKb hClen
     have HCL:Hid (C.length=n):=hClen
     have HCB:=hide ((uh HRO).c _ (uh HQM))
     have hun:n=un:=by
      obtain ⟨ad,cap,e,_⟩:=hints
      cases e;exact hClen.symm
     clear hints hClen hq
     subst hun
     rename_i hlt0
     have hB1:=(uh HR).b1
     go_wp2_with fail
     refine (Of_any PT K wr (fun _ _=>trivial) (by omega) (by omega)).mono ?_
     rintro e w1 ⟨v1,rfl,hv1,hb1⟩
     obtain ⟨kx,ka,km,kc,rfl⟩:=hv1.shape
     have HS1:Hid (NumsOwn PT wr.heap.size (w1.alloc (.cells #[.int .i64 kx,.slice ka km kc] 82)) (.slice (some ⟨w1.heap.size,0,none⟩) 1 1) (K::C.take 0)):=by
      refine ⟨[.int .i64 kx,.slice ka km kc],⟨rfl,.inr ⟨w1.heap.size,1,_,rfl,hb1.size,slot_one _ _,Nat.le_refl _,by decide,rfl,rfl⟩⟩,?_⟩
      exact (RowX.nil PT _).snoc (hv1.below (Grows.alloc _ _))
     have HG1:Hid (Grows wr (w1.alloc (.cells #[.int .i64 kx,.slice ka km kc] 82))):=Grows.trans hb1 (Grows.alloc _ _)
     clear hv1 hb1 r0 r1 r2
     go_wp2_with fail
     generalize hW1:w1.alloc (.cells #[.int .i64 kx,.slice ka km kc] 82)=W1 at *
     obtain ⟨wo,rfl⟩:∃ wo,wo=wr:=⟨_,rfl⟩
     obtain ⟨go',rfl⟩:∃ go',go'=gk:=⟨_,rfl⟩
     clear hW1
     have HOO:=HR
     clear HR
     go_loopg [9,10] n (fun k sv jv wr2=>∃ (j:Nat) (sa:Option Addr) (sn sc:Nat),sv=.slice sa sn sc∧jv=.int .i64 j∧j+k=n∧Hid (NumsOwn PT wo.heap.size wr2 (.slice sa sn sc) (K::C.take j)∧Grows wo wr2))
     case atStart=>exact ⟨0,_,_,_,rfl,rfl,by omega,uh HS1,uh HG1⟩
     case round =>
      clear HS1 HG1
      obtain ⟨j,sa,sn,sc,rfl,rfl,hjk,HR⟩:=hrel
      by_cases hj:j<n
      ·have r0:=(uh HR).2.cell (uh HRC).1
       obtain ⟨ad,cap,ei,hcell⟩:=(uh HINT).below (uh HR).2
       cases ei
       obtain ⟨gc,oc,eg,c0⟩:=hcell j (by rw [uh HCL];exact hj)
       cases eg
       obtain ⟨c,hc⟩:∃ c,C.getD j 0=c:=⟨_,rfl⟩
       rw [hc] at c0
       have hcb:-1000≤c∧c≤1000:=by
        rw [←hc,List.getD_eq_getElem?_getD,List.getElem?_eq_getElem (by rw [uh HCL];exact hj)]
        exact uh HCB _ (List.getElem_mem _)
       have HCT:Hid (C.take (j+1)=C.take j++[c]):=by
        unfold Hid
        rw [←hc,List.take_succ_eq_append_getElem (by rw [uh HCL];exact hj),List.getD_eq_getElem?_getD,List.getElem?_eq_getElem (by rw [uh HCL];exact hj)];rfl
       have HTL:Hid ((K::C.take j).length=j+1):=by
        unfold Hid
        rw [List.length_cons,List.length_take,uh HCL];omega
       have hCn:(j:Int)<(C.length:Int):=by rw [uh HCL];omega
       clear hc hcell
       go_wp2_with fail
       refine (Of_any PT c wr (fun _ _=>trivial) (by omega) (by omega)).mono ?_
       rintro e w2 ⟨v2,rfl,hv2,hb2⟩
       obtain ⟨cx,ca,cm,cc,rfl⟩:=hv2.shape
       obtain ⟨xs,hx1,hx2⟩:=(uh HR).1.grow hb2
       have hsn:sn=j+1:=by
        rw [←uh HTL]
        rcases hx1.2 with ⟨e,h0⟩|⟨g,cap,cur,e,_⟩
        ·cases e;exact h0.symm
        ·cases e;rfl
       rw [uh HTL] at hx1
       have HX1:=hide hx1
       have HX2:=hide hx2
       have HOW:=hide (fun o=>hx1.alloc o)
       have HSN:=hide hsn
       have HV2:=hide hv2
       have HB2:Hid (Grows wr w2):=hb2
       have hsz2:wo.heap.size≤w2.heap.size:=Nat.le_trans (uh HR).2.size hb2.size
       clear hx1 hx2 hsn hv2 hb2 r0 c0
       go_wp2_with (at_builtin;refine wpList_append_lies _ rfl _ _ 73 rfl wo.heap.size 82 i0 (.agg #[.int .i64 0,.slice none 0 0]) 2 32 Try.underlying73 hi0 hz0 hz1 hz2 rfl (by decide) _ (j+1) xs rfl (uh HOW _) ⟨_,0,none⟩ 1 1 [.int .i64 cx,.slice ca cm cc] rfl rfl ?d1 (by simp [Value.oneCell']) (by decide) ?d2 ?d3 ?d4 _ rfl ?_)
       case d1=>exact fun j u hu=>World.news_of_block (heap_alloc_new _ _) j u hu
       case d2=>unfold maxLen;omega
       case d3=>omega
       case d4=>simp;omega
       ·intro g cap w3 hown3 hgrow3 hat3 hlt3
        have hgA:=Grows.alloc w2 (.cells #[.int .i64 cx,.slice ca cm cc] 82)
        have kt:KeepT 3 (w2.alloc (.cells #[.int .i64 cx,.slice ca cm cc] 82)) w3:=KeepT.grown (uh HOW _) hgrow3 (by decide)
        have HN3:Hid (NumsOwn PT wo.heap.size w3 (.slice (some ⟨g,0,none⟩) (j+1+1) cap) (K::C.take (j+1))):=by
         unfold Hid
         rw [uh HCT,←List.cons_append]
         refine ⟨xs++[.int .i64 cx,.slice ca cm cc],?_,?_⟩
         ·rw [List.length_append,uh HTL];exact hown3
         ·exact (((uh HX2).grow hgA).keepT kt).snoc (((uh HV2).below hgA).keep kt)
        have HG3:Hid (Grows wo w3):=Below.trans ((uh HR).2.trans ((uh HB2).trans hgA)) (Below.grown (Below.refl _ _) hgrow3 (by rw [World.size_alloc];omega) (own_base (uh HOW (.cells #[.int .i64 cx,.slice ca cm cc] 82))))
        clear hown3 hgrow3 hat3 hlt3 hgA kt HOW HX1 HX2
        go_wp2
        go_roundg (gk - 1)
        case measure=>omega
        case rel=>exact ⟨j+1,_,_,_,rfl,by simp,by omega,uh HN3,uh HG3⟩
      ·have hjn:j=n:=by omega
       have HRN:Hid (NumsOwn PT wo.heap.size wr (.slice sa sn sc) (K::C)):=by
        unfold Hid
        have h1:=(uh HR).1
        rwa [hjn,←uh HCL,List.take_length] at h1
       have HROW:Hid (RowAt PT wr (.slice sa sn sc) (K::C)):=(uh HRN).row (fun _ _=>trivial)
       have HO3:=hide ((uh HOO).grow (uh HR).2)
       have r2:=(uh HR).2.cell (uh HRC).2.2
       clear hjn HRN
       cases E with
       | true =>
        have HZE:Hid (zeroL (rs.take (i+1))=zeroL (rs.take i)++[K::C]∧leastL (rs.take (i+1))=leastL (rs.take i)):=by
         unfold Hid zeroL leastL
         rw [uh HTAKE,List.filter_append,List.filter_append,List.map_append,List.map_append]
         exact ⟨by simp [rowL],by simp [rowL]⟩
        have kk:wr.cell? ⟨w.heap.size+1,1,none⟩=some (.slice za zn zc):=by rw [cellsOf (uh HO3).box];rfl
        obtain ⟨xs,hx1,hx2⟩:=(uh HO3).zero
        have HX2:=hide hx2
        have HOW:=hide (fun o=>hx1.alloc o)
        have hll:(zeroL (rs.take i)).length≤1000:=by unfold zeroL;rw [List.length_map];have h1:=List.length_filter_le (fun q:RowP=>q.2.2) (rs.take i);rw [List.length_take] at h1;have h2:=uh HM;omega
        have hb1:=(uh HO3).b1
        clear hx1 hx2
        go_wp2_with (at_builtin;refine wpList_append_lies _ rfl _ _ 76 rfl B 73 i1 (.slice none 0 0) 1 24 Try.underlying76 hi1 hy0 hy1 hy2 rfl (by decide) _ (zeroL (rs.take i)).length xs rfl (uh HOW _) ⟨_,0,none⟩ 1 1 [.slice sa sn sc] rfl rfl ?d1 (by simp [Value.oneCell']) (by decide) ?d2 ?d3 ?d4 _ rfl ?_)
        case d1=>exact fun j u hu=>World.news_of_block (heap_alloc_new _ _) j u hu
        case d2=>unfold maxLen;omega
        case d3=>omega
        case d4=>simp;omega
        ·intro g cap w4 hown4 hgrow4 hat4 hlt4
         have hgA:=Grows.alloc wr (.cells #[.slice sa sn sc] 73)
         have hadd:=((uh HO3).grow hgA).addZero (uh HOW _) ((uh HX2).grow (.of_below hgA)) ((uh HROW).below hgA) hown4 hgrow4 (by rcases hat4 with e | e;exact .inl e;exact .inr (by rw [e,World.size_alloc]))
         have kb:w4.cell? ⟨w.heap.size+1,1,none⟩=some (.slice za zn zc):=by rw [cellsOf hadd.2];rfl
         have kfb:w4.frozen? ⟨w.heap.size+1,1,none⟩=false:=freeOf hadd.2 1
         have HO5:=hide hadd.1
         rw [←(uh HZE).1,←(uh HZE).2] at HO5
         clear hown4 hgrow4 hat4 hlt4 hadd hgA HOW HX2
         go_wp2
         go_roundg (go' - 1)
         case measure=>omega
         case rel=>exact ⟨i+1,_,_,_,by simp,by omega,uh HO5⟩
       | false =>
        have HZE:Hid (zeroL (rs.take (i+1))=zeroL (rs.take i)∧leastL (rs.take (i+1))=leastL (rs.take i)++[K::C]):=by
         unfold Hid zeroL leastL
         rw [uh HTAKE,List.filter_append,List.filter_append,List.map_append,List.map_append]
         exact ⟨by simp [rowL],by simp [rowL]⟩
        obtain ⟨LL,hLL⟩:∃ LL,rangesL n vs n++leastL (rs.take i)=LL:=⟨_,rfl⟩
        have HLE:=hide hLL
        rw [hLL] at HO3
        have kk:wr.cell? ⟨w.heap.size+1,2,none⟩=some (.slice la ln lc):=by rw [cellsOf (uh HO3).box];rfl
        obtain ⟨xs,hx1,hx2⟩:=(uh HO3).least
        have HX2:=hide hx2
        have HOW:=hide (fun o=>hx1.alloc o)
        have hll:LL.length≤1000:=by rw [←hLL,List.length_append,rangesL_len];unfold leastL;rw [List.length_map];have h1:=List.length_filter_le (fun q:RowP=>!q.2.2) (rs.take i);rw [List.length_take] at h1;have h2:=uh HM;omega
        have hb1:=(uh HO3).b1
        clear hx1 hx2 hLL
        go_wp2_with (at_builtin;refine wpList_append_lies _ rfl _ _ 76 rfl B 73 i1 (.slice none 0 0) 1 24 Try.underlying76 hi1 hy0 hy1 hy2 rfl (by decide) _ LL.length xs rfl (uh HOW _) ⟨_,0,none⟩ 1 1 [.slice sa sn sc] rfl rfl ?d1 (by simp [Value.oneCell']) (by decide) ?d2 ?d3 ?d4 _ rfl ?_)
        case d1=>exact fun j u hu=>World.news_of_block (heap_alloc_new _ _) j u hu
        case d2=>unfold maxLen;omega
        case d3=>omega
        case d4=>simp;omega
        ·intro g cap w4 hown4 hgrow4 hat4 hlt4
         have hgA:=Grows.alloc wr (.cells #[.slice sa sn sc] 73)
         have hadd:=((uh HO3).grow hgA).addLeast (uh HOW _) ((uh HX2).grow (.of_below hgA)) ((uh HROW).below hgA) hown4 hgrow4 (by rcases hat4 with e | e;exact .inl e;exact .inr (by rw [e,World.size_alloc]))
         have kb:w4.cell? ⟨w.heap.size+1,2,none⟩=some (.slice la ln lc):=by rw [cellsOf hadd.2];rfl
         have kfb:w4.frozen? ⟨w.heap.size+1,2,none⟩=false:=freeOf hadd.2 2
         have HO5:=hide hadd.1
         rw [show LL++[K::C]=rangesL n vs n++leastL (rs.take (i+1)) by rw [←uh HLE,List.append_assoc,←(uh HZE).2],←(uh HZE).1] at HO5
         clear hown4 hgrow4 hat4 hlt4 hadd hgA HOW HX2
         go_wp2
         go_roundg (go' - 1)
         case measure=>omega
         case rel=>exact ⟨i+1,_,_,_,by simp,by omega,uh HO5⟩
    ·have him:i=m:=by omega
     have HO3:Hid (OfAt w wr B n (.slice za zn zc) (.slice la ln lc) (.slice ta tn tc) (zeroL rs) (rangesL n vs n++leastL rs) (toldL n n)):=by
      have h1:=uh HR
      unfold Hid
      rwa [him,←uh HM,List.take_length] at h1
     have k0:wr.cell? ⟨w.heap.size+1,0,none⟩=some (.int .i64 n):=by rw [cellsOf (uh HO3).box];rfl
     have k1:wr.cell? ⟨w.heap.size+1,1,none⟩=some (.slice za zn zc):=by rw [cellsOf (uh HO3).box];rfl
     have k2:wr.cell? ⟨w.heap.size+1,2,none⟩=some (.slice la ln lc):=by rw [cellsOf (uh HO3).box];rfl
     have k3:wr.cell? ⟨w.heap.size+1,3,none⟩=some (.slice ta tn tc):=by rw [cellsOf (uh HO3).box];rfl
     have z0:wr.cell? ⟨w.heap.size,0,none⟩=some (.int .i64 0):=by rw [cellsOf (uh HO3).res];rfl
     have z1:wr.cell? ⟨w.heap.size,1,none⟩=some (.slice none 0 0):=by rw [cellsOf (uh HO3).res];rfl
     have z2:wr.cell? ⟨w.heap.size,2,none⟩=some (.slice none 0 0):=by rw [cellsOf (uh HO3).res];rfl
     have z3:wr.cell? ⟨w.heap.size,3,none⟩=some (.slice none 0 0):=by rw [cellsOf (uh HO3).res];rfl
     have y0:=freeOf (uh HO3).res 0
     have y1:=freeOf (uh HO3).res 1
     have y2:=freeOf (uh HO3).res 2
     have y3:=freeOf (uh HO3).res 3
     have HSF:=hide (reg_store (P:=PT) (uh HO3).grows (Nat.le_refl _) (uh HO3).res (n:Int) za zn zc la ln lc ta tn tc)
     have HRF:Hid (RegAt PT ((((wr.setCell ⟨w.heap.size,0,none⟩ (.int .i64 n)).setCell ⟨w.heap.size,1,none⟩ (.slice za zn zc)).setCell ⟨w.heap.size,2,none⟩ (.slice la ln lc)).setCell ⟨w.heap.size,3,none⟩ (.slice ta tn tc)) (.agg #[.int .i64 n,.slice za zn zc,.slice la ln lc,.slice ta tn tc]) (regOfP vs rs)):=by
      have e:regOfP vs rs=⟨n,zeroL rs,rangesL n vs n++leastL rs,toldL n n⟩:=by unfold regOfP;rw [uh HN]
      unfold Hid
      rw [e]
      exact ⟨_,_,_,rfl,((uh HO3).zero.rows (fun _ _=>trivial)).holds (uh HSF).2,((uh HO3).least.rows (fun _ _=>trivial)).holds (uh HSF).2,((uh HO3).told.rows (fun _ _=>trivial)).holds (uh HSF).2⟩
     clear him
     go_wp2
     exact bodyPost_ret (v:=.agg #[.int .i64 n,.slice za zn zc,.slice la ln lc,.slice ta tn tc]) (by simp [results,Try.results43,go_sem,z0,z1,z2,z3]) rfl ⟨_,rfl,uh HRF,(uh HSF).1⟩
end Go.Proofs.Ytfaljekgpnbmiaa
