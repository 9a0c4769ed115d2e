/- Joined: XLim3 XTrim2 XTrim3. -/
import Derived.Test.YtfaljekgpnbmiaaJ33
set_option linter.unusedVariables false
set_option linter.unusedSimpArgs false
set_option maxRecDepth 100000
namespace Go.Proofs.Ytfaljekgpnbmiaa
open Go.RowKit Go.Sort
theorem turns_below {w w1 w2:World} {b gl gc:Nat} (hg:Grows w w1) (h1:w.heap.size≤b) (h2:w.heap.size≤gl) (h3:w.heap.size≤gc) (ht:Turns (Own3 b gl gc) w1 w2):Grows w w2 :=
 Below.trans hg (ht.below (fun k hk=>by rcases hk with e | e | e <;> omega) hg.size)
def coordL (n at_:Nat):List Int:=(List.range (n+1)).map (Pl.unit (at_+1))
theorem coord_ev {n at_:Nat} (h:at_<n) (x:Nat→Int):Pl.ev n (lf (coordL n at_)) (Pl.pt x)=x at_:=by
 have:Pl.ev n (lf (coordL n at_)) (Pl.pt x)=Pl.ev n (Pl.unit (at_+1)) (Pl.pt x):=ev_same (fun k hk=>by unfold lf coordL;exact Pl.getD_map_range _ _ _ (by omega)) x
 rw [this,Pl.ev_unit n _ (at_+1) (by omega)]
 unfold Pl.pt;rw [if_neg (by omega)];rfl
theorem coord_lt {n at_ L:Nat} (hL:1≤L) (k:Nat):Pl.Lt L ((coordL n at_).getD k 0):=by
 obtain ⟨L',rfl⟩:∃ L',L=L'+1:=⟨L - 1,by omega⟩
 unfold coordL
 by_cases hk:k<n+1
 ·rw [Pl.getD_map_range _ _ _ hk];unfold Pl.unit;split <;> exact one_small (by decide)
 ·rw [List.getD_eq_getElem?_getD,List.getElem?_eq_none (by simp;omega)];exact one_small (by decide)
theorem two_ret {w0 w3:World} (hG:Grows w0 w3) {g1 g2:Nat} (n1:w0.heap.size≤g1) (n2:w0.heap.size≤g2) (hne:g1≠g2) {c1 c2:Array Value} (b1:w3.heap[g1]?=some (.cells c1 82 (0,0))) (b2:w3.heap[g2]?=some (.cells c2 82 (0,0))) {x y:Int} {a d:Option Addr} {m c e f:Nat} {u v:Int} (hu:WhAt PT w3 (.agg #[.int .i64 x,.slice a m c]) u) (hv:WhAt PT w3 (.agg #[.int .i64 y,.slice d e f]) v) :
  Grows w0 ((((w3.setCell ⟨g1,0,none⟩ (.int .i64 x)).setCell ⟨g1,1,none⟩ (.slice a m c)).setCell ⟨g2,0,none⟩ (.int .i64 y)).setCell ⟨g2,1,none⟩ (.slice d e f))∧WhAt PT ((((w3.setCell ⟨g1,0,none⟩ (.int .i64 x)).setCell ⟨g1,1,none⟩ (.slice a m c)).setCell ⟨g2,0,none⟩ (.int .i64 y)).setCell ⟨g2,1,none⟩ (.slice d e f)) (.agg #[.int .i64 x,.slice a m c]) u∧WhAt PT ((((w3.setCell ⟨g1,0,none⟩ (.int .i64 x)).setCell ⟨g1,1,none⟩ (.slice a m c)).setCell ⟨g2,0,none⟩ (.int .i64 y)).setCell ⟨g2,1,none⟩ (.slice d e f)) (.agg #[.int .i64 y,.slice d e f]) v:=by
 have e1:=heap_setCell_same w3 g1 0 _ _ (.int .i64 x) b1
 have e2:((w3.setCell ⟨g1,0,none⟩ (.int .i64 x)).setCell ⟨g1,1,none⟩ (.slice a m c)).heap[g2]?=some (.cells c2 82 (0,0)):=(Below.heap_setCell _ _ _ _ (Ne.symm hne)).trans ((Below.heap_setCell _ _ _ _ (Ne.symm hne)).trans b2)
 have e3:=heap_setCell_same _ g2 0 _ _ (.int .i64 y) e2
 have kt:KeepT 3 w3 ((((w3.setCell ⟨g1,0,none⟩ (.int .i64 x)).setCell ⟨g1,1,none⟩ (.slice a m c)).setCell ⟨g2,0,none⟩ (.int .i64 y)).setCell ⟨g2,1,none⟩ (.slice d e f)):=(((KeepT.setCell b1 (by decide) _ _).trans (KeepT.setCell e1 (by decide) _ _)).trans (KeepT.setCell e2 (by decide) _ _)).trans (KeepT.setCell e3 (by decide) _ _)
 exact ⟨(((Below.setCell (p:=⟨g1,0,none⟩) hG n1 _).setCell (p:=⟨g1,1,none⟩) n1 _).setCell (p:=⟨g2,0,none⟩) n2 _).setCell (p:=⟨g2,1,none⟩) n2 _,hu.keep kt,hv.keep kt⟩
theorem whole_zero (P:Nat→Prop) (w:World):WhAt P w (.agg #[.int .i64 0,.slice none 0 0]) 0:=.inl ⟨rfl,show (-4611686018427387904:Int)<0 by decide,show (0:Int)<4611686018427387904 by decide⟩
theorem VarAt.holds {P:Nat→Prop} {w w':World} {g:Nat} {x:Int} {a:Option Addr} {m c:Nat} {n:Int} (h:VarAt P w g x a m c n) (hp:P g) (hh:Holds P w w'):VarAt P w' g x a m c n:=⟨(hh g _ _ (.inr (.inl rfl)) hp h.heap).trans h.heap,h.val.keepP hh.nums⟩
set_option maxHeartbeats 2000000 in
theorem limits_any (r:RegL) (L at_:Nat) (vr:Value) (w:World) (h:RegAt PT w vr r) (hf:RegFit L r) (hat:at_<r.size) (hK:2*((r.size+1)*L+1)+1≤1500000000000) :
  Calls Try.prog 122 #[vr,.int .i64 at_] w fun e w'=>∃ (v1 v2:Value) (lo hi:Int),e=.returned (.tuple #[v1,v2])∧WhAt PT w' v1 lo∧WhAt PT w' v2 hi∧Below w.heap.size w w'∧(∀ x,r.reg.Has x→lo≤x at_∧x at_≤hi)∧Pl.Lt ((r.size+1)*L+1) lo∧Pl.Lt ((r.size+1)*L+1) hi:=by
 obtain ⟨i0,hi0,hz0,hz1,hz2⟩:=info_parts Try.infoWhole
 obtain ⟨vz,vl,vt,rfl,h1,h2,h3⟩:=h
 obtain ⟨za,zn,zc,rfl⟩:=h1.shapeS
 obtain ⟨la,ln,lc,rfl⟩:=h2.shapeS
 obtain ⟨ta,tn,tc,rfl⟩:=h3.shapeS
 have HF:=hide hf
 obtain ⟨W,hW⟩:∃ W,((w.alloc (.cells #[.int .i64 r.size,.slice za zn zc,.slice la ln lc,.slice ta tn tc] 78)).alloc (.cells #[.int .i64 0,.slice none 0 0] 82)).alloc (.cells #[.int .i64 0,.slice none 0 0] 82)=W:=⟨_,rfl⟩
 have HG:Hid (Grows w W):=by unfold Hid;rw [←hW];exact Grows.trans (Grows.trans (Grows.alloc _ _) (Grows.alloc _ _)) (Grows.alloc _ _)
 have b0:W.heap[w.heap.size]?=some (.cells #[.int .i64 r.size,.slice za zn zc,.slice la ln lc,.slice ta tn tc] 78 (0,0)):=by rw [←hW];exact Below.same (Grows.trans (Grows.alloc _ _) (Grows.alloc _ _)) _ _ (slot_one _ _)
 have b1:W.heap[w.heap.size+1]?=some (.cells #[.int .i64 0,.slice none 0 0] 82 (0,0)):=by
  have:=Below.same (Grows.alloc ((w.alloc (.cells #[.int .i64 r.size,.slice za zn zc,.slice la ln lc,.slice ta tn tc] 78)).alloc (.cells #[.int .i64 0,.slice none 0 0] 82)) (.cells #[.int .i64 0,.slice none 0 0] 82)) _ _ (slot_one (w.alloc (.cells #[.int .i64 r.size,.slice za zn zc,.slice la ln lc,.slice ta tn tc] 78)) (.cells #[.int .i64 0,.slice none 0 0] 82))
  rw [←hW];rwa [World.size_alloc] at this
 have b2:W.heap[w.heap.size+1+1]?=some (.cells #[.int .i64 0,.slice none 0 0] 82 (0,0)):=by
  have:=slot_one ((w.alloc (.cells #[.int .i64 r.size,.slice za zn zc,.slice la ln lc,.slice ta tn tc] 78)).alloc (.cells #[.int .i64 0,.slice none 0 0] 82)) (.cells #[.int .i64 0,.slice none 0 0] 82)
  rw [←hW];rwa [World.size_alloc,World.size_alloc] at this
 have k0:W.cell? ⟨w.heap.size,0,none⟩=some (.int .i64 r.size):=by rw [cellsOf b0];rfl
 have k2:W.cell? ⟨w.heap.size,2,none⟩=some (.slice la ln lc):=by rw [cellsOf b0];rfl
 have HB:=hide (And.intro b0 (And.intro b1 b2))
 have HNW:=hide (new_reg hf (.slice la ln lc) W (h2.below (uh HG)) hK)
 clear h1 h2 h3 b0 b1 b2
 go_enter Try.func122,Try.ntmps122
 go_wp2_with fail
 try rw [hW]
 clear hW
 refine (uh HNW).mono ?_
 rintro e w1 ⟨b,gl,gc,t1,rfl,q1,q2,q3,hT1,hG1,hgood⟩
 have HT1:=hide hT1
 have HG1:=hide hG1
 have HEM:=hide (empty_reg hf w1 hT1 hgood hK)
 clear hT1 hG1 hgood HNW k0 k2
 go_wp2_with fail
 refine (uh HEM).mono ?_
 rintro e w2 ⟨ans,t2,rfl,hT2,hU2,hfl,htr⟩
 have HT2:=hide hT2
 have HG2:Hid (Grows W w2):=turns_below (uh HG1) q1 q2 q3 hU2
 have HB2:=hide (And.intro (Below.same (uh HG2) _ _ (uh HB).1) (And.intro (Below.same (uh HG2) _ _ (uh HB).2.1) (Below.same (uh HG2) _ _ (uh HB).2.2)))
 clear hT2 hU2 HEM HG1 HT1
 have k0:w2.cell? ⟨w.heap.size,0,none⟩=some (.int .i64 r.size):=by rw [cellsOf (uh HB2).1];rfl
 cases ans with
 | true =>
  have HNO:=hide (htr rfl)
  clear hfl htr
  go_wp2_with fail
  refine (Of_any PT 1 w2 (fun _ _=>trivial) (by decide) (by decide)).mono ?_
  rintro e w3 ⟨v3,rfl,hv3,hw3⟩
  obtain ⟨ox,oa,om,oc,rfl⟩:=hv3.shape
  have c1:=Below.same hw3 _ _ (uh HB2).2.1
  have c2:=Below.same hw3 _ _ (uh HB2).2.2
  obtain ⟨z0,z1,z2,z3⟩:=int_cells c1
  obtain ⟨y0,y1,y2,y3⟩:=int_cells c2
  have HTR:=hide (two_ret (((uh HG).trans (uh HG2)).trans hw3) (show w.heap.size≤w.heap.size+1 by omega) (show w.heap.size≤w.heap.size+1+1 by omega) (by omega) c1 c2 hv3 (whole_zero PT w3))
  clear hv3 hw3 c1 c2 k0
  go_wp2
  obtain ⟨L',hL'⟩:∃ L',(r.size+1)*L+1=L'+1:=⟨_,rfl⟩
  exact bodyPost_ret (v:=.tuple #[.agg #[.int .i64 ox,.slice oa om oc],.agg #[.int .i64 0,.slice none 0 0]]) (by simp [results,Try.results122,go_sem,z0,z1,y0,y1]) rfl ⟨_,_,1,0,rfl,(uh HTR).2.1,(uh HTR).2.2,(uh HTR).1,fun x hx=>absurd hx (uh HNO x),one_small (by decide),one_small (by decide)⟩
 | false =>
  have HRT:=hide (hfl rfl)
  clear hfl htr
  have hwn:IntKind.i64.wrap ((r.size:Int)+1)=((r.size+1:Nat):Int):=by rw [IntKind.wrap_i64];have:=(uh HF).size;omega
  have hs9:=(uh HF).size
  go_wp2_with (at_make;refine wpList_make_full _ rfl _ _ 73 rfl w2.heap.size 82 i0 (.agg #[.int .i64 0,.slice none 0 0]) 2 Try.underlying73 hi0 hz0 hz1 .i64 .i64 _ _ (r.size+1) rfl rfl ?e1 ?e2 ?c1 ?c2 ?c3 ?_)
  case e1=>first | rfl | omega | simp
  case e2=>first | rfl | omega | simp
  case c1=>rw [hz2];omega
  case c2=>unfold maxLen;omega
  case c3=>first | omega | simp
  ·intro w3 hown hgrow
   have hG3:Grows w2 w3:=(Below.refl _ _).grown hgrow (Nat.le_refl _) (by intro k hk;cases hk)
   have HR3:Hid (RowIn (·≠gc) w3 w2.heap.size (r.size+1) (fun _=>0)):=RowIn.made hown
   have HG3:=hide hG3
   have hgcl:=(uh HT2).lt.2.2.1
   have w1':IntKind.i64.wrap ((at_:Int)+1)=(at_:Int)+1:=by rw [IntKind.wrap_i64];omega
   have t1':((at_:Int)+1).toNat=at_+1:=by omega
   have l1':(at_:Int)+1<(r.size:Int)+1:=by omega
   have l2':0≤(at_:Int)+1:=by omega
   clear hown hgrow hG3 k0
   go_wp2_with fail
   refine (Of_any (·≠gc) 1 w3 (fun b' hb' e=>by have:=(uh HG3).size;omega) (by decide) (by decide)).mono ?_
   rintro e w4 ⟨v4,rfl,hv4,hw4⟩
   obtain ⟨ox,oa,om,oc,rfl⟩:=hv4.shape
   have hR4:=(uh HR3).grow hw4
   obtain ⟨qx,qa,qm,qc,r0,r1,_,f0,f1⟩:=hR4.get (i:=at_+1) (by omega)
   obtain ⟨W4,hW4⟩:∃ W,(w4.setCell ⟨w2.heap.size,(at_+1)*2,none⟩ (.int .i64 ox)).setCell ⟨w2.heap.size,(at_+1)*2+1,none⟩ (.slice oa om oc)=W:=⟨_,rfl⟩
   have HROW:Hid (RowAt (·≠gc) W4 (.slice (some ⟨w2.heap.size,0,none⟩) (r.size+1) (r.size+1)) (coordL r.size at_)):=by
    unfold Hid
    rw [←hW4]
    have:=((hR4.set (i:=at_+1) (by omega) hv4).congr (f':=Pl.unit (at_+1)) (fun k _=>by
     unfold updF Pl.unit
     by_cases h:k=at_+1
     ·rw [if_pos h,if_pos h.symm]
     ·rw [if_neg h,if_neg (fun e=>h e.symm)])).row (show w2.heap.size≠gc by omega)
    exact this
   have HG4:Hid (Grows w2 W4):=by
    unfold Hid
    rw [←hW4]
    exact (Below.setCell (p:=⟨w2.heap.size,(at_+1)*2,none⟩) (Grows.trans (uh HG3) hw4) (Nat.le_refl _) _).setCell (p:=⟨w2.heap.size,(at_+1)*2+1,none⟩) (Nat.le_refl _) _
   have HT4:=hide ((uh HT2).grow (uh HG4))
   have HLO:=hide (lowest_reg (·≠gc) hf (uh HRT) _ W4 (fun b' hb' e=>by have:=(uh HT4).lt.2.2.1;omega) (uh HT4) (uh HROW) (by simp [coordL]) (fun k=>coord_lt (uh HF).one k) hK)
   clear hv4 hw4 hR4 HR3 HG3 HT2
   go_wp2_with fail
   try rw [hW4]
   refine (uh HLO).mono ?_
   rintro e w5 ⟨v5,gl5,t5,rfl,hT5,hgl5,hU5,hv5,hTop5,hRT5,hlt5⟩
   obtain ⟨lx,la',lm,lc',rfl⟩:=hv5.shape
   have hgW:Grows W w2:=uh HG2
   have hgr5:Grows W w5:=turns_below (hgW.trans (uh HG4)) q1 q2 q3 hU5
   have hgl5':W.heap.size≤gl5:=by rcases hgl5 with e | e;omega;have:=(hgW.trans (uh HG4)).size;omega
   have HS5:Hid (W.heap.size≤w5.heap.size):=hgr5.size
   have HV5:=hide (var_new hv5)
   have HROW5:=hide (((uh HROW).holds (turn_holds (uh HT4) hU5)).below (Grows.alloc w5 (.cells #[.int .i64 lx,.slice la' lm lc'] 82)))
   have HT5:=hide (hT5.grow (Grows.alloc w5 (.cells #[.int .i64 lx,.slice la' lm lc'] 82)))
   have HG5:Hid (Grows W (w5.alloc (.cells #[.int .i64 lx,.slice la' lm lc'] 82))):=hgr5.trans (Grows.alloc _ _)
   have HTP5:=hide hTop5
   have HL5:=hide hlt5
   have hne5:w5.heap.size≠gc:=by have:=hT5.lt.2.2.1;omega
   have HHI:=hide (highest_reg (·≠gc) hf hRT5 _ (w5.alloc (.cells #[.int .i64 lx,.slice la' lm lc'] 82)) (fun b' hb' e=>by have:=(uh HT5).lt.2.2.1;omega) (uh HT5) (uh HROW5) (by simp [coordL]) (fun k=>coord_lt (uh HF).one k) hK)
   clear hT5 hU5 hv5 hTop5 hRT5 hlt5 hgr5 hgW HLO hW4 r0 r1 f0 f1 HROW HT4
   go_wp2_with fail
   refine (uh HHI).mono ?_
   rintro e w6 ⟨v6,gl6,t6,rfl,hT6,hgl6,hU6,hv6,hTop6,hRT6,hlt6⟩
   obtain ⟨hx,ha',hm,hc',rfl⟩:=hv6.shape
   have hgr6:Grows W w6:=turns_below (uh HG5) q1 hgl5' q3 hU6
   have HS6:Hid (W.heap.size≤w6.heap.size):=hgr6.size
   have HV6:=hide (var_new hv6)
   have HV5':=hide (((uh HV5).holds hne5 (turn_holds (uh HT5) hU6)).grow (Grows.alloc w6 (.cells #[.int .i64 hx,.slice ha' hm hc'] 82)))
   have HG6:Hid (Grows W (w6.alloc (.cells #[.int .i64 hx,.slice ha' hm hc'] 82))):=hgr6.trans (Grows.alloc _ _)
   have HANS:Hid (∀ x,r.reg.Has x→-Int.fdiv (t5.cell r.least.length 0) t5.scale≤x at_∧x at_≤Int.fdiv (t6.cell r.least.length 0) t6.scale):=fun x hxx=>by
    have hin:=(has_inall x).1 fun a ha=>hxx.least (lf a) (List.mem_map.2 ⟨a,ha,rfl⟩)
    have e5:=(uh HTP5).le (uh HRT).names hin
    have e6:=hTop6.le (uh HRT).names hin
    rw [neg_lf,ev_neg,coord_ev hat] at e5
    rw [coord_ev hat] at e6
    omega
   have HL6:=hide hlt6
   clear hT6 hU6 hv6 hTop6 hRT6 hlt6 hgr6 HHI HT5 HROW5 HV5 HG5 HTP5
   have c1:=Below.same (uh HG6) _ _ (uh HB).2.1
   have c2:=Below.same (uh HG6) _ _ (uh HB).2.2
   obtain ⟨z0,z1,z2,z3⟩:=int_cells c1
   obtain ⟨y0,y1,y2,y3⟩:=int_cells c2
   have u0:=(uh HV5').cells.1
   have u1:=(uh HV5').cells.2.1
   have u2:=(uh HV6).cells.1
   have u3:=(uh HV6).cells.2.1
   have HTR:=hide (two_ret ((uh HG).trans (uh HG6)) (show w.heap.size≤w.heap.size+1 by omega) (show w.heap.size≤w.heap.size+1+1 by omega) (by omega) c1 c2 ((uh HV5').val.mono (fun _ _ _=>trivial)) ((uh HV6).val.mono (fun _ _ _=>trivial)))
   have hWs:w.heap.size+1+1<W.heap.size:=lt_of_block (uh HB).2.2
   have hs6:W.heap.size≤w6.heap.size:=uh HS6
   have hs5:W.heap.size≤w5.heap.size:=uh HS5
   have d1:w6.heap.size≠w.heap.size+1:=by omega
   have d2:w6.heap.size≠w.heap.size+1+1:=by omega
   have d3:w5.heap.size≠w.heap.size+1:=by omega
   have d4:w5.heap.size≠w.heap.size+1+1:=by omega
   have d5:=Ne.symm d1
   have d6:=Ne.symm d2
   have d7:=Ne.symm d3
   have d8:=Ne.symm d4
   clear c1 c2
   go_wp2_with fail
   go_region
   all_goals
    go_wp2
    exact bodyPost_ret (v:=.tuple #[.agg #[.int .i64 lx,.slice la' lm lc'],.agg #[.int .i64 hx,.slice ha' hm hc']]) (by simp [results,Try.results122,go_sem,z0,z1,y0,y1]) rfl ⟨_,_,_,_,rfl,(uh HTR).2.1.below (Below.drew (Below.refl _ _)),(uh HTR).2.2.below (Below.drew (Below.refl _ _)),Below.drew (uh HTR).1,uh HANS,uh HL5,uh HL6⟩
theorem drop_nodup {n:Nat} {t:Pl.Tab} (h:Pl.NamesOk n t):(t.lines.map (·.1)).Nodup:=by
 rw [List.nodup_iff_pairwise_ne,List.pairwise_iff_getElem]
 intro i j hi hj hij e
 have hi':i<t.lines.length:=by simpa using hi
 have hj':j<t.lines.length:=by simpa using hj
 have:=h.lines i j hi' hj' (by
  unfold Pl.Tab.name
  rw [List.getD_eq_getElem?_getD,List.getD_eq_getElem?_getD,List.getElem?_eq_getElem hi',List.getElem?_eq_getElem hj']
  simpa using e)
 omega
theorem names_of_nodup {n:Nat} {t:Pl.Tab} (h:(t.lines.map (·.1)).Nodup) (i j:Nat) (hi:i<t.lines.length) (hj:j<t.lines.length) (e:t.name i=t.name j):i=j:=by
 rw [List.nodup_iff_pairwise_ne,List.pairwise_iff_getElem] at h
 unfold Pl.Tab.name at e
 rw [List.getD_eq_getElem?_getD,List.getD_eq_getElem?_getD,List.getElem?_eq_getElem hi,List.getElem?_eq_getElem hj] at e
 rcases Nat.lt_trichotomy i j with h1|h1|h1
 ·exact absurd (by rw [List.getElem_map,List.getElem_map];simpa using e) (h i j (by simpa using hi) (by simpa using hj) h1)
 ·exact h1
 ·exact absurd (by rw [List.getElem_map,List.getElem_map];simpa using e.symm) (h j i (by simpa using hj) (by simpa using hi) h1)
theorem good_drop {F:Int→Nat→Int} {n N:Nat} {U:List Int} {t:Pl.Tab} {x:Int} (h:Good F n U N t) (hx:∀ c,c<n→t.col c≠x):Good F n (U.filter fun y=>y != x) (t.drop x).lines.length (t.drop x):=by
 have hcol:∀ c,(t.drop x).col c=t.col c:=fun c=>rfl
 refine ⟨h.ok.drop x,⟨fun i j hi hj e=>?_,fun i j hi hj e=>h.names.cols i j hi hj e,fun i j hi hj e=>?_⟩,⟨fun y hy=>?_,fun y hy=>?_,fun y hy=>?_⟩,fun c hc=>h.cols c hc,rfl⟩
 ·refine names_of_nodup (n:=n) ?_ i j hi hj e
  refine (drop_nodup h.names).sublist ?_
  exact List.Sublist.map _ List.filter_sublist
 ·obtain ⟨r',hr',e1,e2⟩:=t.drop_line x hi
  refine h.names.apart r' j hr' hj ?_
  have e3:(t.drop x).name i=t.name r':=by unfold Pl.Tab.name;rw [e1]
  rw [←e3,e];rfl
 ·obtain ⟨c,hc,rfl⟩:=hy
  exact List.mem_filter.2 ⟨h.stat.cols _ ⟨c,hc,rfl⟩,by have:=hx c hc;rw [←hcol c] at this;simpa using this⟩
 ·obtain ⟨r,hr,rfl⟩:=hy
  obtain ⟨r',hr',e1,e2⟩:=t.drop_line x hr
  refine List.mem_filter.2 ⟨?_,by simpa using e2⟩
  have:(t.drop x).name r=t.name r':=by unfold Pl.Tab.name;rw [e1]
  rw [this]
  exact h.stat.lines _ ⟨r',hr',rfl⟩
 ·obtain ⟨h1,h2⟩:=List.mem_filter.1 hy
  rcases h.stat.all y h1 with h3|⟨r,hr,e⟩
  ·exact .inl h3
  ·refine .inr ?_
   have hm:t.lines[r]∈(t.drop x).lines:=List.mem_filter.2 ⟨List.getElem_mem hr,by
    have:t.lines[r].1=y:=by rw [←e];unfold Pl.Tab.name;rw [List.getD_eq_getElem?_getD,List.getElem?_eq_getElem hr];rfl
    rw [this];exact h2⟩
   obtain ⟨k,hk,ek⟩:=List.mem_iff_getElem.1 hm
   refine ⟨k,hk,?_⟩
   rw [←e]
   unfold Pl.Tab.name
   rw [List.getD_eq_getElem?_getD,List.getD_eq_getElem?_getD,List.getElem?_eq_getElem hk,List.getElem?_eq_getElem hr,ek]
theorem point_drop {t:Pl.Tab} {x:Int} (h:AtPoint t):AtPoint (t.drop x):=by
 intro k hk h0
 obtain ⟨r',hr',e1,e2⟩:=t.drop_line x hk
 have e3:(t.drop x).name k=t.name r':=by unfold Pl.Tab.name;rw [e1]
 have e4:(t.drop x).cell k 0=t.cell r' 0:=by unfold Pl.Tab.cell;rw [e1]
 rw [e3] at h0
 rw [e4]
 exact h r' hr' h0
section
variable {r:RegL} {L N:Nat} {D:List Nat} {U:List Int} {t t2:Pl.Tab}
theorem low_pos (hT:RegTab r D U N t) {i:Nat} (hi:i<r.least.length) (ht:Top (Pl.formS r.S) r.size U N ((r.least.getD i []).map fun x=>-x) t2) (hpos:0 < -Int.fdiv (t2.cell N 0) t2.scale):∀ P:Nat→Int,0<P 0→Pl.InAll r.size r.least.length r.S P→0<Pl.ev r.size (r.S i) P:=by
 intro P p0 hP
 have hU':∀ y∈(-1073741824:Int)::U,0≤y→∃ i:Nat,i<r.least.length∧y=i:=fun y hy h0=>by
  rcases List.mem_cons.1 hy with e|hy
  ·omega
  ·exact hT.names.nat y hy h0
 have h1:=Pl.low_above hU' (S:=r.S) (fun i hi=>by rw [formW_other (by omega),Pl.formS_sum]) ht.good.ok ht.good.stat ht.good.cols (wr:=N) (by rw [ht.good.len];omega) ht.top (by omega) p0 hP
 rw [ht.name] at h1
 have e:formW (Pl.formS r.S) ((r.least.getD i []).map fun x=>-x) (-1073741824)=fun k=>-r.S i k:=by
  funext k
  rw [formW_own]
  have:=congrFun (neg_lf (r.least.getD i [])) k
  unfold lf at this
  rw [this];rfl
 rw [e,ev_neg] at h1
 omega
theorem RegTab.drop (hf:RegFit L r) (hT:RegTab r D U N t) {i:Nat} (hi:i<r.least.length) (hpos:∀ P:Nat→Int,0<P 0→Pl.InAll r.size r.least.length r.S P→0<Pl.ev r.size (r.S i) P):RegTab r (i::D) (U.filter fun x=>x != (i:Int)) (t.drop i).lines.length (t.drop i)∧∃ k,k<t.lines.length∧t.name k≠i:=by
 obtain ⟨Q,q0,hQ,qc⟩:=hT.free.corner hT.names (fun i _=>Pl.formS_sum _ _) hT.good.ok hT.good.stat hT.pt
 have hne:∀ c,c<r.size→t.col c≠(i:Int):=fun c hc e=>by
  have h1:=qc c hc
  rw [e,Pl.formS_sum] at h1
  have:=hpos Q q0 hQ
  omega
 refine ⟨⟨good_drop hT.good hne,point_drop hT.pt,hT.names.drop i,hT.free.drop hi q0 hQ hpos,?_⟩,?_⟩
 ·have h1:(t.drop i).lines.length≤t.lines.length:=List.length_filter_le _ _
  have h2:=hT.good.len
  have h3:=hT.small
  omega
 ·have hm:(-1:Int)∈U:=(hT.names _).2 ⟨List.mem_append.2 (.inr (List.mem_map.2 ⟨0,List.mem_range.2 hf.size0,rfl⟩)),fun j _=>by omega⟩
  rcases hT.good.stat.all _ hm with ⟨c,hc,e⟩|⟨k,hk,e⟩
  ·have:=hT.good.cols c hc;omega
  ·exact ⟨k,hk,by rw [e];omega⟩
theorem high_nonneg (hT:RegTab r D U N t) {i:Nat} (hi:i<r.least.length) (ht:Top (Pl.formS r.S) r.size U N (r.least.getD i []) t2):0≤Int.fdiv (t2.cell N 0) t2.scale:=by
 obtain ⟨Q,q1,q2⟩:=ht.good.ok.point 0 (by omega)
 have q0:Q 0=t2.scale:=by
  have:=q1 0 (by omega)
  rw [Pl.base_zero,Pl.ev_unit _ Q 0 (by omega),if_pos rfl] at this;exact this
 have hp:=ht.good.ok.pos
 have hall:Pl.InAll r.size r.least.length r.S Q:=hT.free Q (by rw [q0];omega) fun j hj hD=>by
  rcases ht.good.stat.all (j:Int) (List.mem_cons_of_mem _ (hT.names.mem hj hD)) with ⟨c,hc,e⟩|⟨k,hk,e⟩
  ·have:=q1 (c+1) (by omega)
   rw [Pl.base_succ,if_neg (by omega),e,formW_other (by omega),Pl.formS_sum] at this
   omega
  ·have h1:=q2 k hk
   rw [e,formW_other (by omega),Pl.formS_sum] at h1
   rw [h1];exact ht.pt k hk (by rw [e];omega)
 have h1:=q2 N (by rw [ht.good.len];omega)
 rw [ht.name] at h1
 have e:formW (Pl.formS r.S) (r.least.getD i []) (-1073741824)=r.S i:=by funext k;rw [formW_own];rfl
 rw [e] at h1
 have h2:=hall i hi
 rw [h1] at h2
 rw [Int.fdiv_eq_ediv_of_nonneg _ (by omega)]
 exact Int.ediv_nonneg h2 (by omega)
theorem high_le (hT:RegTab r D U N t) {i:Nat} (ht:Top (Pl.formS r.S) r.size U N (r.least.getD i []) t2) {x:Nat→Int} (hx:Pl.InAll r.size r.least.length r.S (Pl.pt x)):Pl.ev r.size (lf (r.least.getD i [])) (Pl.pt x)≤Int.fdiv (t2.cell N 0) t2.scale:=ht.le hT.names hx
end
structure TrimI (r:RegL) (L i:Nat) (D:List Nat) (ks zs:List (List Int)) (ws:List Int):Prop where
 all:∀ j,j<i→j ∉ D→r.least.getD j []∈ks∨r.least.getD j []∈zs
 inK:∀ a∈ks,a∈r.least
 inZ:∀ a∈zs,a∈r.least∧∀ x,Pl.InAll r.size r.least.length r.S (Pl.pt x)→Pl.ev r.size (lf a) (Pl.pt x)=0
 len:ws.length=ks.length
 pos:∀ w∈ws,0<w
 lt:∀ w∈ws,Pl.Lt ((r.size+1)*L+1) w
 few:ks.length+zs.length≤i
def RegL.trim (r:RegL) (ks zs:List (List Int)):RegL:=⟨r.size,r.zero++zs,ks,r.told⟩
section
variable {r:RegL} {L i N:Nat} {D:List Nat} {U:List Int} {t t2:Pl.Tab} {ks zs:List (List Int)} {ws:List Int}
theorem TrimI.start (r:RegL) (L:Nat) (D:List Nat):TrimI r L 0 D [] [] []:=⟨fun j hj=>absurd hj (Nat.not_lt_zero j),fun a h=>(by cases h),fun a h=>(by cases h),rfl,fun a h=>(by cases h),fun a h=>(by cases h),Nat.le_refl _⟩
theorem least_mem (hi:i<r.least.length):r.least.getD i []∈r.least:=by
 rw [List.getD_eq_getElem?_getD,List.getElem?_eq_getElem hi];exact List.getElem_mem hi
theorem TrimI.drop (h:TrimI r L i D ks zs ws):TrimI r L (i+1) (i::D) ks zs ws :=
 ⟨fun j hj hD=>h.all j (by
  rcases (show j<i∨j=i by omega) with e|e
  ·exact e
  ·exact absurd (by rw [e];exact List.mem_cons_self) hD) (fun hm=>hD (List.mem_cons_of_mem _ hm)),h.inK,h.inZ,h.len,h.pos,h.lt,by have:=h.few;omega⟩
theorem TrimI.zero (h:TrimI r L i D ks zs ws) (hi:i<r.least.length) (h0:∀ x,Pl.InAll r.size r.least.length r.S (Pl.pt x)→Pl.ev r.size (lf (r.least.getD i [])) (Pl.pt x)≤0):TrimI r L (i+1) D ks (zs++[r.least.getD i []]) ws:=by
 refine ⟨fun j hj hD=>?_,h.inK,fun a ha=>?_,h.len,h.pos,h.lt,by rw [List.length_append];have:=h.few;simp;omega⟩
 ·rcases (show j<i∨j=i by omega) with e | e
  ·rcases h.all j e hD with h1 | h1
   ·exact .inl h1
   ·exact .inr (List.mem_append.2 (.inl h1))
  ·rw [e];exact .inr (List.mem_append.2 (.inr (List.mem_singleton.2 rfl)))
 ·rcases List.mem_append.1 ha with h1 | h1
  ·exact h.inZ a h1
  ·rw [List.mem_singleton.1 h1]
   refine ⟨least_mem hi,fun x hx=>?_⟩
   have h2:=h0 x hx
   have h3:=hx i hi
   have e:r.S i=lf (r.least.getD i []):=rfl
   rw [e] at h3
   omega
theorem TrimI.keep (h:TrimI r L i D ks zs ws) (hi:i<r.least.length) {v:Int} (hv:0<v) (hl:Pl.Lt ((r.size+1)*L+1) v):TrimI r L (i+1) D (ks++[r.least.getD i []]) zs (ws++[v]):=by
 refine ⟨fun j hj hD=>?_,fun a ha=>?_,h.inZ,by rw [List.length_append,List.length_append,h.len];rfl,fun a ha=>?_,fun a ha=>?_,by rw [List.length_append];have:=h.few;simp;omega⟩
 ·rcases (show j<i∨j=i by omega) with e | e
  ·rcases h.all j e hD with h1 | h1
   ·exact .inl (List.mem_append.2 (.inl h1))
   ·exact .inr h1
  ·rw [e];exact .inl (List.mem_append.2 (.inr (List.mem_singleton.2 rfl)))
 ·rcases List.mem_append.1 ha with h1 | h1
  ·exact h.inK a h1
  ·rw [List.mem_singleton.1 h1];exact least_mem hi
 ·rcases List.mem_append.1 ha with h1 | h1
  ·exact h.pos a h1
  ·rw [List.mem_singleton.1 h1];exact hv
 ·rcases List.mem_append.1 ha with h1 | h1
  ·exact h.lt a h1
  ·rw [List.mem_singleton.1 h1];exact hl
structure TrimP (r:RegL) (L:Nat) (ks zs:List (List Int)) (ws:List Int):Prop where
 parts:∃ D,TrimI r L r.least.length D ks zs ws∧Pl.Free r.size r.least.length r.S D
theorem TrimP.inall (h:TrimP r L ks zs ws) {P:Nat→Int} (p0:0≤P 0) (hk:∀ a∈ks,0≤Pl.ev r.size (lf a) P) (hz:∀ a∈zs,0≤Pl.ev r.size (lf a) P):Pl.InAll r.size r.least.length r.S P:=by
 obtain ⟨D,h1,h2⟩:=h.parts
 refine h2 P p0 fun j hj hD=>?_
 have e:r.S j=lf (r.least.getD j []):=rfl
 rw [e]
 rcases h1.all j hj hD with h3|h3
 ·exact hk _ h3
 ·exact hz _ h3
theorem TrimP.has (h:TrimP r L ks zs ws) (hz:r.zero=[]) (x:Nat→Int):(r.trim ks zs).reg.Has x↔r.reg.Has x:=by
 obtain ⟨D,h1,h2⟩:=h.parts
 have ez:(r.trim ks zs).zero=zs:=by show r.zero++zs=zs;rw [hz];rfl
 constructor
 ·intro hx
  have hk:∀ a∈ks,0≤Pl.ev r.size (lf a) (Pl.pt x):=fun a ha=>hx.least (lf a) (List.mem_map.2 ⟨a,ha,rfl⟩)
  have hzz:∀ a∈zs,Pl.ev r.size (lf a) (Pl.pt x)=0:=fun a ha=>hx.zero (lf a) (List.mem_map.2 ⟨a,by rw [ez];exact ha,rfl⟩)
  have hin:=h.inall (P:=Pl.pt x) (by unfold Pl.pt;rw [if_pos rfl];decide) hk (fun a ha=>by rw [hzz a ha];omega)
  refine ⟨fun s hs=>?_,fun s hs=>?_⟩
  ·have:r.reg.zero=[]:=by show r.zero.map lf=[];rw [hz];rfl
   rw [this] at hs;cases hs
  ·obtain ⟨a,ha,rfl⟩:=List.mem_map.1 hs
   exact (has_inall x).2 hin a ha
 ·intro hx
  have hin:=(has_inall x).1 fun a ha=>hx.least (lf a) (List.mem_map.2 ⟨a,ha,rfl⟩)
  refine ⟨fun s hs=>?_,fun s hs=>?_⟩
  ·obtain ⟨a,ha,rfl⟩:=List.mem_map.1 hs
   rw [ez] at ha
   exact (h1.inZ a ha).2 x hin
  ·obtain ⟨a,ha,rfl⟩:=List.mem_map.1 hs
   exact hx.least (lf a) (List.mem_map.2 ⟨a,h1.inK a ha,rfl⟩)
theorem TrimP.ans (h:TrimP r L ks zs ws) (hz:r.zero=[]) (A:List Int):(r.trim ks zs).reg.Ans A↔r.reg.Ans A :=
 ⟨fun ⟨x,h1,h2⟩=>⟨x,(h.has hz x).1 h1,h2⟩,fun ⟨x,h1,h2⟩=>⟨x,(h.has hz x).2 h1,h2⟩⟩
theorem TrimP.tied (h:TrimP r L ks zs ws) (hz:r.zero=[]) (ht:r.reg.Tied):(r.trim ks zs).reg.Tied:=by
 intro D d1 d2 i hi
 have ez:(r.trim ks zs).zero=zs:=by show r.zero++zs=zs;rw [hz];rfl
 let P:Nat→Int:=fun k=>if k=0 then 0 else D (k - 1)
 have ep:∀ s,Pl.ev r.size s P=Pl.dir r.size s D:=fun s=>by
  unfold Pl.ev Pl.dir
  rw [Pl.sm_head]
  have:s 0*P 0=0:=by show s 0*(if 0=0 then 0 else D (0 - 1))=0;rw [if_pos rfl,Int.mul_zero]
  rw [this,Int.zero_add]
  refine Pl.sm_congr fun c _=>?_
  show s (c+1)*(if c+1=0 then 0 else D (c+1 - 1))=_
  rw [if_neg (by omega)];rfl
 have hin:=h.inall (P:=P) (by show (0:Int)≤if 0=0 then 0 else D (0 - 1);rw [if_pos rfl];decide)
  (fun a ha=>by rw [ep];exact d2 (lf a) (List.mem_map.2 ⟨a,ha,rfl⟩))
  (fun a ha=>by rw [ep];have:Pl.dir r.size (lf a) D=0:=d1 (lf a) (List.mem_map.2 ⟨a,by rw [ez];exact ha,rfl⟩);omega)
 refine ht D (fun s hs=>?_) (fun s hs=>?_) i hi
 ·have:r.reg.zero=[]:=by show r.zero.map lf=[];rw [hz];rfl
  rw [this] at hs;cases hs
 ·obtain ⟨a,ha,rfl⟩:=List.mem_map.1 hs
  obtain ⟨j,hj,e⟩:=List.mem_iff_getElem.1 ha
  have h1:=hin j hj
  rw [ep] at h1
  have e2:r.S j=lf a:=by
   funext k
   unfold RegL.S lf
   rw [List.getD_eq_getElem?_getD (l:=r.least),List.getElem?_eq_getElem hj,e];rfl
  rwa [e2] at h1
theorem mem_getD_lt {ls:List (List Int)} {L:Nat} (h:∀ a∈ls,∀ k,Pl.Lt L (a.getD k 0)) (i k:Nat):Pl.Lt L ((ls.getD i []).getD k 0):=by
 rcases getD_mem_or ls i with h1|h1
 ·exact h _ h1 k
 ·rw [h1];exact lt_zero L
theorem lt_mem {ls:List (List Int)} {L:Nat} (h:∀ i k,Pl.Lt L ((ls.getD i []).getD k 0)) {a:List Int} (ha:a∈ls) (k:Nat):Pl.Lt L (a.getD k 0):=by
 obtain ⟨i,hi,e⟩:=List.mem_iff_getElem.1 ha
 have:=h i k
 rwa [List.getD_eq_getElem?_getD (l:=ls),List.getElem?_eq_getElem hi,Option.getD_some,e] at this
theorem TrimP.ok (h:TrimP r L ks zs ws) (hf:RegFit L r):RegOk (r.trim ks zs)∧RegLt L (r.trim ks zs):=by
 obtain ⟨D,h1,_⟩:=h.parts
 have ez:(r.trim ks zs).zero=zs:=by show r.zero++zs=zs;rw [hf.zero];rfl
 have hfew:=hf.few
 have hf1:=h1.few
 refine ⟨⟨fun l hl=>?_,fun l hl=>hf.ok.leastL l (h1.inK l hl),hf.ok.toldL,by rw [ez];omega,by show ks.length≤1000;omega,hf.ok.toldN⟩,⟨fun i k=>?_,fun i k=>?_,hf.lt.told⟩⟩
 ·rw [ez] at hl;exact hf.ok.leastL l (h1.inZ l hl).1
 ·rw [ez];exact mem_getD_lt (fun a ha=>lt_mem hf.lt.least (h1.inZ a ha).1) i k
 ·exact mem_getD_lt (fun a ha=>lt_mem hf.lt.least (h1.inK a ha)) i k
end
end Go.Proofs.Ytfaljekgpnbmiaa
