/- Joined: XSim0 XSim0b XSim0c XLow2. -/
import Derived.Test.YtfaljekgpnbmiaaJ37
set_option linter.unusedVariables false
set_option linter.unusedSimpArgs false
set_option maxRecDepth 100000
namespace Go.Proofs.Ytfaljekgpnbmiaa
open Go.RowKit Go.Sort
def t0:Pl.Tab:=⟨[],[],1⟩
def Tab0 (w:World) (b:Nat):Prop:=w.heap[b]?=some (.cells #[.slice none 0 0,.slice none 0 0,.int .i64 1,.slice none 0 0] 147 (0,0))
theorem whole_one (P:Nat→Prop) (w:World):WhAt P w (.agg #[.int .i64 1,.slice none 0 0]) 1:=.inl ⟨rfl,show (-4611686018427387904:Int)<1 by decide,show (1:Int)<4611686018427387904 by decide⟩
theorem Tab0.cells {w:World} {b:Nat} (h:Tab0 w b):w.cell? ⟨b,0,none⟩=some (.slice none 0 0)∧w.cell? ⟨b,1,none⟩=some (.slice none 0 0)∧w.cell? ⟨b,2,none⟩=some (.int .i64 1)∧w.cell? ⟨b,3,none⟩=some (.slice none 0 0):=by
 unfold Tab0 at h
 refine ⟨?_,?_,?_,?_⟩ <;> (rw [cellsOf h];rfl)
theorem Tab0.at {w:World} {b:Nat} (h:Tab0 w b):TabAt PT w b t0 :=
 ⟨⟨_,h.cells.1,none,0,rfl,fun i hi=>absurd hi (Nat.not_lt_zero i)⟩,⟨_,h.cells.2.1,none,0,rfl,fun i hi=>absurd hi (Nat.not_lt_zero i)⟩,⟨_,_,_,_,h.cells.2.2.1,h.cells.2.2.2,whole_one _ _⟩⟩
theorem Tab0.grow {w w':World} {b:Nat} (h:Tab0 w b) (hg:Grows w w'):Tab0 w' b:=Below.same hg _ _ h
theorem t0_fit:TabFit t0:=⟨by decide,by decide,fun l hl=>by cases hl⟩
theorem leave_zero (b:Nat) (w:World) (h:Tab0 w b) :
  Calls Try.prog 114 #[.pointer (some ⟨b,0,none⟩)] w fun e w'=>e=.returned (.tuple #[])∧Below w.heap.size w w':=by
 have HT:=hide h
 clear h
 go_enter Try.func114,Try.ntmps114
 go_wp2_with fail
 go_loopg [2] 0 (fun k cv wr=>cv=.int .i64 0∧Hid (Grows w wr))
 case atStart=>exact ⟨rfl,Below.refl _ _⟩
 case round =>
  obtain ⟨rfl,HR⟩:=hrel
  have k1:=((uh HT).grow (uh HR)).cells.2.1
  go_wp2
  go_end0
  exact ⟨rfl,uh HR⟩
theorem New_zero (la:Option Addr) (lc:Nat) (w:World) :
  Calls Try.prog 84 #[.slice la 0 lc,.int .i64 0] w fun e w'=>∃ b,e=.returned (.pointer (some ⟨b,0,none⟩))∧w.heap.size≤b∧Tab0 w' b∧Grows w w':=by
 go_enter Try.func84,Try.ntmps84
 go_wp2_with fail
 refine (Of_any (fun _=>True) 1 _ (fun _ _=>trivial) (by decide) (by decide)).mono ?_
 rintro e w1 ⟨v1,rfl,hv1,hw1⟩
 have ev:=hv1.fits (by decide)
 subst ev
 have HG1:Hid (Grows w w1):=hw1
 clear hv1 hw1
 go_wp2_with fail
 have HGt:Hid (Grows w (w1.alloc (.cells #[.slice none 0 0,.slice none 0 0,.int .i64 1,.slice none 0 0] 147))):=(uh HG1).trans (Grows.alloc _ _)
 have HBt:Hid (Tab0 (w1.alloc (.cells #[.slice none 0 0,.slice none 0 0,.int .i64 1,.slice none 0 0] 147)) w1.heap.size):=slot_one _ _
 have hwb:w.heap.size≤w1.heap.size:=(uh HG1).size
 generalize hWt:w1.alloc (.cells #[.slice none 0 0,.slice none 0 0,.int .i64 1,.slice none 0 0] 147)=Wt at *
 generalize w1.heap.size=b at *
 clear hWt HG1
 go_loopg [6] 0 (fun k iv wr=>iv=.int .i64 0∧Hid (Grows Wt wr))
 case atStart=>exact ⟨rfl,Below.refl _ _⟩
 case round =>
  obtain ⟨rfl,HR⟩:=hrel
  go_wp2_with fail
  rename World=>wo
  rename Nat=>go
  go_loopg [7] 0 (fun k iv wr=>iv=.int .i64 0∧Hid (Grows Wt wr))
  case atStart=>exact ⟨rfl,uh HR⟩
  case round =>
   obtain ⟨rfl,HR2⟩:=hrel
   go_wp2_with fail
   refine (leave_zero b _ ((uh HBt).grow (uh HR2))).mono ?_
   rintro e w3 ⟨rfl,hw3⟩
   have HG3:Hid (Grows Wt w3):=(uh HR2).trans hw3
   clear hw3
   go_wp2
   go_ret
   exact ⟨b,rfl,hwb,(uh HBt).grow (uh HG3),(uh HGt).trans (uh HG3)⟩
theorem IsEmpty_zero (b:Nat) (w:World) (h:Tab0 w b) :
  Calls Try.prog 85 #[.pointer (some ⟨b,0,none⟩)] w fun e w'=>e=.returned (.bool false)∧Below w.heap.size w w':=by
 have HT:=hide h
 clear h
 go_enter Try.func85,Try.ntmps85
 go_wp2_with fail
 go_loopg [] 0 (fun k wr=>Hid (Grows w wr))
 case atStart=>exact Below.refl _ _
 case round =>
  have HR:=hrel
  clear hrel
  go_wp2_with fail
  refine (lineBelowZero_any PT b t0 wr ((uh HT).grow (uh HR)).at t0_fit).mono ?_
  rintro e w1 ⟨c,rfl,hbest,hw1⟩
  have HG1:Hid (Grows w w1):=(uh HR).trans hw1
  clear hw1
  rcases hbest with ⟨rfl,hno⟩|⟨r,hr,rfl,hur,hleast⟩
  ·clear hno
   go_wp2
   go_ret
   exact ⟨rfl,uh HG1⟩
  ·exact absurd hr (Nat.not_lt_zero r)
theorem int_ret {w w1:World} {g:Nat} {c:Array Value} (hb:w1.heap[g]?=some (.cells c 82 (0,0))) {x:Int} {a:Option Addr} {m k:Nat} {S:Nat→Prop} {u:Int} (hu:WhAt PT w1 (.agg #[.int .i64 x,.slice a m k]) u) (hB:w.heap.size≤g) (hw:Turns S w w1) :
  WhAt PT ((w1.setCell ⟨g,0,none⟩ (.int .i64 x)).setCell ⟨g,1,none⟩ (.slice a m k)) (.agg #[.int .i64 x,.slice a m k]) u∧Turns S w ((w1.setCell ⟨g,0,none⟩ (.int .i64 x)).setCell ⟨g,1,none⟩ (.slice a m k)):=by
 have e1:=heap_setCell_same w1 g 0 _ _ (.int .i64 x) hb
 exact ⟨hu.keep ((KeepT.setCell hb (by decide) _ _).trans (KeepT.setCell e1 (by decide) _ _)),(hw.setNew hB _ _).setNew hB _ _⟩
theorem zero_add {w1 w2:World} {b g cap:Nat} {ua:Option Addr} {un uc:Nat} {row:List Int} (h:Tab0 w1 b) (hrow:RowAt PT w1 (.slice ua un uc) row) (hG:Grows w1 w2) (hg:w1.heap.size≤g) (hown:w2.ownsRow 0 149 2 (.slice (some ⟨g,0,none⟩) 1 cap) 1 [.int .i64 (-1073741824),.slice ua un uc]) :
  TabAt PT (w2.setCell ⟨b,0,none⟩ (.slice (some ⟨g,0,none⟩) 1 cap)) b ⟨[(-1073741824,row)],[],1⟩∧(w2.setCell ⟨b,0,none⟩ (.slice (some ⟨g,0,none⟩) 1 cap)).heap[b]?=some (.cells #[.slice (some ⟨g,0,none⟩) 1 cap,.slice none 0 0,.int .i64 1,.slice none 0 0] 147 (0,0))∧1≤cap:=by
 have hbl:b<w1.heap.size:=lt_of_block h
 have b2:w2.heap[b]?=_:=(h.grow hG)
 have e2:=heap_setCell_same w2 b 0 _ _ (.slice (some ⟨g,0,none⟩) 1 cap) b2
 have hh3:Holds PT w2 (w2.setCell ⟨b,0,none⟩ (.slice (some ⟨g,0,none⟩) 1 cap)):=holds_set b2 (by decide) (fun e=>absurd e (by decide)) _ _
 rcases hown.2 with ⟨e,_⟩|⟨g',cap',cur,e,_,hcur,hle,hmx,hsz,htk⟩
 ·cases e
 cases e
 have hgb:g≠b:=by omega
 have hcur2:(w2.setCell ⟨b,0,none⟩ (.slice (some ⟨g,0,none⟩) 1 cap)).heap[g]?=some (.cells cur 149 (0,0)):=(Below.heap_setCell _ _ _ _ hgb).trans hcur
 have hcell:∀ k,k<2→cur[k]?=([Value.int .i64 (-1073741824),.slice ua un uc])[k]?:=fun k hk=>by
  rw [←htk,List.getElem?_take_of_lt hk];simp
 refine ⟨⟨⟨_,by rw [cellsOf e2];rfl,some ⟨g,0,none⟩,cap,rfl,fun i hi=>?_⟩,⟨_,by rw [cellsOf e2];rfl,none,0,rfl,fun i hi=>absurd hi (Nat.not_lt_zero i)⟩,⟨_,_,_,_,by rw [cellsOf e2];rfl,by rw [cellsOf e2];rfl,whole_one _ _⟩⟩,e2,hle⟩
 have hi0:i=0:=by simp at hi;exact hi
 subst hi0
 refine ⟨g,0,.slice ua un uc,rfl,?_,?_,(hrow.below hG).holds hh3⟩
 ·rw [cellsOf hcur2];exact hcell 0 (by decide)
 ·rw [cellsOf hcur2];exact hcell 1 (by decide)
theorem expr_zero (s:List Int):(List.range (0+1)).map (exprP t0 s 0)=[s.getD 0 0]:=by
 simp [exprP,t0,Pl.sm,List.range_succ]
section
section
attribute [local go_sem] valUpon
set_option maxHeartbeats 2000000 in
theorem Highest_zero (K b:Nat) (s:List Int) (vs:Value) (w:World) (h:Tab0 w b) (hs:RowAt PT w vs s) (hlen:s.length=1) (hsl:∀ k,Pl.Lt K (s.getD k 0)) (hK1:1≤K) (hK:2*K+1≤1500000000000) :
  Calls Try.prog 119 #[.pointer (some ⟨b,0,none⟩),vs] w fun e w'=>∃ v',e=.returned v'∧WhAt PT w' v' (s.getD 0 0)∧Turns (·=b) w w':=by
 obtain ⟨i0,hi0,hz0,hz1,hz2⟩:=info_parts Try.infoLine
 obtain ⟨sa0,sn0,sc0,rfl⟩:=hs.shapeS
 have hbw:b<w.heap.size:=lt_of_block h
 obtain ⟨W,hW⟩:∃ W,w.alloc (.cells #[.int .i64 0,.slice none 0 0] 82)=W:=⟨_,rfl⟩
 have HG:Hid (Grows w W):=by unfold Hid;rw [←hW];exact Grows.alloc _ _
 have HZ:Hid (W.heap[w.heap.size]?=some (.cells #[.int .i64 0,.slice none 0 0] 82 (0,0))):=by unfold Hid;rw [←hW];exact slot_one _ _
 have HT:=hide (h.grow (uh HG))
 obtain ⟨k0,-,-,-⟩:=(uh HT).cells
 have hLt1:Pl.Lt K 1:=by
  obtain ⟨K',rfl⟩:∃ K',K=K'+1:=⟨K - 1,by omega⟩
  exact one_small (by decide)
 have HEX:=hide (express_any PT K b t0 s (.slice sa0 sn0 sc0) W (fun _ _=>trivial) (uh HT).at (hs.below (uh HG)) t0_fit ⟨fun r j hr=>absurd hr (Nat.not_lt_zero r),hLt1⟩ hsl hK hlen (fun r hr=>absurd hr (Nat.not_lt_zero r)))
 have e0:(List.range (t0.cols.length+1)).map (exprP t0 s t0.lines.length)=[s.getD 0 0]:=expr_zero s
 rw [e0] at HEX
 have HL1:=hide hLt1
 have HL0:=hide (hsl 0)
 clear h hs e0 hLt1
 go_enter Try.func119,Try.ntmps119
 go_wp2_with fail
 try rw [hW]
 clear hW
 refine (uh HEX).mono ?_
 rintro e w1 ⟨v1,rfl,hv1,hw1⟩
 obtain ⟨ea,en,ec,rfl⟩:=hv1.shapeS
 have HV1:=hide hv1
 have HG1:Hid (Grows W w1):=hw1
 have HT1:=hide ((uh HT).grow hw1)
 clear hv1 hw1 HEX k0
 obtain ⟨k0,-,-,-⟩:=(uh HT1).cells
 go_wp2_with (at_builtin;refine wpList_append_lies _ rfl _ _ 145 rfl 0 149 i0 (.agg #[.int .i64 0,.slice none 0 0]) 2 32 Try.underlying145 hi0 hz0 hz1 hz2 rfl (by decide) _ 0 [] rfl ⟨rfl,.inl ⟨rfl,rfl⟩⟩ ⟨_,0,none⟩ 1 1 [.int .i64 (-1073741824),.slice ea en ec] rfl rfl ?d1 (by simp [Value.oneCell']) (by decide) ?d2 ?d3 ?d4 _ rfl ?_)
 case d1=>exact fun j u hu=>World.news_of_block (heap_alloc_new _ _) j u hu
 case d2=>unfold maxLen;omega
 case d3=>omega
 case d4=>exact Nat.zero_le _
 ·intro g cap w2 hown1 hgrow hat hlt2
  have hgA:=Grows.alloc w1 (.cells #[.int .i64 (-1073741824),.slice ea en ec] 149)
  have hG2:Grows w1 w2:=hgA.trans ((Below.refl _ _).grown hgrow (Nat.le_refl _) (by intro k hk;cases hk))
  have hge:w1.heap.size≤g:=by
   rcases hat with e|e
   ·cases e
   ·rw [e];first | omega | (simp;done) | (rw [World.size_alloc];omega)
  have hadd:=zero_add (uh HT1) (uh HV1) hG2 hge hown1
  have HTA:=hide hadd.1
  have HOB:=hide hadd.2.1
  have hcap1:=hadd.2.2
  have kb:=((uh HT1).grow hG2).cells.1
  have fb:w2.frozen? ⟨b,0,none⟩=false:=freeOf ((uh HT1).grow hG2) 0
  have HBW:Hid (Turns (·=b) w (w2.setCell ⟨b,0,none⟩ (.slice (some ⟨g,0,none⟩) 1 cap))):=Turns.setCell (S:=(·=b)) (Turns.grows (((uh HG).trans (uh HG1)).trans hG2)) (b:=b) rfl _ _
  have HZ2:Hid ((w2.setCell ⟨b,0,none⟩ (.slice (some ⟨g,0,none⟩) 1 cap)).heap[w.heap.size]?=some (.cells #[.int .i64 0,.slice none 0 0] 82 (0,0))):=(Below.heap_setCell _ _ _ _ (show w.heap.size≠b by omega)).trans (Below.same ((uh HG1).trans hG2) _ _ (uh HZ))
  clear hown1 hgrow hat hlt2 hadd hgA hG2 HV1
  go_wp2_with fail
  generalize hW2:w2.setCell ⟨b,0,none⟩ (.slice (some ⟨g,0,none⟩) 1 cap)=W2 at *
  clear hW2 fb k0 kb w2
  go_loopg [] 0 (fun k wr=>Hid (Grows W2 wr))
  case atStart=>exact Below.refl _ _
  case round =>
   have HR:=hrel
   clear hrel
   go_wp2_with fail
   refine (columnAbove_any PT b ⟨[(-1073741824,[s.getD 0 0])],[],1⟩ wr ((uh HTA).below (uh HR)) (by simp) (fun l hl=>by have:l=(-1073741824,[s.getD 0 0]):=(by simpa using hl);rw [this];simp) (by simp) (r:=0) (by simp) (by simp)).mono ?_
   rintro e w3 ⟨c,rfl,hbest,hw3⟩
   have HG3:Hid (Grows W2 w3):=(uh HR).trans hw3
   clear hw3
   rcases hbest with ⟨rfl,-⟩|⟨c,hc,-⟩
   ·have HTA3:=hide ((uh HTA).below (uh HG3))
    have HOB3:=hide (Below.same (uh HG3) _ _ (uh HOB))
    have HZ3:=hide (Below.same (uh HG3) _ _ (uh HZ2))
    have HC:=hide (fun wq (hg:Grows w3 wq)=>cell_in PT b ⟨[(-1073741824,[s.getD 0 0])],[],1⟩ wq ((uh HTA3).below hg) (by simp) (fun l hl=>by have:l=(-1073741824,[s.getD 0 0]):=(by simpa using hl);rw [this];simp) (r:=0) (by simp) (j:=0) (by simp))
    have k2:w3.cell? ⟨b,2,none⟩=some (.int .i64 1):=by rw [cellsOf (uh HOB3)];rfl
    have k3:w3.cell? ⟨b,3,none⟩=some (.slice none 0 0):=by rw [cellsOf (uh HOB3)];rfl
    have y1:=cell_regrown k2
    have y2:=cell_regrown k3
    go_wp2_with fail
    refine wp_region_grown (phiL [(45,fun v w=>WhAt PT w v (s.getD 0 0)),(50,fun v w=>WhAt PT w v (s.getD 0 0)),(9,FreshV w3)]) (gL [(45,ShapeI),(50,ShapeI),(9,ShapeP)]) 61 9 (by kernel_rfl) (by rfl) (by kernel_rfl) (phi_c (fun _ _ _=>WhAt.below) (phi_c (fun _ _ _=>WhAt.below) (phi_c (fun _ _ _=>FreshV.grow) phi_n))) ?_
    iterate 2 (refine lex_s fun K hK=>?_;go_simp;refine hK _ ?_;clear hK K)
    refine lex_call ShapeI 153 #[.pointer (some ⟨b,0,none⟩),.int .i64 0,.int .i64 0] (by rfl) (by rfl) ShapeI.some (fun w=>by go_simp) (fun wq hg hf=>(uh HC wq hg).mono (by rintro e w' ⟨v',rfl,hv,hb⟩;exact ⟨_,rfl,hb,hv.shapeI,fun t ht=>by cases ht;exact hv⟩)) ?_
    rintro _ ⟨cx,ca,cm,cc,rfl⟩
    iterate 4 (refine lex_s fun K hK=>?_;go_simp;refine hK _ ?_;clear hK K)
    refine lex_call ShapeI 91 #[.agg #[.int .i64 cx,.slice ca cm cc],.agg #[.int .i64 1,.slice none 0 0]] (by rfl) (by rfl) ShapeI.some (fun w=>by go_simp) (fun wq hg hf=>(Div_any PT K (s.getD 0 0) 1 _ _ wq (fun _ _=>trivial) (hf 2 (by kernel_rfl) _ 45 rfl rfl) (whole_one _ _) (by omega) (uh HL0) (uh HL1)).mono (by rintro e w' ⟨v',rfl,hv,hb⟩;rw [Int.fdiv_one] at hv;exact ⟨_,rfl,hb,hv.shapeI,fun t ht=>by cases ht;exact hv⟩)) ?_
    rintro _ ⟨dx,da,dm,dc,rfl⟩
    refine lex_grow ShapeP (by rfl) (by rfl) ShapeP.some (fun wq hg hf=>⟨.pointer (some ⟨wq.heap.size,0,none⟩),wq.alloc (.cells #[.int .i64 0,.slice none 0 0] 82),by go_simp,Grows.alloc _ _,⟨_,rfl⟩,fun t ht=>by cases ht;exact FreshV.new hg⟩) ?_
    rintro _ ⟨g9,rfl⟩
    refine lex_last ?_
    intro w4 hg4 hphi
    have q50:WhAt PT w4 (.agg #[.int .i64 dx,.slice da dm dc]) (s.getD 0 0):=hphi 7 _ 50 (by decide) rfl rfl
    have q9:FreshV w3 (.pointer (some ⟨g9,0,none⟩)) w4:=hphi 8 _ 9 (by decide) rfl rfl
    clear hphi y1 y2 k2 k3
    have hge:=q9.own.1
    have hblk:=q9.own.2
    have s0:=(int_cells hblk).1
    have s1:=(int_cells hblk).2.1
    have s2:=(int_cells hblk).2.2.1
    have s3:=(int_cells hblk).2.2.2
    have HVd:=hide (store_new hg4 hge hblk q50).1
    have HG4:Hid (Grows w3 ((w4.setCell ⟨g9,0,none⟩ (.int .i64 dx)).setCell ⟨g9,1,none⟩ (.slice da dm dc))):=(store_new hg4 hge hblk q50).2
    clear q50 hblk hg4 q9
    have hb3:b<w3.heap.size:=lt_of_block (uh HOB3)
    have hr3:w.heap.size<w3.heap.size:=lt_of_block (uh HZ3)
    generalize hW5:(w4.setCell ⟨g9,0,none⟩ (.int .i64 dx)).setCell ⟨g9,1,none⟩ (.slice da dm dc)=W5 at *
    have HOB5:=hide (Below.same (uh HG4) _ _ (uh HOB3))
    have HZ5:=hide (Below.same (uh HG4) _ _ (uh HZ3))
    have kb0:W5.cell? ⟨b,0,none⟩=some (.slice (some ⟨g,0,none⟩) 1 cap):=by rw [cellsOf (uh HOB5)];rfl
    have fb0:W5.frozen? ⟨b,0,none⟩=false:=freeOf (uh HOB5) 0
    have e6:=heap_setCell_same W5 b 0 _ _ (.slice (some ⟨g,0,none⟩) 0 cap) (uh HOB5)
    have HZ6:Hid ((W5.setCell ⟨b,0,none⟩ (.slice (some ⟨g,0,none⟩) 0 cap)).heap[w.heap.size]?=some (.cells #[.int .i64 0,.slice none 0 0] 82 (0,0))):=(Below.heap_setCell _ _ _ _ (show w.heap.size≠b by omega)).trans (uh HZ5)
    have HV6:Hid (VarAt PT (W5.setCell ⟨b,0,none⟩ (.slice (some ⟨g,0,none⟩) 0 cap)) g9 dx da dm dc (s.getD 0 0)):=⟨(Below.heap_setCell _ _ _ _ (show g9≠b by omega)).trans (uh HVd).heap,(uh HVd).val.keep (KeepT.setCell (uh HOB5) (by decide) _ _)⟩
    have HB6:Hid (Turns (·=b) w (W5.setCell ⟨b,0,none⟩ (.slice (some ⟨g,0,none⟩) 0 cap))):=Turns.setCell (S:=(·=b)) ((uh HBW).grow ((uh HG3).trans (uh HG4))) (b:=b) rfl _ _
    generalize hW6:W5.setCell ⟨b,0,none⟩ (.slice (some ⟨g,0,none⟩) 0 cap)=W6 at *
    have u0:=(uh HV6).cells.1
    have u1:=(uh HV6).cells.2.1
    obtain ⟨z0,z1,z2,z3⟩:=int_cells (uh HZ6)
    have HRT:=hide (int_ret (uh HZ6) (uh HV6).val (Nat.le_refl _) (uh HB6))
    have hcap0:cap≠0:=by omega
    go_wp2
    exact bodyPost_ret (v:=.agg #[.int .i64 dx,.slice da dm dc]) (by simp [results,Try.results119,go_sem,z0,z1]) rfl ⟨_,rfl,(uh HRT).1,(uh HRT).2⟩
   ·exact absurd hc (Nat.not_lt_zero c)
end
set_option maxHeartbeats 2000000 in
theorem Lowest_zero (K b:Nat) (s:List Int) (vs:Value) (w:World) (h:Tab0 w b) (hs:RowAt PT w vs s) (hlen:s.length=1) (hsl:∀ k,Pl.Lt K (s.getD k 0)) (hK1:1≤K) (hK:2*K+1≤1500000000000) :
  Calls Try.prog 88 #[.pointer (some ⟨b,0,none⟩),vs] w fun e w'=>∃ v',e=.returned v'∧WhAt PT w' v' (s.getD 0 0)∧Turns (·=b) w w':=by
 obtain ⟨i0,hi0,hz0,hz1,hz2⟩:=info_parts Try.infoWhole
 obtain ⟨gs,os,scap,scs,rfl,hscs,hsc⟩:=hs.get (by omega)
 have HSC0:=hide hsc
 have HT:=hide h
 have HSL:=hide hsl
 have HLEN:=hide hlen
 have hbw:b<w.heap.size:=lt_of_block h
 have hZ0:=slot_one w (.cells #[.int .i64 0,.slice none 0 0] 82)
 have hGa:Grows w (w.alloc (.cells #[.int .i64 0,.slice none 0 0] 82)):=Grows.alloc _ _
 have hsa:(w.alloc (.cells #[.int .i64 0,.slice none 0 0] 82)).heap.size=w.heap.size+1:=World.size_alloc _ _
 have HW:=hide (And.intro hZ0 (And.intro hGa hsa))
 rw [hlen]
 clear h hs hsc hsl hlen hZ0 hGa hsa
 obtain ⟨n,hn⟩:∃ n:Nat,n=0:=⟨_,rfl⟩
 rw [show (1:Nat)=n+1 by omega]
 have HN0:=hide hn
 have hn1:n≤100:=by omega
 clear hn
 go_enter Try.func88,Try.ntmps88
 go_wp2_with (at_make;refine wpList_make_full _ rfl _ _ 73 rfl (w.heap.size+1) 82 i0 (.agg #[.int .i64 0,.slice none 0 0]) 2 Try.underlying73 hi0 hz0 hz1 .i64 .i64 _ _ (n+1) rfl rfl ?e1 ?e2 ?c1 ?c2 ?c3 ?_)
 case e1=>first | rfl | omega | simp
 case e2=>first | rfl | omega | simp
 case c1=>rw [hz2];omega
 case c2=>unfold maxLen;omega
 case c3=>first | omega | simp
 ·intro w1 hown hgrow
  have hb1:Grows w w1:=(uh HW).2.1.trans ((Below.refl _ _).grown hgrow (Nat.le_refl _) (by intro k hk;cases hk))
  have HRI:Hid (RowIn PT w1 (w.heap.size+1) (n+1) (fun _=>0)):=RowIn.made hown
  have HZ1:Hid (w1.heap[w.heap.size]?=some (.cells #[.int .i64 0,.slice none 0 0] 82 (0,0))):=(hgrow.block w.heap.size (by rw [(uh HW).2.2];omega) (by intro h;cases h)).trans (uh HW).1
  have HG1:Hid (Grows w w1):=hb1
  clear hown hgrow hb1 HW
  have HN1:Hid (n+1=s.length):=by unfold Hid;rw [uh HLEN];have:=uh HN0;omega
  generalize hN:n+1=N at *
  go_wp2_with fail
  go_loopg [6] N (fun k iv wr=>∃ (i:Nat),iv=.int .i64 i∧i+k=N∧Hid (RowIn PT wr (w.heap.size+1) N (fun k=>if k<i then -s.getD k 0 else 0)∧Grows w wr∧wr.heap[w.heap.size]?=some (.cells #[.int .i64 0,.slice none 0 0] 82 (0,0))))
  case atStart=>exact ⟨0,rfl,by omega,(uh HRI).congr (fun i _=>by rw [if_neg (by omega)]),uh HG1,uh HZ1⟩
  case round =>
   obtain ⟨i,rfl,hik,HR⟩:=hrel
   by_cases hlt:i<N
   ·obtain ⟨zx,za,zm,zc,z0,z1,hz⟩:=uh HSC0 i (by rw [←uh HN1];exact hlt)
    have z0:=(uh HR).2.1.cell z0
    have z1:=(uh HR).2.1.cell z1
    have HZ:Hid (WhAt PT wr (.agg #[.int .i64 zx,.slice za zm zc]) (s.getD i 0)):=by
     unfold Hid
     rw [List.getD_eq_getElem?_getD,List.getElem?_eq_getElem (by rw [←uh HN1];exact hlt)];exact hz.below (uh HR).2.1
    clear hz
    go_wp2_with fail
    refine (Neg_any PT _ _ _ (uh HZ)).mono ?_
    rintro e w2 ⟨v2,rfl,hv2,hw2⟩
    obtain ⟨nx,na,nm,nc,rfl⟩:=hv2.shape
    have hR2:=(uh HR).1.grow hw2
    obtain ⟨ox,oa,om,oc,r0,r1,_,f0,f1⟩:=hR2.get hlt
    have HRI2:Hid (RowIn PT ((w2.setCell ⟨w.heap.size+1,i*2,none⟩ (.int .i64 nx)).setCell ⟨w.heap.size+1,i*2+1,none⟩ (.slice na nm nc)) (w.heap.size+1) N (fun k=>if k<i+1 then -s.getD k 0 else 0)):=(hR2.set hlt hv2).congr (fun k _=>by
     unfold updF
     by_cases h:k=i
     ·subst h;rw [if_pos rfl,if_pos (by omega)]
     ·rw [if_neg h]
      dsimp only
      by_cases h2:k<i
      ·rw [if_pos h2,if_pos (by omega)]
      ·rw [if_neg h2,if_neg (by omega)])
    have HG2:Hid (Grows w ((w2.setCell ⟨w.heap.size+1,i*2,none⟩ (.int .i64 nx)).setCell ⟨w.heap.size+1,i*2+1,none⟩ (.slice na nm nc))):=(Below.setCell (p:=⟨w.heap.size+1,i*2,none⟩) (Grows.trans (uh HR).2.1 hw2) (by show w.heap.size≤w.heap.size+1;omega) _).setCell (p:=⟨w.heap.size+1,i*2+1,none⟩) (by show w.heap.size≤w.heap.size+1;omega) _
    have HZ2:Hid (((w2.setCell ⟨w.heap.size+1,i*2,none⟩ (.int .i64 nx)).setCell ⟨w.heap.size+1,i*2+1,none⟩ (.slice na nm nc)).heap[w.heap.size]?=some (.cells #[.int .i64 0,.slice none 0 0] 82 (0,0))):=by
     unfold Hid
     rw [Below.heap_setCell _ _ _ _ (show w.heap.size≠w.heap.size+1 by omega),Below.heap_setCell _ _ _ _ (show w.heap.size≠w.heap.size+1 by omega)]
     exact Below.same hw2 _ _ (uh HR).2.2
    clear hv2 hw2 hR2
    go_wp2
    go_roundg (gk - 1)
    case measure=>omega
    case rel=>exact ⟨i+1,by simp,by omega,uh HRI2,uh HG2,uh HZ2⟩
   ·have hiN:i=N:=by omega
    have hrow:=((uh HR).1.congr (f':=fun k=>-s.getD k 0) (fun k hk=>by rw [if_pos (by omega)])).row trivial
    rw [range_neg s N (uh HN1).symm] at hrow
    have HHI:=hide (Highest_zero K b (s.map fun x=>-x) _ wr ((uh HT).grow (uh HR).2.1) hrow (by rw [List.length_map];exact uh HLEN) (fun k=>by rw [neg_getD];exact (uh HSL k).neg) hK1 hK)
    rw [neg_getD] at HHI
    clear hrow
    go_wp2_with fail
    refine (uh HHI).mono ?_
    rintro e w2 ⟨v2,rfl,hv2,hB2⟩
    obtain ⟨nx,na,nm,nc,rfl⟩:=hv2.shape
    have hrr:w.heap.size<wr.heap.size:=lt_of_block (uh HR).2.2
    have HZ2:Hid (w2.heap[w.heap.size]?=some (.cells #[.int .i64 0,.slice none 0 0] 82 (0,0))):=(hB2.block w.heap.size hrr (by omega)).trans (uh HR).2.2
    have HT2:Hid (Turns (·=b) w w2):=(Turns.grows (uh HR).2.1).trans hB2
    have HV:=hide (var_new hv2)
    have HN:=hide (Neg_any PT _ _ _ (var_new hv2).val)
    have hw2:w.heap.size<w2.heap.size:=lt_of_block (uh HZ2)
    clear hB2 hv2 HHI
    have v0:=(uh HV).cells.1
    have v1:=(uh HV).cells.2.1
    go_wp2_with fail
    refine (uh HN).mono ?_
    rintro e w3 ⟨v3,rfl,hv3,hw3⟩
    obtain ⟨rx,ra,rm,rc,rfl⟩:=hv3.shape
    have hG3:Grows w2 w3:=Grows.trans (Grows.alloc _ _) hw3
    have HZ3:=hide (Below.same hG3 _ _ (uh HZ2))
    obtain ⟨z0',z1',z2',z3'⟩:=int_cells (uh HZ3)
    rw [Int.neg_neg] at hv3
    have HRT:=hide (int_ret (uh HZ3) hv3 (Nat.le_refl _) ((uh HT2).grow hG3))
    clear hv3 hw3 hG3 HN HV
    go_wp2
    exact bodyPost_ret (v:=.agg #[.int .i64 rx,.slice ra rm rc]) (by simp [results,Try.results88,go_sem,z0',z1']) rfl ⟨_,rfl,(uh HRT).1,(uh HRT).2⟩
end
structure LowFit (H:Nat) (r:RegL):Prop where
 zero:r.zero=[]
 tied:r.reg.Tied
 ok:RegOk r
 lt:RegLt H r
 one:1≤H
 size:r.size≤9
 few:r.least.length≤700
 some:∀ a∈r.least,∃ i,i<r.size∧a.getD (i+1) 0≠0
theorem LowFit.fit {H:Nat} {r:RegL} (h:LowFit H r) (h0:0<r.size):RegFit H r:=⟨h.zero,h.tied,h.ok,h.lt,h.one,h0,h.size,by have:=h.few;omega⟩
theorem LowFit.none {H:Nat} {r:RegL} (h:LowFit H r) (h0:r.size=0):r.least=[]:=by
 rcases hl:r.least with _|⟨a,l⟩
 ·rfl
 ·obtain ⟨i,hi,_⟩:=h.some a (by rw [hl];exact List.mem_cons_self ..)
  omega
def TabS (r:RegL) (H:Nat) (w0 w:World) (b:Nat):Prop:=(r.size=0∧Tab0 w b)∨∃ gl gc t,0<r.size∧w0.heap.size≤gl∧w0.heap.size≤gc∧TabOwn (·≠gc) w b gl gc t∧Good (Pl.formS r.S) r.size (Pl.allNames r.size r.least.length) r.least.length t
def TabE (r:RegL) (H:Nat) (w0 w:World) (b:Nat):Prop:=(r.size=0∧Tab0 w b)∨∃ gl gc t,0<r.size∧w0.heap.size≤gl∧w0.heap.size≤gc∧TabOwn (·≠gc) w b gl gc t∧RegTab r [] (Pl.allNames r.size r.least.length) r.least.length t
section
variable {r:RegL} {H b:Nat} {w0 w:World}
theorem new_x (hf:LowFit H r) (vl:Value) (w:World) (h:RowsAt PT w vl r.least) (hK:2*((r.size+1)*H+1)+1≤1500000000000) :
  Calls Try.prog 84 #[vl,.int .i64 r.size] w fun e w'=>∃ b,e=.returned (.pointer (some ⟨b,0,none⟩))∧w.heap.size≤b∧Grows w w'∧TabS r H w w' b:=by
 by_cases h0:r.size=0
 ·obtain ⟨la,ln,lc,rfl⟩:=h.shapeS
  have hln:ln=0:=by have:=h.len;rw [this,hf.none h0];rfl
  subst hln
  have e:((r.size:Nat):Int)=0:=by rw [h0];rfl
  rw [e]
  refine (New_zero la lc w).mono ?_
  rintro e w' ⟨b,rfl,h1,h2,h3⟩
  exact ⟨b,rfl,h1,h3,.inl ⟨h0,h2⟩⟩
 ·refine (new_reg (hf.fit (by omega)) vl w h hK).mono ?_
  rintro e w' ⟨b,gl,gc,t,rfl,q1,q2,q3,hT,hG,hg⟩
  exact ⟨b,rfl,q1,hG,.inr ⟨gl,gc,t,by omega,q2,q3,hT,hg⟩⟩
theorem empty_x (hf:LowFit H r) (hb:w0.heap.size≤b) (hw:w0.heap.size≤w.heap.size) (h:TabS r H w0 w b) (hK:2*((r.size+1)*H+1)+1≤1500000000000) :
  Calls Try.prog 85 #[.pointer (some ⟨b,0,none⟩)] w fun e w'=>∃ ans:Bool,e=.returned (.bool ans)∧Below w0.heap.size w w'∧(ans=false→TabE r H w0 w' b)∧(ans=true→∀ x,¬ r.reg.Has x):=by
 rcases h with ⟨h0,h1⟩|⟨gl,gc,t,h0,q2,q3,hT,hg⟩
 ·refine (IsEmpty_zero b w h1).mono ?_
  rintro e w' ⟨rfl,h2⟩
  exact ⟨false,rfl,Below.mono h2 hw,fun _=>.inl ⟨h0,h1.grow h2⟩,fun h=>by cases h⟩
 ·refine (empty_reg (hf.fit h0) w hT hg hK).mono ?_
  rintro e w' ⟨ans,t',rfl,h2,h3,h4,h5⟩
  exact ⟨ans,rfl,h3.below (fun k hk=>by rcases hk with e | e | e <;> omega) hw,fun ha=>.inr ⟨gl,gc,t',h0,q2,q3,h2,h4 ha⟩,h5⟩
theorem lowest_x (hf:LowFit H r) (hb:w0.heap.size≤b) (hw:Grows w0 w) (h:TabE r H w0 w b) (s:List Int) (vs:Value) (hs:RowAt PT w0 vs s) (hlen:s.length=r.size+1) (hsl:∀ k,Pl.Lt H (s.getD k 0)) (hK:2*((r.size+1)*H+1)+1≤1500000000000) :
  Calls Try.prog 88 #[.pointer (some ⟨b,0,none⟩),vs] w fun e w'=>∃ (v':Value) (lo:Int),e=.returned v'∧WhAt PT w' v' lo∧Below w0.heap.size w w'∧(∀ x,r.reg.Has x→lo≤Pl.ev r.size (lf s) (Pl.pt x))∧Pl.Lt ((r.size+1)*H+1) lo:=by
 have hHH:H≤(r.size+1)*H+1:=by rw [Nat.add_mul,Nat.one_mul];omega
 rcases h with ⟨h0,h1⟩|⟨gl,gc,t,h0,q2,q3,hT,hg⟩
 ·refine (Lowest_zero H b s vs w h1 (hs.below hw) (by omega) hsl hf.one (by omega)).mono ?_
  rintro e w' ⟨v',rfl,h2,h3⟩
  refine ⟨v',_,rfl,h2,h3.below (fun k hk=>by omega) hw.size,fun x _=>?_,(hsl 0).mono hHH⟩
  rw [Pl.ev_pt,h0]
  show s.getD 0 0≤lf s 0+0
  unfold lf;omega
 ·have hs':RowAt (·≠gc) w vs s:=(hs.mono (P':=(·≠gc)) (fun k hk _=>by show k≠gc;omega)).below hw
  refine (lowest_reg (·≠gc) (hf.fit h0) hg vs w (fun b' hb' e=>by have:=hT.lt.2.2.1;omega) hT hs' hlen hsl hK).mono ?_
  rintro e w' ⟨v',gl',t2,rfl,h2,h3,h4,h5,h6,h7,h8⟩
  refine ⟨v',_,rfl,h5.mono (fun _ _ _=>trivial),h4.below (fun k hk=>by rcases hk with e | e | e <;> omega) hw.size,fun x hx=>?_,h8⟩
  have hin:=(has_inall x).1 fun a ha=>hx.least (lf a) (List.mem_map.2 ⟨a,ha,rfl⟩)
  have e5:=h6.le hg.names hin
  rw [neg_lf,ev_neg] at e5
  omega
end
structure LowAt (B:Nat) (w0 w:World) (r:RegL) (za:Option Addr) (zn zc:Nat) (ea:Option Addr) (en ec:Nat) (da:Option Addr) (dn dc:Nat) (g8 g9:Nat) (lx:Int) (la:Option Addr) (lm lc:Nat) (low:Int) (qx:Int) (qa:Option Addr) (qm qc:Nat) (rch:Int):Prop where
 box:RegBox (·<B) w0.heap.size w r za zn zc ea en ec da dn dc
 low:VarAt PT w g8 lx la lm lc low
 rch:VarAt PT w g9 qx qa qm qc rch
 grows:Grows w0 w
 ne:g8≠g9
 new8:w0.heap.size<g8
 new9:w0.heap.size<g9
 b8:B≤g8
 b9:B≤g9
section
variable {B:Nat} {w0 w w':World} {r:RegL} {za ea da la qa:Option Addr} {zn zc en ec dn dc g8 g9 lm lc qm qc:Nat} {lx low qx rch:Int}
theorem LowAt.grow (h:LowAt B w0 w r za zn zc ea en ec da dn dc g8 g9 lx la lm lc low qx qa qm qc rch) (hg:Grows w w'):LowAt B w0 w' r za zn zc ea en ec da dn dc g8 g9 lx la lm lc low qx qa qm qc rch :=
 ⟨h.box.grow hg,h.low.grow hg,h.rch.grow hg,h.grows.trans hg,h.ne,h.new8,h.new9,h.b8,h.b9⟩
theorem LowAt.setLow (h:LowAt B w0 w r za zn zc ea en ec da dn dc g8 g9 lx la lm lc low qx qa qm qc rch) {x:Int} {a:Option Addr} {m c:Nat} {n:Int} (hv:WhAt PT w (.agg #[.int .i64 x,.slice a m c]) n):LowAt B w0 ((w.setCell ⟨g8,0,none⟩ (.int .i64 x)).setCell ⟨g8,1,none⟩ (.slice a m c)) r za zn zc ea en ec da dn dc g8 g9 x a m c n qx qa qm qc rch :=
 ⟨h.box.var h.b8 (Nat.ne_of_lt h.new8) _ _,⟨int_sets h.low.heap _ _,hv.sets h.low.heap _ _⟩,h.rch.put ⟨_,h.low.heap⟩ (Ne.symm h.ne) _ _ _ _,(Below.setCell (p:=⟨g8,0,none⟩) h.grows (Nat.le_of_lt h.new8) _).setCell (p:=⟨g8,1,none⟩) (Nat.le_of_lt h.new8) _,h.ne,h.new8,h.new9,h.b8,h.b9⟩
theorem LowAt.setRch (h:LowAt B w0 w r za zn zc ea en ec da dn dc g8 g9 lx la lm lc low qx qa qm qc rch) {x:Int} {a:Option Addr} {m c:Nat} {n:Int} (hv:WhAt PT w (.agg #[.int .i64 x,.slice a m c]) n):LowAt B w0 ((w.setCell ⟨g9,0,none⟩ (.int .i64 x)).setCell ⟨g9,1,none⟩ (.slice a m c)) r za zn zc ea en ec da dn dc g8 g9 lx la lm lc low x a m c n :=
 ⟨h.box.var h.b9 (Nat.ne_of_lt h.new9) _ _,h.low.put ⟨_,h.rch.heap⟩ h.ne _ _ _ _,⟨int_sets h.rch.heap _ _,hv.sets h.rch.heap _ _⟩,(Below.setCell (p:=⟨g9,0,none⟩) h.grows (Nat.le_of_lt h.new9) _).setCell (p:=⟨g9,1,none⟩) (Nat.le_of_lt h.new9) _,h.ne,h.new8,h.new9,h.b8,h.b9⟩
end
end Go.Proofs.Ytfaljekgpnbmiaa
