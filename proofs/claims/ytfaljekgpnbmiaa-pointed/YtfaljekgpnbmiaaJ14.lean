/- Joined: XMem7 XLat2 XLat3. -/
import Derived.Test.YtfaljekgpnbmiaaJ13
set_option linter.unusedVariables false
set_option linter.unusedSimpArgs false
set_option maxRecDepth 100000
namespace Go.Proofs.Ytfaljekgpnbmiaa
open Go.RowKit Go.Sort
theorem told_len (t:Pl.Tab) (i r c:Nat) (sg:Int):(t.told i r c sg).length=t.cols.length+1:=by simp [Pl.Tab.told]
theorem told_next (t:Pl.Tab) (i r c:Nat) (sg:Int) {j:Nat} (hj:j<t.cols.length+1):(t.told i r c sg).take (j+1)=(t.told i r c sg).take j++[sg*(if j=c then t.cell i c else Int.fdiv (t.cell r c*t.cell i j - t.cell i c*t.cell r j) t.scale)]:=by
 rw [List.take_add_one,List.getElem?_eq_getElem (by rw [told_len];exact hj)]
 simp [Pl.Tab.told]
theorem told_at (t:Pl.Tab) (i r c:Nat) (sg:Int) (hj:c<t.cols.length+1):(t.told i r c sg).take (c+1)=(t.told i r c sg).take c++[sg*t.cell i c]:=by
 rw [told_next t i r c sg hj,if_pos rfl]
theorem told_off (t:Pl.Tab) (i r c:Nat) (sg:Int) {j:Nat} (hj:j<t.cols.length+1) (hjc:¬ j=c):(t.told i r c sg).take (j+1)=(t.told i r c sg).take j++[sg*Int.fdiv (t.cell r c*t.cell i j - t.cell i c*t.cell r j) t.scale]:=by
 rw [told_next t i r c sg hj,if_neg hjc]
structure TabLt (K:Nat) (t:Pl.Tab):Prop where
 cell:∀ r j,r<t.lines.length→j<t.cols.length+1→Pl.Lt K (t.cell r j)
 scale:Pl.Lt K t.scale
structure ToldLt (K:Nat) (t:Pl.Tab) (i r:Nat):Prop where
 mine:∀ j,j<t.cols.length+1→Pl.Lt K (t.cell i j)
 row:∀ j,j<t.cols.length+1→Pl.Lt K (t.cell r j)
 scale:Pl.Lt K t.scale
section
attribute [local go_sem] valUpon
set_option maxHeartbeats 20000000 in
theorem told_any (P:Nat→Prop) (K:Nat) (b:Nat) (t:Pl.Tab) (w:World) (hP:∀ b,w.heap.size≤b→P b) (h:TabAt P w b t) (hfit:TabFit t) {i r c:Nat} (hlt:ToldLt K t i r) (hK:2*K+1≤1500000000000) (hi:i<t.lines.length) (hr:r<t.lines.length) (hc:c<t.cols.length+1) {sg:Int} (hs:sg=1∨sg=-1) :
  Calls Try.prog 154 #[.pointer (some ⟨b,0,none⟩),.int .i64 i,.int .i64 r,.int .i64 c,.int .i64 sg] w fun e w'=>∃ v',e=.returned v'∧RowAt P w' v' (t.told i r c sg)∧Below w.heap.size w w':=by
 obtain ⟨i0,hi0,hz0,hz1,hz2⟩:=info_parts Try.infoWhole
 have HT:=hide h
 have HFT:=hide hfit
 have HLT:=hide hlt
 have hn1:=hfit.lines
 have hn2:=hfit.cols
 clear h hfit hlt
 have HCr:=hide (fun w1 (h:Grows w w1) (j:Nat) (hj:j<t.cols.length+1)=>cell_in P b t w1 ((uh HT).below h) hn1 (uh HFT).le hr (j:=j) (by rw [(uh HFT).row hr];exact hj))
 have HCi:=hide (fun w1 (h:Grows w w1) (j:Nat) (hj:j<t.cols.length+1)=>cell_in P b t w1 ((uh HT).below h) hn1 (uh HFT).le hi (j:=j) (by rw [(uh HFT).row hi];exact hj))
 go_enter Try.func154,Try.ntmps154
 go_wp2_with fail
 refine (uh HCr w (Grows.refl w) c hc).mono ?_
 rintro e w1 ⟨v1,rfl,hv1,hw1⟩
 obtain ⟨px,pa,pm,pc,rfl⟩:=hv1.shape
 have HV1:=hide (var_new hv1)
 have HG1:Hid (Grows w (w1.alloc (.cells #[.int .i64 px,.slice pa pm pc] 82))):=Grows.trans hw1 (Grows.alloc _ _)
 clear hv1 hw1
 go_wp2_with fail
 generalize hW1:w1.alloc (.cells #[.int .i64 px,.slice pa pm pc] 82)=W1 at *
 generalize hg1:w1.heap.size=g1 at *
 clear hW1 hg1 w1
 refine (uh HCi W1 (uh HG1) c hc).mono ?_
 rintro e w2 ⟨v2,rfl,hv2,hw2⟩
 obtain ⟨fx,fa,fm,fc,rfl⟩:=hv2.shape
 have HV2:=hide (var_new hv2)
 have HG2:Hid (Grows W1 (w2.alloc (.cells #[.int .i64 fx,.slice fa fm fc] 82))):=Grows.trans hw2 (Grows.alloc _ _)
 have hlt12:g1<w2.heap.size:=Nat.lt_of_lt_of_le (uh HV1).lt (Grows.size hw2)
 clear hv2 hw2
 obtain ⟨vc,kc,adc,capc,rfl,hci⟩:=((uh HT).below ((uh HG1).trans (uh HG2))).cols
 clear hci
 go_wp2_with (at_make;refine wpList_make_full _ rfl _ _ 73 rfl (w2.alloc (.cells #[.int .i64 fx,.slice fa fm fc] 82)).heap.size 82 i0 (.agg #[.int .i64 0,.slice none 0 0]) 2 Try.underlying73 hi0 hz0 hz1 .i64 .i64 _ _ (t.cols.length+1) rfl rfl ?e1 ?e2 ?c1 ?c2 ?c3 ?_)
 case e1=>first | rfl | omega | simp
 case e2=>first | rfl | omega | simp
 case c1=>rw [hz2];omega
 case c2=>unfold maxLen;omega
 case c3=>omega
 ·intro w3 hown hgrow
  generalize hW2:w2.alloc (.cells #[.int .i64 fx,.slice fa fm fc] 82)=W2 at *
  generalize hg2:w2.heap.size=g2 at *
  have hG3:Grows W2 w3:=(Below.refl _ _).grown hgrow (Nat.le_refl _) (by intro k hk;cases hk)
  obtain ⟨cs,hblk,hcs⟩:=block_two hown
  have hG:W2.heap.size=g2+1:=by rw [←hW2,World.size_alloc,hg2]
  have hlast:g2<g2+1:=by omega
  generalize g2+1=g at *
  generalize hN:t.cols.length+1=n at *
  have H1:Hid (RowTo P w3 g n []):=⟨cs,hblk,hcs,by simp,fun i hi=>by simp at hi⟩
  have HGW:Hid (Grows w w3):=((uh HG1).trans (uh HG2)).trans hG3
  have HVp:=hide (((uh HV1).grow (uh HG2)).grow hG3)
  have HVf:=hide ((uh HV2).grow hG3)
  have hg1g:g1<g:=by rw [←hG];have:=((uh HV1).grow (uh HG2)).lt;exact this
  have hg2g:g2<g:=hlast
  have hwg:w.heap.size≤g:=by rw [←hG];exact ((uh HG1).trans (uh HG2)).size
  have HBK:Hid (w3.heap[g]?=some (.cells cs 82 (0,0))):=hblk
  clear hown hgrow hblk kc hcs hG3 HV1 HV2 HG1 HG2 hW2 hg2 hG hlt12
  go_wp2_with fail
  clear w2 W2
  go_loopg [14] n (fun k jv wr=>∃ (l:List Int),jv=.int .i64 l.length∧l.length+k=n∧Hid (RowTo P wr g n l∧Only g w3 wr∧l=(t.told i r c sg).take l.length))
  case atStart=>exact ⟨[],rfl,by simp,uh H1,.of_below (Grows.refl _),by simp⟩
  case round =>
   obtain ⟨l,rfl,hlk,HR⟩:=hrel
   by_cases hlt:l.length<n
   ·have HGr:Hid (Grows w wr):=Below.trans (uh HGW) (Only.below (uh HR).2.1 hwg (uh HGW).size)
    have HVpr:=hide ((uh HVp).only (uh HR).2.1 (uh HBK) (by decide) (by omega))
    have HVfr:=hide ((uh HVf).only (uh HR).2.1 (uh HBK) (by decide) (by omega))
    obtain ⟨f0,f1,f2,f3⟩:=(uh HVfr).cells
    obtain ⟨p0,p1,p2,p3⟩:=(uh HVpr).cells
    have HV5:=hide (var_new (uh HVfr).val)
    have HG5:Hid (Grows wr (wr.alloc (.cells #[.int .i64 fx,.slice fa fm fc] 82))):=Grows.alloc _ _
    by_cases hjc:l.length=c
    ·subst hjc
     go_wp2_with fail
     refine (signed_any P (t.cell i l.length) sg _ _ (uh HV5).val hs).mono ?_
     rintro e w8 ⟨v8,rfl,hv8,hw8⟩
     obtain ⟨x8,a8,m8,c8,rfl⟩:=hv8.shape
     have hG8:Grows wr w8:=Grows.trans (uh HG5) hw8
     have hR8:=(uh HR).1.below hG8
     obtain ⟨u1,u2,o0,o1,of0,of1⟩:=hR8.open hlt
     have HF:=hide (hR8.add hlt hv8)
     have HO9:Hid (Only g w3 ((w8.setCell ⟨g,l.length*2,none⟩ (.int .i64 x8)).setCell ⟨g,l.length*2+1,none⟩ (.slice a8 m8 c8))):=(((uh HR).2.1.grow hG8).setCell _ _).setCell _ _
     have HL:Hid (l++[sg*(t.cell i l.length)]=(t.told i r l.length sg).take (l++[sg*(t.cell i l.length)]).length):=by
      unfold Hid
      have e1:(l++[sg*(t.cell i l.length)]).length=l.length+1:=by simp
      rw [e1,told_at t i r l.length sg (by omega),←(uh HR).2.2]
     clear hv8 hw8 hR8 hG8
     go_wp2
     go_roundg (gk - 1)
     case measure=>omega
     case rel=>exact ⟨l++[sg*(t.cell i l.length)],by simp,by simp;omega,uh HF,uh HO9,uh HL⟩
    ·have tne:((l.length:Int) != (c:Int))=true:=by simp;omega
     go_wp2_with fail
     generalize hW5:wr.alloc (.cells #[.int .i64 fx,.slice fa fm fc] 82)=W5 at *
     have HG05:Hid (Grows w W5):=(uh HGr).trans (uh HG5)
     have HVp5:=hide ((uh HVpr).grow (uh HG5))
     have HVf5:=hide ((uh HVfr).grow (uh HG5))
     obtain ⟨p50,p51,_⟩:=(uh HVp5).cells
     have y1:=cell_regrown p50
     have y2:=cell_regrown p51
     clear p0 p1 p2 p3 f0 f1 f2 f3 p50 p51 HVpr HVfr
     refine wp_region_grown (phiL [(47,fun v w=>WhAt P w v (t.cell i l.length)),(48,fun v w=>WhAt P w v (t.cell r c*t.cell i l.length)),(16,FreshV W5)]) (gL [(47,ShapeI),(48,ShapeI),(16,ShapeP)]) 70 7 (by kernel_rfl) (by rfl) (by kernel_rfl) (phi_c (fun _ _ _=>WhAt.below) (phi_c (fun _ _ _=>WhAt.below) (phi_c (fun _ _ _=>FreshV.grow) phi_n))) ?_
     iterate 4 (refine lex_s fun K hK=>?_;go_simp;refine hK _ ?_;clear hK K)
     refine lex_call ShapeI 153 #[.pointer (some ⟨b,0,none⟩),.int .i64 i,.int .i64 l.length] (by rfl) (by rfl) ShapeI.some (fun w=>by go_simp) (fun w1 hg hf=>(uh HCi w1 ((uh HG05).trans hg) l.length (by omega)).mono (by rintro e w' ⟨v',rfl,hv,hb⟩;exact ⟨_,rfl,hb,hv.shapeI,fun t ht=>by cases ht;exact hv⟩)) ?_
     rintro _ ⟨cx,ca,cm,cc,rfl⟩
     refine lex_call ShapeI 93 #[.agg #[.int .i64 px,.slice pa pm pc],.agg #[.int .i64 cx,.slice ca cm cc]] (by rfl) (by rfl) ShapeI.some (fun w=>by go_simp) (fun w1 hg hf=>(Mul_any P K (t.cell r c) (t.cell i l.length) _ _ w1 (fun b' hb'=>hP b' (by have:=((uh HG05).trans hg).size;omega)) ((uh HVp5).val.below hg) (hf 4 (by kernel_rfl) _ 47 rfl rfl) (by omega) ((uh HLT).row c (by omega)) ((uh HLT).mine _ (by omega))).mono (by rintro e w' ⟨v',rfl,hv,hb⟩;exact ⟨_,rfl,hb,hv.shapeI,fun t ht=>by cases ht;exact hv⟩)) ?_
     rintro _ ⟨ax,aa,am,ac,rfl⟩
     refine lex_grow ShapeP (by rfl) (by rfl) ShapeP.some (fun w1 hg hf=>⟨.pointer (some ⟨w1.heap.size,0,none⟩),w1.alloc (.cells #[.int .i64 0,.slice none 0 0] 82),by go_simp,Grows.alloc _ _,⟨_,rfl⟩,fun t ht=>by cases ht;exact FreshV.new hg⟩) ?_
     rintro _ ⟨g16,rfl⟩
     refine lex_last ?_
     intro w6 hg6 hphi
     have q48:WhAt P w6 (.agg #[.int .i64 ax,.slice aa am ac]) (t.cell r c*t.cell i l.length):=hphi 5 _ 48 (by decide) rfl rfl
     have q16:FreshV W5 (.pointer (some ⟨g16,0,none⟩)) w6:=hphi 6 _ 16 (by decide) rfl rfl
     clear hphi y1 y2
     have hge:=q16.own.1
     have hblk:=q16.own.2
     have s0:=(int_cells hblk).1
     have s1:=(int_cells hblk).2.1
     have s2:=(int_cells hblk).2.2.1
     have s3:=(int_cells hblk).2.2.2
     have sv:=(store_new hg6 hge hblk q48).1
     have sg6:=(store_new hg6 hge hblk q48).2
     have HVa:=hide sv
     have HG6:Hid (Grows W5 ((w6.setCell ⟨g16,0,none⟩ (.int .i64 ax)).setCell ⟨g16,1,none⟩ (.slice aa am ac))):=sg6
     clear sv sg6 q48 hge hblk hg6 q16
     go_wp2_with fail
     generalize hW6:(w6.setCell ⟨g16,0,none⟩ (.int .i64 ax)).setCell ⟨g16,1,none⟩ (.slice aa am ac)=W6 at *
     have HG06:Hid (Grows w W6):=(uh HG05).trans (uh HG6)
     have HVf6:=hide ((uh HVf5).grow (uh HG6))
     obtain ⟨f60,f61,_⟩:=(uh HVf6).cells
     have y1:=cell_regrown f60
     have y2:=cell_regrown f61
     clear f60 f61 s0 s1 s2 s3 hW6 w6
     refine wp_region_grown (phiL [(53,fun v w=>WhAt P w v (t.cell r l.length)),(54,fun v w=>WhAt P w v (t.cell i c*t.cell r l.length)),(17,FreshV W6)]) (gL [(53,ShapeI),(54,ShapeI),(17,ShapeP)]) 70 7 (by kernel_rfl) (by rfl) (by kernel_rfl) (phi_c (fun _ _ _=>WhAt.below) (phi_c (fun _ _ _=>WhAt.below) (phi_c (fun _ _ _=>FreshV.grow) phi_n))) ?_
     iterate 4 (refine lex_s fun K hK=>?_;go_simp;refine hK _ ?_;clear hK K)
     refine lex_call ShapeI 153 #[.pointer (some ⟨b,0,none⟩),.int .i64 r,.int .i64 l.length] (by rfl) (by rfl) ShapeI.some (fun w=>by go_simp) (fun w1 hg hf=>(uh HCr w1 ((uh HG06).trans hg) l.length (by omega)).mono (by rintro e w' ⟨v',rfl,hv,hb⟩;exact ⟨_,rfl,hb,hv.shapeI,fun t ht=>by cases ht;exact hv⟩)) ?_
     rintro _ ⟨dx,da,dm,dc,rfl⟩
     refine lex_call ShapeI 93 #[.agg #[.int .i64 fx,.slice fa fm fc],.agg #[.int .i64 dx,.slice da dm dc]] (by rfl) (by rfl) ShapeI.some (fun w=>by go_simp) (fun w1 hg hf=>(Mul_any P K (t.cell i c) (t.cell r l.length) _ _ w1 (fun b' hb'=>hP b' (by have:=((uh HG06).trans hg).size;omega)) ((uh HVf6).val.below hg) (hf 4 (by kernel_rfl) _ 53 rfl rfl) (by omega) ((uh HLT).mine c (by omega)) ((uh HLT).row _ (by omega))).mono (by rintro e w' ⟨v',rfl,hv,hb⟩;exact ⟨_,rfl,hb,hv.shapeI,fun t ht=>by cases ht;exact hv⟩)) ?_
     rintro _ ⟨bx,ba,bm,bc,rfl⟩
     refine lex_grow ShapeP (by rfl) (by rfl) ShapeP.some (fun w1 hg hf=>⟨.pointer (some ⟨w1.heap.size,0,none⟩),w1.alloc (.cells #[.int .i64 0,.slice none 0 0] 82),by go_simp,Grows.alloc _ _,⟨_,rfl⟩,fun t ht=>by cases ht;exact FreshV.new hg⟩) ?_
     rintro _ ⟨g17,rfl⟩
     refine lex_last ?_
     intro w7 hg7 hphi
     have q54:WhAt P w7 (.agg #[.int .i64 bx,.slice ba bm bc]) (t.cell i c*t.cell r l.length):=hphi 5 _ 54 (by decide) rfl rfl
     have q17:FreshV W6 (.pointer (some ⟨g17,0,none⟩)) w7:=hphi 6 _ 17 (by decide) rfl rfl
     clear hphi y1 y2
     have hge:=q17.own.1
     have hblk:=q17.own.2
     have s0:=(int_cells hblk).1
     have s1:=(int_cells hblk).2.1
     have s2:=(int_cells hblk).2.2.1
     have s3:=(int_cells hblk).2.2.2
     have sv:=(store_new hg7 hge hblk q54).1
     have sg7:=(store_new hg7 hge hblk q54).2
     have HVb:=hide sv
     have HG7:Hid (Grows W6 ((w7.setCell ⟨g17,0,none⟩ (.int .i64 bx)).setCell ⟨g17,1,none⟩ (.slice ba bm bc))):=sg7
     clear sv sg7 q54 hge hblk hg7 q17
     go_wp2_with fail
     generalize hW7:(w7.setCell ⟨g17,0,none⟩ (.int .i64 bx)).setCell ⟨g17,1,none⟩ (.slice ba bm bc)=W7 at *
     have HG07:Hid (Grows w W7):=(uh HG06).trans (uh HG7)
     have HVa7:=hide ((uh HVa).grow (uh HG7))
     have HVl7:=hide (((uh HV5).grow (uh HG6)).grow (uh HG7))
     have HGr7:Hid (Grows wr W7):=((uh HG5).trans (uh HG6)).trans (uh HG7)
     obtain ⟨a70,a71,_⟩:=(uh HVa7).cells
     obtain ⟨b70,b71,_⟩:=(uh HVb).cells
     obtain ⟨sx,sa,sm,sc,k2,k3,hsc⟩:=((uh HT).below (uh HG07)).scale
     have HSC:=hide hsc
     have y1:=cell_regrown a70
     have y2:=cell_regrown a71
     have y3:=cell_regrown b70
     have y4:=cell_regrown b71
     have y5:=cell_regrown k2
     have y6:=cell_regrown k3
     clear a70 a71 b70 b71 k2 k3 hsc s0 s1 s2 s3 hW7 w7
     refine wp_region_grown (phiL [(57,fun v w=>WhAt P w v (t.cell r c*t.cell i l.length - t.cell i c*t.cell r l.length)),(62,fun v w=>WhAt P w v (Int.fdiv (t.cell r c*t.cell i l.length - t.cell i c*t.cell r l.length) t.scale))]) (gL [(57,ShapeI),(62,ShapeI)]) 70 8 (by kernel_rfl) (by rfl) (by kernel_rfl) (phi_c (fun _ _ _=>WhAt.below) (phi_c (fun _ _ _=>WhAt.below) phi_n)) ?_
     iterate 2 (refine lex_s fun K hK=>?_;go_simp;refine hK _ ?_;clear hK K)
     refine lex_call ShapeI 92 #[.agg #[.int .i64 ax,.slice aa am ac],.agg #[.int .i64 bx,.slice ba bm bc]] (by rfl) (by rfl) ShapeI.some (fun w=>by go_simp) (fun w1 hg hf=>(Sub_any P (2*K) (t.cell r c*t.cell i l.length) (t.cell i c*t.cell r l.length) _ _ w1 (fun b' hb'=>hP b' (by have:=((uh HG07).trans hg).size;omega)) ((uh HVa7).val.below hg) ((uh HVb).val.below hg) (by omega) (by rw [Nat.two_mul];exact ((uh HLT).row c (by omega)).mul ((uh HLT).mine _ (by omega))) (by rw [Nat.two_mul];exact ((uh HLT).mine c (by omega)).mul ((uh HLT).row _ (by omega)))).mono (by rintro e w' ⟨v',rfl,hv,hb⟩;exact ⟨_,rfl,hb,hv.shapeI,fun t ht=>by cases ht;exact hv⟩)) ?_
     rintro _ ⟨ex,ea,em,ec,rfl⟩
     iterate 4 (refine lex_s fun K hK=>?_;go_simp;refine hK _ ?_;clear hK K)
     refine lex_call ShapeI 91 #[.agg #[.int .i64 ex,.slice ea em ec],.agg #[.int .i64 sx,.slice sa sm sc]] (by rfl) (by rfl) ShapeI.some (fun w=>by go_simp) (fun w1 hg hf=>(Div_any P (2*K+1) (t.cell r c*t.cell i l.length - t.cell i c*t.cell r l.length) t.scale _ _ w1 (fun b' hb'=>hP b' (by have:=((uh HG07).trans hg).size;omega)) (hf 2 (by kernel_rfl) _ 57 rfl rfl) ((uh HSC).below hg) hK (Pl.Lt.sub (by rw [Nat.two_mul];exact ((uh HLT).row c (by omega)).mul ((uh HLT).mine _ (by omega))) (by rw [Nat.two_mul];exact ((uh HLT).mine c (by omega)).mul ((uh HLT).row _ (by omega)))) ((uh HLT).scale.mono (by omega))).mono (by rintro e w' ⟨v',rfl,hv,hb⟩;exact ⟨_,rfl,hb,hv.shapeI,fun t ht=>by cases ht;exact hv⟩)) ?_
     rintro _ ⟨d2x,d2a,d2m,d2c,rfl⟩
     refine lex_last ?_
     intro w8 hg8 hphi
     have q62:WhAt P w8 (.agg #[.int .i64 d2x,.slice d2a d2m d2c]) (Int.fdiv (t.cell r c*t.cell i l.length - t.cell i c*t.cell r l.length) t.scale):=hphi 7 _ 62 (by decide) rfl rfl
     clear hphi y1 y2 y3 y4 y5 y6
     have hblk:=((uh HVl7).grow hg8).heap
     have s0:=(int_cells hblk).1
     have s1:=(int_cells hblk).2.1
     have s2:=(int_cells hblk).2.2.1
     have s3:=(int_cells hblk).2.2.2
     have sv:=(store_new ((uh HGr7).trans hg8) (Nat.le_refl _) hblk q62).1
     have sg8:=(store_new ((uh HGr7).trans hg8) (Nat.le_refl _) hblk q62).2
     have HVd:=hide sv
     have HG8:Hid (Grows wr ((w8.setCell ⟨wr.heap.size,0,none⟩ (.int .i64 d2x)).setCell ⟨wr.heap.size,1,none⟩ (.slice d2a d2m d2c))):=sg8
     clear sv sg8 q62 hblk hg8
     go_wp2_with fail
     refine (signed_any P (Int.fdiv (t.cell r c*t.cell i l.length - t.cell i c*t.cell r l.length) t.scale) sg _ _ (uh HVd).val hs).mono ?_
     rintro e w8 ⟨v8,rfl,hv8,hw8⟩
     obtain ⟨x8,a8,m8,c8,rfl⟩:=hv8.shape
     have hG8:Grows wr w8:=Grows.trans (uh HG8) hw8
     have hR8:=(uh HR).1.below hG8
     obtain ⟨u1,u2,o0,o1,of0,of1⟩:=hR8.open hlt
     have HF:=hide (hR8.add hlt hv8)
     have HO9:Hid (Only g w3 ((w8.setCell ⟨g,l.length*2,none⟩ (.int .i64 x8)).setCell ⟨g,l.length*2+1,none⟩ (.slice a8 m8 c8))):=(((uh HR).2.1.grow hG8).setCell _ _).setCell _ _
     have HL:Hid (l++[sg*(Int.fdiv (t.cell r c*t.cell i l.length - t.cell i c*t.cell r l.length) t.scale)]=(t.told i r c sg).take (l++[sg*(Int.fdiv (t.cell r c*t.cell i l.length - t.cell i c*t.cell r l.length) t.scale)]).length):=by
      unfold Hid
      have e1:(l++[sg*(Int.fdiv (t.cell r c*t.cell i l.length - t.cell i c*t.cell r l.length) t.scale)]).length=l.length+1:=by simp
      rw [e1,told_off t i r c sg (by omega) hjc,←(uh HR).2.2]
     clear hv8 hw8 hR8 hG8
     go_wp2
     go_roundg (gk - 1)
     case measure=>omega
     case rel=>exact ⟨l++[sg*(Int.fdiv (t.cell r c*t.cell i l.length - t.cell i c*t.cell r l.length) t.scale)],by simp,by simp;omega,uh HF,uh HO9,uh HL⟩
   ·have hk0:gk=0:=by omega
    have hll:l.length=n:=by omega
    have HR2:Hid (RowAt P wr (.slice (some ⟨g,0,none⟩) n n) (t.told i r c sg)∧Below w.heap.size w wr):=by
     obtain ⟨r1,r2,r3⟩:=uh HR
     refine ⟨?_,Below.trans (uh HGW) (Only.below r2 hwg (uh HGW).size)⟩
     have:=r1.row hll (hP g (by omega))
     rw [r3,List.take_of_length_le (by rw [told_len];omega)] at this
     exact this
    clear HR
    go_wp2
    go_ret
    exact ⟨_,rfl,(uh HR2).1,(uh HR2).2⟩
end
end Go.Proofs.Ytfaljekgpnbmiaa

namespace Go.Proofs.Ytfaljekgpnbmiaa.Pl
def subRow (G:Nat→Nat→Int) (k j:Nat) (t:Int):Nat→Nat→Int:=fun a b=>if a=k then G k b - t*G j b else G a b
def subCol (G:Nat→Nat→Int) (k j:Nat) (t:Int):Nat→Nat→Int:=fun a b=>if b=k then G a k - t*G a j else G a b
def shortG (G:Nat→Nat→Int) (k j:Nat) (t:Int):Nat→Nat→Int:=subCol (subRow G k j t) k j t
theorem short_ne (G:Nat→Nat→Int) {k j a b:Nat} (t:Int) (ha:a≠k) (hb:b≠k):shortG G k j t a b=G a b:=by
 unfold shortG subCol subRow;rw [if_neg hb,if_neg ha]
theorem short_row (G:Nat→Nat→Int) {k j b:Nat} (t:Int) (hb:b≠k):shortG G k j t k b=G k b - t*G j b:=by
 unfold shortG subCol subRow;rw [if_neg hb,if_pos rfl]
theorem short_col (G:Nat→Nat→Int) {k j a:Nat} (t:Int) (ha:a≠k):shortG G k j t a k=G a k - t*G a j:=by
 unfold shortG subCol subRow;rw [if_pos rfl,if_neg ha,if_neg ha]
theorem short_both (G:Nat→Nat→Int) {k j:Nat} (t:Int):shortG G k j t k k=(G k k - t*G j k) - t*(G k j - t*G j j):=by
 unfold shortG subCol subRow;rw [if_pos rfl,if_pos rfl,if_pos rfl]
theorem mulR (v t x y:Int):v*(x - t*y)=v*x - t*(v*y):=by
 rw [Int.mul_sub,Int.mul_left_comm]
theorem mulB (v t x y z u:Int):v*((x - t*y) - t*(z - t*u))=(v*x - t*(v*y)) - t*(v*z - t*(v*u)):=by
 rw [Int.mul_sub,mulR,Int.mul_left_comm v t (z - t*u),mulR]
theorem eq_of_vol {v x y:Int} (hv:0<v) (h:v*x=v*y):x=y:=Int.eq_of_mul_eq_mul_left (by omega) h
section
variable {n:Nat} {G:Nat→Nat→Int}
theorem short_step {A A':Nat→Nat→Int} {l k j:Nat} {t v:Int} (hlj:l<j) (hjk:j<k) (hkn:k<n) (hs:∀ a b,l≤a→l≤b→a<n→b<n→A' a b=shortG A k j t a b) {X X':Nat→Nat→Int} (hv:0<v)
  (hX:∀ a b,l<a→l<b→a<n→b<n→v*X a b=A l l*A a b - A a l*A l b) (hX':∀ a b,l<a→l<b→a<n→b<n→v*X' a b=A' l l*A' a b - A' a l*A' l b) {a b:Nat} (ha:l<a) (hb:l<b) (han:a<n) (hbn:b<n):X' a b=shortG X k j t a b:=by
 have hlk:l≠k:=by omega
 refine eq_of_vol hv ?_
 rw [hX' a b ha hb han hbn,hs l l (by omega) (by omega) (by omega) (by omega),short_ne A t hlk hlk,hs a b (by omega) (by omega) han hbn,hs a l (by omega) (by omega) han (by omega),hs l b (by omega) (by omega) (by omega) hbn]
 by_cases hak:a=k
 ·subst hak
  by_cases hbk:b=a
  ·subst hbk
   rw [short_both,short_row A t hlk,short_col A t hlk,short_both,mulB v,hX b b ha ha han han,hX j b hlj ha (by omega) han,hX b j ha hlj han (by omega),hX j j hlj hlj (by omega) (by omega)]
   simp only [Int.sub_mul,Int.mul_sub,Int.mul_assoc,Int.mul_comm,Int.mul_left_comm];omega
  ·rw [short_row A t hbk,short_row A t hlk,short_ne A t hlk hbk,short_row X t hbk,mulR v,hX a b ha hb han hbn,hX j b hlj hb (by omega) hbn]
   simp only [Int.sub_mul,Int.mul_sub,Int.mul_assoc,Int.mul_comm,Int.mul_left_comm];omega
 ·by_cases hbk:b=k
  ·subst hbk
   rw [short_col A t hak,short_ne A t hak hlk,short_col A t hlk,short_col X t hak,mulR v,hX a b ha hb han hbn,hX a j ha hlj han (by omega)]
   simp only [Int.sub_mul,Int.mul_sub,Int.mul_assoc,Int.mul_comm,Int.mul_left_comm];omega
  ·rw [short_ne A t hak hbk,short_ne A t hak hlk,short_ne A t hlk hbk,short_ne X t hak hbk,hX a b ha hb han hbn]
theorem short_past {A A':Nat→Nat→Int} {k j:Nat} {t v:Int} (hjk:j<k) (hkn:k<n) (hs:∀ a b,j≤a→j≤b→a<n→b<n→A' a b=shortG A k j t a b) {X X':Nat→Nat→Int} (hv:0<v)
  (hX:∀ a b,j<a→j<b→a<n→b<n→v*X a b=A j j*A a b - A a j*A j b) (hX':∀ a b,j<a→j<b→a<n→b<n→v*X' a b=A' j j*A' a b - A' a j*A' j b) {a b:Nat} (ha:j<a) (hb:j<b) (han:a<n) (hbn:b<n):X' a b=X a b:=by
 have hjk':j≠k:=by omega
 refine eq_of_vol hv ?_
 rw [hX' a b ha hb han hbn,hX a b ha hb han hbn,hs j j (by omega) (by omega) (by omega) (by omega),short_ne A t hjk' hjk',hs a b (by omega) (by omega) han hbn,hs a j (by omega) (by omega) han (by omega),hs j b (by omega) (by omega) (by omega) hbn]
 by_cases hak:a=k
 ·subst hak
  by_cases hbk:b=a
  ·subst hbk
   rw [short_both,short_row A t hjk',short_col A t hjk']
   simp only [Int.sub_mul,Int.mul_sub,Int.mul_assoc,Int.mul_comm,Int.mul_left_comm];omega
  ·rw [short_row A t hbk,short_row A t hjk',short_ne A t hjk' hbk]
   simp only [Int.sub_mul,Int.mul_sub,Int.mul_assoc,Int.mul_comm,Int.mul_left_comm];omega
 ·by_cases hbk:b=k
  ·subst hbk
   rw [short_col A t hak,short_ne A t hak hjk',short_col A t hjk']
   simp only [Int.sub_mul,Int.mul_sub,Int.mul_assoc,Int.mul_comm,Int.mul_left_comm];omega
  ·rw [short_ne A t hak hbk,short_ne A t hak hjk',short_ne A t hjk' hbk]
theorem gm_short (hP:Posi n G) {k j:Nat} {t:Int} (hP':Posi n (shortG G k j t)) (hjk:j<k) (hkn:k<n):∀ l,l≤n →
  (l≤j→∀ a b,l≤a→l≤b→a<n→b<n→gm n (shortG G k j t) l a b=shortG (gm n G l) k j t a b)∧(j<l→∀ a b,l≤a→l≤b→a<n→b<n→gm n (shortG G k j t) l a b=gm n G l a b)∧vol n (shortG G k j t) l=vol n G l
 | 0,_=>by
  refine ⟨fun _ a b _ _ ha hb=>?_,fun h=>by omega,rfl⟩
  have hz:∀ x y,x<n→y<n→gm n G 0 x y=G x y:=fun x y hx hy=>gm_zero hx hy
  rw [gm_zero ha hb]
  by_cases hak:a=k
  ·subst hak
   by_cases hbk:b=a
   ·subst hbk;rw [short_both,short_both,hz _ _ ha ha,hz _ _ (by omega) ha,hz _ _ ha (by omega),hz _ _ (by omega) (by omega)]
   ·rw [short_row _ t hbk,short_row _ t hbk,hz _ _ ha hb,hz _ _ (by omega) hb]
  ·by_cases hbk:b=k
   ·subst hbk;rw [short_col _ t hak,short_col _ t hak,hz _ _ ha hb,hz _ _ ha (by omega)]
   ·rw [short_ne _ t hak hbk,short_ne _ t hak hbk,hz _ _ ha hb]
 | l+1,hl=>by
  obtain ⟨i1,i2,i3⟩:=gm_short hP hP' hjk hkn l (by omega)
  have hv:=vol_pos hP (show l≤n by omega)
  have s1:∀ a b,l<a→l<b→a<n→b<n→vol n G l*gm n G (l+1) a b=gm n G l l l*gm n G l a b - gm n G l a l*gm n G l l b:=fun a b h1 h2 h3 h4=>(gm_succ hP (by omega) h3 h4 (by omega) (by omega)).2
  have s2:∀ a b,l<a→l<b→a<n→b<n→vol n G l*gm n (shortG G k j t) (l+1) a b=gm n (shortG G k j t) l l l*gm n (shortG G k j t) l a b - gm n (shortG G k j t) l a l*gm n (shortG G k j t) l l b:=fun a b h1 h2 h3 h4=>by
   rw [←i3];exact (gm_succ hP' (by omega) h3 h4 (by omega) (by omega)).2
  have hvol:vol n (shortG G k j t) (l+1)=vol n G (l+1):=by
   rw [vol_succ hP' (by omega),vol_succ hP (by omega)]
   by_cases h:l≤j
   ·rw [i1 h l l (by omega) (by omega) (by omega) (by omega),short_ne _ t (by omega) (by omega)]
   ·exact i2 (by omega) l l (by omega) (by omega) (by omega) (by omega)
  refine ⟨fun h a b h1 h2 h3 h4=>?_,fun h a b h1 h2 h3 h4=>?_,hvol⟩
  ·exact short_step (n:=n) (by omega) hjk hkn (i1 (by omega)) hv s1 s2 (by omega) (by omega) h3 h4
  ·by_cases hj:l=j
   ·subst hj
    exact short_past (n:=n) hjk hkn (i1 (Nat.le_refl _)) hv s1 s2 (by omega) (by omega) h3 h4
   ·have e:=i2 (by omega)
    refine eq_of_vol hv ?_
    rw [s1 a b (by omega) (by omega) h3 h4,s2 a b (by omega) (by omega) h3 h4,e l l (by omega) (by omega) (by omega) (by omega),e a b (by omega) (by omega) h3 h4,e a l (by omega) (by omega) h3 (by omega),e l b (by omega) (by omega) (by omega) h4]
end
def sw (k a:Nat):Nat:=if a=k then k - 1 else if a=k - 1 then k else a
def exG (G:Nat→Nat→Int) (k:Nat):Nat→Nat→Int:=fun a b=>G (sw k a) (sw k b)
theorem sw_self (k:Nat):sw k k=k - 1:=if_pos rfl
theorem sw_pred {k:Nat} (h:0<k):sw k (k - 1)=k:=by unfold sw;rw [if_neg (by omega),if_pos rfl]
theorem sw_other {k a:Nat} (h1:a≠k) (h2:a≠k - 1):sw k a=a:=by unfold sw;rw [if_neg h1,if_neg h2]
theorem sw_lt {k a n:Nat} (hk:k<n) (ha:a<n):sw k a<n:=by unfold sw;split <;> (try split) <;> omega
theorem sw_ne {k a l:Nat} (hk:0<k) (hl:l<k - 1) (ha:a≠l):sw k a≠l:=by unfold sw;split <;> (try split) <;> omega
theorem det3 (a b b' c x y u v m:Int):(a*c - b'*b)*(a*m - x*u) - (a*y - x*b)*(a*v - b'*u)=a*(a*(c*m) - c*(x*u) - b'*(b*m) - a*(y*v)+b'*(y*u)+b*(x*v)):=by
 simp only [Int.sub_mul,Int.mul_sub,Int.mul_add,Int.mul_assoc,Int.mul_comm,Int.mul_left_comm]
 omega
theorem two_up {s p q r w z g:Int} (h:p*g=q*r - w*z):(s*s)*(p*g)=(s*q)*(s*r) - (s*w)*(s*z):=by
 rw [h,Int.mul_sub]
 simp only [Int.mul_assoc,Int.mul_comm,Int.mul_left_comm]
section
variable {n:Nat} {G:Nat→Nat→Int}
theorem gm_ex_low (hP:Posi n G) {k:Nat} (hP':Posi n (exG G k)) (hk:0<k) (hkn:k<n):∀ l,l≤k - 1 →
  (∀ a b,l≤a→l≤b→a<n→b<n→gm n (exG G k) l a b=gm n G l (sw k a) (sw k b))∧vol n (exG G k) l=vol n G l
 | 0,_=>⟨fun a b _ _ ha hb=>by rw [gm_zero ha hb,gm_zero (sw_lt hkn ha) (sw_lt hkn hb)];rfl,rfl⟩
 | l+1,hl=>by
  obtain ⟨i1,i2⟩:=gm_ex_low hP hP' hk hkn l (by omega)
  have hll:sw k l=l:=sw_other (by omega) (by omega)
  refine ⟨fun a b h1 h2 h3 h4=>?_,?_⟩
  ·refine eq_of_vol (vol_pos hP (show l≤n by omega)) ?_
   rw [(gm_succ hP (by omega) (sw_lt hkn h3) (sw_lt hkn h4) (sw_ne hk (by omega) (by omega)) (sw_ne hk (by omega) (by omega))).2,←i2,(gm_succ hP' (by omega) h3 h4 (by omega) (by omega)).2,
    i1 l l (by omega) (by omega) (by omega) (by omega),i1 a b (by omega) (by omega) h3 h4,i1 a l (by omega) (by omega) h3 (by omega),i1 l b (by omega) (by omega) (by omega) h4,hll]
  ·rw [vol_succ hP' (by omega),vol_succ hP (by omega),i1 l l (by omega) (by omega) (by omega) (by omega),hll]
theorem vol_ex_at (hP:Posi n G) {k:Nat} (hP':Posi n (exG G k)) (hk:0<k) (hkn:k<n):vol n (exG G k) k=gm n G (k - 1) k k:=by
 have h:=(gm_ex_low hP hP' hk hkn (k - 1) (Nat.le_refl _)).1
 have e:=vol_succ hP' (show k - 1<n by omega)
 rw [show k - 1+1=k by omega] at e
 rw [e,h (k - 1) (k - 1) (Nat.le_refl _) (Nat.le_refl _) (by omega) (by omega),sw_pred hk]
theorem gm_ex_past (hP:Posi n G) {k:Nat} (hP':Posi n (exG G k)) (hk:0<k) (hkn:k<n) {i j:Nat} (hi:k<i) (hj:k<j) (hin:i<n) (hjn:j<n) :
  gm n (exG G k) (k+1) i j=gm n G (k+1) i j:=by
 obtain ⟨h,hv⟩:=gm_ex_low hP hP' hk hkn (k - 1) (Nat.le_refl _)
 have hs:=vol_pos hP (show k - 1≤n by omega)
 have va:=vol_succ hP (show k - 1<n by omega)
 rw [show k - 1+1=k by omega] at va
 have vc:=vol_ex_at hP hP' hk hkn
 have hpa:=vol_pos hP (show k≤n by omega)
 have hpc:=vol_pos hP' (show k≤n by omega)
 -- one level: the table's own numbers
 have g:∀ x y,k - 1<x→k - 1<y→x<n→y<n→vol n G (k - 1)*gm n G k x y=gm n G (k - 1) (k - 1) (k - 1)*gm n G (k - 1) x y - gm n G (k - 1) x (k - 1)*gm n G (k - 1) (k - 1) y:=fun x y h1 h2 h3 h4=>by
  have:=(gm_succ hP (l:=k - 1) (by omega) h3 h4 (by omega) (by omega)).2
  rwa [show k - 1+1=k by omega] at this
 have g':∀ x y,k - 1<x→k - 1<y→x<n→y<n→vol n G (k - 1)*gm n (exG G k) k x y=gm n G (k - 1) k k*gm n G (k - 1) (sw k x) (sw k y) - gm n G (k - 1) (sw k x) k*gm n G (k - 1) k (sw k y):=fun x y h1 h2 h3 h4=>by
  have:=(gm_succ hP' (l:=k - 1) (by omega) h3 h4 (by omega) (by omega)).2
  rw [show k - 1+1=k by omega,hv,h (k - 1) (k - 1) (Nat.le_refl _) (Nat.le_refl _) (by omega) (by omega),h x y (by omega) (by omega) h3 h4,h x (k - 1) (by omega) (Nat.le_refl _) h3 (by omega),h (k - 1) y (Nat.le_refl _) (by omega) (by omega) h4,sw_pred hk] at this
  exact this
 have e1:=two_up (s:=vol n G (k - 1)) (gm_succ hP hkn hin hjn (by omega) (by omega)).2
 have e2:=two_up (s:=vol n G (k - 1)) (gm_succ hP' hkn hin hjn (by omega) (by omega)).2
 rw [g k k (by omega) (by omega) hkn hkn,g i j (by omega) (by omega) hin hjn,g i k (by omega) (by omega) hin hkn,g k j (by omega) (by omega) hkn hjn,va,det3] at e1
 rw [g' k k (by omega) (by omega) hkn hkn,g' i j (by omega) (by omega) hin hjn,g' i k (by omega) (by omega) hin hkn,g' k j (by omega) (by omega) hkn hjn,vc,sw_self,sw_other (show i≠k by omega) (by omega),sw_other (show j≠k by omega) (by omega),det3] at e2
 rw [va] at hpa
 rw [vc] at hpc
 generalize vol n G (k - 1)=s at *
 generalize gm n G (k - 1) (k - 1) (k - 1)=A at *
 generalize gm n G (k - 1) (k - 1) k=B at *
 generalize gm n G (k - 1) k (k - 1)=B' at *
 generalize gm n G (k - 1) k k=C at *
 generalize gm n G (k - 1) i (k - 1)=x at *
 generalize gm n G (k - 1) i k=y at *
 generalize gm n G (k - 1) (k - 1) j=u at *
 generalize gm n G (k - 1) k j=v at *
 generalize gm n G (k - 1) i j=m at *
 have f1:s*s*gm n G (k+1) i j=A*(C*m) - C*(x*u) - B'*(B*m) - A*(y*v)+B'*(y*u)+B*(x*v):=eq_of_vol hpa (by rw [←e1,Int.mul_left_comm])
 have f2:s*s*gm n (exG G k) (k+1) i j=C*(A*m) - A*(y*v) - B*(B'*m) - C*(x*u)+B*(x*v)+B'*(y*u):=eq_of_vol hpc (by rw [←e2,Int.mul_left_comm])
 have hss:0<s*s:=Int.mul_pos hs hs
 refine eq_of_vol hss ?_
 rw [f1,f2,Int.mul_left_comm C A m,Int.mul_left_comm B B' m]
 omega
theorem gm_ex_high (hP:Posi n G) {k:Nat} (hP':Posi n (exG G k)) (hk:0<k) (hkn:k<n):∀ d,k+1+d≤n →
  (∀ a b,k+1+d≤a→k+1+d≤b→a<n→b<n→gm n (exG G k) (k+1+d) a b=gm n G (k+1+d) a b)∧vol n (exG G k) (k+1+d)=vol n G (k+1+d)
 | 0,hd=>by
  refine ⟨fun a b h1 h2 h3 h4=>gm_ex_past hP hP' hk hkn (by omega) (by omega) h3 h4,?_⟩
  obtain ⟨h,hv⟩:=gm_ex_low hP hP' hk hkn (k - 1) (Nat.le_refl _)
  have hs:=vol_pos hP (show k - 1≤n by omega)
  rw [show k+1+0=k+1 by omega,vol_succ hP' hkn,vol_succ hP hkn]
  have e1:=(gm_succ hP (l:=k - 1) (by omega) hkn hkn (by omega) (by omega)).2
  have e2:=(gm_succ hP' (l:=k - 1) (by omega) hkn hkn (by omega) (by omega)).2
  rw [show k - 1+1=k by omega] at e1 e2
  rw [hv,h (k - 1) (k - 1) (Nat.le_refl _) (Nat.le_refl _) (by omega) (by omega),h k k (by omega) (by omega) hkn hkn,h k (k - 1) (by omega) (Nat.le_refl _) hkn (by omega),h (k - 1) k (Nat.le_refl _) (by omega) (by omega) hkn,sw_pred hk,sw_self] at e2
  refine eq_of_vol hs ?_
  rw [e1,e2,Int.mul_comm (gm n G (k - 1) k k),Int.mul_comm (gm n G (k - 1) (k - 1) k)]
 | d+1,hd=>by
  obtain ⟨i1,i2⟩:=gm_ex_high hP hP' hk hkn d (by omega)
  refine ⟨fun a b h1 h2 h3 h4=>?_,?_⟩
  ·refine eq_of_vol (vol_pos hP (show k+1+d≤n by omega)) ?_
   rw [show k+1+(d+1)=k+1+d+1 by omega,(gm_succ hP (by omega) h3 h4 (by omega) (by omega)).2,←i2,(gm_succ hP' (by omega) h3 h4 (by omega) (by omega)).2,
    i1 _ _ (Nat.le_refl _) (Nat.le_refl _) (by omega) (by omega),i1 a b (by omega) (by omega) h3 h4,i1 a _ (by omega) (Nat.le_refl _) h3 (by omega),i1 _ b (Nat.le_refl _) (by omega) (by omega) h4]
  ·rw [show k+1+(d+1)=k+1+d+1 by omega,vol_succ hP' (by omega),vol_succ hP (by omega),i1 _ _ (Nat.le_refl _) (Nat.le_refl _) (by omega) (by omega)]
theorem vol_ex_less (hP:Posi n G) (hG:∀ i j,G i j=G j i) {k:Nat} (hP':Posi n (exG G k)) (hk:0<k) (hkn:k<n)
  (hord:100*(vol n G (k+1)*vol n G (k - 1)+gm n G (k - 1) k (k - 1)*gm n G (k - 1) k (k - 1))<99*(vol n G k*vol n G k)):vol n (exG G k) k<vol n G k:=by
 rw [vol_ex_at hP hP' hk hkn]
 have e1:=(gm_succ hP (l:=k - 1) (by omega) hkn hkn (by omega) (by omega)).2
 rw [show k - 1+1=k by omega,←vol_succ hP hkn,gm_symm hP hG (k - 1) (by omega) (k - 1) k (Nat.le_refl _) (by omega) (by omega) hkn] at e1
 have va:=vol_succ hP (show k - 1<n by omega)
 rw [show k - 1+1=k by omega] at va
 rw [←va] at e1
 have hv:=vol_pos hP (show k≤n by omega)
 generalize vol n G k=A at *
 generalize gm n G (k - 1) k k=C at *
 apply Classical.byContradiction
 intro hc
 have h1:A*A≤A*C:=Int.mul_le_mul_of_nonneg_left (by omega) (by omega)
 have h2:0<A*A:=Int.mul_pos hv hv
 rw [Int.mul_comm (vol n G (k+1))] at hord
 omega
end
end Go.Proofs.Ytfaljekgpnbmiaa.Pl
