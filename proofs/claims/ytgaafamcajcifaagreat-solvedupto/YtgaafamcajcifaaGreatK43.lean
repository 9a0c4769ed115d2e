/- Joined: XOf4. -/
import Derived.Test.YtgaafamcajcifaaGreatK08
import Derived.Test.YtgaafamcajcifaaGreatK42
set_option linter.unusedVariables false
set_option linter.unusedSimpArgs false
set_option maxRecDepth 100000
namespace Go.Proofs.YtgaafamcajcifaaGreat
open Go.RowKit Go.Sort
theorem dB.aB {P:Nat->Prop} {B:Nat} {w:World} {v:Value} {ls:List (List Int)} (h:dB P B w v ls):aZ v:=by
 obtain ⟨xs,h1,_⟩:=h;rcases h1.2 with ⟨e,_⟩|⟨g,cap,cur,e,_⟩
 ·exact ⟨_,_,_,e⟩
 ·exact ⟨_,_,_,e⟩
attribute [local go_sem] bD Cn
set_option maxHeartbeats 1000000 in
theorem FT (vs:List (Int × Int)) (rs:List dS) (va vb:Value) (w:World) (ha:jd w va vs) (hb:kP w vb rs) (hv:fI vs) (hr:lI vs.length rs) :
  Calls Tryz.prog 30 #[va,vb] w λe w'=>∃ v',e=.returned v'∧jT PT w' v' (j6 vs rs)∧Below w.heap.size w w':=by
 obtain ⟨i0,hi0,hz0,hz1,hz2⟩:=U_ Tryz.dP;obtain ⟨i1,hi1,hy0,hy1,hy2⟩:=U_ Tryz.oQ;obtain ⟨aa,ac,rfl⟩:=ha.aB;obtain ⟨ba,bc,rfl⟩:=hb.aB;have hn4:=hv.four;have hm8:=hr.pI;have HV:=af hv;have N7:=af hr;have HA:=af ha;have HB:=af hb;obtain ⟨n,hn⟩:∃ n,vs.length=n:=⟨_,rfl⟩;obtain ⟨m,hm⟩:∃ m,rs.length=m:=⟨_,rfl⟩;have HN:=af hn;have HM:=af hm;rw [hn] at hn4 N7;rw [hm] at hm8;rw [hn,hm];rw [hn] at HA;rw [hm] at HB;have HO:Hid (vD w ((w.alloc (.cells #[.int .i64 0,.slice none 0 0,.slice none 0 0,.slice none 0 0] 74)).alloc (.cells #[.int .i64 n,.slice none 0 0,.slice none 0 0,.slice none 0 0] 74)) ((w.alloc (.cells #[.int .i64 0,.slice none 0 0,.slice none 0 0,.slice none 0 0] 74)).alloc (.cells #[.int .i64 n,.slice none 0 0,.slice none 0 0,.slice none 0 0] 74)).heap.size n (.slice none 0 0) (.slice none 0 0) (.slice none 0 0) [] [] []):=by
  have e1:=aG (w.alloc (.cells #[.int .i64 0,.slice none 0 0,.slice none 0 0,.slice none 0 0] 74)) (.cells #[.int .i64 n,.slice none 0 0,.slice none 0 0,.slice none 0 0] 74);rw [H_] at e1;refine ⟨e1,Below.same (ae.alloc _ _) _ _ (aG w _),.nil _ _ _,.nil _ _ _,.nil _ _ _,λk hk=>(by cases hk),λk hk=>(by cases hk),λk hk=>(by cases hk),ae.trans (ae.alloc _ _) (ae.alloc _ _),?_,d_ _⟩;rw [H_,H_];omega
 clear ha hb hv hr hn hm;go_enter Tryz.func30,Tryz.ntmps30;go_wp2_with fail;generalize hW:(w.alloc (.cells #[.int .i64 0,.slice none 0 0,.slice none 0 0,.slice none 0 0] 74)).alloc (.cells #[.int .i64 n,.slice none 0 0,.slice none 0 0,.slice none 0 0] 74)=W at *
 generalize hBB:W.heap.size=B at *
 clear hW hBB;go_loopg [6] n (λk iv wr=>∃ (i:Nat) (lv tv:Value),iv=.int .i64 i∧i+k=n∧Hid (vD w wr B n (.slice none 0 0) lv tv [] (eF n vs i) (gT n i)))
 case atStart=>exact ⟨0,_,_,rfl,by omega,uh HO⟩
 case round =>
  clear HO;obtain ⟨i,lv,tv,rfl,hik,HR⟩:=hrel;have hsl:aZ lv:=by
   obtain ⟨xs,h1,_⟩:=(uh HR).least;rcases h1.2 with ⟨e,_⟩|⟨g,cap,cur,e,_⟩
   ·exact ⟨_,_,_,e⟩
   ·exact ⟨_,_,_,e⟩
  have hst:aZ tv:=by
   obtain ⟨xs,h1,_⟩:=(uh HR).told;rcases h1.2 with ⟨e,_⟩|⟨g,cap,cur,e,_⟩
   ·exact ⟨_,_,_,e⟩
   ·exact ⟨_,_,_,e⟩
  obtain ⟨la,ln,lc,rfl⟩:=hsl;obtain ⟨ta,tn,tc,rfl⟩:=hst;by_cases hlt:i<n
  ·have hwn:IntKind.i64.wrap ((n:Int)+1)=((n+1:Nat):Int):=by rw [aaA];omega
   go_wp2_with (at_make;refine wpList_make_full _ rfl _ _ 69 rfl wr.heap.size 78 i0 (.agg #[.int .i64 0,.slice none 0 0]) 2 Tryz.underlying69 hi0 hz0 hz1 .i64 .i64 _ _ (n+1) rfl rfl ?e1 ?e2 ?c1 ?c2 ?c3 ?_)
   case e1=>first | rfl | omega | simp
   case e2=>first | rfl | omega | simp
   case c1=>rw [hz2];omega
   case c2=>unfold maxLen;omega
   case c3=>first | omega | simp
   ·intro w1 hown hgrow;have hG1:ae wr w1:=(n_ _ _).grown hgrow (d_ _) (by intro k hk;cases hk);have uA:Hid (bz PT w1 wr.heap.size (n+1) (λ_=>0)):=bz.made hown;have dN:=af hG1;have w1':IntKind.i64.wrap ((i:Int)+1)=(i:Int)+1:=by rw [aaA];omega
    have t1':((i:Int)+1).toNat=i+1:=by omega
    have l1':(i:Int)+1<(n:Int)+1:=by omega
    have l2':0<=(i:Int)+1:=by omega
    clear hown hgrow hG1;go_wp2_with fail;refine (fM PT 1 w1 (λ_ _=>trivial) (by decide) (by decide)).mono ?_;rintro e w2 ⟨v2,rfl,hv2,hb2⟩;obtain ⟨ox,oa,om,oc,rfl⟩:=hv2.shape;have hR2:=(uh uA).grow hb2;obtain ⟨qx,qa,qm,qc,r0,r1,_,f0,f1⟩:=hR2.get (i:=i+1) (by omega);have sM:Hid (aD PT ((w2.setCell ⟨wr.heap.size,(i+1)*2,none⟩ (.int .i64 ox)).setCell ⟨wr.heap.size,(i+1)*2+1,none⟩ (.slice oa om oc)) (.slice (some ⟨wr.heap.size,0,none⟩) (n+1) (n+1)) (dh n i)):=by
     have:=((hR2.set (i:=i+1) (by omega) hv2).congr (f':=Pl.unit (i+1)) (λk _=>by
      unfold qi Pl.unit;by_cases h:k=i+1
      ·rw [h_ h,h_ h.symm]
      ·rw [g_ h,g_ (λe=>h e.symm)])).row trivial
     exact this
    have jb:Hid (ae wr ((w2.setCell ⟨wr.heap.size,(i+1)*2,none⟩ (.int .i64 ox)).setCell ⟨wr.heap.size,(i+1)*2+1,none⟩ (.slice oa om oc))):=(B_ (p:=⟨wr.heap.size,(i+1)*2,none⟩) (ae.trans (uh dN) hb2) (d_ _) _).setCell (p:=⟨wr.heap.size,(i+1)*2+1,none⟩) (d_ _) _;generalize hW3:(w2.setCell ⟨wr.heap.size,(i+1)*2,none⟩ (.int .i64 ox)).setCell ⟨wr.heap.size,(i+1)*2+1,none⟩ (.slice oa om oc)=W3 at *
    have oG:=af ((uh HR).grow (uh jb));have k3:W3.cell? ⟨w.heap.size+1,3,none⟩=some (.slice ta tn tc):=by rw [cellsOf (uh oG).box];rfl
    obtain ⟨xs,hx1,hx2⟩:=(uh oG).told;have htn:tn=(gT n i).length:=(uh oG).told.len;have htl:(gT n i).length<=1000:=by unfold gT;rw [L_,List.length_range];omega
    have HX1:=af hx1;have Fg:=af hx2;have HOW:=af (λo=>hx1.alloc o);have HTN:=af htn;have hb1:=(uh oG).b1;clear hv2 hb2 hR2 hx1 hx2 htn;go_wp2_with (at_builtin;refine wpList_append_lies _ rfl _ _ 72 rfl B 69 i1 (.slice none 0 0) 1 24 Tryz.underlying72 hi1 hy0 hy1 hy2 rfl (by decide) _ (gT n i).length xs rfl (uh HOW _) ⟨_,0,none⟩ 1 1 [.slice (some ⟨wr.heap.size,0,none⟩) (n+1) (n+1)] rfl rfl ?d1 (by simp [Value.oneCell']) (by decide) ?d2 ?d3 ?d4 _ rfl ?_)
    case d1=>exact λj u hu=>World.news_of_block (aax _ _) j u hu
    case d2=>unfold maxLen;omega
    case d3=>omega
    case d4=>simp;omega
    ·intro g cap w4 AL ru Ik Il;have hgA:=ae.alloc W3 (.cells #[.slice (some ⟨wr.heap.size,0,none⟩) (n+1) (n+1)] 69);have hadd:=((uh oG).grow hgA).SV (uh HOW _) ((uh Fg).grow (.aX hgA)) ((uh sM).below hgA) AL ru (by rcases Ik with e | e;exact .inl e;exact .inr (by rw [e,H_]))
     have kb:w4.cell? ⟨w.heap.size+1,3,none⟩=some (.slice ta tn tc):=by rw [cellsOf hadd.2];rfl
     have Xv:w4.frozen? ⟨w.heap.size+1,3,none⟩=false:=aH hadd.2 3;have hK1:aA 78 W3 w4:=(aA.aX hgA).trans (aA.grown (uh HOW _) ru (by decide));have hK2:aA 3 W3 w4:=(aA.aX hgA).trans (aA.grown (uh HOW _) ru (by decide));have EB:Hid (aD PT (w4.setCell ⟨w.heap.size+1,3,none⟩ (.slice (some ⟨g,0,none⟩) ((gT n i).length+1) cap)) (.slice (some ⟨wr.heap.size,0,none⟩) (n+1) (n+1)) (dh n i)):=((uh sM).dY hK1 hK2).dY (aA.box hadd.2 (by decide)) (aA.box hadd.2 (by decide));have Ns:=af hadd.1;clear AL ru Ik Il hadd hgA hK1 hK2 HOW HX1 Fg oG k3;generalize Bh:w4.setCell ⟨w.heap.size+1,3,none⟩ (.slice (some ⟨g,0,none⟩) ((gT n i).length+1) cap)=W5 at *
     have k2:W5.cell? ⟨w.heap.size+1,2,none⟩=some (.slice la ln lc):=by rw [cellsOf (uh Ns).box];rfl
     obtain ⟨gv,ov,ev,c0,c1⟩:=((uh HA).below (uh Ns).cZ).get (i:=i) (by rw [uh HN];exact hlt);cases ev;have ZB:Hid (w.cell? ⟨gv,ov+i*2+1,none⟩=some (.int .i64 (vs.getD i (0,0)).2)):=by
      obtain ⟨gv',ov',ev,_,c1'⟩:=(uh HA).get (i:=i) (by rw [uh HN];exact hlt);cases ev;exact c1'
     have HY:=af ((uh HV).lo _ (jE (i:=i) (by rw [uh HN];exact hlt)));have DJ:=af ((uh HV).hi _ (jE (i:=i) (by rw [uh HN];exact hlt)));obtain ⟨lo,hlo⟩:∃ lo,(vs.getD i (0,0)).1=lo:=⟨_,rfl⟩;obtain ⟨hi,hhi⟩:∃ hi,(vs.getD i (0,0)).2=hi:=⟨_,rfl⟩;rw [hlo] at c0 HY;rw [hhi] at ZB DJ;have HEQ:Hid (eF n vs (i+1)=eF n vs i++[bP (dh n i) (-lo)]++[bP ((dh n i).map λx=>-x) hi]):=by
      unfold Hid;rw [yY];unfold rq;rw [hlo,hhi,abd];rfl
     clear hlo hhi;have hneg:IntKind.i64.wrap (-lo)=-lo:=by have:=uh HY;rw [aaA];omega
     have AA:Hid ((eF n vs i).length<=1000):=by unfold Hid;rw [lW];omega
     clear c1;go_wp2_with fail
     try rw [Bh]
     clear Bh kb Xv;have y0:=b_ k2;have y1:=b_ c0;clear k2 c0;refine rP (bZ [(45,λv w=>aD PT w v (bP (dh n i) (-lo))),(46,fJ PT (bP (dh n i) (-lo))),(44,λv w=>aj PT w v (-lo))]) (gL [(44,ag),(45,aZ),(46,pV)]) 112 12 (by kernel_rfl) (by rfl) (by kernel_rfl) (aN (λ_ _ _=>aD.below) (aN (λ_ _ _=>fJ.grow) (aN (λ_ _ _=>aj.below) cK))) ?_
     iterate 9 (refine aO λK hK=>?_;go_simp;refine hK _ ?_;clear hK K)
     refine ai ag 40 #[.int .i64 (-lo)] (by rfl) (by rfl) ag.some (λw=>by go_simp) (λwq hg hf=>(fM PT (-lo) wq (λ_ _=>trivial) (by have:=uh HY;omega) (by have:=uh HY;omega)).mono (by rintro e w' ⟨v',rfl,hv,hb⟩;exact ⟨_,rfl,hb,hv.aU,λt ht=>by cases ht;exact hv⟩)) ?_;rintro _ ⟨bx,ba,bm,bc,rfl⟩;simp only [Act.put,p_,G_,D_];refine ai aZ 37 #[.slice (some ⟨wr.heap.size,0,none⟩) (n+1) (n+1),.agg #[.int .i64 bx,.slice ba bm bc]] (by rfl) (by rfl) aZ.some (λw=>by go_simp) (λwq hg hf=>(nC PT 1 (n+1) (dh n i) (-lo) _ _ wq (λ_ _=>trivial) ((uh EB).below hg) (hf 9 (by kernel_rfl) _ 44 rfl rfl) (iA n i) (by omega) (by omega) (λk=>uZ (d_ _) k) (nE (show (-lo).natAbs<1073741824 by have:=uh HY;omega)) (by omega)).mono (by rintro e w' ⟨v',rfl,hv,hb⟩;exact ⟨_,rfl,hb,hv.aB,λt ht=>by cases ht;exact hv⟩)) ?_;rintro _ ⟨sa,sm,sc,rfl⟩;simp only [Act.put,p_,G_,D_];refine eO pV (by rfl) (by rfl) pV.some (λwq hg hf=>⟨.slice (some ⟨wq.heap.size,0,none⟩) 1 1,wq.alloc (.cells #[.slice sa sm sc] 69),by go_simp,ae.alloc _ _,⟨_,rfl⟩,λt ht=>by cases ht;exact fJ.new (hf 10 (by kernel_rfl) _ 45 rfl rfl)⟩) ?_;rintro _ ⟨gx,rfl⟩;simp only [Act.put,p_,G_,D_];refine aF ?_;intro w6 rH aK;have hfr:fJ PT (bP (dh n i) (-lo)) (.slice (some ⟨gx,0,none⟩) 1 1) w6:=aK 11 _ 46 (by decide) rfl rfl;clear aK;obtain ⟨gx',u,ex,hbx,Ro⟩:=hfr;cases ex;obtain ⟨sa',sm',Sz,rfl⟩:=Ro.aB;have SY:=af ((uh Ns).grow rH);obtain ⟨xs,hx1,hx2⟩:=(uh SY).least;have hll:(eF n vs i).length<=1000:=uh AA;have hb6:=(uh SY).b1;refine wp_append_lies w6 (.tmp 36) (.tmp 46) 72 rfl B 69 i1 (.slice none 0 0) 1 24 Tryz.underlying72 hi1 hy0 hy1 hy2 rfl (by decide) (.slice la ln lc) (eF n vs i).length xs rfl hx1 ⟨gx,0,none⟩ 1 1 [.slice sa' sm' Sz] rfl rfl (λj u hu=>World.news_of_block hbx j u hu) (by simp [Value.oneCell']) (by decide) (by unfold maxLen;omega) (by omega) hb6 _ rfl ?_;intro g8 Hf w7 Im tV Qu Qv;have hadd:=(uh SY).CW hx1 hx2 Ro Im tV Qu;have kb:w7.cell? ⟨w.heap.size+1,2,none⟩=some (.slice la ln lc):=by rw [cellsOf hadd.2];rfl
     have Xv:w7.frozen? ⟨w.heap.size+1,2,none⟩=false:=aH hadd.2 2;have Uo:Hid (aD PT (w7.setCell ⟨w.heap.size+1,2,none⟩ (.slice (some ⟨g8,0,none⟩) ((eF n vs i).length+1) Hf)) (.slice (some ⟨wr.heap.size,0,none⟩) (n+1) (n+1)) (dh n i)):=(((uh EB).below rH).dY (aA.grown hx1 tV (by decide)) (aA.grown hx1 tV (by decide))).dY (aA.box hadd.2 (by decide)) (aA.box hadd.2 (by decide));have Qq:=af hadd.1;clear Im tV Qu Qv hadd hx1 hx2 hbx Ro rH SY hll hb6;clear y0 y1 hneg;have adF:Hid ((eF n vs i++[bP (dh n i) (-lo)]).length<=1000):=by unfold Hid;rw [C_,lW];simp;omega
     generalize hL8:eF n vs i++[bP (dh n i) (-lo)]=L8 at *
     generalize hn8:(eF n vs i).length+1=n8 at *
     clear hL8 hn8;generalize GK:w7.setCell ⟨w.heap.size+1,2,none⟩ (.slice (some ⟨g8,0,none⟩) n8 Hf)=W8 at *
     have k2:W8.cell? ⟨w.heap.size+1,2,none⟩=some (.slice (some ⟨g8,0,none⟩) n8 Hf):=by rw [cellsOf (uh Qq).box];rfl
     have c1:=(uh Qq).cZ.cell (uh ZB);clear AA Ns EB;have AA:=adF;go_wp2_with fail
     try rw [GK]
     clear GK kb Xv;have y0:=b_ k2;have y1:=b_ c1;clear k2 c1;refine rP (bZ [(59,λv w=>aD PT w v (bP ((dh n i).map λx=>-x) hi)),(60,fJ PT (bP ((dh n i).map λx=>-x) hi)),(58,λv w=>aj PT w v hi),(52,λv w=>aD PT w v ((dh n i).map λx=>-x))]) (gL [(58,ag),(52,aZ),(59,aZ),(60,pV)]) 112 12 (by kernel_rfl) (by rfl) (by kernel_rfl) (aN (λ_ _ _=>aD.below) (aN (λ_ _ _=>fJ.grow) (aN (λ_ _ _=>aj.below) (aN (λ_ _ _=>aD.below) cK)))) ?_
     iterate 3 (refine aO λK hK=>?_;go_simp;refine hK _ ?_;clear hK K)
     refine ai aZ 41 #[.slice (some ⟨wr.heap.size,0,none⟩) (n+1) (n+1)] (by rfl) (by rfl) aZ.some (λw=>by go_simp) (λwq hg hf=>(tL PT (n+1) (dh n i) _ wq (λ_ _=>trivial) ((uh Uo).below hg) (iA n i) (by omega)).mono (by rintro e w' ⟨v',rfl,hv,hb⟩;exact ⟨_,rfl,hb,hv.aB,λt ht=>by cases ht;exact hv⟩)) ?_;rintro _ ⟨oa,om,oc,rfl⟩;simp only [Act.put,p_,G_,D_]
     iterate 5 (refine aO λK hK=>?_;go_simp;refine hK _ ?_;clear hK K)
     refine ai ag 40 #[.int .i64 hi] (by rfl) (by rfl) ag.some (λw=>by go_simp) (λwq hg hf=>(fM PT hi wq (λ_ _=>trivial) (by have:=uh DJ;omega) (by have:=uh DJ;omega)).mono (by rintro e w' ⟨v',rfl,hv,hb⟩;exact ⟨_,rfl,hb,hv.aU,λt ht=>by cases ht;exact hv⟩)) ?_;rintro _ ⟨bx,ba,bm,bc,rfl⟩;simp only [Act.put,p_,G_,D_];refine ai aZ 37 #[.slice oa om oc,.agg #[.int .i64 bx,.slice ba bm bc]] (by rfl) (by rfl) aZ.some (λw=>by go_simp) (λwq hg hf=>(nC PT 1 (n+1) ((dh n i).map λx=>-x) hi _ _ wq (λ_ _=>trivial) (hf 3 (by kernel_rfl) _ 52 rfl rfl) (hf 9 (by kernel_rfl) _ 58 rfl rfl) (by rw [L_];exact iA n i) (by omega) (by omega) (CG (λk=>uZ (d_ _) k)) (nE (show (hi).natAbs<1073741824 by have:=uh DJ;omega)) (by omega)).mono (by rintro e w' ⟨v',rfl,hv,hb⟩;exact ⟨_,rfl,hb,hv.aB,λt ht=>by cases ht;exact hv⟩)) ?_;rintro _ ⟨sa,sm,sc,rfl⟩;simp only [Act.put,p_,G_,D_];refine eO pV (by rfl) (by rfl) pV.some (λwq hg hf=>⟨.slice (some ⟨wq.heap.size,0,none⟩) 1 1,wq.alloc (.cells #[.slice sa sm sc] 69),by go_simp,ae.alloc _ _,⟨_,rfl⟩,λt ht=>by cases ht;exact fJ.new (hf 10 (by kernel_rfl) _ 59 rfl rfl)⟩) ?_;rintro _ ⟨gx,rfl⟩;simp only [Act.put,p_,G_,D_];refine aF ?_;intro w6 rH aK;have hfr:fJ PT (bP ((dh n i).map λx=>-x) hi) (.slice (some ⟨gx,0,none⟩) 1 1) w6:=aK 11 _ 60 (by decide) rfl rfl;clear aK;obtain ⟨gx',u,ex,hbx,Ro⟩:=hfr;cases ex;obtain ⟨sa',sm',Sz,rfl⟩:=Ro.aB;have SY:=af ((uh Qq).grow rH);obtain ⟨xs,hx1,hx2⟩:=(uh SY).least;have hll:(L8).length<=1000:=uh AA;have hb6:=(uh SY).b1;refine wp_append_lies w6 (.tmp 50) (.tmp 60) 72 rfl B 69 i1 (.slice none 0 0) 1 24 Tryz.underlying72 hi1 hy0 hy1 hy2 rfl (by decide) (.slice (some ⟨g8,0,none⟩) n8 Hf) (L8).length xs rfl hx1 ⟨gx,0,none⟩ 1 1 [.slice sa' sm' Sz] rfl rfl (λj u hu=>World.news_of_block hbx j u hu) (by simp [Value.oneCell']) (by decide) (by unfold maxLen;omega) (by omega) hb6 _ rfl ?_;intro g9 Sc w7 Im tV Qu Qv;have hadd:=(uh SY).CW hx1 hx2 Ro Im tV Qu;have kb:w7.cell? ⟨w.heap.size+1,2,none⟩=some (.slice (some ⟨g8,0,none⟩) n8 Hf):=by rw [cellsOf hadd.2];rfl
     have Xv:w7.frozen? ⟨w.heap.size+1,2,none⟩=false:=aH hadd.2 2;have ZC:Hid (aD PT (w7.setCell ⟨w.heap.size+1,2,none⟩ (.slice (some ⟨g9,0,none⟩) ((L8).length+1) Sc)) (.slice (some ⟨wr.heap.size,0,none⟩) (n+1) (n+1)) (dh n i)):=(((uh Uo).below rH).dY (aA.grown hx1 tV (by decide)) (aA.grown hx1 tV (by decide))).dY (aA.box hadd.2 (by decide)) (aA.box hadd.2 (by decide));have Oq:=af hadd.1;clear Im tV Qu Qv hadd hx1 hx2 hbx Ro rH SY hll hb6;clear y0 y1 ZC;rw [<-uh HEQ] at Oq;rw [<-Kb] at Oq;go_wp2;go_roundg (gk - 1)
     case measure=>omega
     case rel=>exact ⟨i+1,_,_,by simp,by omega,uh Oq⟩
  ·have hin:i=n:=by omega
   have jq:Hid (vD w wr B n (.slice none 0 0) (.slice la ln lc) (.slice ta tn tc) (iY (rs.take 0)) (eF n vs n++dQ (rs.take 0)) (gT n n)):=by
    have:=uh HR;rw [hin] at this;unfold Hid
    simpa [iY,dQ] using this
   clear hin;go_wp2_with fail;clear HR;rename World=>wo;rename Nat=>go;go_loopg [8] m (λk iv wr=>∃ (i:Nat) (zv lv tv:Value),iv=.int .i64 i∧i+k=m∧Hid (vD w wr B n zv lv tv (iY (rs.take i)) (eF n vs n++dQ (rs.take i)) (gT n n)))
   case atStart=>exact ⟨0,_,_,_,rfl,by omega,uh jq⟩
   case round =>
    clear jq;clear hik hlt;obtain ⟨i,zv,lv,tv,rfl,hik,HR⟩:=hrel;obtain ⟨za,zn,zc,rfl⟩:=(uh HR).zero.aB;obtain ⟨la,ln,lc,rfl⟩:=(uh HR).least.aB;obtain ⟨ta,tn,tc,rfl⟩:=(uh HR).told.aB;by_cases hlt:i<m
    ·obtain ⟨q,hq⟩:∃ q,rs.getD i ([],0,false)=q:=⟨_,rfl⟩;have Wh:Hid (q∈rs):=by unfold Hid;rw [<-hq,a_,f_ (by rw [uh HM];exact hlt)];exact aak _
     have Lf:Hid (rs.take (i+1)=rs.take i++[q]):=by
      unfold Hid;rw [<-hq,W_ (by rw [uh HM];exact hlt),a_,f_ (by rw [uh HM];exact hlt)];rfl
     obtain ⟨gr,or',ua,un,uc,er,r0,hints,r1,r2⟩:=((uh HB).below (uh HR).cZ).get (i:=i) (by rw [uh HM];exact hlt);rw [hq] at hints r1 r2;obtain ⟨C,K,E⟩:=q;simp only at hints r1 r2;cases er;have RG:=af (x_ r0 (x_ r1 r2));have OX:=af hints;have hKb:=(uh N7).k _ (uh Wh);have Lg:=(uh N7).len _ (uh Wh);simp only at hKb Lg;have vP:Hid (C.length=n):=Lg;have RI:=af ((uh N7).c _ (uh Wh));have hun:n=un:=by
      obtain ⟨ad,cap,e,_⟩:=hints;cases e;exact Lg.symm
     clear hints Lg hq;subst hun;rename_i YC;have hB1:=(uh HR).b1;go_wp2_with fail;refine (fM PT K wr (λ_ _=>trivial) (by omega) (by omega)).mono ?_;rintro e w1 ⟨v1,rfl,hv1,hb1⟩;obtain ⟨kx,ka,km,kc,rfl⟩:=hv1.shape;have Uq:Hid (jh PT wr.heap.size (w1.alloc (.cells #[.int .i64 kx,.slice ka km kc] 78)) (.slice (some ⟨w1.heap.size,0,none⟩) 1 1) (K::C.take 0)):=by
      refine ⟨[.int .i64 kx,.slice ka km kc],⟨rfl,.inr ⟨w1.heap.size,1,_,rfl,hb1.size,aG _ _,d_ _,by decide,rfl,rfl⟩⟩,?_⟩;exact (pW.nil PT _).snoc (hv1.below (ae.alloc _ _))
     have dN:Hid (ae wr (w1.alloc (.cells #[.int .i64 kx,.slice ka km kc] 78))):=ae.trans hb1 (ae.alloc _ _);clear hv1 hb1 r0 r1 r2;go_wp2_with fail;generalize hW1:w1.alloc (.cells #[.int .i64 kx,.slice ka km kc] 78)=W1 at *
     obtain ⟨wo,rfl⟩:∃ wo,wo=wr:=⟨_,rfl⟩;obtain ⟨go',rfl⟩:∃ go',go'=gk:=⟨_,rfl⟩;clear hW1;have U2:=HR;clear HR;go_loopg [9,10] n (λk sv jv wr2=>∃ (j:Nat) (sa:Option Addr) (sn sc:Nat),sv=.slice sa sn sc∧jv=.int .i64 j∧j+k=n∧Hid (jh PT wo.heap.size wr2 (.slice sa sn sc) (K::C.take j)∧ae wo wr2))
     case atStart=>exact ⟨0,_,_,_,rfl,rfl,by omega,uh Uq,uh dN⟩
     case round =>
      clear Uq dN;obtain ⟨j,sa,sn,sc,rfl,rfl,hjk,HR⟩:=hrel;by_cases hj:j<n
      ·have r0:=(uh HR).2.cell (uh RG).1;obtain ⟨ad,cap,ei,hcell⟩:=(uh OX).below (uh HR).2;cases ei;obtain ⟨gc,oc,eg,c0⟩:=hcell j (by rw [uh vP];exact hj);cases eg;obtain ⟨c,hc⟩:∃ c,C.getD j 0=c:=⟨_,rfl⟩;rw [hc] at c0;have hcb:-1000<=c∧c<=1000:=by
        rw [<-hc,a_,f_ (by rw [uh vP];exact hj)];exact uh RI _ (aak _)
       have HCT:Hid (C.take (j+1)=C.take j++[c]):=by
        unfold Hid;rw [<-hc,W_ (by rw [uh vP];exact hj),a_,f_ (by rw [uh vP];exact hj)];rfl
       have Qj:Hid ((K::C.take j).length=j+1):=by
        unfold Hid;rw [List.length_cons,T_,uh vP];omega
       have hCn:(j:Int)<(C.length:Int):=by rw [uh vP];omega
       clear hc hcell;go_wp2_with fail;refine (fM PT c wr (λ_ _=>trivial) (by omega) (by omega)).mono ?_;rintro e w2 ⟨v2,rfl,hv2,hb2⟩;obtain ⟨cx,ca,cm,cc,rfl⟩:=hv2.shape;obtain ⟨xs,hx1,hx2⟩:=(uh HR).1.grow hb2;have hsn:sn=j+1:=by
        rw [<-uh Qj];rcases hx1.2 with ⟨e,h0⟩|⟨g,cap,cur,e,_⟩
        ·cases e;exact h0.symm
        ·cases e;rfl
       rw [uh Qj] at hx1;have HX1:=af hx1;have Fg:=af hx2;have HOW:=af (λo=>hx1.alloc o);have HSN:=af hsn;have GV:=af hv2;have HB2:Hid (ae wr w2):=hb2;have hsz2:wo.heap.size<=w2.heap.size:=w_ (uh HR).2.size hb2.size;clear hx1 hx2 hsn hv2 hb2 r0 c0;go_wp2_with (at_builtin;refine wpList_append_lies _ rfl _ _ 69 rfl wo.heap.size 78 i0 (.agg #[.int .i64 0,.slice none 0 0]) 2 32 Tryz.underlying69 hi0 hz0 hz1 hz2 rfl (by decide) _ (j+1) xs rfl (uh HOW _) ⟨_,0,none⟩ 1 1 [.int .i64 cx,.slice ca cm cc] rfl rfl ?d1 (by simp [Value.oneCell']) (by decide) ?d2 ?d3 ?d4 _ rfl ?_)
       case d1=>exact λj u hu=>World.news_of_block (aax _ _) j u hu
       case d2=>unfold maxLen;omega
       case d3=>omega
       case d4=>simp;omega
       ·intro g cap w3 hown3 hgrow3 adI hlt3;have hgA:=ae.alloc w2 (.cells #[.int .i64 cx,.slice ca cm cc] 78);have kt:aA 3 (w2.alloc (.cells #[.int .i64 cx,.slice ca cm cc] 78)) w3:=aA.grown (uh HOW _) hgrow3 (by decide);have HN3:Hid (jh PT wo.heap.size w3 (.slice (some ⟨g,0,none⟩) (j+1+1) cap) (K::C.take (j+1))):=by
         unfold Hid;rw [uh HCT,<-List.cons_append];refine ⟨xs++[.int .i64 cx,.slice ca cm cc],?_,?_⟩
         ·rw [C_,uh Qj];exact hown3
         ·exact (((uh Fg).grow hgA).dY kt).snoc (((uh GV).below hgA).bW kt)
        have jb:Hid (ae wo w3):=aa2 ((uh HR).2.trans ((uh HB2).trans hgA)) (Below.grown (n_ _ _) hgrow3 (by rw [H_];omega) (bR (uh HOW (.cells #[.int .i64 cx,.slice ca cm cc] 78))));clear hown3 hgrow3 adI hlt3 hgA kt HOW HX1 Fg;go_wp2;go_roundg (gk - 1)
        case measure=>omega
        case rel=>exact ⟨j+1,_,_,_,rfl,by simp,by omega,uh HN3,uh jb⟩
      ·have hjn:j=n:=by omega
       have HRN:Hid (jh PT wo.heap.size wr (.slice sa sn sc) (K::C)):=by
        unfold Hid;have h1:=(uh HR).1;rwa [hjn,<-uh vP,aaG] at h1
       have sM:Hid (aD PT wr (.slice sa sn sc) (K::C)):=(uh HRN).row (λ_ _=>trivial);have oG:=af ((uh U2).grow (uh HR).2);have r2:=(uh HR).2.cell (uh RG).2.2;clear hjn HRN;cases E with
       | true =>
        have ZE:Hid (iY (rs.take (i+1))=iY (rs.take i)++[K::C]∧dQ (rs.take (i+1))=dQ (rs.take i)):=by
         unfold Hid iY dQ;rw [uh Lf,List.filter_append,List.filter_append,aa4,aa4];exact ⟨by simp [zR],by simp [zR]⟩
        have kk:wr.cell? ⟨w.heap.size+1,1,none⟩=some (.slice za zn zc):=by rw [cellsOf (uh oG).box];rfl
        obtain ⟨xs,hx1,hx2⟩:=(uh oG).zero;have Fg:=af hx2;have HOW:=af (λo=>hx1.alloc o);have hll:(iY (rs.take i)).length<=1000:=by unfold iY;rw [L_];have h1:=abw (λq:dS=>q.2.2) (rs.take i);rw [T_] at h1;have h2:=uh HM;omega
        have hb1:=(uh oG).b1;clear hx1 hx2;go_wp2_with (at_builtin;refine wpList_append_lies _ rfl _ _ 72 rfl B 69 i1 (.slice none 0 0) 1 24 Tryz.underlying72 hi1 hy0 hy1 hy2 rfl (by decide) _ (iY (rs.take i)).length xs rfl (uh HOW _) ⟨_,0,none⟩ 1 1 [.slice sa sn sc] rfl rfl ?d1 (by simp [Value.oneCell']) (by decide) ?d2 ?d3 ?d4 _ rfl ?_)
        case d1=>exact λj u hu=>World.news_of_block (aax _ _) j u hu
        case d2=>unfold maxLen;omega
        case d3=>omega
        case d4=>simp;omega
        ·intro g cap w4 AL ru Ik Il;have hgA:=ae.alloc wr (.cells #[.slice sa sn sc] 69);have hadd:=((uh oG).grow hgA).SX (uh HOW _) ((uh Fg).grow (.aX hgA)) ((uh sM).below hgA) AL ru (by rcases Ik with e | e;exact .inl e;exact .inr (by rw [e,H_]))
         have kb:w4.cell? ⟨w.heap.size+1,1,none⟩=some (.slice za zn zc):=by rw [cellsOf hadd.2];rfl
         have Xv:w4.frozen? ⟨w.heap.size+1,1,none⟩=false:=aH hadd.2 1;have Ns:=af hadd.1;rw [<-(uh ZE).1,<-(uh ZE).2] at Ns;clear AL ru Ik Il hadd hgA HOW Fg;go_wp2;go_roundg (go' - 1)
         case measure=>omega
         case rel=>exact ⟨i+1,_,_,_,by simp,by omega,uh Ns⟩
       | false =>
        have ZE:Hid (iY (rs.take (i+1))=iY (rs.take i)∧dQ (rs.take (i+1))=dQ (rs.take i)++[K::C]):=by
         unfold Hid iY dQ;rw [uh Lf,List.filter_append,List.filter_append,aa4,aa4];exact ⟨by simp [zR],by simp [zR]⟩
        obtain ⟨LL,Fe⟩:∃ LL,eF n vs n++dQ (rs.take i)=LL:=⟨_,rfl⟩;have Jn:=af Fe;rw [Fe] at oG;have kk:wr.cell? ⟨w.heap.size+1,2,none⟩=some (.slice la ln lc):=by rw [cellsOf (uh oG).box];rfl
        obtain ⟨xs,hx1,hx2⟩:=(uh oG).least;have Fg:=af hx2;have HOW:=af (λo=>hx1.alloc o);have hll:LL.length<=1000:=by rw [<-Fe,C_,lW];unfold dQ;rw [L_];have h1:=abw (λq:dS=>!q.2.2) (rs.take i);rw [T_] at h1;have h2:=uh HM;omega
        have hb1:=(uh oG).b1;clear hx1 hx2 Fe;go_wp2_with (at_builtin;refine wpList_append_lies _ rfl _ _ 72 rfl B 69 i1 (.slice none 0 0) 1 24 Tryz.underlying72 hi1 hy0 hy1 hy2 rfl (by decide) _ LL.length xs rfl (uh HOW _) ⟨_,0,none⟩ 1 1 [.slice sa sn sc] rfl rfl ?d1 (by simp [Value.oneCell']) (by decide) ?d2 ?d3 ?d4 _ rfl ?_)
        case d1=>exact λj u hu=>World.news_of_block (aax _ _) j u hu
        case d2=>unfold maxLen;omega
        case d3=>omega
        case d4=>simp;omega
        ·intro g cap w4 AL ru Ik Il;have hgA:=ae.alloc wr (.cells #[.slice sa sn sc] 69);have hadd:=((uh oG).grow hgA).CW (uh HOW _) ((uh Fg).grow (.aX hgA)) ((uh sM).below hgA) AL ru (by rcases Ik with e | e;exact .inl e;exact .inr (by rw [e,H_]))
         have kb:w4.cell? ⟨w.heap.size+1,2,none⟩=some (.slice la ln lc):=by rw [cellsOf hadd.2];rfl
         have Xv:w4.frozen? ⟨w.heap.size+1,2,none⟩=false:=aH hadd.2 2;have Ns:=af hadd.1;rw [show LL++[K::C]=eF n vs n++dQ (rs.take (i+1)) by rw [<-uh Jn,abd,<-(uh ZE).2],<-(uh ZE).1] at Ns;clear AL ru Ik Il hadd hgA HOW Fg;go_wp2;go_roundg (go' - 1)
         case measure=>omega
         case rel=>exact ⟨i+1,_,_,_,by simp,by omega,uh Ns⟩
    ·have him:i=m:=by omega
     have oG:Hid (vD w wr B n (.slice za zn zc) (.slice la ln lc) (.slice ta tn tc) (iY rs) (eF n vs n++dQ rs) (gT n n)):=by
      have h1:=uh HR;unfold Hid;rwa [him,<-uh HM,aaG] at h1
     have k0:wr.cell? ⟨w.heap.size+1,0,none⟩=some (.int .i64 n):=by rw [cellsOf (uh oG).box];rfl
     have k1:wr.cell? ⟨w.heap.size+1,1,none⟩=some (.slice za zn zc):=by rw [cellsOf (uh oG).box];rfl
     have k2:wr.cell? ⟨w.heap.size+1,2,none⟩=some (.slice la ln lc):=by rw [cellsOf (uh oG).box];rfl
     have k3:wr.cell? ⟨w.heap.size+1,3,none⟩=some (.slice ta tn tc):=by rw [cellsOf (uh oG).box];rfl
     have z0:wr.cell? ⟨w.heap.size,0,none⟩=some (.int .i64 0):=by rw [cellsOf (uh oG).res];rfl
     have z1:wr.cell? ⟨w.heap.size,1,none⟩=some (.slice none 0 0):=by rw [cellsOf (uh oG).res];rfl
     have z2:wr.cell? ⟨w.heap.size,2,none⟩=some (.slice none 0 0):=by rw [cellsOf (uh oG).res];rfl
     have z3:wr.cell? ⟨w.heap.size,3,none⟩=some (.slice none 0 0):=by rw [cellsOf (uh oG).res];rfl
     have y0:=aH (uh oG).res 0;have y1:=aH (uh oG).res 1;have y2:=aH (uh oG).res 2;have y3:=aH (uh oG).res 3;have Rp:=af (iU (P:=PT) (uh oG).cZ (d_ _) (uh oG).res (n:Int) za zn zc la ln lc ta tn tc);have Qw:Hid (jT PT ((((wr.setCell ⟨w.heap.size,0,none⟩ (.int .i64 n)).setCell ⟨w.heap.size,1,none⟩ (.slice za zn zc)).setCell ⟨w.heap.size,2,none⟩ (.slice la ln lc)).setCell ⟨w.heap.size,3,none⟩ (.slice ta tn tc)) (.agg #[.int .i64 n,.slice za zn zc,.slice la ln lc,.slice ta tn tc]) (j6 vs rs)):=by
      have e:j6 vs rs=⟨n,iY rs,eF n vs n++dQ rs,gT n n⟩:=by unfold j6;rw [uh HN]
      unfold Hid;rw [e];exact ⟨_,_,_,rfl,((uh oG).zero.rows (λ_ _=>trivial)).holds (uh Rp).2,((uh oG).least.rows (λ_ _=>trivial)).holds (uh Rp).2,((uh oG).told.rows (λ_ _=>trivial)).holds (uh Rp).2⟩
     clear him;go_wp2;exact t_ (v:=.agg #[.int .i64 n,.slice za zn zc,.slice la ln lc,.slice ta tn tc]) (by simp [results,Tryz.results30,go_sem,z0,z1,z2,z3]) rfl ⟨_,rfl,uh Qw,(uh Rp).1⟩
end Go.Proofs.YtgaafamcajcifaaGreat
