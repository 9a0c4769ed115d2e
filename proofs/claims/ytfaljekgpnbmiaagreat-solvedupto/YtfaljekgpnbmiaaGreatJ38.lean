/- Joined: XSim0b XSim0c XLow2. -/
import Derived.Test.YtfaljekgpnbmiaaGreatJ37
set_option linter.unusedVariables false
set_option linter.unusedSimpArgs false
set_option maxRecDepth 100000
namespace Go.Proofs.YtfaljekgpnbmiaaGreat
open Go.RowKit Go.Sort
theorem Me {w w1:World} {g:Nat} {c:Array Value} (hb:w1.heap[g]?=some (.cells c 168 (0,0))) {x:Int} {a:Option Addr} {m k:Nat} {S:Nat->Prop} {u:Int} (hu:aj PT w1 (.agg #[.int .i64 x,.slice a m k]) u) (hB:w.heap.size<=g) (hw:bH S w w1) :
  aj PT ((w1.setCell ⟨g,0,none⟩ (.int .i64 x)).setCell ⟨g,1,none⟩ (.slice a m k)) (.agg #[.int .i64 x,.slice a m k]) u∧bH S w ((w1.setCell ⟨g,0,none⟩ (.int .i64 x)).setCell ⟨g,1,none⟩ (.slice a m k)):=by
 have e1:=j_ w1 g 0 _ _ (.int .i64 x) hb;exact ⟨hu.bX ((aA.setCell hb (by decide) _ _).trans (aA.setCell e1 (by decide) _ _)),(hw.zU hB _ _).zU hB _ _⟩
theorem zero_add {w1 w2:World} {b g cap:Nat} {ua:Option Addr} {un uc:Nat} {row:List Int} (h:vC w1 b) (hrow:aD PT w1 (.slice ua un uc) row) (hG:ae w1 w2) (hg:w1.heap.size<=g) (hown:w2.ownsRow 0 324 2 (.slice (some ⟨g,0,none⟩) 1 cap) 1 [.int .i64 (-1073741824),.slice ua un uc]) :
  r9 PT (w2.setCell ⟨b,0,none⟩ (.slice (some ⟨g,0,none⟩) 1 cap)) b ⟨[(-1073741824,row)],[],1⟩∧(w2.setCell ⟨b,0,none⟩ (.slice (some ⟨g,0,none⟩) 1 cap)).heap[b]?=some (.cells #[.slice (some ⟨g,0,none⟩) 1 cap,.slice none 0 0,.int .i64 1,.slice none 0 0] 322 (0,0))∧1<=cap:=by
 have hbl:b<w1.heap.size:=z_ h;have b2:w2.heap[b]?=_:=(h.grow hG);have e2:=j_ w2 b 0 _ _ (.slice (some ⟨g,0,none⟩) 1 cap) b2;have hh3:Holds PT w2 (w2.setCell ⟨b,0,none⟩ (.slice (some ⟨g,0,none⟩) 1 cap)):=bR b2 (by decide) (λe=>absurd e (by decide)) _ _;rcases hown.2 with ⟨e,_⟩|⟨g',cap',cur,e,_,jU,hle,hmx,hsz,htk⟩
 ·cases e
 cases e;have hgb:g≠b:=by omega
 have Mf:(w2.setCell ⟨b,0,none⟩ (.slice (some ⟨g,0,none⟩) 1 cap)).heap[g]?=some (.cells cur 324 (0,0)):=(l_ _ _ _ _ hgb).trans jU;have hcell:∀ k,k<2->cur[k]?=([Value.int .i64 (-1073741824),.slice ua un uc])[k]?:=λk hk=>by
  rw [<-htk,aak hk];simp
 refine ⟨⟨⟨_,by rw [cellsOf e2];rfl,some ⟨g,0,none⟩,cap,rfl,λi hi=>?_⟩,⟨_,by rw [cellsOf e2];rfl,none,0,rfl,λi hi=>absurd hi (aaL i)⟩,⟨_,_,_,_,by rw [cellsOf e2];rfl,by rw [cellsOf e2];rfl,zZ _ _⟩⟩,e2,hle⟩;have hi0:i=0:=by simp at hi;exact hi
 subst hi0;refine ⟨g,0,.slice ua un uc,rfl,?_,?_,(hrow.below hG).holds hh3⟩
 ·rw [cellsOf Mf];exact hcell 0 (by decide)
 ·rw [cellsOf Mf];exact hcell 1 (by decide)
theorem Ou (s:List Int):(List.range (0+1)).map (iq t0 s 0)=[s.getD 0 0]:=by
 simp [iq,t0,Pl.sm,ab9]
section
section
attribute [local go_sem] bE
set_option maxHeartbeats 2000000 in
theorem F7 (K b:Nat) (s:List Int) (vs:Value) (w:World) (h:vC w b) (hs:aD PT w vs s) (hlen:s.length=1) (hsl:∀ k,Pl.Lt K (s.getD k 0)) (hK1:1<=K) (hK:2*K+1<=1500000000000) :
  Calls Tryz.prog 271 #[.pointer (some ⟨b,0,none⟩),vs] w λe w'=>∃ v',e=.returned v'∧aj PT w' v' (s.getD 0 0)∧bH (·=b) w w':=by
 obtain ⟨i0,hi0,hz0,hz1,hz2⟩:=V_ Tryz.zo;obtain ⟨sa0,sn0,sc0,rfl⟩:=hs.aB;have hbw:b<w.heap.size:=z_ h;obtain ⟨W,hW⟩:∃ W,w.alloc (.cells #[.int .i64 0,.slice none 0 0] 168)=W:=⟨_,rfl⟩;have HG:Hid (ae w W):=by unfold Hid;rw [<-hW];exact ae.alloc _ _
 have HZ:Hid (W.heap[w.heap.size]?=some (.cells #[.int .i64 0,.slice none 0 0] 168 (0,0))):=by unfold Hid;rw [<-hW];exact aG _ _
 have HT:=af (h.grow (uh HG));obtain ⟨k0,-,-,-⟩:=(uh HT).cells;have Xi:Pl.Lt K 1:=by
  obtain ⟨K',rfl⟩:∃ K',K=K'+1:=⟨K - 1,by omega⟩;exact dU (by decide)
 have Pb:=af (AU PT K b t0 s (.slice sa0 sn0 sc0) W (λ_ _=>trivial) (uh HT).at (hs.below (uh HG)) Rm ⟨λr j hr=>absurd hr (aaL r),Xi⟩ hsl hK hlen (λr hr=>absurd hr (aaL r)));have e0:(List.range (t0.aS.length+1)).map (iq t0 s t0.lines.length)=[s.getD 0 0]:=Ou s;rw [e0] at Pb;have lW:=af Xi;have LJ:=af (hsl 0);clear h hs e0 Xi;go_enter Tryz.func271,Tryz.ntmps271;go_wp2_with fail
 try rw [hW]
 clear hW;refine (uh Pb).mono ?_;rintro e w1 ⟨v1,rfl,hv1,hw1⟩;obtain ⟨ea,en,ec,rfl⟩:=hv1.aB;have wR:=af hv1;have dP:Hid (ae W w1):=hw1;have HT1:=af ((uh HT).grow hw1);clear hv1 hw1 Pb k0;obtain ⟨k0,-,-,-⟩:=(uh HT1).cells;go_wp2_with (at_builtin;refine aau _ rfl _ _ 320 rfl 0 324 i0 (.agg #[.int .i64 0,.slice none 0 0]) 2 32 Tryz.underlying320 hi0 hz0 hz1 hz2 rfl (by decide) _ 0 [] rfl ⟨rfl,.inl ⟨rfl,rfl⟩⟩ ⟨_,0,none⟩ 1 1 [.int .i64 (-1073741824),.slice ea en ec] rfl rfl ?d1 (by simp [Value.oneCell']) (by decide) ?d2 ?d3 ?d4 _ rfl ?_)
 case d1=>exact λj u hu=>aav (aay _ _) j u hu
 case d2=>unfold maxLen;omega
 case d3=>omega
 case d4=>exact abo _
 ·intro g cap w2 hown1 hgrow hat hlt2;have hgA:=ae.alloc w1 (.cells #[.int .i64 (-1073741824),.slice ea en ec] 324);have hG2:ae w1 w2:=hgA.trans ((n_ _ _).grown hgrow (d_ _) (by intro k hk;cases hk));have hge:w1.heap.size<=g:=by
   rcases hat with e|e
   ·cases e
   ·rw [e];first | omega | (simp;done) | (rw [H_];omega)
  have hadd:=zero_add (uh HT1) (uh wR) hG2 hge hown1;have HTA:=af hadd.1;have HOB:=af hadd.2.1;have hcap1:=hadd.2.2;have kb:=((uh HT1).grow hG2).cells.1;have fb:w2.frozen? ⟨b,0,none⟩=false:=aH ((uh HT1).grow hG2) 0;have Vx:Hid (bH (·=b) w (w2.setCell ⟨b,0,none⟩ (.slice (some ⟨g,0,none⟩) 1 cap))):=bH.setCell (S:=(·=b)) (bH.dh (((uh HG).trans (uh dP)).trans hG2)) (b:=b) rfl _ _;have HZ2:Hid ((w2.setCell ⟨b,0,none⟩ (.slice (some ⟨g,0,none⟩) 1 cap)).heap[w.heap.size]?=some (.cells #[.int .i64 0,.slice none 0 0] 168 (0,0))):=(l_ _ _ _ _ (show w.heap.size≠b by omega)).trans (Below.same ((uh dP).trans hG2) _ _ (uh HZ));clear hown1 hgrow hat hlt2 hadd hgA hG2 wR;go_wp2_with fail;generalize hW2:w2.setCell ⟨b,0,none⟩ (.slice (some ⟨g,0,none⟩) 1 cap)=W2 at *
  clear hW2 fb k0 kb w2;go_loopg [] 0 (λk wr=>Hid (ae W2 wr))
  case atStart=>exact n_ _ _
  case round =>
   have HR:=hrel;clear hrel;go_wp2_with fail;refine (oI PT b ⟨[(-1073741824,[s.getD 0 0])],[],1⟩ wr ((uh HTA).below (uh HR)) (by simp) (λl hl=>by have:l=(-1073741824,[s.getD 0 0]):=(by simpa using hl);rw [this];simp) (by simp) (r:=0) (by simp) (by simp)).mono ?_;rintro e w3 ⟨c,rfl,mW,hw3⟩;have je:Hid (ae W2 w3):=(uh HR).trans hw3;clear hw3;rcases mW with ⟨rfl,-⟩|⟨c,hc,-⟩
   ·have aeN:=af ((uh HTA).below (uh je));have TW:=af (Below.same (uh je) _ _ (uh HOB));have HZ3:=af (Below.same (uh je) _ _ (uh HZ2));have HC:=af (λwq (hg:ae w3 wq)=>jR PT b ⟨[(-1073741824,[s.getD 0 0])],[],1⟩ wq ((uh aeN).below hg) (by simp) (λl hl=>by have:l=(-1073741824,[s.getD 0 0]):=(by simpa using hl);rw [this];simp) (r:=0) (by simp) (j:=0) (by simp));have k2:w3.cell? ⟨b,2,none⟩=some (.int .i64 1):=by rw [cellsOf (uh TW)];rfl
    have k3:w3.cell? ⟨b,3,none⟩=some (.slice none 0 0):=by rw [cellsOf (uh TW)];rfl
    have y1:=b_ k2;have y2:=b_ k3;go_wp2_with fail;refine ah (cK [(45,λv w=>aj PT w v (s.getD 0 0)),(50,λv w=>aj PT w v (s.getD 0 0)),(9,bn w3)]) (gL [(45,ag),(50,ag),(9,bM)]) 61 9 (by kernel_rfl) (by rfl) (by kernel_rfl) (aN (λ_ _ _=>aj.below) (aN (λ_ _ _=>aj.below) (aN (λ_ _ _=>bn.grow) cO))) ?_
    iterate 2 (refine aO λK hK=>?_;go_simp;refine hK _ ?_;clear hK K)
    refine ai ag 340 #[.pointer (some ⟨b,0,none⟩),.int .i64 0,.int .i64 0] (by rfl) (by rfl) ag.some (λw=>by go_simp) (λwq hg hf=>(uh HC wq hg).mono (by rintro e w' ⟨v',rfl,hv,hb⟩;exact ⟨_,rfl,hb,hv.aU,λt ht=>by cases ht;exact hv⟩)) ?_;rintro _ ⟨cx,ca,cm,cc,rfl⟩
    iterate 4 (refine aO λK hK=>?_;go_simp;refine hK _ ?_;clear hK K)
    refine ai ag 224 #[.agg #[.int .i64 cx,.slice ca cm cc],.agg #[.int .i64 1,.slice none 0 0]] (by rfl) (by rfl) ag.some (λw=>by go_simp) (λwq hg hf=>(lD PT K (s.getD 0 0) 1 _ _ wq (λ_ _=>trivial) (hf 2 (by kernel_rfl) _ 45 rfl rfl) (zZ _ _) (by omega) (uh LJ) (uh lW)).mono (by rintro e w' ⟨v',rfl,hv,hb⟩;rw [Int.fdiv_one] at hv;exact ⟨_,rfl,hb,hv.aU,λt ht=>by cases ht;exact hv⟩)) ?_;rintro _ ⟨dx,da,dm,dc,rfl⟩;refine eT bM (by rfl) (by rfl) bM.some (λwq hg hf=>⟨.pointer (some ⟨wq.heap.size,0,none⟩),wq.alloc (.cells #[.int .i64 0,.slice none 0 0] 168),by go_simp,ae.alloc _ _,⟨_,rfl⟩,λt ht=>by cases ht;exact bn.new hg⟩) ?_;rintro _ ⟨g9,rfl⟩;refine aF ?_;intro w4 hg4 aK;have Xj:aj PT w4 (.agg #[.int .i64 dx,.slice da dm dc]) (s.getD 0 0):=aK 7 _ 50 (by decide) rfl rfl;have q9:bn w3 (.pointer (some ⟨g9,0,none⟩)) w4:=aK 8 _ 9 (by decide) rfl rfl;clear aK y1 y2 k2 k3;have hge:=q9.own.1;have hblk:=q9.own.2;have s0:=(au hblk).1;have s1:=(au hblk).2.1;have s2:=(au hblk).2.2.1;have s3:=(au hblk).2.2.2;have Pe:=af (bI hg4 hge hblk Xj).1;have kE:Hid (ae w3 ((w4.setCell ⟨g9,0,none⟩ (.int .i64 dx)).setCell ⟨g9,1,none⟩ (.slice da dm dc))):=(bI hg4 hge hblk Xj).2;clear Xj hblk hg4 q9;have hb3:b<w3.heap.size:=z_ (uh TW);have hr3:w.heap.size<w3.heap.size:=z_ (uh HZ3);generalize Bj:(w4.setCell ⟨g9,0,none⟩ (.int .i64 dx)).setCell ⟨g9,1,none⟩ (.slice da dm dc)=W5 at *
    have TY:=af (Below.same (uh kE) _ _ (uh TW));have z8:=af (Below.same (uh kE) _ _ (uh HZ3));have kb0:W5.cell? ⟨b,0,none⟩=some (.slice (some ⟨g,0,none⟩) 1 cap):=by rw [cellsOf (uh TY)];rfl
    have fb0:W5.frozen? ⟨b,0,none⟩=false:=aH (uh TY) 0;have e6:=j_ W5 b 0 _ _ (.slice (some ⟨g,0,none⟩) 0 cap) (uh TY);have HZ6:Hid ((W5.setCell ⟨b,0,none⟩ (.slice (some ⟨g,0,none⟩) 0 cap)).heap[w.heap.size]?=some (.cells #[.int .i64 0,.slice none 0 0] 168 (0,0))):=(l_ _ _ _ _ (show w.heap.size≠b by omega)).trans (uh z8);have wK:Hid (bC PT (W5.setCell ⟨b,0,none⟩ (.slice (some ⟨g,0,none⟩) 0 cap)) g9 dx da dm dc (s.getD 0 0)):=⟨(l_ _ _ _ _ (show g9≠b by omega)).trans (uh Pe).heap,(uh Pe).val.bX (aA.setCell (uh TY) (by decide) _ _)⟩;have O3:Hid (bH (·=b) w (W5.setCell ⟨b,0,none⟩ (.slice (some ⟨g,0,none⟩) 0 cap))):=bH.setCell (S:=(·=b)) ((uh Vx).grow ((uh je).trans (uh kE))) (b:=b) rfl _ _;generalize Kz:W5.setCell ⟨b,0,none⟩ (.slice (some ⟨g,0,none⟩) 0 cap)=W6 at *
    have u0:=(uh wK).cells.1;have u1:=(uh wK).cells.2.1;obtain ⟨z0,z1,z2,z3⟩:=au (uh HZ6);have Nq:=af (Me (uh HZ6) (uh wK).val (d_ _) (uh O3));have hcap0:cap≠0:=by omega
    go_wp2;exact t_ (v:=.agg #[.int .i64 dx,.slice da dm dc]) (by simp [results,Tryz.results271,go_sem,z0,z1]) rfl ⟨_,rfl,(uh Nq).1,(uh Nq).2⟩
   ·exact absurd hc (aaL c)
end
set_option maxHeartbeats 2000000 in
theorem Ia (K b:Nat) (s:List Int) (vs:Value) (w:World) (h:vC w b) (hs:aD PT w vs s) (hlen:s.length=1) (hsl:∀ k,Pl.Lt K (s.getD k 0)) (hK1:1<=K) (hK:2*K+1<=1500000000000) :
  Calls Tryz.prog 221 #[.pointer (some ⟨b,0,none⟩),vs] w λe w'=>∃ v',e=.returned v'∧aj PT w' v' (s.getD 0 0)∧bH (·=b) w w':=by
 obtain ⟨i0,hi0,hz0,hz1,hz2⟩:=V_ Tryz.dR;obtain ⟨gs,os,Xk,scs,rfl,TZ,hsc⟩:=hs.get (by omega);have Ow:=af hsc;have HT:=af h;have Rf:=af hsl;have HLEN:=af hlen;have hbw:b<w.heap.size:=z_ h;have hZ0:=aG w (.cells #[.int .i64 0,.slice none 0 0] 168);have hGa:ae w (w.alloc (.cells #[.int .i64 0,.slice none 0 0] 168)):=ae.alloc _ _;have hsa:(w.alloc (.cells #[.int .i64 0,.slice none 0 0] 168)).heap.size=w.heap.size+1:=H_ _ _;have HW:=af (x_ hZ0 (x_ hGa hsa));rw [hlen];clear h hs hsc hsl hlen hZ0 hGa hsa;obtain ⟨n,hn⟩:∃ n:Nat,n=0:=⟨_,rfl⟩;rw [show (1:Nat)=n+1 by omega];have HN0:=af hn;have hn1:n<=100:=by omega
 clear hn;go_enter Tryz.func221,Tryz.ntmps221;go_wp2_with (at_make;refine O_ _ rfl _ _ 159 rfl (w.heap.size+1) 168 i0 (.agg #[.int .i64 0,.slice none 0 0]) 2 Tryz.underlying159 hi0 hz0 hz1 .i64 .i64 _ _ (n+1) rfl rfl ?e1 ?e2 ?c1 ?c2 ?c3 ?_)
 case e1=>first | rfl | omega | simp
 case e2=>first | rfl | omega | simp
 case c1=>rw [hz2];omega
 case c2=>unfold maxLen;omega
 case c3=>first | omega | simp
 ·intro w1 hown hgrow;have hb1:ae w w1:=(uh HW).2.1.trans ((n_ _ _).grown hgrow (d_ _) (by intro k hk;cases hk));have uC:Hid (bA PT w1 (w.heap.size+1) (n+1) (λ_=>0)):=bA.made hown;have HZ1:Hid (w1.heap[w.heap.size]?=some (.cells #[.int .i64 0,.slice none 0 0] 168 (0,0))):=(hgrow.block w.heap.size (by rw [(uh HW).2.2];omega) (by intro h;cases h)).trans (uh HW).1;have dP:Hid (ae w w1):=hb1;clear hown hgrow hb1 HW;have Qs:Hid (n+1=s.length):=by unfold Hid;rw [uh HLEN];have:=uh HN0;omega
  generalize hN:n+1=N at *
  go_wp2_with fail;go_loopg [6] N (λk iv wr=>∃ (i:Nat),iv=.int .i64 i∧i+k=N∧Hid (bA PT wr (w.heap.size+1) N (λk=>if k<i then -s.getD k 0 else 0)∧ae w wr∧wr.heap[w.heap.size]?=some (.cells #[.int .i64 0,.slice none 0 0] 168 (0,0))))
  case atStart=>exact ⟨0,rfl,by omega,(uh uC).congr (λi _=>by rw [g_ (by omega)]),uh dP,uh HZ1⟩
  case round =>
   obtain ⟨i,rfl,hik,HR⟩:=hrel;by_cases hlt:i<N
   ·obtain ⟨zx,za,zm,zc,z0,z1,hz⟩:=uh Ow i (by rw [<-uh Qs];exact hlt);have z0:=(uh HR).2.1.cell z0;have z1:=(uh HR).2.1.cell z1;have HZ:Hid (aj PT wr (.agg #[.int .i64 zx,.slice za zm zc]) (s.getD i 0)):=by
     unfold Hid;rw [a_,f_ (by rw [<-uh Qs];exact hlt)];exact hz.below (uh HR).2.1
    clear hz;go_wp2_with fail;refine (lH PT _ _ _ (uh HZ)).mono ?_;rintro e w2 ⟨v2,rfl,hv2,hw2⟩;obtain ⟨nx,na,nm,nc,rfl⟩:=hv2.shape;have hR2:=(uh HR).1.grow hw2;obtain ⟨ox,oa,om,oc,r0,r1,_,f0,f1⟩:=hR2.get hlt;have uK:Hid (bA PT ((w2.setCell ⟨w.heap.size+1,i*2,none⟩ (.int .i64 nx)).setCell ⟨w.heap.size+1,i*2+1,none⟩ (.slice na nm nc)) (w.heap.size+1) N (λk=>if k<i+1 then -s.getD k 0 else 0)):=(hR2.set hlt hv2).congr (λk _=>by
     unfold ql;by_cases h:k=i
     ·subst h;rw [h_ rfl,h_ (by omega)]
     ·rw [g_ h]
      dsimp only
      by_cases h2:k<i
      ·rw [h_ h2,h_ (by omega)]
      ·rw [g_ h2,g_ (by omega)])
    have HG2:Hid (ae w ((w2.setCell ⟨w.heap.size+1,i*2,none⟩ (.int .i64 nx)).setCell ⟨w.heap.size+1,i*2+1,none⟩ (.slice na nm nc))):=(B_ (p:=⟨w.heap.size+1,i*2,none⟩) (ae.trans (uh HR).2.1 hw2) (by show w.heap.size<=w.heap.size+1;omega) _).setCell (p:=⟨w.heap.size+1,i*2+1,none⟩) (by show w.heap.size<=w.heap.size+1;omega) _;have HZ2:Hid (((w2.setCell ⟨w.heap.size+1,i*2,none⟩ (.int .i64 nx)).setCell ⟨w.heap.size+1,i*2+1,none⟩ (.slice na nm nc)).heap[w.heap.size]?=some (.cells #[.int .i64 0,.slice none 0 0] 168 (0,0))):=by
     unfold Hid;rw [l_ _ _ _ _ (show w.heap.size≠w.heap.size+1 by omega),l_ _ _ _ _ (show w.heap.size≠w.heap.size+1 by omega)];exact Below.same hw2 _ _ (uh HR).2.2
    clear hv2 hw2 hR2;go_wp2;go_roundg (gk - 1)
    case measure=>omega
    case rel=>exact ⟨i+1,by simp,by omega,uh uK,uh HG2,uh HZ2⟩
   ·have hiN:i=N:=by omega
    have hrow:=((uh HR).1.congr (f':=λk=>-s.getD k 0) (λk hk=>by rw [h_ (by omega)])).row trivial;rw [Aa s N (uh Qs).symm] at hrow;have DN:=af (F7 K b (s.map λx=>-x) _ wr ((uh HT).grow (uh HR).2.1) hrow (by rw [L_];exact uh HLEN) (λk=>by rw [Dc];exact (uh Rf k).neg) hK1 hK);rw [Dc] at DN;clear hrow;go_wp2_with fail;refine (uh DN).mono ?_;rintro e w2 ⟨v2,rfl,hv2,hB2⟩;obtain ⟨nx,na,nm,nc,rfl⟩:=hv2.shape;have hrr:w.heap.size<wr.heap.size:=z_ (uh HR).2.2;have HZ2:Hid (w2.heap[w.heap.size]?=some (.cells #[.int .i64 0,.slice none 0 0] 168 (0,0))):=(hB2.block w.heap.size hrr (by omega)).trans (uh HR).2.2;have HT2:Hid (bH (·=b) w w2):=(bH.dh (uh HR).2.1).trans hB2;have HV:=af (dD hv2);have HN:=af (lH PT _ _ _ (dD hv2).val);have hw2:w.heap.size<w2.heap.size:=z_ (uh HZ2);clear hB2 hv2 DN;have v0:=(uh HV).cells.1;have v1:=(uh HV).cells.2.1;go_wp2_with fail;refine (uh HN).mono ?_;rintro e w3 ⟨v3,rfl,hv3,hw3⟩;obtain ⟨rx,ra,rm,rc,rfl⟩:=hv3.shape;have hG3:ae w2 w3:=ae.trans (ae.alloc _ _) hw3;have HZ3:=af (Below.same hG3 _ _ (uh HZ2));obtain ⟨LX,z1',z2',z3'⟩:=au (uh HZ3);rw [aco] at hv3;have Nq:=af (Me (uh HZ3) hv3 (d_ _) ((uh HT2).grow hG3));clear hv3 hw3 hG3 HN HV;go_wp2;exact t_ (v:=.agg #[.int .i64 rx,.slice ra rm rc]) (by simp [results,Tryz.results221,go_sem,LX,z1']) rfl ⟨_,rfl,(uh Nq).1,(uh Nq).2⟩
end
structure ru (H:Nat) (r:aP):Prop where
 zero:r.zero=[]
 mO:r.dX.gM
 ok:eP r
 lt:dG H r
 one:1<=H
 size:r.size<=9
 pK:r.least.length<=700
 some:∀ a∈r.least,∃ i,i<r.size∧a.getD (i+1) 0≠0
theorem ru.fit {H:Nat} {r:aP} (h:ru H r) (h0:0<r.size):iO H r:=⟨h.zero,h.mO,h.ok,h.lt,h.one,h0,h.size,by have:=h.pK;omega⟩
theorem ru.none {H:Nat} {r:aP} (h:ru H r) (h0:r.size=0):r.least=[]:=by
 rcases hl:r.least with _|⟨a,l⟩
 ·rfl
 ·obtain ⟨i,hi,_⟩:=h.some a (by rw [hl];exact ab2 ..);omega
def ZG (r:aP) (H:Nat) (w0 w:World) (b:Nat):Prop:=(r.size=0∧vC w b)∨∃ gl gc t,0<r.size∧w0.heap.size<=gl∧w0.heap.size<=gc∧aV (·≠gc) w b gl gc t∧Good (Pl.gJ r.S) r.size (Pl.gX r.size r.least.length) r.least.length t
def ZH (r:aP) (H:Nat) (w0 w:World) (b:Nat):Prop:=(r.size=0∧vC w b)∨∃ gl gc t,0<r.size∧w0.heap.size<=gl∧w0.heap.size<=gc∧aV (·≠gc) w b gl gc t∧iy r [] (Pl.gX r.size r.least.length) r.least.length t
section
variable {r:aP} {H b:Nat} {w0 w:World}
theorem ZI (hf:ru H r) (vl:Value) (w:World) (h:aM PT w vl r.least) (hK:2*((r.size+1)*H+1)+1<=1500000000000) :
  Calls Tryz.prog 217 #[vl,.int .i64 r.size] w λe w'=>∃ b,e=.returned (.pointer (some ⟨b,0,none⟩))∧w.heap.size<=b∧ae w w'∧ZG r H w w' b:=by
 by_cases h0:r.size=0
 ·obtain ⟨la,ln,lc,rfl⟩:=h.aB;have hln:ln=0:=by have:=h.len;rw [this,hf.none h0];rfl
  subst hln;have e:((r.size:Nat):Int)=0:=by rw [h0];rfl
  rw [e];refine (QI la lc w).mono ?_;rintro e w' ⟨b,rfl,h1,h2,h3⟩;exact ⟨b,rfl,h1,h3,.inl ⟨h0,h2⟩⟩
 ·refine (FC (hf.fit (by omega)) vl w h hK).mono ?_;rintro e w' ⟨b,gl,gc,t,rfl,q1,q2,q3,hT,hG,hg⟩;exact ⟨b,rfl,q1,hG,.inr ⟨gl,gc,t,by omega,q2,q3,hT,hg⟩⟩
theorem Tz (hf:ru H r) (hb:w0.heap.size<=b) (hw:w0.heap.size<=w.heap.size) (h:ZG r H w0 w b) (hK:2*((r.size+1)*H+1)+1<=1500000000000) :
  Calls Tryz.prog 218 #[.pointer (some ⟨b,0,none⟩)] w λe w'=>∃ qI:Bool,e=.returned (.bool qI)∧Below w0.heap.size w w'∧(qI=false->ZH r H w0 w' b)∧(qI=true->∀ x,¬ r.dX.Has x):=by
 rcases h with ⟨h0,h1⟩|⟨gl,gc,t,h0,q2,q3,hT,hg⟩
 ·refine (FU b w h1).mono ?_;rintro e w' ⟨rfl,h2⟩;exact ⟨false,rfl,aaw h2 hw,λ_=>.inl ⟨h0,h1.grow h2⟩,λh=>by cases h⟩
 ·refine (zM (hf.fit h0) w hT hg hK).mono ?_;rintro e w' ⟨qI,t',rfl,h2,h3,h4,h5⟩;exact ⟨qI,rfl,h3.below (λk hk=>by rcases hk with e | e | e <;> omega) hw,λha=>.inr ⟨gl,gc,t',h0,q2,q3,h2,h4 ha⟩,h5⟩
theorem QJ (hf:ru H r) (hb:w0.heap.size<=b) (hw:ae w0 w) (h:ZH r H w0 w b) (s:List Int) (vs:Value) (hs:aD PT w0 vs s) (hlen:s.length=r.size+1) (hsl:∀ k,Pl.Lt H (s.getD k 0)) (hK:2*((r.size+1)*H+1)+1<=1500000000000) :
  Calls Tryz.prog 221 #[.pointer (some ⟨b,0,none⟩),vs] w λe w'=>∃ (v':Value) (lo:Int),e=.returned v'∧aj PT w' v' lo∧Below w0.heap.size w w'∧(∀ x,r.dX.Has x->lo<=Pl.ev r.size (lf s) (Pl.pt x))∧Pl.Lt ((r.size+1)*H+1) lo:=by
 have hHH:H<=(r.size+1)*H+1:=by rw [abC,ab4];omega
 rcases h with ⟨h0,h1⟩|⟨gl,gc,t,h0,q2,q3,hT,hg⟩
 ·refine (Ia H b s vs w h1 (hs.below hw) (by omega) hsl hf.one (by omega)).mono ?_;rintro e w' ⟨v',rfl,h2,h3⟩;refine ⟨v',_,rfl,h2,h3.below (λk hk=>by omega) hw.size,λx _=>?_,(hsl 0).mono hHH⟩;rw [Pl.kT,h0];show s.getD 0 0<=lf s 0+0;unfold lf;omega
 ·have hs':aD (·≠gc) w vs s:=(hs.mono (P':=(·≠gc)) (λk hk _=>by show k≠gc;omega)).below hw;refine (xK (·≠gc) (hf.fit h0) hg vs w (λb' hb' e=>by have:=hT.lt.2.2.1;omega) hT hs' hlen hsl hK).mono ?_;rintro e w' ⟨v',yS,t2,rfl,h2,h3,h4,h5,h6,h7,h8⟩;refine ⟨v',_,rfl,h5.mono (λ_ _ _=>trivial),h4.below (λk hk=>by rcases hk with e | e | e <;> omega) hw.size,λx hx=>?_,h8⟩
  have hin:=(rU x).1 λa ha=>hx.least (lf a) (m_.2 ⟨a,ha,rfl⟩);have e5:=h6.le hg.names hin;rw [tL,zS] at e5;omega
end
structure oP (B:Nat) (w0 w:World) (r:aP) (za:Option Addr) (zn zc:Nat) (ea:Option Addr) (en ec:Nat) (da:Option Addr) (dn dc:Nat) (g8 g9:Nat) (lx:Int) (la:Option Addr) (lm lc:Nat) (low:Int) (qx:Int) (qa:Option Addr) (qm qc:Nat) (rch:Int):Prop where
 box:bV (·<B) w0.heap.size w r za zn zc ea en ec da dn dc
 low:bC PT w g8 lx la lm lc low
 rch:bC PT w g9 qx qa qm qc rch
 dh:ae w0 w
 ne:g8≠g9
 NU:w0.heap.size<g8
 NV:w0.heap.size<g9
 b8:B<=g8
 b9:B<=g9
section
variable {B:Nat} {w0 w w':World} {r:aP} {za ea da la qa:Option Addr} {zn zc en ec dn dc g8 g9 lm lc qm qc:Nat} {lx low qx rch:Int}
theorem oP.grow (h:oP B w0 w r za zn zc ea en ec da dn dc g8 g9 lx la lm lc low qx qa qm qc rch) (hg:ae w w'):oP B w0 w' r za zn zc ea en ec da dn dc g8 g9 lx la lm lc low qx qa qm qc rch :=
 ⟨h.box.grow hg,h.low.grow hg,h.rch.grow hg,h.dh.trans hg,h.ne,h.NU,h.NV,h.b8,h.b9⟩
theorem oP.QK (h:oP B w0 w r za zn zc ea en ec da dn dc g8 g9 lx la lm lc low qx qa qm qc rch) {x:Int} {a:Option Addr} {m c:Nat} {n:Int} (hv:aj PT w (.agg #[.int .i64 x,.slice a m c]) n):oP B w0 ((w.setCell ⟨g8,0,none⟩ (.int .i64 x)).setCell ⟨g8,1,none⟩ (.slice a m c)) r za zn zc ea en ec da dn dc g8 g9 x a m c n qx qa qm qc rch :=
 ⟨h.box.var h.b8 (Nat.ne_of_lt h.NU) _ _,⟨jW h.low.heap _ _,hv.kG h.low.heap _ _⟩,h.rch.put ⟨_,h.low.heap⟩ (abf h.ne) _ _ _ _,(B_ (p:=⟨g8,0,none⟩) h.dh (ab0 h.NU) _).setCell (p:=⟨g8,1,none⟩) (ab0 h.NU) _,h.ne,h.NU,h.NV,h.b8,h.b9⟩
theorem oP.QL (h:oP B w0 w r za zn zc ea en ec da dn dc g8 g9 lx la lm lc low qx qa qm qc rch) {x:Int} {a:Option Addr} {m c:Nat} {n:Int} (hv:aj PT w (.agg #[.int .i64 x,.slice a m c]) n):oP B w0 ((w.setCell ⟨g9,0,none⟩ (.int .i64 x)).setCell ⟨g9,1,none⟩ (.slice a m c)) r za zn zc ea en ec da dn dc g8 g9 lx la lm lc low x a m c n :=
 ⟨h.box.var h.b9 (Nat.ne_of_lt h.NV) _ _,h.low.put ⟨_,h.rch.heap⟩ h.ne _ _ _ _,⟨jW h.rch.heap _ _,hv.kG h.rch.heap _ _⟩,(B_ (p:=⟨g9,0,none⟩) h.dh (ab0 h.NV) _).setCell (p:=⟨g9,1,none⟩) (ab0 h.NV) _,h.ne,h.NU,h.NV,h.b8,h.b9⟩
end
end Go.Proofs.YtfaljekgpnbmiaaGreat
