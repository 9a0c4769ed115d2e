/- Joined: XSim0b XSim0c XLow2. -/
import Derived.Test.YtgaafamcajcifaaGreatK37
set_option linter.unusedVariables false
set_option linter.unusedSimpArgs false
set_option maxRecDepth 100000
namespace Go.Proofs.YtgaafamcajcifaaGreat
open Go.RowKit Go.Sort
theorem Lp {w w1:World} {g:Nat} {c:Array Value} (hb:w1.heap[g]?=some (.cells c 78 (0,0))) {x:Int} {a:Option Addr} {m k:Nat} {S:Nat->Prop} {u:Int} (hu:aj PT w1 (.agg #[.int .i64 x,.slice a m k]) u) (hB:w.heap.size<=g) (hw:bG S w w1) :
  aj PT ((w1.setCell ⟨g,0,none⟩ (.int .i64 x)).setCell ⟨g,1,none⟩ (.slice a m k)) (.agg #[.int .i64 x,.slice a m k]) u∧bG S w ((w1.setCell ⟨g,0,none⟩ (.int .i64 x)).setCell ⟨g,1,none⟩ (.slice a m k)):=by
 have e1:=j_ w1 g 0 _ _ (.int .i64 x) hb;exact ⟨hu.bW ((aA.setCell hb (by decide) _ _).trans (aA.setCell e1 (by decide) _ _)),(hw.zS hB _ _).zS hB _ _⟩
theorem zero_add {w1 w2:World} {b g cap:Nat} {ua:Option Addr} {un uc:Nat} {row:List Int} (h:vk w1 b) (hrow:aD PT w1 (.slice ua un uc) row) (hG:ae w1 w2) (hg:w1.heap.size<=g) (hown:w2.ownsRow 0 111 2 (.slice (some ⟨g,0,none⟩) 1 cap) 1 [.int .i64 (-1073741824),.slice ua un uc]) :
  rY PT (w2.setCell ⟨b,0,none⟩ (.slice (some ⟨g,0,none⟩) 1 cap)) b ⟨[(-1073741824,row)],[],1⟩∧(w2.setCell ⟨b,0,none⟩ (.slice (some ⟨g,0,none⟩) 1 cap)).heap[b]?=some (.cells #[.slice (some ⟨g,0,none⟩) 1 cap,.slice none 0 0,.int .i64 1,.slice none 0 0] 109 (0,0))∧1<=cap:=by
 have hbl:b<w1.heap.size:=z_ h;have b2:w2.heap[b]?=_:=(h.grow hG);have e2:=j_ w2 b 0 _ _ (.slice (some ⟨g,0,none⟩) 1 cap) b2;have hh3:Holds PT w2 (w2.setCell ⟨b,0,none⟩ (.slice (some ⟨g,0,none⟩) 1 cap)):=bQ b2 (by decide) (λe=>absurd e (by decide)) _ _;rcases hown.2 with ⟨e,_⟩|⟨g',cap',cur,e,_,jS,hle,hmx,hsz,htk⟩
 ·cases e
 cases e;have hgb:g≠b:=by omega
 have Lr:(w2.setCell ⟨b,0,none⟩ (.slice (some ⟨g,0,none⟩) 1 cap)).heap[g]?=some (.cells cur 111 (0,0)):=(l_ _ _ _ _ hgb).trans jS;have hcell:∀ k,k<2->cur[k]?=([Value.int .i64 (-1073741824),.slice ua un uc])[k]?:=λk hk=>by
  rw [<-htk,aac hk];simp
 refine ⟨⟨⟨_,by rw [cellsOf e2];rfl,some ⟨g,0,none⟩,cap,rfl,λi hi=>?_⟩,⟨_,by rw [cellsOf e2];rfl,none,0,rfl,λi hi=>absurd hi (aaD i)⟩,⟨_,_,_,_,by rw [cellsOf e2];rfl,by rw [cellsOf e2];rfl,zX _ _⟩⟩,e2,hle⟩;have hi0:i=0:=by simp at hi;exact hi
 subst hi0;refine ⟨g,0,.slice ua un uc,rfl,?_,?_,(hrow.below hG).holds hh3⟩
 ·rw [cellsOf Lr];exact hcell 0 (by decide)
 ·rw [cellsOf Lr];exact hcell 1 (by decide)
theorem NC (s:List Int):(List.range (0+1)).map (ik t0 s 0)=[s.getD 0 0]:=by
 simp [ik,t0,Pl.sm,abD]
section
section
attribute [local go_sem] bD
set_option maxHeartbeats 2000000 in
theorem FZ (K b:Nat) (s:List Int) (vs:Value) (w:World) (h:vk w b) (hs:aD PT w vs s) (hlen:s.length=1) (hsl:∀ k,Pl.Lt K (s.getD k 0)) (hK1:1<=K) (hK:2*K+1<=1500000000000) :
  Calls Tryz.prog 69 #[.pointer (some ⟨b,0,none⟩),vs] w λe w'=>∃ v',e=.returned v'∧aj PT w' v' (s.getD 0 0)∧bG (·=b) w w':=by
 obtain ⟨i0,hi0,hz0,hz1,hz2⟩:=U_ Tryz.zi;obtain ⟨sa0,sn0,sc0,rfl⟩:=hs.aB;have hbw:b<w.heap.size:=z_ h;obtain ⟨W,hW⟩:∃ W,w.alloc (.cells #[.int .i64 0,.slice none 0 0] 78)=W:=⟨_,rfl⟩;have HG:Hid (ae w W):=by unfold Hid;rw [<-hW];exact ae.alloc _ _
 have HZ:Hid (W.heap[w.heap.size]?=some (.cells #[.int .i64 0,.slice none 0 0] 78 (0,0))):=by unfold Hid;rw [<-hW];exact aG _ _
 have HT:=af (h.grow (uh HG));obtain ⟨k0,-,-,-⟩:=(uh HT).cells;have Wl:Pl.Lt K 1:=by
  obtain ⟨K',rfl⟩:∃ K',K=K'+1:=⟨K - 1,by omega⟩;exact dR (by decide)
 have Oo:=af (AQ PT K b t0 s (.slice sa0 sn0 sc0) W (λ_ _=>trivial) (uh HT).at (hs.below (uh HG)) QE ⟨λr j hr=>absurd hr (aaD r),Wl⟩ hsl hK hlen (λr hr=>absurd hr (aaD r)));have e0:(List.range (t0.aS.length+1)).map (ik t0 s t0.lines.length)=[s.getD 0 0]:=NC s;rw [e0] at Oo;have lU:=af Wl;have K7:=af (hsl 0);clear h hs e0 Wl;go_enter Tryz.func69,Tryz.ntmps69;go_wp2_with fail
 try rw [hW]
 clear hW;refine (uh Oo).mono ?_;rintro e w1 ⟨v1,rfl,hv1,hw1⟩;obtain ⟨ea,en,ec,rfl⟩:=hv1.aB;have wP:=af hv1;have dN:Hid (ae W w1):=hw1;have HT1:=af ((uh HT).grow hw1);clear hv1 hw1 Oo k0;obtain ⟨k0,-,-,-⟩:=(uh HT1).cells;go_wp2_with (at_builtin;refine wpList_append_lies _ rfl _ _ 107 rfl 0 111 i0 (.agg #[.int .i64 0,.slice none 0 0]) 2 32 Tryz.underlying107 hi0 hz0 hz1 hz2 rfl (by decide) _ 0 [] rfl ⟨rfl,.inl ⟨rfl,rfl⟩⟩ ⟨_,0,none⟩ 1 1 [.int .i64 (-1073741824),.slice ea en ec] rfl rfl ?d1 (by simp [Value.oneCell']) (by decide) ?d2 ?d3 ?d4 _ rfl ?_)
 case d1=>exact λj u hu=>World.news_of_block (aax _ _) j u hu
 case d2=>unfold maxLen;omega
 case d3=>omega
 case d4=>exact aaZ _
 ·intro g cap w2 hown1 hgrow hat hlt2;have hgA:=ae.alloc w1 (.cells #[.int .i64 (-1073741824),.slice ea en ec] 111);have hG2:ae w1 w2:=hgA.trans ((n_ _ _).grown hgrow (d_ _) (by intro k hk;cases hk));have hge:w1.heap.size<=g:=by
   rcases hat with e|e
   ·cases e
   ·rw [e];first | omega | (simp;done) | (rw [H_];omega)
  have hadd:=zero_add (uh HT1) (uh wP) hG2 hge hown1;have HTA:=af hadd.1;have HOB:=af hadd.2.1;have hcap1:=hadd.2.2;have kb:=((uh HT1).grow hG2).cells.1;have fb:w2.frozen? ⟨b,0,none⟩=false:=aH ((uh HT1).grow hG2) 0;have UQ:Hid (bG (·=b) w (w2.setCell ⟨b,0,none⟩ (.slice (some ⟨g,0,none⟩) 1 cap))):=bG.setCell (S:=(·=b)) (bG.cZ (((uh HG).trans (uh dN)).trans hG2)) (b:=b) rfl _ _;have HZ2:Hid ((w2.setCell ⟨b,0,none⟩ (.slice (some ⟨g,0,none⟩) 1 cap)).heap[w.heap.size]?=some (.cells #[.int .i64 0,.slice none 0 0] 78 (0,0))):=(l_ _ _ _ _ (show w.heap.size≠b by omega)).trans (Below.same ((uh dN).trans hG2) _ _ (uh HZ));clear hown1 hgrow hat hlt2 hadd hgA hG2 wP;go_wp2_with fail;generalize hW2:w2.setCell ⟨b,0,none⟩ (.slice (some ⟨g,0,none⟩) 1 cap)=W2 at *
  clear hW2 fb k0 kb w2;go_loopg [] 0 (λk wr=>Hid (ae W2 wr))
  case atStart=>exact n_ _ _
  case round =>
   have HR:=hrel;clear hrel;go_wp2_with fail;refine (oF PT b ⟨[(-1073741824,[s.getD 0 0])],[],1⟩ wr ((uh HTA).below (uh HR)) (by simp) (λl hl=>by have:l=(-1073741824,[s.getD 0 0]):=(by simpa using hl);rw [this];simp) (by simp) (r:=0) (by simp) (by simp)).mono ?_;rintro e w3 ⟨c,rfl,mR,hw3⟩;have jb:Hid (ae W2 w3):=(uh HR).trans hw3;clear hw3;rcases mR with ⟨rfl,-⟩|⟨c,hc,-⟩
   ·have adZ:=af ((uh HTA).below (uh jb));have Td:=af (Below.same (uh jb) _ _ (uh HOB));have HZ3:=af (Below.same (uh jb) _ _ (uh HZ2));have HC:=af (λwq (hg:ae w3 wq)=>jP PT b ⟨[(-1073741824,[s.getD 0 0])],[],1⟩ wq ((uh adZ).below hg) (by simp) (λl hl=>by have:l=(-1073741824,[s.getD 0 0]):=(by simpa using hl);rw [this];simp) (r:=0) (by simp) (j:=0) (by simp));have k2:w3.cell? ⟨b,2,none⟩=some (.int .i64 1):=by rw [cellsOf (uh Td)];rfl
    have k3:w3.cell? ⟨b,3,none⟩=some (.slice none 0 0):=by rw [cellsOf (uh Td)];rfl
    have y1:=b_ k2;have y2:=b_ k3;go_wp2_with fail;refine ah (bZ [(45,λv w=>aj PT w v (s.getD 0 0)),(50,λv w=>aj PT w v (s.getD 0 0)),(9,bg w3)]) (gL [(45,ag),(50,ag),(9,bL)]) 61 9 (by kernel_rfl) (by rfl) (by kernel_rfl) (aN (λ_ _ _=>aj.below) (aN (λ_ _ _=>aj.below) (aN (λ_ _ _=>bg.grow) cK))) ?_
    iterate 2 (refine aO λK hK=>?_;go_simp;refine hK _ ?_;clear hK K)
    refine ai ag 87 #[.pointer (some ⟨b,0,none⟩),.int .i64 0,.int .i64 0] (by rfl) (by rfl) ag.some (λw=>by go_simp) (λwq hg hf=>(uh HC wq hg).mono (by rintro e w' ⟨v',rfl,hv,hb⟩;exact ⟨_,rfl,hb,hv.aU,λt ht=>by cases ht;exact hv⟩)) ?_;rintro _ ⟨cx,ca,cm,cc,rfl⟩
    iterate 4 (refine aO λK hK=>?_;go_simp;refine hK _ ?_;clear hK K)
    refine ai ag 56 #[.agg #[.int .i64 cx,.slice ca cm cc],.agg #[.int .i64 1,.slice none 0 0]] (by rfl) (by rfl) ag.some (λw=>by go_simp) (λwq hg hf=>(lu PT K (s.getD 0 0) 1 _ _ wq (λ_ _=>trivial) (hf 2 (by kernel_rfl) _ 45 rfl rfl) (zX _ _) (by omega) (uh K7) (uh lU)).mono (by rintro e w' ⟨v',rfl,hv,hb⟩;rw [Int.fdiv_one] at hv;exact ⟨_,rfl,hb,hv.aU,λt ht=>by cases ht;exact hv⟩)) ?_;rintro _ ⟨dx,da,dm,dc,rfl⟩;refine eO bL (by rfl) (by rfl) bL.some (λwq hg hf=>⟨.pointer (some ⟨wq.heap.size,0,none⟩),wq.alloc (.cells #[.int .i64 0,.slice none 0 0] 78),by go_simp,ae.alloc _ _,⟨_,rfl⟩,λt ht=>by cases ht;exact bg.new hg⟩) ?_;rintro _ ⟨g9,rfl⟩;refine aF ?_;intro w4 hg4 aK;have Wm:aj PT w4 (.agg #[.int .i64 dx,.slice da dm dc]) (s.getD 0 0):=aK 7 _ 50 (by decide) rfl rfl;have q9:bg w3 (.pointer (some ⟨g9,0,none⟩)) w4:=aK 8 _ 9 (by decide) rfl rfl;clear aK y1 y2 k2 k3;have hge:=q9.own.1;have hblk:=q9.own.2;have s0:=(au hblk).1;have s1:=(au hblk).2.1;have s2:=(au hblk).2.2.1;have s3:=(au hblk).2.2.2;have Ot:=af (bH hg4 hge hblk Wm).1;have kC:Hid (ae w3 ((w4.setCell ⟨g9,0,none⟩ (.int .i64 dx)).setCell ⟨g9,1,none⟩ (.slice da dm dc))):=(bH hg4 hge hblk Wm).2;clear Wm hblk hg4 q9;have hb3:b<w3.heap.size:=z_ (uh Td);have hr3:w.heap.size<w3.heap.size:=z_ (uh HZ3);generalize Bh:(w4.setCell ⟨g9,0,none⟩ (.int .i64 dx)).setCell ⟨g9,1,none⟩ (.slice da dm dc)=W5 at *
    have Te:=af (Below.same (uh kC) _ _ (uh Td));have zY:=af (Below.same (uh kC) _ _ (uh HZ3));have kb0:W5.cell? ⟨b,0,none⟩=some (.slice (some ⟨g,0,none⟩) 1 cap):=by rw [cellsOf (uh Te)];rfl
    have fb0:W5.frozen? ⟨b,0,none⟩=false:=aH (uh Te) 0;have e6:=j_ W5 b 0 _ _ (.slice (some ⟨g,0,none⟩) 0 cap) (uh Te);have HZ6:Hid ((W5.setCell ⟨b,0,none⟩ (.slice (some ⟨g,0,none⟩) 0 cap)).heap[w.heap.size]?=some (.cells #[.int .i64 0,.slice none 0 0] 78 (0,0))):=(l_ _ _ _ _ (show w.heap.size≠b by omega)).trans (uh zY);have wI:Hid (bB PT (W5.setCell ⟨b,0,none⟩ (.slice (some ⟨g,0,none⟩) 0 cap)) g9 dx da dm dc (s.getD 0 0)):=⟨(l_ _ _ _ _ (show g9≠b by omega)).trans (uh Ot).heap,(uh Ot).val.bW (aA.setCell (uh Te) (by decide) _ _)⟩;have Oe:Hid (bG (·=b) w (W5.setCell ⟨b,0,none⟩ (.slice (some ⟨g,0,none⟩) 0 cap))):=bG.setCell (S:=(·=b)) ((uh UQ).grow ((uh jb).trans (uh kC))) (b:=b) rfl _ _;generalize J2:W5.setCell ⟨b,0,none⟩ (.slice (some ⟨g,0,none⟩) 0 cap)=W6 at *
    have u0:=(uh wI).cells.1;have u1:=(uh wI).cells.2.1;obtain ⟨z0,z1,z2,z3⟩:=au (uh HZ6);have MG:=af (Lp (uh HZ6) (uh wI).val (d_ _) (uh Oe));have hcap0:cap≠0:=by omega
    go_wp2;exact t_ (v:=.agg #[.int .i64 dx,.slice da dm dc]) (by simp [results,Tryz.results69,go_sem,z0,z1]) rfl ⟨_,rfl,(uh MG).1,(uh MG).2⟩
   ·exact absurd hc (aaD c)
end
set_option maxHeartbeats 2000000 in
theorem H5 (K b:Nat) (s:List Int) (vs:Value) (w:World) (h:vk w b) (hs:aD PT w vs s) (hlen:s.length=1) (hsl:∀ k,Pl.Lt K (s.getD k 0)) (hK1:1<=K) (hK:2*K+1<=1500000000000) :
  Calls Tryz.prog 53 #[.pointer (some ⟨b,0,none⟩),vs] w λe w'=>∃ v',e=.returned v'∧aj PT w' v' (s.getD 0 0)∧bG (·=b) w w':=by
 obtain ⟨i0,hi0,hz0,hz1,hz2⟩:=U_ Tryz.dP;obtain ⟨gs,os,Wn,ZN,rfl,Tf,hsc⟩:=hs.get (by omega);have ND:=af hsc;have HT:=af h;have Qy:=af hsl;have HLEN:=af hlen;have hbw:b<w.heap.size:=z_ h;have ZO:=aG w (.cells #[.int .i64 0,.slice none 0 0] 78);have ZP:ae w (w.alloc (.cells #[.int .i64 0,.slice none 0 0] 78)):=ae.alloc _ _;have hsa:(w.alloc (.cells #[.int .i64 0,.slice none 0 0] 78)).heap.size=w.heap.size+1:=H_ _ _;have HW:=af (x_ ZO (x_ ZP hsa));rw [hlen];clear h hs hsc hsl hlen ZO ZP hsa;obtain ⟨n,hn⟩:∃ n:Nat,n=0:=⟨_,rfl⟩;rw [show (1:Nat)=n+1 by omega];have HN0:=af hn;have hn1:n<=100:=by omega
 clear hn;go_enter Tryz.func53,Tryz.ntmps53;go_wp2_with (at_make;refine wpList_make_full _ rfl _ _ 69 rfl (w.heap.size+1) 78 i0 (.agg #[.int .i64 0,.slice none 0 0]) 2 Tryz.underlying69 hi0 hz0 hz1 .i64 .i64 _ _ (n+1) rfl rfl ?e1 ?e2 ?c1 ?c2 ?c3 ?_)
 case e1=>first | rfl | omega | simp
 case e2=>first | rfl | omega | simp
 case c1=>rw [hz2];omega
 case c2=>unfold maxLen;omega
 case c3=>first | omega | simp
 ·intro w1 hown hgrow;have hb1:ae w w1:=(uh HW).2.1.trans ((n_ _ _).grown hgrow (d_ _) (by intro k hk;cases hk));have uA:Hid (bz PT w1 (w.heap.size+1) (n+1) (λ_=>0)):=bz.made hown;have HZ1:Hid (w1.heap[w.heap.size]?=some (.cells #[.int .i64 0,.slice none 0 0] 78 (0,0))):=(hgrow.block w.heap.size (by rw [(uh HW).2.2];omega) (by intro h;cases h)).trans (uh HW).1;have dN:Hid (ae w w1):=hb1;clear hown hgrow hb1 HW;have PH:Hid (n+1=s.length):=by unfold Hid;rw [uh HLEN];have:=uh HN0;omega
  generalize hN:n+1=N at *
  go_wp2_with fail;go_loopg [6] N (λk iv wr=>∃ (i:Nat),iv=.int .i64 i∧i+k=N∧Hid (bz PT wr (w.heap.size+1) N (λk=>if k<i then -s.getD k 0 else 0)∧ae w wr∧wr.heap[w.heap.size]?=some (.cells #[.int .i64 0,.slice none 0 0] 78 (0,0))))
  case atStart=>exact ⟨0,rfl,by omega,(uh uA).congr (λi _=>by rw [g_ (by omega)]),uh dN,uh HZ1⟩
  case round =>
   obtain ⟨i,rfl,hik,HR⟩:=hrel;by_cases hlt:i<N
   ·obtain ⟨zx,za,zm,zc,z0,z1,hz⟩:=uh ND i (by rw [<-uh PH];exact hlt);have z0:=(uh HR).2.1.cell z0;have z1:=(uh HR).2.1.cell z1;have HZ:Hid (aj PT wr (.agg #[.int .i64 zx,.slice za zm zc]) (s.getD i 0)):=by
     unfold Hid;rw [a_,f_ (by rw [<-uh PH];exact hlt)];exact hz.below (uh HR).2.1
    clear hz;go_wp2_with fail;refine (lF PT _ _ _ (uh HZ)).mono ?_;rintro e w2 ⟨v2,rfl,hv2,hw2⟩;obtain ⟨nx,na,nm,nc,rfl⟩:=hv2.shape;have hR2:=(uh HR).1.grow hw2;obtain ⟨ox,oa,om,oc,r0,r1,_,f0,f1⟩:=hR2.get hlt;have uI:Hid (bz PT ((w2.setCell ⟨w.heap.size+1,i*2,none⟩ (.int .i64 nx)).setCell ⟨w.heap.size+1,i*2+1,none⟩ (.slice na nm nc)) (w.heap.size+1) N (λk=>if k<i+1 then -s.getD k 0 else 0)):=(hR2.set hlt hv2).congr (λk _=>by
     unfold qi;by_cases h:k=i
     ·subst h;rw [h_ rfl,h_ (by omega)]
     ·rw [g_ h]
      dsimp only
      by_cases h2:k<i
      ·rw [h_ h2,h_ (by omega)]
      ·rw [g_ h2,g_ (by omega)])
    have HG2:Hid (ae w ((w2.setCell ⟨w.heap.size+1,i*2,none⟩ (.int .i64 nx)).setCell ⟨w.heap.size+1,i*2+1,none⟩ (.slice na nm nc))):=(B_ (p:=⟨w.heap.size+1,i*2,none⟩) (ae.trans (uh HR).2.1 hw2) (by show w.heap.size<=w.heap.size+1;omega) _).setCell (p:=⟨w.heap.size+1,i*2+1,none⟩) (by show w.heap.size<=w.heap.size+1;omega) _;have HZ2:Hid (((w2.setCell ⟨w.heap.size+1,i*2,none⟩ (.int .i64 nx)).setCell ⟨w.heap.size+1,i*2+1,none⟩ (.slice na nm nc)).heap[w.heap.size]?=some (.cells #[.int .i64 0,.slice none 0 0] 78 (0,0))):=by
     unfold Hid;rw [l_ _ _ _ _ (show w.heap.size≠w.heap.size+1 by omega),l_ _ _ _ _ (show w.heap.size≠w.heap.size+1 by omega)];exact Below.same hw2 _ _ (uh HR).2.2
    clear hv2 hw2 hR2;go_wp2;go_roundg (gk - 1)
    case measure=>omega
    case rel=>exact ⟨i+1,by simp,by omega,uh uI,uh HG2,uh HZ2⟩
   ·have hiN:i=N:=by omega
    have hrow:=((uh HR).1.congr (f':=λk=>-s.getD k 0) (λk hk=>by rw [h_ (by omega)])).row trivial;rw [zZ s N (uh PH).symm] at hrow;have DJ:=af (FZ K b (s.map λx=>-x) _ wr ((uh HT).grow (uh HR).2.1) hrow (by rw [L_];exact uh HLEN) (λk=>by rw [Da];exact (uh Qy k).neg) hK1 hK);rw [Da] at DJ;clear hrow;go_wp2_with fail;refine (uh DJ).mono ?_;rintro e w2 ⟨v2,rfl,hv2,hB2⟩;obtain ⟨nx,na,nm,nc,rfl⟩:=hv2.shape;have hrr:w.heap.size<wr.heap.size:=z_ (uh HR).2.2;have HZ2:Hid (w2.heap[w.heap.size]?=some (.cells #[.int .i64 0,.slice none 0 0] 78 (0,0))):=(hB2.block w.heap.size hrr (by omega)).trans (uh HR).2.2;have HT2:Hid (bG (·=b) w w2):=(bG.cZ (uh HR).2.1).trans hB2;have HV:=af (dC hv2);have HN:=af (lF PT _ _ _ (dC hv2).val);have hw2:w.heap.size<w2.heap.size:=z_ (uh HZ2);clear hB2 hv2 DJ;have v0:=(uh HV).cells.1;have v1:=(uh HV).cells.2.1;go_wp2_with fail;refine (uh HN).mono ?_;rintro e w3 ⟨v3,rfl,hv3,hw3⟩;obtain ⟨rx,ra,rm,rc,rfl⟩:=hv3.shape;have hG3:ae w2 w3:=ae.trans (ae.alloc _ _) hw3;have HZ3:=af (Below.same hG3 _ _ (uh HZ2));obtain ⟨Le,z1',z2',z3'⟩:=au (uh HZ3);rw [abM] at hv3;have MG:=af (Lp (uh HZ3) hv3 (d_ _) ((uh HT2).grow hG3));clear hv3 hw3 hG3 HN HV;go_wp2;exact t_ (v:=.agg #[.int .i64 rx,.slice ra rm rc]) (by simp [results,Tryz.results53,go_sem,Le,z1']) rfl ⟨_,rfl,(uh MG).1,(uh MG).2⟩
end
structure rf (H:Nat) (r:aP):Prop where
 zero:r.zero=[]
 mJ:r.dV.gJ
 ok:eH r
 lt:dF H r
 one:1<=H
 size:r.size<=9
 pI:r.least.length<=700
 some:∀ a∈r.least,∃ i,i<r.size∧a.getD (i+1) 0≠0
theorem rf.fit {H:Nat} {r:aP} (h:rf H r) (h0:0<r.size):iM H r:=⟨h.zero,h.mJ,h.ok,h.lt,h.one,h0,h.size,by have:=h.pI;omega⟩
theorem rf.none {H:Nat} {r:aP} (h:rf H r) (h0:r.size=0):r.least=[]:=by
 rcases hl:r.least with _|⟨a,l⟩
 ·rfl
 ·obtain ⟨i,hi,_⟩:=h.some a (by rw [hl];exact abz ..);omega
def Y0 (r:aP) (H:Nat) (w0 w:World) (b:Nat):Prop:=(r.size=0∧vk w b)∨∃ gl gc t,0<r.size∧w0.heap.size<=gl∧w0.heap.size<=gc∧aV (·≠gc) w b gl gc t∧Good (Pl.gH r.S) r.size (Pl.gU r.size r.least.length) r.least.length t
def Y1 (r:aP) (H:Nat) (w0 w:World) (b:Nat):Prop:=(r.size=0∧vk w b)∨∃ gl gc t,0<r.size∧w0.heap.size<=gl∧w0.heap.size<=gc∧aV (·≠gc) w b gl gc t∧iq r [] (Pl.gU r.size r.least.length) r.least.length t
section
variable {r:aP} {H b:Nat} {w0 w:World}
theorem Y2 (hf:rf H r) (vl:Value) (w:World) (h:aM PT w vl r.least) (hK:2*((r.size+1)*H+1)+1<=1500000000000) :
  Calls Tryz.prog 49 #[vl,.int .i64 r.size] w λe w'=>∃ b,e=.returned (.pointer (some ⟨b,0,none⟩))∧w.heap.size<=b∧ae w w'∧Y0 r H w w' b:=by
 by_cases h0:r.size=0
 ·obtain ⟨la,ln,lc,rfl⟩:=h.aB;have hln:ln=0:=by have:=h.len;rw [this,hf.none h0];rfl
  subst hln;have e:((r.size:Nat):Int)=0:=by rw [h0];rfl
  rw [e];refine (P5 la lc w).mono ?_;rintro e w' ⟨b,rfl,h1,h2,h3⟩;exact ⟨b,rfl,h1,h3,.inl ⟨h0,h2⟩⟩
 ·refine (Fw (hf.fit (by omega)) vl w h hK).mono ?_;rintro e w' ⟨b,gl,gc,t,rfl,q1,q2,q3,hT,hG,hg⟩;exact ⟨b,rfl,q1,hG,.inr ⟨gl,gc,t,by omega,q2,q3,hT,hg⟩⟩
theorem Sw (hf:rf H r) (hb:w0.heap.size<=b) (hw:w0.heap.size<=w.heap.size) (h:Y0 r H w0 w b) (hK:2*((r.size+1)*H+1)+1<=1500000000000) :
  Calls Tryz.prog 50 #[.pointer (some ⟨b,0,none⟩)] w λe w'=>∃ qG:Bool,e=.returned (.bool qG)∧Below w0.heap.size w w'∧(qG=false->Y1 r H w0 w' b)∧(qG=true->∀ x,¬ r.dV.Has x):=by
 rcases h with ⟨h0,h1⟩|⟨gl,gc,t,h0,q2,q3,hT,hg⟩
 ·refine (FO b w h1).mono ?_;rintro e w' ⟨rfl,h2⟩;exact ⟨false,rfl,aam h2 hw,λ_=>.inl ⟨h0,h1.grow h2⟩,λh=>by cases h⟩
 ·refine (zK (hf.fit h0) w hT hg hK).mono ?_;rintro e w' ⟨qG,t',rfl,h2,h3,h4,h5⟩;exact ⟨qG,rfl,h3.below (λk hk=>by rcases hk with e | e | e <;> omega) hw,λha=>.inr ⟨gl,gc,t',h0,q2,q3,h2,h4 ha⟩,h5⟩
theorem P6 (hf:rf H r) (hb:w0.heap.size<=b) (hw:ae w0 w) (h:Y1 r H w0 w b) (s:List Int) (vs:Value) (hs:aD PT w0 vs s) (hlen:s.length=r.size+1) (hsl:∀ k,Pl.Lt H (s.getD k 0)) (hK:2*((r.size+1)*H+1)+1<=1500000000000) :
  Calls Tryz.prog 53 #[.pointer (some ⟨b,0,none⟩),vs] w λe w'=>∃ (v':Value) (lo:Int),e=.returned v'∧aj PT w' v' lo∧Below w0.heap.size w w'∧(∀ x,r.dV.Has x->lo<=Pl.ev r.size (lf s) (Pl.pt x))∧Pl.Lt ((r.size+1)*H+1) lo:=by
 have hHH:H<=(r.size+1)*H+1:=by rw [aa_,abA];omega
 rcases h with ⟨h0,h1⟩|⟨gl,gc,t,h0,q2,q3,hT,hg⟩
 ·refine (H5 H b s vs w h1 (hs.below hw) (by omega) hsl hf.one (by omega)).mono ?_;rintro e w' ⟨v',rfl,h2,h3⟩;refine ⟨v',_,rfl,h2,h3.below (λk hk=>by omega) hw.size,λx _=>?_,(hsl 0).mono hHH⟩;rw [Pl.kR,h0];show s.getD 0 0<=lf s 0+0;unfold lf;omega
 ·have hs':aD (·≠gc) w vs s:=(hs.mono (P':=(·≠gc)) (λk hk _=>by show k≠gc;omega)).below hw;refine (xI (·≠gc) (hf.fit h0) hg vs w (λb' hb' e=>by have:=hT.lt.2.2.1;omega) hT hs' hlen hsl hK).mono ?_;rintro e w' ⟨v',yQ,t2,rfl,h2,h3,h4,h5,h6,h7,h8⟩;refine ⟨v',_,rfl,h5.mono (λ_ _ _=>trivial),h4.below (λk hk=>by rcases hk with e | e | e <;> omega) hw.size,λx hx=>?_,h8⟩
  have hin:=(rR x).1 λa ha=>hx.least (lf a) (m_.2 ⟨a,ha,rfl⟩);have e5:=h6.le hg.names hin;rw [tJ,zQ] at e5;omega
end
structure oM (B:Nat) (w0 w:World) (r:aP) (za:Option Addr) (zn zc:Nat) (ea:Option Addr) (en ec:Nat) (da:Option Addr) (dn dc:Nat) (g8 g9:Nat) (lx:Int) (la:Option Addr) (lm lc:Nat) (low:Int) (qx:Int) (qa:Option Addr) (qm qc:Nat) (rch:Int):Prop where
 box:bU (·<B) w0.heap.size w r za zn zc ea en ec da dn dc
 low:bB PT w g8 lx la lm lc low
 rch:bB PT w g9 qx qa qm qc rch
 cZ:ae w0 w
 ne:g8≠g9
 Nb:w0.heap.size<g8
 Nc:w0.heap.size<g9
 b8:B<=g8
 b9:B<=g9
section
variable {B:Nat} {w0 w w':World} {r:aP} {za ea da la qa:Option Addr} {zn zc en ec dn dc g8 g9 lm lc qm qc:Nat} {lx low qx rch:Int}
theorem oM.grow (h:oM B w0 w r za zn zc ea en ec da dn dc g8 g9 lx la lm lc low qx qa qm qc rch) (hg:ae w w'):oM B w0 w' r za zn zc ea en ec da dn dc g8 g9 lx la lm lc low qx qa qm qc rch :=
 ⟨h.box.grow hg,h.low.grow hg,h.rch.grow hg,h.cZ.trans hg,h.ne,h.Nb,h.Nc,h.b8,h.b9⟩
theorem oM.P7 (h:oM B w0 w r za zn zc ea en ec da dn dc g8 g9 lx la lm lc low qx qa qm qc rch) {x:Int} {a:Option Addr} {m c:Nat} {n:Int} (hv:aj PT w (.agg #[.int .i64 x,.slice a m c]) n):oM B w0 ((w.setCell ⟨g8,0,none⟩ (.int .i64 x)).setCell ⟨g8,1,none⟩ (.slice a m c)) r za zn zc ea en ec da dn dc g8 g9 x a m c n qx qa qm qc rch :=
 ⟨h.box.var h.b8 (Nat.ne_of_lt h.Nb) _ _,⟨jU h.low.heap _ _,hv.kE h.low.heap _ _⟩,h.rch.put ⟨_,h.low.heap⟩ (aaQ h.ne) _ _ _ _,(B_ (p:=⟨g8,0,none⟩) h.cZ (abv h.Nb) _).setCell (p:=⟨g8,1,none⟩) (abv h.Nb) _,h.ne,h.Nb,h.Nc,h.b8,h.b9⟩
theorem oM.P8 (h:oM B w0 w r za zn zc ea en ec da dn dc g8 g9 lx la lm lc low qx qa qm qc rch) {x:Int} {a:Option Addr} {m c:Nat} {n:Int} (hv:aj PT w (.agg #[.int .i64 x,.slice a m c]) n):oM B w0 ((w.setCell ⟨g9,0,none⟩ (.int .i64 x)).setCell ⟨g9,1,none⟩ (.slice a m c)) r za zn zc ea en ec da dn dc g8 g9 lx la lm lc low x a m c n :=
 ⟨h.box.var h.b9 (Nat.ne_of_lt h.Nc) _ _,h.low.put ⟨_,h.rch.heap⟩ h.ne _ _ _ _,⟨jU h.rch.heap _ _,hv.kE h.rch.heap _ _⟩,(B_ (p:=⟨g9,0,none⟩) h.cZ (abv h.Nc) _).setCell (p:=⟨g9,1,none⟩) (abv h.Nc) _,h.ne,h.Nb,h.Nc,h.b8,h.b9⟩
end
end Go.Proofs.YtgaafamcajcifaaGreat
