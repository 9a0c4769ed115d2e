/- Joined: XMem3 XMem4 XMem5 XMem6 XVar. -/
import Derived.Test.YtfaljekgpnbmiaaGreatJ05
import Derived.Test.YtfaljekgpnbmiaaGreatJ16
set_option linter.unusedVariables false
set_option linter.unusedSimpArgs false
set_option maxRecDepth 100000
namespace Go.Proofs.YtfaljekgpnbmiaaGreat
open Go.RowKit
theorem Tryz.dR:(Tryz.prog.info? 168).map (λi=>(i.zero,i.size,i.bytes))=some (some (.agg #[.int .i64 0,.slice none 0 0]),2,32):=by kernel_rfl
theorem si {w:World} {B:Nat} {e:TypeId} {g n:Nat} {xs:List Value} (h:w.ownsRow B e 2 (.slice (some ⟨g,0,none⟩) n n) n xs):∃ cs:Array Value,w.heap[g]?=some (.cells cs e (0,0))∧cs.size=2*n:=by
 rcases h.2 with ⟨h1,_⟩|⟨g',cap,cur,he,hb,hgg,hle,hm,hcs,htk⟩
 ·simp at h1
 ·simp only [Value.slice.injEq,Option.some.injEq,Addr.mk.injEq,adh,adV] at he;obtain ⟨rfl,rfl⟩:=he;exact ⟨cur,hgg,by omega⟩
theorem oC.kG {P:Nat->Prop} {w:World} {g n:Nat} {l:List Int} (h:oC P w g n l) {k:Nat} (hk:g≠k) {u v:Value} (hb:w.heap[k]?=some (.cells #[u,v] 168 (0,0))) (p q:Value):oC P ((w.setCell ⟨k,0,none⟩ p).setCell ⟨k,1,none⟩ q) g n l:=by
 obtain ⟨cs,h1,h2,h3,h4⟩:=h;refine ⟨cs,(jP hk p q).trans h1,h2,h3,λi hi=>?_⟩;obtain ⟨x,a,m,c,d1,d2,d3⟩:=h4 i hi;exact ⟨x,a,m,c,d1,d2,d3.kG hb _ _⟩
theorem oC.open {P:Nat->Prop} {w:World} {g n:Nat} {l:List Int} (h:oC P w g n l) (hl:l.length<n):∃ u v,w.cell? ⟨g,l.length*2,none⟩=some u∧w.cell? ⟨g,l.length*2+1,none⟩=some v∧w.frozen? ⟨g,l.length*2,none⟩=false∧w.frozen? ⟨g,l.length*2+1,none⟩=false:=by
 obtain ⟨cs,h1,h2,_,_⟩:=h;exact ⟨cs[l.length*2],cs[l.length*2+1],by rw [cellsOf h1];exact acf (by omega),by rw [cellsOf h1];exact acf (by omega),aH h1 _,aH h1 _⟩
theorem CR (t:Pl.aR) (r c:Nat) (sg:Int):(t.bL r c sg).length=t.aS.length+1:=by simp [Pl.aR.bL]
theorem AO (t:Pl.aR) (r c:Nat) (sg:Int) {j:Nat} (hj:j<t.aS.length+1):(t.bL r c sg).take (j+1)=(t.bL r c sg).take j++[sg*(if j=c then t.scale else -t.cell r j)]:=by
 rw [List.take_add_one,f_ (by rw [CR];exact hj)];simp [Pl.aR.bL]
set_option maxHeartbeats 1000000 in
theorem KG (P:Nat->Prop) (b:Nat) (t:Pl.aR) (w:World) (hP:∀ b,w.heap.size<=b->P b) (h:r9 P w b t) (hlen:t.lines.length<=1000) (hcl:∀ l∈t.lines,l.2.length<=1000) (Z0:t.aS.length<=100) {r c:Nat} (hr:r<t.lines.length) (hrow:(t.lines.getD r (0,[])).2.length=t.aS.length+1) {sg:Int} (hs:sg=1∨sg=-1) :
  Calls Tryz.prog 342 #[.pointer (some ⟨b,0,none⟩),.int .i64 r,.int .i64 c,.int .i64 sg] w λe w'=>∃ v',e=.returned v'∧aD P w' v' (t.bL r c sg)∧Below w.heap.size w w':=by
 obtain ⟨i0,hi,hz0,hz1,hz2⟩:=V_ Tryz.dR;obtain ⟨vc,kc,adc,TE,rfl,hci⟩:=h.aS;clear hci;go_enter Tryz.func342,Tryz.ntmps342;go_wp2_with (at_make;refine O_ _ rfl _ _ 159 rfl w.heap.size 168 i0 (.agg #[.int .i64 0,.slice none 0 0]) 2 Tryz.underlying159 hi hz0 hz1 .i64 .i64 _ _ (t.aS.length+1) rfl rfl ?e1 ?e2 ?c1 ?c2 ?c3 ?_)
 case e1=>first | rfl | omega | simp
 case e2=>first | rfl | omega | simp
 case c1=>rw [hz2];omega
 case c2=>unfold maxLen;omega
 case c3=>omega
 ·intro w1 hown hgrow;have hb1:Below w.heap.size w w1:=(n_ _ _).grown hgrow (d_ _) (by intro k hk;cases hk);obtain ⟨cs,hblk,hcs⟩:=si hown;have H1:Hid (oC P w1 w.heap.size (t.aS.length+1) []∧Below w.heap.size w w1):=⟨⟨cs,hblk,hcs,by simp,λi hi=>by simp at hi⟩,hb1⟩;clear hown hgrow hblk hb1 kc hcs;have HT:=af h;clear h;go_wp2_with fail;generalize hG:w.heap.size=g at *
  generalize hN:t.aS.length+1=n at *
  go_loopg [10] n (λk jv wr=>∃ (l:List Int),jv=.int .i64 l.length∧l.length+k=n∧Hid (oC P wr g n l∧Below g w wr∧l=(t.bL r c sg).take l.length))
  case atStart=>exact ⟨[],rfl,by simp,(uh H1).1,(uh H1).2,by simp⟩
  case round =>
   obtain ⟨l,rfl,hlk,HR⟩:=hrel;by_cases hlt:l.length<n
   ·have hb:Below w.heap.size w wr:=by rw [hG];exact (uh HR).2.1
    obtain ⟨sx,sa,sm,sc,k2,k3,hsc⟩:=((uh HT).below hb).scale;have U0:=af hsc;clear hsc hb;by_cases hjc:l.length=c
    ·subst hjc;have DU:Below wr.heap.size wr (wr.alloc (.cells #[.int .i64 sx,.slice sa sm sc] 168)):=(n_ _ _).alloc (d_ _) _;have hbw:Below g w wr:=(uh HR).2.1;have hB1:Below g w (wr.alloc (.cells #[.int .i64 sx,.slice sa sm sc] 168)):=hbw.trans (DU.mono (by have:=hbw.size;omega));have hgl:g<wr.heap.size:=by obtain ⟨cs,h1,_⟩:=(uh HR).1;exact z_ h1
     have Tu:=af ((uh U0).below DU);have Qb:=af ((uh HR).1.below DU);have wW:Hid (Below g w (wr.alloc (.cells #[.int .i64 sx,.slice sa sm sc] 168))):=hB1;clear DU hbw hB1;go_wp2_with fail;refine (tT P t.scale sg _ _ (uh Tu) hs).mono ?_;rintro e w8 ⟨v8,rfl,sU,hw8⟩;obtain ⟨x8,a8,m8,c8,rfl,_⟩:=sU.head;have KH:=(uh Qb).below hw8;obtain ⟨u1,u2,o0,o1,of0,of1⟩:=KH.open hlt;have HF:=af (KH.add hlt sU);have X8:Hid (Below g w ((w8.setCell ⟨g,l.length*2,none⟩ (.int .i64 x8)).setCell ⟨g,l.length*2+1,none⟩ (.slice a8 m8 c8))) :=
      (B_ (p:=⟨g,l.length*2,none⟩) ((uh wW).trans (hw8.mono (by have:=(uh wW).size;omega))) (d_ _) _).setCell (p:=⟨g,l.length*2+1,none⟩) (d_ _) _
     have HL:Hid (l++[sg*t.scale]=(t.bL r l.length sg).take (l++[sg*t.scale]).length):=by
      unfold Hid;have e1:(l++[sg*t.scale]).length=l.length+1:=by simp
      rw [e1,AO t r l.length sg (by omega),h_ rfl,<-(uh HR).2.2]
     clear sU hw8 KH Qb Tu wW;go_wp2;go_roundg (gk - 1)
     case measure=>omega
     case rel=>exact ⟨l++[sg*t.scale],by simp,by simp;omega,uh HF,uh X8,uh HL⟩
    ·have tne:((l.length:Int) != (c:Int))=true:=by simp;omega
     go_wp2_with fail;have DU:Below wr.heap.size wr (wr.alloc (.cells #[.int .i64 sx,.slice sa sm sc] 168)):=(n_ _ _).alloc (d_ _) _;have hbw:Below g w wr:=(uh HR).2.1;have hB1:Below g w (wr.alloc (.cells #[.int .i64 sx,.slice sa sm sc] 168)):=hbw.trans (DU.mono (by have:=hbw.size;omega));have hgl:g<wr.heap.size:=by obtain ⟨cs,h1,_⟩:=(uh HR).1;exact z_ h1
     refine (jR P b t _ ((uh HT).below (by rw [hG];exact hB1)) hlen hcl hr (j:=l.length) (by omega)).mono ?_;rintro e w4 ⟨v4,rfl,hv4,hw4⟩;obtain ⟨x4,a4,m4,c4,rfl,_⟩:=hv4.head;have Z4:Below w4.heap.size w4 (w4.alloc (.cells #[.int .i64 x4,.slice a4 m4 c4] 168)):=(n_ _ _).alloc (d_ _) _;have DV:=af (hv4.below Z4);have HS4:Hid (bz (wr.alloc (.cells #[.int .i64 sx,.slice sa sm sc] 168)) w4):=hw4;clear hv4 hw4 Z4;go_wp2_with fail;refine (lH P _ _ _ (uh DV)).mono ?_;rintro e w6 ⟨v6,rfl,hv6,uD⟩;obtain ⟨x6,a6,m6,c6,rfl,_⟩:=hv6.head;have Lf:Hid (bz (wr.alloc (.cells #[.int .i64 sx,.slice sa sm sc] 168)) w6):=bz.step (bz.alloc (uh HS4) _) uD;have hgc:=Below.same (uh Lf) _ _ (aG wr (.cells #[.int .i64 sx,.slice sa sm sc] 168));obtain ⟨q0,q1,qf0,qf1⟩:=au hgc;have Tu:=af (hv6.kG hgc (.int .i64 x6) (.slice a6 m6 c6));have Qb:=af ((((uh HR).1.below DU).below (uh Lf)).kG (by omega) hgc (.int .i64 x6) (.slice a6 m6 c6));have wW:Hid (Below g w ((w6.setCell ⟨wr.heap.size,0,none⟩ (.int .i64 x6)).setCell ⟨wr.heap.size,1,none⟩ (.slice a6 m6 c6))):=(B_ (p:=⟨wr.heap.size,0,none⟩) (hB1.trans (aaw (uh Lf) (by have:=hB1.size;omega))) (ab0 hgl) _).setCell (p:=⟨wr.heap.size,1,none⟩) (ab0 hgl) _;clear hv6 uD hgc Lf HS4 DV DU hbw hB1;go_wp2_with fail;refine (tT P (-t.cell r l.length) sg _ _ (uh Tu) hs).mono ?_;rintro e w8 ⟨v8,rfl,sU,hw8⟩;obtain ⟨x8,a8,m8,c8,rfl,_⟩:=sU.head;have KH:=(uh Qb).below hw8;obtain ⟨u1,u2,o0,o1,of0,of1⟩:=KH.open hlt;have HF:=af (KH.add hlt sU);have X8:Hid (Below g w ((w8.setCell ⟨g,l.length*2,none⟩ (.int .i64 x8)).setCell ⟨g,l.length*2+1,none⟩ (.slice a8 m8 c8))) :=
      (B_ (p:=⟨g,l.length*2,none⟩) ((uh wW).trans (hw8.mono (by have:=(uh wW).size;omega))) (d_ _) _).setCell (p:=⟨g,l.length*2+1,none⟩) (d_ _) _
     have HL:Hid (l++[sg*(-t.cell r l.length)]=(t.bL r c sg).take (l++[sg*(-t.cell r l.length)]).length):=by
      unfold Hid;have e1:(l++[sg*(-t.cell r l.length)]).length=l.length+1:=by simp
      rw [e1,AO t r c sg (by omega),g_ hjc,<-(uh HR).2.2]
     clear sU hw8 KH Qb Tu wW;go_wp2;go_roundg (gk - 1)
     case measure=>omega
     case rel=>exact ⟨l++[sg*(-t.cell r l.length)],by simp,by simp;omega,uh HF,uh X8,uh HL⟩
   ·have hk0:gk=0:=by omega
    have hll:l.length=n:=by omega
    have HR2:Hid (aD P wr (.slice (some ⟨g,0,none⟩) n n) (t.bL r c sg)∧Below g w wr):=by
     obtain ⟨r1,r2,r3⟩:=uh HR;refine ⟨?_,r2⟩;have:=r1.row hll (hP g (by omega));rw [r3,aaN (by rw [CR];omega)] at this;exact this
    clear HR;go_wp2;go_ret;exact ⟨_,rfl,(uh HR2).1,by rw [hG];exact (uh HR2).2⟩
def Ig (t:Pl.aR) (r k:Nat):Prop:=0<=t.fu k∧0<t.cell r (k+1)
def lI (t:Pl.aR) (r j:Nat) (c:Int):Prop:=(c=-1∧∀ k,k<j->¬ Ig t r k)∨∃ k:Nat,k<j∧c=k∧Ig t r k∧∀ k',k'<j->Ig t r k'->t.fu k<=t.fu k'
theorem lI.skip {t:Pl.aR} {r j:Nat} {c:Int} (h:lI t r j c) (hn:¬ Ig t r j):lI t r (j+1) c:=by
 rcases h with ⟨h1,h2⟩|⟨k,h1,h2,h3,h4⟩
 ·exact .inl ⟨h1,λk hk=>by rcases (show k<j∨k=j by omega) with h | h;exact h2 k h;rw [h];exact hn⟩
 ·exact .inr ⟨k,by omega,h2,h3,λk' hk' hu=>by rcases (show k'<j∨k'=j by omega) with h | h;exact h4 k' h hu;rw [h] at hu;exact absurd hu hn⟩
theorem lI.stay {t:Pl.aR} {r j k:Nat} (h:lI t r j k) (hle:t.fu k<=t.fu j):lI t r (j+1) k:=by
 rcases h with ⟨h1,_⟩|⟨k2,h1,h2,h3,h4⟩
 ·omega
 ·have e:k2=k:=by omega
  subst e;exact .inr ⟨k2,by omega,h2,h3,λk' hk' hu=>by rcases (show k'<j∨k'=j by omega) with h | h;exact h4 k' h hu;rw [h];exact hle⟩
theorem lI.take {t:Pl.aR} {r j:Nat} {c:Int} (h:lI t r j c) (hu:Ig t r j) (hlt:∀ k:Nat,c=k->t.fu j<t.fu k):lI t r (j+1) j:=by
 refine .inr ⟨j,by omega,rfl,hu,λk' hk' hu'=>?_⟩;rcases (show k'<j∨k'=j by omega) with hk|hk
 ·rcases h with ⟨_,h2⟩ | ⟨k,h1,h2,h3,h4⟩
  ·exact absurd hu' (h2 k' hk)
  ·have:=h4 k' hk hu';have:=hlt k h2;omega
 ·rw [hk];exact abk _
end Go.Proofs.YtfaljekgpnbmiaaGreat

namespace Go.Proofs.YtfaljekgpnbmiaaGreat
open Go.RowKit Go.Sort
section
section
attribute [local go_sem] bE
set_option maxHeartbeats 2000000 in
theorem oI (P:Nat->Prop) (b:Nat) (t:Pl.aR) (w:World) (h:r9 P w b t) (hlen:t.lines.length<=1000) (hcl:∀ l∈t.lines,l.2.length<=1000) (Z0:t.aS.length<=100) {r:Nat} (hr:r<t.lines.length) (hrow:(t.lines.getD r (0,[])).2.length=t.aS.length+1) :
  Calls Tryz.prog 268 #[.pointer (some ⟨b,0,none⟩),.int .i64 r] w λe w'=>∃ c:Int,e=.returned (.int .i64 c)∧lI t r t.aS.length c∧Below w.heap.size w w':=by
 have HT:=af h;clear h;go_enter Tryz.func268,Tryz.ntmps268;go_wp2_with fail;go_loopg [5,6] t.aS.length (λk bv jv wr=>∃ (j:Nat) (c:Int),jv=.int .i64 j∧bv=.int .i64 c∧j+k=t.aS.length∧Hid (lI t r j c∧Below w.heap.size w wr))
 case atStart=>exact ⟨0,-1,rfl,rfl,by omega,.inl ⟨rfl,λk hk=>by omega⟩,n_ _ _⟩
 case round =>
  obtain ⟨j,c,rfl,rfl,hjk,HR⟩:=hrel;obtain ⟨vc,kc,adc,TE,rfl,hci⟩:=((uh HT).below (uh HR).2).aS;by_cases hlt:j<t.aS.length
  ·obtain ⟨gc,oc,rfl,kj⟩:=hci j hlt;have HC:=af (jR P b t wr ((uh HT).below (uh HR).2) hlen hcl hr (j:=j+1) (by omega));have e1:((j+1:Nat):Int)=(j:Int)+1:=by omega
   rw [e1] at HC;clear e1;go_wp2_with fail;refine (uh HC).mono ?_;rintro e w3 ⟨v3,rfl,hv3,hw3⟩;obtain ⟨x3,a3,m3,c3,rfl,_⟩:=hv3.head;have hal:Below w3.heap.size w3 (w3.alloc (.cells #[.int .i64 x3,.slice a3 m3 c3] 168)):=(n_ _ _).alloc (d_ _) _;have hW:Below wr.heap.size wr (w3.alloc (.cells #[.int .i64 x3,.slice a3 m3 c3] 168)):=hw3.trans (hal.mono hw3.size);have TF:=(hW.cell (aax kc)).trans kc;have Ih:=(hW.cell (aax kj)).trans kj;have HV:=af (hv3.below hal);have jQ:Hid (Below w.heap.size w (w3.alloc (.cells #[.int .i64 x3,.slice a3 m3 c3] 168))):=(uh HR).2.trans (hW.mono (uh HR).2.size);clear hv3 hw3 hal kc kj;obtain ⟨cj,hcj⟩:∃ cj,t.aS.getD j 0=cj:=⟨_,rfl⟩;have QY:Hid (t.fu j=cj):=hcj;rw [hcj] at Ih;clear hcj;obtain ⟨q0,q1,_⟩:=au (aG w3 (.cells #[.int .i64 x3,.slice a3 m3 c3] 168));by_cases h0:0<=cj
   ·have d0:decide (0<=cj)=true:=aaI h0;have Ii:=af (λw1 (h:Below (w3.alloc (.cells #[.int .i64 x3,.slice a3 m3 c3] 168)).heap.size (w3.alloc (.cells #[.int .i64 x3,.slice a3 m3 c3] 168)) w1)=>bZ P _ (t.cell r (j+1)) w1 ((uh HV).below h));obtain ⟨sg,xM⟩:∃ sg,Int.sign (t.cell r (j+1))=sg:=⟨_,rfl⟩;rw [xM] at Ii;by_cases hv:0<t.cell r (j+1)
    ·have d1:decide (0<sg)=true:=by rw [<-xM,J_ hv];decide
     rcases (uh HR).1 with ⟨hc1,hno⟩|⟨k,hk1,hk2,hk3,hk4⟩
     ·have HF:=af ((uh HR).1.take ⟨by rw [uh QY];exact h0,hv⟩ (λk hk=>by omega));subst hc1;clear xM HV hv h0 hci hno;go_wp2_with fail;generalize hW0:w3.alloc (.cells #[.int .i64 x3,.slice a3 m3 c3] 168)=W0 at *
      have g1:=b_ TF;have g2:=b_ Ih;have g3:=b_ q0;have g4:=b_ q1;refine ah (cK []) (gL [(32,(·=.int .i64 sg))]) 58 33 (by kernel_rfl) (by rfl) (by kernel_rfl) (dz (by simp)) ?_
      iterate 10 (refine fQ (by rfl) (λ_ _ _ _=>trivial) (λK hK=>?_);go_simp;refine hK _ ?_;clear hK K)
      refine ai (·=.int .i64 sg) 214 #[.agg #[.int .i64 x3,.slice a3 m3 c3]] (by rfl) (by rfl) ⟨_,rfl⟩ (λw=>by go_simp) (λw1 hg _=>(uh Ii w1 hg).mono (by rintro e w' ⟨rfl,hb⟩;exact ⟨_,rfl,hb,rfl,λ_ _=>trivial⟩)) ?_;rintro _ rfl
      repeat (refine fQ (by rfl) (λ_ _ _ _=>trivial) (λK hK=>?_);go_simp;refine hK _ ?_;clear hK K)
      refine aF ?_;intro w5 hg5 _;have jB:Hid (Below w.heap.size w w5):=(uh jQ).trans (aaw hg5 (uh jQ).size);clear hg5;go_wp2;go_roundg (gk - 1)
      case measure=>omega
      case rel=>exact ⟨j+1,j,by simp,rfl,by omega,uh HF,uh jB⟩
     ·subst hk2;obtain ⟨gc2,oc2,e2,kk⟩:=hci k (by omega);have U1:=(hW.cell (aax kk)).trans kk;cases e2;obtain ⟨ck,hck⟩:∃ ck,t.aS.getD k 0=ck:=⟨_,rfl⟩;have Z5:Hid (t.fu k=ck):=hck;rw [hck] at U1;clear hck kk;have hkn:¬ ((k:Int)<0):=by omega
      have hkc:k<t.aS.length:=by omega
      by_cases hless:cj<ck
      ·have d2:decide (cj<ck)=true:=aaI hless;have hle2:∀ k':Nat,(k:Int)=k'->t.fu j<t.fu k':=λk' hk'=>by
        rw [show k'=k by omega,uh QY,uh Z5];exact hless
       have HF:=af ((uh HR).1.take ⟨by rw [uh QY];exact h0,hv⟩ hle2);clear hle2;clear xM HV hv h0 hci hk3 hk4 hless hW;go_wp2_with fail;generalize hW0:w3.alloc (.cells #[.int .i64 x3,.slice a3 m3 c3] 168)=W0 at *
       have g1:=b_ TF;have g2:=b_ Ih;have g3:=b_ q0;have g4:=b_ q1;have g5:=b_ U1;refine ah (cK []) (gL [(32,(·=.int .i64 sg))]) 58 33 (by kernel_rfl) (by rfl) (by kernel_rfl) (dz (by simp)) ?_
       iterate 10 (refine fQ (by rfl) (λ_ _ _ _=>trivial) (λK hK=>?_);go_simp;refine hK _ ?_;clear hK K)
       refine ai (·=.int .i64 sg) 214 #[.agg #[.int .i64 x3,.slice a3 m3 c3]] (by rfl) (by rfl) ⟨_,rfl⟩ (λw=>by go_simp) (λw1 hg _=>(uh Ii w1 hg).mono (by rintro e w' ⟨rfl,hb⟩;exact ⟨_,rfl,hb,rfl,λ_ _=>trivial⟩)) ?_;rintro _ rfl
       repeat (refine fQ (by rfl) (λ_ _ _ _=>trivial) (λK hK=>?_);go_simp;refine hK _ ?_;clear hK K)
       refine aF ?_;intro w5 hg5 _;have jB:Hid (Below w.heap.size w w5):=(uh jQ).trans (aaw hg5 (uh jQ).size);clear hg5;go_wp2;go_roundg (gk - 1)
       case measure=>omega
       case rel=>exact ⟨j+1,j,by simp,rfl,by omega,uh HF,uh jB⟩
      ·have d2:decide (cj<ck)=false:=aaf hless;have HF:=af ((uh HR).1.stay (by rw [uh QY,uh Z5];omega));clear xM HV hv h0 hci hk3 hk4 hless hW;go_wp2_with fail;generalize hW0:w3.alloc (.cells #[.int .i64 x3,.slice a3 m3 c3] 168)=W0 at *
       have g1:=b_ TF;have g2:=b_ Ih;have g3:=b_ q0;have g4:=b_ q1;have g5:=b_ U1;refine ah (cK []) (gL [(32,(·=.int .i64 sg))]) 58 33 (by kernel_rfl) (by rfl) (by kernel_rfl) (dz (by simp)) ?_
       iterate 10 (refine fQ (by rfl) (λ_ _ _ _=>trivial) (λK hK=>?_);go_simp;refine hK _ ?_;clear hK K)
       refine ai (·=.int .i64 sg) 214 #[.agg #[.int .i64 x3,.slice a3 m3 c3]] (by rfl) (by rfl) ⟨_,rfl⟩ (λw=>by go_simp) (λw1 hg _=>(uh Ii w1 hg).mono (by rintro e w' ⟨rfl,hb⟩;exact ⟨_,rfl,hb,rfl,λ_ _=>trivial⟩)) ?_;rintro _ rfl
       repeat (refine fQ (by rfl) (λ_ _ _ _=>trivial) (λK hK=>?_);go_simp;refine hK _ ?_;clear hK K)
       refine aF ?_;intro w5 hg5 _;have jB:Hid (Below w.heap.size w w5):=(uh jQ).trans (aaw hg5 (uh jQ).size);clear hg5;go_wp2;go_roundg (gk - 1)
       case measure=>omega
       case rel=>exact ⟨j+1,k,by simp,rfl,by omega,uh HF,uh jB⟩
    ·have HF:=af ((uh HR).1.skip (λhu=>hv hu.2));have d1:decide (0<sg)=false:=by
      rw [<-xM];rcases (show t.cell r (j+1)<0∨t.cell r (j+1)=0 by omega) with h|h
      ·rw [E_ h];decide
      ·rw [h];decide
     clear xM HV hv h0 hci;go_wp2_with fail;generalize hW0:w3.alloc (.cells #[.int .i64 x3,.slice a3 m3 c3] 168)=W0 at *
     have g1:=b_ TF;have g2:=b_ Ih;have g3:=b_ q0;have g4:=b_ q1;refine ah (cK []) (gL [(32,(·=.int .i64 sg))]) 58 33 (by kernel_rfl) (by rfl) (by kernel_rfl) (dz (by simp)) ?_
     iterate 10 (refine fQ (by rfl) (λ_ _ _ _=>trivial) (λK hK=>?_);go_simp;refine hK _ ?_;clear hK K)
     refine ai (·=.int .i64 sg) 214 #[.agg #[.int .i64 x3,.slice a3 m3 c3]] (by rfl) (by rfl) ⟨_,rfl⟩ (λw=>by go_simp) (λw1 hg _=>(uh Ii w1 hg).mono (by rintro e w' ⟨rfl,hb⟩;exact ⟨_,rfl,hb,rfl,λ_ _=>trivial⟩)) ?_;rintro _ rfl
     repeat (refine fQ (by rfl) (λ_ _ _ _=>trivial) (λK hK=>?_);go_simp;refine hK _ ?_;clear hK K)
     refine aF ?_;intro w5 hg5 _;have jB:Hid (Below w.heap.size w w5):=(uh jQ).trans (aaw hg5 (uh jQ).size);clear hg5;go_wp2;go_roundg (gk - 1)
     case measure=>omega
     case rel=>exact ⟨j+1,c,by simp,rfl,by omega,uh HF,uh jB⟩
   ·have d0:decide (0<=cj)=false:=aaf h0;have HF:=af ((uh HR).1.skip (λhu=>h0 (by rw [<-uh QY];exact hu.1)));clear HV HR h0;go_wp2_with fail;go_quiet (fail);go_wp2;go_roundg (gk - 1)
    case measure=>omega
    case rel=>exact ⟨j+1,c,by simp,rfl,by omega,uh HF,abF (uh jQ) _⟩
  ·have hjn:j=t.aS.length:=by omega
   have HR2:Hid (lI t r t.aS.length c∧Below w.heap.size w wr):=by rw [<-hjn];exact uh HR
   clear hci HR;go_wp2;go_ret;exact ⟨_,rfl,(uh HR2).1,(uh HR2).2⟩
end
def mI (U:Nat->Prop) (key:Nat->Int) (j:Nat) (c:Int):Prop:=(c=-1∧∀ k,k<j->¬ U k)∨∃ k:Nat,k<j∧c=k∧U k∧∀ k',k'<j->U k'->key k<=key k'
theorem mI.skip {U:Nat->Prop} {key:Nat->Int} {j:Nat} {c:Int} (h:mI U key j c) (hn:¬ U j):mI U key (j+1) c:=by
 rcases h with ⟨h1,h2⟩|⟨k,h1,h2,h3,h4⟩
 ·exact .inl ⟨h1,λk hk=>by rcases (show k<j∨k=j by omega) with h | h;exact h2 k h;rw [h];exact hn⟩
 ·exact .inr ⟨k,by omega,h2,h3,λk' hk' hu=>by rcases (show k'<j∨k'=j by omega) with h | h;exact h4 k' h hu;rw [h] at hu;exact absurd hu hn⟩
theorem mI.stay {U:Nat->Prop} {key:Nat->Int} {j k:Nat} (h:mI U key j k) (hle:key k<=key j):mI U key (j+1) k:=by
 rcases h with ⟨h1,_⟩|⟨k2,h1,h2,h3,h4⟩
 ·omega
 ·have e:k2=k:=by omega
  subst e;exact .inr ⟨k2,by omega,h2,h3,λk' hk' hu=>by rcases (show k'<j∨k'=j by omega) with h | h;exact h4 k' h hu;rw [h];exact hle⟩
theorem mI.take {U:Nat->Prop} {key:Nat->Int} {j:Nat} {c:Int} (h:mI U key j c) (hu:U j) (hlt:∀ k:Nat,c=k->key j<key k):mI U key (j+1) j:=by
 refine .inr ⟨j,by omega,rfl,hu,λk' hk' hu'=>?_⟩;rcases (show k'<j∨k'=j by omega) with hk|hk
 ·rcases h with ⟨_,h2⟩ | ⟨k,h1,h2,h3,h4⟩
  ·exact absurd hu' (h2 k' hk)
  ·have:=h4 k' hk hu';have:=hlt k h2;omega
 ·rw [hk];exact abk _
structure mJ (t:Pl.aR):Prop where
 lines:t.lines.length<=1000
 aS:t.aS.length<=100
 cells:∀ l∈t.lines,l.2.length=t.aS.length+1
theorem mJ.row {t:Pl.aR} (h:mJ t) {r:Nat} (hr:r<t.lines.length):(t.lines.getD r (0,[])).2.length=t.aS.length+1:=by
 rw [a_,f_ hr];exact h.cells _ (aan hr)
theorem mJ.le {t:Pl.aR} (h:mJ t):∀ l∈t.lines,l.2.length<=1000:=λl hl=>by rw [h.cells l hl];have:=h.aS;omega
theorem oD (t:Pl.aR) {i:Nat} (hi:i<t.lines.length):t.lines[i].1=t.name i:=by
 unfold Pl.aR.name;rw [a_,f_ hi];rfl
attribute [local go_sem] bE
set_option maxHeartbeats 2000000 in
theorem qQ (P:Nat->Prop) (b:Nat) (t:Pl.aR) (w:World) (h:r9 P w b t) (hfit:mJ t) :
  Calls Tryz.prog 267 #[.pointer (some ⟨b,0,none⟩)] w λe w'=>∃ c:Int,e=.returned (.int .i64 c)∧mI (λr=>0<=t.name r∧t.cell r 0<0) t.name t.lines.length c∧Below w.heap.size w w':=by
 have HT:=af h;have uM:=af hfit;have hn1:=hfit.lines;clear h hfit;go_enter Tryz.func267,Tryz.ntmps267;go_wp2_with fail;go_loopg [3,4] t.lines.length (λk bv jv wr=>∃ (j:Nat) (c:Int),jv=.int .i64 j∧bv=.int .i64 c∧j+k=t.lines.length∧Hid (mI (λr=>0<=t.name r∧t.cell r 0<0) t.name j c∧Below w.heap.size w wr))
 case atStart=>exact ⟨0,-1,rfl,rfl,by omega,.inl ⟨rfl,λk hk=>by omega⟩,n_ _ _⟩
 case round =>
  obtain ⟨j,c,rfl,rfl,hjk,HR⟩:=hrel;obtain ⟨vc,kc,adc,TE,rfl,hci⟩:=((uh HT).below (uh HR).2).lines;by_cases hlt:j<t.lines.length
  ·obtain ⟨gc,oc,uj,rfl,kj,_⟩:=hci j hlt;have HC:=af (jR P b t wr ((uh HT).below (uh HR).2) hn1 (uh uM).le hlt (j:=0) (by rw [(uh uM).row hlt];omega));go_wp2_with fail;refine (uh HC).mono ?_;rintro e w3 ⟨v3,rfl,hv3,hw3⟩;obtain ⟨x3,a3,m3,c3,rfl,_⟩:=hv3.head;have hal:Below w3.heap.size w3 (w3.alloc (.cells #[.int .i64 x3,.slice a3 m3 c3] 168)):=(n_ _ _).alloc (d_ _) _;have hW:Below wr.heap.size wr (w3.alloc (.cells #[.int .i64 x3,.slice a3 m3 c3] 168)):=hw3.trans (hal.mono hw3.size);have TF:=(hW.cell (aax kc)).trans kc;have Ih:=(hW.cell (aax kj)).trans kj;have HV:=af (hv3.below hal);have jQ:Hid (Below w.heap.size w (w3.alloc (.cells #[.int .i64 x3,.slice a3 m3 c3] 168))):=(uh HR).2.trans (hW.mono (uh HR).2.size);clear hv3 hw3 hal kc kj HC;rw [oD t hlt] at Ih;obtain ⟨cj,hcj⟩:∃ cj,t.name j=cj:=⟨_,rfl⟩;have QY:Hid (t.name j=cj):=hcj;rw [hcj] at Ih;clear hcj;obtain ⟨q0,q1,_⟩:=au (aG w3 (.cells #[.int .i64 x3,.slice a3 m3 c3] 168));by_cases h0:0<=cj
   ·have d0:decide (0<=cj)=true:=aaI h0;have Ii:=af (λw1 (h:Below (w3.alloc (.cells #[.int .i64 x3,.slice a3 m3 c3] 168)).heap.size (w3.alloc (.cells #[.int .i64 x3,.slice a3 m3 c3] 168)) w1)=>bZ P _ (t.cell j 0) w1 ((uh HV).below h));obtain ⟨sg,xM⟩:∃ sg,Int.sign (t.cell j 0)=sg:=⟨_,rfl⟩;rw [xM] at Ii;by_cases hv:t.cell j 0<0
    ·have d1:decide (sg<0)=true:=by rw [<-xM,E_ hv];decide
     rcases (uh HR).1 with ⟨hc1,hno⟩|⟨k,hk1,hk2,hk3,hk4⟩
     ·have HF:=af ((uh HR).1.take ⟨by rw [uh QY];exact h0,hv⟩ (λk hk=>by omega));subst hc1;clear xM HV hv h0 hci hno;go_wp2_with fail;generalize hW0:w3.alloc (.cells #[.int .i64 x3,.slice a3 m3 c3] 168)=W0 at *
      have g1:=b_ TF;have g2:=b_ Ih;have g3:=b_ q0;have g4:=b_ q1;refine ah (cK []) (gL [(29,(·=.int .i64 sg))]) 57 36 (by kernel_rfl) (by rfl) (by kernel_rfl) (dz (by simp)) ?_
      iterate 11 (refine fQ (by rfl) (λ_ _ _ _=>trivial) (λK hK=>?_);go_simp;refine hK _ ?_;clear hK K)
      refine ai (·=.int .i64 sg) 214 #[.agg #[.int .i64 x3,.slice a3 m3 c3]] (by rfl) (by rfl) ⟨_,rfl⟩ (λw=>by go_simp) (λw1 hg _=>(uh Ii w1 hg).mono (by rintro e w' ⟨rfl,hb⟩;exact ⟨_,rfl,hb,rfl,λ_ _=>trivial⟩)) ?_;rintro _ rfl
      repeat (refine fQ (by rfl) (λ_ _ _ _=>trivial) (λK hK=>?_);go_simp;refine hK _ ?_;clear hK K)
      refine aF ?_;intro w5 hg5 _;have jB:Hid (Below w.heap.size w w5):=(uh jQ).trans (aaw hg5 (uh jQ).size);clear hg5;go_wp2;go_roundg (gk - 1)
      case measure=>omega
      case rel=>exact ⟨j+1,j,by simp,rfl,by omega,uh HF,uh jB⟩
     ·subst hk2;have hkc:k<t.lines.length:=by omega
      obtain ⟨gc2,oc2,uk,e2,kk,_⟩:=hci k hkc;have U1:=(hW.cell (aax kk)).trans kk;cases e2;rw [oD t hkc] at U1;obtain ⟨ck,hck⟩:∃ ck,t.name k=ck:=⟨_,rfl⟩;have Z5:Hid (t.name k=ck):=hck;rw [hck] at U1;clear hck kk;have hkn:¬ ((k:Int)<0):=by omega
      by_cases hless:cj<ck
      ·have d2:decide (cj<ck)=true:=aaI hless;have hle2:∀ k':Nat,(k:Int)=k'->t.name j<t.name k':=λk' hk'=>by
        rw [show k'=k by omega,uh QY,uh Z5];exact hless
       have HF:=af ((uh HR).1.take ⟨by rw [uh QY];exact h0,hv⟩ hle2);clear hle2;clear xM HV hv h0 hci hk3 hk4 hless hW;go_wp2_with fail;generalize hW0:w3.alloc (.cells #[.int .i64 x3,.slice a3 m3 c3] 168)=W0 at *
       have g1:=b_ TF;have g2:=b_ Ih;have g3:=b_ q0;have g4:=b_ q1;have g5:=b_ U1;refine ah (cK []) (gL [(29,(·=.int .i64 sg))]) 57 36 (by kernel_rfl) (by rfl) (by kernel_rfl) (dz (by simp)) ?_
       iterate 11 (refine fQ (by rfl) (λ_ _ _ _=>trivial) (λK hK=>?_);go_simp;refine hK _ ?_;clear hK K)
       refine ai (·=.int .i64 sg) 214 #[.agg #[.int .i64 x3,.slice a3 m3 c3]] (by rfl) (by rfl) ⟨_,rfl⟩ (λw=>by go_simp) (λw1 hg _=>(uh Ii w1 hg).mono (by rintro e w' ⟨rfl,hb⟩;exact ⟨_,rfl,hb,rfl,λ_ _=>trivial⟩)) ?_;rintro _ rfl
       repeat (refine fQ (by rfl) (λ_ _ _ _=>trivial) (λK hK=>?_);go_simp;refine hK _ ?_;clear hK K)
       refine aF ?_;intro w5 hg5 _;have jB:Hid (Below w.heap.size w w5):=(uh jQ).trans (aaw hg5 (uh jQ).size);clear hg5;go_wp2;go_roundg (gk - 1)
       case measure=>omega
       case rel=>exact ⟨j+1,j,by simp,rfl,by omega,uh HF,uh jB⟩
      ·have d2:decide (cj<ck)=false:=aaf hless;have HF:=af ((uh HR).1.stay (by rw [uh QY,uh Z5];omega));clear xM HV hv h0 hci hk3 hk4 hless hW;go_wp2_with fail;generalize hW0:w3.alloc (.cells #[.int .i64 x3,.slice a3 m3 c3] 168)=W0 at *
       have g1:=b_ TF;have g2:=b_ Ih;have g3:=b_ q0;have g4:=b_ q1;have g5:=b_ U1;refine ah (cK []) (gL [(29,(·=.int .i64 sg))]) 57 36 (by kernel_rfl) (by rfl) (by kernel_rfl) (dz (by simp)) ?_
       iterate 11 (refine fQ (by rfl) (λ_ _ _ _=>trivial) (λK hK=>?_);go_simp;refine hK _ ?_;clear hK K)
       refine ai (·=.int .i64 sg) 214 #[.agg #[.int .i64 x3,.slice a3 m3 c3]] (by rfl) (by rfl) ⟨_,rfl⟩ (λw=>by go_simp) (λw1 hg _=>(uh Ii w1 hg).mono (by rintro e w' ⟨rfl,hb⟩;exact ⟨_,rfl,hb,rfl,λ_ _=>trivial⟩)) ?_;rintro _ rfl
       repeat (refine fQ (by rfl) (λ_ _ _ _=>trivial) (λK hK=>?_);go_simp;refine hK _ ?_;clear hK K)
       refine aF ?_;intro w5 hg5 _;have jB:Hid (Below w.heap.size w w5):=(uh jQ).trans (aaw hg5 (uh jQ).size);clear hg5;go_wp2;go_roundg (gk - 1)
       case measure=>omega
       case rel=>exact ⟨j+1,k,by simp,rfl,by omega,uh HF,uh jB⟩
    ·have HF:=af ((uh HR).1.skip (λhu=>hv hu.2));have d1:decide (sg<0)=false:=by
      rw [<-xM];rcases (show 0<t.cell j 0∨t.cell j 0=0 by omega) with h|h
      ·rw [J_ h];decide
      ·rw [h];decide
     clear xM HV hv h0 hci;go_wp2_with fail;generalize hW0:w3.alloc (.cells #[.int .i64 x3,.slice a3 m3 c3] 168)=W0 at *
     have g1:=b_ TF;have g2:=b_ Ih;have g3:=b_ q0;have g4:=b_ q1;refine ah (cK []) (gL [(29,(·=.int .i64 sg))]) 57 36 (by kernel_rfl) (by rfl) (by kernel_rfl) (dz (by simp)) ?_
     iterate 11 (refine fQ (by rfl) (λ_ _ _ _=>trivial) (λK hK=>?_);go_simp;refine hK _ ?_;clear hK K)
     refine ai (·=.int .i64 sg) 214 #[.agg #[.int .i64 x3,.slice a3 m3 c3]] (by rfl) (by rfl) ⟨_,rfl⟩ (λw=>by go_simp) (λw1 hg _=>(uh Ii w1 hg).mono (by rintro e w' ⟨rfl,hb⟩;exact ⟨_,rfl,hb,rfl,λ_ _=>trivial⟩)) ?_;rintro _ rfl
     repeat (refine fQ (by rfl) (λ_ _ _ _=>trivial) (λK hK=>?_);go_simp;refine hK _ ?_;clear hK K)
     refine aF ?_;intro w5 hg5 _;have jB:Hid (Below w.heap.size w w5):=(uh jQ).trans (aaw hg5 (uh jQ).size);clear hg5;go_wp2;go_roundg (gk - 1)
     case measure=>omega
     case rel=>exact ⟨j+1,c,by simp,rfl,by omega,uh HF,uh jB⟩
   ·have d0:decide (0<=cj)=false:=aaf h0;have HF:=af ((uh HR).1.skip (λhu=>h0 (by rw [<-uh QY];exact hu.1)));clear HV HR h0;go_wp2_with fail;go_quiet (fail);go_wp2;go_roundg (gk - 1)
    case measure=>omega
    case rel=>exact ⟨j+1,c,by simp,rfl,by omega,uh HF,abF (uh jQ) _⟩
  ·have hjn:j=t.lines.length:=by omega
   have HR2:Hid (mI (λr=>0<=t.name r∧t.cell r 0<0) t.name t.lines.length c∧Below w.heap.size w wr):=by rw [<-hjn];exact uh HR
   clear hci HR;go_wp2;go_ret;exact ⟨_,rfl,(uh HR2).1,(uh HR2).2⟩
end
structure bC (P:Nat->Prop) (w:World) (g:Nat) (x:Int) (a:Option Addr) (m c:Nat) (n:Int):Prop where
 heap:w.heap[g]?=some (.cells #[.int .i64 x,.slice a m c] 168 (0,0))
 val:aj P w (.agg #[.int .i64 x,.slice a m c]) n
theorem bC.cells {P:Nat->Prop} {w:World} {g:Nat} {x:Int} {a:Option Addr} {m c:Nat} {n:Int} (h:bC P w g x a m c n):w.cell? ⟨g,0,none⟩=some (.int .i64 x)∧w.cell? ⟨g,1,none⟩=some (.slice a m c)∧w.frozen? ⟨g,0,none⟩=false∧w.frozen? ⟨g,1,none⟩=false:=au h.heap
theorem bC.grow {P:Nat->Prop} {w w':World} {g:Nat} {x:Int} {a:Option Addr} {m c:Nat} {n:Int} (h:bC P w g x a m c n) (hg:ae w w'):bC P w' g x a m c n:=⟨Below.same hg _ _ h.heap,h.val.below hg⟩
theorem bC.lt {P:Nat->Prop} {w:World} {g:Nat} {x:Int} {a:Option Addr} {m c:Nat} {n:Int} (h:bC P w g x a m c n):g<w.heap.size:=z_ h.heap
theorem ae.alloc (w:World) (o:Obj):ae w (w.alloc o):=(n_ _ _).alloc (d_ _) o
theorem ae.size {w w':World} (h:ae w w'):w.heap.size<=w'.heap.size:=acy h
theorem ae.cell {w w':World} (h:ae w w') {a:Addr} {v:Value} (hc:w.cell? a=some v):w'.cell? a=some v:=(Below.cell h (aax hc)).trans hc
theorem dD {P:Nat->Prop} {w:World} {x:Int} {a:Option Addr} {m c:Nat} {n:Int} (h:aj P w (.agg #[.int .i64 x,.slice a m c]) n):bC P (w.alloc (.cells #[.int .i64 x,.slice a m c] 168)) w.heap.size x a m c n:=⟨aG _ _,h.below (ae.alloc _ _)⟩
def bn (W:World) (v:Value) (w:World):Prop:=∃ g,v=.pointer (some ⟨g,0,none⟩)∧vZ W g w
theorem bn.grow {W:World} {v:Value} {w w':World} (h:bn W v w) (hg:ae w w'):bn W v w':=by
 obtain ⟨g,rfl,h1,h2⟩:=h;exact ⟨g,rfl,h1,Below.same hg _ _ h2⟩
theorem bn.new {W w:World} (h:ae W w):bn W (.pointer (some ⟨w.heap.size,0,none⟩)) (w.alloc (.cells #[.int .i64 0,.slice none 0 0] 168)):=⟨_,rfl,h.size,aG _ _⟩
theorem bn.own {W:World} {g:Nat} {w:World} (h:bn W (.pointer (some ⟨g,0,none⟩)) w):vZ W g w:=by
 obtain ⟨g',e,h1⟩:=h;cases e;exact h1
def ag (v:Value):Prop:=∃ x a m c,v=.agg #[.int .i64 x,.slice a m c]
def bM (v:Value):Prop:=∃ g,v=.pointer (some ⟨g,0,none⟩)
def bf (v:Value):Prop:=∃ ad n c,v=.slice ad n c
theorem ag.some:∃ v,ag v:=⟨_,0,none,0,0,rfl⟩
theorem bM.some:∃ v,bM v:=⟨_,0,rfl⟩
theorem bf.some:∃ v,bf v:=⟨_,none,0,0,rfl⟩
theorem aj.aU {P:Nat->Prop} {w:World} {v:Value} {n:Int} (h:aj P w v n):ag v:=by
 obtain ⟨x,ad,m,cap,e,_⟩:=h.head;exact ⟨x,ad,m,cap,e⟩
theorem aD.aB {P:Nat->Prop} {w:World} {v:Value} {l:List Int} (h:aD P w v l):bf v:=by
 obtain ⟨ad,cap,e,_⟩:=h;exact ⟨ad,_,cap,e⟩
theorem bI {P:Nat->Prop} {W w:World} (hg:ae W w) {g:Nat} (hge:W.heap.size<=g) {u v:Value} (hb:w.heap[g]?=some (.cells #[u,v] 168 (0,0))) {x:Int} {a:Option Addr} {m c:Nat} {n:Int} (h:aj P w (.agg #[.int .i64 x,.slice a m c]) n) :
  bC P ((w.setCell ⟨g,0,none⟩ (.int .i64 x)).setCell ⟨g,1,none⟩ (.slice a m c)) g x a m c n∧ae W ((w.setCell ⟨g,0,none⟩ (.int .i64 x)).setCell ⟨g,1,none⟩ (.slice a m c)) :=
 ⟨⟨jW hb _ _,h.kG hb _ _⟩,(B_ (p:=⟨g,0,none⟩) hg hge _).setCell (p:=⟨g,1,none⟩) hge _⟩
theorem aA.only {e T:TypeId} {b:Nat} {w w':World} {cs:Array Value} {fz:Nat × Nat} (h:iw b w w') (hb:w.heap[b]?=some (.cells cs T fz)) (hne:T≠e):aA e w w':=λk cur hk=>h.block k (z_ hk) (λe'=>by subst e';rw [hb] at hk;cases hk;exact hne rfl)
theorem bC.only {P:Nat->Prop} {w w':World} {g:Nat} {x:Int} {a:Option Addr} {m c:Nat} {n:Int} (h:bC P w g x a m c n) {b:Nat} {cs:Array Value} {T:TypeId} {fz:Nat × Nat} (ho:iw b w w') (hb:w.heap[b]?=some (.cells cs T fz)) (hT:T≠3) (hne:g≠b):bC P w' g x a m c n :=
 ⟨(ho.block g h.lt hne).trans h.heap,h.val.bX (aA.only ho hb hT)⟩
theorem iw.grow {b:Nat} {w w1 w2:World} (h:iw b w w1) (hg:ae w1 w2):iw b w w2:=h.trans (.aX hg)
theorem aj.shape {P:Nat->Prop} {w:World} {v:Value} {n:Int} (h:aj P w v n):∃ x ad m cap,v=.agg #[.int .i64 x,.slice ad m cap]:=by
 obtain ⟨x,ad,m,cap,e,_⟩:=h.head;exact ⟨x,ad,m,cap,e⟩
namespace Pl
def Lt (K:Nat) (a:Int):Prop:=(a.natAbs:Int)<1073741824^K
theorem eB {K:Nat} {a:Int}:Lt K a↔a.natAbs<1073741824^K:=by
 unfold Lt;rw [show (1073741824:Int)^K=((1073741824^K:Nat):Int) by simp];omega
theorem Lt.mono {K K':Nat} {a:Int} (h:Lt K a) (hK:K<=K'):Lt K' a:=by
 rw [eB] at *
 exact abA h (Nat.pow_le_pow_right (by omega) hK)
theorem Lt.mul {K L:Nat} {a b:Int} (ha:Lt K a) (hb:Lt L b):Lt (K+L) (a*b):=by
 rw [eB] at *
 rw [Int.natAbs_mul,Nat.pow_add];exact Nat.mul_lt_mul'' ha hb
theorem Lt.neg {K:Nat} {a:Int} (h:Lt K a):Lt K (-a):=by unfold Lt at *;rw [Int.natAbs_neg];exact h
theorem Lt.add {K:Nat} {a b:Int} (ha:Lt K a) (hb:Lt K b):Lt (K+1) (a+b):=by
 unfold Lt at *
 rw [aaJ];omega
theorem Lt.sub {K:Nat} {a b:Int} (ha:Lt K a) (hb:Lt K b):Lt (K+1) (a - b):=by
 unfold Lt at *
 rw [aaJ];omega
theorem Lt.fdiv {K:Nat} {a b:Int} (ha:Lt K a) (hb:0<b):Lt K (Int.fdiv a b):=by
 unfold Lt at *
 rw [T_ _ (by omega)];have h1:=Int.natAbs_ediv_le_natAbs a b;omega
end Pl
end Go.Proofs.YtfaljekgpnbmiaaGreat
