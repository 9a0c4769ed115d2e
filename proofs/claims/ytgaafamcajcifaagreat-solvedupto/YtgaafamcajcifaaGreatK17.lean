/- Joined: XMem3 XMem4 XMem5 XMem6 XVar. -/
import Derived.Test.YtgaafamcajcifaaGreatK05
import Derived.Test.YtgaafamcajcifaaGreatK16
set_option linter.unusedVariables false
set_option linter.unusedSimpArgs false
set_option maxRecDepth 100000
namespace Go.Proofs.YtgaafamcajcifaaGreat
open Go.RowKit
theorem Tryz.dP:(Tryz.prog.info? 78).map (λi=>(i.zero,i.size,i.bytes))=some (some (.agg #[.int .i64 0,.slice none 0 0]),2,32):=by kernel_rfl
theorem rZ {w:World} {B:Nat} {e:TypeId} {g n:Nat} {xs:List Value} (h:w.ownsRow B e 2 (.slice (some ⟨g,0,none⟩) n n) n xs):∃ cs:Array Value,w.heap[g]?=some (.cells cs e (0,0))∧cs.size=2*n:=by
 rcases h.2 with ⟨h1,_⟩|⟨g',cap,cur,he,hb,hgg,hle,hm,hcs,htk⟩
 ·simp at h1
 ·simp only [Value.slice.injEq,Option.some.injEq,Addr.mk.injEq,and_true,true_and] at he;obtain ⟨rfl,rfl⟩:=he;exact ⟨cur,hgg,by omega⟩
theorem og.kE {P:Nat->Prop} {w:World} {g n:Nat} {l:List Int} (h:og P w g n l) {k:Nat} (hk:g≠k) {u v:Value} (hb:w.heap[k]?=some (.cells #[u,v] 78 (0,0))) (p q:Value):og P ((w.setCell ⟨k,0,none⟩ p).setCell ⟨k,1,none⟩ q) g n l:=by
 obtain ⟨cs,h1,h2,h3,h4⟩:=h;refine ⟨cs,(jN hk p q).trans h1,h2,h3,λi hi=>?_⟩;obtain ⟨x,a,m,c,d1,d2,d3⟩:=h4 i hi;exact ⟨x,a,m,c,d1,d2,d3.kE hb _ _⟩
theorem og.open {P:Nat->Prop} {w:World} {g n:Nat} {l:List Int} (h:og P w g n l) (hl:l.length<n):∃ u v,w.cell? ⟨g,l.length*2,none⟩=some u∧w.cell? ⟨g,l.length*2+1,none⟩=some v∧w.frozen? ⟨g,l.length*2,none⟩=false∧w.frozen? ⟨g,l.length*2+1,none⟩=false:=by
 obtain ⟨cs,h1,h2,_,_⟩:=h;exact ⟨cs[l.length*2],cs[l.length*2+1],by rw [cellsOf h1];exact Array.getElem?_eq_getElem (by omega),by rw [cellsOf h1];exact Array.getElem?_eq_getElem (by omega),aH h1 _,aH h1 _⟩
theorem CP (t:Pl.aR) (r c:Nat) (sg:Int):(t.bK r c sg).length=t.aS.length+1:=by simp [Pl.aR.bK]
theorem AJ (t:Pl.aR) (r c:Nat) (sg:Int) {j:Nat} (hj:j<t.aS.length+1):(t.bK r c sg).take (j+1)=(t.bK r c sg).take j++[sg*(if j=c then t.scale else -t.cell r j)]:=by
 rw [List.take_add_one,f_ (by rw [CP];exact hj)];simp [Pl.aR.bK]
set_option maxHeartbeats 1000000 in
theorem J8 (P:Nat->Prop) (b:Nat) (t:Pl.aR) (w:World) (hP:∀ b,w.heap.size<=b->P b) (h:rY P w b t) (hlen:t.lines.length<=1000) (hcl:∀ l∈t.lines,l.2.length<=1000) (Zj:t.aS.length<=100) {r c:Nat} (hr:r<t.lines.length) (hrow:(t.lines.getD r (0,[])).2.length=t.aS.length+1) {sg:Int} (hs:sg=1∨sg=-1) :
  Calls Tryz.prog 89 #[.pointer (some ⟨b,0,none⟩),.int .i64 r,.int .i64 c,.int .i64 sg] w λe w'=>∃ v',e=.returned v'∧aD P w' v' (t.bK r c sg)∧Below w.heap.size w w':=by
 obtain ⟨i0,hi,hz0,hz1,hz2⟩:=U_ Tryz.dP;obtain ⟨vc,kc,adc,SC,rfl,hci⟩:=h.aS;clear hci;go_enter Tryz.func89,Tryz.ntmps89;go_wp2_with (at_make;refine wpList_make_full _ rfl _ _ 69 rfl w.heap.size 78 i0 (.agg #[.int .i64 0,.slice none 0 0]) 2 Tryz.underlying69 hi hz0 hz1 .i64 .i64 _ _ (t.aS.length+1) rfl rfl ?e1 ?e2 ?c1 ?c2 ?c3 ?_)
 case e1=>first | rfl | omega | simp
 case e2=>first | rfl | omega | simp
 case c1=>rw [hz2];omega
 case c2=>unfold maxLen;omega
 case c3=>omega
 ·intro w1 hown hgrow;have hb1:Below w.heap.size w w1:=(n_ _ _).grown hgrow (d_ _) (by intro k hk;cases hk);obtain ⟨cs,hblk,hcs⟩:=rZ hown;have H1:Hid (og P w1 w.heap.size (t.aS.length+1) []∧Below w.heap.size w w1):=⟨⟨cs,hblk,hcs,by simp,λi hi=>by simp at hi⟩,hb1⟩;clear hown hgrow hblk hb1 kc hcs;have HT:=af h;clear h;go_wp2_with fail;generalize hG:w.heap.size=g at *
  generalize hN:t.aS.length+1=n at *
  go_loopg [10] n (λk jv wr=>∃ (l:List Int),jv=.int .i64 l.length∧l.length+k=n∧Hid (og P wr g n l∧Below g w wr∧l=(t.bK r c sg).take l.length))
  case atStart=>exact ⟨[],rfl,by simp,(uh H1).1,(uh H1).2,by simp⟩
  case round =>
   obtain ⟨l,rfl,hlk,HR⟩:=hrel;by_cases hlt:l.length<n
   ·have hb:Below w.heap.size w wr:=by rw [hG];exact (uh HR).2.1
    obtain ⟨sx,sa,sm,sc,k2,k3,hsc⟩:=((uh HT).below hb).scale;have Uk:=af hsc;clear hsc hb;by_cases hjc:l.length=c
    ·subst hjc;have DN:Below wr.heap.size wr (wr.alloc (.cells #[.int .i64 sx,.slice sa sm sc] 78)):=(n_ _ _).alloc (d_ _) _;have hbw:Below g w wr:=(uh HR).2.1;have hB1:Below g w (wr.alloc (.cells #[.int .i64 sx,.slice sa sm sc] 78)):=hbw.trans (DN.mono (by have:=hbw.size;omega));have hgl:g<wr.heap.size:=by obtain ⟨cs,h1,_⟩:=(uh HR).1;exact z_ h1
     have Sn:=af ((uh Uk).below DN);have Pg:=af ((uh HR).1.below DN);have wU:Hid (Below g w (wr.alloc (.cells #[.int .i64 sx,.slice sa sm sc] 78))):=hB1;clear DN hbw hB1;go_wp2_with fail;refine (tO P t.scale sg _ _ (uh Sn) hs).mono ?_;rintro e w8 ⟨v8,rfl,sQ,hw8⟩;obtain ⟨x8,a8,m8,c8,rfl,_⟩:=sQ.head;have J9:=(uh Pg).below hw8;obtain ⟨u1,u2,o0,o1,of0,of1⟩:=J9.open hlt;have HF:=af (J9.add hlt sQ);have Xq:Hid (Below g w ((w8.setCell ⟨g,l.length*2,none⟩ (.int .i64 x8)).setCell ⟨g,l.length*2+1,none⟩ (.slice a8 m8 c8))) :=
      (B_ (p:=⟨g,l.length*2,none⟩) ((uh wU).trans (hw8.mono (by have:=(uh wU).size;omega))) (d_ _) _).setCell (p:=⟨g,l.length*2+1,none⟩) (d_ _) _
     have HL:Hid (l++[sg*t.scale]=(t.bK r l.length sg).take (l++[sg*t.scale]).length):=by
      unfold Hid;have e1:(l++[sg*t.scale]).length=l.length+1:=by simp
      rw [e1,AJ t r l.length sg (by omega),h_ rfl,<-(uh HR).2.2]
     clear sQ hw8 J9 Pg Sn wU;go_wp2;go_roundg (gk - 1)
     case measure=>omega
     case rel=>exact ⟨l++[sg*t.scale],by simp,by simp;omega,uh HF,uh Xq,uh HL⟩
    ·have tne:((l.length:Int) != (c:Int))=true:=by simp;omega
     go_wp2_with fail;have DN:Below wr.heap.size wr (wr.alloc (.cells #[.int .i64 sx,.slice sa sm sc] 78)):=(n_ _ _).alloc (d_ _) _;have hbw:Below g w wr:=(uh HR).2.1;have hB1:Below g w (wr.alloc (.cells #[.int .i64 sx,.slice sa sm sc] 78)):=hbw.trans (DN.mono (by have:=hbw.size;omega));have hgl:g<wr.heap.size:=by obtain ⟨cs,h1,_⟩:=(uh HR).1;exact z_ h1
     refine (jP P b t _ ((uh HT).below (by rw [hG];exact hB1)) hlen hcl hr (j:=l.length) (by omega)).mono ?_;rintro e w4 ⟨v4,rfl,hv4,hw4⟩;obtain ⟨x4,a4,m4,c4,rfl,_⟩:=hv4.head;have Zk:Below w4.heap.size w4 (w4.alloc (.cells #[.int .i64 x4,.slice a4 m4 c4] 78)):=(n_ _ _).alloc (d_ _) _;have DR:=af (hv4.below Zk);have HS4:Hid (bu (wr.alloc (.cells #[.int .i64 sx,.slice sa sm sc] 78)) w4):=hw4;clear hv4 hw4 Zk;go_wp2_with fail;refine (lF P _ _ _ (uh DR)).mono ?_;rintro e w6 ⟨v6,rfl,hv6,uB⟩;obtain ⟨x6,a6,m6,c6,rfl,_⟩:=hv6.head;have KJ:Hid (bu (wr.alloc (.cells #[.int .i64 sx,.slice sa sm sc] 78)) w6):=bu.step (bu.alloc (uh HS4) _) uB;have hgc:=Below.same (uh KJ) _ _ (aG wr (.cells #[.int .i64 sx,.slice sa sm sc] 78));obtain ⟨q0,q1,qf0,qf1⟩:=au hgc;have Sn:=af (hv6.kE hgc (.int .i64 x6) (.slice a6 m6 c6));have Pg:=af ((((uh HR).1.below DN).below (uh KJ)).kE (by omega) hgc (.int .i64 x6) (.slice a6 m6 c6));have wU:Hid (Below g w ((w6.setCell ⟨wr.heap.size,0,none⟩ (.int .i64 x6)).setCell ⟨wr.heap.size,1,none⟩ (.slice a6 m6 c6))):=(B_ (p:=⟨wr.heap.size,0,none⟩) (hB1.trans (aam (uh KJ) (by have:=hB1.size;omega))) (abv hgl) _).setCell (p:=⟨wr.heap.size,1,none⟩) (abv hgl) _;clear hv6 uB hgc KJ HS4 DR DN hbw hB1;go_wp2_with fail;refine (tO P (-t.cell r l.length) sg _ _ (uh Sn) hs).mono ?_;rintro e w8 ⟨v8,rfl,sQ,hw8⟩;obtain ⟨x8,a8,m8,c8,rfl,_⟩:=sQ.head;have J9:=(uh Pg).below hw8;obtain ⟨u1,u2,o0,o1,of0,of1⟩:=J9.open hlt;have HF:=af (J9.add hlt sQ);have Xq:Hid (Below g w ((w8.setCell ⟨g,l.length*2,none⟩ (.int .i64 x8)).setCell ⟨g,l.length*2+1,none⟩ (.slice a8 m8 c8))) :=
      (B_ (p:=⟨g,l.length*2,none⟩) ((uh wU).trans (hw8.mono (by have:=(uh wU).size;omega))) (d_ _) _).setCell (p:=⟨g,l.length*2+1,none⟩) (d_ _) _
     have HL:Hid (l++[sg*(-t.cell r l.length)]=(t.bK r c sg).take (l++[sg*(-t.cell r l.length)]).length):=by
      unfold Hid;have e1:(l++[sg*(-t.cell r l.length)]).length=l.length+1:=by simp
      rw [e1,AJ t r c sg (by omega),g_ hjc,<-(uh HR).2.2]
     clear sQ hw8 J9 Pg Sn wU;go_wp2;go_roundg (gk - 1)
     case measure=>omega
     case rel=>exact ⟨l++[sg*(-t.cell r l.length)],by simp,by simp;omega,uh HF,uh Xq,uh HL⟩
   ·have hk0:gk=0:=by omega
    have hll:l.length=n:=by omega
    have HR2:Hid (aD P wr (.slice (some ⟨g,0,none⟩) n n) (t.bK r c sg)∧Below g w wr):=by
     obtain ⟨r1,r2,r3⟩:=uh HR;refine ⟨?_,r2⟩;have:=r1.row hll (hP g (by omega));rw [r3,aaE (by rw [CP];omega)] at this;exact this
    clear HR;go_wp2;go_ret;exact ⟨_,rfl,(uh HR2).1,by rw [hG];exact (uh HR2).2⟩
def H9 (t:Pl.aR) (r k:Nat):Prop:=0<=t.fe k∧0<t.cell r (k+1)
def lG (t:Pl.aR) (r j:Nat) (c:Int):Prop:=(c=-1∧∀ k,k<j->¬ H9 t r k)∨∃ k:Nat,k<j∧c=k∧H9 t r k∧∀ k',k'<j->H9 t r k'->t.fe k<=t.fe k'
theorem lG.skip {t:Pl.aR} {r j:Nat} {c:Int} (h:lG t r j c) (hn:¬ H9 t r j):lG t r (j+1) c:=by
 rcases h with ⟨h1,h2⟩|⟨k,h1,h2,h3,h4⟩
 ·exact .inl ⟨h1,λk hk=>by rcases (show k<j∨k=j by omega) with h | h;exact h2 k h;rw [h];exact hn⟩
 ·exact .inr ⟨k,by omega,h2,h3,λk' hk' hu=>by rcases (show k'<j∨k'=j by omega) with h | h;exact h4 k' h hu;rw [h] at hu;exact absurd hu hn⟩
theorem lG.stay {t:Pl.aR} {r j k:Nat} (h:lG t r j k) (hle:t.fe k<=t.fe j):lG t r (j+1) k:=by
 rcases h with ⟨h1,_⟩|⟨k2,h1,h2,h3,h4⟩
 ·omega
 ·have e:k2=k:=by omega
  subst e;exact .inr ⟨k2,by omega,h2,h3,λk' hk' hu=>by rcases (show k'<j∨k'=j by omega) with h | h;exact h4 k' h hu;rw [h];exact hle⟩
theorem lG.take {t:Pl.aR} {r j:Nat} {c:Int} (h:lG t r j c) (hu:H9 t r j) (hlt:∀ k:Nat,c=k->t.fe j<t.fe k):lG t r (j+1) j:=by
 refine .inr ⟨j,by omega,rfl,hu,λk' hk' hu'=>?_⟩;rcases (show k'<j∨k'=j by omega) with hk|hk
 ·rcases h with ⟨_,h2⟩ | ⟨k,h1,h2,h3,h4⟩
  ·exact absurd hu' (h2 k' hk)
  ·have:=h4 k' hk hu';have:=hlt k h2;omega
 ·rw [hk];exact aaU _
end Go.Proofs.YtgaafamcajcifaaGreat

namespace Go.Proofs.YtgaafamcajcifaaGreat
open Go.RowKit Go.Sort
section
section
attribute [local go_sem] bD
set_option maxHeartbeats 2000000 in
theorem oF (P:Nat->Prop) (b:Nat) (t:Pl.aR) (w:World) (h:rY P w b t) (hlen:t.lines.length<=1000) (hcl:∀ l∈t.lines,l.2.length<=1000) (Zj:t.aS.length<=100) {r:Nat} (hr:r<t.lines.length) (hrow:(t.lines.getD r (0,[])).2.length=t.aS.length+1) :
  Calls Tryz.prog 66 #[.pointer (some ⟨b,0,none⟩),.int .i64 r] w λe w'=>∃ c:Int,e=.returned (.int .i64 c)∧lG t r t.aS.length c∧Below w.heap.size w w':=by
 have HT:=af h;clear h;go_enter Tryz.func66,Tryz.ntmps66;go_wp2_with fail;go_loopg [5,6] t.aS.length (λk bv jv wr=>∃ (j:Nat) (c:Int),jv=.int .i64 j∧bv=.int .i64 c∧j+k=t.aS.length∧Hid (lG t r j c∧Below w.heap.size w wr))
 case atStart=>exact ⟨0,-1,rfl,rfl,by omega,.inl ⟨rfl,λk hk=>by omega⟩,n_ _ _⟩
 case round =>
  obtain ⟨j,c,rfl,rfl,hjk,HR⟩:=hrel;obtain ⟨vc,kc,adc,SC,rfl,hci⟩:=((uh HT).below (uh HR).2).aS;by_cases hlt:j<t.aS.length
  ·obtain ⟨gc,oc,rfl,kj⟩:=hci j hlt;have HC:=af (jP P b t wr ((uh HT).below (uh HR).2) hlen hcl hr (j:=j+1) (by omega));have e1:((j+1:Nat):Int)=(j:Int)+1:=by omega
   rw [e1] at HC;clear e1;go_wp2_with fail;refine (uh HC).mono ?_;rintro e w3 ⟨v3,rfl,hv3,hw3⟩;obtain ⟨x3,a3,m3,c3,rfl,_⟩:=hv3.head;have hal:Below w3.heap.size w3 (w3.alloc (.cells #[.int .i64 x3,.slice a3 m3 c3] 78)):=(n_ _ _).alloc (d_ _) _;have hW:Below wr.heap.size wr (w3.alloc (.cells #[.int .i64 x3,.slice a3 m3 c3] 78)):=hw3.trans (hal.mono hw3.size);have SE:=(hW.cell (aav kc)).trans kc;have Ia:=(hW.cell (aav kj)).trans kj;have HV:=af (hv3.below hal);have jO:Hid (Below w.heap.size w (w3.alloc (.cells #[.int .i64 x3,.slice a3 m3 c3] 78))):=(uh HR).2.trans (hW.mono (uh HR).2.size);clear hv3 hw3 hal kc kj;obtain ⟨cj,hcj⟩:∃ cj,t.aS.getD j 0=cj:=⟨_,rfl⟩;have Ql:Hid (t.fe j=cj):=hcj;rw [hcj] at Ia;clear hcj;obtain ⟨q0,q1,_⟩:=au (aG w3 (.cells #[.int .i64 x3,.slice a3 m3 c3] 78));by_cases h0:0<=cj
   ·have d0:decide (0<=cj)=true:=aaB h0;have Ib:=af (λw1 (h:Below (w3.alloc (.cells #[.int .i64 x3,.slice a3 m3 c3] 78)).heap.size (w3.alloc (.cells #[.int .i64 x3,.slice a3 m3 c3] 78)) w1)=>bY P _ (t.cell r (j+1)) w1 ((uh HV).below h));obtain ⟨sg,xK⟩:∃ sg,Int.sign (t.cell r (j+1))=sg:=⟨_,rfl⟩;rw [xK] at Ib;by_cases hv:0<t.cell r (j+1)
    ·have d1:decide (0<sg)=true:=by rw [<-xK,J_ hv];decide
     rcases (uh HR).1 with ⟨hc1,hno⟩|⟨k,hk1,hk2,hk3,hk4⟩
     ·have HF:=af ((uh HR).1.take ⟨by rw [uh Ql];exact h0,hv⟩ (λk hk=>by omega));subst hc1;clear xK HV hv h0 hci hno;go_wp2_with fail;generalize hW0:w3.alloc (.cells #[.int .i64 x3,.slice a3 m3 c3] 78)=W0 at *
      have g1:=b_ SE;have g2:=b_ Ia;have g3:=b_ q0;have g4:=b_ q1;refine ah (bZ []) (gL [(32,(·=.int .i64 sg))]) 58 33 (by kernel_rfl) (by rfl) (by kernel_rfl) (dw (by simp)) ?_
      iterate 10 (refine fO (by rfl) (λ_ _ _ _=>trivial) (λK hK=>?_);go_simp;refine hK _ ?_;clear hK K)
      refine ai (·=.int .i64 sg) 46 #[.agg #[.int .i64 x3,.slice a3 m3 c3]] (by rfl) (by rfl) ⟨_,rfl⟩ (λw=>by go_simp) (λw1 hg _=>(uh Ib w1 hg).mono (by rintro e w' ⟨rfl,hb⟩;exact ⟨_,rfl,hb,rfl,λ_ _=>trivial⟩)) ?_;rintro _ rfl
      repeat (refine fO (by rfl) (λ_ _ _ _=>trivial) (λK hK=>?_);go_simp;refine hK _ ?_;clear hK K)
      refine aF ?_;intro w5 hg5 _;have jy:Hid (Below w.heap.size w w5):=(uh jO).trans (aam hg5 (uh jO).size);clear hg5;go_wp2;go_roundg (gk - 1)
      case measure=>omega
      case rel=>exact ⟨j+1,j,by simp,rfl,by omega,uh HF,uh jy⟩
     ·subst hk2;obtain ⟨gc2,oc2,e2,kk⟩:=hci k (by omega);have Ul:=(hW.cell (aav kk)).trans kk;cases e2;obtain ⟨ck,hck⟩:∃ ck,t.aS.getD k 0=ck:=⟨_,rfl⟩;have Zl:Hid (t.fe k=ck):=hck;rw [hck] at Ul;clear hck kk;have hkn:¬ ((k:Int)<0):=by omega
      have hkc:k<t.aS.length:=by omega
      by_cases hless:cj<ck
      ·have d2:decide (cj<ck)=true:=aaB hless;have hle2:∀ k':Nat,(k:Int)=k'->t.fe j<t.fe k':=λk' hk'=>by
        rw [show k'=k by omega,uh Ql,uh Zl];exact hless
       have HF:=af ((uh HR).1.take ⟨by rw [uh Ql];exact h0,hv⟩ hle2);clear hle2;clear xK HV hv h0 hci hk3 hk4 hless hW;go_wp2_with fail;generalize hW0:w3.alloc (.cells #[.int .i64 x3,.slice a3 m3 c3] 78)=W0 at *
       have g1:=b_ SE;have g2:=b_ Ia;have g3:=b_ q0;have g4:=b_ q1;have g5:=b_ Ul;refine ah (bZ []) (gL [(32,(·=.int .i64 sg))]) 58 33 (by kernel_rfl) (by rfl) (by kernel_rfl) (dw (by simp)) ?_
       iterate 10 (refine fO (by rfl) (λ_ _ _ _=>trivial) (λK hK=>?_);go_simp;refine hK _ ?_;clear hK K)
       refine ai (·=.int .i64 sg) 46 #[.agg #[.int .i64 x3,.slice a3 m3 c3]] (by rfl) (by rfl) ⟨_,rfl⟩ (λw=>by go_simp) (λw1 hg _=>(uh Ib w1 hg).mono (by rintro e w' ⟨rfl,hb⟩;exact ⟨_,rfl,hb,rfl,λ_ _=>trivial⟩)) ?_;rintro _ rfl
       repeat (refine fO (by rfl) (λ_ _ _ _=>trivial) (λK hK=>?_);go_simp;refine hK _ ?_;clear hK K)
       refine aF ?_;intro w5 hg5 _;have jy:Hid (Below w.heap.size w w5):=(uh jO).trans (aam hg5 (uh jO).size);clear hg5;go_wp2;go_roundg (gk - 1)
       case measure=>omega
       case rel=>exact ⟨j+1,j,by simp,rfl,by omega,uh HF,uh jy⟩
      ·have d2:decide (cj<ck)=false:=Z_ hless;have HF:=af ((uh HR).1.stay (by rw [uh Ql,uh Zl];omega));clear xK HV hv h0 hci hk3 hk4 hless hW;go_wp2_with fail;generalize hW0:w3.alloc (.cells #[.int .i64 x3,.slice a3 m3 c3] 78)=W0 at *
       have g1:=b_ SE;have g2:=b_ Ia;have g3:=b_ q0;have g4:=b_ q1;have g5:=b_ Ul;refine ah (bZ []) (gL [(32,(·=.int .i64 sg))]) 58 33 (by kernel_rfl) (by rfl) (by kernel_rfl) (dw (by simp)) ?_
       iterate 10 (refine fO (by rfl) (λ_ _ _ _=>trivial) (λK hK=>?_);go_simp;refine hK _ ?_;clear hK K)
       refine ai (·=.int .i64 sg) 46 #[.agg #[.int .i64 x3,.slice a3 m3 c3]] (by rfl) (by rfl) ⟨_,rfl⟩ (λw=>by go_simp) (λw1 hg _=>(uh Ib w1 hg).mono (by rintro e w' ⟨rfl,hb⟩;exact ⟨_,rfl,hb,rfl,λ_ _=>trivial⟩)) ?_;rintro _ rfl
       repeat (refine fO (by rfl) (λ_ _ _ _=>trivial) (λK hK=>?_);go_simp;refine hK _ ?_;clear hK K)
       refine aF ?_;intro w5 hg5 _;have jy:Hid (Below w.heap.size w w5):=(uh jO).trans (aam hg5 (uh jO).size);clear hg5;go_wp2;go_roundg (gk - 1)
       case measure=>omega
       case rel=>exact ⟨j+1,k,by simp,rfl,by omega,uh HF,uh jy⟩
    ·have HF:=af ((uh HR).1.skip (λhu=>hv hu.2));have d1:decide (0<sg)=false:=by
      rw [<-xK];rcases (show t.cell r (j+1)<0∨t.cell r (j+1)=0 by omega) with h|h
      ·rw [E_ h];decide
      ·rw [h];decide
     clear xK HV hv h0 hci;go_wp2_with fail;generalize hW0:w3.alloc (.cells #[.int .i64 x3,.slice a3 m3 c3] 78)=W0 at *
     have g1:=b_ SE;have g2:=b_ Ia;have g3:=b_ q0;have g4:=b_ q1;refine ah (bZ []) (gL [(32,(·=.int .i64 sg))]) 58 33 (by kernel_rfl) (by rfl) (by kernel_rfl) (dw (by simp)) ?_
     iterate 10 (refine fO (by rfl) (λ_ _ _ _=>trivial) (λK hK=>?_);go_simp;refine hK _ ?_;clear hK K)
     refine ai (·=.int .i64 sg) 46 #[.agg #[.int .i64 x3,.slice a3 m3 c3]] (by rfl) (by rfl) ⟨_,rfl⟩ (λw=>by go_simp) (λw1 hg _=>(uh Ib w1 hg).mono (by rintro e w' ⟨rfl,hb⟩;exact ⟨_,rfl,hb,rfl,λ_ _=>trivial⟩)) ?_;rintro _ rfl
     repeat (refine fO (by rfl) (λ_ _ _ _=>trivial) (λK hK=>?_);go_simp;refine hK _ ?_;clear hK K)
     refine aF ?_;intro w5 hg5 _;have jy:Hid (Below w.heap.size w w5):=(uh jO).trans (aam hg5 (uh jO).size);clear hg5;go_wp2;go_roundg (gk - 1)
     case measure=>omega
     case rel=>exact ⟨j+1,c,by simp,rfl,by omega,uh HF,uh jy⟩
   ·have d0:decide (0<=cj)=false:=Z_ h0;have HF:=af ((uh HR).1.skip (λhu=>h0 (by rw [<-uh Ql];exact hu.1)));clear HV HR h0;go_wp2_with fail;go_quiet (fail);go_wp2;go_roundg (gk - 1)
    case measure=>omega
    case rel=>exact ⟨j+1,c,by simp,rfl,by omega,uh HF,abb (uh jO) _⟩
  ·have hjn:j=t.aS.length:=by omega
   have HR2:Hid (lG t r t.aS.length c∧Below w.heap.size w wr):=by rw [<-hjn];exact uh HR
   clear hci HR;go_wp2;go_ret;exact ⟨_,rfl,(uh HR2).1,(uh HR2).2⟩
end
def mF (U:Nat->Prop) (key:Nat->Int) (j:Nat) (c:Int):Prop:=(c=-1∧∀ k,k<j->¬ U k)∨∃ k:Nat,k<j∧c=k∧U k∧∀ k',k'<j->U k'->key k<=key k'
theorem mF.skip {U:Nat->Prop} {key:Nat->Int} {j:Nat} {c:Int} (h:mF U key j c) (hn:¬ U j):mF U key (j+1) c:=by
 rcases h with ⟨h1,h2⟩|⟨k,h1,h2,h3,h4⟩
 ·exact .inl ⟨h1,λk hk=>by rcases (show k<j∨k=j by omega) with h | h;exact h2 k h;rw [h];exact hn⟩
 ·exact .inr ⟨k,by omega,h2,h3,λk' hk' hu=>by rcases (show k'<j∨k'=j by omega) with h | h;exact h4 k' h hu;rw [h] at hu;exact absurd hu hn⟩
theorem mF.stay {U:Nat->Prop} {key:Nat->Int} {j k:Nat} (h:mF U key j k) (hle:key k<=key j):mF U key (j+1) k:=by
 rcases h with ⟨h1,_⟩|⟨k2,h1,h2,h3,h4⟩
 ·omega
 ·have e:k2=k:=by omega
  subst e;exact .inr ⟨k2,by omega,h2,h3,λk' hk' hu=>by rcases (show k'<j∨k'=j by omega) with h | h;exact h4 k' h hu;rw [h];exact hle⟩
theorem mF.take {U:Nat->Prop} {key:Nat->Int} {j:Nat} {c:Int} (h:mF U key j c) (hu:U j) (hlt:∀ k:Nat,c=k->key j<key k):mF U key (j+1) j:=by
 refine .inr ⟨j,by omega,rfl,hu,λk' hk' hu'=>?_⟩;rcases (show k'<j∨k'=j by omega) with hk|hk
 ·rcases h with ⟨_,h2⟩ | ⟨k,h1,h2,h3,h4⟩
  ·exact absurd hu' (h2 k' hk)
  ·have:=h4 k' hk hu';have:=hlt k h2;omega
 ·rw [hk];exact aaU _
structure mG (t:Pl.aR):Prop where
 lines:t.lines.length<=1000
 aS:t.aS.length<=100
 cells:∀ l∈t.lines,l.2.length=t.aS.length+1
theorem mG.row {t:Pl.aR} (h:mG t) {r:Nat} (hr:r<t.lines.length):(t.lines.getD r (0,[])).2.length=t.aS.length+1:=by
 rw [a_,f_ hr];exact h.cells _ (aak hr)
theorem mG.le {t:Pl.aR} (h:mG t):∀ l∈t.lines,l.2.length<=1000:=λl hl=>by rw [h.cells l hl];have:=h.aS;omega
theorem oo (t:Pl.aR) {i:Nat} (hi:i<t.lines.length):t.lines[i].1=t.name i:=by
 unfold Pl.aR.name;rw [a_,f_ hi];rfl
attribute [local go_sem] bD
set_option maxHeartbeats 2000000 in
theorem qO (P:Nat->Prop) (b:Nat) (t:Pl.aR) (w:World) (h:rY P w b t) (hfit:mG t) :
  Calls Tryz.prog 65 #[.pointer (some ⟨b,0,none⟩)] w λe w'=>∃ c:Int,e=.returned (.int .i64 c)∧mF (λr=>0<=t.name r∧t.cell r 0<0) t.name t.lines.length c∧Below w.heap.size w w':=by
 have HT:=af h;have uK:=af hfit;have hn1:=hfit.lines;clear h hfit;go_enter Tryz.func65,Tryz.ntmps65;go_wp2_with fail;go_loopg [3,4] t.lines.length (λk bv jv wr=>∃ (j:Nat) (c:Int),jv=.int .i64 j∧bv=.int .i64 c∧j+k=t.lines.length∧Hid (mF (λr=>0<=t.name r∧t.cell r 0<0) t.name j c∧Below w.heap.size w wr))
 case atStart=>exact ⟨0,-1,rfl,rfl,by omega,.inl ⟨rfl,λk hk=>by omega⟩,n_ _ _⟩
 case round =>
  obtain ⟨j,c,rfl,rfl,hjk,HR⟩:=hrel;obtain ⟨vc,kc,adc,SC,rfl,hci⟩:=((uh HT).below (uh HR).2).lines;by_cases hlt:j<t.lines.length
  ·obtain ⟨gc,oc,uj,rfl,kj,_⟩:=hci j hlt;have HC:=af (jP P b t wr ((uh HT).below (uh HR).2) hn1 (uh uK).le hlt (j:=0) (by rw [(uh uK).row hlt];omega));go_wp2_with fail;refine (uh HC).mono ?_;rintro e w3 ⟨v3,rfl,hv3,hw3⟩;obtain ⟨x3,a3,m3,c3,rfl,_⟩:=hv3.head;have hal:Below w3.heap.size w3 (w3.alloc (.cells #[.int .i64 x3,.slice a3 m3 c3] 78)):=(n_ _ _).alloc (d_ _) _;have hW:Below wr.heap.size wr (w3.alloc (.cells #[.int .i64 x3,.slice a3 m3 c3] 78)):=hw3.trans (hal.mono hw3.size);have SE:=(hW.cell (aav kc)).trans kc;have Ia:=(hW.cell (aav kj)).trans kj;have HV:=af (hv3.below hal);have jO:Hid (Below w.heap.size w (w3.alloc (.cells #[.int .i64 x3,.slice a3 m3 c3] 78))):=(uh HR).2.trans (hW.mono (uh HR).2.size);clear hv3 hw3 hal kc kj HC;rw [oo t hlt] at Ia;obtain ⟨cj,hcj⟩:∃ cj,t.name j=cj:=⟨_,rfl⟩;have Ql:Hid (t.name j=cj):=hcj;rw [hcj] at Ia;clear hcj;obtain ⟨q0,q1,_⟩:=au (aG w3 (.cells #[.int .i64 x3,.slice a3 m3 c3] 78));by_cases h0:0<=cj
   ·have d0:decide (0<=cj)=true:=aaB h0;have Ib:=af (λw1 (h:Below (w3.alloc (.cells #[.int .i64 x3,.slice a3 m3 c3] 78)).heap.size (w3.alloc (.cells #[.int .i64 x3,.slice a3 m3 c3] 78)) w1)=>bY P _ (t.cell j 0) w1 ((uh HV).below h));obtain ⟨sg,xK⟩:∃ sg,Int.sign (t.cell j 0)=sg:=⟨_,rfl⟩;rw [xK] at Ib;by_cases hv:t.cell j 0<0
    ·have d1:decide (sg<0)=true:=by rw [<-xK,E_ hv];decide
     rcases (uh HR).1 with ⟨hc1,hno⟩|⟨k,hk1,hk2,hk3,hk4⟩
     ·have HF:=af ((uh HR).1.take ⟨by rw [uh Ql];exact h0,hv⟩ (λk hk=>by omega));subst hc1;clear xK HV hv h0 hci hno;go_wp2_with fail;generalize hW0:w3.alloc (.cells #[.int .i64 x3,.slice a3 m3 c3] 78)=W0 at *
      have g1:=b_ SE;have g2:=b_ Ia;have g3:=b_ q0;have g4:=b_ q1;refine ah (bZ []) (gL [(29,(·=.int .i64 sg))]) 57 36 (by kernel_rfl) (by rfl) (by kernel_rfl) (dw (by simp)) ?_
      iterate 11 (refine fO (by rfl) (λ_ _ _ _=>trivial) (λK hK=>?_);go_simp;refine hK _ ?_;clear hK K)
      refine ai (·=.int .i64 sg) 46 #[.agg #[.int .i64 x3,.slice a3 m3 c3]] (by rfl) (by rfl) ⟨_,rfl⟩ (λw=>by go_simp) (λw1 hg _=>(uh Ib w1 hg).mono (by rintro e w' ⟨rfl,hb⟩;exact ⟨_,rfl,hb,rfl,λ_ _=>trivial⟩)) ?_;rintro _ rfl
      repeat (refine fO (by rfl) (λ_ _ _ _=>trivial) (λK hK=>?_);go_simp;refine hK _ ?_;clear hK K)
      refine aF ?_;intro w5 hg5 _;have jy:Hid (Below w.heap.size w w5):=(uh jO).trans (aam hg5 (uh jO).size);clear hg5;go_wp2;go_roundg (gk - 1)
      case measure=>omega
      case rel=>exact ⟨j+1,j,by simp,rfl,by omega,uh HF,uh jy⟩
     ·subst hk2;have hkc:k<t.lines.length:=by omega
      obtain ⟨gc2,oc2,uk,e2,kk,_⟩:=hci k hkc;have Ul:=(hW.cell (aav kk)).trans kk;cases e2;rw [oo t hkc] at Ul;obtain ⟨ck,hck⟩:∃ ck,t.name k=ck:=⟨_,rfl⟩;have Zl:Hid (t.name k=ck):=hck;rw [hck] at Ul;clear hck kk;have hkn:¬ ((k:Int)<0):=by omega
      by_cases hless:cj<ck
      ·have d2:decide (cj<ck)=true:=aaB hless;have hle2:∀ k':Nat,(k:Int)=k'->t.name j<t.name k':=λk' hk'=>by
        rw [show k'=k by omega,uh Ql,uh Zl];exact hless
       have HF:=af ((uh HR).1.take ⟨by rw [uh Ql];exact h0,hv⟩ hle2);clear hle2;clear xK HV hv h0 hci hk3 hk4 hless hW;go_wp2_with fail;generalize hW0:w3.alloc (.cells #[.int .i64 x3,.slice a3 m3 c3] 78)=W0 at *
       have g1:=b_ SE;have g2:=b_ Ia;have g3:=b_ q0;have g4:=b_ q1;have g5:=b_ Ul;refine ah (bZ []) (gL [(29,(·=.int .i64 sg))]) 57 36 (by kernel_rfl) (by rfl) (by kernel_rfl) (dw (by simp)) ?_
       iterate 11 (refine fO (by rfl) (λ_ _ _ _=>trivial) (λK hK=>?_);go_simp;refine hK _ ?_;clear hK K)
       refine ai (·=.int .i64 sg) 46 #[.agg #[.int .i64 x3,.slice a3 m3 c3]] (by rfl) (by rfl) ⟨_,rfl⟩ (λw=>by go_simp) (λw1 hg _=>(uh Ib w1 hg).mono (by rintro e w' ⟨rfl,hb⟩;exact ⟨_,rfl,hb,rfl,λ_ _=>trivial⟩)) ?_;rintro _ rfl
       repeat (refine fO (by rfl) (λ_ _ _ _=>trivial) (λK hK=>?_);go_simp;refine hK _ ?_;clear hK K)
       refine aF ?_;intro w5 hg5 _;have jy:Hid (Below w.heap.size w w5):=(uh jO).trans (aam hg5 (uh jO).size);clear hg5;go_wp2;go_roundg (gk - 1)
       case measure=>omega
       case rel=>exact ⟨j+1,j,by simp,rfl,by omega,uh HF,uh jy⟩
      ·have d2:decide (cj<ck)=false:=Z_ hless;have HF:=af ((uh HR).1.stay (by rw [uh Ql,uh Zl];omega));clear xK HV hv h0 hci hk3 hk4 hless hW;go_wp2_with fail;generalize hW0:w3.alloc (.cells #[.int .i64 x3,.slice a3 m3 c3] 78)=W0 at *
       have g1:=b_ SE;have g2:=b_ Ia;have g3:=b_ q0;have g4:=b_ q1;have g5:=b_ Ul;refine ah (bZ []) (gL [(29,(·=.int .i64 sg))]) 57 36 (by kernel_rfl) (by rfl) (by kernel_rfl) (dw (by simp)) ?_
       iterate 11 (refine fO (by rfl) (λ_ _ _ _=>trivial) (λK hK=>?_);go_simp;refine hK _ ?_;clear hK K)
       refine ai (·=.int .i64 sg) 46 #[.agg #[.int .i64 x3,.slice a3 m3 c3]] (by rfl) (by rfl) ⟨_,rfl⟩ (λw=>by go_simp) (λw1 hg _=>(uh Ib w1 hg).mono (by rintro e w' ⟨rfl,hb⟩;exact ⟨_,rfl,hb,rfl,λ_ _=>trivial⟩)) ?_;rintro _ rfl
       repeat (refine fO (by rfl) (λ_ _ _ _=>trivial) (λK hK=>?_);go_simp;refine hK _ ?_;clear hK K)
       refine aF ?_;intro w5 hg5 _;have jy:Hid (Below w.heap.size w w5):=(uh jO).trans (aam hg5 (uh jO).size);clear hg5;go_wp2;go_roundg (gk - 1)
       case measure=>omega
       case rel=>exact ⟨j+1,k,by simp,rfl,by omega,uh HF,uh jy⟩
    ·have HF:=af ((uh HR).1.skip (λhu=>hv hu.2));have d1:decide (sg<0)=false:=by
      rw [<-xK];rcases (show 0<t.cell j 0∨t.cell j 0=0 by omega) with h|h
      ·rw [J_ h];decide
      ·rw [h];decide
     clear xK HV hv h0 hci;go_wp2_with fail;generalize hW0:w3.alloc (.cells #[.int .i64 x3,.slice a3 m3 c3] 78)=W0 at *
     have g1:=b_ SE;have g2:=b_ Ia;have g3:=b_ q0;have g4:=b_ q1;refine ah (bZ []) (gL [(29,(·=.int .i64 sg))]) 57 36 (by kernel_rfl) (by rfl) (by kernel_rfl) (dw (by simp)) ?_
     iterate 11 (refine fO (by rfl) (λ_ _ _ _=>trivial) (λK hK=>?_);go_simp;refine hK _ ?_;clear hK K)
     refine ai (·=.int .i64 sg) 46 #[.agg #[.int .i64 x3,.slice a3 m3 c3]] (by rfl) (by rfl) ⟨_,rfl⟩ (λw=>by go_simp) (λw1 hg _=>(uh Ib w1 hg).mono (by rintro e w' ⟨rfl,hb⟩;exact ⟨_,rfl,hb,rfl,λ_ _=>trivial⟩)) ?_;rintro _ rfl
     repeat (refine fO (by rfl) (λ_ _ _ _=>trivial) (λK hK=>?_);go_simp;refine hK _ ?_;clear hK K)
     refine aF ?_;intro w5 hg5 _;have jy:Hid (Below w.heap.size w w5):=(uh jO).trans (aam hg5 (uh jO).size);clear hg5;go_wp2;go_roundg (gk - 1)
     case measure=>omega
     case rel=>exact ⟨j+1,c,by simp,rfl,by omega,uh HF,uh jy⟩
   ·have d0:decide (0<=cj)=false:=Z_ h0;have HF:=af ((uh HR).1.skip (λhu=>h0 (by rw [<-uh Ql];exact hu.1)));clear HV HR h0;go_wp2_with fail;go_quiet (fail);go_wp2;go_roundg (gk - 1)
    case measure=>omega
    case rel=>exact ⟨j+1,c,by simp,rfl,by omega,uh HF,abb (uh jO) _⟩
  ·have hjn:j=t.lines.length:=by omega
   have HR2:Hid (mF (λr=>0<=t.name r∧t.cell r 0<0) t.name t.lines.length c∧Below w.heap.size w wr):=by rw [<-hjn];exact uh HR
   clear hci HR;go_wp2;go_ret;exact ⟨_,rfl,(uh HR2).1,(uh HR2).2⟩
end
structure bB (P:Nat->Prop) (w:World) (g:Nat) (x:Int) (a:Option Addr) (m c:Nat) (n:Int):Prop where
 heap:w.heap[g]?=some (.cells #[.int .i64 x,.slice a m c] 78 (0,0))
 val:aj P w (.agg #[.int .i64 x,.slice a m c]) n
theorem bB.cells {P:Nat->Prop} {w:World} {g:Nat} {x:Int} {a:Option Addr} {m c:Nat} {n:Int} (h:bB P w g x a m c n):w.cell? ⟨g,0,none⟩=some (.int .i64 x)∧w.cell? ⟨g,1,none⟩=some (.slice a m c)∧w.frozen? ⟨g,0,none⟩=false∧w.frozen? ⟨g,1,none⟩=false:=au h.heap
theorem bB.grow {P:Nat->Prop} {w w':World} {g:Nat} {x:Int} {a:Option Addr} {m c:Nat} {n:Int} (h:bB P w g x a m c n) (hg:ae w w'):bB P w' g x a m c n:=⟨Below.same hg _ _ h.heap,h.val.below hg⟩
theorem bB.lt {P:Nat->Prop} {w:World} {g:Nat} {x:Int} {a:Option Addr} {m c:Nat} {n:Int} (h:bB P w g x a m c n):g<w.heap.size:=z_ h.heap
theorem ae.alloc (w:World) (o:Obj):ae w (w.alloc o):=(n_ _ _).alloc (d_ _) o
theorem ae.size {w w':World} (h:ae w w'):w.heap.size<=w'.heap.size:=Below.size h
theorem ae.cell {w w':World} (h:ae w w') {a:Addr} {v:Value} (hc:w.cell? a=some v):w'.cell? a=some v:=(Below.cell h (aav hc)).trans hc
theorem dC {P:Nat->Prop} {w:World} {x:Int} {a:Option Addr} {m c:Nat} {n:Int} (h:aj P w (.agg #[.int .i64 x,.slice a m c]) n):bB P (w.alloc (.cells #[.int .i64 x,.slice a m c] 78)) w.heap.size x a m c n:=⟨aG _ _,h.below (ae.alloc _ _)⟩
def bg (W:World) (v:Value) (w:World):Prop:=∃ g,v=.pointer (some ⟨g,0,none⟩)∧vX W g w
theorem bg.grow {W:World} {v:Value} {w w':World} (h:bg W v w) (hg:ae w w'):bg W v w':=by
 obtain ⟨g,rfl,h1,h2⟩:=h;exact ⟨g,rfl,h1,Below.same hg _ _ h2⟩
theorem bg.new {W w:World} (h:ae W w):bg W (.pointer (some ⟨w.heap.size,0,none⟩)) (w.alloc (.cells #[.int .i64 0,.slice none 0 0] 78)):=⟨_,rfl,h.size,aG _ _⟩
theorem bg.own {W:World} {g:Nat} {w:World} (h:bg W (.pointer (some ⟨g,0,none⟩)) w):vX W g w:=by
 obtain ⟨g',e,h1⟩:=h;cases e;exact h1
def ag (v:Value):Prop:=∃ x a m c,v=.agg #[.int .i64 x,.slice a m c]
def bL (v:Value):Prop:=∃ g,v=.pointer (some ⟨g,0,none⟩)
def aZ (v:Value):Prop:=∃ ad n c,v=.slice ad n c
theorem ag.some:∃ v,ag v:=⟨_,0,none,0,0,rfl⟩
theorem bL.some:∃ v,bL v:=⟨_,0,rfl⟩
theorem aZ.some:∃ v,aZ v:=⟨_,none,0,0,rfl⟩
theorem aj.aU {P:Nat->Prop} {w:World} {v:Value} {n:Int} (h:aj P w v n):ag v:=by
 obtain ⟨x,ad,m,cap,e,_⟩:=h.head;exact ⟨x,ad,m,cap,e⟩
theorem aD.aB {P:Nat->Prop} {w:World} {v:Value} {l:List Int} (h:aD P w v l):aZ v:=by
 obtain ⟨ad,cap,e,_⟩:=h;exact ⟨ad,_,cap,e⟩
theorem bH {P:Nat->Prop} {W w:World} (hg:ae W w) {g:Nat} (hge:W.heap.size<=g) {u v:Value} (hb:w.heap[g]?=some (.cells #[u,v] 78 (0,0))) {x:Int} {a:Option Addr} {m c:Nat} {n:Int} (h:aj P w (.agg #[.int .i64 x,.slice a m c]) n) :
  bB P ((w.setCell ⟨g,0,none⟩ (.int .i64 x)).setCell ⟨g,1,none⟩ (.slice a m c)) g x a m c n∧ae W ((w.setCell ⟨g,0,none⟩ (.int .i64 x)).setCell ⟨g,1,none⟩ (.slice a m c)) :=
 ⟨⟨jU hb _ _,h.kE hb _ _⟩,(B_ (p:=⟨g,0,none⟩) hg hge _).setCell (p:=⟨g,1,none⟩) hge _⟩
theorem aA.only {e T:TypeId} {b:Nat} {w w':World} {cs:Array Value} {fz:Nat × Nat} (h:il b w w') (hb:w.heap[b]?=some (.cells cs T fz)) (hne:T≠e):aA e w w':=λk cur hk=>h.block k (z_ hk) (λe'=>by subst e';rw [hb] at hk;cases hk;exact hne rfl)
theorem bB.only {P:Nat->Prop} {w w':World} {g:Nat} {x:Int} {a:Option Addr} {m c:Nat} {n:Int} (h:bB P w g x a m c n) {b:Nat} {cs:Array Value} {T:TypeId} {fz:Nat × Nat} (ho:il b w w') (hb:w.heap[b]?=some (.cells cs T fz)) (hT:T≠3) (hne:g≠b):bB P w' g x a m c n :=
 ⟨(ho.block g h.lt hne).trans h.heap,h.val.bW (aA.only ho hb hT)⟩
theorem il.grow {b:Nat} {w w1 w2:World} (h:il b w w1) (hg:ae w1 w2):il b w w2:=h.trans (.aX hg)
theorem aj.shape {P:Nat->Prop} {w:World} {v:Value} {n:Int} (h:aj P w v n):∃ x ad m cap,v=.agg #[.int .i64 x,.slice ad m cap]:=by
 obtain ⟨x,ad,m,cap,e,_⟩:=h.head;exact ⟨x,ad,m,cap,e⟩
namespace Pl
def Lt (K:Nat) (a:Int):Prop:=(a.natAbs:Int)<1073741824^K
theorem dZ {K:Nat} {a:Int}:Lt K a↔a.natAbs<1073741824^K:=by
 unfold Lt;rw [show (1073741824:Int)^K=((1073741824^K:Nat):Int) by simp];omega
theorem Lt.mono {K K':Nat} {a:Int} (h:Lt K a) (hK:K<=K'):Lt K' a:=by
 rw [dZ] at *
 exact aa9 h (Nat.pow_le_pow_right (by omega) hK)
theorem Lt.mul {K L:Nat} {a b:Int} (ha:Lt K a) (hb:Lt L b):Lt (K+L) (a*b):=by
 rw [dZ] at *
 rw [Int.natAbs_mul,Nat.pow_add];exact Nat.mul_lt_mul'' ha hb
theorem Lt.neg {K:Nat} {a:Int} (h:Lt K a):Lt K (-a):=by unfold Lt at *;rw [Int.natAbs_neg];exact h
theorem Lt.add {K:Nat} {a b:Int} (ha:Lt K a) (hb:Lt K b):Lt (K+1) (a+b):=by
 unfold Lt at *
 rw [aaC];omega
theorem Lt.sub {K:Nat} {a b:Int} (ha:Lt K a) (hb:Lt K b):Lt (K+1) (a - b):=by
 unfold Lt at *
 rw [aaC];omega
theorem Lt.fdiv {K:Nat} {a b:Int} (ha:Lt K a) (hb:0<b):Lt K (Int.fdiv a b):=by
 unfold Lt at *
 rw [S_ _ (by omega)];have h1:=Int.natAbs_ediv_le_natAbs a b;omega
end Pl
end Go.Proofs.YtgaafamcajcifaaGreat
