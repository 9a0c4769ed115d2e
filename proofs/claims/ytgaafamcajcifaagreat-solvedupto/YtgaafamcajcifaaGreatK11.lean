/- Joined: XWh7 XWh8 XInt1. -/
import Derived.Test.YtgaafamcajcifaaGreatK10
set_option linter.unusedVariables false
set_option linter.unusedSimpArgs false
set_option maxRecDepth 100000
namespace Go.Proofs.YtgaafamcajcifaaGreat
open Go.RowKit
theorem nS {w:World} {g n:Nat} {s:List Int} (h:w.heap[g]?=some (.cells (s.map bF).toArray 3 (0,0))) (hs:s.length=n):bI w (.slice (some ⟨g,0,none⟩) n n) s:=by
 subst hs;refine ⟨_,_,rfl,λi hi=>⟨g,0,rfl,?_⟩⟩;rw [M_];exact iJ h hi
structure oH (g1 g2 g3:Nat) (w wr:World) (a':Int) (d r s:List Int) (nd nr ns k:Nat):Prop where
 bd:wr.heap[g1]?=some (.cells (d.map bF).toArray 3 (0,0))
 br:wr.heap[g2]?=some (.cells (r.map bF).toArray 3 (0,0))
 bs:wr.heap[g3]?=some (.cells (s.map bF).toArray 3 (0,0))
 U5:Below w.heap.size w wr
 okd:Pl.ak d
 WV:Pl.ak r
 oks:Pl.ak s
 ld:d.length=nd
 lr:r.length=nr
 ls:s.length=ns
 sum:a'=Pl.lv s*Pl.lv d+Pl.lv r
 low:Pl.lv r<Pl.lv d*1073741824^k
 zer:∀ t,t<k->Pl.aT s t=0
 n12:g1<g2
 n23:g2<g3
 n1:w.heap.size<=g1
section
variable {g1 g2 g3:Nat} {w wr:World} {a':Int} {d r s:List Int} {nd nr ns i p:Nat}
theorem oH.LK (h:oH g1 g2 g3 w wr a' d r s nd nr ns (i+1)) {w':World} (ho:il g2 wr w'):bI w' (.slice (some ⟨g1,0,none⟩) nd nd) d :=
 nS ((ho.block g1 (z_ h.bd) (by have:=h.n12;omega)).trans h.bd) h.ld
theorem oH.next (h:oH g1 g2 g3 w wr a' d r s nd nr ns (i+1)) (hi:i<ns) {w':World} {r':List Int} {Q:Int} (ho:il g2 wr w') (hb:w'.heap[g2]?=some (.cells (r'.map bF).toArray 3 (0,0))) (ok:Pl.ak r') (hl:r'.length=nr) (hr:Pl.lv r'=Pl.lv r - 1073741824^i*(Q*Pl.lv d)) (hlow:Pl.lv r - 1073741824^i*(Q*Pl.lv d)<Pl.lv d*1073741824^i) (q0:0<=Q) (q1:Q<1073741824) :
  oH g1 g2 g3 w (w'.setCell ⟨g3,i,none⟩ (.int .i64 Q)) a' d r' (s.set i Q) nd nr ns i:=by
 have n1:=h.n12;have n2:=h.n23;have n3:=h.n1;have hbs:w'.heap[g3]?=some (.cells (s.map bF).toArray 3 (0,0)):=(ho.block g3 (z_ h.bs) (by omega)).trans h.bs;refine ⟨?_,?_,?_,?_,h.okd,ok,h.oks.set _ q0 q1,h.ld,hl,by simp [h.ls],?_,?_,λt ht=>?_,n1,n2,n3⟩
 ·rw [l_ _ _ _ _ (by simp;omega)];exact (ho.block g1 (z_ h.bd) (by omega)).trans h.bd
 ·rw [l_ _ _ _ _ (by simp;omega)];exact hb
 ·rw [j_ w' _ _ _ _ _ hbs,<-jJ];rfl
 ·exact (h.U5.trans (ho.below (by omega) h.U5.size)).setCell (p:=⟨g3,i,none⟩) (by simp;omega) _
 ·have:=h.ls;rw [Pl.Ae s i Q (by omega),h.zer i (by omega),Int.sub_zero,hr,aaN,y_,h.sum];omega
 ·rw [hr];exact hlow
 ·rw [Pl.wG (by have:=h.ls;omega),g_ (by omega)];exact h.zer t (by omega)
theorem NY (h:oH g1 g2 g3 w wr a' d r s nd nr ns (i+1)) (hnd:nd=p+3) (hnr:nr<=7500000000000) (hi:i+nd<=nr) (hd:Pl.lv d<1073741824^(p+2)) (hf:536870912<=Pl.aT d (p+1)) (nb:Nat) (hnb:nb=p+2) :
  Calls Tryz.prog 103 #[.slice (some ⟨g2,0,none⟩) nr nr,.slice (some ⟨g1,0,none⟩) nd nd,.int .i64 ((i:Int)+nb)] wr λe w'=>∃ q Q:Int,e=.returned (.int .i64 q)∧w'=wr∧0<=q∧q<1073741824∧0<=Q∧Q<1073741824∧Hid (Q=Pl.lv (r.drop i)/Pl.lv d∧(q=Pl.lv (r.drop i)/Pl.lv d∨q=Pl.lv (r.drop i)/Pl.lv d+1)∧Pl.lv (r.drop i)/Pl.lv d*Pl.lv d<=Pl.lv (r.drop i)∧Pl.lv (r.drop i)<Pl.lv (r.drop i)/Pl.lv d*Pl.lv d+Pl.lv d):=by
 obtain ⟨t1,t2⟩:=Pl.Mm h.WV h.okd hd hf h.low;have hld:=h.ld;have hlr:=h.lr;have e2:d.length - 2=p+1:=by omega
 have e3:d.length - 3=p:=by omega
 have e4:i+nb=i+p+2:=by omega
 have e5:i+nb - 1=i+p+1:=by omega
 have e6:i+nb - 2=i+p:=by omega
 rw [show (i:Int)+nb=((i+nb:Nat):Int) by omega];refine (NW r d _ _ (i+nb) wr (nS h.br h.lr) (nS h.bd h.ld) (by omega) (by omega) h.WV h.okd (by omega) (by omega) (by omega) (by rw [e2];exact hf) (by rw [e2,e4];exact t1)).mono ?_;rintro e w1 ⟨q,rfl,hw,q0,q1,hq,hm⟩;rw [e2,e3,e5,e6,e4] at hq hm;obtain ⟨u1,u2,u3,u4,u5⟩:=t2 q q0 q1 hq hm;exact ⟨q,_,rfl,hw,q0,q1,u2,u3,rfl,u1,u4,u5⟩
theorem Rb (h:oH g1 g2 g3 w wr a' d r s nd nr ns (i+1)) (hnr:nr<=7500000000000) (hi:i+nd<=nr) (q:Int) (q0:0<=q) (q1:q<1073741824) :
  Calls Tryz.prog 104 #[.slice (some ⟨g2,0,none⟩) nr nr,.slice (some ⟨g1,0,none⟩) nd nd,.int .i64 q,.int .i64 i] wr λe w'=>∃ (s:List Int) (cy:Int),e=.returned (.bool (decide (0<=cy)))∧cy<=0∧Hid (w'.heap[g2]?=some (.cells (s.map bF).toArray 3 (0,0))∧Pl.ak s∧s.length=nr∧il g2 wr w'∧Pl.lv s+1073741824^(i+d.length)*cy=Pl.lv r - 1073741824^i*(q*Pl.lv d)∧∀ t,i+d.length<=t->Pl.aT s t=Pl.aT r t):=by
 have hld:=h.ld;have hlr:=h.lr;have:=Ra r d g2 (.slice (some ⟨g1,0,none⟩) nd nd) q i wr h.br (λw1 ho=>h.LK ho) (by omega) (by omega) h.WV h.okd q0 q1;rw [hlr] at this;exact this
theorem Rc (h:oH g1 g2 g3 w wr a' d r s nd nr ns (i+1)) (hnr:nr<=7500000000000) (hi:i+nd<=nr) {w1:World} {r1:List Int} (ho:il g2 wr w1) (hb:w1.heap[g2]?=some (.cells (r1.map bF).toArray 3 (0,0))) (ok:Pl.ak r1) (hl:r1.length=nr) :
  Calls Tryz.prog 105 #[.slice (some ⟨g2,0,none⟩) nr nr,.slice (some ⟨g1,0,none⟩) nd nd,.int .i64 i] w1 λe w'=>∃ (s:List Int) (cy:Int),e=.returned (.tuple #[])∧Hid (w'.heap[g2]?=some (.cells (s.map bF).toArray 3 (0,0))∧Pl.ak s∧s.length=nr∧il g2 wr w'∧Pl.lv s+1073741824^(i+d.length)*cy=Pl.lv r1+1073741824^i*Pl.lv d∧∀ t,i+d.length<=t->Pl.aT s t=Pl.aT r1 t):=by
 have hld:=h.ld;have:=Ga r1 d g2 (.slice (some ⟨g1,0,none⟩) nd nd) i w1 hb (λw2 ho2=>h.LK (ho.trans ho2)) (by omega) (by omega) ok h.okd;rw [hl] at this;refine this.mono ?_;rintro e w2 ⟨s,cy,rfl,_,_,y1,y2,y3,y4,y5,y6⟩;exact ⟨s,cy,rfl,y1,y2,y3,ho.trans y4,y5,y6⟩
end
theorem Pl.TC:∀ k:Nat,k<=29->(2:Int)^k<=536870912:=by
 intro k hk;have:∀ k:Fin 30,(2:Int)^k.1<=536870912:=by decide
 exact this ⟨k,by omega⟩
theorem Pl.I1 {a b:List Int} (oa:Pl.ak a) (ob:Pl.ak b) (h:a.length<b.length) (hl:Pl.aT b (b.length - 1)≠0):Pl.lv a<Pl.lv b:=by
 have h1:=ob.aT (b.length - 1);exact Pl.BA oa ob (m:=b.length - 1) (λt ht=>by rw [Pl.qX (by omega),Pl.qX (by omega)]) (by rw [Pl.qX (by omega)];omega)
theorem Pl.WW {b:List Int} (ob:Pl.ak b) (h:0<b.length) (hl:Pl.aT b (b.length - 1)≠0):0<Pl.lv b:=by
 have:=Pl.I1 .nil ob h hl
 simpa [Pl.lv] using this
set_option maxHeartbeats 1000000 in
theorem Dr (a b:List Int) (va vb:Value) (w:World) (ha:bI w va a) (hb:bI w vb b) (hal:a.length<=6000000000000) (hbl:b.length<=6000000000000) (oa:Pl.ak a) (ob:Pl.ak b) (hl:Pl.aT b (b.length - 1)≠0) (hlt:a.length<b.length) :
  Calls Tryz.prog 79 #[va,vb] w λe w'=>∃ v s,e=.returned (.tuple #[v,.bool (decide (Pl.lv a%Pl.lv b=0))])∧aI w.heap.size w' v s∧Pl.ak s∧s.length<=a.length∧Pl.lv s=Pl.lv a/Pl.lv b∧Below w.heap.size w w':=by
 have hZ:=af (Dp a va w ha (by omega) oa);have hlv:=Pl.I1 oa ob hlt hl;have h0:=(Pl.l8 oa).1;have HE:Hid (decide (Pl.lv a%Pl.lv b=0)=decide (Pl.lv a=0)∧(0:Int)=Pl.lv a/Pl.lv b):=⟨by rw [Int.emod_eq_of_lt h0 hlv],(Int.ediv_eq_zero_of_lt h0 hlv).symm⟩;obtain ⟨ad,cap,rfl⟩:=az ha;obtain ⟨fH,cap2,rfl⟩:=az hb;rw [(uh HE).1,<-(uh HE).2];clear ha hb hlv h0 HE hl;go_enter Tryz.func79,Tryz.ntmps79;go_wp2_with fail;refine (uh hZ).mono ?_;rintro e w1 ⟨rfl,hw1⟩;rw [hw1];clear hw1 w1 hZ;go_wp2;go_ret2;exact ⟨.slice none 0 0,[],rfl,⟨by simp,.inl ⟨rfl,rfl⟩⟩,.nil,by simp,rfl,n_ _ _⟩
set_option maxHeartbeats 1000000 in
theorem Gb (a b:List Int) (va vb:Value) (w:World) (ha:bI w va a) (hb:bI w vb b) (hal:a.length<=6000000000000) (oa:Pl.ak a) (ob:Pl.ak b) (hl:Pl.aT b (b.length - 1)≠0) (hlt:b.length<=a.length) (hb1:b.length=1) :
  Calls Tryz.prog 79 #[va,vb] w λe w'=>∃ v s,e=.returned (.tuple #[v,.bool (decide (Pl.lv a%Pl.lv b=0))])∧aI w.heap.size w' v s∧Pl.ak s∧s.length<=a.length∧Pl.lv s=Pl.lv a/Pl.lv b∧Below w.heap.size w w':=by
 have hbv:Pl.lv b=Pl.aT b 0:=by
  have e:=Pl.iL b 1 (by omega);simp [Pl.pv] at e;omega
 have hd:=ob.aT 0;rw [hb1] at hl;obtain ⟨b2,o2,cap2,hv2,hcb⟩:=kG hb 0 (by omega);rw [Nat.add_zero] at hcb;have hD:=af (D9 a va (Pl.aT b 0) w ha (by omega) oa (by simp at hl;omega) hd.2);subst hv2;obtain ⟨ad,cap,rfl⟩:=az ha;rw [hbv];rw [hb1] at hlt ⊢;clear ha hb hl hbv hb1 ob;generalize Pl.aT b 0=x at *
 go_enter Tryz.func79,Tryz.ntmps79;go_wp2_with fail;refine (uh hD).mono ?_;rintro e w1 ⟨v,s,rfl,y1,y2,y3,y4,y5⟩;have HF:Hid (aI w.heap.size w1 v s∧Pl.ak s∧s.length<=a.length∧Pl.lv s=Pl.lv a/x∧Below w.heap.size w w1):=⟨y1,y2,by omega,y4,y5⟩;clear y1 y2 y3 y4 y5 hD;go_wp2;go_ret2;exact ⟨v,s,rfl,uh HF⟩
set_option maxHeartbeats 8000000 in
theorem Ea (a b:List Int) (va vb:Value) (w:World) (ha:bI w va a) (hb:bI w vb b) (hal:a.length<=6000000000000) (oa:Pl.ak a) (ob:Pl.ak b) (hl:Pl.aT b (b.length - 1)≠0) (hlt:b.length<=a.length) (hb2:2<=b.length) :
  Calls Tryz.prog 79 #[va,vb] w λe w'=>∃ v s,e=.returned (.tuple #[v,.bool (decide (Pl.lv a%Pl.lv b=0))])∧aI w.heap.size w' v s∧Pl.ak s∧s.length<=a.length∧Pl.lv s=Pl.lv a/Pl.lv b∧Below w.heap.size w w':=by
 obtain ⟨i0,hi,hz0,hz1,hz2⟩:=U_ Tryz.jL;have HL:Hid (Calls Tryz.prog 99 #[vb,.int .i64 ((b.length:Int) - 1)] w λe w'=>e=.returned (.int .i64 (Pl.aT b (b.length - 1)))∧w'=w):=by
  rw [show (b.length:Int) - 1=((b.length - 1:Nat):Int) by omega];exact gY b vb _ w hb (by omega) (by omega)
 have HA:=af ha;have HB:=af hb;obtain ⟨ad,cap,rfl⟩:=az ha;obtain ⟨fH,cap2,rfl⟩:=az hb;have UF:=Pl.WW ob (by omega) hl;have HQ:Hid (0<Pl.lv b∧Pl.lv a<1073741824^a.length∧∀ x,Pl.aT b (b.length - 1)=x->Pl.aT b (b.length - 2+1)=x):=⟨UF,(Pl.l8 oa).2,λx hx=>by rw [<-hx,show b.length - 2+1=b.length - 1 by omega]⟩;have hl1:=ob.aT (b.length - 1);obtain ⟨p,HP⟩:∃ p,Hid (p=b.length - 2):=⟨_,rfl⟩;obtain ⟨mq,hmq,aml⟩:∃ mq,a.length+1<=mq+b.length∧mq+b.length<=a.length+1:=⟨a.length+1 - b.length,by omega,by omega⟩;obtain ⟨L,hL⟩:∃ L,Pl.aT b (b.length - 1)=L:=⟨_,rfl⟩;rw [hL] at HL hl1 hl;have HL2:=af ((uh HQ).2.2 L hL);clear ha hb UF hL;obtain ⟨res,HR⟩:∃ res,Hid (res=decide (Pl.lv a%Pl.lv b=0)):=⟨_,rfl⟩;rw [<-uh HR];go_enter Tryz.func79,Tryz.ntmps79;go_wp2_with fail;refine (uh HL).mono ?_;rintro e w1 ⟨rfl,hw1⟩;rw [hw1];clear hw1 w1 HL;go_wp2_with fail;go_loop [6] (λt=>∃ (k:Nat) (tv:Int),t=.int .i64 tv∧1<=tv∧tv<=536870912∧1<=L*tv∧L*tv<1073741824∧Hid (k<=29∧tv=2^k)) (λt=>(1073741824 - intOf t).toNat)
 case atStart=>exact ⟨0,1,rfl,by omega,by omega,by omega,by omega,by omega,rfl⟩
 case round =>
  obtain ⟨k,tv,rfl,t1,t2,t3,t4,ht⟩:=hrel;by_cases hc:L*tv<536870912
  ·have hn:1<=tv*2∧tv*2<=536870912∧1<=L*(tv*2)∧L*(tv*2)<1073741824∧Hid (k+1<=29∧tv*2=2^(k+1)):=by
    have e1:L*(tv*2)=L*tv*2:=by rw [y_]
    have h1:1*tv<=L*tv:=A_ (by omega) (by omega);have hk:k+1<=29:=by
     have:=(uh ht).1;rcases (show k=29∨k+1<=29 by omega) with h|h
     ·have h2:=(uh ht).2;rw [h] at h2;have:(2:Int)^29=536870912:=rfl;omega
     ·exact h
    have e2:tv*2=2^(k+1):=by rw [aaC,<-(uh ht).2]
    have:=Pl.TC (k+1) hk;exact ⟨by omega,by omega,by omega,by omega,hk,e2⟩
   obtain ⟨n1,n2,n3,n4,n5⟩:=hn;clear ht;go_wp2;go_round
   case rel=>exact ⟨k+1,_,rfl,n1,n2,n3,n4,n5⟩
   case measure=>simp [intOf];omega
  ·go_wp2_with fail;refine (Dq b _ tv w (uh HB) (by omega) ob (by omega) (by omega)).mono ?_;rintro e w1 ⟨g1,d,rfl,hg1,hd1,od,hdl,hdv,Re⟩;have H1:Hid (w.heap.size<=g1∧w1.heap[g1]?=some (.cells (d.map bF).toArray 3 (0,0))∧Pl.ak d∧d.length=b.length+1∧Pl.lv d=Pl.lv b*tv∧Below w.heap.size w w1):=⟨hg1,hd1,od,hdl,hdv,Re⟩;have HA1:=af ((uh HA).below Re);clear hg1 hd1 od hdl hdv Re HA HB;go_wp2_with fail;refine (Dq a _ tv w1 (uh HA1) (by omega) oa (by omega) (by omega)).mono ?_;rintro e w2 ⟨g2,r,rfl,hg2,hr1,or,hrl,hrv,UG⟩;have H2:Hid (w1.heap.size<=g2∧w2.heap[g2]?=some (.cells (r.map bF).toArray 3 (0,0))∧Pl.ak r∧r.length=a.length+1∧Pl.lv r=Pl.lv a*tv∧Below w1.heap.size w1 w2):=⟨hg2,hr1,or,hrl,hrv,UG⟩;clear hg2 hr1 or hrl hrv UG HA1;go_wp2_with (at_make;refine wpList_make_full _ rfl _ _ 36 rfl w2.heap.size 3 i0 (.int .i64 0) 1 Tryz.underlying36 hi hz0 hz1 .i64 .i64 _ _ mq rfl rfl ?e1 ?e2 ?c1 ?c2 ?c3 ?_)
   case e1=>first | rfl | omega | simp
   case e2=>first | rfl | omega | simp
   case c1=>rw [hz2];omega
   case c2=>unfold maxLen;omega
   case c3=>omega
   ·intro w3 hown hgrow;have H3:Hid (∃ r s,oH g1 g2 w2.heap.size w w3 (Pl.lv a*tv) d r s (b.length+1) (a.length+1) mq mq)∧Hid (p+2=b.length∧Pl.lv d<1073741824^(p+2)∧536870912<=Pl.aT d (p+1)∧Pl.lv d=Pl.lv b*tv):=by
     obtain ⟨x1,x2,x3,x4,x5,x6⟩:=uh H1;obtain ⟨y1,y2,y3,y4,y5,y6⟩:=uh H2;have hp:=uh HP;have hL2:=uh HL2;rw [<-hp] at hL2;obtain ⟨z1,z2,z3⟩:=Pl.DD (n:=p+1) ob x3 (by omega) x5 k (uh ht).1 (uh ht).2 (by rw [hL2];omega) (by rw [hL2];omega);have hb3:Below w2.heap.size w2 w3:=(n_ _ _).grown hgrow (d_ _) (by intro k hk;cases hk);have hblk:w3.heap[w2.heap.size]?=some (.cells ((List.replicate mq (0:Int)).map bF).toArray 3 (0,0)):=by
      have:=jr hown;rw [qp] at this;rw [this];simp [rowOf]
     have k1:w2.heap[g1]?=some (.cells (d.map bF).toArray 3 (0,0)):=(y6.block g1 (z_ x2)).trans x2;have n1:=z_ x2;have n2:=z_ y2;refine ⟨⟨r,List.replicate mq 0,(hb3.block g1 (z_ k1)).trans k1,(hb3.block g2 n2).trans y2,hblk,?_,x3,y3,λx hx=>?_,x4,y4,by simp,?_,?_,λt _=>?_,by omega,n2,x1⟩,by omega,z1,z2,x5⟩
     ·exact (x6.trans (y6.mono x6.size)).trans (hb3.mono (w_ x6.size y6.size))
     ·rw [(List.mem_replicate.1 hx).2];omega
     ·have:=Pl.CF [] mq;simp [Pl.lv] at this;rw [this,y5];simp
     ·rw [y5];have f1:Pl.lv a*tv<1073741824^a.length*tv:=Int.mul_lt_mul_of_pos_right (uh HQ).2.1 (by omega);have f2:1073741824^(p+1)*tv*1073741824^mq<=Pl.lv d*1073741824^mq:=A_ z3 (aaO (Pl.pow_pos _));rw [Int.mul_right_comm,<-Int.pow_add,show p+1+mq=a.length by omega] at f2;omega
     ·unfold Pl.aT;rw [a_,List.getElem?_replicate];split <;> rfl
    obtain ⟨H3,H4⟩:=H3;clear hown hgrow H1 H2 HP HL2 hl hl1 t3 t4 hc;go_wp2_with fail;go_loopw [11] (λi wr=>∃ k:Nat,k<=mq∧i=.int .i64 ((k:Int) - 1)∧Hid (∃ r s,oH g1 g2 w2.heap.size w wr (Pl.lv a*tv) d r s (b.length+1) (a.length+1) mq k)) (λi _=>(intOf i+1).toNat)
    case atStart=>exact ⟨mq,d_ _,rfl,H3⟩
    case round =>
     obtain ⟨k,hk,rfl,hh⟩:=hrel;clear H3;obtain ⟨r',s',hD⟩:=uh hh;have HD:=af hD;clear hD hh;by_cases h0:0<k
     ·obtain ⟨j,rfl⟩:∃ j,k=j+1:=⟨k - 1,by omega⟩;have ej:((j+1:Nat):Int) - 1=(j:Int):=by omega
      rw [ej];clear ej;go_wp2_with fail;refine (NY (p:=p) (uh HD) (by have:=(uh H4).1;omega) (by omega) (by omega) (uh H4).2.1 (uh H4).2.2.1 b.length (by have:=(uh H4).1;omega)).mono ?_;rintro e w4 ⟨q,Q,rfl,hw4,q0,q1,Q0,Q1,hq⟩;rw [hw4];clear hw4 w4;go_wp2_with fail;refine (Rb (uh HD) (by omega) (by omega) q q0 q1).mono ?_;rintro e w5 ⟨r2,cy,rfl,hcy,h5⟩;have hgs:w5.cell? ⟨w2.heap.size,j,none⟩=some (.int .i64 (Pl.aT s' j))∧w5.frozen? ⟨w2.heap.size,j,none⟩=false:=by
       have hD:=uh HD;have n2:=hD.n23;have hbs:=((uh h5).2.2.2.1.block w2.heap.size (z_ hD.bs) (by omega)).trans hD.bs;exact ⟨iJ hbs (by have:=hD.ls;omega),aH hbs _⟩
      by_cases hc0:0<=cy
      ·rw [aaB hc0];have HN:Hid (oH g1 g2 w2.heap.size w (w5.setCell ⟨w2.heap.size,j,none⟩ (.int .i64 q)) (Pl.lv a*tv) d r2 (s'.set j q) (b.length+1) (a.length+1) mq j):=by
        have hD:=uh HD;obtain ⟨x1,x2,x3,x4⟩:=uh hq;obtain ⟨y1,y2,y3,y4,y5,y6⟩:=uh h5;obtain ⟨u1,u2,u3⟩:=Pl.Gx (p:=p) hD.WV y2 (by have:=hD.ld;have:=(uh H4).1;omega) (uh H4).2.1 hD.low x2 x3 x4 hcy y5 y6;obtain ⟨v1,v2⟩:=u1 hc0;rw [<-v1] at v2 u3;exact hD.next (by omega) y4 y1 y2 y3 v2 u3 q0 q1
       obtain ⟨amm,amn⟩:=hgs;clear HD hq h5 hcy hc0;generalize Pl.aT s' j=y at *
       go_wp2;go_roundw
       case rel=>exact ⟨j,by omega,rfl,_,_,uh HN⟩
       case measure=>simp [intOf]
      ·rw [Z_ hc0];have HG:Hid (Calls Tryz.prog 105 #[.slice (some ⟨g2,0,none⟩) (a.length+1) (a.length+1),.slice (some ⟨g1,0,none⟩) (b.length+1) (b.length+1),.int .i64 j] w5 λe w'=>e=.returned (.tuple #[])∧1<=q∧(∃ y,w'.cell? ⟨w2.heap.size,j,none⟩=some (.int .i64 y))∧w'.frozen? ⟨w2.heap.size,j,none⟩=false∧Hid (∃ r3,oH g1 g2 w2.heap.size w (w'.setCell ⟨w2.heap.size,j,none⟩ (.int .i64 (q - 1))) (Pl.lv a*tv) d r3 (s'.set j (q - 1)) (b.length+1) (a.length+1) mq j)):=by
        have hD:=uh HD;obtain ⟨x1,x2,x3,x4⟩:=uh hq;obtain ⟨y1,y2,y3,y4,y5,y6⟩:=uh h5;obtain ⟨u1,u2,u3⟩:=Pl.Gx (p:=p) hD.WV y2 (by have:=hD.ld;have:=(uh H4).1;omega) (uh H4).2.1 hD.low x2 x3 x4 hcy y5 y6;obtain ⟨v1,v2⟩:=u2 (by omega);rw [<-x1] at v1 v2 u3;have eQ:Q=q - 1:=by omega
        rw [eQ] at v2 u3;refine (Rc hD (by omega) (by omega) y4 y1 y2 y3).mono ?_;rintro e w6 ⟨r3,c3,rfl,h6⟩;obtain ⟨z1,z2,z3,z4,z5,z6⟩:=uh h6;have n2:=hD.n23;have hbs:=(z4.block w2.heap.size (z_ hD.bs) (by omega)).trans hD.bs;exact ⟨rfl,by omega,⟨_,iJ hbs (by have:=hD.ls;omega)⟩,aH hbs _,r3,hD.next (by omega) z4 z1 z2 z3 (v2 r3 c3 z2 z6 z5) u3 (by omega) (by omega)⟩
       clear HD hq h5 hgs hcy hc0;go_wp2_with fail;refine (uh HG).mono ?_;rintro e w6 ⟨rfl,amo,⟨y,hcy⟩,hfz,HN⟩;clear HG;go_wp2;go_roundw
       case rel =>
        obtain ⟨r3,hN⟩:=uh HN;exact ⟨j,by omega,rfl,r3,_,hN⟩
       case measure=>simp [intOf]
     ·have hk0:k=0:=by omega
      subst hk0;rw [show ((0:Nat):Int) - 1=-1 from rfl];have HZ:Hid (Calls Tryz.prog 100 #[.slice (some ⟨g2,0,none⟩) (a.length+1) (a.length+1)] wr λe w'=>e=.returned (.bool res)∧w'=wr)∧Hid (aI w.heap.size wr (.slice (some ⟨w2.heap.size,0,none⟩) mq mq) s'∧Pl.ak s'∧s'.length<=a.length∧Pl.lv s'=Pl.lv a/Pl.lv b∧Below w.heap.size w wr):=by
       have hD:=uh HD;have hlr:=hD.lr;have hls:=hD.ls;have hlow:=hD.low;rw [Int.pow_zero,Int.mul_one] at hlow;obtain ⟨e1,e2⟩:=Pl.RL (show 0<tv by omega) (uh HQ).1 (uh H4).2.2.2 hD.sum (Pl.l8 hD.WV).1 hlow;have hz:=Dp r' _ wr (nS hD.br hlr) (by omega) hD.WV;rw [e2,<-uh HR] at hz;have n1:=hD.n12;have n2:=hD.n23;have n3:=hD.n1;exact ⟨hz,vM hD.bs hls (by omega) (by omega),hD.oks,by omega,e1,hD.U5⟩
      obtain ⟨HZ,HF⟩:=HZ;clear HD;go_wp2_with fail;refine (uh HZ).mono ?_;rintro e w4 ⟨rfl,hw4⟩;rw [hw4];clear hw4 w4 HZ;go_wp2;go_ret2;exact ⟨_,s',rfl,uh HF⟩
theorem yL (a b:List Int) (va vb:Value) (w:World) (ha:bI w va a) (hb:bI w vb b) (hal:a.length<=6000000000000) (hbl:b.length<=6000000000000) (oa:Pl.ak a) (ob:Pl.ak b) (hb0:0<b.length) (hl:Pl.aT b (b.length - 1)≠0) :
  Calls Tryz.prog 79 #[va,vb] w λe w'=>∃ v s,e=.returned (.tuple #[v,.bool (decide (Pl.lv a%Pl.lv b=0))])∧aI w.heap.size w' v s∧Pl.ak s∧s.length<=a.length∧Pl.lv s=Pl.lv a/Pl.lv b∧Below w.heap.size w w':=by
 by_cases h1:a.length<b.length
 ·exact Dr a b va vb w ha hb hal hbl oa ob hl h1
 ·by_cases h2:b.length=1
  ·exact Gb a b va vb w ha hb hal oa ob hl (by omega) h2
  ·exact Ea a b va vb w ha hb hal oa ob hl (by omega) (by omega)
def aj (P:Nat->Prop) (w:World) (v:Value) (n:Int):Prop :=
 (v=.agg #[.int .i64 n,.slice none 0 0]∧-4611686018427387904<n∧n<4611686018427387904) ∨
 ∃ l b off cap cs sg,v=.agg #[.int .i64 sg,.slice (some ⟨b,off,none⟩) l.length cap]∧P b∧w.heap[b]?=some (.cells cs 3 (0,0))∧(∀ i,i<l.length->cs[off+i]?=some (bF (Pl.aT l i)))∧Pl.ak l∧0<l.length∧Pl.aT l (l.length - 1)≠0∧(sg=1∨sg=-1)∧n=sg*Pl.lv l∧4611686018427387904<=Pl.lv l
theorem aj.bW {P:Nat->Prop} {w w':World} {v:Value} {n:Int} (h:aj P w v n) (hb:aA 3 w w'):aj P w' v n:=by
 rcases h with h|⟨l,b,off,cap,cs,sg,h1,h2,h3,h4⟩
 ·exact .inl h
 ·exact .inr ⟨l,b,off,cap,cs,sg,h1,h2,(hb b _ h3).trans h3,h4⟩
theorem aj.below {P:Nat->Prop} {w w':World} {v:Value} {n:Int} (h:aj P w v n) (hb:Below w.heap.size w w'):aj P w' v n:=h.bW (.aX hb)
theorem DL {w:World} {l:List Int} {b off cap:Nat} {cs:Array Value} (h3:w.heap[b]?=some (.cells cs 3 (0,0))) (h4:∀ i,i<l.length->cs[off+i]?=some (bF (Pl.aT l i))):bI w (.slice (some ⟨b,off,none⟩) l.length cap) l :=
 ⟨_,_,rfl,λi hi=>⟨b,off,rfl,by rw [cellsOf h3];exact h4 i hi⟩⟩
theorem aj.head {P:Nat->Prop} {w:World} {v:Value} {n:Int} (h:aj P w v n):∃ x ad m cap,v=.agg #[.int .i64 x,.slice ad m cap]∧(x<0↔n<0)∧(0<x↔0<n)∧-4611686018427387904<x∧x<4611686018427387904∧aj P w (.agg #[.int .i64 (-x),.slice ad m cap]) (-n):=by
 rcases h with ⟨rfl,h1,h2⟩|⟨l,b,off,cap,cs,sg,rfl,hP,hb,hc,h3,h4,h5,h6,h7,h8⟩
 ·exact ⟨n,none,0,0,rfl,Iff.rfl,Iff.rfl,h1,h2,.inl ⟨rfl,by omega,by omega⟩⟩
 ·refine ⟨sg,_,_,cap,rfl,?_,?_,by omega,by omega,.inr ⟨l,b,off,cap,cs,-sg,rfl,hP,hb,hc,h3,h4,h5,by omega,by rw [h7,aaP],h8⟩⟩
  ·rcases h6 with rfl | rfl <;> omega
  ·rcases h6 with rfl | rfl <;> omega
theorem fT {w1:World} {g:Nat} (h:w1.heap[g]?=some (.cells #[.int .i64 0,.slice none 0 0] 78 (0,0))):w1.cell? ⟨g,0,none⟩=some (.int .i64 0)∧w1.cell? ⟨g,1,none⟩=some (.slice none 0 0)∧w1.frozen? ⟨g,0,none⟩=false∧w1.frozen? ⟨g,1,none⟩=false :=
 ⟨by rw [cellsOf h];rfl,by rw [cellsOf h];rfl,aH h 0,aH h 1⟩
theorem vW {w1:World} {g:Nat} (h:w1.heap[g]?=some (.cells #[.int .i64 0,.slice none 0 0] 78 (0,0))) (u v:Value):aA 3 w1 ((w1.setCell ⟨g,0,none⟩ u).setCell ⟨g,1,none⟩ v):=by
 intro k cs hk;have hne:k≠g:=by
  intro e;subst e;rw [h] at hk;simp at hk
 rw [l_ _ _ _ _ (by simpa using hne),l_ _ _ _ _ (by simpa using hne)]
theorem GR (w:World) (o1 o2:Obj):((w.alloc o1).alloc o2).heap[w.heap.size+1]?=some o2:=by
 show ((w.heap.push o1).push o2)[w.heap.size+1]?=some o2;rw [Array.getElem?_push,h_ (by simp)]
theorem yH {w1:World} {g:Nat} (h:w1.heap[g]?=some (.cells #[.int .i64 0,.slice none 0 0] 78 (0,0))) (u v:Value):((w1.setCell ⟨g,0,none⟩ u).setCell ⟨g,1,none⟩ v).cell? ⟨g,0,none⟩=some u∧((w1.setCell ⟨g,0,none⟩ u).setCell ⟨g,1,none⟩ v).cell? ⟨g,1,none⟩=some v:=by
 have h1:=j_ w1 g 0 _ _ u h;have h2:=j_ (w1.setCell ⟨g,0,none⟩ u) g 1 _ _ v h1;exact ⟨by rw [cellsOf h2];rfl,by rw [cellsOf h2];rfl⟩
theorem Pl.Vp {l:List Int} (o:Pl.ak l) (h0:0<l.length) (h:Pl.aT l (l.length - 1)≠0):1073741824^(l.length - 1)<=Pl.lv l:=by
 have h1:=Pl.gG l (l.length - 1);have h2:=Pl.jk l (l.length - 1);rw [abp (show l.length<=l.length - 1+1 by omega)] at h2;simp only [Pl.lv,X_,Int.add_zero] at h2;have h3:=(Pl.nV o (l.length - 1)).1;have h4:=o.aT (l.length - 1);have h5:1073741824^(l.length - 1)*1<=1073741824^(l.length - 1)*Pl.aT l (l.length - 1):=o_ (by omega) (aaO (Pl.pow_pos _));rw [h2] at h1;omega
theorem Pl.MJ {l:List Int} (o:Pl.ak l) (h0:0<l.length) (h:Pl.aT l (l.length - 1)≠0) {K:Nat} (hK:Pl.lv l<1073741824^K):l.length<=K:=by
 rcases Nat.lt_or_ge K l.length with hlt|hge
 ·have:=Pl.Vp o h0 h;have:=Pl.nW (show K<=l.length - 1 by omega);omega
 ·exact hge
set_option maxHeartbeats 1000000 in
theorem bY (P:Nat->Prop) (v:Value) (n:Int) (w:World) (h:aj P w v n) :
  Calls Tryz.prog 46 #[v] w λe w'=>e=.returned (.int .i64 (Int.sign n))∧Below w.heap.size w w':=by
 obtain ⟨x,ad,m,cap,rfl,h1,h2,h3,h4,_⟩:=h.head;clear h;rcases (show n<0∨0<n∨n=0 by omega) with hn|hn|hn
 ·rw [E_ hn];have hx:=h1.2 hn;clear h1 h2 hn;go_enter Tryz.func46,Tryz.ntmps46;go_wp2;go_ret;exact ⟨rfl,(n_ _ _).alloc (d_ _) _⟩
 ·rw [J_ hn];have hx:=h2.2 hn;clear h1 h2 hn;go_enter Tryz.func46,Tryz.ntmps46;go_wp2;go_ret;exact ⟨rfl,(n_ _ _).alloc (d_ _) _⟩
 ·subst hn;have hx:x=0:=by omega
  subst hx;clear h1 h2;go_enter Tryz.func46,Tryz.ntmps46;go_wp2;go_ret;exact ⟨rfl,(n_ _ _).alloc (d_ _) _⟩
set_option maxHeartbeats 1000000 in
theorem lF (P:Nat->Prop) (v:Value) (n:Int) (w:World) (h:aj P w v n) :
  Calls Tryz.prog 38 #[v] w λe w'=>∃ v',e=.returned v'∧aj P w' v' (-n)∧Below w.heap.size w w':=by
 obtain ⟨x,ad,m,cap,rfl,h1,h2,h3,h4,h5⟩:=h.head;have HW:=af h5;clear h h1 h2 h5;go_enter Tryz.func38,Tryz.ntmps38;go_wp2;have hb:∀ o1 o2,Below w.heap.size w ((w.alloc o1).alloc o2):=λo1 o2=>((n_ _ w).alloc (d_ _) o1).alloc (by simp) o2;exact t_ (v:=.agg #[.int .i64 (-x),.slice ad m cap]) (by simp [results,Tryz.results38,go_sem]) rfl ⟨_,rfl,(uh HW).below (hb _ _),hb _ _⟩
set_option maxHeartbeats 1000000 in
theorem sZ (P:Nat->Prop) (v:Value) (n:Int) (w:World) (h:aj P w v n) :
  Calls Tryz.prog 86 #[v] w λe w'=>∃ v',e=.returned v'∧aj P w' v' (if n<0 then -n else n)∧Below w.heap.size w w':=by
 have HW:=af h;obtain ⟨x,ad,m,cap,rfl,h1,h2,h3,h4,_⟩:=h.head;clear h h2;have hb:∀ o1 o2,Below w.heap.size w ((w.alloc o1).alloc o2):=λo1 o2=>((n_ _ w).alloc (d_ _) o1).alloc (by simp) o2;by_cases hn:n<0
 ·rw [h_ hn];have hx:=h1.2 hn;have hN:=af (λo1 o2=>lF P _ n _ ((uh HW).below (hb o1 o2)));have HB:=af hb;clear h1 hn hb;go_enter Tryz.func86,Tryz.ntmps86;go_wp2_with fail;refine (uh hN _ _).mono ?_;rintro e w1 ⟨v',rfl,hv,hw1⟩;obtain ⟨x2,fH,m2,cap2,rfl,_⟩:=hv.head;have hblk:w1.heap[w.heap.size+1]?=some (.cells #[.int .i64 0,.slice none 0 0] 78 (0,0)):=by
   rw [hw1.block _ (by simp)];exact GR _ _ _
  obtain ⟨c0,c1,f0,f1⟩:=fT hblk;have HF:Hid (aj P ((w1.setCell ⟨w.heap.size+1,0,none⟩ (.int .i64 x2)).setCell ⟨w.heap.size+1,1,none⟩ (.slice fH m2 cap2)) (.agg #[.int .i64 x2,.slice fH m2 cap2]) (-n)∧Below w.heap.size w ((w1.setCell ⟨w.heap.size+1,0,none⟩ (.int .i64 x2)).setCell ⟨w.heap.size+1,1,none⟩ (.slice fH m2 cap2))) :=
   ⟨hv.bW (vW hblk _ _),((((uh HB) _ _).trans (hw1.mono (by simp;omega))).setCell (p:=⟨w.heap.size+1,0,none⟩) (by simp) _).setCell (p:=⟨w.heap.size+1,1,none⟩) (by simp) _⟩
  have HS:=af (yH hblk (.int .i64 x2) (.slice fH m2 cap2));clear hv hw1 hN hblk;go_wp2;exact t_ (v:=.agg #[.int .i64 x2,.slice fH m2 cap2]) (by simp [results,Tryz.results86,go_sem,(uh HS).1,(uh HS).2]) rfl ⟨_,rfl,uh HF⟩
 ·rw [g_ hn];have hx:¬ x<0:=λh=>hn (h1.1 h);have HB:=af hb;clear h1 hn hb;go_enter Tryz.func86,Tryz.ntmps86;go_wp2;exact t_ (v:=.agg #[.int .i64 x,.slice ad m cap]) (by simp [results,Tryz.results86,go_sem]) rfl ⟨_,rfl,(uh HW).below (uh HB _ _),uh HB _ _⟩
set_option maxHeartbeats 1000000 in
theorem MK (P:Nat->Prop) (v:Value) (n:Int) (w:World) (h:aj P w v n) :
  Calls Tryz.prog 31 #[v] w λe w'=>e=.returned (if -4611686018427387904<n∧n<4611686018427387904 then .tuple #[.int .i64 n,.bool true] else .tuple #[.int .i64 0,.bool false])∧Below w.heap.size w w':=by
 rcases h with ⟨rfl,h1,h2⟩|⟨l,b,off,cap,cs,sg,rfl,hP,hb,hc,h3,h4,h5,h6,h7,h8⟩
 ·rw [h_ ⟨h1,h2⟩];go_enter Tryz.func31,Tryz.ntmps31;go_wp2;go_ret2;exact ⟨rfl,(n_ _ _).alloc (d_ _) _⟩
 ·rw [g_ (by rcases h6 with rfl | rfl <;> omega)]
  clear hP hb hc h3 h5 h6 h7 h8;go_enter Tryz.func31,Tryz.ntmps31;go_wp2;go_ret2;exact ⟨rfl,(n_ _ _).alloc (d_ _) _⟩
end Go.Proofs.YtgaafamcajcifaaGreat
