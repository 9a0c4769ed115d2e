/- Joined: XWh1 XWh2 XWh3. -/
import Derived.Test.YtgaafamcajcifaaGreatK02
set_option linter.unusedVariables false
set_option linter.unusedSimpArgs false
set_option maxRecDepth 100000
namespace Go.Proofs.YtgaafamcajcifaaGreat
open Go.RowKit
theorem az {w:World} {v:Value} {l:List Int} (h:bI w v l):∃ ad cap,v=.slice ad l.length cap:=by
 obtain ⟨ad,cap,e,_⟩:=h;exact ⟨ad,cap,e⟩
def rowOf (s:List Int) (n:Nat):List Value:=(s++List.replicate (n - s.length) 0).map bF
theorem wB (s:List Int) (n:Nat) (d:Int) (h:s.length<n):(rowOf s n).toArray.setIfInBounds s.length (bF d)=(rowOf (s++[d]) n).toArray:=by
 apply Array.ext';obtain ⟨k,hk⟩:∃ k,n - s.length=k+1:=⟨n - s.length - 1,by omega⟩;have hk2:n - (s++[d]).length=k:=by simp;omega
 unfold rowOf;rw [hk,hk2];simp [List.replicate_succ,aa4]
theorem NV (s:List Int) (n:Nat) (h:s.length<=n):(rowOf s n).length=n:=by unfold rowOf;simp;omega
theorem Dn (s:List Int):rowOf s s.length=s.map bF:=by unfold rowOf;simp
theorem qp (n:Nat):(madeCells #[Value.int .i64 0] n).toList=rowOf [] n:=by
 apply List.ext_getElem
 ·simp [madeCells,rowOf]
 ·intro i h1 h2;simp [madeCells,bF,rowOf,Nat.mod_one]
theorem jr {w:World} {B:Nat} {e:TypeId} {g n:Nat} {xs:List Value} (h:w.ownsRow B e 1 (.slice (some ⟨g,0,none⟩) n n) n xs):w.heap[g]?=some (.cells xs.toArray e (0,0)):=by
 rcases h.2 with ⟨h1,_⟩|⟨g',cap,cur,he,hb,hgg,hle,hm,hcs,htk⟩
 ·simp at h1
 ·simp only [Value.slice.injEq,Option.some.injEq,Addr.mk.injEq,and_true,true_and] at he;obtain ⟨rfl,rfl⟩:=he;have:cur=xs.toArray:=by
   apply Array.ext';rw [<-htk];simp only [Nat.mul_one] at hcs ⊢;rw [aaE (by simp [hcs])]
  rw [hgg,this]
theorem tY {B:Nat} {w:World} {g n:Nat} {s:List Int} (h:w.heap[g]?=some (.cells (rowOf s n).toArray 3 (0,0))) (hs:s.length=n) (hB:B<=g) (hl:n<=15000000000000):aI B w (.slice (some ⟨g,0,none⟩) n n) s:=by
 subst hs;rw [Dn] at h;exact ⟨by simp,.inr ⟨g,s.length,_,rfl,hB,h,d_ _,by unfold maxLen;omega,by simp,by rw [aaE (by simp)]⟩⟩
theorem yZ {w:World} {g n k:Nat} {s:List Int} (h:w.heap[g]?=some (.cells (rowOf s n).toArray 3 (0,0))) (hs:s.length<=n) (hk:k<n):∃ u,w.cell? ⟨g,k,none⟩=some u:=by
 rw [cellsOf h];exact ⟨(rowOf s n)[k]'(by rw [NV s n hs];exact hk),by simp⟩
set_option maxHeartbeats 1000000 in
theorem gY (l:List Int) (v:Value) (i:Nat) (w:World) (h:bI w v l) (hl:l.length<=15000000000000) (hi:i<=30000000000000) :
  Calls Tryz.prog 99 #[v,.int .i64 i] w λe w'=>e=.returned (.int .i64 (Pl.aT l i))∧w'=w:=by
 have HH:=af h;obtain ⟨ad,cap,rfl⟩:=az h;clear h;by_cases hlt:i<l.length
 ·obtain ⟨b,o,rfl,hc⟩:=nT (uh HH) i hlt;have e:Pl.aT l i=l[i]:=by unfold Pl.aT;rw [a_,f_ hlt];rfl
  rw [e];generalize l[i]=d at *
  clear HH e;go_enter Tryz.func99,Tryz.ntmps99;go_wp2;go_ret;exact ⟨rfl,rfl⟩
 ·have e:Pl.aT l i=0:=by unfold Pl.aT;rw [a_,O_ (by omega)];rfl
  rw [e];clear HH e;go_enter Tryz.func99,Tryz.ntmps99;go_wp2;go_ret;exact ⟨rfl,rfl⟩
set_option maxHeartbeats 1000000 in
theorem xU (a b:List Int) (va vb:Value) (w:World) (ha:bI w va a) (hb:bI w vb b) (hal:a.length<=15000000000000) (hbl:b.length<=15000000000000) :
  Calls Tryz.prog 98 #[va,vb] w λe w'=>e=.returned (.int .i64 ((max a.length b.length:Nat):Int))∧w'=w:=by
 obtain ⟨ad,cap,rfl⟩:=az ha;obtain ⟨fH,cap2,rfl⟩:=az hb;clear ha hb;by_cases h:b.length<a.length
 ·go_enter Tryz.func98,Tryz.ntmps98;go_wp2;go_ret;exact ⟨Bd (by omega),rfl⟩
 ·go_enter Tryz.func98,Tryz.ntmps98;go_wp2;go_ret;exact ⟨Bd (by omega),rfl⟩
def Pl.xy (l:List Int) (n:Nat):Prop:=n<=l.length∧(∀ i,n<=i->Pl.aT l i=0)∧(0<n->Pl.aT l (n - 1)≠0)
set_option maxHeartbeats 1000000 in
theorem Ak (l:List Int) (v:Value) (w:World) (h:bI w v l) (hl:l.length<=15000000000000) :
  Calls Tryz.prog 97 #[v] w λe w'=>(∃ n:Nat,e=.returned (.int .i64 n)∧Pl.xy l n)∧w'=w:=by
 have HH:=af h;obtain ⟨ad,cap,rfl⟩:=az h;clear h;go_enter Tryz.func97,Tryz.ntmps97;go_wp2;go_loop [3] (λn=>∃ k:Nat,k<=l.length∧n=.int .i64 k∧Hid (∀ i,k<=i->Pl.aT l i=0)) (λn=>(intOf n).toNat)
 case atStart=>exact ⟨l.length,d_ _,rfl,λi hi=>by unfold Pl.aT;rw [a_,O_ (by omega)];rfl⟩
 case round =>
  obtain ⟨k,hk,rfl,hz⟩:=hrel;by_cases h0:0<k
  ·obtain ⟨m,rfl⟩:∃ m,k=m+1:=⟨k - 1,by omega⟩;obtain ⟨b,o,rfl,hc⟩:=nT (uh HH) m (by omega);have e:Pl.aT l m=l[m]:=by unfold Pl.aT;rw [a_,f_ (by omega)];rfl
   have HE:=af e;generalize l[m]=d at *
   clear e;by_cases hd:d=0
   ·subst hd;have HZ:Hid (∀ i,m<=i->Pl.aT l i=0):=λi hi=>by
     by_cases h:i=m
     ·subst h;exact uh HE
     ·exact uh hz i (by omega)
    clear hz HE;go_wp2;go_round
    case rel=>exact ⟨m,by omega,by go_num,HZ⟩
    case measure=>simp [intOf]
   ·have hdt:(d == 0)=false:=by simpa using hd
    have HT:Hid (Pl.xy l (m+1)):=⟨hk,uh hz,λ_=>by rw [Nat.add_sub_cancel,uh HE];exact hd⟩;clear hz HE hd;go_wp2;go_ret;exact ⟨⟨m+1,Bd (by omega),uh HT⟩,rfl⟩
  ·have HT:Hid (Pl.xy l k):=⟨hk,uh hz,λh=>absurd h h0⟩;clear hz;go_wp2;go_ret;exact ⟨⟨k,rfl,uh HT⟩,rfl⟩
set_option maxHeartbeats 2000000 in
theorem o7 (a b:List Int) (va vb:Value) (w:World) (ha:bI w va a) (hb:bI w vb b) (hal:a.length<=7500000000000) (hbl:b.length<=7500000000000) (oa:Pl.ak a) (ob:Pl.ak b) :
  Calls Tryz.prog 76 #[va,vb] w λe w'=>∃ v s,e=.returned v∧aI w.heap.size w' v s∧Pl.ak s∧s.length=max a.length b.length+1∧Pl.lv s=Pl.lv a+Pl.lv b∧Below w.heap.size w w':=by
 obtain ⟨i0,hi,hz0,hz1,hz2⟩:=U_ Tryz.jL;have hLo:=af (xU a b va vb w ha hb (by omega) (by omega));have HA:=af (λw1 (h:Below w.heap.size w w1) k (hk:k<=30000000000000)=>gY a va k w1 (ha.below h) (by omega) hk);have HB:=af (λw1 (h:Below w.heap.size w w1) k (hk:k<=30000000000000)=>gY b vb k w1 (hb.below h) (by omega) hk);obtain ⟨ad,cap,rfl⟩:=az ha;obtain ⟨fH,cap2,rfl⟩:=az hb;have HM:Hid (a.length<=max a.length b.length∧b.length<=max a.length b.length∧max a.length b.length<=7500000000000):=⟨by omega,by omega,by omega⟩;obtain ⟨m,hm⟩:∃ m,m=max a.length b.length:=⟨_,rfl⟩;rw [<-hm] at hLo HM ⊢;have hm5:=(uh HM).2.2;clear ha hb hm;go_enter Tryz.func76,Tryz.ntmps76;go_wp2_with fail;refine (uh hLo).mono ?_;rintro e w1 ⟨rfl,hw1⟩;rw [hw1];clear hw1 w1 hLo;go_wp2_with (at_make;refine wpList_make_full _ rfl _ _ 36 rfl w.heap.size 3 i0 (.int .i64 0) 1 Tryz.underlying36 hi hz0 hz1 .i64 .i64 _ _ (m+1) rfl rfl ?e1 ?e2 ?c1 ?c2 ?c3 ?_)
 case e1=>first | rfl | omega | simp
 case e2=>first | rfl | omega | simp
 case c1=>rw [hz2];omega
 case c2=>unfold maxLen;omega
 case c3=>omega
 ·intro w1 hown hgrow;have hb1:Below w.heap.size w w1:=(n_ _ _).grown hgrow (d_ _) (by intro k hk;cases hk);have hblk:w1.heap[w.heap.size]?=some (.cells (rowOf [] (m+1)).toArray 3 (0,0)):=by
   have:=jr hown;rw [qp] at this;exact this
  have H1:Hid (w1.heap[w.heap.size]?=some (.cells (rowOf [] (m+1)).toArray 3 (0,0))∧Below w.heap.size w w1):=⟨hblk,hb1⟩;clear hown hgrow hblk hb1;go_wp2_with fail;go_loopw [6,7] (λc i wr=>∃ (k:Nat) (s:List Int) (cy:Int),k<=m+1∧s.length=k∧i=.int .i64 k∧c=.int .i64 cy∧0<=cy∧cy<=1∧Hid (wr.heap[w.heap.size]?=some (.cells (rowOf s (m+1)).toArray 3 (0,0))∧Below w.heap.size w wr∧Pl.ak s∧Pl.lv s+1073741824^k*cy=Pl.pv a k+Pl.pv b k)) (λ_ i _=>m+1 - (intOf i).toNat)
  case atStart=>exact ⟨0,[],0,by omega,rfl,rfl,rfl,by omega,by omega,(uh H1).1,(uh H1).2,Pl.ak.nil,by simp [Pl.lv,Pl.pv]⟩
  case round =>
   obtain ⟨k,s,cy,hk,hsk,rfl,rfl,hc0,hc1,hh⟩:=hrel;have HSK:=af hsk;clear H1;by_cases hlt:k<m+1
   ·obtain ⟨q1,q2,q3,q4⟩:=uh hh;have hA:=af (uh HA wr q2 k (by omega));have hB:=af (uh HB wr q2 k (by omega));have da:=oa.aT k;have db:=ob.aT k;obtain ⟨u,WY⟩:=yZ (k:=k) q1 (by omega) hlt;have hfr:wr.frozen? ⟨w.heap.size,k,none⟩=false:=aH q1 _;have e1:Pl.pv a (k+1)=Pl.pv a k+1073741824^k*Pl.aT a k:=rfl;have e2:Pl.pv b (k+1)=Pl.pv b k+1073741824^k*Pl.aT b k:=rfl;have hst:=Pl.ni (1073741824^k) (cy+(Pl.aT a k+Pl.aT b k));have hmk:=Pl.rW (cy+(Pl.aT a k+Pl.aT b k)) (by omega) (by omega);obtain ⟨D,hD⟩:∃ D,D=(cy+(Pl.aT a k+Pl.aT b k))%1073741824:=⟨_,rfl⟩;have hD2:0<=D∧D<1073741824:=by omega
    have HN:Hid ((wr.setCell ⟨w.heap.size,k,none⟩ (.int .i64 D)).heap[w.heap.size]?=some (.cells (rowOf (s++[D]) (m+1)).toArray 3 (0,0))∧Below w.heap.size w (wr.setCell ⟨w.heap.size,k,none⟩ (.int .i64 D))∧Pl.ak (s++[D])∧Pl.lv (s++[D])+1073741824^(k+1)*((cy+(Pl.aT a k+Pl.aT b k))/1073741824)=Pl.pv a (k+1)+Pl.pv b (k+1)):=by
     refine ⟨?_,q2.setCell (p:=⟨w.heap.size,k,none⟩) (d_ _) _,q3.append (.cons hD2.1 hD2.2 .nil),?_⟩
     ·rw [j_ wr _ _ _ _ _ q1];have:=wB s (m+1) D (by omega);rw [hsk] at this;rw [<-this];rfl
     ·rw [Pl.Bo,hsk,e1,e2,aaC,hD];rw [Q_,Q_] at hst;omega
    rw [<-hD] at hmk;generalize Pl.aT a k=x at *
    generalize Pl.aT b k=y at *
    clear q1 q2 q3 q4 hh e1 e2 hst hD hsk;go_wp2_with fail;refine (uh hA).mono ?_;rintro e w2 ⟨rfl,hw2⟩;rw [hw2];clear hw2 w2 hA;go_wp2_with fail;refine (uh hB).mono ?_;rintro e w2 ⟨rfl,hw2⟩;rw [hw2];clear hw2 w2 hB;go_wp2;go_roundw
    case rel=>exact ⟨k+1,s++[D],_,by omega,by have:=uh HSK;simp [this],by go_num,rfl,by omega,by omega,HN⟩
    case measure=>simp [intOf];omega
   ·obtain ⟨q1,q2,q3,q4⟩:=uh hh;have hkk:k=m+1:=by omega
    have HF:Hid (aI w.heap.size wr (.slice (some ⟨w.heap.size,0,none⟩) (m+1) (m+1)) s∧Pl.ak s∧s.length=m+1∧Pl.lv s=Pl.lv a+Pl.lv b∧Below w.heap.size w wr):=by
     refine ⟨tY q1 (by omega) (d_ _) (by omega),q3,by omega,?_,q2⟩;rw [hkk,Pl.iL a (m+1) (by have:=(uh HM).1;omega),Pl.iL b (m+1) (by have:=(uh HM).2.1;omega)] at q4;have ba:=Pl.l8 oa;have bb:=Pl.l8 ob;have bs:=Pl.l8 q3;have pa:(1073741824:Int)^a.length<=1073741824^m:=Pl.nW (by have:=(uh HM).1;omega);have pb:(1073741824:Int)^b.length<=1073741824^m:=Pl.nW (by have:=(uh HM).2.1;omega);rw [aaC] at q4;have hp:=Pl.pow_pos m;have h2:cy=0:=by
      rcases (show cy=0∨cy=1 by omega) with h|h
      ·exact h
      ·rw [h] at q4;omega
     rw [h2] at q4;omega
    clear q1 q2 q3 q4 hh hsk hkk;go_wp2;go_ret;exact ⟨_,s,rfl,uh HF⟩
set_option maxHeartbeats 2000000 in
theorem iF (a b:List Int) (va vb:Value) (w:World) (ha:bI w va a) (hb:bI w vb b) (hal:a.length<=7500000000000) (hbl:b.length<=7500000000000) (oa:Pl.ak a) (ob:Pl.ak b) (hle:Pl.lv b<=Pl.lv a) :
  Calls Tryz.prog 78 #[va,vb] w λe w'=>∃ v s,e=.returned v∧aI w.heap.size w' v s∧Pl.ak s∧s.length=a.length∧Pl.lv s=Pl.lv a - Pl.lv b∧Below w.heap.size w w':=by
 obtain ⟨i0,hi,hz0,hz1,hz2⟩:=U_ Tryz.jL;have hLo:=af (xU a b va vb w ha hb (by omega) (by omega));have HA:=af (λw1 (h:Below w.heap.size w w1) k (hk:k<=30000000000000)=>gY a va k w1 (ha.below h) (by omega) hk);have HB:=af (λw1 (h:Below w.heap.size w w1) k (hk:k<=30000000000000)=>gY b vb k w1 (hb.below h) (by omega) hk);obtain ⟨ad,cap,rfl⟩:=az ha;obtain ⟨fH,cap2,rfl⟩:=az hb;have HM:Hid (True∧True∧a.length<=7500000000000):=⟨trivial,trivial,hal⟩;have hm:True:=trivial;have hm5:=(uh HM).2.2;clear ha hb hm;go_enter Tryz.func78,Tryz.ntmps78;go_wp2_with (at_make;refine wpList_make_full _ rfl _ _ 36 rfl w.heap.size 3 i0 (.int .i64 0) 1 Tryz.underlying36 hi hz0 hz1 .i64 .i64 _ _ (a.length) rfl rfl ?e1 ?e2 ?c1 ?c2 ?c3 ?_)
 case e1=>first | rfl | omega | simp
 case e2=>first | rfl | omega | simp
 case c1=>rw [hz2];omega
 case c2=>unfold maxLen;omega
 case c3=>omega
 ·intro w1 hown hgrow;have hb1:Below w.heap.size w w1:=(n_ _ _).grown hgrow (d_ _) (by intro k hk;cases hk);have hblk:w1.heap[w.heap.size]?=some (.cells (rowOf [] (a.length)).toArray 3 (0,0)):=by
   have:=jr hown;rw [qp] at this;exact this
  have H1:Hid (w1.heap[w.heap.size]?=some (.cells (rowOf [] (a.length)).toArray 3 (0,0))∧Below w.heap.size w w1):=⟨hblk,hb1⟩;clear hown hgrow hblk hb1;go_wp2_with fail;go_loopw [6,7] (λc i wr=>∃ (k:Nat) (s:List Int) (cy:Int),k<=a.length∧s.length=k∧i=.int .i64 k∧c=.int .i64 cy∧-1<=cy∧cy<=0∧Hid (wr.heap[w.heap.size]?=some (.cells (rowOf s (a.length)).toArray 3 (0,0))∧Below w.heap.size w wr∧Pl.ak s∧Pl.lv s+1073741824^k*cy=Pl.pv a k - Pl.pv b k)) (λ_ i _=>a.length - (intOf i).toNat)
  case atStart=>exact ⟨0,[],0,by omega,rfl,rfl,rfl,by omega,by omega,(uh H1).1,(uh H1).2,Pl.ak.nil,by simp [Pl.lv,Pl.pv]⟩
  case round =>
   obtain ⟨k,s,cy,hk,hsk,rfl,rfl,hc0,hc1,hh⟩:=hrel;have HSK:=af hsk;clear H1;by_cases hlt:k<a.length
   ·obtain ⟨q1,q2,q3,q4⟩:=uh hh;have hA:=af (uh HA wr q2 k (by omega));have hB:=af (uh HB wr q2 k (by omega));have da:=oa.aT k;have db:=ob.aT k;obtain ⟨u,WY⟩:=yZ (k:=k) q1 (by omega) hlt;have hfr:wr.frozen? ⟨w.heap.size,k,none⟩=false:=aH q1 _;have e1:Pl.pv a (k+1)=Pl.pv a k+1073741824^k*Pl.aT a k:=rfl;have e2:Pl.pv b (k+1)=Pl.pv b k+1073741824^k*Pl.aT b k:=rfl;have hst:=Pl.ni (1073741824^k) (cy+(Pl.aT a k - Pl.aT b k));have hmk:=Pl.rW (cy+(Pl.aT a k - Pl.aT b k)) (by omega) (by omega);obtain ⟨D,hD⟩:∃ D,D=(cy+(Pl.aT a k - Pl.aT b k))%1073741824:=⟨_,rfl⟩;have hD2:0<=D∧D<1073741824:=by omega
    have HN:Hid ((wr.setCell ⟨w.heap.size,k,none⟩ (.int .i64 D)).heap[w.heap.size]?=some (.cells (rowOf (s++[D]) (a.length)).toArray 3 (0,0))∧Below w.heap.size w (wr.setCell ⟨w.heap.size,k,none⟩ (.int .i64 D))∧Pl.ak (s++[D])∧Pl.lv (s++[D])+1073741824^(k+1)*((cy+(Pl.aT a k - Pl.aT b k))/1073741824)=Pl.pv a (k+1) - Pl.pv b (k+1)):=by
     refine ⟨?_,q2.setCell (p:=⟨w.heap.size,k,none⟩) (d_ _) _,q3.append (.cons hD2.1 hD2.2 .nil),?_⟩
     ·rw [j_ wr _ _ _ _ _ q1];have:=wB s (a.length) D (by omega);rw [hsk] at this;rw [<-this];rfl
     ·rw [Pl.Bo,hsk,e1,e2,aaC,hD];rw [Q_,aaI] at hst;omega
    rw [<-hD] at hmk;generalize Pl.aT a k=x at *
    generalize Pl.aT b k=y at *
    clear q1 q2 q3 q4 hh e1 e2 hst hD hsk;go_wp2_with fail;refine (uh hA).mono ?_;rintro e w2 ⟨rfl,hw2⟩;rw [hw2];clear hw2 w2 hA;go_wp2_with fail;refine (uh hB).mono ?_;rintro e w2 ⟨rfl,hw2⟩;rw [hw2];clear hw2 w2 hB;go_wp2;go_roundw
    case rel=>exact ⟨k+1,s++[D],_,by omega,by have:=uh HSK;simp [this],by go_num,rfl,by omega,by omega,HN⟩
    case measure=>simp [intOf];omega
   ·obtain ⟨q1,q2,q3,q4⟩:=uh hh;have hkk:k=a.length:=by omega
    have HF:Hid (aI w.heap.size wr (.slice (some ⟨w.heap.size,0,none⟩) a.length a.length) s∧Pl.ak s∧s.length=a.length∧Pl.lv s=Pl.lv a - Pl.lv b∧Below w.heap.size w wr):=by
     refine ⟨tY q1 (by omega) (d_ _) (by omega),q3,by omega,?_,q2⟩;rw [hkk,Pl.iL a a.length (d_ _),Pl.VR ob a.length (Int.lt_of_le_of_lt hle (Pl.l8 oa).2)] at q4;have bs:=Pl.l8 q3;rw [hsk,hkk] at bs;have hp:=Pl.pow_pos a.length;have h2:cy=0:=by
      rcases (show cy=0∨cy=-1 by omega) with h|h
      ·exact h
      ·rw [h] at q4;omega
     rw [h2] at q4;omega
    clear q1 q2 q3 q4 hh hsk hkk;go_wp2;go_ret;exact ⟨_,s,rfl,uh HF⟩
theorem Pl.Ju {l:List Int} {i:Nat} (h:i<l.length):Pl.aT l i=l[i]:=by unfold Pl.aT;rw [a_,f_ h];rfl
theorem Pl.qX {l:List Int} {i:Nat} (h:l.length<=i):Pl.aT l i=0:=by unfold Pl.aT;rw [a_,O_ h];rfl
theorem Pl.wG {l:List Int} {t i:Nat} {d:Int} (h:t<l.length):Pl.aT (l.set t d) i=if i=t then d else Pl.aT l i:=by
 unfold Pl.aT;rw [a_,a_,List.getElem?_set];by_cases e:t=i
 ·subst e;simp [h]
 ·rw [g_ e,g_ (λh=>e h.symm)]
theorem Pl.Ae (l:List Int):∀ (t:Nat) (d:Int),t<l.length->Pl.lv (l.set t d)=Pl.lv l+1073741824^t*(d - Pl.aT l t):=by
 induction l with
 | nil=>intro t d h;simp at h
 | cons x l ih =>
  intro t d h;cases t with
  | zero=>simp [Pl.lv,Pl.aT];omega
  | succ t =>
   have hd:Pl.aT (x::l) (t+1)=Pl.aT l t:=by simp [Pl.aT]
   rw [G_,Pl.lv,Pl.lv,ih t d (by simpa using h),hd,aaC,Q_,u_ (1073741824^t) 1073741824,y_];omega
theorem Pl.ak.set {l:List Int} (h:Pl.ak l) (t:Nat) {d:Int} (h0:0<=d) (h1:d<1073741824):Pl.ak (l.set t d):=by
 intro x hx;rcases List.mem_or_eq_of_mem_set hx with hx|rfl
 ·exact h x hx
 ·exact ⟨h0,h1⟩
theorem jJ (l:List Int) (t:Nat) (d:Int):(l.map bF).toArray.setIfInBounds t (bF d)=((l.set t d).map bF).toArray:=by
 apply Array.ext';simp [List.map_set]
theorem iJ {w:World} {g k:Nat} {l:List Int} (h:w.heap[g]?=some (.cells (l.map bF).toArray 3 (0,0))) (hk:k<l.length):w.cell? ⟨g,k,none⟩=some (.int .i64 (Pl.aT l k)):=by
 rw [cellsOf h,Pl.Ju hk];simp [bF,hk]
theorem vM {B:Nat} {w:World} {g n:Nat} {s:List Int} (h:w.heap[g]?=some (.cells (s.map bF).toArray 3 (0,0))) (hs:s.length=n) (hB:B<=g) (hl:n<=15000000000000):aI B w (.slice (some ⟨g,0,none⟩) n n) s:=by
 subst hs;exact ⟨by simp,.inr ⟨g,s.length,_,rfl,hB,h,d_ _,by unfold maxLen;omega,by simp,by rw [aaE (by simp)]⟩⟩
theorem kG {w:World} {v:Value} {l:List Int} (h:bI w v l) (k:Nat) (hk:k<l.length):∃ b o cap,v=.slice (some ⟨b,o,none⟩) l.length cap∧w.cell? ⟨b,o+k,none⟩=some (.int .i64 (Pl.aT l k)):=by
 obtain ⟨ad,cap,rfl⟩:=az h;obtain ⟨b,o,rfl,hc⟩:=nT h k hk;exact ⟨b,o,cap,rfl,by rw [hc,Pl.Ju hk]⟩
theorem Pl.Q8 {P c x y p L R:Int} (h:L+P*c=R):L+P*((c+(p+x*y))%1073741824 - p)+P*1073741824*((c+(p+x*y))/1073741824)=R+P*(x*y):=by
 have:=Pl.ni P (c+(p+x*y));rw [Q_,Q_] at this;rw [aaI];omega
set_option maxHeartbeats 4000000 in
theorem tC (a b:List Int) (va vb:Value) (w:World) (ha:bI w va a) (hb:bI w vb b) (hal:a.length<=6000000000000) (hbl:b.length<=6000000000000) (oa:Pl.ak a) (ob:Pl.ak b) :
  Calls Tryz.prog 81 #[va,vb] w λe w'=>∃ v s,e=.returned v∧aI w.heap.size w' v s∧Pl.ak s∧s.length=a.length+b.length∧Pl.lv s=Pl.lv a*Pl.lv b∧Below w.heap.size w w':=by
 obtain ⟨i0,hi,hz0,hz1,hz2⟩:=U_ Tryz.jL;have HA:=af ha;have HB:=af hb;obtain ⟨ad,cap,rfl⟩:=az ha;obtain ⟨fH,cap2,rfl⟩:=az hb;clear ha hb;go_enter Tryz.func81,Tryz.ntmps81;go_wp2_with (at_make;refine wpList_make_full _ rfl _ _ 36 rfl w.heap.size 3 i0 (.int .i64 0) 1 Tryz.underlying36 hi hz0 hz1 .i64 .i64 _ _ (a.length+b.length) rfl rfl ?e1 ?e2 ?c1 ?c2 ?c3 ?_)
 case e1=>first | rfl | omega | simp
 case e2=>first | rfl | omega | simp
 case c1=>rw [hz2];omega
 case c2=>unfold maxLen;omega
 case c3=>omega
 ·intro w1 hown hgrow;have hb1:Below w.heap.size w w1:=(n_ _ _).grown hgrow (d_ _) (by intro k hk;cases hk);have hblk:w1.heap[w.heap.size]?=some (.cells ((List.replicate (a.length+b.length) (0:Int)).map bF).toArray 3 (0,0)):=by
   have:=jr hown;rw [qp] at this;rw [this];simp [rowOf]
  have H1:Hid (w1.heap[w.heap.size]?=some (.cells ((List.replicate (a.length+b.length) (0:Int)).map bF).toArray 3 (0,0))∧Below w.heap.size w w1):=⟨hblk,hb1⟩;clear hown hgrow hblk hb1;go_wp2_with fail;go_loopw [6] (λi wr=>∃ (k:Nat) (p:List Int),k<=a.length∧i=.int .i64 k∧Hid (p.length=a.length+b.length∧wr.heap[w.heap.size]?=some (.cells (p.map bF).toArray 3 (0,0))∧Below w.heap.size w wr∧Pl.ak p∧Pl.lv p=Pl.pv a k*Pl.lv b∧∀ t,k+b.length<=t->Pl.aT p t=0)) (λi _=>a.length - (intOf i).toNat)
  case atStart =>
   refine ⟨0,_,by omega,rfl,by simp,(uh H1).1,(uh H1).2,λd hd=>?_,?_,λt _=>?_⟩
   ·rw [(List.mem_replicate.1 hd).2];omega
   ·have:=Pl.CF [] (a.length+b.length);simp [Pl.lv] at this;rw [this];simp [Pl.pv]
   ·unfold Pl.aT;rw [a_,List.getElem?_replicate];split <;> rfl
  case round =>
   obtain ⟨k,p,hk,rfl,hh⟩:=hrel;clear H1;by_cases hlt:k<a.length
   ·obtain ⟨b1,o1,TY,hv1,MP⟩:=kG (uh HA) k hlt;obtain ⟨rfl,_,rfl⟩:ad=some ⟨b1,o1,none⟩∧True∧TY=cap:=by simp only [Value.slice.injEq] at hv1;exact ⟨hv1.1,trivial,hv1.2.2.symm⟩
    clear hv1;have da:=oa.aT k;have HK:=af hh;clear hh;go_wp2_with fail;go_loopw [7,8] (λc j ws=>∃ (t:Nat) (q:List Int) (cy:Int),t<=b.length∧j=.int .i64 t∧c=.int .i64 cy∧0<=cy∧cy<1073741824∧Hid (q.length=a.length+b.length∧ws.heap[w.heap.size]?=some (.cells (q.map bF).toArray 3 (0,0))∧Below w.heap.size w ws∧Pl.ak q∧Pl.lv q+1073741824^(k+t)*cy=Pl.pv a k*Pl.lv b+1073741824^k*(Pl.aT a k*Pl.pv b t)∧∀ t,k+b.length<=t->Pl.aT q t=0)) (λ_ j _=>b.length - (intOf j).toNat)
    case atStart =>
     obtain ⟨q1,q2,q3,q4,q5,q6⟩:=uh HK;exact ⟨0,p,0,by omega,rfl,rfl,by omega,by omega,q1,q2,q3,q4,by simp [Pl.pv,q5],q6⟩
    case round =>
     obtain ⟨t,q,cy,ht,rfl,rfl,hc0,hc1,hq⟩:=hrel;clear HK;obtain ⟨q1,q2,q3,q4,q5,q6⟩:=uh hq;by_cases hlt2:t<b.length
     ·obtain ⟨b2,o2,cp2,hv2,hcb0⟩:=kG (uh HB) t hlt2;obtain ⟨rfl,_,rfl⟩:fH=some ⟨b2,o2,none⟩∧True∧cp2=cap2:=by simp only [Value.slice.injEq] at hv2;exact ⟨hv2.1,trivial,hv2.2.2.symm⟩
      clear hv2;have hkt:k+t<a.length+b.length:=by omega
      have hca:=rG q3 MP;have hcb:=rG q3 hcb0;have hcp:=iJ q2 (k:=k+t) (by omega);have hfr:wr.frozen? ⟨w.heap.size,k+t,none⟩=false:=aH q2 _;have db:=ob.aT t;have dp:=q4.aT (k+t);have hm1:0<=Pl.aT a k*Pl.aT b t:=Y_ da.1 db.1;have hm2:Pl.aT a k*Pl.aT b t<=1073741823*1073741823:=Int.mul_le_mul (by omega) (by omega) db.1 (by omega);have hst:=Pl.Q8 (x:=Pl.aT a k) (y:=Pl.aT b t) (p:=Pl.aT q (k+t)) q5;have hwx:wrap64 (Pl.aT a k*Pl.aT b t)=Pl.aT a k*Pl.aT b t:=by unfold wrap64;omega
      obtain ⟨XY,LJ⟩:∃ XY,XY=Pl.aT a k*Pl.aT b t:=⟨_,rfl⟩;rw [<-LJ] at hm1 hm2 hst;have aaw:wrap64 (Pl.aT a k*Pl.aT b t)=XY:=by rw [hwx,LJ]
      have hmk:=Pl.rW (cy+(Pl.aT q (k+t)+XY)) (by omega) (by omega);obtain ⟨D,hD⟩:∃ D,D=(cy+(Pl.aT q (k+t)+XY))%1073741824:=⟨_,rfl⟩;have hD2:0<=D∧D<1073741824:=by omega
      have HN:Hid (∀ n,(q.set (k+t) D).length=a.length+b.length∧((wr.drewN n).setCell ⟨w.heap.size,k+t,none⟩ (.int .i64 D)).heap[w.heap.size]?=some (.cells ((q.set (k+t) D).map bF).toArray 3 (0,0))∧Below w.heap.size w ((wr.drewN n).setCell ⟨w.heap.size,k+t,none⟩ (.int .i64 D))∧Pl.ak (q.set (k+t) D)∧Pl.lv (q.set (k+t) D)+1073741824^(k+(t+1))*((cy+(Pl.aT q (k+t)+XY))/1073741824)=Pl.pv a k*Pl.lv b+1073741824^k*(Pl.aT a k*Pl.pv b (t+1))∧∀ s,k+b.length<=s->Pl.aT (q.set (k+t) D) s=0):=by
       intro n;refine ⟨by simp [q1],?_,(abb q3 n).setCell (p:=⟨w.heap.size,k+t,none⟩) (d_ _) _,q4.set _ hD2.1 hD2.2,?_,λs hs=>?_⟩
       ·rw [j_ (wr.drewN n) _ _ _ _ _ q2];rw [<-jJ];rfl
       ·rw [Pl.Ae q (k+t) D (by omega),hD,<-abr,aaC,hst,Pl.pv,Q_,Q_,LJ,Int.pow_add,r_ (Pl.aT a k),y_ (1073741824^k)];omega
       ·rw [Pl.wG (by omega),g_ (by omega)];exact q6 s hs
      rw [<-hD] at hmk;generalize Pl.aT q (k+t)=pd at *
      generalize Pl.aT a k=x at *
      generalize Pl.aT b t=y at *
      clear hq q1 q2 q3 q4 q5 q6 hst hwx LJ hD hcb0;go_wp2_with fail;go_quiet (fail);go_wp2;go_roundw
      case rel=>exact ⟨t+1,_,_,by omega,by go_num,rfl,by omega,by omega,uh HN _⟩
      case measure=>simp [intOf];omega
     ·have htt:t=b.length:=by omega
      have hkt:k+b.length<a.length+b.length:=by omega
      have hcp:=iJ q2 (k:=k+b.length) (by omega);have hfr:wr.frozen? ⟨w.heap.size,k+b.length,none⟩=false:=aH q2 _;have HN:Hid ((q.set (k+b.length) cy).length=a.length+b.length∧(wr.setCell ⟨w.heap.size,k+b.length,none⟩ (.int .i64 cy)).heap[w.heap.size]?=some (.cells ((q.set (k+b.length) cy).map bF).toArray 3 (0,0))∧Below w.heap.size w (wr.setCell ⟨w.heap.size,k+b.length,none⟩ (.int .i64 cy))∧Pl.ak (q.set (k+b.length) cy)∧Pl.lv (q.set (k+b.length) cy)=Pl.pv a (k+1)*Pl.lv b∧∀ s,k+1+b.length<=s->Pl.aT (q.set (k+b.length) cy) s=0):=by
       refine ⟨by simp [q1],?_,q3.setCell (p:=⟨w.heap.size,k+b.length,none⟩) (d_ _) _,q4.set _ hc0 hc1,?_,λs hs=>?_⟩
       ·rw [j_ wr _ _ _ _ _ q2];rw [<-jJ];rfl
       ·rw [Pl.Ae q (k+b.length) cy (by omega),q6 (k+b.length) (d_ _)];rw [htt,Pl.iL b b.length (d_ _)] at q5;rw [Pl.pv,aaN,y_,<-q5];simp
       ·rw [Pl.wG (by omega),g_ (by omega)];exact q6 s (by omega)
      clear hq q1 q2 q3 q4 q5 q6;go_wp2;go_roundw
      case rel=>exact ⟨k+1,_,by omega,by go_num,HN⟩
      case measure=>simp [intOf];omega
   ·obtain ⟨q1,q2,q3,q4,q5,q6⟩:=uh hh;have hkk:k=a.length:=by omega
    have HF:Hid (aI w.heap.size wr (.slice (some ⟨w.heap.size,0,none⟩) (a.length+b.length) (a.length+b.length)) p∧Pl.ak p∧p.length=a.length+b.length∧Pl.lv p=Pl.lv a*Pl.lv b∧Below w.heap.size w wr) :=
     ⟨vM q2 q1 (d_ _) (by omega),q4,q1,by rw [q5,hkk,Pl.iL a a.length (d_ _)],q3⟩
    clear q1 q2 q3 q4 q5 q6 hh hkk;go_wp2;go_ret;exact ⟨_,p,rfl,uh HF⟩
theorem Pl.yw {a b:List Int} {m:Nat} (h:∀ t,m<=t->Pl.aT a t=Pl.aT b t):∀ n,m<=n->Pl.pv a n - Pl.pv b n=Pl.pv a m - Pl.pv b m:=by
 intro n hn;obtain ⟨k,rfl⟩:∃ k,n=m+k:=⟨n - m,by omega⟩
 induction k with
 | zero=>rfl
 | succ k ih =>
  have:=ih (by omega);rw [<-abr,Pl.pv,Pl.pv,h (m+k) (by omega)];omega
theorem Pl.BA {a b:List Int} (oa:Pl.ak a) (ob:Pl.ak b) {m:Nat} (h:∀ t,m+1<=t->Pl.aT a t=Pl.aT b t) (hlt:Pl.aT a m<Pl.aT b m):Pl.lv a<Pl.lv b:=by
 have e:=Pl.yw h (max (max a.length b.length) (m+1)) (by omega);rw [Pl.iL a _ (by omega),Pl.iL b _ (by omega),Pl.pv,Pl.pv] at e;have b1:=Pl.nV oa m;have b2:=Pl.nV ob m;have hp:=Pl.pow_pos m;have:1073741824^m*(Pl.aT a m+1)<=1073741824^m*Pl.aT b m:=o_ (by omega) (by omega);rw [Q_] at this;omega
set_option maxHeartbeats 2000000 in
theorem tu (a b:List Int) (va vb:Value) (w:World) (ha:bI w va a) (hb:bI w vb b) (hal:a.length<=7500000000000) (hbl:b.length<=7500000000000) (oa:Pl.ak a) (ob:Pl.ak b) :
  Calls Tryz.prog 77 #[va,vb] w λe w'=>e=.returned (.bool (decide (Pl.lv a<Pl.lv b)))∧w'=w:=by
 have hLo:=af (xU a b va vb w ha hb (by omega) (by omega));have HA:=af (λk (hk:k<=30000000000000)=>gY a va k w ha (by omega) hk);have HB:=af (λk (hk:k<=30000000000000)=>gY b vb k w hb (by omega) hk);obtain ⟨ad,cap,rfl⟩:=az ha;obtain ⟨fH,cap2,rfl⟩:=az hb;have HM:Hid (a.length<=max a.length b.length∧b.length<=max a.length b.length):=⟨by omega,by omega⟩;obtain ⟨m,hm⟩:∃ m,m=max a.length b.length:=⟨_,rfl⟩;have hm5:m<=7500000000000:=by omega
 rw [<-hm] at hLo HM;clear ha hb hm;obtain ⟨res,hres⟩:∃ res,res=decide (Pl.lv a<Pl.lv b):=⟨_,rfl⟩;rw [<-hres];have HR:=af hres;clear hres;go_enter Tryz.func77,Tryz.ntmps77;go_wp2_with fail;refine (uh hLo).mono ?_;rintro e w1 ⟨rfl,hw1⟩;rw [hw1];clear hw1 w1 hLo;go_wp2_with fail;go_loop [5] (λi=>∃ k:Nat,k<=m∧i=.int .i64 ((k:Int) - 1)∧Hid (∀ t,k<=t->Pl.aT a t=Pl.aT b t)) (λi=>(intOf i+1).toNat)
 case atStart=>exact ⟨m,d_ _,rfl,λt ht=>by rw [Pl.qX (by have:=(uh HM).1;omega),Pl.qX (by have:=(uh HM).2;omega)]⟩
 case round =>
  obtain ⟨k,hk,rfl,hz⟩:=hrel;by_cases h0:0<k
  ·obtain ⟨j,rfl⟩:∃ j,k=j+1:=⟨k - 1,by omega⟩;have hA:=af (uh HA j (by omega));have hB:=af (uh HB j (by omega));have ej:((j+1:Nat):Int) - 1=(j:Int):=by omega
   rw [ej];by_cases he:Pl.aT a j=Pl.aT b j
   ·have HZ:Hid (∀ t,j<=t->Pl.aT a t=Pl.aT b t):=λt ht=>by
     by_cases h:t=j
     ·subst h;exact he
     ·exact uh hz t (by omega)
    rw [he] at hA;generalize Pl.aT b j=y at *
    clear hz he ej;go_wp2_with fail;refine (uh hA).mono ?_;rintro e w2 ⟨rfl,hw2⟩;rw [hw2];clear hw2 w2 hA;go_wp2_with fail;refine (uh hB).mono ?_;rintro e w2 ⟨rfl,hw2⟩;rw [hw2];clear hw2 w2 hB;go_wp2;go_round
    case rel=>exact ⟨j,by omega,rfl,HZ⟩
    case measure=>simp [intOf]
   ·have HR2:Hid (res=decide (Pl.aT a j<Pl.aT b j)):=by
     show res=decide (Pl.aT a j<Pl.aT b j);rw [uh HR];by_cases hlt:Pl.aT a j<Pl.aT b j
     ·rw [aaB hlt,aaB (Pl.BA oa ob (uh hz) hlt)]
     ·have:=Pl.BA ob oa (λt ht=>(uh hz t ht).symm) (show Pl.aT b j<Pl.aT a j by omega);rw [Z_ hlt,Z_ (by omega)]
    have hnt:(Pl.aT a j != Pl.aT b j)=true:=by simpa using he
    generalize Pl.aT a j=x at *
    generalize Pl.aT b j=y at *
    clear hz he ej HR;go_wp2_with fail;refine (uh hA).mono ?_;rintro e w2 ⟨rfl,hw2⟩;rw [hw2];clear hw2 w2 hA;go_wp2_with fail;refine (uh hB).mono ?_;rintro e w2 ⟨rfl,hw2⟩;rw [hw2];clear hw2 w2 hB;go_wp2;go_ret;exact ⟨Cj (uh HR2).symm,rfl⟩
  ·have hk0:k=0:=by omega
   subst hk0;have HR2:Hid (res=false):=by
    show res=false;rw [uh HR,Z_];have e:=Pl.yw (uh hz) m (aaZ _);rw [Pl.iL a _ (uh HM).1,Pl.iL b _ (uh HM).2] at e;simp [Pl.pv] at e;omega
   clear hz HR;go_wp2;go_ret;exact ⟨Cj (uh HR2).symm,rfl⟩
set_option maxHeartbeats 1000000 in
theorem Dp (l:List Int) (v:Value) (w:World) (h:bI w v l) (hl:l.length<=15000000000000) (o:Pl.ak l) :
  Calls Tryz.prog 100 #[v] w λe w'=>e=.returned (.bool (decide (Pl.lv l=0)))∧w'=w:=by
 have hT:=af (Ak l v w h hl);obtain ⟨ad,cap,rfl⟩:=az h;clear h;go_enter Tryz.func100,Tryz.ntmps100;go_wp2_with fail;refine (uh hT).mono ?_;rintro e w1 ⟨⟨n,rfl,ht⟩,hw1⟩;rw [hw1];have HE:Hid (decide (Pl.lv l=0)=((n:Int) == 0)):=by
  show decide (Pl.lv l=0)=((n:Int) == 0);by_cases h0:n=0
  ·subst h0;have e:=Pl.yw (a:=l) (b:=[]) (m:=0) (λt ht2=>by rw [ht.2.1 t ht2,Pl.qX (by simp)]) l.length (aaZ _);rw [Pl.iL l _ (d_ _),Pl.iL [] _ (aaZ _)] at e;simp [Pl.pv,Pl.lv] at e;simp [e,Hid]
  ·have hd:=ht.2.2 (by omega);have h1:=o.aT (n - 1);have h2:Pl.lv []<Pl.lv l:=Pl.BA .nil o (m:=n - 1) (λt ht2=>by rw [ht.2.1 t (by omega),Pl.qX (by simp)]) (by rw [Pl.qX (by simp)];omega);have h3:Pl.lv l≠0:=by simp [Pl.lv] at h2;omega
   rw [Z_ h3];simp;omega
 clear hw1 w1 hT ht;go_wp2;go_ret;exact ⟨Cj (uh HE).symm,rfl⟩
end Go.Proofs.YtgaafamcajcifaaGreat
