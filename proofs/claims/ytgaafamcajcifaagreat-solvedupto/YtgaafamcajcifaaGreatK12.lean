/- Joined: XInt2 XInt3 XInt4. -/
import Derived.Test.YtgaafamcajcifaaGreatK11
set_option linter.unusedVariables false
set_option linter.unusedSimpArgs false
set_option maxRecDepth 100000
namespace Go.Proofs.YtgaafamcajcifaaGreat
open Go.RowKit
theorem Pl.Bn {l:List Int} {n:Nat} (h:Pl.xy l n):Pl.lv (l.take n)=Pl.lv l:=by
 have e:=Pl.pJ (l.take n) (l.drop n);rw [List.take_append_drop] at e;have:∀ k,n<=k->Pl.lv (l.drop k)=0:=by
  intro k hk;by_cases hkl:k<l.length
  ·obtain ⟨j,hj⟩:∃ j,j=l.length - k:=⟨_,rfl⟩
   induction j generalizing k with
   | zero=>omega
   | succ j ih =>
    rw [Pl.jk l k,h.2.1 k hk];by_cases h2:k+1<l.length
    ·rw [ih (k+1) (by omega) h2 (by omega)];rfl
    ·rw [abp (by omega)];rfl
  ·rw [abp (by omega)];rfl
 rw [this n (d_ _)] at e;omega
theorem Pl.GU {l:List Int} {n i:Nat} (h:i<n):Pl.aT (l.take n) i=Pl.aT l i:=by
 unfold Pl.aT;rw [a_,a_,List.getElem?_take];simp [h]
theorem Pl.iX {l:List Int} (o:Pl.ak l) (k:Nat):0<=Pl.lv (l.drop k):=(Pl.l8 (o.drop k)).1
theorem Pl.xz {l:List Int} (o:Pl.ak l) (k:Nat):Pl.lv (l.drop k)<=Pl.lv l:=by
 have h1:=Pl.gG l k;have h2:=(Pl.nV o k).1;have h3:=Pl.iX o k;have h4:1*Pl.lv (l.drop k)<=1073741824^k*Pl.lv (l.drop k):=A_ (by have:=Pl.pow_pos k;omega) h3;omega
theorem Vx {P:Nat->Prop} {w:World} {l:List Int} {sg:Int} {g n cap:Nat} {cur:Array Value} (hP:P g) (hg:w.heap[g]?=some (.cells cur 3 (0,0))) (hc:∀ i,i<l.length->cur[0+i]?=some (bF (Pl.aT l i))) (o:Pl.ak l) (ht:Pl.xy l n) (h0:0<n) (hs:sg=1∨sg=-1) (hb:4611686018427387904<=Pl.lv l) :
  aj P w (.agg #[.int .i64 sg,.slice (some ⟨g,0,none⟩) n cap]) (sg*Pl.lv l):=by
 have hn:=ht.1;have hl:(l.take n).length=n:=by simp;omega
 refine .inr ⟨l.take n,g,0,cap,cur,sg,by rw [hl],hP,hg,λi hi=>?_,o.take n,by omega,?_,hs,by rw [Pl.Bn ht],by rw [Pl.Bn ht];exact hb⟩
 ·rw [hl] at hi;rw [hc i (by omega),Pl.GU hi]
 ·rw [hl,Pl.GU (by omega)];exact ht.2.2 h0
theorem Pl.PD {l:List Int} {n:Nat} (o:Pl.ak l) (ht:Pl.xy l n) (h:3<n∨(n=3∧4<=Pl.aT l 2)):4611686018427387904<=Pl.lv l:=by
 rcases h with h|⟨rfl,h⟩
 ·have h1:=ht.2.2 (by omega);have h2:=Pl.gG l (n - 1);have h3:=(Pl.nV o (n - 1)).1;have h4:=Pl.jk l (n - 1);have h5:=Pl.iX o (n - 1+1);have h6:=o.aT (n - 1);have h7:=Pl.nW (show 3<=n - 1 by omega);have h8:1073741824^(n - 1)*1<=1073741824^(n - 1)*Pl.lv (l.drop (n - 1)):=o_ (by omega) (by omega);have h9:(1073741824:Int)^3=1237940039285380274899124224:=rfl;omega
 ·have h2:=Pl.gG l 2;have h3:=(Pl.nV o 2).1;have h4:Pl.lv (l.drop 2)=Pl.aT l 2+1073741824*Pl.lv (l.drop 3):=Pl.jk l 2;have h5:=Pl.iX o 3;have h9:(1073741824:Int)^2=1152921504606846976:=rfl;rw [h9] at h2;omega
theorem Pl.JM {l:List Int} {n:Nat} (o:Pl.ak l) (ht:Pl.xy l n) (h:n<3∨(n=3∧Pl.aT l 2<4)):Pl.lv l<4611686018427387904:=by
 have h9:(1073741824:Int)^2=1152921504606846976:=rfl;have h3:=(Pl.nV o 2).2;have e:=Pl.gG l 2;have h4:Pl.lv (l.drop 2)<4:=by
  have h5:Pl.lv (l.drop 3)=0:=by
   have e1:=Pl.gG l n;have e2:=Pl.Bn ht;rw [<-Pl.yu l n ht.1] at e2;have h8:1073741824^n*Pl.lv (l.drop n)=0:=by omega
   have h6:Pl.lv (l.drop n)=0:=by
    rcases abG.1 h8 with h|h
    ·have:=Pl.pow_pos n;omega
    ·exact h
   have h7:=Pl.xz (o.drop n) (3 - n);rw [List.drop_drop,show n+(3 - n)=3 by omega] at h7;have:=Pl.iX o 3;omega
  have h6:=Pl.jk l 2;rw [h5] at h6;rcases h with h|h
  ·rw [ht.2.1 2 (by omega)] at h6;omega
  ·omega
 rw [h9] at e h3;omega
theorem aG (w:World) (o:Obj):(w.alloc o).heap[w.heap.size]?=some o:=by
 show (w.heap.push o)[w.heap.size]?=some o;rw [Array.getElem?_push,h_ rfl]
set_option maxHeartbeats 2000000 in
theorem fQ (P:Nat->Prop) (sg:Int) (l:List Int) (v:Value) (B:Nat) (w:World) (ho:aI B w v l) (hP:∀ b,B<=b->P b) (o:Pl.ak l) (hl:l.length<=13500000000000) (hs:(sg=1∨sg=-1)∨(sg=0∧Pl.lv l=0)) :
  Calls Tryz.prog 75 #[.int .i64 sg,v] w λe w'=>∃ v',e=.returned v'∧aj P w' v' (sg*Pl.lv l)∧Below w.heap.size w w':=by
 have hat:=cO ho;have hT:=af (λo1=>Ak l v (w.alloc o1) (hat.below ((n_ _ w).alloc (d_ _) o1)) (by omega));have HB:Hid (∀ o1,Below w.heap.size w (w.alloc o1)):=λo1=>(n_ _ w).alloc (d_ _) o1;have HA:=af hat;have HO:=af ho;obtain ⟨ad,cap,rfl⟩:=az hat;clear hat ho;go_enter Tryz.func75,Tryz.ntmps75;go_wp2_with fail;refine (uh hT _).mono ?_;rintro e w1 ⟨⟨n,rfl,ht⟩,hw1⟩;rw [hw1];clear hw1 w1 hT;have hnl:=ht.1;have HT:=af ht;clear ht;by_cases hbig:3<n∨(n=3∧4<=Pl.aT l 2)
 ·have hlv:=Pl.PD o (uh HT) hbig;have hs2:sg=1∨sg=-1:=by rcases hs with h | h <;> omega
  obtain ⟨g,cp,cur,hv,hBg,hgg,hle,jS⟩:∃ g cp cur,Value.slice ad l.length cap=.slice (some ⟨g,0,none⟩) l.length cp∧B<=g∧w.heap[g]?=some (.cells cur 3 (0,0))∧l.length<=cp∧∀ i,i<l.length->cur[0+i]?=some (bF (Pl.aT l i)):=by
   have ho:=uh HO;have hat:=uh HA;rcases ho.2 with ⟨h1,hn⟩|⟨g,cp,cur,h1,hb,hgg,hle,hm,hcs,htk⟩
   ·omega
   ·refine ⟨g,cp,cur,h1,hb,hgg,hle,λi hi=>?_⟩;obtain ⟨b1,o1,c1,hv1,hc1⟩:=kG hat i hi;rw [h1] at hv1;simp only [Value.slice.injEq,Option.some.injEq,Addr.mk.injEq] at hv1;obtain ⟨⟨rfl,rfl,_⟩,_⟩:=hv1;rw [<-cellsOf hgg];exact hc1
  simp only [Value.slice.injEq,true_and] at hv;obtain ⟨rfl,rfl⟩:=hv;have HW:Hid (∀ o1,aj P (w.alloc o1) (.agg #[.int .i64 sg,.slice (some ⟨g,0,none⟩) n cap]) (sg*Pl.lv l)):=λo1=>(Vx (hP g hBg) hgg jS o (uh HT) (by omega) hs2 hlv).below (uh HB o1);have HC:Hid (2<l.length->∀ o1,(w.alloc o1).cell? ⟨g,2,none⟩=some (.int .i64 (Pl.aT l 2))):=λh2 o1=>by
   rw [(uh HB o1).cell (show g<w.heap.size from z_ hgg),cellsOf hgg];have:=jS 2 h2;rwa [M_] at this
  clear hgg jS hBg hlv HT HA HO o;by_cases h3:3<n
  ·clear HC hbig;go_wp2;exact t_ (v:=.agg #[.int .i64 sg,.slice (some ⟨g,0,none⟩) n cap]) (by simp [results,Tryz.results75,go_sem]) rfl ⟨_,rfl,uh HW _,uh HB _⟩
  ·obtain ⟨rfl,h4⟩:=hbig.resolve_left h3;have hc:=uh HC (by omega) (.cells #[.int .i64 0,.slice none 0 0] 78);clear HC hbig;generalize Pl.aT l 2=y at *
   go_wp2;exact t_ (v:=.agg #[.int .i64 sg,.slice (some ⟨g,0,none⟩) 3 cap]) (by simp [results,Tryz.results75,go_sem]) rfl ⟨_,rfl,uh HW _,uh HB _⟩
 ·have hlv:=Pl.JM o (uh HT) (by omega);have ajW:=(Pl.l8 o).1;have WZ:n<=3:=by omega
  have HZ:Hid (Pl.lv (l.drop n)=0):=by
   have e1:=Pl.gG l n;have e2:=Pl.Bn (uh HT);rw [<-Pl.yu l n hnl] at e2;have h8:1073741824^n*Pl.lv (l.drop n)=0:=by omega
   rcases abG.1 h8 with h|h
   ·have:=Pl.pow_pos n;omega
   ·exact h
  have HAS:=af ((uh HA).below (uh HB (.cells #[.int .i64 0,.slice none 0 0] 78)));clear HO HA HT hP;by_cases h3:n=3
  ·have hn1:((n:Int) == 3)=true:=by simp [h3]
   have hy:Pl.aT l 2<4:=by omega
   obtain ⟨b1,o1,TY,hv1,ajX⟩:=kG (uh HAS) 2 (by omega);obtain ⟨rfl,_,rfl⟩:ad=some ⟨b1,o1,none⟩∧True∧TY=cap:=by simp only [Value.slice.injEq] at hv1;exact ⟨hv1.1,trivial,hv1.2.2.symm⟩
   have hl3:2<l.length:=by omega
   generalize hyy:Pl.aT l 2=y at *
   clear hv1 hbig h3 hyy;go_wp2_with fail;go_loop [6,7] (λvv iv=>∃ (k:Nat) (x:Int),k<=n∧vv=.int .i64 x∧iv=.int .i64 ((k:Int) - 1)∧0<=x∧x<4611686018427387904∧Hid (x=Pl.lv (l.drop k))) (λ_ iv=>(intOf iv+1).toNat)
   case atStart=>exact ⟨n,0,d_ _,rfl,rfl,by omega,by omega,(uh HZ).symm⟩
   case round =>
    obtain ⟨k,x,hk,rfl,rfl,x0,x1,hx⟩:=hrel;by_cases h0:0<k
    ·obtain ⟨j,rfl⟩:∃ j,k=j+1:=⟨k - 1,by omega⟩;have hjl:j<l.length:=by omega
     obtain ⟨b2,o2,cp2,hv1,MP⟩:=kG (uh HAS) j hjl;obtain ⟨⟨rfl,rfl⟩,_,rfl⟩:(b1=b2∧o1=o2)∧True∧TY=cp2:=by simp only [Value.slice.injEq,Option.some.injEq,Addr.mk.injEq,true_and,and_true] at hv1;exact ⟨hv1.1,trivial,hv1.2⟩
     clear hv1;have ej:((j+1:Nat):Int) - 1=(j:Int):=by omega
     rw [ej];have dj:=o.aT j;have hbd:x*1073741824+Pl.aT l j=Pl.lv (l.drop j):=by rw [uh hx,Pl.jk l j];omega
     have hb2:=Pl.xz o j;have hb3:=Pl.iX o j;have HN:Hid (x*1073741824+Pl.aT l j=Pl.lv (l.drop j)):=hbd;have hb4:x*1073741824+Pl.aT l j<4611686018427387904:=by omega
     have hb5:0<=x*1073741824+Pl.aT l j:=by omega
     generalize Pl.aT l j=y at *
     clear hx hbd hb2 hb3 ej;go_wp2;go_round
     case rel=>exact ⟨j,_,by omega,rfl,rfl,hb5,hb4,HN⟩
     case measure=>simp [intOf]
    ·have hk0:k=0:=by omega
     subst hk0;rw [show ((0:Nat):Int) - 1=-1 from rfl];have HX:Hid (x=Pl.lv l):=uh hx;have hm:-4611686018427387904<sg*x∧sg*x<4611686018427387904:=by
      rcases hs with (rfl|rfl) | ⟨rfl,_⟩ <;> omega
     have hm1:=hm.1;have hm2:=hm.2;clear hx hm;go_wp2;exact t_ (v:=.agg #[.int .i64 (sg*x),.slice none 0 0]) (by simp [results,Tryz.results75,go_sem]) rfl ⟨_,rfl,.inl ⟨by rw [uh HX],by rw [<-uh HX];exact hm1,by rw [<-uh HX];exact hm2⟩,uh HB _⟩
  ·have hn1:((n:Int) == 3)=false:=by simp;omega
   clear hbig h3;go_wp2_with fail;go_loop [6,7] (λvv iv=>∃ (k:Nat) (x:Int),k<=n∧vv=.int .i64 x∧iv=.int .i64 ((k:Int) - 1)∧0<=x∧x<4611686018427387904∧Hid (x=Pl.lv (l.drop k))) (λ_ iv=>(intOf iv+1).toNat)
   case atStart=>exact ⟨n,0,d_ _,rfl,rfl,by omega,by omega,(uh HZ).symm⟩
   case round =>
    obtain ⟨k,x,hk,rfl,rfl,x0,x1,hx⟩:=hrel;by_cases h0:0<k
    ·obtain ⟨j,rfl⟩:∃ j,k=j+1:=⟨k - 1,by omega⟩;have hjl:j<l.length:=by omega
     obtain ⟨b1,o1,TY,hv1,MP⟩:=kG (uh HAS) j hjl;obtain ⟨rfl,_,rfl⟩:ad=some ⟨b1,o1,none⟩∧True∧TY=cap:=by simp only [Value.slice.injEq] at hv1;exact ⟨hv1.1,trivial,hv1.2.2.symm⟩
     clear hv1;have ej:((j+1:Nat):Int) - 1=(j:Int):=by omega
     rw [ej];have dj:=o.aT j;have hbd:x*1073741824+Pl.aT l j=Pl.lv (l.drop j):=by rw [uh hx,Pl.jk l j];omega
     have hb2:=Pl.xz o j;have hb3:=Pl.iX o j;have HN:Hid (x*1073741824+Pl.aT l j=Pl.lv (l.drop j)):=hbd;have hb4:x*1073741824+Pl.aT l j<4611686018427387904:=by omega
     have hb5:0<=x*1073741824+Pl.aT l j:=by omega
     generalize Pl.aT l j=y at *
     clear hx hbd hb2 hb3 ej;go_wp2;go_round
     case rel=>exact ⟨j,_,by omega,rfl,rfl,hb5,hb4,HN⟩
     case measure=>simp [intOf]
    ·have hk0:k=0:=by omega
     subst hk0;rw [show ((0:Nat):Int) - 1=-1 from rfl];have HX:Hid (x=Pl.lv l):=uh hx;have hm:-4611686018427387904<sg*x∧sg*x<4611686018427387904:=by
      rcases hs with (rfl|rfl) | ⟨rfl,_⟩ <;> omega
     have hm1:=hm.1;have hm2:=hm.2;clear hx hm;go_wp2;exact t_ (v:=.agg #[.int .i64 (sg*x),.slice none 0 0]) (by simp [results,Tryz.results75,go_sem]) rfl ⟨_,rfl,.inl ⟨by rw [uh HX],by rw [<-uh HX];exact hm1,by rw [<-uh HX];exact hm2⟩,uh HB _⟩
theorem oZ {w:World} (x:Value):∀ j u,[x][j]?=some u->(w.alloc (.cells #[x] 3)).cell? ((⟨w.heap.size,0,none⟩:Addr).add j)=some u:=by
 intro j u hj
 match j,hj with
 | 0,hj=>simp at hj;subst hj;simp [Addr.add]
theorem o5 (t:Int):∀ u∈[bF t],u.oneCell'=true:=by intro u hu;simp at hu;subst hu;rfl
theorem tq {B:Nat} {w1:World} {v':Value} {l:List Int} {t:Int} (h:w1.ownsRow B 3 1 v' (l.length+1) (l.map bF++[bF t])):aI B w1 v' (l++[t]):=by
 unfold aI;simpa using h
def Pl.jX (m x:Int) (acc:List Int):Prop:=Pl.ak acc∧0<=x∧Pl.lv acc+1073741824^acc.length*x=m∧(x=0->0<acc.length->Pl.aT acc (acc.length - 1)≠0)
theorem Pl.jX.next {m x:Int} {acc:List Int} (h:Pl.jX m x acc) (hx:0<x):Pl.jX m (x/1073741824) (acc++[x%1073741824]):=by
 obtain ⟨h1,h2,h3,h4⟩:=h;refine ⟨h1.append (.cons (by omega) (by omega) .nil),by omega,?_,λhz _=>?_⟩
 ·rw [Pl.Bo,C_,List.length_singleton,aaC];have:=Pl.ni (1073741824^acc.length) x;omega
 ·rw [C_,List.length_singleton,Nat.add_sub_cancel];unfold Pl.aT;rw [a_,R_ (d_ _)];simp;omega
theorem Pl.jX.short {m x:Int} {acc:List Int} (h:Pl.jX m x acc) (hx:0<x) (hm:m<=9223372036854775808):acc.length<=2:=by
 obtain ⟨h1,h2,h3,h4⟩:=h;rcases Nat.lt_or_ge 2 acc.length with hlt|hge
 ·have h5:=Pl.nW (show 3<=acc.length by omega);have h6:1073741824^acc.length*1<=1073741824^acc.length*x:=o_ (by omega) (by have:=Pl.pow_pos acc.length;omega);have h7:=(Pl.l8 h1).1;have h9:(1073741824:Int)^3=1237940039285380274899124224:=rfl;omega
 ·omega
set_option maxHeartbeats 2000000 in
theorem jF (P:Nat->Prop) (v:Value) (n:Int) (w:World) (h:aj P w v n) :
  Calls Tryz.prog 74 #[v] w λe w'=>∃ sl l,e=.returned sl∧bI w' sl l∧Pl.ak l∧Pl.lv l=n.natAbs∧(0<l.length->Pl.aT l (l.length - 1)≠0)∧Below w.heap.size w w':=by
 have hb0:∀ o1,Below w.heap.size w (w.alloc o1):=λo1=>(n_ _ w).alloc (d_ _) o1;rcases h with ⟨rfl,h1,h2⟩|⟨l,b,off,cap,cs,sg,rfl,hP,hb,hc,h3,h4,h5,h6,h7,h8⟩
 ·obtain ⟨i0,hi,hz0,hz1,hz2⟩:=U_ Tryz.jL;have HB:=af hb0;clear hb0;obtain ⟨m,HM,hm0,hm1⟩:∃ m:Int,Hid (m=n.natAbs)∧0<=m∧m<4611686018427387904:=⟨_,rfl,by omega,by omega⟩;rw [<-uh HM];have hP0:Pl.jX m m []:=⟨.nil,hm0,by simp [Pl.lv],λ_ h=>by simp at h⟩;have HP:=af hP0;clear hP0;by_cases hn:n<0
  ·have MQ:m=-n:=by have:=uh HM;omega
   have HP:Hid (Pl.jX m (-n) []):=by rw [<-MQ];exact uh HP
   clear MQ HM;go_enter Tryz.func74,Tryz.ntmps74;go_wp2_with fail;go_loopw [3,4] (λrv sv wr=>∃ (x:Int) (acc:List Int),rv=.int .i64 x∧0<=x∧x<4611686018427387904∧acc.length<=3∧aI w.heap.size wr sv acc∧Below w.heap.size w wr∧Hid (Pl.jX m x acc)) (λrv _ _=>(intOf rv).toNat)
   case atStart=>exact ⟨_,[],rfl,by omega,by omega,by simp,aa8 _ _ _ _,uh HB _,HP⟩
   case round =>
    obtain ⟨x,acc,rfl,x0,x1,hal,hown,hbel,hpl⟩:=hrel;clear HP HB;by_cases hx:0<x
    ·have ha2:=(uh hpl).short hx (by omega);have HN:=af ((uh hpl).next hx);clear hpl;go_wp2_with (at_builtin;refine wpList_append_own _ rfl _ _ 36 rfl w.heap.size 3 i0 (.int .i64 0) 1 8 Tryz.underlying36 hi hz0 hz1 hz2 rfl (by decide) _ _ _ rfl (World.ownsRow.alloc hown _) ⟨_,0,none⟩ 1 1 [bF (x%1073741824)] rfl rfl ?c1 (o5 _) ?c3 ?c4 ?c5 ?_)
     case c1=>exact oZ (bF _)
     case c3=>unfold maxLen;omega
     case c4=>omega
     case c5=>have:=hbel.size;simp;omega
     ·intro v' w2 hown' hgrow _;have hA:=tq hown';have hB:=(hbel.alloc hbel.size (Obj.cells #[Value.int .i64 (x%1073741824)] 3)).grown hgrow (by have:=hbel.size;simp;omega) (bR hown);clear hown' hgrow hown hbel;go_wp2;go_roundw
      case rel=>exact ⟨_,_,rfl,by omega,by omega,by simp;omega,hA,hB,HN⟩
      case measure=>simp [intOf];omega
    ·have hx0:x=0:=by omega
     have HF:Hid (∀ v3,aI w.heap.size wr v3 acc->bI wr v3 acc∧Pl.ak acc∧Pl.lv acc=m∧(0<acc.length->Pl.aT acc (acc.length - 1)≠0)∧Below w.heap.size w wr):=by
      obtain ⟨p1,p2,p3,p4⟩:=uh hpl;exact λv3 ho=>⟨cO ho,p1,by rw [hx0,X_] at p3;omega,p4 hx0,hbel⟩
     clear hpl hbel;go_wp2;go_ret;exact ⟨_,rfl,acc,uh HF _ hown⟩
  ·have MQ:m=n:=by have:=uh HM;omega
   have HP:Hid (Pl.jX m n []):=by rw [<-MQ];exact uh HP
   clear MQ HM;go_enter Tryz.func74,Tryz.ntmps74;go_wp2_with fail;go_loopw [3,4] (λrv sv wr=>∃ (x:Int) (acc:List Int),rv=.int .i64 x∧0<=x∧x<4611686018427387904∧acc.length<=3∧aI w.heap.size wr sv acc∧Below w.heap.size w wr∧Hid (Pl.jX m x acc)) (λrv _ _=>(intOf rv).toNat)
   case atStart=>exact ⟨_,[],rfl,by omega,by omega,by simp,aa8 _ _ _ _,uh HB _,HP⟩
   case round =>
    obtain ⟨x,acc,rfl,x0,x1,hal,hown,hbel,hpl⟩:=hrel;clear HP HB;by_cases hx:0<x
    ·have ha2:=(uh hpl).short hx (by omega);have HN:=af ((uh hpl).next hx);clear hpl;go_wp2_with (at_builtin;refine wpList_append_own _ rfl _ _ 36 rfl w.heap.size 3 i0 (.int .i64 0) 1 8 Tryz.underlying36 hi hz0 hz1 hz2 rfl (by decide) _ _ _ rfl (World.ownsRow.alloc hown _) ⟨_,0,none⟩ 1 1 [bF (x%1073741824)] rfl rfl ?c1 (o5 _) ?c3 ?c4 ?c5 ?_)
     case c1=>exact oZ (bF _)
     case c3=>unfold maxLen;omega
     case c4=>omega
     case c5=>have:=hbel.size;simp;omega
     ·intro v' w2 hown' hgrow _;have hA:=tq hown';have hB:=(hbel.alloc hbel.size (Obj.cells #[Value.int .i64 (x%1073741824)] 3)).grown hgrow (by have:=hbel.size;simp;omega) (bR hown);clear hown' hgrow hown hbel;go_wp2;go_roundw
      case rel=>exact ⟨_,_,rfl,by omega,by omega,by simp;omega,hA,hB,HN⟩
      case measure=>simp [intOf];omega
    ·have hx0:x=0:=by omega
     have HF:Hid (∀ v3,aI w.heap.size wr v3 acc->bI wr v3 acc∧Pl.ak acc∧Pl.lv acc=m∧(0<acc.length->Pl.aT acc (acc.length - 1)≠0)∧Below w.heap.size w wr):=by
      obtain ⟨p1,p2,p3,p4⟩:=uh hpl;exact λv3 ho=>⟨cO ho,p1,by rw [hx0,X_] at p3;omega,p4 hx0,hbel⟩
     clear hpl hbel;go_wp2;go_ret;exact ⟨_,rfl,acc,uh HF _ hown⟩
 ·have HF:Hid (∀ o1,bI (w.alloc o1) (.slice (some ⟨b,off,none⟩) l.length cap) l∧Pl.ak l∧Pl.lv l=n.natAbs∧(0<l.length->Pl.aT l (l.length - 1)≠0)∧Below w.heap.size w (w.alloc o1)):=λo1 =>
   ⟨(DL hb hc).below (hb0 o1),h3,by rcases h6 with rfl | rfl <;> omega,λ_=>h5,hb0 o1⟩
  clear hb0 hP hb hc h3 h5 h6 h7 h8;go_enter Tryz.func74,Tryz.ntmps74;go_wp2;go_ret;exact ⟨_,l,rfl,uh HF _⟩
theorem Cq {P:Nat->Prop} {w:World} {l:List Int} {v:Value} {B:Nat} {sg:Int} (ho:aI B w v l) (hP:∀ b,B<=b->P b) (o:Pl.ak l) (h0:0<l.length) (hl:Pl.aT l (l.length - 1)≠0) (hs:sg=1∨sg=-1) (hb:4611686018427387904<=Pl.lv l) :
  aj P w (.agg #[.int .i64 sg,v]) (sg*Pl.lv l):=by
 have hat:=cO ho;rcases ho.2 with ⟨h1,hn⟩|⟨g,cp,cur,h1,hg,hgg,hle,hm,hcs,htk⟩
 ·omega
 ·subst h1;refine .inr ⟨l,g,0,cp,cur,sg,rfl,hP g hg,hgg,λi hi=>?_,o,h0,hl,hs,rfl,hb⟩;obtain ⟨b1,o1,c1,hv1,hc1⟩:=kG hat i hi;simp only [Value.slice.injEq,Option.some.injEq,Addr.mk.injEq] at hv1;obtain ⟨⟨rfl,rfl,_⟩,_⟩:=hv1;rw [<-cellsOf hgg];exact hc1
set_option maxHeartbeats 2000000 in
theorem fM (P:Nat->Prop) (v:Int) (w:World) (hP:∀ b,w.heap.size<=b->P b) (hv0:-9223372036854775808<=v) (hv1:v<=9223372036854775807) :
  Calls Tryz.prog 40 #[.int .i64 v] w λe w'=>∃ v',e=.returned v'∧aj P w' v' v∧Below w.heap.size w w':=by
 have HB:Hid (∀ o1,Below w.heap.size w (w.alloc o1)):=λo1=>(n_ _ w).alloc (d_ _) o1;by_cases hs:-4611686018427387904<v∧v<4611686018427387904
 ·obtain ⟨h1,h2⟩:=hs;go_enter Tryz.func40,Tryz.ntmps40;go_wp2;exact t_ (v:=.agg #[.int .i64 v,.slice none 0 0]) (by simp [results,Tryz.results40,go_sem]) rfl ⟨_,rfl,.inl ⟨rfl,h1,h2⟩,uh HB _⟩
 ·obtain ⟨i0,hi,hz0,hz1,hz2⟩:=U_ Tryz.jL;obtain ⟨m,HM,hm0,hm1⟩:∃ m:Int,Hid (m=v.natAbs)∧4611686018427387904<=m∧m<=9223372036854775808:=⟨_,rfl,by omega,by omega⟩;have HP:Hid (Pl.jX m m []):=⟨.nil,by omega,by simp [Pl.lv],λ_ h=>by simp at h⟩;by_cases hpos:0<v
  ·have hvb:4611686018427387904<=v:=by omega
   have MQ:m=v:=by have:=uh HM;omega
   have HP:Hid (Pl.jX m (- -v) []):=by rw [abM,<-MQ];exact uh HP
   have HE:Hid (v=1*m):=by rw [Hid,MQ];omega
   clear MQ HM;go_enter Tryz.func40,Tryz.ntmps40;go_wp2_with fail;go_loopw [4,5] (λrv sv wr=>∃ (x:Int) (acc:List Int) (ad:Option Addr) (cp:Nat),rv=.int .i64 x∧sv=.slice ad acc.length cp∧x<=0∧-9223372036854775808<=x∧acc.length<=3∧aI (w.heap.size+1) wr (.slice ad acc.length cp) acc∧Below (w.heap.size+1) (w.alloc (.cells #[.int .i64 0,.slice none 0 0] 78)) wr∧Hid (Pl.jX m (-x) acc)) (λrv _ _=>(-(intOf rv)).toNat)
   case atStart=>exact ⟨_,[],none,0,rfl,rfl,by omega,by omega,by simp,aa8 _ _ _ _,n_ _ _,HP⟩
   case round =>
    obtain ⟨x,acc,ad,cp,rfl,rfl,x0,x1,hal,hown,hbel,hpl⟩:=hrel;clear HP;have hsz:=hbel.size;rw [H_] at hsz;by_cases hx:x<0
    ·have ha2:=(uh hpl).short (by omega) hm1;have hq0:=((uh hpl).next (by omega)).2.1;have HN:Hid (Pl.jX m (- -(-x/1073741824)) (acc++[-x%1073741824])):=by rw [abM];exact (uh hpl).next (by omega)
     have htd:Int.tdiv x 1073741824=-((-x)/1073741824):=by
      rw [<-Int.tdiv_eq_ediv_of_nonneg (show 0<=-x by omega),Int.neg_tdiv,abM]
     have htm:Int.tmod x 1073741824=-((-x)%1073741824):=by
      rw [<-Int.tmod_eq_emod_of_nonneg (show 0<=-x by omega),Int.neg_tmod,abM]
     clear hpl;go_wp2_with (at_builtin;refine wpList_append_own _ rfl _ _ 36 rfl (w.heap.size+1) 3 i0 (.int .i64 0) 1 8 Tryz.underlying36 hi hz0 hz1 hz2 rfl (by decide) _ _ _ rfl (World.ownsRow.alloc hown _) ⟨_,0,none⟩ 1 1 [bF (-x%1073741824)] rfl rfl ?c1 (o5 _) ?c3 ?c4 ?c5 ?_)
     case c1=>exact oZ (bF _)
     case c3=>unfold maxLen;omega
     case c4=>omega
     case c5=>simp;omega
     ·intro v' w2 hown' hgrow _;have hA:=tq hown';have hB:=(hbel.alloc (by omega) (Obj.cells #[Value.int .i64 (-x%1073741824)] 3)).grown hgrow (by simp;omega) (bR hown);obtain ⟨fH,cp2,rfl⟩:=az (cO hA);clear hown' hgrow hown hbel htm;go_wp2;go_roundw
      case rel=>exact ⟨_,acc++[-x%1073741824],fH,cp2,rfl,rfl,by omega,by omega,by simp;omega,hA,hB,HN⟩
      case measure=>simp [intOf];omega
    ·have hx0:x=0:=by omega
     have hblk:wr.heap[w.heap.size]?=some (.cells #[.int .i64 0,.slice none 0 0] 78 (0,0)):=by
      rw [hbel.block _ (by omega)];exact aG _ _
     obtain ⟨c0,c1,f0,f1⟩:=fT hblk;have HF:Hid (aj P ((wr.setCell ⟨w.heap.size,0,none⟩ (.int .i64 (1))).setCell ⟨w.heap.size,1,none⟩ (.slice ad acc.length cp)) (.agg #[.int .i64 (1),.slice ad acc.length cp]) v∧Below w.heap.size w ((wr.setCell ⟨w.heap.size,0,none⟩ (.int .i64 (1))).setCell ⟨w.heap.size,1,none⟩ (.slice ad acc.length cp))):=by
      obtain ⟨p1,p2,p3,p4⟩:=uh hpl;have hlv:Pl.lv acc=m:=by rw [hx0] at p3;simp at p3;exact p3
      have hl0:0<acc.length:=by
       rcases abO acc.length with h|h
       ·rw [aaz h] at hlv;simp [Pl.lv] at hlv;omega
       ·exact h
      have hW:=Cq (sg:=1) hown (λb hb=>hP b (by omega)) p1 hl0 (p4 (by omega) hl0) (by omega) (by omega);rw [hlv,<-uh HE] at hW;exact ⟨hW.bW (vW hblk _ _),(((uh HB _).trans (hbel.mono (by omega))).setCell (p:=⟨w.heap.size,0,none⟩) (by simp) _).setCell (p:=⟨w.heap.size,1,none⟩) (by simp) _⟩
     have HS:=af (yH hblk (.int .i64 (1)) (.slice ad acc.length cp));clear hpl hbel hown hblk HB;go_wp2;exact t_ (v:=.agg #[.int .i64 (1),.slice ad acc.length cp]) (by simp [results,Tryz.results40,go_sem,(uh HS).1,(uh HS).2]) rfl ⟨_,rfl,uh HF⟩
  ·have hvb:v<=-4611686018427387904:=by omega
   have MQ:m=-v:=by have:=uh HM;omega
   have HP:Hid (Pl.jX m (-v) []):=by rw [<-MQ];exact uh HP
   have HE:Hid (v=-1*m):=by rw [Hid,MQ];omega
   clear MQ HM;go_enter Tryz.func40,Tryz.ntmps40;go_wp2_with fail;go_loopw [4,5] (λrv sv wr=>∃ (x:Int) (acc:List Int) (ad:Option Addr) (cp:Nat),rv=.int .i64 x∧sv=.slice ad acc.length cp∧x<=0∧-9223372036854775808<=x∧acc.length<=3∧aI (w.heap.size+1) wr (.slice ad acc.length cp) acc∧Below (w.heap.size+1) (w.alloc (.cells #[.int .i64 0,.slice none 0 0] 78)) wr∧Hid (Pl.jX m (-x) acc)) (λrv _ _=>(-(intOf rv)).toNat)
   case atStart=>exact ⟨_,[],none,0,rfl,rfl,by omega,by omega,by simp,aa8 _ _ _ _,n_ _ _,HP⟩
   case round =>
    obtain ⟨x,acc,ad,cp,rfl,rfl,x0,x1,hal,hown,hbel,hpl⟩:=hrel;clear HP;have hsz:=hbel.size;rw [H_] at hsz;by_cases hx:x<0
    ·have ha2:=(uh hpl).short (by omega) hm1;have hq0:=((uh hpl).next (by omega)).2.1;have HN:Hid (Pl.jX m (- -(-x/1073741824)) (acc++[-x%1073741824])):=by rw [abM];exact (uh hpl).next (by omega)
     have htd:Int.tdiv x 1073741824=-((-x)/1073741824):=by
      rw [<-Int.tdiv_eq_ediv_of_nonneg (show 0<=-x by omega),Int.neg_tdiv,abM]
     have htm:Int.tmod x 1073741824=-((-x)%1073741824):=by
      rw [<-Int.tmod_eq_emod_of_nonneg (show 0<=-x by omega),Int.neg_tmod,abM]
     clear hpl;go_wp2_with (at_builtin;refine wpList_append_own _ rfl _ _ 36 rfl (w.heap.size+1) 3 i0 (.int .i64 0) 1 8 Tryz.underlying36 hi hz0 hz1 hz2 rfl (by decide) _ _ _ rfl (World.ownsRow.alloc hown _) ⟨_,0,none⟩ 1 1 [bF (-x%1073741824)] rfl rfl ?c1 (o5 _) ?c3 ?c4 ?c5 ?_)
     case c1=>exact oZ (bF _)
     case c3=>unfold maxLen;omega
     case c4=>omega
     case c5=>simp;omega
     ·intro v' w2 hown' hgrow _;have hA:=tq hown';have hB:=(hbel.alloc (by omega) (Obj.cells #[Value.int .i64 (-x%1073741824)] 3)).grown hgrow (by simp;omega) (bR hown);obtain ⟨fH,cp2,rfl⟩:=az (cO hA);clear hown' hgrow hown hbel htm;go_wp2;go_roundw
      case rel=>exact ⟨_,acc++[-x%1073741824],fH,cp2,rfl,rfl,by omega,by omega,by simp;omega,hA,hB,HN⟩
      case measure=>simp [intOf];omega
    ·have hx0:x=0:=by omega
     have hblk:wr.heap[w.heap.size]?=some (.cells #[.int .i64 0,.slice none 0 0] 78 (0,0)):=by
      rw [hbel.block _ (by omega)];exact aG _ _
     obtain ⟨c0,c1,f0,f1⟩:=fT hblk;have HF:Hid (aj P ((wr.setCell ⟨w.heap.size,0,none⟩ (.int .i64 (-1))).setCell ⟨w.heap.size,1,none⟩ (.slice ad acc.length cp)) (.agg #[.int .i64 (-1),.slice ad acc.length cp]) v∧Below w.heap.size w ((wr.setCell ⟨w.heap.size,0,none⟩ (.int .i64 (-1))).setCell ⟨w.heap.size,1,none⟩ (.slice ad acc.length cp))):=by
      obtain ⟨p1,p2,p3,p4⟩:=uh hpl;have hlv:Pl.lv acc=m:=by rw [hx0] at p3;simp at p3;exact p3
      have hl0:0<acc.length:=by
       rcases abO acc.length with h|h
       ·rw [aaz h] at hlv;simp [Pl.lv] at hlv;omega
       ·exact h
      have hW:=Cq (sg:=-1) hown (λb hb=>hP b (by omega)) p1 hl0 (p4 (by omega) hl0) (by omega) (by omega);rw [hlv,<-uh HE] at hW;exact ⟨hW.bW (vW hblk _ _),(((uh HB _).trans (hbel.mono (by omega))).setCell (p:=⟨w.heap.size,0,none⟩) (by simp) _).setCell (p:=⟨w.heap.size,1,none⟩) (by simp) _⟩
     have HS:=af (yH hblk (.int .i64 (-1)) (.slice ad acc.length cp));clear hpl hbel hown hblk HB;go_wp2;exact t_ (v:=.agg #[.int .i64 (-1),.slice ad acc.length cp]) (by simp [results,Tryz.results40,go_sem,(uh HS).1,(uh HS).2]) rfl ⟨_,rfl,uh HF⟩
end Go.Proofs.YtgaafamcajcifaaGreat
