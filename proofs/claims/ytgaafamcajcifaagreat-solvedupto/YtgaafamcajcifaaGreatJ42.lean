/- Joined: XOf3 XOf4. -/
import Derived.Test.YtgaafamcajcifaaGreatJ08
import Derived.Test.YtgaafamcajcifaaGreatJ41
set_option linter.unusedVariables false
set_option linter.unusedSimpArgs false
set_option maxRecDepth 100000
namespace Go.Proofs.YtgaafamcajcifaaGreat
open Go.RowKit Go.Sort
def jd (w:World) (v:Value) (l:List (Int × Int)):Prop:=∃ ad cap,v=.slice ad l.length cap∧∀ i,(hi:i<l.length)->∃ g off,ad=some ⟨g,off,none⟩∧w.cell? ⟨g,off+i*2,none⟩=some (.int .i64 l[i].1)∧w.cell? ⟨g,off+i*2+1,none⟩=some (.int .i64 l[i].2)
def kP (w:World) (v:Value) (l:List dS):Prop:=∃ ad cap,v=.slice ad l.length cap∧∀ i,(hi:i<l.length)->∃ g off u,ad=some ⟨g,off,none⟩∧w.cell? ⟨g,off+i*3,none⟩=some u∧bI w u l[i].1∧w.cell? ⟨g,off+i*3+1,none⟩=some (.int .i64 l[i].2.1)∧w.cell? ⟨g,off+i*3+2,none⟩=some (.bool l[i].2.2)
section
variable {w w':World} {v:Value}
theorem jd.below {l:List (Int × Int)} (h:jd w v l) (hg:ae w w'):jd w' v l:=by
 obtain ⟨ad,cap,e,h⟩:=h;refine ⟨ad,cap,e,λi hi=>?_⟩;obtain ⟨g,off,e,h1,h2⟩:=h i hi;exact ⟨g,off,e,hg.cell h1,hg.cell h2⟩
theorem kP.below {l:List dS} (h:kP w v l) (hg:ae w w'):kP w' v l:=by
 obtain ⟨ad,cap,e,h⟩:=h;refine ⟨ad,cap,e,λi hi=>?_⟩;obtain ⟨g,off,u,e,h1,h2,h3,h4⟩:=h i hi;exact ⟨g,off,u,e,hg.cell h1,h2.below hg,hg.cell h3,hg.cell h4⟩
theorem jd.aB {l:List (Int × Int)} (h:jd w v l):∃ ad cap,v=.slice ad l.length cap:=by
 obtain ⟨ad,cap,e,_⟩:=h;exact ⟨ad,cap,e⟩
theorem kP.aB {l:List dS} (h:kP w v l):∃ ad cap,v=.slice ad l.length cap:=by
 obtain ⟨ad,cap,e,_⟩:=h;exact ⟨ad,cap,e⟩
theorem jd.get {l:List (Int × Int)} {ad:Option Addr} {n cap:Nat} (h:jd w (.slice ad n cap) l) {i:Nat} (hi:i<l.length):∃ g off,ad=some ⟨g,off,none⟩∧w.cell? ⟨g,off+i*2,none⟩=some (.int .i64 (l.getD i (0,0)).1)∧w.cell? ⟨g,off+i*2+1,none⟩=some (.int .i64 (l.getD i (0,0)).2):=by
 obtain ⟨ad',cap',e,h⟩:=h;cases e;obtain ⟨g,off,e,h1,h2⟩:=h i hi;have e2:l.getD i (0,0)=l[i]:=by rw [a_,f_ hi];rfl
 rw [e2];exact ⟨g,off,e,h1,h2⟩
theorem kP.get {l:List dS} {ad:Option Addr} {n cap:Nat} (h:kP w (.slice ad n cap) l) {i:Nat} (hi:i<l.length):∃ g off ua un uc,ad=some ⟨g,off,none⟩∧w.cell? ⟨g,off+i*3,none⟩=some (.slice ua un uc)∧bI w (.slice ua un uc) (l.getD i ([],0,false)).1∧w.cell? ⟨g,off+i*3+1,none⟩=some (.int .i64 (l.getD i ([],0,false)).2.1)∧w.cell? ⟨g,off+i*3+2,none⟩=some (.bool (l.getD i ([],0,false)).2.2):=by
 obtain ⟨ad',cap',e,h⟩:=h;cases e;obtain ⟨g,off,u,e,h1,h2,h3,h4⟩:=h i hi;have e2:l.getD i ([],0,false)=l[i]:=by rw [a_,f_ hi];rfl
 rw [e2];obtain ⟨ua,uc,eu,_⟩:=id h2;subst eu;exact ⟨g,off,ua,_,uc,e,h1,h2,h3,h4⟩
end
def tV (a b:Value):Prop:=∀ k,a.ownBlock=some k->b.ownBlock≠some k
theorem tV.symm {a b:Value} (h:tV a b):tV b a:=λk h1 h2=>h k h2 h1
theorem dB.own {P:Nat->Prop} {B:Nat} {w:World} {v:Value} {ls:List (List Int)} (h:dB P B w v ls) {k:Nat} (hk:v.ownBlock=some k):k<w.heap.size:=by
 obtain ⟨xs,h1,_⟩:=h;exact (h1.lt k hk).2
theorem dB.uw {B:Nat} {w w':World} {v v2:Value} {n:Nat} {xs:List Value} {ls:List (List Int)} (h:dB PT B w v2 ls) (ho:w.ownsRow B 69 1 v n xs) (hg:w.grownBy w' v.ownBlock) (ha:tV v v2):dB PT B w' v2 ls:=by
 obtain ⟨ys,h1,h2⟩:=h;refine ⟨ys,⟨h1.1,?_⟩,h2.dY (aA.grown ho hg (by decide)) (aA.grown ho hg (by decide))⟩;rcases h1.2 with hn|⟨g,cap,cur,rfl,hb,hgg,rest⟩
 ·exact .inl hn
 ·refine .inr ⟨g,cap,cur,rfl,hb,?_,rest⟩;rw [hg.block g (z_ hgg) (λe=>ha g e.symm rfl)];exact hgg
structure vE (w0 w:World) (B n:Nat) (zv lv tv:Value) (zl ll tl:List (List Int)):Prop where
 box:w.heap[w0.heap.size+1]?=some (.cells #[.int .i64 n,zv,lv,tv] 74 (0,0))
 res:w.heap[w0.heap.size]?=some (.cells #[.int .i64 0,.slice none 0 0,.slice none 0 0,.slice none 0 0] 74 (0,0))
 zero:dB PT B w zv zl
 least:dB PT B w lv ll
 told:dB PT B w tv tl
 a1:tV zv lv
 a2:tV lv tv
 a3:tV zv tv
 cZ:ae w0 w
 b0:w0.heap.size+1<B
 b1:B<=w.heap.size
section
variable {w0 w w':World} {B n:Nat} {zv lv tv:Value} {zl ll tl:List (List Int)}
theorem vE.grow (h:vE w0 w B n zv lv tv zl ll tl) (hg:ae w w'):vE w0 w' B n zv lv tv zl ll tl :=
 ⟨Below.same hg _ _ h.box,Below.same hg _ _ h.res,h.zero.grow hg,h.least.grow hg,h.told.grow hg,h.a1,h.a2,h.a3,h.cZ.trans hg,h.b0,w_ h.b1 hg.size⟩
theorem CV {v:Value} {xs:List Value} {ls:List (List Int)} {u:Value} {row:List Int} (ho:w.ownsRow B 69 1 v ls.length xs) (hx:jM PT w xs ls) (hu:aD PT w u row) {g cap:Nat} (hown:w'.ownsRow B 69 1 (.slice (some ⟨g,0,none⟩) (ls.length+1) cap) (ls.length+1) (xs++[u])) (hg:w.grownBy w' v.ownBlock):dB PT B w' (.slice (some ⟨g,0,none⟩) (ls.length+1) cap) (ls++[row]):=by
 refine ⟨xs++[u],by rw [C_];exact hown,?_⟩;have k1:aA 78 w w':=aA.grown ho hg (by decide);have k2:aA 3 w w':=aA.grown ho hg (by decide);exact (hx.dY k1 k2).snoc (hu.dY k1 k2)
theorem pO {v v2:Value} {g m cap:Nat} (ha:tV v v2) (hat:v.ownBlock=some g∨g=w.heap.size) (h2:∀ k,v2.ownBlock=some k->k<w.heap.size):tV (.slice (some ⟨g,0,none⟩) m cap) v2:=λk hk hk2=>by
 have e:g=k:=by
  have:(Value.slice (some ⟨g,0,none⟩) m cap).ownBlock=some g:=rfl;rw [this] at hk;cases hk;rfl
 subst e;rcases hat with e|e
 ·exact ha g e hk2
 ·have:=h2 g hk2;omega
theorem CW (hg:ae w0 w) {v:Value} {xs:List Value} {m:Nat} (ho:w.ownsRow B 69 1 v m xs) (hB:w0.heap.size+1<B) (hB1:B<=w.heap.size) (hgr:w.grownBy w' v.ownBlock):ae w0 w'∧∀ k,k<B->w'.heap[k]?=w.heap[k]?:=by
 have hbel:Below B w w':=abx (n_ _ _) hgr hB1 (bR ho);exact ⟨aa7 hg (aaz hbel (by omega)),λk hk=>hbel.block k hk⟩
theorem aA.box {e:TypeId} {cs:Array Value} {g i:Nat} {u:Value} (hb:w.heap[g]?=some (.cells cs 74 (0,0))) (he:74≠e):aA e w (w.setCell ⟨g,i,none⟩ u):=aA.setCell hb he _ _
theorem dB.boxed {cs:Array Value} {g i:Nat} {u v:Value} {ls:List (List Int)} (h:dB PT B w v ls) (hb:w.heap[g]?=some (.cells cs 74 (0,0))):dB PT B (w.setCell ⟨g,i,none⟩ u) v ls:=h.dY (aA.box hb (by decide)) (aA.box hb (by decide)) (aA.box hb (by decide))
theorem vE.S9 (h:vE w0 w B n zv lv tv zl ll tl) {xs:List Value} (ho:w.ownsRow B 69 1 tv tl.length xs) (hx:jM PT w xs tl) {u:Value} {row:List Int} (hu:aD PT w u row) {g cap:Nat} (hown:w'.ownsRow B 69 1 (.slice (some ⟨g,0,none⟩) (tl.length+1) cap) (tl.length+1) (xs++[u])) (hg:w.grownBy w' tv.ownBlock) (hat:tv.ownBlock=some g∨g=w.heap.size) :
  vE w0 (w'.setCell ⟨w0.heap.size+1,3,none⟩ (.slice (some ⟨g,0,none⟩) (tl.length+1) cap)) B n zv lv (.slice (some ⟨g,0,none⟩) (tl.length+1) cap) zl ll (tl++[row])∧w'.heap[w0.heap.size+1]?=some (.cells #[.int .i64 n,zv,lv,tv] 74 (0,0)):=by
 obtain ⟨hG,Bb⟩:=CW h.cZ ho h.b0 h.b1 hg;have hb:=(Bb (w0.heap.size+1) h.b0).trans h.box;have hr:=(Bb w0.heap.size (by have:=h.b0;omega)).trans h.res;have e:=j_ w' (w0.heap.size+1) 3 _ _ (.slice (some ⟨g,0,none⟩) (tl.length+1) cap) hb;refine ⟨⟨e,(l_ _ _ _ _ (show w0.heap.size≠w0.heap.size+1 by omega)).trans hr,(h.zero.uw ho hg h.a3.symm).boxed hb,(h.least.uw ho hg h.a2.symm).boxed hb,(CV ho hx hu hown hg).boxed hb,h.a1,(pO h.a2.symm hat (λk hk=>h.least.own hk)).symm,(pO h.a3.symm hat (λk hk=>h.zero.own hk)).symm,B_ (p:=⟨w0.heap.size+1,3,none⟩) hG (Nat.le_succ _) _,h.b0,?_⟩,hb⟩;have:=hg.size;have:=h.b1;simp;omega
theorem vE.CX (h:vE w0 w B n zv lv tv zl ll tl) {xs:List Value} (ho:w.ownsRow B 69 1 lv ll.length xs) (hx:jM PT w xs ll) {u:Value} {row:List Int} (hu:aD PT w u row) {g cap:Nat} (hown:w'.ownsRow B 69 1 (.slice (some ⟨g,0,none⟩) (ll.length+1) cap) (ll.length+1) (xs++[u])) (hg:w.grownBy w' lv.ownBlock) (hat:lv.ownBlock=some g∨g=w.heap.size) :
  vE w0 (w'.setCell ⟨w0.heap.size+1,2,none⟩ (.slice (some ⟨g,0,none⟩) (ll.length+1) cap)) B n zv (.slice (some ⟨g,0,none⟩) (ll.length+1) cap) tv zl (ll++[row]) tl∧w'.heap[w0.heap.size+1]?=some (.cells #[.int .i64 n,zv,lv,tv] 74 (0,0)):=by
 obtain ⟨hG,Bb⟩:=CW h.cZ ho h.b0 h.b1 hg;have hb:=(Bb (w0.heap.size+1) h.b0).trans h.box;have hr:=(Bb w0.heap.size (by have:=h.b0;omega)).trans h.res;have e:=j_ w' (w0.heap.size+1) 2 _ _ (.slice (some ⟨g,0,none⟩) (ll.length+1) cap) hb;refine ⟨⟨e,(l_ _ _ _ _ (show w0.heap.size≠w0.heap.size+1 by omega)).trans hr,(h.zero.uw ho hg h.a1.symm).boxed hb,(CV ho hx hu hown hg).boxed hb,(h.told.uw ho hg h.a2).boxed hb,(pO h.a1.symm hat (λk hk=>h.zero.own hk)).symm,pO h.a2 hat (λk hk=>h.told.own hk),h.a3,B_ (p:=⟨w0.heap.size+1,2,none⟩) hG (Nat.le_succ _) _,h.b0,?_⟩,hb⟩;have:=hg.size;have:=h.b1;simp;omega
theorem vE.Ta (h:vE w0 w B n zv lv tv zl ll tl) {xs:List Value} (ho:w.ownsRow B 69 1 zv zl.length xs) (hx:jM PT w xs zl) {u:Value} {row:List Int} (hu:aD PT w u row) {g cap:Nat} (hown:w'.ownsRow B 69 1 (.slice (some ⟨g,0,none⟩) (zl.length+1) cap) (zl.length+1) (xs++[u])) (hg:w.grownBy w' zv.ownBlock) (hat:zv.ownBlock=some g∨g=w.heap.size) :
  vE w0 (w'.setCell ⟨w0.heap.size+1,1,none⟩ (.slice (some ⟨g,0,none⟩) (zl.length+1) cap)) B n (.slice (some ⟨g,0,none⟩) (zl.length+1) cap) lv tv (zl++[row]) ll tl∧w'.heap[w0.heap.size+1]?=some (.cells #[.int .i64 n,zv,lv,tv] 74 (0,0)):=by
 obtain ⟨hG,Bb⟩:=CW h.cZ ho h.b0 h.b1 hg;have hb:=(Bb (w0.heap.size+1) h.b0).trans h.box;have hr:=(Bb w0.heap.size (by have:=h.b0;omega)).trans h.res;have e:=j_ w' (w0.heap.size+1) 1 _ _ (.slice (some ⟨g,0,none⟩) (zl.length+1) cap) hb;refine ⟨⟨e,(l_ _ _ _ _ (show w0.heap.size≠w0.heap.size+1 by omega)).trans hr,(CV ho hx hu hown hg).boxed hb,(h.least.uw ho hg h.a1).boxed hb,(h.told.uw ho hg h.a3).boxed hb,pO h.a1 hat (λk hk=>h.least.own hk),h.a2,pO h.a3 hat (λk hk=>h.told.own hk),B_ (p:=⟨w0.heap.size+1,1,none⟩) hG (Nat.le_succ _) _,h.b0,?_⟩,hb⟩;have:=hg.size;have:=h.b1;simp;omega
end
theorem dB.aB {P:Nat->Prop} {B:Nat} {w:World} {v:Value} {ls:List (List Int)} (h:dB P B w v ls):aZ v:=by
 obtain ⟨xs,h1,_⟩:=h;rcases h1.2 with ⟨e,_⟩|⟨g,cap,cur,e,_⟩
 ·exact ⟨_,_,_,e⟩
 ·exact ⟨_,_,_,e⟩
attribute [local go_sem] bD Co
set_option maxHeartbeats 1000000 in
theorem FW (vs:List (Int × Int)) (rs:List dS) (va vb:Value) (w:World) (ha:jd w va vs) (hb:kP w vb rs) (hv:fI vs) (hr:lI vs.length rs) :
  Calls Tryz.prog 30 #[va,vb] w λe w'=>∃ v',e=.returned v'∧jT PT w' v' (j6 vs rs)∧Below w.heap.size w w':=by
 obtain ⟨i0,hi0,hz0,hz1,hz2⟩:=V_ Tryz.dP;obtain ⟨i1,hi1,hy0,hy1,hy2⟩:=V_ Tryz.lZ;obtain ⟨aa,ac,rfl⟩:=ha.aB;obtain ⟨ba,bc,rfl⟩:=hb.aB;have hn4:=hv.four;have hm8:=hr.pJ;have HV:=af hv;have Oa:=af hr;have HA:=af ha;have HB:=af hb;obtain ⟨n,hn⟩:∃ n,vs.length=n:=⟨_,rfl⟩;obtain ⟨m,hm⟩:∃ m,rs.length=m:=⟨_,rfl⟩;have HN:=af hn;have HM:=af hm;rw [hn] at hn4 Oa;rw [hm] at hm8;rw [hn,hm];rw [hn] at HA;rw [hm] at HB;have HO:Hid (vE w ((w.alloc (.cells #[.int .i64 0,.slice none 0 0,.slice none 0 0,.slice none 0 0] 74)).alloc (.cells #[.int .i64 n,.slice none 0 0,.slice none 0 0,.slice none 0 0] 74)) ((w.alloc (.cells #[.int .i64 0,.slice none 0 0,.slice none 0 0,.slice none 0 0] 74)).alloc (.cells #[.int .i64 n,.slice none 0 0,.slice none 0 0,.slice none 0 0] 74)).heap.size n (.slice none 0 0) (.slice none 0 0) (.slice none 0 0) [] [] []):=by
  have e1:=aG (w.alloc (.cells #[.int .i64 0,.slice none 0 0,.slice none 0 0,.slice none 0 0] 74)) (.cells #[.int .i64 n,.slice none 0 0,.slice none 0 0,.slice none 0 0] 74);rw [H_] at e1;refine ⟨e1,Below.same (ae.alloc _ _) _ _ (aG w _),.nil _ _ _,.nil _ _ _,.nil _ _ _,λk hk=>(by cases hk),λk hk=>(by cases hk),λk hk=>(by cases hk),ae.trans (ae.alloc _ _) (ae.alloc _ _),?_,d_ _⟩;rw [H_,H_];omega
 clear ha hb hv hr hn hm;go_enter Tryz.func30,Tryz.ntmps30;go_wp2_with fail;generalize hW:(w.alloc (.cells #[.int .i64 0,.slice none 0 0,.slice none 0 0,.slice none 0 0] 74)).alloc (.cells #[.int .i64 n,.slice none 0 0,.slice none 0 0,.slice none 0 0] 74)=W at *
 generalize hBB:W.heap.size=B at *
 clear hW hBB;go_loopg [6] n (λk iv wr=>∃ (i:Nat) (lv tv:Value),iv=.int .i64 i∧i+k=n∧Hid (vE w wr B n (.slice none 0 0) lv tv [] (eF n vs i) (gT n i)))
 case atStart=>exact ⟨0,_,_,rfl,by omega,uh HO⟩
 case round =>
  clear HO;obtain ⟨i,lv,tv,rfl,hik,HR⟩:=hrel;have hsl:aZ lv:=by
   obtain ⟨xs,h1,_⟩:=(uh HR).least;rcases h1.2 with ⟨e,_⟩|⟨g,cap,cur,e,_⟩
   ·exact ⟨_,_,_,e⟩
   ·exact ⟨_,_,_,e⟩
  have hst:aZ tv:=by
   obtain ⟨xs,h1,_⟩:=(uh HR).told;rcases h1.2 with ⟨e,_⟩|⟨g,cap,cur,e,_⟩
   ·exact ⟨_,_,_,e⟩
   ·exact ⟨_,_,_,e⟩
  obtain ⟨la,ln,lc,rfl⟩:=hsl;obtain ⟨ta,tn,tc,rfl⟩:=hst;by_cases hlt:i<n
  ·have hwn:IntKind.i64.wrap ((n:Int)+1)=((n+1:Nat):Int):=by rw [aaF];omega
   go_wp2_with (at_make;refine O_ _ rfl _ _ 69 rfl wr.heap.size 78 i0 (.agg #[.int .i64 0,.slice none 0 0]) 2 Tryz.underlying69 hi0 hz0 hz1 .i64 .i64 _ _ (n+1) rfl rfl ?e1 ?e2 ?c1 ?c2 ?c3 ?_)
   case e1=>first | rfl | omega | simp
   case e2=>first | rfl | omega | simp
   case c1=>rw [hz2];omega
   case c2=>unfold maxLen;omega
   case c3=>first | omega | simp
   ·intro w1 hown hgrow;have hG1:ae wr w1:=(n_ _ _).grown hgrow (d_ _) (by intro k hk;cases hk);have uB:Hid (bz PT w1 wr.heap.size (n+1) (λ_=>0)):=bz.made hown;have dN:=af hG1;have w1':IntKind.i64.wrap ((i:Int)+1)=(i:Int)+1:=by rw [aaF];omega
    have t1':((i:Int)+1).toNat=i+1:=by omega
    have l1':(i:Int)+1<(n:Int)+1:=by omega
    have l2':0<=(i:Int)+1:=by omega
    clear hown hgrow hG1;go_wp2_with fail;refine (fM PT 1 w1 (λ_ _=>trivial) (by decide) (by decide)).mono ?_;rintro e w2 ⟨v2,rfl,hv2,hb2⟩;obtain ⟨ox,oa,om,oc,rfl⟩:=hv2.shape;have hR2:=(uh uB).grow hb2;obtain ⟨qx,qa,qm,qc,r0,r1,_,f0,f1⟩:=hR2.get (i:=i+1) (by omega);have sN:Hid (aD PT ((w2.setCell ⟨wr.heap.size,(i+1)*2,none⟩ (.int .i64 ox)).setCell ⟨wr.heap.size,(i+1)*2+1,none⟩ (.slice oa om oc)) (.slice (some ⟨wr.heap.size,0,none⟩) (n+1) (n+1)) (dh n i)):=by
     have:=((hR2.set (i:=i+1) (by omega) hv2).congr (f':=Pl.unit (i+1)) (λk _=>by
      unfold qj Pl.unit;by_cases h:k=i+1
      ·rw [h_ h,h_ h.symm]
      ·rw [g_ h,g_ (λe=>h e.symm)])).row trivial
     exact this
    have jb:Hid (ae wr ((w2.setCell ⟨wr.heap.size,(i+1)*2,none⟩ (.int .i64 ox)).setCell ⟨wr.heap.size,(i+1)*2+1,none⟩ (.slice oa om oc))):=(B_ (p:=⟨wr.heap.size,(i+1)*2,none⟩) (ae.trans (uh dN) hb2) (d_ _) _).setCell (p:=⟨wr.heap.size,(i+1)*2+1,none⟩) (d_ _) _;generalize hW3:(w2.setCell ⟨wr.heap.size,(i+1)*2,none⟩ (.int .i64 ox)).setCell ⟨wr.heap.size,(i+1)*2+1,none⟩ (.slice oa om oc)=W3 at *
    have oI:=af ((uh HR).grow (uh jb));have k3:W3.cell? ⟨w.heap.size+1,3,none⟩=some (.slice ta tn tc):=by rw [cellsOf (uh oI).box];rfl
    obtain ⟨xs,hx1,hx2⟩:=(uh oI).told;have htn:tn=(gT n i).length:=(uh oI).told.len;have htl:(gT n i).length<=1000:=by unfold gT;rw [L_,List.length_range];omega
    have HX1:=af hx1;have Fj:=af hx2;have HOW:=af (λo=>hx1.alloc o);have HTN:=af htn;have hb1:=(uh oI).b1;clear hv2 hb2 hR2 hx1 hx2 htn;go_wp2_with (at_builtin;refine aap _ rfl _ _ 72 rfl B 69 i1 (.slice none 0 0) 1 24 Tryz.underlying72 hi1 hy0 hy1 hy2 rfl (by decide) _ (gT n i).length xs rfl (uh HOW _) ⟨_,0,none⟩ 1 1 [.slice (some ⟨wr.heap.size,0,none⟩) (n+1) (n+1)] rfl rfl ?d1 (by simp [Value.oneCell']) (by decide) ?d2 ?d3 ?d4 _ rfl ?_)
    case d1=>exact λj u hu=>aaq (aaC _ _) j u hu
    case d2=>unfold maxLen;omega
    case d3=>omega
    case d4=>simp;omega
    ·intro g cap w4 AO ry Io Ip;have hgA:=ae.alloc W3 (.cells #[.slice (some ⟨wr.heap.size,0,none⟩) (n+1) (n+1)] 69);have hadd:=((uh oI).grow hgA).S9 (uh HOW _) ((uh Fj).grow (.aX hgA)) ((uh sN).below hgA) AO ry (by rcases Io with e | e;exact .inl e;exact .inr (by rw [e,H_]))
     have kb:w4.cell? ⟨w.heap.size+1,3,none⟩=some (.slice ta tn tc):=by rw [cellsOf hadd.2];rfl
     have Xz:w4.frozen? ⟨w.heap.size+1,3,none⟩=false:=aH hadd.2 3;have hK1:aA 78 W3 w4:=(aA.aX hgA).trans (aA.grown (uh HOW _) ry (by decide));have hK2:aA 3 W3 w4:=(aA.aX hgA).trans (aA.grown (uh HOW _) ry (by decide));have ED:Hid (aD PT (w4.setCell ⟨w.heap.size+1,3,none⟩ (.slice (some ⟨g,0,none⟩) ((gT n i).length+1) cap)) (.slice (some ⟨wr.heap.size,0,none⟩) (n+1) (n+1)) (dh n i)):=((uh sN).dY hK1 hK2).dY (aA.box hadd.2 (by decide)) (aA.box hadd.2 (by decide));have Nv:=af hadd.1;clear AO ry Io Ip hadd hgA hK1 hK2 HOW HX1 Fj oI k3;generalize Bi:w4.setCell ⟨w.heap.size+1,3,none⟩ (.slice (some ⟨g,0,none⟩) ((gT n i).length+1) cap)=W5 at *
     have k2:W5.cell? ⟨w.heap.size+1,2,none⟩=some (.slice la ln lc):=by rw [cellsOf (uh Nv).box];rfl
     obtain ⟨gv,ov,ev,c0,c1⟩:=((uh HA).below (uh Nv).cZ).get (i:=i) (by rw [uh HN];exact hlt);cases ev;have ZG:Hid (w.cell? ⟨gv,ov+i*2+1,none⟩=some (.int .i64 (vs.getD i (0,0)).2)):=by
      obtain ⟨gv',ov',ev,_,c1'⟩:=(uh HA).get (i:=i) (by rw [uh HN];exact hlt);cases ev;exact c1'
     have H7:=af ((uh HV).lo _ (jE (i:=i) (by rw [uh HN];exact hlt)));have DL:=af ((uh HV).hi _ (jE (i:=i) (by rw [uh HN];exact hlt)));obtain ⟨lo,hlo⟩:∃ lo,(vs.getD i (0,0)).1=lo:=⟨_,rfl⟩;obtain ⟨hi,hhi⟩:∃ hi,(vs.getD i (0,0)).2=hi:=⟨_,rfl⟩;rw [hlo] at c0 H7;rw [hhi] at ZG DL;have HEQ:Hid (eF n vs (i+1)=eF n vs i++[bP (dh n i) (-lo)]++[bP ((dh n i).map λx=>-x) hi]):=by
      unfold Hid;rw [yZ];unfold ru;rw [hlo,hhi,abk];rfl
     clear hlo hhi;have hneg:IntKind.i64.wrap (-lo)=-lo:=by have:=uh H7;rw [aaF];omega
     have AB:Hid ((eF n vs i).length<=1000):=by unfold Hid;rw [lW];omega
     clear c1;go_wp2_with fail
     try rw [Bi]
     clear Bi kb Xz;have y0:=b_ k2;have y1:=b_ c0;clear k2 c0;refine rQ (bZ [(45,λv w=>aD PT w v (bP (dh n i) (-lo))),(46,fJ PT (bP (dh n i) (-lo))),(44,λv w=>aj PT w v (-lo))]) (gL [(44,ag),(45,aZ),(46,pW)]) 112 12 (by kernel_rfl) (by rfl) (by kernel_rfl) (aN (λ_ _ _=>aD.below) (aN (λ_ _ _=>fJ.grow) (aN (λ_ _ _=>aj.below) cK))) ?_
     iterate 9 (refine aO λK hK=>?_;go_simp;refine hK _ ?_;clear hK K)
     refine ai ag 40 #[.int .i64 (-lo)] (by rfl) (by rfl) ag.some (λw=>by go_simp) (λwq hg hf=>(fM PT (-lo) wq (λ_ _=>trivial) (by have:=uh H7;omega) (by have:=uh H7;omega)).mono (by rintro e w' ⟨v',rfl,hv,hb⟩;exact ⟨_,rfl,hb,hv.aU,λt ht=>by cases ht;exact hv⟩)) ?_;rintro _ ⟨bx,ba,bm,bc,rfl⟩;simp only [Act.put,p_,G_,D_];refine ai aZ 37 #[.slice (some ⟨wr.heap.size,0,none⟩) (n+1) (n+1),.agg #[.int .i64 bx,.slice ba bm bc]] (by rfl) (by rfl) aZ.some (λw=>by go_simp) (λwq hg hf=>(nE PT 1 (n+1) (dh n i) (-lo) _ _ wq (λ_ _=>trivial) ((uh ED).below hg) (hf 9 (by kernel_rfl) _ 44 rfl rfl) (iA n i) (by omega) (by omega) (λk=>ve (d_ _) k) (nH (show (-lo).natAbs<1073741824 by have:=uh H7;omega)) (by omega)).mono (by rintro e w' ⟨v',rfl,hv,hb⟩;exact ⟨_,rfl,hb,hv.aB,λt ht=>by cases ht;exact hv⟩)) ?_;rintro _ ⟨sa,sm,sc,rfl⟩;simp only [Act.put,p_,G_,D_];refine eO pW (by rfl) (by rfl) pW.some (λwq hg hf=>⟨.slice (some ⟨wq.heap.size,0,none⟩) 1 1,wq.alloc (.cells #[.slice sa sm sc] 69),by go_simp,ae.alloc _ _,⟨_,rfl⟩,λt ht=>by cases ht;exact fJ.new (hf 10 (by kernel_rfl) _ 45 rfl rfl)⟩) ?_;rintro _ ⟨gx,rfl⟩;simp only [Act.put,p_,G_,D_];refine aF ?_;intro w6 rJ aK;have hfr:fJ PT (bP (dh n i) (-lo)) (.slice (some ⟨gx,0,none⟩) 1 1) w6:=aK 11 _ 46 (by decide) rfl rfl;clear aK;obtain ⟨gx',u,ex,hbx,Rs⟩:=hfr;cases ex;obtain ⟨sa',sm',SC,rfl⟩:=Rs.aB;have Tc:=af ((uh Nv).grow rJ);obtain ⟨xs,hx1,hx2⟩:=(uh Tc).least;have hll:(eF n vs i).length<=1000:=uh AB;have hb6:=(uh Tc).b1;refine wp_append_lies w6 (.tmp 36) (.tmp 46) 72 rfl B 69 i1 (.slice none 0 0) 1 24 Tryz.underlying72 hi1 hy0 hy1 hy2 rfl (by decide) (.slice la ln lc) (eF n vs i).length xs rfl hx1 ⟨gx,0,none⟩ 1 1 [.slice sa' sm' SC] rfl rfl (λj u hu=>aaq hbx j u hu) (by simp [Value.oneCell']) (by decide) (by unfold maxLen;omega) (by omega) hb6 _ rfl ?_;intro g8 Hm w7 Iq tX Qx Qy;have hadd:=(uh Tc).CX hx1 hx2 Rs Iq tX Qx;have kb:w7.cell? ⟨w.heap.size+1,2,none⟩=some (.slice la ln lc):=by rw [cellsOf hadd.2];rfl
     have Xz:w7.frozen? ⟨w.heap.size+1,2,none⟩=false:=aH hadd.2 2;have Us:Hid (aD PT (w7.setCell ⟨w.heap.size+1,2,none⟩ (.slice (some ⟨g8,0,none⟩) ((eF n vs i).length+1) Hm)) (.slice (some ⟨wr.heap.size,0,none⟩) (n+1) (n+1)) (dh n i)):=(((uh ED).below rJ).dY (aA.grown hx1 tX (by decide)) (aA.grown hx1 tX (by decide))).dY (aA.box hadd.2 (by decide)) (aA.box hadd.2 (by decide));have Qt:=af hadd.1;clear Iq tX Qx Qy hadd hx1 hx2 hbx Rs rJ Tc hll hb6;clear y0 y1 hneg;have adL:Hid ((eF n vs i++[bP (dh n i) (-lo)]).length<=1000):=by unfold Hid;rw [C_,lW];simp;omega
     generalize hL8:eF n vs i++[bP (dh n i) (-lo)]=L8 at *
     generalize hn8:(eF n vs i).length+1=n8 at *
     clear hL8 hn8;generalize GN:w7.setCell ⟨w.heap.size+1,2,none⟩ (.slice (some ⟨g8,0,none⟩) n8 Hm)=W8 at *
     have k2:W8.cell? ⟨w.heap.size+1,2,none⟩=some (.slice (some ⟨g8,0,none⟩) n8 Hm):=by rw [cellsOf (uh Qt).box];rfl
     have c1:=(uh Qt).cZ.cell (uh ZG);clear AB Nv ED;have AB:=adL;go_wp2_with fail
     try rw [GN]
     clear GN kb Xz;have y0:=b_ k2;have y1:=b_ c1;clear k2 c1;refine rQ (bZ [(59,λv w=>aD PT w v (bP ((dh n i).map λx=>-x) hi)),(60,fJ PT (bP ((dh n i).map λx=>-x) hi)),(58,λv w=>aj PT w v hi),(52,λv w=>aD PT w v ((dh n i).map λx=>-x))]) (gL [(58,ag),(52,aZ),(59,aZ),(60,pW)]) 112 12 (by kernel_rfl) (by rfl) (by kernel_rfl) (aN (λ_ _ _=>aD.below) (aN (λ_ _ _=>fJ.grow) (aN (λ_ _ _=>aj.below) (aN (λ_ _ _=>aD.below) cK)))) ?_
     iterate 3 (refine aO λK hK=>?_;go_simp;refine hK _ ?_;clear hK K)
     refine ai aZ 41 #[.slice (some ⟨wr.heap.size,0,none⟩) (n+1) (n+1)] (by rfl) (by rfl) aZ.some (λw=>by go_simp) (λwq hg hf=>(tN PT (n+1) (dh n i) _ wq (λ_ _=>trivial) ((uh Us).below hg) (iA n i) (by omega)).mono (by rintro e w' ⟨v',rfl,hv,hb⟩;exact ⟨_,rfl,hb,hv.aB,λt ht=>by cases ht;exact hv⟩)) ?_;rintro _ ⟨oa,om,oc,rfl⟩;simp only [Act.put,p_,G_,D_]
     iterate 5 (refine aO λK hK=>?_;go_simp;refine hK _ ?_;clear hK K)
     refine ai ag 40 #[.int .i64 hi] (by rfl) (by rfl) ag.some (λw=>by go_simp) (λwq hg hf=>(fM PT hi wq (λ_ _=>trivial) (by have:=uh DL;omega) (by have:=uh DL;omega)).mono (by rintro e w' ⟨v',rfl,hv,hb⟩;exact ⟨_,rfl,hb,hv.aU,λt ht=>by cases ht;exact hv⟩)) ?_;rintro _ ⟨bx,ba,bm,bc,rfl⟩;simp only [Act.put,p_,G_,D_];refine ai aZ 37 #[.slice oa om oc,.agg #[.int .i64 bx,.slice ba bm bc]] (by rfl) (by rfl) aZ.some (λw=>by go_simp) (λwq hg hf=>(nE PT 1 (n+1) ((dh n i).map λx=>-x) hi _ _ wq (λ_ _=>trivial) (hf 3 (by kernel_rfl) _ 52 rfl rfl) (hf 9 (by kernel_rfl) _ 58 rfl rfl) (by rw [L_];exact iA n i) (by omega) (by omega) (CJ (λk=>ve (d_ _) k)) (nH (show (hi).natAbs<1073741824 by have:=uh DL;omega)) (by omega)).mono (by rintro e w' ⟨v',rfl,hv,hb⟩;exact ⟨_,rfl,hb,hv.aB,λt ht=>by cases ht;exact hv⟩)) ?_;rintro _ ⟨sa,sm,sc,rfl⟩;simp only [Act.put,p_,G_,D_];refine eO pW (by rfl) (by rfl) pW.some (λwq hg hf=>⟨.slice (some ⟨wq.heap.size,0,none⟩) 1 1,wq.alloc (.cells #[.slice sa sm sc] 69),by go_simp,ae.alloc _ _,⟨_,rfl⟩,λt ht=>by cases ht;exact fJ.new (hf 10 (by kernel_rfl) _ 59 rfl rfl)⟩) ?_;rintro _ ⟨gx,rfl⟩;simp only [Act.put,p_,G_,D_];refine aF ?_;intro w6 rJ aK;have hfr:fJ PT (bP ((dh n i).map λx=>-x) hi) (.slice (some ⟨gx,0,none⟩) 1 1) w6:=aK 11 _ 60 (by decide) rfl rfl;clear aK;obtain ⟨gx',u,ex,hbx,Rs⟩:=hfr;cases ex;obtain ⟨sa',sm',SC,rfl⟩:=Rs.aB;have Tc:=af ((uh Qt).grow rJ);obtain ⟨xs,hx1,hx2⟩:=(uh Tc).least;have hll:(L8).length<=1000:=uh AB;have hb6:=(uh Tc).b1;refine wp_append_lies w6 (.tmp 50) (.tmp 60) 72 rfl B 69 i1 (.slice none 0 0) 1 24 Tryz.underlying72 hi1 hy0 hy1 hy2 rfl (by decide) (.slice (some ⟨g8,0,none⟩) n8 Hm) (L8).length xs rfl hx1 ⟨gx,0,none⟩ 1 1 [.slice sa' sm' SC] rfl rfl (λj u hu=>aaq hbx j u hu) (by simp [Value.oneCell']) (by decide) (by unfold maxLen;omega) (by omega) hb6 _ rfl ?_;intro g9 Si w7 Iq tX Qx Qy;have hadd:=(uh Tc).CX hx1 hx2 Rs Iq tX Qx;have kb:w7.cell? ⟨w.heap.size+1,2,none⟩=some (.slice (some ⟨g8,0,none⟩) n8 Hm):=by rw [cellsOf hadd.2];rfl
     have Xz:w7.frozen? ⟨w.heap.size+1,2,none⟩=false:=aH hadd.2 2;have ZH:Hid (aD PT (w7.setCell ⟨w.heap.size+1,2,none⟩ (.slice (some ⟨g9,0,none⟩) ((L8).length+1) Si)) (.slice (some ⟨wr.heap.size,0,none⟩) (n+1) (n+1)) (dh n i)):=(((uh Us).below rJ).dY (aA.grown hx1 tX (by decide)) (aA.grown hx1 tX (by decide))).dY (aA.box hadd.2 (by decide)) (aA.box hadd.2 (by decide));have Ow:=af hadd.1;clear Iq tX Qx Qy hadd hx1 hx2 hbx Rs rJ Tc hll hb6;clear y0 y1 ZH;rw [<-uh HEQ] at Ow;rw [<-Kg] at Ow;go_wp2;go_roundg (gk - 1)
     case measure=>omega
     case rel=>exact ⟨i+1,_,_,by simp,by omega,uh Ow⟩
  ·have hin:i=n:=by omega
   have jq:Hid (vE w wr B n (.slice none 0 0) (.slice la ln lc) (.slice ta tn tc) (iY (rs.take 0)) (eF n vs n++dQ (rs.take 0)) (gT n n)):=by
    have:=uh HR;rw [hin] at this;unfold Hid
    simpa [iY,dQ] using this
   clear hin;go_wp2_with fail;clear HR;rename World=>wo;rename Nat=>go;go_loopg [8] m (λk iv wr=>∃ (i:Nat) (zv lv tv:Value),iv=.int .i64 i∧i+k=m∧Hid (vE w wr B n zv lv tv (iY (rs.take i)) (eF n vs n++dQ (rs.take i)) (gT n n)))
   case atStart=>exact ⟨0,_,_,_,rfl,by omega,uh jq⟩
   case round =>
    clear jq;clear hik hlt;obtain ⟨i,zv,lv,tv,rfl,hik,HR⟩:=hrel;obtain ⟨za,zn,zc,rfl⟩:=(uh HR).zero.aB;obtain ⟨la,ln,lc,rfl⟩:=(uh HR).least.aB;obtain ⟨ta,tn,tc,rfl⟩:=(uh HR).told.aB;by_cases hlt:i<m
    ·obtain ⟨q,hq⟩:∃ q,rs.getD i ([],0,false)=q:=⟨_,rfl⟩;have Wm:Hid (q∈rs):=by unfold Hid;rw [<-hq,a_,f_ (by rw [uh HM];exact hlt)];exact aal _
     have Li:Hid (rs.take (i+1)=rs.take i++[q]):=by
      unfold Hid;rw [<-hq,X_ (by rw [uh HM];exact hlt),a_,f_ (by rw [uh HM];exact hlt)];rfl
     obtain ⟨gr,or',ua,un,uc,er,r0,hints,r1,r2⟩:=((uh HB).below (uh HR).cZ).get (i:=i) (by rw [uh HM];exact hlt);rw [hq] at hints r1 r2;obtain ⟨C,K,E⟩:=q;simp only at hints r1 r2;cases er;have RJ:=af (x_ r0 (x_ r1 r2));have OZ:=af hints;have hKb:=(uh Oa).k _ (uh Wm);have Lj:=(uh Oa).len _ (uh Wm);simp only at hKb Lj;have vQ:Hid (C.length=n):=Lj;have RN:=af ((uh Oa).c _ (uh Wm));have hun:n=un:=by
      obtain ⟨ad,cap,e,_⟩:=hints;cases e;exact Lj.symm
     clear hints Lj hq;subst hun;rename_i YG;have hB1:=(uh HR).b1;go_wp2_with fail;refine (fM PT K wr (λ_ _=>trivial) (by omega) (by omega)).mono ?_;rintro e w1 ⟨v1,rfl,hv1,hb1⟩;obtain ⟨kx,ka,km,kc,rfl⟩:=hv1.shape;have Ut:Hid (jh PT wr.heap.size (w1.alloc (.cells #[.int .i64 kx,.slice ka km kc] 78)) (.slice (some ⟨w1.heap.size,0,none⟩) 1 1) (K::C.take 0)):=by
      refine ⟨[.int .i64 kx,.slice ka km kc],⟨rfl,.inr ⟨w1.heap.size,1,_,rfl,hb1.size,aG _ _,d_ _,by decide,rfl,rfl⟩⟩,?_⟩;exact (pX.nil PT _).snoc (hv1.below (ae.alloc _ _))
     have dN:Hid (ae wr (w1.alloc (.cells #[.int .i64 kx,.slice ka km kc] 78))):=ae.trans hb1 (ae.alloc _ _);clear hv1 hb1 r0 r1 r2;go_wp2_with fail;generalize hW1:w1.alloc (.cells #[.int .i64 kx,.slice ka km kc] 78)=W1 at *
     obtain ⟨wo,rfl⟩:∃ wo,wo=wr:=⟨_,rfl⟩;obtain ⟨go',rfl⟩:∃ go',go'=gk:=⟨_,rfl⟩;clear hW1;have U6:=HR;clear HR;go_loopg [9,10] n (λk sv jv wr2=>∃ (j:Nat) (sa:Option Addr) (sn sc:Nat),sv=.slice sa sn sc∧jv=.int .i64 j∧j+k=n∧Hid (jh PT wo.heap.size wr2 (.slice sa sn sc) (K::C.take j)∧ae wo wr2))
     case atStart=>exact ⟨0,_,_,_,rfl,rfl,by omega,uh Ut,uh dN⟩
     case round =>
      clear Ut dN;obtain ⟨j,sa,sn,sc,rfl,rfl,hjk,HR⟩:=hrel;by_cases hj:j<n
      ·have r0:=(uh HR).2.cell (uh RJ).1;obtain ⟨ad,cap,ei,hcell⟩:=(uh OZ).below (uh HR).2;cases ei;obtain ⟨gc,oc,eg,c0⟩:=hcell j (by rw [uh vQ];exact hj);cases eg;obtain ⟨c,hc⟩:∃ c,C.getD j 0=c:=⟨_,rfl⟩;rw [hc] at c0;have hcb:-1000<=c∧c<=1000:=by
        rw [<-hc,a_,f_ (by rw [uh vQ];exact hj)];exact uh RN _ (aal _)
       have HCT:Hid (C.take (j+1)=C.take j++[c]):=by
        unfold Hid;rw [<-hc,X_ (by rw [uh vQ];exact hj),a_,f_ (by rw [uh vQ];exact hj)];rfl
       have Qm:Hid ((K::C.take j).length=j+1):=by
        unfold Hid;rw [abS,U_,uh vQ];omega
       have hCn:(j:Int)<(C.length:Int):=by rw [uh vQ];omega
       clear hc hcell;go_wp2_with fail;refine (fM PT c wr (λ_ _=>trivial) (by omega) (by omega)).mono ?_;rintro e w2 ⟨v2,rfl,hv2,hb2⟩;obtain ⟨cx,ca,cm,cc,rfl⟩:=hv2.shape;obtain ⟨xs,hx1,hx2⟩:=(uh HR).1.grow hb2;have hsn:sn=j+1:=by
        rw [<-uh Qm];rcases hx1.2 with ⟨e,h0⟩|⟨g,cap,cur,e,_⟩
        ·cases e;exact h0.symm
        ·cases e;rfl
       rw [uh Qm] at hx1;have HX1:=af hx1;have Fj:=af hx2;have HOW:=af (λo=>hx1.alloc o);have HSN:=af hsn;have GZ:=af hv2;have HB2:Hid (ae wr w2):=hb2;have hsz2:wo.heap.size<=w2.heap.size:=w_ (uh HR).2.size hb2.size;clear hx1 hx2 hsn hv2 hb2 r0 c0;go_wp2_with (at_builtin;refine aap _ rfl _ _ 69 rfl wo.heap.size 78 i0 (.agg #[.int .i64 0,.slice none 0 0]) 2 32 Tryz.underlying69 hi0 hz0 hz1 hz2 rfl (by decide) _ (j+1) xs rfl (uh HOW _) ⟨_,0,none⟩ 1 1 [.int .i64 cx,.slice ca cm cc] rfl rfl ?d1 (by simp [Value.oneCell']) (by decide) ?d2 ?d3 ?d4 _ rfl ?_)
       case d1=>exact λj u hu=>aaq (aaC _ _) j u hu
       case d2=>unfold maxLen;omega
       case d3=>omega
       case d4=>simp;omega
       ·intro g cap w3 hown3 hgrow3 adO hlt3;have hgA:=ae.alloc w2 (.cells #[.int .i64 cx,.slice ca cm cc] 78);have kt:aA 3 (w2.alloc (.cells #[.int .i64 cx,.slice ca cm cc] 78)) w3:=aA.grown (uh HOW _) hgrow3 (by decide);have HN3:Hid (jh PT wo.heap.size w3 (.slice (some ⟨g,0,none⟩) (j+1+1) cap) (K::C.take (j+1))):=by
         unfold Hid;rw [uh HCT,<-List.cons_append];refine ⟨xs++[.int .i64 cx,.slice ca cm cc],?_,?_⟩
         ·rw [C_,uh Qm];exact hown3
         ·exact (((uh Fj).grow hgA).dY kt).snoc (((uh GZ).below hgA).bW kt)
        have jb:Hid (ae wo w3):=aa7 ((uh HR).2.trans ((uh HB2).trans hgA)) (abx (n_ _ _) hgrow3 (by rw [H_];omega) (bR (uh HOW (.cells #[.int .i64 cx,.slice ca cm cc] 78))));clear hown3 hgrow3 adO hlt3 hgA kt HOW HX1 Fj;go_wp2;go_roundg (gk - 1)
        case measure=>omega
        case rel=>exact ⟨j+1,_,_,_,rfl,by simp,by omega,uh HN3,uh jb⟩
      ·have hjn:j=n:=by omega
       have HRN:Hid (jh PT wo.heap.size wr (.slice sa sn sc) (K::C)):=by
        unfold Hid;have h1:=(uh HR).1;rwa [hjn,<-uh vQ,aaL] at h1
       have sN:Hid (aD PT wr (.slice sa sn sc) (K::C)):=(uh HRN).row (λ_ _=>trivial);have oI:=af ((uh U6).grow (uh HR).2);have r2:=(uh HR).2.cell (uh RJ).2.2;clear hjn HRN;cases E with
       | true =>
        have ZI:Hid (iY (rs.take (i+1))=iY (rs.take i)++[K::C]∧dQ (rs.take (i+1))=dQ (rs.take i)):=by
         unfold Hid iY dQ;rw [uh Li,adz,adz,aa9,aa9];exact ⟨by simp [zS],by simp [zS]⟩
        have kk:wr.cell? ⟨w.heap.size+1,1,none⟩=some (.slice za zn zc):=by rw [cellsOf (uh oI).box];rfl
        obtain ⟨xs,hx1,hx2⟩:=(uh oI).zero;have Fj:=af hx2;have HOW:=af (λo=>hx1.alloc o);have hll:(iY (rs.take i)).length<=1000:=by unfold iY;rw [L_];have h1:=abL (λq:dS=>q.2.2) (rs.take i);rw [U_] at h1;have h2:=uh HM;omega
        have hb1:=(uh oI).b1;clear hx1 hx2;go_wp2_with (at_builtin;refine aap _ rfl _ _ 72 rfl B 69 i1 (.slice none 0 0) 1 24 Tryz.underlying72 hi1 hy0 hy1 hy2 rfl (by decide) _ (iY (rs.take i)).length xs rfl (uh HOW _) ⟨_,0,none⟩ 1 1 [.slice sa sn sc] rfl rfl ?d1 (by simp [Value.oneCell']) (by decide) ?d2 ?d3 ?d4 _ rfl ?_)
        case d1=>exact λj u hu=>aaq (aaC _ _) j u hu
        case d2=>unfold maxLen;omega
        case d3=>omega
        case d4=>simp;omega
        ·intro g cap w4 AO ry Io Ip;have hgA:=ae.alloc wr (.cells #[.slice sa sn sc] 69);have hadd:=((uh oI).grow hgA).Ta (uh HOW _) ((uh Fj).grow (.aX hgA)) ((uh sN).below hgA) AO ry (by rcases Io with e | e;exact .inl e;exact .inr (by rw [e,H_]))
         have kb:w4.cell? ⟨w.heap.size+1,1,none⟩=some (.slice za zn zc):=by rw [cellsOf hadd.2];rfl
         have Xz:w4.frozen? ⟨w.heap.size+1,1,none⟩=false:=aH hadd.2 1;have Nv:=af hadd.1;rw [<-(uh ZI).1,<-(uh ZI).2] at Nv;clear AO ry Io Ip hadd hgA HOW Fj;go_wp2;go_roundg (go' - 1)
         case measure=>omega
         case rel=>exact ⟨i+1,_,_,_,by simp,by omega,uh Nv⟩
       | false =>
        have ZI:Hid (iY (rs.take (i+1))=iY (rs.take i)∧dQ (rs.take (i+1))=dQ (rs.take i)++[K::C]):=by
         unfold Hid iY dQ;rw [uh Li,adz,adz,aa9,aa9];exact ⟨by simp [zS],by simp [zS]⟩
        obtain ⟨LL,Fg⟩:∃ LL,eF n vs n++dQ (rs.take i)=LL:=⟨_,rfl⟩;have Jq:=af Fg;rw [Fg] at oI;have kk:wr.cell? ⟨w.heap.size+1,2,none⟩=some (.slice la ln lc):=by rw [cellsOf (uh oI).box];rfl
        obtain ⟨xs,hx1,hx2⟩:=(uh oI).least;have Fj:=af hx2;have HOW:=af (λo=>hx1.alloc o);have hll:LL.length<=1000:=by rw [<-Fg,C_,lW];unfold dQ;rw [L_];have h1:=abL (λq:dS=>!q.2.2) (rs.take i);rw [U_] at h1;have h2:=uh HM;omega
        have hb1:=(uh oI).b1;clear hx1 hx2 Fg;go_wp2_with (at_builtin;refine aap _ rfl _ _ 72 rfl B 69 i1 (.slice none 0 0) 1 24 Tryz.underlying72 hi1 hy0 hy1 hy2 rfl (by decide) _ LL.length xs rfl (uh HOW _) ⟨_,0,none⟩ 1 1 [.slice sa sn sc] rfl rfl ?d1 (by simp [Value.oneCell']) (by decide) ?d2 ?d3 ?d4 _ rfl ?_)
        case d1=>exact λj u hu=>aaq (aaC _ _) j u hu
        case d2=>unfold maxLen;omega
        case d3=>omega
        case d4=>simp;omega
        ·intro g cap w4 AO ry Io Ip;have hgA:=ae.alloc wr (.cells #[.slice sa sn sc] 69);have hadd:=((uh oI).grow hgA).CX (uh HOW _) ((uh Fj).grow (.aX hgA)) ((uh sN).below hgA) AO ry (by rcases Io with e | e;exact .inl e;exact .inr (by rw [e,H_]))
         have kb:w4.cell? ⟨w.heap.size+1,2,none⟩=some (.slice la ln lc):=by rw [cellsOf hadd.2];rfl
         have Xz:w4.frozen? ⟨w.heap.size+1,2,none⟩=false:=aH hadd.2 2;have Nv:=af hadd.1;rw [show LL++[K::C]=eF n vs n++dQ (rs.take (i+1)) by rw [<-uh Jq,abk,<-(uh ZI).2],<-(uh ZI).1] at Nv;clear AO ry Io Ip hadd hgA HOW Fj;go_wp2;go_roundg (go' - 1)
         case measure=>omega
         case rel=>exact ⟨i+1,_,_,_,by simp,by omega,uh Nv⟩
    ·have him:i=m:=by omega
     have oI:Hid (vE w wr B n (.slice za zn zc) (.slice la ln lc) (.slice ta tn tc) (iY rs) (eF n vs n++dQ rs) (gT n n)):=by
      have h1:=uh HR;unfold Hid;rwa [him,<-uh HM,aaL] at h1
     have k0:wr.cell? ⟨w.heap.size+1,0,none⟩=some (.int .i64 n):=by rw [cellsOf (uh oI).box];rfl
     have k1:wr.cell? ⟨w.heap.size+1,1,none⟩=some (.slice za zn zc):=by rw [cellsOf (uh oI).box];rfl
     have k2:wr.cell? ⟨w.heap.size+1,2,none⟩=some (.slice la ln lc):=by rw [cellsOf (uh oI).box];rfl
     have k3:wr.cell? ⟨w.heap.size+1,3,none⟩=some (.slice ta tn tc):=by rw [cellsOf (uh oI).box];rfl
     have z0:wr.cell? ⟨w.heap.size,0,none⟩=some (.int .i64 0):=by rw [cellsOf (uh oI).res];rfl
     have z1:wr.cell? ⟨w.heap.size,1,none⟩=some (.slice none 0 0):=by rw [cellsOf (uh oI).res];rfl
     have z2:wr.cell? ⟨w.heap.size,2,none⟩=some (.slice none 0 0):=by rw [cellsOf (uh oI).res];rfl
     have z3:wr.cell? ⟨w.heap.size,3,none⟩=some (.slice none 0 0):=by rw [cellsOf (uh oI).res];rfl
     have y0:=aH (uh oI).res 0;have y1:=aH (uh oI).res 1;have y2:=aH (uh oI).res 2;have y3:=aH (uh oI).res 3;have Rt:=af (iU (P:=PT) (uh oI).cZ (d_ _) (uh oI).res (n:Int) za zn zc la ln lc ta tn tc);have Qz:Hid (jT PT ((((wr.setCell ⟨w.heap.size,0,none⟩ (.int .i64 n)).setCell ⟨w.heap.size,1,none⟩ (.slice za zn zc)).setCell ⟨w.heap.size,2,none⟩ (.slice la ln lc)).setCell ⟨w.heap.size,3,none⟩ (.slice ta tn tc)) (.agg #[.int .i64 n,.slice za zn zc,.slice la ln lc,.slice ta tn tc]) (j6 vs rs)):=by
      have e:j6 vs rs=⟨n,iY rs,eF n vs n++dQ rs,gT n n⟩:=by unfold j6;rw [uh HN]
      unfold Hid;rw [e];exact ⟨_,_,_,rfl,((uh oI).zero.rows (λ_ _=>trivial)).holds (uh Rt).2,((uh oI).least.rows (λ_ _=>trivial)).holds (uh Rt).2,((uh oI).told.rows (λ_ _=>trivial)).holds (uh Rt).2⟩
     clear him;go_wp2;exact t_ (v:=.agg #[.int .i64 n,.slice za zn zc,.slice la ln lc,.slice ta tn tc]) (by simp [results,Tryz.results30,go_sem,z0,z1,z2,z3]) rfl ⟨_,rfl,uh Qz,(uh Rt).1⟩
end Go.Proofs.YtgaafamcajcifaaGreat
