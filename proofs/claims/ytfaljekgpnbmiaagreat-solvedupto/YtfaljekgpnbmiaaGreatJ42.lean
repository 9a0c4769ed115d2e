/- Joined: XOf3 XOf4. -/
import Derived.Test.YtfaljekgpnbmiaaGreatJ08
import Derived.Test.YtfaljekgpnbmiaaGreatJ41
set_option linter.unusedVariables false
set_option linter.unusedSimpArgs false
set_option maxRecDepth 100000
namespace Go.Proofs.YtfaljekgpnbmiaaGreat
open Go.RowKit Go.Sort
def jg (w:World) (v:Value) (l:List (Int × Int)):Prop:=∃ ad cap,v=.slice ad l.length cap∧∀ i,(hi:i<l.length)->∃ g off,ad=some ⟨g,off,none⟩∧w.cell? ⟨g,off+i*2,none⟩=some (.int .i64 l[i].1)∧w.cell? ⟨g,off+i*2+1,none⟩=some (.int .i64 l[i].2)
def kR (w:World) (v:Value) (l:List dV):Prop:=∃ ad cap,v=.slice ad l.length cap∧∀ i,(hi:i<l.length)->∃ g off u,ad=some ⟨g,off,none⟩∧w.cell? ⟨g,off+i*3,none⟩=some u∧bJ w u l[i].1∧w.cell? ⟨g,off+i*3+1,none⟩=some (.int .i64 l[i].2.1)∧w.cell? ⟨g,off+i*3+2,none⟩=some (.bool l[i].2.2)
section
variable {w w':World} {v:Value}
theorem jg.below {l:List (Int × Int)} (h:jg w v l) (hg:ae w w'):jg w' v l:=by
 obtain ⟨ad,cap,e,h⟩:=h;refine ⟨ad,cap,e,λi hi=>?_⟩;obtain ⟨g,off,e,h1,h2⟩:=h i hi;exact ⟨g,off,e,hg.cell h1,hg.cell h2⟩
theorem kR.below {l:List dV} (h:kR w v l) (hg:ae w w'):kR w' v l:=by
 obtain ⟨ad,cap,e,h⟩:=h;refine ⟨ad,cap,e,λi hi=>?_⟩;obtain ⟨g,off,u,e,h1,h2,h3,h4⟩:=h i hi;exact ⟨g,off,u,e,hg.cell h1,h2.below hg,hg.cell h3,hg.cell h4⟩
theorem jg.aB {l:List (Int × Int)} (h:jg w v l):∃ ad cap,v=.slice ad l.length cap:=by
 obtain ⟨ad,cap,e,_⟩:=h;exact ⟨ad,cap,e⟩
theorem kR.aB {l:List dV} (h:kR w v l):∃ ad cap,v=.slice ad l.length cap:=by
 obtain ⟨ad,cap,e,_⟩:=h;exact ⟨ad,cap,e⟩
theorem jg.get {l:List (Int × Int)} {ad:Option Addr} {n cap:Nat} (h:jg w (.slice ad n cap) l) {i:Nat} (hi:i<l.length):∃ g off,ad=some ⟨g,off,none⟩∧w.cell? ⟨g,off+i*2,none⟩=some (.int .i64 (l.getD i (0,0)).1)∧w.cell? ⟨g,off+i*2+1,none⟩=some (.int .i64 (l.getD i (0,0)).2):=by
 obtain ⟨ad',cap',e,h⟩:=h;cases e;obtain ⟨g,off,e,h1,h2⟩:=h i hi;have e2:l.getD i (0,0)=l[i]:=by rw [a_,f_ hi];rfl
 rw [e2];exact ⟨g,off,e,h1,h2⟩
theorem kR.get {l:List dV} {ad:Option Addr} {n cap:Nat} (h:kR w (.slice ad n cap) l) {i:Nat} (hi:i<l.length):∃ g off ua un uc,ad=some ⟨g,off,none⟩∧w.cell? ⟨g,off+i*3,none⟩=some (.slice ua un uc)∧bJ w (.slice ua un uc) (l.getD i ([],0,false)).1∧w.cell? ⟨g,off+i*3+1,none⟩=some (.int .i64 (l.getD i ([],0,false)).2.1)∧w.cell? ⟨g,off+i*3+2,none⟩=some (.bool (l.getD i ([],0,false)).2.2):=by
 obtain ⟨ad',cap',e,h⟩:=h;cases e;obtain ⟨g,off,u,e,h1,h2,h3,h4⟩:=h i hi;have e2:l.getD i ([],0,false)=l[i]:=by rw [a_,f_ hi];rfl
 rw [e2];obtain ⟨ua,uc,eu,_⟩:=id h2;subst eu;exact ⟨g,off,ua,_,uc,e,h1,h2,h3,h4⟩
end
def tX (a b:Value):Prop:=∀ k,a.ownBlock=some k->b.ownBlock≠some k
theorem tX.symm {a b:Value} (h:tX a b):tX b a:=λk h1 h2=>h k h2 h1
theorem dC.own {P:Nat->Prop} {B:Nat} {w:World} {v:Value} {ls:List (List Int)} (h:dC P B w v ls) {k:Nat} (hk:v.ownBlock=some k):k<w.heap.size:=by
 obtain ⟨xs,h1,_⟩:=h;exact (h1.lt k hk).2
theorem dC.uy {B:Nat} {w w':World} {v v2:Value} {n:Nat} {xs:List Value} {ls:List (List Int)} (h:dC PT B w v2 ls) (ho:w.ownsRow B 159 1 v n xs) (hg:w.grownBy w' v.ownBlock) (ha:tX v v2):dC PT B w' v2 ls:=by
 obtain ⟨ys,h1,h2⟩:=h;refine ⟨ys,⟨h1.1,?_⟩,h2.ed (aA.grown ho hg (by decide)) (aA.grown ho hg (by decide))⟩;rcases h1.2 with hn|⟨g,cap,cur,rfl,hb,hgg,rest⟩
 ·exact .inl hn
 ·refine .inr ⟨g,cap,cur,rfl,hb,?_,rest⟩;rw [hg.block g (z_ hgg) (λe=>ha g e.symm rfl)];exact hgg
structure vF (w0 w:World) (B n:Nat) (zv lv tv:Value) (zl ll tl:List (List Int)):Prop where
 box:w.heap[w0.heap.size+1]?=some (.cells #[.int .i64 n,zv,lv,tv] 164 (0,0))
 res:w.heap[w0.heap.size]?=some (.cells #[.int .i64 0,.slice none 0 0,.slice none 0 0,.slice none 0 0] 164 (0,0))
 zero:dC PT B w zv zl
 least:dC PT B w lv ll
 told:dC PT B w tv tl
 a1:tX zv lv
 a2:tX lv tv
 a3:tX zv tv
 dh:ae w0 w
 b0:w0.heap.size+1<B
 b1:B<=w.heap.size
section
variable {w0 w w':World} {B n:Nat} {zv lv tv:Value} {zl ll tl:List (List Int)}
theorem vF.grow (h:vF w0 w B n zv lv tv zl ll tl) (hg:ae w w'):vF w0 w' B n zv lv tv zl ll tl :=
 ⟨Below.same hg _ _ h.box,Below.same hg _ _ h.res,h.zero.grow hg,h.least.grow hg,h.told.grow hg,h.a1,h.a2,h.a3,h.dh.trans hg,h.b0,w_ h.b1 hg.size⟩
theorem CW {v:Value} {xs:List Value} {ls:List (List Int)} {u:Value} {row:List Int} (ho:w.ownsRow B 159 1 v ls.length xs) (hx:jO PT w xs ls) (hu:aD PT w u row) {g cap:Nat} (hown:w'.ownsRow B 159 1 (.slice (some ⟨g,0,none⟩) (ls.length+1) cap) (ls.length+1) (xs++[u])) (hg:w.grownBy w' v.ownBlock):dC PT B w' (.slice (some ⟨g,0,none⟩) (ls.length+1) cap) (ls++[row]):=by
 refine ⟨xs++[u],by rw [C_];exact hown,?_⟩;have k1:aA 168 w w':=aA.grown ho hg (by decide);have k2:aA 3 w w':=aA.grown ho hg (by decide);exact (hx.ed k1 k2).snoc (hu.ed k1 k2)
theorem pQ {v v2:Value} {g m cap:Nat} (ha:tX v v2) (hat:v.ownBlock=some g∨g=w.heap.size) (h2:∀ k,v2.ownBlock=some k->k<w.heap.size):tX (.slice (some ⟨g,0,none⟩) m cap) v2:=λk hk hk2=>by
 have e:g=k:=by
  have:(Value.slice (some ⟨g,0,none⟩) m cap).ownBlock=some g:=rfl;rw [this] at hk;cases hk;rfl
 subst e;rcases hat with e|e
 ·exact ha g e hk2
 ·have:=h2 g hk2;omega
theorem CX (hg:ae w0 w) {v:Value} {xs:List Value} {m:Nat} (ho:w.ownsRow B 159 1 v m xs) (hB:w0.heap.size+1<B) (hB1:B<=w.heap.size) (hgr:w.grownBy w' v.ownBlock):ae w0 w'∧∀ k,k<B->w'.heap[k]?=w.heap[k]?:=by
 have hbel:Below B w w':=abS (n_ _ _) hgr hB1 (bT ho);exact ⟨abt hg (aaw hbel (by omega)),λk hk=>hbel.block k hk⟩
theorem aA.box {e:TypeId} {cs:Array Value} {g i:Nat} {u:Value} (hb:w.heap[g]?=some (.cells cs 164 (0,0))) (he:164≠e):aA e w (w.setCell ⟨g,i,none⟩ u):=aA.setCell hb he _ _
theorem dC.boxed {cs:Array Value} {g i:Nat} {u v:Value} {ls:List (List Int)} (h:dC PT B w v ls) (hb:w.heap[g]?=some (.cells cs 164 (0,0))):dC PT B (w.setCell ⟨g,i,none⟩ u) v ls:=h.ed (aA.box hb (by decide)) (aA.box hb (by decide)) (aA.box hb (by decide))
theorem vF.TQ (h:vF w0 w B n zv lv tv zl ll tl) {xs:List Value} (ho:w.ownsRow B 159 1 tv tl.length xs) (hx:jO PT w xs tl) {u:Value} {row:List Int} (hu:aD PT w u row) {g cap:Nat} (hown:w'.ownsRow B 159 1 (.slice (some ⟨g,0,none⟩) (tl.length+1) cap) (tl.length+1) (xs++[u])) (hg:w.grownBy w' tv.ownBlock) (hat:tv.ownBlock=some g∨g=w.heap.size) :
  vF w0 (w'.setCell ⟨w0.heap.size+1,3,none⟩ (.slice (some ⟨g,0,none⟩) (tl.length+1) cap)) B n zv lv (.slice (some ⟨g,0,none⟩) (tl.length+1) cap) zl ll (tl++[row])∧w'.heap[w0.heap.size+1]?=some (.cells #[.int .i64 n,zv,lv,tv] 164 (0,0)):=by
 obtain ⟨hG,Bc⟩:=CX h.dh ho h.b0 h.b1 hg;have hb:=(Bc (w0.heap.size+1) h.b0).trans h.box;have hr:=(Bc w0.heap.size (by have:=h.b0;omega)).trans h.res;have e:=j_ w' (w0.heap.size+1) 3 _ _ (.slice (some ⟨g,0,none⟩) (tl.length+1) cap) hb;refine ⟨⟨e,(l_ _ _ _ _ (show w0.heap.size≠w0.heap.size+1 by omega)).trans hr,(h.zero.uy ho hg h.a3.symm).boxed hb,(h.least.uy ho hg h.a2.symm).boxed hb,(CW ho hx hu hown hg).boxed hb,h.a1,(pQ h.a2.symm hat (λk hk=>h.least.own hk)).symm,(pQ h.a3.symm hat (λk hk=>h.zero.own hk)).symm,B_ (p:=⟨w0.heap.size+1,3,none⟩) hG (Nat.le_succ _) _,h.b0,?_⟩,hb⟩;have:=hg.size;have:=h.b1;simp;omega
theorem vF.CY (h:vF w0 w B n zv lv tv zl ll tl) {xs:List Value} (ho:w.ownsRow B 159 1 lv ll.length xs) (hx:jO PT w xs ll) {u:Value} {row:List Int} (hu:aD PT w u row) {g cap:Nat} (hown:w'.ownsRow B 159 1 (.slice (some ⟨g,0,none⟩) (ll.length+1) cap) (ll.length+1) (xs++[u])) (hg:w.grownBy w' lv.ownBlock) (hat:lv.ownBlock=some g∨g=w.heap.size) :
  vF w0 (w'.setCell ⟨w0.heap.size+1,2,none⟩ (.slice (some ⟨g,0,none⟩) (ll.length+1) cap)) B n zv (.slice (some ⟨g,0,none⟩) (ll.length+1) cap) tv zl (ll++[row]) tl∧w'.heap[w0.heap.size+1]?=some (.cells #[.int .i64 n,zv,lv,tv] 164 (0,0)):=by
 obtain ⟨hG,Bc⟩:=CX h.dh ho h.b0 h.b1 hg;have hb:=(Bc (w0.heap.size+1) h.b0).trans h.box;have hr:=(Bc w0.heap.size (by have:=h.b0;omega)).trans h.res;have e:=j_ w' (w0.heap.size+1) 2 _ _ (.slice (some ⟨g,0,none⟩) (ll.length+1) cap) hb;refine ⟨⟨e,(l_ _ _ _ _ (show w0.heap.size≠w0.heap.size+1 by omega)).trans hr,(h.zero.uy ho hg h.a1.symm).boxed hb,(CW ho hx hu hown hg).boxed hb,(h.told.uy ho hg h.a2).boxed hb,(pQ h.a1.symm hat (λk hk=>h.zero.own hk)).symm,pQ h.a2 hat (λk hk=>h.told.own hk),h.a3,B_ (p:=⟨w0.heap.size+1,2,none⟩) hG (Nat.le_succ _) _,h.b0,?_⟩,hb⟩;have:=hg.size;have:=h.b1;simp;omega
theorem vF.TR (h:vF w0 w B n zv lv tv zl ll tl) {xs:List Value} (ho:w.ownsRow B 159 1 zv zl.length xs) (hx:jO PT w xs zl) {u:Value} {row:List Int} (hu:aD PT w u row) {g cap:Nat} (hown:w'.ownsRow B 159 1 (.slice (some ⟨g,0,none⟩) (zl.length+1) cap) (zl.length+1) (xs++[u])) (hg:w.grownBy w' zv.ownBlock) (hat:zv.ownBlock=some g∨g=w.heap.size) :
  vF w0 (w'.setCell ⟨w0.heap.size+1,1,none⟩ (.slice (some ⟨g,0,none⟩) (zl.length+1) cap)) B n (.slice (some ⟨g,0,none⟩) (zl.length+1) cap) lv tv (zl++[row]) ll tl∧w'.heap[w0.heap.size+1]?=some (.cells #[.int .i64 n,zv,lv,tv] 164 (0,0)):=by
 obtain ⟨hG,Bc⟩:=CX h.dh ho h.b0 h.b1 hg;have hb:=(Bc (w0.heap.size+1) h.b0).trans h.box;have hr:=(Bc w0.heap.size (by have:=h.b0;omega)).trans h.res;have e:=j_ w' (w0.heap.size+1) 1 _ _ (.slice (some ⟨g,0,none⟩) (zl.length+1) cap) hb;refine ⟨⟨e,(l_ _ _ _ _ (show w0.heap.size≠w0.heap.size+1 by omega)).trans hr,(CW ho hx hu hown hg).boxed hb,(h.least.uy ho hg h.a1).boxed hb,(h.told.uy ho hg h.a3).boxed hb,pQ h.a1 hat (λk hk=>h.least.own hk),h.a2,pQ h.a3 hat (λk hk=>h.told.own hk),B_ (p:=⟨w0.heap.size+1,1,none⟩) hG (Nat.le_succ _) _,h.b0,?_⟩,hb⟩;have:=hg.size;have:=h.b1;simp;omega
end
theorem dC.aB {P:Nat->Prop} {B:Nat} {w:World} {v:Value} {ls:List (List Int)} (h:dC P B w v ls):bf v:=by
 obtain ⟨xs,h1,_⟩:=h;rcases h1.2 with ⟨e,_⟩|⟨g,cap,cur,e,_⟩
 ·exact ⟨_,_,_,e⟩
 ·exact ⟨_,_,_,e⟩
attribute [local go_sem] bE Cq
set_option maxHeartbeats 1000000 in
theorem FY (vs:List (Int × Int)) (rs:List dV) (va vb:Value) (w:World) (ha:jg w va vs) (hb:kR w vb rs) (hv:fK vs) (hr:lK vs.length rs) :
  Calls Tryz.prog 122 #[va,vb] w λe w'=>∃ v',e=.returned v'∧jV PT w' v' (kz vs rs)∧Below w.heap.size w w':=by
 obtain ⟨i0,hi0,hz0,hz1,hz2⟩:=V_ Tryz.dR;obtain ⟨i1,hi1,hy0,hy1,hy2⟩:=V_ Tryz.l9;obtain ⟨aa,ac,rfl⟩:=ha.aB;obtain ⟨ba,bc,rfl⟩:=hb.aB;have hn4:=hv.four;have hm8:=hr.pK;have HV:=af hv;have OV:=af hr;have HA:=af ha;have HB:=af hb;obtain ⟨n,hn⟩:∃ n,vs.length=n:=⟨_,rfl⟩;obtain ⟨m,hm⟩:∃ m,rs.length=m:=⟨_,rfl⟩;have HN:=af hn;have HM:=af hm;rw [hn] at hn4 OV;rw [hm] at hm8;rw [hn,hm];rw [hn] at HA;rw [hm] at HB;have HO:Hid (vF w ((w.alloc (.cells #[.int .i64 0,.slice none 0 0,.slice none 0 0,.slice none 0 0] 164)).alloc (.cells #[.int .i64 n,.slice none 0 0,.slice none 0 0,.slice none 0 0] 164)) ((w.alloc (.cells #[.int .i64 0,.slice none 0 0,.slice none 0 0,.slice none 0 0] 164)).alloc (.cells #[.int .i64 n,.slice none 0 0,.slice none 0 0,.slice none 0 0] 164)).heap.size n (.slice none 0 0) (.slice none 0 0) (.slice none 0 0) [] [] []):=by
  have e1:=aG (w.alloc (.cells #[.int .i64 0,.slice none 0 0,.slice none 0 0,.slice none 0 0] 164)) (.cells #[.int .i64 n,.slice none 0 0,.slice none 0 0,.slice none 0 0] 164);rw [H_] at e1;refine ⟨e1,Below.same (ae.alloc _ _) _ _ (aG w _),.nil _ _ _,.nil _ _ _,.nil _ _ _,λk hk=>(by cases hk),λk hk=>(by cases hk),λk hk=>(by cases hk),ae.trans (ae.alloc _ _) (ae.alloc _ _),?_,d_ _⟩;rw [H_,H_];omega
 clear ha hb hv hr hn hm;go_enter Tryz.func122,Tryz.ntmps122;go_wp2_with fail;generalize hW:(w.alloc (.cells #[.int .i64 0,.slice none 0 0,.slice none 0 0,.slice none 0 0] 164)).alloc (.cells #[.int .i64 n,.slice none 0 0,.slice none 0 0,.slice none 0 0] 164)=W at *
 generalize hBB:W.heap.size=B at *
 clear hW hBB;go_loopg [6] n (λk iv wr=>∃ (i:Nat) (lv tv:Value),iv=.int .i64 i∧i+k=n∧Hid (vF w wr B n (.slice none 0 0) lv tv [] (eH n vs i) (gV n i)))
 case atStart=>exact ⟨0,_,_,rfl,by omega,uh HO⟩
 case round =>
  clear HO;obtain ⟨i,lv,tv,rfl,hik,HR⟩:=hrel;have hsl:bf lv:=by
   obtain ⟨xs,h1,_⟩:=(uh HR).least;rcases h1.2 with ⟨e,_⟩|⟨g,cap,cur,e,_⟩
   ·exact ⟨_,_,_,e⟩
   ·exact ⟨_,_,_,e⟩
  have hst:bf tv:=by
   obtain ⟨xs,h1,_⟩:=(uh HR).told;rcases h1.2 with ⟨e,_⟩|⟨g,cap,cur,e,_⟩
   ·exact ⟨_,_,_,e⟩
   ·exact ⟨_,_,_,e⟩
  obtain ⟨la,ln,lc,rfl⟩:=hsl;obtain ⟨ta,tn,tc,rfl⟩:=hst;by_cases hlt:i<n
  ·have hwn:IntKind.i64.wrap ((n:Int)+1)=((n+1:Nat):Int):=by rw [aaE];omega
   go_wp2_with (at_make;refine O_ _ rfl _ _ 159 rfl wr.heap.size 168 i0 (.agg #[.int .i64 0,.slice none 0 0]) 2 Tryz.underlying159 hi0 hz0 hz1 .i64 .i64 _ _ (n+1) rfl rfl ?e1 ?e2 ?c1 ?c2 ?c3 ?_)
   case e1=>first | rfl | omega | simp
   case e2=>first | rfl | omega | simp
   case c1=>rw [hz2];omega
   case c2=>unfold maxLen;omega
   case c3=>first | omega | simp
   ·intro w1 hown hgrow;have hG1:ae wr w1:=(n_ _ _).grown hgrow (d_ _) (by intro k hk;cases hk);have uC:Hid (bA PT w1 wr.heap.size (n+1) (λ_=>0)):=bA.made hown;have dP:=af hG1;have w1':IntKind.i64.wrap ((i:Int)+1)=(i:Int)+1:=by rw [aaE];omega
    have t1':((i:Int)+1).toNat=i+1:=by omega
    have l1':(i:Int)+1<(n:Int)+1:=by omega
    have l2':0<=(i:Int)+1:=by omega
    clear hown hgrow hG1;go_wp2_with fail;refine (fP PT 1 w1 (λ_ _=>trivial) (by decide) (by decide)).mono ?_;rintro e w2 ⟨v2,rfl,hv2,hb2⟩;obtain ⟨ox,oa,om,oc,rfl⟩:=hv2.shape;have hR2:=(uh uC).grow hb2;obtain ⟨qx,qa,qm,qc,r0,r1,_,f0,f1⟩:=hR2.get (i:=i+1) (by omega);have sO:Hid (aD PT ((w2.setCell ⟨wr.heap.size,(i+1)*2,none⟩ (.int .i64 ox)).setCell ⟨wr.heap.size,(i+1)*2+1,none⟩ (.slice oa om oc)) (.slice (some ⟨wr.heap.size,0,none⟩) (n+1) (n+1)) (di n i)):=by
     have:=((hR2.set (i:=i+1) (by omega) hv2).congr (f':=Pl.unit (i+1)) (λk _=>by
      unfold ql Pl.unit;by_cases h:k=i+1
      ·rw [h_ h,h_ h.symm]
      ·rw [g_ h,g_ (λe=>h e.symm)])).row trivial
     exact this
    have je:Hid (ae wr ((w2.setCell ⟨wr.heap.size,(i+1)*2,none⟩ (.int .i64 ox)).setCell ⟨wr.heap.size,(i+1)*2+1,none⟩ (.slice oa om oc))):=(B_ (p:=⟨wr.heap.size,(i+1)*2,none⟩) (ae.trans (uh dP) hb2) (d_ _) _).setCell (p:=⟨wr.heap.size,(i+1)*2+1,none⟩) (d_ _) _;generalize hW3:(w2.setCell ⟨wr.heap.size,(i+1)*2,none⟩ (.int .i64 ox)).setCell ⟨wr.heap.size,(i+1)*2+1,none⟩ (.slice oa om oc)=W3 at *
    have oJ:=af ((uh HR).grow (uh je));have k3:W3.cell? ⟨w.heap.size+1,3,none⟩=some (.slice ta tn tc):=by rw [cellsOf (uh oJ).box];rfl
    obtain ⟨xs,hx1,hx2⟩:=(uh oJ).told;have htn:tn=(gV n i).length:=(uh oJ).told.len;have htl:(gV n i).length<=1000:=by unfold gV;rw [L_,List.length_range];omega
    have HX1:=af hx1;have Fq:=af hx2;have HOW:=af (λo=>hx1.alloc o);have HTN:=af htn;have hb1:=(uh oJ).b1;clear hv2 hb2 hR2 hx1 hx2 htn;go_wp2_with (at_builtin;refine aau _ rfl _ _ 162 rfl B 159 i1 (.slice none 0 0) 1 24 Tryz.underlying162 hi1 hy0 hy1 hy2 rfl (by decide) _ (gV n i).length xs rfl (uh HOW _) ⟨_,0,none⟩ 1 1 [.slice (some ⟨wr.heap.size,0,none⟩) (n+1) (n+1)] rfl rfl ?d1 (by simp [Value.oneCell']) (by decide) ?d2 ?d3 ?d4 _ rfl ?_)
    case d1=>exact λj u hu=>aav (aay _ _) j u hu
    case d2=>unfold maxLen;omega
    case d3=>omega
    case d4=>simp;omega
    ·intro g cap w4 AP rz Iq Ir;have hgA:=ae.alloc W3 (.cells #[.slice (some ⟨wr.heap.size,0,none⟩) (n+1) (n+1)] 159);have hadd:=((uh oJ).grow hgA).TQ (uh HOW _) ((uh Fq).grow (.aX hgA)) ((uh sO).below hgA) AP rz (by rcases Iq with e | e;exact .inl e;exact .inr (by rw [e,H_]))
     have kb:w4.cell? ⟨w.heap.size+1,3,none⟩=some (.slice ta tn tc):=by rw [cellsOf hadd.2];rfl
     have Yc:w4.frozen? ⟨w.heap.size+1,3,none⟩=false:=aH hadd.2 3;have hK1:aA 168 W3 w4:=(aA.aX hgA).trans (aA.grown (uh HOW _) rz (by decide));have hK2:aA 3 W3 w4:=(aA.aX hgA).trans (aA.grown (uh HOW _) rz (by decide));have EE:Hid (aD PT (w4.setCell ⟨w.heap.size+1,3,none⟩ (.slice (some ⟨g,0,none⟩) ((gV n i).length+1) cap)) (.slice (some ⟨wr.heap.size,0,none⟩) (n+1) (n+1)) (di n i)):=((uh sO).ed hK1 hK2).ed (aA.box hadd.2 (by decide)) (aA.box hadd.2 (by decide));have Og:=af hadd.1;clear AP rz Iq Ir hadd hgA hK1 hK2 HOW HX1 Fq oJ k3;generalize Bj:w4.setCell ⟨w.heap.size+1,3,none⟩ (.slice (some ⟨g,0,none⟩) ((gV n i).length+1) cap)=W5 at *
     have k2:W5.cell? ⟨w.heap.size+1,2,none⟩=some (.slice la ln lc):=by rw [cellsOf (uh Og).box];rfl
     obtain ⟨gv,ov,ev,c0,c1⟩:=((uh HA).below (uh Og).dh).get (i:=i) (by rw [uh HN];exact hlt);cases ev;have HC1:Hid (w.cell? ⟨gv,ov+i*2+1,none⟩=some (.int .i64 (vs.getD i (0,0)).2)):=by
      obtain ⟨gv',ov',ev,_,c1'⟩:=(uh HA).get (i:=i) (by rw [uh HN];exact hlt);cases ev;exact c1'
     have H9:=af ((uh HV).lo _ (jG (i:=i) (by rw [uh HN];exact hlt)));have DN:=af ((uh HV).hi _ (jG (i:=i) (by rw [uh HN];exact hlt)));obtain ⟨lo,hlo⟩:∃ lo,(vs.getD i (0,0)).1=lo:=⟨_,rfl⟩;obtain ⟨hi,hhi⟩:∃ hi,(vs.getD i (0,0)).2=hi:=⟨_,rfl⟩;rw [hlo] at c0 H9;rw [hhi] at HC1 DN;have HEQ:Hid (eH n vs (i+1)=eH n vs i++[bQ (di n i) (-lo)]++[bQ ((di n i).map λx=>-x) hi]):=by
      unfold Hid;rw [y9];unfold ry;rw [hlo,hhi,abG];rfl
     clear hlo hhi;have hneg:IntKind.i64.wrap (-lo)=-lo:=by have:=uh H9;rw [aaE];omega
     have AJ:Hid ((eH n vs i).length<=1000):=by unfold Hid;rw [lY];omega
     clear c1;go_wp2_with fail
     try rw [Bj]
     clear Bj kb Yc;have y0:=b_ k2;have y1:=b_ c0;clear k2 c0;refine rR (cK [(45,λv w=>aD PT w v (bQ (di n i) (-lo))),(46,fM PT (bQ (di n i) (-lo))),(44,λv w=>aj PT w v (-lo))]) (gL [(44,ag),(45,bf),(46,pX)]) 112 12 (by kernel_rfl) (by rfl) (by kernel_rfl) (aN (λ_ _ _=>aD.below) (aN (λ_ _ _=>fM.grow) (aN (λ_ _ _=>aj.below) cO))) ?_
     iterate 9 (refine aO λK hK=>?_;go_simp;refine hK _ ?_;clear hK K)
     refine ai ag 168 #[.int .i64 (-lo)] (by rfl) (by rfl) ag.some (λw=>by go_simp) (λwq hg hf=>(fP PT (-lo) wq (λ_ _=>trivial) (by have:=uh H9;omega) (by have:=uh H9;omega)).mono (by rintro e w' ⟨v',rfl,hv,hb⟩;exact ⟨_,rfl,hb,hv.aU,λt ht=>by cases ht;exact hv⟩)) ?_;rintro _ ⟨bx,ba,bm,bc,rfl⟩;simp only [Act.put,p_,G_,D_];refine ai bf 165 #[.slice (some ⟨wr.heap.size,0,none⟩) (n+1) (n+1),.agg #[.int .i64 bx,.slice ba bm bc]] (by rfl) (by rfl) bf.some (λw=>by go_simp) (λwq hg hf=>(nG PT 1 (n+1) (di n i) (-lo) _ _ wq (λ_ _=>trivial) ((uh EE).below hg) (hf 9 (by kernel_rfl) _ 44 rfl rfl) (iC n i) (by omega) (by omega) (λk=>vg (d_ _) k) (nI (show (-lo).natAbs<1073741824 by have:=uh H9;omega)) (by omega)).mono (by rintro e w' ⟨v',rfl,hv,hb⟩;exact ⟨_,rfl,hb,hv.aB,λt ht=>by cases ht;exact hv⟩)) ?_;rintro _ ⟨sa,sm,sc,rfl⟩;simp only [Act.put,p_,G_,D_];refine eT pX (by rfl) (by rfl) pX.some (λwq hg hf=>⟨.slice (some ⟨wq.heap.size,0,none⟩) 1 1,wq.alloc (.cells #[.slice sa sm sc] 159),by go_simp,ae.alloc _ _,⟨_,rfl⟩,λt ht=>by cases ht;exact fM.new (hf 10 (by kernel_rfl) _ 45 rfl rfl)⟩) ?_;rintro _ ⟨gx,rfl⟩;simp only [Act.put,p_,G_,D_];refine aF ?_;intro w6 rM aK;have hfr:fM PT (bQ (di n i) (-lo)) (.slice (some ⟨gx,0,none⟩) 1 1) w6:=aK 11 _ 46 (by decide) rfl rfl;clear aK;obtain ⟨gx',u,ex,hbx,Sg⟩:=hfr;cases ex;obtain ⟨sa',sm',TB,rfl⟩:=Sg.aB;have TS:=af ((uh Og).grow rM);obtain ⟨xs,hx1,hx2⟩:=(uh TS).least;have hll:(eH n vs i).length<=1000:=uh AJ;have hb6:=(uh TS).b1;refine wp_append_lies w6 (.tmp 36) (.tmp 46) 162 rfl B 159 i1 (.slice none 0 0) 1 24 Tryz.underlying162 hi1 hy0 hy1 hy2 rfl (by decide) (.slice la ln lc) (eH n vs i).length xs rfl hx1 ⟨gx,0,none⟩ 1 1 [.slice sa' sm' TB] rfl rfl (λj u hu=>aav hbx j u hu) (by simp [Value.oneCell']) (by decide) (by unfold maxLen;omega) (by omega) hb6 _ rfl ?_;intro g8 Hq w7 Iu tY Ra Rb;have hadd:=(uh TS).CY hx1 hx2 Sg Iu tY Ra;have kb:w7.cell? ⟨w.heap.size+1,2,none⟩=some (.slice la ln lc):=by rw [cellsOf hadd.2];rfl
     have Yc:w7.frozen? ⟨w.heap.size+1,2,none⟩=false:=aH hadd.2 2;have U5:Hid (aD PT (w7.setCell ⟨w.heap.size+1,2,none⟩ (.slice (some ⟨g8,0,none⟩) ((eH n vs i).length+1) Hq)) (.slice (some ⟨wr.heap.size,0,none⟩) (n+1) (n+1)) (di n i)):=(((uh EE).below rM).ed (aA.grown hx1 tY (by decide)) (aA.grown hx1 tY (by decide))).ed (aA.box hadd.2 (by decide)) (aA.box hadd.2 (by decide));have Q6:=af hadd.1;clear Iu tY Ra Rb hadd hx1 hx2 hbx Sg rM TS hll hb6;clear y0 y1 hneg;have aet:Hid ((eH n vs i++[bQ (di n i) (-lo)]).length<=1000):=by unfold Hid;rw [C_,lY];simp;omega
     generalize hL8:eH n vs i++[bQ (di n i) (-lo)]=L8 at *
     generalize hn8:(eH n vs i).length+1=n8 at *
     clear hL8 hn8;generalize GR:w7.setCell ⟨w.heap.size+1,2,none⟩ (.slice (some ⟨g8,0,none⟩) n8 Hq)=W8 at *
     have k2:W8.cell? ⟨w.heap.size+1,2,none⟩=some (.slice (some ⟨g8,0,none⟩) n8 Hq):=by rw [cellsOf (uh Q6).box];rfl
     have c1:=(uh Q6).dh.cell (uh HC1);clear AJ Og EE;have AJ:=aet;go_wp2_with fail
     try rw [GR]
     clear GR kb Yc;have y0:=b_ k2;have y1:=b_ c1;clear k2 c1;refine rR (cK [(59,λv w=>aD PT w v (bQ ((di n i).map λx=>-x) hi)),(60,fM PT (bQ ((di n i).map λx=>-x) hi)),(58,λv w=>aj PT w v hi),(52,λv w=>aD PT w v ((di n i).map λx=>-x))]) (gL [(58,ag),(52,bf),(59,bf),(60,pX)]) 112 12 (by kernel_rfl) (by rfl) (by kernel_rfl) (aN (λ_ _ _=>aD.below) (aN (λ_ _ _=>fM.grow) (aN (λ_ _ _=>aj.below) (aN (λ_ _ _=>aD.below) cO)))) ?_
     iterate 3 (refine aO λK hK=>?_;go_simp;refine hK _ ?_;clear hK K)
     refine ai bf 169 #[.slice (some ⟨wr.heap.size,0,none⟩) (n+1) (n+1)] (by rfl) (by rfl) bf.some (λw=>by go_simp) (λwq hg hf=>(tO PT (n+1) (di n i) _ wq (λ_ _=>trivial) ((uh U5).below hg) (iC n i) (by omega)).mono (by rintro e w' ⟨v',rfl,hv,hb⟩;exact ⟨_,rfl,hb,hv.aB,λt ht=>by cases ht;exact hv⟩)) ?_;rintro _ ⟨oa,om,oc,rfl⟩;simp only [Act.put,p_,G_,D_]
     iterate 5 (refine aO λK hK=>?_;go_simp;refine hK _ ?_;clear hK K)
     refine ai ag 168 #[.int .i64 hi] (by rfl) (by rfl) ag.some (λw=>by go_simp) (λwq hg hf=>(fP PT hi wq (λ_ _=>trivial) (by have:=uh DN;omega) (by have:=uh DN;omega)).mono (by rintro e w' ⟨v',rfl,hv,hb⟩;exact ⟨_,rfl,hb,hv.aU,λt ht=>by cases ht;exact hv⟩)) ?_;rintro _ ⟨bx,ba,bm,bc,rfl⟩;simp only [Act.put,p_,G_,D_];refine ai bf 165 #[.slice oa om oc,.agg #[.int .i64 bx,.slice ba bm bc]] (by rfl) (by rfl) bf.some (λw=>by go_simp) (λwq hg hf=>(nG PT 1 (n+1) ((di n i).map λx=>-x) hi _ _ wq (λ_ _=>trivial) (hf 3 (by kernel_rfl) _ 52 rfl rfl) (hf 9 (by kernel_rfl) _ 58 rfl rfl) (by rw [L_];exact iC n i) (by omega) (by omega) (CK (λk=>vg (d_ _) k)) (nI (show (hi).natAbs<1073741824 by have:=uh DN;omega)) (by omega)).mono (by rintro e w' ⟨v',rfl,hv,hb⟩;exact ⟨_,rfl,hb,hv.aB,λt ht=>by cases ht;exact hv⟩)) ?_;rintro _ ⟨sa,sm,sc,rfl⟩;simp only [Act.put,p_,G_,D_];refine eT pX (by rfl) (by rfl) pX.some (λwq hg hf=>⟨.slice (some ⟨wq.heap.size,0,none⟩) 1 1,wq.alloc (.cells #[.slice sa sm sc] 159),by go_simp,ae.alloc _ _,⟨_,rfl⟩,λt ht=>by cases ht;exact fM.new (hf 10 (by kernel_rfl) _ 59 rfl rfl)⟩) ?_;rintro _ ⟨gx,rfl⟩;simp only [Act.put,p_,G_,D_];refine aF ?_;intro w6 rM aK;have hfr:fM PT (bQ ((di n i).map λx=>-x) hi) (.slice (some ⟨gx,0,none⟩) 1 1) w6:=aK 11 _ 60 (by decide) rfl rfl;clear aK;obtain ⟨gx',u,ex,hbx,Sg⟩:=hfr;cases ex;obtain ⟨sa',sm',TB,rfl⟩:=Sg.aB;have TS:=af ((uh Q6).grow rM);obtain ⟨xs,hx1,hx2⟩:=(uh TS).least;have hll:(L8).length<=1000:=uh AJ;have hb6:=(uh TS).b1;refine wp_append_lies w6 (.tmp 50) (.tmp 60) 162 rfl B 159 i1 (.slice none 0 0) 1 24 Tryz.underlying162 hi1 hy0 hy1 hy2 rfl (by decide) (.slice (some ⟨g8,0,none⟩) n8 Hq) (L8).length xs rfl hx1 ⟨gx,0,none⟩ 1 1 [.slice sa' sm' TB] rfl rfl (λj u hu=>aav hbx j u hu) (by simp [Value.oneCell']) (by decide) (by unfold maxLen;omega) (by omega) hb6 _ rfl ?_;intro g9 Tj w7 Iu tY Ra Rb;have hadd:=(uh TS).CY hx1 hx2 Sg Iu tY Ra;have kb:w7.cell? ⟨w.heap.size+1,2,none⟩=some (.slice (some ⟨g8,0,none⟩) n8 Hq):=by rw [cellsOf hadd.2];rfl
     have Yc:w7.frozen? ⟨w.heap.size+1,2,none⟩=false:=aH hadd.2 2;have aal:Hid (aD PT (w7.setCell ⟨w.heap.size+1,2,none⟩ (.slice (some ⟨g9,0,none⟩) ((L8).length+1) Tj)) (.slice (some ⟨wr.heap.size,0,none⟩) (n+1) (n+1)) (di n i)):=(((uh U5).below rM).ed (aA.grown hx1 tY (by decide)) (aA.grown hx1 tY (by decide))).ed (aA.box hadd.2 (by decide)) (aA.box hadd.2 (by decide));have Pd:=af hadd.1;clear Iu tY Ra Rb hadd hx1 hx2 hbx Sg rM TS hll hb6;clear y0 y1 aal;rw [<-uh HEQ] at Pd;rw [<-KJ] at Pd;go_wp2;go_roundg (gk - 1)
     case measure=>omega
     case rel=>exact ⟨i+1,_,_,by simp,by omega,uh Pd⟩
  ·have hin:i=n:=by omega
   have jw:Hid (vF w wr B n (.slice none 0 0) (.slice la ln lc) (.slice ta tn tc) (jb (rs.take 0)) (eH n vs n++dS (rs.take 0)) (gV n n)):=by
    have:=uh HR;rw [hin] at this;unfold Hid
    simpa [jb,dS] using this
   clear hin;go_wp2_with fail;clear HR;rename World=>wo;rename Nat=>go;go_loopg [8] m (λk iv wr=>∃ (i:Nat) (zv lv tv:Value),iv=.int .i64 i∧i+k=m∧Hid (vF w wr B n zv lv tv (jb (rs.take i)) (eH n vs n++dS (rs.take i)) (gV n n)))
   case atStart=>exact ⟨0,_,_,_,rfl,by omega,uh jw⟩
   case round =>
    clear jw;clear hik hlt;obtain ⟨i,zv,lv,tv,rfl,hik,HR⟩:=hrel;obtain ⟨za,zn,zc,rfl⟩:=(uh HR).zero.aB;obtain ⟨la,ln,lc,rfl⟩:=(uh HR).least.aB;obtain ⟨ta,tn,tc,rfl⟩:=(uh HR).told.aB;by_cases hlt:i<m
    ·obtain ⟨q,hq⟩:∃ q,rs.getD i ([],0,false)=q:=⟨_,rfl⟩;have Xf:Hid (q∈rs):=by unfold Hid;rw [<-hq,a_,f_ (by rw [uh HM];exact hlt)];exact aan _
     have LY:Hid (rs.take (i+1)=rs.take i++[q]):=by
      unfold Hid;rw [<-hq,X_ (by rw [uh HM];exact hlt),a_,f_ (by rw [uh HM];exact hlt)];rfl
     obtain ⟨gr,or',ua,un,uc,er,r0,hints,r1,r2⟩:=((uh HB).below (uh HR).dh).get (i:=i) (by rw [uh HM];exact hlt);rw [hq] at hints r1 r2;obtain ⟨C,K,E⟩:=q;simp only at hints r1 r2;cases er;have SC:=af (x_ r0 (x_ r1 r2));have PO:=af hints;have hKb:=(uh OV).k _ (uh Xf);have LZ:=(uh OV).len _ (uh Xf);simp only at hKb LZ;have vR:Hid (C.length=n):=LZ;have SF:=af ((uh OV).c _ (uh Xf));have hun:n=un:=by
      obtain ⟨ad,cap,e,_⟩:=hints;cases e;exact LZ.symm
     clear hints LZ hq;subst hun;rename_i Zg;have hB1:=(uh HR).b1;go_wp2_with fail;refine (fP PT K wr (λ_ _=>trivial) (by omega) (by omega)).mono ?_;rintro e w1 ⟨v1,rfl,hv1,hb1⟩;obtain ⟨kx,ka,km,kc,rfl⟩:=hv1.shape;have U6:Hid (jk PT wr.heap.size (w1.alloc (.cells #[.int .i64 kx,.slice ka km kc] 168)) (.slice (some ⟨w1.heap.size,0,none⟩) 1 1) (K::C.take 0)):=by
      refine ⟨[.int .i64 kx,.slice ka km kc],⟨rfl,.inr ⟨w1.heap.size,1,_,rfl,hb1.size,aG _ _,d_ _,by decide,rfl,rfl⟩⟩,?_⟩;exact (pY.nil PT _).snoc (hv1.below (ae.alloc _ _))
     have dP:Hid (ae wr (w1.alloc (.cells #[.int .i64 kx,.slice ka km kc] 168))):=ae.trans hb1 (ae.alloc _ _);clear hv1 hb1 r0 r1 r2;go_wp2_with fail;generalize hW1:w1.alloc (.cells #[.int .i64 kx,.slice ka km kc] 168)=W1 at *
     obtain ⟨wo,rfl⟩:∃ wo,wo=wr:=⟨_,rfl⟩;obtain ⟨go',rfl⟩:∃ go',go'=gk:=⟨_,rfl⟩;clear hW1;have VH:=HR;clear HR;go_loopg [9,10] n (λk sv jv wr2=>∃ (j:Nat) (sa:Option Addr) (sn sc:Nat),sv=.slice sa sn sc∧jv=.int .i64 j∧j+k=n∧Hid (jk PT wo.heap.size wr2 (.slice sa sn sc) (K::C.take j)∧ae wo wr2))
     case atStart=>exact ⟨0,_,_,_,rfl,rfl,by omega,uh U6,uh dP⟩
     case round =>
      clear U6 dP;obtain ⟨j,sa,sn,sc,rfl,rfl,hjk,HR⟩:=hrel;by_cases hj:j<n
      ·have r0:=(uh HR).2.cell (uh SC).1;obtain ⟨ad,cap,ei,hcell⟩:=(uh PO).below (uh HR).2;cases ei;obtain ⟨gc,oc,eg,c0⟩:=hcell j (by rw [uh vR];exact hj);cases eg;obtain ⟨c,hc⟩:∃ c,C.getD j 0=c:=⟨_,rfl⟩;rw [hc] at c0;have hcb:-1000<=c∧c<=1000:=by
        rw [<-hc,a_,f_ (by rw [uh vR];exact hj)];exact uh SF _ (aan _)
       have HCT:Hid (C.take (j+1)=C.take j++[c]):=by
        unfold Hid;rw [<-hc,X_ (by rw [uh vR];exact hj),a_,f_ (by rw [uh vR];exact hj)];rfl
       have QW:Hid ((K::C.take j).length=j+1):=by
        unfold Hid;rw [ab6,U_,uh vR];omega
       have hCn:(j:Int)<(C.length:Int):=by rw [uh vR];omega
       clear hc hcell;go_wp2_with fail;refine (fP PT c wr (λ_ _=>trivial) (by omega) (by omega)).mono ?_;rintro e w2 ⟨v2,rfl,hv2,hb2⟩;obtain ⟨cx,ca,cm,cc,rfl⟩:=hv2.shape;obtain ⟨xs,hx1,hx2⟩:=(uh HR).1.grow hb2;have hsn:sn=j+1:=by
        rw [<-uh QW];rcases hx1.2 with ⟨e,h0⟩|⟨g,cap,cur,e,_⟩
        ·cases e;exact h0.symm
        ·cases e;rfl
       rw [uh QW] at hx1;have HX1:=af hx1;have Fq:=af hx2;have HOW:=af (λo=>hx1.alloc o);have HSN:=af hsn;have G6:=af hv2;have HB2:Hid (ae wr w2):=hb2;have hsz2:wo.heap.size<=w2.heap.size:=w_ (uh HR).2.size hb2.size;clear hx1 hx2 hsn hv2 hb2 r0 c0;go_wp2_with (at_builtin;refine aau _ rfl _ _ 159 rfl wo.heap.size 168 i0 (.agg #[.int .i64 0,.slice none 0 0]) 2 32 Tryz.underlying159 hi0 hz0 hz1 hz2 rfl (by decide) _ (j+1) xs rfl (uh HOW _) ⟨_,0,none⟩ 1 1 [.int .i64 cx,.slice ca cm cc] rfl rfl ?d1 (by simp [Value.oneCell']) (by decide) ?d2 ?d3 ?d4 _ rfl ?_)
       case d1=>exact λj u hu=>aav (aay _ _) j u hu
       case d2=>unfold maxLen;omega
       case d3=>omega
       case d4=>simp;omega
       ·intro g cap w3 hown3 hgrow3 aew hlt3;have hgA:=ae.alloc w2 (.cells #[.int .i64 cx,.slice ca cm cc] 168);have kt:aA 3 (w2.alloc (.cells #[.int .i64 cx,.slice ca cm cc] 168)) w3:=aA.grown (uh HOW _) hgrow3 (by decide);have HN3:Hid (jk PT wo.heap.size w3 (.slice (some ⟨g,0,none⟩) (j+1+1) cap) (K::C.take (j+1))):=by
         unfold Hid;rw [uh HCT,<-List.cons_append];refine ⟨xs++[.int .i64 cx,.slice ca cm cc],?_,?_⟩
         ·rw [C_,uh QW];exact hown3
         ·exact (((uh Fq).grow hgA).ed kt).snoc (((uh G6).below hgA).bX kt)
        have je:Hid (ae wo w3):=abt ((uh HR).2.trans ((uh HB2).trans hgA)) (abS (n_ _ _) hgrow3 (by rw [H_];omega) (bT (uh HOW (.cells #[.int .i64 cx,.slice ca cm cc] 168))));clear hown3 hgrow3 aew hlt3 hgA kt HOW HX1 Fq;go_wp2;go_roundg (gk - 1)
        case measure=>omega
        case rel=>exact ⟨j+1,_,_,_,rfl,by simp,by omega,uh HN3,uh je⟩
      ·have hjn:j=n:=by omega
       have HRN:Hid (jk PT wo.heap.size wr (.slice sa sn sc) (K::C)):=by
        unfold Hid;have h1:=(uh HR).1;rwa [hjn,<-uh vR,aaV] at h1
       have sO:Hid (aD PT wr (.slice sa sn sc) (K::C)):=(uh HRN).row (λ_ _=>trivial);have oJ:=af ((uh VH).grow (uh HR).2);have r2:=(uh HR).2.cell (uh SC).2.2;clear hjn HRN;cases E with
       | true =>
        have HZE:Hid (jb (rs.take (i+1))=jb (rs.take i)++[K::C]∧dS (rs.take (i+1))=dS (rs.take i)):=by
         unfold Hid jb dS;rw [uh LY,adF,adF,abv,abv];exact ⟨by simp [zT],by simp [zT]⟩
        have kk:wr.cell? ⟨w.heap.size+1,1,none⟩=some (.slice za zn zc):=by rw [cellsOf (uh oJ).box];rfl
        obtain ⟨xs,hx1,hx2⟩:=(uh oJ).zero;have Fq:=af hx2;have HOW:=af (λo=>hx1.alloc o);have hll:(jb (rs.take i)).length<=1000:=by unfold jb;rw [L_];have h1:=ab1 (λq:dV=>q.2.2) (rs.take i);rw [U_] at h1;have h2:=uh HM;omega
        have hb1:=(uh oJ).b1;clear hx1 hx2;go_wp2_with (at_builtin;refine aau _ rfl _ _ 162 rfl B 159 i1 (.slice none 0 0) 1 24 Tryz.underlying162 hi1 hy0 hy1 hy2 rfl (by decide) _ (jb (rs.take i)).length xs rfl (uh HOW _) ⟨_,0,none⟩ 1 1 [.slice sa sn sc] rfl rfl ?d1 (by simp [Value.oneCell']) (by decide) ?d2 ?d3 ?d4 _ rfl ?_)
        case d1=>exact λj u hu=>aav (aay _ _) j u hu
        case d2=>unfold maxLen;omega
        case d3=>omega
        case d4=>simp;omega
        ·intro g cap w4 AP rz Iq Ir;have hgA:=ae.alloc wr (.cells #[.slice sa sn sc] 159);have hadd:=((uh oJ).grow hgA).TR (uh HOW _) ((uh Fq).grow (.aX hgA)) ((uh sO).below hgA) AP rz (by rcases Iq with e | e;exact .inl e;exact .inr (by rw [e,H_]))
         have kb:w4.cell? ⟨w.heap.size+1,1,none⟩=some (.slice za zn zc):=by rw [cellsOf hadd.2];rfl
         have Yc:w4.frozen? ⟨w.heap.size+1,1,none⟩=false:=aH hadd.2 1;have Og:=af hadd.1;rw [<-(uh HZE).1,<-(uh HZE).2] at Og;clear AP rz Iq Ir hadd hgA HOW Fq;go_wp2;go_roundg (go' - 1)
         case measure=>omega
         case rel=>exact ⟨i+1,_,_,_,by simp,by omega,uh Og⟩
       | false =>
        have HZE:Hid (jb (rs.take (i+1))=jb (rs.take i)∧dS (rs.take (i+1))=dS (rs.take i)++[K::C]):=by
         unfold Hid jb dS;rw [uh LY,adF,adF,abv,abv];exact ⟨by simp [zT],by simp [zT]⟩
        obtain ⟨LL,Fj⟩:∃ LL,eH n vs n++dS (rs.take i)=LL:=⟨_,rfl⟩;have Js:=af Fj;rw [Fj] at oJ;have kk:wr.cell? ⟨w.heap.size+1,2,none⟩=some (.slice la ln lc):=by rw [cellsOf (uh oJ).box];rfl
        obtain ⟨xs,hx1,hx2⟩:=(uh oJ).least;have Fq:=af hx2;have HOW:=af (λo=>hx1.alloc o);have hll:LL.length<=1000:=by rw [<-Fj,C_,lY];unfold dS;rw [L_];have h1:=ab1 (λq:dV=>!q.2.2) (rs.take i);rw [U_] at h1;have h2:=uh HM;omega
        have hb1:=(uh oJ).b1;clear hx1 hx2 Fj;go_wp2_with (at_builtin;refine aau _ rfl _ _ 162 rfl B 159 i1 (.slice none 0 0) 1 24 Tryz.underlying162 hi1 hy0 hy1 hy2 rfl (by decide) _ LL.length xs rfl (uh HOW _) ⟨_,0,none⟩ 1 1 [.slice sa sn sc] rfl rfl ?d1 (by simp [Value.oneCell']) (by decide) ?d2 ?d3 ?d4 _ rfl ?_)
        case d1=>exact λj u hu=>aav (aay _ _) j u hu
        case d2=>unfold maxLen;omega
        case d3=>omega
        case d4=>simp;omega
        ·intro g cap w4 AP rz Iq Ir;have hgA:=ae.alloc wr (.cells #[.slice sa sn sc] 159);have hadd:=((uh oJ).grow hgA).CY (uh HOW _) ((uh Fq).grow (.aX hgA)) ((uh sO).below hgA) AP rz (by rcases Iq with e | e;exact .inl e;exact .inr (by rw [e,H_]))
         have kb:w4.cell? ⟨w.heap.size+1,2,none⟩=some (.slice la ln lc):=by rw [cellsOf hadd.2];rfl
         have Yc:w4.frozen? ⟨w.heap.size+1,2,none⟩=false:=aH hadd.2 2;have Og:=af hadd.1;rw [show LL++[K::C]=eH n vs n++dS (rs.take (i+1)) by rw [<-uh Js,abG,<-(uh HZE).2],<-(uh HZE).1] at Og;clear AP rz Iq Ir hadd hgA HOW Fq;go_wp2;go_roundg (go' - 1)
         case measure=>omega
         case rel=>exact ⟨i+1,_,_,_,by simp,by omega,uh Og⟩
    ·have him:i=m:=by omega
     have oJ:Hid (vF w wr B n (.slice za zn zc) (.slice la ln lc) (.slice ta tn tc) (jb rs) (eH n vs n++dS rs) (gV n n)):=by
      have h1:=uh HR;unfold Hid;rwa [him,<-uh HM,aaV] at h1
     have k0:wr.cell? ⟨w.heap.size+1,0,none⟩=some (.int .i64 n):=by rw [cellsOf (uh oJ).box];rfl
     have k1:wr.cell? ⟨w.heap.size+1,1,none⟩=some (.slice za zn zc):=by rw [cellsOf (uh oJ).box];rfl
     have k2:wr.cell? ⟨w.heap.size+1,2,none⟩=some (.slice la ln lc):=by rw [cellsOf (uh oJ).box];rfl
     have k3:wr.cell? ⟨w.heap.size+1,3,none⟩=some (.slice ta tn tc):=by rw [cellsOf (uh oJ).box];rfl
     have z0:wr.cell? ⟨w.heap.size,0,none⟩=some (.int .i64 0):=by rw [cellsOf (uh oJ).res];rfl
     have z1:wr.cell? ⟨w.heap.size,1,none⟩=some (.slice none 0 0):=by rw [cellsOf (uh oJ).res];rfl
     have z2:wr.cell? ⟨w.heap.size,2,none⟩=some (.slice none 0 0):=by rw [cellsOf (uh oJ).res];rfl
     have z3:wr.cell? ⟨w.heap.size,3,none⟩=some (.slice none 0 0):=by rw [cellsOf (uh oJ).res];rfl
     have y0:=aH (uh oJ).res 0;have y1:=aH (uh oJ).res 1;have y2:=aH (uh oJ).res 2;have y3:=aH (uh oJ).res 3;have Si:=af (iW (P:=PT) (uh oJ).dh (d_ _) (uh oJ).res (n:Int) za zn zc la ln lc ta tn tc);have Rc:Hid (jV PT ((((wr.setCell ⟨w.heap.size,0,none⟩ (.int .i64 n)).setCell ⟨w.heap.size,1,none⟩ (.slice za zn zc)).setCell ⟨w.heap.size,2,none⟩ (.slice la ln lc)).setCell ⟨w.heap.size,3,none⟩ (.slice ta tn tc)) (.agg #[.int .i64 n,.slice za zn zc,.slice la ln lc,.slice ta tn tc]) (kz vs rs)):=by
      have e:kz vs rs=⟨n,jb rs,eH n vs n++dS rs,gV n n⟩:=by unfold kz;rw [uh HN]
      unfold Hid;rw [e];exact ⟨_,_,_,rfl,((uh oJ).zero.rows (λ_ _=>trivial)).holds (uh Si).2,((uh oJ).least.rows (λ_ _=>trivial)).holds (uh Si).2,((uh oJ).told.rows (λ_ _=>trivial)).holds (uh Si).2⟩
     clear him;go_wp2;exact t_ (v:=.agg #[.int .i64 n,.slice za zn zc,.slice la ln lc,.slice ta tn tc]) (by simp [results,Tryz.results122,go_sem,z0,z1,z2,z3]) rfl ⟨_,rfl,uh Rc,(uh Si).1⟩
end Go.Proofs.YtfaljekgpnbmiaaGreat
