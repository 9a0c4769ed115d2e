/- Joined: XOf3. -/
import Derived.Test.YtgaafamcajcifaaGreatK41
set_option linter.unusedVariables false
set_option linter.unusedSimpArgs false
set_option maxRecDepth 100000
namespace Go.Proofs.YtgaafamcajcifaaGreat
open Go.RowKit Go.Sort
def jd (w:World) (v:Value) (l:List (Int × Int)):Prop:=∃ ad cap,v=.slice ad l.length cap∧∀ i,(hi:i<l.length)->∃ g off,ad=some ⟨g,off,none⟩∧w.cell? ⟨g,off+i*2,none⟩=some (.int .i64 l[i].1)∧w.cell? ⟨g,off+i*2+1,none⟩=some (.int .i64 l[i].2)
def kP (w:World) (v:Value) (l:List dS):Prop:=∃ ad cap,v=.slice ad l.length cap∧∀ i,(hi:i<l.length)->∃ g off u,ad=some ⟨g,off,none⟩∧w.cell? ⟨g,off+i*3,none⟩=some u∧bI w u l[i].1∧w.cell? ⟨g,off+i*3+1,none⟩=some (.int .i64 l[i].2.1)∧w.cell? ⟨g,off+i*3+2,none⟩=some (.bool l[i].2.2)
section
variable {w w':World} {v:Value}
theorem jd.below {l:List (Int × Int)} (h:jd w v l) (hg:ae w w'):jd w' v l:=by
 obtain ⟨ad,cap,e,h⟩:=h;refine ⟨ad,cap,e,λi hi=>?_⟩;obtain ⟨g,off,e,h1,h2⟩:=h i hi;exact ⟨g,off,e,hg.cell h1,hg.cell h2⟩
theorem kP.below {l:List dS} (h:kP w v l) (hg:ae w w'):kP w' v l:=by
 obtain ⟨ad,cap,e,h⟩:=h;refine ⟨ad,cap,e,λi hi=>?_⟩;obtain ⟨g,off,u,e,h1,h2,h3,h4⟩:=h i hi;exact ⟨g,off,u,e,hg.cell h1,h2.below hg,hg.cell h3,hg.cell h4⟩
theorem jd.aB {l:List (Int × Int)} (h:jd w v l):∃ ad cap,v=.slice ad l.length cap:=by
 obtain ⟨ad,cap,e,_⟩:=h;exact ⟨ad,cap,e⟩
theorem kP.aB {l:List dS} (h:kP w v l):∃ ad cap,v=.slice ad l.length cap:=by
 obtain ⟨ad,cap,e,_⟩:=h;exact ⟨ad,cap,e⟩
theorem jd.get {l:List (Int × Int)} {ad:Option Addr} {n cap:Nat} (h:jd w (.slice ad n cap) l) {i:Nat} (hi:i<l.length):∃ g off,ad=some ⟨g,off,none⟩∧w.cell? ⟨g,off+i*2,none⟩=some (.int .i64 (l.getD i (0,0)).1)∧w.cell? ⟨g,off+i*2+1,none⟩=some (.int .i64 (l.getD i (0,0)).2):=by
 obtain ⟨ad',cap',e,h⟩:=h;cases e;obtain ⟨g,off,e,h1,h2⟩:=h i hi;have e2:l.getD i (0,0)=l[i]:=by rw [a_,f_ hi];rfl
 rw [e2];exact ⟨g,off,e,h1,h2⟩
theorem kP.get {l:List dS} {ad:Option Addr} {n cap:Nat} (h:kP w (.slice ad n cap) l) {i:Nat} (hi:i<l.length):∃ g off ua un uc,ad=some ⟨g,off,none⟩∧w.cell? ⟨g,off+i*3,none⟩=some (.slice ua un uc)∧bI w (.slice ua un uc) (l.getD i ([],0,false)).1∧w.cell? ⟨g,off+i*3+1,none⟩=some (.int .i64 (l.getD i ([],0,false)).2.1)∧w.cell? ⟨g,off+i*3+2,none⟩=some (.bool (l.getD i ([],0,false)).2.2):=by
 obtain ⟨ad',cap',e,h⟩:=h;cases e;obtain ⟨g,off,u,e,h1,h2,h3,h4⟩:=h i hi;have e2:l.getD i ([],0,false)=l[i]:=by rw [a_,f_ hi];rfl
 rw [e2];obtain ⟨ua,uc,eu,_⟩:=id h2;subst eu;exact ⟨g,off,ua,_,uc,e,h1,h2,h3,h4⟩
end
def tT (a b:Value):Prop:=∀ k,a.ownBlock=some k->b.ownBlock≠some k
theorem tT.symm {a b:Value} (h:tT a b):tT b a:=λk h1 h2=>h k h2 h1
theorem dB.own {P:Nat->Prop} {B:Nat} {w:World} {v:Value} {ls:List (List Int)} (h:dB P B w v ls) {k:Nat} (hk:v.ownBlock=some k):k<w.heap.size:=by
 obtain ⟨xs,h1,_⟩:=h;exact (h1.lt k hk).2
theorem dB.uq {B:Nat} {w w':World} {v v2:Value} {n:Nat} {xs:List Value} {ls:List (List Int)} (h:dB PT B w v2 ls) (ho:w.ownsRow B 69 1 v n xs) (hg:w.grownBy w' v.ownBlock) (ha:tT v v2):dB PT B w' v2 ls:=by
 obtain ⟨ys,h1,h2⟩:=h;refine ⟨ys,⟨h1.1,?_⟩,h2.dY (aA.grown ho hg (by decide)) (aA.grown ho hg (by decide))⟩;rcases h1.2 with hn|⟨g,cap,cur,rfl,hb,hgg,rest⟩
 ·exact .inl hn
 ·refine .inr ⟨g,cap,cur,rfl,hb,?_,rest⟩;rw [hg.block g (z_ hgg) (λe=>ha g e.symm rfl)];exact hgg
structure vD (w0 w:World) (B n:Nat) (zv lv tv:Value) (zl ll tl:List (List Int)):Prop where
 box:w.heap[w0.heap.size+1]?=some (.cells #[.int .i64 n,zv,lv,tv] 74 (0,0))
 res:w.heap[w0.heap.size]?=some (.cells #[.int .i64 0,.slice none 0 0,.slice none 0 0,.slice none 0 0] 74 (0,0))
 zero:dB PT B w zv zl
 least:dB PT B w lv ll
 told:dB PT B w tv tl
 a1:tT zv lv
 a2:tT lv tv
 a3:tT zv tv
 cZ:ae w0 w
 b0:w0.heap.size+1<B
 b1:B<=w.heap.size
section
variable {w0 w w':World} {B n:Nat} {zv lv tv:Value} {zl ll tl:List (List Int)}
theorem vD.grow (h:vD w0 w B n zv lv tv zl ll tl) (hg:ae w w'):vD w0 w' B n zv lv tv zl ll tl :=
 ⟨Below.same hg _ _ h.box,Below.same hg _ _ h.res,h.zero.grow hg,h.least.grow hg,h.told.grow hg,h.a1,h.a2,h.a3,h.cZ.trans hg,h.b0,w_ h.b1 hg.size⟩
theorem CU {v:Value} {xs:List Value} {ls:List (List Int)} {u:Value} {row:List Int} (ho:w.ownsRow B 69 1 v ls.length xs) (hx:jM PT w xs ls) (hu:aD PT w u row) {g cap:Nat} (hown:w'.ownsRow B 69 1 (.slice (some ⟨g,0,none⟩) (ls.length+1) cap) (ls.length+1) (xs++[u])) (hg:w.grownBy w' v.ownBlock):dB PT B w' (.slice (some ⟨g,0,none⟩) (ls.length+1) cap) (ls++[row]):=by
 refine ⟨xs++[u],by rw [C_];exact hown,?_⟩;have k1:aA 78 w w':=aA.grown ho hg (by decide);have k2:aA 3 w w':=aA.grown ho hg (by decide);exact (hx.dY k1 k2).snoc (hu.dY k1 k2)
theorem pM {v v2:Value} {g m cap:Nat} (ha:tT v v2) (hat:v.ownBlock=some g∨g=w.heap.size) (h2:∀ k,v2.ownBlock=some k->k<w.heap.size):tT (.slice (some ⟨g,0,none⟩) m cap) v2:=λk hk hk2=>by
 have e:g=k:=by
  have:(Value.slice (some ⟨g,0,none⟩) m cap).ownBlock=some g:=rfl;rw [this] at hk;cases hk;rfl
 subst e;rcases hat with e|e
 ·exact ha g e hk2
 ·have:=h2 g hk2;omega
theorem CV (hg:ae w0 w) {v:Value} {xs:List Value} {m:Nat} (ho:w.ownsRow B 69 1 v m xs) (hB:w0.heap.size+1<B) (hB1:B<=w.heap.size) (hgr:w.grownBy w' v.ownBlock):ae w0 w'∧∀ k,k<B->w'.heap[k]?=w.heap[k]?:=by
 have hbel:Below B w w':=Below.grown (n_ _ _) hgr hB1 (bR ho);exact ⟨aa2 hg (aam hbel (by omega)),λk hk=>hbel.block k hk⟩
theorem aA.box {e:TypeId} {cs:Array Value} {g i:Nat} {u:Value} (hb:w.heap[g]?=some (.cells cs 74 (0,0))) (he:74≠e):aA e w (w.setCell ⟨g,i,none⟩ u):=aA.setCell hb he _ _
theorem dB.boxed {cs:Array Value} {g i:Nat} {u v:Value} {ls:List (List Int)} (h:dB PT B w v ls) (hb:w.heap[g]?=some (.cells cs 74 (0,0))):dB PT B (w.setCell ⟨g,i,none⟩ u) v ls:=h.dY (aA.box hb (by decide)) (aA.box hb (by decide)) (aA.box hb (by decide))
theorem vD.SV (h:vD w0 w B n zv lv tv zl ll tl) {xs:List Value} (ho:w.ownsRow B 69 1 tv tl.length xs) (hx:jM PT w xs tl) {u:Value} {row:List Int} (hu:aD PT w u row) {g cap:Nat} (hown:w'.ownsRow B 69 1 (.slice (some ⟨g,0,none⟩) (tl.length+1) cap) (tl.length+1) (xs++[u])) (hg:w.grownBy w' tv.ownBlock) (hat:tv.ownBlock=some g∨g=w.heap.size) :
  vD w0 (w'.setCell ⟨w0.heap.size+1,3,none⟩ (.slice (some ⟨g,0,none⟩) (tl.length+1) cap)) B n zv lv (.slice (some ⟨g,0,none⟩) (tl.length+1) cap) zl ll (tl++[row])∧w'.heap[w0.heap.size+1]?=some (.cells #[.int .i64 n,zv,lv,tv] 74 (0,0)):=by
 obtain ⟨hG,Ba⟩:=CV h.cZ ho h.b0 h.b1 hg;have hb:=(Ba (w0.heap.size+1) h.b0).trans h.box;have hr:=(Ba w0.heap.size (by have:=h.b0;omega)).trans h.res;have e:=j_ w' (w0.heap.size+1) 3 _ _ (.slice (some ⟨g,0,none⟩) (tl.length+1) cap) hb;refine ⟨⟨e,(l_ _ _ _ _ (show w0.heap.size≠w0.heap.size+1 by omega)).trans hr,(h.zero.uq ho hg h.a3.symm).boxed hb,(h.least.uq ho hg h.a2.symm).boxed hb,(CU ho hx hu hown hg).boxed hb,h.a1,(pM h.a2.symm hat (λk hk=>h.least.own hk)).symm,(pM h.a3.symm hat (λk hk=>h.zero.own hk)).symm,B_ (p:=⟨w0.heap.size+1,3,none⟩) hG (Nat.le_succ _) _,h.b0,?_⟩,hb⟩;have:=hg.size;have:=h.b1;simp;omega
theorem vD.CW (h:vD w0 w B n zv lv tv zl ll tl) {xs:List Value} (ho:w.ownsRow B 69 1 lv ll.length xs) (hx:jM PT w xs ll) {u:Value} {row:List Int} (hu:aD PT w u row) {g cap:Nat} (hown:w'.ownsRow B 69 1 (.slice (some ⟨g,0,none⟩) (ll.length+1) cap) (ll.length+1) (xs++[u])) (hg:w.grownBy w' lv.ownBlock) (hat:lv.ownBlock=some g∨g=w.heap.size) :
  vD w0 (w'.setCell ⟨w0.heap.size+1,2,none⟩ (.slice (some ⟨g,0,none⟩) (ll.length+1) cap)) B n zv (.slice (some ⟨g,0,none⟩) (ll.length+1) cap) tv zl (ll++[row]) tl∧w'.heap[w0.heap.size+1]?=some (.cells #[.int .i64 n,zv,lv,tv] 74 (0,0)):=by
 obtain ⟨hG,Ba⟩:=CV h.cZ ho h.b0 h.b1 hg;have hb:=(Ba (w0.heap.size+1) h.b0).trans h.box;have hr:=(Ba w0.heap.size (by have:=h.b0;omega)).trans h.res;have e:=j_ w' (w0.heap.size+1) 2 _ _ (.slice (some ⟨g,0,none⟩) (ll.length+1) cap) hb;refine ⟨⟨e,(l_ _ _ _ _ (show w0.heap.size≠w0.heap.size+1 by omega)).trans hr,(h.zero.uq ho hg h.a1.symm).boxed hb,(CU ho hx hu hown hg).boxed hb,(h.told.uq ho hg h.a2).boxed hb,(pM h.a1.symm hat (λk hk=>h.zero.own hk)).symm,pM h.a2 hat (λk hk=>h.told.own hk),h.a3,B_ (p:=⟨w0.heap.size+1,2,none⟩) hG (Nat.le_succ _) _,h.b0,?_⟩,hb⟩;have:=hg.size;have:=h.b1;simp;omega
theorem vD.SX (h:vD w0 w B n zv lv tv zl ll tl) {xs:List Value} (ho:w.ownsRow B 69 1 zv zl.length xs) (hx:jM PT w xs zl) {u:Value} {row:List Int} (hu:aD PT w u row) {g cap:Nat} (hown:w'.ownsRow B 69 1 (.slice (some ⟨g,0,none⟩) (zl.length+1) cap) (zl.length+1) (xs++[u])) (hg:w.grownBy w' zv.ownBlock) (hat:zv.ownBlock=some g∨g=w.heap.size) :
  vD w0 (w'.setCell ⟨w0.heap.size+1,1,none⟩ (.slice (some ⟨g,0,none⟩) (zl.length+1) cap)) B n (.slice (some ⟨g,0,none⟩) (zl.length+1) cap) lv tv (zl++[row]) ll tl∧w'.heap[w0.heap.size+1]?=some (.cells #[.int .i64 n,zv,lv,tv] 74 (0,0)):=by
 obtain ⟨hG,Ba⟩:=CV h.cZ ho h.b0 h.b1 hg;have hb:=(Ba (w0.heap.size+1) h.b0).trans h.box;have hr:=(Ba w0.heap.size (by have:=h.b0;omega)).trans h.res;have e:=j_ w' (w0.heap.size+1) 1 _ _ (.slice (some ⟨g,0,none⟩) (zl.length+1) cap) hb;refine ⟨⟨e,(l_ _ _ _ _ (show w0.heap.size≠w0.heap.size+1 by omega)).trans hr,(CU ho hx hu hown hg).boxed hb,(h.least.uq ho hg h.a1).boxed hb,(h.told.uq ho hg h.a3).boxed hb,pM h.a1 hat (λk hk=>h.least.own hk),h.a2,pM h.a3 hat (λk hk=>h.told.own hk),B_ (p:=⟨w0.heap.size+1,1,none⟩) hG (Nat.le_succ _) _,h.b0,?_⟩,hb⟩;have:=hg.size;have:=h.b1;simp;omega
end
end Go.Proofs.YtgaafamcajcifaaGreat
