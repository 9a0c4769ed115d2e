/- Joined: XOf3 XGrow3. -/
import Derived.Test.YtfaljekgpnbmiaaJ41
set_option linter.unusedVariables false
set_option linter.unusedSimpArgs false
set_option maxRecDepth 100000
namespace Go.Proofs.Ytfaljekgpnbmiaa
open Go.RowKit Go.Sort
def RngAt (w:World) (v:Value) (l:List (Int × Int)):Prop:=∃ ad cap,v=.slice ad l.length cap∧∀ i,(hi:i<l.length)→∃ g off,ad=some ⟨g,off,none⟩∧w.cell? ⟨g,off+i*2,none⟩=some (.int .i64 l[i].1)∧w.cell? ⟨g,off+i*2+1,none⟩=some (.int .i64 l[i].2)
def RwsAt (w:World) (v:Value) (l:List RowP):Prop:=∃ ad cap,v=.slice ad l.length cap∧∀ i,(hi:i<l.length)→∃ g off u,ad=some ⟨g,off,none⟩∧w.cell? ⟨g,off+i*3,none⟩=some u∧IntsAt w u l[i].1∧w.cell? ⟨g,off+i*3+1,none⟩=some (.int .i64 l[i].2.1)∧w.cell? ⟨g,off+i*3+2,none⟩=some (.bool l[i].2.2)
section
variable {w w':World} {v:Value}
theorem RngAt.below {l:List (Int × Int)} (h:RngAt w v l) (hg:Grows w w'):RngAt w' v l:=by
 obtain ⟨ad,cap,e,h⟩:=h
 refine ⟨ad,cap,e,fun i hi=>?_⟩
 obtain ⟨g,off,e,h1,h2⟩:=h i hi
 exact ⟨g,off,e,hg.cell h1,hg.cell h2⟩
theorem RwsAt.below {l:List RowP} (h:RwsAt w v l) (hg:Grows w w'):RwsAt w' v l:=by
 obtain ⟨ad,cap,e,h⟩:=h
 refine ⟨ad,cap,e,fun i hi=>?_⟩
 obtain ⟨g,off,u,e,h1,h2,h3,h4⟩:=h i hi
 exact ⟨g,off,u,e,hg.cell h1,h2.below hg,hg.cell h3,hg.cell h4⟩
theorem RngAt.shapeS {l:List (Int × Int)} (h:RngAt w v l):∃ ad cap,v=.slice ad l.length cap:=by
 obtain ⟨ad,cap,e,_⟩:=h;exact ⟨ad,cap,e⟩
theorem RwsAt.shapeS {l:List RowP} (h:RwsAt w v l):∃ ad cap,v=.slice ad l.length cap:=by
 obtain ⟨ad,cap,e,_⟩:=h;exact ⟨ad,cap,e⟩
theorem RngAt.get {l:List (Int × Int)} {ad:Option Addr} {n cap:Nat} (h:RngAt w (.slice ad n cap) l) {i:Nat} (hi:i<l.length):∃ g off,ad=some ⟨g,off,none⟩∧w.cell? ⟨g,off+i*2,none⟩=some (.int .i64 (l.getD i (0,0)).1)∧w.cell? ⟨g,off+i*2+1,none⟩=some (.int .i64 (l.getD i (0,0)).2):=by
 obtain ⟨ad',cap',e,h⟩:=h
 cases e
 obtain ⟨g,off,e,h1,h2⟩:=h i hi
 have e2:l.getD i (0,0)=l[i]:=by rw [List.getD_eq_getElem?_getD,List.getElem?_eq_getElem hi];rfl
 rw [e2]
 exact ⟨g,off,e,h1,h2⟩
theorem RwsAt.get {l:List RowP} {ad:Option Addr} {n cap:Nat} (h:RwsAt w (.slice ad n cap) l) {i:Nat} (hi:i<l.length):∃ g off ua un uc,ad=some ⟨g,off,none⟩∧w.cell? ⟨g,off+i*3,none⟩=some (.slice ua un uc)∧IntsAt w (.slice ua un uc) (l.getD i ([],0,false)).1∧w.cell? ⟨g,off+i*3+1,none⟩=some (.int .i64 (l.getD i ([],0,false)).2.1)∧w.cell? ⟨g,off+i*3+2,none⟩=some (.bool (l.getD i ([],0,false)).2.2):=by
 obtain ⟨ad',cap',e,h⟩:=h
 cases e
 obtain ⟨g,off,u,e,h1,h2,h3,h4⟩:=h i hi
 have e2:l.getD i ([],0,false)=l[i]:=by rw [List.getD_eq_getElem?_getD,List.getElem?_eq_getElem hi];rfl
 rw [e2]
 obtain ⟨ua,uc,eu,_⟩:=id h2
 subst eu
 exact ⟨g,off,ua,_,uc,e,h1,h2,h3,h4⟩
end
def Apart2 (a b:Value):Prop:=∀ k,a.ownBlock=some k→b.ownBlock≠some k
theorem Apart2.symm {a b:Value} (h:Apart2 a b):Apart2 b a:=fun k h1 h2=>h k h2 h1
theorem RowsOwn.own {P:Nat→Prop} {B:Nat} {w:World} {v:Value} {ls:List (List Int)} (h:RowsOwn P B w v ls) {k:Nat} (hk:v.ownBlock=some k):k<w.heap.size:=by
 obtain ⟨xs,h1,_⟩:=h
 exact (h1.lt k hk).2
theorem RowsOwn.far {B:Nat} {w w':World} {v v2:Value} {n:Nat} {xs:List Value} {ls:List (List Int)} (h:RowsOwn PT B w v2 ls) (ho:w.ownsRow B 73 1 v n xs) (hg:w.grownBy w' v.ownBlock) (ha:Apart2 v v2):RowsOwn PT B w' v2 ls:=by
 obtain ⟨ys,h1,h2⟩:=h
 refine ⟨ys,⟨h1.1,?_⟩,h2.keepT (KeepT.grown ho hg (by decide)) (KeepT.grown ho hg (by decide))⟩
 rcases h1.2 with hn|⟨g,cap,cur,rfl,hb,hgg,rest⟩
 ·exact .inl hn
 ·refine .inr ⟨g,cap,cur,rfl,hb,?_,rest⟩
  rw [hg.block g (lt_of_block hgg) (fun e=>ha g e.symm rfl)];exact hgg
structure OfAt (w0 w:World) (B n:Nat) (zv lv tv:Value) (zl ll tl:List (List Int)):Prop where
 box:w.heap[w0.heap.size+1]?=some (.cells #[.int .i64 n,zv,lv,tv] 78 (0,0))
 res:w.heap[w0.heap.size]?=some (.cells #[.int .i64 0,.slice none 0 0,.slice none 0 0,.slice none 0 0] 78 (0,0))
 zero:RowsOwn PT B w zv zl
 least:RowsOwn PT B w lv ll
 told:RowsOwn PT B w tv tl
 a1:Apart2 zv lv
 a2:Apart2 lv tv
 a3:Apart2 zv tv
 grows:Grows w0 w
 b0:w0.heap.size+1<B
 b1:B≤w.heap.size
section
variable {w0 w w':World} {B n:Nat} {zv lv tv:Value} {zl ll tl:List (List Int)}
theorem OfAt.grow (h:OfAt w0 w B n zv lv tv zl ll tl) (hg:Grows w w'):OfAt w0 w' B n zv lv tv zl ll tl :=
 ⟨Below.same hg _ _ h.box,Below.same hg _ _ h.res,h.zero.grow hg,h.least.grow hg,h.told.grow hg,h.a1,h.a2,h.a3,h.grows.trans hg,h.b0,Nat.le_trans h.b1 hg.size⟩
theorem own_grew {v:Value} {xs:List Value} {ls:List (List Int)} {u:Value} {row:List Int} (ho:w.ownsRow B 73 1 v ls.length xs) (hx:RowsX PT w xs ls) (hu:RowAt PT w u row) {g cap:Nat} (hown:w'.ownsRow B 73 1 (.slice (some ⟨g,0,none⟩) (ls.length+1) cap) (ls.length+1) (xs++[u])) (hg:w.grownBy w' v.ownBlock):RowsOwn PT B w' (.slice (some ⟨g,0,none⟩) (ls.length+1) cap) (ls++[row]):=by
 refine ⟨xs++[u],by rw [List.length_append];exact hown,?_⟩
 have k1:KeepT 82 w w':=KeepT.grown ho hg (by decide)
 have k2:KeepT 3 w w':=KeepT.grown ho hg (by decide)
 exact (hx.keepT k1 k2).snoc (hu.keepT k1 k2)
theorem apart_new {v v2:Value} {g m cap:Nat} (ha:Apart2 v v2) (hat:v.ownBlock=some g∨g=w.heap.size) (h2:∀ k,v2.ownBlock=some k→k<w.heap.size):Apart2 (.slice (some ⟨g,0,none⟩) m cap) v2:=fun k hk hk2=>by
 have e:g=k:=by
  have:(Value.slice (some ⟨g,0,none⟩) m cap).ownBlock=some g:=rfl
  rw [this] at hk;cases hk;rfl
 subst e
 rcases hat with e|e
 ·exact ha g e hk2
 ·have:=h2 g hk2;omega
theorem of_frame (hg:Grows w0 w) {v:Value} {xs:List Value} {m:Nat} (ho:w.ownsRow B 73 1 v m xs) (hB:w0.heap.size+1<B) (hB1:B≤w.heap.size) (hgr:w.grownBy w' v.ownBlock):Grows w0 w'∧∀ k,k<B→w'.heap[k]?=w.heap[k]?:=by
 have hbel:Below B w w':=Below.grown (Below.refl _ _) hgr hB1 (own_base ho)
 exact ⟨Below.trans hg (Below.mono hbel (by omega)),fun k hk=>hbel.block k hk⟩
theorem KeepT.box {e:TypeId} {cs:Array Value} {g i:Nat} {u:Value} (hb:w.heap[g]?=some (.cells cs 78 (0,0))) (he:78≠e):KeepT e w (w.setCell ⟨g,i,none⟩ u):=KeepT.setCell hb he _ _
theorem RowsOwn.boxed {cs:Array Value} {g i:Nat} {u v:Value} {ls:List (List Int)} (h:RowsOwn PT B w v ls) (hb:w.heap[g]?=some (.cells cs 78 (0,0))):RowsOwn PT B (w.setCell ⟨g,i,none⟩ u) v ls:=h.keepT (KeepT.box hb (by decide)) (KeepT.box hb (by decide)) (KeepT.box hb (by decide))
theorem OfAt.addTold (h:OfAt w0 w B n zv lv tv zl ll tl) {xs:List Value} (ho:w.ownsRow B 73 1 tv tl.length xs) (hx:RowsX PT w xs tl) {u:Value} {row:List Int} (hu:RowAt PT w u row) {g cap:Nat} (hown:w'.ownsRow B 73 1 (.slice (some ⟨g,0,none⟩) (tl.length+1) cap) (tl.length+1) (xs++[u])) (hg:w.grownBy w' tv.ownBlock) (hat:tv.ownBlock=some g∨g=w.heap.size) :
  OfAt w0 (w'.setCell ⟨w0.heap.size+1,3,none⟩ (.slice (some ⟨g,0,none⟩) (tl.length+1) cap)) B n zv lv (.slice (some ⟨g,0,none⟩) (tl.length+1) cap) zl ll (tl++[row])∧w'.heap[w0.heap.size+1]?=some (.cells #[.int .i64 n,zv,lv,tv] 78 (0,0)):=by
 obtain ⟨hG,hfar⟩:=of_frame h.grows ho h.b0 h.b1 hg
 have hb:=(hfar (w0.heap.size+1) h.b0).trans h.box
 have hr:=(hfar w0.heap.size (by have:=h.b0;omega)).trans h.res
 have e:=heap_setCell_same w' (w0.heap.size+1) 3 _ _ (.slice (some ⟨g,0,none⟩) (tl.length+1) cap) hb
 refine ⟨⟨e,(Below.heap_setCell _ _ _ _ (show w0.heap.size≠w0.heap.size+1 by omega)).trans hr,(h.zero.far ho hg h.a3.symm).boxed hb,(h.least.far ho hg h.a2.symm).boxed hb,(own_grew ho hx hu hown hg).boxed hb,h.a1,(apart_new h.a2.symm hat (fun k hk=>h.least.own hk)).symm,(apart_new h.a3.symm hat (fun k hk=>h.zero.own hk)).symm,Below.setCell (p:=⟨w0.heap.size+1,3,none⟩) hG (Nat.le_succ _) _,h.b0,?_⟩,hb⟩
 have:=hg.size
 have:=h.b1
 simp
 omega
theorem OfAt.addLeast (h:OfAt w0 w B n zv lv tv zl ll tl) {xs:List Value} (ho:w.ownsRow B 73 1 lv ll.length xs) (hx:RowsX PT w xs ll) {u:Value} {row:List Int} (hu:RowAt PT w u row) {g cap:Nat} (hown:w'.ownsRow B 73 1 (.slice (some ⟨g,0,none⟩) (ll.length+1) cap) (ll.length+1) (xs++[u])) (hg:w.grownBy w' lv.ownBlock) (hat:lv.ownBlock=some g∨g=w.heap.size) :
  OfAt w0 (w'.setCell ⟨w0.heap.size+1,2,none⟩ (.slice (some ⟨g,0,none⟩) (ll.length+1) cap)) B n zv (.slice (some ⟨g,0,none⟩) (ll.length+1) cap) tv zl (ll++[row]) tl∧w'.heap[w0.heap.size+1]?=some (.cells #[.int .i64 n,zv,lv,tv] 78 (0,0)):=by
 obtain ⟨hG,hfar⟩:=of_frame h.grows ho h.b0 h.b1 hg
 have hb:=(hfar (w0.heap.size+1) h.b0).trans h.box
 have hr:=(hfar w0.heap.size (by have:=h.b0;omega)).trans h.res
 have e:=heap_setCell_same w' (w0.heap.size+1) 2 _ _ (.slice (some ⟨g,0,none⟩) (ll.length+1) cap) hb
 refine ⟨⟨e,(Below.heap_setCell _ _ _ _ (show w0.heap.size≠w0.heap.size+1 by omega)).trans hr,(h.zero.far ho hg h.a1.symm).boxed hb,(own_grew ho hx hu hown hg).boxed hb,(h.told.far ho hg h.a2).boxed hb,(apart_new h.a1.symm hat (fun k hk=>h.zero.own hk)).symm,apart_new h.a2 hat (fun k hk=>h.told.own hk),h.a3,Below.setCell (p:=⟨w0.heap.size+1,2,none⟩) hG (Nat.le_succ _) _,h.b0,?_⟩,hb⟩
 have:=hg.size
 have:=h.b1
 simp
 omega
theorem OfAt.addZero (h:OfAt w0 w B n zv lv tv zl ll tl) {xs:List Value} (ho:w.ownsRow B 73 1 zv zl.length xs) (hx:RowsX PT w xs zl) {u:Value} {row:List Int} (hu:RowAt PT w u row) {g cap:Nat} (hown:w'.ownsRow B 73 1 (.slice (some ⟨g,0,none⟩) (zl.length+1) cap) (zl.length+1) (xs++[u])) (hg:w.grownBy w' zv.ownBlock) (hat:zv.ownBlock=some g∨g=w.heap.size) :
  OfAt w0 (w'.setCell ⟨w0.heap.size+1,1,none⟩ (.slice (some ⟨g,0,none⟩) (zl.length+1) cap)) B n (.slice (some ⟨g,0,none⟩) (zl.length+1) cap) lv tv (zl++[row]) ll tl∧w'.heap[w0.heap.size+1]?=some (.cells #[.int .i64 n,zv,lv,tv] 78 (0,0)):=by
 obtain ⟨hG,hfar⟩:=of_frame h.grows ho h.b0 h.b1 hg
 have hb:=(hfar (w0.heap.size+1) h.b0).trans h.box
 have hr:=(hfar w0.heap.size (by have:=h.b0;omega)).trans h.res
 have e:=heap_setCell_same w' (w0.heap.size+1) 1 _ _ (.slice (some ⟨g,0,none⟩) (zl.length+1) cap) hb
 refine ⟨⟨e,(Below.heap_setCell _ _ _ _ (show w0.heap.size≠w0.heap.size+1 by omega)).trans hr,(own_grew ho hx hu hown hg).boxed hb,(h.least.far ho hg h.a1).boxed hb,(h.told.far ho hg h.a3).boxed hb,apart_new h.a1 hat (fun k hk=>h.least.own hk),h.a2,apart_new h.a3 hat (fun k hk=>h.told.own hk),Below.setCell (p:=⟨w0.heap.size+1,1,none⟩) hG (Nat.le_succ _) _,h.b0,?_⟩,hb⟩
 have:=hg.size
 have:=h.b1
 simp
 omega
end
section
variable {P:Program} {ops:Array Oper} {md:Region.Mode} {w0:World} {Φ:Tmp→Value→World→Prop} {G:Tmp→Option (Value→Prop)}
def waited3B (md:Region.Mode) (ops:Array Oper) (p:Nat):Bool :=
 decide (ops.size≤p+3)&&((List.range p).all fun k=>(List.range (p+1)).any fun j=>decide (k<j)&&match ops[j]? with
  | none=>false
  | some o=>o.after.any fun e=>e.on == k&&Region.binds md e)&&(match ops[p+1]? with
  | none=>true
  | some o=>o.after.any fun e=>e.on == p&&Region.binds md e)&&match ops[p+2]? with
  | none=>true
  | some o=>o.after.any fun e=>e.on == p&&Region.binds md e
theorem waited3B.waits {p:Nat} (h:waited3B md ops p=true):Waits md ops p:=by
 intro listed hD j hj hp k hk
 simp only [waited3B,Bool.and_eq_true] at h
 obtain ⟨⟨⟨h1,h2⟩,h3⟩,h4⟩:=h
 obtain ⟨_,oj,hoj,hall⟩:=mem_ready.1 hj
 have hjs:=(Array.getElem?_eq_some_iff.1 hoj).1
 have hsz:=of_decide_eq_true h1
 rcases (show j=p∨j=p+1∨j=p+2 by omega) with e|e|e
 ·subst e
  exact chain_listed h2 hD (fun o ho e he hb=>by rw [hoj] at ho;cases ho;exact hall e he hb) (j - k) k hk (by omega)
 ·subst e
  simp only [hoj] at h3
  obtain ⟨e,he1,he2⟩:=Array.any_eq_true'.1 h3
  simp only [Bool.and_eq_true,beq_iff_eq] at he2
  have hpl:=hall e he1 he2.2
  rw [he2.1] at hpl
  exact chain_listed h2 hD (fun o ho e he hb=>hD p hpl o ho e he hb) (p - k) k hk (by omega)
 ·subst e
  simp only [hoj] at h4
  obtain ⟨e,he1,he2⟩:=Array.any_eq_true'.1 h4
  simp only [Bool.and_eq_true,beq_iff_eq] at he2
  have hpl:=hall e he1 he2.2
  rw [he2.1] at hpl
  exact chain_listed h2 hD (fun o ho e he hb=>hD p hpl o ho e he hb) (p - k) k hk (by omega)
def grown3B (ops:Array Oper) (n p:Nat):Bool :=
 Region.noSelect ops&&dstsB ops n&&waited3B .any ops p&&lexGB .any ops p p 0 (listedTo ops.size 0)&&(ops.size == p+3)&&(Region.ready .any ops (listedTo ops.size p) == [p])&&(Region.ready .any ops ((listedTo ops.size p).setIfInBounds p true) == [p+1])&&(Region.ready .any ops (((listedTo ops.size p).setIfInBounds p true).setIfInBounds (p+1) true) == [p+2])&&((ops[p]?).all fun o=>o.guard.isNone)&&((ops[p+1]?).all fun o=>o.guard.isNone)&&((ops[p+2]?).all fun o=>o.guard.isNone)&&(Region.ready .any ops ((((listedTo ops.size p).setIfInBounds p true).setIfInBounds (p+1) true).setIfInBounds (p+2) true)).isEmpty
theorem wp_region_grown3 {id:Nat} {Q:Exit→Act→World→Prop} {a:Act} {l:List Oper} (Φ:Tmp→Value→World→Prop) (G:Tmp→Option (Value→Prop)) (n p:Nat) (hm:P.follows .mixedOrders=true) (hn:a.tmps.size=n)
  (hB:grown3B l.toArray n p=true) (hΦ:∀ t v w w',Φ t v w→Grows w w'→Φ t v w')
  (h:wpLexS P .any l.toArray w0 Φ G (fun last a'=>∀ w,Grows w0 w→(∀ (i:Nat) (o:Oper) (t:Tmp),i<p→l[i]?=some o→o.dst=some t→Φ t (a'.eval (.tmp t)) w)→tailWp P Q (last::l.drop (p+1)) a' w) (l.take (p+1)) a):(Code.region id l.toArray true).wp P Q a w0:=by
 simp only [grown3B,Bool.and_eq_true] at hB
 obtain ⟨⟨⟨⟨⟨⟨⟨⟨⟨⟨⟨hs,hd⟩,hw⟩,hL⟩,hp⟩,hR⟩,hR2⟩,hR3⟩,hg⟩,hg2⟩,hg3⟩,hE⟩:=hB
 have hsz:l.toArray.size=p+3:=by simpa using hp
 have hlp:l.length=p+3:=by simpa using hsz
 obtain ⟨last,el,h⟩:=h.split
 have htl:(l.take (p+1)).length=p+1:=by simp [hlp]
 have hdl:(l.take (p+1)).dropLast.length=p:=by simp [hlp]
 have hlast:l.toArray[p]?=some last:=by
  have h1:(l.take (p+1))[p]?=some last:=by rw [el,List.getElem?_append_right (by omega)];simp [hlp]
  rw [List.getElem?_take_of_lt (by omega)] at h1
  simpa using h1
 have hpre:∀ j,j<p→(l.take (p+1)).dropLast[j]?=l[j]?:=fun j hj=>by
  rw [List.getElem?_dropLast,if_pos (by omega),List.getElem?_take_of_lt (by omega)]
 obtain ⟨mid,fin,hfin⟩:∃ mid fin,l.drop (p+1)=[mid,fin]:=by
  have:(l.drop (p+1)).length=2:=by simp [hlp]
  rcases hd:l.drop (p+1) with _|⟨a,_|⟨b,_|⟨c,t⟩⟩⟩
  ·rw [hd] at this;cases this
  ·rw [hd] at this;cases this
  ·exact ⟨a,b,rfl⟩
  ·rw [hd] at this;simp at this
 have hmid2:l.toArray[p+1]?=some mid:=by
  have:(l.drop (p+1))[0]?=some mid:=by rw [hfin];rfl
  rw [List.getElem?_drop] at this
  simpa using this
 have hfin2:l.toArray[p+2]?=some fin:=by
  have:(l.drop (p+1))[1]?=some fin:=by rw [hfin];rfl
  rw [List.getElem?_drop] at this
  simpa using this
 refine wp_region_any hm ?_
 rw [hsz]
 refine wpAny_of_grown (G:=G) (m:=3) (p:=p) (n:=n) hd hΦ p (listedTo (p+3) 0) a _ hn ⟨Grows.draw w0,fun i hi=>?_⟩ ?_
 ·by_cases h:i<p+3 <;> simp [h,listedTo] at hi
 ·have:=wpAnyG_lex2 (P:=P) (Q:=Q) (m:=3) (w0:=w0) (Φ:=Φ) (G:=G) (md:=.any) (ops:=l.toArray) (p:=p) hd (waited3B.waits hw) hs (l.take (p+1)).dropLast 0 a (fun j hj=>by rw [Nat.zero_add,List.getElem?_toArray];exact hpre j (by omega)) (by omega) (by rw [hsz];exact down_none _) (by rw [hdl];exact hL) ?_
  ·rw [hsz,hdl] at this;exact this
  ·refine wpLexG.mono (n:=n) (fun a' hn' hb w hk=>?_) hn h
   have h1:=hb w hk.grows (fun i o t hi ho ht=>hk.phi i (listedTo_true _ p i hi (by omega)).1 o t (by simpa using ho) ht)
   have hR':Region.ready .any l.toArray (listedTo l.toArray.size p)=[p]:=by simpa using hR
   have hR2':Region.ready .any l.toArray ((listedTo l.toArray.size p).setIfInBounds p true)=[p+1]:=by simpa using hR2
   have hR3':Region.ready .any l.toArray (((listedTo l.toArray.size p).setIfInBounds p true).setIfInBounds (p+1) true)=[p+2]:=by simpa using hR3
   rw [hfin] at h1
   refine ⟨fun h0=>(by rw [hR'] at h0;cases h0),fun i hi=>?_⟩
   rw [hR',List.mem_singleton] at hi
   subst hi
   unfold wpOp
   simp only [hlast]
   have hgn:last.guard=none:=by
    have:=hg;simp only [hlast,Option.all_some] at this;simpa using this
   have hwn:Region.wanted last (yielded l.toArray a'.tmps)=true:=by simp [Region.wanted,hgn]
   simp only [hwn,if_true]
   refine .inl (Oper.wp_mono (fun a'' w'' hq=>?_) h1)
   refine ⟨fun h0=>(by rw [hR2'] at h0;cases h0),fun i hi=>?_⟩
   rw [hR2',List.mem_singleton] at hi
   subst hi
   unfold wpOp
   simp only [hmid2]
   have hgn2:mid.guard=none:=by
    have:=hg2;simp only [hmid2,Option.all_some] at this;simpa using this
   have hwn2:Region.wanted mid (yielded l.toArray a''.tmps)=true:=by simp [Region.wanted,hgn2]
   simp only [hwn2,if_true]
   refine .inl (Oper.wp_mono (fun a3 w3 hq=>?_) hq)
   refine ⟨fun h0=>(by rw [hR3'] at h0;cases h0),fun i hi=>?_⟩
   rw [hR3',List.mem_singleton] at hi
   subst hi
   unfold wpOp
   simp only [hfin2]
   have hgn3:fin.guard=none:=by
    have:=hg3;simp only [hfin2,Option.all_some] at this;simpa using this
   have hwn3:Region.wanted fin (yielded l.toArray a3.tmps)=true:=by simp [Region.wanted,hgn3]
   simp only [hwn3,if_true]
   refine .inl (Oper.wp_mono (fun a4 w4 hq=>⟨?_,hq⟩) hq)
   exact List.isEmpty_iff.1 hE
end
end Go.Proofs.Ytfaljekgpnbmiaa
