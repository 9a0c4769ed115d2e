/- Joined: XLat1 XTab7 XMem1 XMem2 XMem3 XMem4. -/
import Derived.Test.YtfaljekgpnbmiaaJ10
set_option linter.unusedVariables false
set_option linter.unusedSimpArgs false
set_option maxRecDepth 100000
namespace Go.Proofs.Ytfaljekgpnbmiaa.Pl
def gramTab (n:Nat) (G:Nat→Nat→Int):Nat→Tab
 | 0=>{ lines:=(List.range n).map fun i:Nat=>((i:Int),(List.range (n+1)).map fun j=>if j=0 then 0 else G i (j - 1)),cols:=(List.range n).map fun j:Nat=>-1 - (j:Int),scale:=1 }
 | l+1=>(gramTab n G l).swap l l
def formG (G:Nat→Nat→Int) (x:Int) (k:Nat):Int:=if 0≤x then (if k=0 then 0 else G x.toNat (k - 1)) else unit (-x).toNat k
def gm (n:Nat) (G:Nat→Nat→Int) (l i j:Nat):Int:=(gramTab n G l).cell i (j+1)
def vol (n:Nat) (G:Nat→Nat→Int) (l:Nat):Int:=(gramTab n G l).scale
def Posi (n:Nat) (G:Nat→Nat→Int):Prop:=∀ v:Nat→Int,(∃ i,i<n∧v i≠0)→0<sm n (fun i=>v i*sm n (fun j=>G i j*v j))
theorem getD_map_any {α:Type} (n:Nat) (f:Nat→α) (d:α) (j:Nat) (h:j<n):((List.range n).map f).getD j d=f j:=by
 rw [List.getD_eq_getElem?_getD,List.getElem?_map,List.getElem?_range h];rfl
section
variable {n:Nat} {G:Nat→Nat→Int}
theorem gram_len (n:Nat) (G:Nat→Nat→Int):∀ l,(gramTab n G l).lines.length=n∧(gramTab n G l).cols.length=n
 | 0=>by simp [gramTab]
 | l+1=>by rw [gramTab,Tab.swap_len,Tab.swap_cols];exact gram_len n G l
theorem gram_names (n:Nat) (G:Nat→Nat→Int):∀ l,l≤n→∀ i,i<n→(gramTab n G l).name i=(if i<l then -1 - (i:Int) else i)∧(gramTab n G l).col i=(if i<l then (i:Int) else -1 - i)
 | 0,_,i,hi=>by
  rw [if_neg (by omega),if_neg (by omega)]
  unfold gramTab Tab.name Tab.col
  simp only
  rw [getD_map_any n _ _ i hi,getD_map_any n _ _ i hi]
  exact ⟨rfl,rfl⟩
 | l+1,hl,i,hi=>by
  obtain ⟨h1,h2⟩:=gram_len n G l
  have ih:=gram_names n G l (by omega)
  rw [gramTab,Tab.swap_name _ l l i (by omega),Tab.swap_col _ l l i (by omega),(ih l (by omega)).1,(ih l (by omega)).2,(ih i hi).1,(ih i hi).2]
  by_cases h:i=l
  ·subst h
   simp
  ·rw [if_neg h,if_neg h]
   by_cases h3:i<l
   ·rw [if_pos h3,if_pos h3,if_pos (by omega),if_pos (by omega)];exact ⟨rfl,rfl⟩
   ·rw [if_neg h3,if_neg h3,if_neg (by omega),if_neg (by omega)];exact ⟨rfl,rfl⟩
theorem form_unit (G:Nat→Nat→Int) (j:Nat):formG G (-1 - (j:Int))=unit (j+1):=by
 funext k
 unfold formG
 rw [if_neg (by omega),show (-(-1 - (j:Int))).toNat=j+1 by omega]
theorem form_row (G:Nat→Nat→Int) (i:Nat) (D:Nat→Int) (n:Nat):ev n (formG G i) D=sm n (fun j=>G i j*D (j+1)):=by
 unfold ev
 rw [sm_head]
 have e:formG G i 0=0:=by unfold formG;rw [if_pos (by omega),if_pos rfl]
 rw [e,Int.zero_mul,Int.zero_add]
 refine sm_congr fun j _=>?_
 unfold formG
 rw [if_pos (by omega),if_neg (by omega)]
 simp
theorem gram_start (n:Nat) (G:Nat→Nat→Int):TabOk (formG G) n (gramTab n G 0):=by
 have hb:∀ i,i<n+1→(gramTab n G 0).base (formG G) i=unit i:=by
  intro i hi
  unfold Tab.base
  split
  ·rename_i h;rw [h]
  ·rw [(gram_names n G 0 (by omega) (i - 1) (by omega)).2,if_neg (by omega),form_unit,show i - 1+1=i by omega]
 refine ⟨(gram_len n G 0).2,fun l hl=>?_,by simp [gramTab],⟨1,rfl,?_⟩,fun r hr k hk=>?_⟩
 ·obtain ⟨i,_,rfl⟩:=List.mem_map.1 hl
  simp
 ·rw [det_congr (n+1) (S:=unit) (fun i j hi _=>by rw [hb i hi]),det_unit];rfl
 ·rw [(gram_len n G 0).1] at hr
  rw [(gram_names n G 0 (by omega) r hr).1,if_neg (by omega)]
  rw [sm_one k hk fun j hj hjk=>by rw [hb j hj];unfold unit;rw [if_neg hjk,Int.mul_zero],hb k hk]
  have e1:unit k k=1:=by unfold unit;rw [if_pos rfl]
  have e2:(gramTab n G 0).scale=1:=rfl
  rw [e1,e2,Int.one_mul,Int.mul_one]
  unfold gramTab Tab.cell formG
  simp only
  rw [getD_map_any n _ _ r hr,getD_map_any (n+1) _ _ k hk,if_pos (by omega),Int.toNat_natCast]
theorem gram_ok (hP:Posi n G):∀ l,l≤n→TabOk (formG G) n (gramTab n G l)∧(l<n→0<gm n G l l l)
 | 0,hl=>⟨gram_start n G,fun h=>gram_pos hP (gram_start n G) (by omega)⟩
 | l+1,hl=>by
  obtain ⟨h1,h2⟩:=gram_ok hP l (by omega)
  have h3:=h2 (by omega)
  have h4:TabOk (formG G) n (gramTab n G (l+1)):=by
   rw [gramTab]
   exact h1.swap (by rw [(gram_len n G l).1];omega) (by omega) (by unfold gm at h3;omega)
  exact ⟨h4,fun h=>gram_pos hP h4 h⟩
 where
 gram_pos {l:Nat} (hP:Posi n G) (h:TabOk (formG G) n (gramTab n G l)) (hl:l<n):0<gm n G l l l:=by
  obtain ⟨D,d1,d2⟩:=h.point (l+1) (by omega)
  have hs:=h.pos
  have hlen:=(gram_len n G l).1
  have c1:∀ i,i<n→i<l→sm n (fun j=>G i j*D (j+1))=0:=fun i hi hlt=>by
   have:=d1 (i+1) (by omega)
   rw [base_succ,(gram_names n G l (by omega) i hi).2,if_pos hlt,if_neg (by omega),form_row] at this;exact this
  have c2:∀ i,i<n→¬ i<l→D (i+1)=if i=l then (gramTab n G l).scale else 0:=fun i hi hge=>by
   have:=d1 (i+1) (by omega)
   rw [base_succ,(gram_names n G l (by omega) i hi).2,if_neg hge,form_unit,ev_unit n D (i+1) (by omega)] at this
   rw [this]
   by_cases e:i=l
   ·rw [if_pos (by omega),if_pos e]
   ·rw [if_neg (by omega),if_neg e]
  have c3:sm n (fun j=>G l j*D (j+1))=gm n G l l l:=by
   have:=d2 l (by omega)
   rw [(gram_names n G l (by omega) l hl).1,if_neg (by omega),form_row] at this;exact this
  have hq:=hP (fun i=>D (i+1)) ⟨l,hl,by rw [c2 l hl (by omega),if_pos rfl];omega⟩
  rw [sm_one l hl fun i hi hil=>?_] at hq
  ·rw [c3,c2 l hl (by omega),if_pos rfl] at hq
   rcases mul_pos_cases hq with h5|h5 <;> omega
  ·by_cases hlt:i<l
   ·rw [c1 i hi hlt,Int.mul_zero]
   ·rw [c2 i hi hlt,if_neg hil,Int.zero_mul]
theorem vol_zero (n:Nat) (G:Nat→Nat→Int):vol n G 0=1:=rfl
theorem vol_succ (hP:Posi n G) {l:Nat} (hl:l<n):vol n G (l+1)=gm n G l l l:=by
 have h:=(gram_ok hP l (by omega)).2 hl
 unfold vol gm at *
 rw [gramTab]
 show ((Tab.cell _ l (l+1)).natAbs:Int)=_
 omega
theorem vol_pos (hP:Posi n G) {l:Nat} (hl:l≤n):0<vol n G l:=(gram_ok hP l hl).1.pos
theorem gm_zero {i j:Nat} (hi:i<n) (hj:j<n):gm n G 0 i j=G i j:=by
 unfold gm gramTab Tab.cell
 simp only
 rw [getD_map_any n _ _ i hi,getD_map_any (n+1) _ _ (j+1) (by omega),if_neg (by omega)]
 simp
theorem gm_succ (hP:Posi n G) {l i j:Nat} (hl:l<n) (hi:i<n) (hj:j<n) (hil:i≠l) (hjl:j≠l) :
  gm n G (l+1) i j=Int.fdiv (gm n G l l l*gm n G l i j - gm n G l i l*gm n G l l j) (vol n G l)∧vol n G l*gm n G (l+1) i j=gm n G l l l*gm n G l i j - gm n G l i l*gm n G l l j:=by
 obtain ⟨h1,h2⟩:=gram_ok hP l (by omega)
 have h3:=h2 hl
 have hlen:=(gram_len n G l).1
 have hcol:=(gram_len n G l).2
 obtain ⟨x,hx⟩:=h1.exact (r:=l) (c:=l) (i:=i) (by omega) (by omega) hl (by unfold gm at h3;omega) (j+1) (by omega) (by omega)
 have e:gm n G (l+1) i j=Int.fdiv (gm n G l l l*gm n G l i j - gm n G l i l*gm n G l l j) (vol n G l):=by
  unfold gm vol at *
  rw [gramTab,Tab.swap_cell _ l l i (j+1) (by omega) (by omega),if_neg hil,if_neg (by omega),Int.sign_eq_one_of_pos h3,Int.one_mul]
 refine ⟨e,?_⟩
 rw [e]
 unfold gm vol
 rw [hx,fdiv_exact h1.pos rfl]
theorem gm_symm (hP:Posi n G) (hG:∀ i j,G i j=G j i):∀ l,l≤n→∀ i j,l≤i→l≤j→i<n→j<n→gm n G l i j=gm n G l j i
 | 0,_,i,j,_,_,hi,hj=>by rw [gm_zero hi hj,gm_zero hj hi,hG]
 | l+1,hl,i,j,h1,h2,hi,hj=>by
  have ih:=gm_symm hP hG l (by omega)
  rw [(gm_succ hP (by omega) hi hj (by omega) (by omega)).1,(gm_succ hP (by omega) hj hi (by omega) (by omega)).1,ih i j (by omega) (by omega) hi hj,ih i l (by omega) (by omega) hi (by omega),ih l j (by omega) (by omega) (by omega) hj,Int.mul_comm (gm n G l l i)]
end
def startTab (n m:Nat) (S:Nat→Nat→Int):Tab:={ lines:=(List.range m).map fun i:Nat=>((i:Int),(List.range (n+1)).map (S i)),cols:=(List.range n).map fun j:Nat=>-1 - (j:Int),scale:=1 }
def formS (S:Nat→Nat→Int) (x:Int) (k:Nat):Int:=if 0≤x then S x.toNat k else unit (-x).toNat k
theorem formS_unit (S:Nat→Nat→Int) (j:Nat):formS S (-1 - (j:Int))=unit (j+1):=by
 funext k
 unfold formS
 rw [if_neg (by omega),show (-(-1 - (j:Int))).toNat=j+1 by omega]
theorem formS_sum (S:Nat→Nat→Int) (i:Nat):formS S (i:Int)=S i:=by
 funext k
 unfold formS
 rw [if_pos (by omega),Int.toNat_natCast]
section
variable {n m:Nat} {S:Nat→Nat→Int}
theorem start_len (n m:Nat) (S:Nat→Nat→Int):(startTab n m S).lines.length=m∧(startTab n m S).cols.length=n:=by simp [startTab]
theorem start_name {r:Nat} (hr:r<m):(startTab n m S).name r=r:=by
 unfold startTab Tab.name
 simp only
 rw [getD_map_any m _ _ r hr]
theorem start_col {c:Nat} (hc:c<n):(startTab n m S).col c=-1 - (c:Int):=by
 unfold startTab Tab.col
 simp only
 rw [getD_map_any n _ _ c hc]
theorem start_cell {r j:Nat} (hr:r<m) (hj:j<n+1):(startTab n m S).cell r j=S r j:=by
 unfold startTab Tab.cell
 simp only
 rw [getD_map_any m _ _ r hr,getD_map_any (n+1) _ _ j hj]
theorem start_ok (n m:Nat) (S:Nat→Nat→Int):TabOk (formS S) n (startTab n m S):=by
 have hb:∀ i,i<n+1→(startTab n m S).base (formS S) i=unit i:=by
  intro i hi
  unfold Tab.base
  split
  ·rename_i h;rw [h]
  ·rw [start_col (by omega),formS_unit,show i - 1+1=i by omega]
 refine ⟨(start_len n m S).2,fun l hl=>?_,by simp [startTab],⟨1,rfl,?_⟩,fun r hr k hk=>?_⟩
 ·obtain ⟨i,_,rfl⟩:=List.mem_map.1 hl
  simp
 ·rw [det_congr (n+1) (S:=unit) (fun i j hi _=>by rw [hb i hi]),det_unit];rfl
 ·rw [(start_len n m S).1] at hr
  rw [start_name hr,formS_sum]
  rw [sm_one k hk fun j hj hjk=>by rw [hb j hj];unfold unit;rw [if_neg hjk,Int.mul_zero],hb k hk,start_cell hr hk]
  have e1:unit k k=1:=by unfold unit;rw [if_pos rfl]
  have e2:(startTab n m S).scale=1:=rfl
  rw [e1,e2,Int.one_mul,Int.mul_one]
theorem start_names (n m:Nat) (S:Nat→Nat→Int):NamesOk n (startTab n m S):=by
 refine ⟨fun i j hi hj e=>?_,fun i j hi hj e=>?_,fun i j hi hj e=>?_⟩
 ·rw [(start_len n m S).1] at hi hj
  rw [start_name hi,start_name hj] at e;omega
 ·rw [start_col hi,start_col hj] at e;omega
 ·rw [(start_len n m S).1] at hi
  rw [start_name hi,start_col hj] at e;omega
def allNames (n m:Nat):List Int:=((List.range m).map fun i:Nat=>(i:Int))++((List.range n).map fun j:Nat=>-1 - (j:Int))
theorem start_stat (n m:Nat) (S:Nat→Nat→Int):Stat (allNames n m) n (startTab n m S):=by
 refine ⟨fun x ⟨c,hc,e⟩=>?_,fun x ⟨r,hr,e⟩=>?_,fun x hx=>?_⟩
 ·rw [start_col hc] at e
  exact List.mem_append.2 (.inr (List.mem_map.2 ⟨c,List.mem_range.2 hc,e⟩))
 ·rw [(start_len n m S).1] at hr
  rw [start_name hr] at e
  exact List.mem_append.2 (.inl (List.mem_map.2 ⟨r,List.mem_range.2 hr,e⟩))
 ·rcases List.mem_append.1 hx with h | h
  ·obtain ⟨r,hr,e⟩:=List.mem_map.1 h
   have hr':=List.mem_range.1 hr
   exact .inr ⟨r,by rw [(start_len n m S).1];exact hr',by rw [start_name hr'];exact e⟩
  ·obtain ⟨c,hc,e⟩:=List.mem_map.1 h
   have hc':=List.mem_range.1 hc
   exact .inl ⟨c,hc',by rw [start_col hc'];exact e⟩
end
section
variable {F F':Int→Nat→Int} {n:Nat} {t:Tab}
theorem TabOk.congr (h:TabOk F n t) (hc:∀ c,c<n→F' (t.col c)=F (t.col c)) (hl:∀ r,r<t.lines.length→F' (t.name r)=F (t.name r)):TabOk F' n t:=by
 have hb:∀ i,i<n+1→t.base F' i=t.base F i:=fun i hi=>by
  unfold Tab.base
  split
  ·rfl
  ·exact hc (i - 1) (by omega)
 obtain ⟨e,ee,he⟩:=h.dets
 refine ⟨h.cols,h.cells,h.pos,⟨e,ee,?_⟩,fun r hr k hk=>?_⟩
 ·rw [det_congr (n+1) (S:=t.base F) (fun i j hi _=>by rw [hb i hi])];exact he
 ·rw [hl r hr,h.tells r hr k hk]
  exact sm_congr fun j hj=>by rw [hb j hj]
def Tab.add (t:Tab) (x:Int) (cs:List Int):Tab:={ t with lines:=t.lines++[(x,cs)] }
theorem add_len (t:Tab) (x:Int) (cs:List Int):(t.add x cs).lines.length=t.lines.length+1:=by simp [Tab.add]
theorem add_line (t:Tab) (x:Int) (cs:List Int) {r:Nat} (hr:r<t.lines.length):(t.add x cs).lines.getD r (0,[])=t.lines.getD r (0,[]):=by
 unfold Tab.add
 simp only
 rw [List.getD_eq_getElem?_getD,List.getD_eq_getElem?_getD,List.getElem?_append_left hr]
theorem add_last (t:Tab) (x:Int) (cs:List Int):(t.add x cs).lines.getD t.lines.length (0,[])=(x,cs):=by
 unfold Tab.add
 simp
theorem TabOk.add (h:TabOk F n t) {x:Int} {cs:List Int} (hlen:cs.length=n+1) (ht:∀ k,k<n+1→t.scale*F x k=sm (n+1) (fun j=>cs.getD j 0*t.base F j k)):TabOk F n (t.add x cs):=by
 have hb:(t.add x cs).base F=t.base F:=rfl
 refine ⟨h.cols,fun l hl=>?_,h.pos,h.dets,fun r hr k hk=>?_⟩
 ·rcases List.mem_append.1 hl with h1 | h1
  ·exact h.cells l h1
  ·simp at h1;rw [h1];exact hlen
 ·rw [add_len] at hr
  rw [hb]
  by_cases hlt:r<t.lines.length
  ·have:=h.tells r hlt k hk
   unfold Tab.name Tab.cell at *
   rw [add_line t x cs hlt];exact this
  ·have e:r=t.lines.length:=by omega
   subst e
   unfold Tab.name Tab.cell
   rw [add_last]
   exact ht k hk
def Tab.cut (t:Tab):Tab:={ t with lines:=t.lines.take (t.lines.length - 1) }
theorem cut_line (t:Tab) {r:Nat} (hr:r<t.lines.length - 1):t.cut.lines.getD r (0,[])=t.lines.getD r (0,[]):=by
 unfold Tab.cut
 simp only
 rw [List.getD_eq_getElem?_getD,List.getD_eq_getElem?_getD,List.getElem?_take,if_pos hr]
theorem cut_len (t:Tab):t.cut.lines.length=t.lines.length - 1:=by simp [Tab.cut]
theorem TabOk.cut (h:TabOk F n t):TabOk F n t.cut:=by
 refine ⟨h.cols,fun l hl=>h.cells l (List.mem_of_mem_take hl),h.pos,h.dets,fun r hr k hk=>?_⟩
 rw [cut_len] at hr
 have:=h.tells r (by omega) k hk
 unfold Tab.name Tab.cell at *
 rw [cut_line t hr];exact this
end
end Go.Proofs.Ytfaljekgpnbmiaa.Pl

namespace Go.Proofs.Ytfaljekgpnbmiaa
open Go.RowKit
def RowAt (P:Nat→Prop) (w:World) (v:Value) (l:List Int):Prop:=∃ ad cap,v=.slice ad l.length cap∧l.length≤cap∧∀ i,(hi:i<l.length)→∃ g off x a m c,ad=some ⟨g,off,none⟩ ∧
 w.cell? ⟨g,off+i*2,none⟩=some (.int .i64 x)∧w.cell? ⟨g,off+i*2+1,none⟩=some (.slice a m c)∧WhAt P w (.agg #[.int .i64 x,.slice a m c]) l[i]∧P g∧∃ cs,w.heap[g]?=some (.cells cs 82 (0,0))
def KeepP (P:Nat→Prop) (w w':World):Prop:=∀ (k:Nat) (cur:Array Value),P k→w.heap[k]?=some (Obj.cells cur 3 (0,0))→w'.heap[k]?=w.heap[k]?
theorem WhAt.keepP {P:Nat→Prop} {w w':World} {v:Value} {n:Int} (h:WhAt P w v n) (hb:KeepP P w w'):WhAt P w' v n:=by
 rcases h with h|⟨l,b,off,cap,cs,sg,h1,h2,h3,h4⟩
 ·exact .inl h
 ·exact .inr ⟨l,b,off,cap,cs,sg,h1,h2,(hb b _ h2 h3).trans h3,h4⟩
theorem WhAt.mono {P P':Nat→Prop} {w:World} {v:Value} {n:Int} (h:WhAt P w v n) (hP:∀ b,b<w.heap.size→P b→P' b):WhAt P' w v n:=by
 rcases h with h|⟨l,b,off,cap,cs,sg,h1,h2,h3,h4⟩
 ·exact .inl h
 ·exact .inr ⟨l,b,off,cap,cs,sg,h1,hP b (lt_of_block h3) h2,h3,h4⟩
def DataT (T:TypeId):Prop:=T=3∨T=82∨T=73
def Holds (P:Nat→Prop) (w w':World):Prop:=∀ (k:Nat) (cs:Array Value) (T:TypeId),DataT T→P k→w.heap[k]?=some (.cells cs T (0,0))→w'.heap[k]?=w.heap[k]?
theorem Holds.nums {P:Nat→Prop} {w w':World} (h:Holds P w w'):KeepP P w w':=fun k cs hk hc=>h k cs _ (.inl rfl) hk hc
theorem Holds.of_below {P:Nat→Prop} {w w':World} (h:Below w.heap.size w w'):Holds P w w':=fun k cs T _ _ hk=>h.block k (lt_of_block hk)
theorem RowAt.holds {P:Nat→Prop} {w w':World} {v:Value} {l:List Int} (h:RowAt P w v l) (hb:Holds P w w'):RowAt P w' v l:=by
 obtain ⟨ad,cap,rfl,hc,h⟩:=h
 refine ⟨ad,cap,rfl,hc,fun i hi=>?_⟩
 obtain ⟨g,off,x,a,m,c,e,c1,c2,hw,hp,cs,hcs⟩:=h i hi
 have hs:=hb g cs _ (.inr (.inl rfl)) hp hcs
 exact ⟨g,off,x,a,m,c,e,by rw [cellsOf (hs.trans hcs),←cellsOf hcs];exact c1,by rw [cellsOf (hs.trans hcs),←cellsOf hcs];exact c2,hw.keepP hb.nums,hp,cs,hs.trans hcs⟩
theorem RowAt.below {P:Nat→Prop} {w w':World} {v:Value} {l:List Int} (h:RowAt P w v l) (hb:Below w.heap.size w w'):RowAt P w' v l:=h.holds (.of_below hb)
theorem RowAt.mono {P P':Nat→Prop} {w:World} {v:Value} {l:List Int} (h:RowAt P w v l) (hP:∀ b,b<w.heap.size→P b→P' b):RowAt P' w v l:=by
 obtain ⟨ad,cap,rfl,hc,h⟩:=h
 refine ⟨ad,cap,rfl,hc,fun i hi=>?_⟩
 obtain ⟨g,off,x,a,m,c,e,c1,c2,hw,hp,cs,hcs⟩:=h i hi
 exact ⟨g,off,x,a,m,c,e,c1,c2,hw.mono hP,hP g (lt_of_block hcs) hp,cs,hcs⟩
def LinesAt (P:Nat→Prop) (w:World) (v:Value) (l:List (Int × List Int)):Prop:=∃ ad cap,v=.slice ad l.length cap∧∀ i,(hi:i<l.length)→∃ g off u,ad=some ⟨g,off,none⟩ ∧
 w.cell? ⟨g,off+i*2,none⟩=some (.int .i64 l[i].1)∧w.cell? ⟨g,off+i*2+1,none⟩=some u∧RowAt P w u l[i].2
theorem LinesAt.below {P:Nat→Prop} {w w':World} {v:Value} {l:List (Int × List Int)} (h:LinesAt P w v l) (hb:Below w.heap.size w w'):LinesAt P w' v l:=by
 obtain ⟨ad,cap,rfl,h⟩:=h
 refine ⟨ad,cap,rfl,fun i hi=>?_⟩
 obtain ⟨g,off,u,e,c1,c2,hw⟩:=h i hi
 exact ⟨g,off,u,e,by rw [hb.cell (block_lt_of_cell c1)];exact c1,by rw [hb.cell (block_lt_of_cell c2)];exact c2,hw.below hb⟩
structure TabAt (P:Nat→Prop) (w:World) (b:Nat) (t:Pl.Tab):Prop where
 lines:∃ v,w.cell? ⟨b,0,none⟩=some v∧LinesAt P w v t.lines
 cols:∃ v,w.cell? ⟨b,1,none⟩=some v∧IntsAt w v t.cols
 scale:∃ x a m c,w.cell? ⟨b,2,none⟩=some (.int .i64 x)∧w.cell? ⟨b,3,none⟩=some (.slice a m c)∧WhAt P w (.agg #[.int .i64 x,.slice a m c]) t.scale
theorem TabAt.below {P:Nat→Prop} {w w':World} {b:Nat} {t:Pl.Tab} (h:TabAt P w b t) (hb:Below w.heap.size w w'):TabAt P w' b t:=by
 obtain ⟨⟨v1,a1,a2⟩,⟨v2,b1,b2⟩,⟨x,a,m,c,c1,c2,c3⟩⟩:=h
 exact ⟨⟨v1,by rw [hb.cell (block_lt_of_cell a1)];exact a1,a2.below hb⟩,⟨v2,by rw [hb.cell (block_lt_of_cell b1)];exact b1,b2.below hb⟩,⟨x,a,m,c,by rw [hb.cell (block_lt_of_cell c1)];exact c1,by rw [hb.cell (block_lt_of_cell c2)];exact c2,c3.below hb⟩⟩
theorem below_two (w:World) (o1 o2:Obj):Below w.heap.size w ((w.alloc o1).alloc o2):=((Below.refl _ w).alloc (Nat.le_refl _) o1).alloc (by simp) o2
theorem slot_two_any (w:World) (o1 o2:Obj):((w.alloc o1).alloc o2).heap[w.heap.size+1]?=some o2:=by
 have:=slot_one (w.alloc o1) o2
 rwa [World.size_alloc] at this
set_option maxHeartbeats 1000000 in
theorem signed_any (P:Nat→Prop) (a sg:Int) (va:Value) (w:World) (ha:WhAt P w va a) (hs:sg=1∨sg=-1) :
  Calls Try.prog 179 #[va,.int .i64 sg] w fun e w'=>∃ v',e=.returned v'∧WhAt P w' v' (sg*a)∧Below w.heap.size w w':=by
 have HN:=hide (fun w1 (h:Below w.heap.size w w1)=>Neg_any P va a w1 (ha.below h))
 have HA:=hide ha
 obtain ⟨x,ad,m,cap,rfl,_⟩:=ha.head2
 clear ha
 go_enter Try.func179,Try.ntmps179
 rcases hs with rfl|rfl
 ·go_wp2_with fail
  exact bodyPost_ret (v:=.agg #[.int .i64 x,.slice ad m cap]) (by simp [results,Try.results179,go_sem]) rfl ⟨_,rfl,by rw [Int.one_mul];exact (uh HA).below (below_two w _ _),below_two w _ _⟩
 ·go_wp2_with fail
  refine (uh HN _ (below_two w _ _)).mono ?_
  rintro e w1 ⟨v',rfl,hv,hw1⟩
  obtain ⟨x4,ad4,m4,cap4,rfl,c0,c1,f0,f1,HF⟩:=result_slot (below_two w (.cells #[.int .i64 x,.slice ad m cap] 82) (.cells #[.int .i64 0,.slice none 0 0] 82)) hw1 (slot_two_any w _ _) (by omega) hv
  clear hv hw1 HN HA
  go_wp2
  exact bodyPost_ret (v:=.agg #[.int .i64 x4,.slice ad4 m4 cap4]) (by simp [results,Try.results179,go_sem,(uh HF).2.2.1,(uh HF).2.2.2]) rfl ⟨_,rfl,by rw [show -1*a=-a by omega];exact (uh HF).1,(uh HF).2.1⟩
set_option maxHeartbeats 1000000 in
theorem cell_in (P:Nat→Prop) (b:Nat) (t:Pl.Tab) (w:World) (h:TabAt P w b t) (hlen:t.lines.length≤1000) (hcl:∀ l∈t.lines,l.2.length≤1000) {r j:Nat} (hr:r<t.lines.length) (hj:j<(t.lines.getD r (0,[])).2.length) :
  Calls Try.prog 153 #[.pointer (some ⟨b,0,none⟩),.int .i64 r,.int .i64 j] w fun e w'=>∃ v',e=.returned v'∧WhAt P w' v' (t.cell r j)∧Below w.heap.size w w':=by
 obtain ⟨⟨vl,k0,ad,cap,rfl,hl⟩,_,_⟩:=h
 obtain ⟨g,off,u,rfl,c1,c2,⟨ad2,cap2,rfl,_,hrow⟩⟩:=hl r hr
 have er:t.lines.getD r (0,[])=t.lines[r]:=by rw [List.getD_eq_getElem?_getD,List.getElem?_eq_getElem hr];rfl
 rw [er] at hj
 obtain ⟨g2,off2,x,a,m,c,rfl,d1,d2,hw,_⟩:=hrow j hj
 have hl2:=hcl _ (List.getElem_mem hr)
 have hR:t.lines[r].2[j]=t.cell r j:=by
  unfold Pl.Tab.cell
  rw [er,List.getD_eq_getElem?_getD,List.getElem?_eq_getElem hj];rfl
 rw [hR] at hw
 have HW:=hide hw
 clear hl hrow hw hR er hcl
 generalize t.lines[r].2.length=n2 at *
 generalize t.lines[r].1=nm at *
 generalize t.lines.length=n1 at *
 have hal:Below w.heap.size w (w.alloc (.cells #[.int .i64 0,.slice none 0 0] 82)):=(Below.refl _ w).alloc (Nat.le_refl _) _
 have k0':=(hal.cell (block_lt_of_cell k0)).trans k0
 have c1':=(hal.cell (block_lt_of_cell c1)).trans c1
 have c2':=(hal.cell (block_lt_of_cell c2)).trans c2
 have d1':=(hal.cell (block_lt_of_cell d1)).trans d1
 have d2':=(hal.cell (block_lt_of_cell d2)).trans d2
 clear hal k0 c1 c2 d1 d2
 have t1:decide ((r:Int)<0)=false:=by simp
 have t2:decide (n1≤r)=false:=by simp;omega
 have t3:decide ((j:Int)<0)=false:=by simp
 have t4:decide (n2≤j)=false:=by simp;omega
 go_enter Try.func153,Try.ntmps153
 go_wp2_with fail
 exact bodyPost_ret (v:=.agg #[.int .i64 x,.slice a m c]) (by simp [results,Try.results153,go_sem]) rfl ⟨_,rfl,(uh HW).below ((Below.refl _ w).alloc (Nat.le_refl _) _),(Below.refl _ w).alloc (Nat.le_refl _) _⟩
def RowTo (P:Nat→Prop) (w:World) (g n:Nat) (l:List Int):Prop:=∃ cs:Array Value,w.heap[g]?=some (.cells cs 82 (0,0))∧cs.size=2*n∧l.length≤n∧∀ i,(hi:i<l.length)→∃ x a m c,cs[i*2]?=some (.int .i64 x)∧cs[i*2+1]?=some (.slice a m c)∧WhAt P w (.agg #[.int .i64 x,.slice a m c]) l[i]
theorem RowTo.row {P:Nat→Prop} {w:World} {g n:Nat} {l:List Int} (h:RowTo P w g n l) (hn:l.length=n) (hp:P g):RowAt P w (.slice (some ⟨g,0,none⟩) n n) l:=by
 obtain ⟨cs,hb,_,_,hc⟩:=h
 refine ⟨_,n,by rw [hn],by omega,fun i hi=>?_⟩
 obtain ⟨x,a,m,c,h1,h2,h3⟩:=hc i hi
 exact ⟨g,0,x,a,m,c,rfl,by rw [cellsOf hb,Nat.zero_add];exact h1,by rw [cellsOf hb,Nat.zero_add];exact h2,h3,hp,cs,hb⟩
theorem RowTo.below {P:Nat→Prop} {w w':World} {g n:Nat} {l:List Int} (h:RowTo P w g n l) (hb:Below w.heap.size w w'):RowTo P w' g n l:=by
 obtain ⟨cs,h1,h2,h3,h4⟩:=h
 refine ⟨cs,Below.same hb _ _ h1,h2,h3,fun i hi=>?_⟩
 obtain ⟨x,a,m,c,d1,d2,d3⟩:=h4 i hi
 exact ⟨x,a,m,c,d1,d2,d3.below hb⟩
theorem RowTo.add {P:Nat→Prop} {w:World} {g n:Nat} {l:List Int} (h:RowTo P w g n l) (hl:l.length<n) {x:Int} {a:Option Addr} {m c:Nat} {v:Int} (hv:WhAt P w (.agg #[.int .i64 x,.slice a m c]) v) :
  RowTo P ((w.setCell ⟨g,l.length*2,none⟩ (.int .i64 x)).setCell ⟨g,l.length*2+1,none⟩ (.slice a m c)) g n (l++[v]):=by
 obtain ⟨cs,h1,h2,h3,h4⟩:=h
 have b1:=heap_setCell_same w g (l.length*2) _ _ (.int .i64 x) h1
 have b2:=heap_setCell_same _ g (l.length*2+1) _ _ (.slice a m c) b1
 have hk:KeepT 3 w ((w.setCell ⟨g,l.length*2,none⟩ (.int .i64 x)).setCell ⟨g,l.length*2+1,none⟩ (.slice a m c)):=(KeepT.setCell h1 (by decide) _ _).trans (KeepT.setCell b1 (by decide) _ _)
 refine ⟨_,b2,by simp [h2],by simp;omega,fun i hi=>?_⟩
 by_cases hlt:i<l.length
 ·obtain ⟨x',a',m',c',d1,d2,d3⟩:=h4 i hlt
  refine ⟨x',a',m',c',?_,?_,?_⟩
  ·rw [Array.getElem?_setIfInBounds_ne (by omega),Array.getElem?_setIfInBounds_ne (by omega)];exact d1
  ·rw [Array.getElem?_setIfInBounds_ne (by omega),Array.getElem?_setIfInBounds_ne (by omega)];exact d2
  ·rw [List.getElem_append_left hlt];exact d3.keep hk
 ·have e:i=l.length:=by simp at hi;omega
  subst e
  refine ⟨x,a,m,c,?_,?_,?_⟩
  ·rw [Array.getElem?_setIfInBounds_ne (by omega),Array.getElem?_setIfInBounds_self_of_lt (by omega)]
  ·rw [Array.getElem?_setIfInBounds_self_of_lt (by simp;omega)]
  ·rw [List.getElem_append_right (Nat.le_refl _)]
   simpa using hv.keep hk
theorem Try.infoWhole:(Try.prog.info? 82).map (fun i=>(i.zero,i.size,i.bytes))=some (some (.agg #[.int .i64 0,.slice none 0 0]),2,32):=by kernel_rfl
theorem block_two {w:World} {B:Nat} {e:TypeId} {g n:Nat} {xs:List Value} (h:w.ownsRow B e 2 (.slice (some ⟨g,0,none⟩) n n) n xs):∃ cs:Array Value,w.heap[g]?=some (.cells cs e (0,0))∧cs.size=2*n:=by
 rcases h.2 with ⟨h1,_⟩|⟨g',cap,cur,he,hb,hgg,hle,hm,hcs,htk⟩
 ·simp at h1
 ·simp only [Value.slice.injEq,Option.some.injEq,Addr.mk.injEq,and_true,true_and] at he
  obtain ⟨rfl,rfl⟩:=he
  exact ⟨cur,hgg,by omega⟩
theorem RowTo.sets {P:Nat→Prop} {w:World} {g n:Nat} {l:List Int} (h:RowTo P w g n l) {k:Nat} (hk:g≠k) {u v:Value} (hb:w.heap[k]?=some (.cells #[u,v] 82 (0,0))) (p q:Value):RowTo P ((w.setCell ⟨k,0,none⟩ p).setCell ⟨k,1,none⟩ q) g n l:=by
 obtain ⟨cs,h1,h2,h3,h4⟩:=h
 refine ⟨cs,(int_far hk p q).trans h1,h2,h3,fun i hi=>?_⟩
 obtain ⟨x,a,m,c,d1,d2,d3⟩:=h4 i hi
 exact ⟨x,a,m,c,d1,d2,d3.sets hb _ _⟩
theorem RowTo.open {P:Nat→Prop} {w:World} {g n:Nat} {l:List Int} (h:RowTo P w g n l) (hl:l.length<n):∃ u v,w.cell? ⟨g,l.length*2,none⟩=some u∧w.cell? ⟨g,l.length*2+1,none⟩=some v∧w.frozen? ⟨g,l.length*2,none⟩=false∧w.frozen? ⟨g,l.length*2+1,none⟩=false:=by
 obtain ⟨cs,h1,h2,_,_⟩:=h
 exact ⟨cs[l.length*2],cs[l.length*2+1],by rw [cellsOf h1];exact Array.getElem?_eq_getElem (by omega),by rw [cellsOf h1];exact Array.getElem?_eq_getElem (by omega),freeOf h1 _,freeOf h1 _⟩
theorem turned_len (t:Pl.Tab) (r c:Nat) (sg:Int):(t.turned r c sg).length=t.cols.length+1:=by simp [Pl.Tab.turned]
theorem turned_next (t:Pl.Tab) (r c:Nat) (sg:Int) {j:Nat} (hj:j<t.cols.length+1):(t.turned r c sg).take (j+1)=(t.turned r c sg).take j++[sg*(if j=c then t.scale else -t.cell r j)]:=by
 rw [List.take_add_one,List.getElem?_eq_getElem (by rw [turned_len];exact hj)]
 simp [Pl.Tab.turned]
set_option maxHeartbeats 1000000 in
theorem turned_any (P:Nat→Prop) (b:Nat) (t:Pl.Tab) (w:World) (hP:∀ b,w.heap.size≤b→P b) (h:TabAt P w b t) (hlen:t.lines.length≤1000) (hcl:∀ l∈t.lines,l.2.length≤1000) (hcols:t.cols.length≤100) {r c:Nat} (hr:r<t.lines.length) (hrow:(t.lines.getD r (0,[])).2.length=t.cols.length+1) {sg:Int} (hs:sg=1∨sg=-1) :
  Calls Try.prog 155 #[.pointer (some ⟨b,0,none⟩),.int .i64 r,.int .i64 c,.int .i64 sg] w fun e w'=>∃ v',e=.returned v'∧RowAt P w' v' (t.turned r c sg)∧Below w.heap.size w w':=by
 obtain ⟨i0,hi,hz0,hz1,hz2⟩:=info_parts Try.infoWhole
 obtain ⟨vc,kc,adc,capc,rfl,hci⟩:=h.cols
 clear hci
 go_enter Try.func155,Try.ntmps155
 go_wp2_with (at_make;refine wpList_make_full _ rfl _ _ 73 rfl w.heap.size 82 i0 (.agg #[.int .i64 0,.slice none 0 0]) 2 Try.underlying73 hi hz0 hz1 .i64 .i64 _ _ (t.cols.length+1) rfl rfl ?e1 ?e2 ?c1 ?c2 ?c3 ?_)
 case e1=>first | rfl | omega | simp
 case e2=>first | rfl | omega | simp
 case c1=>rw [hz2];omega
 case c2=>unfold maxLen;omega
 case c3=>omega
 ·intro w1 hown hgrow
  have hb1:Below w.heap.size w w1:=(Below.refl _ _).grown hgrow (Nat.le_refl _) (by intro k hk;cases hk)
  obtain ⟨cs,hblk,hcs⟩:=block_two hown
  have H1:Hid (RowTo P w1 w.heap.size (t.cols.length+1) []∧Below w.heap.size w w1):=⟨⟨cs,hblk,hcs,by simp,fun i hi=>by simp at hi⟩,hb1⟩
  clear hown hgrow hblk hb1 kc hcs
  have HT:=hide h
  clear h
  go_wp2_with fail
  generalize hG:w.heap.size=g at *
  generalize hN:t.cols.length+1=n at *
  go_loopg [10] n (fun k jv wr=>∃ (l:List Int),jv=.int .i64 l.length∧l.length+k=n∧Hid (RowTo P wr g n l∧Below g w wr∧l=(t.turned r c sg).take l.length))
  case atStart=>exact ⟨[],rfl,by simp,(uh H1).1,(uh H1).2,by simp⟩
  case round =>
   obtain ⟨l,rfl,hlk,HR⟩:=hrel
   by_cases hlt:l.length<n
   ·have hb:Below w.heap.size w wr:=by rw [hG];exact (uh HR).2.1
    obtain ⟨sx,sa,sm,sc,k2,k3,hsc⟩:=((uh HT).below hb).scale
    have HSC:=hide hsc
    clear hsc hb
    by_cases hjc:l.length=c
    ·subst hjc
     have hal1:Below wr.heap.size wr (wr.alloc (.cells #[.int .i64 sx,.slice sa sm sc] 82)):=(Below.refl _ _).alloc (Nat.le_refl _) _
     have hbw:Below g w wr:=(uh HR).2.1
     have hB1:Below g w (wr.alloc (.cells #[.int .i64 sx,.slice sa sm sc] 82)):=hbw.trans (hal1.mono (by have:=hbw.size;omega))
     have hgl:g<wr.heap.size:=by obtain ⟨cs,h1,_⟩:=(uh HR).1;exact lt_of_block h1
     have HV7:=hide ((uh HSC).below hal1)
     have HR7:=hide ((uh HR).1.below hal1)
     have HB7:Hid (Below g w (wr.alloc (.cells #[.int .i64 sx,.slice sa sm sc] 82))):=hB1
     clear hal1 hbw hB1
     go_wp2_with fail
     refine (signed_any P t.scale sg _ _ (uh HV7) hs).mono ?_
     rintro e w8 ⟨v8,rfl,hv8,hw8⟩
     obtain ⟨x8,a8,m8,c8,rfl,_⟩:=hv8.head
     have hR8:=(uh HR7).below hw8
     obtain ⟨u1,u2,o0,o1,of0,of1⟩:=hR8.open hlt
     have HF:=hide (hR8.add hlt hv8)
     have HB9:Hid (Below g w ((w8.setCell ⟨g,l.length*2,none⟩ (.int .i64 x8)).setCell ⟨g,l.length*2+1,none⟩ (.slice a8 m8 c8))) :=
      (Below.setCell (p:=⟨g,l.length*2,none⟩) ((uh HB7).trans (hw8.mono (by have:=(uh HB7).size;omega))) (Nat.le_refl _) _).setCell (p:=⟨g,l.length*2+1,none⟩) (Nat.le_refl _) _
     have HL:Hid (l++[sg*t.scale]=(t.turned r l.length sg).take (l++[sg*t.scale]).length):=by
      unfold Hid
      have e1:(l++[sg*t.scale]).length=l.length+1:=by simp
      rw [e1,turned_next t r l.length sg (by omega),if_pos rfl,←(uh HR).2.2]
     clear hv8 hw8 hR8 HR7 HV7 HB7
     go_wp2
     go_roundg (gk - 1)
     case measure=>omega
     case rel=>exact ⟨l++[sg*t.scale],by simp,by simp;omega,uh HF,uh HB9,uh HL⟩
    ·have tne:((l.length:Int) != (c:Int))=true:=by simp;omega
     go_wp2_with fail
     have hal1:Below wr.heap.size wr (wr.alloc (.cells #[.int .i64 sx,.slice sa sm sc] 82)):=(Below.refl _ _).alloc (Nat.le_refl _) _
     have hbw:Below g w wr:=(uh HR).2.1
     have hB1:Below g w (wr.alloc (.cells #[.int .i64 sx,.slice sa sm sc] 82)):=hbw.trans (hal1.mono (by have:=hbw.size;omega))
     have hgl:g<wr.heap.size:=by obtain ⟨cs,h1,_⟩:=(uh HR).1;exact lt_of_block h1
     refine (cell_in P b t _ ((uh HT).below (by rw [hG];exact hB1)) hlen hcl hr (j:=l.length) (by omega)).mono ?_
     rintro e w4 ⟨v4,rfl,hv4,hw4⟩
     obtain ⟨x4,a4,m4,c4,rfl,_⟩:=hv4.head
     have hal5:Below w4.heap.size w4 (w4.alloc (.cells #[.int .i64 x4,.slice a4 m4 c4] 82)):=(Below.refl _ _).alloc (Nat.le_refl _) _
     have HV4:=hide (hv4.below hal5)
     have HS4:Hid (Since (wr.alloc (.cells #[.int .i64 sx,.slice sa sm sc] 82)) w4):=hw4
     clear hv4 hw4 hal5
     go_wp2_with fail
     refine (Neg_any P _ _ _ (uh HV4)).mono ?_
     rintro e w6 ⟨v6,rfl,hv6,hw6⟩
     obtain ⟨x6,a6,m6,c6,rfl,_⟩:=hv6.head
     have HS6:Hid (Since (wr.alloc (.cells #[.int .i64 sx,.slice sa sm sc] 82)) w6):=Since.step (Since.alloc (uh HS4) _) hw6
     have hgc:=Below.same (uh HS6) _ _ (slot_one wr (.cells #[.int .i64 sx,.slice sa sm sc] 82))
     obtain ⟨q0,q1,qf0,qf1⟩:=int_cells hgc
     have HV7:=hide (hv6.sets hgc (.int .i64 x6) (.slice a6 m6 c6))
     have HR7:=hide ((((uh HR).1.below hal1).below (uh HS6)).sets (by omega) hgc (.int .i64 x6) (.slice a6 m6 c6))
     have HB7:Hid (Below g w ((w6.setCell ⟨wr.heap.size,0,none⟩ (.int .i64 x6)).setCell ⟨wr.heap.size,1,none⟩ (.slice a6 m6 c6))):=(Below.setCell (p:=⟨wr.heap.size,0,none⟩) (hB1.trans (Below.mono (uh HS6) (by have:=hB1.size;omega))) (Nat.le_of_lt hgl) _).setCell (p:=⟨wr.heap.size,1,none⟩) (Nat.le_of_lt hgl) _
     clear hv6 hw6 hgc HS6 HS4 HV4 hal1 hbw hB1
     go_wp2_with fail
     refine (signed_any P (-t.cell r l.length) sg _ _ (uh HV7) hs).mono ?_
     rintro e w8 ⟨v8,rfl,hv8,hw8⟩
     obtain ⟨x8,a8,m8,c8,rfl,_⟩:=hv8.head
     have hR8:=(uh HR7).below hw8
     obtain ⟨u1,u2,o0,o1,of0,of1⟩:=hR8.open hlt
     have HF:=hide (hR8.add hlt hv8)
     have HB9:Hid (Below g w ((w8.setCell ⟨g,l.length*2,none⟩ (.int .i64 x8)).setCell ⟨g,l.length*2+1,none⟩ (.slice a8 m8 c8))) :=
      (Below.setCell (p:=⟨g,l.length*2,none⟩) ((uh HB7).trans (hw8.mono (by have:=(uh HB7).size;omega))) (Nat.le_refl _) _).setCell (p:=⟨g,l.length*2+1,none⟩) (Nat.le_refl _) _
     have HL:Hid (l++[sg*(-t.cell r l.length)]=(t.turned r c sg).take (l++[sg*(-t.cell r l.length)]).length):=by
      unfold Hid
      have e1:(l++[sg*(-t.cell r l.length)]).length=l.length+1:=by simp
      rw [e1,turned_next t r c sg (by omega),if_neg hjc,←(uh HR).2.2]
     clear hv8 hw8 hR8 HR7 HV7 HB7
     go_wp2
     go_roundg (gk - 1)
     case measure=>omega
     case rel=>exact ⟨l++[sg*(-t.cell r l.length)],by simp,by simp;omega,uh HF,uh HB9,uh HL⟩
   ·have hk0:gk=0:=by omega
    have hll:l.length=n:=by omega
    have HR2:Hid (RowAt P wr (.slice (some ⟨g,0,none⟩) n n) (t.turned r c sg)∧Below g w wr):=by
     obtain ⟨r1,r2,r3⟩:=uh HR
     refine ⟨?_,r2⟩
     have:=r1.row hll (hP g (by omega))
     rw [r3,List.take_of_length_le (by rw [turned_len];omega)] at this
     exact this
    clear HR
    go_wp2
    go_ret
    exact ⟨_,rfl,(uh HR2).1,by rw [hG];exact (uh HR2).2⟩
def UpCol (t:Pl.Tab) (r k:Nat):Prop:=0≤t.col k∧0<t.cell r (k+1)
def BestCol (t:Pl.Tab) (r j:Nat) (c:Int):Prop:=(c=-1∧∀ k,k<j→¬ UpCol t r k)∨∃ k:Nat,k<j∧c=k∧UpCol t r k∧∀ k',k'<j→UpCol t r k'→t.col k≤t.col k'
theorem BestCol.skip {t:Pl.Tab} {r j:Nat} {c:Int} (h:BestCol t r j c) (hn:¬ UpCol t r j):BestCol t r (j+1) c:=by
 rcases h with ⟨h1,h2⟩|⟨k,h1,h2,h3,h4⟩
 ·exact .inl ⟨h1,fun k hk=>by rcases (show k<j∨k=j by omega) with h | h;exact h2 k h;rw [h];exact hn⟩
 ·exact .inr ⟨k,by omega,h2,h3,fun k' hk' hu=>by rcases (show k'<j∨k'=j by omega) with h | h;exact h4 k' h hu;rw [h] at hu;exact absurd hu hn⟩
theorem BestCol.stay {t:Pl.Tab} {r j k:Nat} (h:BestCol t r j k) (hle:t.col k≤t.col j):BestCol t r (j+1) k:=by
 rcases h with ⟨h1,_⟩|⟨k2,h1,h2,h3,h4⟩
 ·omega
 ·have e:k2=k:=by omega
  subst e
  exact .inr ⟨k2,by omega,h2,h3,fun k' hk' hu=>by rcases (show k'<j∨k'=j by omega) with h | h;exact h4 k' h hu;rw [h];exact hle⟩
theorem BestCol.take {t:Pl.Tab} {r j:Nat} {c:Int} (h:BestCol t r j c) (hu:UpCol t r j) (hlt:∀ k:Nat,c=k→t.col j<t.col k):BestCol t r (j+1) j:=by
 refine .inr ⟨j,by omega,rfl,hu,fun k' hk' hu'=>?_⟩
 rcases (show k'<j∨k'=j by omega) with hk|hk
 ·rcases h with ⟨_,h2⟩ | ⟨k,h1,h2,h3,h4⟩
  ·exact absurd hu' (h2 k' hk)
  ·have:=h4 k' hk hu'
   have:=hlt k h2
   omega
 ·rw [hk];exact Int.le_refl _
end Go.Proofs.Ytfaljekgpnbmiaa
