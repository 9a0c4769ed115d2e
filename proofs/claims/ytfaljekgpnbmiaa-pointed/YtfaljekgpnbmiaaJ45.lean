/- Joined: XKeep1 XKeep2 XKeep3. -/
import Derived.Test.YtfaljekgpnbmiaaJ44
set_option linter.unusedVariables false
set_option linter.unusedSimpArgs false
set_option maxRecDepth 100000
namespace Go.Proofs.Ytfaljekgpnbmiaa
open Go.RowKit Go.Sort
theorem Try.infoRange:(Try.prog.info? 58).map (fun i=>(i.zero,i.size,i.bytes))=some (some (.agg #[.int .i64 0,.int .i64 0]),2,16):=by kernel_rfl
def nearP (c m:Int):Int:=Int.tmod c (m+1)
theorem nearP_le (c:Int) {m:Int} (h:0≤m):-m≤nearP c m∧nearP c m≤m:=by
 unfold nearP
 have h1:=Int.tmod_lt_of_pos c (show 0<m+1 by omega)
 have h2:=Int.tmod_lt_of_pos (-c) (show 0<m+1 by omega)
 rw [Int.neg_tmod] at h2
 omega
theorem near_any (c m:Int) (w:World) (hm:0≤m) (hm2:m≤1000000000000):Calls Try.prog 7 #[.int .i64 c,.int .i64 m] w fun e w'=>e=.returned (.int .i64 (nearP c m))∧w'=w:=by
 have h1:IntKind.i64.wrap (m+1)=m+1:=by rw [IntKind.wrap_i64];omega
 have h0:¬ (m+1=0):=by omega
 have h2:=nearP_le c hm
 have h3:IntKind.i64.wrap (Int.tmod c (m+1))=nearP c m:=by
  unfold nearP at h2 ⊢
  rw [IntKind.wrap_i64];omega
 clear h2
 go_enter Try.func7,Try.ntmps7
 go_wp2
 go_ret
 exact ⟨by first | rfl | simp [nearP],rfl⟩
def ordP (a b:Int):Int × Int:=if b<a then (b,a) else (a,b)
theorem ordP_le (a b:Int):(ordP a b).1≤(ordP a b).2:=by
 unfold ordP
 split
 ·show b≤a;omega
 ·show a≤b;omega
theorem ordered_any (a b:Int) (w:World):Calls Try.prog 30 #[.int .i64 a,.int .i64 b] w fun e w'=>e=.returned (.agg #[.int .i64 (ordP a b).1,.int .i64 (ordP a b).2])∧Below w.heap.size w w':=by
 have hb:=slot_one w (.cells #[.int .i64 0,.int .i64 0] 58)
 have z0:(w.alloc (.cells #[.int .i64 0,.int .i64 0] 58)).cell? ⟨w.heap.size,0,none⟩=some (.int .i64 0):=by rw [cellsOf hb];rfl
 have z1:(w.alloc (.cells #[.int .i64 0,.int .i64 0] 58)).cell? ⟨w.heap.size,1,none⟩=some (.int .i64 0):=by rw [cellsOf hb];rfl
 have HG:Hid (∀ u v,Grows w (((w.alloc (.cells #[.int .i64 0,.int .i64 0] 58)).setCell ⟨w.heap.size,0,none⟩ u).setCell ⟨w.heap.size,1,none⟩ v)):=fun u v=>(Below.setCell (p:=⟨w.heap.size,0,none⟩) (Grows.alloc _ _) (Nat.le_refl _) _).setCell (p:=⟨w.heap.size,1,none⟩) (Nat.le_refl _) _
 have HG2:Hid (∀ u v,Grows w (w.alloc (.cells #[u,v] 58))):=fun u v=>Grows.alloc _ _
 clear hb
 by_cases h:b<a
 ·have e:ordP a b=(b,a):=if_pos h
  rw [e]
  go_enter Try.func30,Try.ntmps30
  go_wp2
  exact bodyPost_ret (v:=.agg #[.int .i64 b,.int .i64 a]) (by simp [results,Try.results30,go_sem,z0,z1]) rfl ⟨rfl,by first | exact uh HG _ _ | exact uh HG2 _ _⟩
 ·have e:ordP a b=(a,b):=if_neg h
  rw [e]
  go_enter Try.func30,Try.ntmps30
  go_wp2
  exact bodyPost_ret (v:=.agg #[.int .i64 a,.int .i64 b]) (by simp [results,Try.results30,go_sem,z0,z1]) rfl ⟨rfl,by first | exact uh HG _ _ | exact uh HG2 _ _⟩
def rangeK (v:Int × Int):Int × Int:=ordP (nearP v.1 1000000000) (nearP v.2 1000000000)
def rangesK (l:List (Int × Int)):List (Int × Int):=if l=[] then [(0,0)] else (l.take 4).map rangeK
theorem rangeK_ok (v:Int × Int):(-1000000000≤(rangeK v).1∧(rangeK v).1≤1000000000)∧(-1000000000≤(rangeK v).2∧(rangeK v).2≤1000000000)∧(rangeK v).1≤(rangeK v).2:=by
 have h1:=nearP_le v.1 (m:=1000000000) (by decide)
 have h2:=nearP_le v.2 (m:=1000000000) (by decide)
 refine ⟨?_,?_,ordP_le _ _⟩
 ·unfold rangeK ordP;split <;> assumption
 ·unfold rangeK ordP;split <;> assumption
theorem rangesK_ok (l:List (Int × Int)):RangesOk (rangesK l):=by
 unfold rangesK
 by_cases h:l=[]
 ·rw [if_pos h]
  refine ⟨by simp,by simp,?_,?_,?_⟩ <;> (intro v hv;rw [List.mem_singleton.1 hv];decide)
 ·rw [if_neg h]
  have hl:0<l.length:=List.length_pos_iff.2 h
  have key:∀ v∈(l.take 4).map rangeK,∃ u,v=rangeK u:=fun v hv=>by
   obtain ⟨u,_,e⟩:=List.mem_map.1 hv
   exact ⟨u,e.symm⟩
  refine ⟨by simp;omega,by simp;omega,fun v hv=>?_,fun v hv=>?_,fun v hv=>?_⟩
  ·obtain ⟨u,rfl⟩:=key v hv;exact (rangeK_ok u).1
  ·obtain ⟨u,rfl⟩:=key v hv;exact (rangeK_ok u).2.1
  ·obtain ⟨u,rfl⟩:=key v hv;exact (rangeK_ok u).2.2
def rngCells (l:List (Int × Int)):List Value:=l.flatMap fun v=>[.int .i64 v.1,.int .i64 v.2]
theorem rngCells_snoc (l:List (Int × Int)) (v:Int × Int):rngCells (l++[v])=rngCells l++[.int .i64 v.1,.int .i64 v.2]:=by
 unfold rngCells;rw [List.flatMap_append];simp
theorem rngCells_get:∀ (l:List (Int × Int)) (i:Nat) (h:i<l.length),(rngCells l)[i*2]?=some (.int .i64 l[i].1)∧(rngCells l)[i*2+1]?=some (.int .i64 l[i].2)
 | v::l,0,_=>⟨rfl,rfl⟩
 | v::l,i+1,h=>by
  have:=rngCells_get l i (by simpa using h)
  have e:rngCells (v::l)=[.int .i64 v.1,.int .i64 v.2]++rngCells l:=by unfold rngCells;rw [List.flatMap_cons]
  rw [e,List.getElem?_append_right (by simp;omega),List.getElem?_append_right (by simp;omega)]
  simp only [List.length_cons,List.length_nil,List.getElem_cons_succ]
  rw [show (i+1)*2 - (0+1+1)=i*2 by omega,show (i+1)*2+1 - (0+1+1)=i*2+1 by omega]
  exact this
def RngOwn (B:Nat) (w:World) (v:Value) (l:List (Int × Int)):Prop:=w.ownsRow B 58 2 v l.length (rngCells l)
theorem RngOwn.at {B:Nat} {w:World} {v:Value} {l:List (Int × Int)} (h:RngOwn B w v l):RngAt w v l:=by
 rcases h.2 with ⟨e,h0⟩|⟨g,cap,cur,e,hb,hcur,hle,hmx,hsz,htk⟩
 ·exact ⟨none,0,by rw [e,h0],fun i hi=>by omega⟩
 ·refine ⟨some ⟨g,0,none⟩,cap,e,fun i hi=>⟨g,0,rfl,?_⟩⟩
  have hc:∀ k,k<l.length*2→cur[k]?=(rngCells l)[k]?:=fun k hk=>by
   rw [←htk,List.getElem?_take_of_lt hk];simp
  obtain ⟨c1,c2⟩:=rngCells_get l i hi
  refine ⟨?_,?_⟩
  ·rw [cellsOf hcur];show cur[0+i*2]?=_;rw [Nat.zero_add,hc _ (by omega)];exact c1
  ·rw [cellsOf hcur];show cur[0+i*2+1]?=_;rw [Nat.zero_add,hc _ (by omega)];exact c2
theorem RngOwn.shapeS {B:Nat} {w:World} {v:Value} {l:List (Int × Int)} (h:RngOwn B w v l):∃ ad cap,v=.slice ad l.length cap:=by
 rcases h.2 with ⟨e,h0⟩|⟨g,cap,cur,e,_⟩
 ·exact ⟨none,0,by rw [e,h0]⟩
 ·exact ⟨_,_,e⟩
theorem RngOwn.grow {B:Nat} {w w':World} {v:Value} {l:List (Int × Int)} (h:RngOwn B w v l) (hg:Grows w w'):RngOwn B w' v l:=own_keep h (.of_below hg)
set_option maxHeartbeats 1000000 in
theorem ranges_any (l:List (Int × Int)) (va:Value) (w:World) (ha:RngAt w va l) (hm:l.length≤maxLen) :
  Calls Try.prog 17 #[va] w fun e w'=>∃ v',e=.returned v'∧RngOwn w.heap.size w' v' (rangesK l)∧Below w.heap.size w w':=by
 obtain ⟨i0,hi0,hz0,hz1,hz2⟩:=info_parts Try.infoRange
 obtain ⟨aa,ac,rfl⟩:=ha.shapeS
 have HA:=hide ha
 obtain ⟨n,hn⟩:∃ n,l.length=n:=⟨_,rfl⟩
 have HN:=hide hn
 rw [hn] at HA hm ⊢
 unfold maxLen at hm
 clear ha hn
 go_enter Try.func17,Try.ntmps17
 go_wp2_with fail
 go_loopg [3,4] 4 (fun k ov iv wr=>∃ (i:Nat) (oa:Option Addr) (oc:Nat),ov=.slice oa i oc∧iv=.int .i64 i∧i+k=4∧i≤n∧Hid (RngOwn w.heap.size wr (.slice oa i oc) ((l.take i).map rangeK)∧Grows w wr))
 case atStart=>exact ⟨0,none,0,rfl,rfl,by omega,by omega,⟨by simp [rngCells],.inl ⟨rfl,by simp⟩⟩,Below.refl _ _⟩
 case round =>
  obtain ⟨i,oa,oc,rfl,rfl,hik,hin,HR⟩:=hrel
  by_cases hlt:i<n∧i<4
  ·obtain ⟨h1,h2⟩:=hlt
   obtain ⟨gv,ov,ev,c0,c1⟩:=((uh HA).below (uh HR).2).get (i:=i) (by rw [uh HN];exact h1)
   cases ev
   obtain ⟨u,hu⟩:∃ u,l.getD i (0,0)=u:=⟨_,rfl⟩
   rw [hu] at c0 c1
   have HTK:Hid ((l.take (i+1)).map rangeK=(l.take i).map rangeK++[rangeK u]):=by
    unfold Hid
    rw [←hu,List.take_succ_eq_append_getElem (by rw [uh HN];exact h1),List.getD_eq_getElem?_getD,List.getElem?_eq_getElem (by rw [uh HN];exact h1),List.map_append];rfl
   have HTL:Hid (((l.take i).map rangeK).length=i):=by unfold Hid;rw [List.length_map,List.length_take,uh HN];omega
   obtain ⟨L,hL⟩:∃ L,(l.take i).map rangeK=L:=⟨_,rfl⟩
   rw [hL] at HTK HTL HR
   obtain ⟨lo,hi⟩:=u
   simp only at c0 c1
   clear hu hL
   go_wp2_with fail
   refine (near_any lo 1000000000 wr (by decide) (by decide)).mono ?_
   rintro e w1 ⟨rfl,hw1⟩
   rw [hw1]
   clear hw1 w1
   go_wp2_with fail
   refine (near_any hi 1000000000 wr (by decide) (by decide)).mono ?_
   rintro e w1 ⟨rfl,hw1⟩
   rw [hw1]
   clear hw1 w1
   go_wp2_with fail
   refine (ordered_any (nearP lo 1000000000) (nearP hi 1000000000) wr).mono ?_
   rintro e w1 ⟨rfl,hw1⟩
   obtain ⟨x,hx⟩:∃ x,ordP (nearP lo 1000000000) (nearP hi 1000000000)=x:=⟨_,rfl⟩
   have HX:Hid (rangeK (lo,hi)=x):=hx
   rw [hx]
   have hown:=(uh HR).1.grow hw1
   unfold RngOwn at hown
   rw [uh HTL] at hown
   have HOW:=hide (fun o=>hown.alloc o)
   have HG1:Hid (Grows w w1):=(uh HR).2.trans hw1
   have hsz1:=(uh HG1).size
   clear hown hw1 hx c0 c1
   go_wp2_with (at_builtin;refine wpList_append_lies _ rfl _ _ 38 rfl w.heap.size 58 i0 (.agg #[.int .i64 0,.int .i64 0]) 2 16 Try.underlying38 hi0 hz0 hz1 hz2 rfl (by decide) _ i (rngCells L) rfl (uh HOW _) ⟨_,0,none⟩ 1 1 [.int .i64 x.1,.int .i64 x.2] rfl rfl ?d1 (by simp [Value.oneCell']) (by decide) ?d2 ?d3 ?d4 _ rfl ?_)
   case d1=>exact fun j u hu=>World.news_of_block (heap_alloc_new _ _) j u hu
   case d2=>unfold maxLen;omega
   case d3=>omega
   case d4=>simp;omega
   ·intro g cap w2 hown2 hgrow2 hat2 hlt2
    have hgA:=Grows.alloc w1 (.cells #[.int .i64 x.1,.int .i64 x.2] 58)
    have HO2:Hid (RngOwn w.heap.size w2 (.slice (some ⟨g,0,none⟩) (i+1) cap) ((l.take (i+1)).map rangeK)):=by
     unfold Hid RngOwn
     rw [uh HTK,rngCells_snoc,uh HX,List.length_append,uh HTL]
     exact hown2
    have HG2:Hid (Grows w w2):=Below.trans ((uh HG1).trans hgA) (Below.grown (Below.refl _ _) hgrow2 (by rw [World.size_alloc];omega) (own_base (uh HOW (.cells #[.int .i64 x.1,.int .i64 x.2] 58))))
    clear hown2 hgrow2 hat2 hlt2 hgA HOW
    go_wp2
    go_roundg (gk - 1)
    case measure=>omega
    case rel=>exact ⟨i+1,_,_,rfl,by simp,by omega,by omega,uh HO2,uh HG2⟩
  ·by_cases h0:i=0
   ·have hn0:n=0:=by omega
    have HE:Hid (rangesK l=[]++[(0,0)]):=by
     unfold Hid rangesK
     rw [if_pos (List.eq_nil_of_length_eq_zero (by rw [uh HN];exact hn0))];rfl
    subst h0
    have hown:=(uh HR).1
    have e0:(l.take 0).map rangeK=[]:=rfl
    rw [e0] at hown
    have HOW:=hide (fun o=>World.ownsRow.alloc hown o)
    have hG:=(uh HR).2
    have hszr:=hG.size
    have HG:=hide hG
    have hlt':¬ (((0:Nat):Int)<(n:Int)):=by omega
    clear hown hG hlt hn0
    subst_vars
    go_wp2_with (at_builtin;refine wpList_append_lies _ rfl _ _ 38 rfl w.heap.size 58 i0 (.agg #[.int .i64 0,.int .i64 0]) 2 16 Try.underlying38 hi0 hz0 hz1 hz2 rfl (by decide) _ 0 (rngCells []) rfl (uh HOW _) ⟨_,0,none⟩ 1 1 [.int .i64 0,.int .i64 0] rfl rfl ?d1 (by simp [Value.oneCell']) (by decide) ?d2 ?d3 ?d4 _ rfl ?_)
    case d2=>unfold maxLen;omega
    case d4=>first | omega | (simp;omega)
    ·intro g cap w2 hown2 hgrow2 hat2 hlt2
     have hgA:=Grows.alloc wr (.cells #[.int .i64 0,.int .i64 0] 58)
     have HO2:Hid (RngOwn w.heap.size w2 (.slice (some ⟨g,0,none⟩) 1 cap) (rangesK l)):=by
      unfold Hid RngOwn
      rw [uh HE]
      exact hown2
     have HG2:Hid (Grows w w2):=Below.trans ((uh HG).trans hgA) (Below.grown (Below.refl _ _) hgrow2 (by rw [World.size_alloc];omega) (own_base (uh HOW (.cells #[.int .i64 0,.int .i64 0] 58))))
     clear hown2 hgrow2 hat2 hlt2 hgA HOW
     go_wp2
     go_ret
     exact ⟨_,rfl,uh HO2,uh HG2⟩
   ·have HE:Hid (rangesK l=(l.take i).map rangeK):=by
     unfold Hid rangesK
     rw [if_neg (fun e=>by have:=uh HN;rw [e] at this;simp at this;omega)]
     have:l.take i=l.take 4:=by
      rcases (show i=4∨i=n by omega) with e|e
      ·rw [e]
      ·rw [e,←uh HN,List.take_length,List.take_of_length_le (by rw [uh HN];omega)]
     rw [this]
    have h0':¬ ((i:Int)=0):=by omega
    by_cases hl1:i<n
    ·have hl2:¬ ((i:Int)<4):=by omega
     clear hlt
     go_wp2
     go_ret
     exact ⟨_,rfl,by rw [uh HE];exact (uh HR).1,(uh HR).2⟩
    ·clear hlt
     go_wp2
     go_ret
     exact ⟨_,rfl,by rw [uh HE];exact (uh HR).1,(uh HR).2⟩
theorem Try.infoRowQ:(Try.prog.info? 61).map (fun i=>(i.zero,i.size,i.bytes))=some (some (.agg #[.slice none 0 0,.int .i64 0,.bool false]),3,40):=by kernel_rfl
def factK (C:List Int) (k:Nat):Int:=if k<C.length then nearP (C.getD k 0) 1000 else 0
def rowK (n:Nat) (q:RowP):RowP:=((List.range n).map (factK q.1),nearP q.2.1 1000000000000,q.2.2)
def fairK (n:Nat) (l:List RowP):List RowP:=(l.take 8).map (rowK n)
theorem fairK_ok (n:Nat) (l:List RowP):RowsOk n (fairK n l):=by
 have key:∀ q∈fairK n l,∃ p,q=rowK n p:=fun q hq=>by
  obtain ⟨p,_,e⟩:=List.mem_map.1 hq
  exact ⟨p,e.symm⟩
 refine ⟨by unfold fairK;rw [List.length_map,List.length_take];omega,fun q hq=>?_,fun q hq x hx=>?_,fun q hq=>?_⟩
 ·obtain ⟨p,rfl⟩:=key q hq
  simp [rowK]
 ·obtain ⟨p,rfl⟩:=key q hq
  obtain ⟨k,_,rfl⟩:=List.mem_map.1 hx
  unfold factK
  split
  ·exact nearP_le _ (by decide)
  ·decide
 ·obtain ⟨p,rfl⟩:=key q hq
  exact nearP_le _ (by decide)
structure QX (B:Nat) (w:World) (xs:List Value) (l:List RowP):Prop where
 len:xs.length=l.length*3
 at_:∀ i,(hi:i<l.length)→∃ u,xs[i*3]?=some u∧IntsOwn B w u l[i].1∧xs[i*3+1]?=some (.int .i64 l[i].2.1)∧xs[i*3+2]?=some (.bool l[i].2.2)
theorem QX.nil (B:Nat) (w:World):QX B w [] []:=⟨rfl,fun i hi=>absurd hi (Nat.not_lt_zero i)⟩
theorem QX.keepT {B:Nat} {w w':World} {xs:List Value} {l:List RowP} (h:QX B w xs l) (hk:KeepT 3 w w'):QX B w' xs l:=⟨h.len,fun i hi=>by obtain ⟨u,h1,h2,h3⟩:=h.at_ i hi;exact ⟨u,h1,own_keep h2 hk,h3⟩⟩
theorem QX.grow {B:Nat} {w w':World} {xs:List Value} {l:List RowP} (h:QX B w xs l) (hg:Grows w w'):QX B w' xs l:=h.keepT (.of_below hg)
theorem QX.snoc {B:Nat} {w:World} {xs:List Value} {l:List RowP} (h:QX B w xs l) {u:Value} {q:RowP} (hu:IntsOwn B w u q.1):QX B w (xs++[u,.int .i64 q.2.1,.bool q.2.2]) (l++[q]):=by
 refine ⟨by rw [List.length_append,List.length_append,h.len];simp;omega,fun i hi=>?_⟩
 rw [List.length_append] at hi
 simp only [List.length_cons,List.length_nil] at hi
 by_cases hl:i<l.length
 ·obtain ⟨u',h1,h2,h3,h4⟩:=h.at_ i hl
  have e:(l++[q])[i]'(by simp;omega)=l[i]:=List.getElem_append_left hl
  rw [e]
  have hxs:=h.len
  refine ⟨u',?_,h2,?_,?_⟩
  ·rw [List.getElem?_append_left (by omega)];exact h1
  ·rw [List.getElem?_append_left (by omega)];exact h3
  ·rw [List.getElem?_append_left (by omega)];exact h4
 ·have ei:i=l.length:=by omega
  subst ei
  have e:(l++[q])[l.length]'(by simp)=q:=by simp
  rw [e]
  refine ⟨u,?_,hu,?_,?_⟩
  ·rw [List.getElem?_append_right (by rw [h.len];omega),h.len,Nat.sub_self];rfl
  ·rw [List.getElem?_append_right (by rw [h.len];omega),h.len,show l.length*3+1 - l.length*3=1 by omega];rfl
  ·rw [List.getElem?_append_right (by rw [h.len];omega),h.len,show l.length*3+2 - l.length*3=2 by omega];rfl
theorem row_end {C:List Int} {k n:Nat} (hk:k≤n) (h:k=n∨C.length≤k):rowOf ((List.range k).map (factK C)) n=((List.range n).map (factK C)).map intV:=by
 unfold rowOf
 congr 1
 apply List.ext_getElem
 ·simp;omega
 ·intro i h1 h2
  have hi:i<n:=by simpa using h2
  by_cases hik:i<k
  ·rw [List.getElem_append_left (by simpa using hik)];simp
  ·rw [List.getElem_append_right (by simp;omega)]
   simp only [List.getElem_replicate,List.getElem_map,List.getElem_range]
   unfold factK
   rw [if_neg (by omega)]
def RwsOwn (B:Nat) (w:World) (v:Value) (l:List RowP):Prop:=∃ xs,w.ownsRow B 61 3 v l.length xs∧QX B w xs l
theorem RwsOwn.at {B:Nat} {w:World} {v:Value} {l:List RowP} (h:RwsOwn B w v l):RwsAt w v l:=by
 obtain ⟨xs,h,hq⟩:=h
 rcases h.2 with ⟨e,h0⟩|⟨g,cap,cur,e,hb,hcur,hle,hmx,hsz,htk⟩
 ·exact ⟨none,0,by rw [e,h0],fun i hi=>by omega⟩
 ·refine ⟨some ⟨g,0,none⟩,cap,e,fun i hi=>?_⟩
  have hc:∀ k,k<l.length*3→cur[k]?=xs[k]?:=fun k hk=>by
   rw [←htk,List.getElem?_take_of_lt hk];simp
  obtain ⟨u,c1,c2,c3,c4⟩:=hq.at_ i hi
  refine ⟨g,0,u,rfl,?_,ints_own c2,?_,?_⟩
  ·rw [cellsOf hcur];show cur[0+i*3]?=_;rw [Nat.zero_add,hc _ (by omega)];exact c1
  ·rw [cellsOf hcur];show cur[0+i*3+1]?=_;rw [Nat.zero_add,hc _ (by omega)];exact c3
  ·rw [cellsOf hcur];show cur[0+i*3+2]?=_;rw [Nat.zero_add,hc _ (by omega)];exact c4
theorem RwsOwn.grow {B:Nat} {w w':World} {v:Value} {l:List RowP} (h:RwsOwn B w v l) (hg:Grows w w'):RwsOwn B w' v l:=by
 obtain ⟨xs,h1,h2⟩:=h
 exact ⟨xs,own_keep h1 (.of_below hg),h2.grow hg⟩
def FreshC (n:Nat) (W:World) (v:Value) (w:World):Prop:=∃ g,v=.slice (some ⟨g,0,none⟩) n n∧W.heap.size≤g∧w.heap[g]?=some (.cells (rowOf [] n).toArray 3 (0,0))
theorem FreshC.grow {n:Nat} {W:World} {v:Value} {w w':World} (h:FreshC n W v w) (hg:Grows w w'):FreshC n W v w':=by
 obtain ⟨g,rfl,h1,h2⟩:=h
 exact ⟨g,rfl,h1,Below.same hg _ _ h2⟩
theorem FreshC.new {n:Nat} {W w:World} (h:Grows W w):FreshC n W (.slice (some ⟨w.heap.size,0,none⟩) n n) (w.alloc (.cells (rowOf [] n).toArray 3)):=⟨_,rfl,h.size,slot_one _ _⟩
def ShapeN (n:Nat) (v:Value):Prop:=∃ g,v=.slice (some ⟨g,0,none⟩) n n
def FreshQ (W:World) (v:Value) (w:World):Prop:=∃ g,v=.pointer (some ⟨g,0,none⟩)∧W.heap.size≤g∧w.heap[g]?=some (.cells #[.slice none 0 0,.int .i64 0,.bool false] 61 (0,0))
theorem FreshQ.grow {W:World} {v:Value} {w w':World} (h:FreshQ W v w) (hg:Grows w w'):FreshQ W v w':=by
 obtain ⟨g,rfl,h1,h2⟩:=h
 exact ⟨g,rfl,h1,Below.same hg _ _ h2⟩
theorem FreshQ.new {W w:World} (h:Grows W w):FreshQ W (.pointer (some ⟨w.heap.size,0,none⟩)) (w.alloc (.cells #[.slice none 0 0,.int .i64 0,.bool false] 61)):=⟨_,rfl,h.size,slot_one _ _⟩
section
attribute [local go_sem] valUpon
set_option maxHeartbeats 1000000 in
theorem fair_any (l:List RowP) (n:Nat) (va:Value) (w:World) (ha:RwsAt w va l) (hm:l.length≤maxLen) (hn:n≤4) :
  Calls Try.prog 18 #[va,.int .i64 n] w fun e w'=>∃ v',e=.returned v'∧RwsOwn w.heap.size w' v' (fairK n l)∧Below w.heap.size w w':=by
 obtain ⟨i0,hi0,hz0,hz1,hz2⟩:=info_parts Try.infoRowQ
 obtain ⟨i1,hi1,hy0,hy1,hy2⟩:=info_parts Try.infoInt
 obtain ⟨aa,ac,rfl⟩:=ha.shapeS
 have HA:=hide ha
 obtain ⟨m,hmm⟩:∃ m,l.length=m:=⟨_,rfl⟩
 have HM:=hide hmm
 rw [hmm] at HA hm ⊢
 unfold maxLen at hm
 have hmk:∀ w',(Instr.makeSlice 24 (.int .i64 n) (.int .i64 n)).run Try.prog w'=.ok (.slice (some ⟨w'.heap.size,0,none⟩) n n) (w'.alloc (.cells (rowOf [] n).toArray 3)):=fun w'=>by
  have h1:=run_make (P:=Try.prog) w' 24 3 i1 (.int .i64 0) Try.underlying24 hi1 hy0 .i64 .i64 n n (by omega) (Int.le_refl _) (by rw [hy2];omega) (by omega)
  rw [h1,hy1]
  have e:(madeCells (Value.int .i64 0).cells (((n:Int).toNat)*1))=(rowOf [] n).toArray:=by
   have:=made_int n
   apply Array.ext'
   rw [←this]
   simp [Value.cells]
  rw [e]
  simp
 clear ha hmm
 go_enter Try.func18,Try.ntmps18
 go_wp2_with fail
 go_loopg [5,6] 8 (fun k ov iv wr=>∃ (i:Nat) (oa:Option Addr) (oc:Nat),ov=.slice oa i oc∧iv=.int .i64 i∧i+k=8∧i≤m∧Hid (RwsOwn w.heap.size wr (.slice oa i oc) ((l.take i).map (rowK n))∧Grows w wr))
 case atStart=>exact ⟨0,none,0,rfl,rfl,by omega,by omega,⟨[],⟨rfl,.inl ⟨rfl,by simp⟩⟩,.nil _ _⟩,Below.refl _ _⟩
 case round =>
  obtain ⟨i,oa,oc,rfl,rfl,hik,him,HR⟩:=hrel
  by_cases hlt:i<m∧i<8
  ·obtain ⟨h1,h2⟩:=hlt
   obtain ⟨gr,or',ua,un,uc,er,r0,hints,r1,r2⟩:=((uh HA).below (uh HR).2).get (i:=i) (by rw [uh HM];exact h1)
   obtain ⟨q,hq⟩:∃ q,l.getD i ([],0,false)=q:=⟨_,rfl⟩
   have HTK:Hid ((l.take (i+1)).map (rowK n)=(l.take i).map (rowK n)++[rowK n q]):=by
    unfold Hid
    rw [←hq,List.take_succ_eq_append_getElem (by rw [uh HM];exact h1),List.getD_eq_getElem?_getD,List.getElem?_eq_getElem (by rw [uh HM];exact h1),List.map_append];rfl
   have HTL:Hid (((l.take i).map (rowK n)).length=i):=by unfold Hid;rw [List.length_map,List.length_take,uh HM];omega
   obtain ⟨L,hL⟩:∃ L,(l.take i).map (rowK n)=L:=⟨_,rfl⟩
   rw [hL] at HTK HTL HR
   rw [hq] at hints r1 r2
   obtain ⟨C,K,E⟩:=q
   simp only at hints r1 r2
   cases er
   have HRC:=hide (And.intro r0 (And.intro r1 r2))
   have HINT:=hide hints
   have HUN:Hid (un=C.length):=by
    obtain ⟨ad,cap,e,_⟩:=hints
    cases e;rfl
   clear hints hq hL r0
   go_wp2_with fail
   have y0:=cell_regrown r1
   have y1:=cell_regrown r2
   clear r1 r2
   refine wp_region_grown (phiL [(20,FreshC n wr),(7,FreshQ wr)]) (gL [(20,ShapeN n),(26,(·=.int .i64 (nearP K 1000000000000))),(7,ShapeP)]) 66 15 (by kernel_rfl) (by rfl) (by kernel_rfl) (phi_c (fun _ _ _=>FreshC.grow) (phi_c (fun _ _ _=>FreshQ.grow) phi_n)) ?_
   (refine lex_s fun K hK=>?_;go_simp;refine hK _ ?_;clear hK K)
   refine lex_grow (ShapeN n) (by rfl) (by rfl) ⟨_,0,rfl⟩ (fun wq hg hf=>⟨.slice (some ⟨wq.heap.size,0,none⟩) n n,wq.alloc (.cells (rowOf [] n).toArray 3),by go_simp,Grows.alloc _ _,⟨_,rfl⟩,fun t ht=>by cases ht;exact FreshC.new hg⟩) ?_
   rintro _ ⟨gc,rfl⟩
   simp only [Act.put,List.setIfInBounds_toArray,List.set_cons_succ,List.set_cons_zero]
   iterate 5 (refine lex_s fun K hK=>?_;go_simp;refine hK _ ?_;clear hK K)
   refine lex_call (·=.int .i64 (nearP K 1000000000000)) 7 #[.int .i64 K,.int .i64 1000000000000] (by rfl) (by rfl) ⟨_,rfl⟩ (fun w=>by go_simp) (fun wq hg hf=>(near_any K 1000000000000 wq (by decide) (by decide)).mono (by rintro e w' ⟨rfl,rfl⟩;exact ⟨_,rfl,Below.refl _ _,rfl,fun t ht=>by cases ht;exact True.intro⟩)) ?_
   rintro _ rfl
   simp only [Act.put,List.setIfInBounds_toArray,List.set_cons_succ,List.set_cons_zero]
   iterate 6 (refine lex_s fun K hK=>?_;go_simp;refine hK _ ?_;clear hK K)
   refine lex_grow ShapeP (by rfl) (by rfl) ShapeP.some (fun wq hg hf=>⟨.pointer (some ⟨wq.heap.size,0,none⟩),wq.alloc (.cells #[.slice none 0 0,.int .i64 0,.bool false] 61),by go_simp,Grows.alloc _ _,⟨_,rfl⟩,fun t ht=>by cases ht;exact FreshQ.new hg⟩) ?_
   rintro _ ⟨g7,rfl⟩
   simp only [Act.put,List.setIfInBounds_toArray,List.set_cons_succ,List.set_cons_zero]
   refine lex_last ?_
   intro w1 hg1 hphi
   have hc:FreshC n wr (.slice (some ⟨gc,0,none⟩) n n) w1:=hphi 1 _ 20 (by decide) rfl rfl
   have hq7:FreshQ wr (.pointer (some ⟨g7,0,none⟩)) w1:=hphi 14 _ 7 (by decide) rfl rfl
   clear hphi y0 y1
   obtain ⟨gc',ec,hc1,hc2⟩:=hc
   cases ec
   obtain ⟨g7',eq,hq1,hq2⟩:=hq7
   cases eq
   have hne:g7≠gc:=fun e=>by rw [e,hc2] at hq2;simp at hq2
   have q0:w1.cell? ⟨g7,0,none⟩=some (.slice none 0 0):=by rw [cellsOf hq2];rfl
   have q1:w1.cell? ⟨g7,1,none⟩=some (.int .i64 0):=by rw [cellsOf hq2];rfl
   have q2:w1.cell? ⟨g7,2,none⟩=some (.bool false):=by rw [cellsOf hq2];rfl
   have f0:=freeOf hq2 0
   have f1:=freeOf hq2 1
   have f2:=freeOf hq2 2
   have HQ7:Hid ((((w1.setCell ⟨g7,0,none⟩ (.slice (some ⟨gc,0,none⟩) n n)).setCell ⟨g7,1,none⟩ (.int .i64 (nearP K 1000000000000))).setCell ⟨g7,2,none⟩ (.bool E)).heap[g7]?=some (.cells #[.slice (some ⟨gc,0,none⟩) n n,.int .i64 (nearP K 1000000000000),.bool E] 61 (0,0))):=by
    have b1:=heap_setCell_same w1 g7 0 _ _ (.slice (some ⟨gc,0,none⟩) n n) hq2
    have b2:=heap_setCell_same _ g7 1 _ _ (.int .i64 (nearP K 1000000000000)) b1
    have b3:=heap_setCell_same _ g7 2 _ _ (.bool E) b2
    exact b3
   have HC7:Hid ((((w1.setCell ⟨g7,0,none⟩ (.slice (some ⟨gc,0,none⟩) n n)).setCell ⟨g7,1,none⟩ (.int .i64 (nearP K 1000000000000))).setCell ⟨g7,2,none⟩ (.bool E)).heap[gc]?=some (.cells (rowOf ((List.range 0).map (factK C)) n).toArray 3 (0,0))):=(Below.heap_setCell _ _ _ _ (Ne.symm hne)).trans ((Below.heap_setCell _ _ _ _ (Ne.symm hne)).trans ((Below.heap_setCell _ _ _ _ (Ne.symm hne)).trans hc2))
   have HG2:Hid (Grows wr (((w1.setCell ⟨g7,0,none⟩ (.slice (some ⟨gc,0,none⟩) n n)).setCell ⟨g7,1,none⟩ (.int .i64 (nearP K 1000000000000))).setCell ⟨g7,2,none⟩ (.bool E))):=((Below.setCell (p:=⟨g7,0,none⟩) hg1 hq1 _).setCell (p:=⟨g7,1,none⟩) hq1 _).setCell (p:=⟨g7,2,none⟩) hq1 _
   have HNE:=hide (And.intro hne (And.intro hc1 hq1))
   clear hc2 hq2 hg1 hne hc1 hq1
   go_wp2_with fail
   generalize hW2:((w1.setCell ⟨g7,0,none⟩ (.slice (some ⟨gc,0,none⟩) n n)).setCell ⟨g7,1,none⟩ (.int .i64 (nearP K 1000000000000))).setCell ⟨g7,2,none⟩ (.bool E)=W2 at *
   obtain ⟨wo,rfl⟩:∃ wo,wo=wr:=⟨_,rfl⟩
   obtain ⟨go',rfl⟩:∃ go',go'=gk:=⟨_,rfl⟩
   have HOO:=HR
   clear hW2 q0 q1 q2 f0 f1 f2 HR
   go_loopg [8] n (fun q kv wr2=>∃ (k:Nat),kv=.int .i64 k∧k+q=n∧k≤un∧Hid (wr2.heap[gc]?=some (.cells (rowOf ((List.range k).map (factK C)) n).toArray 3 (0,0))∧wr2.heap[g7]?=some (.cells #[.slice (some ⟨gc,0,none⟩) n n,.int .i64 (nearP K 1000000000000),.bool E] 61 (0,0))∧Grows wo wr2))
   case atStart=>exact ⟨0,rfl,by omega,by omega,uh HC7,uh HQ7,uh HG2⟩
   case round =>
    clear HC7 HQ7 HG2
    obtain ⟨k,rfl,hkq,hku,HR⟩:=hrel
    have r0:=(uh HR).2.2.cell (uh HRC).1
    by_cases hk:k<n∧k<un
    ·obtain ⟨k1,k2⟩:=hk
     obtain ⟨ad,cap,ei,hcell⟩:=(uh HINT).below (uh HR).2.2
     have hkC:k<C.length:=by rw [←uh HUN];exact k2
     cases ei
     obtain ⟨gcc,occ,eg,c0⟩:=hcell k hkC
     cases eg
     obtain ⟨c,hc⟩:∃ c,C.getD k 0=c:=⟨_,rfl⟩
     rw [hc] at c0
     have HCK:Hid (factK C k=nearP c 1000):=by unfold Hid factK;rw [if_pos hkC,hc]
     have b0:wr.cell? ⟨g7,0,none⟩=some (.slice (some ⟨gc,0,none⟩) n n):=by rw [cellsOf (uh HR).2.1];rfl
     have hkC':(k:Int)<(C.length:Int):=by omega
     clear hc hcell
     go_wp2_with fail
     have y0:=cell_regrown b0
     have y1:=cell_regrown r0
     have y2:=cell_regrown c0
     clear b0 r0 c0
     refine wp_region_grown (phiL []) (gL [(59,(·=.int .i64 (nearP c 1000)))]) 66 13 (by kernel_rfl) (by rfl) (by kernel_rfl) (phiL_grows (by simp)) ?_
     iterate 11 (refine lex_s fun K hK=>?_;go_simp;refine hK _ ?_;clear hK K)
     refine lex_call (·=.int .i64 (nearP c 1000)) 7 #[.int .i64 c,.int .i64 1000] (by rfl) (by rfl) ⟨_,rfl⟩ (fun w=>by go_simp) (fun wq hg hf=>(near_any c 1000 wq (by decide) (by decide)).mono (by rintro e w' ⟨rfl,rfl⟩;exact ⟨_,rfl,Below.refl _ _,rfl,fun t ht=>by cases ht;exact True.intro⟩)) ?_
     rintro _ rfl
     simp only [Act.put,List.setIfInBounds_toArray,List.set_cons_succ,List.set_cons_zero]
     (refine lex_s fun K hK=>?_;go_simp;refine hK _ ?_;clear hK K)
     refine lex_last ?_
     intro w3 hg3 _
     clear y0 y1 y2
     have hbk:=Below.same hg3 _ _ (uh HR).1
     have hlen:((List.range k).map (factK C)).length=k:=by simp
     obtain ⟨u,hu⟩:=cell_row hbk (k:=k) (by rw [hlen];omega) k1
     have hf:=freeOf hbk k
     have HNX:Hid ((w3.setCell ⟨gc,k,none⟩ (.int .i64 (nearP c 1000))).heap[gc]?=some (.cells (rowOf ((List.range (k+1)).map (factK C)) n).toArray 3 (0,0))):=by
      unfold Hid
      have h1:=heap_setCell_same w3 gc k _ _ (.int .i64 (nearP c 1000)) hbk
      have h2:=rowOf_set ((List.range k).map (factK C)) n (nearP c 1000) (by rw [hlen];exact k1)
      rw [hlen] at h2
      rw [h1,List.range_succ,List.map_append,List.map_cons,List.map_nil,uh HCK,←h2];rfl
     have HQX:Hid ((w3.setCell ⟨gc,k,none⟩ (.int .i64 (nearP c 1000))).heap[g7]?=some (.cells #[.slice (some ⟨gc,0,none⟩) n n,.int .i64 (nearP K 1000000000000),.bool E] 61 (0,0))):=(Below.heap_setCell _ _ _ _ (uh HNE).1).trans (Below.same hg3 _ _ (uh HR).2.1)
     have HGX:Hid (Grows wo (w3.setCell ⟨gc,k,none⟩ (.int .i64 (nearP c 1000)))):=Below.setCell (p:=⟨gc,k,none⟩) ((uh HR).2.2.trans hg3) (uh HNE).2.1 _
     clear hg3 hbk hlen
     go_wp2
     go_roundg (gk - 1)
     case measure=>omega
     case rel=>exact ⟨k+1,by simp,by omega,by omega,uh HNX,uh HQX,uh HGX⟩
    ·have HFULL:Hid (IntsOwn w.heap.size wr (.slice (some ⟨gc,0,none⟩) n n) (rowK n (C,K,E)).1):=by
      have h1:=(uh HR).1
      rw [row_end (by omega) (by rw [←uh HUN];omega)] at h1
      have hl:((List.range n).map (factK C)).length=n:=by simp
      refine own_of_block (s:=(List.range n).map (factK C)) ?_ hl (by have:=(uh HOO).2.size;have:=(uh HNE).2.1;omega) (by omega)
      have:=rowOf_full ((List.range n).map (factK C))
      rw [hl] at this
      rw [this];exact h1
     have b0:wr.cell? ⟨g7,0,none⟩=some (.slice (some ⟨gc,0,none⟩) n n):=by rw [cellsOf (uh HR).2.1];rfl
     have b1:wr.cell? ⟨g7,1,none⟩=some (.int .i64 (nearP K 1000000000000)):=by rw [cellsOf (uh HR).2.1];rfl
     have b2:wr.cell? ⟨g7,2,none⟩=some (.bool E):=by rw [cellsOf (uh HR).2.1];rfl
     have HO3:=hide ((uh HOO).1.grow (uh HR).2.2)
     have HG3:Hid (Grows w wr):=(uh HOO).2.trans (uh HR).2.2
     obtain ⟨xs,hx1,hx2⟩:=uh HO3
     rw [uh HTL] at hx1
     have HX2:=hide hx2
     have HOW:=hide (fun o=>hx1.alloc o)
     have hszr:=(uh HG3).size
     clear hx1 hx2
     by_cases hkn:k<n
     ·have hkc:¬ ((k:Int)<(un:Int)):=by omega
      clear hk
      go_wp2_with (at_builtin;refine wpList_append_lies _ rfl _ _ 39 rfl w.heap.size 61 i0 (.agg #[.slice none 0 0,.int .i64 0,.bool false]) 3 40 Try.underlying39 hi0 hz0 hz1 hz2 rfl (by decide) _ i xs rfl (uh HOW _) ⟨_,0,none⟩ 1 1 [.slice (some ⟨gc,0,none⟩) n n,.int .i64 (nearP K 1000000000000),.bool E] rfl rfl ?d1 (by simp [Value.oneCell']) (by decide) ?d2 ?d3 ?d4 _ rfl ?_)
      first | (case d1=>exact fun j u hu=>World.news_of_block (heap_alloc_new _ _) j u hu) | skip
      case d2=>unfold maxLen;omega
      case d3=>omega
      case d4=>first | omega | (simp;omega)
      ·intro g cap w4 hown4 hgrow4 hat4 hlt4
       have hgA:=Grows.alloc wr (.cells #[.slice (some ⟨gc,0,none⟩) n n,.int .i64 (nearP K 1000000000000),.bool E] 61)
       have kt:KeepT 3 (wr.alloc (.cells #[.slice (some ⟨gc,0,none⟩) n n,.int .i64 (nearP K 1000000000000),.bool E] 61)) w4:=KeepT.grown (uh HOW _) hgrow4 (by decide)
       have HO5:Hid (RwsOwn w.heap.size w4 (.slice (some ⟨g,0,none⟩) (i+1) cap) ((l.take (i+1)).map (rowK n))):=by
        unfold Hid
        rw [uh HTK]
        refine ⟨xs++[.slice (some ⟨gc,0,none⟩) n n,.int .i64 (nearP K 1000000000000),.bool E],?_,?_⟩
        ·rw [List.length_append,uh HTL];exact hown4
        ·exact (((uh HX2).grow hgA).keepT kt).snoc (q:=rowK n (C,K,E)) (own_keep (own_keep (uh HFULL) (.of_below hgA)) kt)
       have HG5:Hid (Grows w w4):=Below.trans ((uh HG3).trans hgA) (Below.grown (Below.refl _ _) hgrow4 (by rw [World.size_alloc];omega) (own_base (uh HOW (.cells #[.slice (some ⟨gc,0,none⟩) n n,.int .i64 (nearP K 1000000000000),.bool E] 61))))
       clear hown4 hgrow4 hat4 hlt4 hgA kt HOW HX2 HO3
       go_wp2
       go_roundg (go' - 1)
       case measure=>omega
       case rel=>exact ⟨i+1,_,_,rfl,by simp,by omega,by omega,uh HO5,uh HG5⟩
     ·have hkn':¬ ((k:Int)<(n:Int)):=by omega
      have hkn2:k=n:=by omega
      clear hk
      clear hkn2
      go_wp2_with (at_builtin;refine wpList_append_lies _ rfl _ _ 39 rfl w.heap.size 61 i0 (.agg #[.slice none 0 0,.int .i64 0,.bool false]) 3 40 Try.underlying39 hi0 hz0 hz1 hz2 rfl (by decide) _ i xs rfl (uh HOW _) ⟨_,0,none⟩ 1 1 [.slice (some ⟨gc,0,none⟩) n n,.int .i64 (nearP K 1000000000000),.bool E] rfl rfl ?d1 (by simp [Value.oneCell']) (by decide) ?d2 ?d3 ?d4 _ rfl ?_)
      first | (case d1=>exact fun j u hu=>World.news_of_block (heap_alloc_new _ _) j u hu) | skip
      case d2=>unfold maxLen;omega
      case d3=>omega
      case d4=>first | omega | (simp;omega)
      ·intro g cap w4 hown4 hgrow4 hat4 hlt4
       have hgA:=Grows.alloc wr (.cells #[.slice (some ⟨gc,0,none⟩) n n,.int .i64 (nearP K 1000000000000),.bool E] 61)
       have kt:KeepT 3 (wr.alloc (.cells #[.slice (some ⟨gc,0,none⟩) n n,.int .i64 (nearP K 1000000000000),.bool E] 61)) w4:=KeepT.grown (uh HOW _) hgrow4 (by decide)
       have HO5:Hid (RwsOwn w.heap.size w4 (.slice (some ⟨g,0,none⟩) (i+1) cap) ((l.take (i+1)).map (rowK n))):=by
        unfold Hid
        rw [uh HTK]
        refine ⟨xs++[.slice (some ⟨gc,0,none⟩) n n,.int .i64 (nearP K 1000000000000),.bool E],?_,?_⟩
        ·rw [List.length_append,uh HTL];exact hown4
        ·exact (((uh HX2).grow hgA).keepT kt).snoc (q:=rowK n (C,K,E)) (own_keep (own_keep (uh HFULL) (.of_below hgA)) kt)
       have HG5:Hid (Grows w w4):=Below.trans ((uh HG3).trans hgA) (Below.grown (Below.refl _ _) hgrow4 (by rw [World.size_alloc];omega) (own_base (uh HOW (.cells #[.slice (some ⟨gc,0,none⟩) n n,.int .i64 (nearP K 1000000000000),.bool E] 61))))
       clear hown4 hgrow4 hat4 hlt4 hgA kt HOW HX2 HO3
       go_wp2
       go_roundg (go' - 1)
       case measure=>omega
       case rel=>exact ⟨i+1,_,_,rfl,by simp,by omega,by omega,uh HO5,uh HG5⟩
  ·have HE:Hid (fairK n l=(l.take i).map (rowK n)):=by
    unfold Hid fairK
    have:l.take i=l.take 8:=by
     rcases (show i=8∨i=m by omega) with e|e
     ·rw [e]
     ·rw [e,←uh HM,List.take_length,List.take_of_length_le (by rw [uh HM];omega)]
    rw [this]
   by_cases hl1:i<m
   ·have hl2:¬ ((i:Int)<8):=by omega
    clear hlt
    go_wp2
    go_ret
    exact ⟨_,rfl,by rw [uh HE];exact (uh HR).1,(uh HR).2⟩
   ·clear hlt
    go_wp2
    go_ret
    exact ⟨_,rfl,by rw [uh HE];exact (uh HR).1,(uh HR).2⟩
end
def LessPost (a b:List Int) (w:World) (e:Ending) (w':World):Prop:=∃ r:Bool,e=.returned (.bool r)∧(r=true→lexLt a b)∧Below w.heap.size w w'
attribute [local go_sem] valUpon
set_option maxHeartbeats 1000000 in
theorem kless_any (a b:List Int) (va vb:Value) (w:World) (ha:IntsAt w va a) (hb:IntsAt w vb b) (hla:a.length≤maxLen) (hlb:b.length≤maxLen) :
  Calls Try.prog 21 #[va,vb] w (LessPost a b w):=by
 obtain ⟨aa,ac,rfl⟩:=ints_shape0 ha
 obtain ⟨ba,bc,rfl⟩:=ints_shape0 hb
 have HA:=hide ha
 have HB:=hide hb
 obtain ⟨n,hn⟩:∃ n,a.length=n:=⟨_,rfl⟩
 obtain ⟨m,hm⟩:∃ m,b.length=m:=⟨_,rfl⟩
 have HN:=hide hn
 have HM:=hide hm
 rw [hn] at HA hla ⊢
 rw [hm] at HB hlb ⊢
 unfold maxLen at hla hlb
 clear ha hb hn hm
 go_enter Try.func21,Try.ntmps21
 go_wp2_with fail
 go_loopg [5] n (fun k iv wr=>∃ (i:Nat),iv=.int .i64 i∧i+k=n∧i≤m∧Hid ((∀ j,j<i→a.getD j 0=b.getD j 0)∧Grows w wr))
 case atStart=>exact ⟨0,rfl,by omega,by omega,fun j hj=>absurd hj (Nat.not_lt_zero j),Below.refl _ _⟩
 case round =>
  obtain ⟨i,rfl,hik,him,HR⟩:=hrel
  by_cases hlt:i<n∧i<m
  ·obtain ⟨h1,h2⟩:=hlt
   obtain ⟨ga,oa,ea,p0⟩:=ints_get ((uh HA).below (uh HR).2) i (by rw [uh HN];exact h1)
   cases ea
   obtain ⟨gb,ob,eb,q0⟩:=ints_get ((uh HB).below (uh HR).2) i (by rw [uh HM];exact h2)
   cases eb
   obtain ⟨x,hx⟩:∃ x,a[i]'(by rw [uh HN];exact h1)=x:=⟨_,rfl⟩
   obtain ⟨y,hy⟩:∃ y,b[i]'(by rw [uh HM];exact h2)=y:=⟨_,rfl⟩
   rw [hx] at p0
   rw [hy] at q0
   have HX:Hid (a.getD i 0=x):=by unfold Hid;rw [←hx,List.getD_eq_getElem?_getD,List.getElem?_eq_getElem (by rw [uh HN];exact h1)];rfl
   have HY:Hid (b.getD i 0=y):=by unfold Hid;rw [←hy,List.getD_eq_getElem?_getD,List.getElem?_eq_getElem (by rw [uh HM];exact h2)];rfl
   have HPQ:=hide (And.intro p0 q0)
   clear hx hy
   by_cases hxy:x=y
   ·have HNX:Hid (∀ j,j<i+1→a.getD j 0=b.getD j 0):=fun j hj=>by
     by_cases e:j=i
     ·rw [e,uh HX,uh HY];exact hxy
     ·exact (uh HR).1 j (by omega)
    subst hxy
    go_wp2_with fail
    have y0:=cell_regrown p0
    have y1:=cell_regrown q0
    clear p0 q0
    refine wp_region_grown (phiL []) (gL []) 36 8 (by kernel_rfl) (by rfl) (by kernel_rfl) (phiL_grows (by simp)) ?_
    iterate 8 (refine lex_s fun K hK=>?_;go_simp;refine hK _ ?_;clear hK K)
    refine lex_last ?_
    intro w5 hg5 _
    clear y0 y1
    have HG5:Hid (Grows w w5):=(uh HR).2.trans hg5
    clear hg5
    go_wp2
    go_roundg (gk - 1)
    case measure=>omega
    case rel=>exact ⟨i+1,by simp,by omega,by omega,uh HNX,uh HG5⟩
   ·go_wp2_with fail
    have y0:=cell_regrown p0
    have y1:=cell_regrown q0
    clear p0 q0
    refine wp_region_grown (phiL []) (gL []) 36 8 (by kernel_rfl) (by rfl) (by kernel_rfl) (phiL_grows (by simp)) ?_
    iterate 8 (refine lex_s fun K hK=>?_;go_simp;refine hK _ ?_;clear hK K)
    refine lex_last ?_
    intro w5 hg5 _
    clear y0 y1
    have HG5:=hide hg5
    have p0:=hg5.cell (uh HPQ).1
    have q0:=hg5.cell (uh HPQ).2
    clear hg5
    go_wp2_with fail
    have y0:=cell_regrown p0
    have y1:=cell_regrown q0
    clear p0 q0
    refine wp_region_grown (phiL []) (gL []) 36 9 (by kernel_rfl) (by rfl) (by kernel_rfl) (phiL_grows (by simp)) ?_
    iterate 9 (refine lex_s fun K hK=>?_;go_simp;refine hK _ ?_;clear hK K)
    refine lex_last ?_
    intro w6 hg6 _
    clear y0 y1
    have HE:Hid (LessPost a b w (.returned (.bool (decide (x<y)))) w6):=⟨_,rfl,fun h=>⟨i,by rw [uh HN];exact h1,(uh HR).1,by rw [uh HX,uh HY];exact of_decide_eq_true h⟩,(uh HR).2.trans ((uh HG5).trans hg6)⟩
    clear hg6
    go_wp2
    exact bodyPost_ret (v:=.bool (decide (x<y))) (by simp [results,Try.results21,go_sem]) rfl (uh HE)
  ·by_cases h1:i<n
   ·have h2:¬ ((i:Int)<(m:Int)):=by omega
    clear hlt
    go_wp2
    exact bodyPost_ret (v:=.bool false) (by simp [results,Try.results21,go_sem]) rfl ⟨false,rfl,fun h=>(by cases h),(uh HR).2⟩
   ·have h2:¬ ((i:Int)<(n:Int)):=by omega
    clear hlt
    go_wp2
    exact bodyPost_ret (v:=.bool false) (by simp [results,Try.results21,go_sem]) rfl ⟨false,rfl,fun h=>(by cases h),(uh HR).2⟩
end Go.Proofs.Ytfaljekgpnbmiaa
