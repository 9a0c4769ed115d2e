/- Joined: XTrim4 XTrim5 XProd1. -/
import Derived.Test.YtfaljekgpnbmiaaJ34
set_option linter.unusedVariables false
set_option linter.unusedSimpArgs false
set_option maxRecDepth 100000
namespace Go.Proofs.Ytfaljekgpnbmiaa
open Go.RowKit Go.Sort
theorem turn_keepT {P:Nat→Prop} {w w':World} {b gl gc:Nat} {t:Pl.Tab} (h:TabOwn P w b gl gc t) (ht:Turns (Own3 b gl gc) w w') {e:TypeId} (h1:e≠147) (h2:e≠149) (h3:e≠3):KeepT e w w':=fun k cur hk=>(var_turn h ht hk h1 h2 h3).trans hk.symm
theorem RowX.holds {P:Nat→Prop} {w w':World} {xs:List Value} {l:List Int} (h:RowX P w xs l) (hg:Holds P w w'):RowX P w' xs l :=
 ⟨h.len,fun i hi=>by obtain ⟨x,a,m,c,h1,h2,h3⟩:=h.at_ i hi;exact ⟨x,a,m,c,h1,h2,h3.keepP hg.nums⟩⟩
theorem TabOwn.keepT {P:Nat→Prop} {w w':World} {b gl gc:Nat} {t:Pl.Tab} (h:TabOwn P w b gl gc t) (k1:KeepT 147 w w') (k2:KeepT 149 w w') (k3:KeepT 3 w w') (k4:KeepT 82 w w'):TabOwn P w' b gl gc t:=by
 obtain ⟨⟨lcap,ccap,sx,sa,sm,sc,h1,h2,cs,h3,h4,h5,h6,h7⟩,⟨cc,h8,h9⟩,h10⟩:=h
 refine ⟨⟨lcap,ccap,sx,sa,sm,sc,(k1 _ _ h1).trans h1,h2.keep k3,cs,(k2 _ _ h3).trans h3,h4,h5,h6,fun i hi=>?_⟩,⟨cc,(k3 _ _ h8).trans h8,h9⟩,h10⟩
 obtain ⟨u,e1,e2,e3⟩:=h7 i hi
 exact ⟨u,e1,e2,e3.keepT k4 k3⟩
def Pz (gc:Nat) (lv wv:Value) (k:Nat):Prop:=k≠gc∧lv.ownBlock≠some k∧wv.ownBlock≠some k
def Pw (gc:Nat) (wv:Value) (k:Nat):Prop:=k≠gc∧wv.ownBlock≠some k
theorem pw_grow {gc g H n c:Nat} {wv:Value} (hat:wv.ownBlock=some g∨g=H):∀ k,k<H→Pw gc wv k→Pw gc (.slice (some ⟨g,0,none⟩) n c) k:=fun k hk ⟨h1,h3⟩=>⟨h1,fun e=>by
 have e':g=k:=by simpa [Value.ownBlock] using e
 rcases hat with h|h
 ·exact h3 (by rw [h,e'])
 ·omega⟩
theorem tab_gc {gc b gl:Nat} {wv:Value} {w:World} {t:Pl.Tab} (h:TabOwn (Pw gc wv) w b gl gc t):TabOwn (·≠gc) w b gl gc t:=h.mono (fun k _ hk=>hk.1) (fun h=>h rfl)
structure TrimAt (r:RegL) (L gc B:Nat) (w0:World) (B1:Nat) (w:World) (b i:Nat) (D:List Nat) (U:List Int) (N:Nat) (t:Pl.Tab) (gl:Nat) (ks zs:List (List Int)) (ws:List Int) (za:Option Addr) (zn zc:Nat) (la:Option Addr) (ln lc:Nat) (ta:Option Addr) (tn tc:Nat) (lv wv:Value):Prop where
 own:w.heap[w0.heap.size]?=some (.cells #[.int .i64 r.size,.slice za zn zc,.slice la ln lc,.slice ta tn tc] 78 (0,0))
 res:w.heap[w0.heap.size+1]?=some (.cells #[.int .i64 0,.slice none 0 0,.slice none 0 0,.slice none 0 0] 78 (0,0))
 zero:RowsAt (Pz gc lv wv) w (.slice za zn zc) (r.zero++zs)
 hold:Holds (·≠gc) w0 w
 tab:TabOwn (Pw gc wv) w b gl gc t
 rt:RegTab r D U N t
 kept:∃ xs,w.ownsRow B1 73 1 lv ks.length xs∧RowsX (·≠gc) w0 xs ks
 wide:NumsOwn (·≠gc) B1 w wv ws
 tri:TrimI r L i D ks zs ws
 below:Below B w0 w
 glB:B≤gl
 b1:B1≤w.heap.size
section
variable {r:RegL} {L gc B B1 b i N gl:Nat} {w0 w w':World} {D:List Nat} {U:List Int} {t:Pl.Tab} {ks zs:List (List Int)} {ws:List Int} {za la ta:Option Addr} {zn zc ln lc tn tc:Nat} {lv wv:Value}
theorem TrimAt.grow (h:TrimAt r L gc B w0 B1 w b i D U N t gl ks zs ws za zn zc la ln lc ta tn tc lv wv) (hg:Grows w w') (hB:B≤w.heap.size):TrimAt r L gc B w0 B1 w' b i D U N t gl ks zs ws za zn zc la ln lc ta tn tc lv wv:=by
 obtain ⟨xs,k1,k2⟩:=h.kept
 exact ⟨Below.same hg _ _ h.own,Below.same hg _ _ h.res,h.zero.below hg,h.hold.trans (.of_below hg),h.tab.grow hg,h.rt,⟨xs,own_keep k1 (.of_below hg),k2⟩,h.wide.grow hg,h.tri,h.below.trans (Below.mono hg hB),h.glB,Nat.le_trans h.b1 hg.size⟩
theorem TrimAt.turn (h:TrimAt r L gc B w0 B1 w b i D U N t gl ks zs ws za zn zc la ln lc ta tn tc lv wv) (ht:Turns (Own3 b gl gc) w w') {D':List Nat} {U':List Int} {N':Nat} {t':Pl.Tab} {gl' i':Nat} (hT:TabOwn (Pw gc wv) w' b gl' gc t') (hgl:gl'=gl∨w.heap.size≤gl') (hR:RegTab r D' U' N' t') (htri:TrimI r L i' D' ks zs ws) (hB:B≤b∧B≤gc∧B≤w.heap.size):TrimAt r L gc B w0 B1 w' b i' D' U' N' t' gl' ks zs ws za zn zc la ln lc ta tn tc lv wv:=by
 obtain ⟨xs,k1,k2⟩:=h.kept
 obtain ⟨ys,n1,n2⟩:=h.wide
 have hh:=turn_holds (tab_gc h.tab) ht
 have hz:Holds (Pz gc lv wv) w w':=fun k cs T hT hk hc=>hh k cs T hT hk.1 hc
 refine ⟨var_turn h.tab ht h.own (by decide) (by decide) (by decide),var_turn h.tab ht h.res (by decide) (by decide) (by decide),h.zero.holds hz,h.hold.trans hh,hT,hR,⟨xs,own_keep k1 (turn_keepT h.tab ht (by decide) (by decide) (by decide)),k2⟩,⟨ys,own_keep n1 (turn_keepT h.tab ht (by decide) (by decide) (by decide)),n2.holds hh⟩,htri,h.below.trans (ht.below (fun k hk=>?_) hB.2.2),?_,Nat.le_trans h.b1 ht.size⟩
 ·have:=h.glB
  rcases hk with e|e|e <;> omega
 ·have:=h.glB
  rcases hgl with e|e <;> omega
theorem TrimAt.setZero (h:TrimAt r L gc B w0 B1 w b i D U N t gl ks zs ws za zn zc la ln lc ta tn tc lv wv) (hB:B≤w0.heap.size) {za':Option Addr} {zn' zc' i':Nat} {row:List Int} (hz:RowsAt (Pz gc lv wv) w (.slice za' zn' zc') (r.zero++(zs++[row]))) (htri:TrimI r L i' D ks (zs++[row]) ws):TrimAt r L gc B w0 B1 (w.setCell ⟨w0.heap.size,1,none⟩ (.slice za' zn' zc')) b i' D U N t gl ks (zs++[row]) ws za' zn' zc' la ln lc ta tn tc lv wv:=by
 obtain ⟨xs,k1,k2⟩:=h.kept
 obtain ⟨ys,n1,n2⟩:=h.wide
 have hb:=h.own
 have hs:∀ P:Nat→Prop,Holds P w (w.setCell ⟨w0.heap.size,1,none⟩ (.slice za' zn' zc')):=fun P=>holds_set hb (by decide) (fun e=>absurd e (by decide)) _ _
 obtain ⟨⟨lcap,ccap,sx,sa,sm,sc,t1,t2,c1,t3,t4⟩,⟨cc,t8,t9⟩,t10⟩:=h.tab
 have ne1:b≠w0.heap.size:=fun e=>by rw [e,hb] at t1;simp at t1
 have ne2:gl≠w0.heap.size:=fun e=>by rw [e,hb] at t3;simp at t3
 have ne3:gc≠w0.heap.size:=fun e=>by rw [e,hb] at t8;simp at t8
 refine ⟨?_,?_,hz.holds (hs _),h.hold.trans (hs _),h.tab.holds (hs _) (Below.heap_setCell _ _ _ _ ne1) (Below.heap_setCell _ _ _ _ ne2) (Below.heap_setCell _ _ _ _ ne3),h.rt,⟨xs,own_keep k1 (KeepT.setCell hb (by decide) _ _),k2⟩,⟨ys,own_keep n1 (KeepT.setCell hb (by decide) _ _),n2.holds (hs _)⟩,htri,Below.setCell (p:=⟨w0.heap.size,1,none⟩) h.below hB _,h.glB,by simpa using h.b1⟩
 ·have:=heap_setCell_same w w0.heap.size 1 _ _ (.slice za' zn' zc') hb
  exact this
 ·exact (Below.heap_setCell _ _ _ _ (show w0.heap.size+1≠w0.heap.size by omega)).trans h.res
theorem pz_grow {gc g H n c:Nat} {lv wv:Value} (hat:lv.ownBlock=some g∨g=H):∀ k,k<H→Pz gc lv wv k→Pz gc (.slice (some ⟨g,0,none⟩) n c) wv k:=fun k hk ⟨h1,h2,h3⟩=>⟨h1,fun e=>by
 have e':g=k:=by simpa [Value.ownBlock] using e
 rcases hat with h|h
 ·exact h2 (by rw [h,e'])
 ·omega,h3⟩
theorem pz_grow2 {gc g H n c:Nat} {lv wv:Value} (hat:wv.ownBlock=some g∨g=H):∀ k,k<H→Pz gc lv wv k→Pz gc lv (.slice (some ⟨g,0,none⟩) n c) k:=fun k hk ⟨h1,h2,h3⟩=>⟨h1,h2,fun e=>by
 have e':g=k:=by simpa [Value.ownBlock] using e
 rcases hat with h|h
 ·exact h3 (by rw [h,e'])
 ·omega⟩
theorem TrimAt.addK (h:TrimAt r L gc B w0 B1 w b i D U N t gl ks zs ws za zn zc la ln lc ta tn tc lv wv) (hB:B≤B1) (hw:w0.heap.size+1<B1) (hgc:gc<B1∧b<B1) {g cap:Nat} {xs:List Value} {u:Value} {row:List Int} (hown:w.ownsRow B1 73 1 lv ks.length xs) (hX:RowsX (·≠gc) w0 xs ks) (hg:w.grownBy w' lv.ownBlock) (hat:lv.ownBlock=some g∨g=w.heap.size) (ho:w'.ownsRow B1 73 1 (.slice (some ⟨g,0,none⟩) (ks.length+1) cap) (ks.length+1) (xs++[u])) (hu:RowAt (·≠gc) w0 u row) :
  (∃ ys,w'.ownsRow B1 73 1 (.slice (some ⟨g,0,none⟩) (ks.length+1) cap) (ks++[row]).length ys∧RowsX (·≠gc) w0 ys (ks++[row]))∧RowsAt (Pz gc (.slice (some ⟨g,0,none⟩) (ks.length+1) cap) wv) w' (.slice za zn zc) (r.zero++zs)∧NumsOwn (·≠gc) B1 w' wv ws∧Holds (·≠gc) w0 w'∧TabOwn (Pw gc wv) w' b gl gc t∧Below B w0 w'∧(∀ k,k<B1→w'.heap[k]?=w.heap[k]?)∧B1≤w'.heap.size:=by
 have kt:∀ e:TypeId,73≠e→KeepT e w w':=fun e he=>KeepT.grown hown hg he
 have hlow:∀ k,k<B1→w'.heap[k]?=w.heap[k]?:=fun k hk=>hg.block k (by have:=h.b1;omega) (fun e=>by have:=own_base hown k e.symm;omega)
 obtain ⟨ys,n1,n2⟩:=h.wide
 have hold':Holds (·≠gc) w0 w':=fun k cs T hT hk hc=>by
  have h1:=h.hold k cs T hT hk hc
  rw [←h1];exact hlow k (by have:=lt_of_block hc;omega)
 refine ⟨⟨xs++[u],by rw [List.length_append];exact ho,hX.snoc hu⟩,?_,⟨ys,own_keep n1 (kt _ (by decide)),n2.keepT (kt _ (by decide))⟩,hold',?_,Below.grown h.below hg (Nat.le_trans hB h.b1) (fun k hk=>Nat.le_trans hB (own_base hown k hk)),hlow,Nat.le_trans h.b1 hg.size⟩
 ·have h1:=h.zero.mono (P':=fun k=>Pz gc lv wv k∧Pz gc (.slice (some ⟨g,0,none⟩) (ks.length+1) cap) wv k) (fun k hk hp=>⟨hp,pz_grow hat k hk hp⟩)
  exact (h1.holds fun k cs T hT hk hc=>hg.block k (lt_of_block hc) (fun e=>hk.1.2.1 e.symm)).mono (fun k _ hp=>hp.2)
 ·exact h.tab.keepT (kt _ (by decide)) (kt _ (by decide)) (kt _ (by decide)) (kt _ (by decide))
theorem TrimAt.addW {w2:World} (hz:RowsAt (Pz gc lv wv) w (.slice za zn zc) (r.zero++zs)) (hkept:∃ xs,w.ownsRow B1 73 1 lv ks.length xs∧RowsX (·≠gc) w0 xs ks) (hold:Holds (·≠gc) w0 w) (htab:TabOwn (Pw gc wv) w b gl gc t) (hbel:Below B w0 w) (hb1:B1≤w.heap.size) (hB:B≤B1) (hw:w0.heap.size+1<B1) {g cap:Nat} {ys:List Value} {y:Int} {ua:Option Addr} {um uc:Nat} {v:Int} (hown:w.ownsRow B1 82 2 wv ws.length ys) (hX:RowX (·≠gc) w ys ws) (hg:w.grownBy w2 wv.ownBlock) (hat:wv.ownBlock=some g∨g=w.heap.size) (ho:w2.ownsRow B1 82 2 (.slice (some ⟨g,0,none⟩) (ws.length+1) cap) (ws.length+1) (ys++[.int .i64 y,.slice ua um uc])) (hu:WhAt (·≠gc) w (.agg #[.int .i64 y,.slice ua um uc]) v) :
  NumsOwn (·≠gc) B1 w2 (.slice (some ⟨g,0,none⟩) (ws.length+1) cap) (ws++[v])∧RowsAt (Pz gc lv (.slice (some ⟨g,0,none⟩) (ws.length+1) cap)) w2 (.slice za zn zc) (r.zero++zs)∧(∃ xs,w2.ownsRow B1 73 1 lv ks.length xs∧RowsX (·≠gc) w0 xs ks)∧Holds (·≠gc) w0 w2∧TabOwn (Pw gc (.slice (some ⟨g,0,none⟩) (ws.length+1) cap)) w2 b gl gc t∧Below B w0 w2∧(∀ k,k<B1→w2.heap[k]?=w.heap[k]?)∧B1≤w2.heap.size:=by
 have kt:∀ e:TypeId,82≠e→KeepT e w w2:=fun e he=>KeepT.grown hown hg he
 have hlow:∀ k,k<B1→w2.heap[k]?=w.heap[k]?:=fun k hk=>hg.block k (by omega) (fun e=>by have:=own_base hown k e.symm;omega)
 obtain ⟨xs,n1,n2⟩:=hkept
 have hold':Holds (·≠gc) w0 w2:=fun k cs T hT hk hc=>by
  have h1:=hold k cs T hT hk hc
  rw [←h1];exact hlow k (by have:=lt_of_block hc;omega)
 refine ⟨⟨ys++[.int .i64 y,.slice ua um uc],by rw [List.length_append];exact ho,(hX.keepT (kt _ (by decide))).snoc (hu.keep (kt _ (by decide)))⟩,?_,⟨xs,own_keep n1 (kt _ (by decide)),n2⟩,hold',?_,Below.grown hbel hg (Nat.le_trans hB hb1) (fun k hk=>Nat.le_trans hB (own_base hown k hk)),hlow,Nat.le_trans hb1 hg.size⟩
 ·have h1:=hz.mono (P':=fun k=>Pz gc lv wv k∧Pz gc lv (.slice (some ⟨g,0,none⟩) (ws.length+1) cap) k) (fun k hk hp=>⟨hp,pz_grow2 hat k hk hp⟩)
  exact (h1.holds fun k cs T hT hk hc=>hg.block k (lt_of_block hc) (fun e=>hk.1.2.2 e.symm)).mono (fun k _ hp=>hp.2)
 ·have h1:=htab.mono (P':=fun k=>Pw gc wv k∧Pw gc (.slice (some ⟨g,0,none⟩) (ws.length+1) cap) k) (fun k hk hp=>⟨hp,pw_grow hat k hk hp⟩) (fun h=>h.1.1 rfl)
  obtain ⟨⟨lcap,ccap,sx,sa,sm,sc,t1,_,c1,t3,_⟩,⟨cc,t8,_⟩,_⟩:=htab
  exact (h1.holds (fun k cs T hT hk hc=>hg.block k (lt_of_block hc) (fun e=>hk.1.2 e.symm)) (kt _ (by decide) _ _ t1) (kt _ (by decide) _ _ t3) (kt _ (by decide) _ _ t8)).mono (fun k _ hp=>hp.2) (fun h=>h.1 rfl)
end
theorem own_ne {w:World} {B1:Nat} {e:TypeId} {s n k:Nat} {v:Value} {xs:List Value} (h:w.ownsRow B1 e s v n xs) (hk:k<B1):v.ownBlock≠some k:=fun e=>by have:=own_base h k e;omega
theorem row_pw {w w':World} {gc B1 n:Nat} {u wv:Value} {row:List Int} {ws:List Int} (h:RowAt (·≠gc) w u row) (hh:Holds (·≠gc) w w') (hn:NumsOwn (·≠gc) B1 w' wv ws) (hB:w.heap.size≤B1):RowAt (Pw gc wv) w' u row:=by
 obtain ⟨xs,h1,_⟩:=hn
 exact (h.mono (P':=Pw gc wv) (fun k hk hp=>⟨hp,own_ne h1 (by omega)⟩)).holds (fun k cs T hT hk hc=>hh k cs T hT hk.1 hc)
theorem reg_store_b {P:Nat→Prop} {B:Nat} {w0 w:World} (hg:Below B w0 w) {g:Nat} (hge:B≤g) {cs:Array Value} (hb:w.heap[g]?=some (.cells cs 78 (0,0))) (n:Int) (a1:Option Addr) (m1 c1:Nat) (a2:Option Addr) (m2 c2:Nat) (a3:Option Addr) (m3 c3:Nat) :
  Below B w0 ((((w.setCell ⟨g,0,none⟩ (.int .i64 n)).setCell ⟨g,1,none⟩ (.slice a1 m1 c1)).setCell ⟨g,2,none⟩ (.slice a2 m2 c2)).setCell ⟨g,3,none⟩ (.slice a3 m3 c3))∧Holds P w ((((w.setCell ⟨g,0,none⟩ (.int .i64 n)).setCell ⟨g,1,none⟩ (.slice a1 m1 c1)).setCell ⟨g,2,none⟩ (.slice a2 m2 c2)).setCell ⟨g,3,none⟩ (.slice a3 m3 c3)):=by
 refine ⟨(((Below.setCell (p:=⟨g,0,none⟩) hg hge _).setCell (p:=⟨g,1,none⟩) hge _).setCell (p:=⟨g,2,none⟩) hge _).setCell (p:=⟨g,3,none⟩) hge _,?_⟩
 have b1:=heap_setCell_same w g 0 _ _ (.int .i64 n) hb
 have b2:=heap_setCell_same _ g 1 _ _ (.slice a1 m1 c1) b1
 have b3:=heap_setCell_same _ g 2 _ _ (.slice a2 m2 c2) b2
 exact (((holds_set hb (by decide) (fun e=>absurd e (by decide)) _ _).trans (holds_set b1 (by decide) (fun e=>absurd e (by decide)) _ _)).trans (holds_set b2 (by decide) (fun e=>absurd e (by decide)) _ _)).trans (holds_set b3 (by decide) (fun e=>absurd e (by decide)) _ _)
section
attribute [local go_sem] valUpon
set_option maxHeartbeats 4000000 in
theorem trimmedReg_any (r:RegL) (L b gl gc B:Nat) (t:Pl.Tab) (vr:Value) (w:World) (h:RegAt (·≠gc) w vr r) (hf:RegFit L r) (hT:TabOwn (·≠gc) w b gl gc t) (hRT:RegTab r [] (Pl.allNames r.size r.least.length) r.least.length t) (hB:B≤b∧B≤gl∧B≤gc) (hK:2*((r.size+1)*L+1)+1≤1500000000000) :
  Calls Try.prog 86 #[vr,.pointer (some ⟨b,0,none⟩)] w fun e w'=>∃ (v1 v2:Value) (ks zs:List (List Int)) (ws:List Int),e=.returned (.tuple #[v1,v2])∧ShapeR v1∧RegAt PT w' v1 (r.trim ks zs)∧RowAt PT w' v2 ws∧Below B w w'∧TrimP r L ks zs ws:=by
 obtain ⟨i0,hi0,hz0,hz1,hz2⟩:=info_parts Try.infoWhole
 obtain ⟨i1,hi1,hy0,hy1,hy2⟩:=info_parts Try.infoRow
 obtain ⟨vz,vl,vt,rfl,h1,h2,h3⟩:=h
 obtain ⟨za,zn,zc,rfl⟩:=h1.shapeS
 obtain ⟨la,ln,lc,rfl⟩:=h2.shapeS
 obtain ⟨ta,tn,tc,rfl⟩:=h3.shapeS
 have hgcw:=hT.lt.2.2.1
 have hbw:=hT.lt.1
 have hglw:=hT.lt.2.1
 have HLN:Hid (ln=r.least.length):=h2.len
 obtain ⟨W,hW⟩:∃ W,(w.alloc (.cells #[.int .i64 r.size,.slice za zn zc,.slice la ln lc,.slice ta tn tc] 78)).alloc (.cells #[.int .i64 0,.slice none 0 0,.slice none 0 0,.slice none 0 0] 78)=W:=⟨_,rfl⟩
 have hgW:Grows w W:=by rw [←hW];exact Grows.trans (Grows.alloc _ _) (Grows.alloc _ _)
 have hWs:W.heap.size=w.heap.size+2:=by rw [←hW];simp
 have HS:Hid (TrimAt r L gc B w (w.heap.size+2) W b 0 [] (Pl.allNames r.size r.least.length) r.least.length t gl [] [] [] za zn zc la ln lc ta tn tc (.slice none 0 0) (.slice none 0 0)):=by
  have hno:∀ k,(Value.slice none 0 0).ownBlock≠some k:=fun k e=>by simp [Value.ownBlock] at e
  refine ⟨?_,?_,?_,.of_below hgW,(hT.mono (P':=Pw gc (.slice none 0 0)) (fun k _ hk=>⟨hk,hno k⟩) (fun h=>h.1 rfl)).grow hgW,hRT,⟨[],⟨rfl,.inl ⟨rfl,rfl⟩⟩,.nil _ _⟩,.nil _ _ _,.start r L [],Below.mono hgW (by omega),hB.2.1,by omega⟩
  ·rw [←hW];exact Below.same (Grows.alloc _ _) _ _ (slot_one w _)
  ·have:=slot_one (w.alloc (.cells #[.int .i64 r.size,.slice za zn zc,.slice la ln lc,.slice ta tn tc] 78)) (.cells #[.int .i64 0,.slice none 0 0,.slice none 0 0,.slice none 0 0] 78)
   rw [World.size_alloc] at this
   rw [←hW];exact this
  ·rw [List.append_nil]
   exact (h1.mono (P':=Pz gc (.slice none 0 0) (.slice none 0 0)) (fun k _ hk=>⟨hk,hno k,hno k⟩)).below hgW
 have HL2:=hide h2
 have HT3:=hide h3
 have hln:ln≤800:=by have h4:=hf.few;have h5:=h2.len;omega
 clear h1 h2 h3 hT hRT hgW hWs
 go_enter Try.func86,Try.ntmps86
 go_wp2_with fail
 try rw [hW]
 clear hW
 go_loopg [6,7,8] ln (fun q lvv wvv iv wr=>∃ (i:Nat) (D:List Nat) (U:List Int) (N:Nat) (t:Pl.Tab) (gl:Nat) (ks zs:List (List Int)) (ws:List Int) (za:Option Addr) (zn zc:Nat) (sa:Option Addr) (sn sc:Nat) (va:Option Addr) (vn vc:Nat),lvv=.slice sa sn sc∧wvv=.slice va vn vc∧iv=.int .i64 i∧i+q=ln∧Hid (TrimAt r L gc B w (w.heap.size+2) wr b i D U N t gl ks zs ws za zn zc la ln lc ta tn tc (.slice sa sn sc) (.slice va vn vc)))
 case atStart=>exact ⟨0,[],_,_,t,gl,[],[],[],za,zn,zc,none,0,0,none,0,0,rfl,rfl,rfl,by omega,uh HS⟩
 case round =>
  clear HS
  obtain ⟨i,D,U,N,t,gl,ks,zs,ws,za,zn,zc,sa,sn,sc,va,vn,vc,rfl,rfl,rfl,hiq,HR⟩:=hrel
  have hown:=(uh HR).own
  have k0:wr.cell? ⟨w.heap.size,0,none⟩=some (.int .i64 r.size):=by rw [cellsOf hown];rfl
  have k1:wr.cell? ⟨w.heap.size,1,none⟩=some (.slice za zn zc):=by rw [cellsOf hown];rfl
  have k2:wr.cell? ⟨w.heap.size,2,none⟩=some (.slice la ln lc):=by rw [cellsOf hown];rfl
  have k3:wr.cell? ⟨w.heap.size,3,none⟩=some (.slice ta tn tc):=by rw [cellsOf hown];rfl
  have kf:∀ o,wr.frozen? ⟨w.heap.size,o,none⟩=false:=fun o=>freeOf hown o
  have hszr:w.heap.size+2≤wr.heap.size:=(uh HR).b1
  clear hown
  by_cases hlt:i<ln
  ·have hil:i<r.least.length:=by rw [←uh HLN];exact hlt
   obtain ⟨ad,cap,el,_,hall⟩:=uh HL2
   obtain ⟨gq,oq,u,ead,uc0,hur,hpq,csq,hcsq⟩:=hall i hil
   cases el
   cases ead
   have u0:wr.cell? ⟨gq,oq+i,none⟩=some u:=by
    have h1:=(uh HR).hold gq csq _ (.inr (.inr rfl)) hpq hcsq
    rw [World.cell?_of_block h1];exact uc0
   have erow:r.least[i]=r.least.getD i []:=by rw [List.getD_eq_getElem?_getD,List.getElem?_eq_getElem hil];rfl
   rw [erow] at hur
   have HUR:=hide hur
   obtain ⟨ua,un,uc,rfl⟩:=hur.shapeS
   have HRL:Hid ((r.least.getD i []).length=r.size+1∧∀ k,Pl.Lt L ((r.least.getD i []).getD k 0)):=⟨hf.ok.leastL _ (least_mem hil),hf.lt.least i⟩
   have HPW:=hide (row_pw (n:=0) (uh HUR) (uh HR).hold (uh HR).wide (by omega))
   have hPr:∀ b',wr.heap.size≤b'→Pw gc (.slice va vn vc) b':=fun b' hb'=>⟨by omega,fun e=>by
    obtain ⟨ys,n1,_⟩:=(uh HR).wide
    have:=(n1.lt b' e).2;omega⟩
   have HLO:=hide (lowest_reg (Pw gc (.slice va vn vc)) hf (uh HR).rt _ wr hPr (uh HR).tab (uh HPW) (uh HRL).1 (uh HRL).2 hK)
   have HPQ:=hide (And.intro hpq (And.intro hcsq uc0))
   clear hall uc0 hur hpq hcsq erow hPr
   have hineg:¬ ((i:Int)<0):=by omega
   go_wp2_with fail
   refine (uh HLO).mono ?_
   rintro e w1 ⟨v1,gl1,t1,rfl,hT1,hgl1,hU1,hv1,hTop1,hRT1,hlt1⟩
   obtain ⟨lx,lb,lm,ld,rfl⟩:=hv1.shape
   have hBw:B≤b∧B≤gc∧B≤wr.heap.size:=⟨hB.1,hB.2.2,by omega⟩
   have HSZ1:Hid (wr.heap.size≤w1.heap.size):=hU1.size
   have HR1:=hide (((uh HR).turn hU1 hT1 hgl1 hRT1 (uh HR).tri hBw).grow (Grows.alloc w1 (.cells #[.int .i64 lx,.slice lb lm ld] 82)) (by have:=hU1.size;omega))
   have HV1:=hide (var_new hv1)
   have HTP1:=hide hTop1
   have q0:=(uh HV1).cells.1
   have q1:=(uh HV1).cells.2.1
   clear hT1 hU1 hv1 hTop1 hRT1 hlt1 HLO hgl1
   go_wp2_with fail
   refine (Sign_any _ _ _ _ (uh HV1).val).mono ?_
   rintro e w2 ⟨rfl,hw2⟩
   have hs1:wr.heap.size≤w2.heap.size:=by have h1:=uh HSZ1;have h2:=hw2.size;simp at h2;omega
   have HR2:=hide ((uh HR1).grow hw2 (by have h1:=uh HSZ1;simp;omega))
   have HGW:Hid (Below B w w2):=(uh HR2).below
   clear hw2 HR1 HV1 q0 q1 k0 k1 k2 k3 kf u0
   have hown:=(uh HR2).own
   have k1:w2.cell? ⟨w.heap.size,1,none⟩=some (.slice za zn zc):=by rw [cellsOf hown];rfl
   have k2:w2.cell? ⟨w.heap.size,2,none⟩=some (.slice (some ⟨gq,oq,none⟩) r.least.length lc):=by rw [cellsOf hown];rfl
   have u0:w2.cell? ⟨gq,oq+i,none⟩=some (.slice ua un uc):=by
    have h1:=(uh HR2).hold gq csq _ (.inr (.inr rfl)) (uh HPQ).1 (uh HPQ).2.1
    rw [World.cell?_of_block h1];exact (uh HPQ).2.2
   clear hown
   by_cases hpos:0 < -Int.fdiv (t1.cell N 0) t1.scale
   ·rw [Int.sign_eq_one_of_pos hpos]
    have HDR:=hide ((uh HR2).rt.drop hf hil (low_pos (uh HR).rt hil (uh HTP1) hpos))
    have HDC:=hide (Drop_any (Pw gc (.slice va vn vc)) b gl1 gc t1.cut (i:Int) w2 (uh HR2).tab (by have h1:=(uh HR2).rt.good.len;have h2:=(uh HR2).rt.small;omega) (uh HDR).2)
    clear hpos
    go_wp2_with fail
    refine (uh HDC).mono ?_
    rintro e w3 ⟨gl3,rfl,hT3,hgl3,hU3⟩
    have HR3:=hide ((uh HR2).turn hU3 hT3 (.inr hgl3) (uh HDR).1 (uh HR).tri.drop ⟨hB.1,hB.2.2,by omega⟩)
    clear hT3 hgl3 hU3 HDC
    go_wp2
    go_roundg (gk - 1)
    case measure=>omega
    case rel=>exact ⟨i+1,_,_,_,_,gl3,ks,zs,ws,za,zn,zc,sa,sn,sc,va,vn,vc,rfl,rfl,by simp,by omega,uh HR3⟩
   ·obtain ⟨sg,hsg⟩:∃ sg,Int.sign (-Int.fdiv (t1.cell N 0) t1.scale)=sg:=⟨_,rfl⟩
    have d0:¬ (0<sg):=by
     rw [←hsg]
     rcases (show -Int.fdiv (t1.cell N 0) t1.scale<0∨-Int.fdiv (t1.cell N 0) t1.scale=0 by omega) with h|h
     ·rw [Int.sign_eq_neg_one_of_neg h];decide
     ·rw [h];decide
    have d1:decide (0<sg)=false:=decide_eq_false d0
    rw [hsg]
    have HPW2:=hide (row_pw (n:=0) (uh HUR) (uh HR2).hold (uh HR2).wide (by omega))
    have hP2:∀ b',w2.heap.size≤b'→Pw gc (.slice va vn vc) b':=fun b' hb'=>⟨by omega,fun e=>by
     obtain ⟨ys,n1,_⟩:=(uh HR2).wide
     have:=(n1.lt b' e).2;omega⟩
    have HHI:=hide (highest_reg (Pw gc (.slice va vn vc)) hf (uh HR2).rt _ w2 hP2 (uh HR2).tab (uh HPW2) (uh HRL).1 (uh HRL).2 hK)
    clear hsg hpos hP2
    go_wp2_with fail
    refine (uh HHI).mono ?_
    rintro e w4 ⟨v4,gl4,t4,rfl,hT4,hgl4,hU4,hv4,hTop4,hRT4,hlt4⟩
    obtain ⟨hx,hb,hm,hd,rfl⟩:=hv4.shape
    have HSZ4:Hid (w2.heap.size≤w4.heap.size):=hU4.size
    have HR4:=hide (((uh HR2).turn hU4 hT4 hgl4 hRT4 (uh HR).tri ⟨hB.1,hB.2.2,by omega⟩).grow (Grows.alloc w4 (.cells #[.int .i64 hx,.slice hb hm hd] 82)) (by have:=hU4.size;omega))
    have HV4:=hide (var_new hv4)
    have HTP4:=hide hTop4
    have HL4:=hide hlt4
    have HNN:=hide (high_nonneg (uh HR2).rt hil hTop4)
    have q0:=(uh HV4).cells.1
    have q1:=(uh HV4).cells.2.1
    clear hT4 hU4 hv4 hTop4 hRT4 hlt4 HHI hgl4 k1 k2 u0
    go_wp2_with fail
    refine (Sign_any _ _ _ _ (uh HV4).val).mono ?_
    rintro e w5 ⟨rfl,hw5⟩
    have HV5:=hide ((uh HV4).grow hw5)
    have HR5:=hide ((uh HR4).grow hw5 (by have h1:=uh HSZ4;simp;omega))
    have hs5:w2.heap.size≤w5.heap.size:=by have h1:=uh HSZ4;have h2:=hw5.size;simp at h2;omega
    clear hw5 HR4 HV4 q0 q1
    have hown:=(uh HR5).own
    have k1:w5.cell? ⟨w.heap.size,1,none⟩=some (.slice za zn zc):=by rw [cellsOf hown];rfl
    have k2:w5.cell? ⟨w.heap.size,2,none⟩=some (.slice (some ⟨gq,oq,none⟩) r.least.length lc):=by rw [cellsOf hown];rfl
    have f1:w5.frozen? ⟨w.heap.size,1,none⟩=false:=freeOf hown 1
    have u0:w5.cell? ⟨gq,oq+i,none⟩=some (.slice ua un uc):=by
     have h1:=(uh HR5).hold gq csq _ (.inr (.inr rfl)) (uh HPQ).1 (uh HPQ).2.1
     rw [World.cell?_of_block h1];exact (uh HPQ).2.2
    have v0:=(uh HV5).cells.1
    have v1:=(uh HV5).cells.2.1
    clear hown
    by_cases hz:Int.fdiv (t4.cell N 0) t4.scale=0
    ·have hz':Int.sign (Int.fdiv (t4.cell N 0) t4.scale)=0:=by rw [hz];rfl
     rw [hz']
     have HZ:=hide hz
     have HRZ:Hid (RowAt (Pz gc (.slice sa sn sc) (.slice va vn vc)) w5 (.slice ua un uc) (r.least.getD i [])):=by
      obtain ⟨xs,n1,_⟩:=(uh HR5).kept
      obtain ⟨ys,n2,_⟩:=(uh HR5).wide
      exact ((uh HUR).mono (P':=(Pz gc (.slice sa sn sc) (.slice va vn vc))) (fun k hk hp=>⟨hp,own_ne n1 (by omega),own_ne n2 (by omega)⟩)).holds (fun k cs T hT hk hc=>(uh HR5).hold k cs T hT hk.1 hc)
     have HPZ:Hid (∀ b',w5.heap.size≤b'→(Pz gc (.slice sa sn sc) (.slice va vn vc)) b'):=fun b' hb'=>⟨by omega,fun e=>by
      obtain ⟨xs,n1,_⟩:=(uh HR5).kept
      have:=(n1.lt b' e).2;omega,fun e=>by
      obtain ⟨ys,n1,_⟩:=(uh HR5).wide
      have:=(n1.lt b' e).2;omega⟩
     have HZL:Hid ((r.zero++zs).length≤1000):=by have h1:=(uh HR).tri.few;unfold Hid;rw [hf.zero,List.nil_append];omega
     have HK1:=hide k1
     clear hz hz'
     go_wp2_with fail
     have y0:=cell_regrown k1
     have y1:=cell_regrown k2
     have y2:=cell_regrown u0
     clear k1 k2 u0 f1
     refine wp_region_grown (phiL [(48,fun v w=>RowsAt (Pz gc (.slice sa sn sc) (.slice va vn vc)) w v (r.zero++zs++[r.least.getD i []]))]) (gL [(48,ShapeS)]) 66 9 (by kernel_rfl) (by rfl) (by kernel_rfl) (phi_c (fun _ _ _=>RowsAt.below) phi_n) ?_
     iterate 7 (refine lex_s fun K hK=>?_;go_simp;refine hK _ ?_;clear hK K)
     refine lex_call ShapeS 62 #[.slice za zn zc,.slice ua un uc] (by rfl) (by rfl) ShapeS.some (fun w=>by go_simp) (fun wq hg hf'=>(with_any (Pz gc (.slice sa sn sc) (.slice va vn vc)) (r.zero++zs) (r.least.getD i []) _ _ wq (fun b' hb'=>uh HPZ b' (by have:=hg.size;omega)) ((uh HR5).zero.below hg) ((uh HRZ).below hg) (uh HZL)).mono (by rintro e w' ⟨v',rfl,hv,hb⟩;exact ⟨_,rfl,hb,hv.shapeS,fun t ht=>by cases ht;exact hv⟩)) ?_
     rintro _ ⟨ya,ym,yc,rfl⟩
     (refine lex_s fun K hK=>?_;go_simp;refine hK _ ?_;clear hK K)
     refine lex_last ?_
     intro w6 hw6 hphi
     have hv6:RowsAt (Pz gc (.slice sa sn sc) (.slice va vn vc)) w6 (.slice ya ym yc) (r.zero++zs++[r.least.getD i []]):=hphi 7 _ 48 (by decide) rfl rfl
     rw [List.append_assoc] at hv6
     clear hphi y0 y1 y2
     have k1:=Grows.cell hw6 (uh HK1)
     have hR6:=(uh HR5).grow hw6 (by omega)
     have f1:w6.frozen? ⟨w.heap.size,1,none⟩=false:=freeOf hR6.own 1
     have HR7:=hide (hR6.setZero (by omega) hv6 ((uh HR).tri.zero hil (fun x hx=>by have h1:=high_le (uh HR2).rt (uh HTP4) hx;rw [uh HZ] at h1;exact h1)))
     clear hv6 hw6 hR6
     go_wp2
     go_roundg (gk - 1)
     case measure=>omega
     case rel=>exact ⟨i+1,_,_,_,_,gl4,ks,_,ws,_,_,_,sa,sn,sc,va,vn,vc,rfl,rfl,by simp,by omega,uh HR7⟩
    ·have hpv:0<Int.fdiv (t4.cell N 0) t4.scale:=by have:=uh HNN;omega
     rw [Int.sign_eq_one_of_pos hpv]
     have HTK:=hide ((uh HR).tri.keep hil hpv (uh HL4))
     clear hz hpv
     obtain ⟨xs,n1,n2⟩:=(uh HR5).kept
     have HKX:=hide n2
     have hsn:sn=ks.length:=by
      rcases n1.2 with ⟨e,h0⟩|⟨g,cap,cur,e,_⟩
      ·cases e;exact h0.symm
      ·cases e;rfl
     subst hsn
     have HA:=hide ((uh HR5).grow (Grows.alloc w5 (.cells #[.slice ua un uc] 73)) (by omega))
     have n3:=n1.alloc (.cells #[.slice ua un uc] 73)
     have hkl:ks.length≤1000:=by have h1:=(uh HR).tri.few;omega
     go_wp2_with (at_builtin;refine wpList_append_lies _ rfl _ _ 76 rfl (w.heap.size+2) 73 i1 (.slice none 0 0) 1 24 Try.underlying76 hi1 hy0 hy1 hy2 rfl (by decide) _ ks.length xs rfl n3 ⟨_,0,none⟩ 1 1 [.slice ua un uc] rfl rfl ?d1 (by simp [Value.oneCell']) (by decide) ?d2 ?d3 ?d4 _ rfl ?_)
     case d1=>exact fun j u hu=>World.news_of_block (heap_alloc_new _ _) j u hu
     case d2=>unfold maxLen;omega
     case d3=>omega
     case d4=>simp;omega
     ·intro g6 cap6 w6 hown hgrow hat hlt6
      have hK6:=(uh HA).addK (by omega) (by omega) ⟨by omega,by omega⟩ n3 (uh HKX) hgrow (by rw [World.size_alloc];exact hat) hown (uh HUR)
      have hgA:=Grows.alloc w5 (.cells #[.slice ua un uc] 73)
      have o6:=(hK6.2.2.2.2.2.2.1 w.heap.size (by omega)).trans (uh HA).own
      have p6:=(hK6.2.2.2.2.2.2.1 (w.heap.size+1) (by omega)).trans (uh HA).res
      have hV6:VarAt (·≠gc) w6 w4.heap.size hx hb hm hd (Int.fdiv (t4.cell N 0) t4.scale):=by
       have h1:=(uh HV5).grow hgA
       exact ⟨(KeepT.grown n3 hgrow (by decide) _ _ h1.heap).trans h1.heap,(h1.val.keep (KeepT.grown n3 hgrow (by decide))).mono (fun k _ hk=>hk.1)⟩
      obtain ⟨ys,m1,m2⟩:=hK6.2.2.1
      have hvn:vn=ws.length:=by
       rcases m1.2 with ⟨e,h0⟩|⟨g,cap,cur,e,_⟩
       ·cases e;exact h0.symm
       ·cases e;rfl
      subst hvn
      have m3:=m1.alloc (.cells #[.int .i64 hx,.slice hb hm hd] 82)
      have HM2:=hide m2
      have HK6:=hide hK6
      have HV6:=hide hV6
      have HOP:=hide (And.intro o6 p6)
      have hwl:ws.length≤1000:=by have h1:=(uh HR).tri.few;have h2:=(uh HR).tri.len;omega
      have x0:=hV6.cells.1
      have x1:=hV6.cells.2.1
      have hsz6:=hK6.2.2.2.2.2.2.2
      clear hown hgrow hat hlt6 hK6 hV6 o6 p6 k1 k2 u0 f1 v0 v1 n1 n2 n3 m1 m2
      go_wp2_with (at_builtin;refine wpList_append_lies _ rfl _ _ 73 rfl (w.heap.size+2) 82 i0 (.agg #[.int .i64 0,.slice none 0 0]) 2 32 Try.underlying73 hi0 hz0 hz1 hz2 rfl (by decide) _ ws.length ys rfl m3 ⟨_,0,none⟩ 1 1 [.int .i64 hx,.slice hb hm hd] rfl rfl (fun j u hu=>World.news_of_block (heap_alloc_new _ _) j u hu) (by simp [Value.oneCell']) (by decide) ?d2 ?d3 ?d4 _ rfl ?_)
      case d2=>unfold maxLen;omega
      case d3=>omega
      case d4=>first | omega | (simp;omega)
      ·intro g7 cap7 w7 hown hgrow hat hlt7
       have hgB:=Grows.alloc w6 (.cells #[.int .i64 hx,.slice hb hm hd] 82)
       obtain ⟨a1,a2,a3,a4,a5,a6,a7,a8⟩:=uh HK6
       obtain ⟨xs2,a11,a12⟩:=a1
       have hW7:=TrimAt.addW (a2.below hgB) ⟨xs2,own_keep a11 (.of_below hgB),a12⟩ (a4.trans (.of_below hgB)) (a5.grow hgB) (a6.trans (Below.mono hgB (by omega))) (by simp;omega) (show B≤w.heap.size+2 by omega) (by omega) m3 ((uh HM2).grow hgB) hgrow (by rw [World.size_alloc];exact hat) hown ((uh HV6).val.below hgB)
       obtain ⟨b1,b2,b3,b4,b5,b6,b7,b8⟩:=hW7
       have HR7:Hid (TrimAt r L gc B w (w.heap.size+2) w7 b (i+1) D U N t4.cut gl4 (ks++[r.least.getD i []]) zs (ws++[Int.fdiv (t4.cell N 0) t4.scale]) za zn zc (some ⟨gq,oq,none⟩) r.least.length lc ta tn tc (.slice (some ⟨g6,0,none⟩) (ks.length+1) cap6) (.slice (some ⟨g7,0,none⟩) (ws.length+1) cap7)) :=
        ⟨(b7 w.heap.size (by omega)).trans (Below.same hgB _ _ (uh HOP).1),(b7 (w.heap.size+1) (by omega)).trans (Below.same hgB _ _ (uh HOP).2),b2,b4,b5,(uh HR5).rt,b3,b1,uh HTK,b6,(uh HR5).glB,b8⟩
       clear hown hgrow hat hlt7 a2 a3 a4 a5 a6 a7 a8 a11 a12 b1 b2 b3 b4 b5 b6 b7 b8 x0 x1 m3
       go_wp2
       go_roundg (gk - 1)
       case measure=>omega
       case rel=>exact ⟨i+1,_,_,_,_,gl4,_,zs,_,za,zn,zc,_,_,_,_,_,_,rfl,rfl,by simp,by omega,uh HR7⟩
  ·have hil:i=r.least.length:=by have:=uh HLN;omega
   obtain ⟨xs,n1,n2⟩:=(uh HR).kept
   have HKS:Hid (RowsAt PT wr (.slice sa sn sc) ks):=((n2.grow (uh HR).hold).rows n1 (fun g hg=>show g≠gc by omega)).mono (fun _ _ _=>trivial)
   have HWS:Hid (RowAt PT wr (.slice va vn vc) ws):=((uh HR).wide.row (fun g hg=>show g≠gc by omega)).mono (fun _ _ _=>trivial)
   have HZS:Hid (RowsAt PT wr (.slice za zn zc) (r.zero++zs)):=(uh HR).zero.mono (fun _ _ _=>trivial)
   have HTS:Hid (RowsAt PT wr (.slice ta tn tc) r.told):=((uh HT3).holds (uh HR).hold).mono (fun _ _ _=>trivial)
   have HP:Hid (TrimP r L ks zs ws):=⟨D,by have:=(uh HR).tri;rwa [hil] at this,(uh HR).rt.free⟩
   have f2:=kf 2
   have hb:=(uh HR).own
   have hr:=(uh HR).res
   obtain ⟨WF,hWF⟩:∃ W,wr.setCell ⟨w.heap.size,2,none⟩ (.slice sa sn sc)=W:=⟨_,rfl⟩
   have HH:Hid (Holds PT wr WF):=by unfold Hid;rw [←hWF];exact holds_set hb (by decide) (fun e=>absurd e (by decide)) _ _
   have o1:WF.heap[w.heap.size]?=some (.cells #[.int .i64 r.size,.slice za zn zc,.slice sa sn sc,.slice ta tn tc] 78 (0,0)):=by
    rw [←hWF];have:=heap_setCell_same wr w.heap.size 2 _ _ (.slice sa sn sc) hb;exact this
   have o2:WF.heap[w.heap.size+1]?=some (.cells #[.int .i64 0,.slice none 0 0,.slice none 0 0,.slice none 0 0] 78 (0,0)):=by
    rw [←hWF];exact (Below.heap_setCell _ _ _ _ (show w.heap.size+1≠w.heap.size by omega)).trans hr
   have HBF:Hid (Below B w WF):=by unfold Hid;rw [←hWF];exact Below.setCell (p:=⟨w.heap.size,2,none⟩) (uh HR).below (by show B≤w.heap.size;omega) _
   have j0:WF.cell? ⟨w.heap.size,0,none⟩=some (.int .i64 r.size):=by rw [cellsOf o1];rfl
   have j1:WF.cell? ⟨w.heap.size,1,none⟩=some (.slice za zn zc):=by rw [cellsOf o1];rfl
   have j2:WF.cell? ⟨w.heap.size,2,none⟩=some (.slice sa sn sc):=by rw [cellsOf o1];rfl
   have j3:WF.cell? ⟨w.heap.size,3,none⟩=some (.slice ta tn tc):=by rw [cellsOf o1];rfl
   have z0:WF.cell? ⟨w.heap.size+1,0,none⟩=some (.int .i64 0):=by rw [cellsOf o2];rfl
   have z1:WF.cell? ⟨w.heap.size+1,1,none⟩=some (.slice none 0 0):=by rw [cellsOf o2];rfl
   have z2:WF.cell? ⟨w.heap.size+1,2,none⟩=some (.slice none 0 0):=by rw [cellsOf o2];rfl
   have z3:WF.cell? ⟨w.heap.size+1,3,none⟩=some (.slice none 0 0):=by rw [cellsOf o2];rfl
   have y0:=freeOf o2 0
   have y1:=freeOf o2 1
   have y2:=freeOf o2 2
   have y3:=freeOf o2 3
   have HSF:=hide (reg_store_b (P:=PT) (uh HBF) (show B≤w.heap.size+1 by omega) o2 (r.size:Int) za zn zc sa sn sc ta tn tc)
   have HRF:Hid (RegAt PT ((((WF.setCell ⟨w.heap.size+1,0,none⟩ (.int .i64 r.size)).setCell ⟨w.heap.size+1,1,none⟩ (.slice za zn zc)).setCell ⟨w.heap.size+1,2,none⟩ (.slice sa sn sc)).setCell ⟨w.heap.size+1,3,none⟩ (.slice ta tn tc)) (.agg #[.int .i64 r.size,.slice za zn zc,.slice sa sn sc,.slice ta tn tc]) (r.trim ks zs)):=⟨_,_,_,rfl,((uh HZS).holds (uh HH)).holds (uh HSF).2,((uh HKS).holds (uh HH)).holds (uh HSF).2,((uh HTS).holds (uh HH)).holds (uh HSF).2⟩
   have HWF:=hide (((uh HWS).holds (uh HH)).holds (uh HSF).2)
   clear hb hr o1 o2 n1 n2 kf k0 k1 k3
   go_wp2
   exact bodyPost_ret (v:=.tuple #[.agg #[.int .i64 r.size,.slice za zn zc,.slice sa sn sc,.slice ta tn tc],.slice va vn vc]) (by simp [results,Try.results86,go_sem,z0,z1,z2,z3]) rfl ⟨_,_,ks,zs,ws,rfl,⟨_,_,_,_,_,_,_,_,_,_,rfl⟩,uh HRF,uh HWF,(uh HSF).1,uh HP⟩
end
def widestP (ws:List Int):Nat→Int
 | 0=>0
 | i+1=>if widestP ws i<ws.getD i 0 then ws.getD i 0 else widestP ws i
theorem widest_ge (ws:List Int):∀ i k,k<i→ws.getD k 0≤widestP ws i
 | 0,k,h=>by omega
 | i+1,k,h=>by
  unfold widestP
  rcases (show k<i∨k=i by omega) with h1|h1
  ·have:=widest_ge ws i k h1
   split <;> omega
  ·subst h1
   split <;> omega
theorem widest_lt {K:Nat} {ws:List Int} (h:∀ k,Pl.Lt K (ws.getD k 0)):∀ i,Pl.Lt K (widestP ws i)
 | 0=>lt_zero K
 | i+1=>by
  unfold widestP
  split
  ·exact h i
  ·exact widest_lt h i
def weightP (ws:List Int) (m k:Nat):Int:=Int.fdiv (widestP ws m) (ws.getD k 0)*Int.fdiv (widestP ws m) (ws.getD k 0)
theorem weight_pos {ws:List Int} {m k:Nat} (hk:k<m) (hp:0<ws.getD k 0):0<weightP ws m k:=by
 have h1:=widest_ge ws m k hk
 have h2:1≤Int.fdiv (widestP ws m) (ws.getD k 0):=by
  rw [Int.fdiv_eq_ediv_of_nonneg _ (by omega)]
  exact (Int.le_ediv_iff_mul_le hp).2 (by omega)
 unfold weightP
 exact Int.mul_pos (by omega) (by omega)
theorem weight_lt {K:Nat} {ws:List Int} (h:∀ k,Pl.Lt K (ws.getD k 0)) {m k:Nat} (hp:0<ws.getD k 0):Pl.Lt (2*K) (weightP ws m k):=by
 unfold weightP
 exact (((widest_lt h m).fdiv hp).mul ((widest_lt h m).fdiv hp)).mono (by omega)
def prodTo (a:Nat→Nat→Int) (wt:Nat→Int) (k i j x y:Nat):Int:=if x<i∨x=i∧y<j then Pl.prodG (k+1) a wt x y else Pl.prodG k a wt x y
section
variable {a:Nat→Nat→Int} {wt:Nat→Int} {k i j:Nat}
theorem prod_succ (x y:Nat):Pl.prodG (k+1) a wt x y=Pl.prodG k a wt x y+(wt k*a k (x+1))*a k (y+1):=by
 unfold Pl.prodG;rw [Pl.sm]
theorem prodTo_at:prodTo a wt k i j i j=Pl.prodG k a wt i j:=if_neg (by omega)
theorem prodTo_set (x y:Nat):upd2 (prodTo a wt k i j) i j (Pl.prodG k a wt i j+(wt k*a k (i+1))*a k (j+1)) x y=prodTo a wt k i (j+1) x y:=by
 unfold upd2 prodTo
 by_cases h1:x=i∧y=j
 ·rw [if_pos h1,if_pos (by omega),h1.1,h1.2,prod_succ]
 ·rw [if_neg h1]
  by_cases h2:x<i∨x=i∧y<j
  ·rw [if_pos h2,if_pos (by omega)]
  ·rw [if_neg h2,if_neg (by omega)]
theorem prodTo_row {n x y:Nat} (hy:y<n):prodTo a wt k i n x y=prodTo a wt k (i+1) 0 x y:=by
 unfold prodTo
 by_cases h2:x<i∨x=i∧y<n
 ·rw [if_pos h2,if_pos (by omega)]
 ·rw [if_neg h2,if_neg (by omega)]
theorem prodTo_start (x y:Nat):prodTo a wt k 0 0 x y=Pl.prodG k a wt x y:=if_neg (by omega)
theorem prodTo_end {n x y:Nat} (hx:x<n):prodTo a wt k n 0 x y=Pl.prodG (k+1) a wt x y:=if_pos (.inl hx)
theorem prodG_lt {K L m:Nat} (hm:m<1073741824) (ha:∀ k y,Pl.Lt L (a k y)) (hw:∀ k,k<m→Pl.Lt K (wt k)) (x y:Nat):Pl.Lt (K+2*L+1) (Pl.prodG m a wt x y):=by
 unfold Pl.prodG
 exact (Pl.Lt.sum (fun k hk=>(((hw k hk).mul (ha k (x+1))).mul (ha k (y+1))).mono (show _≤K+2*L by omega)) hm)
end
end Go.Proofs.Ytfaljekgpnbmiaa
