/- Joined: XTrim4 XTrim5 XProd1. -/
import Derived.Test.YtgaafamcajcifaaGreatK34
set_option linter.unusedVariables false
set_option linter.unusedSimpArgs false
set_option maxRecDepth 100000
namespace Go.Proofs.YtgaafamcajcifaaGreat
open Go.RowKit Go.Sort
theorem Dm {P:Nat->Prop} {w w':World} {b gl gc:Nat} {t:Pl.aR} (h:aV P w b gl gc t) (ht:bG (mh b gl gc) w w') {e:TypeId} (h1:e≠109) (h2:e≠111) (h3:e≠3):aA e w w':=λk cur hk=>(su h ht hk h1 h2 h3).trans hk.symm
theorem pW.holds {P:Nat->Prop} {w w':World} {xs:List Value} {l:List Int} (h:pW P w xs l) (hg:Holds P w w'):pW P w' xs l :=
 ⟨h.len,λi hi=>by obtain ⟨x,a,m,c,h1,h2,h3⟩:=h.at_ i hi;exact ⟨x,a,m,c,h1,h2,h3.ql hg.xJ⟩⟩
theorem aV.dY {P:Nat->Prop} {w w':World} {b gl gc:Nat} {t:Pl.aR} (h:aV P w b gl gc t) (k1:aA 109 w w') (k2:aA 111 w w') (k3:aA 3 w w') (k4:aA 78 w w'):aV P w' b gl gc t:=by
 obtain ⟨⟨fE,jl,sx,sa,sm,sc,h1,h2,cs,h3,h4,h5,h6,h7⟩,⟨cc,h8,h9⟩,h10⟩:=h;refine ⟨⟨fE,jl,sx,sa,sm,sc,(k1 _ _ h1).trans h1,h2.bW k3,cs,(k2 _ _ h3).trans h3,h4,h5,h6,λi hi=>?_⟩,⟨cc,(k3 _ _ h8).trans h8,h9⟩,h10⟩;obtain ⟨u,e1,e2,e3⟩:=h7 i hi;exact ⟨u,e1,e2,e3.dY k4 k3⟩
def Pz (gc:Nat) (lv wv:Value) (k:Nat):Prop:=k≠gc∧lv.ownBlock≠some k∧wv.ownBlock≠some k
def Pw (gc:Nat) (wv:Value) (k:Nat):Prop:=k≠gc∧wv.ownBlock≠some k
theorem Tz {gc g H n c:Nat} {wv:Value} (hat:wv.ownBlock=some g∨g=H):∀ k,k<H->Pw gc wv k->Pw gc (.slice (some ⟨g,0,none⟩) n c) k:=λk hk ⟨h1,h3⟩=>⟨h1,λe=>by
 have e':g=k:=by simpa [Value.ownBlock] using e
 rcases hat with h|h
 ·exact h3 (by rw [h,e'])
 ·omega⟩
theorem WR {gc b gl:Nat} {wv:Value} {w:World} {t:Pl.aR} (h:aV (Pw gc wv) w b gl gc t):aV (·≠gc) w b gl gc t:=h.mono (λk _ hk=>hk.1) (λh=>h rfl)
structure kW (r:aP) (L gc B:Nat) (w0:World) (B1:Nat) (w:World) (b i:Nat) (D:List Nat) (U:List Int) (N:Nat) (t:Pl.aR) (gl:Nat) (ks zs:List (List Int)) (ws:List Int) (za:Option Addr) (zn zc:Nat) (la:Option Addr) (ln lc:Nat) (ta:Option Addr) (tn tc:Nat) (lv wv:Value):Prop where
 own:w.heap[w0.heap.size]?=some (.cells #[.int .i64 r.size,.slice za zn zc,.slice la ln lc,.slice ta tn tc] 74 (0,0))
 res:w.heap[w0.heap.size+1]?=some (.cells #[.int .i64 0,.slice none 0 0,.slice none 0 0,.slice none 0 0] 74 (0,0))
 zero:aM (Pz gc lv wv) w (.slice za zn zc) (r.zero++zs)
 hold:Holds (·≠gc) w0 w
 tab:aV (Pw gc wv) w b gl gc t
 rt:iq r D U N t
 kept:∃ xs,w.ownsRow B1 69 1 lv ks.length xs∧jM (·≠gc) w0 xs ks
 wide:jh (·≠gc) B1 w wv ws
 Q4:qF r L i D ks zs ws
 below:Below B w0 w
 OB:B<=gl
 b1:B1<=w.heap.size
section
variable {r:aP} {L gc B B1 b i N gl:Nat} {w0 w w':World} {D:List Nat} {U:List Int} {t:Pl.aR} {ks zs:List (List Int)} {ws:List Int} {za la ta:Option Addr} {zn zc ln lc tn tc:Nat} {lv wv:Value}
theorem kW.grow (h:kW r L gc B w0 B1 w b i D U N t gl ks zs ws za zn zc la ln lc ta tn tc lv wv) (hg:ae w w') (hB:B<=w.heap.size):kW r L gc B w0 B1 w' b i D U N t gl ks zs ws za zn zc la ln lc ta tn tc lv wv:=by
 obtain ⟨xs,k1,k2⟩:=h.kept;exact ⟨Below.same hg _ _ h.own,Below.same hg _ _ h.res,h.zero.below hg,h.hold.trans (.aX hg),h.tab.grow hg,h.rt,⟨xs,aW k1 (.aX hg),k2⟩,h.wide.grow hg,h.Q4,h.below.trans (aam hg hB),h.OB,w_ h.b1 hg.size⟩
theorem kW.uH (h:kW r L gc B w0 B1 w b i D U N t gl ks zs ws za zn zc la ln lc ta tn tc lv wv) (ht:bG (mh b gl gc) w w') {D':List Nat} {U':List Int} {N':Nat} {t':Pl.aR} {yQ i':Nat} (hT:aV (Pw gc wv) w' b yQ gc t') (hgl:yQ=gl∨w.heap.size<=yQ) (hR:iq r D' U' N' t') (WS:qF r L i' D' ks zs ws) (hB:B<=b∧B<=gc∧B<=w.heap.size):kW r L gc B w0 B1 w' b i' D' U' N' t' yQ ks zs ws za zn zc la ln lc ta tn tc lv wv:=by
 obtain ⟨xs,k1,k2⟩:=h.kept;obtain ⟨ys,n1,n2⟩:=h.wide;have hh:=sU (WR h.tab) ht;have hz:Holds (Pz gc lv wv) w w':=λk cs T hT hk hc=>hh k cs T hT hk.1 hc;refine ⟨su h.tab ht h.own (by decide) (by decide) (by decide),su h.tab ht h.res (by decide) (by decide) (by decide),h.zero.holds hz,h.hold.trans hh,hT,hR,⟨xs,aW k1 (Dm h.tab ht (by decide) (by decide) (by decide)),k2⟩,⟨ys,aW n1 (Dm h.tab ht (by decide) (by decide) (by decide)),n2.holds hh⟩,WS,h.below.trans (ht.below (λk hk=>?_) hB.2.2),?_,w_ h.b1 ht.size⟩
 ·have:=h.OB;rcases hk with e|e|e <;> omega
 ·have:=h.OB;rcases hgl with e|e <;> omega
theorem kW.TA (h:kW r L gc B w0 B1 w b i D U N t gl ks zs ws za zn zc la ln lc ta tn tc lv wv) (hB:B<=w0.heap.size) {za':Option Addr} {zn' zc' i':Nat} {row:List Int} (hz:aM (Pz gc lv wv) w (.slice za' zn' zc') (r.zero++(zs++[row]))) (WS:qF r L i' D ks (zs++[row]) ws):kW r L gc B w0 B1 (w.setCell ⟨w0.heap.size,1,none⟩ (.slice za' zn' zc')) b i' D U N t gl ks (zs++[row]) ws za' zn' zc' la ln lc ta tn tc lv wv:=by
 obtain ⟨xs,k1,k2⟩:=h.kept;obtain ⟨ys,n1,n2⟩:=h.wide;have hb:=h.own;have hs:∀ P:Nat->Prop,Holds P w (w.setCell ⟨w0.heap.size,1,none⟩ (.slice za' zn' zc')):=λP=>bQ hb (by decide) (λe=>absurd e (by decide)) _ _;obtain ⟨⟨fE,jl,sx,sa,sm,sc,t1,t2,c1,t3,t4⟩,⟨cc,t8,t9⟩,t10⟩:=h.tab;have ne1:b≠w0.heap.size:=λe=>by rw [e,hb] at t1;simp at t1
 have ne2:gl≠w0.heap.size:=λe=>by rw [e,hb] at t3;simp at t3
 have ne3:gc≠w0.heap.size:=λe=>by rw [e,hb] at t8;simp at t8
 refine ⟨?_,?_,hz.holds (hs _),h.hold.trans (hs _),h.tab.holds (hs _) (l_ _ _ _ _ ne1) (l_ _ _ _ _ ne2) (l_ _ _ _ _ ne3),h.rt,⟨xs,aW k1 (aA.setCell hb (by decide) _ _),k2⟩,⟨ys,aW n1 (aA.setCell hb (by decide) _ _),n2.holds (hs _)⟩,WS,B_ (p:=⟨w0.heap.size,1,none⟩) h.below hB _,h.OB,by simpa using h.b1⟩
 ·have:=j_ w w0.heap.size 1 _ _ (.slice za' zn' zc') hb;exact this
 ·exact (l_ _ _ _ _ (show w0.heap.size+1≠w0.heap.size by omega)).trans h.res
theorem TB {gc g H n c:Nat} {lv wv:Value} (hat:lv.ownBlock=some g∨g=H):∀ k,k<H->Pz gc lv wv k->Pz gc (.slice (some ⟨g,0,none⟩) n c) wv k:=λk hk ⟨h1,h2,h3⟩=>⟨h1,λe=>by
 have e':g=k:=by simpa [Value.ownBlock] using e
 rcases hat with h|h
 ·exact h2 (by rw [h,e'])
 ·omega,h3⟩
theorem Q5 {gc g H n c:Nat} {lv wv:Value} (hat:wv.ownBlock=some g∨g=H):∀ k,k<H->Pz gc lv wv k->Pz gc lv (.slice (some ⟨g,0,none⟩) n c) k:=λk hk ⟨h1,h2,h3⟩=>⟨h1,h2,λe=>by
 have e':g=k:=by simpa [Value.ownBlock] using e
 rcases hat with h|h
 ·exact h3 (by rw [h,e'])
 ·omega⟩
theorem kW.ae1 (h:kW r L gc B w0 B1 w b i D U N t gl ks zs ws za zn zc la ln lc ta tn tc lv wv) (hB:B<=B1) (hw:w0.heap.size+1<B1) (hgc:gc<B1∧b<B1) {g cap:Nat} {xs:List Value} {u:Value} {row:List Int} (hown:w.ownsRow B1 69 1 lv ks.length xs) (hX:jM (·≠gc) w0 xs ks) (hg:w.grownBy w' lv.ownBlock) (hat:lv.ownBlock=some g∨g=w.heap.size) (ho:w'.ownsRow B1 69 1 (.slice (some ⟨g,0,none⟩) (ks.length+1) cap) (ks.length+1) (xs++[u])) (hu:aD (·≠gc) w0 u row) :
  (∃ ys,w'.ownsRow B1 69 1 (.slice (some ⟨g,0,none⟩) (ks.length+1) cap) (ks++[row]).length ys∧jM (·≠gc) w0 ys (ks++[row]))∧aM (Pz gc (.slice (some ⟨g,0,none⟩) (ks.length+1) cap) wv) w' (.slice za zn zc) (r.zero++zs)∧jh (·≠gc) B1 w' wv ws∧Holds (·≠gc) w0 w'∧aV (Pw gc wv) w' b gl gc t∧Below B w0 w'∧(∀ k,k<B1->w'.heap[k]?=w.heap[k]?)∧B1<=w'.heap.size:=by
 have kt:∀ e:TypeId,69≠e->aA e w w':=λe he=>aA.grown hown hg he;have hlow:∀ k,k<B1->w'.heap[k]?=w.heap[k]?:=λk hk=>hg.block k (by have:=h.b1;omega) (λe=>by have:=bR hown k e.symm;omega);obtain ⟨ys,n1,n2⟩:=h.wide;have hold':Holds (·≠gc) w0 w':=λk cs T hT hk hc=>by
  have h1:=h.hold k cs T hT hk hc;rw [<-h1];exact hlow k (by have:=z_ hc;omega)
 refine ⟨⟨xs++[u],by rw [C_];exact ho,hX.snoc hu⟩,?_,⟨ys,aW n1 (kt _ (by decide)),n2.dY (kt _ (by decide))⟩,hold',?_,Below.grown h.below hg (w_ hB h.b1) (λk hk=>w_ hB (bR hown k hk)),hlow,w_ h.b1 hg.size⟩
 ·have h1:=h.zero.mono (P':=λk=>Pz gc lv wv k∧Pz gc (.slice (some ⟨g,0,none⟩) (ks.length+1) cap) wv k) (λk hk hp=>⟨hp,TB hat k hk hp⟩);exact (h1.holds λk cs T hT hk hc=>hg.block k (z_ hc) (λe=>hk.1.2.1 e.symm)).mono (λk _ hp=>hp.2)
 ·exact h.tab.dY (kt _ (by decide)) (kt _ (by decide)) (kt _ (by decide)) (kt _ (by decide))
theorem kW.ae2 {w2:World} (hz:aM (Pz gc lv wv) w (.slice za zn zc) (r.zero++zs)) (hkept:∃ xs,w.ownsRow B1 69 1 lv ks.length xs∧jM (·≠gc) w0 xs ks) (hold:Holds (·≠gc) w0 w) (htab:aV (Pw gc wv) w b gl gc t) (hbel:Below B w0 w) (hb1:B1<=w.heap.size) (hB:B<=B1) (hw:w0.heap.size+1<B1) {g cap:Nat} {ys:List Value} {y:Int} {ua:Option Addr} {um uc:Nat} {v:Int} (hown:w.ownsRow B1 78 2 wv ws.length ys) (hX:pW (·≠gc) w ys ws) (hg:w.grownBy w2 wv.ownBlock) (hat:wv.ownBlock=some g∨g=w.heap.size) (ho:w2.ownsRow B1 78 2 (.slice (some ⟨g,0,none⟩) (ws.length+1) cap) (ws.length+1) (ys++[.int .i64 y,.slice ua um uc])) (hu:aj (·≠gc) w (.agg #[.int .i64 y,.slice ua um uc]) v) :
  jh (·≠gc) B1 w2 (.slice (some ⟨g,0,none⟩) (ws.length+1) cap) (ws++[v])∧aM (Pz gc lv (.slice (some ⟨g,0,none⟩) (ws.length+1) cap)) w2 (.slice za zn zc) (r.zero++zs)∧(∃ xs,w2.ownsRow B1 69 1 lv ks.length xs∧jM (·≠gc) w0 xs ks)∧Holds (·≠gc) w0 w2∧aV (Pw gc (.slice (some ⟨g,0,none⟩) (ws.length+1) cap)) w2 b gl gc t∧Below B w0 w2∧(∀ k,k<B1->w2.heap[k]?=w.heap[k]?)∧B1<=w2.heap.size:=by
 have kt:∀ e:TypeId,78≠e->aA e w w2:=λe he=>aA.grown hown hg he;have hlow:∀ k,k<B1->w2.heap[k]?=w.heap[k]?:=λk hk=>hg.block k (by omega) (λe=>by have:=bR hown k e.symm;omega);obtain ⟨xs,n1,n2⟩:=hkept;have hold':Holds (·≠gc) w0 w2:=λk cs T hT hk hc=>by
  have h1:=hold k cs T hT hk hc;rw [<-h1];exact hlow k (by have:=z_ hc;omega)
 refine ⟨⟨ys++[.int .i64 y,.slice ua um uc],by rw [C_];exact ho,(hX.dY (kt _ (by decide))).snoc (hu.bW (kt _ (by decide)))⟩,?_,⟨xs,aW n1 (kt _ (by decide)),n2⟩,hold',?_,Below.grown hbel hg (w_ hB hb1) (λk hk=>w_ hB (bR hown k hk)),hlow,w_ hb1 hg.size⟩
 ·have h1:=hz.mono (P':=λk=>Pz gc lv wv k∧Pz gc lv (.slice (some ⟨g,0,none⟩) (ws.length+1) cap) k) (λk hk hp=>⟨hp,Q5 hat k hk hp⟩);exact (h1.holds λk cs T hT hk hc=>hg.block k (z_ hc) (λe=>hk.1.2.2 e.symm)).mono (λk _ hp=>hp.2)
 ·have h1:=htab.mono (P':=λk=>Pw gc wv k∧Pw gc (.slice (some ⟨g,0,none⟩) (ws.length+1) cap) k) (λk hk hp=>⟨hp,Tz hat k hk hp⟩) (λh=>h.1.1 rfl);obtain ⟨⟨fE,jl,sx,sa,sm,sc,t1,_,c1,t3,_⟩,⟨cc,t8,_⟩,_⟩:=htab;exact (h1.holds (λk cs T hT hk hc=>hg.block k (z_ hc) (λe=>hk.1.2 e.symm)) (kt _ (by decide) _ _ t1) (kt _ (by decide) _ _ t3) (kt _ (by decide) _ _ t8)).mono (λk _ hp=>hp.2) (λh=>h.1 rfl)
end
theorem KI {w:World} {B1:Nat} {e:TypeId} {s n k:Nat} {v:Value} {xs:List Value} (h:w.ownsRow B1 e s v n xs) (hk:k<B1):v.ownBlock≠some k:=λe=>by have:=bR h k e;omega
theorem Q6 {w w':World} {gc B1 n:Nat} {u wv:Value} {row:List Int} {ws:List Int} (h:aD (·≠gc) w u row) (hh:Holds (·≠gc) w w') (hn:jh (·≠gc) B1 w' wv ws) (hB:w.heap.size<=B1):aD (Pw gc wv) w' u row:=by
 obtain ⟨xs,h1,_⟩:=hn;exact (h.mono (P':=Pw gc wv) (λk hk hp=>⟨hp,KI h1 (by omega)⟩)).holds (λk cs T hT hk hc=>hh k cs T hT hk.1 hc)
theorem IZ {P:Nat->Prop} {B:Nat} {w0 w:World} (hg:Below B w0 w) {g:Nat} (hge:B<=g) {cs:Array Value} (hb:w.heap[g]?=some (.cells cs 74 (0,0))) (n:Int) (a1:Option Addr) (m1 c1:Nat) (a2:Option Addr) (m2 c2:Nat) (a3:Option Addr) (m3 c3:Nat) :
  Below B w0 ((((w.setCell ⟨g,0,none⟩ (.int .i64 n)).setCell ⟨g,1,none⟩ (.slice a1 m1 c1)).setCell ⟨g,2,none⟩ (.slice a2 m2 c2)).setCell ⟨g,3,none⟩ (.slice a3 m3 c3))∧Holds P w ((((w.setCell ⟨g,0,none⟩ (.int .i64 n)).setCell ⟨g,1,none⟩ (.slice a1 m1 c1)).setCell ⟨g,2,none⟩ (.slice a2 m2 c2)).setCell ⟨g,3,none⟩ (.slice a3 m3 c3)):=by
 refine ⟨(((B_ (p:=⟨g,0,none⟩) hg hge _).setCell (p:=⟨g,1,none⟩) hge _).setCell (p:=⟨g,2,none⟩) hge _).setCell (p:=⟨g,3,none⟩) hge _,?_⟩;have b1:=j_ w g 0 _ _ (.int .i64 n) hb;have b2:=j_ _ g 1 _ _ (.slice a1 m1 c1) b1;have b3:=j_ _ g 2 _ _ (.slice a2 m2 c2) b2;exact (((bQ hb (by decide) (λe=>absurd e (by decide)) _ _).trans (bQ b1 (by decide) (λe=>absurd e (by decide)) _ _)).trans (bQ b2 (by decide) (λe=>absurd e (by decide)) _ _)).trans (bQ b3 (by decide) (λe=>absurd e (by decide)) _ _)
section
attribute [local go_sem] bD
set_option maxHeartbeats 4000000 in
theorem Ch (r:aP) (L b gl gc B:Nat) (t:Pl.aR) (vr:Value) (w:World) (h:jT (·≠gc) w vr r) (hf:iM L r) (hT:aV (·≠gc) w b gl gc t) (hRT:iq r [] (Pl.gU r.size r.least.length) r.least.length t) (hB:B<=b∧B<=gl∧B<=gc) (hK:2*((r.size+1)*L+1)+1<=1500000000000) :
  Calls Tryz.prog 51 #[vr,.pointer (some ⟨b,0,none⟩)] w λe w'=>∃ (v1 v2:Value) (ks zs:List (List Int)) (ws:List Int),e=.returned (.tuple #[v1,v2])∧Ku v1∧jT PT w' v1 (r.trim ks zs)∧aD PT w' v2 ws∧Below B w w'∧uz r L ks zs ws:=by
 obtain ⟨i0,hi0,hz0,hz1,hz2⟩:=U_ Tryz.dP;obtain ⟨i1,hi1,hy0,hy1,hy2⟩:=U_ Tryz.oQ;obtain ⟨vz,vl,vt,rfl,h1,h2,h3⟩:=h;obtain ⟨za,zn,zc,rfl⟩:=h1.aB;obtain ⟨la,ln,lc,rfl⟩:=h2.aB;obtain ⟨ta,tn,tc,rfl⟩:=h3.aB;have aeq:=hT.lt.2.2.1;have hbw:=hT.lt.1;have alU:=hT.lt.2.1;have KL:Hid (ln=r.least.length):=h2.len;obtain ⟨W,hW⟩:∃ W,(w.alloc (.cells #[.int .i64 r.size,.slice za zn zc,.slice la ln lc,.slice ta tn tc] 74)).alloc (.cells #[.int .i64 0,.slice none 0 0,.slice none 0 0,.slice none 0 0] 74)=W:=⟨_,rfl⟩;have hgW:ae w W:=by rw [<-hW];exact ae.trans (ae.alloc _ _) (ae.alloc _ _)
 have hWs:W.heap.size=w.heap.size+2:=by rw [<-hW];simp
 have HS:Hid (kW r L gc B w (w.heap.size+2) W b 0 [] (Pl.gU r.size r.least.length) r.least.length t gl [] [] [] za zn zc la ln lc ta tn tc (.slice none 0 0) (.slice none 0 0)):=by
  have hno:∀ k,(Value.slice none 0 0).ownBlock≠some k:=λk e=>by simp [Value.ownBlock] at e
  refine ⟨?_,?_,?_,.aX hgW,(hT.mono (P':=Pw gc (.slice none 0 0)) (λk _ hk=>⟨hk,hno k⟩) (λh=>h.1 rfl)).grow hgW,hRT,⟨[],⟨rfl,.inl ⟨rfl,rfl⟩⟩,.nil _ _⟩,.nil _ _ _,.start r L [],aam hgW (by omega),hB.2.1,by omega⟩
  ·rw [<-hW];exact Below.same (ae.alloc _ _) _ _ (aG w _)
  ·have:=aG (w.alloc (.cells #[.int .i64 r.size,.slice za zn zc,.slice la ln lc,.slice ta tn tc] 74)) (.cells #[.int .i64 0,.slice none 0 0,.slice none 0 0,.slice none 0 0] 74);rw [H_] at this;rw [<-hW];exact this
  ·rw [abk];exact (h1.mono (P':=Pz gc (.slice none 0 0) (.slice none 0 0)) (λk _ hk=>⟨hk,hno k,hno k⟩)).below hgW
 have HL2:=af h2;have HT3:=af h3;have hln:ln<=800:=by have h4:=hf.pI;have h5:=h2.len;omega
 clear h1 h2 h3 hT hRT hgW hWs;go_enter Tryz.func51,Tryz.ntmps51;go_wp2_with fail
 try rw [hW]
 clear hW;go_loopg [6,7,8] ln (λq lvv wvv iv wr=>∃ (i:Nat) (D:List Nat) (U:List Int) (N:Nat) (t:Pl.aR) (gl:Nat) (ks zs:List (List Int)) (ws:List Int) (za:Option Addr) (zn zc:Nat) (sa:Option Addr) (sn sc:Nat) (va:Option Addr) (vn vc:Nat),lvv=.slice sa sn sc∧wvv=.slice va vn vc∧iv=.int .i64 i∧i+q=ln∧Hid (kW r L gc B w (w.heap.size+2) wr b i D U N t gl ks zs ws za zn zc la ln lc ta tn tc (.slice sa sn sc) (.slice va vn vc)))
 case atStart=>exact ⟨0,[],_,_,t,gl,[],[],[],za,zn,zc,none,0,0,none,0,0,rfl,rfl,rfl,by omega,uh HS⟩
 case round =>
  clear HS;obtain ⟨i,D,U,N,t,gl,ks,zs,ws,za,zn,zc,sa,sn,sc,va,vn,vc,rfl,rfl,rfl,ZF,HR⟩:=hrel;have hown:=(uh HR).own;have k0:wr.cell? ⟨w.heap.size,0,none⟩=some (.int .i64 r.size):=by rw [cellsOf hown];rfl
  have k1:wr.cell? ⟨w.heap.size,1,none⟩=some (.slice za zn zc):=by rw [cellsOf hown];rfl
  have k2:wr.cell? ⟨w.heap.size,2,none⟩=some (.slice la ln lc):=by rw [cellsOf hown];rfl
  have k3:wr.cell? ⟨w.heap.size,3,none⟩=some (.slice ta tn tc):=by rw [cellsOf hown];rfl
  have kf:∀ o,wr.frozen? ⟨w.heap.size,o,none⟩=false:=λo=>aH hown o;have alX:w.heap.size+2<=wr.heap.size:=(uh HR).b1;clear hown;by_cases hlt:i<ln
  ·have hil:i<r.least.length:=by rw [<-uh KL];exact hlt
   obtain ⟨ad,cap,el,_,hall⟩:=uh HL2;obtain ⟨gq,oq,u,ead,uc0,hur,hpq,csq,WU⟩:=hall i hil;cases el;cases ead;have u0:wr.cell? ⟨gq,oq+i,none⟩=some u:=by
    have h1:=(uh HR).hold gq csq _ (.inr (.inr rfl)) hpq WU;rw [World.cell?_of_block h1];exact uc0
   have aan:r.least[i]=r.least.getD i []:=by rw [a_,f_ hil];rfl
   rw [aan] at hur;have Rq:=af hur;obtain ⟨ua,un,uc,rfl⟩:=hur.aB;have FH:Hid ((r.least.getD i []).length=r.size+1∧∀ k,Pl.Lt L ((r.least.getD i []).getD k 0)):=⟨hf.ok.dQ _ (Ad hil),hf.lt.least i⟩;have HPW:=af (Q6 (n:=0) (uh Rq) (uh HR).hold (uh HR).wide (by omega));have hPr:∀ b',wr.heap.size<=b'->Pw gc (.slice va vn vc) b':=λb' hb'=>⟨by omega,λe=>by
    obtain ⟨ys,n1,_⟩:=(uh HR).wide;have:=(n1.lt b' e).2;omega⟩
   have HY:=af (xI (Pw gc (.slice va vn vc)) hf (uh HR).rt _ wr hPr (uh HR).tab (uh HPW) (uh FH).1 (uh FH).2 hK);have XD:=af (x_ hpq (x_ WU uc0));clear hall uc0 hur hpq WU aan hPr;have ai4:¬ ((i:Int)<0):=by omega
   go_wp2_with fail;refine (uh HY).mono ?_;rintro e w1 ⟨v1,gl1,t1,rfl,hT1,aao,hU1,hv1,UE,aap,hlt1⟩;obtain ⟨lx,lb,lm,ld,rfl⟩:=hv1.shape;have hBw:B<=b∧B<=gc∧B<=wr.heap.size:=⟨hB.1,hB.2.2,by omega⟩;have aaq:Hid (wr.heap.size<=w1.heap.size):=hU1.size;have HR1:=af (((uh HR).uH hU1 hT1 aao aap (uh HR).Q4 hBw).grow (ae.alloc w1 (.cells #[.int .i64 lx,.slice lb lm ld] 78)) (by have:=hU1.size;omega));have wP:=af (dC hv1);have ae6:=af UE;have q0:=(uh wP).cells.1;have q1:=(uh wP).cells.2.1;clear hT1 hU1 hv1 UE aap hlt1 HY aao;go_wp2_with fail;refine (bY _ _ _ _ (uh wP).val).mono ?_;rintro e w2 ⟨rfl,hw2⟩;have hs1:wr.heap.size<=w2.heap.size:=by have h1:=uh aaq;have h2:=hw2.size;simp at h2;omega
   have HR2:=af ((uh HR1).grow hw2 (by have h1:=uh aaq;simp;omega));have DW:Hid (Below B w w2):=(uh HR2).below;clear hw2 HR1 wP q0 q1 k0 k1 k2 k3 kf u0;have hown:=(uh HR2).own;have k1:w2.cell? ⟨w.heap.size,1,none⟩=some (.slice za zn zc):=by rw [cellsOf hown];rfl
   have k2:w2.cell? ⟨w.heap.size,2,none⟩=some (.slice (some ⟨gq,oq,none⟩) r.least.length lc):=by rw [cellsOf hown];rfl
   have u0:w2.cell? ⟨gq,oq+i,none⟩=some (.slice ua un uc):=by
    have h1:=(uh HR2).hold gq csq _ (.inr (.inr rfl)) (uh XD).1 (uh XD).2.1;rw [World.cell?_of_block h1];exact (uh XD).2.2
   clear hown;by_cases hpos:0 < -Int.fdiv (t1.cell N 0) t1.scale
   ·rw [J_ hpos];have HDR:=af ((uh HR2).rt.drop hf hil (Tx (uh HR).rt hil (uh ae6) hpos));have HDC:=af (QJ (Pw gc (.slice va vn vc)) b gl1 gc t1.cut (i:Int) w2 (uh HR2).tab (by have h1:=(uh HR2).rt.lL.len;have h2:=(uh HR2).rt.small;omega) (uh HDR).2);clear hpos;go_wp2_with fail;refine (uh HDC).mono ?_;rintro e w3 ⟨gl3,rfl,Lv,aar,hU3⟩;have HR3:=af ((uh HR2).uH hU3 Lv (.inr aar) (uh HDR).1 (uh HR).Q4.drop ⟨hB.1,hB.2.2,by omega⟩);clear Lv aar hU3 HDC;go_wp2;go_roundg (gk - 1)
    case measure=>omega
    case rel=>exact ⟨i+1,_,_,_,_,gl3,ks,zs,ws,za,zn,zc,sa,sn,sc,va,vn,vc,rfl,rfl,by simp,by omega,uh HR3⟩
   ·obtain ⟨sg,hsg⟩:∃ sg,Int.sign (-Int.fdiv (t1.cell N 0) t1.scale)=sg:=⟨_,rfl⟩;have d0:¬ (0<sg):=by
     rw [<-hsg];rcases (show -Int.fdiv (t1.cell N 0) t1.scale<0∨-Int.fdiv (t1.cell N 0) t1.scale=0 by omega) with h|h
     ·rw [E_ h];decide
     ·rw [h];decide
    have d1:decide (0<sg)=false:=Z_ d0;rw [hsg];have ae7:=af (Q6 (n:=0) (uh Rq) (uh HR2).hold (uh HR2).wide (by omega));have hP2:∀ b',w2.heap.size<=b'->Pw gc (.slice va vn vc) b':=λb' hb'=>⟨by omega,λe=>by
     obtain ⟨ys,n1,_⟩:=(uh HR2).wide;have:=(n1.lt b' e).2;omega⟩
    have DJ:=af (Au (Pw gc (.slice va vn vc)) hf (uh HR2).rt _ w2 hP2 (uh HR2).tab (uh ae7) (uh FH).1 (uh FH).2 hK);clear hsg hpos hP2;go_wp2_with fail;refine (uh DJ).mono ?_;rintro e w4 ⟨v4,gl4,t4,rfl,hT4,aas,hU4,hv4,Q7,aat,Il⟩;obtain ⟨hx,hb,hm,hd,rfl⟩:=hv4.shape;have aau:Hid (w2.heap.size<=w4.heap.size):=hU4.size;have HR4:=af (((uh HR2).uH hU4 hT4 aas aat (uh HR).Q4 ⟨hB.1,hB.2.2,by omega⟩).grow (ae.alloc w4 (.cells #[.int .i64 hx,.slice hb hm hd] 78)) (by have:=hU4.size;omega));have DR:=af (dC hv4);have ae9:=af Q7;have Uh:=af Il;have LV:=af (IY (uh HR2).rt hil Q7);have q0:=(uh DR).cells.1;have q1:=(uh DR).cells.2.1;clear hT4 hU4 hv4 Q7 aat Il DJ aas k1 k2 u0;go_wp2_with fail;refine (bY _ _ _ _ (uh DR).val).mono ?_;rintro e w5 ⟨rfl,pK⟩;have HV5:=af ((uh DR).grow pK);have Bj:=af ((uh HR4).grow pK (by have h1:=uh aau;simp;omega));have hs5:w2.heap.size<=w5.heap.size:=by have h1:=uh aau;have h2:=pK.size;simp at h2;omega
    clear pK HR4 DR q0 q1;have hown:=(uh Bj).own;have k1:w5.cell? ⟨w.heap.size,1,none⟩=some (.slice za zn zc):=by rw [cellsOf hown];rfl
    have k2:w5.cell? ⟨w.heap.size,2,none⟩=some (.slice (some ⟨gq,oq,none⟩) r.least.length lc):=by rw [cellsOf hown];rfl
    have f1:w5.frozen? ⟨w.heap.size,1,none⟩=false:=aH hown 1;have u0:w5.cell? ⟨gq,oq+i,none⟩=some (.slice ua un uc):=by
     have h1:=(uh Bj).hold gq csq _ (.inr (.inr rfl)) (uh XD).1 (uh XD).2.1;rw [World.cell?_of_block h1];exact (uh XD).2.2
    have v0:=(uh HV5).cells.1;have v1:=(uh HV5).cells.2.1;clear hown;by_cases hz:Int.fdiv (t4.cell N 0) t4.scale=0
    ·have hz':Int.sign (Int.fdiv (t4.cell N 0) t4.scale)=0:=by rw [hz];rfl
     rw [hz'];have HZ:=af hz;have HRZ:Hid (aD (Pz gc (.slice sa sn sc) (.slice va vn vc)) w5 (.slice ua un uc) (r.least.getD i [])):=by
      obtain ⟨xs,n1,_⟩:=(uh Bj).kept;obtain ⟨ys,n2,_⟩:=(uh Bj).wide;exact ((uh Rq).mono (P':=(Pz gc (.slice sa sn sc) (.slice va vn vc))) (λk hk hp=>⟨hp,KI n1 (by omega),KI n2 (by omega)⟩)).holds (λk cs T hT hk hc=>(uh Bj).hold k cs T hT hk.1 hc)
     have HPZ:Hid (∀ b',w5.heap.size<=b'->(Pz gc (.slice sa sn sc) (.slice va vn vc)) b'):=λb' hb'=>⟨by omega,λe=>by
      obtain ⟨xs,n1,_⟩:=(uh Bj).kept;have:=(n1.lt b' e).2;omega,λe=>by
      obtain ⟨ys,n1,_⟩:=(uh Bj).wide;have:=(n1.lt b' e).2;omega⟩
     have Xw:Hid ((r.zero++zs).length<=1000):=by have h1:=(uh HR).Q4.pI;unfold Hid;rw [hf.zero,List.nil_append];omega
     have HK1:=af k1;clear hz hz';go_wp2_with fail;have y0:=b_ k1;have y1:=b_ k2;have y2:=b_ u0;clear k1 k2 u0 f1;refine ah (bZ [(48,λv w=>aM (Pz gc (.slice sa sn sc) (.slice va vn vc)) w v (r.zero++zs++[r.least.getD i []]))]) (gL [(48,aZ)]) 66 9 (by kernel_rfl) (by rfl) (by kernel_rfl) (aN (λ_ _ _=>aM.below) cK) ?_
     iterate 7 (refine aO λK hK=>?_;go_simp;refine hK _ ?_;clear hK K)
     refine ai aZ 39 #[.slice za zn zc,.slice ua un uc] (by rfl) (by rfl) aZ.some (λw=>by go_simp) (λwq hg hf'=>(yU (Pz gc (.slice sa sn sc) (.slice va vn vc)) (r.zero++zs) (r.least.getD i []) _ _ wq (λb' hb'=>uh HPZ b' (by have:=hg.size;omega)) ((uh Bj).zero.below hg) ((uh HRZ).below hg) (uh Xw)).mono (by rintro e w' ⟨v',rfl,hv,hb⟩;exact ⟨_,rfl,hb,hv.aB,λt ht=>by cases ht;exact hv⟩)) ?_;rintro _ ⟨ya,ym,yc,rfl⟩
     (refine aO λK hK=>?_;go_simp;refine hK _ ?_;clear hK K)
     refine aF ?_;intro w6 uB aK;have hv6:aM (Pz gc (.slice sa sn sc) (.slice va vn vc)) w6 (.slice ya ym yc) (r.zero++zs++[r.least.getD i []]):=aK 7 _ 48 (by decide) rfl rfl;rw [abd] at hv6;clear aK y0 y1 y2;have k1:=ae.cell uB (uh HK1);have hR6:=(uh Bj).grow uB (by omega);have f1:w6.frozen? ⟨w.heap.size,1,none⟩=false:=aH hR6.own 1;have Pg:=af (hR6.TA (by omega) hv6 ((uh HR).Q4.zero hil (λx hx=>by have h1:=Ty (uh HR2).rt (uh ae9) hx;rw [uh HZ] at h1;exact h1)));clear hv6 uB hR6;go_wp2;go_roundg (gk - 1)
     case measure=>omega
     case rel=>exact ⟨i+1,_,_,_,_,gl4,ks,_,ws,_,_,_,sa,sn,sc,va,vn,vc,rfl,rfl,by simp,by omega,uh Pg⟩
    ·have hpv:0<Int.fdiv (t4.cell N 0) t4.scale:=by have:=uh LV;omega
     rw [J_ hpv];have Be:=af ((uh HR).Q4.bW hil hpv (uh Uh));clear hz hpv;obtain ⟨xs,n1,n2⟩:=(uh Bj).kept;have HKX:=af n2;have hsn:sn=ks.length:=by
      rcases n1.2 with ⟨e,h0⟩|⟨g,cap,cur,e,_⟩
      ·cases e;exact h0.symm
      ·cases e;rfl
     subst hsn;have HA:=af ((uh Bj).grow (ae.alloc w5 (.cells #[.slice ua un uc] 69)) (by omega));have n3:=n1.alloc (.cells #[.slice ua un uc] 69);have hkl:ks.length<=1000:=by have h1:=(uh HR).Q4.pI;omega
     go_wp2_with (at_builtin;refine wpList_append_lies _ rfl _ _ 72 rfl (w.heap.size+2) 69 i1 (.slice none 0 0) 1 24 Tryz.underlying72 hi1 hy0 hy1 hy2 rfl (by decide) _ ks.length xs rfl n3 ⟨_,0,none⟩ 1 1 [.slice ua un uc] rfl rfl ?d1 (by simp [Value.oneCell']) (by decide) ?d2 ?d3 ?d4 _ rfl ?_)
     case d1=>exact λj u hu=>World.news_of_block (aax _ _) j u hu
     case d2=>unfold maxLen;omega
     case d3=>omega
     case d4=>simp;omega
     ·intro g6 cap6 w6 hown hgrow hat Sv;have XE:=(uh HA).ae1 (by omega) (by omega) ⟨by omega,by omega⟩ n3 (uh HKX) hgrow (by rw [H_];exact hat) hown (uh Rq);have hgA:=ae.alloc w5 (.cells #[.slice ua un uc] 69);have o6:=(XE.2.2.2.2.2.2.1 w.heap.size (by omega)).trans (uh HA).own;have p6:=(XE.2.2.2.2.2.2.1 (w.heap.size+1) (by omega)).trans (uh HA).res;have hV6:bB (·≠gc) w6 w4.heap.size hx hb hm hd (Int.fdiv (t4.cell N 0) t4.scale):=by
       have h1:=(uh HV5).grow hgA;exact ⟨(aA.grown n3 hgrow (by decide) _ _ h1.heap).trans h1.heap,(h1.val.bW (aA.grown n3 hgrow (by decide))).mono (λk _ hk=>hk.1)⟩
      obtain ⟨ys,m1,m2⟩:=XE.2.2.1;have hvn:vn=ws.length:=by
       rcases m1.2 with ⟨e,h0⟩|⟨g,cap,cur,e,_⟩
       ·cases e;exact h0.symm
       ·cases e;rfl
      subst hvn;have m3:=m1.alloc (.cells #[.int .i64 hx,.slice hb hm hd] 78);have Fb:=af m2;have Oj:=af XE;have wI:=af hV6;have HOP:=af (x_ o6 p6);have hwl:ws.length<=1000:=by have h1:=(uh HR).Q4.pI;have h2:=(uh HR).Q4.len;omega
      have x0:=hV6.cells.1;have x1:=hV6.cells.2.1;have al6:=XE.2.2.2.2.2.2.2;clear hown hgrow hat Sv XE hV6 o6 p6 k1 k2 u0 f1 v0 v1 n1 n2 n3 m1 m2;go_wp2_with (at_builtin;refine wpList_append_lies _ rfl _ _ 69 rfl (w.heap.size+2) 78 i0 (.agg #[.int .i64 0,.slice none 0 0]) 2 32 Tryz.underlying69 hi0 hz0 hz1 hz2 rfl (by decide) _ ws.length ys rfl m3 ⟨_,0,none⟩ 1 1 [.int .i64 hx,.slice hb hm hd] rfl rfl (λj u hu=>World.news_of_block (aax _ _) j u hu) (by simp [Value.oneCell']) (by decide) ?d2 ?d3 ?d4 _ rfl ?_)
      case d2=>unfold maxLen;omega
      case d3=>omega
      case d4=>first | omega | (simp;omega)
      ·intro g7 afb w7 hown hgrow hat Qv;have hgB:=ae.alloc w6 (.cells #[.int .i64 hx,.slice hb hm hd] 78);obtain ⟨a1,a2,a3,a4,a5,a6,a7,a8⟩:=uh Oj;obtain ⟨xs2,a11,a12⟩:=a1;have SI:=kW.ae2 (a2.below hgB) ⟨xs2,aW a11 (.aX hgB),a12⟩ (a4.trans (.aX hgB)) (a5.grow hgB) (a6.trans (aam hgB (by omega))) (by simp;omega) (show B<=w.heap.size+2 by omega) (by omega) m3 ((uh Fb).grow hgB) hgrow (by rw [H_];exact hat) hown ((uh wI).val.below hgB);obtain ⟨b1,b2,b3,b4,b5,b6,b7,b8⟩:=SI;have Pg:Hid (kW r L gc B w (w.heap.size+2) w7 b (i+1) D U N t4.cut gl4 (ks++[r.least.getD i []]) zs (ws++[Int.fdiv (t4.cell N 0) t4.scale]) za zn zc (some ⟨gq,oq,none⟩) r.least.length lc ta tn tc (.slice (some ⟨g6,0,none⟩) (ks.length+1) cap6) (.slice (some ⟨g7,0,none⟩) (ws.length+1) afb)) :=
        ⟨(b7 w.heap.size (by omega)).trans (Below.same hgB _ _ (uh HOP).1),(b7 (w.heap.size+1) (by omega)).trans (Below.same hgB _ _ (uh HOP).2),b2,b4,b5,(uh Bj).rt,b3,b1,uh Be,b6,(uh Bj).OB,b8⟩
       clear hown hgrow hat Qv a2 a3 a4 a5 a6 a7 a8 a11 a12 b1 b2 b3 b4 b5 b6 b7 b8 x0 x1 m3;go_wp2;go_roundg (gk - 1)
       case measure=>omega
       case rel=>exact ⟨i+1,_,_,_,_,gl4,_,zs,_,za,zn,zc,_,_,_,_,_,_,rfl,rfl,by simp,by omega,uh Pg⟩
  ·have hil:i=r.least.length:=by have:=uh KL;omega
   obtain ⟨xs,n1,n2⟩:=(uh HR).kept;have HKS:Hid (aM PT wr (.slice sa sn sc) ks):=((n2.grow (uh HR).hold).rows n1 (λg hg=>show g≠gc by omega)).mono (λ_ _ _=>trivial);have HWS:Hid (aD PT wr (.slice va vn vc) ws):=((uh HR).wide.row (λg hg=>show g≠gc by omega)).mono (λ_ _ _=>trivial);have HZS:Hid (aM PT wr (.slice za zn zc) (r.zero++zs)):=(uh HR).zero.mono (λ_ _ _=>trivial);have HTS:Hid (aM PT wr (.slice ta tn tc) r.told):=((uh HT3).holds (uh HR).hold).mono (λ_ _ _=>trivial);have HP:Hid (uz r L ks zs ws):=⟨D,by have:=(uh HR).Q4;rwa [hil] at this,(uh HR).rt.free⟩;have f2:=kf 2;have hb:=(uh HR).own;have hr:=(uh HR).res;obtain ⟨WF,VC⟩:∃ W,wr.setCell ⟨w.heap.size,2,none⟩ (.slice sa sn sc)=W:=⟨_,rfl⟩;have HH:Hid (Holds PT wr WF):=by unfold Hid;rw [<-VC];exact bQ hb (by decide) (λe=>absurd e (by decide)) _ _
   have o1:WF.heap[w.heap.size]?=some (.cells #[.int .i64 r.size,.slice za zn zc,.slice sa sn sc,.slice ta tn tc] 74 (0,0)):=by
    rw [<-VC];have:=j_ wr w.heap.size 2 _ _ (.slice sa sn sc) hb;exact this
   have o2:WF.heap[w.heap.size+1]?=some (.cells #[.int .i64 0,.slice none 0 0,.slice none 0 0,.slice none 0 0] 74 (0,0)):=by
    rw [<-VC];exact (l_ _ _ _ _ (show w.heap.size+1≠w.heap.size by omega)).trans hr
   have HBF:Hid (Below B w WF):=by unfold Hid;rw [<-VC];exact B_ (p:=⟨w.heap.size,2,none⟩) (uh HR).below (by show B<=w.heap.size;omega) _
   have j0:WF.cell? ⟨w.heap.size,0,none⟩=some (.int .i64 r.size):=by rw [cellsOf o1];rfl
   have j1:WF.cell? ⟨w.heap.size,1,none⟩=some (.slice za zn zc):=by rw [cellsOf o1];rfl
   have j2:WF.cell? ⟨w.heap.size,2,none⟩=some (.slice sa sn sc):=by rw [cellsOf o1];rfl
   have j3:WF.cell? ⟨w.heap.size,3,none⟩=some (.slice ta tn tc):=by rw [cellsOf o1];rfl
   have z0:WF.cell? ⟨w.heap.size+1,0,none⟩=some (.int .i64 0):=by rw [cellsOf o2];rfl
   have z1:WF.cell? ⟨w.heap.size+1,1,none⟩=some (.slice none 0 0):=by rw [cellsOf o2];rfl
   have z2:WF.cell? ⟨w.heap.size+1,2,none⟩=some (.slice none 0 0):=by rw [cellsOf o2];rfl
   have z3:WF.cell? ⟨w.heap.size+1,3,none⟩=some (.slice none 0 0):=by rw [cellsOf o2];rfl
   have y0:=aH o2 0;have y1:=aH o2 1;have y2:=aH o2 2;have y3:=aH o2 3;have Rp:=af (IZ (P:=PT) (uh HBF) (show B<=w.heap.size+1 by omega) o2 (r.size:Int) za zn zc sa sn sc ta tn tc);have Qw:Hid (jT PT ((((WF.setCell ⟨w.heap.size+1,0,none⟩ (.int .i64 r.size)).setCell ⟨w.heap.size+1,1,none⟩ (.slice za zn zc)).setCell ⟨w.heap.size+1,2,none⟩ (.slice sa sn sc)).setCell ⟨w.heap.size+1,3,none⟩ (.slice ta tn tc)) (.agg #[.int .i64 r.size,.slice za zn zc,.slice sa sn sc,.slice ta tn tc]) (r.trim ks zs)):=⟨_,_,_,rfl,((uh HZS).holds (uh HH)).holds (uh Rp).2,((uh HKS).holds (uh HH)).holds (uh Rp).2,((uh HTS).holds (uh HH)).holds (uh Rp).2⟩;have HWF:=af (((uh HWS).holds (uh HH)).holds (uh Rp).2);clear hb hr o1 o2 n1 n2 kf k0 k1 k3;go_wp2;exact t_ (v:=.tuple #[.agg #[.int .i64 r.size,.slice za zn zc,.slice sa sn sc,.slice ta tn tc],.slice va vn vc]) (by simp [results,Tryz.results51,go_sem,z0,z1,z2,z3]) rfl ⟨_,_,ks,zs,ws,rfl,⟨_,_,_,_,_,_,_,_,_,_,rfl⟩,uh Qw,uh HWF,(uh Rp).1,uh HP⟩
end
def dE (ws:List Int):Nat->Int
 | 0=>0
 | i+1=>if dE ws i<ws.getD i 0 then ws.getD i 0 else dE ws i
theorem EJ (ws:List Int):∀ i k,k<i->ws.getD k 0<=dE ws i
 | 0,k,h=>by omega
 | i+1,k,h=>by
  unfold dE;rcases (show k<i∨k=i by omega) with h1|h1
  ·have:=EJ ws i k h1
   split <;> omega
  ·subst h1
   split <;> omega
theorem pO {K:Nat} {ws:List Int} (h:∀ k,Pl.Lt K (ws.getD k 0)):∀ i,Pl.Lt K (dE ws i)
 | 0=>lq K
 | i+1=>by
  unfold dE
  split
  ·exact h i
  ·exact pO h i
def dI (ws:List Int) (m k:Nat):Int:=Int.fdiv (dE ws m) (ws.getD k 0)*Int.fdiv (dE ws m) (ws.getD k 0)
theorem JF {ws:List Int} {m k:Nat} (hk:k<m) (hp:0<ws.getD k 0):0<dI ws m k:=by
 have h1:=EJ ws m k hk;have h2:1<=Int.fdiv (dE ws m) (ws.getD k 0):=by
  rw [S_ _ (by omega)];exact (aa7 hp).2 (by omega)
 unfold dI;exact Int.mul_pos (by omega) (by omega)
theorem zH {K:Nat} {ws:List Int} (h:∀ k,Pl.Lt K (ws.getD k 0)) {m k:Nat} (hp:0<ws.getD k 0):Pl.Lt (2*K) (dI ws m k):=by
 unfold dI;exact (((pO h m).fdiv hp).mul ((pO h m).fdiv hp)).mono (by omega)
def mH (a:Nat->Nat->Int) (wt:Nat->Int) (k i j x y:Nat):Int:=if x<i∨x=i∧y<j then Pl.ig (k+1) a wt x y else Pl.ig k a wt x y
section
variable {a:Nat->Nat->Int} {wt:Nat->Int} {k i j:Nat}
theorem Nu (x y:Nat):Pl.ig (k+1) a wt x y=Pl.ig k a wt x y+(wt k*a k (x+1))*a k (y+1):=by
 unfold Pl.ig;rw [Pl.sm]
theorem Nv:mH a wt k i j i j=Pl.ig k a wt i j:=g_ (by omega)
theorem Kg (x y:Nat):lK (mH a wt k i j) i j (Pl.ig k a wt i j+(wt k*a k (i+1))*a k (j+1)) x y=mH a wt k i (j+1) x y:=by
 unfold lK mH;by_cases h1:x=i∧y=j
 ·rw [h_ h1,h_ (by omega),h1.1,h1.2,Nu]
 ·rw [g_ h1];by_cases h2:x<i∨x=i∧y<j
  ·rw [h_ h2,h_ (by omega)]
  ·rw [g_ h2,g_ (by omega)]
theorem Kh {n x y:Nat} (hy:y<n):mH a wt k i n x y=mH a wt k (i+1) 0 x y:=by
 unfold mH;by_cases h2:x<i∨x=i∧y<n
 ·rw [h_ h2,h_ (by omega)]
 ·rw [g_ h2,g_ (by omega)]
theorem FU (x y:Nat):mH a wt k 0 0 x y=Pl.ig k a wt x y:=g_ (by omega)
theorem Ki {n x y:Nat} (hx:x<n):mH a wt k n 0 x y=Pl.ig (k+1) a wt x y:=h_ (.inl hx)
theorem GH {K L m:Nat} (hm:m<1073741824) (ha:∀ k y,Pl.Lt L (a k y)) (hw:∀ k,k<m->Pl.Lt K (wt k)) (x y:Nat):Pl.Lt (K+2*L+1) (Pl.ig m a wt x y):=by
 unfold Pl.ig;exact (Pl.Lt.sum (λk hk=>(((hw k hk).mul (ha k (x+1))).mul (ha k (y+1))).mono (show _<=K+2*L by omega)) hm)
end
end Go.Proofs.YtgaafamcajcifaaGreat
