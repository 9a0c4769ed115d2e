/- Joined: XLat14 XLat15. -/
import Derived.Test.YtfaljekgpnbmiaaJ26
set_option linter.unusedVariables false
set_option linter.unusedSimpArgs false
set_option maxRecDepth 100000
namespace Go.Proofs.Ytfaljekgpnbmiaa
open Go.RowKit Go.Sort
theorem RowIn.keepT {P:Nat→Prop} {w w':World} {g n:Nat} {f:Nat→Int} (h:RowIn P w g n f) (h1:KeepT 82 w w') (h2:KeepT 3 w w'):RowIn P w' g n f:=by
 obtain ⟨cs,d1,d2,d3⟩:=h
 refine ⟨cs,(h1 g cs d1).trans d1,d2,fun i hi=>?_⟩
 obtain ⟨x,a,m,c,e1,e2,e3⟩:=d3 i hi
 exact ⟨x,a,m,c,e1,e2,e3.keep h2⟩
theorem Fam.keepT {P:Nat→Prop} {w w':World} {N:Nat} {R len:Nat→Nat} {f:Nat→Nat→Int} (h:Fam P w N R len f) (h1:KeepT 82 w w') (h2:KeepT 3 w w'):Fam P w' N R len f:=⟨fun r hr=>(h.rows r hr).keepT h1 h2,h.inj⟩
theorem Fam.snoc {P:Nat→Prop} {w:World} {N:Nat} {R len:Nat→Nat} {f:Nat→Nat→Int} (h:Fam P w N R len f) {g:Nat} {fr:Nat→Int} (hr:RowIn P w g (len N) fr) (hne:∀ r,r<N→R r≠g) (hf:∀ i,i<len N→f N i=fr i):Fam P w (N+1) (fun r=>if r=N then g else R r) len f:=by
 refine ⟨fun r hr'=>?_,fun r s hr' hs e=>?_⟩
 ·by_cases e:r=N
  ·rw [if_pos e,e];exact hr.congr (fun i hi=>(hf i hi).symm)
  ·rw [if_neg e];exact h.rows r (by omega)
 ·by_cases e1:r=N <;> by_cases e2:s=N
  ·omega
  ·rw [if_pos e1,if_neg e2] at e;exact absurd e.symm (hne s (by omega))
  ·rw [if_neg e1,if_pos e2] at e;exact absurd e (hne r (by omega))
  ·rw [if_neg e1,if_neg e2] at e;exact h.inj r s (by omega) (by omega) e
def Apart (v u:Value):Prop:=∀ g,v.ownBlock=some g→u.ownBlock≠some g
theorem Apart.symm {v u:Value} (h:Apart v u):Apart u v:=fun g e1 e2=>h g e2 e1
theorem other_kept {w w':World} {B:Nat} {e:TypeId} {s n:Nat} {v u:Value} {xs:List Value} (h:w.ownsRow B e s u n xs) (hg:w.grownBy w' v.ownBlock) (ha:Apart v u) {g k cap:Nat} (hat:v.ownBlock=some g∨g=w.heap.size):w'.ownsRow B e s u n xs∧Apart (.slice (some ⟨g,0,none⟩) k cap) u:=by
 refine ⟨h.kept hg ?_,fun g' e1 e2=>?_⟩
 ·rcases hu:u.ownBlock with _ | k
  ·exact .inl rfl
  ·refine .inr fun e3=>?_
   exact ha k e3.symm hu
 ·have e4:g=g':=by simpa [Value.ownBlock] using e1
  subst e4
  rcases hat with h1|h1
  ·exact ha g h1 e2
  ·have:=(h.lt g e2).2;omega
structure Laid (P:Nat→Prop) (B:Nat) (w:World) (n N b:Nat) (vs vp vo:Value) (ks kp ko:Nat) (R:Nat→Nat) (f:Nat→Nat→Int):Prop where
 own:w.heap[b]?=some (.cells #[vs,vp,.slice (some ⟨R 0,0,none⟩) (n+1) (n+1),vo] 176 (0,0))
 fam:Fam P w N R (fun r=>if r=0 then n+1 else n) f
 s:w.ownsRow B 73 1 vs ks ((List.range ks).map fun a=>.slice (some ⟨R (3*a+1),0,none⟩) n n)
 p:w.ownsRow B 73 1 vp kp ((List.range kp).map fun a=>.slice (some ⟨R (3*a+2),0,none⟩) n n)
 o:w.ownsRow B 73 1 vo ko ((List.range ko).map fun a=>.slice (some ⟨R (3*a+3),0,none⟩) n n)
 sp:Apart vs vp
 so:Apart vs vo
 po:Apart vp vo
 base:B≤b∧∀ r,r<N→B≤R r
 lim:0<N∧(∀ a,a<ks→3*a+1<N)∧(∀ a,a<kp→3*a+2<N)∧∀ a,a<ko→3*a+3<N
section
variable {P:Nat→Prop} {B:Nat} {w w':World} {n N b ks kp ko:Nat} {vs vp vo:Value} {R:Nat→Nat} {f:Nat→Nat→Int}
theorem Laid.grow (h:Laid P B w n N b vs vp vo ks kp ko R f) (hg:Grows w w'):Laid P B w' n N b vs vp vo ks kp ko R f :=
 ⟨Below.same hg _ _ h.own,h.fam.grow hg,own_keep h.s (.of_below hg),own_keep h.p (.of_below hg),own_keep h.o (.of_below hg),h.sp,h.so,h.po,h.base,h.lim⟩
theorem own_set {w:World} {B:Nat} {n b o:Nat} {v u:Value} {xs:List Value} {cs:Array Value} (h:w.ownsRow B 73 1 v n xs) (hb:w.heap[b]?=some (.cells cs 176 (0,0))):(w.setCell ⟨b,o,none⟩ u).ownsRow B 73 1 v n xs:=own_keep h (KeepT.setCell hb (by decide) _ _)
theorem Laid.addS (h:Laid P B w n N b vs vp vo ks kp ko R f) {g cap:Nat} (hN:3*ks+1<N) (hg:w.grownBy w' vs.ownBlock) (hat:vs.ownBlock=some g∨g=w.heap.size) (ho:w'.ownsRow B 73 1 (.slice (some ⟨g,0,none⟩) (ks+1) cap) (ks+1) ((List.range ks).map (fun a=>.slice (some ⟨R (3*a+1),0,none⟩) n n)++[.slice (some ⟨R (3*ks+1),0,none⟩) n n])) :
  Laid P B (w'.setCell ⟨b,0,none⟩ (.slice (some ⟨g,0,none⟩) (ks+1) cap)) n N b (.slice (some ⟨g,0,none⟩) (ks+1) cap) vp vo (ks+1) kp ko R f∧Below B w (w'.setCell ⟨b,0,none⟩ (.slice (some ⟨g,0,none⟩) (ks+1) cap))∧w'.heap[b]?=w.heap[b]?:=by
 have kt:∀ e:TypeId,73≠e→KeepT e w w':=fun e he=>KeepT.grown h.s hg he
 have hb:w'.heap[b]?=w.heap[b]?:=kt _ (by decide) b _ h.own
 have hb':=hb.trans h.own
 obtain ⟨p1,a1⟩:=other_kept (k:=ks+1) (cap:=cap) h.p hg h.sp hat
 obtain ⟨o1,a2⟩:=other_kept (k:=ks+1) (cap:=cap) h.o hg h.so hat
 refine ⟨⟨heap_setCell_same w' b 0 _ _ _ hb',?_,?_,own_set p1 hb',own_set o1 hb',a1,a2,h.po,h.base,h.lim.1,fun a ha=>(show 3*a+1<N by omega),h.lim.2.2⟩,?_,hb⟩
 ·exact (h.fam.keepT (kt _ (by decide)) (kt _ (by decide))).keepT (KeepT.setCell hb' (by decide) _ _) (KeepT.setCell hb' (by decide) _ _)
 ·rw [List.range_succ,List.map_append];exact own_set ho hb'
 ·refine Below.setCell (p:=⟨b,0,none⟩) (Below.grown (Below.refl _ _) hg ?_ (own_base h.s)) h.base.1 _
  have:=lt_of_block h.own;have:=h.base.1;omega
theorem Laid.addP (h:Laid P B w n N b vs vp vo ks kp ko R f) {g cap:Nat} (hN:3*kp+2<N) (hg:w.grownBy w' vp.ownBlock) (hat:vp.ownBlock=some g∨g=w.heap.size) (ho:w'.ownsRow B 73 1 (.slice (some ⟨g,0,none⟩) (kp+1) cap) (kp+1) ((List.range kp).map (fun a=>.slice (some ⟨R (3*a+2),0,none⟩) n n)++[.slice (some ⟨R (3*kp+2),0,none⟩) n n])) :
  Laid P B (w'.setCell ⟨b,1,none⟩ (.slice (some ⟨g,0,none⟩) (kp+1) cap)) n N b vs (.slice (some ⟨g,0,none⟩) (kp+1) cap) vo ks (kp+1) ko R f∧Below B w (w'.setCell ⟨b,1,none⟩ (.slice (some ⟨g,0,none⟩) (kp+1) cap))∧w'.heap[b]?=w.heap[b]?:=by
 have kt:∀ e:TypeId,73≠e→KeepT e w w':=fun e he=>KeepT.grown h.p hg he
 have hb:w'.heap[b]?=w.heap[b]?:=kt _ (by decide) b _ h.own
 have hb':=hb.trans h.own
 obtain ⟨p1,a1⟩:=other_kept (k:=kp+1) (cap:=cap) h.s hg h.sp.symm hat
 obtain ⟨o1,a2⟩:=other_kept (k:=kp+1) (cap:=cap) h.o hg h.po hat
 refine ⟨⟨heap_setCell_same w' b 1 _ _ _ hb',?_,own_set p1 hb',?_,own_set o1 hb',a1.symm,h.so,a2,h.base,h.lim.1,h.lim.2.1,fun a ha=>(show 3*a+2<N by omega),h.lim.2.2.2⟩,?_,hb⟩
 ·exact (h.fam.keepT (kt _ (by decide)) (kt _ (by decide))).keepT (KeepT.setCell hb' (by decide) _ _) (KeepT.setCell hb' (by decide) _ _)
 ·rw [List.range_succ,List.map_append];exact own_set ho hb'
 ·refine Below.setCell (p:=⟨b,1,none⟩) (Below.grown (Below.refl _ _) hg ?_ (own_base h.p)) h.base.1 _
  have:=lt_of_block h.own;have:=h.base.1;omega
theorem Laid.addO (h:Laid P B w n N b vs vp vo ks kp ko R f) {g cap:Nat} (hN:3*ko+3<N) (hg:w.grownBy w' vo.ownBlock) (hat:vo.ownBlock=some g∨g=w.heap.size) (ho:w'.ownsRow B 73 1 (.slice (some ⟨g,0,none⟩) (ko+1) cap) (ko+1) ((List.range ko).map (fun a=>.slice (some ⟨R (3*a+3),0,none⟩) n n)++[.slice (some ⟨R (3*ko+3),0,none⟩) n n])) :
  Laid P B (w'.setCell ⟨b,3,none⟩ (.slice (some ⟨g,0,none⟩) (ko+1) cap)) n N b vs vp (.slice (some ⟨g,0,none⟩) (ko+1) cap) ks kp (ko+1) R f∧Below B w (w'.setCell ⟨b,3,none⟩ (.slice (some ⟨g,0,none⟩) (ko+1) cap))∧w'.heap[b]?=w.heap[b]?:=by
 have kt:∀ e:TypeId,73≠e→KeepT e w w':=fun e he=>KeepT.grown h.o hg he
 have hb:w'.heap[b]?=w.heap[b]?:=kt _ (by decide) b _ h.own
 have hb':=hb.trans h.own
 obtain ⟨p1,a1⟩:=other_kept (k:=ko+1) (cap:=cap) h.s hg h.so.symm hat
 obtain ⟨o1,a2⟩:=other_kept (k:=ko+1) (cap:=cap) h.p hg h.po.symm hat
 refine ⟨⟨heap_setCell_same w' b 3 _ _ _ hb',?_,own_set p1 hb',own_set o1 hb',?_,h.sp,a1.symm,a2.symm,h.base,h.lim.1,h.lim.2.1,h.lim.2.2.1,fun a ha=>(show 3*a+3<N by omega)⟩,?_,hb⟩
 ·exact (h.fam.keepT (kt _ (by decide)) (kt _ (by decide))).keepT (KeepT.setCell hb' (by decide) _ _) (KeepT.setCell hb' (by decide) _ _)
 ·rw [List.range_succ,List.map_append];exact own_set ho hb'
 ·refine Below.setCell (p:=⟨b,3,none⟩) (Below.grown (Below.refl _ _) hg ?_ (own_base h.o)) h.base.1 _
  have:=lt_of_block h.own;have:=h.base.1;omega
theorem Laid.row (h:Laid P B w n N b vs vp vo ks kp ko R f) {g:Nat} {fr:Nat→Int} (h1:RowIn P w g n fr) (hne:∀ r,r<N→R r≠g) (e1:∀ k,k<n→f N k=fr k) (hB:B≤g) :
  ∃ R',Laid P B w n (N+1) b vs vp vo ks kp ko R' f∧R' N=g∧∀ r,r<N→R' r=R r:=by
 obtain ⟨l0,l1,l2,l3⟩:=h.lim
 have F1:=h.fam.snoc (g:=g) (fr:=fr) (by rw [if_neg (by omega)];exact h1) hne (fun k hk=>e1 k (by rwa [if_neg (by omega)] at hk))
 obtain ⟨R',hR'⟩:∃ R',R'=(fun r=>if r=N then g else R r):=⟨_,rfl⟩
 rw [←hR'] at F1
 have eR:∀ r,r<N→R' r=R r:=fun r hr=>by rw [hR'];show (if _ then _ else _)=_;rw [if_neg (by omega)]
 have g1':R' N=g:=by rw [hR'];show (if _ then _ else _)=_;rw [if_pos rfl]
 have em:∀ c k,(∀ a,a<k→3*a+c<N)→(List.range k).map (fun a=>Value.slice (some ⟨R (3*a+c),0,none⟩) n n)=(List.range k).map (fun a=>Value.slice (some ⟨R' (3*a+c),0,none⟩) n n):=fun c k hc=>List.map_congr_left fun a ha=>by rw [eR _ (hc a (List.mem_range.1 ha))]
 refine ⟨R',⟨by rw [eR 0 l0];exact h.own,F1,by rw [←em 1 ks l1];exact h.s,by rw [←em 2 kp l2];exact h.p,by rw [←em 3 ko l3];exact h.o,h.sp,h.so,h.po,⟨h.base.1,fun r hr=>?_⟩,by omega,fun a ha=>by have:=l1 a ha;omega,fun a ha=>by have:=l2 a ha;omega,fun a ha=>by have:=l3 a ha;omega⟩,g1',eR⟩
 rcases (show r<N∨r=N by omega) with h4|h4
 ·rw [eR r h4];exact h.base.2 r h4
 ·rw [h4,g1'];exact hB
def latR (n:Nat) (R:Nat→Nat) (r:Nat):Nat:=if r<n then R (3*r+1) else if r<2*n then R (3*(r - n)+2) else if r<3*n then R (3*(r - 2*n)+3) else R 0
theorem head_of {w:World} {B n k c g cap off:Nat} {R R':Nat→Nat} (h:w.ownsRow B 73 1 (.slice (some ⟨g,0,none⟩) k cap) k ((List.range k).map fun a=>.slice (some ⟨R (3*a+c),0,none⟩) n n)) (hk:0<k) (he:∀ a,a<k→R' (off+a)=R (3*a+c)):HeadAt w g k R' off n∧k≤cap∧B≤g:=by
 rcases h.2 with ⟨e,h0⟩|⟨g',cap',cur,e,hb,hcur,hle,_,hsz,htk⟩
 ·omega
 ·cases e
  refine ⟨⟨cur,hcur,fun i hi=>?_⟩,hle,hb⟩
  have:(cur.toList.take (k*1))[i]?=some (.slice (some ⟨R (3*i+c),0,none⟩) n n):=by
   rw [htk,List.getElem?_map,List.getElem?_range hi];rfl
  rw [List.getElem?_take_of_lt (by omega)] at this
  rw [he i hi]
  simpa using this
theorem Laid.done (h:Laid P B w n (3*n+1) b vs vp vo n n n R f) (hn:0<n):∃ gs gp go cs cp co,LatMem P B w n b gs gp go cs cp co (latR n R) (fun a=>f (3*a+1)) (fun a=>f (3*a+2)) (fun a=>f (3*a+3)) (f 0):=by
 obtain ⟨gs,cs,rfl,_⟩:=h.s.form hn
 obtain ⟨gp,cp,rfl,_⟩:=h.p.form hn
 obtain ⟨go,co,rfl,_⟩:=h.o.form hn
 have e0:latR n R (3*n)=R 0:=by unfold latR;rw [if_neg (by omega),if_neg (by omega),if_neg (by omega)]
 have r1:∀ a,a<n→latR n R (0+a)=R (3*a+1):=fun a ha=>by unfold latR;rw [if_pos (by omega),Nat.zero_add]
 have r2:∀ a,a<n→latR n R (n+a)=R (3*a+2):=fun a ha=>by unfold latR;rw [if_neg (by omega),if_pos (by omega),Nat.add_sub_cancel_left]
 have r3:∀ a,a<n→latR n R (2*n+a)=R (3*a+3):=fun a ha=>by unfold latR;rw [if_neg (by omega),if_neg (by omega),if_pos (by omega),Nat.add_sub_cancel_left]
 obtain ⟨s1,s2,s3⟩:=head_of h.s hn r1
 obtain ⟨p1,p2,p3⟩:=head_of h.p hn r2
 obtain ⟨o1,o2,o3⟩:=head_of h.o hn r3
 have idx:∀ r,r<3*n+1→∃ q,q<3*n+1∧latR n R r=R q∧q=(if r<n then 3*r+1 else if r<2*n then 3*(r - n)+2 else if r<3*n then 3*(r - 2*n)+3 else 0):=fun r hr=>by
  unfold latR
  by_cases c1:r<n
  ·exact ⟨3*r+1,by omega,by rw [if_pos c1],by rw [if_pos c1]⟩
  ·by_cases c2:r<2*n
   ·exact ⟨3*(r - n)+2,by omega,by rw [if_neg c1,if_pos c2],by rw [if_neg c1,if_pos c2]⟩
   ·by_cases c3:r<3*n
    ·exact ⟨3*(r - 2*n)+3,by omega,by rw [if_neg c1,if_neg c2,if_pos c3],by rw [if_neg c1,if_neg c2,if_pos c3]⟩
    ·exact ⟨0,by omega,by rw [if_neg c1,if_neg c2,if_neg c3],by rw [if_neg c1,if_neg c2,if_neg c3]⟩
 refine ⟨gs,gp,go,cs,cp,co,by rw [e0];exact h.own,⟨fun r hr=>?_,fun r s hr hs e=>?_⟩,s1,p1,o1,⟨fun e=>h.sp gs rfl (by rw [e];rfl),fun e=>h.po gp rfl (by rw [e];rfl),fun e=>h.so gs rfl (by rw [e];rfl)⟩,⟨h.base.1,s3,p3,o3,fun r hr=>?_⟩,s2,p2,o2⟩
 ·obtain ⟨q,hq,eq1,eq2⟩:=idx r hr
  rw [eq1]
  have h1:=h.fam.rows q hq
  unfold latF latLen
  by_cases c1:r<n
  ·rw [if_pos c1] at eq2;rw [if_neg (by omega)];rw [if_neg (by omega)] at h1;exact h1.congr fun i _=>by rw [if_pos c1,eq2]
  ·rw [if_neg c1] at eq2
   by_cases c2:r<2*n
   ·rw [if_pos c2] at eq2;rw [if_neg (by omega)];rw [if_neg (by omega)] at h1;exact h1.congr fun i _=>by rw [if_neg c1,if_pos c2,eq2]
   ·rw [if_neg c2] at eq2
    by_cases c3:r<3*n
    ·rw [if_pos c3] at eq2;rw [if_neg (by omega)];rw [if_neg (by omega)] at h1;exact h1.congr fun i _=>by rw [if_neg c1,if_neg c2,if_pos c3,eq2]
    ·rw [if_neg c3] at eq2;rw [if_pos (by omega)];rw [if_pos (by omega)] at h1;exact h1.congr fun i _=>by rw [if_neg c1,if_neg c2,if_neg c3,eq2]
 ·obtain ⟨q,hq,eq1,eq2⟩:=idx r hr
  obtain ⟨q',hq',eq1',eq2'⟩:=idx s hs
  rw [eq1,eq1'] at e
  have:=h.fam.inj q q' hq hq' e
  split at eq2 <;> split at eq2' <;> (try split at eq2) <;> (try split at eq2') <;> (try split at eq2) <;> (try split at eq2') <;> omega
 ·obtain ⟨q,hq,eq1,_⟩:=idx r hr
  rw [eq1];exact h.base.2 q hq
end
def startF (Pf:Nat→Nat→Int) (r j:Nat):Int:=if r=0 then (if j=0 then 1 else 0) else if (r - 1)%3=0 then Pl.unit ((r - 1)/3) j else if (r - 1)%3=1 then Pf ((r - 1)/3) j else 0
theorem startF_s (Pf:Nat→Nat→Int) (i j:Nat):startF Pf (3*i+1) j=Pl.unit i j:=by
 unfold startF;rw [if_neg (by omega),if_pos (by omega),show (3*i+1 - 1)/3=i by omega]
theorem startF_p (Pf:Nat→Nat→Int) (i j:Nat):startF Pf (3*i+2) j=Pf i j:=by
 unfold startF;rw [if_neg (by omega),if_neg (by omega),if_pos (by omega),show (3*i+2 - 1)/3=i by omega]
theorem startF_o (Pf:Nat→Nat→Int) (i j:Nat):startF Pf (3*i+3) j=0:=by
 unfold startF;rw [if_neg (by omega),if_neg (by omega),if_neg (by omega)]
theorem rowin_alloc {P:Nat→Prop} (w:World) {n:Nat} (hn:n≤1000000):RowIn P (w.alloc (.cells (madeCells #[.int .i64 0,.slice none 0 0] (n*2)) 82)) w.heap.size n (fun _=>0):=by
 refine RowIn.made (B:=0) ⟨by simp [size_madeCells],.inr ⟨w.heap.size,n,_,rfl,Nat.zero_le _,slot_one _ _,Nat.le_refl _,by unfold maxLen;omega,by rw [size_madeCells],?_⟩⟩
 exact List.take_of_length_le (by rw [Array.length_toList,size_madeCells];omega)
attribute [local go_sem] valUpon
set_option maxHeartbeats 4000000 in
theorem start_any (P:Nat→Prop) (n:Nat) (ls:List (List Int)) (vp:Value) (w:World) (hP:∀ b,w.heap.size≤b→P b) (h:RowsAt P w vp ls) (hl:ls.length=n) (hr:∀ l∈ls,l.length=n) (hn0:0<n) (hn:n≤100) :
  Calls Try.prog 158 #[vp] w fun e w'=>∃ (b gs gp go cs cp co:Nat) (R:Nat→Nat) (Ov:Nat→Nat→Int) (V:Nat→Int),e=.returned (.pointer (some ⟨b,0,none⟩))∧LatMem P w.heap.size w' n b gs gp go cs cp co R Pl.unit (fun i j=>(ls.getD i []).getD j 0) Ov V∧Below w.heap.size w w'∧V 0=1:=by
 obtain ⟨i0,hi0,hz0,hz1,hz2⟩:=info_parts Try.infoWhole
 obtain ⟨i1,hi1,hy0,hy1,hy2⟩:=info_parts Try.infoRow
 obtain ⟨pa,pc,rfl⟩:∃ ad cap,vp=.slice ad ls.length cap:=by obtain ⟨ad,cap,e,_⟩:=h;exact ⟨ad,cap,e⟩
 obtain ⟨gq,oq,_,_,eq0,_⟩:=rows_cell h (i:=0) (by omega)
 cases eq0
 have HPR:=hide h
 have HLS:=hide hl
 have HLR:=hide hr
 rw [hl]
 clear h hl hr
 go_enter Try.func158,Try.ntmps158
 go_wp2_with (at_make;refine wpList_make_full _ rfl _ _ 73 rfl w.heap.size 82 i0 (.agg #[.int .i64 0,.slice none 0 0]) 2 Try.underlying73 hi0 hz0 hz1 .i64 .i64 _ _ (n+1) rfl rfl ?e1 ?e2 ?c1 ?c2 ?c3 ?_)
 case e1=>first | rfl | omega | simp
 case e2=>first | rfl | omega | simp
 case c1=>rw [hz2];omega
 case c2=>unfold maxLen;omega
 case c3=>first | omega | simp
 ·intro w1 hown hgrow
  have hG1:Grows w w1:=(Below.refl _ _).grown hgrow (Nat.le_refl _) (by intro k hk;cases hk)
  have HR0:Hid (RowIn P w1 w.heap.size (n+1) (fun _=>0)):=RowIn.made hown
  have hlt0:=(uh HR0).lt
  have HG2:Hid (Grows w (w1.alloc (.cells #[.slice none 0 0,.slice none 0 0,.slice (some ⟨w.heap.size,0,none⟩) (n+1) (n+1),.slice none 0 0] 176))):=hG1.trans (Grows.alloc _ _)
  have HB2:=hide (slot_one w1 (.cells #[.slice none 0 0,.slice none 0 0,.slice (some ⟨w.heap.size,0,none⟩) (n+1) (n+1),.slice none 0 0] 176))
  have HR2:=hide ((uh HR0).grow (Grows.alloc w1 (.cells #[.slice none 0 0,.slice none 0 0,.slice (some ⟨w.heap.size,0,none⟩) (n+1) (n+1),.slice none 0 0] 176)))
  have hbw:w.heap.size≤w1.heap.size:=hG1.size
  clear hown hgrow hG1 HR0
  go_wp2_with fail
  generalize hW2:w1.alloc (.cells #[.slice none 0 0,.slice none 0 0,.slice (some ⟨w.heap.size,0,none⟩) (n+1) (n+1),.slice none 0 0] 176)=W2 at *
  generalize w1.heap.size=b at *
  clear hW2
  have k2:W2.cell? ⟨b,2,none⟩=some (.slice (some ⟨w.heap.size,0,none⟩) (n+1) (n+1)):=by rw [cellsOf (uh HB2)];rfl
  have hn1:(0:Int)<(n:Int)+1:=by omega
  have y0:=cell_regrown k2
  clear k2
  refine wp_region_grown (phiL [(20,fun v w=>WhAt P w v 1)]) (gL [(20,ShapeI)]) 91 6 (by kernel_rfl) (by rfl) (by kernel_rfl) (phi_c (fun _ _ _=>WhAt.below) phi_n) ?_
  iterate 4 (refine lex_s fun K hK=>?_;go_simp;refine hK _ ?_;clear hK K)
  refine lex_call ShapeI 63 #[.int .i64 1] (by rfl) (by rfl) ShapeI.some (fun w=>by go_simp) (fun wq hg hf=>(Of_any P 1 wq (fun b' hb'=>hP b' (by have h1:=(uh HG2).size;have h2:=hg.size;omega)) (by decide) (by decide)).mono (by rintro e w' ⟨v',rfl,hv,hb⟩;exact ⟨_,rfl,hb,hv.shapeI,fun t ht=>by cases ht;exact hv⟩)) ?_
  rintro _ ⟨ox,oa,om,oc,rfl⟩
  (refine lex_s fun K hK=>?_;go_simp;refine hK _ ?_;clear hK K)
  refine lex_last ?_
  intro w3 hw3 hphi
  have hv3:WhAt P w3 (.agg #[.int .i64 ox,.slice oa om oc]) 1:=hphi 4 _ 20 (by decide) rfl rfl
  clear hphi y0
  have hR3:=(uh HR2).grow hw3
  obtain ⟨qx,qa,qm,qc,r0,r1,_,f0,f1⟩:=hR3.get (i:=0) (by omega)
  rw [Nat.zero_mul] at r0 r1 f0 f1
  rw [Nat.zero_add] at r1 f1
  have hset:=(hR3.set (i:=0) (by omega) hv3)
  rw [Nat.zero_mul,Nat.zero_add] at hset
  have HG3:Hid (Grows w ((w3.setCell ⟨w.heap.size,0,none⟩ (.int .i64 ox)).setCell ⟨w.heap.size,1,none⟩ (.slice oa om oc))):=(Below.setCell (p:=⟨w.heap.size,0,none⟩) (Grows.trans (uh HG2) hw3) (Nat.le_refl _) _).setCell (p:=⟨w.heap.size,1,none⟩) (Nat.le_refl _) _
  have hbne:b≠w.heap.size:=by omega
  have HL0:Hid (Laid P w.heap.size ((w3.setCell ⟨w.heap.size,0,none⟩ (.int .i64 ox)).setCell ⟨w.heap.size,1,none⟩ (.slice oa om oc)) n 1 b (.slice none 0 0) (.slice none 0 0) (.slice none 0 0) 0 0 0 (fun _=>w.heap.size) (startF fun i j=>(ls.getD i []).getD j 0)):=by
   refine ⟨(Below.heap_setCell _ _ _ _ hbne).trans ((Below.heap_setCell _ _ _ _ hbne).trans (Below.same hw3 _ _ (uh HB2))),⟨fun r hr=>?_,fun r s hr hs _=>by omega⟩,⟨rfl,.inl ⟨rfl,rfl⟩⟩,⟨rfl,.inl ⟨rfl,rfl⟩⟩,⟨rfl,.inl ⟨rfl,rfl⟩⟩,fun g e=>by simp [Value.ownBlock] at e,fun g e=>by simp [Value.ownBlock] at e,fun g e=>by simp [Value.ownBlock] at e,⟨by omega,fun r hr=>Nat.le_refl _⟩,by omega,fun a ha=>by omega,fun a ha=>by omega,fun a ha=>by omega⟩
   have e:r=0:=by omega
   subst e
   rw [if_pos rfl]
   refine hset.congr fun k _=>?_
   unfold updF startF
   rw [if_pos rfl]
  clear hv3 hw3 hR3 hset
  obtain ⟨W3,hW3⟩:∃ W,(w3.setCell ⟨w.heap.size,0,none⟩ (.int .i64 ox)).setCell ⟨w.heap.size,1,none⟩ (.slice oa om oc)=W:=⟨_,rfl⟩
  rw [hW3] at HG3 HL0
  go_wp2_with fail
  try rw [hW3]
  clear hW3 r0 r1 f0 f1 HB2 HR2 HG2 hlt0
  go_loopg [5] n (fun k iv wr=>∃ (i:Nat) (sa:Option Addr) (sn sc:Nat) (ta:Option Addr) (tn tc:Nat) (oa:Option Addr) (on oc:Nat) (R:Nat→Nat),iv=.int .i64 i∧i+k=n∧Hid (Laid P w.heap.size wr n (3*i+1) b (.slice sa sn sc) (.slice ta tn tc) (.slice oa on oc) i i i R (startF fun i j=>(ls.getD i []).getD j 0)∧Below w.heap.size w wr))
  case atStart=>exact ⟨0,none,0,0,none,0,0,none,0,0,_,rfl,by omega,uh HL0,uh HG3⟩
  case round =>
   clear HL0 HG3
   rename Nat=>gi
   rename World=>wi
   obtain ⟨i,sa,sn,sc,ta,tn,tc,oa,on,oc,R,rfl,hik,HR⟩:=hrel
   by_cases hin:i<n
   ·
    go_wp2_with (at_make;refine wpList_make_full _ rfl _ _ 73 rfl wi.heap.size 82 i0 (.agg #[.int .i64 0,.slice none 0 0]) 2 Try.underlying73 hi0 hz0 hz1 .i64 .i64 _ _ n rfl rfl ?e1 ?e2 ?c1 ?c2 ?c3 ?_)
    case e1=>first | rfl | omega | simp
    case e2=>first | rfl | omega | simp
    case c1=>rw [hz2];omega
    case c2=>unfold maxLen;omega
    case c3=>first | omega | simp
    ·intro w4 hown hgrow
     have hG4:Grows wi w4:=(Below.refl _ _).grown hgrow (Nat.le_refl _) (by intro k hk;cases hk)
     have HR4:Hid (RowIn P w4 wi.heap.size n (fun _=>0)):=RowIn.made hown
     have HG4:=hide hG4
     have hwi:w.heap.size≤wi.heap.size:=(uh HR).2.size
     clear hown hgrow hG4
     go_wp2_with fail
     refine (Of_any P 1 w4 (fun b' hb'=>hP b' (by have:=(uh HG4).size;omega)) (by decide) (by decide)).mono ?_
     rintro e w5 ⟨v5,rfl,hv5,hw5⟩
     obtain ⟨ox,ob,om,od,rfl⟩:=hv5.shape
     have hR5:=(uh HR4).grow hw5
     obtain ⟨qx,qa,qm,qc,r0,r1,_,f0,f1⟩:=hR5.get hin
     obtain ⟨W5,hW5⟩:∃ W,(w5.setCell ⟨wi.heap.size,i*2,none⟩ (.int .i64 ox)).setCell ⟨wi.heap.size,i*2+1,none⟩ (.slice ob om od)=W:=⟨_,rfl⟩
     have HR5:Hid (RowIn P W5 wi.heap.size n (Pl.unit i)):=by
      unfold Hid
      rw [←hW5]
      exact (hR5.set hin hv5).congr (fun k _=>by
       unfold updF Pl.unit
       by_cases h:k=i
       ·rw [if_pos h,if_pos h.symm]
       ·rw [if_neg h,if_neg (fun e=>h e.symm)])
     have HG5:Hid (Grows wi W5):=by
      unfold Hid
      rw [←hW5]
      exact (Below.setCell (p:=⟨wi.heap.size,i*2,none⟩) (Grows.trans (uh HG4) hw5) (Nat.le_refl _) _).setCell (p:=⟨wi.heap.size,i*2+1,none⟩) (Nat.le_refl _) _
     clear hv5 hw5 hR5 HR4 HG4
     go_wp2_with (at_make;refine wpList_make_full _ rfl _ _ 73 rfl W5.heap.size 82 i0 (.agg #[.int .i64 0,.slice none 0 0]) 2 Try.underlying73 hi0 hz0 hz1 .i64 .i64 _ _ n rfl rfl ?e1 ?e2 ?c1 ?c2 ?c3 ?_)
     case e1=>first | rfl | omega | simp
     case e2=>first | rfl | omega | simp
     case c1=>rw [hz2];omega
     case c2=>unfold maxLen;omega
     case c3=>first | omega | simp
     ·intro w6 hown hgrow
      have hG6:Grows W5 w6:=(Below.refl _ _).grown hgrow (Nat.le_refl _) (by intro k hk;cases hk)
      have HR6:Hid (RowIn P w6 W5.heap.size n (fun _=>0)):=RowIn.made hown
      have HG6:=hide hG6
      clear hown hgrow hG6 hW5 r0 r1 f0 f1
      go_wp2_with fail
      go_loopg [8] n (fun k jv wr=>∃ (j:Nat),jv=.int .i64 j∧j+k=n∧Hid (RowIn P wr W5.heap.size n (fun k=>if k<j then (ls.getD i []).getD k 0 else 0)∧Grows W5 wr))
      case atStart=>exact ⟨0,rfl,by omega,(uh HR6).congr (fun k _=>by rw [if_neg (by omega)]),uh HG6⟩
      case round =>
       clear HR6 HG6
       obtain ⟨j,rfl,hjk,HJ⟩:=hrel
       have HGW:Hid (Below w.heap.size w wr):=(uh HR).2.trans (Below.mono ((uh HG5).trans (uh HJ).2) hwi)
       obtain ⟨gu,ou,_,uu,eu,u0,hu,hmem⟩:=rows_cell ((uh HPR).below (uh HGW)) (i:=i) (by rw [uh HLS];exact hin)
       rw [uh HLS] at eu
       cases eu
       have hul:=uh HLR _ hmem
       obtain ⟨ua,uc,rfl⟩:∃ ad cap,uu=.slice ad n cap:=by obtain ⟨ad,cap,e,_⟩:=hu;rw [hul] at e;exact ⟨ad,cap,e⟩
       have HU:=hide hu
       have HUL:=hide hul
       clear hu hmem hul
       by_cases hjn:j<n
       ·obtain ⟨gx,ox',cx,xx,xa,xm,xc,ex,x0,x1,hx⟩:=row_cell (uh HU) (i:=j) (by rw [uh HUL];exact hjn)
        rw [uh HUL] at ex
        cases ex
        obtain ⟨qx,qa,qm,qc,r0,r1,_,f0,f1⟩:=(uh HJ).1.get hjn
        have HS:Hid (RowIn P ((wr.setCell ⟨W5.heap.size,j*2,none⟩ (.int .i64 xx)).setCell ⟨W5.heap.size,j*2+1,none⟩ (.slice xa xm xc)) W5.heap.size n (fun k=>if k<j+1 then (ls.getD i []).getD k 0 else 0)):=((uh HJ).1.set hjn hx).congr (fun k _=>by
         unfold updF
         try dsimp only
         by_cases h:k=j
         ·rw [if_pos h,if_pos (by omega),h]
         ·rw [if_neg h]
          by_cases h2:k<j
          ·rw [if_pos h2,if_pos (by omega)]
          ·rw [if_neg h2,if_neg (by omega)])
        have HSG:Hid (Grows W5 ((wr.setCell ⟨W5.heap.size,j*2,none⟩ (.int .i64 xx)).setCell ⟨W5.heap.size,j*2+1,none⟩ (.slice xa xm xc))):=(Below.setCell (p:=⟨W5.heap.size,j*2,none⟩) (uh HJ).2 (Nat.le_refl _) _).setCell (p:=⟨W5.heap.size,j*2+1,none⟩) (Nat.le_refl _) _
        clear hx
        go_wp2
        go_roundg (gk - 1)
        case measure=>omega
        case rel=>exact ⟨j+1,by simp,by omega,uh HS,uh HSG⟩
       ·have hjn':j=n:=by omega
        have hGi:Grows wi wr:=(uh HG5).trans (uh HJ).2
        have HBW:=hide (uh HGW)
        have hlt1:wi.heap.size<W5.heap.size:=(uh HR5).lt
        have hRl:∀ r,r<3*i+1→R r<wi.heap.size:=fun r hr=>((uh HR).1.fam.rows r hr).lt
        obtain ⟨R1,hL1,e1,eR1⟩:=((uh HR).1.grow hGi).row ((uh HR5).grow (uh HJ).2) (fun r hr=>by have:=hRl r hr;omega) (fun k _=>startF_s _ i k) hwi
        obtain ⟨R2,hL2,e2,eR2⟩:=hL1.row (g:=W5.heap.size) (fr:=fun k=>(ls.getD i []).getD k 0) ((uh HJ).1.congr (fun k hk=>by rw [if_pos (by omega)])) (fun r hr=>by
         rcases (show r<3*i+1∨r=3*i+1 by omega) with h|h
         ·rw [eR1 r h];have:=hRl r h;omega
         ·rw [h,e1];omega) (fun k _=>startF_p _ i k) (by omega)
        have e12:R2 (3*i+1)=wi.heap.size:=by rw [eR2 _ (by omega)];exact e1
        have e22:R2 (3*i+2)=W5.heap.size:=e2
        have HE:=hide (And.intro e12 e22)
        have HRL2:Hid (∀ r,r<3*i+3→R2 r<wr.heap.size):=fun r hr=>(hL2.fam.rows r hr).lt
        have HLA:=hide (hL2.grow (Grows.alloc wr (.cells #[.slice (some ⟨wi.heap.size,0,none⟩) n n] 73)))
        have k0:wr.cell? ⟨b,0,none⟩=some (.slice sa sn sc):=by rw [cellsOf hL2.own];rfl
        have HWA:Hid (w.heap.size≤(wr.alloc (.cells #[.slice (some ⟨wi.heap.size,0,none⟩) n n] 73)).heap.size):=Nat.le_trans (uh HBW).size (Grows.alloc _ _).size
        have HGA:Hid (Below w.heap.size w (wr.alloc (.cells #[.slice (some ⟨wi.heap.size,0,none⟩) n n] 73))):=(uh HBW).trans (Below.mono (Grows.alloc _ _) (uh HBW).size)
        have HR:=hide (uh HR)
        clear hL1 hL2 e1 e2 eR1 eR2 e12 e22 hRl hGi HJ HGW HU HUL
        go_wp2_with (at_builtin;refine wpList_append_lies _ rfl _ _ 76 rfl w.heap.size 73 i1 (.slice none 0 0) 1 24 Try.underlying76 hi1 hy0 hy1 hy2 rfl (by decide) _ i ((List.range i).map fun a=>Value.slice (some ⟨R2 (3*a+1),0,none⟩) n n) rfl (uh HLA).s ⟨_,0,none⟩ 1 1 [.slice (some ⟨wi.heap.size,0,none⟩) n n] rfl rfl ?d1 (by simp [Value.oneCell']) (by decide) ?d2 ?d3 ?d4 _ rfl ?_)
        case d1=>exact fun j u hu=>World.news_of_block (heap_alloc_new _ _) j u hu
        case d2=>unfold maxLen;omega
        case d3=>omega
        case d4=>exact uh HWA
        ·intro g8 cap8 w8 hown hgrow hat hlt8
         have hA:=(uh HLA).addS (by omega) hgrow (by rw [World.size_alloc];exact hat) (by rw [(uh HE).1];exact hown)
         have hb8:=hA.2.2.trans (uh HLA).own
         have z0:w8.cell? ⟨b,0,none⟩=some (.slice sa sn sc):=by rw [cellsOf hb8];rfl
         have z1:w8.frozen? ⟨b,0,none⟩=false:=freeOf hb8 0
         obtain ⟨W8,hW8⟩:∃ W,w8.setCell ⟨b,0,none⟩ (.slice (some ⟨g8,0,none⟩) (i+1) cap8)=W:=⟨_,rfl⟩
         rw [hW8] at hA
         have HL8:=hide (hA.1.grow (Grows.alloc W8 (.cells #[.slice (some ⟨W5.heap.size,0,none⟩) n n] 73)))
         have HB8:=hide ((uh HGA).trans hA.2.1)
         have hlw8:w.heap.size≤W8.heap.size:=(uh HB8).size
         have k1:W8.cell? ⟨b,1,none⟩=some (.slice ta tn tc):=by rw [cellsOf hA.1.own];rfl
         have HWB:Hid (w.heap.size≤(W8.alloc (.cells #[.slice (some ⟨W5.heap.size,0,none⟩) n n] 73)).heap.size):=Nat.le_trans hlw8 (Grows.alloc _ _).size
         have HGB:Hid (Below w.heap.size w (W8.alloc (.cells #[.slice (some ⟨W5.heap.size,0,none⟩) n n] 73))):=(uh HB8).trans (Below.mono (Grows.alloc _ _) hlw8)
         clear hown hgrow hat hlt8 hA hb8 k0
         go_wp2_with (at_builtin;refine wpList_append_lies _ rfl _ _ 76 rfl w.heap.size 73 i1 (.slice none 0 0) 1 24 Try.underlying76 hi1 hy0 hy1 hy2 rfl (by decide) _ i ((List.range i).map fun a=>Value.slice (some ⟨R2 (3*a+2),0,none⟩) n n) rfl (uh HL8).p ⟨_,0,none⟩ 1 1 [.slice (some ⟨W5.heap.size,0,none⟩) n n] rfl rfl ?d1 (by simp [Value.oneCell']) (by decide) ?d2 ?d3 ?d4 _ rfl ?_)
         case d1=>exact fun j u hu=>World.news_of_block (heap_alloc_new _ _) j u hu
         case d2=>unfold maxLen;omega
         case d3=>omega
         case d4=>exact uh HWB
         ·intro g9 cap9 w9 hown hgrow hat hlt9
          have hA:=(uh HL8).addP (by omega) hgrow (by rw [World.size_alloc];exact hat) (by rw [(uh HE).2];exact hown)
          have hb9:=hA.2.2.trans (uh HL8).own
          have z2:w9.cell? ⟨b,1,none⟩=some (.slice ta tn tc):=by rw [cellsOf hb9];rfl
          have z3:w9.frozen? ⟨b,1,none⟩=false:=freeOf hb9 1
          obtain ⟨W9,hW9⟩:∃ W,w9.setCell ⟨b,1,none⟩ (.slice (some ⟨g9,0,none⟩) (i+1) cap9)=W:=⟨_,rfl⟩
          rw [hW9] at hA
          have HB9:=hide ((uh HGB).trans hA.2.1)
          have hlw9:w.heap.size≤W9.heap.size:=(uh HB9).size
          have k3:W9.cell? ⟨b,3,none⟩=some (.slice oa on oc):=by rw [cellsOf hA.1.own];rfl
          have hRl2:∀ r,r<3*i+1+1+1→R2 r<W9.heap.size:=fun r hr=>(hA.1.fam.rows r hr).lt
          have hgm:Grows W9 (W9.alloc (.cells (madeCells #[.int .i64 0,.slice none 0 0] (n*2)) 82)):=Grows.alloc _ _
          obtain ⟨R3,hL3,e3,eR3⟩:=(hA.1.grow hgm).row (g:=W9.heap.size) (fr:=fun _=>0) (rowin_alloc W9 (by omega)) (fun r hr=>by have:=hRl2 r hr;omega) (fun k _=>startF_o _ i k) hlw9
          have HE3:Hid (R3 (3*i+3)=W9.heap.size):=e3
          have HLX:Hid (Laid P w.heap.size (((W9.alloc (.cells (madeCells #[.int .i64 0,.slice none 0 0] (n*2)) 82)).alloc (.cells #[.slice (some ⟨W9.heap.size,0,none⟩) n n] 73)).drew) n (3*i+1+1+1+1) b (.slice (some ⟨g8,0,none⟩) (i+1) cap8) (.slice (some ⟨g9,0,none⟩) (i+1) cap9) (.slice oa on oc) (i+1) (i+1) i R3 (startF fun i j=>(ls.getD i []).getD j 0)):=hL3.grow (Below.drew (Grows.alloc _ _))
          have HGX:Hid (Below w.heap.size w (((W9.alloc (.cells (madeCells #[.int .i64 0,.slice none 0 0] (n*2)) 82)).alloc (.cells #[.slice (some ⟨W9.heap.size,0,none⟩) n n] 73)).drew)):=(uh HB9).trans (Below.mono (hgm.trans (Below.drew (Grows.alloc _ _))) hlw9)
          have HWX:Hid (w.heap.size≤(((W9.alloc (.cells (madeCells #[.int .i64 0,.slice none 0 0] (n*2)) 82)).alloc (.cells #[.slice (some ⟨W9.heap.size,0,none⟩) n n] 73)).drew).heap.size):=(uh HGX).size
          have hmk:∀ w',(Instr.makeSlice 73 (.int .i64 n) (.int .i64 n)).run Try.prog w'=.ok (.slice (some ⟨w'.heap.size,0,none⟩) n n) (w'.alloc (.cells (madeCells #[.int .i64 0,.slice none 0 0] (n*2)) 82)):=fun w'=>by
           have h1:=run_make (P:=Try.prog) w' 73 82 i0 (.agg #[.int .i64 0,.slice none 0 0]) Try.underlying73 hi0 hz0 .i64 .i64 n n (by omega) (by omega) (by rw [hz2];omega) (by omega)
           rw [hz1,show ((n:Nat):Int).toNat=n by omega] at h1
           exact h1
          have HNB:Hid ((((W9.alloc (.cells (madeCells #[.int .i64 0,.slice none 0 0] (n*2)) 82)).alloc (.cells #[.slice (some ⟨W9.heap.size,0,none⟩) n n] 73)).drew).heap[W9.heap.size+1]?=some (.cells #[.slice (some ⟨W9.heap.size,0,none⟩) n n] 73 (0,0))):=by
           have h1:=slot_one (W9.alloc (.cells (madeCells #[.int .i64 0,.slice none 0 0] (n*2)) 82)) (.cells #[.slice (some ⟨W9.heap.size,0,none⟩) n n] 73)
           rw [World.size_alloc] at h1
           exact h1
          have k4:=hgm.cell k3
          have k5:=(hgm.trans (Grows.alloc _ (.cells #[.slice (some ⟨W9.heap.size,0,none⟩) n n] 73))).cell k3
          clear hown hgrow hat hlt9 hA hb9 hL3 e3 eR3 hRl2 hgm
          go_wp2_with fail
          try rw [hW9]
          clear hW8 hW9 z0 z1 z2 z3 k1
          go_region_law ((refine step_append_lies _ (by rfl) _ _ 76 (by rfl) w.heap.size 73 i1 (.slice none 0 0) 1 24 Try.underlying76 hi1 hy0 hy1 hy2 rfl (by decide) _ i ((List.range i).map fun a=>Value.slice (some ⟨R3 (3*a+3),0,none⟩) n n) (by rfl) (uh HLX).o ⟨W9.heap.size+1,0,none⟩ 1 1 [.slice (some ⟨W9.heap.size,0,none⟩) n n] (by rfl) rfl (fun j u hu=>World.news_of_block (uh HNB) j u hu) (by simp [Value.oneCell']) (by decide) (by unfold maxLen;omega) (by omega) (uh HWX) _ rfl ?_;intro g10 cap10 w10 hown hgrow hat hlt10;have hb10:=((uh HLX).addO (by omega) hgrow (by simpa using hat) (by rw [uh HE3];exact hown)).2.2.trans (uh HLX).own;have z4:w10.cell? ⟨b,3,none⟩=some (.slice oa on oc):=(by rw [cellsOf hb10];rfl);have z5:w10.frozen? ⟨b,3,none⟩=false:=freeOf hb10 3))
          all_goals
           have HA:=hide ((uh HLX).addO (by omega) hgrow (by simpa using hat) (by rw [uh HE3];exact hown))
           clear hown hgrow hat hlt10
           go_wp2
           go_roundg (gi - 1)
           case measure=>omega
           case rel=>exact ⟨i+1,_,_,_,_,_,_,_,_,_,R3,by simp,by omega,(uh HA).1,(uh HGX).trans (uh HA).2.1⟩
   ·have hin':i=n:=by omega
    have HD:Hid (∃ gs gp go cs cp co,LatMem P w.heap.size wi n b gs gp go cs cp co (latR n R) (fun a=>startF (fun i j=>(ls.getD i []).getD j 0) (3*a+1)) (fun a=>startF (fun i j=>(ls.getD i []).getD j 0) (3*a+2)) (fun a=>startF (fun i j=>(ls.getD i []).getD j 0) (3*a+3)) (startF (fun i j=>(ls.getD i []).getD j 0) 0)):=by
     have h1:=(uh HR).1
     rw [hin'] at h1
     exact h1.done hn0
    go_wp2
    go_ret
    obtain ⟨gs,gp,go,cs,cp,co,hD⟩:=uh HD
    exact ⟨b,gs,gp,go,cs,cp,co,_,_,_,rfl,hD.congr (fun a k _ _=>startF_s _ a k) (fun a k _ _=>startF_p _ a k) (fun _ _ _ _=>rfl) (fun _ _=>rfl),(uh HR).2,rfl⟩
end Go.Proofs.Ytfaljekgpnbmiaa
