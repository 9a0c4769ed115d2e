/- Joined: XLim XLim2 XLim3 XTrim2 XTrim3. -/
import Derived.Test.YtfaljekgpnbmiaaGreatJ33
set_option linter.unusedVariables false
set_option linter.unusedSimpArgs false
set_option maxRecDepth 100000
namespace Go.Proofs.YtfaljekgpnbmiaaGreat
open Go.RowKit Go.Sort
abbrev PT:Nat->Prop:=λ_=>True
theorem KA.EC {F:Int->Nat->Int} {n L:Nat} {U:List Int} {s:List Int} {t:Pl.aR} (h:KA F n U L s t) (hF:xz F n U):Good F n U L t.cut∧nT t.cut:=by
 refine ⟨QD h.lN hF h.name,λk hk h0=>?_⟩;rw [Pl.Bv] at hk;rw [qo t hk] at h0;rw [QE t hk];exact h.pt k (by omega) h0
theorem KA.le {n m:Nat} {S:Nat->Nat->Int} {D:List Nat} {U:List Int} {L:Nat} {s:List Int} {t:Pl.aR} (h:KA (Pl.gJ S) n U L s t) (hU:Pl.dK n m D U) {x:Nat->Int} (hx:Pl.oo n m S (Pl.pt x)):Pl.ev n (lf s) (Pl.pt x)<=Int.fdiv (t.cell L 0) t.scale:=by
 have hU':∀ y∈(-1073741824:Int)::U,0<=y->∃ i:Nat,i<m∧y=i:=λy hy h0=>by
  rcases abp.1 hy with e|hy
  ·omega
  ·exact hU.nat y hy h0
 have h1:=Pl.NR hU' (λi hi=>by rw [fT (by omega),Pl.iY]) h.lN.ok h.lN.stat h.lN.aS (wr:=L) (by rw [h.lN.len];omega) h.top hx;rw [h.name] at h1;have e:mE (Pl.gJ S) s (-1073741824)=lf s:=by funext k;exact rT _ _ _
 rwa [e] at h1
theorem KA.H7 {F:Int->Nat->Int} {n L K:Nat} {U:List Int} {s:List Int} {t:Pl.aR} (h:KA F n U L s t) (hlt:qi K t):Pl.Lt K (Int.fdiv (t.cell L 0) t.scale) :=
 (hlt.cell L 0 (by rw [h.lN.len];omega) (by omega)).fdiv h.lN.ok.pos
theorem tL (s:List Int):lf (s.map λx=>-x)=λk=>-lf s k:=by
 funext k;unfold lf;rw [a_,aas,a_];rcases s[k]? with _|x <;> rfl
theorem zS (n:Nat) (f P:Nat->Int):Pl.ev n (λk=>-f k) P=-Pl.ev n f P:=by
 unfold Pl.ev;have:Pl.sm (n+1) (λk=>-f k*P k)=Pl.sm (n+1) (λk=>(-1)*(f k*P k)):=Pl.aC λk _=>by rw [abe,abe,aaY]
 rw [this,Pl.dA,abe,aaY]
structure iy (r:aP) (D:List Nat) (U:List Int) (N:Nat) (t:Pl.aR):Prop where
 lN:Good (Pl.gJ r.S) r.size U N t
 pt:nT t
 names:Pl.dK r.size r.least.length D U
 free:Pl.Ba r.size r.least.length r.S D
 small:N<=900
structure iO (L:Nat) (r:aP):Prop where
 zero:r.zero=[]
 mO:r.dX.gM
 ok:eP r
 lt:dG L r
 one:1<=L
 Aj:0<r.size
 size:r.size<=9
 pK:r.least.length<=800
section
variable {r:aP} {L N b gl gc:Nat} {D:List Nat} {U:List Int} {t:Pl.aR} {s:List Int}
theorem iO.FQ (h:iO L r) (hU:Pl.dK r.size r.least.length D U):∀ x∈U,∀ k,Pl.Lt L (Pl.gJ r.S x k):=λx hx k=>V5 h.one h.lt ((hU x).1 hx).1 k
theorem iO.form (h:iO L r) (hU:Pl.dK r.size r.least.length D U):xz (Pl.gJ r.S) r.size U:=SX (by have:=h.size;omega) (by have:=h.pK;omega) hU
theorem iy.lt (h:iy r D U N t) (hf:iO L r):qi ((r.size+1)*L+1) t:=FE hf.size h.lN.ok h.lN.stat (λx hx k _=>hf.FQ h.names x hx k)
theorem iy.UR (h:iy r D U N t) (hf:iO L r):Pl.CG (Pl.gJ r.S) r.size U:=h.free.mO h.names (λi _=>Pl.iY _ _) (GY hf.zero hf.mO)
theorem FR (hf:iO L r) (hU:Pl.dK r.size r.least.length D U) (hs:∀ k,Pl.Lt L (s.getD k 0)) {c:Nat} {t':Pl.aR} (h:Fair (mE (Pl.gJ r.S) s) r.size (-1073741824::U) (N+1) c t'):qi ((r.size+1)*L+1) t':=FE hf.size h.ok h.stat (λx hx k _=>SV (hf.FQ hU) hs x hx k)
theorem iy.cut (h:iy r D U N t) (hf:iO L r) {t2:Pl.aR} (ht:KA (Pl.gJ r.S) r.size U N s t2):iy r D U N t2.cut:=⟨(ht.EC (hf.form h.names)).1,(ht.EC (hf.form h.names)).2,h.names,h.free,h.small⟩
theorem ED {F:Int->Nat->Int} {n:Nat} (h:Good F n U N t):Fair F n U N 0 t:=⟨h.ok,h.names,h.stat,λk hk=>absurd hk (aaL k),h.len⟩
theorem Aw (P:Nat->Prop) (hf:iO L r) (hT:iy r D U N t) (vs:Value) (w:World) (hP:∀ b',w.heap.size<=b'->P b') (h:aV P w b gl gc t) (hs:aD P w vs s) (hlen:s.length=r.size+1) (hsl:∀ k,Pl.Lt L (s.getD k 0)) (hK:2*((r.size+1)*L+1)+1<=1500000000000) :
  Calls Tryz.prog 271 #[.pointer (some ⟨b,0,none⟩),vs] w λe w'=>∃ (v':Value) (yS:Nat) (t2:Pl.aR),e=.returned v'∧aV P w' b yS gc t2.cut∧(yS=gl∨w.heap.size<=yS)∧bH (mD b gl gc) w w'∧aj P w' v' (Int.fdiv (t2.cell N 0) t2.scale)∧KA (Pl.gJ r.S) r.size U N s t2∧iy r D U N t2.cut∧Pl.Lt ((r.size+1)*L+1) (Int.fdiv (t2.cell N 0) t2.scale):=by
 have Fj:L<=(r.size+1)*L+1:=by rw [abC,ab4];omega
 refine (Ay P ((r.size+1)*L+1) b gl gc (Pl.gJ r.S) r.size U N t s vs w hP h hs hT.lN hT.pt (hf.form hT.names) (by have:=hf.size;omega) hT.small hlen (λk=>(hsl k).mono Fj) (hT.lt hf) (λt' ht'=>FR hf hT.names hsl ht') hK (hT.UR hf)).mono ?_;rintro e w' ⟨v',yS,t2,rfl,h1,h2,h3,h4,h5⟩;exact ⟨v',yS,t2,rfl,h1,h2,h3,h4,h5,hT.cut hf h5,h5.H7 (FR hf hT.names hsl (ED h5.lN))⟩
theorem xK (P:Nat->Prop) (hf:iO L r) (hT:iy r D U N t) (vs:Value) (w:World) (hP:∀ b',w.heap.size<=b'->P b') (h:aV P w b gl gc t) (hs:aD P w vs s) (hlen:s.length=r.size+1) (hsl:∀ k,Pl.Lt L (s.getD k 0)) (hK:2*((r.size+1)*L+1)+1<=1500000000000) :
  Calls Tryz.prog 221 #[.pointer (some ⟨b,0,none⟩),vs] w λe w'=>∃ (v':Value) (yS:Nat) (t2:Pl.aR),e=.returned v'∧aV P w' b yS gc t2.cut∧(yS=gl∨w.heap.size<=yS)∧bH (mD b gl gc) w w'∧aj P w' v' (-Int.fdiv (t2.cell N 0) t2.scale)∧KA (Pl.gJ r.S) r.size U N (s.map λx=>-x) t2∧iy r D U N t2.cut∧Pl.Lt ((r.size+1)*L+1) (-Int.fdiv (t2.cell N 0) t2.scale):=by
 have Fj:L<=(r.size+1)*L+1:=by rw [abC,ab4];omega
 have hneg:∀ k,Pl.Lt L ((s.map λx=>-x).getD k 0):=λk=>by
  have:=congrFun (tL s) k;unfold lf at this;rw [this];exact (hsl k).neg
 refine (KC P ((r.size+1)*L+1) b gl gc (Pl.gJ r.S) r.size U N t s vs w hP h hs hT.lN hT.pt (hf.form hT.names) (by have:=hf.size;omega) hT.small hlen (λk=>(hsl k).mono Fj) (hT.lt hf) (λt' ht'=>FR hf hT.names hneg ht') hK (hT.UR hf)).mono ?_;rintro e w' ⟨v',yS,t2,rfl,h1,h2,h3,h4,h5⟩;exact ⟨v',yS,t2,rfl,h1,h2,h3,h4,h5,hT.cut hf h5,(h5.H7 (FR hf hT.names hneg (ED h5.lN))).neg⟩
theorem FC (hf:iO L r) (vl:Value) (w:World) (h:aM PT w vl r.least) (hK:2*((r.size+1)*L+1)+1<=1500000000000) :
  Calls Tryz.prog 217 #[vl,.int .i64 r.size] w λe w'=>∃ (b gl gc:Nat) (t':Pl.aR),e=.returned (.pointer (some ⟨b,0,none⟩))∧w.heap.size<=b∧w.heap.size<=gl∧w.heap.size<=gc∧aV (·≠gc) w' b gl gc t'∧ae w w'∧Good (Pl.gJ r.S) r.size (Pl.gX r.size r.least.length) r.least.length t' :=
 Tx r.least r.size vl w h hf.Aj (by have:=hf.size;omega) (Ns hf.zero hf.mO hf.Aj) (by have:=hf.pK;omega) hf.ok.dS ((r.size+1)*L+1) hK (λt' ht'=>FE hf.size ht'.ok ht'.stat (λx hx k _=>hf.FQ (Pl.dK.start _ _) x hx k)) (GY hf.zero hf.mO)
theorem zM (hf:iO L r) (w:World) (h:aV (·≠gc) w b gl gc t) (hg:Good (Pl.gJ r.S) r.size (Pl.gX r.size r.least.length) r.least.length t) (hK:2*((r.size+1)*L+1)+1<=1500000000000) :
  Calls Tryz.prog 218 #[.pointer (some ⟨b,0,none⟩)] w λe w'=>∃ (qI:Bool) (t':Pl.aR),e=.returned (.bool qI)∧aV (·≠gc) w' b gl gc t'∧bH (mD b gl gc) w w'∧(qI=false->iy r [] (Pl.gX r.size r.least.length) r.least.length t')∧(qI=true->∀ x,¬ r.dX.Has x):=by
 refine (H8 (·≠gc) ((r.size+1)*L+1) b gl gc (Pl.gJ r.S) r.size (Pl.gX r.size r.least.length) r.least.length t w (λb' hb' e=>by have:=h.lt.2.2.1;omega) h hg (by have:=hf.size;omega) (by have:=hf.pK;omega) (λt' ht'=>FE hf.size ht'.ok ht'.stat (λx hx k _=>hf.FQ (Pl.dK.start _ _) x hx k)) hK).mono ?_;rintro e w' ⟨qI,t',rfl,h1,h2,h3,h4,h5⟩;refine ⟨qI,t',rfl,h1,h2,λha=>⟨h3,h4 ha,Pl.dK.start _ _,Pl.Ba.start _ _ _,by have:=hf.pK;omega⟩,λha x hx=>?_⟩;obtain ⟨rr,hr,n1,n2,n3⟩:=h5 ha;refine Pl.QF (Pl.dK.start r.size r.least.length).nat (λi _=>Pl.iY _ _) h3.ok h3.stat h3.aS hr n1 n2 n3 x ((rU x).1 λa ha'=>?_);exact hx.least (lf a) (m_.2 ⟨a,ha',rfl⟩)
end
theorem qN {w w1 w2:World} {b gl gc:Nat} (hg:ae w w1) (h1:w.heap.size<=b) (h2:w.heap.size<=gl) (h3:w.heap.size<=gc) (ht:bH (mD b gl gc) w1 w2):ae w w2 :=
 abt hg (ht.below (λk hk=>by rcases hk with e | e | e <;> omega) hg.size)
def di (n at_:Nat):List Int:=(List.range (n+1)).map (Pl.unit (at_+1))
theorem ow {n at_:Nat} (h:at_<n) (x:Nat->Int):Pl.ev n (lf (di n at_)) (Pl.pt x)=x at_:=by
 have:Pl.ev n (lf (di n at_)) (Pl.pt x)=Pl.ev n (Pl.unit (at_+1)) (Pl.pt x):=Bw (λk hk=>by unfold lf di;exact Pl.bK _ _ _ (by omega)) x;rw [this,Pl.kJ n _ (at_+1) (by omega)];unfold Pl.pt;rw [g_ (by omega)];rfl
theorem vg {n at_ L:Nat} (hL:1<=L) (k:Nat):Pl.Lt L ((di n at_).getD k 0):=by
 obtain ⟨L',rfl⟩:∃ L',L=L'+1:=⟨L - 1,by omega⟩;unfold di;by_cases hk:k<n+1
 ·rw [Pl.bK _ _ _ hk];unfold Pl.unit;split <;> exact dU (by decide)
 ·rw [a_,P_ (by simp;omega)];exact dU (by decide)
theorem LP {w0 w3:World} (hG:ae w0 w3) {g1 g2:Nat} (n1:w0.heap.size<=g1) (n2:w0.heap.size<=g2) (hne:g1≠g2) {c1 c2:Array Value} (b1:w3.heap[g1]?=some (.cells c1 168 (0,0))) (b2:w3.heap[g2]?=some (.cells c2 168 (0,0))) {x y:Int} {a d:Option Addr} {m c e f:Nat} {u v:Int} (hu:aj PT w3 (.agg #[.int .i64 x,.slice a m c]) u) (hv:aj PT w3 (.agg #[.int .i64 y,.slice d e f]) v) :
  ae w0 ((((w3.setCell ⟨g1,0,none⟩ (.int .i64 x)).setCell ⟨g1,1,none⟩ (.slice a m c)).setCell ⟨g2,0,none⟩ (.int .i64 y)).setCell ⟨g2,1,none⟩ (.slice d e f))∧aj PT ((((w3.setCell ⟨g1,0,none⟩ (.int .i64 x)).setCell ⟨g1,1,none⟩ (.slice a m c)).setCell ⟨g2,0,none⟩ (.int .i64 y)).setCell ⟨g2,1,none⟩ (.slice d e f)) (.agg #[.int .i64 x,.slice a m c]) u∧aj PT ((((w3.setCell ⟨g1,0,none⟩ (.int .i64 x)).setCell ⟨g1,1,none⟩ (.slice a m c)).setCell ⟨g2,0,none⟩ (.int .i64 y)).setCell ⟨g2,1,none⟩ (.slice d e f)) (.agg #[.int .i64 y,.slice d e f]) v:=by
 have e1:=j_ w3 g1 0 _ _ (.int .i64 x) b1;have e2:((w3.setCell ⟨g1,0,none⟩ (.int .i64 x)).setCell ⟨g1,1,none⟩ (.slice a m c)).heap[g2]?=some (.cells c2 168 (0,0)):=(l_ _ _ _ _ (abf hne)).trans ((l_ _ _ _ _ (abf hne)).trans b2);have e3:=j_ _ g2 0 _ _ (.int .i64 y) e2;have kt:aA 3 w3 ((((w3.setCell ⟨g1,0,none⟩ (.int .i64 x)).setCell ⟨g1,1,none⟩ (.slice a m c)).setCell ⟨g2,0,none⟩ (.int .i64 y)).setCell ⟨g2,1,none⟩ (.slice d e f)):=(((aA.setCell b1 (by decide) _ _).trans (aA.setCell e1 (by decide) _ _)).trans (aA.setCell e2 (by decide) _ _)).trans (aA.setCell e3 (by decide) _ _);exact ⟨(((B_ (p:=⟨g1,0,none⟩) hG n1 _).setCell (p:=⟨g1,1,none⟩) n1 _).setCell (p:=⟨g2,0,none⟩) n2 _).setCell (p:=⟨g2,1,none⟩) n2 _,hu.bX kt,hv.bX kt⟩
theorem sV (P:Nat->Prop) (w:World):aj P w (.agg #[.int .i64 0,.slice none 0 0]) 0:=.inl ⟨rfl,show (-4611686018427387904:Int)<0 by decide,show (0:Int)<4611686018427387904 by decide⟩
theorem bC.holds {P:Nat->Prop} {w w':World} {g:Nat} {x:Int} {a:Option Addr} {m c:Nat} {n:Int} (h:bC P w g x a m c n) (hp:P g) (hh:Holds P w w'):bC P w' g x a m c n:=⟨(hh g _ _ (.inr (.inl rfl)) hp h.heap).trans h.heap,h.val.qp hh.xL⟩
set_option maxHeartbeats 2000000 in
theorem Ke (r:aP) (L at_:Nat) (vr:Value) (w:World) (h:jV PT w vr r) (hf:iO L r) (hat:at_<r.size) (hK:2*((r.size+1)*L+1)+1<=1500000000000) :
  Calls Tryz.prog 274 #[vr,.int .i64 at_] w λe w'=>∃ (v1 v2:Value) (lo hi:Int),e=.returned (.tuple #[v1,v2])∧aj PT w' v1 lo∧aj PT w' v2 hi∧Below w.heap.size w w'∧(∀ x,r.dX.Has x->lo<=x at_∧x at_<=hi)∧Pl.Lt ((r.size+1)*L+1) lo∧Pl.Lt ((r.size+1)*L+1) hi:=by
 obtain ⟨i0,hi0,hz0,hz1,hz2⟩:=V_ Tryz.dR;obtain ⟨vz,vl,vt,rfl,h1,h2,h3⟩:=h;obtain ⟨za,zn,zc,rfl⟩:=h1.aB;obtain ⟨la,ln,lc,rfl⟩:=h2.aB;obtain ⟨ta,tn,tc,rfl⟩:=h3.aB;have HF:=af hf;obtain ⟨W,hW⟩:∃ W,((w.alloc (.cells #[.int .i64 r.size,.slice za zn zc,.slice la ln lc,.slice ta tn tc] 164)).alloc (.cells #[.int .i64 0,.slice none 0 0] 168)).alloc (.cells #[.int .i64 0,.slice none 0 0] 168)=W:=⟨_,rfl⟩;have HG:Hid (ae w W):=by unfold Hid;rw [<-hW];exact ae.trans (ae.trans (ae.alloc _ _) (ae.alloc _ _)) (ae.alloc _ _)
 have b0:W.heap[w.heap.size]?=some (.cells #[.int .i64 r.size,.slice za zn zc,.slice la ln lc,.slice ta tn tc] 164 (0,0)):=by rw [<-hW];exact Below.same (ae.trans (ae.alloc _ _) (ae.alloc _ _)) _ _ (aG _ _)
 have b1:W.heap[w.heap.size+1]?=some (.cells #[.int .i64 0,.slice none 0 0] 168 (0,0)):=by
  have:=Below.same (ae.alloc ((w.alloc (.cells #[.int .i64 r.size,.slice za zn zc,.slice la ln lc,.slice ta tn tc] 164)).alloc (.cells #[.int .i64 0,.slice none 0 0] 168)) (.cells #[.int .i64 0,.slice none 0 0] 168)) _ _ (aG (w.alloc (.cells #[.int .i64 r.size,.slice za zn zc,.slice la ln lc,.slice ta tn tc] 164)) (.cells #[.int .i64 0,.slice none 0 0] 168));rw [<-hW];rwa [H_] at this
 have b2:W.heap[w.heap.size+1+1]?=some (.cells #[.int .i64 0,.slice none 0 0] 168 (0,0)):=by
  have:=aG ((w.alloc (.cells #[.int .i64 r.size,.slice za zn zc,.slice la ln lc,.slice ta tn tc] 164)).alloc (.cells #[.int .i64 0,.slice none 0 0] 168)) (.cells #[.int .i64 0,.slice none 0 0] 168);rw [<-hW];rwa [H_,H_] at this
 have k0:W.cell? ⟨w.heap.size,0,none⟩=some (.int .i64 r.size):=by rw [cellsOf b0];rfl
 have k2:W.cell? ⟨w.heap.size,2,none⟩=some (.slice la ln lc):=by rw [cellsOf b0];rfl
 have HB:=af (x_ b0 (x_ b1 b2));have UG:=af (FC hf (.slice la ln lc) W (h2.below (uh HG)) hK);clear h1 h2 h3 b0 b1 b2;go_enter Tryz.func274,Tryz.ntmps274;go_wp2_with fail
 try rw [hW]
 clear hW;refine (uh UG).mono ?_;rintro e w1 ⟨b,gl,gc,t1,rfl,q1,q2,q3,hT1,hG1,hgood⟩;have HT1:=af hT1;have dP:=af hG1;have VV:=af (zM hf w1 hT1 hgood hK);clear hT1 hG1 hgood UG k0 k2;go_wp2_with fail;refine (uh VV).mono ?_;rintro e w2 ⟨qI,t2,rfl,hT2,hU2,hfl,htr⟩;have HT2:=af hT2;have HG2:Hid (ae W w2):=qN (uh dP) q1 q2 q3 hU2;have HB2:=af (x_ (Below.same (uh HG2) _ _ (uh HB).1) (x_ (Below.same (uh HG2) _ _ (uh HB).2.1) (Below.same (uh HG2) _ _ (uh HB).2.2)));clear hT2 hU2 VV dP HT1;have k0:w2.cell? ⟨w.heap.size,0,none⟩=some (.int .i64 r.size):=by rw [cellsOf (uh HB2).1];rfl
 cases qI with
 | true =>
  have Bl:=af (htr rfl);clear hfl htr;go_wp2_with fail;refine (fP PT 1 w2 (λ_ _=>trivial) (by decide) (by decide)).mono ?_;rintro e w3 ⟨v3,rfl,hv3,hw3⟩;obtain ⟨ox,oa,om,oc,rfl⟩:=hv3.shape;have c1:=Below.same hw3 _ _ (uh HB2).2.1;have c2:=Below.same hw3 _ _ (uh HB2).2.2;obtain ⟨z0,z1,z2,z3⟩:=au c1;obtain ⟨y0,y1,y2,y3⟩:=au c2;have O1:=af (LP (((uh HG).trans (uh HG2)).trans hw3) (show w.heap.size<=w.heap.size+1 by omega) (show w.heap.size<=w.heap.size+1+1 by omega) (by omega) c1 c2 hv3 (sV PT w3));clear hv3 hw3 c1 c2 k0;go_wp2;obtain ⟨L',hL'⟩:∃ L',(r.size+1)*L+1=L'+1:=⟨_,rfl⟩;exact t_ (v:=.tuple #[.agg #[.int .i64 ox,.slice oa om oc],.agg #[.int .i64 0,.slice none 0 0]]) (by simp [results,Tryz.results274,go_sem,z0,z1,y0,y1]) rfl ⟨_,_,1,0,rfl,(uh O1).2.1,(uh O1).2.2,(uh O1).1,λx hx=>absurd hx (uh Bl x),dU (by decide),dU (by decide)⟩
 | false =>
  have Nq:=af (hfl rfl);clear hfl htr;have hwn:IntKind.i64.wrap ((r.size:Int)+1)=((r.size+1:Nat):Int):=by rw [aaE];have:=(uh HF).size;omega
  have hs9:=(uh HF).size;go_wp2_with (at_make;refine O_ _ rfl _ _ 159 rfl w2.heap.size 168 i0 (.agg #[.int .i64 0,.slice none 0 0]) 2 Tryz.underlying159 hi0 hz0 hz1 .i64 .i64 _ _ (r.size+1) rfl rfl ?e1 ?e2 ?c1 ?c2 ?c3 ?_)
  case e1=>first | rfl | omega | simp
  case e2=>first | rfl | omega | simp
  case c1=>rw [hz2];omega
  case c2=>unfold maxLen;omega
  case c3=>first | omega | simp
  ·intro w3 hown hgrow;have hG3:ae w2 w3:=(n_ _ _).grown hgrow (d_ _) (by intro k hk;cases hk);have HR3:Hid (bA (·≠gc) w3 w2.heap.size (r.size+1) (λ_=>0)):=bA.made hown;have je:=af hG3;have ak6:=(uh HT2).lt.2.2.1;have w1':IntKind.i64.wrap ((at_:Int)+1)=(at_:Int)+1:=by rw [aaE];omega
   have t1':((at_:Int)+1).toNat=at_+1:=by omega
   have l1':(at_:Int)+1<(r.size:Int)+1:=by omega
   have l2':0<=(at_:Int)+1:=by omega
   clear hown hgrow hG3 k0;go_wp2_with fail;refine (fP (·≠gc) 1 w3 (λb' hb' e=>by have:=(uh je).size;omega) (by decide) (by decide)).mono ?_;rintro e w4 ⟨v4,rfl,hv4,hw4⟩;obtain ⟨ox,oa,om,oc,rfl⟩:=hv4.shape;have hR4:=(uh HR3).grow hw4;obtain ⟨qx,qa,qm,qc,r0,r1,_,f0,f1⟩:=hR4.get (i:=at_+1) (by omega);obtain ⟨W4,xZ⟩:∃ W,(w4.setCell ⟨w2.heap.size,(at_+1)*2,none⟩ (.int .i64 ox)).setCell ⟨w2.heap.size,(at_+1)*2+1,none⟩ (.slice oa om oc)=W:=⟨_,rfl⟩;have sO:Hid (aD (·≠gc) W4 (.slice (some ⟨w2.heap.size,0,none⟩) (r.size+1) (r.size+1)) (di r.size at_)):=by
    unfold Hid;rw [<-xZ];have:=((hR4.set (i:=at_+1) (by omega) hv4).congr (f':=Pl.unit (at_+1)) (λk _=>by
     unfold ql Pl.unit;by_cases h:k=at_+1
     ·rw [h_ h,h_ h.symm]
     ·rw [g_ h,g_ (λe=>h e.symm)])).row (show w2.heap.size≠gc by omega)
    exact this
   have kE:Hid (ae w2 W4):=by
    unfold Hid;rw [<-xZ];exact (B_ (p:=⟨w2.heap.size,(at_+1)*2,none⟩) (ae.trans (uh je) hw4) (d_ _) _).setCell (p:=⟨w2.heap.size,(at_+1)*2+1,none⟩) (d_ _) _
   have NS:=af ((uh HT2).grow (uh kE));have H9:=af (xK (·≠gc) hf (uh Nq) _ W4 (λb' hb' e=>by have:=(uh NS).lt.2.2.1;omega) (uh NS) (uh sO) (by simp [di]) (λk=>vg (uh HF).one k) hK);clear hv4 hw4 hR4 HR3 je HT2;go_wp2_with fail
   try rw [xZ]
   refine (uh H9).mono ?_;rintro e w5 ⟨v5,gl5,t5,rfl,VU,adP,hU5,hv5,UT,Zz,ZA⟩;obtain ⟨lx,la',lm,Nk,rfl⟩:=hv5.shape;have hgW:ae W w2:=uh HG2;have hgr5:ae W w5:=qN (hgW.trans (uh kE)) q1 q2 q3 hU5;have ZB:W.heap.size<=gl5:=by rcases adP with e | e;omega;have:=(hgW.trans (uh kE)).size;omega
   have Nz:Hid (W.heap.size<=w5.heap.size):=hgr5.size;have HV5:=af (dD hv5);have EE:=af (((uh sO).holds (sZ (uh NS) hU5)).below (ae.alloc w5 (.cells #[.int .i64 lx,.slice la' lm Nk] 168)));have X3:=af (VU.grow (ae.alloc w5 (.cells #[.int .i64 lx,.slice la' lm Nk] 168)));have gG:Hid (ae W (w5.alloc (.cells #[.int .i64 lx,.slice la' lm Nk] 168))):=hgr5.trans (ae.alloc _ _);have ZC:=af UT;have GQ:=af ZA;have hne5:w5.heap.size≠gc:=by have:=VU.lt.2.2.1;omega
   have DN:=af (Aw (·≠gc) hf Zz _ (w5.alloc (.cells #[.int .i64 lx,.slice la' lm Nk] 168)) (λb' hb' e=>by have:=(uh X3).lt.2.2.1;omega) (uh X3) (uh EE) (by simp [di]) (λk=>vg (uh HF).one k) hK);clear VU hU5 hv5 UT Zz ZA hgr5 hgW H9 xZ r0 r1 f0 f1 sO NS;go_wp2_with fail;refine (uh DN).mono ?_;rintro e w6 ⟨v6,gl6,t6,rfl,YU,ak8,UH,hv6,UU,adR,Ty⟩;obtain ⟨hx,ha',hm,hc',rfl⟩:=hv6.shape;have WH:ae W w6:=qN (uh gG) q1 ZB q3 UH;have Lf:Hid (W.heap.size<=w6.heap.size):=WH.size;have wK:=af (dD hv6);have WI:=af (((uh HV5).holds hne5 (sZ (uh X3) UH)).grow (ae.alloc w6 (.cells #[.int .i64 hx,.slice ha' hm hc'] 168)));have lV:Hid (ae W (w6.alloc (.cells #[.int .i64 hx,.slice ha' hm hc'] 168))):=WH.trans (ae.alloc _ _);have GN:Hid (∀ x,r.dX.Has x->-Int.fdiv (t5.cell r.least.length 0) t5.scale<=x at_∧x at_<=Int.fdiv (t6.cell r.least.length 0) t6.scale):=λx Ai=>by
    have hin:=(rU x).1 λa ha=>Ai.least (lf a) (m_.2 ⟨a,ha,rfl⟩);have e5:=(uh ZC).le (uh Nq).names hin;have e6:=UU.le (uh Nq).names hin;rw [tL,zS,ow hat] at e5;rw [ow hat] at e6;omega
   have Kg:=af Ty;clear YU UH hv6 UU adR Ty WH DN X3 EE HV5 gG ZC;have c1:=Below.same (uh lV) _ _ (uh HB).2.1;have c2:=Below.same (uh lV) _ _ (uh HB).2.2;obtain ⟨z0,z1,z2,z3⟩:=au c1;obtain ⟨y0,y1,y2,y3⟩:=au c2;have u0:=(uh WI).cells.1;have u1:=(uh WI).cells.2.1;have u2:=(uh wK).cells.1;have u3:=(uh wK).cells.2.1;have O1:=af (LP ((uh HG).trans (uh lV)) (show w.heap.size<=w.heap.size+1 by omega) (show w.heap.size<=w.heap.size+1+1 by omega) (by omega) c1 c2 ((uh WI).val.mono (λ_ _ _=>trivial)) ((uh wK).val.mono (λ_ _ _=>trivial)));have hWs:w.heap.size+1+1<W.heap.size:=z_ (uh HB).2.2;have hs6:W.heap.size<=w6.heap.size:=uh Lf;have hs5:W.heap.size<=w5.heap.size:=uh Nz;have d1:w6.heap.size≠w.heap.size+1:=by omega
   have d2:w6.heap.size≠w.heap.size+1+1:=by omega
   have d3:w5.heap.size≠w.heap.size+1:=by omega
   have d4:w5.heap.size≠w.heap.size+1+1:=by omega
   have d5:=abf d1;have d6:=abf d2;have d7:=abf d3;have d8:=abf d4;clear c1 c2;go_wp2_with fail;go_region
   all_goals
    go_wp2;exact t_ (v:=.tuple #[.agg #[.int .i64 lx,.slice la' lm Nk],.agg #[.int .i64 hx,.slice ha' hm hc']]) (by simp [results,Tryz.results274,go_sem,z0,z1,y0,y1]) rfl ⟨_,_,_,_,rfl,(uh O1).2.1.below (aaQ (n_ _ _)),(uh O1).2.2.below (aaQ (n_ _ _)),aaQ (uh O1).1,uh GN,uh GQ,uh Kg⟩
theorem Lc {n:Nat} {t:Pl.aR} (h:Pl.ik n t):(t.lines.map (·.1)).Nodup:=by
 rw [List.nodup_iff_pairwise_ne,List.pairwise_iff_getElem];intro i j hi hj hij e;have hi':i<t.lines.length:=by simpa using hi
 have hj':j<t.lines.length:=by simpa using hj
 have:=h.lines i j hi' hj' (by
  unfold Pl.aR.name;rw [a_,a_,f_ hi',f_ hj']
  simpa using e)
 omega
theorem Dn {n:Nat} {t:Pl.aR} (h:(t.lines.map (·.1)).Nodup) (i j:Nat) (hi:i<t.lines.length) (hj:j<t.lines.length) (e:t.name i=t.name j):i=j:=by
 rw [List.nodup_iff_pairwise_ne,List.pairwise_iff_getElem] at h;unfold Pl.aR.name at e;rw [a_,a_,f_ hi,f_ hj] at e;rcases Nat.lt_trichotomy i j with h1|h1|h1
 ·exact absurd (by rw [adi,adi];simpa using e) (h i j (by simpa using hi) (by simpa using hj) h1)
 ·exact h1
 ·exact absurd (by rw [adi,adi];simpa using e.symm) (h j i (by simpa using hj) (by simpa using hi) h1)
theorem OO {F:Int->Nat->Int} {n N:Nat} {U:List Int} {t:Pl.aR} {x:Int} (h:Good F n U N t) (hx:∀ c,c<n->t.fu c≠x):Good F n (U.filter λy=>y != x) (t.drop x).lines.length (t.drop x):=by
 have wL:∀ c,(t.drop x).fu c=t.fu c:=λc=>rfl;refine ⟨h.ok.drop x,⟨λi j hi hj e=>?_,λi j hi hj e=>h.names.aS i j hi hj e,λi j hi hj e=>?_⟩,⟨λy hy=>?_,λy hy=>?_,λy hy=>?_⟩,λc hc=>h.aS c hc,rfl⟩
 ·refine Dn (n:=n) ?_ i j hi hj e;refine (Lc h.names).sublist ?_;exact List.Sublist.map _ List.filter_sublist
 ·obtain ⟨r',hr',e1,e2⟩:=t.wH x hi;refine h.names.apart r' j hr' hj ?_;have e3:(t.drop x).name i=t.name r':=by unfold Pl.aR.name;rw [e1]
  rw [<-e3,e];rfl
 ·obtain ⟨c,hc,rfl⟩:=hy;exact abg.2 ⟨h.stat.aS _ ⟨c,hc,rfl⟩,by have:=hx c hc;rw [<-wL c] at this;simpa using this⟩
 ·obtain ⟨r,hr,rfl⟩:=hy;obtain ⟨r',hr',e1,e2⟩:=t.wH x hr;refine abg.2 ⟨?_,by simpa using e2⟩;have:(t.drop x).name r=t.name r':=by unfold Pl.aR.name;rw [e1]
  rw [this];exact h.stat.lines _ ⟨r',hr',rfl⟩
 ·obtain ⟨h1,h2⟩:=abg.1 hy;rcases h.stat.all y h1 with h3|⟨r,hr,e⟩
  ·exact .inl h3
  ·refine .inr ?_;have hm:t.lines[r]∈(t.drop x).lines:=abg.2 ⟨aan hr,by
    have:t.lines[r].1=y:=by rw [<-e];unfold Pl.aR.name;rw [a_,f_ hr];rfl
    rw [this];exact h2⟩
   obtain ⟨k,hk,ek⟩:=abw.1 hm;refine ⟨k,hk,?_⟩;rw [<-e];unfold Pl.aR.name;rw [a_,a_,f_ hk,f_ hr,ek]
theorem Ld {t:Pl.aR} {x:Int} (h:nT t):nT (t.drop x):=by
 intro k hk h0;obtain ⟨r',hr',e1,e2⟩:=t.wH x hk;have e3:(t.drop x).name k=t.name r':=by unfold Pl.aR.name;rw [e1]
 have e4:(t.drop x).cell k 0=t.cell r' 0:=by unfold Pl.aR.cell;rw [e1]
 rw [e3] at h0;rw [e4];exact h r' hr' h0
section
variable {r:aP} {L N:Nat} {D:List Nat} {U:List Int} {t t2:Pl.aR}
theorem Ul (hT:iy r D U N t) {i:Nat} (hi:i<r.least.length) (ht:KA (Pl.gJ r.S) r.size U N ((r.least.getD i []).map λx=>-x) t2) (hpos:0 < -Int.fdiv (t2.cell N 0) t2.scale):∀ P:Nat->Int,0<P 0->Pl.oo r.size r.least.length r.S P->0<Pl.ev r.size (r.S i) P:=by
 intro P p0 hP;have hU':∀ y∈(-1073741824:Int)::U,0<=y->∃ i:Nat,i<r.least.length∧y=i:=λy hy h0=>by
  rcases abp.1 hy with e|hy
  ·omega
  ·exact hT.names.nat y hy h0
 have h1:=Pl.OL hU' (S:=r.S) (λi hi=>by rw [fT (by omega),Pl.iY]) ht.lN.ok ht.lN.stat ht.lN.aS (wr:=N) (by rw [ht.lN.len];omega) ht.top (by omega) p0 hP;rw [ht.name] at h1;have e:mE (Pl.gJ r.S) ((r.least.getD i []).map λx=>-x) (-1073741824)=λk=>-r.S i k:=by
  funext k;rw [rT];have:=congrFun (tL (r.least.getD i [])) k;unfold lf at this;rw [this];rfl
 rw [e,zS] at h1;omega
theorem iy.drop (hf:iO L r) (hT:iy r D U N t) {i:Nat} (hi:i<r.least.length) (hpos:∀ P:Nat->Int,0<P 0->Pl.oo r.size r.least.length r.S P->0<Pl.ev r.size (r.S i) P):iy r (i::D) (U.filter λx=>x != (i:Int)) (t.drop i).lines.length (t.drop i)∧∃ k,k<t.lines.length∧t.name k≠i:=by
 obtain ⟨Q,q0,hQ,qc⟩:=hT.free.Dl hT.names (λi _=>Pl.iY _ _) hT.lN.ok hT.lN.stat hT.pt;have hne:∀ c,c<r.size->t.fu c≠(i:Int):=λc hc e=>by
  have h1:=qc c hc;rw [e,Pl.iY] at h1;have:=hpos Q q0 hQ;omega
 refine ⟨⟨OO hT.lN hne,Ld hT.pt,hT.names.drop i,hT.free.drop hi q0 hQ hpos,?_⟩,?_⟩
 ·have h1:(t.drop i).lines.length<=t.lines.length:=ab1 _ _;have h2:=hT.lN.len;have h3:=hT.small;omega
 ·have hm:(-1:Int)∈U:=(hT.names _).2 ⟨F_.2 (.inr (m_.2 ⟨0,W_.2 hf.Aj,rfl⟩)),λj _=>by omega⟩;rcases hT.lN.stat.all _ hm with ⟨c,hc,e⟩|⟨k,hk,e⟩
  ·have:=hT.lN.aS c hc;omega
  ·exact ⟨k,hk,by rw [e];omega⟩
theorem I6 (hT:iy r D U N t) {i:Nat} (hi:i<r.least.length) (ht:KA (Pl.gJ r.S) r.size U N (r.least.getD i []) t2):0<=Int.fdiv (t2.cell N 0) t2.scale:=by
 obtain ⟨Q,q1,q2⟩:=ht.lN.ok.wT 0 (by omega);have q0:Q 0=t2.scale:=by
  have:=q1 0 (by omega);rw [Pl.jK,Pl.kJ _ Q 0 (by omega),h_ rfl] at this;exact this
 have hp:=ht.lN.ok.pos;have hall:Pl.oo r.size r.least.length r.S Q:=hT.free Q (by rw [q0];omega) λj hj hD=>by
  rcases ht.lN.stat.all (j:Int) (abl _ (hT.names.mem hj hD)) with ⟨c,hc,e⟩|⟨k,hk,e⟩
  ·have:=q1 (c+1) (by omega);rw [Pl.gB,g_ (by omega),e,fT (by omega),Pl.iY] at this;omega
  ·have h1:=q2 k hk;rw [e,fT (by omega),Pl.iY] at h1;rw [h1];exact ht.pt k hk (by rw [e];omega)
 have h1:=q2 N (by rw [ht.lN.len];omega);rw [ht.name] at h1;have e:mE (Pl.gJ r.S) (r.least.getD i []) (-1073741824)=r.S i:=by funext k;rw [rT];rfl
 rw [e] at h1;have h2:=hall i hi;rw [h1] at h2;rw [T_ _ (by omega)];exact abO h2 (by omega)
theorem Um (hT:iy r D U N t) {i:Nat} (ht:KA (Pl.gJ r.S) r.size U N (r.least.getD i []) t2) {x:Nat->Int} (hx:Pl.oo r.size r.least.length r.S (Pl.pt x)):Pl.ev r.size (lf (r.least.getD i [])) (Pl.pt x)<=Int.fdiv (t2.cell N 0) t2.scale:=ht.le hT.names hx
end
structure qH (r:aP) (L i:Nat) (D:List Nat) (ks zs:List (List Int)) (ws:List Int):Prop where
 all:∀ j,j<i->j ∉ D->r.least.getD j []∈ks∨r.least.getD j []∈zs
 Yj:∀ a∈ks,a∈r.least
 VZ:∀ a∈zs,a∈r.least∧∀ x,Pl.oo r.size r.least.length r.S (Pl.pt x)->Pl.ev r.size (lf a) (Pl.pt x)=0
 len:ws.length=ks.length
 pos:∀ w∈ws,0<w
 lt:∀ w∈ws,Pl.Lt ((r.size+1)*L+1) w
 pK:ks.length+zs.length<=i
def aP.trim (r:aP) (ks zs:List (List Int)):aP:=⟨r.size,r.zero++zs,ks,r.told⟩
section
variable {r:aP} {L i N:Nat} {D:List Nat} {U:List Int} {t t2:Pl.aR} {ks zs:List (List Int)} {ws:List Int}
theorem qH.start (r:aP) (L:Nat) (D:List Nat):qH r L 0 D [] [] []:=⟨λj hj=>absurd hj (aaL j),λa h=>(by cases h),λa h=>(by cases h),rfl,λa h=>(by cases h),λa h=>(by cases h),d_ _⟩
theorem Af (hi:i<r.least.length):r.least.getD i []∈r.least:=by
 rw [a_,f_ hi];exact aan hi
theorem qH.drop (h:qH r L i D ks zs ws):qH r L (i+1) (i::D) ks zs ws :=
 ⟨λj hj hD=>h.all j (by
  rcases (show j<i∨j=i by omega) with e|e
  ·exact e
  ·exact absurd (by rw [e];exact ab2) hD) (λhm=>hD (abl _ hm)),h.Yj,h.VZ,h.len,h.pos,h.lt,by have:=h.pK;omega⟩
theorem qH.zero (h:qH r L i D ks zs ws) (hi:i<r.least.length) (h0:∀ x,Pl.oo r.size r.least.length r.S (Pl.pt x)->Pl.ev r.size (lf (r.least.getD i [])) (Pl.pt x)<=0):qH r L (i+1) D ks (zs++[r.least.getD i []]) ws:=by
 refine ⟨λj hj hD=>?_,h.Yj,λa ha=>?_,h.len,h.pos,h.lt,by rw [C_];have:=h.pK;simp;omega⟩
 ·rcases (show j<i∨j=i by omega) with e | e
  ·rcases h.all j e hD with h1 | h1
   ·exact .inl h1
   ·exact .inr (F_.2 (.inl h1))
  ·rw [e];exact .inr (F_.2 (.inr (I_.2 rfl)))
 ·rcases F_.1 ha with h1 | h1
  ·exact h.VZ a h1
  ·rw [I_.1 h1];refine ⟨Af hi,λx hx=>?_⟩;have h2:=h0 x hx;have h3:=hx i hi;have e:r.S i=lf (r.least.getD i []):=rfl;rw [e] at h3;omega
theorem qH.bX (h:qH r L i D ks zs ws) (hi:i<r.least.length) {v:Int} (hv:0<v) (hl:Pl.Lt ((r.size+1)*L+1) v):qH r L (i+1) D (ks++[r.least.getD i []]) zs (ws++[v]):=by
 refine ⟨λj hj hD=>?_,λa ha=>?_,h.VZ,by rw [C_,C_,h.len];rfl,λa ha=>?_,λa ha=>?_,by rw [C_];have:=h.pK;simp;omega⟩
 ·rcases (show j<i∨j=i by omega) with e | e
  ·rcases h.all j e hD with h1 | h1
   ·exact .inl (F_.2 (.inl h1))
   ·exact .inr h1
  ·rw [e];exact .inl (F_.2 (.inr (I_.2 rfl)))
 ·rcases F_.1 ha with h1 | h1
  ·exact h.Yj a h1
  ·rw [I_.1 h1];exact Af hi
 ·rcases F_.1 ha with h1 | h1
  ·exact h.pos a h1
  ·rw [I_.1 h1];exact hv
 ·rcases F_.1 ha with h1 | h1
  ·exact h.lt a h1
  ·rw [I_.1 h1];exact hl
structure uB (r:aP) (L:Nat) (ks zs:List (List Int)) (ws:List Int):Prop where
 parts:∃ D,qH r L r.least.length D ks zs ws∧Pl.Ba r.size r.least.length r.S D
theorem uB.Vk (h:uB r L ks zs ws) {P:Nat->Int} (p0:0<=P 0) (hk:∀ a∈ks,0<=Pl.ev r.size (lf a) P) (hz:∀ a∈zs,0<=Pl.ev r.size (lf a) P):Pl.oo r.size r.least.length r.S P:=by
 obtain ⟨D,h1,h2⟩:=h.parts;refine h2 P p0 λj hj hD=>?_;have e:r.S j=lf (r.least.getD j []):=rfl;rw [e];rcases h1.all j hj hD with h3|h3
 ·exact hk _ h3
 ·exact hz _ h3
theorem uB.has (h:uB r L ks zs ws) (hz:r.zero=[]) (x:Nat->Int):(r.trim ks zs).dX.Has x↔r.dX.Has x:=by
 obtain ⟨D,h1,h2⟩:=h.parts;have ez:(r.trim ks zs).zero=zs:=by show r.zero++zs=zs;rw [hz];rfl
 constructor
 ·intro hx;have hk:∀ a∈ks,0<=Pl.ev r.size (lf a) (Pl.pt x):=λa ha=>hx.least (lf a) (m_.2 ⟨a,ha,rfl⟩);have hzz:∀ a∈zs,Pl.ev r.size (lf a) (Pl.pt x)=0:=λa ha=>hx.zero (lf a) (m_.2 ⟨a,by rw [ez];exact ha,rfl⟩);have hin:=h.Vk (P:=Pl.pt x) (by unfold Pl.pt;rw [h_ rfl];decide) hk (λa ha=>by rw [hzz a ha];omega);refine ⟨λs hs=>?_,λs hs=>?_⟩
  ·have:r.dX.zero=[]:=by show r.zero.map lf=[];rw [hz];rfl
   rw [this] at hs;cases hs
  ·obtain ⟨a,ha,rfl⟩:=m_.1 hs;exact (rU x).2 hin a ha
 ·intro hx;have hin:=(rU x).1 λa ha=>hx.least (lf a) (m_.2 ⟨a,ha,rfl⟩);refine ⟨λs hs=>?_,λs hs=>?_⟩
  ·obtain ⟨a,ha,rfl⟩:=m_.1 hs;rw [ez] at ha;exact (h1.VZ a ha).2 x hin
  ·obtain ⟨a,ha,rfl⟩:=m_.1 hs;exact hx.least (lf a) (m_.2 ⟨a,h1.Yj a ha,rfl⟩)
theorem uB.qI (h:uB r L ks zs ws) (hz:r.zero=[]) (A:List Int):(r.trim ks zs).dX.kW A↔r.dX.kW A :=
 ⟨λ⟨x,h1,h2⟩=>⟨x,(h.has hz x).1 h1,h2⟩,λ⟨x,h1,h2⟩=>⟨x,(h.has hz x).2 h1,h2⟩⟩
theorem uB.mO (h:uB r L ks zs ws) (hz:r.zero=[]) (ht:r.dX.gM):(r.trim ks zs).dX.gM:=by
 intro D d1 d2 i hi;have ez:(r.trim ks zs).zero=zs:=by show r.zero++zs=zs;rw [hz];rfl
 let P:Nat->Int:=λk=>if k=0 then 0 else D (k - 1)
 have ep:∀ s,Pl.ev r.size s P=Pl.dir r.size s D:=λs=>by
  unfold Pl.ev Pl.dir;rw [Pl.yI];have:s 0*P 0=0:=by show s 0*(if 0=0 then 0 else D (0 - 1))=0;rw [h_ rfl,Y_]
  rw [this,Int.zero_add];refine Pl.aC λc _=>?_;show s (c+1)*(if c+1=0 then 0 else D (c+1 - 1))=_;rw [g_ (by omega)];rfl
 have hin:=h.Vk (P:=P) (by show (0:Int)<=if 0=0 then 0 else D (0 - 1);rw [h_ rfl];decide)
  (λa ha=>by rw [ep];exact d2 (lf a) (m_.2 ⟨a,ha,rfl⟩))
  (λa ha=>by rw [ep];have:Pl.dir r.size (lf a) D=0:=d1 (lf a) (m_.2 ⟨a,by rw [ez];exact ha,rfl⟩);omega)
 refine ht D (λs hs=>?_) (λs hs=>?_) i hi
 ·have:r.dX.zero=[]:=by show r.zero.map lf=[];rw [hz];rfl
  rw [this] at hs;cases hs
 ·obtain ⟨a,ha,rfl⟩:=m_.1 hs;obtain ⟨j,hj,e⟩:=abw.1 ha;have h1:=hin j hj;rw [ep] at h1;have e2:r.S j=lf a:=by
   funext k;unfold aP.S lf;rw [a_ (l:=r.least),f_ hj,e];rfl
  rwa [e2] at h1
theorem lX {ls:List (List Int)} {L:Nat} (h:∀ a∈ls,∀ k,Pl.Lt L (a.getD k 0)) (i k:Nat):Pl.Lt L ((ls.getD i []).getD k 0):=by
 rcases AR ls i with h1|h1
 ·exact h _ h1 k
 ·rw [h1];exact lC L
theorem KD {ls:List (List Int)} {L:Nat} (h:∀ i k,Pl.Lt L ((ls.getD i []).getD k 0)) {a:List Int} (ha:a∈ls) (k:Nat):Pl.Lt L (a.getD k 0):=by
 obtain ⟨i,hi,e⟩:=abw.1 ha;have:=h i k;rwa [a_ (l:=ls),f_ hi,Option.getD_some,e] at this
theorem uB.ok (h:uB r L ks zs ws) (hf:iO L r):eP (r.trim ks zs)∧dG L (r.trim ks zs):=by
 obtain ⟨D,h1,_⟩:=h.parts;have ez:(r.trim ks zs).zero=zs:=by show r.zero++zs=zs;rw [hf.zero];rfl
 have Nl:=hf.pK;have hf1:=h1.pK;refine ⟨⟨λl hl=>?_,λl hl=>hf.ok.dS l (h1.Yj l hl),hf.ok.gV,by rw [ez];omega,by show ks.length<=1000;omega,hf.ok.uP⟩,⟨λi k=>?_,λi k=>?_,hf.lt.told⟩⟩
 ·rw [ez] at hl;exact hf.ok.dS l (h1.VZ l hl).1
 ·rw [ez];exact lX (λa ha=>KD hf.lt.least (h1.VZ a ha).1) i k
 ·exact lX (λa ha=>KD hf.lt.least (h1.Yj a ha)) i k
end
end Go.Proofs.YtfaljekgpnbmiaaGreat
