/- Joined: XLim XLim2 XLim3 XTrim2 XTrim3. -/
import Derived.Test.YtgaafamcajcifaaGreatK33
set_option linter.unusedVariables false
set_option linter.unusedSimpArgs false
set_option maxRecDepth 100000
namespace Go.Proofs.YtgaafamcajcifaaGreat
open Go.RowKit Go.Sort
abbrev PT:Nat->Prop:=λ_=>True
theorem J3.Ez {F:Int->Nat->Int} {n L:Nat} {U:List Int} {s:List Int} {t:Pl.aR} (h:J3 F n U L s t) (hF:xw F n U):Good F n U L t.cut∧nQ t.cut:=by
 refine ⟨PV h.lL hF h.name,λk hk h0=>?_⟩;rw [Pl.Bt] at hk;rw [qj t hk] at h0;rw [PW t hk];exact h.pt k (by omega) h0
theorem J3.le {n m:Nat} {S:Nat->Nat->Int} {D:List Nat} {U:List Int} {L:Nat} {s:List Int} {t:Pl.aR} (h:J3 (Pl.gH S) n U L s t) (hU:Pl.dJ n m D U) {x:Nat->Int} (hx:Pl.nY n m S (Pl.pt x)):Pl.ev n (lf s) (Pl.pt x)<=Int.fdiv (t.cell L 0) t.scale:=by
 have hU':∀ y∈(-1073741824:Int)::U,0<=y->∃ i:Nat,i<m∧y=i:=λy hy h0=>by
  rcases aa0.1 hy with e|hy
  ·omega
  ·exact hU.nat y hy h0
 have h1:=Pl.M8 hU' (λi hi=>by rw [fP (by omega),Pl.iW]) h.lL.ok h.lL.stat h.lL.aS (wr:=L) (by rw [h.lL.len];omega) h.top hx;rw [h.name] at h1;have e:mi (Pl.gH S) s (-1073741824)=lf s:=by funext k;exact rQ _ _ _
 rwa [e] at h1
theorem J3.Hy {F:Int->Nat->Int} {n L K:Nat} {U:List Int} {s:List Int} {t:Pl.aR} (h:J3 F n U L s t) (hlt:qg K t):Pl.Lt K (Int.fdiv (t.cell L 0) t.scale) :=
 (hlt.cell L 0 (by rw [h.lL.len];omega) (by omega)).fdiv h.lL.ok.pos
theorem tJ (s:List Int):lf (s.map λx=>-x)=λk=>-lf s k:=by
 funext k;unfold lf;rw [a_,aal,a_];rcases s[k]? with _|x <;> rfl
theorem zQ (n:Nat) (f P:Nat->Int):Pl.ev n (λk=>-f k) P=-Pl.ev n f P:=by
 unfold Pl.ev;have:Pl.sm (n+1) (λk=>-f k*P k)=Pl.sm (n+1) (λk=>(-1)*(f k*P k)):=Pl.aC λk _=>by rw [aaP,aaP,aaH]
 rw [this,Pl.dz,aaP,aaH]
structure iq (r:aP) (D:List Nat) (U:List Int) (N:Nat) (t:Pl.aR):Prop where
 lL:Good (Pl.gH r.S) r.size U N t
 pt:nQ t
 names:Pl.dJ r.size r.least.length D U
 free:Pl.A8 r.size r.least.length r.S D
 small:N<=900
structure iM (L:Nat) (r:aP):Prop where
 zero:r.zero=[]
 mJ:r.dV.gJ
 ok:eH r
 lt:dF L r
 one:1<=L
 Ah:0<r.size
 size:r.size<=9
 pI:r.least.length<=800
section
variable {r:aP} {L N b gl gc:Nat} {D:List Nat} {U:List Int} {t:Pl.aR} {s:List Int}
theorem iM.FL (h:iM L r) (hU:Pl.dJ r.size r.least.length D U):∀ x∈U,∀ k,Pl.Lt L (Pl.gH r.S x k):=λx hx k=>Vo h.one h.lt ((hU x).1 hx).1 k
theorem iM.form (h:iM L r) (hU:Pl.dJ r.size r.least.length D U):xw (Pl.gH r.S) r.size U:=RX (by have:=h.size;omega) (by have:=h.pI;omega) hU
theorem iq.lt (h:iq r D U N t) (hf:iM L r):qg ((r.size+1)*L+1) t:=Fy hf.size h.lL.ok h.lL.stat (λx hx k _=>hf.FL h.names x hx k)
theorem iq.Ud (h:iq r D U N t) (hf:iM L r):Pl.CE (Pl.gH r.S) r.size U:=h.free.mJ h.names (λi _=>Pl.iW _ _) (GQ hf.zero hf.mJ)
theorem FM (hf:iM L r) (hU:Pl.dJ r.size r.least.length D U) (hs:∀ k,Pl.Lt L (s.getD k 0)) {c:Nat} {t':Pl.aR} (h:Fair (mi (Pl.gH r.S) s) r.size (-1073741824::U) (N+1) c t'):qg ((r.size+1)*L+1) t':=Fy hf.size h.ok h.stat (λx hx k _=>RV (hf.FL hU) hs x hx k)
theorem iq.cut (h:iq r D U N t) (hf:iM L r) {t2:Pl.aR} (ht:J3 (Pl.gH r.S) r.size U N s t2):iq r D U N t2.cut:=⟨(ht.Ez (hf.form h.names)).1,(ht.Ez (hf.form h.names)).2,h.names,h.free,h.small⟩
theorem EA {F:Int->Nat->Int} {n:Nat} (h:Good F n U N t):Fair F n U N 0 t:=⟨h.ok,h.names,h.stat,λk hk=>absurd hk (aaD k),h.len⟩
theorem Au (P:Nat->Prop) (hf:iM L r) (hT:iq r D U N t) (vs:Value) (w:World) (hP:∀ b',w.heap.size<=b'->P b') (h:aV P w b gl gc t) (hs:aD P w vs s) (hlen:s.length=r.size+1) (hsl:∀ k,Pl.Lt L (s.getD k 0)) (hK:2*((r.size+1)*L+1)+1<=1500000000000) :
  Calls Tryz.prog 69 #[.pointer (some ⟨b,0,none⟩),vs] w λe w'=>∃ (v':Value) (yQ:Nat) (t2:Pl.aR),e=.returned v'∧aV P w' b yQ gc t2.cut∧(yQ=gl∨w.heap.size<=yQ)∧bG (mh b gl gc) w w'∧aj P w' v' (Int.fdiv (t2.cell N 0) t2.scale)∧J3 (Pl.gH r.S) r.size U N s t2∧iq r D U N t2.cut∧Pl.Lt ((r.size+1)*L+1) (Int.fdiv (t2.cell N 0) t2.scale):=by
 have Fe:L<=(r.size+1)*L+1:=by rw [aa_,abA];omega
 refine (Av P ((r.size+1)*L+1) b gl gc (Pl.gH r.S) r.size U N t s vs w hP h hs hT.lL hT.pt (hf.form hT.names) (by have:=hf.size;omega) hT.small hlen (λk=>(hsl k).mono Fe) (hT.lt hf) (λt' ht'=>FM hf hT.names hsl ht') hK (hT.Ud hf)).mono ?_;rintro e w' ⟨v',yQ,t2,rfl,h1,h2,h3,h4,h5⟩;exact ⟨v',yQ,t2,rfl,h1,h2,h3,h4,h5,hT.cut hf h5,h5.Hy (FM hf hT.names hsl (EA h5.lL))⟩
theorem xI (P:Nat->Prop) (hf:iM L r) (hT:iq r D U N t) (vs:Value) (w:World) (hP:∀ b',w.heap.size<=b'->P b') (h:aV P w b gl gc t) (hs:aD P w vs s) (hlen:s.length=r.size+1) (hsl:∀ k,Pl.Lt L (s.getD k 0)) (hK:2*((r.size+1)*L+1)+1<=1500000000000) :
  Calls Tryz.prog 53 #[.pointer (some ⟨b,0,none⟩),vs] w λe w'=>∃ (v':Value) (yQ:Nat) (t2:Pl.aR),e=.returned v'∧aV P w' b yQ gc t2.cut∧(yQ=gl∨w.heap.size<=yQ)∧bG (mh b gl gc) w w'∧aj P w' v' (-Int.fdiv (t2.cell N 0) t2.scale)∧J3 (Pl.gH r.S) r.size U N (s.map λx=>-x) t2∧iq r D U N t2.cut∧Pl.Lt ((r.size+1)*L+1) (-Int.fdiv (t2.cell N 0) t2.scale):=by
 have Fe:L<=(r.size+1)*L+1:=by rw [aa_,abA];omega
 have hneg:∀ k,Pl.Lt L ((s.map λx=>-x).getD k 0):=λk=>by
  have:=congrFun (tJ s) k;unfold lf at this;rw [this];exact (hsl k).neg
 refine (J4 P ((r.size+1)*L+1) b gl gc (Pl.gH r.S) r.size U N t s vs w hP h hs hT.lL hT.pt (hf.form hT.names) (by have:=hf.size;omega) hT.small hlen (λk=>(hsl k).mono Fe) (hT.lt hf) (λt' ht'=>FM hf hT.names hneg ht') hK (hT.Ud hf)).mono ?_;rintro e w' ⟨v',yQ,t2,rfl,h1,h2,h3,h4,h5⟩;exact ⟨v',yQ,t2,rfl,h1,h2,h3,h4,h5,hT.cut hf h5,(h5.Hy (FM hf hT.names hneg (EA h5.lL))).neg⟩
theorem Fw (hf:iM L r) (vl:Value) (w:World) (h:aM PT w vl r.least) (hK:2*((r.size+1)*L+1)+1<=1500000000000) :
  Calls Tryz.prog 49 #[vl,.int .i64 r.size] w λe w'=>∃ (b gl gc:Nat) (t':Pl.aR),e=.returned (.pointer (some ⟨b,0,none⟩))∧w.heap.size<=b∧w.heap.size<=gl∧w.heap.size<=gc∧aV (·≠gc) w' b gl gc t'∧ae w w'∧Good (Pl.gH r.S) r.size (Pl.gU r.size r.least.length) r.least.length t' :=
 Su r.least r.size vl w h hf.Ah (by have:=hf.size;omega) (MI hf.zero hf.mJ hf.Ah) (by have:=hf.pI;omega) hf.ok.dQ ((r.size+1)*L+1) hK (λt' ht'=>Fy hf.size ht'.ok ht'.stat (λx hx k _=>hf.FL (Pl.dJ.start _ _) x hx k)) (GQ hf.zero hf.mJ)
theorem zK (hf:iM L r) (w:World) (h:aV (·≠gc) w b gl gc t) (hg:Good (Pl.gH r.S) r.size (Pl.gU r.size r.least.length) r.least.length t) (hK:2*((r.size+1)*L+1)+1<=1500000000000) :
  Calls Tryz.prog 50 #[.pointer (some ⟨b,0,none⟩)] w λe w'=>∃ (qG:Bool) (t':Pl.aR),e=.returned (.bool qG)∧aV (·≠gc) w' b gl gc t'∧bG (mh b gl gc) w w'∧(qG=false->iq r [] (Pl.gU r.size r.least.length) r.least.length t')∧(qG=true->∀ x,¬ r.dV.Has x):=by
 refine (Hz (·≠gc) ((r.size+1)*L+1) b gl gc (Pl.gH r.S) r.size (Pl.gU r.size r.least.length) r.least.length t w (λb' hb' e=>by have:=h.lt.2.2.1;omega) h hg (by have:=hf.size;omega) (by have:=hf.pI;omega) (λt' ht'=>Fy hf.size ht'.ok ht'.stat (λx hx k _=>hf.FL (Pl.dJ.start _ _) x hx k)) hK).mono ?_;rintro e w' ⟨qG,t',rfl,h1,h2,h3,h4,h5⟩;refine ⟨qG,t',rfl,h1,h2,λha=>⟨h3,h4 ha,Pl.dJ.start _ _,Pl.A8.start _ _ _,by have:=hf.pI;omega⟩,λha x hx=>?_⟩;obtain ⟨rr,hr,n1,n2,n3⟩:=h5 ha;refine Pl.PX (Pl.dJ.start r.size r.least.length).nat (λi _=>Pl.iW _ _) h3.ok h3.stat h3.aS hr n1 n2 n3 x ((rR x).1 λa ha'=>?_);exact hx.least (lf a) (m_.2 ⟨a,ha',rfl⟩)
end
theorem qL {w w1 w2:World} {b gl gc:Nat} (hg:ae w w1) (h1:w.heap.size<=b) (h2:w.heap.size<=gl) (h3:w.heap.size<=gc) (ht:bG (mh b gl gc) w1 w2):ae w w2 :=
 aa2 hg (ht.below (λk hk=>by rcases hk with e | e | e <;> omega) hg.size)
def dh (n at_:Nat):List Int:=(List.range (n+1)).map (Pl.unit (at_+1))
theorem nZ {n at_:Nat} (h:at_<n) (x:Nat->Int):Pl.ev n (lf (dh n at_)) (Pl.pt x)=x at_:=by
 have:Pl.ev n (lf (dh n at_)) (Pl.pt x)=Pl.ev n (Pl.unit (at_+1)) (Pl.pt x):=Bu (λk hk=>by unfold lf dh;exact Pl.bJ _ _ _ (by omega)) x;rw [this,Pl.kH n _ (at_+1) (by omega)];unfold Pl.pt;rw [g_ (by omega)];rfl
theorem uZ {n at_ L:Nat} (hL:1<=L) (k:Nat):Pl.Lt L ((dh n at_).getD k 0):=by
 obtain ⟨L',rfl⟩:∃ L',L=L'+1:=⟨L - 1,by omega⟩;unfold dh;by_cases hk:k<n+1
 ·rw [Pl.bJ _ _ _ hk];unfold Pl.unit;split <;> exact dR (by decide)
 ·rw [a_,O_ (by simp;omega)];exact dR (by decide)
theorem La {w0 w3:World} (hG:ae w0 w3) {g1 g2:Nat} (n1:w0.heap.size<=g1) (n2:w0.heap.size<=g2) (hne:g1≠g2) {c1 c2:Array Value} (b1:w3.heap[g1]?=some (.cells c1 78 (0,0))) (b2:w3.heap[g2]?=some (.cells c2 78 (0,0))) {x y:Int} {a d:Option Addr} {m c e f:Nat} {u v:Int} (hu:aj PT w3 (.agg #[.int .i64 x,.slice a m c]) u) (hv:aj PT w3 (.agg #[.int .i64 y,.slice d e f]) v) :
  ae w0 ((((w3.setCell ⟨g1,0,none⟩ (.int .i64 x)).setCell ⟨g1,1,none⟩ (.slice a m c)).setCell ⟨g2,0,none⟩ (.int .i64 y)).setCell ⟨g2,1,none⟩ (.slice d e f))∧aj PT ((((w3.setCell ⟨g1,0,none⟩ (.int .i64 x)).setCell ⟨g1,1,none⟩ (.slice a m c)).setCell ⟨g2,0,none⟩ (.int .i64 y)).setCell ⟨g2,1,none⟩ (.slice d e f)) (.agg #[.int .i64 x,.slice a m c]) u∧aj PT ((((w3.setCell ⟨g1,0,none⟩ (.int .i64 x)).setCell ⟨g1,1,none⟩ (.slice a m c)).setCell ⟨g2,0,none⟩ (.int .i64 y)).setCell ⟨g2,1,none⟩ (.slice d e f)) (.agg #[.int .i64 y,.slice d e f]) v:=by
 have e1:=j_ w3 g1 0 _ _ (.int .i64 x) b1;have e2:((w3.setCell ⟨g1,0,none⟩ (.int .i64 x)).setCell ⟨g1,1,none⟩ (.slice a m c)).heap[g2]?=some (.cells c2 78 (0,0)):=(l_ _ _ _ _ (aaQ hne)).trans ((l_ _ _ _ _ (aaQ hne)).trans b2);have e3:=j_ _ g2 0 _ _ (.int .i64 y) e2;have kt:aA 3 w3 ((((w3.setCell ⟨g1,0,none⟩ (.int .i64 x)).setCell ⟨g1,1,none⟩ (.slice a m c)).setCell ⟨g2,0,none⟩ (.int .i64 y)).setCell ⟨g2,1,none⟩ (.slice d e f)):=(((aA.setCell b1 (by decide) _ _).trans (aA.setCell e1 (by decide) _ _)).trans (aA.setCell e2 (by decide) _ _)).trans (aA.setCell e3 (by decide) _ _);exact ⟨(((B_ (p:=⟨g1,0,none⟩) hG n1 _).setCell (p:=⟨g1,1,none⟩) n1 _).setCell (p:=⟨g2,0,none⟩) n2 _).setCell (p:=⟨g2,1,none⟩) n2 _,hu.bW kt,hv.bW kt⟩
theorem sS (P:Nat->Prop) (w:World):aj P w (.agg #[.int .i64 0,.slice none 0 0]) 0:=.inl ⟨rfl,show (-4611686018427387904:Int)<0 by decide,show (0:Int)<4611686018427387904 by decide⟩
theorem bB.holds {P:Nat->Prop} {w w':World} {g:Nat} {x:Int} {a:Option Addr} {m c:Nat} {n:Int} (h:bB P w g x a m c n) (hp:P g) (hh:Holds P w w'):bB P w' g x a m c n:=⟨(hh g _ _ (.inr (.inl rfl)) hp h.heap).trans h.heap,h.val.ql hh.xJ⟩
set_option maxHeartbeats 2000000 in
theorem JI (r:aP) (L at_:Nat) (vr:Value) (w:World) (h:jT PT w vr r) (hf:iM L r) (hat:at_<r.size) (hK:2*((r.size+1)*L+1)+1<=1500000000000) :
  Calls Tryz.prog 72 #[vr,.int .i64 at_] w λe w'=>∃ (v1 v2:Value) (lo hi:Int),e=.returned (.tuple #[v1,v2])∧aj PT w' v1 lo∧aj PT w' v2 hi∧Below w.heap.size w w'∧(∀ x,r.dV.Has x->lo<=x at_∧x at_<=hi)∧Pl.Lt ((r.size+1)*L+1) lo∧Pl.Lt ((r.size+1)*L+1) hi:=by
 obtain ⟨i0,hi0,hz0,hz1,hz2⟩:=U_ Tryz.dP;obtain ⟨vz,vl,vt,rfl,h1,h2,h3⟩:=h;obtain ⟨za,zn,zc,rfl⟩:=h1.aB;obtain ⟨la,ln,lc,rfl⟩:=h2.aB;obtain ⟨ta,tn,tc,rfl⟩:=h3.aB;have HF:=af hf;obtain ⟨W,hW⟩:∃ W,((w.alloc (.cells #[.int .i64 r.size,.slice za zn zc,.slice la ln lc,.slice ta tn tc] 74)).alloc (.cells #[.int .i64 0,.slice none 0 0] 78)).alloc (.cells #[.int .i64 0,.slice none 0 0] 78)=W:=⟨_,rfl⟩;have HG:Hid (ae w W):=by unfold Hid;rw [<-hW];exact ae.trans (ae.trans (ae.alloc _ _) (ae.alloc _ _)) (ae.alloc _ _)
 have b0:W.heap[w.heap.size]?=some (.cells #[.int .i64 r.size,.slice za zn zc,.slice la ln lc,.slice ta tn tc] 74 (0,0)):=by rw [<-hW];exact Below.same (ae.trans (ae.alloc _ _) (ae.alloc _ _)) _ _ (aG _ _)
 have b1:W.heap[w.heap.size+1]?=some (.cells #[.int .i64 0,.slice none 0 0] 78 (0,0)):=by
  have:=Below.same (ae.alloc ((w.alloc (.cells #[.int .i64 r.size,.slice za zn zc,.slice la ln lc,.slice ta tn tc] 74)).alloc (.cells #[.int .i64 0,.slice none 0 0] 78)) (.cells #[.int .i64 0,.slice none 0 0] 78)) _ _ (aG (w.alloc (.cells #[.int .i64 r.size,.slice za zn zc,.slice la ln lc,.slice ta tn tc] 74)) (.cells #[.int .i64 0,.slice none 0 0] 78));rw [<-hW];rwa [H_] at this
 have b2:W.heap[w.heap.size+1+1]?=some (.cells #[.int .i64 0,.slice none 0 0] 78 (0,0)):=by
  have:=aG ((w.alloc (.cells #[.int .i64 r.size,.slice za zn zc,.slice la ln lc,.slice ta tn tc] 74)).alloc (.cells #[.int .i64 0,.slice none 0 0] 78)) (.cells #[.int .i64 0,.slice none 0 0] 78);rw [<-hW];rwa [H_,H_] at this
 have k0:W.cell? ⟨w.heap.size,0,none⟩=some (.int .i64 r.size):=by rw [cellsOf b0];rfl
 have k2:W.cell? ⟨w.heap.size,2,none⟩=some (.slice la ln lc):=by rw [cellsOf b0];rfl
 have HB:=af (x_ b0 (x_ b1 b2));have TT:=af (Fw hf (.slice la ln lc) W (h2.below (uh HG)) hK);clear h1 h2 h3 b0 b1 b2;go_enter Tryz.func72,Tryz.ntmps72;go_wp2_with fail
 try rw [hW]
 clear hW;refine (uh TT).mono ?_;rintro e w1 ⟨b,gl,gc,t1,rfl,q1,q2,q3,hT1,hG1,hgood⟩;have HT1:=af hT1;have dN:=af hG1;have Vh:=af (zK hf w1 hT1 hgood hK);clear hT1 hG1 hgood TT k0 k2;go_wp2_with fail;refine (uh Vh).mono ?_;rintro e w2 ⟨qG,t2,rfl,hT2,hU2,hfl,htr⟩;have HT2:=af hT2;have HG2:Hid (ae W w2):=qL (uh dN) q1 q2 q3 hU2;have HB2:=af (x_ (Below.same (uh HG2) _ _ (uh HB).1) (x_ (Below.same (uh HG2) _ _ (uh HB).2.1) (Below.same (uh HG2) _ _ (uh HB).2.2)));clear hT2 hU2 Vh dN HT1;have k0:w2.cell? ⟨w.heap.size,0,none⟩=some (.int .i64 r.size):=by rw [cellsOf (uh HB2).1];rfl
 cases qG with
 | true =>
  have Bi:=af (htr rfl);clear hfl htr;go_wp2_with fail;refine (fM PT 1 w2 (λ_ _=>trivial) (by decide) (by decide)).mono ?_;rintro e w3 ⟨v3,rfl,hv3,hw3⟩;obtain ⟨ox,oa,om,oc,rfl⟩:=hv3.shape;have c1:=Below.same hw3 _ _ (uh HB2).2.1;have c2:=Below.same hw3 _ _ (uh HB2).2.2;obtain ⟨z0,z1,z2,z3⟩:=au c1;obtain ⟨y0,y1,y2,y3⟩:=au c2;have Od:=af (La (((uh HG).trans (uh HG2)).trans hw3) (show w.heap.size<=w.heap.size+1 by omega) (show w.heap.size<=w.heap.size+1+1 by omega) (by omega) c1 c2 hv3 (sS PT w3));clear hv3 hw3 c1 c2 k0;go_wp2;obtain ⟨L',hL'⟩:∃ L',(r.size+1)*L+1=L'+1:=⟨_,rfl⟩;exact t_ (v:=.tuple #[.agg #[.int .i64 ox,.slice oa om oc],.agg #[.int .i64 0,.slice none 0 0]]) (by simp [results,Tryz.results72,go_sem,z0,z1,y0,y1]) rfl ⟨_,_,1,0,rfl,(uh Od).2.1,(uh Od).2.2,(uh Od).1,λx hx=>absurd hx (uh Bi x),dR (by decide),dR (by decide)⟩
 | false =>
  have MG:=af (hfl rfl);clear hfl htr;have hwn:IntKind.i64.wrap ((r.size:Int)+1)=((r.size+1:Nat):Int):=by rw [aaA];have:=(uh HF).size;omega
  have hs9:=(uh HF).size;go_wp2_with (at_make;refine wpList_make_full _ rfl _ _ 69 rfl w2.heap.size 78 i0 (.agg #[.int .i64 0,.slice none 0 0]) 2 Tryz.underlying69 hi0 hz0 hz1 .i64 .i64 _ _ (r.size+1) rfl rfl ?e1 ?e2 ?c1 ?c2 ?c3 ?_)
  case e1=>first | rfl | omega | simp
  case e2=>first | rfl | omega | simp
  case c1=>rw [hz2];omega
  case c2=>unfold maxLen;omega
  case c3=>first | omega | simp
  ·intro w3 hown hgrow;have hG3:ae w2 w3:=(n_ _ _).grown hgrow (d_ _) (by intro k hk;cases hk);have HR3:Hid (bz (·≠gc) w3 w2.heap.size (r.size+1) (λ_=>0)):=bz.made hown;have jb:=af hG3;have akl:=(uh HT2).lt.2.2.1;have w1':IntKind.i64.wrap ((at_:Int)+1)=(at_:Int)+1:=by rw [aaA];omega
   have t1':((at_:Int)+1).toNat=at_+1:=by omega
   have l1':(at_:Int)+1<(r.size:Int)+1:=by omega
   have l2':0<=(at_:Int)+1:=by omega
   clear hown hgrow hG3 k0;go_wp2_with fail;refine (fM (·≠gc) 1 w3 (λb' hb' e=>by have:=(uh jb).size;omega) (by decide) (by decide)).mono ?_;rintro e w4 ⟨v4,rfl,hv4,hw4⟩;obtain ⟨ox,oa,om,oc,rfl⟩:=hv4.shape;have hR4:=(uh HR3).grow hw4;obtain ⟨qx,qa,qm,qc,r0,r1,_,f0,f1⟩:=hR4.get (i:=at_+1) (by omega);obtain ⟨W4,xX⟩:∃ W,(w4.setCell ⟨w2.heap.size,(at_+1)*2,none⟩ (.int .i64 ox)).setCell ⟨w2.heap.size,(at_+1)*2+1,none⟩ (.slice oa om oc)=W:=⟨_,rfl⟩;have sM:Hid (aD (·≠gc) W4 (.slice (some ⟨w2.heap.size,0,none⟩) (r.size+1) (r.size+1)) (dh r.size at_)):=by
    unfold Hid;rw [<-xX];have:=((hR4.set (i:=at_+1) (by omega) hv4).congr (f':=Pl.unit (at_+1)) (λk _=>by
     unfold qi Pl.unit;by_cases h:k=at_+1
     ·rw [h_ h,h_ h.symm]
     ·rw [g_ h,g_ (λe=>h e.symm)])).row (show w2.heap.size≠gc by omega)
    exact this
   have kC:Hid (ae w2 W4):=by
    unfold Hid;rw [<-xX];exact (B_ (p:=⟨w2.heap.size,(at_+1)*2,none⟩) (ae.trans (uh jb) hw4) (d_ _) _).setCell (p:=⟨w2.heap.size,(at_+1)*2+1,none⟩) (d_ _) _
   have M9:=af ((uh HT2).grow (uh kC));have HY:=af (xI (·≠gc) hf (uh MG) _ W4 (λb' hb' e=>by have:=(uh M9).lt.2.2.1;omega) (uh M9) (uh sM) (by simp [dh]) (λk=>uZ (uh HF).one k) hK);clear hv4 hw4 hR4 HR3 jb HT2;go_wp2_with fail
   try rw [xX]
   refine (uh HY).mono ?_;rintro e w5 ⟨v5,gl5,t5,rfl,Vg,ac3,hU5,hv5,Ue,YU,YV⟩;obtain ⟨lx,la',lm,MB,rfl⟩:=hv5.shape;have hgW:ae W w2:=uh HG2;have hgr5:ae W w5:=qL (hgW.trans (uh kC)) q1 q2 q3 hU5;have YW:W.heap.size<=gl5:=by rcases ac3 with e | e;omega;have:=(hgW.trans (uh kC)).size;omega
   have MO:Hid (W.heap.size<=w5.heap.size):=hgr5.size;have HV5:=af (dC hv5);have EB:=af (((uh sM).holds (sU (uh M9) hU5)).below (ae.alloc w5 (.cells #[.int .i64 lx,.slice la' lm MB] 78)));have Xl:=af (Vg.grow (ae.alloc w5 (.cells #[.int .i64 lx,.slice la' lm MB] 78)));have gD:Hid (ae W (w5.alloc (.cells #[.int .i64 lx,.slice la' lm MB] 78))):=hgr5.trans (ae.alloc _ _);have YX:=af Ue;have GJ:=af YV;have hne5:w5.heap.size≠gc:=by have:=Vg.lt.2.2.1;omega
   have DJ:=af (Au (·≠gc) hf YU _ (w5.alloc (.cells #[.int .i64 lx,.slice la' lm MB] 78)) (λb' hb' e=>by have:=(uh Xl).lt.2.2.1;omega) (uh Xl) (uh EB) (by simp [dh]) (λk=>uZ (uh HF).one k) hK);clear Vg hU5 hv5 Ue YU YV hgr5 hgW HY xX r0 r1 f0 f1 sM M9;go_wp2_with fail;refine (uh DJ).mono ?_;rintro e w6 ⟨v6,gl6,t6,rfl,Yf,akn,TU,hv6,Uf,ac5,Sv⟩;obtain ⟨hx,ha',hm,hc',rfl⟩:=hv6.shape;have VO:ae W w6:=qL (uh gD) q1 YW q3 TU;have KJ:Hid (W.heap.size<=w6.heap.size):=VO.size;have wI:=af (dC hv6);have VP:=af (((uh HV5).holds hne5 (sU (uh Xl) TU)).grow (ae.alloc w6 (.cells #[.int .i64 hx,.slice ha' hm hc'] 78)));have lT:Hid (ae W (w6.alloc (.cells #[.int .i64 hx,.slice ha' hm hc'] 78))):=VO.trans (ae.alloc _ _);have GI:Hid (∀ x,r.dV.Has x->-Int.fdiv (t5.cell r.least.length 0) t5.scale<=x at_∧x at_<=Int.fdiv (t6.cell r.least.length 0) t6.scale):=λx Ag=>by
    have hin:=(rR x).1 λa ha=>Ag.least (lf a) (m_.2 ⟨a,ha,rfl⟩);have e5:=(uh YX).le (uh MG).names hin;have e6:=Uf.le (uh MG).names hin;rw [tJ,zQ,nZ hat] at e5;rw [nZ hat] at e6;omega
   have JJ:=af Sv;clear Yf TU hv6 Uf ac5 Sv VO DJ Xl EB HV5 gD YX;have c1:=Below.same (uh lT) _ _ (uh HB).2.1;have c2:=Below.same (uh lT) _ _ (uh HB).2.2;obtain ⟨z0,z1,z2,z3⟩:=au c1;obtain ⟨y0,y1,y2,y3⟩:=au c2;have u0:=(uh VP).cells.1;have u1:=(uh VP).cells.2.1;have u2:=(uh wI).cells.1;have u3:=(uh wI).cells.2.1;have Od:=af (La ((uh HG).trans (uh lT)) (show w.heap.size<=w.heap.size+1 by omega) (show w.heap.size<=w.heap.size+1+1 by omega) (by omega) c1 c2 ((uh VP).val.mono (λ_ _ _=>trivial)) ((uh wI).val.mono (λ_ _ _=>trivial)));have hWs:w.heap.size+1+1<W.heap.size:=z_ (uh HB).2.2;have hs6:W.heap.size<=w6.heap.size:=uh KJ;have hs5:W.heap.size<=w5.heap.size:=uh MO;have d1:w6.heap.size≠w.heap.size+1:=by omega
   have d2:w6.heap.size≠w.heap.size+1+1:=by omega
   have d3:w5.heap.size≠w.heap.size+1:=by omega
   have d4:w5.heap.size≠w.heap.size+1+1:=by omega
   have d5:=aaQ d1;have d6:=aaQ d2;have d7:=aaQ d3;have d8:=aaQ d4;clear c1 c2;go_wp2_with fail;go_region
   all_goals
    go_wp2;exact t_ (v:=.tuple #[.agg #[.int .i64 lx,.slice la' lm MB],.agg #[.int .i64 hx,.slice ha' hm hc']]) (by simp [results,Tryz.results72,go_sem,z0,z1,y0,y1]) rfl ⟨_,_,_,_,rfl,(uh Od).2.1.below (aaF (n_ _ _)),(uh Od).2.2.below (aaF (n_ _ _)),aaF (uh Od).1,uh GI,uh GJ,uh JJ⟩
theorem KG {n:Nat} {t:Pl.aR} (h:Pl.ib n t):(t.lines.map (·.1)).Nodup:=by
 rw [List.nodup_iff_pairwise_ne,List.pairwise_iff_getElem];intro i j hi hj hij e;have hi':i<t.lines.length:=by simpa using hi
 have hj':j<t.lines.length:=by simpa using hj
 have:=h.lines i j hi' hj' (by
  unfold Pl.aR.name;rw [a_,a_,f_ hi',f_ hj']
  simpa using e)
 omega
theorem Dl {n:Nat} {t:Pl.aR} (h:(t.lines.map (·.1)).Nodup) (i j:Nat) (hi:i<t.lines.length) (hj:j<t.lines.length) (e:t.name i=t.name j):i=j:=by
 rw [List.nodup_iff_pairwise_ne,List.pairwise_iff_getElem] at h;unfold Pl.aR.name at e;rw [a_,a_,f_ hi,f_ hj] at e;rcases Nat.lt_trichotomy i j with h1|h1|h1
 ·exact absurd (by rw [List.getElem_map,List.getElem_map];simpa using e) (h i j (by simpa using hi) (by simpa using hj) h1)
 ·exact h1
 ·exact absurd (by rw [List.getElem_map,List.getElem_map];simpa using e.symm) (h j i (by simpa using hj) (by simpa using hi) h1)
theorem NU {F:Int->Nat->Int} {n N:Nat} {U:List Int} {t:Pl.aR} {x:Int} (h:Good F n U N t) (hx:∀ c,c<n->t.fe c≠x):Good F n (U.filter λy=>y != x) (t.drop x).lines.length (t.drop x):=by
 have wJ:∀ c,(t.drop x).fe c=t.fe c:=λc=>rfl;refine ⟨h.ok.drop x,⟨λi j hi hj e=>?_,λi j hi hj e=>h.names.aS i j hi hj e,λi j hi hj e=>?_⟩,⟨λy hy=>?_,λy hy=>?_,λy hy=>?_⟩,λc hc=>h.aS c hc,rfl⟩
 ·refine Dl (n:=n) ?_ i j hi hj e;refine (KG h.names).sublist ?_;exact List.Sublist.map _ List.filter_sublist
 ·obtain ⟨r',hr',e1,e2⟩:=t.wF x hi;refine h.names.apart r' j hr' hj ?_;have e3:(t.drop x).name i=t.name r':=by unfold Pl.aR.name;rw [e1]
  rw [<-e3,e];rfl
 ·obtain ⟨c,hc,rfl⟩:=hy;exact aaR.2 ⟨h.stat.aS _ ⟨c,hc,rfl⟩,by have:=hx c hc;rw [<-wJ c] at this;simpa using this⟩
 ·obtain ⟨r,hr,rfl⟩:=hy;obtain ⟨r',hr',e1,e2⟩:=t.wF x hr;refine aaR.2 ⟨?_,by simpa using e2⟩;have:(t.drop x).name r=t.name r':=by unfold Pl.aR.name;rw [e1]
  rw [this];exact h.stat.lines _ ⟨r',hr',rfl⟩
 ·obtain ⟨h1,h2⟩:=aaR.1 hy;rcases h.stat.all y h1 with h3|⟨r,hr,e⟩
  ·exact .inl h3
  ·refine .inr ?_;have hm:t.lines[r]∈(t.drop x).lines:=aaR.2 ⟨aak hr,by
    have:t.lines[r].1=y:=by rw [<-e];unfold Pl.aR.name;rw [a_,f_ hr];rfl
    rw [this];exact h2⟩
   obtain ⟨k,hk,ek⟩:=aa5.1 hm;refine ⟨k,hk,?_⟩;rw [<-e];unfold Pl.aR.name;rw [a_,a_,f_ hk,f_ hr,ek]
theorem KH {t:Pl.aR} {x:Int} (h:nQ t):nQ (t.drop x):=by
 intro k hk h0;obtain ⟨r',hr',e1,e2⟩:=t.wF x hk;have e3:(t.drop x).name k=t.name r':=by unfold Pl.aR.name;rw [e1]
 have e4:(t.drop x).cell k 0=t.cell r' 0:=by unfold Pl.aR.cell;rw [e1]
 rw [e3] at h0;rw [e4];exact h r' hr' h0
section
variable {r:aP} {L N:Nat} {D:List Nat} {U:List Int} {t t2:Pl.aR}
theorem Tx (hT:iq r D U N t) {i:Nat} (hi:i<r.least.length) (ht:J3 (Pl.gH r.S) r.size U N ((r.least.getD i []).map λx=>-x) t2) (hpos:0 < -Int.fdiv (t2.cell N 0) t2.scale):∀ P:Nat->Int,0<P 0->Pl.nY r.size r.least.length r.S P->0<Pl.ev r.size (r.S i) P:=by
 intro P p0 hP;have hU':∀ y∈(-1073741824:Int)::U,0<=y->∃ i:Nat,i<r.least.length∧y=i:=λy hy h0=>by
  rcases aa0.1 hy with e|hy
  ·omega
  ·exact hT.names.nat y hy h0
 have h1:=Pl.NS hU' (S:=r.S) (λi hi=>by rw [fP (by omega),Pl.iW]) ht.lL.ok ht.lL.stat ht.lL.aS (wr:=N) (by rw [ht.lL.len];omega) ht.top (by omega) p0 hP;rw [ht.name] at h1;have e:mi (Pl.gH r.S) ((r.least.getD i []).map λx=>-x) (-1073741824)=λk=>-r.S i k:=by
  funext k;rw [rQ];have:=congrFun (tJ (r.least.getD i [])) k;unfold lf at this;rw [this];rfl
 rw [e,zQ] at h1;omega
theorem iq.drop (hf:iM L r) (hT:iq r D U N t) {i:Nat} (hi:i<r.least.length) (hpos:∀ P:Nat->Int,0<P 0->Pl.nY r.size r.least.length r.S P->0<Pl.ev r.size (r.S i) P):iq r (i::D) (U.filter λx=>x != (i:Int)) (t.drop i).lines.length (t.drop i)∧∃ k,k<t.lines.length∧t.name k≠i:=by
 obtain ⟨Q,q0,hQ,qc⟩:=hT.free.Dj hT.names (λi _=>Pl.iW _ _) hT.lL.ok hT.lL.stat hT.pt;have hne:∀ c,c<r.size->t.fe c≠(i:Int):=λc hc e=>by
  have h1:=qc c hc;rw [e,Pl.iW] at h1;have:=hpos Q q0 hQ;omega
 refine ⟨⟨NU hT.lL hne,KH hT.pt,hT.names.drop i,hT.free.drop hi q0 hQ hpos,?_⟩,?_⟩
 ·have h1:(t.drop i).lines.length<=t.lines.length:=abw _ _;have h2:=hT.lL.len;have h3:=hT.small;omega
 ·have hm:(-1:Int)∈U:=(hT.names _).2 ⟨F_.2 (.inr (m_.2 ⟨0,V_.2 hf.Ah,rfl⟩)),λj _=>by omega⟩;rcases hT.lL.stat.all _ hm with ⟨c,hc,e⟩|⟨k,hk,e⟩
  ·have:=hT.lL.aS c hc;omega
  ·exact ⟨k,hk,by rw [e];omega⟩
theorem IY (hT:iq r D U N t) {i:Nat} (hi:i<r.least.length) (ht:J3 (Pl.gH r.S) r.size U N (r.least.getD i []) t2):0<=Int.fdiv (t2.cell N 0) t2.scale:=by
 obtain ⟨Q,q1,q2⟩:=ht.lL.ok.wR 0 (by omega);have q0:Q 0=t2.scale:=by
  have:=q1 0 (by omega);rw [Pl.jI,Pl.kH _ Q 0 (by omega),h_ rfl] at this;exact this
 have hp:=ht.lL.ok.pos;have hall:Pl.nY r.size r.least.length r.S Q:=hT.free Q (by rw [q0];omega) λj hj hD=>by
  rcases ht.lL.stat.all (j:Int) (aaV _ (hT.names.mem hj hD)) with ⟨c,hc,e⟩|⟨k,hk,e⟩
  ·have:=q1 (c+1) (by omega);rw [Pl.fV,g_ (by omega),e,fP (by omega),Pl.iW] at this;omega
  ·have h1:=q2 k hk;rw [e,fP (by omega),Pl.iW] at h1;rw [h1];exact ht.pt k hk (by rw [e];omega)
 have h1:=q2 N (by rw [ht.lL.len];omega);rw [ht.name] at h1;have e:mi (Pl.gH r.S) (r.least.getD i []) (-1073741824)=r.S i:=by funext k;rw [rQ];rfl
 rw [e] at h1;have h2:=hall i hi;rw [h1] at h2;rw [S_ _ (by omega)];exact abl h2 (by omega)
theorem Ty (hT:iq r D U N t) {i:Nat} (ht:J3 (Pl.gH r.S) r.size U N (r.least.getD i []) t2) {x:Nat->Int} (hx:Pl.nY r.size r.least.length r.S (Pl.pt x)):Pl.ev r.size (lf (r.least.getD i [])) (Pl.pt x)<=Int.fdiv (t2.cell N 0) t2.scale:=ht.le hT.names hx
end
structure qF (r:aP) (L i:Nat) (D:List Nat) (ks zs:List (List Int)) (ws:List Int):Prop where
 all:∀ j,j<i->j ∉ D->r.least.getD j []∈ks∨r.least.getD j []∈zs
 XC:∀ a∈ks,a∈r.least
 Vl:∀ a∈zs,a∈r.least∧∀ x,Pl.nY r.size r.least.length r.S (Pl.pt x)->Pl.ev r.size (lf a) (Pl.pt x)=0
 len:ws.length=ks.length
 pos:∀ w∈ws,0<w
 lt:∀ w∈ws,Pl.Lt ((r.size+1)*L+1) w
 pI:ks.length+zs.length<=i
def aP.trim (r:aP) (ks zs:List (List Int)):aP:=⟨r.size,r.zero++zs,ks,r.told⟩
section
variable {r:aP} {L i N:Nat} {D:List Nat} {U:List Int} {t t2:Pl.aR} {ks zs:List (List Int)} {ws:List Int}
theorem qF.start (r:aP) (L:Nat) (D:List Nat):qF r L 0 D [] [] []:=⟨λj hj=>absurd hj (aaD j),λa h=>(by cases h),λa h=>(by cases h),rfl,λa h=>(by cases h),λa h=>(by cases h),d_ _⟩
theorem Ad (hi:i<r.least.length):r.least.getD i []∈r.least:=by
 rw [a_,f_ hi];exact aak hi
theorem qF.drop (h:qF r L i D ks zs ws):qF r L (i+1) (i::D) ks zs ws :=
 ⟨λj hj hD=>h.all j (by
  rcases (show j<i∨j=i by omega) with e|e
  ·exact e
  ·exact absurd (by rw [e];exact abz) hD) (λhm=>hD (aaV _ hm)),h.XC,h.Vl,h.len,h.pos,h.lt,by have:=h.pI;omega⟩
theorem qF.zero (h:qF r L i D ks zs ws) (hi:i<r.least.length) (h0:∀ x,Pl.nY r.size r.least.length r.S (Pl.pt x)->Pl.ev r.size (lf (r.least.getD i [])) (Pl.pt x)<=0):qF r L (i+1) D ks (zs++[r.least.getD i []]) ws:=by
 refine ⟨λj hj hD=>?_,h.XC,λa ha=>?_,h.len,h.pos,h.lt,by rw [C_];have:=h.pI;simp;omega⟩
 ·rcases (show j<i∨j=i by omega) with e | e
  ·rcases h.all j e hD with h1 | h1
   ·exact .inl h1
   ·exact .inr (F_.2 (.inl h1))
  ·rw [e];exact .inr (F_.2 (.inr (I_.2 rfl)))
 ·rcases F_.1 ha with h1 | h1
  ·exact h.Vl a h1
  ·rw [I_.1 h1];refine ⟨Ad hi,λx hx=>?_⟩;have h2:=h0 x hx;have h3:=hx i hi;have e:r.S i=lf (r.least.getD i []):=rfl;rw [e] at h3;omega
theorem qF.bW (h:qF r L i D ks zs ws) (hi:i<r.least.length) {v:Int} (hv:0<v) (hl:Pl.Lt ((r.size+1)*L+1) v):qF r L (i+1) D (ks++[r.least.getD i []]) zs (ws++[v]):=by
 refine ⟨λj hj hD=>?_,λa ha=>?_,h.Vl,by rw [C_,C_,h.len];rfl,λa ha=>?_,λa ha=>?_,by rw [C_];have:=h.pI;simp;omega⟩
 ·rcases (show j<i∨j=i by omega) with e | e
  ·rcases h.all j e hD with h1 | h1
   ·exact .inl (F_.2 (.inl h1))
   ·exact .inr h1
  ·rw [e];exact .inl (F_.2 (.inr (I_.2 rfl)))
 ·rcases F_.1 ha with h1 | h1
  ·exact h.XC a h1
  ·rw [I_.1 h1];exact Ad hi
 ·rcases F_.1 ha with h1 | h1
  ·exact h.pos a h1
  ·rw [I_.1 h1];exact hv
 ·rcases F_.1 ha with h1 | h1
  ·exact h.lt a h1
  ·rw [I_.1 h1];exact hl
structure uz (r:aP) (L:Nat) (ks zs:List (List Int)) (ws:List Int):Prop where
 parts:∃ D,qF r L r.least.length D ks zs ws∧Pl.A8 r.size r.least.length r.S D
theorem uz.UD (h:uz r L ks zs ws) {P:Nat->Int} (p0:0<=P 0) (hk:∀ a∈ks,0<=Pl.ev r.size (lf a) P) (hz:∀ a∈zs,0<=Pl.ev r.size (lf a) P):Pl.nY r.size r.least.length r.S P:=by
 obtain ⟨D,h1,h2⟩:=h.parts;refine h2 P p0 λj hj hD=>?_;have e:r.S j=lf (r.least.getD j []):=rfl;rw [e];rcases h1.all j hj hD with h3|h3
 ·exact hk _ h3
 ·exact hz _ h3
theorem uz.has (h:uz r L ks zs ws) (hz:r.zero=[]) (x:Nat->Int):(r.trim ks zs).dV.Has x↔r.dV.Has x:=by
 obtain ⟨D,h1,h2⟩:=h.parts;have ez:(r.trim ks zs).zero=zs:=by show r.zero++zs=zs;rw [hz];rfl
 constructor
 ·intro hx;have hk:∀ a∈ks,0<=Pl.ev r.size (lf a) (Pl.pt x):=λa ha=>hx.least (lf a) (m_.2 ⟨a,ha,rfl⟩);have hzz:∀ a∈zs,Pl.ev r.size (lf a) (Pl.pt x)=0:=λa ha=>hx.zero (lf a) (m_.2 ⟨a,by rw [ez];exact ha,rfl⟩);have hin:=h.UD (P:=Pl.pt x) (by unfold Pl.pt;rw [h_ rfl];decide) hk (λa ha=>by rw [hzz a ha];omega);refine ⟨λs hs=>?_,λs hs=>?_⟩
  ·have:r.dV.zero=[]:=by show r.zero.map lf=[];rw [hz];rfl
   rw [this] at hs;cases hs
  ·obtain ⟨a,ha,rfl⟩:=m_.1 hs;exact (rR x).2 hin a ha
 ·intro hx;have hin:=(rR x).1 λa ha=>hx.least (lf a) (m_.2 ⟨a,ha,rfl⟩);refine ⟨λs hs=>?_,λs hs=>?_⟩
  ·obtain ⟨a,ha,rfl⟩:=m_.1 hs;rw [ez] at ha;exact (h1.Vl a ha).2 x hin
  ·obtain ⟨a,ha,rfl⟩:=m_.1 hs;exact hx.least (lf a) (m_.2 ⟨a,h1.XC a ha,rfl⟩)
theorem uz.qG (h:uz r L ks zs ws) (hz:r.zero=[]) (A:List Int):(r.trim ks zs).dV.kU A↔r.dV.kU A :=
 ⟨λ⟨x,h1,h2⟩=>⟨x,(h.has hz x).1 h1,h2⟩,λ⟨x,h1,h2⟩=>⟨x,(h.has hz x).2 h1,h2⟩⟩
theorem uz.mJ (h:uz r L ks zs ws) (hz:r.zero=[]) (ht:r.dV.gJ):(r.trim ks zs).dV.gJ:=by
 intro D d1 d2 i hi;have ez:(r.trim ks zs).zero=zs:=by show r.zero++zs=zs;rw [hz];rfl
 let P:Nat->Int:=λk=>if k=0 then 0 else D (k - 1)
 have ep:∀ s,Pl.ev r.size s P=Pl.dir r.size s D:=λs=>by
  unfold Pl.ev Pl.dir;rw [Pl.yG];have:s 0*P 0=0:=by show s 0*(if 0=0 then 0 else D (0 - 1))=0;rw [h_ rfl,X_]
  rw [this,Int.zero_add];refine Pl.aC λc _=>?_;show s (c+1)*(if c+1=0 then 0 else D (c+1 - 1))=_;rw [g_ (by omega)];rfl
 have hin:=h.UD (P:=P) (by show (0:Int)<=if 0=0 then 0 else D (0 - 1);rw [h_ rfl];decide)
  (λa ha=>by rw [ep];exact d2 (lf a) (m_.2 ⟨a,ha,rfl⟩))
  (λa ha=>by rw [ep];have:Pl.dir r.size (lf a) D=0:=d1 (lf a) (m_.2 ⟨a,by rw [ez];exact ha,rfl⟩);omega)
 refine ht D (λs hs=>?_) (λs hs=>?_) i hi
 ·have:r.dV.zero=[]:=by show r.zero.map lf=[];rw [hz];rfl
  rw [this] at hs;cases hs
 ·obtain ⟨a,ha,rfl⟩:=m_.1 hs;obtain ⟨j,hj,e⟩:=aa5.1 ha;have h1:=hin j hj;rw [ep] at h1;have e2:r.S j=lf a:=by
   funext k;unfold aP.S lf;rw [a_ (l:=r.least),f_ hj,e];rfl
  rwa [e2] at h1
theorem lV {ls:List (List Int)} {L:Nat} (h:∀ a∈ls,∀ k,Pl.Lt L (a.getD k 0)) (i k:Nat):Pl.Lt L ((ls.getD i []).getD k 0):=by
 rcases AP ls i with h1|h1
 ·exact h _ h1 k
 ·rw [h1];exact lq L
theorem J5 {ls:List (List Int)} {L:Nat} (h:∀ i k,Pl.Lt L ((ls.getD i []).getD k 0)) {a:List Int} (ha:a∈ls) (k:Nat):Pl.Lt L (a.getD k 0):=by
 obtain ⟨i,hi,e⟩:=aa5.1 ha;have:=h i k;rwa [a_ (l:=ls),f_ hi,Option.getD_some,e] at this
theorem uz.ok (h:uz r L ks zs ws) (hf:iM L r):eH (r.trim ks zs)∧dF L (r.trim ks zs):=by
 obtain ⟨D,h1,_⟩:=h.parts;have ez:(r.trim ks zs).zero=zs:=by show r.zero++zs=zs;rw [hf.zero];rfl
 have MC:=hf.pI;have hf1:=h1.pI;refine ⟨⟨λl hl=>?_,λl hl=>hf.ok.dQ l (h1.XC l hl),hf.ok.gT,by rw [ez];omega,by show ks.length<=1000;omega,hf.ok.uN⟩,⟨λi k=>?_,λi k=>?_,hf.lt.told⟩⟩
 ·rw [ez] at hl;exact hf.ok.dQ l (h1.Vl l hl).1
 ·rw [ez];exact lV (λa ha=>J5 hf.lt.least (h1.Vl a ha).1) i k
 ·exact lV (λa ha=>J5 hf.lt.least (h1.XC a ha)) i k
end
end Go.Proofs.YtgaafamcajcifaaGreat
