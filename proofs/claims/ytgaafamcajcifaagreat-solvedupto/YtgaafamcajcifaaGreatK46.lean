/- Joined: SLaw3 SLaw4 SLaw5. -/
import Derived.Test.YtgaafamcajcifaaGreatK45
set_option linter.unusedVariables false
set_option linter.unusedSimpArgs false
set_option maxRecDepth 100000
namespace Go.Proofs.YtgaafamcajcifaaGreat
open Go.RowKit Go.Sort
abbrev sJ:=Value × Int × Bool
def UT (q:sJ):List Value:=[q.1,.int .i64 q.2.1,.bool q.2.2]
def iB (l:List sJ):List Value:=l.flatMap UT
theorem Fa (l:List sJ):(iB l).length=l.length*3:=by
 induction l with
 | nil=>rfl
 | cons a l ih=>show (UT a++iB l).length=_;rw [C_,ih];simp [UT];omega
theorem sK:∀ (l:List sJ) (i:Nat) (q:sJ),l[i]?=some q->(iB l)[i*3]?=some q.1∧(iB l)[i*3+1]?=some (.int .i64 q.2.1)∧(iB l)[i*3+2]?=some (.bool q.2.2)
 | [],i,q,h=>by cases h
 | a::l,0,q,h=>by cases h;exact ⟨rfl,rfl,rfl⟩
 | a::l,i+1,q,h=>by
  have:=sK l i q (by simpa using h);rw [show (i+1)*3=i*3+3 by omega];exact this
theorem yg:∀ (l:List sJ) (i:Nat) (r:sJ),(((iB l).set (i*3) r.1).set (i*3+1) (.int .i64 r.2.1)).set (i*3+2) (.bool r.2.2)=iB (l.set i r)
 | [],i,r=>rfl
 | a::l,0,r=>rfl
 | a::l,i+1,r=>by
  rw [show (i+1)*3=i*3+3 by omega];show a.1::.int .i64 a.2.1::.bool a.2.2::(((iB l).set (i*3) _).set (i*3+1) _).set (i*3+2) _=a.1::.int .i64 a.2.1::.bool a.2.2::iB (l.set i r);rw [yg l i r]
def jK (w:World) (g:Nat) (l:List sJ):Prop:=w.heap[g]?=some (.cells (iB l).toArray 59 (0,0))
def iC (w:World) (g i:Nat) (r:sJ):World:=((w.setCell ⟨g,i*3,none⟩ r.1).setCell ⟨g,i*3+1,none⟩ (.int .i64 r.2.1)).setCell ⟨g,i*3+2,none⟩ (.bool r.2.2)
section
variable {w:World} {g:Nat} {l:List sJ}
theorem jK.cell (h:jK w g l) {i:Nat} {q:sJ} (hi:l[i]?=some q):w.cell? ⟨g,i*3,none⟩=some q.1∧w.cell? ⟨g,i*3+1,none⟩=some (.int .i64 q.2.1)∧w.cell? ⟨g,i*3+2,none⟩=some (.bool q.2.2):=by
 rw [cellsOf h,cellsOf h,cellsOf h,aaX,aaX,aaX];exact sK l i q hi
theorem jK.set (h:jK w g l) (i:Nat) (r:sJ):jK (iC w g i r) g (l.set i r):=by
 have h1:=j_ w g (i*3) _ _ r.1 h;have h2:=j_ _ g (i*3+1) _ _ (.int .i64 r.2.1) h1;have h3:=j_ _ g (i*3+2) _ _ (.bool r.2.2) h2;unfold jK iC;rw [h3,<-yg];congr 2;apply Array.ext';simp
theorem jK.bW (h:jK w g l) (i:Nat) (r:sJ) {e:TypeId} (he:59≠e):aA e w (iC w g i r):=by
 have h1:=j_ w g (i*3) _ _ r.1 h;have h2:=j_ _ g (i*3+1) _ _ (.int .i64 r.2.1) h1;exact ((aA.setCell h he _ _).trans (aA.setCell h1 he _ _)).trans (aA.setCell h2 he _ _)
theorem jK.grow {w':World} (h:jK w g l) (hg:ae w w'):jK w' g l:=(Below.block hg g (z_ h)).trans h
end
theorem BL {B g i:Nat} {w0 w:World} {r:sJ} (h:Below B w0 w) (hg:B<=g):Below B w0 (iC w g i r):=((h.setCell (p:=⟨g,i*3,none⟩) hg _).setCell (p:=⟨g,i*3+1,none⟩) hg _).setCell (p:=⟨g,i*3+2,none⟩) hg _
def yh:sJ:=(.slice none 0 0,0,false)
theorem OH (n:Nat):(madeCells #[Value.slice none 0 0,Value.int .i64 0,Value.bool false] (n*3)).toList=iB (List.replicate n yh):=by
 apply List.ext_getElem?;intro j;by_cases hj:j<n*3
 ·have hh:(List.replicate n yh)[j/3]?=some yh:=by rw [f_ (by simp;omega)];simp
  obtain ⟨g0,g1,g2⟩:=sK _ _ _ hh;rcases (show j=j/3*3∨j=j/3*3+1∨j=j/3*3+2 by omega) with h|h|h
  ·have hm:j%3=0:=by omega
   have e:(iB (List.replicate n yh))[j]?=some (.slice none 0 0):=by rw [h];exact g0
   rw [e];simp [madeCells,hj,hm]
  ·have hm:j%3=1:=by omega
   have e:(iB (List.replicate n yh))[j]?=some (.int .i64 0):=by rw [h];exact g1
   rw [e];simp [madeCells,hj,hm]
  ·have hm:j%3=2:=by omega
   have e:(iB (List.replicate n yh))[j]?=some (.bool false):=by rw [h];exact g2
   rw [e];simp [madeCells,hj,hm]
 ·rw [O_ (by simp [madeCells];omega),O_ (by rw [Fa];simp;omega)]
def pR (rs:List dS) (i g:Nat):sJ :=
 if i<rs.length then (.slice (some ⟨g,0,none⟩) (rs.getD i ([],0,false)).1.length ((rs.getD i ([],0,false)).1.length+2),(rs.getD i ([],0,false)).2.1,(rs.getD i ([],0,false)).2.2)
 else (.slice (some ⟨g,0,none⟩) 1 1,1099511627783,false)
def Rh (rs:List dS) (i g:Nat):Value:=.slice (some ⟨g,0,none⟩) ((rs.getD i ([],0,false)).1.length+2) ((rs.getD i ([],0,false)).1.length+2)
def sH (rs:List dS) (i:Nat):List Value:=if i<rs.length then bV (rs.getD i ([],0,false)).1 2 else [.int .i64 1099511627783]
structure iP (B:Nat) (rs:List dS) (gl:Nat) (i:Nat) (G:List Nat) (w:World):Prop where
 len:G.length=i
 blk:jK w gl (G.mapIdx (pR rs)++List.replicate (rs.length+2 - i) yh)
 OB:B<=gl
 list:∀ j g,G[j]?=some g->w.heap[g]?=some (.cells (sH rs j).toArray 3 (0,0))∧B<=g
 nodup:G.Nodup
def qH (B:Nat) (rs:List dS) (i:Nat) (G:List Nat) (w:World) (vc:Value):Prop:=w.ownsRow B 36 1 vc (min i rs.length) ((G.take rs.length).mapIdx (Rh rs))
section
variable {B:Nat} {rs:List dS} {gl i:Nat} {G:List Nat} {w w':World}
theorem iP.bW (h:iP B rs gl i G w) (h1:aA 59 w w') (h3:aA 3 w w'):iP B rs gl i G w' :=
 ⟨h.len,(h1 gl _ h.blk).trans h.blk,h.OB,λj g hj=>⟨(h3 g _ (h.list j g hj).1).trans (h.list j g hj).1,(h.list j g hj).2⟩,h.nodup⟩
theorem iP.grow (h:iP B rs gl i G w) (hg:ae w w'):iP B rs gl i G w':=h.bW (.aX hg) (.aX hg)
theorem iP.lt (h:iP B rs gl i G w) {g:Nat} (hg:g∈G):g<w.heap.size:=by
 obtain ⟨j,hj,e⟩:=List.getElem_of_mem hg;exact z_ (h.list j g (by rw [f_ hj,e])).1
theorem iP.step (h:iP B rs gl i G w) (hi:i<rs.length+2) {g:Nat} (hg:w.heap[g]?=some (.cells (sH rs i).toArray 3 (0,0))) (hB:B<=g) (hn:g ∉ G):iP B rs gl (i+1) (G++[g]) (iC w gl i (pR rs i g)):=by
 have k:aA 3 w (iC w gl i (pR rs i g)):=h.blk.bW i _ (by decide);refine ⟨by rw [C_,h.len];rfl,?_,h.OB,λj g' hj=>?_,?_⟩
 ·have:=h.blk.set i (pR rs i g);have e:(G.mapIdx (pR rs)++List.replicate (rs.length+2 - i) yh).set i (pR rs i g)=(G++[g]).mapIdx (pR rs)++List.replicate (rs.length+2 - (i+1)) yh:=by
   rw [List.set_append,g_ (by rw [List.length_mapIdx,h.len];omega),List.length_mapIdx,h.len,Nat.sub_self,List.mapIdx_append,h.len,show rs.length+2 - i=(rs.length+2 - (i+1))+1 by omega,List.replicate_succ,D_,abd];simp
  rw [<-e];exact this
 ·by_cases e:j<G.length
  ·rw [aah e] at hj;have:=h.list j g' hj;exact ⟨(k g' _ this.1).trans this.1,this.2⟩
  ·have hj2:=(List.getElem?_eq_some_iff.1 hj).1;rw [C_,List.length_singleton] at hj2;have ej:j=i:=by have:=h.len;omega
   subst ej;rw [R_ (by have:=h.len;omega),h.len,Nat.sub_self] at hj;cases hj;exact ⟨(k g _ hg).trans hg,hB⟩
 ·rw [List.nodup_append];exact ⟨h.nodup,by simp,λa ha b hb e=>by rw [I_] at hb;subst hb;subst e;exact hn ha⟩
theorem qH.bW {vc:Value} (h:qH B rs i G w vc) (hk:aA 36 w w'):qH B rs i G w' vc:=aW h hk
end
theorem Tryz.OI:(Tryz.prog.info? 59).map (λi=>(i.zero,i.size,i.bytes))=some (some (.agg #[.slice none 0 0,.int .i64 0,.bool false]),3,40):=by kernel_rfl
theorem Tryz.OJ:(Tryz.prog.info? 36).map (λi=>(i.zero,i.size,i.bytes))=some (some (.slice none 0 0),1,24):=by kernel_rfl
def Gl (rs:List dS) (w:World) (e:Ending) (w':World):Prop :=
 ∃ (gl:Nat) (ca:Option Addr) (cc:Nat) (G:List Nat),e=.returned (.tuple #[.slice (some ⟨gl,0,none⟩) (rs.length+2) (rs.length+2),.slice ca rs.length cc])∧iP w.heap.size rs gl (rs.length+2) G w'∧qH w.heap.size rs (rs.length+2) G w' (.slice ca rs.length cc)∧ae w w'
section
section
attribute [local go_sem] bD
set_option maxHeartbeats 1000000 in
theorem E8 (rs:List dS) (va:Value) (w:World) (ha:kP w va rs) (hl:rs.length<=1048576) (hC:∀ q∈rs,q.1.length<=1048576) :
  Calls Tryz.prog 7 #[va] w (Gl rs w):=by
 obtain ⟨i0,hi0,hz0,hz1,hz2⟩:=U_ Tryz.OI;obtain ⟨i1,hi1,hy0,hy1,hy2⟩:=U_ Tryz.OJ;obtain ⟨aa,ac,rfl⟩:=ha.aB;have HA:=af ha;have HC:=af hC;obtain ⟨n,hn⟩:∃ n,rs.length=n:=⟨_,rfl⟩;have HN:=af hn;rw [hn] at HA hl ⊢;clear ha hn hC;go_enter Tryz.func7,Tryz.ntmps7;go_wp2_with (at_make;refine wpList_make_full _ rfl _ _ 23 rfl w.heap.size 59 i0 (.agg #[.slice none 0 0,.int .i64 0,.bool false]) 3 Tryz.underlying23 hi0 hz0 hz1 .i64 .i64 _ _ (n+2) rfl rfl ?e1 ?e2 ?c1 ?c2 ?c3 ?_)
 case e1=>first | rfl | omega | simp
 case e2=>first | rfl | omega | simp
 case c1=>rw [hz2];omega
 case c2=>unfold maxLen;omega
 case c3=>omega
 ·intro w1 hown hgrow;have hb1:ae w w1:=(n_ _ _).grown hgrow (d_ _) (by intro k hk;cases hk);have hblk:jK w1 w.heap.size (List.replicate (n+2) yh):=by
   have h1:=BK hown;unfold jK;rw [h1,<-OH]
  have H0:Hid (iP w.heap.size rs w.heap.size 0 [] w1∧qH w.heap.size rs 0 [] w1 (.slice none 0 0)∧ae w w1):=by
   refine ⟨⟨rfl,?_,d_ _,λj g hj=>by simp at hj,List.nodup_nil⟩,?_,hb1⟩
   ·rw [uh HN];exact hblk
   ·unfold qH;rw [Nat.zero_min,List.take_nil,List.mapIdx_nil];exact aa8 _ _ _ _
  clear hown hgrow hb1 hblk;go_wp2_with fail;go_loopw [5,6] (λcv iv wr=>∃ (i cn:Nat) (ca:Option Addr) (cc:Nat),cv=.slice ca cn cc∧iv=.int .i64 i∧i<=n+2∧cn=min i n∧Hid (∃ G,iP w.heap.size rs w.heap.size i G wr∧qH w.heap.size rs i G wr (.slice ca cn cc)∧ae w wr)) (λ_ iv _=>n+2 - (intOf iv).toNat)
  case atStart=>exact ⟨0,0,none,0,rfl,rfl,by omega,by omega,[],H0⟩
  case round =>
   obtain ⟨i,cn,ca,cc,rfl,rfl,hi,hcn,HR⟩:=hrel;clear H0;by_cases hin:i<n
   ·have hcn':cn=i:=by omega
    subst hcn';have hlt2:(cn:Int)<(n:Int)+2:=by omega
    obtain ⟨G,hL,hCs,hG⟩:=uh HR;obtain ⟨gr,or',ua,un,uc,er,r0,hints,r1,r2⟩:=((uh HA).below hG).get (i:=cn) (by rw [uh HN];exact hin);cases er;obtain ⟨⟨C,K,E⟩,hq⟩:∃ q,rs.getD cn ([],0,false)=q:=⟨_,rfl⟩;have hmem:=(lZ (by rw [uh HN];exact hin) hq).2;have Ri:=uh HC _ hmem;rw [hq] at hints r1 r2;simp only at hints r1 r2 Ri;have hun:un=C.length:=by
     obtain ⟨ad,cap,e,_⟩:=id hints;cases e;rfl
    subst hun;have HLD:=af (Ox C _ wr hints (by omega));have HST:=af (x_ hL (x_ hCs hG));have HQ:=af hq;clear HR hints hq hmem hL hG hcn hCs;obtain ⟨m,hm⟩:∃ m,C.length=m:=⟨_,rfl⟩;have zu:=af hm;rw [hm] at HLD r0 Ri;have RG:=af (x_ r0 (x_ r1 r2));clear hm r1 r2;go_wp2_with fail;refine (uh HLD).mono ?_;rintro e w2 ⟨g,rfl,hg1,hg2,hg3⟩;have hL2:=(uh HST).1.grow hg3;have HG2:Hid (ae w w2):=(uh HST).2.2.trans hg3;have ajl:w.heap.size<=w2.heap.size:=(uh HG2).size;have hcs2:=(uh HST).2.1.bW (.aX hg3);unfold qH at hcs2;rw [uh HN,aa3 (by omega)] at hcs2;obtain ⟨cl,hcl⟩:∃ cl,(G.take n).mapIdx (Rh rs)=cl:=⟨_,rfl⟩;rw [hcl] at hcs2;have hown:=aW hcs2 (.alloc _ w2 (.cells #[.slice (some ⟨g,0,none⟩) (m+2) (m+2)] 36));have vP:Hid (((G++[g]).take rs.length).mapIdx (Rh rs)=cl++[.slice (some ⟨g,0,none⟩) (m+2) (m+2)]):=by
     have LZ:=hL2.len;have e1:(G++[g]).take rs.length=G++[g]:=aaE (by rw [C_,LZ,uh HN];simp;omega);have e2:G.take n=G:=aaE (by rw [LZ];omega);have e3:Rh rs cn g=.slice (some ⟨g,0,none⟩) (m+2) (m+2):=by
      unfold Rh;rw [uh HQ];show Value.slice _ (C.length+2) (C.length+2)=_;rw [uh zu]
     unfold Hid;rw [e1,<-hcl,e2,List.mapIdx_append,LZ,<-e3];simp
    have Xa:Hid (g ∉ G∧w.heap.size<=g∧w2.heap[g]?=some (.cells (sH rs cn).toArray 3 (0,0))):=by
     refine ⟨λh=>?_,w_ (uh HST).2.2.size hg1,?_⟩
     ·have:=(uh HST).1.lt h;omega
     ·rw [hg2];unfold sH;rw [h_ (by rw [uh HN];exact hin),uh HQ]
    have HL2:=af hL2;have abJ:=af (x_ (ae.cell hg3 (uh RG).1) (x_ (ae.cell hg3 (uh RG).2.1) (ae.cell hg3 (uh RG).2.2)));clear HLD hg1 hg2 hg3 hL2 HST r0 RG hcl;go_wp2_with (at_builtin;refine wpList_append_lies _ rfl _ _ 33 rfl w.heap.size 36 i1 (.slice none 0 0) 1 24 Tryz.underlying33 hi1 hy0 hy1 hy2 rfl (by decide) _ _ _ rfl hown ⟨_,0,none⟩ 1 1 [.slice (some ⟨g,0,none⟩) (m+2) (m+2)] rfl rfl ?d1 (λu hu=>by simp at hu;subst hu;rfl) (by decide) ?d3 ?d4 ?d5 _ rfl ?_)
    case d1=>first | exact λj u h=>h | exact oN #[_] _
    case d3=>unfold maxLen;omega
    case d4=>omega
    case d5=>first | omega | (simp;omega)
    ·intro g2 cap2 w3 hown2 hgrow _ _;have hG3:ae w w3:=Below.grown ((uh HG2).trans (ae.alloc _ _)) hgrow (by simp;omega) (bR hown);have kr:aA 59 w2 w3:=(aA.alloc _ _ _).trans (aA.grown hown hgrow (by decide));have ki:aA 3 w2 w3:=(aA.alloc _ _ _).trans (aA.grown hown hgrow (by decide));have hL3:=(uh HL2).bW kr ki;have hg3:=(ki g _ (uh Xa).2.2).trans (uh Xa).2.2;have jb:=af hG3;have TE:Hid (qH w.heap.size rs (cn+1) (G++[g]) w3 (.slice (some ⟨g2,0,none⟩) (cn+1) cap2)):=by
      unfold Hid qH;rw [uh vP,uh HN,aa3 (by omega)];exact hown2
     obtain ⟨gr',or2,ua',OL,uc',er',r0,hints,r1,r2⟩:=((uh HA).below hG3).get (i:=cn) (by rw [uh HN];exact hin);cases er';rw [uh HQ] at hints r1 r2;simp only at hints r1 r2;have hun':OL=m:=by
      obtain ⟨ad,cap,e,_⟩:=id hints;cases e;exact uh zu
     subst hun';have Rj:=af hL3;have qV:Hid (∀ w5,ae w3 w5->(iP w.heap.size rs w.heap.size (cn+1) (G++[g]) (iC w5 w.heap.size cn (.slice (some ⟨g,0,none⟩) OL (OL+2),K,E))∧qH w.heap.size rs (cn+1) (G++[g]) (iC w5 w.heap.size cn (.slice (some ⟨g,0,none⟩) OL (OL+2),K,E)) (.slice (some ⟨g2,0,none⟩) (cn+1) cap2)∧ae w (iC w5 w.heap.size cn (.slice (some ⟨g,0,none⟩) OL (OL+2),K,E)))):=λw5 hg5=>by
      have e:pR rs cn g=(.slice (some ⟨g,0,none⟩) OL (OL+2),K,E):=by
       unfold pR;rw [h_ (by rw [uh HN];exact hin),uh HQ];show (Value.slice _ C.length (C.length+2),K,E)=_;rw [uh zu]
      have h5:=(uh Rj).grow hg5;have h6:=h5.step (by rw [uh HN];omega) ((Below.block hg5 g (z_ hg3)).trans hg3) (uh Xa).2.1 (uh Xa).1;rw [e] at h6;refine ⟨h6,?_,BL ((uh jb).trans hg5) (d_ _)⟩;exact ((uh TE).bW (.aX hg5)).bW (by rw [<-e];exact h5.blk.bW cn _ (by decide))
     have hle2:(OL:Int)<=(OL:Int)+2:=by omega
     clear hL3 hown2 hgrow hown kr ki HL2 Xa abJ hints hcs2 vP TE hG3;go_wp2_with fail;have y0:=b_ r0;have y1:=b_ r1;have y2:=b_ r2;clear r0 r1 r2;refine ah (bZ []) (gL []) 61 22 (by kernel_rfl) (by rfl) (by kernel_rfl) (dw (by simp)) ?_
     iterate 22 (refine aO λK hK=>?_;go_simp;refine hK _ ?_;clear hK K)
     refine aF ?_;intro w5 hg5 _;have hblk:=((uh Rj).grow hg5).blk;obtain ⟨u,hu⟩:∃ u,(G.mapIdx (pR rs)++List.replicate (rs.length+2 - cn) yh)[cn]?=some u:=⟨_,f_ (by rw [C_,List.length_mapIdx,(uh Rj).len,aba,uh HN];omega)⟩;obtain ⟨c0,c1,c2⟩:=hblk.cell hu;have f0:w5.frozen? ⟨w.heap.size,cn*3,none⟩=false:=aH hblk _;have f1:w5.frozen? ⟨w.heap.size,cn*3+1,none⟩=false:=aH hblk _;have f2:w5.frozen? ⟨w.heap.size,cn*3+2,none⟩=false:=aH hblk _;have HF:=af (uh qV w5 hg5);unfold iC at HF;simp only at HF;clear qV hg5 hblk Rj y0 y1 y2;go_wp2;go_roundw
     case rel=>exact ⟨cn+1,cn+1,some ⟨g2,0,none⟩,cap2,rfl,by simp,by omega,by omega,_,uh HF⟩
     case measure=>simp [intOf];omega
   ·have hcn':cn=n:=by omega
    subst hcn';obtain ⟨G,hL,hCs,hG⟩:=uh HR;have HST:=af (x_ hL (x_ hCs hG));clear HR hcn;by_cases hlt:i<cn+2
    ·have hlt2:(i:Int)<(cn:Int)+2:=by omega
     have hga:=ae.alloc wr (.cells #[.int .i64 1099511627783] 3);have hL2:=hL.grow hga;have hblk:=hL2.blk;obtain ⟨u,hu⟩:∃ u,(G.mapIdx (pR rs)++List.replicate (rs.length+2 - i) yh)[i]?=some u:=⟨_,f_ (by rw [C_,List.length_mapIdx,hL.len,aba,uh HN];omega)⟩;obtain ⟨c0,c1,c2⟩:=hblk.cell hu;have f0:(wr.alloc (.cells #[.int .i64 1099511627783] 3)).frozen? ⟨w.heap.size,i*3,none⟩=false:=aH hblk _;have f1:(wr.alloc (.cells #[.int .i64 1099511627783] 3)).frozen? ⟨w.heap.size,i*3+1,none⟩=false:=aH hblk _;have f2:(wr.alloc (.cells #[.int .i64 1099511627783] 3)).frozen? ⟨w.heap.size,i*3+2,none⟩=false:=aH hblk _;have HF:Hid (∃ G',iP w.heap.size rs w.heap.size (i+1) G' (iC (wr.alloc (.cells #[.int .i64 1099511627783] 3)) w.heap.size i (.slice (some ⟨wr.heap.size,0,none⟩) 1 1,1099511627783,false))∧qH w.heap.size rs (i+1) G' (iC (wr.alloc (.cells #[.int .i64 1099511627783] 3)) w.heap.size i (.slice (some ⟨wr.heap.size,0,none⟩) 1 1,1099511627783,false)) (.slice ca cn cc)∧ae w (iC (wr.alloc (.cells #[.int .i64 1099511627783] 3)) w.heap.size i (.slice (some ⟨wr.heap.size,0,none⟩) 1 1,1099511627783,false))):=by
      have e:pR rs i wr.heap.size=(.slice (some ⟨wr.heap.size,0,none⟩) 1 1,1099511627783,false):=by
       unfold pR;rw [g_ (by rw [uh HN];omega)]
      have h6:=hL2.step (g:=wr.heap.size) (by rw [uh HN];omega) (by unfold sH;rw [g_ (by rw [uh HN];omega)];exact aG wr _) hG.size (λh=>Nat.lt_irrefl _ (hL.lt h));rw [e] at h6;refine ⟨_,h6,?_,BL (hG.trans hga) (d_ _)⟩;have h7:qH w.heap.size rs (i+1) (G++[wr.heap.size]) wr (.slice ca cn cc):=by
       unfold qH at hCs ⊢;rw [List.take_append_of_le_length (by rw [hL.len,uh HN];omega)];rw [uh HN,Nat.min_eq_right (by omega)] at hCs ⊢;exact hCs
      exact (h7.bW (.aX hga)).bW (by rw [<-e];exact hL2.blk.bW i _ (by decide))
     unfold iC at HF;simp only at HF;clear hblk hL hCs hG HST hL2 hga hu;go_wp2;go_roundw
     case rel=>exact ⟨i+1,cn,ca,cc,rfl,by simp,by omega,by omega,uh HF⟩
     case measure=>simp [intOf];omega
    ·have L6:i=cn+2:=by omega
     have HF:Hid (Gl rs w (.returned (.tuple #[.slice (some ⟨w.heap.size,0,none⟩) (cn+2) (cn+2),.slice ca cn cc])) wr):=by
      have hp:rs.length=cn:=uh HN;rw [L6] at hL hCs;refine ⟨w.heap.size,ca,cc,G,by rw [hp],by rw [hp];exact hL,by rw [hp];exact hCs,hG⟩
     clear L6 hL hCs hG HST;go_wp2;exact t_ (v:=.tuple #[.slice (some ⟨w.heap.size,0,none⟩) (cn+2) (cn+2),.slice ca cn cc]) (by simp [results,Tryz.results7,go_sem]) rfl (uh HF)
end
section
variable {B:Nat} {rs:List dS} {gl i:Nat} {G:List Nat} {w w':World}
theorem iP.row (h:iP B rs gl (rs.length+2) G w) {j g:Nat} (hj:G[j]?=some g):w.cell? ⟨gl,j*3,none⟩=some (pR rs j g).1∧w.cell? ⟨gl,j*3+1,none⟩=some (.int .i64 (pR rs j g).2.1)∧w.cell? ⟨gl,j*3+2,none⟩=some (.bool (pR rs j g).2.2):=by
 refine h.blk.cell ?_;have hl:=(List.getElem?_eq_some_iff.1 hj).1;rw [aah (by rw [List.length_mapIdx];exact hl),List.getElem?_mapIdx,hj];rfl
theorem qH.get {ca:Option Addr} {cn cc:Nat} (h:qH B rs (rs.length+2) G w (.slice ca cn cc)) {j g:Nat} (hj:G[j]?=some g) (hl:j<rs.length):∃ gc,ca=some ⟨gc,0,none⟩∧w.cell? ⟨gc,j,none⟩=some (Rh rs j g):=by
 unfold qH at h;rw [Nat.min_eq_right (by omega)] at h;rcases h.2 with ⟨_,h0⟩|⟨gc,cap,cur,e,hb,jS,hle,hmx,hsz,htk⟩
 ·omega
 ·cases e;refine ⟨gc,rfl,?_⟩;rw [cellsOf jS];have hx:((G.take rs.length).mapIdx (Rh rs))[j]?=some (Rh rs j g):=by
   rw [List.getElem?_mapIdx,List.getElem?_take,h_ hl,hj];rfl
  rw [<-htk,List.getElem?_take,h_ (by omega)] at hx
  simpa using hx
end
theorem BM {P:Program} {f:FuncId} {args:Array Value} {w:World} {k:Nat} {e0:Ending} (h:Calls P f args (w.drewN k) λe w'=>e=e0∧∃ n,w'=(w.drewN k).drewN n):Calls P f args (w.drewN k) λe w'=>e=e0∧∃ n,w'=w.drewN (k+n):=by
 refine h.mono ?_;rintro e w' ⟨he,n,hn⟩;exact ⟨he,n,by rw [hn];simp [World.drewN,abr]⟩
theorem Gm {P:Program} {f:FuncId} {args:Array Value} {w:World} {q x:Nat} {e0:Ending} (h:Calls P f args (w.drewN (q+x)) λe w'=>e=e0∧∃ n,w'=w.drewN (q+x+n)):Calls P f args (w.drewN (q+x)) λe w'=>e=e0∧∃ n,w'=w.drewN (q+n):=by
 refine h.mono ?_;rintro e w' ⟨he,n,hn⟩;exact ⟨he,x+n,by rw [hn,abr]⟩
attribute [local go_sem] bD
set_option maxHeartbeats 1000000 in
theorem E9 (rs:List dS) (va:Value) (B gl:Nat) (ca:Option Addr) (cc:Nat) (G:List Nat) (w:World) (ha:kP w va rs) (hL:iP B rs gl (rs.length+2) G w) (hc:qH B rs (rs.length+2) G w (.slice ca rs.length cc)) (hl:rs.length<=1048576) (hC:∀ q∈rs,q.1.length<=1048576) :
  Calls Tryz.prog 11 #[.slice (some ⟨gl,0,none⟩) (rs.length+2) (rs.length+2),.slice ca rs.length cc,va] w λe w'=>e=.returned (.bool true)∧∃ n,w'=w.drewN n:=by
 obtain ⟨aa,ac,rfl⟩:=ha.aB;have HA:=af ha;have HL:=af hL;have TE:=af hc;have HC:=af hC;obtain ⟨n,hn⟩:∃ n,rs.length=n:=⟨_,rfl⟩;have HN:=af hn;rw [hn] at HA hl ⊢;clear ha hL hc hC hn;go_enter Tryz.func11,Tryz.ntmps11;go_wp2_with fail;go_loopw [7] (λiv wr=>∃ (i q:Nat),i<=n+2∧iv=.int .i64 i∧wr=w.drewN q) (λiv _=>n+2 - (intOf iv).toNat)
 case atStart=>exact ⟨0,0,by omega,rfl,rfl⟩
 case round =>
  obtain ⟨i,q,hi,rfl,rfl⟩:=hrel;by_cases hlt:i<n+2
  ·have hlt2:(i:Int)<(n:Int)+2:=by omega
   have LZ:=(uh HL).len;rw [uh HN] at LZ;obtain ⟨g,hg⟩:∃ g,G[i]?=some g:=⟨_,f_ (by omega)⟩;obtain ⟨l0,l1,l2⟩:=(uh HL).row hg;have hgb:=((uh HL).list i g hg).1;by_cases hin:i<n
   ·obtain ⟨gr,or',ua,un,uc,er,r0,hints,r1,r2⟩:=(uh HA).get (i:=i) (by rw [uh HN];exact hin);cases er;obtain ⟨gc,rfl,c0⟩:=(uh TE).get hg (by rw [uh HN];exact hin);obtain ⟨⟨C,K,E⟩,hq⟩:∃ q,rs.getD i ([],0,false)=q:=⟨_,rfl⟩;have hmem:=(lZ (by rw [uh HN];exact hin) hq).2;have Ri:=uh HC _ hmem;have hun:un=C.length:=by
     rw [hq] at hints;obtain ⟨ad,cap,e,_⟩:=id hints;cases e;rfl
    unfold pR at l0 l1 l2;unfold sH at hgb;unfold Rh at c0;rw [h_ (by rw [uh HN];exact hin),hq] at l0 l1 l2 hgb;rw [hq] at hints r1 r2 c0;simp only at hints r1 r2 c0 l0 l1 l2 hgb Ri;have HS:=af (λk=>BM (sG C (.slice (some ⟨g,0,none⟩) C.length (C.length+2)) (.slice ua un uc) (w.drewN k) (wX hgb _) hints (by unfold maxLen;omega)));have KL:=af (λk=>BM (OA C (.slice ua un uc) g (w.drewN k) hints hgb (by omega)));rw [<-hun] at HS KL c0 l0;clear hq hmem hints hgb hg LZ hun;go_wp2;go_quiet ((go_at_call 12;exact Gm (uh HS _)));go_wp2;go_quiet ((go_at_call 25;exact Gm (uh KL _)));go_wp2;go_quiet (fail);go_wp2;go_roundw
    case rel=>exact ⟨i+1,_,by omega,by go_num,rfl⟩
    case measure=>simp [intOf];omega
   ·unfold pR at l0 l1 l2;unfold sH at hgb;rw [g_ (by rw [uh HN];exact hin)] at l0 l1 l2 hgb;simp only at l0 l1 l2;have x0:w.cell? ⟨g,0,none⟩=some (.int .i64 1099511627783):=by rw [cellsOf hgb];rfl
    clear hgb hg LZ;go_wp2;go_roundw
    case rel=>exact ⟨i+1,_,by omega,by go_num,rfl⟩
    case measure=>simp [intOf];omega
  ·go_wp2;go_ret;exact ⟨rfl,_,rfl⟩
end
end Go.Proofs.YtgaafamcajcifaaGreat

namespace Go.Proofs.YtgaafamcajcifaaGreat
open Go.RowKit
section
variable {P:Program} (w:World)
theorem BN (t ty:TypeId) (base:Nat) (e:TypeId) (i:TypeInfo) (z:Value) (size bytes:Nat) (ht:P.underlying t=some (.slice e)) (hi:P.info? e=some i) (hz:i.zero=some z)
  (hsize:i.size=size) (hby:i.bytes=bytes) (hzs:z.cells.size=size) (hsz:0<size)
  (v:Value) (n:Nat) (xs:List Value) (hown:w.ownsRow base e size v n xs)
  (ad:Addr) (m c:Nat) (news:List Value) (hl:news.length=m*size) (hnews:∀ j u,news[j]?=some u->w.cell? (ad.add j)=some u) (h1:∀ u∈news,u.oneCell'=true)
  (hm:0<m) (h63:n+m<=maxLen) (hbytes:(n+m)*bytes<=140737488355328) (hbase:base<=w.heap.size) :
  ∃ g cap w',(Builtin.append_ #[t,t] ty #[v,.slice (some ad) m c]).run P w=.ok (.slice (some ⟨g,0,none⟩) (n+m) cap) w' ∧
   w'.ownsRow base e size (.slice (some ⟨g,0,none⟩) (n+m) cap) (n+m) (xs++news)∧((v=.slice (some ⟨g,0,none⟩) n cap∧w.grownBy w' (some g))∨(g=w.heap.size∧w.grownBy w' none))∧g<w'.heap.size:=by
 obtain ⟨g,cap,w',hr,h2,h3,h4,h5⟩:=run_append_lies (P:=P) w t ty base e i z size bytes ht hi hz hsize hby hzs hsz v n xs hown ad m c news hl hnews h1 hm h63 hbytes hbase _ rfl;refine ⟨g,cap,w',hr,h2,?_,h5⟩;subst hsize;subst hby;have hown0:=hown;rcases hown.2 with ⟨rfl,rfl⟩|⟨g0,cap0,cur,rfl,hbg,hg,hnc,hcm,hcs,htake⟩
 ·right
  rcases h4 with h4|h4
  ·simp [Value.ownBlock] at h4
  ·exact ⟨h4,h3⟩
 ·by_cases hroom:n+m<=cap0
  ·have hfit:n*i.size+news.length<=cur.size:=by rw [hl,hcs,<-aa_];exact abE _ hroom
   have hr2:=run_append_room (P:=P) w t ty e i ht hi g0 n cap0 cur hg ad m c news hl hnews h1 hroom hfit;rw [hr2] at hr;injection hr with hr _;injection hr with hr _ hc;injection hr with hr;injection hr with hr _ _;subst hr;subst hc;exact .inl ⟨rfl,h3⟩
  ·right
   have holds:∀ j u,xs[j]?=some u->w.cell? ((⟨g0,0,none⟩:Addr).add j)=some u:=hown0.cells (g:=g0) rfl;have hr2:=run_append_grow (P:=P) w t ty e i z ht hi hz ⟨g0,0,none⟩ n cap0 xs hown0.1 holds ad m c news hl hnews (by omega) (by simp only [maxLen] at h63;omega) (growslice_fits (by simp only [maxLen] at h63;omega) hbytes);rw [hr2] at hr;injection hr with hr hw;have e1:w.heap.size=g:=by injection hr with hr _ _;injection hr with hr;injection hr
   subst e1;subst hw;exact ⟨rfl,rfl,rfl,rfl,by simp,λk hk _=>Below.heap_alloc w.drew _ k hk⟩
theorem yj {ops:Array Oper} {rest:List Oper} {o:Oper} {a:Act} {Q:Exit->Act->World->Prop} (hgd:o.guard=none) (s x:Operand) (t:TypeId)
  (ho:o.op=.call { callee:=.builtin .append,args:=#[s,x],argTypes:=#[t,t] })
  (base:Nat) (e:TypeId) (i:TypeInfo) (z:Value) (size bytes:Nat) (ht:P.underlying t=some (.slice e)) (hi:P.info? e=some i) (hz:i.zero=some z)
  (hsize:i.size=size) (hby:i.bytes=bytes) (hzs:z.cells.size=size) (hsz:0<size)
  (v:Value) (n:Nat) (xs:List Value) (hs:a.eval s=v) (hown:w.ownsRow base e size v n xs)
  (ad:Addr) (m c:Nat) (news:List Value) (hx:a.eval x=.slice (some ad) m c) (hl:news.length=m*size) (hnews:∀ j u,news[j]?=some u->w.cell? (ad.add j)=some u) (h1:∀ u∈news,u.oneCell'=true)
  (hm:0<m) (h63:n+m<=maxLen) (hbytes:(n+m)*bytes<=140737488355328) (hbase:base<=w.heap.size)
  (h:∀ g cap w',w'.ownsRow base e size (.slice (some ⟨g,0,none⟩) (n+m) cap) (n+m) (xs++news)->((v=.slice (some ⟨g,0,none⟩) n cap∧w.grownBy w' (some g))∨(g=w.heap.size∧w.grownBy w' none))->g<w'.heap.size->wpList P ops Q rest (a.put o.dst (.slice (some ⟨g,0,none⟩) (n+m) cap)) w'):wpList P ops Q (o::rest) a w:=by
 refine wpList_plain hgd λ_ hK=>?_;obtain ⟨g,cap,w',hr,h2,h3,h4⟩:=BN (P:=P) w t o.type base e i z size bytes ht hi hz hsize hby hzs hsz v n xs hown ad m c news hl hnews h1 hm h63 hbytes hbase;unfold Oper.wp execOp;simp only [ho,resolve,invoke,builtin,Sem.run_bind,Sem.run_pure,Result.andThen_ok,List.map_toArray,List.map_cons,List.map_nil,hs,hx,hr];exact hK _ _ (h g cap w' h2 h3 h4)
end
def jR (g:Option Nat) (w w':World):Prop:=∀ (k:Nat) (cur:Array Value),w.heap[k]?=some (Obj.cells cur 3 (0,0))->g≠some k->w'.heap[k]?=w.heap[k]?
theorem jR.trans {g:Option Nat} {w w' w2:World} (h:jR g w w') (h2:jR g w' w2):jR g w w2:=λk cur hk hne=>by
 have e1:=h k cur hk hne;rw [h2 k cur (e1.trans hk) hne,e1]
theorem jR.of {g:Option Nat} {w w':World} (h:aA 3 w w'):jR g w w':=λk cur hk _=>h k cur hk
theorem jR.setCell (w:World) (g o:Nat) (u:Value):jR (some g) w (w.setCell ⟨g,o,none⟩ u):=λk _ _ hne=>l_ _ _ _ _ (λh=>hne (by rw [h]))
theorem jR.grown {w w':World} {g:Option Nat} (h:w.grownBy w' g):jR g w w':=λk _ hk hne=>h.block k (z_ hk) (λh=>hne h.symm)
theorem Jj {B:Nat} {w w':World} {v:Value} {l:List Int} {g:Option Nat} (h:aI B w v l) (hg:∀ k,v.ownBlock=some k->g≠some k) (hk:jR g w w'):aI B w' v l:=by
 refine ⟨h.1,?_⟩;rcases h.2 with hn|⟨k,cap,cur,rfl,hb,hgg,rest⟩
 ·exact .inl hn
 ·exact .inr ⟨k,cap,cur,rfl,hb,by rw [hk k cur hgg (hg k rfl)];exact hgg,rest⟩
theorem Jk {B:Nat} {w:World} {g n cap:Nat} {l:List Int} (h:aI B w (.slice (some ⟨g,0,none⟩) n cap) l) (k:Nat) (_:k<l.length) (x:Int):aI B (w.setCell ⟨g,k,none⟩ (.int .i64 x)) (.slice (some ⟨g,0,none⟩) n cap) (l.set k x):=by
 refine ⟨by have:=h.1;simp at this ⊢,?_⟩;rcases h.2 with ⟨hn,_⟩|⟨g',cap',cur,he,hb,hgg,hle,hm,hcs,htk⟩
 ·cases hn
 ·injection he with e1 e2 e3;injection e1 with e1;injection e1 with e1 _ _;subst e1;subst e3;refine .inr ⟨g,cap,_,by rw [abj,e2],hb,j_ w g k _ _ _ hgg,by rw [abj];exact hle,hm,by simpa using hcs,?_⟩;rw [abj,List.map_set,<-htk];simp [List.take_set,bF]
def bT (bq:List (Value × Int)):List Value:=(bq.map λe=>[e.1,bF e.2]).flatten
structure dX (rv qv:Value) (B:Nat) (w:World) (b N:Nat) (bq:List (Value × Int)) (v:Value):Prop where
 base:B<=b
 blk:w.heap[b]?=some (.cells #[.int .i64 N,v,rv,qv] 29 (0,0))
 own:w.ownsRow B 50 2 v bq.length (bT bq)
theorem dX.bW {rv qv:Value} {B:Nat} {w w':World} {b N:Nat} {bq:List (Value × Int)} {v:Value} (h:dX rv qv B w b N bq v) (h1:aA 29 w w') (h2:aA 50 w w'):dX rv qv B w' b N bq v :=
 ⟨h.base,by rw [h1 b _ h.blk];exact h.blk,aW h.own h2⟩
theorem dX.mark {rv qv:Value} {B:Nat} {w:World} {b N:Nat} {bq:List (Value × Int)} {v:Value} (h:dX rv qv B w b N bq v):dX rv qv B (w.setCell ⟨b,0,none⟩ (.int .i64 (N+1:Int))) b (N+1) bq v :=
 ⟨h.base,by rw [j_ w b 0 _ _ _ h.blk];rfl,aW h.own (.setCell h.blk (by decide) _ _)⟩
def kQ (w:World) (e:Value × Int):Prop:=∃ k,aI 0 w e.1 (List.replicate k e.2)
theorem kQ.bW {w w':World} {e:Value × Int} {g:Option Nat} (h:kQ w e) (hg:∀ k,e.1.ownBlock=some k->g≠some k) (hk:jR g w w'):kQ w' e:=by
 obtain ⟨k,h⟩:=h;exact ⟨k,Jj h hg hk⟩
theorem kQ.dY {w w':World} {e:Value × Int} (h:kQ w e) (hk:aA 3 w w'):kQ w' e:=by
 obtain ⟨k,h⟩:=h;exact ⟨k,aW h hk⟩
theorem kQ.lt {w:World} {e:Value × Int} (h:kQ w e) {k:Nat} (hk:e.1.ownBlock=some k):k<w.heap.size:=by
 obtain ⟨m,h⟩:=h;rcases h.2 with ⟨hn,_⟩|⟨g,cap,cur,he,hb,hgg,_⟩
 ·rw [hn] at hk;simp [Value.ownBlock] at hk
 ·rw [he] at hk;simp [Value.ownBlock] at hk;subst hk;exact z_ hgg
theorem OM {B:Nat} {w:World} {k dL fC:Nat} {n:Int} (h:aI B w (.slice (some ⟨k,0,none⟩) dL fC) (List.replicate dL n)) (m:Nat) (hm:m<=dL):kQ w (.slice (some ⟨k,0,none⟩) m fC,n):=by
 refine ⟨m,by simp,?_⟩;rcases h.2 with ⟨hn,_⟩|⟨g',cap',cur,he,hb,hgg,hle,hmx,hcs,htk⟩
 ·cases hn
 ·injection he with e1 e2 e3;injection e1 with e1;injection e1 with e1 _ _;subst e1;subst e3;refine .inr ⟨k,fC,cur,by simp,aaZ _,hgg,by simp at hle ⊢;omega,hmx,hcs,?_⟩;have:=congrArg (List.take m) htk;simp only [List.take_take,aba,Nat.mul_one] at this ⊢;rw [aa3 hm] at this;rw [this];simp [aa3 hm]
def L9 (w:World) (nK:Option Addr) (dL fC:Nat) (n:Int) (e:Value × Int):Prop :=
 (e.2=n∧∃ k m,nK=some ⟨k,0,none⟩∧e.1=.slice (some ⟨k,0,none⟩) m fC∧m<=dL)∨(kQ w e∧∀ a,nK=some a->e.1.ownBlock≠some a.block)
theorem L9.ok {B:Nat} {w:World} {nK:Option Addr} {dL fC:Nat} {n:Int} {e:Value × Int} (h:L9 w nK dL fC n e) (hg:aI B w (.slice nK dL fC) (List.replicate dL n)):kQ w e:=by
 rcases h with ⟨rfl,k,m,rfl,he,hm⟩|⟨h,_⟩
 ·obtain ⟨e1,e2⟩:=e;simp only at he;subst he;exact OM hg m hm
 ·exact h
theorem pU (bq:List (Value × Int)) (L:Value) (n:Int):bT (bq++[(L,n)])=bT bq++[L,bF n]:=by simp [bT]
theorem dX.add {rv qv:Value} {B:Nat} {w w2:World} {b N:Nat} {bq:List (Value × Int)} {v v':Value} (h:dX rv qv B w b N bq v) (L:Value) (n:Int) (o:Obj) (hsz:B<=w.heap.size) (hg:(w.alloc o).grownBy w2 v.ownBlock) (ho:w2.ownsRow B 50 2 v' (bq.length+1) (bT bq++[L,bF n])) :
  dX rv qv B (w2.setCell ⟨b,1,none⟩ v') b N (bq++[(L,n)]) v'∧(∀ e,50≠e->29≠e->aA e w (w2.setCell ⟨b,1,none⟩ v'))∧Below B w (w2.setCell ⟨b,1,none⟩ v')∧w2.heap[b]?=some (.cells #[.int .i64 N,v,rv,qv] 29 (0,0)):=by
 have h1:dX rv qv B (w.alloc o) b N bq v:=h.bW (.alloc _ _ _) (.alloc _ _ _);have k1:aA 29 (w.alloc o) w2:=.grown h1.own hg (by decide);have hb:w2.heap[b]?=some (.cells #[.int .i64 N,v,rv,qv] 29 (0,0)):=by rw [k1 b _ h1.blk];exact h1.blk
 refine ⟨⟨h.base,by rw [j_ w2 b 1 _ _ _ hb];rfl,?_⟩,?_,?_,hb⟩
 ·have:=aW ho (.setCell hb (by decide) 1 v');rw [pU,C_];exact this
 ·exact λe n1 n2=>((aA.alloc _ w o).trans (.grown h1.own hg n1)).trans (.setCell hb n2 1 v')
 ·exact (((n_ B w).alloc hsz o).grown hg (by simp;omega) (bR h1.own)).setCell (p:=⟨b,1,none⟩) h.base _
def TG (w w2:World) (nK:Option Addr) (dL fC g cap:Nat):Prop :=
 (Value.slice nK dL fC=.slice (some ⟨g,0,none⟩) dL cap∧w.grownBy w2 (some g))∨(g=w.heap.size∧w.grownBy w2 none)
theorem L9.grow {B:Nat} {w w2:World} {nK:Option Addr} {dL fC g cap:Nat} {n:Int} {e:Value × Int} (h:L9 w nK dL fC n e) (hg:aI B w (.slice nK dL fC) (List.replicate dL n)) (o:Obj) (ht:TG (w.alloc o) w2 nK dL fC g cap):L9 w2 (some ⟨g,0,none⟩) (dL+1) cap n e:=by
 rcases ht with ⟨he,hgr⟩|⟨rfl,hgr⟩
 ·injection he with e1 _ e3;subst e1;subst e3;rcases h with ⟨h1,k,m,hk,h2,hm⟩|⟨h1,h2⟩
  ·injection hk with hk;injection hk with hk _ _;subst hk;exact .inl ⟨h1,g,m,rfl,h2,by omega⟩
  ·refine .inr ⟨(h1.dY (.alloc _ _ o)).bW (g:=some g) (λk hk hc=>?_) (.grown hgr),λa ha=>h2 a ha⟩;injection hc with hc;subst hc;exact h2 _ rfl hk
 ·have h1:=h.ok hg;refine .inr ⟨(h1.dY (.alloc _ _ o)).bW (g:=none) (λk _ hc=>by cases hc) (.grown hgr),λa ha=>?_⟩;injection ha with ha;subst ha;intro hc;have:=h1.lt hc;simp at this;omega
theorem jR.two {w0 w w2:World} {vb:Option Nat} {nK:Option Addr} {dL fC g cap:Nat} (h:jR vb w0 w) (hsz:w0.heap.size<=w.heap.size) (o:Obj) (ht:TG (w.alloc o) w2 nK dL fC g cap) (hn:∀ a,nK=some a->vb=some a.block∨w0.heap.size<=a.block):jR vb w0 w2∧(vb=some g∨w0.heap.size<=g):=by
 rcases ht with ⟨he,hgr⟩|⟨rfl,hgr⟩
 ·injection he with e1 _ e3;subst e1;have hn':=hn _ rfl;refine ⟨λk cur hk hne=>?_,hn'⟩;have hlt:=z_ hk;rw [hgr.block k (by simp;omega) (λhc=>?_),Below.heap_alloc _ _ _ (by omega),h k cur hk hne];injection hc with hc;subst hc;rcases hn' with hn' | hn'
  ·exact hne hn'
  ·simp only at hn';omega
 ·refine ⟨λk cur hk hne=>?_,.inr (by simp;omega)⟩;have hlt:=z_ hk;rw [hgr.block k (by simp;omega) (λhc=>by cases hc),Below.heap_alloc _ _ _ (by omega),h k cur hk hne]
theorem TG.below {B:Nat} {w w2:World} {nK:Option Addr} {dL fC g cap:Nat} {l:List Int} {o:Obj} (ht:TG (w.alloc o) w2 nK dL fC g cap) (hg:aI B w (.slice nK dL fC) l) (hsz:B<=w.heap.size):Below B w w2:=by
 rcases ht with ⟨he,hgr⟩|⟨rfl,hgr⟩
 ·rw [he] at hg;exact ((n_ B w).alloc hsz o).grown hgr (by simp;omega) (bR hg)
 ·exact ((n_ B w).alloc hsz o).grown hgr (by simp;omega) (by intro k hk;cases hk)
theorem TG.bW {B:Nat} {w w2:World} {nK:Option Addr} {dL fC g cap:Nat} {l:List Int} {o:Obj} {e:TypeId} (ht:TG (w.alloc o) w2 nK dL fC g cap) (hg:aI B w (.slice nK dL fC) l) (hne:3≠e):aA e w w2:=by
 rcases ht with ⟨he,hgr⟩|⟨rfl,hgr⟩
 ·rw [he] at hg;have h1:=aW hg (.alloc _ w o);exact (aA.alloc e w o).trans (.grown h1 hgr hne)
 ·exact (aA.alloc e w o).trans (λk cur hk=>hgr.block k (z_ hk) (λhc=>by cases hc))
theorem Tryz.UU:(Tryz.prog.info? 50).map (λi=>(i.zero,i.size,i.bytes))=some (some (.agg #[.slice none 0 0,.int .i64 0]),2,32):=by kernel_rfl
structure BO (rv qv:Value) (B:Nat) (w0 w:World) (b N:Nat) (bq new:List (Value × Int)) (v1:Value) (vb:Option Nat) (nK:Option Addr) (dL fC:Nat) (n:Int):Prop where
 held:dX rv qv B w b N (bq++new) v1
 own:aI B w (.slice nK dL fC) (List.replicate dL n)
 RH:∀ e∈bq++new,L9 w nK dL fC n e
 news:∀ e∈new,∀ k,e.1.ownBlock=some k->vb=some k∨w0.heap.size<=k
 UW:∀ a,nK=some a->vb=some a.block∨w0.heap.size<=a.block
 bW:jR vb w0 w
 below:Below B w0 w
 other:∀ e,3≠e->50≠e->29≠e->aA e w0 w
theorem BO.add {rv qv:Value} {B:Nat} {w0 w w2:World} {b N:Nat} {bq new:List (Value × Int)} {v1 v':Value} {vb:Option Nat} {nK:Option Addr} {dL fC:Nat} {n:Int} (h:BO rv qv B w0 w b N bq new v1 vb nK dL fC n) (hsz:B<=w.heap.size) (o:Obj) (hg:(w.alloc o).grownBy w2 v1.ownBlock) (ho:w2.ownsRow B 50 2 v' ((bq++new).length+1) (bT (bq++new)++[.slice nK dL fC,bF n])) :
  BO rv qv B w0 (w2.setCell ⟨b,1,none⟩ v') b N bq (new++[(.slice nK dL fC,n)]) v' vb nK dL fC n∧w2.heap[b]?=some (.cells #[.int .i64 N,v1,rv,qv] 29 (0,0)):=by
 obtain ⟨h1,h2',h3,h4⟩:=h.held.add _ n o hsz hg ho;have h2:=h2' 3 (by decide) (by decide);have hown:=aW h.own h2;refine ⟨⟨by rw [<-abd];exact h1,hown,?_,?_,h.UW,h.bW.trans (.of h2),h.below.trans h3,λe n1 n2 n3=>(h.other e n1 n2 n3).trans (h2' e n2 n3)⟩,h4⟩
 ·intro e he;rw [<-abd] at he;rcases F_.1 he with he|he
  ·rcases h.RH e he with hc | ⟨hc,hd⟩
   ·exact .inl hc
   ·exact .inr ⟨hc.dY h2,hd⟩
  ·rw [I_] at he;subst he;rcases h.own.2 with ⟨hn,_⟩|⟨k,cap,cur,hv,_⟩
   ·injection hn with e1 e2 e3;subst e1;subst e2;subst e3;exact .inr ⟨⟨0,aa8 _ 0 _ 1⟩,λa ha=>by cases ha⟩
   ·injection hv with e1 e2 e3;subst e1;exact .inl ⟨rfl,k,dL,rfl,rfl,d_ _⟩
 ·intro e he k hk;rcases F_.1 he with he|he
  ·exact h.news e he k hk
  ·rw [I_] at he;subst he;cases nK with
   | none=>simp [Value.ownBlock] at hk
   | some a=>simp [Value.ownBlock] at hk;subst hk;exact h.UW a rfl
theorem BO.grow {rv qv:Value} {B:Nat} {w0 w w2:World} {b N:Nat} {bq new:List (Value × Int)} {v1:Value} {vb:Option Nat} {nK:Option Addr} {dL fC g cap:Nat} {n:Int} (h:BO rv qv B w0 w b N bq new v1 vb nK dL fC n) (hsz:B<=w.heap.size) (o:Obj) (ht:TG (w.alloc o) w2 nK dL fC g cap) (ho:w2.ownsRow B 3 1 (.slice (some ⟨g,0,none⟩) (dL+1) cap) (dL+1) ((List.replicate dL n).map bF++[bF n])) :
  BO rv qv B w0 w2 b N bq new v1 vb (some ⟨g,0,none⟩) (dL+1) cap n:=by
 have hk:=h.bW.two h.below.size o ht h.UW;refine ⟨h.held.bW (ht.bW h.own (by decide)) (ht.bW h.own (by decide)),?_,λe he=>(h.RH e he).grow h.own o ht,h.news,?_,hk.1,h.below.trans (ht.below h.own hsz),λe n1 n2 n3=>(h.other e n1 n2 n3).trans (ht.bW h.own n1)⟩
 ·have e:(List.replicate (dL+1) n).map bF=(List.replicate dL n).map bF++[bF n]:=by rw [List.replicate_succ'];simp
  unfold aI;rw [e,aba];exact ho
 ·intro a ha;injection ha with ha;subst ha;exact hk.2
end Go.Proofs.YtgaafamcajcifaaGreat
