/- Joined: SLaw3 SLaw4 SLaw5. -/
import Derived.Test.YtfaljekgpnbmiaaGreatJ44
set_option linter.unusedVariables false
set_option linter.unusedSimpArgs false
set_option maxRecDepth 100000
namespace Go.Proofs.YtfaljekgpnbmiaaGreat
open Go.RowKit Go.Sort
abbrev sM:=Value × Int × Bool
def Vz (q:sM):List Value:=[q.1,.int .i64 q.2.1,.bool q.2.2]
def iD (l:List sM):List Value:=l.flatMap Vz
theorem Fg (l:List sM):(iD l).length=l.length*3:=by
 induction l with
 | nil=>rfl
 | cons a l ih=>show (Vz a++iD l).length=_;rw [C_,ih];simp [Vz];omega
theorem sN:∀ (l:List sM) (i:Nat) (q:sM),l[i]?=some q->(iD l)[i*3]?=some q.1∧(iD l)[i*3+1]?=some (.int .i64 q.2.1)∧(iD l)[i*3+2]?=some (.bool q.2.2)
 | [],i,q,h=>by cases h
 | a::l,0,q,h=>by cases h;exact ⟨rfl,rfl,rfl⟩
 | a::l,i+1,q,h=>by
  have:=sN l i q (by simpa using h);rw [show (i+1)*3=i*3+3 by omega];exact this
theorem yj:∀ (l:List sM) (i:Nat) (r:sM),(((iD l).set (i*3) r.1).set (i*3+1) (.int .i64 r.2.1)).set (i*3+2) (.bool r.2.2)=iD (l.set i r)
 | [],i,r=>rfl
 | a::l,0,r=>rfl
 | a::l,i+1,r=>by
  rw [show (i+1)*3=i*3+3 by omega];show a.1::.int .i64 a.2.1::.bool a.2.2::(((iD l).set (i*3) _).set (i*3+1) _).set (i*3+2) _=a.1::.int .i64 a.2.1::.bool a.2.2::iD (l.set i r);rw [yj l i r]
def jM (w:World) (g:Nat) (l:List sM):Prop:=w.heap[g]?=some (.cells (iD l).toArray 85 (0,0))
def iE (w:World) (g i:Nat) (r:sM):World:=((w.setCell ⟨g,i*3,none⟩ r.1).setCell ⟨g,i*3+1,none⟩ (.int .i64 r.2.1)).setCell ⟨g,i*3+2,none⟩ (.bool r.2.2)
section
variable {w:World} {g:Nat} {l:List sM}
theorem jM.cell (h:jM w g l) {i:Nat} {q:sM} (hi:l[i]?=some q):w.cell? ⟨g,i*3,none⟩=some q.1∧w.cell? ⟨g,i*3+1,none⟩=some (.int .i64 q.2.1)∧w.cell? ⟨g,i*3+2,none⟩=some (.bool q.2.2):=by
 rw [cellsOf h,cellsOf h,cellsOf h,abm,abm,abm];exact sN l i q hi
theorem jM.set (h:jM w g l) (i:Nat) (r:sM):jM (iE w g i r) g (l.set i r):=by
 have h1:=j_ w g (i*3) _ _ r.1 h;have h2:=j_ _ g (i*3+1) _ _ (.int .i64 r.2.1) h1;have h3:=j_ _ g (i*3+2) _ _ (.bool r.2.2) h2;unfold jM iE;rw [h3,<-yj];congr 2;apply Array.ext';simp
theorem jM.bX (h:jM w g l) (i:Nat) (r:sM) {e:TypeId} (he:85≠e):aA e w (iE w g i r):=by
 have h1:=j_ w g (i*3) _ _ r.1 h;have h2:=j_ _ g (i*3+1) _ _ (.int .i64 r.2.1) h1;exact ((aA.setCell h he _ _).trans (aA.setCell h1 he _ _)).trans (aA.setCell h2 he _ _)
theorem jM.grow {w':World} (h:jM w g l) (hg:ae w w'):jM w' g l:=(ab_ hg g (z_ h)).trans h
end
theorem BN {B g i:Nat} {w0 w:World} {r:sM} (h:Below B w0 w) (hg:B<=g):Below B w0 (iE w g i r):=((h.setCell (p:=⟨g,i*3,none⟩) hg _).setCell (p:=⟨g,i*3+1,none⟩) hg _).setCell (p:=⟨g,i*3+2,none⟩) hg _
def yl:sM:=(.slice none 0 0,0,false)
theorem Px (n:Nat):(madeCells #[Value.slice none 0 0,Value.int .i64 0,Value.bool false] (n*3)).toList=iD (List.replicate n yl):=by
 apply List.ext_getElem?;intro j;by_cases hj:j<n*3
 ·have hh:(List.replicate n yl)[j/3]?=some yl:=by rw [f_ (by simp;omega)];simp
  obtain ⟨g0,g1,g2⟩:=sN _ _ _ hh;rcases (show j=j/3*3∨j=j/3*3+1∨j=j/3*3+2 by omega) with h|h|h
  ·have hm:j%3=0:=by omega
   have e:(iD (List.replicate n yl))[j]?=some (.slice none 0 0):=by rw [h];exact g0
   rw [e];simp [madeCells,hj,hm]
  ·have hm:j%3=1:=by omega
   have e:(iD (List.replicate n yl))[j]?=some (.int .i64 0):=by rw [h];exact g1
   rw [e];simp [madeCells,hj,hm]
  ·have hm:j%3=2:=by omega
   have e:(iD (List.replicate n yl))[j]?=some (.bool false):=by rw [h];exact g2
   rw [e];simp [madeCells,hj,hm]
 ·rw [P_ (by simp [madeCells];omega),P_ (by rw [Fg];simp;omega)]
def pV (rs:List dV) (i g:Nat):sM :=
 if i<rs.length then (.slice (some ⟨g,0,none⟩) (rs.getD i ([],0,false)).1.length ((rs.getD i ([],0,false)).1.length+2),(rs.getD i ([],0,false)).2.1,(rs.getD i ([],0,false)).2.2)
 else (.slice (some ⟨g,0,none⟩) 1 1,1099511627783,false)
def R7 (rs:List dV) (i g:Nat):Value:=.slice (some ⟨g,0,none⟩) ((rs.getD i ([],0,false)).1.length+2) ((rs.getD i ([],0,false)).1.length+2)
def sJ (rs:List dV) (i:Nat):List Value:=if i<rs.length then bW (rs.getD i ([],0,false)).1 2 else [.int .i64 1099511627783]
structure iR (B:Nat) (rs:List dV) (gl:Nat) (i:Nat) (G:List Nat) (w:World):Prop where
 len:G.length=i
 blk:jM w gl (G.mapIdx (pV rs)++List.replicate (rs.length+2 - i) yl)
 Pp:B<=gl
 list:∀ j g,G[j]?=some g->w.heap[g]?=some (.cells (sJ rs j).toArray 3 (0,0))∧B<=g
 nodup:G.Nodup
def qJ (B:Nat) (rs:List dV) (i:Nat) (G:List Nat) (w:World) (vc:Value):Prop:=w.ownsRow B 22 1 vc (min i rs.length) ((G.take rs.length).mapIdx (R7 rs))
section
variable {B:Nat} {rs:List dV} {gl i:Nat} {G:List Nat} {w w':World}
theorem iR.bX (h:iR B rs gl i G w) (h1:aA 85 w w') (h3:aA 3 w w'):iR B rs gl i G w' :=
 ⟨h.len,(h1 gl _ h.blk).trans h.blk,h.Pp,λj g hj=>⟨(h3 g _ (h.list j g hj).1).trans (h.list j g hj).1,(h.list j g hj).2⟩,h.nodup⟩
theorem iR.grow (h:iR B rs gl i G w) (hg:ae w w'):iR B rs gl i G w':=h.bX (.aX hg) (.aX hg)
theorem iR.lt (h:iR B rs gl i G w) {g:Nat} (hg:g∈G):g<w.heap.size:=by
 obtain ⟨j,hj,e⟩:=List.getElem_of_mem hg;exact z_ (h.list j g (by rw [f_ hj,e])).1
theorem iR.step (h:iR B rs gl i G w) (hi:i<rs.length+2) {g:Nat} (hg:w.heap[g]?=some (.cells (sJ rs i).toArray 3 (0,0))) (hB:B<=g) (hn:g ∉ G):iR B rs gl (i+1) (G++[g]) (iE w gl i (pV rs i g)):=by
 have k:aA 3 w (iE w gl i (pV rs i g)):=h.blk.bX i _ (by decide);refine ⟨by rw [C_,h.len];rfl,?_,h.Pp,λj g' hj=>?_,?_⟩
 ·have:=h.blk.set i (pV rs i g);have e:(G.mapIdx (pV rs)++List.replicate (rs.length+2 - i) yl).set i (pV rs i g)=(G++[g]).mapIdx (pV rs)++List.replicate (rs.length+2 - (i+1)) yl:=by
   rw [List.set_append,g_ (by rw [abQ,h.len];omega),abQ,h.len,acN,List.mapIdx_append,h.len,show rs.length+2 - i=(rs.length+2 - (i+1))+1 by omega,List.replicate_succ,D_,abG];simp
  rw [<-e];exact this
 ·by_cases e:j<G.length
  ·rw [aam e] at hj;have:=h.list j g' hj;exact ⟨(k g' _ this.1).trans this.1,this.2⟩
  ·have hj2:=(ace.1 hj).1;rw [C_,List.length_singleton] at hj2;have ej:j=i:=by have:=h.len;omega
   subst ej;rw [S_ (by have:=h.len;omega),h.len,acN] at hj;cases hj;exact ⟨(k g _ hg).trans hg,hB⟩
 ·rw [List.nodup_append];exact ⟨h.nodup,by simp,λa ha b hb e=>by rw [I_] at hb;subst hb;subst e;exact hn ha⟩
theorem qJ.bX {vc:Value} (h:qJ B rs i G w vc) (hk:aA 22 w w'):qJ B rs i G w' vc:=aW h hk
end
theorem Tryz.l9q:(Tryz.prog.info? 85).map (λi=>(i.zero,i.size,i.bytes))=some (some (.agg #[.slice none 0 0,.int .i64 0,.bool false]),3,40):=by kernel_rfl
theorem Tryz.Py:(Tryz.prog.info? 22).map (λi=>(i.zero,i.size,i.bytes))=some (some (.slice none 0 0),1,24):=by kernel_rfl
def Gs (rs:List dV) (w:World) (e:Ending) (w':World):Prop :=
 ∃ (gl:Nat) (ca:Option Addr) (cc:Nat) (G:List Nat),e=.returned (.tuple #[.slice (some ⟨gl,0,none⟩) (rs.length+2) (rs.length+2),.slice ca rs.length cc])∧iR w.heap.size rs gl (rs.length+2) G w'∧qJ w.heap.size rs (rs.length+2) G w' (.slice ca rs.length cc)∧ae w w'
section
section
attribute [local go_sem] bE
set_option maxHeartbeats 1000000 in
theorem Fe (rs:List dV) (va:Value) (w:World) (ha:kR w va rs) (hl:rs.length<=1048576) (hC:∀ q∈rs,q.1.length<=1048576) :
  Calls Tryz.prog 51 #[va] w (Gs rs w):=by
 obtain ⟨i0,hi0,hz0,hz1,hz2⟩:=V_ Tryz.l9q;obtain ⟨i1,hi1,hy0,hy1,hy2⟩:=V_ Tryz.Py;obtain ⟨aa,ac,rfl⟩:=ha.aB;have HA:=af ha;have HC:=af hC;obtain ⟨n,hn⟩:∃ n,rs.length=n:=⟨_,rfl⟩;have HN:=af hn;rw [hn] at HA hl ⊢;clear ha hn hC;go_enter Tryz.func51,Tryz.ntmps51;go_wp2_with (at_make;refine O_ _ rfl _ _ 33 rfl w.heap.size 85 i0 (.agg #[.slice none 0 0,.int .i64 0,.bool false]) 3 Tryz.underlying33 hi0 hz0 hz1 .i64 .i64 _ _ (n+2) rfl rfl ?e1 ?e2 ?c1 ?c2 ?c3 ?_)
 case e1=>first | rfl | omega | simp
 case e2=>first | rfl | omega | simp
 case c1=>rw [hz2];omega
 case c2=>unfold maxLen;omega
 case c3=>omega
 ·intro w1 hown hgrow;have hb1:ae w w1:=(n_ _ _).grown hgrow (d_ _) (by intro k hk;cases hk);have hblk:jM w1 w.heap.size (List.replicate (n+2) yl):=by
   have h1:=BM hown;unfold jM;rw [h1,<-Px]
  have H0:Hid (iR w.heap.size rs w.heap.size 0 [] w1∧qJ w.heap.size rs 0 [] w1 (.slice none 0 0)∧ae w w1):=by
   refine ⟨⟨rfl,?_,d_ _,λj g hj=>by simp at hj,List.nodup_nil⟩,?_,hb1⟩
   ·rw [uh HN];exact hblk
   ·unfold qJ;rw [Nat.zero_min,List.take_nil,List.mapIdx_nil];exact abz _ _ _ _
  clear hown hgrow hb1 hblk;go_wp2_with fail;go_loopw [5,6] (λcv iv wr=>∃ (i cn:Nat) (ca:Option Addr) (cc:Nat),cv=.slice ca cn cc∧iv=.int .i64 i∧i<=n+2∧cn=min i n∧Hid (∃ G,iR w.heap.size rs w.heap.size i G wr∧qJ w.heap.size rs i G wr (.slice ca cn cc)∧ae w wr)) (λ_ iv _=>n+2 - (intOf iv).toNat)
  case atStart=>exact ⟨0,0,none,0,rfl,rfl,by omega,by omega,[],H0⟩
  case round =>
   obtain ⟨i,cn,ca,cc,rfl,rfl,hi,hcn,HR⟩:=hrel;clear H0;by_cases hin:i<n
   ·have hcn':cn=i:=by omega
    subst hcn';have hlt2:(cn:Int)<(n:Int)+2:=by omega
    obtain ⟨G,hL,hCs,hG⟩:=uh HR;obtain ⟨gr,or',ua,un,uc,er,r0,hints,r1,r2⟩:=((uh HA).below hG).get (i:=cn) (by rw [uh HN];exact hin);cases er;obtain ⟨⟨C,K,E⟩,hq⟩:∃ q,rs.getD cn ([],0,false)=q:=⟨_,rfl⟩;have hmem:=(mf (by rw [uh HN];exact hin) hq).2;have R8:=uh HC _ hmem;rw [hq] at hints r1 r2;simp only at hints r1 r2 R8;have hun:un=C.length:=by
     obtain ⟨ad,cap,e,_⟩:=id hints;cases e;rfl
    subst hun;have HLD:=af (Pk C _ wr hints (by omega));have HST:=af (x_ hL (x_ hCs hG));have HQ:=af hq;clear HR hints hq hmem hL hG hcn hCs;obtain ⟨m,hm⟩:∃ m,C.length=m:=⟨_,rfl⟩;have zy:=af hm;rw [hm] at HLD r0 R8;have SC:=af (x_ r0 (x_ r1 r2));clear hm r1 r2;go_wp2_with fail;refine (uh HLD).mono ?_;rintro e w2 ⟨g,rfl,hg1,hg2,hg3⟩;have hL2:=(uh HST).1.grow hg3;have HG2:Hid (ae w w2):=(uh HST).2.2.trans hg3;have aj6:w.heap.size<=w2.heap.size:=(uh HG2).size;have hcs2:=(uh HST).2.1.bX (.aX hg3);unfold qJ at hcs2;rw [uh HN,abu (by omega)] at hcs2;obtain ⟨cl,hcl⟩:∃ cl,(G.take n).mapIdx (R7 rs)=cl:=⟨_,rfl⟩;rw [hcl] at hcs2;have hown:=aW hcs2 (.alloc _ w2 (.cells #[.slice (some ⟨g,0,none⟩) (m+2) (m+2)] 22));have vR:Hid (((G++[g]).take rs.length).mapIdx (R7 rs)=cl++[.slice (some ⟨g,0,none⟩) (m+2) (m+2)]):=by
     have MH:=hL2.len;have e1:(G++[g]).take rs.length=G++[g]:=aaN (by rw [C_,MH,uh HN];simp;omega);have e2:G.take n=G:=aaN (by rw [MH];omega);have e3:R7 rs cn g=.slice (some ⟨g,0,none⟩) (m+2) (m+2):=by
      unfold R7;rw [uh HQ];show Value.slice _ (C.length+2) (C.length+2)=_;rw [uh zy]
     unfold Hid;rw [e1,<-hcl,e2,List.mapIdx_append,MH,<-e3];simp
    have XO:Hid (g ∉ G∧w.heap.size<=g∧w2.heap[g]?=some (.cells (sJ rs cn).toArray 3 (0,0))):=by
     refine ⟨λh=>?_,w_ (uh HST).2.2.size hg1,?_⟩
     ·have:=(uh HST).1.lt h;omega
     ·rw [hg2];unfold sJ;rw [h_ (by rw [uh HN];exact hin),uh HQ]
    have HL2:=af hL2;have acp:=af (x_ (ae.cell hg3 (uh SC).1) (x_ (ae.cell hg3 (uh SC).2.1) (ae.cell hg3 (uh SC).2.2)));clear HLD hg1 hg2 hg3 hL2 HST r0 SC hcl;go_wp2_with (at_builtin;refine aau _ rfl _ _ 87 rfl w.heap.size 22 i1 (.slice none 0 0) 1 24 Tryz.underlying87 hi1 hy0 hy1 hy2 rfl (by decide) _ _ _ rfl hown ⟨_,0,none⟩ 1 1 [.slice (some ⟨g,0,none⟩) (m+2) (m+2)] rfl rfl ?d1 (λu hu=>by simp at hu;subst hu;rfl) (by decide) ?d3 ?d4 ?d5 _ rfl ?_)
    case d1=>first | exact λj u h=>h | exact oQ #[_] _
    case d3=>unfold maxLen;omega
    case d4=>omega
    case d5=>first | omega | (simp;omega)
    ·intro g2 cap2 w3 hown2 hgrow _ _;have hG3:ae w w3:=abS ((uh HG2).trans (ae.alloc _ _)) hgrow (by simp;omega) (bT hown);have kr:aA 85 w2 w3:=(aA.alloc _ _ _).trans (aA.grown hown hgrow (by decide));have ki:aA 3 w2 w3:=(aA.alloc _ _ _).trans (aA.grown hown hgrow (by decide));have hL3:=(uh HL2).bX kr ki;have hg3:=(ki g _ (uh XO).2.2).trans (uh XO).2.2;have je:=af hG3;have Us:Hid (qJ w.heap.size rs (cn+1) (G++[g]) w3 (.slice (some ⟨g2,0,none⟩) (cn+1) cap2)):=by
      unfold Hid qJ;rw [uh vR,uh HN,abu (by omega)];exact hown2
     obtain ⟨gr',or2,ua',PD,uc',er',r0,hints,r1,r2⟩:=((uh HA).below hG3).get (i:=cn) (by rw [uh HN];exact hin);cases er';rw [uh HQ] at hints r1 r2;simp only at hints r1 r2;have hun':PD=m:=by
      obtain ⟨ad,cap,e,_⟩:=id hints;cases e;exact uh zy
     subst hun';have R9:=af hL3;have qX:Hid (∀ w5,ae w3 w5->(iR w.heap.size rs w.heap.size (cn+1) (G++[g]) (iE w5 w.heap.size cn (.slice (some ⟨g,0,none⟩) PD (PD+2),K,E))∧qJ w.heap.size rs (cn+1) (G++[g]) (iE w5 w.heap.size cn (.slice (some ⟨g,0,none⟩) PD (PD+2),K,E)) (.slice (some ⟨g2,0,none⟩) (cn+1) cap2)∧ae w (iE w5 w.heap.size cn (.slice (some ⟨g,0,none⟩) PD (PD+2),K,E)))):=λw5 hg5=>by
      have e:pV rs cn g=(.slice (some ⟨g,0,none⟩) PD (PD+2),K,E):=by
       unfold pV;rw [h_ (by rw [uh HN];exact hin),uh HQ];show (Value.slice _ C.length (C.length+2),K,E)=_;rw [uh zy]
      have h5:=(uh R9).grow hg5;have h6:=h5.step (by rw [uh HN];omega) ((ab_ hg5 g (z_ hg3)).trans hg3) (uh XO).2.1 (uh XO).1;rw [e] at h6;refine ⟨h6,?_,BN ((uh je).trans hg5) (d_ _)⟩;exact ((uh Us).bX (.aX hg5)).bX (by rw [<-e];exact h5.blk.bX cn _ (by decide))
     have hle2:(PD:Int)<=(PD:Int)+2:=by omega
     clear hL3 hown2 hgrow hown kr ki HL2 XO acp hints hcs2 vR Us hG3;go_wp2_with fail;have y0:=b_ r0;have y1:=b_ r1;have y2:=b_ r2;clear r0 r1 r2;refine ah (cK []) (gL []) 61 22 (by kernel_rfl) (by rfl) (by kernel_rfl) (dz (by simp)) ?_
     iterate 22 (refine aO λK hK=>?_;go_simp;refine hK _ ?_;clear hK K)
     refine aF ?_;intro w5 hg5 _;have hblk:=((uh R9).grow hg5).blk;obtain ⟨u,hu⟩:∃ u,(G.mapIdx (pV rs)++List.replicate (rs.length+2 - cn) yl)[cn]?=some u:=⟨_,f_ (by rw [C_,abQ,(uh R9).len,abE,uh HN];omega)⟩;obtain ⟨c0,c1,c2⟩:=hblk.cell hu;have f0:w5.frozen? ⟨w.heap.size,cn*3,none⟩=false:=aH hblk _;have f1:w5.frozen? ⟨w.heap.size,cn*3+1,none⟩=false:=aH hblk _;have f2:w5.frozen? ⟨w.heap.size,cn*3+2,none⟩=false:=aH hblk _;have HF:=af (uh qX w5 hg5);unfold iE at HF;simp only at HF;clear qX hg5 hblk R9 y0 y1 y2;go_wp2;go_roundw
     case rel=>exact ⟨cn+1,cn+1,some ⟨g2,0,none⟩,cap2,rfl,by simp,by omega,by omega,_,uh HF⟩
     case measure=>simp [intOf];omega
   ·have hcn':cn=n:=by omega
    subst hcn';obtain ⟨G,hL,hCs,hG⟩:=uh HR;have HST:=af (x_ hL (x_ hCs hG));clear HR hcn;by_cases hlt:i<cn+2
    ·have hlt2:(i:Int)<(cn:Int)+2:=by omega
     have hga:=ae.alloc wr (.cells #[.int .i64 1099511627783] 3);have hL2:=hL.grow hga;have hblk:=hL2.blk;obtain ⟨u,hu⟩:∃ u,(G.mapIdx (pV rs)++List.replicate (rs.length+2 - i) yl)[i]?=some u:=⟨_,f_ (by rw [C_,abQ,hL.len,abE,uh HN];omega)⟩;obtain ⟨c0,c1,c2⟩:=hblk.cell hu;have f0:(wr.alloc (.cells #[.int .i64 1099511627783] 3)).frozen? ⟨w.heap.size,i*3,none⟩=false:=aH hblk _;have f1:(wr.alloc (.cells #[.int .i64 1099511627783] 3)).frozen? ⟨w.heap.size,i*3+1,none⟩=false:=aH hblk _;have f2:(wr.alloc (.cells #[.int .i64 1099511627783] 3)).frozen? ⟨w.heap.size,i*3+2,none⟩=false:=aH hblk _;have HF:Hid (∃ G',iR w.heap.size rs w.heap.size (i+1) G' (iE (wr.alloc (.cells #[.int .i64 1099511627783] 3)) w.heap.size i (.slice (some ⟨wr.heap.size,0,none⟩) 1 1,1099511627783,false))∧qJ w.heap.size rs (i+1) G' (iE (wr.alloc (.cells #[.int .i64 1099511627783] 3)) w.heap.size i (.slice (some ⟨wr.heap.size,0,none⟩) 1 1,1099511627783,false)) (.slice ca cn cc)∧ae w (iE (wr.alloc (.cells #[.int .i64 1099511627783] 3)) w.heap.size i (.slice (some ⟨wr.heap.size,0,none⟩) 1 1,1099511627783,false))):=by
      have e:pV rs i wr.heap.size=(.slice (some ⟨wr.heap.size,0,none⟩) 1 1,1099511627783,false):=by
       unfold pV;rw [g_ (by rw [uh HN];omega)]
      have h6:=hL2.step (g:=wr.heap.size) (by rw [uh HN];omega) (by unfold sJ;rw [g_ (by rw [uh HN];omega)];exact aG wr _) hG.size (λh=>Nat.lt_irrefl _ (hL.lt h));rw [e] at h6;refine ⟨_,h6,?_,BN (hG.trans hga) (d_ _)⟩;have h7:qJ w.heap.size rs (i+1) (G++[wr.heap.size]) wr (.slice ca cn cc):=by
       unfold qJ at hCs ⊢;rw [List.take_append_of_le_length (by rw [hL.len,uh HN];omega)];rw [uh HN,Nat.min_eq_right (by omega)] at hCs ⊢;exact hCs
      exact (h7.bX (.aX hga)).bX (by rw [<-e];exact hL2.blk.bX i _ (by decide))
     unfold iE at HF;simp only at HF;clear hblk hL hCs hG HST hL2 hga hu;go_wp2;go_roundw
     case rel=>exact ⟨i+1,cn,ca,cc,rfl,by simp,by omega,by omega,uh HF⟩
     case measure=>simp [intOf];omega
    ·have MI:i=cn+2:=by omega
     have HF:Hid (Gs rs w (.returned (.tuple #[.slice (some ⟨w.heap.size,0,none⟩) (cn+2) (cn+2),.slice ca cn cc])) wr):=by
      have hp:rs.length=cn:=uh HN;rw [MI] at hL hCs;refine ⟨w.heap.size,ca,cc,G,by rw [hp],by rw [hp];exact hL,by rw [hp];exact hCs,hG⟩
     clear MI hL hCs hG HST;go_wp2;exact t_ (v:=.tuple #[.slice (some ⟨w.heap.size,0,none⟩) (cn+2) (cn+2),.slice ca cn cc]) (by simp [results,Tryz.results51,go_sem]) rfl (uh HF)
end
section
variable {B:Nat} {rs:List dV} {gl i:Nat} {G:List Nat} {w w':World}
theorem iR.row (h:iR B rs gl (rs.length+2) G w) {j g:Nat} (hj:G[j]?=some g):w.cell? ⟨gl,j*3,none⟩=some (pV rs j g).1∧w.cell? ⟨gl,j*3+1,none⟩=some (.int .i64 (pV rs j g).2.1)∧w.cell? ⟨gl,j*3+2,none⟩=some (.bool (pV rs j g).2.2):=by
 refine h.blk.cell ?_;have hl:=(ace.1 hj).1;rw [aam (by rw [abQ];exact hl),abH,hj];rfl
theorem qJ.get {ca:Option Addr} {cn cc:Nat} (h:qJ B rs (rs.length+2) G w (.slice ca cn cc)) {j g:Nat} (hj:G[j]?=some g) (hl:j<rs.length):∃ gc,ca=some ⟨gc,0,none⟩∧w.cell? ⟨gc,j,none⟩=some (R7 rs j g):=by
 unfold qJ at h;rw [Nat.min_eq_right (by omega)] at h;rcases h.2 with ⟨_,h0⟩|⟨gc,cap,cur,e,hb,jU,hle,hmx,hsz,htk⟩
 ·omega
 ·cases e;refine ⟨gc,rfl,?_⟩;rw [cellsOf jU];have hx:((G.take rs.length).mapIdx (R7 rs))[j]?=some (R7 rs j g):=by
   rw [abH,ab3,h_ hl,hj];rfl
  rw [<-htk,ab3,h_ (by omega)] at hx
  simpa using hx
end
theorem BO {P:Program} {f:FuncId} {args:Array Value} {w:World} {k:Nat} {e0:Ending} (h:Calls P f args (w.drewN k) λe w'=>e=e0∧∃ n,w'=(w.drewN k).drewN n):Calls P f args (w.drewN k) λe w'=>e=e0∧∃ n,w'=w.drewN (k+n):=by
 refine h.mono ?_;rintro e w' ⟨he,n,hn⟩;exact ⟨he,n,by rw [hn];simp [World.drewN,abY]⟩
theorem Gt {P:Program} {f:FuncId} {args:Array Value} {w:World} {q x:Nat} {e0:Ending} (h:Calls P f args (w.drewN (q+x)) λe w'=>e=e0∧∃ n,w'=w.drewN (q+x+n)):Calls P f args (w.drewN (q+x)) λe w'=>e=e0∧∃ n,w'=w.drewN (q+n):=by
 refine h.mono ?_;rintro e w' ⟨he,n,hn⟩;exact ⟨he,x+n,by rw [hn,abY]⟩
attribute [local go_sem] bE
set_option maxHeartbeats 1000000 in
theorem Ff (rs:List dV) (va:Value) (B gl:Nat) (ca:Option Addr) (cc:Nat) (G:List Nat) (w:World) (ha:kR w va rs) (hL:iR B rs gl (rs.length+2) G w) (hc:qJ B rs (rs.length+2) G w (.slice ca rs.length cc)) (hl:rs.length<=1048576) (hC:∀ q∈rs,q.1.length<=1048576) :
  Calls Tryz.prog 55 #[.slice (some ⟨gl,0,none⟩) (rs.length+2) (rs.length+2),.slice ca rs.length cc,va] w λe w'=>e=.returned (.bool true)∧∃ n,w'=w.drewN n:=by
 obtain ⟨aa,ac,rfl⟩:=ha.aB;have HA:=af ha;have HL:=af hL;have Us:=af hc;have HC:=af hC;obtain ⟨n,hn⟩:∃ n,rs.length=n:=⟨_,rfl⟩;have HN:=af hn;rw [hn] at HA hl ⊢;clear ha hL hc hC hn;go_enter Tryz.func55,Tryz.ntmps55;go_wp2_with fail;go_loopw [7] (λiv wr=>∃ (i q:Nat),i<=n+2∧iv=.int .i64 i∧wr=w.drewN q) (λiv _=>n+2 - (intOf iv).toNat)
 case atStart=>exact ⟨0,0,by omega,rfl,rfl⟩
 case round =>
  obtain ⟨i,q,hi,rfl,rfl⟩:=hrel;by_cases hlt:i<n+2
  ·have hlt2:(i:Int)<(n:Int)+2:=by omega
   have MH:=(uh HL).len;rw [uh HN] at MH;obtain ⟨g,hg⟩:∃ g,G[i]?=some g:=⟨_,f_ (by omega)⟩;obtain ⟨l0,l1,l2⟩:=(uh HL).row hg;have hgb:=((uh HL).list i g hg).1;by_cases hin:i<n
   ·obtain ⟨gr,or',ua,un,uc,er,r0,hints,r1,r2⟩:=(uh HA).get (i:=i) (by rw [uh HN];exact hin);cases er;obtain ⟨gc,rfl,c0⟩:=(uh Us).get hg (by rw [uh HN];exact hin);obtain ⟨⟨C,K,E⟩,hq⟩:∃ q,rs.getD i ([],0,false)=q:=⟨_,rfl⟩;have hmem:=(mf (by rw [uh HN];exact hin) hq).2;have R8:=uh HC _ hmem;have hun:un=C.length:=by
     rw [hq] at hints;obtain ⟨ad,cap,e,_⟩:=id hints;cases e;rfl
    unfold pV at l0 l1 l2;unfold sJ at hgb;unfold R7 at c0;rw [h_ (by rw [uh HN];exact hin),hq] at l0 l1 l2 hgb;rw [hq] at hints r1 r2 c0;simp only at hints r1 r2 c0 l0 l1 l2 hgb R8;have HS:=af (λk=>BO (sI C (.slice (some ⟨g,0,none⟩) C.length (C.length+2)) (.slice ua un uc) (w.drewN k) (wZ hgb _) hints (by unfold maxLen;omega)));have Lg:=af (λk=>BO (Po C (.slice ua un uc) g (w.drewN k) hints hgb (by omega)));rw [<-hun] at HS Lg c0 l0;clear hq hmem hints hgb hg MH hun;go_wp2;go_quiet ((go_at_call 43;exact Gt (uh HS _)));go_wp2;go_quiet ((go_at_call 42;exact Gt (uh Lg _)));go_wp2;go_quiet (fail);go_wp2;go_roundw
    case rel=>exact ⟨i+1,_,by omega,by go_num,rfl⟩
    case measure=>simp [intOf];omega
   ·unfold pV at l0 l1 l2;unfold sJ at hgb;rw [g_ (by rw [uh HN];exact hin)] at l0 l1 l2 hgb;simp only at l0 l1 l2;have x0:w.cell? ⟨g,0,none⟩=some (.int .i64 1099511627783):=by rw [cellsOf hgb];rfl
    clear hgb hg MH;go_wp2;go_roundw
    case rel=>exact ⟨i+1,_,by omega,by go_num,rfl⟩
    case measure=>simp [intOf];omega
  ·go_wp2;go_ret;exact ⟨rfl,_,rfl⟩
end
end Go.Proofs.YtfaljekgpnbmiaaGreat

namespace Go.Proofs.YtfaljekgpnbmiaaGreat
open Go.RowKit
section
variable {P:Program} (w:World)
theorem BP (t ty:TypeId) (base:Nat) (e:TypeId) (i:TypeInfo) (z:Value) (size bytes:Nat) (ht:P.underlying t=some (.slice e)) (hi:P.info? e=some i) (hz:i.zero=some z)
  (hsize:i.size=size) (hby:i.bytes=bytes) (hzs:z.cells.size=size) (hsz:0<size)
  (v:Value) (n:Nat) (xs:List Value) (hown:w.ownsRow base e size v n xs)
  (ad:Addr) (m c:Nat) (news:List Value) (hl:news.length=m*size) (hnews:∀ j u,news[j]?=some u->w.cell? (ad.add j)=some u) (h1:∀ u∈news,u.oneCell'=true)
  (hm:0<m) (h63:n+m<=maxLen) (hbytes:(n+m)*bytes<=140737488355328) (hbase:base<=w.heap.size) :
  ∃ g cap w',(Builtin.append_ #[t,t] ty #[v,.slice (some ad) m c]).run P w=.ok (.slice (some ⟨g,0,none⟩) (n+m) cap) w' ∧
   w'.ownsRow base e size (.slice (some ⟨g,0,none⟩) (n+m) cap) (n+m) (xs++news)∧((v=.slice (some ⟨g,0,none⟩) n cap∧w.grownBy w' (some g))∨(g=w.heap.size∧w.grownBy w' none))∧g<w'.heap.size:=by
 obtain ⟨g,cap,w',hr,h2,h3,h4,h5⟩:=run_append_lies (P:=P) w t ty base e i z size bytes ht hi hz hsize hby hzs hsz v n xs hown ad m c news hl hnews h1 hm h63 hbytes hbase _ rfl;refine ⟨g,cap,w',hr,h2,?_,h5⟩;subst hsize;subst hby;have hown0:=hown;rcases hown.2 with ⟨rfl,rfl⟩|⟨g0,cap0,cur,rfl,hbg,hg,hnc,hcm,hcs,htake⟩
 ·right
  rcases h4 with h4|h4
  ·simp [Value.ownBlock] at h4
  ·exact ⟨h4,h3⟩
 ·by_cases hroom:n+m<=cap0
  ·have hfit:n*i.size+news.length<=cur.size:=by rw [hl,hcs,<-abC];exact ach _ hroom
   have hr2:=run_append_room (P:=P) w t ty e i ht hi g0 n cap0 cur hg ad m c news hl hnews h1 hroom hfit;rw [hr2] at hr;injection hr with hr _;injection hr with hr _ hc;injection hr with hr;injection hr with hr _ _;subst hr;subst hc;exact .inl ⟨rfl,h3⟩
  ·right
   have holds:∀ j u,xs[j]?=some u->w.cell? ((⟨g0,0,none⟩:Addr).add j)=some u:=hown0.cells (g:=g0) rfl;have hr2:=run_append_grow (P:=P) w t ty e i z ht hi hz ⟨g0,0,none⟩ n cap0 xs hown0.1 holds ad m c news hl hnews (by omega) (by simp only [maxLen] at h63;omega) (growslice_fits (by simp only [maxLen] at h63;omega) hbytes);rw [hr2] at hr;injection hr with hr hw;have e1:w.heap.size=g:=by injection hr with hr _ _;injection hr with hr;injection hr
   subst e1;subst hw;exact ⟨rfl,rfl,rfl,rfl,by simp,λk hk _=>Below.heap_alloc w.drew _ k hk⟩
theorem yo {ops:Array Oper} {rest:List Oper} {o:Oper} {a:Act} {Q:Exit->Act->World->Prop} (hgd:o.guard=none) (s x:Operand) (t:TypeId)
  (ho:o.op=.call { callee:=.builtin .append,args:=#[s,x],argTypes:=#[t,t] })
  (base:Nat) (e:TypeId) (i:TypeInfo) (z:Value) (size bytes:Nat) (ht:P.underlying t=some (.slice e)) (hi:P.info? e=some i) (hz:i.zero=some z)
  (hsize:i.size=size) (hby:i.bytes=bytes) (hzs:z.cells.size=size) (hsz:0<size)
  (v:Value) (n:Nat) (xs:List Value) (hs:a.eval s=v) (hown:w.ownsRow base e size v n xs)
  (ad:Addr) (m c:Nat) (news:List Value) (hx:a.eval x=.slice (some ad) m c) (hl:news.length=m*size) (hnews:∀ j u,news[j]?=some u->w.cell? (ad.add j)=some u) (h1:∀ u∈news,u.oneCell'=true)
  (hm:0<m) (h63:n+m<=maxLen) (hbytes:(n+m)*bytes<=140737488355328) (hbase:base<=w.heap.size)
  (h:∀ g cap w',w'.ownsRow base e size (.slice (some ⟨g,0,none⟩) (n+m) cap) (n+m) (xs++news)->((v=.slice (some ⟨g,0,none⟩) n cap∧w.grownBy w' (some g))∨(g=w.heap.size∧w.grownBy w' none))->g<w'.heap.size->wpList P ops Q rest (a.put o.dst (.slice (some ⟨g,0,none⟩) (n+m) cap)) w'):wpList P ops Q (o::rest) a w:=by
 refine wpList_plain hgd λ_ hK=>?_;obtain ⟨g,cap,w',hr,h2,h3,h4⟩:=BP (P:=P) w t o.type base e i z size bytes ht hi hz hsize hby hzs hsz v n xs hown ad m c news hl hnews h1 hm h63 hbytes hbase;unfold Oper.wp execOp;simp only [ho,resolve,invoke,builtin,Sem.run_bind,Sem.run_pure,ac8,List.map_toArray,List.map_cons,List.map_nil,hs,hx,hr];exact hK _ _ (h g cap w' h2 h3 h4)
end
def jT (g:Option Nat) (w w':World):Prop:=∀ (k:Nat) (cur:Array Value),w.heap[k]?=some (Obj.cells cur 3 (0,0))->g≠some k->w'.heap[k]?=w.heap[k]?
theorem jT.trans {g:Option Nat} {w w' w2:World} (h:jT g w w') (h2:jT g w' w2):jT g w w2:=λk cur hk hne=>by
 have e1:=h k cur hk hne;rw [h2 k cur (e1.trans hk) hne,e1]
theorem jT.of {g:Option Nat} {w w':World} (h:aA 3 w w'):jT g w w':=λk cur hk _=>h k cur hk
theorem jT.setCell (w:World) (g o:Nat) (u:Value):jT (some g) w (w.setCell ⟨g,o,none⟩ u):=λk _ _ hne=>l_ _ _ _ _ (λh=>hne (by rw [h]))
theorem jT.grown {w w':World} {g:Option Nat} (h:w.grownBy w' g):jT g w w':=λk _ hk hne=>h.block k (z_ hk) (λh=>hne h.symm)
theorem Jo {B:Nat} {w w':World} {v:Value} {l:List Int} {g:Option Nat} (h:aI B w v l) (hg:∀ k,v.ownBlock=some k->g≠some k) (hk:jT g w w'):aI B w' v l:=by
 refine ⟨h.1,?_⟩;rcases h.2 with hn|⟨k,cap,cur,rfl,hb,hgg,rest⟩
 ·exact .inl hn
 ·exact .inr ⟨k,cap,cur,rfl,hb,by rw [hk k cur hgg (hg k rfl)];exact hgg,rest⟩
theorem Jp {B:Nat} {w:World} {g n cap:Nat} {l:List Int} (h:aI B w (.slice (some ⟨g,0,none⟩) n cap) l) (k:Nat) (_:k<l.length) (x:Int):aI B (w.setCell ⟨g,k,none⟩ (.int .i64 x)) (.slice (some ⟨g,0,none⟩) n cap) (l.set k x):=by
 refine ⟨by have:=h.1;simp at this ⊢,?_⟩;rcases h.2 with ⟨hn,_⟩|⟨g',cap',cur,he,hb,hgg,hle,hm,hcs,htk⟩
 ·cases hn
 ·injection he with e1 e2 e3;injection e1 with e1;injection e1 with e1 _ _;subst e1;subst e3;refine .inr ⟨g,cap,_,by rw [abM,e2],hb,j_ w g k _ _ _ hgg,by rw [abM];exact hle,hm,by simpa using hcs,?_⟩;rw [abM,List.map_set,<-htk];simp [List.take_set,bG]
def bU (bu:List (Value × Int)):List Value:=(bu.map λe=>[e.1,bG e.2]).flatten
structure dZ (rv qv:Value) (B:Nat) (w:World) (b N:Nat) (bu:List (Value × Int)) (v:Value):Prop where
 base:B<=b
 blk:w.heap[b]?=some (.cells #[.int .i64 N,v,rv,qv] 28 (0,0))
 own:w.ownsRow B 78 2 v bu.length (bU bu)
theorem dZ.bX {rv qv:Value} {B:Nat} {w w':World} {b N:Nat} {bu:List (Value × Int)} {v:Value} (h:dZ rv qv B w b N bu v) (h1:aA 28 w w') (h2:aA 78 w w'):dZ rv qv B w' b N bu v :=
 ⟨h.base,by rw [h1 b _ h.blk];exact h.blk,aW h.own h2⟩
theorem dZ.mark {rv qv:Value} {B:Nat} {w:World} {b N:Nat} {bu:List (Value × Int)} {v:Value} (h:dZ rv qv B w b N bu v):dZ rv qv B (w.setCell ⟨b,0,none⟩ (.int .i64 (N+1:Int))) b (N+1) bu v :=
 ⟨h.base,by rw [j_ w b 0 _ _ _ h.blk];rfl,aW h.own (.setCell h.blk (by decide) _ _)⟩
def kS (w:World) (e:Value × Int):Prop:=∃ k,aI 0 w e.1 (List.replicate k e.2)
theorem kS.bX {w w':World} {e:Value × Int} {g:Option Nat} (h:kS w e) (hg:∀ k,e.1.ownBlock=some k->g≠some k) (hk:jT g w w'):kS w' e:=by
 obtain ⟨k,h⟩:=h;exact ⟨k,Jo h hg hk⟩
theorem kS.ed {w w':World} {e:Value × Int} (h:kS w e) (hk:aA 3 w w'):kS w' e:=by
 obtain ⟨k,h⟩:=h;exact ⟨k,aW h hk⟩
theorem kS.lt {w:World} {e:Value × Int} (h:kS w e) {k:Nat} (hk:e.1.ownBlock=some k):k<w.heap.size:=by
 obtain ⟨m,h⟩:=h;rcases h.2 with ⟨hn,_⟩|⟨g,cap,cur,he,hb,hgg,_⟩
 ·rw [hn] at hk;simp [Value.ownBlock] at hk
 ·rw [he] at hk;simp [Value.ownBlock] at hk;subst hk;exact z_ hgg
theorem PE {B:Nat} {w:World} {k dM fE:Nat} {n:Int} (h:aI B w (.slice (some ⟨k,0,none⟩) dM fE) (List.replicate dM n)) (m:Nat) (hm:m<=dM):kS w (.slice (some ⟨k,0,none⟩) m fE,n):=by
 refine ⟨m,by simp,?_⟩;rcases h.2 with ⟨hn,_⟩|⟨g',cap',cur,he,hb,hgg,hle,hmx,hcs,htk⟩
 ·cases hn
 ·injection he with e1 e2 e3;injection e1 with e1;injection e1 with e1 _ _;subst e1;subst e3;refine .inr ⟨k,fE,cur,by simp,abo _,hgg,by simp at hle ⊢;omega,hmx,hcs,?_⟩;have:=congrArg (List.take m) htk;simp only [List.take_take,abE,Nat.mul_one] at this ⊢;rw [abu hm] at this;rw [this];simp [abu hm]
def MJ (w:World) (nO:Option Addr) (dM fE:Nat) (n:Int) (e:Value × Int):Prop :=
 (e.2=n∧∃ k m,nO=some ⟨k,0,none⟩∧e.1=.slice (some ⟨k,0,none⟩) m fE∧m<=dM)∨(kS w e∧∀ a,nO=some a->e.1.ownBlock≠some a.block)
theorem MJ.ok {B:Nat} {w:World} {nO:Option Addr} {dM fE:Nat} {n:Int} {e:Value × Int} (h:MJ w nO dM fE n e) (hg:aI B w (.slice nO dM fE) (List.replicate dM n)):kS w e:=by
 rcases h with ⟨rfl,k,m,rfl,he,hm⟩|⟨h,_⟩
 ·obtain ⟨e1,e2⟩:=e;simp only at he;subst he;exact PE hg m hm
 ·exact h
theorem pW (bu:List (Value × Int)) (L:Value) (n:Int):bU (bu++[(L,n)])=bU bu++[L,bG n]:=by simp [bU]
theorem dZ.add {rv qv:Value} {B:Nat} {w w2:World} {b N:Nat} {bu:List (Value × Int)} {v v':Value} (h:dZ rv qv B w b N bu v) (L:Value) (n:Int) (o:Obj) (hsz:B<=w.heap.size) (hg:(w.alloc o).grownBy w2 v.ownBlock) (ho:w2.ownsRow B 78 2 v' (bu.length+1) (bU bu++[L,bG n])) :
  dZ rv qv B (w2.setCell ⟨b,1,none⟩ v') b N (bu++[(L,n)]) v'∧(∀ e,78≠e->28≠e->aA e w (w2.setCell ⟨b,1,none⟩ v'))∧Below B w (w2.setCell ⟨b,1,none⟩ v')∧w2.heap[b]?=some (.cells #[.int .i64 N,v,rv,qv] 28 (0,0)):=by
 have h1:dZ rv qv B (w.alloc o) b N bu v:=h.bX (.alloc _ _ _) (.alloc _ _ _);have k1:aA 28 (w.alloc o) w2:=.grown h1.own hg (by decide);have hb:w2.heap[b]?=some (.cells #[.int .i64 N,v,rv,qv] 28 (0,0)):=by rw [k1 b _ h1.blk];exact h1.blk
 refine ⟨⟨h.base,by rw [j_ w2 b 1 _ _ _ hb];rfl,?_⟩,?_,?_,hb⟩
 ·have:=aW ho (.setCell hb (by decide) 1 v');rw [pW,C_];exact this
 ·exact λe n1 n2=>((aA.alloc _ w o).trans (.grown h1.own hg n1)).trans (.setCell hb n2 1 v')
 ·exact (((n_ B w).alloc hsz o).grown hg (by simp;omega) (bT h1.own)).setCell (p:=⟨b,1,none⟩) h.base _
def Uu (w w2:World) (nO:Option Addr) (dM fE g cap:Nat):Prop :=
 (Value.slice nO dM fE=.slice (some ⟨g,0,none⟩) dM cap∧w.grownBy w2 (some g))∨(g=w.heap.size∧w.grownBy w2 none)
theorem MJ.grow {B:Nat} {w w2:World} {nO:Option Addr} {dM fE g cap:Nat} {n:Int} {e:Value × Int} (h:MJ w nO dM fE n e) (hg:aI B w (.slice nO dM fE) (List.replicate dM n)) (o:Obj) (ht:Uu (w.alloc o) w2 nO dM fE g cap):MJ w2 (some ⟨g,0,none⟩) (dM+1) cap n e:=by
 rcases ht with ⟨he,hgr⟩|⟨rfl,hgr⟩
 ·injection he with e1 _ e3;subst e1;subst e3;rcases h with ⟨h1,k,m,hk,h2,hm⟩|⟨h1,h2⟩
  ·injection hk with hk;injection hk with hk _ _;subst hk;exact .inl ⟨h1,g,m,rfl,h2,by omega⟩
  ·refine .inr ⟨(h1.ed (.alloc _ _ o)).bX (g:=some g) (λk hk hc=>?_) (.grown hgr),λa ha=>h2 a ha⟩;injection hc with hc;subst hc;exact h2 _ rfl hk
 ·have h1:=h.ok hg;refine .inr ⟨(h1.ed (.alloc _ _ o)).bX (g:=none) (λk _ hc=>by cases hc) (.grown hgr),λa ha=>?_⟩;injection ha with ha;subst ha;intro hc;have:=h1.lt hc;simp at this;omega
theorem jT.two {w0 w w2:World} {vb:Option Nat} {nO:Option Addr} {dM fE g cap:Nat} (h:jT vb w0 w) (hsz:w0.heap.size<=w.heap.size) (o:Obj) (ht:Uu (w.alloc o) w2 nO dM fE g cap) (hn:∀ a,nO=some a->vb=some a.block∨w0.heap.size<=a.block):jT vb w0 w2∧(vb=some g∨w0.heap.size<=g):=by
 rcases ht with ⟨he,hgr⟩|⟨rfl,hgr⟩
 ·injection he with e1 _ e3;subst e1;have hn':=hn _ rfl;refine ⟨λk cur hk hne=>?_,hn'⟩;have hlt:=z_ hk;rw [hgr.block k (by simp;omega) (λhc=>?_),Below.heap_alloc _ _ _ (by omega),h k cur hk hne];injection hc with hc;subst hc;rcases hn' with hn' | hn'
  ·exact hne hn'
  ·simp only at hn';omega
 ·refine ⟨λk cur hk hne=>?_,.inr (by simp;omega)⟩;have hlt:=z_ hk;rw [hgr.block k (by simp;omega) (λhc=>by cases hc),Below.heap_alloc _ _ _ (by omega),h k cur hk hne]
theorem Uu.below {B:Nat} {w w2:World} {nO:Option Addr} {dM fE g cap:Nat} {l:List Int} {o:Obj} (ht:Uu (w.alloc o) w2 nO dM fE g cap) (hg:aI B w (.slice nO dM fE) l) (hsz:B<=w.heap.size):Below B w w2:=by
 rcases ht with ⟨he,hgr⟩|⟨rfl,hgr⟩
 ·rw [he] at hg;exact ((n_ B w).alloc hsz o).grown hgr (by simp;omega) (bT hg)
 ·exact ((n_ B w).alloc hsz o).grown hgr (by simp;omega) (by intro k hk;cases hk)
theorem Uu.bX {B:Nat} {w w2:World} {nO:Option Addr} {dM fE g cap:Nat} {l:List Int} {o:Obj} {e:TypeId} (ht:Uu (w.alloc o) w2 nO dM fE g cap) (hg:aI B w (.slice nO dM fE) l) (hne:3≠e):aA e w w2:=by
 rcases ht with ⟨he,hgr⟩|⟨rfl,hgr⟩
 ·rw [he] at hg;have h1:=aW hg (.alloc _ w o);exact (aA.alloc e w o).trans (.grown h1 hgr hne)
 ·exact (aA.alloc e w o).trans (λk cur hk=>hgr.block k (z_ hk) (λhc=>by cases hc))
theorem Tryz.VA:(Tryz.prog.info? 78).map (λi=>(i.zero,i.size,i.bytes))=some (some (.agg #[.slice none 0 0,.int .i64 0]),2,32):=by kernel_rfl
structure BQ (rv qv:Value) (B:Nat) (w0 w:World) (b N:Nat) (bu new:List (Value × Int)) (v1:Value) (vb:Option Nat) (nO:Option Addr) (dM fE:Nat) (n:Int):Prop where
 held:dZ rv qv B w b N (bu++new) v1
 own:aI B w (.slice nO dM fE) (List.replicate dM n)
 SE:∀ e∈bu++new,MJ w nO dM fE n e
 news:∀ e∈new,∀ k,e.1.ownBlock=some k->vb=some k∨w0.heap.size<=k
 VB:∀ a,nO=some a->vb=some a.block∨w0.heap.size<=a.block
 bX:jT vb w0 w
 below:Below B w0 w
 other:∀ e,3≠e->78≠e->28≠e->aA e w0 w
theorem BQ.add {rv qv:Value} {B:Nat} {w0 w w2:World} {b N:Nat} {bu new:List (Value × Int)} {v1 v':Value} {vb:Option Nat} {nO:Option Addr} {dM fE:Nat} {n:Int} (h:BQ rv qv B w0 w b N bu new v1 vb nO dM fE n) (hsz:B<=w.heap.size) (o:Obj) (hg:(w.alloc o).grownBy w2 v1.ownBlock) (ho:w2.ownsRow B 78 2 v' ((bu++new).length+1) (bU (bu++new)++[.slice nO dM fE,bG n])) :
  BQ rv qv B w0 (w2.setCell ⟨b,1,none⟩ v') b N bu (new++[(.slice nO dM fE,n)]) v' vb nO dM fE n∧w2.heap[b]?=some (.cells #[.int .i64 N,v1,rv,qv] 28 (0,0)):=by
 obtain ⟨h1,h2',h3,h4⟩:=h.held.add _ n o hsz hg ho;have h2:=h2' 3 (by decide) (by decide);have hown:=aW h.own h2;refine ⟨⟨by rw [<-abG];exact h1,hown,?_,?_,h.VB,h.bX.trans (.of h2),h.below.trans h3,λe n1 n2 n3=>(h.other e n1 n2 n3).trans (h2' e n2 n3)⟩,h4⟩
 ·intro e he;rw [<-abG] at he;rcases F_.1 he with he|he
  ·rcases h.SE e he with hc | ⟨hc,hd⟩
   ·exact .inl hc
   ·exact .inr ⟨hc.ed h2,hd⟩
  ·rw [I_] at he;subst he;rcases h.own.2 with ⟨hn,_⟩|⟨k,cap,cur,hv,_⟩
   ·injection hn with e1 e2 e3;subst e1;subst e2;subst e3;exact .inr ⟨⟨0,abz _ 0 _ 1⟩,λa ha=>by cases ha⟩
   ·injection hv with e1 e2 e3;subst e1;exact .inl ⟨rfl,k,dM,rfl,rfl,d_ _⟩
 ·intro e he k hk;rcases F_.1 he with he|he
  ·exact h.news e he k hk
  ·rw [I_] at he;subst he;cases nO with
   | none=>simp [Value.ownBlock] at hk
   | some a=>simp [Value.ownBlock] at hk;subst hk;exact h.VB a rfl
theorem BQ.grow {rv qv:Value} {B:Nat} {w0 w w2:World} {b N:Nat} {bu new:List (Value × Int)} {v1:Value} {vb:Option Nat} {nO:Option Addr} {dM fE g cap:Nat} {n:Int} (h:BQ rv qv B w0 w b N bu new v1 vb nO dM fE n) (hsz:B<=w.heap.size) (o:Obj) (ht:Uu (w.alloc o) w2 nO dM fE g cap) (ho:w2.ownsRow B 3 1 (.slice (some ⟨g,0,none⟩) (dM+1) cap) (dM+1) ((List.replicate dM n).map bG++[bG n])) :
  BQ rv qv B w0 w2 b N bu new v1 vb (some ⟨g,0,none⟩) (dM+1) cap n:=by
 have hk:=h.bX.two h.below.size o ht h.VB;refine ⟨h.held.bX (ht.bX h.own (by decide)) (ht.bX h.own (by decide)),?_,λe he=>(h.SE e he).grow h.own o ht,h.news,?_,hk.1,h.below.trans (ht.below h.own hsz),λe n1 n2 n3=>(h.other e n1 n2 n3).trans (ht.bX h.own n1)⟩
 ·have e:(List.replicate (dM+1) n).map bG=(List.replicate dM n).map bG++[bG n]:=by rw [List.replicate_succ'];simp
  unfold aI;rw [e,abE];exact ho
 ·intro a ha;injection ha with ha;subst ha;exact hk.2
end Go.Proofs.YtfaljekgpnbmiaaGreat
