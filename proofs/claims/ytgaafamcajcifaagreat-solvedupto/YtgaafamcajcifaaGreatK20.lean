/- Joined: XSim3 XSim4 XRowIn. -/
import Derived.Test.YtgaafamcajcifaaGreatK07
import Derived.Test.YtgaafamcajcifaaGreatK19
set_option linter.unusedVariables false
set_option linter.unusedSimpArgs false
set_option maxRecDepth 100000
namespace Go.Proofs.YtgaafamcajcifaaGreat
open Go.RowKit Go.Sort
theorem Tryz.zi:(Tryz.prog.info? 111).map (λi=>(i.zero,i.size,i.bytes))=some (some (.agg #[.int .i64 0,.slice none 0 0]),2,32):=by kernel_rfl
def jH (u:Nat->Value) (k:Nat):List Value:=(List.range k).flatMap λi:Nat=>[Value.int .i64 (i:Int),u i]
theorem qB (u:Nat->Value) (k:Nat):jH u (k+1)=jH u k++[.int .i64 k,u k]:=by simp [jH,abD]
theorem D7 (u:Nat->Value):∀ k i,i<k->(jH u k)[i*2]?=some (.int .i64 i)∧(jH u k)[i*2+1]?=some (u i):=by
 have hl:∀ k,(jH u k).length=k*2:=by
  intro k
  induction k with
  | zero=>rfl
  | succ k ih=>rw [qB,C_,ih];simp;omega
 intro k
 induction k with
 | zero=>intro i hi;omega
 | succ k ih =>
  intro i hi;rw [qB];by_cases h:i<k
  ·rw [aah (by rw [hl];omega),aah (by rw [hl];omega)];exact ih i h
  ·have e:i=k:=by omega
   subst e;rw [R_ (by rw [hl];omega),R_ (by rw [hl];omega),hl];simp
theorem NG (l:List Int) (n:Nat) (h:l.length=n+1):(List.range (n+1)).map (λk=>l.getD k 0)=l:=by
 apply List.ext_getElem
 ·simp [h]
 ·intro i h1 h2;simp [a_,f_ h2]
set_option maxHeartbeats 4000000 in
theorem Su (sums:List (List Int)) (n:Nat) (vs:Value) (w:World) (h:aM (λ_=>True) w vs sums) (hn0:0<n) (hn:n<=100) (hm0:0<sums.length) (hm:sums.length<=1000) (hlen:∀ l∈sums,l.length=n+1) (K:Nat) (hK:2*K+1<=1500000000000)
  (hall:∀ t',Fair (Pl.gH λi k=>(sums.getD i []).getD k 0) n (Pl.gU n sums.length) sums.length 0 t'->qg K t') (hT:Pl.gJ (Pl.gH λi k=>(sums.getD i []).getD k 0) n sums.length) :
  Calls Tryz.prog 49 #[vs,.int .i64 n] w λe w'=>∃ (b gl gc:Nat) (t':Pl.aR),e=.returned (.pointer (some ⟨b,0,none⟩))∧w.heap.size<=b∧w.heap.size<=gl∧w.heap.size<=gc∧aV (·≠gc) w' b gl gc t'∧ae w w'∧Good (Pl.gH λi k=>(sums.getD i []).getD k 0) n (Pl.gU n sums.length) sums.length t':=by
 obtain ⟨i0,hi0,hz0,hz1,hz2⟩:=U_ Tryz.zi;obtain ⟨i1,hi1,hy0,hy1,hy2⟩:=U_ Tryz.jL;obtain ⟨gs,os,Wn,ZN,rfl,Tf,hrows⟩:=h.get hm0;have HRW:=af hrows;clear h hrows;go_enter Tryz.func49,Tryz.ntmps49;go_wp2_with fail;refine (fM (λ_=>True) 1 _ (λ_ _=>trivial) (by decide) (by decide)).mono ?_;rintro e w1 ⟨v1,rfl,hv1,hw1⟩;have ev:=hv1.fits (by decide);subst ev;have dN:Hid (ae w w1):=hw1;clear hv1 hw1;go_wp2_with fail;have HU:∃ u:Nat->Value,∀ i,(hi:i<sums.length)->w.cell? ⟨gs,os+i,none⟩=some (u i)∧aD (·<w.heap.size) w (u i) sums[i]:=by
  refine ⟨λi=>if h:i<sums.length then (uh HRW i h).choose else undef,λi hi=>?_⟩;simp only [dif_pos hi];exact ⟨(uh HRW i hi).choose_spec.1,(uh HRW i hi).choose_spec.2.mono (λb hb _=>hb)⟩
 obtain ⟨u,hu⟩:=HU;have HU:=af hu;have HGt:Hid (ae w (w1.alloc (.cells #[.slice none 0 0,.slice none 0 0,.int .i64 1,.slice none 0 0] 109))):=(uh dN).trans (ae.alloc _ _);have ZM:Hid ((w1.alloc (.cells #[.slice none 0 0,.slice none 0 0,.int .i64 1,.slice none 0 0] 109)).heap[w1.heap.size]?=some (.cells #[.slice none 0 0,.slice none 0 0,.int .i64 1,.slice none 0 0] 109)):=aG _ _;have hwb:w.heap.size<=w1.heap.size:=(uh dN).size;have hbs:(w1.alloc (.cells #[.slice none 0 0,.slice none 0 0,.int .i64 1,.slice none 0 0] 109)).heap.size=w1.heap.size+1:=H_ _ _;generalize hWt:w1.alloc (.cells #[.slice none 0 0,.slice none 0 0,.int .i64 1,.slice none 0 0] 109)=Wt at *
 generalize w1.heap.size=b at *
 clear hWt HRW hu dN;go_loopg [6] sums.length (λk iv wr=>∃ (i:Nat) (vl:Value),iv=.int .i64 i∧i+k=sums.length∧Hid (wr.heap[b]?=some (.cells #[vl,.slice none 0 0,.int .i64 1,.slice none 0 0] 109 (0,0))∧wr.ownsRow (b+1) 111 2 vl i (jH u i)∧ae w wr))
 case atStart=>exact ⟨0,.slice none 0 0,rfl,by omega,uh ZM,⟨rfl,.inl ⟨rfl,rfl⟩⟩,uh HGt⟩
 case round =>
  obtain ⟨i,vl,rfl,hik,HR⟩:=hrel;by_cases hlt:i<sums.length
  ·have hsh:aZ vl:=by
    rcases (uh HR).2.1.2 with ⟨e,_⟩|⟨g,cap,cur,e,_⟩
    ·exact ⟨_,_,_,e⟩
    ·exact ⟨_,_,_,e⟩
   obtain ⟨la,ln,lc,rfl⟩:=hsh;obtain ⟨kui,hui⟩:=uh HU i hlt;obtain ⟨ua,un,uc,eu⟩:=hui.aB;rw [eu] at kui;have HEU:=af eu;have HOW:Hid (∀ o,(wr.drew.alloc o).ownsRow (b+1) 111 2 (.slice la ln lc) i (jH u i)):=λo=>((uh HR).2.1.drew).alloc o;have hc0:wr.cell? ⟨b,0,none⟩=some (.slice la ln lc):=by rw [cellsOf (uh HR).1];rfl
   have hf0:wr.frozen? ⟨b,0,none⟩=false:=aH (uh HR).1 0;have WY:=(uh HR).2.2.cell kui;have hbw:b<wr.heap.size:=z_ (uh HR).1;have ale:gs<w.heap.size:=z_ Tf;have hne:∀ k,k<=b->some k≠(Value.slice la ln lc).ownBlock:=λk hk e=>by have:=bR (uh HR).2.1 k e.symm;omega
   have HK:Hid (∀ o w2,(wr.drew.alloc o).grownBy w2 (Value.slice la ln lc).ownBlock->(w2.cell? ⟨b,0,none⟩=some (.slice la ln lc)∧w2.cell? ⟨gs,os+i,none⟩=some (.slice ua un uc))∧w2.heap[b]?=wr.heap[b]?∧ae w w2):=λo w2 hg=>by
    have hG:ae wr (wr.drew.alloc o):=ae.trans (ae.draw wr) (ae.alloc _ o);have h1:∀ k,k<=b->w2.heap[k]?=wr.heap[k]?:=λk hk=>(hg.block k (by have:=hG.size;omega) (hne k hk)).trans (Below.block hG k (by omega));refine ⟨⟨(World.cell?_of_block (h1 b (d_ _))).trans hc0,(World.cell?_of_block (h1 gs (by omega))).trans WY⟩,h1 b (d_ _),?_⟩;exact Below.grown (ae.trans (uh HR).2.2 hG) hg (by have:=(ae.trans (uh HR).2.2 hG).size;omega) (λk hk=>by have:=bR (uh HR).2.1 k hk;omega)
   clear eu kui hui;go_wp2_with fail
   go_region_law ((refine step_append_lies _ (by rfl) _ _ 107 (by rfl) (b+1) 111 i0 (.agg #[.int .i64 0,.slice none 0 0]) 2 32 Tryz.underlying107 hi0 hz0 hz1 hz2 rfl (by decide) _ i (jH u i) (by rfl) (uh HOW _) ⟨_,0,none⟩ 1 1 [.int .i64 i,.slice ua un uc] (by rfl) rfl (λj u hu=>World.news_of_block (aax _ _) j u hu) (by simp [Value.oneCell']) (by decide) (by unfold maxLen;omega) (by omega) (by simp;omega) _ rfl ?_;intro g cap w2 hown1 hgrow hat hlt2;have hf2:w2.frozen? ⟨b,0,none⟩=false:=aH ((uh HK _ _ hgrow).2.1.trans (uh HR).1) 0;have hc2:=(uh HK _ _ hgrow).1.1))
   all_goals
    have hk:=(uh HK _ _ hgrow);have hf2:w2.frozen? ⟨b,0,none⟩=false:=aH (hk.2.1.trans (uh HR).1) 0;have hc2:=hk.1.1;have HB2:Hid ((w2.setCell ⟨b,0,none⟩ (.slice (some ⟨g,0,none⟩) (i+1) cap)).heap[b]?=some (.cells #[.slice (some ⟨g,0,none⟩) (i+1) cap,.slice none 0 0,.int .i64 1,.slice none 0 0] 109 (0,0))):=j_ w2 b 0 _ _ _ (hk.2.1.trans (uh HR).1);have iT:Hid ((w2.setCell ⟨b,0,none⟩ (.slice (some ⟨g,0,none⟩) (i+1) cap)).ownsRow (b+1) 111 2 (.slice (some ⟨g,0,none⟩) (i+1) cap) (i+1) (jH u (i+1))):=by
     unfold Hid;rw [qB,uh HEU];exact ownsRow_setCell_below hown1 (by show b<b+1;omega) _
    have HG2:Hid (ae w (w2.setCell ⟨b,0,none⟩ (.slice (some ⟨g,0,none⟩) (i+1) cap))):=B_ (p:=⟨b,0,none⟩) hk.2.2 hwb _;clear hown1 hgrow hat hlt2 hk HK HOW;go_wp2;go_roundg (gk - 1)
    case measure=>omega
    case rel=>exact ⟨i+1,_,by simp,by omega,uh HB2,uh iT,uh HG2⟩
  ·have him:i=sums.length:=by omega
   subst him;have HL:=af (uh HR);clear HR;go_wp2_with fail;obtain ⟨gl,fE,hsl,hgl,ad9⟩:=(uh HL).2.1.form hm0;subst hsl;rename World=>W1;have hb1:=(uh HL).1;have hg1:gl<W1.heap.size:=ad9;go_loopg [7] n (λk jv wr=>∃ (j:Nat) (vc:Value),jv=.int .i64 j∧j+k=n∧Hid (wr.heap[b]?=some (.cells #[.slice (some ⟨gl,0,none⟩) sums.length fE,vc,.int .i64 1,.slice none 0 0] 109 (0,0))∧wr.heap[gl]?=W1.heap[gl]?∧wr.ownsRow W1.heap.size 3 1 vc j (((List.range j).map λc:Nat=>-1 - (c:Int)).map bF)∧ae w wr∧W1.heap.size<=wr.heap.size))
   case atStart=>exact ⟨0,.slice none 0 0,rfl,by omega,(uh HL).1,rfl,⟨rfl,.inl ⟨rfl,rfl⟩⟩,(uh HL).2.2,d_ _⟩
   case round =>
    obtain ⟨j,vc,rfl,hjk,HC⟩:=hrel;have hwW:=(uh HC).2.2.2.2;have hbw:b<W1.heap.size:=by omega
    by_cases hjl:j<n
    ·have hsh:aZ vc:=by
      rcases (uh HC).2.2.1.2 with ⟨e,_⟩|⟨g,cap,cur,e,_⟩
      ·exact ⟨_,_,_,e⟩
      ·exact ⟨_,_,_,e⟩
     obtain ⟨la,ln,lc,rfl⟩:=hsh;have hc1:wr.cell? ⟨b,1,none⟩=some (.slice la ln lc):=by rw [cellsOf (uh HC).1];rfl
     have hal:=(uh HC).2.2.1.alloc (.cells #[.int .i64 (-1 - (j:Int))] 3);go_wp2_with (at_builtin;refine wpList_append_lies _ rfl _ _ 36 rfl W1.heap.size 3 i1 (.int .i64 0) 1 8 Tryz.underlying36 hi1 hy0 hy1 hy2 rfl (by decide) _ j _ rfl hal ⟨_,0,none⟩ 1 1 [.int .i64 (-1 - (j:Int))] rfl rfl ?d1 (by simp [Value.oneCell']) (by decide) ?d2 ?d3 ?d4 _ rfl ?_)
     case d1=>exact λj u hu=>World.news_of_block (aax _ _) j u hu
     case d2=>unfold maxLen;omega
     case d3=>omega
     case d4=>simp;omega
     ·intro g cap w2 hown1 hgrow hat hlt2;have hkb:∀ k,k<W1.heap.size->w2.heap[k]?=wr.heap[k]?:=λk hk=>by
       have hG:ae wr (wr.alloc (.cells #[.int .i64 (-1 - (j:Int))] 3)):=ae.alloc _ _;refine (hgrow.block k (by have:=hG.size;omega) (λe=>?_)).trans (Below.block hG k (by omega));have:=bR (uh HC).2.2.1 k e.symm;omega
      have hG2:ae w w2:=Below.grown (ae.trans (uh HC).2.2.2.1 (ae.alloc wr _)) hgrow (by have:=(ae.trans (uh HC).2.2.2.1 (ae.alloc wr (.cells #[.int .i64 (-1 - (j:Int))] 3))).size;omega) (λk hk=>by have:=bR (uh HC).2.2.1 k hk;omega);have hb2:=(hkb b hbw).trans (uh HC).1;have hf2:w2.frozen? ⟨b,1,none⟩=false:=aH hb2 1;have hc2:w2.cell? ⟨b,1,none⟩=some (.slice la ln lc):=by rw [cellsOf hb2];rfl
      have HB2:Hid ((w2.setCell ⟨b,1,none⟩ (.slice (some ⟨g,0,none⟩) (j+1) cap)).heap[b]?=some (.cells #[.slice (some ⟨gl,0,none⟩) sums.length fE,.slice (some ⟨g,0,none⟩) (j+1) cap,.int .i64 1,.slice none 0 0] 109 (0,0))):=j_ w2 b 1 _ _ _ hb2;have iT:Hid ((w2.setCell ⟨b,1,none⟩ (.slice (some ⟨g,0,none⟩) (j+1) cap)).ownsRow W1.heap.size 3 1 (.slice (some ⟨g,0,none⟩) (j+1) cap) (j+1) (((List.range (j+1)).map λc:Nat=>-1 - (c:Int)).map bF)):=by
       unfold Hid;rw [abD,aa4,aa4,List.map_map];exact ownsRow_setCell_below (a:=⟨b,1,none⟩) hown1 (by show b<W1.heap.size;omega) _
      have HL2:Hid ((w2.setCell ⟨b,1,none⟩ (.slice (some ⟨g,0,none⟩) (j+1) cap)).heap[gl]?=W1.heap[gl]?):=by
       unfold Hid;rw [l_ _ _ _ _ (show gl≠b by omega),hkb gl hg1];exact (uh HC).2.1
      have HG2:Hid (ae w (w2.setCell ⟨b,1,none⟩ (.slice (some ⟨g,0,none⟩) (j+1) cap))∧W1.heap.size<=(w2.setCell ⟨b,1,none⟩ (.slice (some ⟨g,0,none⟩) (j+1) cap)).heap.size):=⟨B_ (p:=⟨b,1,none⟩) hG2 hwb _,by simp;exact w_ (w_ hwW (by simp)) hgrow.size⟩;clear hown1 hgrow hat hlt2 hkb hG2 hb2 hal;go_wp2;go_roundg (gk - 1)
      case measure=>omega
      case rel=>exact ⟨j+1,_,by simp,by omega,uh HB2,uh HL2,uh iT,(uh HG2).1,(uh HG2).2⟩
    ·have hjn:j=n:=by omega
     subst hjn;obtain ⟨gc,jl,hsl,hgc,alf⟩:=(uh HC).2.2.1.form hn0;subst hsl;have HTO:Hid (aV (·≠gc) wr b gl gc (Pl.eP j sums.length λi k=>(sums.getD i []).getD k 0)):=by
      have hm1:=(Pl.kL j sums.length λi k=>(sums.getD i []).getD k 0).1;have hm2:=(Pl.kL j sums.length λi k=>(sums.getD i []).getD k 0).2;rcases (uh HL).2.1.2 with ⟨e,_⟩|⟨g,cap,cur,e,_,jS,hle,hmx,hsz,htk⟩
      ·cases e
      cases e;rcases (uh HC).2.2.1.2 with ⟨e,_⟩|⟨g,cap,aea,e,_,Lr,hle2,alh,hsz2,aeb⟩
      ·cases e
      cases e;refine ⟨⟨fE,jl,1,none,0,0,?_,.inl ⟨rfl,show (-4611686018427387904:Int)<1 by decide,show (1:Int)<4611686018427387904 by decide⟩,cur,(uh HC).2.1.trans jS,hsz,by rw [hm1];exact hle,hmx,λi hi=>?_⟩,⟨aea,Lr,λi hi=>?_⟩,λh=>h rfl⟩
      ·rw [hm1,hm2];exact (uh HC).1
      ·have hi':i<sums.length:=by rw [hm1] at hi;exact hi
       have hg:=D7 u sums.length i hi';rw [<-htk,aac (by omega),aac (by omega)] at hg;refine ⟨u i,?_,by simpa using hg.2,?_⟩
       ·have:=hg.1;simp only [Array.getElem?_toList] at this;rw [this];simp [Pl.eP]
       ·have hr:=((uh HU i hi').2.below (uh HC).2.2.2.1).mono (P':=(·≠gc)) (λk _ hk e=>by omega);have e2:(Pl.eP j sums.length λi k=>(sums.getD i []).getD k 0).lines[i].2=sums[i]:=by
         have e3:sums.getD i []=sums[i]:=by rw [a_,f_ hi'];rfl
         simp only [Pl.eP,List.getElem_map,List.getElem_range,e3];exact NG _ _ (hlen _ (aak hi'))
        rw [e2];exact hr
      ·have hi':i<j:=by rw [hm2] at hi;exact hi
       have h1:(((List.range j).map λc:Nat=>-1 - (c:Int)).map bF)[i]?=some (.int .i64 (-1 - (i:Int))):=by simp [hi',bF]
       rw [<-aeb,aac (by omega)] at h1;simp only [Array.getElem?_toList] at h1;rw [h1];simp [Pl.eP]
     have DW:=af (uh HC).2.2.2.1;have hsz1:=hwW;clear HC HL ZM HGt hb1;go_wp2_with fail;refine (NF (·≠gc) K b gl gc _ j sums.length _ sums.length _ wr (λk hk e=>by omega) (uh HTO) ⟨Pl.QF _ _ _,Pl.IE _ _ _,Pl.Kz _ _ _,λk hk=>by omega,(Pl.kL _ _ _).1⟩ hn hm hall hK (λi hi=>F_.2 (.inl (m_.2 ⟨i,V_.2 hi,rfl⟩))) hT).mono ?_;rintro e w3 ⟨t',rfl,hO3,Lv,hG3⟩;have HF:=af (x_ hO3 (x_ Lv hG3));clear hO3 Lv hG3;go_wp2;go_ret;refine ⟨b,gl,gc,t',rfl,hwb,by omega,by omega,(uh HF).1,?_,(uh HF).2.2⟩;exact aa2 (uh DW) ((uh HF).2.1.below (λk hk=>by rcases hk with h | h | h <;> omega) (uh DW).size)
section
attribute [local go_sem] bD
set_option maxHeartbeats 20000000 in
theorem Bb (P:Nat->Prop) (K b:Nat) (t:Pl.aR) (w:World) (hP:∀ b,w.heap.size<=b->P b) (h:rY P w b t) (hfit:mG t) (hlt:qg K t) (hK:2*K+1<=1500000000000) {c:Nat} (hc:c<t.aS.length) :
  Calls Tryz.prog 91 #[.pointer (some ⟨b,0,none⟩),.int .i64 c] w λe w'=>∃ x:Int,e=.returned (.int .i64 x)∧Pl.qC t c t.lines.length x∧Below w.heap.size w w':=by
 have HT:=af h;have uK:=af hfit;have lC:=af hlt;have hn1:=hfit.lines;have hn2:=hfit.aS;have hwc:IntKind.i64.wrap ((c:Int)+1)=(c:Int)+1:=by rw [aaA];omega
 clear h hfit hlt;go_enter Tryz.func91,Tryz.ntmps91;go_wp2_with fail;go_loopg [5,6] t.lines.length (λk bv jv wr=>∃ (j:Nat) (x:Int),jv=.int .i64 j∧bv=.int .i64 x∧j+k=t.lines.length∧Hid (Pl.qC t c j x∧Below w.heap.size w wr))
 case atStart=>exact ⟨0,-1,rfl,rfl,by omega,.inl ⟨rfl,λk hk=>by omega⟩,n_ _ _⟩
 case round =>
  obtain ⟨j,x,rfl,rfl,hjk,HR⟩:=hrel;obtain ⟨vl,kl,adl,aed,rfl,M7⟩:=((uh HT).below (uh HR).2).lines;by_cases hlt:j<t.lines.length
  ·obtain ⟨gl,ol,uj,rfl,kj,_⟩:=M7 j hlt;rw [oo t hlt] at kj;have HC:=af (jP P b t wr ((uh HT).below (uh HR).2) hn1 (uh uK).le hlt (j:=c+1) (by rw [(uh uK).row hlt];omega));have e1:((c+1:Nat):Int)=(c:Int)+1:=by omega
   rw [e1] at HC;go_wp2_with fail;refine (uh HC).mono ?_;rintro e w3 ⟨v3,rfl,hv3,hw3⟩;obtain ⟨fx,fa,fm,fc,rfl⟩:=hv3.shape;have Zn:=af (dC hv3);have kC:Hid (ae wr (w3.alloc (.cells #[.int .i64 fx,.slice fa fm fc] 78))):=ae.trans hw3 (ae.alloc _ _);have kl4:=(uh kC).cell kl;have Ia:=(uh kC).cell kj;clear hv3 hw3 kl kj HC;obtain ⟨nj,hnj⟩:∃ nj,t.name j=nj:=⟨_,rfl⟩;have HNJ:Hid (t.name j=nj):=hnj;rw [hnj] at Ia;clear hnj;obtain ⟨f0,f1,f2,f3⟩:=(uh Zn).cells;have jO:Hid (Below w.heap.size w (w3.alloc (.cells #[.int .i64 fx,.slice fa fm fc] 78))):=(uh HR).2.trans (aam (uh kC) (uh HR).2.size);by_cases h0:nj<0
   ·have d0:decide (nj<0)=true:=aaB h0;have HF:=af ((uh HR).1.skip (λhu=>by have:=hu.1;rw [uh HNJ] at this;omega));clear M7 HR;go_wp2;go_roundg (gk - 1)
    case measure=>omega
    case rel=>exact ⟨j+1,x,by simp,rfl,by omega,uh HF,uh jO⟩
   ·have d0:decide (nj<0)=false:=Z_ h0;go_wp2_with fail;refine (bY P _ _ _ (uh Zn).val).mono ?_;rintro e w4 ⟨rfl,hw4⟩;have aeg:Hid (ae (w3.alloc (.cells #[.int .i64 fx,.slice fa fm fc] 78)) w4):=hw4;have aeh:=af ((uh Zn).grow hw4);have jy:Hid (Below w.heap.size w w4):=(uh jO).trans (aam hw4 (uh jO).size);have kl5:=hw4.cell (aav kl4) |>.trans kl4;have kj5:=hw4.cell (aav Ia) |>.trans Ia;clear hw4 kl4 Ia f0 f1 f2 f3;obtain ⟨sg,hsg⟩:∃ sg,Int.sign (t.cell j (c+1))=sg:=⟨_,rfl⟩;rw [hsg];by_cases hneg:t.cell j (c+1)<0
    ·have hu:Pl.Rs t c j:=⟨by rw [uh HNJ];omega,hneg⟩;have d1:decide (0<=sg)=false:=by rw [<-hsg,E_ hneg];decide
     rcases (uh HR).1 with ⟨rfl,hno⟩|⟨k,hk1,rfl,hk3,hk4⟩
     ·have HF:=af ((uh HR).1.first hu);clear M7 hno hsg hu hneg;go_wp2_with fail;go_quiet (fail);go_wp2;go_roundg (gk - 1)
      case measure=>omega
      case rel=>exact ⟨j+1,j,by simp,rfl,by omega,uh HF,abb (uh jy) _⟩
     ·have hkl:k<t.lines.length:=by omega
      obtain ⟨yQ,ol',uk,e2,kk,_⟩:=M7 k hkl;cases e2;rw [oo t hkl] at kk;have kk5:=(ae.trans (uh kC) (uh aeg)).cell kk;obtain ⟨nk,hnk⟩:∃ nk,t.name k=nk:=⟨_,rfl⟩;have HNK:Hid (t.name k=nk):=hnk;rw [hnk] at kk5;have hkn:¬ ((k:Int)<0):=by omega
      have HCj:=af (λw1 (h:ae w4 w1)=>jP P b t w1 ((uh HT).below ((uh jy).trans (aam h (uh jy).size))) hn1 (uh uK).le hlt (j:=0) (by rw [(uh uK).row hlt];omega));have HCk:=af (λw1 (h:ae w4 w1)=>jP P b t w1 ((uh HT).below ((uh jy).trans (aam h (uh jy).size))) hn1 (uh uK).le hkl (j:=0) (by rw [(uh uK).row hkl];omega));have ZT:=af (λw1 (h:ae w4 w1)=>jP P b t w1 ((uh HT).below ((uh jy).trans (aam h (uh jy).size))) hn1 (uh uK).le hkl (j:=c+1) (by rw [(uh uK).row hkl];omega));rw [e1] at ZT;clear hnk kk M7 hsg e1;have HUJ:=af hu;have Xa:=af hneg;clear hu hneg hk3 hk4;go_wp2_with fail;refine (uh HCj w4 (ae.refl _)).mono ?_;rintro e w5 ⟨v5,rfl,hv5,pK⟩;have HV5:=af hv5;have Ws:Hid (ae w4 w5):=pK;clear hv5 pK;go_wp2_with fail;refine (uh ZT w5 (uh Ws)).mono ?_;rintro e w6 ⟨v6,rfl,hv6,uB⟩;have ZU:=af ((uh HV5).below uB);have wI:=af hv6;have Wu:Hid (ae w4 w6):=(uh Ws).trans uB;clear hv6 uB Ws;go_wp2_with fail;refine (eD P K (t.cell j 0) (t.cell k (c+1)) _ _ w6 (λb' hb'=>hP b' (by have:=(uh jy).size;have:=(uh Wu).size;omega)) (uh ZU) (uh wI) (by omega) ((uh lC).cell j 0 hlt (by omega)) ((uh lC).cell k _ hkl (by omega))).mono ?_;rintro e w7 ⟨v7,rfl,hv7,hw7⟩;obtain ⟨ax,aa,am,ac,rfl⟩:=hv7.shape;have Zp:=af (dC hv7);have gD:Hid (ae w4 (w7.alloc (.cells #[.int .i64 ax,.slice aa am ac] 78))):=((uh Wu).trans hw7).trans (ae.alloc _ _);clear hv7 hw7 HV5 ZU wI Wu;have kl6:=(uh gD).cell kl5;have kj6:=(uh gD).cell kj5;have kk6:=(uh gD).cell kk5;go_wp2_with fail;generalize Bh:w7.alloc (.cells #[.int .i64 ax,.slice aa am ac] 78)=W5 at *
      generalize sI:w7.heap.size=g7 at *
      clear Bh sI w7 kl5 kj5 kk5;have Nh:Hid (ae w W5):=(uh jy).trans (aam (uh gD) (uh jy).size);have SH:=af ((uh aeh).grow (uh gD));obtain ⟨f0,f1,_⟩:=(uh SH).cells;have y1:=b_ f0;have y2:=b_ f1;clear f0 f1;refine ah (bZ [(52,λv w=>aj P w v (t.cell k 0)),(54,λv w=>aj P w v (t.cell k 0*t.cell j (c+1))),(10,bg W5)]) (gL [(52,ag),(54,ag),(10,bL)]) 85 6 (by kernel_rfl) (by rfl) (by kernel_rfl) (aN (λ_ _ _=>aj.below) (aN (λ_ _ _=>aj.below) (aN (λ_ _ _=>bg.grow) cK))) ?_
      iterate 2 (refine aO λK hK=>?_;go_simp;refine hK _ ?_;clear hK K)
      refine ai ag 87 #[.pointer (some ⟨b,0,none⟩),.int .i64 k,.int .i64 0] (by rfl) (by rfl) ag.some (λw=>by go_simp) (λw1 hg hf=>(uh HCk w1 (ae.trans (uh gD) hg)).mono (by rintro e w' ⟨v',rfl,hv,hb⟩;exact ⟨_,rfl,hb,hv.aU,λt ht=>by cases ht;exact hv⟩)) ?_;rintro _ ⟨dx,da,dm,dc,rfl⟩
      (refine aO λK hK=>?_;go_simp;refine hK _ ?_;clear hK K)
      refine ai ag 58 #[.agg #[.int .i64 dx,.slice da dm dc],.agg #[.int .i64 fx,.slice fa fm fc]] (by rfl) (by rfl) ag.some (λw=>by go_simp) (λw1 hg hf=>(eD P K (t.cell k 0) (t.cell j (c+1)) _ _ w1 (λb' hb'=>hP b' (by have:=(ae.trans (uh Nh) hg).size;omega)) (hf 2 (by kernel_rfl) _ 52 rfl rfl) ((uh SH).val.below hg) (by omega) ((uh lC).cell k 0 hkl (by omega)) ((uh lC).cell j _ hlt (by omega))).mono (by rintro e w' ⟨v',rfl,hv,hb⟩;exact ⟨_,rfl,hb,hv.aU,λt ht=>by cases ht;exact hv⟩)) ?_;rintro _ ⟨bx,ba,bm,bc,rfl⟩;refine eO bL (by rfl) (by rfl) bL.some (λw1 hg hf=>⟨.pointer (some ⟨w1.heap.size,0,none⟩),w1.alloc (.cells #[.int .i64 0,.slice none 0 0] 78),by go_simp,ae.alloc _ _,⟨_,rfl⟩,λt ht=>by cases ht;exact bg.new hg⟩) ?_;rintro _ ⟨g10,rfl⟩;refine aF ?_;intro w6 rH aK;have V8:aj P w6 (.agg #[.int .i64 bx,.slice ba bm bc]) (t.cell k 0*t.cell j (c+1)):=aK 4 _ 54 (by decide) rfl rfl;have Xx:bg W5 (.pointer (some ⟨g10,0,none⟩)) w6:=aK 5 _ 10 (by decide) rfl rfl;clear aK y1 y2;have hge:=Xx.own.1;have hblk:=Xx.own.2;have s0:=(au hblk).1;have s1:=(au hblk).2.1;have s2:=(au hblk).2.2.1;have s3:=(au hblk).2.2.2;have Xr:=af (bH rH hge hblk V8).1;have lT:Hid (ae W5 ((w6.setCell ⟨g10,0,none⟩ (.int .i64 bx)).setCell ⟨g10,1,none⟩ (.slice ba bm bc))):=(bH rH hge hblk V8).2;have TH:=((uh Zp).grow (uh lT)).cells.1;have va1:=((uh Zp).grow (uh lT)).cells.2.1;have vb0:=(uh Xr).cells.1;have vb1:=(uh Xr).cells.2.1;clear V8 hge hblk rH Xx;go_wp2_with fail;generalize J2:(w6.setCell ⟨g10,0,none⟩ (.int .i64 bx)).setCell ⟨g10,1,none⟩ (.slice ba bm bc)=W6 at *
      have kl7:=(uh lT).cell kl6;have kj7:=(uh lT).cell kj6;have kk7:=(uh lT).cell kk6;have aej:=af ((uh Zp).grow (uh lT));have Dx:Hid (ae w W6):=(uh Nh).trans (uh lT);clear J2 s0 s1 s2 s3 w6 kl6 kj6 kk6 TH va1 vb0 vb1;refine (jg P (2*K) (t.cell k 0*t.cell j (c+1)) (t.cell j 0*t.cell k (c+1)) _ _ W6 (λb' hb'=>hP b' (by have:=(uh Dx).size;omega)) (uh Xr).val (uh aej).val (by omega) (by rw [Nat.two_mul];exact ((uh lC).cell k 0 hkl (by omega)).mul ((uh lC).cell j _ hlt (by omega))) (by rw [Nat.two_mul];exact ((uh lC).cell j 0 hlt (by omega)).mul ((uh lC).cell k _ hkl (by omega)))).mono ?_;rintro e w8 ⟨rfl,hw8⟩;have MH:Hid (Below w.heap.size w w8):=(uh Dx).trans hw8;have kl8:=(ae.cell hw8 kl7);have kj8:=(ae.cell hw8 kj7);have kk8:=(ae.cell hw8 kk7);clear hw8 kl7 kj7 kk7;obtain ⟨df,hdf⟩:∃ df,t.cell k 0*t.cell j (c+1) - t.cell j 0*t.cell k (c+1)=df:=⟨_,rfl⟩;rw [hdf];rcases (show df<0∨df=0∨0<df by omega) with hd|hd|hd
      ·have HF:=af ((uh HR).1.take (uh HUJ) (Pl.AR (.inl (by rw [hdf];exact hd))));rw [E_ hd];clear hd hdf HR;go_wp2_with fail;go_quiet (fail);go_wp2;go_roundg (gk - 1)
       case measure=>omega
       case rel=>exact ⟨j+1,j,by simp,rfl,by omega,uh HF,abb (uh MH) _⟩
      ·by_cases hnm:nj<nk
       ·have d2:decide (nj<nk)=true:=aaB hnm;have HF:=af ((uh HR).1.take (uh HUJ) (Pl.AR (.inr ⟨by rw [hdf];exact hd,by rw [uh HNJ,uh HNK];omega⟩)));rw [hd,show Int.sign 0=0 from rfl];clear hd hdf HR;go_wp2_with fail;go_quiet (fail);go_wp2;go_roundg (gk - 1)
        case measure=>omega
        case rel=>exact ⟨j+1,j,by simp,rfl,by omega,uh HF,abb (uh MH) _⟩
       ·have d2:decide (nj<nk)=false:=Z_ hnm;have HF:=af ((uh HR).1.stay (Pl.zk (.inr ⟨by rw [hdf];exact hd,by rw [uh HNJ,uh HNK];omega⟩)));rw [hd,show Int.sign 0=0 from rfl];clear hd hdf HR;go_wp2_with fail;go_quiet (fail);go_wp2;go_roundg (gk - 1)
        case measure=>omega
        case rel=>exact ⟨j+1,k,by simp,rfl,by omega,uh HF,abb (uh MH) _⟩
      ·have HF:=af ((uh HR).1.stay (Pl.zk (.inl (by rw [hdf];exact hd))));rw [J_ hd];clear hd hdf HR;go_wp2_with fail;go_quiet (fail);go_wp2;go_roundg (gk - 1)
       case measure=>omega
       case rel=>exact ⟨j+1,k,by simp,rfl,by omega,uh HF,abb (uh MH) _⟩
    ·have d1:decide (0<=sg)=true:=by
      rw [<-hsg];rcases (show 0<t.cell j (c+1)∨t.cell j (c+1)=0 by omega) with h|h
      ·rw [J_ h];decide
      ·rw [h];decide
     have HF:=af ((uh HR).1.skip (λhu=>hneg hu.2));clear M7 HR hsg;go_wp2;go_roundg (gk - 1)
     case measure=>omega
     case rel=>exact ⟨j+1,x,by simp,rfl,by omega,uh HF,uh jy⟩
  ·have hjn:j=t.lines.length:=by omega
   have HR2:Hid (Pl.qC t c t.lines.length x∧Below w.heap.size w wr):=by rw [<-hjn];exact uh HR
   clear M7 HR;go_wp2;go_ret;exact ⟨_,rfl,(uh HR2).1,(uh HR2).2⟩
end
def bz (P:Nat->Prop) (w:World) (g n:Nat) (f:Nat->Int):Prop:=∃ cs:Array Value,w.heap[g]?=some (.cells cs 78 (0,0))∧cs.size=2*n∧∀ i,i<n->∃ x a m c,cs[i*2]?=some (.int .i64 x)∧cs[i*2+1]?=some (.slice a m c)∧aj P w (.agg #[.int .i64 x,.slice a m c]) (f i)
theorem bz.grow {P:Nat->Prop} {w w':World} {g n:Nat} {f:Nat->Int} (h:bz P w g n f) (hb:ae w w'):bz P w' g n f:=by
 obtain ⟨cs,h1,h2,h4⟩:=h;refine ⟨cs,Below.same hb _ _ h1,h2,λi hi=>?_⟩;obtain ⟨x,a,m,c,d1,d2,d3⟩:=h4 i hi;exact ⟨x,a,m,c,d1,d2,d3.below hb⟩
theorem bz.congr {P:Nat->Prop} {w:World} {g n:Nat} {f f':Nat->Int} (h:bz P w g n f) (e:∀ i,i<n->f i=f' i):bz P w g n f':=by
 obtain ⟨cs,h1,h2,h4⟩:=h;refine ⟨cs,h1,h2,λi hi=>?_⟩;obtain ⟨x,a,m,c,d1,d2,d3⟩:=h4 i hi;exact ⟨x,a,m,c,d1,d2,by rw [<-e i hi];exact d3⟩
theorem bz.lt {P:Nat->Prop} {w:World} {g n:Nat} {f:Nat->Int} (h:bz P w g n f):g<w.heap.size:=by
 obtain ⟨cs,h1,_⟩:=h;exact z_ h1
theorem bz.block {P:Nat->Prop} {w:World} {g n:Nat} {f:Nat->Int} (h:bz P w g n f):∃ cs,w.heap[g]?=some (.cells cs 78 (0,0)):=by
 obtain ⟨cs,h1,_⟩:=h;exact ⟨cs,h1⟩
theorem bz.row {P:Nat->Prop} {w:World} {g n:Nat} {f:Nat->Int} (h:bz P w g n f) (hp:P g):aD P w (.slice (some ⟨g,0,none⟩) n n) ((List.range n).map f):=by
 obtain ⟨cs,hb,_,hc⟩:=h;refine ⟨some ⟨g,0,none⟩,n,by simp,by simp,λi hi=>?_⟩;have hi':i<n:=by simpa using hi
 obtain ⟨x,a,m,c,h1,h2,h3⟩:=hc i hi';exact ⟨g,0,x,a,m,c,rfl,by rw [cellsOf hb,M_];exact h1,by rw [cellsOf hb,M_];exact h2,by simpa using h3,hp,cs,hb⟩
theorem bz.get {P:Nat->Prop} {w:World} {g n:Nat} {f:Nat->Int} (h:bz P w g n f) {i:Nat} (hi:i<n):∃ x a m c,w.cell? ⟨g,i*2,none⟩=some (.int .i64 x)∧w.cell? ⟨g,i*2+1,none⟩=some (.slice a m c)∧aj P w (.agg #[.int .i64 x,.slice a m c]) (f i)∧w.frozen? ⟨g,i*2,none⟩=false∧w.frozen? ⟨g,i*2+1,none⟩=false:=by
 obtain ⟨cs,hb,_,hc⟩:=h;obtain ⟨x,a,m,c,h1,h2,h3⟩:=hc i hi;exact ⟨x,a,m,c,by rw [cellsOf hb];exact h1,by rw [cellsOf hb];exact h2,h3,aH hb _,aH hb _⟩
def qi (f:Nat->Int) (i:Nat) (v:Int) (k:Nat):Int:=if k=i then v else f k
theorem bz.set {P:Nat->Prop} {w:World} {g n:Nat} {f:Nat->Int} (h:bz P w g n f) {i:Nat} (hi:i<n) {x:Int} {a:Option Addr} {m c:Nat} {v:Int} (hv:aj P w (.agg #[.int .i64 x,.slice a m c]) v) :
  bz P ((w.setCell ⟨g,i*2,none⟩ (.int .i64 x)).setCell ⟨g,i*2+1,none⟩ (.slice a m c)) g n (qi f i v):=by
 obtain ⟨cs,h1,h2,h4⟩:=h;have b1:=j_ w g (i*2) _ _ (.int .i64 x) h1;have b2:=j_ _ g (i*2+1) _ _ (.slice a m c) b1;have hk:aA 3 w ((w.setCell ⟨g,i*2,none⟩ (.int .i64 x)).setCell ⟨g,i*2+1,none⟩ (.slice a m c)):=(aA.setCell h1 (by decide) _ _).trans (aA.setCell b1 (by decide) _ _);refine ⟨_,b2,by simp [h2],λj hj=>?_⟩;by_cases e:j=i
 ·subst e;refine ⟨x,a,m,c,?_,?_,?_⟩
  ·rw [K_ (by omega),P_ (by omega)]
  ·rw [P_ (by simp;omega)]
  ·unfold qi;rw [h_ rfl];exact hv.bW hk
 ·obtain ⟨x',a',m',c',d1,d2,d3⟩:=h4 j hj;refine ⟨x',a',m',c',?_,?_,?_⟩
  ·rw [K_ (by omega),K_ (by omega)];exact d1
  ·rw [K_ (by omega),K_ (by omega)];exact d2
  ·unfold qi;rw [g_ e];exact d3.bW hk
theorem bz.made {P:Nat->Prop} {w:World} {B g n:Nat} (h:w.ownsRow B 78 2 (.slice (some ⟨g,0,none⟩) n n) n (madeCells #[.int .i64 0,.slice none 0 0] (n*2)).toList):bz P w g n (λ_=>0):=by
 rcases h.2 with ⟨h1,_⟩|⟨g',cap,cur,he,hb,hgg,hle,hm,hcs,htk⟩
 ·simp at h1
 ·simp only [Value.slice.injEq,Option.some.injEq,Addr.mk.injEq,and_true,true_and] at he;obtain ⟨rfl,rfl⟩:=he;have hall:cur=madeCells #[.int .i64 0,.slice none 0 0] (n*2):=by
   have e1:cur.toList.take (n*2)=cur.toList:=aaE (by rw [Array.length_toList];omega);rw [e1] at htk;exact Array.toList_inj.1 htk
  refine ⟨cur,hgg,by omega,λi hi=>⟨0,none,0,0,?_,?_,.inl ⟨rfl,show (-4611686018427387904:Int)<0 by decide,show (0:Int)<4611686018427387904 by decide⟩⟩⟩
  ·rw [hall];unfold madeCells;rw [Array.getElem?_map,Array.getElem?_range,h_ (by omega)];simp
  ·rw [hall];unfold madeCells;rw [Array.getElem?_map,Array.getElem?_range,h_ (by omega)];simp [Nat.add_mod]
namespace Pl
theorem EO {M:Nat} (f:Nat->Int):∀ R,(∀ r,r<R->(f r).natAbs<=M)->(sm R f).natAbs<=R*M
 | 0,_=>by simp [sm]
 | R+1,h=>by
  have h1:=EO f R (λr hr=>h r (by omega));have h2:=h R (by omega);show (sm R f+f R).natAbs<=_;rw [Nat.succ_mul];omega
theorem Lt.sum {K R:Nat} {f:Nat->Int} (h:∀ r,r<R->Lt K (f r)) (hR:R<1073741824):Lt (K+1) (sm R f):=by
 rw [dZ];have hp:0<1073741824^K:=aa6 (by omega);have h1:=EO (M:=1073741824^K) f R (λr hr=>abv (dZ.1 (h r hr)));have h2:R*1073741824^K<1073741824*1073741824^K:=Nat.mul_lt_mul_of_pos_right hR hp;rw [abI,abL];omega
end Pl
end Go.Proofs.YtgaafamcajcifaaGreat
