/- Joined: XSim3 XTab10 XSim4 XRowIn. -/
import Derived.Test.YtfaljekgpnbmiaaJ16
set_option linter.unusedVariables false
set_option linter.unusedSimpArgs false
set_option maxRecDepth 100000
namespace Go.Proofs.Ytfaljekgpnbmiaa
open Go.RowKit Go.Sort
theorem Try.infoLine:(Try.prog.info? 149).map (fun i=>(i.zero,i.size,i.bytes))=some (some (.agg #[.int .i64 0,.slice none 0 0]),2,32):=by kernel_rfl
def lineCells (u:Nat→Value) (k:Nat):List Value:=(List.range k).flatMap fun i:Nat=>[Value.int .i64 (i:Int),u i]
theorem lineCells_succ (u:Nat→Value) (k:Nat):lineCells u (k+1)=lineCells u k++[.int .i64 k,u k]:=by simp [lineCells,List.range_succ]
theorem lineCells_get (u:Nat→Value):∀ k i,i<k→(lineCells u k)[i*2]?=some (.int .i64 i)∧(lineCells u k)[i*2+1]?=some (u i):=by
 have hl:∀ k,(lineCells u k).length=k*2:=by
  intro k
  induction k with
  | zero=>rfl
  | succ k ih=>rw [lineCells_succ,List.length_append,ih];simp;omega
 intro k
 induction k with
 | zero=>intro i hi;omega
 | succ k ih =>
  intro i hi
  rw [lineCells_succ]
  by_cases h:i<k
  ·rw [List.getElem?_append_left (by rw [hl];omega),List.getElem?_append_left (by rw [hl];omega)]
   exact ih i h
  ·have e:i=k:=by omega
   subst e
   rw [List.getElem?_append_right (by rw [hl];omega),List.getElem?_append_right (by rw [hl];omega),hl]
   simp
theorem range_row (l:List Int) (n:Nat) (h:l.length=n+1):(List.range (n+1)).map (fun k=>l.getD k 0)=l:=by
 apply List.ext_getElem
 ·simp [h]
 ·intro i h1 h2
  simp [List.getD_eq_getElem?_getD,List.getElem?_eq_getElem h2]
set_option maxHeartbeats 4000000 in
theorem New_any (sums:List (List Int)) (n:Nat) (vs:Value) (w:World) (h:RowsAt (fun _=>True) w vs sums) (hn0:0<n) (hn:n≤100) (hm0:0<sums.length) (hm:sums.length≤1000) (hlen:∀ l∈sums,l.length=n+1) (K:Nat) (hK:2*K+1≤1500000000000)
  (hall:∀ t',Fair (Pl.formS fun i k=>(sums.getD i []).getD k 0) n (Pl.allNames n sums.length) sums.length 0 t'→TabLt K t') (hT:Pl.Tied (Pl.formS fun i k=>(sums.getD i []).getD k 0) n sums.length) :
  Calls Try.prog 84 #[vs,.int .i64 n] w fun e w'=>∃ (b gl gc:Nat) (t':Pl.Tab),e=.returned (.pointer (some ⟨b,0,none⟩))∧w.heap.size≤b∧w.heap.size≤gl∧w.heap.size≤gc∧TabOwn (·≠gc) w' b gl gc t'∧Grows w w'∧Good (Pl.formS fun i k=>(sums.getD i []).getD k 0) n (Pl.allNames n sums.length) sums.length t':=by
 obtain ⟨i0,hi0,hz0,hz1,hz2⟩:=info_parts Try.infoLine
 obtain ⟨i1,hi1,hy0,hy1,hy2⟩:=info_parts Try.infoInt
 obtain ⟨gs,os,scap,scs,rfl,hscs,hrows⟩:=h.get hm0
 have HRW:=hide hrows
 clear h hrows
 go_enter Try.func84,Try.ntmps84
 go_wp2_with fail
 refine (Of_any (fun _=>True) 1 _ (fun _ _=>trivial) (by decide) (by decide)).mono ?_
 rintro e w1 ⟨v1,rfl,hv1,hw1⟩
 have ev:=hv1.fits (by decide)
 subst ev
 have HG1:Hid (Grows w w1):=hw1
 clear hv1 hw1
 go_wp2_with fail
 have HU:∃ u:Nat→Value,∀ i,(hi:i<sums.length)→w.cell? ⟨gs,os+i,none⟩=some (u i)∧RowAt (·<w.heap.size) w (u i) sums[i]:=by
  refine ⟨fun i=>if h:i<sums.length then (uh HRW i h).choose else undef,fun i hi=>?_⟩
  simp only [dif_pos hi]
  exact ⟨(uh HRW i hi).choose_spec.1,(uh HRW i hi).choose_spec.2.mono (fun b hb _=>hb)⟩
 obtain ⟨u,hu⟩:=HU
 have HU:=hide hu
 have HGt:Hid (Grows w (w1.alloc (.cells #[.slice none 0 0,.slice none 0 0,.int .i64 1,.slice none 0 0] 147))):=(uh HG1).trans (Grows.alloc _ _)
 have HBt:Hid ((w1.alloc (.cells #[.slice none 0 0,.slice none 0 0,.int .i64 1,.slice none 0 0] 147)).heap[w1.heap.size]?=some (.cells #[.slice none 0 0,.slice none 0 0,.int .i64 1,.slice none 0 0] 147)):=slot_one _ _
 have hwb:w.heap.size≤w1.heap.size:=(uh HG1).size
 have hbs:(w1.alloc (.cells #[.slice none 0 0,.slice none 0 0,.int .i64 1,.slice none 0 0] 147)).heap.size=w1.heap.size+1:=World.size_alloc _ _
 generalize hWt:w1.alloc (.cells #[.slice none 0 0,.slice none 0 0,.int .i64 1,.slice none 0 0] 147)=Wt at *
 generalize w1.heap.size=b at *
 clear hWt HRW hu HG1
 go_loopg [6] sums.length (fun k iv wr=>∃ (i:Nat) (vl:Value),iv=.int .i64 i∧i+k=sums.length∧Hid (wr.heap[b]?=some (.cells #[vl,.slice none 0 0,.int .i64 1,.slice none 0 0] 147 (0,0))∧wr.ownsRow (b+1) 149 2 vl i (lineCells u i)∧Grows w wr))
 case atStart=>exact ⟨0,.slice none 0 0,rfl,by omega,uh HBt,⟨rfl,.inl ⟨rfl,rfl⟩⟩,uh HGt⟩
 case round =>
  obtain ⟨i,vl,rfl,hik,HR⟩:=hrel
  by_cases hlt:i<sums.length
  ·have hsh:ShapeS vl:=by
    rcases (uh HR).2.1.2 with ⟨e,_⟩|⟨g,cap,cur,e,_⟩
    ·exact ⟨_,_,_,e⟩
    ·exact ⟨_,_,_,e⟩
   obtain ⟨la,ln,lc,rfl⟩:=hsh
   obtain ⟨kui,hui⟩:=uh HU i hlt
   obtain ⟨ua,un,uc,eu⟩:=hui.shapeS
   rw [eu] at kui
   have HEU:=hide eu
   have HOW:Hid (∀ o,(wr.drew.alloc o).ownsRow (b+1) 149 2 (.slice la ln lc) i (lineCells u i)):=fun o=>((uh HR).2.1.drew).alloc o
   have hc0:wr.cell? ⟨b,0,none⟩=some (.slice la ln lc):=by rw [cellsOf (uh HR).1];rfl
   have hf0:wr.frozen? ⟨b,0,none⟩=false:=freeOf (uh HR).1 0
   have hcu:=(uh HR).2.2.cell kui
   have hbw:b<wr.heap.size:=lt_of_block (uh HR).1
   have hgsw:gs<w.heap.size:=lt_of_block hscs
   have hne:∀ k,k≤b→some k≠(Value.slice la ln lc).ownBlock:=fun k hk e=>by have:=own_base (uh HR).2.1 k e.symm;omega
   have HK:Hid (∀ o w2,(wr.drew.alloc o).grownBy w2 (Value.slice la ln lc).ownBlock→(w2.cell? ⟨b,0,none⟩=some (.slice la ln lc)∧w2.cell? ⟨gs,os+i,none⟩=some (.slice ua un uc))∧w2.heap[b]?=wr.heap[b]?∧Grows w w2):=fun o w2 hg=>by
    have hG:Grows wr (wr.drew.alloc o):=Grows.trans (Grows.draw wr) (Grows.alloc _ o)
    have h1:∀ k,k≤b→w2.heap[k]?=wr.heap[k]?:=fun k hk=>(hg.block k (by have:=hG.size;omega) (hne k hk)).trans (Below.block hG k (by omega))
    refine ⟨⟨(World.cell?_of_block (h1 b (Nat.le_refl _))).trans hc0,(World.cell?_of_block (h1 gs (by omega))).trans hcu⟩,h1 b (Nat.le_refl _),?_⟩
    exact Below.grown (Grows.trans (uh HR).2.2 hG) hg (by have:=(Grows.trans (uh HR).2.2 hG).size;omega) (fun k hk=>by have:=own_base (uh HR).2.1 k hk;omega)
   clear eu kui hui
   go_wp2_with fail
   go_region_law ((refine step_append_lies _ (by rfl) _ _ 145 (by rfl) (b+1) 149 i0 (.agg #[.int .i64 0,.slice none 0 0]) 2 32 Try.underlying145 hi0 hz0 hz1 hz2 rfl (by decide) _ i (lineCells u i) (by rfl) (uh HOW _) ⟨_,0,none⟩ 1 1 [.int .i64 i,.slice ua un uc] (by rfl) rfl (fun j u hu=>World.news_of_block (heap_alloc_new _ _) j u hu) (by simp [Value.oneCell']) (by decide) (by unfold maxLen;omega) (by omega) (by simp;omega) _ rfl ?_;intro g cap w2 hown1 hgrow hat hlt2;have hf2:w2.frozen? ⟨b,0,none⟩=false:=freeOf ((uh HK _ _ hgrow).2.1.trans (uh HR).1) 0;have hc2:=(uh HK _ _ hgrow).1.1))
   all_goals
    have hk:=(uh HK _ _ hgrow)
    have hf2:w2.frozen? ⟨b,0,none⟩=false:=freeOf (hk.2.1.trans (uh HR).1) 0
    have hc2:=hk.1.1
    have HB2:Hid ((w2.setCell ⟨b,0,none⟩ (.slice (some ⟨g,0,none⟩) (i+1) cap)).heap[b]?=some (.cells #[.slice (some ⟨g,0,none⟩) (i+1) cap,.slice none 0 0,.int .i64 1,.slice none 0 0] 147 (0,0))):=heap_setCell_same w2 b 0 _ _ _ (hk.2.1.trans (uh HR).1)
    have HO2:Hid ((w2.setCell ⟨b,0,none⟩ (.slice (some ⟨g,0,none⟩) (i+1) cap)).ownsRow (b+1) 149 2 (.slice (some ⟨g,0,none⟩) (i+1) cap) (i+1) (lineCells u (i+1))):=by
     unfold Hid
     rw [lineCells_succ,uh HEU]
     exact ownsRow_setCell_below hown1 (by show b<b+1;omega) _
    have HG2:Hid (Grows w (w2.setCell ⟨b,0,none⟩ (.slice (some ⟨g,0,none⟩) (i+1) cap))):=Below.setCell (p:=⟨b,0,none⟩) hk.2.2 hwb _
    clear hown1 hgrow hat hlt2 hk HK HOW
    go_wp2
    go_roundg (gk - 1)
    case measure=>omega
    case rel=>exact ⟨i+1,_,by simp,by omega,uh HB2,uh HO2,uh HG2⟩
  ·have him:i=sums.length:=by omega
   subst him
   have HL:=hide (uh HR)
   clear HR
   go_wp2_with fail
   obtain ⟨gl,lcap,hsl,hgl,hgl2⟩:=(uh HL).2.1.form hm0
   subst hsl
   rename World=>W1
   have hb1:=(uh HL).1
   have hg1:gl<W1.heap.size:=hgl2
   go_loopg [7] n (fun k jv wr=>∃ (j:Nat) (vc:Value),jv=.int .i64 j∧j+k=n∧Hid (wr.heap[b]?=some (.cells #[.slice (some ⟨gl,0,none⟩) sums.length lcap,vc,.int .i64 1,.slice none 0 0] 147 (0,0))∧wr.heap[gl]?=W1.heap[gl]?∧wr.ownsRow W1.heap.size 3 1 vc j (((List.range j).map fun c:Nat=>-1 - (c:Int)).map intV)∧Grows w wr∧W1.heap.size≤wr.heap.size))
   case atStart=>exact ⟨0,.slice none 0 0,rfl,by omega,(uh HL).1,rfl,⟨rfl,.inl ⟨rfl,rfl⟩⟩,(uh HL).2.2,Nat.le_refl _⟩
   case round =>
    obtain ⟨j,vc,rfl,hjk,HC⟩:=hrel
    have hwW:=(uh HC).2.2.2.2
    have hbw:b<W1.heap.size:=by omega
    by_cases hjl:j<n
    ·have hsh:ShapeS vc:=by
      rcases (uh HC).2.2.1.2 with ⟨e,_⟩|⟨g,cap,cur,e,_⟩
      ·exact ⟨_,_,_,e⟩
      ·exact ⟨_,_,_,e⟩
     obtain ⟨la,ln,lc,rfl⟩:=hsh
     have hc1:wr.cell? ⟨b,1,none⟩=some (.slice la ln lc):=by rw [cellsOf (uh HC).1];rfl
     have hal:=(uh HC).2.2.1.alloc (.cells #[.int .i64 (-1 - (j:Int))] 3)
     go_wp2_with (at_builtin;refine wpList_append_lies _ rfl _ _ 24 rfl W1.heap.size 3 i1 (.int .i64 0) 1 8 Try.underlying24 hi1 hy0 hy1 hy2 rfl (by decide) _ j _ rfl hal ⟨_,0,none⟩ 1 1 [.int .i64 (-1 - (j:Int))] rfl rfl ?d1 (by simp [Value.oneCell']) (by decide) ?d2 ?d3 ?d4 _ rfl ?_)
     case d1=>exact fun j u hu=>World.news_of_block (heap_alloc_new _ _) j u hu
     case d2=>unfold maxLen;omega
     case d3=>omega
     case d4=>simp;omega
     ·intro g cap w2 hown1 hgrow hat hlt2
      have hkb:∀ k,k<W1.heap.size→w2.heap[k]?=wr.heap[k]?:=fun k hk=>by
       have hG:Grows wr (wr.alloc (.cells #[.int .i64 (-1 - (j:Int))] 3)):=Grows.alloc _ _
       refine (hgrow.block k (by have:=hG.size;omega) (fun e=>?_)).trans (Below.block hG k (by omega))
       have:=own_base (uh HC).2.2.1 k e.symm
       omega
      have hG2:Grows w w2:=Below.grown (Grows.trans (uh HC).2.2.2.1 (Grows.alloc wr _)) hgrow (by have:=(Grows.trans (uh HC).2.2.2.1 (Grows.alloc wr (.cells #[.int .i64 (-1 - (j:Int))] 3))).size;omega) (fun k hk=>by have:=own_base (uh HC).2.2.1 k hk;omega)
      have hb2:=(hkb b hbw).trans (uh HC).1
      have hf2:w2.frozen? ⟨b,1,none⟩=false:=freeOf hb2 1
      have hc2:w2.cell? ⟨b,1,none⟩=some (.slice la ln lc):=by rw [cellsOf hb2];rfl
      have HB2:Hid ((w2.setCell ⟨b,1,none⟩ (.slice (some ⟨g,0,none⟩) (j+1) cap)).heap[b]?=some (.cells #[.slice (some ⟨gl,0,none⟩) sums.length lcap,.slice (some ⟨g,0,none⟩) (j+1) cap,.int .i64 1,.slice none 0 0] 147 (0,0))):=heap_setCell_same w2 b 1 _ _ _ hb2
      have HO2:Hid ((w2.setCell ⟨b,1,none⟩ (.slice (some ⟨g,0,none⟩) (j+1) cap)).ownsRow W1.heap.size 3 1 (.slice (some ⟨g,0,none⟩) (j+1) cap) (j+1) (((List.range (j+1)).map fun c:Nat=>-1 - (c:Int)).map intV)):=by
       unfold Hid
       rw [List.range_succ,List.map_append,List.map_append,List.map_map]
       exact ownsRow_setCell_below (a:=⟨b,1,none⟩) hown1 (by show b<W1.heap.size;omega) _
      have HL2:Hid ((w2.setCell ⟨b,1,none⟩ (.slice (some ⟨g,0,none⟩) (j+1) cap)).heap[gl]?=W1.heap[gl]?):=by
       unfold Hid
       rw [Below.heap_setCell _ _ _ _ (show gl≠b by omega),hkb gl hg1]
       exact (uh HC).2.1
      have HG2:Hid (Grows w (w2.setCell ⟨b,1,none⟩ (.slice (some ⟨g,0,none⟩) (j+1) cap))∧W1.heap.size≤(w2.setCell ⟨b,1,none⟩ (.slice (some ⟨g,0,none⟩) (j+1) cap)).heap.size):=⟨Below.setCell (p:=⟨b,1,none⟩) hG2 hwb _,by simp;exact Nat.le_trans (Nat.le_trans hwW (by simp)) hgrow.size⟩
      clear hown1 hgrow hat hlt2 hkb hG2 hb2 hal
      go_wp2
      go_roundg (gk - 1)
      case measure=>omega
      case rel=>exact ⟨j+1,_,by simp,by omega,uh HB2,uh HL2,uh HO2,(uh HG2).1,(uh HG2).2⟩
    ·have hjn:j=n:=by omega
     subst hjn
     obtain ⟨gc,ccap,hsl,hgc,hgc2⟩:=(uh HC).2.2.1.form hn0
     subst hsl
     have HTO:Hid (TabOwn (·≠gc) wr b gl gc (Pl.startTab j sums.length fun i k=>(sums.getD i []).getD k 0)):=by
      have hm1:=(Pl.start_len j sums.length fun i k=>(sums.getD i []).getD k 0).1
      have hm2:=(Pl.start_len j sums.length fun i k=>(sums.getD i []).getD k 0).2
      rcases (uh HL).2.1.2 with ⟨e,_⟩|⟨g,cap,cur,e,_,hcur,hle,hmx,hsz,htk⟩
      ·cases e
      cases e
      rcases (uh HC).2.2.1.2 with ⟨e,_⟩|⟨g,cap,cur2,e,_,hcur2,hle2,hmx2,hsz2,htk2⟩
      ·cases e
      cases e
      refine ⟨⟨lcap,ccap,1,none,0,0,?_,.inl ⟨rfl,show (-4611686018427387904:Int)<1 by decide,show (1:Int)<4611686018427387904 by decide⟩,cur,(uh HC).2.1.trans hcur,hsz,by rw [hm1];exact hle,hmx,fun i hi=>?_⟩,⟨cur2,hcur2,fun i hi=>?_⟩,fun h=>h rfl⟩
      ·rw [hm1,hm2];exact (uh HC).1
      ·have hi':i<sums.length:=by rw [hm1] at hi;exact hi
       have hg:=lineCells_get u sums.length i hi'
       rw [←htk,List.getElem?_take_of_lt (by omega),List.getElem?_take_of_lt (by omega)] at hg
       refine ⟨u i,?_,by simpa using hg.2,?_⟩
       ·have:=hg.1
        simp only [Array.getElem?_toList] at this
        rw [this]
        simp [Pl.startTab]
       ·have hr:=((uh HU i hi').2.below (uh HC).2.2.2.1).mono (P':=(·≠gc)) (fun k _ hk e=>by omega)
        have e2:(Pl.startTab j sums.length fun i k=>(sums.getD i []).getD k 0).lines[i].2=sums[i]:=by
         have e3:sums.getD i []=sums[i]:=by rw [List.getD_eq_getElem?_getD,List.getElem?_eq_getElem hi'];rfl
         simp only [Pl.startTab,List.getElem_map,List.getElem_range,e3]
         exact range_row _ _ (hlen _ (List.getElem_mem hi'))
        rw [e2];exact hr
      ·have hi':i<j:=by rw [hm2] at hi;exact hi
       have h1:(((List.range j).map fun c:Nat=>-1 - (c:Int)).map intV)[i]?=some (.int .i64 (-1 - (i:Int))):=by simp [hi',intV]
       rw [←htk2,List.getElem?_take_of_lt (by omega)] at h1
       simp only [Array.getElem?_toList] at h1
       rw [h1]
       simp [Pl.startTab]
     have HGW:=hide (uh HC).2.2.2.1
     have hsz1:=hwW
     clear HC HL HBt HGt hb1
     go_wp2_with fail
     refine (leave_any (·≠gc) K b gl gc _ j sums.length _ sums.length _ wr (fun k hk e=>by omega) (uh HTO) ⟨Pl.start_ok _ _ _,Pl.start_names _ _ _,Pl.start_stat _ _ _,fun k hk=>by omega,(Pl.start_len _ _ _).1⟩ hn hm hall hK (fun i hi=>List.mem_append.2 (.inl (List.mem_map.2 ⟨i,List.mem_range.2 hi,rfl⟩))) hT).mono ?_
     rintro e w3 ⟨t',rfl,hO3,hT3,hG3⟩
     have HF:=hide (And.intro hO3 (And.intro hT3 hG3))
     clear hO3 hT3 hG3
     go_wp2
     go_ret
     refine ⟨b,gl,gc,t',rfl,hwb,by omega,by omega,(uh HF).1,?_,(uh HF).2.2⟩
     exact Below.trans (uh HGW) ((uh HF).2.1.below (fun k hk=>by rcases hk with h | h | h <;> omega) (uh HGW).size)
end Go.Proofs.Ytfaljekgpnbmiaa

namespace Go.Proofs.Ytfaljekgpnbmiaa.Pl
def UpZ (t:Tab) (c k:Nat):Prop:=0≤t.name k∧t.cell k (c+1)<0
def LeZ (t:Tab) (c r k:Nat):Prop:=t.cell r 0*(-t.cell k (c+1))≤t.cell k 0*(-t.cell r (c+1))∧(t.cell r 0*(-t.cell k (c+1))=t.cell k 0*(-t.cell r (c+1))→t.name r≤t.name k)
def BestZ (t:Tab) (c j:Nat) (x:Int):Prop:=(x=-1∧∀ k,k<j→¬ UpZ t c k)∨∃ k:Nat,k<j∧x=k∧UpZ t c k∧∀ k',k'<j→UpZ t c k'→LeZ t c k k'
theorem LeZ.refl (t:Tab) (c r:Nat):LeZ t c r r:=⟨Int.le_refl _,fun _=>Int.le_refl _⟩
theorem LeZ.trans {t:Tab} {c a b d:Nat} (ha:UpZ t c a) (hb:UpZ t c b) (hd:UpZ t c d) (h1:LeZ t c a b) (h2:LeZ t c b d):LeZ t c a d:=by
 have pa:0 < -t.cell a (c+1):=by have:=ha.2;omega
 have pb:0 < -t.cell b (c+1):=by have:=hb.2;omega
 have pd:0 < -t.cell d (c+1):=by have:=hd.2;omega
 unfold LeZ
 obtain ⟨h11,h12⟩:=h1
 obtain ⟨h21,h22⟩:=h2
 generalize -t.cell a (c+1)=A at *
 generalize -t.cell b (c+1)=B at *
 generalize -t.cell d (c+1)=D at *
 generalize t.cell a 0=x at *
 generalize t.cell b 0=y at *
 generalize t.cell d 0=z at *
 have k1:x*B*D≤y*A*D:=Int.mul_le_mul_of_nonneg_right h11 (by omega)
 have k2:y*D*A≤z*B*A:=Int.mul_le_mul_of_nonneg_right h21 (by omega)
 have e1:y*A*D=y*D*A:=Int.mul_right_comm y A D
 have e2:x*B*D=x*D*B:=Int.mul_right_comm x B D
 have e3:z*B*A=z*A*B:=Int.mul_right_comm z B A
 have k0:x*D*B≤z*A*B:=by rw [←e2,←e3];exact Int.le_trans k1 (by rw [e1];exact k2)
 refine ⟨Int.le_of_mul_le_mul_right k0 pb,fun e=>?_⟩
 have k3:x*D*B=z*A*B:=by rw [e]
 have k4:y*A*D≤x*B*D:=by rw [e1,e2,k3,←e3];exact k2
 have k5:z*B*A≤y*D*A:=by rw [e3,←k3,←e2,←e1];exact k1
 have f1:x*B=y*A:=Int.eq_of_mul_eq_mul_right (by omega) (Int.le_antisymm k1 k4)
 have f2:y*D=z*B:=Int.eq_of_mul_eq_mul_right (by omega) (Int.le_antisymm k2 k5)
 exact Int.le_trans (h12 f1) (h22 f2)
theorem BestZ.skip {t:Tab} {c j:Nat} {x:Int} (h:BestZ t c j x) (hn:¬ UpZ t c j):BestZ t c (j+1) x:=by
 rcases h with ⟨h1,h2⟩|⟨k,h1,h2,h3,h4⟩
 ·exact .inl ⟨h1,fun k hk=>by rcases (show k<j∨k=j by omega) with h | h;exact h2 k h;rw [h];exact hn⟩
 ·exact .inr ⟨k,by omega,h2,h3,fun k' hk' hu=>by rcases (show k'<j∨k'=j by omega) with h | h;exact h4 k' h hu;rw [h] at hu;exact absurd hu hn⟩
theorem BestZ.first {t:Tab} {c j:Nat} (h:BestZ t c j (-1)) (hu:UpZ t c j):BestZ t c (j+1) j:=by
 rcases h with ⟨_,h2⟩|⟨k,h1,h2,_⟩
 ·refine .inr ⟨j,by omega,rfl,hu,fun k' hk' hu'=>?_⟩
  rcases (show k'<j∨k'=j by omega) with h|h
  ·exact absurd hu' (h2 k' h)
  ·rw [h];exact LeZ.refl _ _ _
 ·omega
theorem BestZ.stay {t:Tab} {c j k:Nat} (h:BestZ t c j k) (hle:LeZ t c k j):BestZ t c (j+1) k:=by
 rcases h with ⟨h1,_⟩|⟨k2,h1,h2,h3,h4⟩
 ·omega
 ·have e:k2=k:=by omega
  subst e
  exact .inr ⟨k2,by omega,h2,h3,fun k' hk' hu=>by rcases (show k'<j∨k'=j by omega) with h | h;exact h4 k' h hu;rw [h];exact hle⟩
theorem BestZ.take {t:Tab} {c j k:Nat} (h:BestZ t c j k) (hu:UpZ t c j) (hle:LeZ t c j k):BestZ t c (j+1) j:=by
 rcases h with ⟨h1,_⟩|⟨k2,h1,h2,h3,h4⟩
 ·omega
 ·have e:k2=k:=by omega
  subst e
  refine .inr ⟨j,by omega,rfl,hu,fun k' hk' hu'=>?_⟩
  rcases (show k'<j∨k'=j by omega) with h|h
  ·exact LeZ.trans hu h3 hu' hle (h4 k' h hu')
  ·rw [h];exact LeZ.refl _ _ _
theorem leZ_of_sign {t:Tab} {c j k:Nat} (h:t.cell k 0*t.cell j (c+1) - t.cell j 0*t.cell k (c+1)<0∨(t.cell k 0*t.cell j (c+1) - t.cell j 0*t.cell k (c+1)=0∧t.name j≤t.name k)):LeZ t c j k:=by
 unfold LeZ
 rw [Int.mul_neg,Int.mul_neg]
 omega
theorem leZ_of_sign2 {t:Tab} {c j k:Nat} (h:0<t.cell k 0*t.cell j (c+1) - t.cell j 0*t.cell k (c+1)∨(t.cell k 0*t.cell j (c+1) - t.cell j 0*t.cell k (c+1)=0∧t.name k≤t.name j)):LeZ t c k j:=by
 unfold LeZ
 rw [Int.mul_neg,Int.mul_neg]
 omega
end Go.Proofs.Ytfaljekgpnbmiaa.Pl

namespace Go.Proofs.Ytfaljekgpnbmiaa
open Go.RowKit Go.Sort
section
attribute [local go_sem] valUpon
set_option maxHeartbeats 20000000 in
theorem firstToZero_any (P:Nat→Prop) (K b:Nat) (t:Pl.Tab) (w:World) (hP:∀ b,w.heap.size≤b→P b) (h:TabAt P w b t) (hfit:TabFit t) (hlt:TabLt K t) (hK:2*K+1≤1500000000000) {c:Nat} (hc:c<t.cols.length) :
  Calls Try.prog 157 #[.pointer (some ⟨b,0,none⟩),.int .i64 c] w fun e w'=>∃ x:Int,e=.returned (.int .i64 x)∧Pl.BestZ t c t.lines.length x∧Below w.heap.size w w':=by
 have HT:=hide h
 have HFT:=hide hfit
 have HLT:=hide hlt
 have hn1:=hfit.lines
 have hn2:=hfit.cols
 have hwc:IntKind.i64.wrap ((c:Int)+1)=(c:Int)+1:=by rw [IntKind.wrap_i64];omega
 clear h hfit hlt
 go_enter Try.func157,Try.ntmps157
 go_wp2_with fail
 go_loopg [5,6] t.lines.length (fun k bv jv wr=>∃ (j:Nat) (x:Int),jv=.int .i64 j∧bv=.int .i64 x∧j+k=t.lines.length∧Hid (Pl.BestZ t c j x∧Below w.heap.size w wr))
 case atStart=>exact ⟨0,-1,rfl,rfl,by omega,.inl ⟨rfl,fun k hk=>by omega⟩,Below.refl _ _⟩
 case round =>
  obtain ⟨j,x,rfl,rfl,hjk,HR⟩:=hrel
  obtain ⟨vl,kl,adl,capl,rfl,hli⟩:=((uh HT).below (uh HR).2).lines
  by_cases hlt:j<t.lines.length
  ·obtain ⟨gl,ol,uj,rfl,kj,_⟩:=hli j hlt
   rw [name_get t hlt] at kj
   have HC:=hide (cell_in P b t wr ((uh HT).below (uh HR).2) hn1 (uh HFT).le hlt (j:=c+1) (by rw [(uh HFT).row hlt];omega))
   have e1:((c+1:Nat):Int)=(c:Int)+1:=by omega
   rw [e1] at HC
   go_wp2_with fail
   refine (uh HC).mono ?_
   rintro e w3 ⟨v3,rfl,hv3,hw3⟩
   obtain ⟨fx,fa,fm,fc,rfl⟩:=hv3.shape
   have HVf:=hide (var_new hv3)
   have HG4:Hid (Grows wr (w3.alloc (.cells #[.int .i64 fx,.slice fa fm fc] 82))):=Grows.trans hw3 (Grows.alloc _ _)
   have kl4:=(uh HG4).cell kl
   have kj4:=(uh HG4).cell kj
   clear hv3 hw3 kl kj HC
   obtain ⟨nj,hnj⟩:∃ nj,t.name j=nj:=⟨_,rfl⟩
   have HNJ:Hid (t.name j=nj):=hnj
   rw [hnj] at kj4
   clear hnj
   obtain ⟨f0,f1,f2,f3⟩:=(uh HVf).cells
   have HB4:Hid (Below w.heap.size w (w3.alloc (.cells #[.int .i64 fx,.slice fa fm fc] 82))):=(uh HR).2.trans (Below.mono (uh HG4) (uh HR).2.size)
   by_cases h0:nj<0
   ·have d0:decide (nj<0)=true:=decide_eq_true h0
    have HF:=hide ((uh HR).1.skip (fun hu=>by have:=hu.1;rw [uh HNJ] at this;omega))
    clear hli HR
    go_wp2
    go_roundg (gk - 1)
    case measure=>omega
    case rel=>exact ⟨j+1,x,by simp,rfl,by omega,uh HF,uh HB4⟩
   ·have d0:decide (nj<0)=false:=decide_eq_false h0
    go_wp2_with fail
    refine (Sign_any P _ _ _ (uh HVf).val).mono ?_
    rintro e w4 ⟨rfl,hw4⟩
    have HG44:Hid (Grows (w3.alloc (.cells #[.int .i64 fx,.slice fa fm fc] 82)) w4):=hw4
    have HVf4:=hide ((uh HVf).grow hw4)
    have HB5:Hid (Below w.heap.size w w4):=(uh HB4).trans (Below.mono hw4 (uh HB4).size)
    have kl5:=hw4.cell (block_lt_of_cell kl4) |>.trans kl4
    have kj5:=hw4.cell (block_lt_of_cell kj4) |>.trans kj4
    clear hw4 kl4 kj4 f0 f1 f2 f3
    obtain ⟨sg,hsg⟩:∃ sg,Int.sign (t.cell j (c+1))=sg:=⟨_,rfl⟩
    rw [hsg]
    by_cases hneg:t.cell j (c+1)<0
    ·have hu:Pl.UpZ t c j:=⟨by rw [uh HNJ];omega,hneg⟩
     have d1:decide (0≤sg)=false:=by rw [←hsg,Int.sign_eq_neg_one_of_neg hneg];decide
     rcases (uh HR).1 with ⟨rfl,hno⟩|⟨k,hk1,rfl,hk3,hk4⟩
     ·have HF:=hide ((uh HR).1.first hu)
      clear hli hno hsg hu hneg
      go_wp2_with fail
      go_quiet (fail)
      go_wp2
      go_roundg (gk - 1)
      case measure=>omega
      case rel=>exact ⟨j+1,j,by simp,rfl,by omega,uh HF,below_drewN (uh HB5) _⟩
     ·have hkl:k<t.lines.length:=by omega
      obtain ⟨gl',ol',uk,e2,kk,_⟩:=hli k hkl
      cases e2
      rw [name_get t hkl] at kk
      have kk5:=(Grows.trans (uh HG4) (uh HG44)).cell kk
      obtain ⟨nk,hnk⟩:∃ nk,t.name k=nk:=⟨_,rfl⟩
      have HNK:Hid (t.name k=nk):=hnk
      rw [hnk] at kk5
      have hkn:¬ ((k:Int)<0):=by omega
      have HCj:=hide (fun w1 (h:Grows w4 w1)=>cell_in P b t w1 ((uh HT).below ((uh HB5).trans (Below.mono h (uh HB5).size))) hn1 (uh HFT).le hlt (j:=0) (by rw [(uh HFT).row hlt];omega))
      have HCk:=hide (fun w1 (h:Grows w4 w1)=>cell_in P b t w1 ((uh HT).below ((uh HB5).trans (Below.mono h (uh HB5).size))) hn1 (uh HFT).le hkl (j:=0) (by rw [(uh HFT).row hkl];omega))
      have HCkc:=hide (fun w1 (h:Grows w4 w1)=>cell_in P b t w1 ((uh HT).below ((uh HB5).trans (Below.mono h (uh HB5).size))) hn1 (uh HFT).le hkl (j:=c+1) (by rw [(uh HFT).row hkl];omega))
      rw [e1] at HCkc
      clear hnk kk hli hsg e1
      have HUJ:=hide hu
      have HNG:=hide hneg
      clear hu hneg hk3 hk4
      go_wp2_with fail
      refine (uh HCj w4 (Grows.refl _)).mono ?_
      rintro e w5 ⟨v5,rfl,hv5,hw5⟩
      have HV5:=hide hv5
      have HG45:Hid (Grows w4 w5):=hw5
      clear hv5 hw5
      go_wp2_with fail
      refine (uh HCkc w5 (uh HG45)).mono ?_
      rintro e w6 ⟨v6,rfl,hv6,hw6⟩
      have HV55:=hide ((uh HV5).below hw6)
      have HV6:=hide hv6
      have HG46:Hid (Grows w4 w6):=(uh HG45).trans hw6
      clear hv6 hw6 HG45
      go_wp2_with fail
      refine (Mul_any P K (t.cell j 0) (t.cell k (c+1)) _ _ w6 (fun b' hb'=>hP b' (by have:=(uh HB5).size;have:=(uh HG46).size;omega)) (uh HV55) (uh HV6) (by omega) ((uh HLT).cell j 0 hlt (by omega)) ((uh HLT).cell k _ hkl (by omega))).mono ?_
      rintro e w7 ⟨v7,rfl,hv7,hw7⟩
      obtain ⟨ax,aa,am,ac,rfl⟩:=hv7.shape
      have HVa:=hide (var_new hv7)
      have HG5:Hid (Grows w4 (w7.alloc (.cells #[.int .i64 ax,.slice aa am ac] 82))):=((uh HG46).trans hw7).trans (Grows.alloc _ _)
      clear hv7 hw7 HV5 HV55 HV6 HG46
      have kl6:=(uh HG5).cell kl5
      have kj6:=(uh HG5).cell kj5
      have kk6:=(uh HG5).cell kk5
      go_wp2_with fail
      generalize hW5:w7.alloc (.cells #[.int .i64 ax,.slice aa am ac] 82)=W5 at *
      generalize hg7:w7.heap.size=g7 at *
      clear hW5 hg7 w7 kl5 kj5 kk5
      have HG05:Hid (Grows w W5):=(uh HB5).trans (Below.mono (uh HG5) (uh HB5).size)
      have HVf5:=hide ((uh HVf4).grow (uh HG5))
      obtain ⟨f0,f1,_⟩:=(uh HVf5).cells
      have y1:=cell_regrown f0
      have y2:=cell_regrown f1
      clear f0 f1
      refine wp_region_grown (phiL [(52,fun v w=>WhAt P w v (t.cell k 0)),(54,fun v w=>WhAt P w v (t.cell k 0*t.cell j (c+1))),(10,FreshV W5)]) (gL [(52,ShapeI),(54,ShapeI),(10,ShapeP)]) 85 6 (by kernel_rfl) (by rfl) (by kernel_rfl) (phi_c (fun _ _ _=>WhAt.below) (phi_c (fun _ _ _=>WhAt.below) (phi_c (fun _ _ _=>FreshV.grow) phi_n))) ?_
      iterate 2 (refine lex_s fun K hK=>?_;go_simp;refine hK _ ?_;clear hK K)
      refine lex_call ShapeI 153 #[.pointer (some ⟨b,0,none⟩),.int .i64 k,.int .i64 0] (by rfl) (by rfl) ShapeI.some (fun w=>by go_simp) (fun w1 hg hf=>(uh HCk w1 (Grows.trans (uh HG5) hg)).mono (by rintro e w' ⟨v',rfl,hv,hb⟩;exact ⟨_,rfl,hb,hv.shapeI,fun t ht=>by cases ht;exact hv⟩)) ?_
      rintro _ ⟨dx,da,dm,dc,rfl⟩
      (refine lex_s fun K hK=>?_;go_simp;refine hK _ ?_;clear hK K)
      refine lex_call ShapeI 93 #[.agg #[.int .i64 dx,.slice da dm dc],.agg #[.int .i64 fx,.slice fa fm fc]] (by rfl) (by rfl) ShapeI.some (fun w=>by go_simp) (fun w1 hg hf=>(Mul_any P K (t.cell k 0) (t.cell j (c+1)) _ _ w1 (fun b' hb'=>hP b' (by have:=(Grows.trans (uh HG05) hg).size;omega)) (hf 2 (by kernel_rfl) _ 52 rfl rfl) ((uh HVf5).val.below hg) (by omega) ((uh HLT).cell k 0 hkl (by omega)) ((uh HLT).cell j _ hlt (by omega))).mono (by rintro e w' ⟨v',rfl,hv,hb⟩;exact ⟨_,rfl,hb,hv.shapeI,fun t ht=>by cases ht;exact hv⟩)) ?_
      rintro _ ⟨bx,ba,bm,bc,rfl⟩
      refine lex_grow ShapeP (by rfl) (by rfl) ShapeP.some (fun w1 hg hf=>⟨.pointer (some ⟨w1.heap.size,0,none⟩),w1.alloc (.cells #[.int .i64 0,.slice none 0 0] 82),by go_simp,Grows.alloc _ _,⟨_,rfl⟩,fun t ht=>by cases ht;exact FreshV.new hg⟩) ?_
      rintro _ ⟨g10,rfl⟩
      refine lex_last ?_
      intro w6 hg6 hphi
      have q54:WhAt P w6 (.agg #[.int .i64 bx,.slice ba bm bc]) (t.cell k 0*t.cell j (c+1)):=hphi 4 _ 54 (by decide) rfl rfl
      have q10:FreshV W5 (.pointer (some ⟨g10,0,none⟩)) w6:=hphi 5 _ 10 (by decide) rfl rfl
      clear hphi y1 y2
      have hge:=q10.own.1
      have hblk:=q10.own.2
      have s0:=(int_cells hblk).1
      have s1:=(int_cells hblk).2.1
      have s2:=(int_cells hblk).2.2.1
      have s3:=(int_cells hblk).2.2.2
      have HVb:=hide (store_new hg6 hge hblk q54).1
      have HG6:Hid (Grows W5 ((w6.setCell ⟨g10,0,none⟩ (.int .i64 bx)).setCell ⟨g10,1,none⟩ (.slice ba bm bc))):=(store_new hg6 hge hblk q54).2
      have va0:=((uh HVa).grow (uh HG6)).cells.1
      have va1:=((uh HVa).grow (uh HG6)).cells.2.1
      have vb0:=(uh HVb).cells.1
      have vb1:=(uh HVb).cells.2.1
      clear q54 hge hblk hg6 q10
      go_wp2_with fail
      generalize hW6:(w6.setCell ⟨g10,0,none⟩ (.int .i64 bx)).setCell ⟨g10,1,none⟩ (.slice ba bm bc)=W6 at *
      have kl7:=(uh HG6).cell kl6
      have kj7:=(uh HG6).cell kj6
      have kk7:=(uh HG6).cell kk6
      have HVa6:=hide ((uh HVa).grow (uh HG6))
      have HG06:Hid (Grows w W6):=(uh HG05).trans (uh HG6)
      clear hW6 s0 s1 s2 s3 w6 kl6 kj6 kk6 va0 va1 vb0 vb1
      refine (Compare_any P (2*K) (t.cell k 0*t.cell j (c+1)) (t.cell j 0*t.cell k (c+1)) _ _ W6 (fun b' hb'=>hP b' (by have:=(uh HG06).size;omega)) (uh HVb).val (uh HVa6).val (by omega) (by rw [Nat.two_mul];exact ((uh HLT).cell k 0 hkl (by omega)).mul ((uh HLT).cell j _ hlt (by omega))) (by rw [Nat.two_mul];exact ((uh HLT).cell j 0 hlt (by omega)).mul ((uh HLT).cell k _ hkl (by omega)))).mono ?_
      rintro e w8 ⟨rfl,hw8⟩
      have HB8:Hid (Below w.heap.size w w8):=(uh HG06).trans hw8
      have kl8:=(Grows.cell hw8 kl7)
      have kj8:=(Grows.cell hw8 kj7)
      have kk8:=(Grows.cell hw8 kk7)
      clear hw8 kl7 kj7 kk7
      obtain ⟨df,hdf⟩:∃ df,t.cell k 0*t.cell j (c+1) - t.cell j 0*t.cell k (c+1)=df:=⟨_,rfl⟩
      rw [hdf]
      rcases (show df<0∨df=0∨0<df by omega) with hd|hd|hd
      ·have HF:=hide ((uh HR).1.take (uh HUJ) (Pl.leZ_of_sign (.inl (by rw [hdf];exact hd))))
       rw [Int.sign_eq_neg_one_of_neg hd]
       clear hd hdf HR
       go_wp2_with fail
       go_quiet (fail)
       go_wp2
       go_roundg (gk - 1)
       case measure=>omega
       case rel=>exact ⟨j+1,j,by simp,rfl,by omega,uh HF,below_drewN (uh HB8) _⟩
      ·by_cases hnm:nj<nk
       ·have d2:decide (nj<nk)=true:=decide_eq_true hnm
        have HF:=hide ((uh HR).1.take (uh HUJ) (Pl.leZ_of_sign (.inr ⟨by rw [hdf];exact hd,by rw [uh HNJ,uh HNK];omega⟩)))
        rw [hd,show Int.sign 0=0 from rfl]
        clear hd hdf HR
        go_wp2_with fail
        go_quiet (fail)
        go_wp2
        go_roundg (gk - 1)
        case measure=>omega
        case rel=>exact ⟨j+1,j,by simp,rfl,by omega,uh HF,below_drewN (uh HB8) _⟩
       ·have d2:decide (nj<nk)=false:=decide_eq_false hnm
        have HF:=hide ((uh HR).1.stay (Pl.leZ_of_sign2 (.inr ⟨by rw [hdf];exact hd,by rw [uh HNJ,uh HNK];omega⟩)))
        rw [hd,show Int.sign 0=0 from rfl]
        clear hd hdf HR
        go_wp2_with fail
        go_quiet (fail)
        go_wp2
        go_roundg (gk - 1)
        case measure=>omega
        case rel=>exact ⟨j+1,k,by simp,rfl,by omega,uh HF,below_drewN (uh HB8) _⟩
      ·have HF:=hide ((uh HR).1.stay (Pl.leZ_of_sign2 (.inl (by rw [hdf];exact hd))))
       rw [Int.sign_eq_one_of_pos hd]
       clear hd hdf HR
       go_wp2_with fail
       go_quiet (fail)
       go_wp2
       go_roundg (gk - 1)
       case measure=>omega
       case rel=>exact ⟨j+1,k,by simp,rfl,by omega,uh HF,below_drewN (uh HB8) _⟩
    ·have d1:decide (0≤sg)=true:=by
      rw [←hsg]
      rcases (show 0<t.cell j (c+1)∨t.cell j (c+1)=0 by omega) with h|h
      ·rw [Int.sign_eq_one_of_pos h];decide
      ·rw [h];decide
     have HF:=hide ((uh HR).1.skip (fun hu=>hneg hu.2))
     clear hli HR hsg
     go_wp2
     go_roundg (gk - 1)
     case measure=>omega
     case rel=>exact ⟨j+1,x,by simp,rfl,by omega,uh HF,uh HB5⟩
  ·have hjn:j=t.lines.length:=by omega
   have HR2:Hid (Pl.BestZ t c t.lines.length x∧Below w.heap.size w wr):=by rw [←hjn];exact uh HR
   clear hli HR
   go_wp2
   go_ret
   exact ⟨_,rfl,(uh HR2).1,(uh HR2).2⟩
end
def RowIn (P:Nat→Prop) (w:World) (g n:Nat) (f:Nat→Int):Prop:=∃ cs:Array Value,w.heap[g]?=some (.cells cs 82 (0,0))∧cs.size=2*n∧∀ i,i<n→∃ x a m c,cs[i*2]?=some (.int .i64 x)∧cs[i*2+1]?=some (.slice a m c)∧WhAt P w (.agg #[.int .i64 x,.slice a m c]) (f i)
theorem RowIn.grow {P:Nat→Prop} {w w':World} {g n:Nat} {f:Nat→Int} (h:RowIn P w g n f) (hb:Grows w w'):RowIn P w' g n f:=by
 obtain ⟨cs,h1,h2,h4⟩:=h
 refine ⟨cs,Below.same hb _ _ h1,h2,fun i hi=>?_⟩
 obtain ⟨x,a,m,c,d1,d2,d3⟩:=h4 i hi
 exact ⟨x,a,m,c,d1,d2,d3.below hb⟩
theorem RowIn.congr {P:Nat→Prop} {w:World} {g n:Nat} {f f':Nat→Int} (h:RowIn P w g n f) (e:∀ i,i<n→f i=f' i):RowIn P w g n f':=by
 obtain ⟨cs,h1,h2,h4⟩:=h
 refine ⟨cs,h1,h2,fun i hi=>?_⟩
 obtain ⟨x,a,m,c,d1,d2,d3⟩:=h4 i hi
 exact ⟨x,a,m,c,d1,d2,by rw [←e i hi];exact d3⟩
theorem RowIn.lt {P:Nat→Prop} {w:World} {g n:Nat} {f:Nat→Int} (h:RowIn P w g n f):g<w.heap.size:=by
 obtain ⟨cs,h1,_⟩:=h
 exact lt_of_block h1
theorem RowIn.block {P:Nat→Prop} {w:World} {g n:Nat} {f:Nat→Int} (h:RowIn P w g n f):∃ cs,w.heap[g]?=some (.cells cs 82 (0,0)):=by
 obtain ⟨cs,h1,_⟩:=h
 exact ⟨cs,h1⟩
theorem RowIn.row {P:Nat→Prop} {w:World} {g n:Nat} {f:Nat→Int} (h:RowIn P w g n f) (hp:P g):RowAt P w (.slice (some ⟨g,0,none⟩) n n) ((List.range n).map f):=by
 obtain ⟨cs,hb,_,hc⟩:=h
 refine ⟨some ⟨g,0,none⟩,n,by simp,by simp,fun i hi=>?_⟩
 have hi':i<n:=by simpa using hi
 obtain ⟨x,a,m,c,h1,h2,h3⟩:=hc i hi'
 exact ⟨g,0,x,a,m,c,rfl,by rw [cellsOf hb,Nat.zero_add];exact h1,by rw [cellsOf hb,Nat.zero_add];exact h2,by simpa using h3,hp,cs,hb⟩
theorem RowIn.get {P:Nat→Prop} {w:World} {g n:Nat} {f:Nat→Int} (h:RowIn P w g n f) {i:Nat} (hi:i<n):∃ x a m c,w.cell? ⟨g,i*2,none⟩=some (.int .i64 x)∧w.cell? ⟨g,i*2+1,none⟩=some (.slice a m c)∧WhAt P w (.agg #[.int .i64 x,.slice a m c]) (f i)∧w.frozen? ⟨g,i*2,none⟩=false∧w.frozen? ⟨g,i*2+1,none⟩=false:=by
 obtain ⟨cs,hb,_,hc⟩:=h
 obtain ⟨x,a,m,c,h1,h2,h3⟩:=hc i hi
 exact ⟨x,a,m,c,by rw [cellsOf hb];exact h1,by rw [cellsOf hb];exact h2,h3,freeOf hb _,freeOf hb _⟩
def updF (f:Nat→Int) (i:Nat) (v:Int) (k:Nat):Int:=if k=i then v else f k
theorem RowIn.set {P:Nat→Prop} {w:World} {g n:Nat} {f:Nat→Int} (h:RowIn P w g n f) {i:Nat} (hi:i<n) {x:Int} {a:Option Addr} {m c:Nat} {v:Int} (hv:WhAt P w (.agg #[.int .i64 x,.slice a m c]) v) :
  RowIn P ((w.setCell ⟨g,i*2,none⟩ (.int .i64 x)).setCell ⟨g,i*2+1,none⟩ (.slice a m c)) g n (updF f i v):=by
 obtain ⟨cs,h1,h2,h4⟩:=h
 have b1:=heap_setCell_same w g (i*2) _ _ (.int .i64 x) h1
 have b2:=heap_setCell_same _ g (i*2+1) _ _ (.slice a m c) b1
 have hk:KeepT 3 w ((w.setCell ⟨g,i*2,none⟩ (.int .i64 x)).setCell ⟨g,i*2+1,none⟩ (.slice a m c)):=(KeepT.setCell h1 (by decide) _ _).trans (KeepT.setCell b1 (by decide) _ _)
 refine ⟨_,b2,by simp [h2],fun j hj=>?_⟩
 by_cases e:j=i
 ·subst e
  refine ⟨x,a,m,c,?_,?_,?_⟩
  ·rw [Array.getElem?_setIfInBounds_ne (by omega),Array.getElem?_setIfInBounds_self_of_lt (by omega)]
  ·rw [Array.getElem?_setIfInBounds_self_of_lt (by simp;omega)]
  ·unfold updF;rw [if_pos rfl];exact hv.keep hk
 ·obtain ⟨x',a',m',c',d1,d2,d3⟩:=h4 j hj
  refine ⟨x',a',m',c',?_,?_,?_⟩
  ·rw [Array.getElem?_setIfInBounds_ne (by omega),Array.getElem?_setIfInBounds_ne (by omega)];exact d1
  ·rw [Array.getElem?_setIfInBounds_ne (by omega),Array.getElem?_setIfInBounds_ne (by omega)];exact d2
  ·unfold updF;rw [if_neg e];exact d3.keep hk
theorem RowIn.made {P:Nat→Prop} {w:World} {B g n:Nat} (h:w.ownsRow B 82 2 (.slice (some ⟨g,0,none⟩) n n) n (madeCells #[.int .i64 0,.slice none 0 0] (n*2)).toList):RowIn P w g n (fun _=>0):=by
 rcases h.2 with ⟨h1,_⟩|⟨g',cap,cur,he,hb,hgg,hle,hm,hcs,htk⟩
 ·simp at h1
 ·simp only [Value.slice.injEq,Option.some.injEq,Addr.mk.injEq,and_true,true_and] at he
  obtain ⟨rfl,rfl⟩:=he
  have hall:cur=madeCells #[.int .i64 0,.slice none 0 0] (n*2):=by
   have e1:cur.toList.take (n*2)=cur.toList:=List.take_of_length_le (by rw [Array.length_toList];omega)
   rw [e1] at htk
   exact Array.toList_inj.1 htk
  refine ⟨cur,hgg,by omega,fun i hi=>⟨0,none,0,0,?_,?_,.inl ⟨rfl,show (-4611686018427387904:Int)<0 by decide,show (0:Int)<4611686018427387904 by decide⟩⟩⟩
  ·rw [hall]
   unfold madeCells
   rw [Array.getElem?_map,Array.getElem?_range,if_pos (by omega)]
   simp
  ·rw [hall]
   unfold madeCells
   rw [Array.getElem?_map,Array.getElem?_range,if_pos (by omega)]
   simp [Nat.add_mod]
namespace Pl
theorem sm_natAbs {M:Nat} (f:Nat→Int):∀ R,(∀ r,r<R→(f r).natAbs≤M)→(sm R f).natAbs≤R*M
 | 0,_=>by simp [sm]
 | R+1,h=>by
  have h1:=sm_natAbs f R (fun r hr=>h r (by omega))
  have h2:=h R (by omega)
  show (sm R f+f R).natAbs≤_
  rw [Nat.succ_mul]
  omega
theorem Lt.sum {K R:Nat} {f:Nat→Int} (h:∀ r,r<R→Lt K (f r)) (hR:R<1073741824):Lt (K+1) (sm R f):=by
 rw [lt_nat]
 have hp:0<1073741824^K:=Nat.pow_pos (by omega)
 have h1:=sm_natAbs (M:=1073741824^K) f R (fun r hr=>Nat.le_of_lt (lt_nat.1 (h r hr)))
 have h2:R*1073741824^K<1073741824*1073741824^K:=Nat.mul_lt_mul_of_pos_right hR hp
 rw [Nat.pow_succ,Nat.mul_comm]
 omega
end Pl
end Go.Proofs.Ytfaljekgpnbmiaa
